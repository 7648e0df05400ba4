import PyProof.Rows.All
import Wide.All
import OpenK.AllK
import Wide.FinOn
import Lean
import PyProof.EqAt
import PyProof.EqKinds
import PyProof.TupleCall
import PySem.Challenge.RW_zonewalk_k51_rooms_of_roads
set_option compiler.extract_closed false
set_option bootstrap.genMatcherCode false
set_option linter.all false
def Â:=@List.getElem?_eq_getElem
def Á:=@List.length_map
def Æ:=@Bool.and_eq_true
def Í:=@List.getElem?_eq_some_iff
def Ë:=@PySem.Heap.get?_push_of_some
def Ä:=@PySem.Heap.lt_size
def Ó:=@List.getD_eq_getElem?_getD
def Ê:=@List.getElem?_map
def Î:=@List.mem_cons_of_mem
def Ç:=@Nat.le_refl
def Õ:=@Option.map_eq_some_iff
def Ï:=@List.mem_cons_self
def Ö:=@List.length_append
def Ú:=@List.getElem?_set_ne
def Ù:=@Nat.lt_of_lt_of_le
def Ø:=@List.length_cons
def Ô:=@List.getElem_mem
def Û:=@List.mem_singleton
def Ð:=@List.mem_cons
def Ñ:=@List.map_cons
def à:=@PySem.Heap.get?_push_size
def ã:=@List.mem_append_right
def ä:=@List.contains_iff_mem
def å:=@List.getElem?_set_self
def Ò:=@Nat.ne_of_lt
def Ý:=@Option.some.inj
def É:=@Ne.symm
def á:=@List.map_append
def Þ:=@Nat.le_trans
def ß:=@List.mem_map
def æ:=@List.all_eq_true
def î:=@PySem.Heap.get?_update_other
def â:=@Nat.lt_irrefl
def ï:=@List.mem_of_getElem?
def ú:=@List.getElem?_append_left
def ì:=@List.not_mem_nil
def é:=@List.mem_append
def ê:=@PySem.W.kia_one
def ò:=@Int.toNat_natCast
def Đ:=@List.findIdx?_eq_some_iff_getElem
def Ċ:=@PyProof.Rows.callWith_type1
def ó:=@List.length_take
def ô:=@List.size_toArray
def Ā:=@PySem.Heap.get?_update_self
def õ:=@List.length_nil
def û:=@Bool.false_ne_true
def ā:=@Bool.false_eq_true
def ö:=@List.lookup_cons
def Ă:=@Bool.or_eq_false_iff
def ċ:=@Int.fmod_nonneg_of_pos
def ă:=@PySem.mem_of_lookup
def Č:=@List.getElem?_eq_none
def í:=@Nat.zero_le
def Ą:=@List.append_nil
def đ:=@PyProof.Rows.boot_list
def Ġ:=@Array.getElem?_eq_some_iff
def ü:=@List.mem_range
def ý:=@PySem.Heap.size_push
def ġ:=@List.drop_eq_getElem_cons
def Ģ:=@Array.getElem?_eq_getElem
def Ē:=@List.mem_append_left
def ē:=@PySem.W.hideAll_get
def Ĕ:=@List.mem_map_of_mem
def ĕ:=@List.length_flatten
def ķ:=@PyProof.Rows.boot_isinstance
def Ė:=@Int.fmod_lt_of_pos
def ģ:=@List.length_replicate
def Ĥ:=@List.length_singleton
def ĸ:=@List.getElem?_append_right
def Ĺ:=@PySem.F.excBase_ValueError
def ė:=@List.length_range
def ĺ:=@PySem.F.plain_extend_loop
def Ę:=@List.getElem_inj
def ę:=@Nat.lt_succ_self
def Ļ:=@Option.isSome_iff_exists
def ļ:=@PySem.F.slot_str_getitem
def ą:=@List.map_map
def ŗ:=@List.getElem?_cons_succ
def ĥ:=@PySem.W.of_hideAll
def Ħ:=@List.mem_filterMap
def Ě:=@Bool.or_eq_true
def ħ:=@List.getElem?_drop
def Ĩ:=@Option.map_some
def ĩ:=@List.map_replicate
def Ć:=@Nat.le_succ
def Ľ:=@List.sum_replicate_nat
def Ī:=@Nat.lt_succ_of_lt
def ľ:=@List.getElem?_zipWith
def Ŀ:=@PySem.Around.under_plainId
def ī:=@Option.bind_some
def Ĭ:=@List.getElem_map
def ĭ:=@List.length_drop
def Į:=@List.mem_filter
def į:=@List.nodup_cons
def ŀ:=@List.length_set
def Ř:=@List.mem_of_find?_eq_some
def ě:=@Nat.ne_of_gt
def ř:=@List.getElem?_take_of_lt
def Ł:=@PySem.Obj.data_mapFields
def ł:=@List.contains_cons
def Ń:=@List.zip_cons_cons
def Ĝ:=@PySem.F.called_set
def İ:=@List.map_nil
def Ś:=@List.take_append_getElem
def ś:=@List.getElem?_replicate
def Ŝ:=@PySem.F.plainAttrs_list
def ŝ:=@PyProof.Rows.F.plain_set_update_loop
def Ş:=@Option.some.injEq
def ń:=@List.append_assoc
def ş:=@PyProof.V.reads_dictOf
def Š:=@PySem.SeqAt.notIn_list_reads
def š:=@List.take_of_length_le
def Ņ:=@Nat.le_add_right
def ņ:=@Option.getD_some
def Ţ:=@PySem.Obj.isFreed_of_fields
def ı:=@Nat.lt_trans
def ţ:=@PySem.W.hideAll_none
def Ť:=@List.nil_append
def Ň:=@PySem.F.slot_zip_next
def ň:=@Bool.eq_iff_iff
def ť:=@List.mem_iff_getElem
def Ŧ:=@PySem.W.plainGet_of
def ŧ:=@List.replicate_succ
def Ũ:=@PySem.SeqAt.in_list_reads
def ũ:=@PySem.Calls.spliced_cons
def Ū:=@Option.isSome_some
def ū:=@PySem.W.callWith_K
def Ŭ:=@PySem.Code.quiet_builtin
def ŭ:=@PySem.F.called_enumerate
def Ů:=@List.findIdx?_cons
def ŉ:=@PySem.Paired.length
def ů:=@PySem.W.kitx_list
def Ű:=@PySem.W.kitx_dict
def ű:=@PySem.Calls.spliced_nil
def Ų:=@PySem.PassesOwn.leaving
def Ŋ:=@Nat.le_of_lt
def ų:=@List.any_eq_true
def ŋ:=@PySem.Txt.slice_le
def Ŵ:=@List.take_length
def Ü:=@decide_eq_false
def è:=@PySem.wpAny_mono
def þ:=@PySem.wpAny_truthy_bool
def Ĳ:=@PySem.wpAny_execs_nil
def À:=@PySem.wpAny_bind
def ç:=@PySem.wpAny_holding
def ĳ:=@PySem.wpAny_standAt
def č:=@PySem.wpAny_passesOwn
def Å:=@PySem.wpAny_pure
def ĝ:=@PySem.wpAny_pyIter_list
def ć:=@PySem.sizeLine_eq
def Ď:=@PySem.wpAny_Call_Name_kw
def Ğ:=@PySem.typeIs_str
def È:=@if_true
def Ĵ:=@PySem.call_meets
def ÿ:=@PySem.codeAny_mono
def Ì:=@decide_eq_true
def Ō:=@PySem.wpAny_setField
def ð:=@PySem.wpAny_field
def Ĉ:=@PySem.wpAny_call
def ĵ:=@PySem.codeAny_call_builtin
def ď:=@PySem.codeAny_builtin
def ō:=@PySem.wpAny_attempt
def ĉ:=@PySem.wpAny_of_eq
def Ŏ:=@PySem.wpAny_loadPart_at
def ë:=@decide_eq_true_eq
def ŵ:=@PySem.wpAny_nextOf_list_end
def Ŷ:=@PySem.wpAny_pyIter_enum
def ñ:=@or_false
def ŷ:=@PySem.wpAny_pyIter_zip
def ŏ:=@PySem.pushCells_keeps
def ğ:=@of_decide_eq_true
def Ã:=@if_false
def Ő:=@PySem.wpAny_loadPart'
def Ÿ:=@PySem.wpAny_nextOf_list_item
def ő:=@PySem.wpAny_isInstance
def Œ:=@PySem.wpAny_updateSeq
def œ:=@PySem.wpAny_specialOf
def Ŕ:=@beq_self_eq_true
def ø:=@PySem.wpAny_ite_false
def ŕ:=@PySem.wpAny_getItem_str_slice
def Ŗ:=@PySem.post_val_or_str
def Ķ:=@beq_eq_false_iff_ne
def ù:=@eq_false
noncomputable section
abbrev k7:=List (PySem.Str×List Int)
abbrev k8:=List (Nat×Nat)
abbrev k9:=List PySem.Value
abbrev kA:=Option Int
abbrev kC:=List PySem.Expr
abbrev kD:=List PySem.Stmt
abbrev kE:=List PySem.Str
abbrev kF:=List Int
abbrev kG:=List Nat
local macro_rules|`(tactic|ext)=>`(tactic|kernel_rfl)
local macro_rules|`(tactic|erw [$rs,*] $[$l:location]?)=>do let ts:=rs.getElems.map fun r=>(⟨r.raw[1]⟩:Lean.TSyntax `term);`(tactic|simp only [$[$ts:term],*] $[$l]?)
abbrev k6:=PySem.W.Frag
set_option Elab.async false
set_option linter.all false
set_option maxRecDepth 100000
set_option genSizeOf false
set_option genInjectivity false
local macro_rules
  |`(tactic| omega)=>`(tactic| first
    |assumption
    |exact Þ (by assumption) (by decide +kernel)
    |exact Ù (by assumption) (by decide +kernel)
    |exact Nat.lt_of_le_of_lt (by assumption) (by decide +kernel)
    |exact Nat.succ_pos _
    |exact Ù (by assumption) (Nat.succ_le_succ (Þ (by assumption) (by decide +kernel)))
    |exact Nat.succ_le_succ (Þ (by assumption) (by decide +kernel))
    |exact ı (by assumption) (by assumption)
    |exact Ù (by assumption) (by assumption)
    |exact Int.lt_trans (b:=0) (by decide +kernel) (by assumption)
    |exact Int.lt_of_lt_of_le (b:=0) (by decide +kernel) (by assumption)
    |exact Int.lt_of_le_of_lt (by assumption) (by decide +kernel)
    |exact Int.le_trans (by assumption) (by decide +kernel)
    |exact Int.le_of_lt (by assumption)
    |exact Int.ne_of_gt (by assumption)
    |lia
    |fail)
namespace L2
open PySem PySem.Spec PyProof.Rows
abbrev Key:=Sum Int Str
noncomputable def Gb:Key->Value->Bool
 |.inl k,v=>Value.isInt k v|.inr x,v=>Value.isStrOf x v
def keyH(w:World):Key->Int
 |.inl k=>hashInt k|.inr x=>hashStr w x
theorem FA:∀{k} {v},Gb k v=true->(∃i t,k=Sum.inl i/\v=Value.int i t)\/(∃x t,k=Sum.inr x/\v=Value.str x t)
 |.inl i,v,h=>by
  obtain⟨t,e⟩:=Value.isInt_shape h
  grind
 |.inr x,v,h=>by
  obtain⟨t,e⟩:=Value.isStrOf_shape h
  grind
theorem Ź(i)(t):Gb (.inl i) (.int i t)=true:=by simp[Gb,Value.isInt]
theorem ź(x)(t):Gb (.inr x) (.str x t)=true:=by simp[Gb,Value.isStrOf]
theorem Ż(a b:Int):decide ((Sum.inl a:Key)=Sum.inl b)=(a == b):=by
 grind
theorem ż(a b:Str):decide ((Sum.inr a:Key)=Sum.inr b)=decide (a=b):=by
 simp
theorem Ž(a:Int)(b:Str):decide (Sum.inl a=Sum.inr b)=false:=Ü (λq=>nomatch q)
theorem ž(a:Str)(b:Int):decide (Sum.inr a=Sum.inl b)=false:=Ü (λq=>nomatch q)
def DA(prog:Program)(w:World):PySem.KeyKind prog w Key where
 is:=Gb
 hash:=keyH w
 inj:=λv a b ha hb=>by
  rcases FA ha with ⟨i,t,rfl,rfl⟩|⟨x,t,rfl,rfl⟩
  .rcases FA hb with ⟨j,u,rfl,e⟩|⟨y,u,rfl,e⟩
   .injection e with e1 _;rw[e1]
   .exact nomatch e
  .rcases FA hb with ⟨j,u,rfl,e⟩|⟨y,u,rfl,e⟩
   .exact nomatch e
   .injection e with e1 _;rw[e1]
 byValue:=λk v h=>by
  rcases FA h with ⟨i,t,rfl,rfl⟩|⟨x,t,rfl,rfl⟩<;>rfl
 pyHash:=λhv h=>by
  rcases FA hv with ⟨i,t,rfl,rfl⟩|⟨x,t,rfl,rfl⟩
  .exact wpAny_pyHash_int h
  .exact wpAny_pyHash_str h
 eqBool:=λhu hv h=>by
  rcases FA hu with ⟨i,t,rfl,rfl⟩|⟨x,t,rfl,rfl⟩
  .rcases FA hv with ⟨j,u,rfl,rfl⟩|⟨y,u,rfl,rfl⟩
   .rw[Ż]at h;exact wpAny_eqBool_int h
   .rw[Ž]at h;exact SeqAt.EqAt.int_str i t y u _ _ _ _ h
  .rcases FA hv with ⟨j,u,rfl,rfl⟩|⟨y,u,rfl,rfl⟩
   .rw[ž]at h;exact SeqAt.EqAt.str_int x t j u _ _ _ _ h
   .rw[ż]at h;exact wpAny_eqBool_str h
 «strs»:=λk x t v h=>by
  rcases FA h with ⟨i,u,rfl,e⟩|⟨y,u,rfl,e⟩
  .exact nomatch e
  .injection e with e1 _
   subst e1;cases v<;>rfl
theorem ſ(prog)(w)(i)(t):(DA prog w).is (.inl i) (.int i t)=true:=Ź i t
theorem Α(prog)(w)(x)(t):(DA prog w).is (.inr x) (.str x t)=true:=ź x t
set_option genInjectivity true in
inductive V where
 |non|bl (b:Bool)|int (i:Int)|str (x:Str)|byt (b:Array UInt8)|flt (b:UInt64)|ref (a:Addr)|ty (n:String)
 deriving DecidableEq
abbrev kK:=List V
def A8:V->Value->Prop
 |.non,u=>u=Value.none|.bl b,u=>u=Value.bool b|.int i,u=>∃t,u=Value.int i t|.str x,u=>∃t,u=Value.str x t|.byt b,u=>∃t,u=Value.bytes b t|.flt b,u=>∃t,u=Value.float b t|.ref a,u=>u=Value.ref a|.ty n,u=>u=Value.type n
abbrev A9:kK->k9->Prop:=Paired A8
theorem A9.length(r:A9 xs us):xs.length=us.length:=ŉ r
theorem A9.get:∀{xs} {us} {i:Nat} {x},A9 xs us->xs[i]?=some x->∃u,us[i]?=some u/\A8 x u
 |_,_,_,_,.nil,e=>by simp at e|_,_,0,_,.cons r _,e=>by grind|_,_,i+1,x,.cons _ t,e=>by
  obtain⟨u,h1,h2⟩:=A9.get t (by simpa using e)
  grind
theorem A9.set(r:A8 x u):∀{xs} {us} (i),A9 xs us->A9 (xs.set i x) (us.set i u)
 |_,_,_,.nil=>.nil|_,_,0,.cons _ t=>.cons r t|_,_,i+1,.cons q t=>.cons q (A9.set r i t)
theorem A9.append:∀{xs ys} {us ws},A9 xs us->A9 ys ws->A9 (xs++ys) (us++ws)
 |_,_,_,_,.nil,s=>s|_,_,_,_,.cons r t,s=>.cons r (A9.append t s)
theorem A9.take:∀{xs} {us} (n),A9 xs us->A9 (xs.take n) (us.take n)
 |_,_,0,_=>.nil|_,_,_+1,.nil=>.nil|_,_,n+1,.cons r t=>.cons r (A9.take n t)
theorem A9.drop:∀{xs} {us} (n),A9 xs us->A9 (xs.drop n) (us.drop n)
 |_,_,0,r=>r|_,_,_+1,.nil=>.nil|_,_,n+1,.cons _ t=>A9.drop n t
theorem A9.none_of:∀{i:Nat},A9 xs us->xs[i]?=none->us[i]?=none:=λr e=>by
 have h1:=r.length
 grind
def Dn:Option V->Option Value->Prop
 |some v,some u=>A8 v u|none,none=>True|_,_=>False
def KV{κ:Type}:List (κ×V)->List (κ×Value)->Prop:=Paired λ(p:κ×V) (q:κ×Value)=>p.1=q.1/\A8 p.2 q.2
def kV:Key->V
 |.inl i=>.int i|.inr x=>.str x
set_option genInjectivity true in
inductive HO where
 |lst (xs:List V)
 |tup (xs:List V)
 |dK (kvs:List (Key×V))|dT (kvs:List (List Key×V))
 |set (S:Int->Bool) (n:Nat)
 |ins (C dx:Addr) (fs:List (Str×V))
 |own (x:Addr)
 |xd (fs:List (Str×V))
 |met (f x:Addr)
 |rng (lo hi:Int)
 |frz (o:Obj) (u:HO)
 |tbl (ps:Array Value)
 |ext (φ:Heap->Prop)
abbrev Hp:=Addr->Option HO
noncomputable def upd(H:Hp)(a:Addr)(o:HO):Hp:=λb=>if b=a then some o else H b
theorem Be{H:Hp}{a:Addr}{o:HO}:upd H a o a=some o:=by unfold upd;simp
theorem Ah(h:b≠a):upd H a o b=H b:=by unfold upd;rw[if_neg h]
theorem ne_of{H:Hp}   (h:H a=some o)(h':H b=some u)(d:o≠u):a≠b:=by
 grind
theorem Bs{H:Hp}(h:H a=some o)(h':H b=none):a≠b:=by
 grind
section
variable (P:Program)(w:World)
def CP(H:Hp)(h:Heap)(a:Addr):HO->Prop
 |.lst xs=>xs.length<=sizeLine/\∃(its:k9) (n:Nat),A9 xs its/\h.get? a=some { cls:=.type "list",data:=.seq its.toArray n }|.tup xs=>xs.length<=sizeLine/\∃its:k9,A9 xs its/\IsTup h a its.toArray|.dK kvs=>kvs.length<=sizeLine/\(a == sysModules)=false/\∃vs,KV kvs vs/\h.DictOf (DA P w) a vs|.dT kvs=>kvs.length<=sizeLine/\(a == sysModules)=false/\∃xs:List (List Key×Addr×Value),
   Paired (λ(p:List Key×V) (q:List Key×Addr×Value)=>p.1=q.1/\H q.2.1=some (.tup (p.1.map kV))/\A8 p.2 q.2.2) kvs xs /\
   ∃o es ep,h.get? a=some o/\o.ExactDict/\o.data=.dict es ep/\es.toList=xs.map (entryOfKey (tupleKind (DA P w)))/\(xs.map (·.1)).Nodup
 |.set S n=>h.SetOf (intKind P w) a S n|.ins C dx fs=>H dx=some (.own a)/\fs.length<=1000/\dx≠a/\h.get? a=some (W.instObj C dx) /\
   ∃mA,h.Ns1 dx mA/\(∀f,Dn (fs.lookup f) (mA f))/\PySem.Within mA (fs.map (·.1))
 |.own _=>∃o,h.get? a=some o|.xd fs=>∃mA,h.Ns1 a mA/\∀f,Dn (fs.lookup f) (mA f)|.rng lo hi=>∃t u v,h.get? a=some { cls:=.type "range",data:=.fields #[.int lo t,.int hi u,.int 1 v] }|.frz o u=>h.get? a=some o/\CP H h a u|.tbl ps=>h.get? a=some { cls:=.none,data:=.fields ps }|.met f x=>h.get? a=some (W.methodObj (.ref f) (.ref x))|.ext φ=>φ h/\(∃o,h.get? a=some o)/\∀h1 h2:Heap,φ h1->(∀o,h1.get? a=some o->h2.get? a=some o)->φ h2
def HOk(H:Hp)(h:Heap):Prop:=∀a o,H a=some o->CP P w H h a o
end
section
variable {P:Program}{w:World}{H H':Hp}{h h':Heap}{a:Addr}{o:HO}
theorem CP.lt(x:CP P w H h a o):a<h.objs.size:=by
 cases o with
 |lst xs=>obtain⟨_,_,_,_,e⟩:=x;exact Ä e
 |tup xs=>obtain⟨_,_,_,p⟩:=x;exact p.lt
 |dK kvs=>obtain⟨_,_,_,_,o,_,_,e,_⟩:=x;exact Ä e
 |dT kvs=>obtain⟨_,_,_,_,o,_,_,e,_⟩:=x;exact Ä e
 |set S n=>obtain⟨o,_,_,_,e,_⟩:=x;exact Ä e
 |ins C dx fs=>obtain⟨_,_,_,e,_⟩:=x;exact Ä e
 |own y=>obtain⟨_,e⟩:=x;exact Ä e
 |xd fs=>obtain⟨_,⟨_,_,_,e,_⟩,_⟩:=x;exact Ä e
 |rng lo hi=>obtain⟨_,_,_,e⟩:=x;exact Ä e
 |frz ob u=>obtain⟨e,_⟩:=x;exact Ä e
 |tbl ps=>exact Ä (x)|met f y=>exact Ä (x)|ext φ=>obtain⟨_,⟨_,e⟩,_⟩:=x;exact Ä e
theorem Paired.mapP:∀{l₁} {l₂},Paired F l₁ l₂->(∀a b,F a b->G a b)->Paired G l₁ l₂
 |_,_,.nil,_=>.nil|_,_,.cons r t,f=>.cons (f _ _ r) (Paired.mapP t f)
theorem CP.stay(x:CP P w H h a o)(k:∀b u,(b=a\/H b=some (.own a))->h.get? b=some u->h'.get? b=some u)
  (ho:∀b,H b=some (.own a)->H' b=some (.own a)) (ht:∀b xs,H b=some (.tup xs)->H' b=some (.tup xs)):CP P w H' h' a o:=by
 induction o with
 |lst xs=>obtain⟨z,its,n,r,e⟩:=x;exact⟨z,its,n,r,k _ _ (.inl rfl) e⟩
 |tup xs=>obtain⟨z,its,r,ob,e,c⟩:=x;exact⟨z,its,r,ob,k _ _ (.inl rfl) e,c⟩
 |dK kvs=>obtain⟨z,y,vs,r,ob,es,ep,e,c⟩:=x;exact⟨z,y,vs,r,ob,es,ep,k _ _ (.inl rfl) e,c⟩
 |dT kvs=>obtain⟨z,y,xs,r,ob,es,ep,e,c⟩:=x;exact⟨z,y,xs,Paired.mapP r λp q z=>⟨z.1,ht _ _ z.2.1,z.2.2⟩,ob,es,ep,k _ _ (.inl rfl) e,c⟩
 |set S n=>obtain⟨ob,es,ep,t,e,c⟩:=x;exact⟨ob,es,ep,t,k _ _ (.inl rfl) e,c⟩
 |ins C dx fs=>obtain⟨d,z,ne,e,mA,⟨od,es,ep,e2,c⟩,r⟩:=x;exact⟨ho _ d,z,ne,k _ _ (.inl rfl) e,mA,⟨od,es,ep,k _ _ (.inr d) e2,c⟩,r⟩
 |own y=>obtain⟨ob,e⟩:=x;exact⟨ob,k _ _ (.inl rfl) e⟩
 |xd fs=>obtain⟨mA,⟨od,es,ep,e,c⟩,r⟩:=x;exact⟨mA,⟨od,es,ep,k _ _ (.inl rfl) e,c⟩,r⟩
 |rng lo hi=>obtain⟨t,u,v,e⟩:=x;exact⟨t,u,v,k _ _ (.inl rfl) e⟩
 |frz ob u ih=>obtain⟨e,q⟩:=x;exact⟨k _ _ (.inl rfl) e,ih q⟩
 |tbl ps=>have e :=x;exact k a _ (.inl rfl) e|met f y=>have e :=x;exact k a _ (.inl rfl) e|ext φ=>obtain⟨p,⟨o,e⟩,st⟩:=x;exact⟨st _ _ p λo q=>k _ _ (.inl rfl) q,⟨o,k _ _ (.inl rfl) e⟩,st⟩
theorem HOk.lt(x:HOk P w H h)(e:H a=some o):a<h.objs.size:=(x a o e).lt
theorem HOk.fresh(x:HOk P w H h)(e:h.objs.size<=a):H a=none:=by
 cases q:H a with
 |none=>rfl|some u=>exact absurd (Ù (x.lt q) e) (â _)
theorem HOk.kept(x:HOk P w H h)(k:∀b u,h.get? b=some u->h'.get? b=some u):HOk P w H h':=λa o e=>
 (x a o e).stay (λb u _ q=>k b u q) (λ_ q=>q) λ_ _ q=>q
theorem HOk.laid(x:HOk P w H h)(k:∀b u,h.get? b=some u->h'.get? b=some u)(hp:h.objs.size<=a)(new:CP P w (upd H a o) h' a o):HOk P w (upd H a o) h':=λb u e=>by
 have hn:=x.fresh hp
 by_cases hb:b=a
 .subst hb;rw[Be]at e;grind
 .rw[Ah hb]at e;exact(x b u e).stay (λc v _ q=>k c v q) (λc q=>by rw[Ah (Bs q hn)];exact q) λc xs q=>by rw[Ah (Bs q hn)];exact q
end
def Rd(H:Hp)(a:Addr)(u:HO):Prop:=H a=some u\/∃o,H a=some (.frz o u)
theorem Rd.ok(r:Rd H a u)(x:HOk P w H h):CP P w H h a u:=by
 rcases r with r|⟨o,r⟩
 .exact x a u r
 .obtain⟨_,q⟩:=x a _ r;exact q
def Kh:Option HO->Prop
 |some (.lst _)=>True|some (.dK _)=>True|some (.dT _)=>True|some (.set _ _)=>True|some (.ins _ _ _)=>True|some (.ext _)=>True|_=>False
section
variable {P:Program}{w:World}{H:Hp}{h h':Heap}{x e:Addr}{o':HO}
theorem HOk.write(ok:HOk P w H h)(mu:Kh (H x))(he:e=x\/H e=some (.own x))(k:∀b u,b≠e->h.get? b=some u->h'.get? b=some u)(heo:∃u,h'.get? e=some u)
  (new:CP P w (upd H x o') h' x o'):HOk P w (upd H x o') h':=λb u q=>by
 have nown:∀c y,H c=some (.own y)->c≠x:=λc y r z=>by subst z;rw[r]at mu;exact mu
 have ntup:∀c xs,H c=some (.tup xs)->c≠x:=λc xs r z=>by subst z;rw[r]at mu;exact mu
 by_cases hb:b=x
 .subst hb;rw[Be]at q;cases q;exact new
 .rw[Ah hb]at q
  by_cases hbe:b=e
  .have q':H b=some (.own x):=by
    grind
   rw[q]at q';cases q';obtain⟨v,hv⟩:=heo;exact⟨v,by rw[hbe];exact hv⟩
  .refine(ok b u q).stay (λc v hc r=>k c v ?_ r) (λc r=>by rw[Ah (nown c b r)];exact r) λc xs r=>by rw[Ah (ntup c xs r)];exact r
   grind
end
structure Un(fs ex:List Addr)(H H':Hp)(h h':Heap):Prop where
 keep:∀b o,h.get? b=some o->H b=none->b∉fs->b∉ex->h'.get? b=some o
 slot:∀b o,h.get? b=some o->H b=none->b∈fs->b∉ex->∃sl,h'.get? b=some { o with slots:=sl }
 free:∀b o,h.get? b=some o->H b=none->b∉ex->H' b=none
 there:∀b o,h.get? b=some o->b∉ex->∃o',h'.get? b=some o'
 tups:∀b xs,H b=some (.tup xs)->H' b=some (.tup xs)
 frzs:∀b o u,H b=some (.frz o u)->H' b=some (.frz o u)
 tbls:∀b ps,H b=some (.tbl ps)->∃more,H' b=some (.tbl (ps++more))
section
variable {fs fs' ex ex':List Addr}{H H1 H2:Hp}{h h1 h2 h':Heap}{a x e:Addr}{o:HO}
theorem Un.any(u:Un fs ex H H1 h h1)(q:h.get? b=some ob)(n:H b=none)(hx:b∉ex):∃sl,h1.get? b=some { ob with slots:=sl}:=by
 by_cases hb:b∈fs
 .exact u.slot b ob q n hb hx
 .exact⟨ob.slots,u.keep b ob q n hb hx⟩
theorem Un.kept(k:∀b u,h.get? b=some u->h'.get? b=some u):Un fs ex H H h h':=
 ⟨λb ob q _ _ _=>k b ob q,λb ob q _ _ _=>⟨ob.slots,k b ob q⟩,λ_ _ _ n _=>n,λb ob q _=>⟨ob,k b ob q⟩,λ_ _ q=>q,λ_ _ _ q=>q,λ_ ps q=>⟨#[],by rw[q];simp⟩⟩
theorem Un.refl:Un fs ex H H h h:=Un.kept λ_ _ q=>q
theorem Un.laid(k:∀b u,h.get? b=some u->h'.get? b=some u)(hp:h.objs.size<=a)(hn:H a=none):Un fs ex H (upd H a o) h h' where
 keep:=λb u q _ _ _=>k b u q
 slot:=λb u q _ _ _=>⟨u.slots,k b u q⟩
 free:=λb u q n _=>by rw[Ah (Ò (Ù (Ä q) hp))];exact n
 there:=λb u q _=>⟨u,k b u q⟩
 tups:=λb xs q=>by rw[Ah (Bs q hn)];exact q
 frzs:=λb u xs q=>by rw[Ah (Bs q hn)];exact q
 tbls:=λb ps q=>⟨#[],by rw[Ah (Bs q hn),q];simp⟩
theorem Un.write(mu:Kh (H x))(he:e=x\/H e=some (.own x))(k:∀b u,b≠e->h.get? b=some u->h'.get? b=some u)(heo:∃u,h'.get? e=some u):Un fs ex H (upd H x o) h h':=by
 have hx:∀b,H b=none->b≠x:=λb n z=>by subst z;rw[n]at mu;exact mu
 have hb:∀b,H b=none->b≠e:=λb n z=>by
  grind
 have hm:∀b u,H b=some u->¬ Kh (some u)->b≠x:=λb u q nm z=>by grind
 refine⟨λb u q n _ _=>k b u (hb b n) q,λb u q n _ _=>⟨u.slots,k b u (hb b n) q⟩,λb u q n _=>by rw[Ah (hx b n)];exact n,λb u q _=>?_,
  λb xs q=>by rw[Ah (hm b _ q λz=>z)];exact q,λb u xs q=>by rw[Ah (hm b _ q λz=>z)];exact q,λb ps q=>⟨#[],by rw[Ah (hm b _ q λz=>z),q];simp⟩⟩
 grind
end
def Kx(h:Heap)(H:Hp):List Addr:=(List.range h.objs.size).filter λa=>(H a).isSome
def Gg(h:Heap)(H:Hp):Heap:=W.hideAll h (Kx h H)
theorem Β(h)(H):(Gg h H).objs.size=h.objs.size:=W.hideAll_size _ _
theorem Δ(e:h.get? b=some o)(n:H b=none):(Gg h H).get? b=some o:=
 ē _ e λhm=>by
  have q :=(Į.mp hm).2
  grind
theorem Ε(e:(Gg h H).get? b=some o):h.get? b=some o/\H b=none:=by
 have e' :=ĥ (Kx h H) e;refine⟨e',?_⟩;cases q:H b with
 |none=>rfl|some x=>
  have hm:b∈Kx h H:=Į.mpr ⟨ü.mpr (Ä e'),by simp[q]⟩
  have z:(Gg h H).get? b=none:=ţ (Kx h H) hm
  grind
structure Mod(K:k6)(mg:Str->Option Value)(base:Heap):Prop where
 kin:K.In base
 glob:base.Ns mainGlobals mg
 blt:∃mb,base.Ns builtinsNs mb/\∀x:Str,x≠"__name__"->mb x=bootBuiltins x
 nolimit:base.NoLimit
structure Cx where
 prog:Program
 w:World
 K:k6
 mg:Str->Option Value
 base:Heap
 A:Around
 N:kE
 s₀:Shared
 H₀:Hp
 env:Env
 outer:List Env
 stack:List Env
 ex:List Addr
 fn:Str->Bool
 calm:Bool
 pn:List (Addr×Obj)
 xe:Value->Shared->Prop
def BS(l:List Env):List Addr:=l.filterMap (·.frame)
abbrev Cx.fs(X:Cx):List Addr:=BS X.outer
def DB(sc:Scope)(x:Str):Prop:=sc.names.lookup x=some .local\/sc.names.lookup x=some .cell\/sc.names.lookup x=some .free
def Gp(sc:Scope)(x:Str):Prop:=sc.names.lookup x=some .local\/sc.names.lookup x=some .cell
def Look(env:Env)(h:Heap)(m:Str->Option Value)(x:Str)(u:Value):Prop:=
 (env.kindOf x=some .local/\m x=some u)\/((env.kindOf x=some .cell\/env.kindOf x=some .free)/\∃c,env.cells.lookup x=some c/\h.IsCell c (some u))
structure Cx.Ok(X:Cx):Prop where
 mod:Mod X.K X.mg X.base
 kind:X.env.scope.kind=.function
 glob:X.env.globals=mainGlobals
 blt:X.env.builtins=builtinsNs
 above:X.s₀.heap.objs.size<=X.env.locals
 inj:∀x y c,X.env.cells.lookup x=some c->X.env.cells.lookup y=some c->x=y
 has:∀x,(X.env.kindOf x=some .cell\/X.env.kindOf x=some .free)->∃c,X.env.cells.lookup x=some c
 cab:∀x c,X.fn x=true->X.env.cells.lookup x=some c->X.s₀.heap.objs.size<=c
 hd:X.calm=true->X.A.handled=none
 frames:X.A.frames=some X.stack
 stk:X.stack=X.outer\/(X.stack=X.env::X.outer/\X.env.frame=some X.env.locals)
 exf:∀b∈X.ex,b≠X.env.locals/\∀x c,X.env.cells.lookup x=some c->c≠b
 bs:∀b o,X.base.get? b=some o->X.s₀.heap.get? b=some o/\X.H₀ b=none
 bsz:X.base.objs.size<=X.s₀.heap.objs.size
 noex:∀b o,X.base.get? b=some o->b∉X.ex
 exfs:∀b∈X.ex,b∉X.fs
 funs:X.s₀.heap.FunFrames X.base X.outer
 frf:∀b∈X.fs,X.H₀ b=none
structure Inv(X:Cx)(pq:List (Addr×Obj))(σ:List (Option V))(H:Hp)(s:Shared):Prop where
 ok:X.Ok
 os:s.os=X.s₀.os
 bare:AllBare s.gens
 base:Un X.fs X.ex X.H₀ H X.s₀.heap s.heap
 loc:∃m,s.heap.Ns X.env.locals m/\∀(i:Nat) (x:Str) (v:V),X.N[i]?=some x->σ[i]?=some (some v)->DB X.env.scope x->∃u,A8 v u/\Look X.env s.heap m x u
 cell:∀x c,X.env.cells.lookup x=some c->∃v,s.heap.IsCell c v
 free:H X.env.locals=none
 freeC:∀x c,X.env.cells.lookup x=some c->H c=none
 pin:∀p∈X.pn++pq,s.heap.get? p.1=some p.2/\H p.1=none/\p.1≠X.env.locals/\p.1∉X.fs/\∀v,p.2.data≠.cell v
 hok:HOk X.prog X.w H s.heap
 len:σ.length=X.N.length
section
variable {X:Cx}{pq:List (Addr×Obj)}{σ:List (Option V)}{H H':Hp}{s:Shared}{h':Heap}
theorem Cx.Ok.nofr(ok:X.Ok)(e:X.base.get? b=some o):b∉X.fs:=λhb=>by
 have:=(ok.funs.mem hb).1
 grind
theorem Inv.bs(I:Inv X pq σ H s):∀b o,X.base.get? b=some o->s.heap.get? b=some o/\H b=none:=λb o e=>
 ⟨I.base.keep b o (I.ok.bs b o e).1 (I.ok.bs b o e).2 (I.ok.nofr e) (I.ok.noex b o e),I.base.free b o (I.ok.bs b o e).1 (I.ok.bs b o e).2 (I.ok.noex b o e)⟩
theorem Inv.bk(I:Inv X pq σ H s):∀b o,X.base.get? b=some o->s.heap.get? b=some o:=λb o e=>(I.bs b o e).1
theorem Inv.mod(I:Inv X pq σ H s):Mod X.K X.mg X.base:=I.ok.mod
theorem Inv.kIn(I:Inv X pq σ H s):X.K.In s.heap:=I.ok.mod.kin.keeps I.bk
theorem Inv.lt(I:Inv X pq σ H s):X.env.locals<s.heap.objs.size:=let ⟨_,hn,_⟩:=I.loc;hn.lt
theorem Inv.sz(I:Inv X pq σ H s):X.s₀.heap.objs.size<=s.heap.objs.size:=Þ I.ok.above (Ŋ I.lt)
theorem Inv.nofs(I:Inv X pq σ H s){a:Addr}(h:s.heap.objs.size<=a):a∉X.fs:=λhb=>by
 obtain⟨_,o,ho,_⟩:=I.ok.funs.mem hb;exact absurd (Ù (Ä ho) (Þ I.sz h)) (â _)
theorem Inv.cne(I:Inv X pq σ H s):∀x c,X.env.cells.lookup x=some c->c≠X.env.locals:=λx c e z=>by
 obtain⟨v,o,ho,hd⟩:=I.cell x c e;obtain⟨m,⟨o',es,ep,ho',hd',_⟩,_⟩:=I.loc
 grind
theorem Inv.funs(I:Inv X pq σ H s):s.heap.FunFrames X.base X.outer:=by
 have all:∀(l ),(∀b∈BS l,b∈X.fs)->X.s₀.heap.FunFrames X.base l->s.heap.FunFrames X.base l:=by
  intro l
  induction l with
  |nil=>intro _ _;trivial|cons env r ih=>
   intro hs hl;obtain⟨hk,⟨L,o,hf,hn,ho,hd⟩,hr⟩:=hl;have hL :=hs L (by unfold BS;grind)
   obtain⟨sl,e⟩:=I.base.slot L o ho (I.ok.frf L hL) hL λz=>I.ok.exfs L z hL
   exact⟨hk,⟨L,_,hf,hn,e,hd⟩,ih (λb hb=>hs b (by unfold BS;rw[List.filterMap_cons,hf];exact Î _ hb)) hr⟩
 exact all X.outer (λ_ hb=>hb) I.ok.funs
theorem Inv.stack(I:Inv X pq σ H s):s.heap.FunFrames X.base X.stack:=by
 rcases I.ok.stk with e|⟨e,hf⟩
 .rw[e];exact I.funs
 .rw[e];obtain⟨m,hn,_⟩:=I.loc;refine .cons (by rw[I.ok.kind];decide) hf hn ?_ I.funs
  exact Heap.get?_none_of_le (Þ I.ok.bsz I.ok.above)
theorem Inv.stkSub(I:Inv X pq σ H s):∀b∈BS X.stack,b∈X.env.locals::X.fs:=λb hb=>by
 rcases I.ok.stk with e|⟨e,hf⟩
 .grind
 .rw[e]at hb;unfold BS at hb;rw[List.filterMap_cons,hf]at hb;exact hb
theorem Inv.stkFree(I:Inv X pq σ H s):∀b∈BS X.stack,H b=none:=λb hb=>by
 rcases Ð.mp (I.stkSub b hb) with e|hb
 .rw[e];exact I.free
 .obtain⟨_,o,ho,_⟩:=I.ok.funs.mem hb;exact I.base.free b o ho (I.ok.frf b hb) λz=>I.ok.exfs b z hb
theorem Inv.step  {t':Nat}{d':Drawn}{ch:List Addr}(I:Inv X pq σ H s)
  (hch:∀b∈ch,(b∈X.ex\/X.s₀.heap.objs.size<=b)/\b≠X.env.locals/\(∀x c,X.env.cells.lookup x=some c->c≠b)/\∀p∈X.pn++pq,p.1≠b)
  (keep:∀b o,b≠X.env.locals->b∉X.fs->b∉ch->s.heap.get? b=some o->H b=none->h'.get? b=some o)
  (slot:∀b o,b≠X.env.locals->b∈X.fs->b∉ch->s.heap.get? b=some o->H b=none->∃sl,h'.get? b=some { o with slots:=sl }) (free:∀b o,b∉ch->s.heap.get? b=some o->H b=none->H' b=none)
  (there:∀b o,b∉ch->s.heap.get? b=some o->∃o',h'.get? b=some o')
  (tups:∀b xs,H b=some (.tup xs)->H' b=some (.tup xs)) (frzs:∀b o u,H b=some (.frz o u)->H' b=some (.frz o u)) (tbls:∀b ps,H b=some (.tbl ps)->∃more,H' b=some (.tbl (ps++more)))
  (ns:∀m,s.heap.Ns X.env.locals m->h'.Ns X.env.locals m) (hok:HOk X.prog X.w H' h') (hg:AllBare g') :
  Inv X pq σ H' { s with heap:=h',gens:=g',drawn:=d',toks:=t' }:=by
 have neL:∀b o,X.s₀.heap.get? b=some o->b≠X.env.locals:=λb o e=>Ò (Ù (Ä e) I.ok.above)
 have neC:∀b o,X.s₀.heap.get? b=some o->b∉X.ex->b∉ch:=λb o e hx hb=>by
  rcases(hch b hb).1 with z|z
  .exact hx z
  .exact absurd (Ù (Ä e) z) (â _)
 have cellK:∀x c,X.env.cells.lookup x=some c->∀v,s.heap.IsCell c v->h'.IsCell c v:=λx c e v ⟨o,ho,hd⟩=>by
  have nch :=λz=>(hch c z).2.2.1 x c e rfl
  by_cases hc:c∈X.fs
  .obtain⟨sl,q⟩:=slot c o (I.cne x c e) hc nch ho (I.freeC x c e);exact⟨_,q,hd⟩
  .exact⟨o,keep c o (I.cne x c e) hc nch ho (I.freeC x c e),hd⟩
 refine⟨I.ok,I.os,hg,⟨λb o e n hb hx=>?_,λb o e n hb hx=>?_,λb o e n hx=>?_,λb o e hx=>?_,λb xs e=>tups b xs (I.base.tups b xs e),λb o xs e=>frzs b o xs (I.base.frzs b o xs e),λb ps e=>?_⟩,?_,λx c e=>?_,?_,λx c e=>?_,λp hp=>?_,hok,I.len⟩
 .exact keep b o (neL b o e) hb (neC b o e hx) (I.base.keep b o e n hb hx) (I.base.free b o e n hx)
 .obtain⟨sl,e1⟩:=I.base.slot b o e n hb hx;obtain⟨sl',e2⟩:=slot b _ (neL b o e) hb (neC b o e hx) e1 (I.base.free b o e n hx);exact⟨sl',e2⟩
 .obtain⟨o',e1⟩:=I.base.there b o e hx;exact free b o' (neC b o e hx) e1 (I.base.free b o e n hx)
 .obtain⟨o',e1⟩:=I.base.there b o e hx;exact there b o' (neC b o e hx) e1
 .obtain⟨m1,e1⟩:=I.base.tbls b ps e;obtain⟨m2,e2⟩:=tbls b _ e1;exact⟨m1++m2,by rw[e2,Array.append_assoc]⟩
 .obtain⟨m,hn,hl⟩:=I.loc;refine⟨m,ns m hn,λi x v e1 e2 e3=>?_⟩
  obtain⟨u,r,l⟩:=hl i x v e1 e2 e3;refine⟨u,r,?_⟩
  rcases l with l|⟨k,c,e,z⟩
  .exact .inl l
  .exact .inr ⟨k,c,e,cellK x c e _ z⟩
 .obtain⟨v,z⟩:=I.cell x c e;exact⟨v,cellK x c e v z⟩
 .obtain⟨m,⟨o,_,_,ho,_⟩,_⟩:=I.loc;exact free _ o (λz=>(hch _ z).2.1 rfl) ho I.free
 .obtain⟨v,o,ho,hd⟩:=I.cell x c e;exact free c o (λz=>(hch c z).2.2.1 x c e rfl) ho (I.freeC x c e)
 .obtain⟨e,n,ne,nf,d⟩:=I.pin p hp;have nch :=λz=>(hch p.1 z).2.2.2 p hp rfl
  exact⟨keep p.1 p.2 ne nf nch e n,free p.1 p.2 nch e n,ne,nf,d⟩
theorem Inv.un  (I:Inv X pq σ H s)(u:Un X.fs [] H H' s.heap h')(hok:HOk X.prog X.w H' h'):Inv X pq σ H' { s with heap:=h',toks:=t' }:=by
 obtain⟨m,⟨o,es,ep,ho,r⟩,_⟩:=id I.loc;obtain⟨sl,hL⟩:=u.any ho I.free (by simp)
 exact I.step (ch:=[]) (λ_ z=>nomatch z) (λb o _ hb _ e n=>u.keep b o e n hb (by simp)) (λb o _ hb _ e n=>u.slot b o e n hb (by simp)) (λb o _ e n=>u.free b o e n (by simp)) (λb o _ e=>u.there b o e (by simp)) u.tups u.frzs u.tbls (λm' hm=>by
  obtain⟨o',es',ep',ho',r'⟩:=hm;rw[ho]at ho';cases ho';exact⟨_,es',ep',hL,r'⟩) hok I.bare
theorem Inv.call     (I:Inv X pq σ H s)(u:Un (BS X.stack) ch H H' s.heap h')(hok:HOk X.prog X.w H' h')(hg:AllBare g')
  (hch:∀b∈ch,(b∈X.ex\/X.s₀.heap.objs.size<=b)/\b≠X.env.locals/\(∀x c,X.env.cells.lookup x=some c->c≠b)/\∀p∈X.pn++pq,p.1≠b) :
  Inv X pq σ H' { s with heap:=h',gens:=g',drawn:=d',toks:=t' }:=by
 obtain⟨m,⟨o,es,ep,ho,r⟩,_⟩:=id I.loc;obtain⟨sl,hL⟩:=u.any ho I.free λz=>(hch _ z).2.1 rfl
 exact I.step hch (λb o hL hb hc e n=>u.keep b o e n (λz=>(Ð.mp (I.stkSub b z)).elim hL hb) hc) (λb o _ _ hc e n=>u.any e n hc) (λb o hc e n=>u.free b o e n hc) (λb o hc e=>u.there b o e hc) u.tups u.frzs u.tbls (λm' hm=>by
  obtain⟨o',es',ep',ho',r'⟩:=hm;rw[ho]at ho';cases ho';exact⟨_,es',ep',hL,r'⟩) hok hg
theorem Inv.turned   (I:Inv X pq σ H s)(k:∀b o,b≠it->s.heap.get? b=some o->h'.get? b=some o)(hn:H it=none)(hL:it≠X.env.locals)
  (h1:it∈X.ex\/X.s₀.heap.objs.size<=it) (h2:∀x c,X.env.cells.lookup x=some c->c≠it) (h3:∀p∈X.pn++pq,p.1≠it):Inv X pq σ H { s with heap:=h',toks:=t' }:=by
 refine I.step (ch:=[it]) (λb hb=>?_) (λb o _ _ hc e _=>k b o (λz=>hc (by simp[z])) e) (λb o _ _ hc e _=>⟨o.slots,k b o (λz=>hc (by simp[z])) e⟩) (λ_ _ _ _ n=>n)
  (λb o hc e=>⟨o,k b o (λz=>hc (by simp[z])) e⟩) (λ_ _ e=>e) (λ_ _ _ e=>e) (λb ps e=>⟨#[],by rw[e];simp⟩) (λm hm=>?_) (λb u e=>?_) I.bare
 .grind
 .obtain⟨o,es,ep,ho,r⟩:=hm;exact⟨o,es,ep,k _ o (É hL) ho,r⟩
 .refine(I.hok b u e).stay (λc v hc q=>k c v ?_ q) (λ_ q=>q) λ_ _ q=>q
  grind
theorem Inv.tok(I:Inv X pq σ H s)(t):Inv X pq σ H { s with toks:=t}:=I.un Un.refl I.hok
theorem Inv.kept  (I:Inv X pq σ H s)(k:∀b u,s.heap.get? b=some u->h'.get? b=some u):Inv X pq σ H { s with heap:=h',toks:=t' }:=I.un (Un.kept k) (I.hok.kept k)
theorem Inv.laid{a:Addr}   (I:Inv X pq σ H s)(k:∀b u,s.heap.get? b=some u->h'.get? b=some u)(hp:s.heap.objs.size<=a)(new:CP X.prog X.w (upd H a o) h' a o) :
  Inv X pq σ (upd H a o) { s with heap:=h',toks:=t' }:=I.un (Un.laid k hp (I.hok.fresh hp)) (I.hok.laid k hp new)
theorem Inv.write    (I:Inv X pq σ H s)(mu:Kh (H x))(he:e=x\/H e=some (.own x))(k:∀b u,b≠e->s.heap.get? b=some u->h'.get? b=some u)(heo:∃u,h'.get? e=some u)
  (new:CP X.prog X.w (upd H x o) h' x o):Inv X pq σ (upd H x o) { s with heap:=h',toks:=t' }:=I.un (Un.write mu he k heo) (I.hok.write mu he k heo new)
theorem Inv.pins_of(I:Inv X pq σ H s)(h:∀p∈pins',s.heap.get? p.1=some p.2/\H p.1=none/\p.1≠X.env.locals/\p.1∉X.fs/\∀v,p.2.data≠.cell v):Inv X pins' σ H s:=
 ⟨I.ok,I.os,I.bare,I.base,I.loc,I.cell,I.free,I.freeC,λp hp=>(é.mp hp).elim (λz=>I.pin p (Ē _ z)) (h p),I.hok,I.len⟩
theorem Od{N:kE}(hN:N.Nodup){i j:Nat}(a:N[i]?=some x)(b:N[j]?=some x):i=j:=by
 obtain⟨h1,e1⟩:=Í.mp a;obtain⟨h2,e2⟩:=Í.mp b;exact(Ę hN).mp (e1.trans e2.symm)
theorem TX         (I:Inv X pq σ H s)(hN:X.N.Nodup)(hi:X.N[i]?=some x)(hx:Gp X.env.scope x)(r:A8 v u)
  (h:∀s',Inv X pq (σ.set i (some v)) H s'->(∃a,Heap.SameBut a s.heap s'.heap/\(a=X.env.locals\/X.env.cells.lookup x=some a))->Q () s') (hf:X.fn x=true\/X.env.scope.names.lookup x=some .local:=by first|exact .inl rfl|exact .inr rfl|assumption):wpAny M A (storeName X.env x u) Q E s:=by
 obtain⟨m,hn,hl⟩:=id I.loc;have hcls:(X.env.scope.kind == .class || (X.env.scope.kind == .module && X.env.locals != X.env.globals))=false:=by rw[I.ok.kind];rfl
 have hiσ:i<σ.length:=by rw[I.len];exact(Í.mp hi).1
 have cne:=I.cne
 have tracked:∀{a } {h' },(∃o,s.heap.get? a=some o/\H a=none)->Heap.SameBut a s.heap h'->HOk X.prog X.w H h':=fun  ha hs b ob e=>by
  obtain⟨_,_,hfree⟩:=ha;refine(I.hok b ob e).stay (λc w' hc q=>(hs.2 c ?_).trans q) (λ_ q=>q) λ_ _ q=>q
  rintro rfl
  rcases hc with rfl|hc
  .rw[hfree]at e;cases e
  .rw[hfree]at hc;cases hc
 rcases hx with hk|hk
 .refine wpAny_storeName_local hk hn (λh' hn' hs=>?_) hcls
  obtain⟨oL,_,_,hoL,_⟩:=id hn;refine h _ ⟨I.ok,I.os,I.bare,⟨λb o e n hb hx=>?_,λb o e n hb hx=>?_,I.base.free,λb o e hx=>?_,I.base.tups,I.base.frzs,I.base.tbls⟩,⟨_,hn',λj y v' e1 e2 e3=>?_⟩,λy c e=>?_,I.free,I.freeC,λp hp=>?_,tracked ⟨oL,hoL,I.free⟩ hs,by simpa using I.len⟩ ⟨_,hs,.inl rfl⟩
  .exact(hs.2 b (Ò (Ù (Ä e) I.ok.above))).trans (I.base.keep b o e n hb hx)
  .obtain⟨sl,e1⟩:=I.base.slot b o e n hb hx;exact⟨sl,(hs.2 b (Ò (Ù (Ä e) I.ok.above))).trans e1⟩
  .obtain⟨o',e1⟩:=I.base.there b o e hx;exact⟨o',(hs.2 b (Ò (Ù (Ä e) I.ok.above))).trans e1⟩
  .by_cases hj:j=i
   .subst hj;rw[hi]at e1;cases e1;rw[å hiσ]at e2;cases e2;exact⟨u,r,.inl ⟨hk,by simp⟩⟩
   .rw[Ú (É hj)]at e2;obtain⟨u',r',q⟩:=hl j y v' e1 e2 e3;refine⟨u',r',?_⟩
    rcases q with ⟨k,e⟩|⟨k,c,e,z⟩
    .refine .inl ⟨k,?_⟩;have:y≠x:=λe=>hj (Od hN e1 (e▸hi))
     simp[this,e]
    .exact .inr ⟨k,c,e,z.sameBut hs (cne y c e)⟩
  .obtain⟨w',z⟩:=I.cell y c e;exact⟨w',z.sameBut hs (cne y c e)⟩
  .obtain⟨e,n,ne,nf,d⟩:=I.pin p hp;exact⟨(hs.2 p.1 ne).trans e,n,ne,nf,d⟩
 .have hfn:X.fn x=true:=by
   rcases hf with z|z
   .exact z
   .rw[z]at hk;cases hk
  obtain⟨c,hc⟩:=I.ok.has x (.inl hk);obtain⟨w',z⟩:=I.cell x c hc;refine wpAny_storeName_cell I.ok.kind hk hc z (λh' hc' hs=>?_)
  obtain⟨oc,hoc,hocd⟩:=id z;refine h { s with heap:=h' } ⟨I.ok,I.os,I.bare,⟨λb o e n hb hx=>?_,λb o e n hb hx=>?_,I.base.free,λb o e hx=>?_,I.base.tups,I.base.frzs,I.base.tbls⟩,⟨m,hn.sameBut hs (É (cne x c hc)),λj y v' e1 e2 e3=>?_⟩,λy c' e=>?_,I.free,I.freeC,λp hp=>?_,tracked ⟨oc,hoc,I.freeC x c hc⟩ hs,by simpa using I.len⟩ ⟨c,hs,.inr hc⟩
  .exact(hs.2 b (Ò (Ù (Ä e) (I.ok.cab x c hfn hc)))).trans (I.base.keep b o e n hb hx)
  .obtain⟨sl,e1⟩:=I.base.slot b o e n hb hx;exact⟨sl,(hs.2 b (Ò (Ù (Ä e) (I.ok.cab x c hfn hc)))).trans e1⟩
  .obtain⟨o',e1⟩:=I.base.there b o e hx;exact⟨o',(hs.2 b (Ò (Ù (Ä e) (I.ok.cab x c hfn hc)))).trans e1⟩
  .by_cases hj:j=i
   .subst hj;rw[hi]at e1;cases e1;rw[å hiσ]at e2;cases e2;exact⟨u,r,.inr ⟨.inl hk,c,hc,hc'⟩⟩
   .rw[Ú (É hj)]at e2;obtain⟨u',r',q⟩:=hl j y v' e1 e2 e3;refine⟨u',r',?_⟩
    rcases q with q|⟨k,c',e,z'⟩
    .exact .inl q
    .refine .inr ⟨k,c',e,z'.sameBut hs ?_⟩;rintro rfl;exact hj (Od hN e1 (I.ok.inj _ _ _ e hc▸hi))
  .by_cases hcc:c'=c
   .subst hcc;exact⟨_,hc'⟩
   .obtain⟨w2,z2⟩:=I.cell y c' e;exact⟨w2,z2.sameBut hs hcc⟩
  .obtain⟨e,n,ne,nf,d⟩:=I.pin p hp;refine⟨(hs.2 p.1 ?_).trans e,n,ne,nf,d⟩;intro q;rw[q,hoc]at e;have q' :=Ý e;exact d w' (by rw[<- q'];exact hocd)
theorem Nn(I:Inv X pq σ H s)(hN:X.N.Nodup)(hi:X.N[i]?=some x)(hx:Gp X.env.scope x)(r:A8 v u)
  (h:∀s',Inv X pq (σ.set i (some v)) H s'->Q () s') (hf:X.fn x=true\/X.env.scope.names.lookup x=some .local:=by rfl):wpAny M A (storeName X.env x u) Q E s:=
 TX I hN hi hx r (λs' I' _=>h s' I') hf
theorem Inv.call'   (I:Inv X pq σ H s)(ho:s'.os=s.os)(u:Un (BS X.stack) ch H H' s.heap s'.heap)(hok:HOk X.prog X.w H' s'.heap)(hg:AllBare s'.gens)
  (hch:∀b∈ch,(b∈X.ex\/X.s₀.heap.objs.size<=b)/\b≠X.env.locals/\(∀x c,X.env.cells.lookup x=some c->c≠b)/\∀p∈X.pn++pq,p.1≠b):Inv X pq σ H' s':=by
 obtain⟨h',g',d',t',o'⟩:=s';have e :=ho;subst e;exact I.call u hok hg hch
end
abbrev XK:=Value->Option Addr->Hp->Prop
abbrev St:=List (Option V)
abbrev VK:=V->Hp->Prop
abbrev TE:=St->Hp->VK->Prop
abbrev TT:=St->Hp->(Bool->Hp->Prop)->Prop
abbrev TA:=St->Hp->(kK->Hp->Prop)->Prop
structure Ends where
 nx:St->Hp->Prop
 rt:VK
 bk:St->Hp->Prop:=λ_ _=>False
 ct:St->Hp->Prop:=λ_ _=>False
abbrev TS:=Ends->St->Hp->Prop
def EP(X:Cx)(pq:List (Addr×Obj))(σ:St)(Q:VK)(u:Value)(s':Shared):Prop:=∃v H',Inv X pq σ H' s'/\A8 v u/\Q v H'
def TP(X:Cx)(pq:List (Addr×Obj))(σ:St)(Q:Bool->Hp->Prop)(b:Bool)(s':Shared):Prop:=∃H',Inv X pq σ H' s'/\Q b H'
def AP(X:Cx)(pq:List (Addr×Obj))(σ:St)(Q:kK->Hp->Prop)(us:k9)(s':Shared):Prop:=∃vs H',Inv X pq σ H' s'/\A9 vs us/\Q vs H'
def SP(X:Cx)(pq:List (Addr×Obj))(D:Ends)(f:Flow)(s':Shared):Prop:=
 match f with
 |.next=>∃σ' H',Inv X pq σ' H' s'/\D.nx σ' H'|.brk=>∃σ' H',Inv X pq σ' H' s'/\D.bk σ' H'|.cont=>∃σ' H',Inv X pq σ' H' s'/\D.ct σ' H'|.ret u=>∃v σ' H',Inv X pq σ' H' s'/\A8 v u/\D.rt v H'
def PE(X:Cx)(e:Expr)(t:TE):Prop:=
 ∀(pq:List (Addr×Obj)) (s:Shared) (σ:St) (H:Hp) (Q:VK),Inv X pq σ H s->t σ H Q->wpAny (model X.prog X.w) X.A (eval e X.env) (EP X pq σ Q) X.xe s
def PT(X:Cx)(e:Expr)(t:TT):Prop:=
 ∀(pq:List (Addr×Obj)) (s:Shared) (σ:St) (H:Hp) (Q:Bool->Hp->Prop),Inv X pq σ H s->t σ H Q->wpAny (model X.prog X.w) X.A (isTrue e X.env (eval e X.env)) (TP X pq σ Q) X.xe s
def PW(X:Cx)(e:Expr)(t:TT):Prop:=
 ∀(whole:Sem Value) (pq:List (Addr×Obj)) (s:Shared) (σ:St) (H:Hp) (Q:Bool->Hp->Prop),Inv X pq σ H s->t σ H Q->wpAny (model X.prog X.w) X.A (isTrue e X.env whole) (TP X pq σ Q) X.xe s
theorem PW.pt{X:Cx}{e:Expr}{t:TT}(h:PW X e t):PT X e t:=h _
def PA(X:Cx)(es:kC)(t:TA):Prop:=
 ∀(pos:Pos) (pq:List (Addr×Obj)) (s:Shared) (σ:St) (H:Hp) (Q:kK->Hp->Prop),Inv X pq σ H s->t σ H Q->wpAny (model X.prog X.w) X.A (spliced (backTo pos (starEach es X.env))) (AP X pq σ Q) X.xe s
def PS(X:Cx)(st:Stmt)(t:TS):Prop:=
 ∀(pq:List (Addr×Obj)) (s:Shared) (σ:St) (H:Hp) (D:Ends),Inv X pq σ H s->t D σ H->wpAny (model X.prog X.w) X.A (exec st X.env) (SP X pq D) X.xe s
def BB(X:Cx)(st:kD)(t:TS):Prop:=
 ∀(pq:List (Addr×Obj)) (s:Shared) (σ:St) (H:Hp) (D:Ends),Inv X pq σ H s->t D σ H->wpAny (model X.prog X.w) X.A (execs st X.env) (SP X pq D) X.xe s
theorem AQ  {t:Sem α}      (h:wpAny M A t Q E s)(hQ:∀a s,Q a s->Q' a s):wpAny M A t Q' E s:=è h hQ λ_ _ x=>x
section
variable {X:Cx}
def So(i:Nat):TE:=λσ H Q=>∃v,σ[i]?=some (some v)/\Q v H
def tC(v:V):TE:=λ_ H Q=>Q v H
theorem G3{pos}(hN:X.N[i]?=some x)(hv:DB X.env.scope x)(hd:(x == "__debug__")=false:=by decide)(hcd:(x == "__classdict__")=false:=by decide):PE X (.Name x pos) (So i):=by
 intro pq s σ H Q I h;obtain⟨v,e,h⟩:=h;obtain⟨m,hn,hl⟩:=I.loc;obtain⟨u,r,l⟩:=hl i x v hN e hv;have Aq:EP X pq σ Q u s:=⟨v,H,I,r,h⟩
 rcases l with ⟨hk,hm⟩|⟨hk,c,hc,hcell⟩
 .exact wpAny_Name (wpAny_loadName_local I.ok.kind hk hn hm Aq) hd
 .rcases hk with hk|hk
  .exact wpAny_Name (wpAny_loadName_cell I.ok.kind hk hc hcell Aq) hd
  .exact wpAny_Name (wpAny_loadName_free I.ok.kind hk hc hcell Aq hcd) hd
theorem Ζ:PE X (.Constant (.int i) j pos) (tC (.int i)):=λ_ _ _ H _ I h=>wpAny_Constant_int ⟨.int i,H,I.tok _,⟨_,rfl⟩,h⟩
theorem pe_bl:PE X (.Constant (.bool b) j pos) (tC (.bl b)):=λ_ _ _ H _ I h=>Constant_bool ⟨.bl b,H,I,rfl,h⟩
theorem WD:PE X (.Constant .none j pos) (tC .non):=λ_ _ _ H _ I h=>Constant_none ⟨.non,H,I,rfl,h⟩
theorem WB:PE X (.Constant (.str x) j pos) (tC (.str x)):=λ_ _ _ H _ I h=>Calls.Constant_str ⟨.str x,H,I.tok _,⟨_,rfl⟩,h⟩
def Gl(X:Cx)(x:Str):Prop:=X.env.kindOf x=some .globalImplicit
theorem IJ{σ:St}(I:Inv X pq σ H s)(hg:Gl X x)(hm:X.mg x=some u)(h:Q u s)
  (hd:(x == "__debug__")=false:=by decide):wpAny (model X.prog X.w) X.A (eval (.Name x pos) X.env) Q E s:=
 Calls.Name_function_global I.ok.kind hg (Calls.loadGlobal_global (by rw[I.ok.glob];exact I.mod.glob.keeps I.bk) hm h) hd
theorem F7{E}{σ:St}{pos}(I:Inv X pq σ H s)(hg:Gl X x)(hm:X.mg x=none)(hv:bootBuiltins x=some u)(h:Q u s)
  (hn:x≠"__name__":=by decide) (hd:(x == "__debug__")=false:=by decide):wpAny (model X.prog X.w) X.A (eval (.Name x pos) X.env) Q E s:=by
 obtain⟨mb,h1,h2⟩:=I.mod.blt;exact Calls.Name_function_global I.ok.kind hg (Calls.loadGlobal_builtin (by rw[I.ok.glob];exact I.mod.glob.keeps I.bk) hm (by rw[I.ok.blt];exact h1.keeps I.bk) ((h2 x hn).trans hv) h) hd
theorem JX     (hg:Gl X x)(hm:X.mg x=some u)(r:A8 v u)(hd:(x == "__debug__")=false:=by decide):PE X (.Name x pos) (tC v):=
 λ_ _ _ H _ I h=>IJ I hg hm ⟨v,H,I,r,h⟩ hd
theorem WG{pos}(hg:Gl X x)(hm:X.mg x=none)(hv:bootBuiltins x=some u)(r:A8 v u)(hn:x≠"__name__":=by decide)(hd:(x == "__debug__")=false:=by decide):PE X (.Name x pos) (tC v):=
 λ_ _ _ H _ I h=>F7 I hg hm hv ⟨v,H,I,r,h⟩ hn hd
variable {a b:Expr}{ta tb:TE}{pos:Pos}
def tB(t:TE):TT:=λσ H Q=>t σ H λx H1=>∃c,x=.bl c/\Q c H1
theorem OX   (h:PE X e t)(he:∀whole,isTrue e X.env whole=(do let v <- whole;standAt e.pos;holding [v] (truthy v)):=by rfl):PT X e (tB t):=by
 intro pq s σ H Q I hw;refine isTrue_plain (AQ (h pq s σ H _ I hw) λv s1 zz=>?_) (he _)
 obtain⟨x,H1,I1,r1,q1⟩:=zz;obtain⟨d,rfl,q⟩:=q1;cases r1;exact þ ⟨H1,I1,q⟩
variable {tA tB':TT}{rest:kC}
def tAnd(t u:TT):TT:=λσ H Q=>t σ H λc H1=>if c=true then u σ H1 Q else Q false H1
def tOr(t u:TT):TT:=λσ H Q=>t σ H λc H1=>if c=true then Q true H1 else u σ H1 Q
def Sw(t:TT):TT:=λσ H Q=>t σ H λc H1=>Q (!c) H1
theorem Η(ha:PT X a tA):PW X (.BoolOp .And [a] pos) tA:=by
 intro wh pq s σ H Q I h;refine isTrue_and (AQ (ha pq s σ H Q I h) λc s1 e=>?_)
 cases c with
 |true=>exact isTrue_and_nil e|false=>exact e
theorem Θ(ha:PT X a tA):PW X (.BoolOp .Or [a] pos) tA:=by
 intro wh pq s σ H Q I h;refine isTrue_or (AQ (ha pq s σ H Q I h) λc s1 e=>?_)
 cases c with
 |false=>exact isTrue_or_nil e|true=>exact e
theorem Ι(ha:PT X a tA)(hb:PW X (.BoolOp .And (b::rest) pos) tB'):PW X (.BoolOp .And (a::b::rest) pos) (tAnd tA tB'):=by
 intro wh pq s σ H Q I h;refine isTrue_and (AQ (ha pq s σ H _ I h) λc s1 zz=>?_)
 obtain⟨H1,I1,q1⟩:=zz;cases c with
 |true=>exact hb wh pq s1 σ H1 Q I1 q1|false=>exact⟨H1,I1,q1⟩
theorem pw_or(ha:PT X a tA)(hb:PW X (.BoolOp .Or (b::rest) pos) tB'):PW X (.BoolOp .Or (a::b::rest) pos) (tOr tA tB'):=by
 intro wh pq s σ H Q I h;refine isTrue_or (AQ (ha pq s σ H _ I h) λc s1 zz=>?_)
 obtain⟨H1,I1,q1⟩:=zz;cases c with
 |true=>exact⟨H1,I1,q1⟩|false=>exact hb wh pq s1 σ H1 Q I1 q1
theorem Vu(ha:PT X a tA):PT X (.UnaryOp .Not a pos) (Sw tA):=by
 intro pq s σ H Q I h;exact isTrue_not (ha pq s σ H (λc H1=>Q (!c) H1) I h)
def tAndV(ta tb:TE):TE:=λσ H Q=>ta σ H λx H1=>∃c,x=.bl c/\if c=true then tb σ H1 Q else Q (.bl false) H1
def tOrV(ta tb:TE):TE:=λσ H Q=>ta σ H λx H1=>∃c,x=.bl c/\if c=true then Q (.bl true) H1 else tb σ H1 Q
def Sv(ta:TE):TE:=λσ H Q=>ta σ H λx H1=>∃c,x=.bl c/\Q (.bl (!c)) H1
theorem Κ(h:PE X a t):PE X (.BoolOp op [a] pos) t:=λpq s σ H Q I hw=>BoolOp_one (h pq s σ H Q I hw)
theorem Λ(ha:PE X a ta)(hb:PE X (.BoolOp .And (b::rest) pos) tb):PE X (.BoolOp .And (a::b::rest) pos) (tAndV ta tb):=by
 intro pq s σ H Q I h;refine BoolOp_and (AQ (ha pq s σ H _ I h) λv s1 zz=>?_)
 obtain⟨x,H1,I1,r1,q1⟩:=zz;obtain⟨c,rfl,q1⟩:=q1;cases r1;refine þ ?_;cases c with
 |true=>exact hb pq s1 σ H1 Q I1 q1|false=>exact⟨.bl false,H1,I1,rfl,q1⟩
theorem pe_or(ha:PE X a ta)(hb:PE X (.BoolOp .Or (b::rest) pos) tb):PE X (.BoolOp .Or (a::b::rest) pos) (tOrV ta tb):=by
 intro pq s σ H Q I h;refine BoolOp_or (AQ (ha pq s σ H _ I h) λv s1 zz=>?_)
 obtain⟨x,H1,I1,r1,q1⟩:=zz;obtain⟨c,rfl,q1⟩:=q1;cases r1;refine þ ?_;cases c with
 |false=>exact hb pq s1 σ H1 Q I1 q1|true=>exact⟨.bl true,H1,I1,rfl,q1⟩
theorem Μ(ha:PE X a ta):PE X (.UnaryOp .Not a pos) (Sv ta):=by
 intro pq s σ H Q I h;refine UnaryOp_ (AQ (ha pq s σ H _ I h) λv s1 zz=>?_)
 obtain⟨x,H1,I1,r1,q1⟩:=zz;obtain⟨c,rfl,q1⟩:=q1;cases r1;exact not_of (þ ⟨.bl (!c),H1,I1,rfl,q1⟩)
def tIf(t:TT)(ta tb:TE):TE:=λσ H Q=>t σ H λc H1=>if c=true then ta σ H1 Q else tb σ H1 Q
theorem Ν(hc:PT X c tA)(ha:PE X a ta)(hb:PE X b tb):PE X (.IfExp c a b pos) (tIf tA ta tb):=by
 intro pq s σ H Q I h;refine wpAny_IfExp (AQ (hc pq s σ H _ I h) λd s1 zz=>?_)
 obtain⟨H1,I1,q1⟩:=zz;cases d with
 |true=>exact ha pq s1 σ H1 Q I1 q1|false=>exact hb pq s1 σ H1 Q I1 q1
end
def AX(K:k6)(H:Hp)(a:Addr)(xs:kK):Prop:=
 Rd H a (.lst xs) \/
  ∃(o:Obj) (its:Array Value) (n:Nat),K.lookup a=some o/\o.cls=.type "list"/\o.dict=none/\o.data=.seq its n/\its.size<=sizeLine/\A9 xs its.toList
def Bp(K:k6)(H:Hp)(a:Addr)(xs:kK):Prop:=
 Rd H a (.tup xs) \/
  ∃(o:Obj) (its:Array Value) (n:Nat),K.lookup a=some o/\o.cls=.type "tuple"/\o.data=.seq its n/\its.size<=sizeLine/\A9 xs its.toList
noncomputable def absV:Value->Option V
 |.none=>some .non|.bool b=>some (.bl b)|.int i _=>some (.int i)|.str x _=>some (.str x)|.bytes b _=>some (.byt b)|.float b _=>some (.flt b)|.ref a=>some (.ref a)|.type n=>some (.ty n)|_=>none
theorem A8.abs(r:A8 x u):absV u=some x:=by
 cases x with
 |non=>cases r;rfl|bl _=>cases r;rfl|int _=>obtain⟨t,rfl⟩:=r;rfl
 |str _=>obtain⟨t,rfl⟩:=r;rfl
 |byt _=>obtain⟨t,rfl⟩:=r;rfl
 |flt _=>obtain⟨t,rfl⟩:=r;rfl
 |ref _=>cases r;rfl|ty _=>cases r;rfl
theorem A8.inj(r:A8 x u)(q:A8 y u):x=y:=Ý (r.abs.symm.trans q.abs)
theorem A9.inj:∀{xs ys} {us},A9 xs us->A9 ys us->xs=ys
 |_,_,_,.nil,.nil=>rfl|_,_,_,.cons r t,.cons r' t'=>by rw[r.inj r',A9.inj t t']
section
variable {X:Cx}{pq:List (Addr×Obj)}{σ:St}{H:Hp}{s:Shared}{a:Addr}{xs ys:kK}
theorem AX.of{K:k6}(h:H a=some (.lst xs)):AX K H a xs:=.inl (.inl h)
theorem Bp.of{K:k6}(h:H a=some (.tup xs)):Bp K H a xs:=.inl (.inl h)
theorem Inv.list(I:Inv X pq σ H s)(h:AX X.K H a xs):∃its ,A9 xs its/\PlainL s.heap a its.toArray/\xs.length<=sizeLine:=by
 rcases h with h|⟨o,its,n,hk,hc,hd,hs,hz,r⟩
 .obtain⟨z,its,n,r,e⟩:=h.ok I.hok;exact⟨its,r,⟨_,n,e,rfl,rfl,rfl⟩,z⟩
 .refine⟨its.toList,r,⟨o,n,I.kIn a o hk,hc,hd,by omega⟩,?_⟩
  have e:=r.length
  grind
theorem Inv.tuple(I:Inv X pq σ H s)(h:Bp X.K H a xs):∃its ,A9 xs its/\IsTup s.heap a its.toArray/\xs.length<=sizeLine:=by
 rcases h with h|⟨o,its,n,hk,hc,hs,hz,r⟩
 .obtain⟨z,its,r,p⟩:=h.ok I.hok
  grind
 .refine⟨its.toList,r,⟨o,I.kIn a o hk,hc,n,by omega⟩,?_⟩
  have e:=r.length
  grind
theorem Inv.list_inj(I:Inv X pq σ H s)(h:AX X.K H a xs)(h':AX X.K H a ys):xs=ys:=by
 obtain⟨its,r,⟨o,n,e,_,_,d⟩,_⟩:=I.list h;obtain⟨its',r',⟨o',n',e',_,_,d'⟩,_⟩:=I.list h';have:its=its':=by grind
 subst this;exact r.inj r'
theorem Inv.tuple_inj(I:Inv X pq σ H s)(h:Bp X.K H a xs)(h':Bp X.K H a ys):xs=ys:=by
 obtain⟨its,r,⟨o,e,_,n,d⟩,_⟩:=I.tuple h;obtain⟨its',r',⟨o',e',_,n',d'⟩,_⟩:=I.tuple h';have:its=its':=by grind
 subst this;exact r.inj r'
end
section
variable {X:Cx}{pq:List (Addr×Obj)}{σ:St}{H:Hp}{s:Shared}{E:Value->Shared->Prop}
end
section
variable {X:Cx}{st:Stmt}{rest:kD}{t u:TS}{e:Expr}{te:TE}{pos:Pos}
def Sy:TS:=λD σ H=>D.nx σ H
def Ss(t u:TS):TS:=λD σ H=>t { D with nx:=u D } σ H
theorem Ξ:BB X [] Sy:=λ_ _ σ H _ I h=>Ĳ ⟨σ,H,I,h⟩
theorem Ο(h1:PS X st t)(h2:BB X rest u):BB X (st::rest) (Ss t u):=by
 intro pq s σ H D I h;refine wpAny_execs_cons (AQ (h1 pq s σ H { D with nx:=u D } I h) λf s1 q=>?_)
 cases f with
 |next=>obtain⟨σ',H',I',q⟩:=q;exact h2 pq s1 σ' H' D I' q
 |ret v=>exact q|brk=>exact q|cont=>exact q
theorem Ρ(h1:PS X st t):BB X [st] t:=by
 intro pq s σ H D I h;refine wpAny_execs_cons (AQ (h1 pq s σ H D I h) λf s1 q=>?_)
 cases f with
 |next=>exact Ĳ q|ret v=>exact q|brk=>exact q|cont=>exact q
def Τ:TS:=λD σ H=>D.bk σ H
def tCont:TS:=λD σ H=>D.ct σ H
theorem Υ:PS X (.Pass pos) Sy:=λ_ _ σ H _ I h=>wpAny_Pass ⟨σ,H,I,h⟩
theorem Φ:PS X (.Break pos) Τ:=λ_ _ σ H _ I h=>wpAny_Break ⟨σ,H,I,h⟩
theorem Χ:PS X (.Continue pos) tCont:=λ_ _ σ H _ I h=>wpAny_Continue ⟨σ,H,I,h⟩
theorem Inv.quiet  {σ:St}   (I:Inv X pq σ H s):interactive X.env=false:=by simp[interactive,I.ok.kind]
def tDrop(te:TE):TS:=λD σ H=>te σ H λ_ H1=>D.nx σ H1
theorem OZ(he:PE X e te)(hs:swapsWith e none pos.line X.env=pure false:=by rfl):PS X (.Expr e pos) (tDrop te):=by
 intro pq s σ H D I h;exact wpAny_Expr_any (AQ (he pq s σ H _ I h) λv s1 ⟨x,H1,I1,r1,q1⟩=>⟨σ,H1,I1,q1⟩) I.quiet hs
def tRet(te:TE):TS:=λD σ H=>te σ H D.rt
theorem Vx(he:PE X e te):PS X (.Return (some e) pos) (tRet te):=by
 intro pq s σ H D I h;exact wpAny_Return_some (AQ (he pq s σ H _ I h) λv s1 ⟨x,H1,I1,r1,q1⟩=>⟨x,σ,H1,I1,r1,q1⟩)
def tRetN:TS:=λD _ H=>D.rt .non H
theorem Vw:PS X (.Return none pos) tRetN:=λ_ _ σ H _ I h=>wpAny_Return_none ⟨.non,σ,H,I,rfl,h⟩
def tIfS(c:TT)(t u:TS):TS:=λD σ H=>c σ H λb H1=>if b=true then t D σ H1 else u D σ H1
theorem OY(hc:PT X c tc)(ha:BB X a t)(hb:BB X b u):PS X (.If c a b pos) (tIfS tc t u):=by
 intro pq s σ H D I h;refine wpAny_If (AQ (hc pq s σ H _ I h) λd s1 zz=>?_)
 obtain⟨H1,I1,q1⟩:=zz;cases d with
 |true=>exact ha pq s1 σ H1 D I1 q1|false=>exact hb pq s1 σ H1 D I1 q1
end
abbrev TG:=V->St->Hp->(St->Hp->Prop)->Prop
abbrev Ih:=kK->St->Hp->(St->Hp->Prop)->Prop
def PG(X:Cx)(target:Expr)(t:TG):Prop:=
 ∀(pq:List (Addr×Obj)) (s:Shared) (σ:St) (H:Hp) (v:V) (u:Value) (Q:St->Hp->Prop),Inv X pq σ H s->A8 v u->t v σ H Q ->
  wpAny (model X.prog X.w) X.A (assign target X.env u) (λ_ s'=>∃σ' H',Inv X pq σ' H' s'/\Q σ' H') X.xe s
def Ds(X:Cx)(ts:kC)(t:Ih):Prop:=
 ∀(pq:List (Addr×Obj)) (s:Shared) (σ:St) (H:Hp) (vs:kK) (us:k9) (Q:St->Hp->Prop),Inv X pq σ H s->A9 vs us->t vs σ H Q ->
  wpAny (model X.prog X.w) X.A (assignInOrder ((assignEach ts X.env).map (·.2)) us) (λ_ s'=>∃σ' H',Inv X pq σ' H' s'/\Q σ' H') X.xe s
abbrev Rf:=V->V->V->Hp->(Hp->Prop)->Prop
def Rn(X:Cx)(t:Rf):Prop:=
 ∀(pq:List (Addr×Obj)) (s:Shared) (σ:St) (H:Hp) (o i v:V) (ov iv u:Value) (Q:Hp->Prop),Inv X pq σ H s->A8 o ov->A8 i iv->A8 v u->t o i v H Q ->
  wpAny (model X.prog X.w) X.A (setItem ov iv u) (λ_ s'=>∃H',Inv X pq σ H' s'/\Q H') X.xe s
section
variable {X:Cx}{pos:Pos}
def Fy(i:Nat):TG:=λv σ H Q=>Q (σ.set i (some v)) H
theorem Ψ(hN:X.N.Nodup)(hi:X.N[i]?=some x)(hx:Gp X.env.scope x)(hf:X.fn x=true\/X.env.scope.names.lookup x=some .local:=by rfl):PG X (.Name x pos) (Fy i):=by
 intro pq s σ H v u Q I r h;exact wpAny_assign_Name (Nn I hN hi hx r (λs' I'=>⟨_,H,I',h⟩) hf)
def gNil:Ih:=λvs σ H Q=>vs=[]/\Q σ H
def gCons(t:TG)(u:Ih):Ih:=λvs σ H Q=>∃v r,vs=v::r/\t v σ H λσ' H'=>u r σ' H' Q
theorem Ω:Ds X [] gNil:=by
 intro pq s σ H vs us Q I r h;obtain⟨e,h⟩:=h;exact assignInOrder_nil ⟨σ,H,I,h⟩
theorem zh6(h1:PG X e t)(h2:Ds X es u)
  (hs:(assignEach (e::es) X.env).map (·.2)=assign e X.env::(assignEach es X.env).map (·.2):=by rfl):Ds X (e::es) (gCons t u):=by
 intro pq s σ H vs us Q I r h;obtain⟨v,vr,e1,h⟩:=h;subst e1;cases r with
 |cons r rr=>
  rw[hs];refine assignInOrder_cons (AQ (h1 pq s σ H _ _ _ I r h) λ_ s1 zz=>?_)
  obtain⟨σ1,H1,I1,q1⟩:=zz;exact h2 pq s1 σ1 H1 _ _ Q I1 rr q1
def Q1(K:k6)(n:Nat)(t:Ih):TG:=λv σ H Q=>∃a xs,v=.ref a/\Bp K H a xs/\xs.length=n/\t xs σ H Q
theorem znb{k}(hc:X.calm=true)(h:Ds X es t)
  (hn:(assignEach es X.env).length=n:=by rfl) (hst:(assignEach es X.env).findIdx? (·.1)=none:=by rfl):PG X (.Tuple es k pos) (Q1 X.K n t):=by
 intro pq s σ H v u Q I r hw;obtain⟨a,xs,e1,hq,hl,hw⟩:=hw;subst e1;cases r;obtain⟨its,rv,ht,hz⟩:=I.tuple hq;refine assign_Tuple_tuple (I.ok.hd hc) ht (by simp[hn,<- hl,rv.length]) hst λh' hx=>?_
 have I1 :=I.kept (t':=s.toks) λb o e=>hx b o (Ò (Ä e)) e
 exact h pq _ σ H xs _ Q I1 (by omega) hw
def gSub(to ti:TE)(t:Rf):TG:=λv σ H Q=>to σ H λo H1=>ti σ H1 λi H2=>t o i v H2 λH3=>Q σ H3
theorem O5(ho:PE X o to)(hi:PE X i ti)(hs:Rn X t)
  (ha : ∀ v, assign (.Subscript o i pos) X.env v = (do
   let ov <- holding [v] (eval o X.env);let iv <- holding [v,ov] (eval i X.env)
   standAt pos
   holding [v,ov,iv] (setItem ov iv v)
   release [v,ov,iv] []):=by rfl):PG X (.Subscript o i pos) (gSub to ti t):=by
 intro pq s σ H v u Q I r h;refine À (ç (AQ (ho pq s σ H _ I h) λov s1 zz=>?_))
 obtain⟨x,H1,I1,r1,q1⟩:=zz;refine À (ç (AQ (hi pq s1 σ H1 _ I1 q1) λiv s2 zz=>?_))
 obtain⟨y,H2,I2,r2,q2⟩:=zz;refine À (ĳ (À (ç (AQ (hs pq s2 σ H2 x y v ov iv u _ I2 r1 r2 r q2) λ_ s3 zz=>?_))))
 obtain⟨H3,I3,q3⟩:=zz;exact wpAny_release ⟨σ,H3,I3,q3⟩
def GO(te:TE)(g:TG):TS:=λD σ H=>te σ H λx H1=>g x σ H1 D.nx
theorem Ld(he:PE X e te)(hg:PG X tg g)(hs:swapsWithSole [tg] e pos.line X.env=pure false:=by rfl)(hw:swappedStores [tg] e X.env=pure none:=by rfl)
  (h1:(assignEach [tg] X.env).map (·.2)=[assign tg X.env]:=by rfl):PS X (.Assign [tg] e pos) (GO te g):=by
 intro pq s σ H D I h;refine wpAny_Assign_stores (AQ (he pq s σ H _ I h) λv s1 zz=>?_) hs hw
 obtain⟨x,H1,I1,r1,q1⟩:=zz;rw[h1];exact AQ (hg pq s1 σ H1 x v _ I1 r1 q1) λ_ s2 q=>q
theorem Vv      (hN:X.N.Nodup)(hi:X.N[i]?=some x)(hx:Gp X.env.scope x)(he:PE X e te)(hs:swapsWith e (some (.Name x pos')) pos.line X.env=pure false:=by rfl)(hf:X.fn x=true\/X.env.scope.names.lookup x=some .local:=by rfl) :
  PS X (.Assign [.Name x pos'] e pos) (GO te (Fy i)):=by
 intro pq s σ H D I h;refine wpAny_Assign_Name (AQ (he pq s σ H _ I h) λv s1 zz=>?_) hs
 obtain⟨y,H1,I1,r1,q1⟩:=zz;exact Nn I1 hN hi hx r1 (λs2 I2=>⟨_,H1,I2,q1⟩) hf
end
section
variable {X:Cx}{pos:Pos}
def zlu(c:TT)(tb:TS):TS:=λD σ H=>∃W:Nat->St->Hp->Prop,(∃m,W m σ H)/\∀m σ H,W m σ H ->
 c σ H λb H1=>if b=true then ∃N:St->Hp->Prop,(∀σ' H',N σ' H'->∃m',m'<m/\W m' σ' H')/\tb { D with nx:=N,ct:=N,bk:=D.nx } σ H1 else D.nx σ H1
theorem zh2(hp:PassesOwn (model X.prog X.w) X.A X.env X.xe)(hc:PT X c tc)(hb:BB X body tb):PS X (.While c body [] pos) (zlu tc tb):=by
 intro pq s σ H D I h;obtain⟨W,⟨m0,w0⟩,turn⟩:=h;refine wpAny_While (codeAny_whileLoop (λn s'=>∃σ' H',Inv X pq σ' H' s'/\W n σ' H') ?_ m0 ⟨σ,H,I,w0⟩)
 rintro n s1 ⟨σ1,H1,I1,w1⟩;refine č hp (AQ (hc pq s1 σ1 H1 _ I1 (turn n σ1 H1 w1)) λb s2 zz=>?_)
 obtain⟨H2,I2,q2⟩:=zz;cases b with
 |true=>
  obtain⟨N,hN,q2⟩:=q2;rw[if_pos rfl];refine č hp (AQ (hb pq s2 σ1 H2 _ I2 q2) λf s3 q3=>?_)
  cases f with
  |next=>
   obtain⟨σ3,H3,I3,n3⟩:=q3
   grind
  |cont=>
   obtain⟨σ3,H3,I3,n3⟩:=q3
   grind
  |brk=>exact q3|ret v=>exact q3
 |false=>rw[if_neg û];exact Ĳ ⟨σ1,H2,I2,q2⟩
end
structure It where
 go:Nat->Hp->Prop
 yld:Nat->Hp->V->Hp->Prop
 stop:Nat->Hp->Prop
def CD(X:Cx)(pq:List (Addr×Obj))(H:Hp)(b:Addr):Prop:=
 H b=none/\b≠X.env.locals/\b∉X.fs/\(b∈X.ex\/X.s₀.heap.objs.size<=b)/\(∀x c,X.env.cells.lookup x=some c->c≠b)/\∀p∈X.pn++pq,p.1≠b
theorem Inv.fpOk{σ:St}{b:Addr}(I:Inv X pq σ H s)(hb:s.heap.objs.size<=b)(hn:H' b=none):CD X pq H' b:=by
 refine⟨hn,ě (Ù I.lt hb),I.nofs hb,.inr (Þ I.sz hb),λx c e z=>?_,λp hp z=>?_⟩
 .obtain⟨v,q⟩:=I.cell x c e;exact absurd (Ù q.lt (by grind)) (â _)
 .exact absurd (Ù (Ä (I.pin p hp).1) (by grind)) (â _)
structure Turn(P:Program)(w:World)(K:k6)(tg:Expr)(J:It)(fp:List Addr)(it:Addr)(tn:Nat->Heap->Prop):Prop where
 mem:it∈fp
 obj:∀i h,tn i h->∀b∈fp,∃o,h.get? b=some o/\∀v,o.data≠.cell v
 keep:∀i h h',tn i h->(∀b∈fp,∀o,h.get? b=some o->h'.get? b=some o)->tn i h'
 item:∀(X:Cx),X.prog=P->X.w=w->X.K=K->X.calm=true->∀(i:Nat) (pq:List (Addr×Obj)) (s:Shared) (σ:St) (H:Hp) (E:Value->Shared->Prop),Inv X pq σ H s->(∀b∈fp,CD X pq H b)->tn i s.heap->J.go i H ->
  wpAny (model P w) X.A (pyNext (.ref it)) (λr s1=>∃u,r=some u /\
   wpAny (model P w) X.A (letOwnedTupleGo tg (.ref it) u) (λ_ s2=>∃x H',Inv X pq σ H' s2/\A8 x u/\J.yld i H x H'/\tn (i+1) s2.heap/\∀b∈fp,H' b=none) E s1) E s
 done:∀(X:Cx),X.prog=P->X.w=w->X.K=K->X.calm=true->∀(i:Nat) (pq:List (Addr×Obj)) (s:Shared) (σ:St) (H:Hp) (E:Value->Shared->Prop),Inv X pq σ H s->(∀b∈fp,CD X pq H b)->tn i s.heap->J.stop i H ->
  wpAny (model P w) X.A (pyNext (.ref it)) (λr s1=>r=none/\Inv X pq σ H s1) E s
 self:∀(A:Around) (i:Nat) (s:Shared) (Q:Value->Shared->Prop) (E:Value->Shared->Prop),tn i s.heap->Q (.ref it) s->wpAny (model P w) A (pyIter (.ref it)) Q E s
abbrev TI:=St->Hp->(It->Hp->Prop)->Prop
def bV(X:Cx)(pq:List (Addr×Obj))(σ:St)(tg:Expr)(R:It->Hp->Prop)(itv:Value)(s2:Shared):Prop:=
 ∃(it:Addr) (fp:List Addr) (tn:Nat->Heap->Prop) (J:It) (H':Hp),itv=.ref it/\Inv X pq σ H' s2/\Turn X.prog X.w X.K tg J fp it tn/\tn 0 s2.heap/\(∀b∈fp,CD X pq H' b)/\R J H'
def PI(X:Cx)(tg iter:Expr)(wi:TI):Prop:=
 ∀(pq:List (Addr×Obj)) (s:Shared) (σ:St) (H:Hp) (R:It->Hp->Prop),Inv X pq σ H s->wi σ H R ->
  wpAny (model X.prog X.w) X.A (eval iter X.env) (λv s1=>wpAny (model X.prog X.w) X.A (pyIter v) (bV X pq σ tg R) X.xe s1) X.xe s
theorem MO            (ho:s.heap.get? it=some o)(hc:o.cls=.type n)(hd:o.data=.fields vs)
    (hn:["enumerate","zip","dict_itemiterator","dict_reverseitemiterator","odict_iterator","itertools.zip_longest","itertools.pairwise"].contains n=false) (hQ:Q () s):wpAny M A (letOwnedTupleGo tg (.ref it) u) Q E s:=by
  unfold letOwnedTupleGo
  cases tg<;>first
    |exact Å hQ
    |(cases u<;>first
        |exact Å hQ
        | (refine À (wpAny_load ho ?_)
           rw[hc,hd];show wpAny M A (if (["enumerate","zip","dict_itemiterator","dict_reverseitemiterator","odict_iterator","itertools.zip_longest","itertools.pairwise"].contains n && vs[0]? == some (rawInt _))=true then _ else _) Q E s
           rw[if_neg (by intro h;rw[hn,Bool.false_and]at h;cases h)]
           exact Å hQ))
def Rw(K:k6)(a:Addr):It:=
 ⟨λi H=>∃xs x,AX K H a xs/\xs[i]?=some x,λi H x H'=>H'=H/\∀xs,AX K H a xs->xs[i]?=some x,λi H=>∃xs,AX K H a xs/\xs.length<=i⟩
def Rv(K:k6)(a:Addr):It:=
 ⟨λi H=>∃xs x,Bp K H a xs/\xs[i]?=some x,λi H x H'=>H'=H/\∀xs,Bp K H a xs->xs[i]?=some x,λi H=>∃xs,Bp K H a xs/\xs.length<=i⟩
def NH(lo:Int)(n:Nat):It:=⟨λi _=>i<n,λi H x H'=>H'=H/\x=.int (lo+i),λi _=>n<=i⟩
theorem zex{K}(a it):Turn P w K tg (Rw K a) [it] it (λi h=>h.IsListIter it a i) where
 mem:=by simp
 obj:=λi h st b hb=>by
  have e :=by simpa using hb
  subst e;obtain⟨o,e,c,d⟩:=st;exact⟨o,e,λv z=>by rw[d]at z;cases z⟩
 keep:=λi h h' st k=>st.at λo e=>k it (by simp) o e
 item:=by
  intro X hP hw hK hc i pq s σ H E I hf st hg;subst hP hw hK;obtain⟨xs,x,hq,hx⟩:=hg;obtain⟨its,rv,p,hz⟩:=I.list hq;obtain⟨u,hu,ru⟩:=rv.get hx;obtain⟨f0,f1,f2,f3,f4,f5⟩:=hf it (by simp)
  refine wpAny_pyNext_list_item st p.isList (by simpa using hu) λh' st' sb=>?_
  have I1 :=I.turned (t':=s.toks) (λb o hb e=>(sb.2 b hb).trans e) f0 f1 f3 f4 f5
  obtain⟨o,e,c,d⟩:=id st';exact⟨u,rfl,MO e c d (by decide) ⟨x,H,I1,ru,⟨rfl,λys hy=>by rw[I.list_inj hy hq];exact hx⟩,st',λb hb=>(hf b hb).1⟩⟩
 done:=by
  intro X hP hw hK hc i pq s σ H E I hf st hg;subst hP hw hK;obtain⟨xs,hq,hx⟩:=hg;obtain⟨its,rv,p,hz⟩:=I.list hq;obtain⟨f0,f1,f2,f3,f4,f5⟩:=hf it (by simp)
  have hl:=rv.length;exact wpAny_pyNext_list_end (I.ok.hd hc) st p.isList (by simp;omega) λh' eb=>⟨rfl,I.turned (λb o hb e=>eb b o hb e) f0 f1 f3 f4 f5⟩
 self:=λ_ _ _ _ _ st h=>wpAny_pyIter_listiter st h
theorem zdw{K}(a it):Turn P w K tg (Rv K a) [it] it (λi h=>h.IsTupleIter it a i) where
 mem:=by simp
 obj:=λi h st b hb=>by
  have e :=by simpa using hb
  subst e;obtain⟨o,e,c,d⟩:=st;exact⟨o,e,λv z=>by rw[d]at z;cases z⟩
 keep:=λi h h' st k=>st.at λo e=>k it (by simp) o e
 item:=by
  intro X hP hw hK hc i pq s σ H E I hf st hg;subst hP hw hK;obtain⟨xs,x,hq,hx⟩:=hg;obtain⟨its,rv,p,hz⟩:=I.tuple hq;obtain⟨u,hu,ru⟩:=rv.get hx;obtain⟨f0,f1,f2,f3,f4,f5⟩:=hf it (by simp)
  refine wpAny_pyNext_tuple_item st (p) (by simpa using hu) λh' st' sb=>?_
  have I1 :=I.turned (t':=s.toks) (λb o hb e=>(sb.2 b hb).trans e) f0 f1 f3 f4 f5
  obtain⟨o,e,c,d⟩:=id st';exact⟨u,rfl,MO e c d (by decide) ⟨x,H,I1,ru,⟨rfl,λys hy=>by rw[I.tuple_inj hy hq];exact hx⟩,st',λb hb=>(hf b hb).1⟩⟩
 done:=by
  intro X hP hw hK hc i pq s σ H E I hf st hg;subst hP hw hK;obtain⟨xs,hq,hx⟩:=hg;obtain⟨its,rv,p,hz⟩:=I.tuple hq;obtain⟨f0,f1,f2,f3,f4,f5⟩:=hf it (by simp)
  have hl:=rv.length;exact wpAny_pyNext_tuple_end (I.ok.hd hc) st (p) (by simp;omega) λh' eb=>⟨rfl,I.turned (λb o hb e=>eb b o hb e) f0 f1 f3 f4 f5⟩
 self:=λ_ _ _ _ _ st h=>wpAny_pyIter_tupleiter st h
theorem zdx{K}(it)(lo)(n):Turn P w K tg (NH lo n) [it] it (λi h=>IsRangeIter h it (lo+i * 1) (n - i) 1) where
 mem:=by simp
 obj:=λi h st b hb=>by
  have e :=by simpa using hb
  subst e
  exact⟨_,st,λv z=>by
   have z' :=z;cases z'⟩
 keep:=λi h h' st k=>k it (by simp) _ st
 item:=by
  intro X hP hw hK hc i pq s σ H E I hf st hg;subst hP hw hK;obtain⟨f0,f1,f2,f3,f4,f5⟩:=hf it (by simp)
  have W:=Walks.range (prog:=X.prog) (w:=X.w) (I.ok.hd hc) it lo 1 n;refine W.item i s _ _ hg st λv h' tk hv st' kk=>?_
  obtain⟨t,rfl⟩:=hv;have I1:Inv X pq σ H { s with heap:=h',toks:=tk }:=I.turned (λb o hb e=>kk b o (by simpa using hb) e) f0 f1 f3 f4 f5
  refine⟨_,rfl,MO st' rfl rfl (by decide) ⟨.int (lo+i),H,I1,⟨t,?_⟩,⟨rfl,rfl⟩,st',λb hb=>(hf b hb).1⟩⟩
  rw[Int.mul_one]
 done:=by
  intro X hP hw hK hc i pq s σ H E I hf st hg;subst hP hw hK;obtain⟨f0,f1,f2,f3,f4,f5⟩:=hf it (by simp)
  exact wpAny_pyNext_range_end (I.ok.hd hc) st (by have:n<=i:=hg;omega) λh' eb=>⟨rfl,I.turned (λb o hb e=>eb b o hb e) f0 f1 f3 f4 f5⟩
 self:=λ_ _ _ _ _ st h=>wpAny_pyIter_rangeiter st h
section
variable {X:Cx}{tg:Expr}
def iList(K:k6)(tl:TE):TI:=λσ H R=>tl σ H λx H1=>∃a,x=.ref a/\(∃xs,AX K H1 a xs)/\R (Rw K a) H1
def iTup(K:k6)(tl:TE):TI:=λσ H R=>tl σ H λx H1=>∃a,x=.ref a/\(∃xs,Bp K H1 a xs)/\R (Rv K a) H1
theorem zjy(hl:PE X l tl):PI X tg l (iList X.K tl):=by
 intro pq s σ H R I h;refine AQ (hl pq s σ H _ I h) λv s1 zz=>?_
 obtain⟨x,H1,I1,r1,q1⟩:=zz;obtain⟨a,e,⟨xs,hq⟩,q⟩:=q1;subst e;cases r1;obtain⟨its,rv,p,hz⟩:=I1.list hq;refine ĝ p.isList ?_;refine⟨s1.heap.objs.size,[s1.heap.objs.size],_,_,H1,rfl,I1.kept λb o e=>Ë _ e,zex a _,⟨_,à _ rfl,rfl,rfl⟩,λb hb=>?_,q⟩
 have e:b=s1.heap.objs.size:=by grind
 subst e;exact I1.fpOk (Ç _) (I1.hok.fresh (Ç _))
theorem zn9(hl:PE X l tl):PI X tg l (iTup X.K tl):=by
 intro pq s σ H R I h;refine AQ (hl pq s σ H _ I h) λv s1 zz=>?_
 obtain⟨x,H1,I1,r1,q1⟩:=zz;obtain⟨a,e,⟨xs,hq⟩,q⟩:=q1;subst e;cases r1;obtain⟨its,rv,p,hz⟩:=I1.tuple hq;refine wpAny_pyIter_tuple (p) ?_;refine⟨s1.heap.objs.size,[s1.heap.objs.size],_,_,H1,rfl,I1.kept λb o e=>Ë _ e,zdw a _,⟨_,à _ rfl,rfl,rfl⟩,λb hb=>?_,q⟩
 have e:b=s1.heap.objs.size:=by grind
 subst e;exact I1.fpOk (Ç _) (I1.hok.fresh (Ç _))
theorem zgw{σ:St} {lo hi:Int} (I:Inv X pq σ H s)(h1:-(2 ^ 62)<=lo)(h2:lo<2 ^ 62)(h3:-(2 ^ 62)<=hi)(h4:hi<2 ^ 62)
  (q:R (NH lo (hi - lo).toNat) H):wpAny (model X.prog X.w) X.A (pyIter (.ref s.heap.objs.size)) (bV X pq σ tg R) E { s with heap:=s.heap.push { cls:=.type "range",data:=.fields #[.int lo t,.int hi u,.int 1 v] },toks:=tk }:=by
 refine wpAny_pyIter_range (IsRange.new ..) (small_one h1 h2 h3 h4) ?_;have I1:Inv X pq σ H { s with heap:=s.heap.push { cls:=.type "range",data:=.fields #[.int lo t,.int hi u,.int 1 v] },toks:=tk }:=I.kept λb o e=>Ë _ e
 refine⟨(s.heap.push { cls:=.type "range",data:=.fields #[.int lo t,.int hi u,.int 1 v] }).objs.size,[(s.heap.push { cls:=.type "range",data:=.fields #[.int lo t,.int hi u,.int 1 v] }).objs.size],_,_,H,rfl,
  I1.kept λb o e=>Ë _ e,zdx _ lo (hi - lo).toNat,?_,λb hb=>?_,q⟩
 .have e1:lo+(0:Nat) * 1=lo:=by simp
  have e2:(hi - lo).toNat - (0:Nat)=Builtin.Range.rangeSize lo hi 1:=by rw[rangeSize_one];grind
  rw[e1,e2];exact à _ rfl
 .have e:b=(s.heap.push { cls:=.type "range",data:=.fields #[.int lo t,.int hi u,.int 1 v] }).objs.size:=by grind
  subst e;exact I1.fpOk (Ç _) (I1.hok.fresh (Ç _))
def iRng1(ta:TA):TI:=λσ H R=>ta σ H λvs H1=>∃j:Int,vs=[.int j]/\-(2 ^ 62)<=j/\j<2 ^ 62/\R (NH 0 j.toNat) H1
theorem zf1(hg:Gl X "range")(hm:X.mg "range"=none)(ha:PA X [a] ta)(hs:starEach [a] X.env=[(false,eval a X.env)]:=by rfl):PI X tg (.Call (.Name "range" p) [a] [] pos) (iRng1 ta):=by
 intro pq s σ H R I h;refine Call_ (F7 I hg hm boot_range (Ċ (AQ (ha pos pq s σ H _ I h) λus s1 zz=>?_) hs rfl))
 obtain⟨vs,H1,I1,r1,q1⟩:=zz;obtain⟨j,e,q1,q2,q⟩:=q1;subst e;cases r1 with
 |cons r rr=>cases rr;obtain⟨t,rfl⟩:=r;exact call_range_1 (zgw I1 (by omega) (by omega) q1 q2 (by simpa using q))
def tFor(wi:TI)(g:TG)(tb:TS):TS:=λD σ H=>wi σ H λJ H1=>∃W:Nat->Nat->St->Hp->Prop,(∃m,W 0 m σ H1)/\∀i m σ H,W i m σ H ->
 (J.stop i H/\D.nx σ H)\/(J.go i H/\∃N:St->Hp->Prop,(∀σ' H',N σ' H'->∃m',m'<m/\W (i+1) m' σ' H')/\∀x H',J.yld i H x H'->g x σ H' λσ2 H2=>tb { D with nx:=N,ct:=N,bk:=D.nx } σ2 H2)
def Gy(fp:List Addr)(h:Heap):List (Addr×Obj):=fp.filterMap λb=>(h.get? b).map λo=>(b,o)
theorem HF(hb:b∈fp)(e:h.get? b=some o):(b,o)∈Gy fp h:=Ħ.mpr ⟨b,hb,by rw[e];rfl⟩
theorem WO(hp:p∈Gy fp h):p.1∈fp/\h.get? p.1=some p.2:=by
 obtain⟨b,hb,e⟩:=Ħ.mp hp;cases q:h.get? b with
 |none=>grind|some o=>grind
theorem Inv.pinned{σ:St}(I:Inv X pq σ H s)(hf:∀b∈fp,CD X pq H b)(ho:∀b∈fp,∃o,s.heap.get? b=some o/\∀v,o.data≠.cell v):Inv X (pq++Gy fp s.heap) σ H s:=
 I.pins_of λp hp=>(é.mp hp).elim (λz=>I.pin p (ã _ z)) λz=>by
  obtain⟨hb,e⟩:=WO z;obtain⟨f0,f1,f2,_⟩:=hf p.1 hb
  grind
theorem Inv.unpinned{σ:St}(I:Inv X (pq++pl) σ H s):Inv X pq σ H s:=I.pins_of λp hp=>I.pin p (ã _ (Ē _ hp))
theorem zn5(hp:PassesOwn (model X.prog X.w) X.A X.env X.xe)(hc:X.calm=true)(hi:PI X tg iter wi)(hg:PG X tg g)(hb:BB X body tb)
  (hs:∀x,foldedSetIterable iter X.env x=pure x:=by intro _;rfl):PS X (.For tg iter body [] pos) (tFor wi g tb):=by
 intro pq s σ H D I h;refine wpAny_For (AQ (hi pq s σ H _ I h) λv s1 h1=>AQ h1 λitv s2 h2=>?_) hs
 obtain⟨it,fp,tn,J,H2,e,I2,T,st2,f2,W,⟨m0,w0⟩,turn⟩:=h2;subst e;have stat:∀{H' },(∀b∈fp,H' b=none)->∀b∈fp,CD X pq H' b:=λhn b hb=>⟨hn b hb,(f2 b hb).2⟩
 refine codeAny_forLoop_any (λn s'=>∃i σ' H',Inv X pq σ' H' s'/\tn i s'.heap/\(∀b∈fp,H' b=none)/\W i n σ' H') ?_ m0 ⟨0,σ,H2,I2,st2,λb hb=>(f2 b hb).1,w0⟩
 rintro n s3 ⟨i,σ3,H3,I3,st3,fr3,w3⟩
 rcases turn i n σ3 H3 w3 with ⟨stop,qn⟩|⟨go,N,hN,step⟩
 .refine č hp (AQ (T.done X rfl rfl rfl hc i pq s3 σ3 H3 X.xe I3 (stat fr3) st3 stop) λr s4 zz=>?_)
  obtain⟨hr,I4⟩:=zz;subst hr;exact Ĳ ⟨σ3,H3,I4,qn⟩
 .refine č hp (AQ (T.item X rfl rfl rfl hc i pq s3 σ3 H3 X.xe I3 (stat fr3) st3 go) λr s4 zz=>?_)
  obtain⟨u,hr,h4⟩:=zz;subst hr;refine č hp (AQ h4 λ_ s5 zz=>?_)
  obtain⟨x,H5,I5,r5,y5,st5,fr5⟩:=zz;have I5':=I5.pinned (stat fr5) (T.obj _ _ st5);refine č hp (AQ (hg _ s5 σ3 H5 x u _ I5' r5 (step x H5 y5)) λ_ s6 zz=>?_)
  obtain⟨σ6,H6,I6,q6⟩:=zz;refine č hp (AQ (hb _ s6 σ6 H6 _ I6 q6) λf s7 q7=>?_)
  have again:∀{σ7 } {H7 },Inv X (pq++Gy fp s5.heap) σ7 H7 s7->N σ7 H7->∃m,m<n/\∃i σ' H',Inv X pq σ' H' s7/\tn i s7.heap/\(∀b∈fp,H' b=none)/\W i m σ' H':=λ{σ7 H7} I7 n7=>by
   obtain⟨m',hm,w7⟩:=hN σ7 H7 n7;refine⟨m',hm,i+1,σ7,H7,I7.unpinned,T.keep _ _ _ st5 λb hb o e=>(I7.pin (b,o) (ã _ (ã _ (HF hb e)))).1,λb hb=>?_,w7⟩
   obtain⟨o,e,d⟩:=T.obj _ _ st5 b hb;exact(I7.pin (b,o) (ã _ (ã _ (HF hb e)))).2.1
  cases f with
  |next=>obtain⟨σ7,H7,I7,n7⟩:=q7;exact again I7 n7
  |cont=>obtain⟨σ7,H7,I7,n7⟩:=q7;exact again I7 n7
  |brk=>obtain⟨σ7,H7,I7,q7⟩:=q7;exact⟨σ7,H7,I7.unpinned,q7⟩
  |ret v=>obtain⟨x7,σ7,H7,I7,r7,q7⟩:=q7;exact⟨x7,σ7,H7,I7.unpinned,r7,q7⟩
end
abbrev R2:=V->V->Hp->VK->Prop
def Ae(X:Cx)(f:Value->Value->Sem Value)(r:R2):Prop:=
 ∀(pq:List (Addr×Obj)) (s:Shared) (σ:St) (H:Hp) (x y:V) (v u:Value) (Q:VK),Inv X pq σ H s->A8 x v->A8 y u->r x y H Q ->
  wpAny (model X.prog X.w) X.A (f v u) (EP X pq σ Q) X.xe s
def K0(X:Cx)(f:Value->Sem Value)(r:V->Hp->VK->Prop):Prop:=
 ∀(pq:List (Addr×Obj)) (s:Shared) (σ:St) (H:Hp) (x:V) (v:Value) (Q:VK),Inv X pq σ H s->A8 x v->r x H Q ->
  wpAny (model X.prog X.w) X.A (f v) (EP X pq σ Q) X.xe s
def Bj(X:Cx)(f:Value)(r:kK->Hp->VK->Prop):Prop:=
 ∀(pq:List (Addr×Obj)) (s:Shared) (σ:St) (H:Hp) (xs:kK) (us:k9) (Q:VK),Inv X pq σ H s->A9 xs us->r xs H Q ->
  wpAny (model X.prog X.w) X.A (call f us) (EP X pq σ Q) X.xe s
def Hn(r:R2)(ta tb:TE):TE:=λσ H Q=>ta σ H λx H1=>tb σ H1 λy H2=>r x y H2 Q
def Sq(r:V->Hp->VK->Prop)(ta:TE):TE:=λσ H Q=>ta σ H λx H1=>r x H1 Q
def rI(C:Int->Int->Prop)(g:Int->Int->V):R2:=λx y H Q=>∃i j,x=.int i/\y=.int j/\C i j/\Q (g i j) H
def EY(g:Int->Int->V):R2:=λx y H Q=>∃i j,x=.int i/\y=.int j/\Q (g i j) H
def rU(g:Int->V):V->Hp->VK->Prop:=λx H Q=>∃i,x=.int i/\Q (g i) H
section
variable {X:Cx}{a b c:Expr}{ta tb tc:TE}{pos:Pos}
theorem R6(ha:PE X a ta)(hb:PE X b tb){σ:St}{R:V->V->Hp->Prop}(I:Inv X pq σ H s)
  (h:ta σ H λx H1=>tb σ H1 λy H2=>R x y H2)  {f:Value->Value->Sem Value}
  (hf:∀v u s2 x y H2,Inv X pq σ H2 s2->A8 x v->A8 y u->R x y H2->wpAny (model X.prog X.w) X.A (f v u) Q X.xe s2) :
  wpAny (model X.prog X.w) X.A (eval a X.env) (λv s₁=>wpAny (model X.prog X.w) X.A (eval b X.env) (λu s₂=>wpAny (model X.prog X.w) X.A (f v u) Q X.xe s₂) X.xe s₁) X.xe s:=by
 refine AQ (ha pq s σ H _ I h) λv s1 zz=>?_
 obtain⟨x,H1,I1,r1,q1⟩:=zz;refine AQ (hb pq s1 σ H1 _ I1 q1) λu s2 zz=>?_
 obtain⟨y,H2,I2,r2,q2⟩:=zz;grind
theorem pe_op(ho:Ae X (binaryOp op) r)(ha:PE X a ta)(hb:PE X b tb):PE X (.BinOp a op b pos) (Hn r ta tb):=by
 intro pq s σ H Q I h;exact wpAny_BinOp (R6 ha hb I h λv u s2 x y H2 I2 rx ry q=>ho pq s2 σ H2 x y v u Q I2 rx ry q)
theorem pe_un(ho:K0 X (unaryOp op) r)(ha:PE X a ta):PE X (.UnaryOp op a pos) (Sq r ta):=by
 intro pq s σ H Q I h;exact UnaryOp_ (AQ (ha pq s σ H _ I h) λv s1 ⟨x,H1,I1,r1,q1⟩=>ho pq s1 σ H1 x v Q I1 r1 q1)
theorem J0{g:Int->Int->Int}
  (rule:∀(i j ) (t u ) (s ) (Q ) (E ),C i j->Q (.int (g i j) s.toks) { s with toks:=s.toks+1 }->wpAny (model X.prog X.w) X.A (f (.int i t) (.int j u)) Q E s) :
  Ae X f (rI C λi j=>.int (g i j)):=by
 intro pq s σ H x y v u Q I rx ry h;obtain⟨i,j,rfl,rfl,hc,q⟩:=h;obtain⟨t,rfl⟩:=rx;obtain⟨t',rfl⟩:=ry;exact rule i j t t' s _ _ hc ⟨.int (g i j),H,I.tok _,⟨_,rfl⟩,q⟩
theorem Lj{g:Int->Int->Int}
  (rule:∀(i j ) (t u ) (s ) (Q ) (E ),Q (.int (g i j) s.toks) { s with toks:=s.toks+1 }->wpAny (model X.prog X.w) X.A (f (.int i t) (.int j u)) Q E s) :
  Ae X f (EY λi j=>.int (g i j)):=by
 intro pq s σ H x y v u Q I rx ry h;obtain⟨i,j,rfl,rfl,q⟩:=h;obtain⟨t,rfl⟩:=rx;obtain⟨t',rfl⟩:=ry;exact rule i j t t' s _ _ ⟨.int (g i j),H,I.tok _,⟨_,rfl⟩,q⟩
theorem Lk{g:Int->Int->Bool}
  (rule:∀(i j ) (t u ) (s ) (Q ) (E ),Q (.bool (g i j)) s->wpAny (model X.prog X.w) X.A (f (.int i t) (.int j u)) Q E s) :
  Ae X f (EY λi j=>.bl (g i j)):=by
 intro pq s σ H x y v u Q I rx ry h;obtain⟨i,j,rfl,rfl,q⟩:=h;obtain⟨t,rfl⟩:=rx;obtain⟨t',rfl⟩:=ry;exact rule i j t t' s _ _ ⟨.bl (g i j),H,I,rfl,q⟩
def CPow(i j:Int):Prop:=0<=j/\j<=1000000/\i.natAbs<2 ^ 64
def SE(i j:Int):Prop:=(-(2 ^ 64)<i/\i<2 ^ 64)\/(-(2 ^ 64)<j/\j<2 ^ 64)
theorem SE.ok(h:SE i j):IntMulOk i j:=by
 rcases h with ⟨h1,h2⟩|⟨h1,h2⟩
 .exact .of_left (intBits_le_64 h1 h2)
 .exact .of_right (intBits_le_64 h1 h2)
theorem znr:Ae X (binaryOp .Add) (EY λi j=>.int (i+j)):=Lj λ_ _ _ _ _ _ _ q=>add_int q
theorem znk:Ae X (binaryOp .Sub) (EY λi j=>.int (i - j)):=Lj λ_ _ _ _ _ _ _ q=>sub_int q
theorem WH:Ae X (binaryOp .Mult) (rI SE λi j=>.int (i * j)):=J0 λ_ _ _ _ _ _ _ hc q=>mul_int q hc.ok
theorem zk8:Ae X (binaryOp .Mod) (rI (λ_ j=>j≠0) λi j=>.int (i.fmod j)):=J0 λ_ _ _ _ _ _ _ hc q=>mod_int' hc q
theorem znm:Ae X (binaryOp .Pow) (rI CPow λi j=>.int (i ^ j.toNat)):=J0 λ_ _ _ _ _ _ _ hc q=>pow_int_small hc.1 hc.2.1 hc.2.2 q
theorem znq:Ae X (binaryOp .BitAnd) (EY λi j=>.int (Builtin.bitAnd i j)):=Lj λ_ _ _ _ _ _ _ q=>and_int q
theorem op_or:Ae X (binaryOp .BitOr) (EY λi j=>.int (Builtin.bitOr i j)):=Lj λ_ _ _ _ _ _ _ q=>or_int q
theorem unI{g:Int->Int}
  (rule:∀(i ) (t ) (s ) (Q ) (E ),Q (.int (g i) s.toks) { s with toks:=s.toks+1 }->wpAny (model X.prog X.w) X.A (f (.int i t)) Q E s) :
  K0 X f (rU λi=>.int (g i)):=by
 intro pq s σ H x v Q I rx h;obtain⟨i,rfl,q⟩:=h;obtain⟨t,rfl⟩:=rx;exact rule i t s _ _ ⟨.int (g i),H,I.tok _,⟨_,rfl⟩,q⟩
theorem zls:K0 X (unaryOp .USub) (rU λi=>.int (-i)):=unI λ_ _ _ _ _ q=>neg_int q
end
section
variable {X:Cx}{a b c:Expr}{ta tb tc:TE}{pos:Pos}
theorem KH{σ:St}(I:Inv X pq σ H s)(q:Q (.bl k) H)(e:k=k'):EP X pq σ Q (.bool k') s:=by
 subst e;exact⟨.bl k,H,I,rfl,q⟩
theorem op_lt:Ae X (compareOp .Lt) (EY λi j=>.bl (decide (i<j))):=Lk λ_ _ _ _ _ _ _ q=>lt_int q
theorem WI:Ae X (compareOp .LtE) (EY λi j=>.bl (decide (i<=j))):=Lk λ_ _ _ _ _ _ _ q=>le_int q
theorem op_gt:Ae X (compareOp .Gt) (EY λi j=>.bl (decide (j<i))):=Lk λ_ _ _ _ _ _ _ q=>gt_int q
theorem op_ge:Ae X (compareOp .GtE) (EY λi j=>.bl (decide (j<=i))):=Lk λ_ _ _ _ _ _ _ q=>ge_int q
theorem zf2:Ae X (compareOp .In) (λx y H Q=>∃i j,x=.str i/\y=.str j/\Q (.bl (!(Builtin.Str.occurrences j i 0 j.length 1).isEmpty)) H):=by
 intro pq s σ H x y v u Q I rx ry h;obtain⟨i,j,rfl,rfl,q⟩:=h;obtain⟨t,rfl⟩:=rx;obtain⟨t',rfl⟩:=ry;exact in_str (KH I q rfl)
theorem znn:Ae X (compareOp .Is) (λx y H Q=>y=.non/\Q (.bl (decide (x=.non))) H):=by
 intro pq s σ H x y v u Q I rx ry h;obtain⟨rfl,q⟩:=h;cases ry;refine is_none_gen (KH I q ?_)
 cases x<;>first
  |rfl
  |(obtain⟨t,rfl⟩:=rx;rfl)
theorem zk5:Ae X (compareOp .IsNot) (λx y H Q=>y=.non/\Q (.bl (!decide (x=.non))) H):=by
 intro pq s σ H x y v u Q I rx ry h;obtain⟨rfl,q⟩:=h;cases ry;refine isnot_none_gen (KH I q ?_)
 cases x<;>first
  |rfl
  |(obtain⟨t,rfl⟩:=rx;rfl)
theorem zk3   (ho:Ae X (compareOp op) r)(ha:PE X a ta)(hb:PE X b tb)(hm:behindInMarks op b=false):PE X (.Compare a [op] [b] pos) (Hn r ta tb):=by
 intro pq s σ H Q I h;exact wpAny_Compare1 (R6 ha hb I h λv u s2 x y H2 I2 rx ry q=>ho pq s2 σ H2 x y v u Q I2 rx ry q) hm
def Sr(t:TE):TT:=λσ H Q=>t σ H λx H'=>∃k,x=.bl k/\Q k H'
theorem zjr(ho:Ae X (compareOp op) r)(ha:PE X a ta)(hb:PE X b tb)(hm:behindInMarks op b=false):PT X (.Compare a [op] [b] pos) (Sr (Hn r ta tb)):=by
 intro pq s σ H Q I h
 refine wpAny_isTrue_Compare1 (AQ (ha pq s σ H _ I h) λv s1 ⟨x,H1,I1,r1,q1⟩=>AQ (hb pq s1 σ H1 _ I1 q1) λu s2 ⟨y,H2,I2,r2,q2⟩=>
  AQ (ho pq s2 σ H2 x y v u _ I2 r1 r2 q2) λc s3 ⟨z,H3,I3,r3,k,e,q3⟩=>?_) hm
 subst e;cases r3;exact þ ⟨H3,I3,q3⟩
def Nk(r r':R2)(ta tb tc:TE):TE:=λσ H Q=>ta σ H λx H1=>tb σ H1 λy H2=>r x y H2 λz H3=>∃k,z=.bl k /\
 (if k=true then tc σ H3 λw' H4=>r' y w' H4 Q else Q (.bl false) H3)
theorem zh8(ho:Ae X (compareOp op) r)(ho':Ae X (compareOp op') r')(ha:PE X a ta)(hb:PE X b tb)(hc:PE X c tc)
  (hm:lastMarks [op,op'] [b,c]=false:=by rfl):PE X (.Compare a [op,op'] [b,c] pos) (Nk r r' ta tb tc):=by
 intro pq s σ H Q I h
 refine Compare_chain (AQ (ha pq s σ H _ I h) λv s1 ⟨x,H1,I1,r1,q1⟩=>chain_link (AQ (hb pq s1 σ H1 _ I1 q1) λu s2 ⟨y,H2,I2,r2,q2⟩=>
  AQ (ho pq s2 σ H2 x y v u _ I2 r1 r2 q2) λd s3 ⟨z,H3,I3,r3,k,e,q3⟩=>?_)) hm
 subst e;cases r3;refine þ ?_;cases k with
 |false=>exact ite_ff ⟨.bl false,H3,I3,rfl,q3⟩|true=>exact ite_tt (chain_last (AQ (hc pq s3 σ H3 _ I3 q3) λw' s4 ⟨z',H4,I4,r4,q4⟩=>ho' pq s4 σ H4 y z' u w' Q I4 r2 r4 q4))
theorem zh0(ho:Ae X (compareOp op) r)(ho':Ae X (compareOp op') r')(ha:PE X a ta)(hb:PE X b tb)(hc:PE X c tc)
  (hm:lastMarks [op,op'] [b,c]=false:=by rfl):PT X (.Compare a [op,op'] [b,c] pos) (Sr (Nk r r' ta tb tc)):=by
 intro pq s σ H Q I h
 refine isTrue_chain (AQ (ha pq s σ H _ I h) λv s1 ⟨x,H1,I1,r1,q1⟩=>test_link (AQ (hb pq s1 σ H1 _ I1 q1) λu s2 ⟨y,H2,I2,r2,q2⟩=>
  AQ (ho pq s2 σ H2 x y v u _ I2 r1 r2 q2) λd s3 ⟨z,H3,I3,r3,k,e,q3⟩=>?_)) hm
 subst e;cases r3;refine þ ?_;cases k with
 |false=>obtain⟨k',e',q'⟩:=q3;cases e';exact ite_ff ⟨H3,I3,q'⟩
 |true=>
  refine ite_tt (test_last (AQ (hc pq s3 σ H3 _ I3 q3) λw' s4 ⟨z',H4,I4,r4,q4⟩=>AQ (ho' pq s4 σ H4 y z' u w' _ I4 r2 r4 q4) λd' s5 zz=>?_))
  obtain⟨z2,H5,I5,r5,k2,e2,q5⟩:=zz;subst e2;cases r5;exact þ ⟨H5,I5,q5⟩
theorem Jo:(sizeLine:Nat)<2 ^ 63:=by rw[ć];decide
theorem ze1:Ae X (binaryOp .Add) (λx y H Q=>∃i j,x=.str i/\y=.str j/\i.length+j.length<=sizeLine/\Q (.str (i++j)) H):=by
 intro pq s σ H x y v u Q I rx ry h;obtain⟨i,j,rfl,rfl,hz,q⟩:=h;obtain⟨t,rfl⟩:=rx;obtain⟨t',rfl⟩:=ry;exact add_str (λt' tk=>⟨.str (i++j),H,I.tok _,⟨_,rfl⟩,q⟩) hz
theorem EI(r:A9 [x] us):∃u,us=[u]/\A8 x u:=by
 cases r with
 |cons r1 r2=>cases r2;grind
theorem FO(r:A9 [x,y] us):∃u w',us=[u,w']/\A8 x u/\A8 y w':=by
 cases r with
 |cons r1 r2=>
  cases r2 with
  |cons r3 r4=>cases r4;grind
theorem zik:Bj X (.builtin "abs") (λxs H Q=>∃i,xs=[.int i]/\Q (.int (if i<0 then -i else i)) H):=by
 intro pq s σ H xs us Q I r h;obtain⟨i,rfl,q⟩:=h;obtain⟨u,rfl,t,rfl⟩:=EI r;exact call_abs_int λu tk=>⟨.int (if i<0 then -i else i),H,I.tok _,⟨_,rfl⟩,q⟩
theorem zg5(hc:X.calm=true):Bj X (.builtin "min") (λxs H Q=>∃i j,xs=[.int i,.int j]/\Q (.int (if j<i then j else i)) H):=by
 intro pq s σ H xs us Q I r h;obtain⟨i,j,rfl,q⟩:=h;obtain⟨u,w',rfl,⟨t,rfl⟩,⟨t',rfl⟩⟩:=FO r;refine min_two_ints (I.ok.hd hc) λh' tk k=>⟨_,H,I.kept k,?_,q⟩
 by_cases hj:j<i
 .rw[if_pos hj,if_pos hj];exact⟨_,rfl⟩
 .rw[if_neg hj,if_neg hj];exact⟨_,rfl⟩
theorem aX:Bj X (.type "int") (λxs H Q=>(∃i,xs=[.int i]/\Q (.int i) H)\/∃k,xs=[.bl k]/\Q (.int (if k then 1 else 0)) H):=by
 intro pq s σ H xs us Q I r h
 rcases h with ⟨i,rfl,q⟩|⟨k,rfl,q⟩
 .obtain⟨u,rfl,t,rfl⟩:=EI r;exact call_int_int ⟨.int i,H,I,⟨_,rfl⟩,q⟩
 .obtain⟨u,rfl,r1⟩:=EI r;cases r1;exact call_int_bool ⟨.int (if k then 1 else 0),H,I.tok _,⟨_,rfl⟩,q⟩
def LenV(K:k6)(x:V)(H:Hp)(n:Nat):Prop:=
 match x with
 |.str y=>y.length<=sizeLine/\n=y.length|.byt y=>y.size<=sizeLine/\n=y.size|.ref p=>(∃xs,AX K H p xs/\n=xs.length)\/∃xs,Bp K H p xs/\n=xs.length|_=>False
theorem aW:Bj X (.builtin "len") (λxs H Q=>∃x n,xs=[x]/\LenV X.K x H n/\Q (.int n) H):=by
 intro pq s σ H xs us Q I r h;obtain⟨x,n,rfl,e,q⟩:=h;obtain⟨u,rfl,rx⟩:=EI r;have hl:=Jo;have hs :=ć;cases x with
 |str y=>obtain⟨t,rfl⟩:=rx;obtain⟨hy,e'⟩:y.length<=sizeLine/\n=y.length:=e;subst e';exact len_str (by omega) ⟨.int _,H,I.tok _,⟨_,rfl⟩,q⟩
 |byt y=>obtain⟨t,rfl⟩:=rx;obtain⟨hy,e'⟩:y.size<=sizeLine/\n=y.size:=e;subst e';exact W.len_bytes (by omega) ⟨.int _,H,I.tok _,⟨_,rfl⟩,q⟩
 |ref p=>
  cases rx;have e' :=e
  rcases e' with ⟨xs,hx,e'⟩|⟨xs,hx,e'⟩
  .subst e';obtain⟨its,r',pl,hz⟩:=I.list hx;have hlen:=r'.length;exact Calls.call_len_list pl.isList (by erw[ô];omega) ⟨.int xs.length,H,I.tok _,⟨_,by erw[ô];rw[hlen]⟩,q⟩
  .subst e';obtain⟨its,r',pl,hz⟩:=I.tuple hx;have hlen:=r'.length;exact len_tuple pl (by grind) ⟨.int xs.length,H,I.tok _,⟨_,by erw[ô];rw[hlen]⟩,q⟩
 |_=>exact(e).elim
end
structure ObjM(h:Heap)(x dx C:Addr)(mA:Str->Option Value):Prop where
 obj:h.get? x=some (W.instObj C dx)
 ns:h.Ns1 dx mA
 ne:dx≠x
theorem zfb{h:Heap}(n:h.Ns1 dx mA):∃od,h.get? dx=some od/\∀name,W.lookIn name od=some (mA name):=by
 obtain⟨o,es,ep,ho,hd,hk,_,hm⟩:=n;refine⟨o,ho,λname=>?_⟩
 have e:=hm name;unfold nsFind findBy at e;rw[<- Array.find?_toList]at e;unfold W.lookIn;rw[hd];dsimp only;split
 .grind
 .have a:es.toList.any (·.refKey)=false:=by
   rw[List.any_eq_false];intro y hy;obtain⟨z,t,hkey⟩:=hk y (Array.mem_toList_iff.mp hy);simp[DictEntry.refKey,hkey]
  grind
theorem ObjM.look(I:ObjM h x dx C mA):∃od,PySem.W.InstAt h x (W.instObj C dx) C (some od)/\∀name,W.lookIn name od=some (mA name):=
 let ⟨od,ho,hl⟩:=zfb I.ns
 ⟨od,⟨I.obj,rfl,rfl,ho⟩,hl⟩
section
variable {prog:Program}{w:World}{A:Around}{E:Value->Shared->Prop}{s:Shared}{K:k6}{x dx C f:Addr}{mA:Str->Option Value}{name:Str}{v:Value}
theorem zl6(X:K.In s.heap)(I:ObjM s.heap x dx C mA)(hg:W.plainGet K C name=true)(hh:W.hasDictIn K C=true)
  (ha:W.findIn K (.ref C) name=some none) (hv:mA name=some v) (hv':W.handedIn v=true) (h:Q v { s with toks:=s.toks+1 }) :
  wpAny (model prog w) A (getAttr (.ref x) name expr) Q E s:=by
 obtain⟨od,J,hl⟩:=I.look;exact W.get_value X J (Ŧ hg).1 (W.findObj_own hh ha rfl (by rw[hl,hv])) hv' h
theorem zi3(X:K.In s.heap)(I:ObjM s.heap x dx C mA)(hg:W.plainGet K C name=true)
  (hf:W.findIn K (.ref C) name=some (some (.ref f))) (ht:W.isFn K (.ref f)=true) (hv:mA name=none) (h:Q (.ref f,[.ref x]) s) :
  wpAny (model prog w) A (getMethod (.ref x) name pl) Q E s:=by
 obtain⟨od,J,hl⟩:=I.look;exact W.method_fn X J (Ŧ hg).1 (Ŧ hg).2 hf (beq_iff_eq.mp ht) (by show(W.lookIn name od).map (·.isSome)=some false;grind) h
theorem zj8(X:K.In s.heap)(I:ObjM s.heap x dx C mA)
  (hs:W.findIn K (.ref C) "__setattr__"=some (some (.builtin "object.__setattr__"))) (hp:W.plainOver K C=true) (ht:W.takerIn K C name=some none) (hh:W.hasDictIn K C=true)
  (hw:PySem.Within mA ns) (hsz:ns.length<=sizeLine)
  (h:∀h',ObjM h' x dx C (λy=>if y=name then some v else mA y)->Heap.SameBut dx s.heap h'->Q () { s with heap:=h',toks:=s.toks+2 }) :
  wpAny (model prog w) A (setAttr (.ref x) name v) Q E s:=by
 obtain⟨od,J,hl⟩:=I.look;refine W.set_plain X J hs (W.osa_open X J hp ht λb=>?_)
 obtain⟨cd,hc,hd'⟩:=W.any_some hh;have hx :=I.obj;refine À (Å (À (À (wpAny_loadPart hx (À (PySem.W.Looks.here (W.looks_clsIn X hc) ?_))))));rw[hd'];refine Å (À (Å (À ?_)));refine wpAny_nsSet1 I.ns λh' hn2 hs2=>?_
 obtain⟨oD,esD,epD,hoD,hdD,hcD⟩:=hn2.count (PySem.Within.cons name v hw);refine À (wpAny_lookBehind hoD (by rw[hdD];exact pastItsLine_dict (Þ hcD (by grind))) ?_)
 exact Å (h _ ⟨(hs2.2 _ (É I.ne)).trans I.obj,hn2,I.ne⟩ hs2)
theorem zhh    (X:K.In s.heap)(hm:W.makesIn K C=true)
  (hi:W.findIn K (.ref C) "__init__"=some (some (.ref f))) (hf:W.typeIn K (.ref f)=some (.type "function"))
  (h : codeAny (model prog w) (A.under (.builtin "type.__call__" ⟨.ref C :: vs, kw⟩)) (.call (.ref f) ⟨.ref (s.heap.objs.size + 1) :: vs, kw⟩) (PySem.W.InitBack (s.heap.objs.size + 1) R)
   { s with heap:=(s.heap.push W.emptyDict).push (W.instObj C s.heap.objs.size) }) :
  codeAny (model prog w) A (.call (.ref C) ⟨vs,kw⟩) R s:=by
 exact W.make_core (W.makes_of X hm) (W.looks_findIn X hi) (λself=>W.bind_fn X self hf) (.inl rfl) h
end
def Cy(f:Str)(v:V):List (Str×V)->List (Str×V)
 |[]=>[(f,v)]|(g,x)::r=>if g=f then (g,v)::r else (g,x)::Cy f v r
theorem YT(f g)(v):∀fs ,(Cy f v fs).lookup g=if g=f then some v else fs.lookup g
 |[]=>by
  show List.lookup g [(f,v)]=_
  grind
 |(k,x)::r=>by
  have ih:=YT f g v r;rw[show Cy f v ((k,x)::r)=(if k=f then (k,v)::r else (k,x)::Cy f v r) from rfl]
  grind
theorem QF(f)(v):∀fs ,f∈(Cy f v fs).map (·.1)/\∀g,g∈fs.map (·.1)->g∈(Cy f v fs).map (·.1)
 |[]=>⟨by simp[Cy],λg h=>by simp at h⟩|(k,x)::r=>by
  obtain⟨i1,i2⟩:=QF f v r;rw[show Cy f v ((k,x)::r)=(if k=f then (k,v)::r else (k,x)::Cy f v r) from rfl]
  grind
theorem YZ(f)(v):∀fs ,(Cy f v fs).length<=fs.length+1
 |[]=>by simp[Cy]|(k,x)::r=>by
  have ih:=YZ f v r;rw[show Cy f v ((k,x)::r)=(if k=f then (k,v)::r else (k,x)::Cy f v r) from rfl]
  grind
theorem Dn.some_of(r:Dn (some v) o):∃u,o=some u/\A8 v u:=by
 cases o with
 |none=>exact(r).elim|some u=>exact⟨u,rfl,r⟩
theorem Dn.none_of(r:Dn none o):o=none:=by
 cases o with
 |none=>rfl|some u=>exact(r).elim
theorem zfj(r:A8 v u):W.handedIn u=true:=by
 cases v with
 |non=>cases (r);rfl|bl b=>cases (r);rfl|int i=>obtain⟨t,e⟩:=(r);cases e;rfl
 |str x=>obtain⟨t,e⟩:=(r);cases e;rfl
 |byt b=>obtain⟨t,e⟩:=(r);cases e;rfl
 |flt b=>obtain⟨t,e⟩:=(r);cases e;rfl
 |ref a=>cases (r);rfl|ty n=>cases (r);rfl
section
variable {P:Program}{w:World}{H H':Hp}{h h':Heap}{a C dx:Addr}{fs fs':List (Str×V)}
theorem MK(hok:HOk P w H h)(e:H a=some (.ins C dx fs)):∃mA,ObjM h a dx C mA/\(∀f,Dn (fs.lookup f) (mA f))/\PySem.Within mA (fs.map (·.1))/\fs.length<=1000/\H dx=some (.own a):=by
 obtain⟨d,z,ne,ob,mA,n,r,q⟩:=(hok a _ e);exact⟨mA,⟨ob,n,ne⟩,r,q,z,d⟩
end
structure Cls(K:k6)(C:Addr):Prop where
 pg:W.plainGet K C Str.empty=true
 hd:W.hasDictIn K C=true
 po:W.plainOver K C=true
 sa:W.findIn K (.ref C) "__setattr__"=some (some (.builtin "object.__setattr__"))
theorem Cls.get{K}(c:Cls K C)(f):W.plainGet K C f=true:=c.pg
def CQ(K:k6)(C:Addr)(f:Str):Prop:=W.findIn K (.ref C) f=some none
theorem CQ.taker{K}(n:CQ K C f):W.takerIn K C f=some none:=by
 unfold W.takerIn;rw[n]
 rfl
structure Meth(K:k6)(C:Addr)(m:Str)(f:Addr):Prop where
 at_:W.findIn K (.ref C) m=some (some (.ref f))
 fn:W.isFn K (.ref f)=true
 kp:W.keepIn K (.ref f)=true
section
variable {X:Cx}{pq:List (Addr×Obj)}{σ:St}{H:Hp}{s:Shared}{a C dx:Addr}{fs:List (Str×V)}{f:Str}{v:V}{A:Around}{E:Value->Shared->Prop}
theorem zei(I:Inv X pq σ H s)(e:H a=some (.ins C dx fs))(c:Cls X.K C)(n:CQ X.K C f)(l:fs.lookup f=some v)
  (h:∀u s',Inv X pq σ H s'->A8 v u->Q u s'):wpAny (model X.prog X.w) A (getAttr (.ref a) f b) Q E s:=by
 obtain⟨mA,O,r,_,_,_⟩:=MK I.hok e;obtain⟨u,hu,ru⟩:=Dn.some_of (v:=v) (o:=mA f) (by grind)
 exact zl6 I.kIn O (c.get f) c.hd n hu (zfj ru) (h u _ (I.tok _) ru)
theorem Yq(I:Inv X pq σ H s)(e:H a=some (.ins C dx fs))(c:Cls X.K C)(k:Meth X.K C m g)(l:fs.lookup m=none)
  (h:Q (.ref g,[.ref a]) s):wpAny (model X.prog X.w) A (getMethod (.ref a) m pl) Q E s:=by
 obtain⟨mA,O,r,_,_,_⟩:=MK I.hok e;have hn:mA m=none:=Dn.none_of (by grind)
 exact zi3 I.kIn O (c.get m) k.at_ k.fn hn h
theorem zdy(I:Inv X pq σ H s)(e:H a=some (.ins C dx fs))(c:Cls X.K C)(n:CQ X.K C f)(hl:fs.length<1000)(ry:A8 y u)
  (h:∀s',Inv X pq σ (upd H a (.ins C dx (Cy f y fs))) s'->Q () s'):wpAny (model X.prog X.w) A (setAttr (.ref a) f u) Q E s:=by
 obtain⟨mA,O,r,wi,_,ho⟩:=MK I.hok e;have hz:(fs.map (·.1)).length<=sizeLine:=by rw[Á,ć];omega
 refine zj8 I.kIn O c.sa c.po n.taker c.hd wi hz λh' O' sb=>h _ ?_
 have hd:∃o,h'.get? dx=some o:=let ⟨o,_,_,e',_⟩:=O'.ns;⟨o,e'⟩;refine I.write (by rw[e];exact True.intro) (.inr ho) (λb q hb z=>(sb.2 b hb).trans z) hd ?_
 refine⟨by rw[Ah O.ne];exact ho,?_,O.ne,O'.obj,_,O'.ns,λg=>?_,λg hg=>?_⟩
 .have:=YZ f y fs;omega
 .rw[YT]
  by_cases q:g=f
  .rw[if_pos q,if_pos q];exact ry
  .rw[if_neg q,if_neg q];exact r g
 .by_cases q:g=f
  .rw[q];exact(QF f y fs).1
  .refine(QF f y fs).2 g (wi g λz=>hg ?_)
   grind
theorem Inv.made(I:Inv X pq σ H s):Inv X pq σ (upd (upd H s.heap.objs.size (.own (s.heap.objs.size+1))) (s.heap.objs.size+1) (.ins C s.heap.objs.size []))
  { s with heap:=(s.heap.push W.emptyDict).push (W.instObj C s.heap.objs.size) }:=by
 have e1:(s.heap.push W.emptyDict).get? s.heap.objs.size=some W.emptyDict:=à s.heap rfl
 have e2:((s.heap.push W.emptyDict).push (W.instObj C s.heap.objs.size)).get? (s.heap.objs.size+1)=some (W.instObj C s.heap.objs.size):=by
  have:=à (s.heap.push W.emptyDict) (o:=W.instObj C s.heap.objs.size) rfl
  simp_all
 have e3:(s.heap.push W.emptyDict).Ns s.heap.objs.size (λ_=>none):=⟨W.emptyDict,#[],_,e1,rfl,(λe he=>absurd he (by simp)),λ_=>rfl⟩
 have I1:=I.laid (o:=.own (s.heap.objs.size+1)) (t':=s.toks) (λb u q=>Ë _ q) (Ç _) ⟨_,e1⟩
 refine I1.laid (λb u q=>Ë _ q) (Nat.le_of_eq (ý _ _)) ?_
 have ne:s.heap.objs.size≠s.heap.objs.size+1:=Ò (ę _);refine⟨by rw[Ah ne,Be],í _,ne,e2,λ_=>none,(Heap.Ns1.of_empty e3).at λo q=>Ë _ q,λ_=>True.intro,λy hy=>absurd rfl hy⟩
theorem zlk         (hb:attributeBase e f env (eval e env)=eval e env)
  (h:wpAny (model prog w) A (eval e env) (λo s₁=>wpAny (model prog w) A (getAttr o f true) Q E s₁) E s):wpAny (model prog w) A (eval (.Attribute e f pos) env) Q E s:=
 Attribute_any_ h (by rw[arm_eval_Attribute,hb])
end
def tFld(K:k6)(ta:TE)(f:Str):TE:=λσ H Q=>ta σ H λx H1=>∃a C dx fs v,x=.ref a/\H1 a=some (.ins C dx fs)/\Cls K C/\CQ K C f/\fs.lookup f=some v/\Q v H1
def sFld(K:k6)(ta tv:TE)(f:Str):TS:=λD σ H=>tv σ H λy H1=>ta σ H1 λx H2=>∃a C dx fs,x=.ref a/\H2 a=some (.ins C dx fs)/\Cls K C/\CQ K C f/\fs.length<1000 /\
 D.nx σ (upd H2 a (.ins C dx (Cy f y fs)))
section
variable {X:Cx}{o e value:Expr}{f:Str}{pos pos' tpos:Pos}{ta tv:TE}
theorem WE(he:PE X e ta)(hb:attributeBase e f X.env (eval e X.env)=eval e X.env):PE X (.Attribute e f pos) (tFld X.K ta f):=by
 intro pq s σ H Q I h;refine zlk hb (AQ (he pq s σ H _ I h) λu s1 zz=>?_)
 obtain⟨x,H1,I1,rx,a,C,dx,fs,v,ex,ea,c,n,l,q⟩:=zz;subst ex;obtain rfl:u=Value.ref a:=rx;exact zei I1 ea c n l λu' s2 I2 ru=>⟨v,H1,I2,ru,q⟩
theorem zn6(ha:PE X o ta)(hv:PE X value tv)(hs:swapsWith value (some (.Attribute o f pos')) pos.line X.env=pure false):PS X (.Assign [.Attribute o f pos'] value pos) (sFld X.K ta tv f):=by
 intro pq s σ H D I h;refine plainObj_wpAny_Assign_Attribute (AQ (hv pq s σ H _ I h) λu s1 ⟨y,H1,I1,ry,q⟩=>AQ (ha pq s1 σ H1 _ I1 q) λov s2 zz=>?_) hs
 obtain⟨x,H2,I2,rx,a,C,dx,fs,ex,ea,c,n,l,q2⟩:=zz;subst ex;obtain rfl:ov=Value.ref a:=rx;exact zdy I2 ea c n l ry λs3 I3=>⟨σ,_,I3,q2⟩
end
section
variable {X:Cx}{pq:List (Addr×Obj)}{σ:St}{H:Hp}{s:Shared}{A:Around}{E:Value->Shared->Prop}{Q:Value->Shared->Prop}{c:Value}{b:Bool}
inductive TyOf(K:k6)(H:Hp):V->Value->Prop where
 |non:TyOf K H .non (.type "NoneType")
 |bl (x:Bool):TyOf K H (.bl x) (.type "bool")
 |int (i:Int):TyOf K H (.int i) (.type "int")
 |str (x:Str):TyOf K H (.str x) (.type "str")
 |flt (x:UInt64):TyOf K H (.flt x) (.type "float")
 |lst {a:Addr} {xs:List V} (e:H a=some (.lst xs)):TyOf K H (.ref a) (.type "list")
 |frz {a:Addr} {o:Obj} {xs:List V} (e:H a=some (.frz o (.lst xs))):TyOf K H (.ref a) (.type "list")
 |tup {a:Addr} {xs:List V} (e:H a=some (.tup xs)):TyOf K H (.ref a) (.type "tuple")
 |dK {a:Addr} {kvs:List (Key×V)} (e:H a=some (.dK kvs)):TyOf K H (.ref a) (.type "dict")
 |dT {a:Addr} {kvs:List (List Key×V)} (e:H a=some (.dT kvs)):TyOf K H (.ref a) (.type "dict")
 |ins {a C dx:Addr} {fs:List (Str×V)} (e:H a=some (.ins C dx fs)) (cl:Cls K C) (ha:W.findIn K (.ref C) "__class__"=some (some (.builtin "object.__class__")))
   (hn:W.specialIn K (.builtin "object.__class__") "__get__"=some (some (.builtin "getset_descriptor.__get__"))) (htk:W.takesIn K (.builtin "object.__class__")=some true)
   (hm:W.mroIn K C (.type "object")=some true):TyOf K H (.ref a) (.ref C)
theorem QM{x:V}  (I:Inv X pq σ H s)(rx:A8 x u)(ty:TyOf X.K H x t)(e:W.kitOne X.K t c=some b)(h:∀tk,Q (.bool b) { s with toks:=tk }) :
  wpAny (model X.prog X.w) A (call (.builtin "isinstance") [u,c]) Q E s:=by
 cases ty with
 |non=>cases (rx);exact ê W.kitx_none I.kIn True.intro e (λz=>nomatch z) h
 |bl y=>cases (rx);exact ê W.kitx_bool I.kIn True.intro e (λz=>nomatch z) h
 |int i=>obtain⟨t,q⟩:=(rx);cases q;exact ê W.kitx_int I.kIn True.intro e (λz=>nomatch z) h
 |str y=>obtain⟨t,q⟩:=(rx);cases q;exact ê W.kitx_str I.kIn True.intro e (λz=>nomatch z) h
 |flt y=>obtain⟨t,q⟩:=(rx);cases q;exact ê W.kitx_float I.kIn True.intro e (λz=>nomatch z) h
 |@lst a xs ea=>cases (rx);obtain⟨_,_,n,_,h1⟩:=(I.hok a _ ea);exact ê ů I.kIn ⟨_,h1,rfl⟩ e (λz=>nomatch z) h
 |@frz a ob xs ea=>cases (rx);obtain⟨_,_,_,n,_,h1⟩:=(I.hok a _ ea);exact ê ů I.kIn ⟨_,h1,rfl⟩ e (λz=>nomatch z) h
 |@tup a xs ea=>cases (rx);obtain⟨_,_,_,p⟩:=(I.hok a _ ea);obtain⟨o,h1,h2,_⟩:=p;exact ê W.kitx_tuple I.kIn ⟨o,h1,h2⟩ e (λz=>nomatch z) h
 |@dK a kvs ea=>cases (rx);obtain⟨_,_,vs,_,p⟩:=(I.hok a _ ea);obtain⟨o,es,ep,h1,h2,_⟩:=p;exact ê Ű I.kIn ⟨o,h1,h2.1⟩ e (λz=>nomatch z) h
 |@dT a kvs ea=>cases (rx);obtain⟨_,_,xs,_,o,es,ep,h1,h2,_⟩:=(I.hok a _ ea);exact ê Ű I.kIn ⟨o,h1,h2.1⟩ e (λz=>nomatch z) h
 |@ins a C dx fs ea cl ha hn htk hm=>cases (rx);obtain⟨mA,O,_⟩:=MK I.hok ea;obtain⟨od,J,_⟩:=O.look;exact ê (W.kitx_own (cl.get _) cl.hd ha hn htk hm) I.kIn J e (λz=>nomatch z) h
end
structure Room(k:Nat)(A:Around):Prop where
 hd:A.handled=none
 dp:A.depth+3 * k+5<recursionLimit
 un:A.units+16 * k+200<cLine
theorem Room.mono(r:Room k A)(h:j<=k):Room j A:=⟨r.hd,by have:=r.dp;omega,by have:=r.un;omega⟩
theorem Room.deeper(r:Room (k+1) A)(env):Room k (A.deeper env):=
 ⟨r.hd,by have:=r.dp;show A.depth+1+3 * k+5<_;omega,by have:=r.un;show A.units+3+16 * k+200<_;omega⟩
theorem ze4{A:Around}:(A.under (.builtin "type.__call__" ⟨.ref C::us,kw⟩)).depth=A.depth+1:=by
 rfl
theorem ze3{A:Around}:(A.under (.builtin "type.__call__" ⟨.ref C::us,kw⟩)).units=A.units+1:=by
 rfl
theorem Room.make(r:Room (k+1) A)(C)(us)(kw):Room k (A.under (.builtin "type.__call__" ⟨.ref C::us,kw⟩)):=
 ⟨r.hd,by have:=r.dp;rw[ze4];omega,by have:=r.un;rw[ze3];omega⟩
theorem Room.depth(r:Room k A):A.depth<recursionLimit:=by have:=r.dp;omega
theorem Room.units(r:Room k A):A.units+64<cLine:=by have:=r.un;omega
def Sx:TA:=λ_ H Q=>Q [] H
def tCons(ta:TE)(tr:TA):TA:=λσ H Q=>ta σ H λx H1=>tr σ H1 λxs H2=>Q (x::xs) H2
section
variable {X:Cx}{e:Expr}{es:kC}{te:TE}{t:TA}{pos:Pos}
theorem DW:PA X [] Sx:=λ_ _ _ _ H Q I h=>ű ⟨[],H,I,.nil,h⟩
theorem CY(ha:PE X e te)(hr:PA X es t)(hs:starEach (e::es) X.env=(false,eval e X.env)::starEach es X.env:=by rfl):PA X (e::es) (tCons te t):=by
 intro pos pq s σ H Q I h;rw[hs];refine ũ (AQ (ha pq s σ H _ I h) λu s1 zz=>?_)
 obtain⟨x,H1,I1,r1,q1⟩:=zz;exact AQ (hr pos pq s1 σ H1 _ I1 q1) λus s2 ⟨xs,H2,I2,r2,q2⟩=>⟨x::xs,H2,I2,.cons r1 r2,q2⟩
def tTup(t:TA):TE:=λσ H Q=>t σ H λxs H1=>xs.length<=sizeLine/\∀p,H1 p=none->Q (.ref p) (upd H1 p (.tup xs))
def tLst(t:TA):TE:=λσ H Q=>t σ H λxs H1=>xs.length<=sizeLine/\∀p,H1 p=none->Q (.ref p) (upd H1 p (.lst xs))
theorem WA(h:PA X es t):PE X (.Tuple es x1 pos) (tTup t):=by
 intro pq s σ H Q I hq;refine wpAny_Tuple_spliced (AQ (h pos pq s σ H _ I hq) λus s1 ⟨xs,H1,I1,r,z,q⟩=>⟨by rw[<- r.length];exact z,?_⟩)
 have hf :=I1.hok.fresh (Ç _);refine⟨.ref s1.heap.objs.size,upd H1 s1.heap.objs.size (.tup xs),I1.laid (λb u e=>Ë _ e) (Ç _) ?_,rfl,q _ hf⟩
 exact⟨z,us,r,⟨_,à _ rfl,rfl,_,rfl⟩⟩
theorem znf(h:PA X es t):PE X (.List es pos) (tLst t):=by
 intro pq s σ H Q I hq;refine wpAny_List_spliced (AQ (h pos pq s σ H _ I hq) λus s1 ⟨xs,H1,I1,r,z,q⟩=>⟨by rw[<- r.length];exact z,?_⟩)
 have hf :=I1.hok.fresh (Ç _);refine⟨.ref s1.heap.objs.size,upd H1 s1.heap.objs.size (.lst xs),I1.laid (λb u e=>Ë _ e) (Ç _) ?_,rfl,q _ hf⟩
 exact⟨z,us,0,r,à _ rfl⟩
end
abbrev Sp:=kK->Hp->VK->XK->Prop
abbrev Fe:=List Env->Hp->Shared->XK->Value->Shared->Prop
structure Env0(P:Program)(w:World)(K:k6)(mg:Str->Option Value)(base:Heap)(A:Around)(outer:List Env)(s:Shared)(H:Hp):Prop where
 frames:A.frames=some outer
 mod:Mod K mg base
 bs:∀b o,base.get? b=some o->s.heap.get? b=some o/\H b=none
 bsz:base.objs.size<=s.heap.objs.size
 funs:s.heap.FunFrames base outer
 frf:∀b∈BS outer,H b=none
 hok:HOk P w H s.heap
 bare:AllBare s.gens
def CE(outer:List Env)(P:Program)(w:World)(H:Hp)(s:Shared)(Q:VK)(u:Value)(s':Shared):Prop:=
 ∃v H',s'.os=s.os/\AllBare s'.gens/\Un (BS outer) [] H H' s.heap s'.heap/\HOk P w H' s'.heap/\A8 v u/\Q v H'
def CR(CX:Fe)(outer:List Env)(P:Program)(w:World)(H:Hp)(s:Shared)(Q:VK)(E:XK)(r:Result)(s':Shared):Prop:=
 match r with
 |.ok (.ret u)=>CE outer P w H s Q u s'|.ok _=>False|.error e=>CX outer H s E e s'
structure FnOk(P:Program)(w:World)(K:k6)(mg:Str->Option Value)(base:Heap)(CX:Fe)(k:Nat)(f:Addr)(fd:FuncData)(ps:kE)(sp:Sp):Prop where
 len:∀vs H Q E,sp vs H Q E->vs.length=ps.length
 run:∀(A:Around) (outer:List Env) (s:Shared) (H:Hp) (args:Args) (us:k9) (vs:kK) (Q:VK) (E:XK),Room k A->Env0 P w K mg base A outer s H->BindsTo s fd args (ps.zip us)->A9 vs us->sp vs H Q E ->
  codeAny (model P w) A (.call (.ref f) args) (CR CX outer P w H s Q E) s
theorem Env0.make{K}{H:Hp}(e:Env0 P w K mg base A outer s H)(C:Addr)(us)(kw) :
  Env0 P w K mg base (A.under (.builtin "type.__call__" ⟨.ref C::us,kw⟩)) outer s H:=⟨by first|exact e.frames|rfl,e.mod,e.bs,e.bsz,e.funs,e.frf,e.hok,e.bare⟩
section
variable {X:Cx}{pq:List (Addr×Obj)}{σ:St}{H:Hp}{s s':Shared}
theorem Inv.env0(I:Inv X pq σ H s):Env0 X.prog X.w X.K X.mg X.base X.A X.stack s H:=
 ⟨I.ok.frames,I.ok.mod,I.bs,Þ I.ok.bsz I.sz,I.stack,I.stkFree,I.hok,I.bare⟩
theorem Inv.after   (I:Inv X pq σ H s)(h:CE X.stack X.prog X.w H s Q u s'):EP X pq σ Q u s':=by
 obtain⟨v,H',os,bare,un,hok,r,q⟩:=h;obtain⟨hh,g,d,t,os'⟩:=s';obtain rfl:os'=s.os:=os;exact⟨v,H',I.call un hok bare (λb z=>absurd z (by simp)),r,q⟩
end
def CU(K:k6)(fd:FuncData)(ps:kE)(ds:k9):Prop:=
 ∀(s:Shared) (us:k9),K.In s.heap->(us++ds).length=ps.length->BindsTo s fd ⟨us,[]⟩ (ps.zip (us++ds))
theorem CU.all{K }   (h:∀us ,us.length=ps.length->bindArgs fd ⟨us,[]⟩=pure (ps.zip us)):CU K fd ps []:=λs us _ hl=>by
 rw[Ą]at hl ⊢;exact .of_eq (h us hl)
section
variable {X:Cx}{CX:Fe}{k:Nat}{f C:Addr}{fd:FuncData}{ps:kE}{sp:Sp}{dvs:kK}{ds:k9}{E:XK}{x m:Str}{p pos apos:Pos}{e o:Expr}{es:kC}{ta:TE}{t:TA}
structure Mk(K:k6)(C f:Addr):Prop where
 makes:W.makesIn K C=true
 init:W.findIn K (.ref C) "__init__"=some (some (.ref f))
 fn:W.isFn K (.ref f)=true
 kp:W.keepIn K (.ref C)=true
end
section
variable {X:Cx}{CX:Fe}{k:Nat}{f C:Addr}{fd:FuncData}{ps ks:kE}{sp:Sp}{E:XK}{x m:Str}{p pos apos kpos:Pos}{e o:Expr}{es:kC}{kws:List Keyword}{te ta:TE}{t tk:TA}{nm:Option Str}
variable {g:k9->k9->k9}{gV:kK->kK->kK}
end
structure FnScope(N P:kE)(sc:Scope):Prop where
 kind:sc.kind=.function
 co:sc.isCoroutine=false
 gen:sc.isGenerator=false
 nd:N.Nodup
 pre:N.take P.length=P
 par:∀x∈P,sc.names.lookup x=some .local\/sc.names.lookup x=some .cell
 nofree:∀y∈sc.names,y.2≠.free
theorem bE{kindOf}:∀{binds} {m},(∀v,(x,v)∉binds)->bindL kindOf binds m x=m x
 |[],_,_=>rfl|(n,v)::r,m,h=>by
  unfold bindL;rw[bE λw hw=>h w (Î _ hw)]
  split
  .grind
  .rfl
theorem bH{kindOf}:∀{binds} {m},(∀v,(x,v)∉binds)->bindC kindOf binds m x=m x
 |[],_,_=>rfl|(n,v)::r,m,h=>by
  unfold bindC;rw[bH λw hw=>h w (Î _ hw)]
  split
  .rfl
  grind
theorem bG{kindOf}{x}{v}:∀{P:kE} {vs} {i:Nat} {m},P.Nodup->P[i]?=some x->vs[i]?=some v->kindOf x=some .local ->
  bindL kindOf (P.zip vs) m x=some v
 |[],_,_,_,_,h,_,_=>by simp at h|_::_,[],_,_,_,_,h,_=>by simp at h|p::P,w::vs,0,m,nd,h1,h2,hk=>by
  simp at h1 h2;subst h1;subst h2;show bindL kindOf ((p,w)::P.zip vs) m p=_;unfold bindL;rw[bE λv hv=>(į.mp nd).1 (List.of_mem_zip hv).1,if_pos hk]
  simp
 |p::P,w::vs,i+1,m,nd,h1,h2,hk=>by
  unfold bindL;exact bG (i:=i) (į.mp nd).2 (by grind) (by grind) hk
theorem bI{kindOf}{x}{v}:∀{P:kE} {vs} {i:Nat} {m},P.Nodup->P[i]?=some x->vs[i]?=some v->kindOf x≠some .local ->
  bindC kindOf (P.zip vs) m x=some v
 |[],_,_,_,_,h,_,_=>by simp at h|_::_,[],_,_,_,_,h,_=>by simp at h|p::P,w::vs,0,m,nd,h1,h2,hk=>by
  simp at h1 h2;subst h1;subst h2;show bindC kindOf ((p,w)::P.zip vs) m p=_;unfold bindC;rw[bH λv hv=>(į.mp nd).1 (List.of_mem_zip hv).1,if_neg hk]
  simp
 |p::P,w::vs,i+1,m,nd,h1,h2,hk=>by
  unfold bindC;exact bI (i:=i) (į.mp nd).2 (by grind) (by grind) hk
def start(N:kE)(vs:kK):St:=vs.map some++List.replicate (N.length - vs.length) none
noncomputable def FD(CX:Fe)(P:Program)(w:World)(K:k6)(mg:Str->Option Value)(base:Heap)(N:kE)(qual:Str)(scope:Scope)(f:Addr)(cd:Value)(A:Around)(outer:List Env)(s:Shared)(H:Hp)(E:XK):Cx where
 prog:=P
 w:=w
 K:=K
 mg:=mg
 base:=base
 A:=A.deeper (envOfC qual scope s.heap.objs.size f cd)
 N:=N
 s₀:=s
 H₀:=H
 env:=envOfC qual scope s.heap.objs.size f cd
 outer:=outer
 stack:=envOfC qual scope s.heap.objs.size f cd::outer
 ex:=[]
 calm:=true
 fn:=λ_=>true
 pn:=[]
 xe:=λe s'=>wpAny (model P w) (A.deeper (envOfC qual scope s.heap.objs.size f cd)) (leaving (envOfC qual scope s.heap.objs.size f cd) e) (λ_ s''=>CX outer H s E e s'') (λe' s''=>CX outer H s E e' s'') s'
theorem aT{sc:Scope}(h:sc.names.lookup x=some .cell):∃c,(cellsFrom n sc.names []).lookup x=some c:=by
 have q:=W.cellsFrom_some sc.names n [] (.inl h);exact Ļ.mp q
theorem zfg{CX:Fe}{P:Program}{w:World}{K:k6}{base:Heap}{N ps:kE}{qual:Str}{scope:Scope}{f:Addr}{cd:Value}{A:Around}{s s1:Shared}{H:Hp}{E:XK}{vs:kK}
  (S:FnScope N ps scope) (hd:A.handled=none) (e0:Env0 P w K mg base A outer s H) (hl:vs.length=ps.length) (r:A9 vs us)
  (x:InCallC s s.heap.objs.size (bindL (envOfC qual scope s.heap.objs.size f cd).kindOf (ps.zip us) λ_=>none) (cellsFrom (s.heap.objs.size+1) scope.names []) (bindC (envOfC qual scope s.heap.objs.size f cd).kindOf (ps.zip us) λ_=>none) s1) :
  Inv (FD CX P w K mg base N qual scope f cd A outer s H E) [] (start N vs) H s1:=by
 have hpl :=by have:=congrArg List.length S.pre;rw[ó]at this;omega
 obtain⟨h1,tk,rfl,hk⟩:=x.done;have noA:∀b ,b∉(FD CX P w K mg base N qual scope f cd A outer s H E).ex:=λb z=>absurd (show b∈[] from z) (by simp)
 refine⟨⟨e0.mod,S.kind,rfl,rfl,Ç _,λy z c h1 h2=>?_,λy hy=>?_,λy c _ h=>?_,λ_=>hd,Around.frames_deeper e0.frames,.inr ⟨rfl,rfl⟩,λb z=>absurd z (noA b),e0.bs,e0.bsz,λb _ _=>noA b,λb z=>absurd z (noA b),e0.funs,e0.frf⟩,
  rfl,e0.bare,Un.kept hk,⟨_,x.toInCall.ns,λi y v h1 h2 h3=>?_⟩,λy c h=>⟨_,x.cell y c h⟩,e0.hok.fresh (Ç _),λy c h=>?_,λp hp=>absurd (show p∈[] from hp) (by simp),e0.hok.kept hk,?_⟩
 .exact name_of_addr x.apart (ă h1) (ă h2)
 .have hy :=hy
  rcases hy with hy|hy
  .exact aT hy
  .exact absurd rfl (S.nofree _ (ă hy))
 .exact Ŋ (x.above y c (ă h))
 .have hi:i<vs.length:=by
   unfold start at h2
   by_cases hi:i<vs.length
   .exact hi
   .rw[ĸ (by simpa using hi)]at h2
    rw[ś]at h2;split at h2<;>cases h2
  have ha:vs[i]?=some v:=by
   unfold start at h2;rw[ú (by simpa using hi),Ê]at h2
   cases e:vs[i]? with
   |none=>rw[e]at h2;cases h2|some a=>rw[e]at h2;cases h2;rfl
  obtain⟨u,hu,rv⟩:=r.get ha
  have hp:ps[i]?=some y:=by
   rw[<- S.pre,ř (by omega)];exact h1
  have ndP:ps.Nodup:=by rw[<- S.pre];exact S.nd.sublist (List.take_sublist _ _)
  refine⟨u,rv,?_⟩
  rcases S.par y (ï hp) with k|k
  .exact .inl ⟨k,bG ndP hp hu k⟩
  .obtain⟨c,e⟩:=aT k;refine .inr ⟨.inl k,c,e,?_⟩;have q:=x.cell y c e;rw[bI ndP hp hu (by show scope.names.lookup y≠_;rw[k];decide)]at q
   exact q
 .exact e0.hok.fresh (Ŋ (x.above y c (ă h)))
 .unfold start;show _=N.length;rw[Ö,Á,ģ]
  omega
theorem fn_of{CX:Fe} {K} {k:Nat} {dV kV doc pm cdv ct oc:Value}
   {sp:Sp} (lk:K.lookup f=some ⟨oc,od,.func (W.fnOf name qual params body scope dV kV doc pm an cdv ct),osl⟩) (hcd:W.codeIn K cdv qual=true) (S:FnScope N ps scope)
  (len:∀vs H Q E,sp vs H Q E->vs.length=ps.length)
  (hbody : ∀ (A) (outer) (s) (H : Hp) (vs : kK) (Q : VK) (E : XK), Room k (A.deeper (envOfC qual scope s.heap.objs.size f cdv)) -> sp vs H Q E ->
   ∃t,BB (FD CX P w K mg base N qual scope f cdv A outer s H E) body t/\t { nx:=λ_ H'=>Q .non H',rt:=Q} (start N vs) H) :
  FnOk P w K mg base CX (k+1) f (W.fnOf name qual params body scope dV kV doc pm an cdv ct) ps sp:=by
 refine⟨len,λA outer s H args us vs Q E hr e0 hb r hsp=>?_⟩
 have hl:=len _ _ _ _ hsp;have KX :=e0.mod.kin.keeps λb o e=>(e0.bs b o e).1
 have Az :=e0.mod.nolimit.keeps λb o e=>(e0.bs b o e).1
 have hkind:∀y∈ps.zip us,scope.names.lookup y.1=some .local\/(scope.names.lookup y.1=some .cell/\((cellsFrom (s.heap.objs.size+1) scope.names []).lookup y.1).isSome=true):=λ⟨n,v⟩ hy=>by
  rcases S.par n (List.of_mem_zip hy).1 with q|q
  .exact .inl q
  .exact .inr ⟨q,W.cellsFrom_some _ _ _ (.inl q)⟩
 refine codeAny_call_function hr.depth (KX _ _ lk) rfl S.co S.gen rfl (W.codeRec_of KX hcd) (hb _ _ _ _ ?_);refine wpAny_newFunctionEnv_cells S.kind hkind λenv he s1 x=>?_
 subst he;refine⟨Az.keeps x.toInCall.keep,codeAny_func ?_⟩;obtain⟨t,ht,hq⟩:=hbody A outer s H vs Q E (hr.deeper _) hsp;have I:Inv (FD CX P w K mg base N qual scope f cdv A outer s H E) [] (start N vs) H s1:=zfg S hr.hd e0 hl r x;refine è (ht [] s1 (start N vs) H _ I hq) (λfl s' hs=>?_) λe s' hs=>hs
 have Aq:∀{σ'} {H'} {v} {u},Inv (FD CX P w K mg base N qual scope f cdv A outer s H E) [] σ' H' s'->A8 v u->Q v H'->CE outer P w H s Q u s':=
  λ{σ' H' v u} J rv q=>⟨v,H',J.os,J.bare,J.base,J.hok,rv,q⟩
 cases fl with
 |ret u=>obtain⟨v,σ',H',J,rv,q⟩:=hs;exact Aq J rv q
 |next=>obtain⟨σ',H',J,q⟩:=hs;exact Aq (v:=V.non) J rfl q
 |brk=>obtain⟨_,_,_,q⟩:=hs;exact False.elim q
 |cont=>obtain⟨_,_,_,q⟩:=hs;exact False.elim q
section
variable {X:Cx}{x:Str}{p pos:Pos}{e:Expr}{es:kC}{t:TA}{id T:String}{r:kK->Hp->VK->Prop}
def TQ(r:kK->Hp->VK->Prop)(t:TA):TE:=λσ H Q=>t σ H λvs H1=>r vs H1 Q
theorem Hu(hc:Bj X (.builtin id) r)(hg:Gl X x)(hm:X.mg x=none)(hv:bootBuiltins x=some (.builtin id))(ha:PA X (e::es) t)(hn:x≠"__name__":=by decide)(hdb:(x == "__debug__")=false:=by decide)
  (he:starEach (e::es) X.env=(false,eval e X.env)::starEach es X.env:=by rfl) (hpl:(backTo pos (starEach es X.env)).any (·.1)=false:=by rfl):PE X (.Call (.Name x p) (e::es) [] pos) (TQ r t):=by
 intro pq s σ H Q I h;refine Ď (F7 I hg hm hv ?_ hn hdb);exact PyProof.Rows.callWith_builtin1 (AQ (ha pos pq s σ H _ I h) λus s1 ⟨vs,H1,I1,r1,q1⟩=>hc pq s1 σ H1 vs us Q I1 r1 q1) he hpl
theorem Le(hc:Bj X (.type T) r)(hg:Gl X x)(hm:X.mg x=none)(hv:bootBuiltins x=some (.type T))(ha:PA X (e::es) t)(hn:x≠"__name__":=by decide)(hdb:(x == "__debug__")=false:=by decide)
  (he:starEach (e::es) X.env=(false,eval e X.env)::starEach es X.env:=by rfl) (hpl:(backTo pos (starEach es X.env)).any (·.1)=false:=by rfl):PE X (.Call (.Name x p) (e::es) [] pos) (TQ r t):=by
 intro pq s σ H Q I h;refine Ď (F7 I hg hm hv ?_ hn hdb);exact Ċ (AQ (ha pos pq s σ H _ I h) λus s1 ⟨vs,H1,I1,r1,q1⟩=>hc pq s1 σ H1 vs us Q I1 r1 q1) he hpl
end
end L2
namespace HT
open PySem PyProof.Rows
section
open PySem.SeqAt
open PySem.AutoSeq1 (wpAny_loadPart')
open PySem.MeetsSeq PySem.MeetsSeq2 PySem.MeetsSeq3
end
section
variable {prog:Program}{w:World}{A:Around}{E:Value->Shared->Prop}{s:Shared}
noncomputable def sIx(n d:Nat):kA->Nat
 |none=>d|some v=>if v<0 then (v+(n:Int)).toNat else min v.toNat n
theorem sIx_none(n d:Nat):sIx n d none=d:=rfl
theorem sIx_nat(n d k:Nat):sIx n d (some (k:Int))=min k n:=by
 rfl
end
end HT
namespace L2
open PySem PySem.Spec PyProof.Rows
abbrev TO:=St->Hp->(kA->Hp->Prop)->Prop
def PO(X:Cx)(e:Option Expr)(t:TO):Prop:=
 ∀(pq:List (Addr×Obj)) (s:Shared) (σ:St) (H:Hp) (Q:kA->Hp->Prop),Inv X pq σ H s->t σ H Q ->
  wpAny (model X.prog X.w) X.A (evalPart e X.env) (λu s'=>∃o H',Inv X pq σ H' s'/\IsPart u o/\Q o H') X.xe s
def zj2:TO:=λ_ H Q=>Q none H
def tPart(t:TE):TO:=λσ H Q=>t σ H λx H1=>∃i,x=.int i/\Q (some i) H1
section
variable {X:Cx}{e:Expr}{te:TE}{lo hi:Option Expr}{tl th:TO}{pos p2:Pos}
theorem zjx:PO X none zj2:=by
 intro pq s σ H Q I h;exact Å ⟨none,H,I,.none,h⟩
theorem zjw(h:PE X e te):PO X (some e) (tPart te):=by
 intro pq s σ H Q I hw;refine AQ (h pq s σ H _ I hw) λu s1 zz=>?_
 obtain⟨x,H1,I1,r1,q1⟩:=zz;obtain⟨i,rfl,q⟩:=q1;obtain⟨t,rfl⟩:=r1;exact⟨some i,H1,I1,.int i t,q⟩
def Rh(X:Cx)(r:V->kA->kA->Hp->VK->Prop):Prop:=
 ∀(pq:List (Addr×Obj)) (s:Shared) (σ:St) (H:Hp) (x:V) (v vl vu:Value) (lo hi:kA) (sl:Addr) (Q:VK),Inv X pq σ H s->A8 x v->s.heap.IsSliceOf sl vl vu .none->IsPart vl lo->IsPart vu hi->r x lo hi H Q ->
  ∃T id,typeLookup (.type T) "__getitem__"=pure (some (.builtin id))/\s.TypeIs v T/\wpAny (model X.prog X.w) X.A (getItem v (.ref sl)) (EP X pq σ Q) X.xe s
def tSl(r:V->kA->kA->Hp->VK->Prop)(te:TE)(tl th:TO):TE:=λσ H Q=>te σ H λx H1=>tl σ H1 λl H2=>th σ H2 λu H3=>r x l u H3 Q
theorem WC  (hr:Rh X r)(he:PE X e te)(hl:PO X lo tl)(hu:PO X hi th):PE X (.Subscript e (.Slice lo hi none p2) pos) (tSl r te tl th):=by
 intro pq s σ H Q I h;refine Subscript_ (AQ (he pq s σ H _ I h) λv s1 zz=>?_)
 obtain⟨x,H1,I1,r1,q1⟩:=zz;refine wpAny_Slice (AQ (hl pq s1 σ H1 _ I1 q1) λvl s2 ⟨l,H2,I2,pl,q2⟩=>AQ (hu pq s2 σ H2 _ I2 q2) λvu s3 zz=>?_)
 obtain⟨u,H3,I3,pu,q3⟩:=zz;refine Å ?_;have I4:Inv X pq σ H3 { s3 with heap:=s3.heap.push { cls:=.type "slice",data:=.fields #[vl,vu,.none] } }:=I3.kept λb ob q=>Ë _ q
 obtain⟨T,id,hT,ht,hg⟩:=hr pq { s3 with heap:=s3.heap.push { cls:=.type "slice",data:=.fields #[vl,vu,.none] } } σ H3 x v vl vu l u s3.heap.objs.size Q I4 r1 (Heap.IsSliceOf.new ..) pl pu q3
 exact tail_any ht hT hg (by rfl)
def KN(xs:kK)(lo hi:kA):kK:=(xs.drop (HT.sIx xs.length 0 lo)).take (HT.sIx xs.length xs.length hi - HT.sIx xs.length 0 lo)
theorem zdk(xs)(lo hi):(KN xs lo hi).length<=xs.length:=by
 unfold KN
 grind
end
noncomputable def Bu(n:Nat)(i:Int):Option Nat:=if 0<=i then (if i<n then some i.toNat else none) else if -(n:Int)<=i then some (i+n).toNat else none
def AU{α:Type}(xs:List α)(i:Int):Option α:=(Bu xs.length i).bind λj=>xs[j]?
theorem Js(h:Bu n i=some j):seqIndex? i n=some j/\j<n/\-n<=i/\i<n:=by
 unfold Bu at h
 by_cases h0:0<=i
 .rw[if_pos h0]at h
  by_cases h1:i<n
  .rw[if_pos h1]at h;have e :=Ý h;exact⟨by rw[seqIndex_of h0 h1,e],by omega,by omega,h1⟩
  grind
 .rw[if_neg h0]at h
  by_cases h1:-n<=i
  .rw[if_pos h1]at h;have e :=Ý h;exact⟨by rw[seqIndex_neg (by omega) h1,e],by omega,h1,by omega⟩
  grind
theorem Rb(h:AU xs i=some v):∃j,seqIndex? i xs.length=some j/\xs[j]?=some v/\j<xs.length/\-xs.length<=i/\i<xs.length:=by
 unfold AU at h;cases e:Bu xs.length i with
 |none=>grind|some j=>
  obtain⟨h1,h2,h3,h4⟩:=Js e
  grind
theorem Cs{j:Nat}{v}(h:xs[j]?=some v):AU xs j=some v:=by
 have hj :=(Í.mp h).1
 have e:Bu xs.length j=some j:=by
  unfold Bu
  grind
 unfold AU;grind
def Kf(b:Expr):Prop:=∀o i,subscripted b false o i=operate [o,i] (getItem o i)
def Fd(X:Cx)(r:R2):Prop:=
 ∀(value slice:Expr) (pq:List (Addr×Obj)) (s:Shared) (σ:St) (H:Hp) (x y:V) (v u:Value) (Q:VK),Inv X pq σ H s->A8 x v->A8 y u->r x y H Q ->
  subscripted slice false v u=operate [v,u] (getItem v u)->wpAny (model X.prog X.w) X.A (subscriptTail value slice v u) (EP X pq σ Q) X.xe s
def MtR(X:Cx)(id:String)(r:V->kK->Hp->VK->Prop):Prop:=
 ∀(pq:List (Addr×Obj)) (s:Shared) (σ:St) (H:Hp) (x:V) (xs:kK) (v:Value) (us:k9) (Q:VK),Inv X pq σ H s->A8 x v->A9 xs us->r x xs H Q ->
  wpAny (model X.prog X.w) X.A (call (.builtin id) (v::us)) (EP X pq σ Q) X.xe s
section
variable {X:Cx}{a b:Expr}{ta tb:TE}{pos:Pos}
theorem Fd.or(h:Fd X r)(h':Fd X r'):Fd X (λx y H Q=>r x y H Q\/r' x y H Q):=by
 intro value slice pq s σ H x y v u Q I rx ry q hs
 rcases q with q|q
 .exact h value slice pq s σ H x y v u Q I rx ry q hs
 .exact h' value slice pq s σ H x y v u Q I rx ry q hs
theorem O6  (hr:Fd X r)(ha:PE X a ta)(hb:PE X b tb)(hs:Kf b):PE X (.Subscript a b pos) (Hn r ta tb):=by
 intro pq s σ H Q I h;exact Subscript_ (R6 ha hb I h λv u s2 x y H2 I2 rx ry q=>hr a b pq s2 σ H2 x y v u Q I2 rx ry q (hs _ _))
def Vr(K:k6):R2:=λx y H Q=>∃p xs i v,x=.ref p/\y=.int i/\AX K H p xs/\AU xs i=some v/\Q v H
def Vp(K:k6):R2:=λx y H Q=>∃p xs i v,x=.ref p/\y=.int i/\Bp K H p xs/\AU xs i=some v/\Q v H
def Vq:R2:=λx y H Q=>∃z i c,x=.str z/\y=.int i/\z.length<=sizeLine/\AU z.cps.toList i=some c/\Q (.str ⟨#[c]⟩) H
theorem Yb:Fd X (Vr X.K):=by
 intro value slice pq s σ H x y v u Q I rx ry h hs;obtain⟨p,xs,i,z,rfl,rfl,hq,he,q⟩:=h;cases rx;obtain⟨t,rfl⟩:=ry;obtain⟨its,r,pl,hz⟩:=I.list hq;obtain⟨j,h1,h2,h3,h4,h5⟩:=Rb he;obtain⟨w,ew,rw'⟩:=r.get h2;have hl:=r.length;have hn:=Jo;have Aq:EP X pq σ Q w s:=⟨z,H,I,rw',q⟩
 by_cases h0:0<=i
 .have hj :=by
   rw[seqIndex_of h0 h5]at h1;exact Ý h1
  exact item_listR pl.isList h0 (by omega) (by rw[hj];simpa using ew) Aq hs
 .have hj:(i+its.toArray.size).toNat=j:=by
   rw[seqIndex_neg (by omega) h4]at h1
   grind
  exact subscriptTail_builtinR pl.isList.typeIs slot_list_getitem.lookup
   (wpAny_getItem_list_neg pl.isList (by omega) (by rw[ô]<;>omega) (by omega) (by rw[hj];simpa using ew) ⟨rfl,Aq⟩) hs
theorem zop:Fd X (Vp X.K):=by
 intro value slice pq s σ H x y v u Q I rx ry h hs;obtain⟨p,xs,i,z,rfl,rfl,hq,he,q⟩:=h;cases rx;obtain⟨t,rfl⟩:=ry;obtain⟨its,r,pl,hz⟩:=I.tuple hq;obtain⟨j,h1,h2,h3,h4,h5⟩:=Rb he;obtain⟨w,ew,rw'⟩:=r.get h2;have hl:=r.length;have hn:=Jo;have Aq:EP X pq σ Q w s:=⟨z,H,I,rw',q⟩
 exact subscriptTail_builtinR pl.typeIs slot_tuple_getitem.lookup
  (getItem_tuple (j:=j) pl (by omega) (by omega) (by grind) (by grind) ⟨rfl,Aq⟩) hs
theorem zoq:Fd X Vq:=by
 intro value slice pq s σ H x y v u Q I rx ry h hs;obtain⟨z,i,c,rfl,rfl,hz,he,q⟩:=h;obtain⟨t,rfl⟩:=rx;obtain⟨t',rfl⟩:=ry;obtain⟨j,h1,h2,h3,h4,h5⟩:=Rb he;have hl:z.cps.toList.length=z.length:=by simp[Str.length]
 rw[hl]at h1 h4 h5;have hn:=Jo
 exact tail_any (Ğ s z t) slot_str_getitem.lookup (getItem_str (by
  grind) (by grind) ⟨.str ⟨#[c]⟩,H,I.tok _,⟨_,rfl⟩,q⟩) hs
def Vs(K:k6):R2:=λx y H Q=>Vr K x y H Q\/Vp K x y H Q\/Vq x y H Q
theorem zor:Fd X (Vs X.K):=Yb.or (zop.or zoq)
theorem ze2(its:k9)(n j )(u ):Obj.mapSeq (·.setIfInBounds j u) { cls:=.type "list",data:=.seq its.toArray n }={ cls:=.type "list",data:=.seq (its.set j u).toArray n }:=by
 simp[Obj.mapSeq]
theorem Inv.lst{pq:List (Addr×Obj)}{σ:St}{H:Hp}{s:Shared}{p:Addr}{xs:kK}(I:Inv X pq σ H s)(h:H p=some (.lst xs)) :
  ∃(its:k9) (n:Nat),A9 xs its/\s.heap.get? p=some { cls:=.type "list",data:=.seq its.toArray n }/\xs.length<=sizeLine:=by
 obtain⟨z,its,n,r,e⟩:=I.hok p _ h
 grind
theorem Inv.lstUpd{σ:St} {its its':k9} (I:Inv X pq σ H s)(h:H p=some (.lst xs))
  (ho:s.heap.get? p=some { cls:=.type "list",data:=.seq its.toArray n }) (hf:f { cls:=.type "list",data:=.seq its.toArray n }={ cls:=.type "list",data:=.seq its'.toArray n' }) (r:A9 ys its') (hz:ys.length<=sizeLine) (t) :
  Inv X pq σ (upd H p (.lst ys)) { s with heap:=s.heap.update p f,toks:=t}:=by
 have e:(s.heap.update p f).get? p=some { cls:=.type "list",data:=.seq its'.toArray n' }:=by
  rw[Ā f ho (by rw[hf]<;>rfl),hf]
 refine I.write (by rw[h];trivial) (.inl rfl) (λb u hb q=>(î _ _ (É hb)).trans q) ⟨_,e⟩ ?_
 exact⟨hz,its',n',r,e⟩
def rSetL:V->V->V->Hp->(Hp->Prop)->Prop:=λo i v H Q=>∃p xs k j,o=.ref p/\i=.int k/\H p=some (.lst xs)/\Bu xs.length k=some j/\Q (upd H p (.lst (xs.set j v)))
theorem Tc:Rn X rSetL:=by
 intro pq s σ H o i v ov iv u Q I ro ri rv h;obtain⟨p,xs,k,j,rfl,rfl,hp,hj,q⟩:=h;cases ro;obtain⟨t,rfl⟩:=ri;obtain⟨its,n,r,ho,hz⟩:=I.lst hp;obtain⟨h1,h2,h3,h4⟩:=Js hj;have hl:=r.length;have hn:=Jo
 have I' :=
  I.lstUpd hp ho (ze2 its n j u) (r.set rv j) (by rw[ŀ];exact hz) s.toks
 by_cases h0:0<=k
 .have hk :=by
   rw[seqIndex_of h0 h4]at h1;exact Ý h1
  exact W.ki_setAt ho h0 (by omega) (by grind) (by rw[hk];exact⟨_,I',q⟩)
 .have hk:(k+its.toArray.size).toNat=j:=by
   rw[seqIndex_neg (by omega) h3]at h1
   grind
  exact W.ki_setBack ho (by omega) (by grind) (by omega) (by rw[hk];exact⟨_,I',q⟩)
theorem zc1(lo hi)(n):(sliceBounds lo hi none n).1=HT.sIx n 0 lo/\(sliceBounds lo hi none n).2.1=HT.sIx n n hi/\(sliceBounds lo hi none n).2.2=1:=by
 refine⟨?_,?_,rfl⟩
 .cases lo with
  |none=>simp[sliceBounds,HT.sIx]|some i=>
   erw[sliceBounds,HT.sIx,Option.getD_none,È]
   grind
 .cases hi with
  |none=>simp[sliceBounds,HT.sIx]|some i=>
   erw[sliceBounds,HT.sIx,Option.getD_none,È]
   grind
theorem zbn(its:k9)(lo hi):slicePick its.toArray lo hi none=((its.drop (HT.sIx its.length 0 lo)).take (HT.sIx its.length its.length hi - HT.sIx its.length 0 lo)).toArray:=by
 obtain⟨h1,h2,h3⟩:=zc1 lo hi its.toArray.size;unfold slicePick;rw[h1,h2,h3];erw[sliceRange_one,pick_run]<;>rfl
def Vo(K:k6):V->kA->kA->Hp->VK->Prop:=λx lo hi H Q=>∃a xs,x=.ref a/\AX K H a xs/\∀p,H p=none->Q (.ref p) (upd H p (.lst (KN xs lo hi)))
theorem zj6:Rh X (Vo X.K):=by
 intro pq s σ H x v vl vu lo hi sl Q I rx hs pl pu h;obtain⟨a,xs,rfl,hx,q⟩:=h;cases rx;obtain⟨its,r,ht,hz⟩:=I.list hx;have hlen:=r.length;refine⟨"list",_,slot_list_getitem.lookup,ht.isList.typeIs,?_⟩;refine wpAny_getItem_list_slice ht.isList hs pl pu .none (by simp) ?_ (by grind)
 rw[zbn,<- hlen];refine⟨.ref s.heap.objs.size,_,I.laid (λb ob q=>Ë _ q) (Ç _) ?_,rfl,q _ (I.hok.fresh (Ç _))⟩
 exact⟨Þ (zdk xs lo hi) hz,_,0,(r.drop (HT.sIx xs.length 0 lo)).take (HT.sIx xs.length xs.length hi - HT.sIx xs.length 0 lo),à _ rfl⟩
theorem zd0:Bj X (.type "list") (λxs H Q=>∃p ys,xs=[.ref p]/\(AX X.K H p ys\/Bp X.K H p ys)/\∀l,H l=none->Q (.ref l) (upd H l (.lst ys))):=by
 intro pq s σ H xs us Q I r h;obtain⟨p,ys,rfl,hq,q⟩:=h;obtain⟨u,rfl,rx⟩:=EI r;cases rx
 have Aq:∀(its ),A9 ys its->ys.length<=sizeLine->∀(h' ) (c' ),(∀b o',s.heap.get? b=some o'->h'.get? b=some o') ->
   h'.get? s.heap.objs.size=some { cls:=.type "list",dict:=none,data:=.seq its.toArray c',slots:=#[] }->EP X pq σ Q (.ref s.heap.objs.size) { s with heap:=h' }:=λits r' hz h' c' kp e=>
  ⟨.ref s.heap.objs.size,_,I.laid kp (Ç _) (show CP X.prog X.w _ h' _ (.lst ys) from⟨hz,its,c',r',e⟩),rfl,q _ (I.hok.fresh (Ç _))⟩
 rcases hq with hq|hq
 .obtain⟨its,r',pl,hz⟩:=I.list hq;have hlen:=r'.length;obtain⟨o,ho,hc,n,hd⟩:=pl.isList;exact call_list_seq p (.inl rfl) ho hc hd (λh' c' kp e=>Aq its r' hz h' c' kp e) (by grind)
 .obtain⟨its,r',pl,hz⟩:=I.tuple hq;have hlen:=r'.length;obtain⟨o,ho,hc,n,hd⟩:=pl;exact call_list_seq p (.inr rfl) ho hc hd (λh' c' kp e=>Aq its r' hz h' c' kp e) (by grind)
def Sg(K:k6)(T:String)(x:V)(H:Hp):Prop:=match x with
 |.str _=>T="str"|.int _=>T="int"|.ref p=>(T="list"/\∃xs,AX K H p xs)\/(T="tuple"/\∃o,K.lookup p=some o/\o.cls=.type "tuple"/\o.dict=none) \/
   (T="dict"/\((∃kvs,H p=some (.dK kvs))\/∃kvs,H p=some (.dT kvs)))\/(T="set"/\∃S n,H p=some (.set S n))
 |_=>False
theorem zlt{σ:St}(I:Inv X pq σ H s)(r:A8 x v)(ty:Sg X.K T x H) :
  s.TypeIs v T/\∀a,v=.ref a->∃ob,s.heap.get? a=some ob/\ob.dict=none:=by
 cases x with
 |str z=>obtain⟨t,rfl⟩:=r;cases (ty);exact⟨Ğ s z t,λ_ e=>nomatch e⟩
 |int i=>obtain⟨t,rfl⟩:=r;cases (ty);exact⟨typeIs_int s i t,λ_ e=>nomatch e⟩
 |ref p=>
  cases r
  rcases ty with ⟨rfl,xs,hq⟩|⟨rfl,o,hk,hc,hd⟩|⟨rfl,hk⟩|⟨rfl,S,n,hk⟩
  .obtain⟨its,_,pl,_⟩:=I.list hq;refine⟨pl.isList.typeIs,λa e=>?_⟩
   cases e;obtain⟨o,n,e,c,hd,_⟩:=pl;exact⟨o,e,hd⟩
  .refine⟨⟨o,I.kIn p o hk,hc⟩,λa e=>?_⟩
   cases e;exact⟨o,I.kIn _ o hk,hd⟩
  .have z:∃o,s.heap.get? p=some o/\o.ExactDict:=by
    rcases hk with ⟨kvs,hk⟩|⟨kvs,hk⟩
    .obtain⟨_,_,_,_,o,_,_,e,ex,_⟩:=I.hok p _ hk;exact⟨o,e,ex⟩
    .obtain⟨_,_,_,_,o,_,_,e,ex,_⟩:=I.hok p _ hk;exact⟨o,e,ex⟩
   obtain⟨o,e,ex⟩:=z;refine⟨⟨o,e,ex.1⟩,λa e2=>?_⟩
   cases e2;exact⟨o,e,ex.2.1⟩
  .obtain⟨o,_,_,_,e,ex,_⟩:=I.hok p _ hk;refine⟨⟨o,e,ex.1⟩,λa e2=>?_⟩
   cases e2;exact⟨o,e,ex.2.1⟩
 |_=>exact False.elim ty
def tBM(K:k6)(T:String)(r:V->kK->Hp->VK->Prop)(to:TE)(t:TA):TE:=λσ H Q=>to σ H λx H1=>Sg K T x H1/\t σ H1 λxs H2=>r x xs H2 Q
variable {o e:Expr}{es:kC}{to:TE}{t:TA}{name:Str}{apos cpos:Pos}{T id:String}{r:V->kK->Hp->VK->Prop}
theorem Lf(pa:PlainAttrs T)(slot:Slot T name id)(hty:typeOf (.builtin id)=pure (.type "method_descriptor"))(hm:MtR X id r)(ho:PE X o to)(ha:PA X (e::es) t)
  (hbase:attributeBase o name X.env (eval o X.env)=eval o X.env:=by rfl)
  (hfew : ((backTo cpos (starEach (e :: es) X.env)).all (fun x => !x.1) && (backToKw cpos (keywordEach [] X.env)).all (fun x => x.1.isSome)
   && decide ((e::es).length+([]:List Keyword).length+(if ([]:List Keyword).isEmpty then 0 else 1)<30))=true:=by rfl)
  (hline:(apos.endLine == cpos.line)=true:=by rfl) (hs:starEach (e::es) X.env=(false,eval e X.env)::starEach es X.env:=by rfl) (hplain:(backTo cpos (starEach es X.env)).any (·.1)=false:=by rfl) :
  PE X (.Call (.Attribute o name apos) (e::es) [] cpos) (tBM X.K T r to t):=by
 intro pq s σ H Q I h;refine wpAny_Call_method_late hbase hfew hline rfl (AQ (ho pq s σ H _ I h) λv s1 zz=>?_)
 obtain⟨x,H1,I1,r1,ty,q1⟩:=zz;obtain⟨h1,h2⟩:=zlt I1 r1 ty;refine⟨T,id,pa,slot,hty,h1,h2,?_⟩;have hA:=ha cpos pq s1 σ H1 _ I1 q1;rw[hs]at hA ⊢;refine Calls.callWith_builtin (by grind) (Calls.evalArgs_plain ?_)
 exact AQ hA λus s2 ⟨vs,H2,I2,r2,q2⟩=>hm pq s2 σ H2 x vs v us Q I2 r1 r2 q2
end
def NF(X:Cx)(id:String)(r:V->kK->Hp->VK->Prop):Prop:=
 ∀(pq:List (Addr×Obj)) (s:Shared) (σ:St) (H:Hp) (x:V) (xs:kK) (v:Value) (us:k9) (Q:VK),Inv X pq σ H s->A8 x v->A9 xs us->r x xs H Q ->
  wpAny (model X.prog X.w) X.A (call (.builtin id) (v::us)) (EP X pq σ Q) X.xe s
theorem A9.one:∀{x} {us},A9 [x] us->∃u,us=[u]/\A8 x u
 |_,_,.cons r .nil=>⟨_,rfl,r⟩
theorem A9.rep(h:A9 xs us):∀k ,A9 (List.replicate k xs).flatten (List.replicate k us).flatten
 |0=>.nil|k+1=>by
  exact A9.append h (A9.rep h k)
theorem Yw(its):∀(k) (acc:k9),
  List.foldl (λx1 x2=>x1++x2) acc.toArray (List.replicate k its.toArray)=(acc++(List.replicate k its).flatten).toArray
 |0,acc=>by simp|k+1,acc=>by
  have e:acc.toArray++its.toArray=(acc++its).toArray:=by simp
  have e2:(acc++its)++(List.replicate k its).flatten=acc++(List.replicate (k+1) its).flatten:=by
   grind
  rw[<- e2,<- Yw its k (acc++its),<- e,ŧ,List.foldl_cons]
section
variable {X:Cx}{pq:List (Addr×Obj)}{σ:St}{H:Hp}{s:Shared}{l b:Addr}{xs ys zs:kK}
theorem Inv.lset{its its':k9}(I:Inv X pq σ H s)(hH:H l=some (.lst xs))
  (e:s.heap.get? l=some { cls:=.type "list",data:=.seq its.toArray n }) (hf:f its.toArray=its'.toArray) (hv:A9 ys its') (hz:ys.length<=sizeLine) :
  Inv X pq σ (upd H l (.lst ys)) { s with heap:=s.heap.update l (Obj.mapSeq f),toks:=t' }:=by
 have q:=PySem.IsL.update e f;rw[hf]at q;refine I.write (by rw[hH];exact trivial) (.inl rfl) (λb' u hb hu=>(î s.heap (Obj.mapSeq f) (É hb)).trans hu) ⟨_,q⟩ ?_
 exact⟨hz,its',_,hv,q⟩
theorem Inv.lnew(I:Inv X pq σ H s)(hv:A9 ys its)(hz:ys.length<=sizeLine) :
  Inv X pq σ (upd H s.heap.objs.size (.lst ys)) { s with heap:=s.heap.push { cls:=.type "list",data:=.seq its.toArray },toks:=t' }:=
 I.laid (λ_ _ q=>Ë _ q) (Ç _) ⟨hz,its,0,hv,à _ rfl⟩
theorem Inv.fresh(I:Inv X pq σ H s):H s.heap.objs.size=none:=I.hok.fresh (Ç _)
theorem Inv.lstM(I:Inv X pq σ H s)(hH:H l=some (.lst xs)):xs.length<=sizeLine/\∃(its:k9) (n:Nat),A9 xs its/\xs.length=its.length/\s.heap.get? l=some { cls:=.type "list",data:=.seq its.toArray n }:=by
 obtain⟨z,its,n,r,e⟩:=I.hok l _ hH;exact⟨z,its,n,r,r.length,e⟩
theorem Xl(h:n<=sizeLine):Builtin.List.listTooLong n=false:=by
 exact Ü (by omega)
end
section
variable {X:Cx}
def zjn:V->kK->Hp->VK->Prop:=λx vs H Q=>∃l xs y,x=.ref l/\vs=[y]/\H l=some (.lst xs)/\xs.length<sizeLine/\Q .non (upd H l (.lst (xs++[y])))
theorem zf7:NF X "list.append" zjn:=by
 intro pq s σ H x vs v us Q I rx rv h;obtain⟨l,xs,y,rfl,rfl,hH,hz,q⟩:=h;cases rx;obtain⟨u,rfl,ru⟩:=rv.one;obtain⟨z,its,n,r,hl,e⟩:=I.lstM hH;refine Ĵ F.slot_list_append ⟨_,e,rfl⟩ F.entry_list_append (F.args_list_append_2 _ _) (PySem.list_append l its.toArray n u (by grind)) ⟨e,?_⟩
 refine⟨.non,_,I.lset hH e (by simp) (r.append (.cons ru .nil)) ?_,rfl,q⟩
 grind
def zjm:V->kK->Hp->VK->Prop:=λx vs H Q=>∃l b xs zs,x=.ref l/\vs=[.ref b]/\H l=some (.lst xs)/\H b=some (.lst zs)/\xs.length+zs.length<=sizeLine/\Q .non (upd H l (.lst (xs++zs)))
theorem zf6:NF X "list.extend" zjm:=by
 intro pq s σ H x vs v us Q I rx rv h;obtain⟨l,b,xs,zs,rfl,rfl,hH,hB,hz,q⟩:=h;cases rx;obtain⟨u,rfl,ru⟩:=rv.one;cases ru;obtain⟨z,its,n,r,hl,e⟩:=I.lstM hH;obtain⟨z2,its2,n2,r2,hl2,e2⟩:=I.lstM hB;have hsz:its.toArray.size+its2.toArray.size<=sizeLine:=by grind
 have hlong:¬ (!its.toArray.isEmpty && Builtin.List.listTooLong (its.toArray.size+its2.toArray.size))=true:=by
  rw[Xl hsz];simp
 refine Ĵ F.slot_list_extend ⟨_,e,rfl⟩ F.entry_list_extend (F.args_list_extend_2 _ _)
  (AutoSeq1.list_extend_list_list_0 l its.toArray n b its2.toArray n2 hlong (by omega) (by omega)) ⟨e,e2,?_⟩
 refine⟨.non,_,I.lset hH e (by simp) (r.append r2) ?_,rfl,q⟩
 grind
def rCat:R2:=λx y H Q=>∃l b xs zs,x=.ref l/\y=.ref b/\H l=some (.lst xs)/\H b=some (.lst zs)/\xs.length+zs.length<=sizeLine/\∀p,H p=none->Q (.ref p) (upd H p (.lst (xs++zs)))
theorem znp:Ae X (binaryOp .Add) rCat:=by
 intro pq s σ H x y v u Q I rx ry h;obtain⟨l,b,xs,zs,rfl,rfl,hH,hB,hz,q⟩:=h;cases rx;cases ry;obtain⟨z,its,n,r,hl,e⟩:=I.lstM hH;obtain⟨z2,its2,n2,r2,hl2,e2⟩:=I.lstM hB;refine PySem.P.add_list e e2 ?_ (by grind)
 have ea:its.toArray++its2.toArray=(its++its2).toArray:=by simp
 rw[ea];exact⟨.ref _,_,I.lnew (r.append r2) (by grind),rfl,q _ I.fresh⟩
def rRep:R2:=λx y H Q=>∃l k xs,x=.ref l/\y=.int k/\H l=some (.lst xs)/\-(2 ^ 63)<=k/\k<2 ^ 63/\xs.length * k.toNat<=sizeLine /\
 ∀p,H p=none->Q (.ref p) (upd H p (.lst (List.replicate k.toNat xs).flatten))
theorem zku{α:Type}(xs:List α)(k):(List.replicate k xs).flatten.length=k * xs.length:=by
 simp
theorem znl:Ae X (binaryOp .Mult) rRep:=by
 intro pq s σ H x y v u Q I rx ry h;obtain⟨l,k,xs,rfl,rfl,hH,h1,h2,hz,q⟩:=h;cases rx;obtain⟨t,rfl⟩:=ry;obtain⟨z,its,n,r,hl,e⟩:=I.lstM hH;have hlen:its.toArray.size * k.toNat<=sizeLine:=by rw[ô,<- hl];exact hz
 have hcap:¬ its.toArray.size * k.toNat > (2 ^ 63 - 1) / 8:=by
  have:sizeLine<=(2 ^ 63 - 1) / 8:=by decide
  omega
 have hfit:¬ (!Builtin.List.listFitsIndex k)=true:=by
  rw[fitsIndex_both h1 h2];exact û
 have hlong:¬ Builtin.List.listTooLong (its.toArray.size * k.toNat)=true:=by
  rw[Xl hlen];exact û
 have hnew:List.foldl (λx1 x2=>x1++x2) #[] (List.replicate (if its.toArray.isEmpty=true then 0 else k.toNat) its.toArray)=(List.replicate k.toNat its).flatten.toArray:=by
  have f0 :=λm=>by
   have:=Yw its m [];rw[Ť]at this;exact this
  rw[f0];cases its with
  |nil=>simp|cons a r'=>rw[if_neg (by simp)]
 refine wpAny_binaryOp_repeat_ref (by decide) ⟨_,e,rfl⟩ (λs'=>typeIs_int s' k t) noFill_list_mul F.fills_int_mul F.slot_int_rmul repeat_list F.slot_int_index.lookup
  (Ĵ F.slot_int_rmul (typeIs_int s k t) F.entry_int_rmul (F.args_int_rmul_2 _ _) (int___rmul___int_list k t l its.toArray n)
   ⟨e,rfl,⟨_,e,rfl⟩,Ĵ F.slot_list_mul ⟨_,e,rfl⟩ F.entry_list_mul (F.args_list_mul_2 _ _) (AutoListH.list___mul___list_int_3 l its.toArray n k t hfit hcap hlong) ⟨e,?_⟩⟩)
 rw[hnew];exact⟨.ref _,_,I.lnew (r.rep k.toNat) (by rw[zku,Nat.mul_comm];exact hz),rfl,q _ I.fresh⟩
end
section
variable {prog:Program}{w:World}{A:Around}{E:Value->Shared->Prop}{s:Shared}
end
section
variable {X:Cx}
end
end L2
namespace Att
open PySem PySem.W PySem.Calls PyProof.Rows
theorem zaq:∀(ns) (vs),WellAll P h vs (ns.map WData.int)->IntsAre vs ns:=by
 intro ns
 induction ns with
 |nil=>intro vs w;cases w;exact .nil|cons n ns ih=>
  intro vs w;cases w with
  |cons a b=>cases a;exact .cons _ _ (ih _ b)
theorem zez{l:OpenLaw}(hn:l.most=some n)
  (hpre:l.row.toRowW.claim.pre args=true) (hwl:WellAll P h vals args) :
  ∃a vs ns,vals=[Value.ref a]/\args=[WData.list (ns.map WData.int)]/\h.get? a=some { cls:=.type "list",data:=.seq vs.toArray }/\IntsAre vs ns/\ns.length<=n:=by
 have hsh :=(pre_splitW hpre).1;have hc:l.pre.holds [] { args:=args }=true:=(pre_splitW hpre).2;obtain⟨d,r,rfl,h1,h2⟩:=hasAllW_cons hsh;obtain rfl:=hasAllW_nil h2;obtain⟨xs,rfl,h3⟩:=hasW_list h1;obtain⟨ns,rfl⟩:=items_int h3
 have hlen:ns.length<=n:=by
  have h4:(WTm.not (.lt (.lit (.int n)) (.len (.arg 0)))).holds [] { args:=[.list (ns.map .int)] }=true:=by
   have h4:=(holds_andW hc).1
   grind
  have h5:=condW_of h4 (w_not (w_lt w_lit (w_len_list (w_arg rfl))))
  grind
 cases hwl with
 |cons w1 w2=>
  cases w2;cases w1 with
  |list ho hall=>exact⟨_,_,ns,rfl,rfl,ho,zaq ns _ hall,hlen⟩
theorem zf0(l:OpenLaw)(args):l.row.toRowW.claim.post args (.bool true) args=true:=
 postW_of
  (by rfl)
  (w_eq_bool (w_res rfl) w_lit) rfl
theorem attach_call{l:OpenLaw}
  (hn:l.most=some n) (hdf:d.params.defaults=[])
  (call : ∀ (w ) (s₀ s₁ ) (mg mb ) (fa ) (o ) (pm cd doc ) (a ) (vs ) (ns ),
   Ground q loose [] XP w s₀ mg mb s₁.heap->YP w s₁.heap ->
   s₁.heap.get? fa=some o->o.data=.func (docDef d.name d.params d.body d.scope pm cd doc)->s₁.heap.CodeRec cd d.name->mg d.name=some (.ref fa) ->
   s₁.heap.get? a=some { cls:=.type "list",data:=.seq vs.toArray }->IntsAre vs ns->ns.length<=n->s₁.gens=#[] ->
   codeAny (model l.prog w) callerA (.call (.ref fa) ⟨[.ref a],[]⟩) (λr s'=>r=.ok (.ret (.bool true))/\OldK s₁.heap s'.heap/\s'.os=s₁.os/\AllBare s'.gens) s₁) :
  WalkO q loose XP YP l.row.toRowW d [] (λf vs=>PySem.call f vs):=by
 intro w s₀ s₁ mg mb G Y fa o pm cd doc dV kV ho hd hcd hD hmg hg args vals as hpre hlay hrd hwl hlo;obtain rfl:dV=.none:=Dflts.none hD hdf;obtain rfl:kV=.none:=Dflts.noKw hD;obtain⟨a,vs,ns,rfl,rfl,hobj,hints,hlen⟩:=zez hn hpre hwl;refine enter_call (ÿ (call w s₀ s₁ mg mb fa o pm cd doc a vs ns G Y ho (fd_plain hd) hcd hmg hobj hints hlen hg) λr s' hq=>?_)
 obtain⟨rfl,h2,h3,h4⟩:=hq;exact⟨.inl ⟨.bool true,.bool true,[],rfl,λ_=>rfl,.bool true,zf0 l _,λ_=>⟨List.Pairwise.nil,λ_ hm=>(nomatch hm)⟩⟩,h2,h3,h4⟩
section
variable {prog:Program}{w:World}{A:Around}{E:Value->Shared->Prop}{s:Shared}{K:Frag}
end
end Att
namespace L2
open PySem PySem.Spec PyProof.Rows
theorem Sa:∀{vs} {ns},IntsAre vs ns->A9 (ns.map V.int) vs
 |_,_,.nil=>.nil|_,_,.cons n t h=>.cons ⟨t,rfl⟩ (Sa h)
def ND(H:Hp):Prop:=∀b,H b=none\/∃o xs,H b=some (.frz o (.lst xs))
theorem zhm{K} 
  (KX:K.In s₁.heap) (hns:s₁.heap.Ns mainGlobals mg) (hb:s₁.heap.Ns builtinsNs mb) (hbb:∀x:Str,x≠"__name__"->mb x=bootBuiltins x) (hlim:s₁.heap.NoLimit) (hg:s₁.gens=#[])
  (ha:s₁.heap.get? a=some { cls:=.type "list",data:=.seq vs.toArray }) (hi:IntsAre vs ns) (hl:ns.length<=sizeLine) (hr:Room k callerA)
  (F:∀base:Heap,K.In base->base.Ns mainGlobals mg->FnOk P w K mg base CX k fa fd [x] sp) (hbind:∀(s) (u),BindsTo s fd ⟨[u],[]⟩ [(x,u)])
  (hsp:∀H:Hp,ND H->AX K H a (ns.map V.int)->sp [.ref a] H (λv _=>v=.bl true) λ_ _ _=>False)
  (hCX:∀H e s',CX [] H s₁ (λ_ _ _=>False) e s'->False) :
  codeAny (model P w) callerA (.call (.ref fa) ⟨[.ref a],[]⟩) (λr s'=>r=.ok (.ret (.bool true))/\OldK s₁.heap s'.heap/\s'.os=s₁.os/\AllBare s'.gens) s₁:=by
 have rv:=Sa hi;have lenV:=hi.length
 have core:∀H ,ND H->AX K H a (ns.map V.int)->HOk P w H s₁.heap->(∀b,H b≠none->b=a)->(H a≠none->K.lookup a=none) ->
   codeAny (model P w) callerA (.call (.ref fa) ⟨[.ref a],[]⟩) (λr s'=>r=.ok (.ret (.bool true))/\OldK s₁.heap s'.heap/\s'.os=s₁.os/\AllBare s'.gens) s₁:=by
  intro H hO hS hok hA hK;have base_of:∀{b} {o},s₁.heap.get? b=some o->H b=none->(Gg s₁.heap H).get? b=some o:=λe n=>Δ e n
  have noA:∀{b} {o} {es} {ep},s₁.heap.get? b=some o->o.data=.dict es ep->H b=none:=λ{b o es ep} e d=>by
   cases q:H b with
   |none=>rfl|some u=>
    have e' :=hA b (by rw[q];simp)
    subst e';rw[ha]at e;cases e;have d' :=d;cases d'
  have nsK:∀{b} {m},s₁.heap.Ns b m->(Gg s₁.heap H).Ns b m:=λ{b m} ⟨o,es,ep,e,d,r⟩=>⟨o,es,ep,base_of e (noA e d),d,r⟩
  have hKb :=λb o e=>base_of (KX b o e) (by
   cases q:H b with
   |none=>rfl|some u=>
    have e' :=hA b (by rw[q];simp)
    subst e';rw[hK (by rw[q];simp)]at e;cases e)
  have hM:Mod K mg (Gg s₁.heap H):=⟨hKb,nsK hns,⟨mb,nsK hb,hbb⟩,let ⟨mc,h1,h2⟩:=hlim;⟨mc,nsK h1,h2⟩⟩;have e0:Env0 P w K mg (Gg s₁.heap H) callerA [] s₁ H:=⟨rfl,hM,λb o e=>Ε e,Nat.le_of_eq (Β _ _),trivial,λb hb=>absurd (show b∈[] from hb) (by simp),hok,.of_eq hg⟩
  refine ÿ ((F _ hKb (nsK hns)).run callerA [] s₁ H ⟨[.ref a],[]⟩ [.ref a] [.ref a] _ _ hr e0 (hbind s₁ (.ref a)) (.cons rfl .nil) (hsp H hO hS)) λr s' h=>?_
  cases r with
  |error e=>exact(hCX H e s' h).elim|ok fl=>
   cases fl with
   |next=>exact False.elim h|brk=>exact False.elim h|cont=>exact False.elim h|ret u=>
    obtain⟨v,H',os,bare,un,hok',r',q⟩:=h;have q' :=q;subst q';obtain rfl:u=Value.bool true:=r';refine⟨rfl,OldK.of_keep λb o e=>?_,os,bare⟩
    cases q:H b with
    |none=>exact un.keep b o e q (by intro z;exact absurd (show b∈[] from z) (by simp)) (by simp)|some u=>
     rcases hO b with z|⟨ob,xs,z⟩
     .rw[q]at z;cases z
     .have z2:=un.frzs b ob _ z;obtain⟨e1,_⟩:=hok b _ z;obtain⟨e2,_⟩:=hok' b _ z2;rw[e]at e1;cases e1;exact e2
 cases hk:K.lookup a with
 |some o=>have e:=KX a o hk;rw[ha]at e;cases e;refine core (λ_=>none) (λ_=>.inl rfl) (.inr ⟨_,vs.toArray,_,hk,rfl,rfl,rfl,by rw[ô,lenV];exact hl,by simpa using rv⟩) (λb u z=>by have z' :=z;cases z') (λb z=>absurd rfl z) λz=>absurd rfl z|none=>
  refine core (λb=>if b=a then some (.frz { cls:=.type "list",data:=.seq vs.toArray } (.lst (ns.map V.int))) else none) (λb=>?_) (.inl (.inr ⟨{ cls:=.type "list",data:=.seq vs.toArray },if_pos rfl⟩)) (λb u z=>?_) (λb z=>?_) λ_=>hk
  .by_cases hb:b=a
   .exact .inr ⟨_,_,if_pos hb⟩
   .exact .inl (if_neg hb)
  .by_cases hb:b=a
   .have z':=(if_pos hb).symm.trans z;cases z';subst hb;exact⟨ha,by rw[Á];exact hl,vs,_,rv,ha⟩
   .have z':=(if_neg hb).symm.trans z;cases z'
  .by_cases hb:b=a
   .exact hb
   .exact absurd (if_neg hb) z
theorem walk_of{l:PySem.W.OpenLaw}{n k:Nat}     {d:DefRec}{K:Params->k6}{CX:World->Fe}{sp:World->Sp}{x:Str}
  (hn:l.most=some n) (hn2:n<=sizeLine) (hdf:d.params.defaults=[]) (hr:Room k callerA)
  (hY:∀(w:World) (h:Heap),YP w h->(K w.params).In h)
  (F : ∀ (w : World) (mg ) (fa : Addr) (h : Heap), (K w.params).In h -> h.Ns mainGlobals mg -> mg d.name = some (.ref fa) ->
   ∃fd:FuncData,(∀(s:Shared) (u:Value),BindsTo s fd ⟨[u],[]⟩ [(x,u)]) /\
    ∀base:Heap,(K w.params).In base->base.Ns mainGlobals mg->FnOk l.prog w (K w.params) mg base (CX w) k fa fd [x] (sp w))
  (hsp:∀(w:World) (H:Hp) (a:Addr) (ns:kF),ns.length<=n->ND H->AX (K w.params) H a (ns.map V.int)->sp w [.ref a] H (λv _=>v=.bl true) λ_ _ _=>False)
  (hCX:∀(w:World) (H:Hp) (s:Shared) (e:Value) (s':Shared),CX w [] H s (λ_ _ _=>False) e s'->False) :
  PySem.W.WalkO q loose XP YP l.row.toRowW d [] (λf vs=>PySem.call f vs):=by
 refine Att.attach_call hn hdf λw s₀ s₁ mg mb fa o pm cd doc a vs ns G Y ho hd hcd hmg hobj hints hlen hg=>?_
 have KX:=hY w _ Y;obtain⟨fd,hb,hF⟩:=F w mg fa _ KX G.T.g hmg;exact zhm KX G.T.g G.T.b G.T.builtins G.T.nolimit hg hobj hints (Þ hlen hn2) hr hF hb (λH hO hS=>hsp w H a ns hlen hO hS) λH e s'=>hCX w H s₁ e s'
def M0(s:Stmt):Arguments:=match s with
 |.FunctionDef _ a _ _ _ _ _ _ _ _=>a|_=>{ posonlyargs:=[],args:=[],vararg:=none,kwonlyargs:=[],kw_defaults:=[],kwarg:=none,defaults:=[] }
def GA(s:Stmt):kD:=match s with
 |.FunctionDef _ _ b _ _ _ _ _ _ _=>b|_=>[]
noncomputable def AV(s:Stmt):Scope:=match s with
 |.FunctionDef _ _ _ _ _ _ sc _ _ _=>sc|_=>{ kind:=.function,names:=[],isGenerator:=false,isCoroutine:=false }
abbrev Ki:Fe:=λ_ _ _ _ _ _=>False
abbrev E0:XK:=λ_ _ _=>False
section
variable {P:Program}{w:World}{K:k6}{mg:Str->Option Value}{base:Heap}
end
section
variable {X:Cx}
end
theorem Ju{A B:Prop}(h:B):if false=true then A else B:=by
 grind
theorem Jt{A B:Prop}(h:A):if true=true then A else B:=by
 rw[if_pos rfl];exact h
def A4(H H':Hp):Prop:=∀b o,H b=some o->H' b=some o
theorem A4.refl(H:Hp):A4 H H:=λ_ _ h=>h
theorem A4.trans(a:A4 H H1)(b:A4 H1 H2):A4 H H2:=λc o h=>b c o (a c o h)
theorem A4.seq{K}(e:A4 H H')(h:AX K H a xs):AX K H' a xs:=by
 rcases h with (h|⟨o,h⟩)|h
 .exact .inl (.inl (e _ _ h))
 .exact .inl (.inr ⟨o,e _ _ h⟩)
 .exact .inr h
section
variable {κ:Type} [DecidableEq κ]
noncomputable def Du(kvs:List (κ×V))(k:κ):Option V:=(kvs.find? λkv=>decide (kv.1=k)).map (·.2)
noncomputable def Dy(kvs:List (κ×V))(k:κ)(v:V):List (κ×V):=
 if (kvs.any λkv=>decide (kv.1=k))=true then kvs.map (λkv=>if kv.1=k then (kv.1,v) else kv) else kvs++[(k,v)]
theorem Kr{k:κ}(e:p.1=k):Du (p::r) k=some p.2:=by simp[Du,e]
theorem Ks{k:κ}(e:¬ p.1=k):Du (p::r) k=Du r k:=by simp[Du,e]
theorem Se(k:κ):∀kvs ,(kvs.any λkv=>decide (kv.1=k))=(Du kvs k).isSome
 |[]=>rfl|p::r=>by
  rw[List.any_cons]
  by_cases e:p.1=k
  .erw[Kr e,Ì e,Bool.true_or,Ū]
  .rw[Ks e,Ü e];exact Se k r
theorem YY(kvs)(k:κ)(v):(Dy kvs k v).length<=kvs.length+1:=by
 unfold Dy
 grind
theorem Dn.isSome_eq(r:Dn o u):o.isSome=u.isSome:=by
 cases o with
 |none=>cases u with
  |none=>rfl|some _=>exact(r).elim
 |some _=>cases u with
  |none=>exact(r).elim|some _=>rfl
theorem KV.val   (r:KV kvs vs)(k:κ):Dn (Du kvs k) (valueAt vs k):=by
 induction r with
 |nil=>exact True.intro|@cons p q ps qs h t ih=>
  obtain⟨h1,h2⟩:=h
  by_cases e:p.1=k
  .have e' :=h1.symm.trans e;have b:valueAt (q::qs) k=some q.2:=by simp[valueAt,e']
   rw[Kr e,b];exact h2
  .have e':¬ q.1=k:=λz=>e (h1.trans z)
   have b:valueAt (q::qs) k=valueAt qs k:=by simp[valueAt,e']
   rw[Ks e,b];exact ih
theorem KV.any(r:KV kvs vs)(k:κ):(kvs.any λkv=>decide (kv.1=k))=vs.any λkv=>decide (kv.1=k):=by
 induction r with
 |nil=>rfl|cons h t ih=>grind
theorem KV.repl(r:KV kvs vs)(k:κ)(ry:A8 y u) :
  KV (kvs.map λkv=>if kv.1=k then (kv.1,y) else kv) (vs.map λkv=>if kv.1=k then (kv.1,u) else kv):=by
 induction r with
 |nil=>exact .nil|@cons p q ps qs h t ih=>
  refine .cons ?_ ih
  grind
theorem KV.put(r:KV kvs vs)(k:κ)(ry:A8 y u):KV (Dy kvs k y) (stored vs k u):=by
 unfold Dy stored;rw[r.any k]
 by_cases e:(vs.any λkv=>decide (kv.1=k))=true
 .rw[if_pos e,if_pos e];exact r.repl k ry
 .rw[if_neg e,if_neg e];exact Paired.snoc r ⟨rfl,ry⟩
theorem KV.length{kvs:List (κ×V)}(r:KV kvs vs):kvs.length=vs.length:=ŉ r
end
theorem QI(r:A8 (kV k) u):(DA P w).is k u=true:=by
 cases k with
 |inl i=>obtain⟨t,e⟩:=(r);subst e;exact ſ P w i t
 |inr x=>obtain⟨t,e⟩:=(r);subst e;exact Α P w x t
theorem Yg:∀{ks} {us},A9 (ks.map kV) us->ItemsAre (DA P w) ks us
 |[],_,r=>by cases r;exact .nil|k::ks,_,r=>by
  cases r with
  |cons h t=>exact .cons (QI h) (Yg t)
abbrev KT(H:Hp):List (List Key×V)->List (List Key×Addr×Value)->Prop:=Paired λp q=>p.1=q.1/\H q.2.1=some (.tup (p.1.map kV))/\A8 p.2 q.2.2
theorem KT.val(r:KT H kvs xs)(k):Dn (Du kvs k) ((atKey xs k).map (·.2)):=by
 induction r with
 |nil=>exact True.intro|@cons p q ps qs h t ih=>
  obtain⟨h1,_,h2⟩:=h
  by_cases e:p.1=k
  .have e' :=h1.symm.trans e;have b:atKey (q::qs) k=some q.2:=by simp[atKey,e']
   rw[Kr e,b];exact h2
  .have e':¬ q.1=k:=λz=>e (h1.trans z)
   have b:atKey (q::qs) k=atKey qs k:=by simp[atKey,e']
   rw[Ks e,b];exact ih
theorem KT.repl(r:KT H kvs xs)(k)(ry:A8 y u) :
  KT H (kvs.map λkv=>if kv.1=k then (kv.1,y) else kv) (xs.map (putAt k u)):=by
 induction r with
 |nil=>exact .nil|@cons p q ps qs h t ih=>
  refine .cons ?_ ih;unfold putAt
  grind
theorem KT.put{H:Hp}(r:KT H kvs xs)(k){y:V}(hb:H b=some (.tup (k.map kV)))(ry:A8 y u) :
  KT H (Dy kvs k y) (storedH xs k b u):=by
 have e:(kvs.any λkv=>decide (kv.1=k))=(atKey xs k).isSome:=by
  rw[Se,(r.val k).isSome_eq,Option.isSome_map]
 unfold Dy storedH;rw[e]
 by_cases q:(atKey xs k).isSome=true
 .rw[if_pos q,if_pos q];exact r.repl k ry
 .rw[if_neg q,if_neg q];exact Paired.snoc r ⟨rfl,hb,ry⟩
theorem KT.keeps(r:KT H kvs xs)(ht:∀b ys,H b=some (.tup ys)->H' b=some (.tup ys)):KT H' kvs xs:=
 Paired.mapP r λ_ _ z=>⟨z.1,ht _ _ z.2.1,z.2.2⟩
section
variable {P:Program}{w:World}{H:Hp}{h:Heap}{a:Addr}
theorem VR{u:HO}(ok:HOk P w H h)(e:Rd H a u):CP P w H h a u:=e.ok ok
theorem aH(ok:HOk P w H h)(e:Rd H a (.dK kvs)):kvs.length<=sizeLine/\(a == sysModules)=false/\∃vs,KV kvs vs/\h.DictOf (DA P w) a vs:=
 VR ok e
theorem aI(ok:HOk P w H h)(e:H a=some (.dK kvs)):kvs.length<=sizeLine/\(a == sysModules)=false/\∃vs,KV kvs vs/\h.DictOf (DA P w) a vs:=aH ok (.inl e)
theorem QH  (ok:HOk P w H h)(e:H a=some (.tup (ks.map kV))):(tupleKind (DA P w)).is h ks a:=by
 obtain⟨_,its,r,o,h1,h2,n,h3⟩:=(ok a _ e);exact⟨o,its.toArray,n,h1,h2,h3,by simpa using Yg r⟩
theorem aG(ok:HOk P w H h)(e:Rd H a (.dT kvs)):kvs.length<=sizeLine/\(a == sysModules)=false /\
  ∃xs,KT H kvs xs/\h.DictOfH (tupleKind (DA P w)) a xs:=by
 obtain⟨z,y,xs,r,o,es,ep,h1,h2,h3,h4,h5⟩:=(VR ok e);refine⟨z,y,xs,r,o,es,ep,h1,h2,h3,h4,λx hx=>?_,h5⟩
 have all:∀{l } {m },KT H l m->∀x∈m,(tupleKind (DA P w)).is h x.1 x.2.1:=by
  intro l m q
  induction q with
  |nil=>simp|@cons p q ps qs hq t ih=>
   intro x hx
   rcases(Ð.mp hx) with e|hx
   .exact QH ok (by grind)
   grind
 grind
theorem dt_of(ok:HOk P w H h)(e:H a=some (.dT kvs)):kvs.length<=sizeLine/\(a == sysModules)=false /\
  ∃xs,KT H kvs xs/\h.DictOfH (tupleKind (DA P w)) a xs:=aG ok (.inl e)
end
def NM(H:Hp)(a:Addr)(y:V)(r:Option V):Prop:=
 (∃kvs k,Rd H a (.dK kvs)/\y=kV k/\r=Du kvs k)\/∃kvs k b,Rd H a (.dT kvs)/\y=.ref b/\H b=some (.tup (k.map kV))/\r=Du kvs k
def NL(H:Hp)(a:Addr)(y v:V)(H':Hp):Prop:=
 (∃kvs k,H a=some (.dK kvs)/\y=kV k/\kvs.length<sizeLine/\H'=upd H a (.dK (Dy kvs k v))) \/
 ∃kvs k b,H a=some (.dT kvs)/\y=.ref b/\H b=some (.tup (k.map kV))/\kvs.length<sizeLine/\H'=upd H a (.dT (Dy kvs k v))
theorem NM.k{k}(e:H a=some (.dK kvs)):NM H a (kV k) (Du kvs k):=.inl ⟨kvs,k,.inl e,rfl,rfl⟩
theorem NL.k{k}(e:H a=some (.dK kvs))(hl:kvs.length<sizeLine):NL H a (kV k) v (upd H a (.dK (Dy kvs k v))):=.inl ⟨kvs,k,e,rfl,hl,rfl⟩
section
variable {X:Cx}{pq:List (Addr×Obj)}{σ:St}{H:Hp}{s:Shared}{a:Addr}{y v:V}{u r:Value}{o:Option V}{A:Around}{E:Value->Shared->Prop}
theorem Inv.big(I:Inv X pq σ H s):sysModules<s.heap.objs.size:=by
 have h :=(I.mod.glob.keeps I.bk).lt;exact ı (by decide) h
theorem zfv  (hu:A.units+1<cLine)(I:Inv X pq σ H s)(g:NM H a y (some v))(ry:A8 y u)(h:∀w' s',Inv X pq σ H s'->A8 v w'->Q w' s') :
  wpAny (model X.prog X.w) A (getItem (.ref a) u) Q E s:=by
 rcases g with ⟨kvs,k,e,ey,l⟩|⟨kvs,k,b,e,ey,eb,l⟩
 .subst ey;obtain⟨z,hd,vs,rel,dd⟩:=aH I.hok e;obtain⟨w',hw,rw'⟩:=Dn.some_of (by rw[l];exact rel.val k)
  exact wpAny_getItem_of (QI ry) dd.mapOf hw (h w' _ (I.tok _) rw')
 .subst ey;cases (ry);obtain⟨z,hd,xs,rel,dd⟩:=aG I.hok e;obtain⟨w',hw,rw'⟩:=Dn.some_of (by rw[l];exact rel.val k)
  obtain⟨p,hp,hp2⟩:=Õ.mp hw;refine wpAny_getItem_heap (tupleKind_room_in1 hu) (QH I.hok eb) dd hp ?_;rw[hp2];exact h w' _ (I.tok _) rw'
theorem aN    (I:Inv X pq σ H s)(mu:Kh (H a))(hs:Heap.SameBut a s.heap h')(he:∃q,h'.get? a=some q)(new:CP X.prog X.w (upd H a ob) h' a ob) :
  Inv X pq σ (upd H a ob) { s with heap:=h',toks:=t' }:=
 I.write mu (.inl rfl) (λb q hb z=>(hs.2 b hb).trans z) he new
theorem zp5(z:kvs.length<=sizeLine)(hd:(a == sysModules)=false)(rel:KV kvs vs)(dd:h'.DictOf (DA P w) a vs) :
  CP P w H' h' a (.dK kvs):=⟨z,hd,vs,rel,dd⟩
theorem zfu   (hu:A.units+1<cLine)(I:Inv X pq σ H s)(g:NL H a y v H')(ry:A8 y u)(rv:A8 v r)(h:∀s',Inv X pq σ H' s'->Q () s') :
  wpAny (model X.prog X.w) A (setItem (.ref a) u r) Q E s:=by
 rcases g with ⟨kvs,k,e,ey,l,eH⟩|⟨kvs,k,b,e,ey,eb,l,eH⟩
 .subst ey eH;obtain⟨z,hd,vs,rel,dd⟩:=aI I.hok e;have hz:vs.length<=sizeLine:=by rw[<- rel.length];exact z
  have hl:(Dy kvs k v).length<=sizeLine:=by have:=YY kvs k v;omega
  refine wpAny_setItem_pairs (QI ry) dd λh' dd' hs=>h _ ?_
  have he:∃q,h'.get? a=some q:=let ⟨q,_,_,hq,_⟩:=dd';⟨q,hq⟩;exact aN I (by rw[e];exact True.intro) hs he (zp5 hl hd (rel.put k rv) dd')
 .subst ey eH;cases (ry);obtain⟨z,hd,xs,rel,dd⟩:=dt_of I.hok e;have hz:xs.length<=sizeLine:=by rw[<- ŉ rel];exact z
  have hl:(Dy kvs k v).length<=sizeLine:=by have:=YY kvs k v;omega
  refine wpAny_setItem_heap (tupleKind_room_in1 hu) (QH I.hok eb) dd λh' dd' hs=>h _ ?_
  obtain⟨q,es,ep,hq,h2,h3,h4,_,h5⟩:=dd';refine aN I (by rw[e];exact True.intro) hs ⟨q,hq⟩ ⟨hl,hd,_,(rel.put k eb rv).keeps λc ys ec=>?_,q,es,ep,hq,h2,h3,h4,h5⟩
  rw[Ah (ne_of ec e (λz=>nomatch z))]
  exact ec
end
section
variable {X:Cx}{pq:List (Addr×Obj)}{σ:St}{H:Hp}{s:Shared}{a:Addr}{kvs:List (Key×V)}{k:Key}{u:Value}{A:Around}{E:Value->Shared->Prop}
end
section
variable {X:Cx}{o i e value:Expr}{pos pos' tpos:Pos}{td ty tv:TE}
end
theorem zi6(h:Heap)(hb:sysModules<h.objs.size):CP P w H (h.push { cls:=.type "dict",data:=.dict #[]}) h.objs.size (.dK []):=
 ⟨í _,beq_eq_false_iff_ne.mpr (É (Ò hb)),[],.nil,Heap.DictOf.new h⟩
section
variable {X:Cx}{pos:Pos}
end
section
variable {X:Cx}{pq:List (Addr×Obj)}{σ:St}{H:Hp}{s:Shared}{a:Addr}{y d:V}{u r:Value}{o:Option V}{A:Around}{E:Value->Shared->Prop}
end
section
variable {X:Cx}{o e f:Expr}{apos cpos:Pos}{td ty tx:TE}
end
section
variable {X:Cx}{pq:List (Addr×Obj)}{σ:St}{H:Hp}{s:Shared}{a:Addr}{kvs:List (Key×V)}{A:Around}{E:Value->Shared->Prop}
end
section
variable {X:Cx}{pq:List (Addr×Obj)}{σ:St}{H:Hp}{s:Shared}{a:Addr}{y:V}{u:Value}{A:Around}{E:Value->Shared->Prop}
end
end L2
namespace Zm
theorem zi4(a b):Int.gcd b (a.fmod b)=Int.gcd a b:=by
 rw[Int.fmod_def,Int.gcd_comm a b];simp
theorem fmod_less(a:Int)(h:b≠0):(a.fmod b).natAbs<b.natAbs:=by
 rcases Int.lt_or_gt_of_ne h with hb|hb
 .have e:a.fmod b=-((-a).fmod (-b)):=by simp
  have h1:=ċ (-a) (show 0 < -b by omega)
  have h2:=Ė (-a) (show 0 < -b by omega)
  omega
 .have h1:=ċ a hb;have h2:=Ė a hb
  omega
noncomputable def gd(a b:Int):Int:=(Int.gcd a b:Nat)
theorem gd_turn(hg:gd a b=gd a0 b0):gd b (a.fmod b)=gd a0 b0:=by
 rw[<- hg];unfold gd;rw[zi4]
theorem gd_abs(a b):gd (if a<0 then -a else a) (if b<0 then -b else b)=gd a b:=by
 unfold gd
 have e1:Int.gcd (if a<0 then -a else a) (if b<0 then -b else b)=Int.gcd a b:=by
  split<;>split<;>simp[Int.gcd_neg]
 rw[e1]
theorem gd_pos{a b:Int}(h:b≠0):0<gd a b:=by
 unfold gd
 simp_all
theorem gd_le(h:0<b):gd a b<=b:=by
 exact Int.le_of_dvd h (Int.gcd_dvd_right a b)
def lt(t b:Int):Int:=t.fdiv (gd t b)
def lb(t b:Int):Int:=b.fdiv (gd t b)
end Zm
namespace Zw
open PySem PySem.Spec PyProof.Rows L2
def Sm(i:Int):Prop:=-(10 ^ 70)<i/\i<10 ^ 70
theorem Sm.nat{i:Int}(h:Sm i):i.natAbs<10 ^ 70:=by
 unfold Sm at h
 omega
theorem zn7:10 ^ 70<=2 ^ 300:=by decide +kernel
theorem Sm.log(h:Sm i):i.natAbs.log2<300:=by
 by_cases z:i.natAbs=0
 .simp_all
 .exact(Nat.log2_lt z).mpr (Ù h.nat zn7)
theorem Sm.bits(h:Sm i):Builtin.Int.intBits i<=2 ^ 20:=by
 have q:=h.log;unfold Builtin.Int.intBits
 grind
section
variable {X:Cx}
theorem zk7:Ae X (binaryOp .Mult) (rI (λi j=>Sm i/\Sm j) λi j=>.int (i * j)):=J0 λ_ _ _ _ _ _ _ hc q=>mul_int q (.of_bits hc.1.bits hc.2.bits)
theorem zha:Ae X (binaryOp .FloorDiv) (rI (λ_ j=>j≠0/\Sm j) λi j=>.int (i.fdiv j)):=
 J0 λ_ _ _ _ _ _ _ hc q=>floordiv_int hc.1 q (.inl (PyProof.noPylong_of_log2 (ı hc.2.log (by decide))))
theorem Yi(r:A8 x v):PySem.plainIs v (.bool b)=true/\(v == Value.bool b)=decide (x=V.bl b):=by
 cases x with
 |non=>cases r;exact⟨rfl,by simp⟩|bl c=>cases r;exact⟨rfl,by grind⟩|int i=>obtain⟨t,rfl⟩:=r;exact⟨rfl,by simp⟩
 |str i=>obtain⟨t,rfl⟩:=r;exact⟨rfl,by simp⟩
 |byt i=>obtain⟨t,rfl⟩:=r;exact⟨rfl,by simp⟩
 |flt i=>obtain⟨t,rfl⟩:=r;exact⟨rfl,by simp⟩
 |ref i=>cases r;exact⟨rfl,by simp⟩|ty i=>cases r;exact⟨rfl,by simp⟩
theorem zno:Ae X (compareOp .Is) (λx y H Q=>∃b,y=.bl b/\Q (.bl (decide (x=.bl b))) H):=by
 intro pq s σ H x y v u Q I rx ry h;obtain⟨b,rfl,q⟩:=h;cases ry;obtain⟨e1,e2⟩:=Yi rx;exact wpAny_is_plain e1 (KH I q e2.symm)
theorem zk6:Ae X (compareOp .IsNot) (λx y H Q=>∃b,y=.bl b/\Q (.bl (!decide (x=.bl b))) H):=by
 intro pq s σ H x y v u Q I rx ry h;obtain⟨b,rfl,q⟩:=h;cases ry;obtain⟨e1,e2⟩:=Yi rx;exact wpAny_isNot_plain e1 (KH I q (by rw[e2]))
theorem zih :Bj X (.builtin "isinstance") (λxs H Q=>∃x t b,xs=[x,.ty c]/\TyOf X.K H x t/\W.kitOne X.K t (.type c)=some b/\Q (.bl b) H):=by
 intro pq s σ H xs us Q I r h;obtain⟨x,t,b,rfl,ty,e,q⟩:=h;obtain⟨u,w',rfl,rx,ry⟩:=FO r;cases ry;exact QM I rx ty e λtk=>⟨.bl b,H,I.tok _,rfl,q⟩
end
section
variable {X:Cx}
end
section
variable {X:Cx}{pos:Pos}
end
section
variable {X:Cx}
end
theorem zd9:W.kitMeta "int"=true:=by decide +kernel
theorem zc4:W.kitMeta "bool"=true:=by decide +kernel
theorem zbo:W.kitMeta "tuple"=true:=by decide +kernel
theorem zhn(K)(c):W.kitOne K (.type c) (.type c)=some true:=by
 unfold W.kitOne;simp
theorem zoj(K){l:k9}(h:t≠c)(hm:W.kitMeta c=true)(hl:(fastBuiltinMro t).map (·.contains (Value.type c))=some b):W.kitOne K (.type t) (.type c)=some b:=by
 unfold W.kitOne;rw[if_neg (by simpa using h)]
 show(if W.kitMeta c=true then W.subIn K (.type t) (.type c) else none)=some b
 rw[if_pos hm];exact hl
structure FunD(K:k6)(x qual:Str)(st:Stmt)(f:Addr)(fd:FuncData):Prop where
 ex:∃(oc:Value) (od:Option Addr) (dV kV doc pm:Value) (an:Option Addr) (cdv ct:Value) (osl:Array (Option Value)),
  fd=W.fnOf x qual (M0 st) (GA st) (AV st) dV kV doc pm an cdv ct/\K.lookup f=some ⟨oc,od,.func fd,osl⟩/\W.codeIn K cdv qual=true
 kp:W.keepIn K (.ref f)=true
theorem zl9{K}{st}{dV kV doc pm cdv ct}(l:K.lookup f=some ⟨oc,od,.func (W.fnOf x qual (M0 st) (GA st) (AV st) dV kV doc pm an cdv ct),osl⟩)
  (c:W.codeIn K cdv qual=true) (k:W.keepIn K (.ref f)=true):FunD K x qual st f (W.fnOf x qual (M0 st) (GA st) (AV st) dV kV doc pm an cdv ct):=⟨⟨oc,od,dV,kV,doc,pm,an,cdv,ct,osl,rfl,l,c⟩,k⟩
structure Tx(K:k6)(mg:Str->Option Value)(x:Str)(st:Stmt)(ps:kE) where
 f:Addr
 fd:FuncData
 F:FunD K x x st f fd
 m:mg x=some (.ref f)
 b:CU K fd ps []
section
variable {X:Cx}{k j:Nat}{x:Str}{ps:kE}{sp:Sp}{p pos:Pos}{e:Expr}{es:kC}{t:TA}
end
theorem FR(h:H p=none)(o):A4 H (upd H p o):=λb u q=>by
 rw[Ah (Bs q h)];exact q
noncomputable def zp9(X:Cx)(scope:Scope)(cl:List (Str×Addr))(N':kE)(C:Addr)(s₀:Shared)(H₀:Hp)(ex:List Addr):Cx:=
 { X with N:=N',s₀:=s₀,H₀:=H₀,env:=compEnvC scope cl C X.env,outer:=X.stack,ex:=ex,fn:=λ_=>false,xe:=λ_ _=>False }
theorem HOk.adopt(x:HOk P w H h)(hn:H a=none)(new:CP P w (upd H a o) h a o):HOk P w (upd H a o) h:=λb u e=>by
 by_cases hb:b=a
 .subst hb;rw[Be]at e
  grind
 .rw[Ah hb]at e;exact(x b u e).stay (λc v _ q=>q) (λc q=>by rw[Ah (Bs q hn)];exact q) λc xs q=>by rw[Ah (Bs q hn)];exact q
section
variable {X:Cx}{elt iter tg:Expr}{scope:Scope}{pos:Pos}{cl:List (Str×Addr)}{N':kE}{wi:TI}{g:TG}{te:TE}
end
end Zw
namespace Zx
open PySem PySem.Spec PyProof.Rows L2 Zw
def Mf(h B:Heap)(a:Addr)(cls:Value×Option Addr)(fl:Value):Prop:=
 ∃oe vs T oT ts,h.get? a=some oe/\((oe.cls,oe.dict)=cls/\vs[2]?=some .none)/\oe.data=.fields vs/\vs[1]?=some (.ref T)/\B.get? T=none/\T≠a/\h.get? T=some oT/\oT.data=.fields ts/\ts[3]?=some fl
def FL(B:Heap)(l:List Env)(a:Addr)(cls:Value×Option Addr)(h:Heap):Prop:=B.StaysIn h/\B.get? a=none/\h.FunFrames B l/\Mf h B a cls .none
def Rx(B:Heap)(l:List Env)(a:Addr)(cls:Value×Option Addr)(L:Addr)(h:Heap):Prop:=B.StaysIn h/\B.get? a=none/\h.FunFrames B l/\Mf h B a cls (rawInt L)
theorem FL.first(x:FL B l a cls h):∃oe vs,h.get? a=some oe/\(oe.cls,oe.dict)=cls/\oe.data=.fields vs/\vs[2]?=some .none:=
 let ⟨_,_,_,oe,vs,_,_,_,he,hc,hd,_⟩:=x;⟨oe,vs,he,hc.1,hd,hc.2⟩
theorem FL.there(x:FL B l a cls h):∃ob,h.get? a=some ob/\ob.cls=cls.1:=
 let ⟨oe,_,he,hc,_⟩:=x.first;⟨oe,he,congrArg Prod.fst hc⟩
theorem zf9(f)(o):((Obj.mapFields f o).cls,(Obj.mapFields f o).dict)=(o.cls,o.dict):=by
 unfold Obj.mapFields;split<;>rfl
section
variable {M:Model}{A:Around}{E:Value->Shared->Prop}{s:Shared}{B:Heap}{env v:Env}{l:List Env}{L a:Addr}{cls:Value×Option Addr}{Q:Unit->Shared->Prop}
theorem aC     (hfr:A.frames=some (v::l))(hl:s.heap.FunFrames B (v::l))(hL:v.frame=some L)(he:s.heap.get? a=some oe)(hk:B.StaysIn s.heap)(ha:B.get? a=none)
  (hd:oe.data=.fields vs) (hsz:1<vs.size) (h2:vs[2]?=some .none) (h:∀h',Rx B (v::l) a (oe.cls,oe.dict) L h'->s.heap.UpToSlots h'->Q () { s with heap:=h' }) :
  wpAny M A (do let f <- frameOf v;let pl <- entryPlaceOf L hn;let b <- EntryCells.newEntry head f .none (rawInt L) .none pl;setField (.ref a) 1 b) Q E s:=by
 have nof:a∉(v::l).filterMap (·.frame):=λz=>by
  obtain⟨_,o,ho,n⟩:=hl.mem z;rw[he]at ho;cases ho;exact n vs hd
 refine À (wpAny_frameOf_fun hfr hl hL λh1 k1=>?_)
 refine À (wpAny_entryPlaceOf λpl hpl=>?_)
 unfold EntryCells.newEntry newFields;refine À (wpAny_newObj_type ?_ (hpl.sizeOk5 _ _ _ _ _));have e1 :=(k1.2.1 a nof).trans he;have b1:B.StaysIn h1:=λb o q=>(k1.2.1 b λz=>by rw[(hl.mem z).1]at q;cases q).trans (hk b o q)
 have ne :=ě (Ä e1);refine Ō (Ë _ e1) hd hsz ?_;have hd3:=Ł hd (·.setIfInBounds 1 (Value.ref h1.objs.size));have kp:∀nw b o,b≠a->h1.get? b=some o->((h1.push nw).update a (Obj.mapFields (·.setIfInBounds 1 (Value.ref h1.objs.size)))).get? b=some o:=λnw b o n q=>(î _ _ (É n)).trans (Ë _ q)
 have nr:∀b o,s.heap.get? b=some o->(∀ws,o.data≠.fields ws)->b≠a:=λb o q n z=>by
  rw[z,he]at q;cases q;exact n vs hd
 have sm:∀nw,s.heap.UpToSlots ((h1.push nw).update a (Obj.mapFields (·.setIfInBounds 1 (Value.ref h1.objs.size)))):=λnw b o q n=>by
  obtain⟨sl,q1⟩:=k1.2.2 b o q;exact⟨sl,kp nw b _ (nr b o q n) q1⟩
 refine h _ ⟨λb o q=>kp _ b o (λz=>by rw[z,ha]at q;cases q) (b1 b o q),ha,hl.of_keeps λb o q n=>?_,_,_,h1.objs.size,_,_,Ā _ (Ë _ e1) (Ţ hd3),⟨by rw[zf9],?_⟩,hd3,by simp[hsz],b1.fresh,ne,
  (î _ _ (É ne)).trans (à h1 rfl),rfl,?_⟩ (sm _)
 .obtain⟨sl,q1⟩:=sm _ b o q n;exact⟨_,q1,rfl⟩
 .rw[Array.getElem?_setIfInBounds_ne (by decide)]
  exact h2
 .first|(simp;done)|(rcases hpl with rfl|⟨_,_,_,_,_,_,_,rfl⟩<;>simp)
theorem Zo(hk:B.StaysIn s.heap)(ha:B.get? a=none)(hl:s.heap.FunFrames B l)(ht:Mf s.heap B a cls fl)(h:∀h',FL B l a cls h'->s.heap.UpToSlots h'->Q () { s with heap:=h'}):wpAny M A (setFlight (.ref a) none) Q E s:=by
 obtain⟨oe,vs,T,oT,ts,he,hc,hd,g1,nT,Tne,hT,dT,g3⟩:=ht;have s3:=(Ġ.mp g3).1;have oth:∀b,b≠T->(s.heap.update T (Obj.mapFields (·.setIfInBounds 3 (none.elim Value.none λf=>rawInt f)))).get? b=s.heap.get? b:=λb hb=>î _ _ (É hb)
 have nr:∀b o,s.heap.get? b=some o->(∀ws,o.data≠.fields ws)->b≠T:=λb o q n z=>by
  rw[z,hT]at q;cases q;exact n ts dT
 unfold setFlight;refine À (ð he hd g1 ?_);rw[if_pos (by simp)]
 exact Ō hT dT s3 (h _ ⟨λb o q=>(oth b λz=>by rw[z,nT]at q;cases q).trans (hk b o q),ha,hl.of_keeps λb o q n=>⟨o,(oth b (nr b o q n)).trans q,rfl⟩,
  oe,vs,T,_,_,(oth a (É Tne)).trans he,hc,hd,g1,nT,Tne,Ā _ hT (Ţ (Ł dT _)),Ł dT _,by simp[s3]⟩ λb o q n=>⟨o.slots,(oth b (nr b o q n)).trans q⟩)
theorem QE(hh:Rx B l a cls L s.heap)(hQ:∀h',FL B l a cls h'->s.heap.UpToSlots h'->Q () { s with heap:=h' }):wpAny M A (setFlight (.ref a) none) Q E s:=
 Zo hh.1 hh.2.1 hh.2.2.1 hh.2.2.2 hQ
theorem zph(hh:FL B l a cls s.heap)(hQ:∀h',FL B l a cls h'->s.heap.UpToSlots h'->Q () { s with heap:=h' }):wpAny M A (setFlight (.ref a) none) Q E s:=
 Zo hh.1 hh.2.1 hh.2.2.1 hh.2.2.2 hQ
structure MadeO(h h':Heap)(a:Addr)(cls:Value×Option Addr):Prop where
 keeps:∀b o,h.get? b=some o->h'.get? b=some o
 new:h.get? a=none
 there:∃oe t,h'.get? a=some oe/\(oe.cls,oe.dict)=cls/\oe.data=.fields #[.ref t,.none,.none,.none,.bool false,.none]
theorem madeO(hx:Heap.MadeExcOf h h' a c args):MadeO h h' a (c,none):=
 ⟨hx.keeps,hx.new,let ⟨t,he,_,_⟩:=hx.there;⟨_,t,he,rfl,rfl⟩⟩
theorem madeX  (hfr:A.frames=some (v::l))(hL:v.frame=some L)(hk:B.StaysIn h)(hl:h.FunFrames B (v::l))(hx:MadeO h s.heap a cls)
  (hQ:∀h',FL B l a cls h'->s.heap.UpToSlots h'->Q () { s with heap:=h' }):wpAny M A (leaving v (.ref a)) Q E s:=by
 obtain⟨oe,t,he,rfl,hd⟩:=hx.there
 have fr:B.get? a=none:=by
  cases q:B.get? a with
  |none=>rfl|some o=>have:=hk a o q;rw[hx.new]at this;cases this
 unfold leaving noteFrame;erw[hL];refine À (À (ð he hd rfl ?_));refine aC hfr (hl.of_keeps λb o q _=>⟨o,hx.keeps b o q,rfl⟩) hL he (λb o q=>hx.keeps b o (hk b o q)) fr hd (by simp) rfl λh1 k1 sm=>QE k1 λh2 k2 sm2=>?_
 obtain⟨k1,k2,⟨_,_,k3⟩,k4⟩:=k2;exact hQ h2 ⟨k1,k2,k3,k4⟩ (sm.trans sm2)
end
def NK(B:Heap)(l:List Env)(a:Addr)(cls:Value×Option Addr)(h:Heap):Prop:=∃fl,B.StaysIn h/\B.get? a=none/\h.FunFrames B l/\Mf h B a cls fl
theorem Zn(x:FL B l a cls h):NK B l a cls h:=⟨.none,x⟩
section
variable {M:Model}{A:Around}{E:Value->Shared->Prop}{s:Shared}{B:Heap}{env v:Env}{l:List Env}{L a:Addr}{cls:Value×Option Addr}{Q:Unit->Shared->Prop}
theorem Oa(hfr:A.frames=some (v::l))(hv:env.frame=v.frame)(hL:v.frame=some L)(hx:NK B (v::l) a cls s.heap)(hQ:∀h',Rx B (v::l) a cls L h'->s.heap.UpToSlots h'->Q () { s with heap:=h' }):wpAny M A (noteFrame (.ref a) env) Q E s:=by
 have en:noteFrame (.ref a) env=noteFrame (.ref a) v:=by
  unfold noteFrame PySem.frameOf;rw[hv]
 rw[en];obtain⟨fl,f1,f2,f3,f4⟩:=hx
 by_cases hfl:fl=rawInt L
 .subst hfl;obtain⟨oe,ws,Tb,oT,ts,ha,_,hd,g1,_,_,hT,dT,g3⟩:=id f4;unfold noteFrame;erw[hL];refine À (ð ha hd g1 ?_);rw[if_pos (by simp)]
  refine À (ð hT dT g3 ?_);rw[if_pos (by simp)]
  exact Å (hQ _ ⟨f1,f2,f3,f4⟩ (.refl _))
 .obtain⟨oe,ws,Tb,oT,ts,ha,⟨rfl,g0⟩,hd,g1,nT,Tne,hT,dT,g3⟩:=f4;have g3s:=(Ġ.mp g3).1;have oth:∀b,b≠Tb->(s.heap.update Tb (Obj.mapFields (·.setIfInBounds 3 Value.none))).get? b=s.heap.get? b:=λb hb=>î _ _ (É hb)
  have nr:∀b o,s.heap.get? b=some o->(∀us,o.data≠.fields us)->b≠Tb:=λb o hb hn z=>by
   rw[z,hT]at hb;cases hb;exact hn ts dT
  unfold noteFrame;erw[hL];refine À (ð ha hd g1 ?_);rw[if_pos (by simp)]
  refine À (ð hT dT g3 ?_);rw[if_neg (λz=>hfl (beq_iff_eq.mp z))]
  refine À (Ō hT dT g3s ?_);refine aC hfr (f3.of_keeps λb o hb hn=>⟨o,(oth b (nr b o hb hn)).trans hb,rfl⟩) hL ((oth a (É Tne)).trans ha) (λb o hb=>(oth b λz=>by rw[z,nT]at hb;cases hb).trans (f1 b o hb)) f2 hd (Ġ.mp g1).1 g0 λh' k k4=>?_
  exact hQ h' k λb o hb hn=>k4 b o ((oth b (nr b o hb hn)).trans hb) hn
theorem leavX(hfr:A.frames=some (v::l))(hL:v.frame=some L)(hx:NK B (v::l) a cls s.heap)(hQ:∀h',FL B l a cls h'->s.heap.UpToSlots h'->Q () { s with heap:=h' }):wpAny M A (leaving v (.ref a)) Q E s:=by
 refine À (Oa hfr rfl hL hx λh1 hh sm1=>QE hh λh2 hf sm2=>?_)
 obtain⟨k1,k2,⟨_,_,k3⟩,k4⟩:=hf;exact hQ h2 ⟨k1,k2,k3,k4⟩ (sm1.trans sm2)
end
def Ce(P:Program)(w:World):Fe:=λouter H s E e s'=>∃(a:Addr) (cls:Value×Option Addr) (H':Hp) (B:Heap),
 e=.ref a/\s'.os=s.os/\AllBare s'.gens/\Un (BS outer) [] H H' s.heap s'.heap/\HOk P w H' B/\(∀b o,s.heap.get? b=some o->H b=none->b∉BS outer->B.get? b=some o) /\
 (∀b o,s.heap.get? b=some o->b∉BS outer->∃o',B.get? b=some o')/\NK B outer a cls s'.heap/\E cls.1 cls.2 H'
theorem zgm       (x:CP P w H h a o):∃ob,h.get? a=some ob:=by
 cases o with
 |lst xs=>obtain⟨_,_,_,_,e⟩:=x;grind
 |tup xs=>obtain⟨_,_,_,o',e,_⟩:=x;grind
 |dK kvs=>obtain⟨_,_,_,_,o',_,_,e,_⟩:=x;grind
 |dT kvs=>obtain⟨_,_,_,_,o',_,_,e,_⟩:=x;grind
 |set S n=>obtain⟨o',_,_,_,e,_⟩:=x;grind
 |ins C dx fs=>obtain⟨_,_,_,e,_⟩:=x;grind
 |own y=>exact x|xd fs=>obtain⟨_,⟨o',_,_,e,_⟩,_⟩:=x;grind
 |rng lo hi=>obtain⟨_,_,_,e⟩:=x;grind
 |frz ob u=>obtain⟨e,_⟩:=x;exact⟨_,e⟩
 |tbl ps=>exact⟨_,(x)⟩|met f y=>exact⟨_,(x)⟩|ext φ=>obtain⟨_,e,_⟩:=x;exact e
theorem none_of(x:HOk P w H h)(e:h.get? a=none):H a=none:=by
 cases q:H a with
 |none=>rfl|some u=>
  obtain⟨ob,z⟩:=zgm (x a u q)
  grind
theorem zpi       (x:HOk P w H h)(hn:H a=none)(new:CP P w (upd H a o) h a o):HOk P w (upd H a o) h:=λb u e=>by
 by_cases hb:b=a
 .subst hb;have e':=Be.symm.trans e
  grind
 .have e':=(Ah hb).symm.trans e;exact(x b u e').stay (λc v _ q=>q) (λc q=>(Ah (Bs q hn)).trans q) λc xs q=>(Ah (Bs q hn)).trans q
def BI(X:Cx)(E:L2.St->XK):Prop:=∀(pq:List (Addr×Obj)) (σ:L2.St) (H:Hp) (s:Shared) (e:Value) (s':Shared),Inv X pq σ H s->Ce X.prog X.w X.stack H s (E σ) e s'->X.xe e s'
def Ro(X:Cx)(E:L2.St->XK):Prop:=∀(pq:List (Addr×Obj)) (σ:L2.St) (H:Hp) (s:Shared) (a:Addr) (cls:Value) (vs:k9) (h':Heap),Inv X pq σ H s->Heap.MadeExcOf s.heap h' a cls vs->E σ cls none H->X.xe (.ref a) { s with heap:=h' }
section
variable {X:Cx}{pq:List (Addr×Obj)}{σ:L2.St}{H:Hp}{s:Shared}
theorem Ll(I:Inv X pq σ H s)(e:X.s₀.heap.get? b=some o)(hb:b∉BS X.outer):b∉BS X.stack:=λz=>by
 rcases Ð.mp (I.stkSub b z) with q|q
 .exact absurd (Ù (Ä e) I.ok.above) (by rw[q];exact â _)
 .exact hb q
theorem zey(hst:X.stack=X.env::X.outer)(hb:b∈BS X.outer):b∈BS X.stack:=by
 rw[hst];obtain⟨v,h1,h2⟩:=Ħ.mp hb;exact Ħ.mpr ⟨v,Î _ h1,h2⟩
theorem zow(I:Inv X pq σ H s):HOk X.prog X.w H (W.hideAll s.heap (BS X.stack)):=λb u e=>(I.hok b u e).stay (λc v hc q=>ē _ q λz=>by
  have f:=I.stkFree c z
  grind) (λ_ q=>q) λ_ _ q=>q
theorem made_ok(hst:X.stack=X.env::X.outer)(hf:X.env.frame=some X.env.locals)(hex:X.ex=[])       (I:Inv X pq σ H s)(hx:Heap.MadeExcOf s.heap h' a cls vs)(he:E cls none H) :
  wpAny (model X.prog X.w) X.A (leaving X.env (.ref a)) (λ_ s2=>Ce X.prog X.w X.outer X.H₀ X.s₀ E (.ref a) s2) Ex { s with heap:=h' }:=by
 have nex:∀b ,b∉X.ex:=λb z=>by grind
 have hfr :=hst▸I.ok.frames
 have FF:s.heap.FunFrames (W.hideAll s.heap (BS X.stack)) (X.env::X.outer):=by
  rw[<- hst];exact W.funFrames_hide I.stack λv hv b hb=>Ħ.mpr ⟨v,hv,hb⟩
 refine madeX hfr hf (λb o q=>ĥ _ q) FF (madeO hx) λh2 fl sm=>?_
 have kB :=λb o e n hb=>ē _ (I.base.keep b o e n hb (nex b)) (Ll I e hb)
 have tB:∀b o,X.s₀.heap.get? b=some o->b∉BS X.outer->∃o',(W.hideAll s.heap (BS X.stack)).get? b=some o':=λb o e hb=>by
  obtain⟨o',e'⟩:=I.base.there b o e (nex b);exact⟨o',ē _ e' (Ll I e hb)⟩
 have sl:∀b o,X.s₀.heap.get? b=some o->X.H₀ b=none->b∈BS X.outer->∃z,h2.get? b=some { o with slots:=z }:=λb o e n hb=>by
  obtain⟨z,e1⟩:=I.base.slot b o e n hb (nex b);obtain⟨_,o2,ho2,hd⟩:=I.funs.mem hb;rw[e1]at ho2;cases ho2;obtain⟨z3,e3⟩:=sm b { o with slots:=z } (hx.keeps b _ e1) hd
  exact⟨z3,e3⟩
 refine⟨a,(cls,none),H,_,rfl,I.os,I.bare,⟨λb o e n hb _=>fl.1 b o (kB b o e n hb),λb o e n hb _=>sl b o e n hb,λb o e n _=>I.base.free b o e n (nex b),λb o e _=>?_,I.base.tups,I.base.frzs,I.base.tbls⟩,zow I,kB,tB,Zn fl,he⟩
 by_cases hb:b∈BS X.outer
 .obtain⟨z,q⟩:=sl b o e (I.ok.frf b hb) hb;exact⟨_,q⟩
 .obtain⟨o',q⟩:=tB b o e hb;exact⟨o',fl.1 b o' q⟩
theorem zk4(hst:X.stack=X.env::X.outer)(hf:X.env.frame=some X.env.locals)(hex:X.ex=[])     (I:Inv X pq σ H s)(h:Ce X.prog X.w X.stack H s E e s') :
  wpAny (model X.prog X.w) X.A (leaving X.env e) (λ_ s2=>Ce X.prog X.w X.outer X.H₀ X.s₀ E e s2) Ex s':=by
 obtain⟨a,cls,H',B,rfl,os,bare,un,hok,kB0,tB0,fl0,he⟩:=h;have nex:∀b ,b∉X.ex:=λb z=>by rw[hex]at z;cases z
 have hfr :=hst▸I.ok.frames;have fl1 :=hst▸fl0;refine leavX hfr hf fl1 λh2 fl sm=>?_
 have kB :=λb o e n hb=>kB0 b o (I.base.keep b o e n hb (nex b)) (I.base.free b o e n (nex b)) (Ll I e hb)
 have tB:∀b o,X.s₀.heap.get? b=some o->b∉BS X.outer->∃o',B.get? b=some o':=λb o e hb=>by
  obtain⟨o',e'⟩:=I.base.there b o e (nex b);exact tB0 b o' e' (Ll I e hb)
 have sl:∀b o,X.s₀.heap.get? b=some o->X.H₀ b=none->b∈BS X.outer->∃z,h2.get? b=some { o with slots:=z }:=λb o e n hb=>by
  obtain⟨z,e1⟩:=I.base.slot b o e n hb (nex b);obtain⟨_,o2,ho2,hd⟩:=I.funs.mem hb;rw[e1]at ho2;cases ho2;obtain⟨z2,e2⟩:=un.slot b { o with slots:=z } e1 (I.base.free b o e n (nex b)) (zey hst hb) (by simp)
  obtain⟨z3,e3⟩:=sm b { o with slots:=z2 } e2 hd
  exact⟨z3,e3⟩
 refine⟨a,cls,H',B,rfl,os.trans I.os,bare,⟨λb o e n hb _=>fl.1 b o (kB b o e n hb),λb o e n hb _=>sl b o e n hb,λb o e n _=>?_,λb o e _=>?_,λb xs e=>un.tups b xs (I.base.tups b xs e),λb o u e=>un.frzs b o u (I.base.frzs b o u e),λb ps e=>?_⟩,hok,kB,tB,Zn fl,he⟩
 .obtain⟨o',e'⟩:=I.base.there b o e (nex b);exact un.free b o' e' (I.base.free b o e n (nex b)) (by simp)
 .by_cases hb:b∈BS X.outer
  .obtain⟨z,q⟩:=sl b o e (I.ok.frf b hb) hb;exact⟨_,q⟩
  .obtain⟨o',q⟩:=tB b o e hb;exact⟨o',fl.1 b o' q⟩
 .obtain⟨m1,e1⟩:=I.base.tbls b ps e;obtain⟨m2,e2⟩:=un.tbls b _ e1;exact⟨m1++m2,e2.trans (by rw[Array.append_assoc])⟩
end
section
variable {P:Program}{w:World}{K:k6}{mg:Str->Option Value}{base:Heap}
theorem O7:BI (FD (Ce P w) P w K mg base N qual sc f cd A outer s H E) (λ_=>E):=
 λ_ _ _ _ _ _ I h=>zk4 rfl rfl rfl I h
theorem Oi:Ro (FD (Ce P w) P w K mg base N qual sc f cd A outer s H E) (λ_=>E):=
 λ_ _ _ _ _ _ _ _ I hx he=>made_ok rfl rfl rfl I hx he
theorem O9  {st }      (F:FunD K x qual st f fd)(S:FnScope N ps (AV st))(len:∀vs H Q E,sp vs H Q E->vs.length=ps.length)
  (hbody : ∀ (cdv ) (A ) (outer ) (s ) (H ) (vs ) (Q ) (E ), Room k (A.deeper (envOfC qual (AV st) s.heap.objs.size f cdv)) -> sp vs H Q E ->
   ∃t,BB (FD (Ce P w) P w K mg base N qual (AV st) f cdv A outer s H E) (GA st) t/\t { nx:=λ_ H'=>Q .non H',rt:=Q } (start N vs) H):FnOk P w K mg base (Ce P w) (k+1) f fd ps sp:=by
 obtain⟨oc,od,dV,kV,doc,pm,an,cdv,ct,osl,rfl,lk,hcd⟩:=F.ex;exact fn_of lk hcd S len λA outer s H vs Q E hr hsp=>hbody cdv A outer s H vs Q E hr hsp
end
structure DefX(P:Program)(w:World)(K:k6)(mg:Str->Option Value)(base:Heap)(k:Nat)(x:Str)(ps:kE)(sp:Sp) where
 f:Addr
 fd:FuncData
 ok:FnOk P w K mg base (Ce P w) k f fd ps sp
 m:mg x=some (.ref f)
 kp:W.keepIn K (.ref f)=true
 b:CU K fd ps []
structure DefsX(K:k6)(fd:FuncData)(ps:kE)(dvs:kK):Prop where
 ex:∃ds,CU K fd ps ds/\A9 dvs ds
section
variable {X:Cx}{k j:Nat}{f:Addr}{fd:FuncData}{x:Str}{ps:kE}{sp:Sp}{p pos:Pos}{e:Expr}{es:kC}{t:TA}{E:L2.St->XK}{dvs:kK}
theorem OC  {σ:L2.St}      (F:FnOk X.prog X.w X.K X.mg X.base (Ce X.prog X.w) k f fd ps sp)(hr:Room k X.A)(hb:CU X.K fd ps ds)(hd:A9 dvs ds)(hx:BI X E)
  (I:Inv X pq σ H s) (r:A9 vs us) (h:sp (vs++dvs) H Q (E σ)):wpAny (model X.prog X.w) X.A (call (.ref f) us) (EP X pq σ Q) X.xe s:=by
 have r2 :=r.append hd;have hl :=r2.length.symm.trans (F.len _ _ _ _ h);refine Ĉ (ÿ (F.run X.A X.stack s H ⟨us,[]⟩ (us++ds) (vs++dvs) Q (E σ) hr I.env0 (hb s us I.kIn hl) r2 h) λr s' hq=>?_)
 cases r with
 |error v=>exact hx pq σ H s v s' I hq|ok fl=>
  cases fl with
  |ret u=>exact I.after hq|_=>exact False.elim hq
def TN(sp:Sp)(dvs:kK)(E:L2.St->XK)(t:TA):TE:=λσ H Q=>t σ H λvs H1=>sp (vs++dvs) H1 Q (E σ)
theorem px(D:DefX X.prog X.w X.K X.mg X.base k x ps sp)(hr:Room j X.A)(hx:BI X E)(ha:PA X (e::es) t)(hk:k<=j:=by decide)(hg:Gl X x:=by rfl)(hdb:(x == "__debug__")=false:=by decide)
  (he:starEach (e::es) X.env=(false,eval e X.env)::starEach es X.env:=by rfl) (hpl:(backTo pos (starEach es X.env)).any (·.1)=false:=by rfl):PE X (.Call (.Name x p) (e::es) [] pos) (TN sp [] E t):=by
 intro pq s σ H Q I h;refine Ď (IJ I hg D.m ?_ hdb);refine ū I.ok.mod.kin D.kp (AQ (ha pos pq s σ H _ I h) λus s1 ⟨vs,H1,I1,r,q⟩=>⟨I1.kIn,?_⟩) he hpl
 exact OC D.ok (hr.mono hk) D.b .nil hx I1 r q
end
noncomputable abbrev S7:k9:=[.type "ValueError",.type "Exception",.type "BaseException",.type "object"]
def MW(K:k6)(C:Addr):Bool:=match K.lookup C with
 |some ⟨.type "type",_,.cls k,l⟩=>(match k.mro,l.toList with|.ref D::r,[_,_,_,_,some (.builtin n),_]=>D == C && n == "ValueError.__new__" && !k.hasDel && W.tailIn K S7 r && W.nsOkIn K k.ns|_,_=>false)
 |_=>false
def Cq(K:k6)(C:Addr):Option (Option Value):=(W.clsIn K C).bind λk=>W.nsIn K k.ns "__init__"
structure ExcK(K:k6)(C:Addr):Prop where
 q:MW K C=true
 self:W.subIn K (.ref C) (.ref C)=some true
 cd:∃cd,W.clsIn K C=some cd
 ty:W.typeIn K (.ref C)=some (.type "type")
 ga:W.findIn K (.ref C) "__getattribute__"=some (some (.builtin "BaseException.__getattribute__"))
 gt:W.findIn K (.ref C) "__getattr__"=some none
 ca:W.findIn K (.ref C) "__class__"=some (some (.builtin "object.__class__"))
 ob:W.mroIn K C (.type "object")=some true
 be:W.mroIn K C (.type "BaseException")=some true
 gs:W.specialIn K (.builtin "object.__class__") "__get__"=some (some (.builtin "getset_descriptor.__get__"))
 tk:W.takesIn K (.builtin "object.__class__")=some true
structure ECls(K:k6)(mg:Str->Option Value)(x:Str) where
 C:Addr
 m:mg x=some (.ref C)
 k:ExcK K C
theorem Qq{K}(X:K.In h)(q:MW K C=true):∃bm N nm qn bs hd sn sub ab col dd k0 k1 k2 k3 k5 mN,
  h.get? C=some (excClassObj nm qn C N bs bm hd sn sub ab col dd k0 k1 k2 k3 k5 "ValueError.__new__")/\h.Ns N mN/\(∃cd,W.clsIn K C=some cd/\cd.ns=N/\cd.mro=.ref C::bm/\cd.hasDict=hd)/\OwnTail h S7 bm:=by
 unfold MW at q;split at q
 .rename_i dd cd sl ho;have hcl:W.clsIn K C=some cd:=by unfold W.clsIn;rw[ho]
  split at q
  .rename_i C2 bm k0 k1 k2 k3 nid k5 hm hs;erw[Bool.not_eq_true',Æ,beq_iff_eq]at q;obtain⟨⟨⟨⟨z1,z2⟩,hdel⟩,ht⟩,hok⟩:=q;subst z1;subst z2;obtain⟨nm,bs,mro,nsp,qn,hd,sn,sub,ab,col,dl⟩:=cd;dsimp only at hm hok hdel;subst hm;subst hdel
   have hsl:sl=#[k0,k1,k2,k3,some (.builtin "ValueError.__new__"),k5]:=by
    obtain⟨l⟩:=sl;have hs':l=[k0,k1,k2,k3,some (.builtin "ValueError.__new__"),k5]:=hs;rw[hs']
   subst hsl;exact⟨bm,nsp,nm,qn,bs,hd,sn,sub,ab,col,dd,k0,k1,k2,k3,k5,_,X _ _ ho,.of_isNs (W.isNs_of_in X hok),⟨_,hcl,rfl,rfl,rfl⟩,W.tail_of_in X ht⟩
  .exact absurd q û
 .exact absurd q û
theorem zhs{K}(X:K.In h)(G:h.Ns N mN)(hc:W.clsIn K C=some cd)(hn:cd.ns=N)(q:Cq K C=some none):mN "__init__"=none:=by
 unfold Cq at q;rw[hc]at q;subst hn;exact W.ns_none_of X G q
section
variable {X:Cx}{x:Str}{p cpos pos:Pos}{e:Expr}{es:kC}{t:TA}{E:L2.St->XK}
def zlx(C:Addr)(E:L2.St->XK)(t:TA):TS:=λ_ σ H=>t σ H λvs H1=>vs.length<=sizeLine/\E σ (.ref C) none H1
theorem zh3(T:ECls X.K X.mg x)(hini:Cq X.K T.C=some none)(hc:X.calm=true)(hx:Ro X E)(ha:PA X (e::es) t)(hg:Gl X x:=by rfl)(hdb:(x == ("__debug__":Str))=false:=by decide)
  (he:starEach (e::es) X.env=(false,eval e X.env)::starEach es X.env:=by rfl) (hpl:(backTo cpos (starEach (e::es) X.env)).any (·.1)=false:=by rfl) :
  PS X (.Raise (some (.Call (.Name x p) (e::es) [] cpos)) none pos) (zlx T.C E t):=by
 intro pq s σ H D I h;obtain⟨bm,N,nm,qn,bs,hd,sn,sub,ab,col,dd,k0,k1,k2,k3,k5,mN,hC,hN,⟨cd,hcd,hcn,_⟩,TL⟩:=Qq I.mod.kin T.k.q;have hni:=zhs I.mod.kin hN hcd hcn hini
 refine wpAny_Raise_call_subT (nm:=nm) (q:=qn) (N:=N) (bs:=bs) (hdct:=hd) (sn:=sn) (sub:=sub) (ab:=ab) (col:=col) (dd:=dd) (k0:=k0) (k1:=k1) (k2:=k2) (k3:=k3) (k5:=k5)
  Ĺ (TL.hasType Ĺ.hasBase) (I.ok.hd hc) hpl hni (IJ I hg T.m ⟨rfl,?_⟩ hdb)
 have h2:=ha cpos pq s σ H _ I h;rw[he]at h2 ⊢;exact Calls.evalArgs_plain (AQ h2 λus s1 ⟨vs,H1,I1,r,z,q1⟩=>⟨rfl,r.length▸z,I1.bk _ _ hC,hN.keeps I1.bk,TL.keeps I1.bk,λh' a hm=>hx pq σ H1 s1 a _ us h' I1 hm q1⟩)
end
def Hf(H:Hp)(a C:Addr):Prop:=∃ob,H a=some (.frz ob (.own 0))/\ob.cls=.ref C/\∃vs,ob.data=.fields vs/\vs[2]?=some .none
def FK(H:Hp)(a C:Addr)(dx:Option Addr):Prop:=∃ob,H a=some (.frz ob (.own 0))/\(ob.cls,ob.dict)=(.ref C,dx)/\∃vs,ob.data=.fields vs/\vs[2]?=some .none
theorem FK.x(h:FK H a C dx):Hf H a C:=let ⟨ob,e,k,r⟩:=h;⟨ob,e,congrArg Prod.fst k,r⟩
theorem FK.of(x:FK H a C dx)(e:∀u,H a=some u->F a=some u):FK F a C dx:=
 let ⟨ob,y,r⟩:=x;⟨ob,e _ y,r⟩
theorem Hf.of(x:Hf H a C)(e:∀u,H a=some u->F a=some u):Hf F a C:=
 let ⟨ob,y,r⟩:=x;⟨ob,e _ y,r⟩
section
variable {K:k6}{a C:Addr}
open PySem.W PySem.Builtin PySem.Builtin.ObjectAttr PySem.Builtin.Getset_descriptor in
theorem zlo{prog:Program}{w:World}{A:Around}{R:Result->Shared->Prop}{s:Shared}{tp:Value}(X:K.In s.heap)(k:ExcK K C)(h0:∃o,s.heap.get? a=some o/\o.cls=.ref C)
  (h:R (.ok (.ret (.ref C))) s):codeAny (model prog w) A (.call (.builtin "getset_descriptor.__get__") ⟨[.builtin "object.__class__",.ref a,tp],[]⟩) R s:=by
 obtain⟨o,ho,hc⟩:=h0;obtain⟨hp9,g,dr,t,os⟩:=s;have L0:Looks (model prog w) hp9 (typeOf (.ref a)) (.ref C):=hc▸(Looks.ld ho).andThen .now;have L1:=looks_mroIn (M:=model prog w) X k.ob;refine(ĵ KF.slot_gs.plain KF.entry_gs (KF.slot_gs.check _ _ _ _ _ _ _ _ KF.type_class (KF.args_gs _ _ _) ?_));unfold Builtin.«getset_descriptor.__get__» descrGet;rw[dga_obj];refine À (Å ?_);unfold descrGetter descrCheckInstance descrNameAndClass isInstance;erw[KF.owner_class]
 repeat lk
 refine⟨(Ŭ _ (by decide +kernel)),(ď KF.entry_class ?_)⟩
 (unfold Builtin.«object.__class__» shownTypeOf)
 repeat lk
 exact h
open PySem.W PySem.Builtin PySem.Builtin.ObjectAttr in
theorem ziy{M:Model}{h:Heap}(X:K.In h)(k:ExcK K C):Looks M h (Builtin.ObjectAttr.find (.ref a) (.ref C) "__class__") (.bind (.builtin "getset_descriptor.__get__") (.builtin "object.__class__")):=by
 have L1:=looks_findIn (M:=M) X k.ca;have L2:Looks M h (getOf (some (.builtin "object.__class__"))) (some (.builtin "getset_descriptor.__get__")):=looks_specialIn X k.gs;have L3:=looks_takesIn (M:=M) X k.tk;exact L1.andThen (L2.andThen ((show Looks M h (dataDescriptor? (some (.builtin "object.__class__")) (some (.builtin "getset_descriptor.__get__"))) (some (.builtin "getset_descriptor.__get__",.builtin "object.__class__")) from L3.andThen .now).andThen (Looks.tag .now)))
theorem zgj:(Value.builtin "BaseException.__getattribute__" == Value.builtin "object.__getattribute__")=false:=by rfl
theorem zix:builtinKind "BaseException.__getattribute__"=some .slot:=by decide +kernel
theorem zgi:splitId "BaseException.__getattribute__"=some ("BaseException","__getattribute__"):=by rfl
open PySem.W in
theorem ziz{prog:Program}{w:World}{A:Around}{E:Value->Shared->Prop}{Q:Option Value->Shared->Prop}{s:Shared}(X:K.In s.heap)(k:ExcK K C)(h0:∃o,s.heap.get? a=some o/\o.cls=.ref C)
  (h:Q (some (.ref C)) { s with toks:=s.toks+1 }):wpAny (model prog w) A (getAttr? (.ref a) "__class__") Q E s:=by
 obtain⟨o,ho,hc⟩:=id h0;obtain⟨hp9,g,dr,t,os⟩:=s;have L0:Looks (model prog w) hp9 (typeOf (.ref a)) (.ref C):=hc▸(Looks.ld ho).andThen .now;have L1:=looks_findIn (M:=model prog w) X k.ga;have L2:=looks_findIn (M:=model prog w) X k.gt;have LI:Looks (model prog w) hp9 (isInstance (.ref a) (.type "BaseException")) true:=L0.andThen (looks_mroIn X k.be);have LF:=ziy (M:=model prog w) (a:=a) X k
 (unfold getAttr? getAttrBy? getAttrBy)
 refine À (wpAny_mkText (À (ō (ç (À (L0.at (À (L1.at ?ga))))))))
 case ga=>
  have hx1:(onTheHeap (Value.ref C) && Value.builtin "BaseException.__getattribute__" == Value.builtin "object.__getattribute__")=false:=by
   rw[zgj]
   rfl
  dsimp only;rw[if_neg (by rw[hx1];exact û)]
  unfold getAttrByItsOwn hookBefore;rw[if_pos (show onTheHeap (Value.ref C)=true from rfl)];refine À (L2.at (À (ō (ç ?_))));unfold callGetattribute boundAndCalled;rw[if_neg (by exact û)]
  refine À (ĉ (PySem.F.excAttr_ValueError.ga.bind (.ref a)) ?_);show wpAny _ _ (call (.builtin "BaseException.__getattribute__") [.ref a,.str "__class__" t]) _ _ _;refine Ĉ (ĵ PySem.F.excAttr_ValueError.ga.plain PySem.F.entry_bexc_ga ?_);have ha:=PySem.F.args_bexc_ga (.ref a) (.str (Str.ofString "__class__") t);obtain⟨i,hi⟩:∃i,i="BaseException.__getattribute__":=⟨_,rfl⟩;have k1:=zix;have k2:=zgi;rw[<- hi]at k1 k2 ha ⊢;refine W.check_slot k1 k2 LI ha ?_;refine À (Å (À (Å (À (L0.at (À (LF.at ?_)))))));show wpAny _ _ (holding [.builtin "object.__class__"] (call (.builtin "getset_descriptor.__get__") [.builtin "object.__class__",.ref a,.ref C]) >>= ret) _ _ _;refine À (ç (Ĉ (zlo X k h0 ?_)));exact Å (handed_on rfl (Å h))
open PySem.W in
theorem Y5(k:ExcK K C):KitX K (.ref a) (.ref C) (λh=>∃o,h.get? a=some o/\o.cls=.ref C) where
 ty:=λ_ _ _ p=>by
  obtain⟨o,ho,hc⟩:=p;exact hc▸(Looks.ld ho).andThen .now
 it:=λ_ _ X _=>by
  obtain⟨cd,hcd⟩:=k.cd;unfold clsIn at hcd;split at hcd
  .rename_i c' d' cd' sl' ho;intro A' Q' E' s' kk q;unfold isType loadHead;exact(À (wpAny_loadPart (kk _ _ (X _ _ ho)) (Å q)))
  .cases hcd
 ne:=λh tp dd its n sl X hq0=>by
  obtain⟨cd,hcd⟩:=k.cd;refine(Bool.eq_false_iff.mpr λq=>?_)
  have e:C=tp:=Value.ref.inj (beq_iff_eq.mp q);subst e;unfold clsIn at hcd;split at hcd
  .rename_i c' d' cd' sl' ho;have z:=(X _ _ ho).symm.trans hq0;cases z
  .cases hcd
 ca:=λX p kk=>ziz X k p kk
end
def Qz:V->Value
 |.ref C=>.ref C|.ty T=>.type T|_=>.none
section
variable {X:Cx}
theorem zig:Bj X (.builtin "isinstance") (λxs H Q=>∃a C c b,xs=[.ref a,c]/\Hf H a C/\ExcK X.K C/\(∃D,c=.ref D\/∃T,c=.ty T)/\W.kitOne X.K (.ref C) (Qz c)=some b/\Q (.bl b) H):=by
 intro pq s σ H xs us Q I r h;obtain⟨a,C,c,b,rfl,ho,k,hc,e,q⟩:=h;obtain⟨u,w',rfl,rx,ry⟩:=FO r;cases rx
 have hv:w'=Qz c:=by
  obtain⟨D,hc|⟨T,hc⟩⟩:=hc
  .subst hc;exact ry
  .subst hc;exact ry
 subst hv
 have p0:∃o,s.heap.get? a=some o/\o.cls=.ref C:=by
  obtain⟨ob,y,r,_⟩:=ho;exact⟨ob,(I.hok a _ y).1,r⟩
 exact ê (Y5 k) I.kIn p0 e (λz=>nomatch z) λtk=>⟨.bl b,H,I.tok _,rfl,q⟩
end
noncomputable abbrev Eb(X:Cx)(pq:List (Addr×Obj))(xe:Value->Shared->Prop):Cx:={ X with pn:=X.pn++pq,xe:=xe }
abbrev Ec(X:Cx)(a:Addr):Cx:={ X with A:=X.A.mark (some (.ref a)),calm:=false,xe:=λ_ _=>False }
section
variable {X:Cx}{pq:List (Addr×Obj)}{σ:L2.St}{H:Hp}{s:Shared}{xe:Value->Shared->Prop}
theorem znv(ok:X.Ok):(Eb X pq xe).Ok:=⟨ok.mod,ok.kind,ok.glob,ok.blt,ok.above,ok.inj,ok.has,ok.cab,ok.hd,ok.frames,ok.stk,ok.exf,ok.bs,ok.bsz,ok.noex,ok.exfs,ok.funs,ok.frf⟩
theorem zhd(ok:X.Ok):(Ec X a).Ok:=⟨ok.mod,ok.kind,ok.glob,ok.blt,ok.above,ok.inj,ok.has,ok.cab,λz=>Bool.noConfusion z,ok.frames,ok.stk,ok.exf,ok.bs,ok.bsz,ok.noex,ok.exfs,ok.funs,ok.frf⟩
theorem zou(I:Inv X pq σ H s):Inv (Eb X pq xe) [] σ H s:=⟨znv I.ok,I.os,I.bare,I.base,I.loc,I.cell,I.free,I.freeC,λp hp=>I.pin p (by simpa using hp),I.hok,I.len⟩
theorem WN{ok:X.Ok}(I:Inv (Eb X pq xe) pn2 σ H s):Inv X pq σ H s:=⟨ok,I.os,I.bare,I.base,I.loc,I.cell,I.free,I.freeC,λp hp=>I.pin p (Ē _ hp),I.hok,I.len⟩
theorem QP{a:Addr}(I:Inv X pq σ H s):Inv (Ec X a) pq σ H s:=⟨zhd I.ok,I.os,I.bare,I.base,I.loc,I.cell,I.free,I.freeC,I.pin,I.hok,I.len⟩
theorem zhe(ok:X.Ok)(I:Inv (Ec X a) pq σ H s):Inv X pq σ H s:=⟨ok,I.os,I.bare,I.base,I.loc,I.cell,I.free,I.freeC,I.pin,I.hok,I.len⟩
theorem gone(I:Inv X pq σ H s)(hN:X.N.Nodup)(hi:X.N[i]?=some n)(hm:s.heap.Ns X.env.locals m)(hn:h'.Ns X.env.locals (λx=>if x=n then v else m x))
  (hs:Heap.SameBut X.env.locals s.heap h'):Inv X pq (σ.set i none) H { s with heap:=h',toks:=t}:=by
 have neL:∀b o,X.s₀.heap.get? b=some o->b≠X.env.locals:=λb o e=>Ò (Ù (Ä e) I.ok.above)
 have hok:=λb u e=>(I.hok b u e).stay (λc x hc q=>(hs.2 c (λz=>by
   have f:=I.free
   rcases hc with y|y
   .rw[<- z,y,e]at f;cases f
   .rw[<- z,y]at f;cases f)).trans q) (λ_ q=>q) λ_ _ q=>q
 refine⟨I.ok,I.os,I.bare,⟨λb o e n hb hx=>(hs.2 b (neL b o e)).trans (I.base.keep b o e n hb hx),λb o e n hb hx=>?_,I.base.free,λb o e hx=>?_,I.base.tups,I.base.frzs,I.base.tbls⟩,⟨_,hn,λj y v' e1 e2 e3=>?_⟩,λy c e=>?_,I.free,I.freeC,λp hp=>?_,hok,by rw[ŀ];exact I.len⟩
 .obtain⟨z,e1⟩:=I.base.slot b o e n hb hx;exact⟨z,(hs.2 b (neL b o e)).trans e1⟩
 .obtain⟨o',e1⟩:=I.base.there b o e hx;exact⟨o',(hs.2 b (neL b o e)).trans e1⟩
 .have hj:j≠i:=λz=>by
   subst z
   have hl:j<σ.length:=by
    rw[I.len];exact(Í.mp hi).1
   rw[å hl]at e2;cases e2
  rw[Ú (É hj)]at e2;obtain⟨m2,hn2,hl2⟩:=I.loc;obtain⟨u,r,q⟩:=hl2 j y v' e1 e2 e3;refine⟨u,r,?_⟩
  rcases q with ⟨kk,e⟩|⟨kk,c,e,z⟩
  .refine .inl ⟨kk,?_⟩;have hy:y≠n:=λz=>hj (Od hN e1 (z▸hi))
   have em:m2 y=m y:=by
    obtain⟨o1,es1,ep1,a1,b1,_,c1⟩:=hn2;obtain⟨o2,es2,ep2,a2,b2,_,c2⟩:=hm;rw[a1]at a2;cases a2;rw[b1]at b2;cases b2;rw[<- c1,<- c2]
   show(if y=n then v else m y)=some u
   rw[if_neg hy,<- em];exact e
  .exact .inr ⟨kk,c,e,z.sameBut hs (I.cne y c e)⟩
 .obtain⟨w',z⟩:=I.cell y c e;exact⟨w',z.sameBut hs (I.cne y c e)⟩
 .obtain⟨e,n,ne,nf,d⟩:=I.pin p hp;exact⟨(hs.2 p.1 ne).trans e,n,ne,nf,d⟩
end
def Jz(i:Nat)(D:Ends):Ends:={ nx:=λσ H=>D.nx (σ.set i none) H,rt:=D.rt,bk:=λσ H=>D.bk (σ.set i none) H,ct:=λσ H=>D.ct (σ.set i none) H }
section
variable {A:Around}{E:Value->Shared->Prop}{M:Model}
theorem exm{h:Heap}{d:Drawn}{t:Nat}{os:OsState}{oe:Obj}{nm q:Str}{sn:kE}{ab:Bool}
      (hW:h.get? W=some (excClassObj nm q W N bs bm hdct sn sub ab col dd k0 k1 k2 k3 k5 newId)) (he:h.get? a=some oe) (hcls:oe.cls=.ref C) (hb:bm.contains (.type "BaseException")=true)
    (LS:PySem.W.Looks M h (isSubtype (.ref C) (.ref W)) true) (hq:Q true ⟨h,g,d,t,os⟩):wpAny M A (excMatches (.ref a) (.ref W)) Q E ⟨h,g,d,t,os⟩:=by
  have hcB:(Value.ref W::bm).contains (.type "BaseException")=true:=by
    rw[ł,hb];exact Bool.or_true _
  have f:=tc_notTuple;unfold excMatches
  repeat (first|(with_reducible refine Ŏ he ?_;rw[hcls])|with_reducible refine Ŏ hW ?_|(with_reducible refine wpAny_isSubtype_exc hW ?_;rw[hcB])|with_reducible refine PySem.W.Looks.at LS ?_|wp_step)
  exact hq
end
section
variable {X:Cx}{i:Nat}{x n:Str}{np pos hpos:Pos}{body suite:kD}{b₀:Stmt}{tb th:TS}{E:L2.St->XK}
end
end Zx
namespace Pu
open PySem PySem.Spec PyProof.Rows L2 Zw Zx
abbrev Rg:=Addr->Prop
def R0:Rg:=λ_=>False
set_option genInjectivity true in
inductive Kd where
 |lst|rl|tup|rt|pin (p:Addr)
set_option genInjectivity true in
inductive Ob where
 |ins (C:Addr) (fs:List Str)|exn (C:Addr)|sdc (ks:List Str)|lab (p:Addr)
set_option genInjectivity true in
inductive T where
 |non|bl (b:Bool)|int (i:Int)|str (x:Str)|nd (o:Bool) (k:Kd) (l:List T)|dic (ks:List Int) (l:List T)|pdc (ks:List Int) (l:List T)|odc (ks:List Int) (l:List T)
 |obj (k:Ob) (l:List T)|oob (p C:Addr) (fs:List Str) (l:List T)|osd (ks:List Str) (l:List T)
abbrev kH:=Option T
abbrev kL:=List T
noncomputable abbrev T.lst(l:kL):T:=.nd false .lst l
noncomputable abbrev T.own(l:kL):T:=.nd true .lst l
noncomputable abbrev T.tup(l:kL):T:=.nd false .tup l
mutual
def T.share:T->T
 |.nd _ k l=>.nd false k (BJ l)|.dic ks l=>.dic ks (BJ l)|.pdc ks l=>.pdc ks (BJ l)|.odc ks l=>.pdc ks (BJ l)|.obj k l=>.obj k (BJ l)|.oob _ C fs l=>.obj (.ins C fs) (BJ l)|.osd ks l=>.obj (.sdc ks) (BJ l)|.non=>.non|.bl b=>.bl b|.int i=>.int i|.str x=>.str x
def BJ:List T->List T
 |[]=>[]|t::r=>t.share::BJ r
end
mutual
def T.sh:T->Bool
 |.nd o _ l=>!o && Ad l|.dic _ l=>Ad l|.pdc _ l=>Ad l|.odc _ _=>false|.obj _ l=>Ad l|.oob _ _ _ _=>false|.osd _ _=>false|.non=>true|.bl _=>true|.int _=>true|.str _=>true
def Ad:List T->Bool
 |[]=>true|t::r=>t.sh && Ad r
end
noncomputable def T.flat:T->Bool
 |.nd _ _ _=>false|.dic _ _=>false|.pdc _ _=>false|.odc _ _=>false|.obj _ _=>false|.oob _ _ _ _=>false|.osd _ _=>false|.non=>true|.bl _=>true|.int _=>true|.str _=>true
theorem Ek:∀l ,BJ l=l.map T.share
 |[]=>rfl|t::r=>by rw[BJ,Ek r];rfl
theorem DV:∀l ,Ad l=l.all T.sh
 |[]=>rfl|t::r=>by rw[Ad,DV r];rfl
mutual
theorem An:∀t:T,t.sh=true->t.share=t
 |.nd o k l,h=>by
  rw[T.sh,Æ]at h;have ho:o=false:=by simpa using h.1
  subst ho;rw[T.share,AO l h.2]
 |.dic ks l,h=>by
  rw[T.sh]at h;rw[T.share,AO l h]
 |.pdc ks l,h=>by
  rw[T.sh]at h;rw[T.share,AO l h]
 |.odc ks l,h=>by
  rw[T.sh]at h;cases h
 |.obj k l,h=>by
  rw[T.sh]at h;rw[T.share,AO l h]
 |.oob p C fs l,h=>by
  rw[T.sh]at h;cases h
 |.osd ks l,h=>by
  rw[T.sh]at h;cases h
 |.non,_=>rfl|.bl _,_=>rfl|.int _,_=>rfl|.str _,_=>rfl
theorem AO:∀l:List T,Ad l=true->BJ l=l
 |[],_=>rfl|t::r,h=>by
  rw[Ad,Æ]at h;rw[BJ,An t h.1,AO r h.2]
end
mutual
theorem zgq:∀t:T,t.share.sh=true
 |.nd o k l=>by
  rw[T.share,T.sh,Fj l]
  rfl
 |.dic ks l=>by rw[T.share,T.sh,Fj l]|.pdc ks l=>by rw[T.share,T.sh,Fj l]|.odc ks l=>by rw[T.share,T.sh,Fj l]|.obj k l=>by rw[T.share,T.sh,Fj l]|.oob p C fs l=>by rw[T.share,T.sh,Fj l]|.osd ks l=>by rw[T.share,T.sh,Fj l]|.non=>rfl|.bl _=>rfl|.int _=>rfl|.str _=>rfl
theorem Fj:∀l:List T,Ad (BJ l)=true
 |[]=>rfl|t::r=>by rw[BJ,Ad,zgq t,Fj r];rfl
end
theorem zj7(h:Ad l=true){i:Nat}(e:l[i]?=some t):t.sh=true:=by
 rw[DV]at h;exact æ.mp h _ (ï e)
def GG(K:k6)(F:Hp)(p:Addr)(xs:kK):Prop:=(∃o,F p=some (.frz o (.lst xs)))\/∃(o:Obj) (its:Array Value) (n:Nat),K.lookup p=some o/\o.cls=.type "list"/\o.dict=none/\o.data=.seq its n/\its.size<=sizeLine/\A9 xs its.toList
theorem GG.l{K}(h:GG K F p xs):AX K F p xs:=h.elim (λz=>.inl (.inr z)) .inr
def Fc(K:k6)(F:Hp)(k:Kd)(p:Addr)(xs:kK):Prop:=match k with
 |.lst=>F p=some (.lst xs)|.rl=>GG K F p xs|.tup=>F p=some (.tup xs)|.rt=>Bp K F p xs|.pin _=>F p=some (.lst xs)
theorem GU{K}(s:A4 F F')(h:Bp K F p xs):Bp K F' p xs:=by
 rcases h with (h|⟨o,h⟩)|h
 .exact .inl (.inl (s _ _ h))
 .exact .inl (.inr ⟨o,s _ _ h⟩)
 .exact .inr h
theorem Fc.same{K}(h:Fc K F k p xs)(s:A4 F F'):Fc K F' k p xs:=by
 cases k with
 |lst=>exact s _ _ h|rl=>exact h.elim (λ⟨o,z⟩=>.inl ⟨o,s _ _ z⟩) .inr|tup=>exact s _ _ h|rt=>exact GU s h|pin q=>exact s _ _ h
def Kd.isT:Kd->Bool
 |.tup=>true|_=>false
def Iz(k:Kd)(p:Addr):Prop:=match k with
 |.lst=>True|.pin q=>q=p|.tup=>True|_=>False
def QV:Kd->kK->HO
 |.tup,xs=>.tup xs|_,xs=>.lst xs
theorem Yo(h:k.isT=false):QV k xs=.lst xs:=by cases k<;>first|rfl|cases h
theorem Iz.node{K}(hk:Iz k p)(h:F p=some (QV k xs)):Fc K F k p xs:=by
 cases k with
 |lst=>exact h|pin q=>exact h|tup=>exact h|_=>exact hk.elim
def ME(ks:kF)(xs:kK):List (Key×V):=List.zipWith (λk x=>(Sum.inl k,x)) ks xs
def Cc(ks:kE)(xs:kK):List (Key×V):=List.zipWith (λk x=>(Sum.inr k,x)) ks xs
def K1(F:Hp)(dx:Option Addr)(v:V):Prop:=∃d od u,dx=some d/\F d=some (.frz od (.own 0))/\A8 v u/\W.lookIn "step" od=some (some u)
theorem K1.of(h:K1 F dx v)(s:∀a u,F a=some u->F' a=some u):K1 F' dx v:=
 let ⟨d,od,u,e,h1,r⟩:=h;⟨d,od,u,e,s _ _ h1,r⟩
def Kg(F:Hp)(k:Ob)(p:Addr)(xs:kK):Prop:=match k with
 |.ins C fs=>∃dx,F p=some (.ins C dx (fs.zip xs))|.exn C=>∃dx,FK F p C dx/\∀v∈xs,K1 F dx v|.sdc ks=>ks.length=xs.length/\F p=some (.dK (Cc ks xs))|.lab q=>q=p/\xs=[.ref p]
theorem Kg.same(h:Kg F k p xs)(s:A4 F F'):Kg F' k p xs:=by
 cases k with
 |ins C fs=>exact h.elim λdx e=>⟨dx,s _ _ e⟩|exn C=>exact h.elim λdx e=>⟨dx,e.1.of λu=>s p u,λv hv=>(e.2 v hv).of s⟩|sdc ks=>exact⟨h.1,s _ _ h.2⟩|lab q=>exact h
inductive Rp(K:k6)(F H:Hp):T->V->Rg->Prop where
 |non:Rp K F H .non .non R0
 |bl (b:Bool):Rp K F H (.bl b) (.bl b) R0
 |int (i:Int):Rp K F H (.int i) (.int i) R0
 |str (x:Str):Rp K F H (.str x) (.str x) R0
 |shr {k:Kd} {p:Addr} {xs:List V} {l:List T} (h:Fc K F k p xs) (e:l.length=xs.length) (c:∀(i:Nat) (t:T) (x:V),l[i]?=some t->xs[i]?=some x->Rp K F H t x R0):Rp K F H (.nd false k l) (.ref p) R0
 |dic {p:Addr} {ob:Obj} {ks:List Int} {xs:List V} {l:List T} (h:F p=some (.frz ob (.dK (ME ks xs)))) (e:l.length=xs.length) (ek:ks.length=xs.length) (c:∀(i:Nat) (t:T) (x:V),l[i]?=some t->xs[i]?=some x->Rp K F H t x R0):Rp K F H (.dic ks l) (.ref p) R0
 |pdc {p:Addr} {ks:List Int} {xs:List V} {l:List T} (h:F p=some (.dK (ME ks xs))) (e:l.length=xs.length) (ek:ks.length=xs.length) (c:∀(i:Nat) (t:T) (x:V),l[i]?=some t->xs[i]?=some x->Rp K F H t x R0):Rp K F H (.pdc ks l) (.ref p) R0
 |odc {p:Addr} {ks:List Int} {xs:List V} {l:List T} (f:F p=none) (h:H p=some (.dK (ME ks xs))) (e:l.length=xs.length) (ek:ks.length=xs.length) (c:∀(i:Nat) (t:T) (x:V),l[i]?=some t->xs[i]?=some x->Rp K F H t x R0):Rp K F H (.odc ks l) (.ref p) (λa=>a=p)
 |obj {k:Ob} {p:Addr} {xs:List V} {l:List T} (h:Kg F k p xs) (e:l.length=xs.length) (c:∀(i:Nat) (t:T) (x:V),l[i]?=some t->xs[i]?=some x->Rp K F H t x R0):Rp K F H (.obj k l) (.ref p) R0
 |oob {C p dx:Addr} {fs:List Str} {xs:List V} {l:List T} (R:Nat->Rg) (f:F p=none) (h:H p=some (.ins C dx (fs.zip xs))) (e:l.length=xs.length) (c:∀(i:Nat) (t:T) (x:V),l[i]?=some t->xs[i]?=some x->Rp K F H t x (R i))
   (d:∀i j a,i≠j->R i a->¬ R j a) (dp:∀i,¬ R i p) (o:∀i a,R i a->i<l.length):Rp K F H (.oob p C fs l) (.ref p) (λa=>a=p\/∃i,R i a)
 |osd {p:Addr} {ks:List Str} {xs:List V} {l:List T} (R:Nat->Rg) (f:F p=none) (h:H p=some (.dK (Cc ks xs))) (e:l.length=xs.length) (ek:ks.length=xs.length) (c:∀(i:Nat) (t:T) (x:V),l[i]?=some t->xs[i]?=some x->Rp K F H t x (R i))
   (d:∀i j a,i≠j->R i a->¬ R j a) (dp:∀i,¬ R i p) (o:∀i a,R i a->i<l.length):Rp K F H (.osd ks l) (.ref p) (λa=>a=p\/∃i,R i a)
 |own {k:Kd} {p:Addr} {xs:List V} {l:List T} (hk:Iz k p) (R:Nat->Rg) (f:F p=none) (h:H p=some (QV k xs)) (e:l.length=xs.length) (c:∀(i:Nat) (t:T) (x:V),l[i]?=some t->xs[i]?=some x->Rp K F H t x (R i))
   (d:∀i j a,i≠j->R i a->¬ R j a) (dp:∀i,¬ R i p) (o:∀i a,R i a->i<l.length):Rp K F H (.nd true k l) (.ref p) (λa=>a=p\/∃i,R i a)
theorem reg0:(λa=>a=p\/∃_:Nat,R0 a)=λa=>a=p:=funext λ_=>propext ⟨λz=>z.elim id λ⟨_,w⟩=>w.elim,.inl⟩
theorem Rp.osd0{K}{ks:kE}{l:kL}(f:F p=none)(h:H p=some (.dK (Cc ks xs)))(e:l.length=xs.length)(ek:ks.length=xs.length)(c:∀(i:Nat) (t:T) (x:V),l[i]?=some t->xs[i]?=some x->Rp K F H t x R0):Rp K F H (.osd ks l) (.ref p) (λa=>a=p):=by
 have r:Rp K F H (.osd ks l) (.ref p) (λa=>a=p\/∃_,R0 a):=.osd (λ_=>R0) f h e ek c (λ_ _ _ _ z=>z.elim) (λ_ z=>z) (λ_ _ z=>z.elim)
 rwa[reg0]at r
section
variable {K:k6}{F F' H H':Hp}{t:T}{x:V}{A:Rg}
theorem Rp.frame(h:Rp K F H t x A)(s:A4 F F')(k:∀a,A a->H' a=H a/\F' a=none):Rp K F' H' t x A:=by
 induction h with
 |non=>exact .non|bl b=>exact .bl b|int i=>exact .int i|str y=>exact .str y|shr h e c ih=>exact .shr (h.same s) e λi t x h1 h2=>ih i t x h1 h2 λa z=>z.elim|dic h e ek c ih=>exact .dic (s _ _ h) e ek λi t x h1 h2=>ih i t x h1 h2 λa z=>z.elim|pdc h e ek c ih=>exact .pdc (s _ _ h) e ek λi t x h1 h2=>ih i t x h1 h2 λa z=>z.elim|odc f h e ek c ih=>have q:=k _ rfl;exact .odc q.2 (q.1.trans h) e ek λi t x h1 h2=>ih i t x h1 h2 λa z=>z.elim|obj h e c ih=>exact .obj (h.same s) e λi t x h1 h2=>ih i t x h1 h2 λa z=>z.elim|oob R f h e c d dp o ih=>have q:=k _ (.inl rfl);exact .oob R q.2 (q.1.trans h) e (λi t x h1 h2=>ih i t x h1 h2 λa z=>k a (.inr ⟨i,z⟩)) d dp o|osd R f h e ek c d dp o ih=>have q:=k _ (.inl rfl);exact .osd R q.2 (q.1.trans h) e ek (λi t x h1 h2=>ih i t x h1 h2 λa z=>k a (.inr ⟨i,z⟩)) d dp o|own hk R f h e c d dp o ih=>have q:=k _ (.inl rfl);exact .own hk R q.2 (q.1.trans h) e (λi t x h1 h2=>ih i t x h1 h2 λa z=>k a (.inr ⟨i,z⟩)) d dp o
theorem Rp.dom(h:Rp K F H t x A)(ha:A a):F a=none/\∃u,H a=some u:=by
 induction h with
 |non=>exact ha.elim|bl b=>exact ha.elim|int i=>exact ha.elim|str y=>exact ha.elim|shr h e c ih=>exact ha.elim|dic h e ek c ih=>exact ha.elim|pdc h e ek c ih=>exact ha.elim|odc f h e ek c ih=>grind|obj h e c ih=>exact ha.elim|@osd p ks xs l R f h e ek c d dp o ih=>
  rcases ha with rfl|⟨i,z⟩
  .grind
  .have hi:=o i a z;have hx:i<xs.length:=by omega
   exact ih i _ _ (Â hi) (Â hx) z
 |@oob C p dx fs xs l R f h e c d dp o ih=>
  rcases ha with rfl|⟨i,z⟩
  .grind
  .have hi:=o i a z;have hx:i<xs.length:=by omega
   exact ih i _ _ (Â hi) (Â hx) z
 |@own k0 p xs l hk R f h e c d dp o ih=>
  rcases ha with rfl|⟨i,z⟩
  .grind
  .have hi:=o i a z;have hx:i<xs.length:=by omega
   exact ih i _ _ (Â hi) (Â hx) z
theorem Rp.share(h:Rp K F H t x A)(s:A4 F F')(k:∀a u,A a->H a=some u->F' a=some u):Rp K F' H' t.share x R0:=by
 induction h with
 |non=>exact .non|bl b=>exact .bl b|int i=>exact .int i|str y=>exact .str y|@shr k0 p xs l h e c ih=>
  rw[T.share,Ek];refine .shr (h.same s) (by rw[Á];exact e) λi t x h1 h2=>?_
  rw[Ê]at h1;obtain⟨t0,e0,rfl⟩:=Õ.mp h1;exact ih i t0 x e0 h2 λa u z=>z.elim
 |@dic p ob ks xs l h e ek c ih=>
  rw[T.share,Ek];refine .dic (s _ _ h) (by rw[Á];exact e) ek λi t x h1 h2=>?_
  rw[Ê]at h1;obtain⟨t0,e0,rfl⟩:=Õ.mp h1;exact ih i t0 x e0 h2 λa u z=>z.elim
 |@pdc p ks xs l h e ek c ih=>
  rw[T.share,Ek];refine .pdc (s _ _ h) (by rw[Á];exact e) ek λi t x h1 h2=>?_
  rw[Ê]at h1;obtain⟨t0,e0,rfl⟩:=Õ.mp h1;exact ih i t0 x e0 h2 λa u z=>z.elim
 |@odc p ks xs l f h e ek c ih=>
  rw[T.share,Ek];refine .pdc (k _ _ rfl h) (by rw[Á];exact e) ek λi t x h1 h2=>?_
  rw[Ê]at h1;obtain⟨t0,e0,rfl⟩:=Õ.mp h1;exact ih i t0 x e0 h2 λa u z=>z.elim
 |@obj k0 p xs l h e c ih=>
  rw[T.share,Ek];refine .obj (h.same s) (by rw[Á];exact e) λi t x h1 h2=>?_
  rw[Ê]at h1;obtain⟨t0,e0,rfl⟩:=Õ.mp h1;exact ih i t0 x e0 h2 λa u z=>z.elim
 |@oob C p dx fs xs l R f h e c d dp o ih=>
  rw[T.share,Ek];refine .obj ⟨dx,k _ _ (.inl rfl) h⟩ (by rw[Á];exact e) λi t x h1 h2=>?_
  grind
 |@osd p ks xs l R f h e ek c d dp o ih=>
  rw[T.share,Ek];refine .obj ⟨ek,k _ _ (.inl rfl) h⟩ (by rw[Á];exact e) λi t x h1 h2=>?_
  grind
 |@own k0 p xs l hk R f h e c d dp o ih=>
  rw[T.share,Ek];refine .shr (hk.node (k _ _ (.inl rfl) h)) (by rw[Á];exact e) λi t x h1 h2=>?_
  grind
theorem Rp.r0(h:Rp K F H t x A)(s:t.sh=true):A=R0:=by
 cases h with
 |own hk R f h e c d dp o=>cases s|odc f h e ek c=>cases s|oob R f h e c d dp o=>cases s|osd R f h e ek c d dp o=>cases s|_=>rfl
theorem Rp.move(h:Rp K F H t x A)(s:t.sh=true)(q:A4 F F'):Rp K F' H' t x R0:=by
 have e:=h.r0 s;subst e;exact h.frame q λa z=>z.elim
theorem Rp.flat_any(h:Rp K F H t x A)(s:t.flat=true):Rp K F' H' t x R0:=by
 cases h with
 |non=>exact .non|bl b=>exact .bl b|int i=>exact .int i|str y=>exact .str y|shr h e c=>cases s|dic h e ek c=>cases s|pdc h e ek c=>cases s|odc f h e ek c=>cases s|obj h e c=>cases s|oob R f h e c d dp o=>cases s|osd R f h e ek c d dp o=>cases s|own hk R f h e c d dp o=>cases s
theorem Rp.int_inv{i:Int}(h:Rp K F H (.int i) x A):x=.int i:=by cases h;rfl
theorem Rp.bl_inv{b:Bool}(h:Rp K F H (.bl b) x A):x=.bl b:=by cases h;rfl
theorem Rp.non_inv(h:Rp K F H .non x A):x=.non:=by cases h;rfl
theorem Rp.str_inv{y:Str}(h:Rp K F H (.str y) x A):x=.str y:=by cases h;rfl
end
def Ag(K:k6)(F:Hp)(ts:kL)(xs:kK):Prop:=ts.length=xs.length/\∀(i:Nat) (t:T) (x:V),ts[i]?=some t->xs[i]?=some x->Rp K F F t x R0
theorem Ag.nil{K}:Ag K F [] []:=⟨rfl,λi t x h=>by simp at h⟩
theorem Rp.any{K}(h:Rp K F H t x R0):Rp K F H' t x R0:=h.frame (A4.refl F) λa z=>z.elim
theorem Ag.cons{K:k6}{F H:Hp}{t:T}{x:V}{ts:kL}{xs:kK}(h:Rp K F H t x R0)(r:Ag K F ts xs):Ag K F (t::ts) (x::xs):=by
 refine⟨by simp[r.1],λi t' x' h1 h2=>?_⟩
 cases i with
 |zero=>simp at h1 h2;subst h1;subst h2;exact h.any|succ j=>exact r.2 j t' x' (by simpa using h1) (by simpa using h2)
theorem Ag.inv{K}(r:Ag K F (t::ts) xs):∃x xs',xs=x::xs'/\Rp K F F t x R0/\Ag K F ts xs':=by
 obtain⟨e,h⟩:=r;cases xs with
 |nil=>simp at e|cons x xs'=>exact⟨x,xs',rfl,h 0 t x rfl rfl,by simpa using e,λi t' x' h1 h2=>h (i+1) t' x' (by simpa using h1) (by simpa using h2)⟩
theorem Ag.inv0{K}(r:Ag K F [] xs):xs=[]:=by
 obtain⟨e,h⟩:=r
 grind
theorem Ag.same{K}(r:Ag K F ts xs)(s:A4 F F'):Ag K F' ts xs:=⟨r.1,λi t x h1 h2=>((r.2 i t x h1 h2).frame s λa z=>z.elim)⟩
theorem Ag.node{K}(h:Rp K F H (.nd false k l) (.ref p) A):∃xs,Fc K F k p xs/\Ag K F l xs:=by
 cases h with
 |shr h e c=>exact⟨_,h,e,λi t x h1 h2=>(c i t x h1 h2).any⟩
theorem Rp.ref_inv{K}(h:Rp K F H (.nd o k l) x A):∃p,x=.ref p:=by
 cases h with
 |shr h e c=>simp|own hk R f h e c d dp o=>simp
theorem Ag.of_node{K}(h:Fc K F k p xs)(r:Ag K F l xs):Rp K F H (.nd false k l) (.ref p) R0:=.shr h r.1 λi t x h1 h2=>(r.2 i t x h1 h2).any
structure Ext(F H F' H':Hp)(B:Rg):Prop where
 hh:A4 H H'
 ff:A4 F F'
 fh:A4 F' H'
 nb:∀b,B b->H b=none
 nf:∀b u,F' b=some u->F b=some u\/H b=none
theorem FV(s:A4 H H')(h:H' b=none):H b=none:=by
 cases e:H b with
 |none=>rfl|some u=>rw[s b u e]at h;cases h
section
variable {F H F1 H1 F2 H2:Hp}{B C:Rg}
theorem Ext.refl(s:A4 F H):Ext F H F H R0:=⟨.refl _,.refl _,s,λ_ z=>z.elim,λ_ _ e=>.inl e⟩
theorem Ext.trans(a:Ext F H F1 H1 B)(b:Ext F1 H1 F2 H2 C):Ext F H F2 H2 (λx=>B x\/C x) where
 hh:=a.hh.trans b.hh
 ff:=a.ff.trans b.ff
 fh:=b.fh
 nb:=λx z=>z.elim (a.nb x) λz=>FV a.hh (b.nb x z)
 nf:=λx u e=>(b.nf x u e).elim (a.nf x u) λz=>.inr (FV a.hh z)
theorem Ext.mono(a:Ext F H F1 H1 B)(h:∀x,C x->B x):Ext F H F1 H1 C:=⟨a.hh,a.ff,a.fh,λx z=>a.nb x (h x z),a.nf⟩
theorem Ext.trans0(a:Ext F H F1 H1 R0)(b:Ext F1 H1 F2 H2 C):Ext F H F2 H2 C:=(a.trans b).mono λx z=>.inr z
open Classical in
def frz(F H:Hp)(A:Rg):Hp:=λb=>if A b then H b else F b
theorem Dj{A:Rg}{b:Addr}(h:A b):frz F H A b=H b:=by unfold frz;rw[if_pos h]
theorem EO{A:Rg}{b:Addr}(h:¬ A b):frz F H A b=F b:=by unfold frz;rw[if_neg h]
theorem ES(n:∀a,A a->F a=none):A4 F (frz F H A):=λb u e=>by
 by_cases h:A b
 .grind
 .rw[EO h];exact e
theorem HP(s:A4 F H):A4 (frz F H A) H:=λb u e=>by
 by_cases h:A b
 .rw[Dj h]at e;exact e
 .rw[EO h]at e;exact s b u e
theorem Ext.frz(a:Ext F H F1 H1 B)(n:∀b,B b->F1 b=none):Ext F H (frz F1 H1 B) H1 R0 where
 hh:=a.hh
 ff:=a.ff.trans (ES n)
 fh:=HP a.fh
 nb:=λ_ z=>z.elim
 nf:=λb u e=>by
  by_cases h:B b
  .exact .inr (a.nb b h)
  .rw[EO h]at e;exact a.nf b u e
theorem Rp.ext{K }    (h:Rp K F H t x A)(a:Ext F H F1 H1 B):Rp K F1 H1 t x A:=h.frame a.ff λb z=>by
 obtain⟨f,u,e⟩:=h.dom z;refine⟨(a.hh b u e).trans e.symm,?_⟩;cases q:F1 b with
 |none=>rfl|some u'=>
  rcases a.nf b u' q with z|z
  .grind
  grind
theorem Rp.apart{K}(h:Rp K F H t x A)(a:Ext F H F1 H1 B)(hb:B b):¬ A b:=λz=>by
 obtain⟨f,u,e⟩:=h.dom z;rw[a.nb b hb]at e;cases e
theorem Ext.new   (s:A4 F H)(h:H p=none):Ext F H (upd F p o) (upd H p o) R0 where
 hh:=FR h o
 ff:=FR (FV s h) o
 fh:=λb u e=>by
  by_cases hb:b=p
  .subst hb;rw[Be]at e ⊢;exact e
  .rw[Ah hb]at e ⊢;exact s b u e
 nb:=λ_ z=>z.elim
 nf:=λb u e=>by
  by_cases hb:b=p
  .grind
  .rw[Ah hb]at e;exact .inl e
theorem Ext.newO   (s:A4 F H)(h:H p=none):Ext F H F (upd H p o) (λa=>a=p) where
 hh:=FR h o
 ff:=.refl _
 fh:=λb u e=>FR h o b u (s b u e)
 nb:=λb z=>by grind
 nf:=λb u e=>.inl e
end
abbrev AK:=List (kH)
structure StR(K:k6)(F H:Hp)(σ:L2.St)(τ:AK)(R:Nat->Rg):Prop where
 fh:A4 F H
 len:σ.length=τ.length
 rep:∀i t,τ[i]?=some (some t)->∃x,σ[i]?=some (some x)/\Rp K F H t x (R i)
 out:∀i a,R i a->∃t,τ[i]?=some (some t)
 dis:∀i j a,i≠j->R i a->¬ R j a
section
variable {K:k6}{F H F1 H1:Hp}{σ:L2.St}{τ:AK}{R:Nat->Rg}{B:Rg}
theorem StR.dom(h:StR K F H σ τ R)(ha:R i a):F a=none/\∃u,H a=some u:=by
 obtain⟨t,e⟩:=h.out i a ha;obtain⟨x,_,r⟩:=h.rep i t e;exact r.dom ha
theorem StR.ext(h:StR K F H σ τ R)(a:Ext F H F1 H1 B):StR K F1 H1 σ τ R where
 fh:=a.fh
 len:=h.len
 rep:=λi t e=>by
  obtain⟨x,e1,r⟩:=h.rep i t e;exact⟨x,e1,r.ext a⟩
 out:=h.out
 dis:=h.dis
theorem StR.apart(h:StR K F H σ τ R)(a:Ext F H F1 H1 B)(hb:B b)(i):¬ R i b:=λz=>by
 obtain⟨f,u,e⟩:=h.dom z;rw[a.nb b hb]at e;cases e
end
def Y7:Key->PyData
 |.inl i=>.int i|.inr x=>.str x
mutual
def T.data:T->PyData
 |.non=>.none|.bl b=>.bool b|.int i=>.int i|.str x=>.str x|.nd _ .lst l=>.list (Bd l)|.nd _ .rl l=>.list (Bd l)|.nd _ .tup l=>.tuple (Bd l)|.nd _ .rt l=>.tuple (Bd l)|.nd _ (.pin _) l=>.list (Bd l)|.dic ks l=>.dict ((ks.map PyData.int).zip (Bd l))|.pdc ks l=>.dict ((ks.map PyData.int).zip (Bd l))|.odc ks l=>.dict ((ks.map PyData.int).zip (Bd l))|.obj _ _=>.none|.oob _ _ _ _=>.none|.osd _ _=>.none
def Bd:List T->List PyData
 |[]=>[]|t::r=>t.data::Bd r
end
mutual
def T.pln:T->Bool
 |.nd _ _ l=>E1 l|.dic _ l=>E1 l|.pdc _ l=>E1 l|.odc _ l=>E1 l|.obj _ _=>false|.oob _ _ _ _=>false|.osd _ _=>false|.non=>true|.bl _=>true|.int _=>true|.str _=>true
def E1:List T->Bool
 |[]=>true|t::r=>t.pln && E1 r
end
theorem EZ:∀{l},E1 l=true->∀{i:Nat} {t},l[i]?=some t->t.pln=true
 |[],_,i,t,e=>by simp at e|a::r,h,i,t,e=>by
  rw[E1,Æ]at h;cases i with
  |zero=>simp at e;subst e;exact h.1|succ i=>exact EZ h.2 (by simpa using e)
theorem VP:∀{l} {us},l.length=us.length->(∀(i:Nat) (t) (u),l[i]?=some t->us[i]?=some u->∃as,Reads h u t.data as)->∃as,ReadsAll h us (Bd l) as
 |[],[],_,_=>⟨_,.nil⟩|[],_::_,e,_=>by simp at e|_::_,[],e,_=>by simp at e|t::l,u::us,e,f=>by
  obtain⟨a1,r1⟩:=f 0 t u rfl rfl;obtain⟨a2,r2⟩:=VP (by simpa using e) λi t' u' h1 h2=>f (i+1) t' u' (by simpa using h1) (by simpa using h2)
  exact⟨_,.cons r1 r2⟩
theorem QG(e:(DA P w).is k v=true):Reads h v (Y7 k) []:=by
 rcases FA (e) with ⟨i,t,rfl,rfl⟩|⟨x,t,rfl,rfl⟩
 .exact .int i t
 .exact .str x t
theorem Lg:∀(ks) (xs) (l) (vs),KV (ME ks xs) vs->l.length=xs.length->ks.length=xs.length->(∀(i:Nat) (t) (x),l[i]?=some t->xs[i]?=some x->∀{u},A8 x u->∃as,Reads h u t.data as) ->
  ∃bs,PyProof.V.PairsRead h Y7 vs ((ks.map PyData.int).zip (Bd l)) bs
 |[],xs,l,vs,r,_,_,_=>by
  have r' :=(r);cases r';exact⟨_,.nil⟩
 |k::ks,[],l,vs,r,_,ek,_=>by simp at ek|k::ks,x::xs,[],vs,r,e,_,_=>by simp at e|k::ks,x::xs,t::l,vs,r,e,ek,f=>by
  have r' :=r;cases r' with
  |@cons _ q _ qs hd tl=>
   obtain⟨a1,r1⟩:=f 0 t x rfl rfl hd.2;obtain⟨a2,r2⟩:=Lg ks xs l qs tl (by simpa using e) (by grind) λi t' x' h1 h2=>f (i+1) t' x' (by grind) (by grind)
   obtain⟨q1,q2⟩:=q;cases (hd.1);exact⟨_,.cons r1 r2⟩
section
variable {X:Cx}{pq:List (Addr×Obj)}{σ:L2.St}{F H:Hp}{s:Shared}
theorem G0(I:Inv X pq σ H s)(fh:A4 F H)(h:Rp X.K F H t x A)(hpl:t.pln=true):∀{u},A8 x u->∃as,Reads s.heap u t.data as:=by
 have kids:∀{l } {xs } {its },A9 xs its->l.length=xs.length->(∀(i:Nat) (t ) (x ),l[i]?=some t->xs[i]?=some x->∀{u },A8 x u->∃as,Reads s.heap u t.data as)->∃as,ReadsAll s.heap its (Bd l) as:=by
  intro l xs its r e ih;refine VP (e.trans r.length) λi t u h1 h2=>?_
  have hi:i<xs.length:=by
   have:=(Í.mp h1).1
   omega
  obtain⟨u',e1,r1⟩:=r.get (Â hi);rw[h2]at e1;cases e1;exact ih i t _ h1 (Â hi) r1
 have lsts:∀{p } {l } {xs },AX X.K H p xs->l.length=xs.length->(∀(i:Nat) (t ) (x ),l[i]?=some t->xs[i]?=some x->∀{u },A8 x u->∃as,Reads s.heap u t.data as)->∃as,Reads s.heap (.ref p) (.list (Bd l)) as:=by
  intro p l xs hq e ih;obtain⟨its,r,⟨o,n,e1,e2,e3,e4⟩,_⟩:=I.list hq;obtain⟨as,ra⟩:=kids r e ih;exact⟨_,.list e1 e2 e4 (by simpa using ra)⟩
 have tups:∀{p } {l } {xs },Bp X.K H p xs->l.length=xs.length->(∀(i:Nat) (t ) (x ),l[i]?=some t->xs[i]?=some x->∀{u },A8 x u->∃as,Reads s.heap u t.data as)->∃as,Reads s.heap (.ref p) (.tuple (Bd l)) as:=by
  intro p l xs hq e ih;obtain⟨its,r,⟨o,e1,e2,n,e4⟩,_⟩:=I.tuple hq;obtain⟨as,ra⟩:=kids r e ih;exact⟨_,.tuple e1 e2 e4 (by simpa using ra)⟩
 induction h with
 |non=>intro u r;cases r;exact⟨_,.none⟩|bl b=>intro u r;cases r;exact⟨_,.bool b⟩|int i=>intro u r;obtain⟨t,rfl⟩:=r;exact⟨_,.int i t⟩
 |str y=>intro u r;obtain⟨t,rfl⟩:=r;exact⟨_,.str y t⟩
 |@shr k p xs l h e c ih=>
  intro u r;cases r;cases k with
  |lst=>exact lsts (AX.of (fh _ _ h)) e λi t x h1 h2=>ih i t x h1 h2 (EZ hpl h1)|rl=>exact lsts (fh.seq h.l) e λi t x h1 h2=>ih i t x h1 h2 (EZ hpl h1)|tup=>exact tups (Bp.of (fh _ _ h)) e λi t x h1 h2=>ih i t x h1 h2 (EZ hpl h1)|rt=>exact tups (GU fh h) e λi t x h1 h2=>ih i t x h1 h2 (EZ hpl h1)|pin q=>exact lsts (AX.of (fh _ _ h)) e λi t x h1 h2=>ih i t x h1 h2 (EZ hpl h1)
 |@dic p ob ks xs l h e ek c ih=>
  intro u r;cases r;obtain⟨ho,z,hd,vs,rel,dd⟩:=(I.hok p _ (fh _ _ h));obtain⟨bs,pr⟩:=Lg ks xs l vs rel e ek λi t x h1 h2=>ih i t x h1 h2 (EZ hpl h1)
  exact⟨_,ş (λk v q=>QG q) dd pr⟩
 |@pdc p ks xs l h e ek c ih=>
  intro u r;cases r;obtain⟨z,hd,vs,rel,dd⟩:=(I.hok p _ (fh _ _ h));obtain⟨bs,pr⟩:=Lg ks xs l vs rel e ek λi t x h1 h2=>ih i t x h1 h2 (EZ hpl h1)
  exact⟨_,ş (λk v q=>QG q) dd pr⟩
 |@odc p ks xs l f h e ek c ih=>
  intro u r;cases r;obtain⟨z,hd,vs,rel,dd⟩:=(I.hok p _ h);obtain⟨bs,pr⟩:=Lg ks xs l vs rel e ek λi t x h1 h2=>ih i t x h1 h2 (EZ hpl h1)
  exact⟨_,ş (λk v q=>QG q) dd pr⟩
 |obj h e c ih=>cases hpl|oob R f h e c d dp o ih=>cases hpl|osd R f h e ek c d dp o ih=>cases hpl|@own k0 p xs l hk R f h e c d dp o ih=>
  intro u r;cases r;cases k0 with
  |lst=>exact lsts (AX.of h) e λi t x h1 h2=>ih i t x h1 h2 (EZ hpl h1)|pin q=>exact lsts (AX.of h) e λi t x h1 h2=>ih i t x h1 h2 (EZ hpl h1)|tup=>exact tups (Bp.of h) e λi t x h1 h2=>ih i t x h1 h2 (EZ hpl h1)|_=>exact hk.elim
end
noncomputable def EF(t:T):Bool:=t.pln && t.data.canLay0
def IZ(t u:T):Bool:=PyData.eqv t.data u.data
def Gh(t u:T):Bool:=EF t && EF u && decide (min t.data.depth u.data.depth<=60)
def Ap(t u:T):kH:=if Gh t u then some (.bl (IZ t u)) else none
def Bk(t u:T):kH:=if Gh t u then some (.bl (!IZ t u)) else none
def IP(t:T)(l:kL):Bool:=EF t && (E1 l && PyData.canLayAll0 (Bd l)) && decide (min (PyData.depthAll (Bd l)) t.data.depth<=60)
def QW(t:T)(l:kL):Bool:=(Bd l).any λy=>PyData.eqv y t.data
def Ym(t:T)(y:Str):kH:=match t with
 |.str x=>some (.bl (!(Builtin.Str.occurrences y x 0 y.length 1).isEmpty))|_=>none
def FC(t c:T):kH:=match c with
 |.nd _ _ l=>if IP t l then some (.bl (QW t l)) else none
 |.str y=>Ym t y|_=>none
def HD(t c:T):kH:=match c with
 |.nd _ _ l=>if IP t l then some (.bl (!QW t l)) else none
 |_=>none
def DE(K:k6)(F H:Hp)(v:T)(Q:VK):Prop:=∀F' H' z C,Ext F H F' H' C->Rp K F' H' v z C->Q z H'
def Bf(K:k6)(g:T->T->kH):R2:=λx y H Q=>∃F t u v,A4 F H/\Rp K F F t x R0/\Rp K F F u y R0/\g t u=some v/\DE K F H v Q
def Lc(K:k6)(g:T->kH):V->Hp->VK->Prop:=λx H Q=>∃F t v,A4 F H/\Rp K F F t x R0/\g t=some v/\DE K F H v Q
def DJ(K:k6)(g:kL->kH):kK->Hp->VK->Prop:=λxs H Q=>∃F ts v,A4 F H/\Ag K F ts xs/\g ts=some v/\DE K F H v Q
section
variable {K:k6}{F H:Hp}{Q:VK}
theorem DE.int(q:DE K F H (.int i) Q)(s:A4 F H):Q (.int i) H:=q F H _ _ (Ext.refl s) (.int i)
theorem DE.bl(q:DE K F H (.bl b) Q)(s:A4 F H):Q (.bl b) H:=q F H _ _ (Ext.refl s) (.bl b)
theorem DE.str(q:DE K F H (.str x) Q)(s:A4 F H):Q (.str x) H:=q F H _ _ (Ext.refl s) (.str x)
theorem DE.list   (q:DE K F H (.own l) Q)(s:A4 F H)(r:Ag K F l xs)  (hp:H p=none):Q (.ref p) (upd H p (.lst xs)):=by
 refine q F (upd H p (.lst xs)) (.ref p) _ ((Ext.newO s hp).mono ?_) (.own (k:=.lst) trivial (λ_=>R0) (FV s hp) Be r.1 (λi t x h1 h2=>?_) (λ_ _ _ _ z=>z.elim) (λ_ z=>z) (λ_ _ z=>z.elim))
 .rintro a (z|⟨i,z⟩)
  .exact z
  .exact z.elim
 .exact(r.2 i t x h1 h2).any
theorem DE.tuple(q:DE K F H (.tup l) Q)(s:A4 F H)(r:Ag K F l xs)(hp:H p=none):Q (.ref p) (upd H p (.tup xs)):=by
 have e:=Ext.new (o:=.tup xs) s hp;exact q _ _ _ _ e (Ag.of_node Be (r.same e.ff))
end
def DI(i:Int):Bool:=@decide (-(2 ^ 64)<i/\i<2 ^ 64) (Classical.propDecidable _)
def Bh(i:Int):Bool:=@decide (-(10 ^ 70)<i/\i<10 ^ 70) (Classical.propDecidable _)
def HJ(k:Int):Bool:=@decide (k<2 ^ 63/\-(2 ^ 63)<=k) (Classical.propDecidable _)
def Cb(i j:Int):Bool:=DI i || DI j || (Bh i && Bh j)
noncomputable def Az:Nat:=16777216
def Au:T->T->kH
 |.int i,.int j=>some (.int (i+j))|.str x,.str y=>if x.length+y.length<=Az then some (.str (x++y)) else none
 |.nd _ .lst l,.nd _ .lst m=>if l.length+m.length<=Az then some (.own (l++m)) else none
 |_,_=>none
def Ej:T->T->kH
 |.int i,.int j=>some (.int (i - j))|_,_=>none
def B0:T->T->kH
 |.int i,.int j=>if Cb i j then some (.int (i * j)) else none
 |.nd _ .lst l,.int k=>if HJ k=true/\l.length * k.toNat<=Az then some (.own (List.replicate k.toNat l).flatten) else none
 |.str x,.int k=>if 0<=k/\k<=1000000/\x.length<=16 then some (.str (Txt.mul x k)) else none
 |_,_=>none
def BE:T->T->kH
 |.int i,.int j=>if j≠0 then some (.int (i.fmod j)) else none
 |_,_=>none
def Bi:T->T->kH
 |.int i,.int j=>if j≠0/\Bh j then some (.int (i.fdiv j)) else none
 |_,_=>none
def EK:T->T->kH
 |.int i,.int j=>if 0<=j/\j<=1000000/\DI i then some (.int (i ^ j.toNat)) else none
 |_,_=>none
def KR:T->T->kH
 |.int i,.int j=>some (.int (Builtin.bitOr i j))|_,_=>none
def KU:T->T->kH
 |.int i,.int j=>some (.int (Builtin.bitAnd i j))|_,_=>none
def CN(f:Int->Int->Bool):T->T->kH
 |.int i,.int j=>some (.bl (f i j))|_,_=>none
def DZ:T->kH
 |.int i=>some (.int (-i))|_=>none
theorem OA(h:DI i=true):-(2 ^ 64)<i/\i<2 ^ 64:=@of_decide_eq_true _ (Classical.propDecidable _) h
theorem Nz(h:Bh i=true):Sm i:=@of_decide_eq_true _ (Classical.propDecidable _) h
theorem Y8(h:HJ k=true):k<2 ^ 63/\-(2 ^ 63)<=k:=@of_decide_eq_true _ (Classical.propDecidable _) h
theorem FZ:Az=sizeLine:=by rw[ć];rfl
theorem L5{K}{F}:∀{l m} {xs ys},Ag K F l xs->Ag K F m ys->Ag K F (l++m) (xs++ys)
 |[],m,xs,ys,r,q=>by rw[r.inv0];exact q|t::l,m,xs,ys,r,q=>by
  obtain⟨x,xs',rfl,r1,r2⟩:=r.inv;exact .cons r1 (L5 r2 q)
theorem VG{K}(r:Ag K F l xs):∀n ,Ag K F (List.replicate n l).flatten (List.replicate n xs).flatten
 |0=>.nil|n+1=>by
  exact L5 r (VG r n)
section
variable {X:Cx}
theorem DY{K}(h:Rp K F H (.nd o k l) x R0):∃p xs,x=.ref p/\o=false/\Fc K F k p xs/\Ag K F l xs:=by
 generalize hA:R0=A at h;cases h with
 |shr h e c=>exact⟨_,_,rfl,rfl,h,e,λi t x h1 h2=>(hA▸c i t x h1 h2).any⟩|@own k0 p xs l hk R f h e c d dp o=>
  exfalso
  have:R0 p:=by grind
  exact this
theorem zkg:Ae X (binaryOp .Add) (Bf X.K Au):=by
 intro pq s σ H x y v u Q I rx ry h;obtain⟨F,t1,t2,r,fh,r1,r2,e,q⟩:=h;unfold Au at e;split at e
 .cases e;rw[r1.int_inv]at rx;rw[r2.int_inv]at ry;exact znr pq s σ H _ _ v u Q I rx ry ⟨_,_,rfl,rfl,q.int fh⟩
 .split at e
  .cases e;rename_i hz;rw[r1.str_inv]at rx;rw[r2.str_inv]at ry;exact ze1 pq s σ H _ _ v u Q I rx ry ⟨_,_,rfl,rfl,by rw[<- FZ];exact hz,q.str fh⟩
  .cases e
 .split at e
  .cases e;rename_i hz;obtain⟨p,xs,rfl,rfl,n1,k1⟩:=DY r1;obtain⟨p2,ys,rfl,rfl,n2,k2⟩:=DY r2;refine znp pq s σ H _ _ v u Q I rx ry ⟨p,p2,xs,ys,rfl,rfl,fh _ _ n1,fh _ _ n2,?_,λa ha=>q.list fh (L5 k1 k2) ha⟩
   rw[<- k1.1,<- k2.1,<- FZ];exact hz
  .cases e
 .cases e
theorem HB(ho:Ae X f (rI C g))(hg:∀t u v,gT t u=some v->∃i j,t=.int i/\u=.int j/\C i j/\((∃k,v=.int k/\g i j=.int k)\/∃k,v=.bl k/\g i j=.bl k)):Ae X f (Bf X.K gT):=by
 intro pq s σ H x y v u Q I rx ry h;obtain⟨F,t1,t2,r,fh,r1,r2,e,q⟩:=h;obtain⟨i,j,rfl,rfl,hc,hv⟩:=hg _ _ _ e;rw[r1.int_inv]at rx;rw[r2.int_inv]at ry;refine ho pq s σ H _ _ v u Q I rx ry ⟨i,j,rfl,rfl,hc,?_⟩
 rcases hv with ⟨k,rfl,ek⟩|⟨k,rfl,ek⟩
 .rw[ek];exact q.int fh
 .rw[ek];exact q.bl fh
theorem Ae.weak(h:Ae X f r)(w:∀x y H Q,r' x y H Q->r x y H Q):Ae X f r':=λpq s σ H x y v u Q I rx ry q=>h pq s σ H x y v u Q I rx ry (w x y H Q q)
theorem L8(h:Ae X f (EY g)):Ae X f (rI (λ_ _=>True) g):=Ae.weak h λx y H Q ⟨i,j,a,b,_,q⟩=>⟨i,j,a,b,q⟩
theorem zk9:Ae X (binaryOp .Sub) (Bf X.K Ej):=HB (L8 znk) λt u v h=>by
 unfold Ej at h
 grind
theorem zkf:Ae X (binaryOp .BitOr) (Bf X.K KR):=HB (L8 op_or) λt u v h=>by
 unfold KR at h
 grind
theorem zhc:Ae X (binaryOp .BitAnd) (Bf X.K KU):=HB (L8 znq) λt u v h=>by
 unfold KU at h
 grind
theorem zkc:Ae X (binaryOp .Mod) (Bf X.K BE):=HB zk8 λt u v h=>by
 unfold BE at h
 grind
theorem zhb:Ae X (binaryOp .FloorDiv) (Bf X.K Bi):=HB zha λt u v h=>by
 unfold Bi at h;split at h
 .split at h
  .cases h;rename_i hc;exact⟨_,_,rfl,rfl,⟨hc.1,Nz hc.2⟩,.inl ⟨_,rfl,rfl⟩⟩
  .cases h
 .cases h
theorem zka:Ae X (binaryOp .Pow) (Bf X.K EK):=HB znm λt u v h=>by
 unfold EK at h;split at h
 .split at h
  .cases h;rename_i hc;have q:=OA hc.2.2;exact⟨_,_,rfl,rfl,⟨hc.1,hc.2.1,by omega⟩,.inl ⟨_,rfl,rfl⟩⟩
  .cases h
 .cases h
theorem Li(ho:Ae X (compareOp op) (EY λi j=>.bl (g i j))):Ae X (compareOp op) (Bf X.K (CN g)):=HB (L8 ho) λt u v h=>by
 unfold CN at h
 grind
theorem zkb:Ae X (binaryOp .Mult) (Bf X.K B0):=by
 intro pq s σ H x y v u Q I rx ry h;obtain⟨F,t1,t2,r,fh,r1,r2,e,q⟩:=h;unfold B0 at e;split at e
 .rename_i i j;split at e
  .cases e;rename_i hc;rw[r1.int_inv]at rx;rw[r2.int_inv]at ry;unfold Cb at hc;rw[Ě,Ě,Æ]at hc
   rcases hc with (hc|hc)|hc
   .exact WH pq s σ H _ _ v u Q I rx ry ⟨i,j,rfl,rfl,.inl (OA hc),q.int fh⟩
   .exact WH pq s σ H _ _ v u Q I rx ry ⟨i,j,rfl,rfl,.inr (OA hc),q.int fh⟩
   .exact zk7 pq s σ H _ _ v u Q I rx ry ⟨i,j,rfl,rfl,⟨Nz hc.1,Nz hc.2⟩,q.int fh⟩
  .cases e
 .split at e
  .cases e;rename_i hc;obtain⟨p,xs,rfl,rfl,n1,k1⟩:=DY r1;rw[r2.int_inv]at ry;refine znl pq s σ H _ _ v u Q I rx ry ⟨p,_,xs,rfl,rfl,fh _ _ n1,(Y8 hc.1).2,(Y8 hc.1).1,?_,λa ha=>q.list fh (VG k1 _) ha⟩
   rw[<- k1.1,<- FZ];exact hc.2
  .cases e
 .split at e
  .cases e;rename_i hc;rw[r1.str_inv]at rx;rw[r2.int_inv]at ry;obtain⟨t1,rfl⟩:=rx;obtain⟨t2,rfl⟩:=ry;exact SB.mul (mulOk_of 16 1048576 hc.2.2 (by omega) (by omega) (by decide) (by decide)) λt' k=>⟨.str _,H,I.tok _,⟨_,rfl⟩,q.str fh⟩
  .cases e
 .cases e
theorem zj1:K0 X (unaryOp .USub) (Lc X.K DZ):=by
 intro pq s σ H x v Q I rx h;obtain⟨F,t,r,fh,r1,e,q⟩:=h;unfold DZ at e;split at e
 .cases e;rw[r1.int_inv]at rx;exact zls pq s σ H _ v Q I rx ⟨_,rfl,q.int fh⟩
 .cases e
theorem aK{A:Around}(hu:A.units+64<cLine)(h:n<=60):A.units+n<cLine:=by omega
theorem WJ(hu:X.A.units+64<cLine):Ae X (compareOp .Eq) (Bf X.K Ap):=by
 intro pq s σ H x y v u Q I rx ry h;obtain⟨F,t1,t2,r,fh,r1,r2,e,q⟩:=h;unfold Ap at e;split at e
 .cases e;rename_i hc;unfold Gh EF at hc;rw[Æ,Æ,Æ,Æ,ë]at hc;obtain⟨a1,q1⟩:=G0 I fh (r1.any) hc.1.1.1 rx;obtain⟨a2,q2⟩:=G0 I fh (r2.any) hc.1.2.1 ry;exact SeqAt.compareEq_reads q1 q2 hc.1.1.2 hc.1.2.2 (aK hu hc.2) ⟨.bl _,H,I,rfl,q.bl fh⟩
 .cases e
theorem znu(hu:X.A.units+64<cLine):Ae X (compareOp .In) (Bf X.K FC):=by
 intro pq s σ H x y v u Q I rx ry h;obtain⟨F,t1,t2,r,fh,r1,r2,e,q⟩:=h;unfold FC at e;split at e
 .rename_i o k l;split at e
  .cases e;rename_i hc;unfold IP EF at hc;rw[Æ,Æ,Æ,Æ,ë]at hc;obtain⟨a1,q1⟩:=G0 I fh (r1.any) hc.1.1.1 rx;obtain⟨a2,q2⟩:=G0 I fh (r2.any) (hc.1.2.1) ry;have hd:X.A.units+1+min (PyData.depthAll (Bd l)) t1.data.depth<cLine:=by omega
   cases k with
   |lst=>exact Ũ q2 q1 hc.1.2.2 hc.1.1.2 hd ⟨.bl _,H,I,rfl,q.bl fh⟩|rl=>exact Ũ q2 q1 hc.1.2.2 hc.1.1.2 hd ⟨.bl _,H,I,rfl,q.bl fh⟩|tup=>exact SeqAt.in_tuple_reads q2 q1 hc.1.2.2 hc.1.1.2 hd ⟨.bl _,H,I,rfl,q.bl fh⟩|rt=>exact SeqAt.in_tuple_reads q2 q1 hc.1.2.2 hc.1.1.2 hd ⟨.bl _,H,I,rfl,q.bl fh⟩|pin _=>exact Ũ q2 q1 hc.1.2.2 hc.1.1.2 hd ⟨.bl _,H,I,rfl,q.bl fh⟩
  .cases e
 .unfold Ym at e;split at e
  .cases e;rw[r1.str_inv]at rx;rw[r2.str_inv]at ry;exact zf2 pq s σ H _ _ v u Q I rx ry ⟨_,_,rfl,rfl,q.bl fh⟩
  .cases e
 .cases e
theorem zf3(hu:X.A.units+64<cLine):Ae X (compareOp .NotIn) (Bf X.K HD):=by
 intro pq s σ H x y v u Q I rx ry h;obtain⟨F,t1,t2,r,fh,r1,r2,e,q⟩:=h;unfold HD at e;split at e
 .rename_i o k l;split at e
  .cases e;rename_i hc;unfold IP EF at hc;rw[Æ,Æ,Æ,Æ,ë]at hc;obtain⟨a1,q1⟩:=G0 I fh (r1.any) hc.1.1.1 rx;obtain⟨a2,q2⟩:=G0 I fh (r2.any) (hc.1.2.1) ry;have hd:X.A.units+1+min (PyData.depthAll (Bd l)) t1.data.depth<cLine:=by omega
   cases k with
   |lst=>exact Š q2 q1 hc.1.2.2 hc.1.1.2 hd ⟨.bl _,H,I,rfl,q.bl fh⟩|rl=>exact Š q2 q1 hc.1.2.2 hc.1.1.2 hd ⟨.bl _,H,I,rfl,q.bl fh⟩|tup=>exact SeqAt.notIn_tuple_reads q2 q1 hc.1.2.2 hc.1.1.2 hd ⟨.bl _,H,I,rfl,q.bl fh⟩|rt=>exact SeqAt.notIn_tuple_reads q2 q1 hc.1.2.2 hc.1.1.2 hd ⟨.bl _,H,I,rfl,q.bl fh⟩|pin _=>exact Š q2 q1 hc.1.2.2 hc.1.1.2 hd ⟨.bl _,H,I,rfl,q.bl fh⟩
  .cases e
 .cases e
def isT(b:T)(neg:Bool)(t _u:T):kH:=some (.bl (if neg then !(decide (t.data.depth=0) && eqIs t b) else eqIs t b))
where eqIs:T->T->Bool
  |.non,.non=>true|.bl x,.bl y=>x == y|_,_=>false
end
set_option genInjectivity true in
inductive Rs where
 |v (t:T) (b:Bool)|x (c:Str)
abbrev AH:=AK->Option Rs
set_option genInjectivity true in
inductive RsL where
 |v (ts:List T) (b:Bool)|x (c:Str)
abbrev Av:=AK->Option RsL
def tot(R:Nat->Rg):Rg:=λa=>∃i,R i a
def DC(K:k6)(F H:Hp)(R:Nat->Rg)(v:T)(b:Bool)(x:V)(B:Rg):Prop:=match b with
 |true=>B=R0/\∃A,(∀a,A a->tot R a)/\Rp K F H v x A|false=>Rp K F H v x B
def Gz(b:Bool)(F H:Hp)(R:Nat->Rg):Hp:=match b with
 |true=>frz F H (tot R)|false=>F
section
variable {K:k6}{F H F1 H1:Hp}{σ:L2.St}{τ:AK}{R:Nat->Rg}{B:Rg}{b c:Bool}{v:T}{x:V}
theorem StR.tot(S:StR K F H σ τ R)(h:tot R a):F a=none/\∃u,H a=some u:=by
 obtain⟨i,z⟩:=h;exact S.dom z
theorem MM(S:StR K F H σ τ R):A4 F (Gz b F H R):=by
 cases b with
 |true=>exact ES λa z=>(S.tot z).1|false=>exact .refl _
theorem QX(S:StR K F H σ τ R):A4 (Gz b F H R) H:=by
 cases b with
 |true=>exact HP S.fh|false=>exact S.fh
theorem zl4(S:StR K F H σ τ R)(e:Ext F H F1 H1 B)(h:b=true->c=true):A4 (Gz b F H R) (Gz c F1 H1 R):=by
 have S1:=S.ext e;cases b with
 |false=>exact e.ff.trans (MM S1)|true=>
  rw[h rfl];intro a u q;show frz F1 H1 (Pu.tot R) a=some u
  by_cases z:Pu.tot R a
  .rw[Dj z];have q':frz F H (Pu.tot R) a=some u:=q;rw[Dj z]at q';exact e.hh _ _ q'
  .rw[EO z];have q':frz F H (Pu.tot R) a=some u:=q;rw[EO z]at q';exact e.ff _ _ q'
theorem DC.frz(S:StR K F H σ τ R)(e:Ext F H F1 H1 B)(g:DC K F1 H1 R v b x B):∃F2,Ext F H F2 H1 R0/\A4 F1 F2/\Rp K (Gz b F2 H1 R) (Gz b F2 H1 R) v.share x R0:=by
 have S1:=S.ext e;cases b with
 |true=>
  obtain⟨rfl,A,hA,r⟩:=g
  exact⟨F1,e,.refl _,r.share (MM S1) λa u z q=>by
   show Pu.frz F1 H1 (Pu.tot R) a=some u;rw[Dj (hA a z)];exact q⟩
 |false=>
  have g' :=g;have n:∀a,B a->F1 a=none:=λa z=>(g'.dom z).1
  exact⟨_,e.frz n,ES n,g'.share (ES n) λa u z q=>by
   show Pu.frz F1 H1 B a=some u;rw[Dj z];exact q⟩
theorem Ext.grow(e:Ext F H F1 H1 R0)(s:A4 H1 H2):Ext F H F1 H2 R0:=⟨e.hh.trans s,e.ff,e.fh.trans s,λ_ z=>z.elim,e.nf⟩
end
noncomputable def E2(c:Str):Option Nat:=match c.cps.toList with
 |[78,111,82,117,110,n]=>some n|_=>none
def Fp(c:Str):Str:=match E2 c with
 |some _=>"NoRun"|none=>c
def Hv(c:Str):kK:=match E2 c with
 |some n=>[.int n]|none=>[]
def HA(c:Str):kL:=match E2 c with
 |some n=>[.int n]|none=>[]
def Iy(F:Hp)(c:Str)(dx:Option Addr):Prop:=∀v∈Hv c,K1 F dx v
def XE(E:XK)(ca:Str->Value)(c:Str)(F H:Hp):Prop:=∀dx,Iy F c dx->E (ca (Fp c)) dx H
theorem XE.plain(h:XE E ca c F H)(hc:E2 c=none):E (ca c) none H:=by
 have:=h none (by unfold Iy Hv;grind)
 unfold Fp at this
 grind
theorem XE.any(h:XE E ca c F H)(hc:E2 c=none):XE E ca c F' H:=λdx _=>h dx (by unfold Iy Hv;grind)
def pM(K:k6)(E:L2.St->XK)(ca:Str->Value)(σ:L2.St)(Q:VK)(F H:Hp)(R:Nat->Rg):Option Rs->Prop
 |some (.v v b)=>∀F' H' x B,Ext F H F' H' B->DC K F' H' R v b x B->Q x H'|some (.x c)=>∀F' H',Ext F H F' H' R0->XE (E σ) ca c F' H'|none=>False
def tM(K:k6)(E:L2.St->XK)(ca:Str->Value)(m:AH):TE:=λσ H Q=>∃F τ R,StR K F H σ τ R/\pM K E ca σ Q F H R (m τ)
def pMs(K:k6)(E:L2.St->XK)(ca:Str->Value)(σ:L2.St)(Q:kK->Hp->Prop)(F H:Hp)(R:Nat->Rg):Option RsL->Prop
 |some (.v ts b)=>∀F' H' xs,Ext F H F' H' R0->Ag K (Gz b F' H' R) ts xs->Q xs H'|some (.x c)=>∀F' H',Ext F H F' H' R0->XE (E σ) ca c F' H'|none=>False
def Bv(K:k6)(E:L2.St->XK)(ca:Str->Value)(m:Av):TA:=λσ H Q=>∃F τ R,StR K F H σ τ R/\pMs K E ca σ Q F H R (m τ)
def pMB(K:k6)(E:L2.St->XK)(ca:Str->Value)(σ:L2.St)(Q:Bool->Hp->Prop)(F H:Hp):Option Rs->Prop
 |some (.v (.bl c) _)=>∀F' H',Ext F H F' H' R0->Q c H'|some (.v _ _)=>False|some (.x c)=>∀F' H',Ext F H F' H' R0->XE (E σ) ca c F' H'|none=>False
def BF(K:k6)(E:L2.St->XK)(ca:Str->Value)(m:AH):TT:=λσ H Q=>∃F τ R,StR K F H σ τ R/\pMB K E ca σ Q F H (m τ)
noncomputable def AA(i:Nat):AH:=λτ=>match τ[i]? with
 |some (some t)=>some (.v t (!t.sh))|_=>none
noncomputable def mC(t:T):AH:=λ_=>some (.v t false)
def AD:Av:=λ_=>some (.v [] false)
noncomputable def AB(m:AH)(ms:Av):Av:=λτ=>match m τ with
 |some (.v t b)=>(match ms τ with
  |some (.v ts b')=>some (.v (t.share::ts) (b || b'))|r=>r)
 |some (.x c)=>some (.x c)|none=>none
def Aq(b:Bool)(v:T):Option Rs:=if b && !v.flat then none else some (.v v false)
def BM(g:kL->kH)(ms:Av):AH:=λτ=>match ms τ with
 |some (.v ts b)=>(match g ts with
  |some v=>Aq b v|none=>none)
 |some (.x c)=>some (.x c)|none=>none
def g2(g:T->T->kH):kL->kH
 |[t,u]=>g t u|_=>none
def g1(g:T->kH):kL->kH
 |[t]=>g t|_=>none
abbrev m1(g:T->kH)(a:AH):AH:=BM (g1 g) (AB a AD)
abbrev m2(g:T->T->kH)(a b:AH):AH:=BM (g2 g) (AB a (AB b AD))
def Dd(c:AH)(a b:AH):AH:=λτ=>match c τ with
 |some (.v (.bl true) _)=>a τ|some (.v (.bl false) _)=>b τ|some (.x c)=>some (.x c)|_=>none
def BH(c:AH):AH:=λτ=>match c τ with
 |some (.v (.bl b) _)=>some (.v (.bl (!b)) false)|some (.x c)=>some (.x c)|_=>none
def C4(a b:AH):AH:=Dd a b (mC (.bl false))
def B9(a b:AH):AH:=Dd a (mC (.bl true)) b
section
variable {X:Cx}{E:L2.St->XK}{ca:Str->Value}{σ:L2.St}{H:Hp}{m ma mb mc:AH}{ms:Av}{K:k6}{a b c e:Expr}{es:kC}{pos:Pos}
theorem PE.weak(h:PE X e t)(w:∀σ H Q,t' σ H Q->t σ H Q):PE X e t':=λpq s σ H Q I q=>h pq s σ H Q I (w σ H Q q)
theorem PT.weak(h:PT X e t)(w:∀σ H Q,t' σ H Q->t σ H Q):PT X e t':=λpq s σ H Q I q=>h pq s σ H Q I (w σ H Q q)
theorem PA.weak(h:PA X es t)(w:∀σ H Q,t' σ H Q->t σ H Q):PA X es t':=λpos pq s σ H Q I q=>h pos pq s σ H Q I (w σ H Q q)
theorem tM.mono(h:tM K E ca m σ H Q)(w:∀x H',Q x H'->Q' x H'):tM K E ca m σ H Q':=by
 obtain⟨F,τ,R,S,q⟩:=h;refine⟨F,τ,R,S,?_⟩;cases hm:m τ with
 |none=>rw[hm]at q;exact q|some r=>
  rw[hm]at q;cases r with
  |v v b=>exact λF' H' x B e g=>w _ _ (q F' H' x B e g)|x c=>exact q
theorem Ff(h:Bv K E ca AD σ H Q):Q [] H:=by
 obtain⟨F,τ,R,S,q⟩:=h;exact q F H [] (Ext.refl S.fh) .nil
theorem Fg(h:Bv K E ca (AB m ms) σ H Q):tM K E ca m σ H λx H1=>Bv K E ca ms σ H1 λxs H2=>Q (x::xs) H2:=by
 obtain⟨F,τ,R,S,q⟩:=h;refine⟨F,τ,R,S,?_⟩;unfold AB at q;cases hm:m τ with
 |none=>rw[hm]at q;exact q|some r=>
  rw[hm]at q;cases r with
  |x c=>exact q|v t b=>
   intro F' H' x B e g;obtain⟨F2,e2,_,r2⟩:=DC.frz S e g;have S2:=S.ext e2;refine⟨F2,τ,R,S2,?_⟩;cases hs:ms τ with
   |none=>rw[hs]at q;exact q.elim|some r=>
    erw[hs]at q;cases r with
    |x c=>exact λF3 H3 e3=>q F3 H3 (e2.trans0 e3)|v ts b'=>
     intro F3 H3 xs e3 rs;refine q F3 H3 (x::xs) (e2.trans0 e3) ?_;refine .cons (H:=H3) ((r2.frame (zl4 S2 e3 (by grind)) λa z=>z.elim)) ?_
     cases b' with
     |true=>grind|false=>
      cases b with
      |false=>exact rs|true=>exact rs.same (MM (S2.ext e3))
theorem Fh(h:tM K E ca (BM g ms) σ H Q):Bv K E ca ms σ H λxs H1=>DJ K g xs H1 Q:=by
 obtain⟨F,τ,R,S,q⟩:=h;refine⟨F,τ,R,S,?_⟩;unfold BM at q;cases hs:ms τ with
 |none=>rw[hs]at q;exact q.elim|some r=>
  erw[hs]at q;cases r with
  |x c=>exact q|v ts b=>
   intro F1 H1 xs e1 rs;have S1:=S.ext e1;cases hg:g ts with
   |none=>erw[hg]at q;exact q.elim|some v=>
    erw[hg]at q;refine⟨Gz b F1 H1 R,ts,v,QX S1,rs,hg,λF2 H2 z C e2 r2=>?_⟩
    unfold Aq at q;cases b with
    |false=>exact q F2 H2 z C (e1.trans0 e2) r2|true=>
     cases hf:v.flat with
     |false=>rw[hf]at q;exact False.elim q|true=>rw[hf]at q;exact q F1 H2 z R0 (e1.grow e2.hh) (r2.flat_any hf)
theorem rTn2(h:DJ K (g2 g) [x,y] H Q):Bf K g x y H Q:=by
 obtain⟨F,ts,v,fh,rs,e,q⟩:=h;unfold g2 at e;split at e
 .obtain⟨x1,xs1,e1,r1,rs1⟩:=rs.inv;obtain⟨x2,xs2,e2,r2,rs2⟩:=rs1.inv;cases e1;cases e2;exact⟨F,_,_,v,fh,r1,r2,e,q⟩
 .cases e
theorem rTn1(h:DJ K (g1 g) [x] H Q):Lc K g x H Q:=by
 obtain⟨F,ts,v,fh,rs,e,q⟩:=h;unfold g1 at e;split at e
 .obtain⟨x1,xs1,e1,r1,rs1⟩:=rs.inv;cases e1;exact⟨F,_,v,fh,r1,e,q⟩
 .cases e
theorem Ni(h:tM K E ca (BM (g2 g) (AB ma (AB mb AD))) σ H Q):Hn (Bf K g) (tM K E ca ma) (tM K E ca mb) σ H Q:=
 (Fg (Fh h)).mono λx H1 h1=>(Fg h1).mono λy H2 h2=>rTn2 (Ff h2)
theorem zlz(h:tM K E ca (BM (g1 g) (AB ma AD)) σ H Q):Sq (Lc K g) (tM K E ca ma) σ H Q:=
 (Fg (Fh h)).mono λx H1 h1=>rTn1 (Ff h1)
theorem zlq(h:tM K E ca (AA i) σ H Q):So i σ H Q:=by
 obtain⟨F,τ,R,S,q⟩:=h;unfold AA at q;split at q
 .rename_i t ht;obtain⟨x,e,r⟩:=S.rep i t ht;refine⟨x,e,q F H x R0 (Ext.refl S.fh) ?_⟩;cases hs:t.sh with
  |true=>exact r.move hs (.refl _)|false=>exact⟨rfl,R i,λa z=>⟨i,z⟩,r⟩
 .exact False.elim q
theorem Vb(hN:X.N[i]?=some x)(hv:DB X.env.scope x)(hd:(x == "__debug__")=false)(hcd:(x == "__classdict__")=false):PE X (.Name x pos) (tM X.K E ca (AA i)):=PE.weak (G3 hN hv hd hcd) λ_ _ _ h=>zlq h
theorem Ht(h:PE X e (tC v))(r:∀F H,Rp X.K F H t v R0):PE X e (tM X.K E ca (mC t)):=PE.weak h λσ H Q h=>by
 obtain⟨F,τ,R,S,q⟩:=h;exact q F H v R0 (Ext.refl S.fh) (r _ _)
theorem Vh:PA X [] (Bv X.K E ca AD):=PA.weak DW λσ H Q h=>Ff h
theorem Vl(ha:PE X e (tM X.K E ca m))(hr:PA X es (Bv X.K E ca ms))(hs:starEach (e::es) X.env=(false,eval e X.env)::starEach es X.env):PA X (e::es) (Bv X.K E ca (AB m ms)):=
 PA.weak (CY ha hr hs) λσ H Q h=>Fg h
theorem r_bin(ho:Ae X (binaryOp op) (Bf X.K g))(ha:PE X a (tM X.K E ca ma))(hb:PE X b (tM X.K E ca mb)):PE X (.BinOp a op b pos) (tM X.K E ca (BM (g2 g) (AB ma (AB mb AD)))):=
 PE.weak (pe_op ho ha hb) λσ H Q h=>Ni h
theorem r_un(ho:K0 X (unaryOp op) (Lc X.K g))(ha:PE X a (tM X.K E ca ma)):PE X (.UnaryOp op a pos) (tM X.K E ca (BM (g1 g) (AB ma AD))):=
 PE.weak (pe_un ho ha) λσ H Q h=>zlz h
theorem r_cmp(ho:Ae X (compareOp op) (Bf X.K g))(ha:PE X a (tM X.K E ca ma))(hb:PE X b (tM X.K E ca mb))(hm:behindInMarks op b=false):PE X (.Compare a [op] [b] pos) (tM X.K E ca (BM (g2 g) (AB ma (AB mb AD)))):=
 PE.weak (zk3 ho ha hb hm) λσ H Q h=>Ni h
theorem Ky  (h:BF K E ca m σ H Q):tM K E ca m σ H λx H1=>∃k,x=.bl k/\Q k H1:=by
 obtain⟨F,τ,R,S,q⟩:=h;refine⟨F,τ,R,S,?_⟩;cases hm:m τ with
 |none=>rw[hm]at q;exact q|some r=>
  rw[hm]at q;cases r with
  |x c=>exact q|v v b=>
   cases v with
   |bl k=>
    intro F' H' x B e g
    have hx:x=.bl k:=by
     cases b with
     |true=>obtain⟨_,A,_,r⟩:=g;exact r.bl_inv
     |false=>exact(g).bl_inv
    exact⟨k,hx,q F' H' (e.mono λ_ z=>z.elim)⟩
   |_=>exact q.elim
theorem zmr(ho:Ae X (compareOp op) (Bf X.K g))(ha:PE X a (tM X.K E ca ma))(hb:PE X b (tM X.K E ca mb))(hm:behindInMarks op b=false):PT X (.Compare a [op] [b] pos) (BF X.K E ca (BM (g2 g) (AB ma (AB mb AD)))):=
 PT.weak (zjr ho ha hb hm) λσ H Q h=>Ni (Ky h)
theorem OS(h:PE X e (tM X.K E ca m))(he:∀whole,isTrue e X.env whole=(do let v <- whole;standAt e.pos;holding [v] (truthy v))):PT X e (BF X.K E ca m):=PT.weak (OX h he) λσ H Q h=>Ky h
theorem TM  (h:BF K E ca (Dd mc ma mb) σ H Q):BF K E ca mc σ H λk H1=>if k=true then BF K E ca ma σ H1 Q else BF K E ca mb σ H1 Q:=by
 obtain⟨F,τ,R,S,q⟩:=h;refine⟨F,τ,R,S,?_⟩;unfold Dd at q;cases hm:mc τ with
 |none=>rw[hm]at q;exact q.elim|some r=>
  erw[hm]at q;cases r with
  |x c=>exact q|v v b=>
   cases v with
   |bl k=>
    intro F1 H1 e1;have S1:=S.ext e1
    have key:∀{mm },(match mm τ with
      |some (.v (.bl c) _)=>∀F' H',Ext F H F' H' R0->Q c H'|some (.v _ _)=>False|some (.x c)=>∀F' H',Ext F H F' H' R0->XE (E σ) ca c F' H'|none=>False)->BF K E ca mm σ H1 Q:=λ{mm} q=>by
     refine⟨F1,τ,R,S1,?_⟩;cases hr:mm τ with
     |none=>grind|some r=>
      erw[hr]at q;cases r with
      |x c=>exact λF' H' e=>q F' H' (e1.trans0 e)|v v b=>
       cases v with
       |bl k=>exact λF' H' e=>q F' H' (e1.trans0 e)|_=>exact q.elim
    cases k with
    |true=>exact Jt (key q)|false=>exact Ju (key q)
   |_=>exact q.elim
theorem TF(h:tM K E ca (Dd mc ma mb) σ H Q):BF K E ca mc σ H λk H1=>if k=true then tM K E ca ma σ H1 Q else tM K E ca mb σ H1 Q:=by
 obtain⟨F,τ,R,S,q⟩:=h;refine⟨F,τ,R,S,?_⟩;unfold Dd at q;cases hm:mc τ with
 |none=>rw[hm]at q;exact q.elim|some r=>
  erw[hm]at q;cases r with
  |x c=>exact q|v v b=>
   cases v with
   |bl k=>
    intro F1 H1 e1;have S1:=S.ext e1
    have key:∀{mm },(match mm τ with
      |some (.v v b)=>∀F' H' x B,Ext F H F' H' B->DC K F' H' R v b x B->Q x H'|some (.x c)=>∀F' H',Ext F H F' H' R0->XE (E σ) ca c F' H'|none=>False)->tM K E ca mm σ H1 Q:=λ{mm} q=>by
     refine⟨F1,τ,R,S1,?_⟩;cases hr:mm τ with
     |none=>grind|some r=>
      erw[hr]at q;cases r with
      |x c=>exact λF' H' e=>q F' H' (e1.trans0 e)|v v b=>exact λF' H' x B e g=>q F' H' x B (e1.trans0 e) g
    cases k with
    |true=>exact Jt (key q)|false=>exact Ju (key q)
   |_=>exact q.elim
theorem r_ife(hc:PT X c (BF X.K E ca mc))(ha:PE X a (tM X.K E ca ma))(hb:PE X b (tM X.K E ca mb)):PE X (.IfExp c a b pos) (tM X.K E ca (Dd mc ma mb)):=PE.weak (Ν hc ha hb) λσ H Q h=>TF h
theorem zj3(h:BF K E ca (BH mc) σ H Q):Sw (BF K E ca mc) σ H Q:=by
 obtain⟨F,τ,R,S,q⟩:=h;refine⟨F,τ,R,S,?_⟩;unfold BH at q;cases hm:mc τ with
 |none=>rw[hm]at q;exact q.elim|some r=>
  erw[hm]at q;cases r with
  |x c=>exact q|v v b=>
   cases v with
   |bl k=>exact q|_=>exact q.elim
theorem Vc(hc:PT X c (BF X.K E ca mc)):PT X (.UnaryOp .Not c pos) (BF X.K E ca (BH mc)):=PT.weak (Vu hc) λσ H Q h=>zj3 h
theorem zm0(h:tM K E ca (BH mc) σ H Q):Sv (tM K E ca mc) σ H Q:=by
 obtain⟨F,τ,R,S,q⟩:=h;refine⟨F,τ,R,S,?_⟩;unfold BH at q;cases hm:mc τ with
 |none=>rw[hm]at q;exact q.elim|some r=>
  erw[hm]at q;cases r with
  |x c=>exact q|v v b=>
   cases v with
   |bl k=>
    intro F' H' x B e g
    have hx:x=.bl k:=by
     cases b with
     |true=>obtain⟨_,A,_,r⟩:=g;exact r.bl_inv
     |false=>exact(g).bl_inv
    exact⟨k,hx,q F' H' _ R0 (e.mono λ_ z=>z.elim) (.bl _)⟩
   |_=>exact q.elim
theorem Vg(ha:PE X a (tM X.K E ca ma)):PE X (.UnaryOp .Not a pos) (tM X.K E ca (BH ma)):=PE.weak (Μ ha) λσ H Q h=>zm0 h
theorem TC(h:tM K E ca (Dd mc ma mb) σ H Q):tM K E ca mc σ H λx H1=>∃k,x=.bl k/\if k=true then tM K E ca ma σ H1 Q else tM K E ca mb σ H1 Q:=Ky (TF h)
theorem TJ(r:∀F H,Rp K F H t v R0)(h:tM K E ca (mC t) σ H Q):Q v H:=by
 obtain⟨F,τ,R,S,q⟩:=h;exact q F H v R0 (Ext.refl S.fh) (r _ _)
theorem Vn(ha:PE X a (tM X.K E ca ma))(hb:PE X (.BoolOp .And (b::rest) pos) (tM X.K E ca mb)):PE X (.BoolOp .And (a::b::rest) pos) (tM X.K E ca (C4 ma mb)):=
 PE.weak (Λ ha hb) λσ H Q h=>(TC h).mono λx H1 ⟨k,e,q⟩=>⟨k,e,by
  cases k with
  |true=>exact q|false=>exact TJ (λ_ _=>.bl _) q⟩
theorem Ve(ha:PE X a (tM X.K E ca ma))(hb:PE X (.BoolOp .Or (b::rest) pos) (tM X.K E ca mb)):PE X (.BoolOp .Or (a::b::rest) pos) (tM X.K E ca (B9 ma mb)):=
 PE.weak (pe_or ha hb) λσ H Q h=>(TC h).mono λx H1 ⟨k,e,q⟩=>⟨k,e,by
  cases k with
  |true=>exact TJ (λ_ _=>.bl _) q|false=>exact q⟩
theorem Vf(ha:PE X a (tM X.K E ca ma)):PE X (.BoolOp op [a] pos) (tM X.K E ca ma):=Κ ha
theorem BF.mono(h:BF K E ca m σ H Q)(w:∀x H',Q x H'->Q' x H'):BF K E ca m σ H Q':=by
 obtain⟨F,τ,R,S,q⟩:=h;refine⟨F,τ,R,S,?_⟩;cases hm:m τ with
 |none=>rw[hm]at q;exact q|some r=>
  rw[hm]at q;cases r with
  |v v b=>
   cases v with
   |bl k=>exact λF' H' e=>w _ _ (q F' H' e)|_=>exact q.elim
  |x c=>exact q
theorem Nj(h:BF K E ca (mC (.bl k)) σ H Q):Q k H:=by
 obtain⟨F,τ,R,S,q⟩:=h;exact q F H (Ext.refl S.fh)
theorem PW.weak(h:PW X e t)(w:∀σ H Q,t' σ H Q->t σ H Q):PW X e t':=λwh pq s σ H Q I q=>h wh pq s σ H Q I (w σ H Q q)
theorem Va(ha:PT X a (BF X.K E ca ma))(hb:PW X (.BoolOp .And (b::rest) pos) (BF X.K E ca mb)):PW X (.BoolOp .And (a::b::rest) pos) (BF X.K E ca (C4 ma mb)):=
 PW.weak (Ι ha hb) λσ H Q h=>(TM h).mono λk H1 q=>by
  cases k with
  |true=>exact q|false=>exact Nj q
theorem V7(ha:PT X a (BF X.K E ca ma))(hb:PW X (.BoolOp .Or (b::rest) pos) (BF X.K E ca mb)):PW X (.BoolOp .Or (a::b::rest) pos) (BF X.K E ca (B9 ma mb)):=
 PW.weak (pw_or ha hb) λσ H Q h=>(TM h).mono λk H1 q=>by
  cases k with
  |true=>exact Nj q|false=>exact q
theorem V9(ha:PT X a (BF X.K E ca ma)):PW X (.BoolOp .And [a] pos) (BF X.K E ca ma):=Η ha
theorem V8(ha:PT X a (BF X.K E ca ma)):PW X (.BoolOp .Or [a] pos) (BF X.K E ca ma):=Θ ha
end
section
variable {X:Cx}{pq:List (Addr×Obj)}{σ:L2.St}{H:Hp}{s:Shared}{h':Heap}
theorem GN{ch:List Addr}(I:Inv X pq σ H s)(k:∀b o,b∉ch->s.heap.get? b=some o->h'.get? b=some o)(f:∀b∈ch,CD X pq H b):Inv X pq σ H { s with heap:=h',toks:=t'}:=by
 have nit:∀b u,H b=some u->b∉ch:=λb u e z=>by rw[(f b z).1]at e;cases e
 refine I.step (λb hb=>?_) (λb o _ _ hc e _=>k b o hc e) (λb o _ _ hc e _=>⟨o.slots,k b o hc e⟩) (λ_ _ _ _ n=>n)
  (λb o hc e=>⟨o,k b o hc e⟩) (λ_ _ e=>e) (λ_ _ _ e=>e) (λb ps e=>⟨#[],by rw[e];simp⟩) (λm hm=>?_) (λb u e=>?_) I.bare
 .obtain⟨_,f1,f2,f3,f4,f5⟩:=f b hb
  grind
 .obtain⟨o,es,ep,ho,r⟩:=hm;exact⟨o,es,ep,k _ o (λz=>(f _ z).2.1 rfl) ho,r⟩
 .refine(I.hok b u e).stay (λc v hc q=>k c v ?_ q) (λ_ q=>q) λ_ _ q=>q
  grind
theorem Nd{ch:List Addr}{p:Addr}(I:Inv X pq σ H s)(k:∀b o,b∉ch->s.heap.get? b=some o->h'.get? b=some o)(f:∀b∈ch,CD X pq H b)(hp:s.heap.objs.size<=p)(new:CP X.prog X.w (upd H p o) h' p o) :
  Inv X pq σ (upd H p o) { s with heap:=h',toks:=t' }:=by
 have hn :=I.hok.fresh hp;have nit:∀b u,H b=some u->b∉ch:=λb u e z=>by rw[(f b z).1]at e;cases e
 have old:∀b ob,s.heap.get? b=some ob->b≠p:=λb ob e z=>by
  subst z;exact absurd (Ä e) (Nat.not_lt.mpr hp)
 refine I.step (λb hb=>?_) (λb o _ _ hc e _=>k b o hc e) (λb o _ _ hc e _=>⟨o.slots,k b o hc e⟩) (λb ob hc e n=>by rw[Ah (old b ob e)];exact n)
  (λb o hc e=>⟨o,k b o hc e⟩) (λb xs e=>by rw[Ah (Bs e hn)];exact e) (λb o u e=>by rw[Ah (Bs e hn)];exact e) (λb ps e=>⟨#[],by rw[Ah (Bs e hn),e];simp⟩) (λm hm=>?_) (λb u e=>?_) I.bare
 .obtain⟨_,f1,f2,f3,f4,f5⟩:=f b hb;exact⟨f3,f1,f4,f5⟩
 .obtain⟨o,es,ep,ho,r⟩:=hm;exact⟨o,es,ep,k _ o (λz=>(f _ z).2.1 rfl) ho,r⟩
 .by_cases hb:b=p
  .subst hb;rw[Be]at e;cases e;exact new
  .rw[Ah hb]at e;refine(I.hok b u e).stay (λc v hc q=>k c v ?_ q) (λc q=>by rw[Ah (Bs q hn)];exact q) λc xs q=>by rw[Ah (Bs q hn)];exact q
   grind
theorem KE(f:CD X pq H b)(h:b≠p):CD X pq (upd H p o) b:=⟨by rw[Ah h];exact f.1,f.2⟩
end
def NI(K:k6)(k:Nat)(l:Addr):It:=
 ⟨λi H=>∃xs x,AX K H l xs/\xs[i]?=some x,λi H x H'=>∃p y,x=.ref p/\H p=none/\H'=upd H p (.tup [.int ((k+i:Nat):Int),y])/\∀xs,AX K H l xs->xs[i]?=some y,λi H=>∃xs,AX K H l xs/\xs.length<=i⟩
theorem drw{St}(D:Draws P w A it fp n Q St)(k:Nat):Draws P w A it fp (k+n) (λj x=>∃i,j=k+i/\Q i x) (λj h=>∃i,j=k+i/\St i h) where
 live:=λ_ h ⟨i,_,st⟩=>D.live i h st
 frame:=λ_ h h' ⟨i,e,st⟩ c=>⟨i,e,D.frame i h h' st c⟩
 item:=λj s R E hj ⟨i,e,st⟩ hQ=>D.item i s R E (by omega) st λx h' tk q st' sb=>hQ x h' tk ⟨i,e,q⟩ ⟨i+1,by omega,st'⟩ sb
 done:=λs R E ⟨i,e,st⟩ hE=>D.done s R E (by grind) hE
theorem zlb(he:IsEnum h e it i old)(hi:h.IsListIter it l j)(hl:h.IsList l its):l≠it/\l≠e:=by
 obtain⟨o,h1,c1,_⟩:=hl;obtain⟨o2,h2,c2,_⟩:=hi
 grind
theorem drw0       (hh:A.handled=none)(hi:its[i]?=none):Draws P w A it [it,l] i (λ_ _=>True) (λj h=>j=i/\h.IsListIter it l i/\h.IsList l its) where
 live:=λ_ _ ⟨_,⟨o,ho,_⟩,_⟩=>⟨o,ho⟩
 frame:=λ_ _ _ ⟨e,a,b⟩ c=>⟨e,a.at λo q=>c it (by simp) o q,b.at λo q=>c l (by simp) o q⟩
 item:=λj _ _ _ hj ⟨e,_⟩=>absurd hj (by omega)
 done:=λ_ _ _ ⟨_,a,b⟩ hE=>ŵ hh a b hi hE
theorem Sk{K}(k)(l e it)(hei:e≠it) :
  Turn P w K (.Tuple elts kk tpos) (NI K k l) [e,it] e (λi h=>(∃old,IsEnum h e it (k+i:Nat) old)/\h.IsListIter it l i) where
 mem:=by simp
 obj:=λi h st b hb=>by
  obtain⟨⟨old,he⟩,o,hi,hc,hd⟩:=st;obtain rfl|hb:=Ð.mp hb
  .exact⟨_,he,λv z=>by
    have z' :=z;cases z'⟩
  .have q :=by simpa using hb
   subst q;exact⟨o,hi,λv z=>by rw[hd]at z;cases z⟩
 keep:=λi h h' st k=>by
  obtain⟨⟨old,he⟩,hi⟩:=st;exact⟨⟨old,k e (by simp) _ he⟩,hi.at λo q=>k it (by simp) o q⟩
 item:=by
  intro X hP hw hK hc i pq s σ H E I hf st hg;subst hP hw hK;obtain⟨⟨old,he⟩,hit⟩:=st;obtain⟨xs,x,hq,hx⟩:=hg;obtain⟨its,rv,p,hz⟩:=I.list hq;obtain⟨u,hu,ru⟩:=rv.get hx;have elt :=Ä he;have ilt:it<s.heap.objs.size:=by obtain⟨o,q,_⟩:=hit;exact Ä q
  have hn :=I.hok.fresh (Ç _);obtain⟨n1,n2⟩:=zlb he hit p.isList;have hlt:i<its.toArray.size:=by simpa using (Í.mp hu).1
  refine wpAny_pyNext_enum_itemD (drw (Draws.list (A:=X.A.in1) (I.ok.hd hc) it l n1 _) k) he ⟨i,rfl,hit,p.isList⟩ (by omega) hei (by simp[hei,É n2]) λx' h' tk hx' ho hit' hT hsz hk=>?_
  obtain⟨i',e1,hx'⟩:=hx';have e1:i'=i:=by omega
  subst e1
  have e2 :=by
   rw[List.getElem?_toArray,hu]at hx';exact(Ý hx').symm
  subst e2;obtain⟨i2,e2,hit',_⟩:=hit';have e2:i2=i'+1:=by omega
  subst e2
  have I1:Inv X pq σ (upd H s.heap.objs.size (.tup [.int (k+i'),x])) { s with heap:=h',toks:=tk+1}:=by
   refine Nd I (λb o hb q=>hk b o (λz=>hb (by simp[z])) (λz=>hb (by simp[z])) q) hf (Ç _) ?_
   exact⟨by erw[Ø,õ];rw[ć];decide,[.int (k+i') tk,x'],.cons ⟨_,rfl⟩ (.cons ru .nil),_,hT,rfl,0,rfl⟩
  have f1:∀b∈[e,it],CD X pq (upd H s.heap.objs.size (.tup [.int (k+i':Nat),x])) b:=λb hb=>KE (hf b hb) (by
   obtain rfl|hb:=Ð.mp hb
   .exact Ò elt
   .have q :=by simpa using hb
    subst q;exact Ò ilt)
  refine⟨.ref s.heap.objs.size,rfl,wpAny_letOwnedTupleGo_enum ho λh2 he2 hs2=>?_⟩
  refine⟨.ref s.heap.objs.size,_,GN (ch:=[e]) I1 (λb o hb q=>hs2.extBut b o (λz=>hb (by simp[z])) q) (λb hb=>f1 b (by simp at hb;simp[hb])),rfl,⟨_,x,rfl,hn,rfl,λys hy=>by rw[I.list_inj hy hq];exact hx⟩,⟨⟨_,by simpa[Int.add_assoc] using he2⟩,hit'.extBut hs2.extBut hei.symm⟩,λb hb=>(f1 b hb).1⟩
 done:=by
  intro X hP hw hK hc i pq s σ H E I hf st hg;subst hP hw hK;obtain⟨⟨old,he⟩,hit⟩:=st;obtain⟨xs,hq,hx⟩:=hg;obtain⟨its,rv,p,hz⟩:=I.list hq;have hl:=rv.length;exact wpAny_pyNext_enum_endD (drw0 (I.ok.hd hc) (by simp;omega)) he ⟨rfl,hit,p.isList⟩ λh' eb=>⟨rfl,GN (ch:=[it]) I (λb o hb q=>eb b o (λz=>hb (by simp[z])) q) (λb hb=>hf b (by simp at hb;simp[hb]))⟩
 self:=λ_ _ _ _ _ st h=>Ŷ st.1.choose_spec h
def Rt(K:k6)(l1 l2:Addr):It:=
  ⟨λi H=>∃xs x ys y,AX K H l1 xs/\xs[i]?=some x/\AX K H l2 ys/\ys[i]?=some y,
   λi H x H'=>∃p y z,x=.ref p/\H p=none/\H'=upd H p (.tup [y,z])/\(∀xs,AX K H l1 xs->xs[i]?=some y)/\∀xs,AX K H l2 xs->xs[i]?=some z,
   λi H=>∃xs ys,AX K H l1 xs/\AX K H l2 ys/\(xs.length<=i\/ys.length<=i)⟩
theorem zgk{K}(z TI TO i1 i2 l1 l2)(D:ZipApart z TI TO i1 i2 l1 l2) :
  Turn P w K (.Tuple elts kk tpos) (Rt K l1 l2) [z,TI,TO,i1,i2] z (λi h=>IsZip h z TI TO .none/\IsPair h TI (.ref i1) (.ref i2)/\(∃a b,IsPair h TO a b)/\h.IsListIter i1 l1 i/\h.IsListIter i2 l2 i) where
 mem:=by simp
 obj:=λi h st b hb=>by
  obtain⟨hz,hTI,⟨a,c,hTO⟩,⟨o1,e1,_,d1⟩,⟨o2,e2,_,d2⟩⟩:=st;erw[Ð,ì,ñ]at hb;rcases hb with rfl|rfl|rfl|rfl|rfl
  .exact⟨_,hz,λv z=>by
    have z' :=z;cases z'⟩
  .exact⟨_,hTI,λv z=>by
    have z' :=z;cases z'⟩
  .exact⟨_,hTO,λv z=>by
    have z' :=z;cases z'⟩
  .exact⟨o1,e1,λv z=>by rw[d1]at z;cases z⟩
  .exact⟨o2,e2,λv z=>by rw[d2]at z;cases z⟩
 keep:=λi h h' st k=>by
  obtain⟨hz,hTI,⟨a,c,hTO⟩,h1,h2⟩:=st;exact⟨k z (by simp) _ hz,k TI (by simp) _ hTI,⟨a,c,k TO (by simp) _ hTO⟩,h1.at λo q=>k i1 (by simp) o q,h2.at λo q=>k i2 (by simp) o q⟩
 item:=by
  intro X hP hw hK hc i pq s σ H E I hf st hg;subst hP hw hK;obtain⟨hz,hTI,⟨a,c,hTO⟩,h1,h2⟩:=st;obtain⟨xs,x,ys,y,hq,hx,hq2,hy⟩:=hg;obtain⟨its,rv,p,hzz⟩:=I.list hq;obtain⟨its2,rv2,p2,hzz2⟩:=I.list hq2;obtain⟨u,hu,ru⟩:=rv.get hx;obtain⟨u2,hu2,ru2⟩:=rv2.get hy;have hn :=I.hok.fresh (Ç _)
  have lt:∀b∈[z,TI,TO,i1,i2],b≠s.heap.objs.size:=λb hb=>by
   erw[Ð,ì,ñ]at hb;rcases hb with rfl|rfl|rfl|rfl|rfl
   .exact Ò (Ä hz)
   .exact Ò (Ä hTI)
   .exact Ò (Ä hTO)
   .obtain⟨o,q,_⟩:=h1;exact Ò (Ä q)
   .obtain⟨o,q,_⟩:=h2;exact Ò (Ä q)
  refine wpAny_pyNext_zip_item D hz hTI hTO h1 h2 p.isList p2.isList (by simpa using hu) (by simpa using hu2) λh' a1 a2 a3 a4 a5 a6 hk=>?_
  have I1:Inv X pq σ (upd H s.heap.objs.size (.tup [x,y])) { s with heap:=h',toks:=s.toks }:=by
   refine Nd I (λb o hb q=>hk b o (λz=>hb (by simp[z])) (λz=>hb (by simp[z])) (λz=>hb (by simp[z])) (λz=>hb (by simp[z])) q) hf (Ç _) ?_
   exact⟨by erw[Ø,õ];rw[ć];decide,[u,u2],.cons ru (.cons ru2 .nil),_,a5,rfl,0,rfl⟩
  have f1:∀b∈[z,TI,TO,i1,i2],CD X pq (upd H s.heap.objs.size (.tup [x,y])) b:=λb hb=>KE (hf b hb) (lt b hb)
  refine⟨.ref s.heap.objs.size,rfl,wpAny_letOwnedTupleGo_zip a1 λh3 hz3 hs3=>?_⟩
  refine⟨.ref s.heap.objs.size,_,GN (ch:=[z]) I1 (λb o hb q=>hs3.extBut b o (λz=>hb (by simp[z])) q) (λb hb=>f1 b (by simp at hb;simp[hb])),rfl,⟨_,x,y,rfl,hn,rfl,(λzs hy'=>by rw[I.list_inj hy' hq];exact hx),λzs hy'=>by rw[I.list_inj hy' hq2];exact hy⟩,?_,λb hb=>(f1 b hb).1⟩
  exact⟨hz3,hs3.extBut _ _ D.TIz (hk _ _ D.TIz D.TITO D.TIi1 D.TIi2 hTI),⟨_,_,hs3.extBut _ _ D.TOz a2⟩,a3.extBut hs3.extBut D.i1z,a4.extBut hs3.extBut D.i2z⟩
 done:=by
  intro X hP hw hK hc i pq s σ H E I hf st hg;subst hP hw hK;obtain⟨hz,hTI,⟨a,c,hTO⟩,h1,h2⟩:=st;obtain⟨xs,ys,hq,hq2,hx⟩:=hg;obtain⟨its,rv,p,hzz⟩:=I.list hq;obtain⟨its2,rv2,p2,hzz2⟩:=I.list hq2;have hl:=rv.length;have hl2:=rv2.length;refine wpAny_pyNext_zip_end (I.ok.hd hc) D hz hTI hTO h1 h2 p.isList p2.isList ?_ λh' hk=>⟨rfl,GN I (λb o hb q=>hk b o (λz=>hb (by simp[z])) (λz=>hb (by simp[z])) (λz=>hb (by simp[z])) (λz=>hb (by simp[z])) q) hf⟩
  rcases hx with hx|hx
  .exact .inl (by simp;omega)
  .exact .inr (by simp;omega)
 self:=λ_ _ _ _ _ st h=>ŷ st.1 h
section
variable {X:Cx}{elts:kC}{kk:Nat}{tpos:Pos}
def iEnum(K:k6)(ta:TA):TI:=λσ H R=>ta σ H λvs H1=>∃a,vs=[.ref a]/\(∃xs,AX K H1 a xs)/\R (NI K 0 a) H1
theorem zjz(hg:Gl X "enumerate")(hm:X.mg "enumerate"=none)(ha:PA X [a] ta)(hs:starEach [a] X.env=[(false,eval a X.env)]):PI X (.Tuple elts kk tpos) (.Call (.Name "enumerate" p) [a] [] pos) (iEnum X.K ta):=by
 intro pq s σ H R I h;refine Call_ (F7 I hg hm boot_enumerate (Ċ (AQ (ha pos pq s σ H _ I h) λus s1 zz=>?_) hs rfl))
 obtain⟨vs,H1,I1,r1,q1⟩:=zz;obtain⟨l,e,⟨xs,hq⟩,q⟩:=q1;subst e;obtain⟨u,rfl,ru⟩:=EI r1;cases ru;obtain⟨its,rv,pl,hz⟩:=I1.list hq;refine call_enumerate_list pl.isList λh' he hit hsz hk=>?_
 have I2:Inv X pq σ H1 { s1 with heap:=h',toks:=s1.toks }:=I1.kept hk
 refine Ŷ he ⟨s1.heap.objs.size+1,[s1.heap.objs.size+1,s1.heap.objs.size],_,_,H1,rfl,I2,Sk 0 l _ _ (by simp),⟨⟨_,by simpa using he⟩,hit⟩,λb hb=>?_,q⟩
 have hb':s1.heap.objs.size<=b:=by
  grind
 exact I1.fpOk hb' (I1.hok.fresh hb')
def iZip(K:k6)(ta:TA):TI:=λσ H R=>ta σ H λvs H1=>∃a b,vs=[.ref a,.ref b]/\(∃xs,AX K H1 a xs)/\(∃xs,AX K H1 b xs)/\R (Rt K a b) H1
theorem zn8(hg:Gl X "zip")(hm:X.mg "zip"=none)(ha:PA X [a,b] ta)(hs:starEach [a,b] X.env=[(false,eval a X.env),(false,eval b X.env)])(hs2:starEach [b] X.env=[(false,eval b X.env)]):PI X (.Tuple elts kk tpos) (.Call (.Name "zip" p) [a,b] [] pos) (iZip X.K ta):=by
 intro pq s σ H R I h;refine Call_ (F7 I hg hm boot_zip (Ċ (AQ (ha pos pq s σ H _ I h) λus s1 zz=>?_) (by rw[hs,hs2]) (by rw[hs2];rfl)))
 obtain⟨vs,H1,I1,r1,q1⟩:=zz;obtain⟨l1,l2,e,⟨xs,hq⟩,⟨ys,hq2⟩,q⟩:=q1;subst e;obtain⟨u,u2,rfl,ru,ru2⟩:=FO r1;cases ru;cases ru2;obtain⟨its,rv,pl,hz⟩:=I1.list hq;obtain⟨its2,rv2,pl2,hz2⟩:=I1.list hq2;have llt:l1<s1.heap.objs.size:=by obtain⟨o,n,e,_⟩:=pl;exact Ä e
 have llt2:l2<s1.heap.objs.size:=by obtain⟨o,n,e,_⟩:=pl2;exact Ä e
 refine call_zip_2 pl.isList pl2.isList λh' a1 a2 a3 a4 a5 a6 hk=>?_
 have I2:Inv X pq σ H1 { s1 with heap:=h',toks:=s1.toks }:=I1.kept hk
 have D:ZipApart (s1.heap.objs.size+4) (s1.heap.objs.size+2) (s1.heap.objs.size+3) s1.heap.objs.size (s1.heap.objs.size+1) l1 l2:=by
  have n1:∀k ,l1≠s1.heap.objs.size+k:=λk z=>â _ (Ù llt (z▸Ņ _ _))
  have n2:∀k ,l2≠s1.heap.objs.size+k:=λk z=>â _ (Ù llt2 (z▸Ņ _ _))
  refine⟨?_,?_,?_,?_,?_,?_,?_,?_,?_,?_,n1 4,n1 3,n1 0,n1 1,n2 4,n2 3,n2 0,n2 1⟩<;>intro z<;>simp at z
 refine ŷ a1 ⟨_,[s1.heap.objs.size+4,s1.heap.objs.size+2,s1.heap.objs.size+3,s1.heap.objs.size,s1.heap.objs.size+1],_,_,H1,rfl,I2,zgk _ _ _ _ _ l1 l2 D,⟨a1,a2,⟨_,_,a3⟩,a4,a5⟩,λb hb=>?_,q⟩
 have hb':s1.heap.objs.size<=b:=by
  grind
 exact I1.fpOk hb' (I1.hok.fresh hb')
end
section
variable {X:Cx}{pq:List (Addr×Obj)}{σ:L2.St}{H:Hp}{s:Shared}{a:Addr}{o:Obj}{kvs:List (Key×V)}
theorem zoi(r:KV kvs vs):kvs.length=vs.length:=ŉ (r)
end
section
variable {X:Cx}{o:Expr}{to:TE}{ap cp:Pos}{elts:kC}{kk:Nat}{tpos:Pos}
end
def JH(ifs:kC)(env:Env):Sem Bool:=forIn ifs true λc r=>if r=true then do let ok <- isTrue c env (eval c env);pure (ForInStep.yield ok) else pure (ForInStep.yield r)
def Gn(X:Cx)(ifs:kC)(t:TT):Prop:=
 ∀(pq:List (Addr×Obj)) (s:Shared) (σ:L2.St) (H:Hp) (Q:Bool->Hp->Prop),Inv X pq σ H s->t σ H Q->wpAny (model X.prog X.w) X.A (JH ifs X.env) (TP X pq σ Q) X.xe s
theorem zjq:Gn X [] (λ_ H Q=>Q true H):=λpq s σ H Q I h=>Å ⟨H,I,h⟩
theorem zjp(h:PT X c t):Gn X [c] t:=λpq s σ H Q I q=>by
 have e:JH [c] X.env=(isTrue c X.env (eval c X.env) >>= λok=>pure ok):=by
  unfold JH;simp
 rw[e];exact À (è (h pq s σ H Q I q) (λb s1 h1=>Å h1) λ_ _ z=>z)
theorem zej:compTurn (.ListComp elt [⟨target,iter,ifs,0⟩] scope pos) 0 it acc env=(standAt iter.pos >>= λ_=>pyNext it >>= λr=>match r with
  |none=>pure (.done .next)|some u=>letOwnedTupleGo target it u >>= λ_=>assign target env u >>= λ_=>JH ifs env >>= λok=>
   if ok=true then ((eval elt env >>= λx=>call (.builtin "list.append") [acc,x] >>= λ_=>pure ()) >>= λ_=>again (.compLoop (.ListComp elt [⟨target,iter,ifs,0⟩] scope pos) 0 it acc env))
   else again (.compLoop (.ListComp elt [⟨target,iter,ifs,0⟩] scope pos) 0 it acc env)):=by rfl
theorem zek(hN:NE=notedBy (model prog w) A env λe s'=>R (.error e) s')(I:Nat->Shared->Prop)
  (hturn : ∀ n s, I n s -> wpAny (model prog w) A (pyNext it) (fun r s₁ => match r with
   |none=>R (.ok .next) s₁|some v=>wpAny (model prog w) A (letOwnedTupleGo target it v) (λ_ s₁'=>wpAny (model prog w) A (assign target env v) (λ_ s₂=>wpAny (model prog w) A (JH ifs env) (λok s₂'=>if ok=true then wpAny (model prog w) A (eval elt env) (λx s₃=>
     wpAny (model prog w) A (call (.builtin "list.append") [acc,x]) (λ_ s₄=>∃m,m<n/\I m s₄) NE s₃)
     NE s₂' else ∃m,m<n/\I m s₂') NE s₂) NE s₁') NE s₁) NE s)
  (k ) (hk:I k s):codeAny (model prog w) A (.compLoop (.ListComp elt [⟨target,iter,ifs,0⟩] scope pos) 0 it acc env) R s:=by
 subst hN;refine codeAny_loop rfl I (λn s hI=>?_) k hk
 refine wpAny_noted ?_;rw[zej];refine À (ĳ (À (è (hturn n s hI) (λr s₁ h₁=>?_) λ_ _ z=>z)))
 cases r with
 |none=>exact Å h₁|some v=>
  refine À (è h₁ (λ_ s₁' h₁'=>?_) λ_ _ z=>z)
  refine À (è h₁' (λ_ s₂ h₂=>À (è h₂ (λok s₂' h₂'=>?_) λ_ _ z=>z)) λ_ _ z=>z)
  cases ok with
  |false=>
   rw[if_neg (by decide)]at h₂' ⊢
   exact Å ⟨rfl,h₂'⟩
  |true=>rw[if_pos rfl]at h₂' ⊢;exact À (À (è h₂' (λx s₃ h₃=>À (è h₃ (λ_ s₄ h₄=>Å (Å ⟨rfl,h₄⟩)) λ_ _ z=>z)) λ_ _ z=>z))
theorem RA(env ):∀(names:List (Str×NameKind)),(∀y∈names,y.2=.free->∃c,env.cells.lookup y.1=some c)->∀acc ,∃cl ,
  (forIn names acc λ(x:Str×NameKind) r=>if (x.2 == NameKind.free)=true then do let a <- cellOf env x.1;pure (ForInStep.yield ((x.1,a)::r)) else pure (ForInStep.yield r))=pure cl /\
  (∀y c,cl.lookup y=some c->acc.lookup y=some c\/env.cells.lookup y=some c)/\(∀y∈names,y.2=.free->∃c,cl.lookup y.1=some c)/\∀y c,acc.lookup y=some c->∃c',cl.lookup y=some c'
 |[],_,acc=>⟨acc,rfl,λ_ _ e=>.inl e,(λ_ z=>by cases z),λ_ c e=>⟨c,e⟩⟩|(n,k)::r,h,acc=>by
  rw[List.forIn_cons]
  by_cases hk:k=.free
  .subst hk;obtain⟨c,hc⟩:=h (n,.free) (Ï ..) rfl;have e1:cellOf env n=pure c:=by unfold cellOf;rw[hc]
   obtain⟨cl,e,h1,h2,h3⟩:=RA env r (λy hy=>h y (Î _ hy)) ((n,c)::acc)
   grind
  .have hk' :=beq_eq_false_iff_ne.mpr hk;obtain⟨cl,e,h1,h2,h3⟩:=RA env r (λy hy=>h y (Î _ hy)) acc
   grind
theorem zdl(scope)(env)(h:∀y∈scope.names,y.2=.free->∃c,env.cells.lookup y.1=some c):∃cl,closureFor scope env=pure cl/\(∀y c,cl.lookup y=some c->env.cells.lookup y=some c)/\∀y∈scope.names,y.2=.free->∃c,cl.lookup y.1=some c:=by
 obtain⟨cl,e,h1,h2,_⟩:=RA env scope.names h [];refine⟨cl,?_,λy c q=>?_,h2⟩
 .have e2:closureFor scope env=(forIn scope.names [] λx r=>if (x.2 == NameKind.free)=true then do let a <- cellOf env x.1;pure (ForInStep.yield ((x.1,a)::r)) else pure (ForInStep.yield r)) >>= pure:=rfl
  grind
 grind
theorem RC:∀(names) (h:Heap) (acc) (y) (c),(cellsFrom h.objs.size names acc).lookup y=some c->acc.lookup y=some c\/(h.objs.size<=c/\(pushCells h names).IsCell c none/\(y,NameKind.cell)∈names)
 |[],h,acc,y,c,e=>.inl e|(n,k)::r,h,acc,y,c,e=>by
  unfold cellsFrom at e;unfold pushCells;split at e
  .rename_i hk;rw[if_pos hk];have ez:(h.push { cls:=.type "cell",data:=.cell none }).objs.size=h.objs.size+1:=ý ..;rw[<- ez]at e
   rcases RC r _ _ y c e with q|⟨q1,q2,q3⟩
   .rw[ö]at q;cases hy:y == n with
    |true=>rw[hy]at q;cases q;have e1:=eq_of_beq hy;subst e1;exact .inr ⟨Ç _,⟨_,ŏ _ _ _ _ (à _ rfl),rfl⟩,by rw[eq_of_beq hk];exact Ï ..⟩|false=>rw[hy]at q;exact .inl q
   .exact .inr ⟨by rw[ez]at q1;exact Þ (Ć _) q1,q2,Î _ q3⟩
  .rename_i hk;rw[if_neg hk]
   rcases RC r h acc y c e with q|⟨q1,q2,q3⟩
   .exact .inl q
   .exact .inr ⟨q1,q2,Î _ q3⟩
theorem RD:∀(names) (h:Heap) (acc:List (Str×Addr)),(∀y z c,acc.lookup y=some c->acc.lookup z=some c->y=z)->(∀y c,acc.lookup y=some c->c<h.objs.size) ->
  ∀y z c,(cellsFrom h.objs.size names acc).lookup y=some c->(cellsFrom h.objs.size names acc).lookup z=some c->y=z
 |[],h,acc,hi,_=>hi|(n,k)::r,h,acc,hi,hl=>by
  unfold cellsFrom;split
  .have ez:(h.push { cls:=.type "cell",data:=.cell none }).objs.size=h.objs.size+1:=ý ..;rw[<- ez];refine RD r _ _ (λy z c h1 h2=>?_) (λy c h1=>?_)
   .grind
   grind
  .exact RD r h acc hi hl
theorem RB:∀(names) (n lo:Nat) (acc:List (Str×Addr)) (y) (c),lo<=n->((y,NameKind.cell)∈names\/∃c0,acc.lookup y=some c0/\lo<=c0)->(cellsFrom n names acc).lookup y=some c->lo<=c
 |[],n,lo,acc,y,c,hn,h,e=>by
  rcases h with h|⟨c0,h1,h2⟩
  .cases h
  .have e':acc.lookup y=some c:=e
   grind
 |(m,k)::r,n,lo,acc,y,c,hn,h,e=>by
  unfold cellsFrom at e;split at e
  .refine RB r (n+1) lo _ y c (Nat.le_succ_of_le hn) ?_ e
   grind
  .rename_i hk;refine RB r n lo acc y c hn ?_ e
   grind
theorem zc2{code}
  (hQ:Q (newEnv scope s.heap.objs.size globals (cellsFrom (s.heap.objs.size+1) scope.names cl) qual func code (some outer) builtins) { s with heap:=pushCells (s.heap.push { cls:=.type "dict",data:=.dict #[] }) scope.names }) :
  wpAny M A (newFunctionEnv scope globals cl [] qual func code (some outer) builtins) Q E s:=by
 erw[newFunctionEnv,Ū,È];refine À (wpAny_alloc ?_);refine À (wpAny_layCells _ (λname kind cells=>by rfl) _ _ _ _ ?_);rw[ý ..]
 exact À (Å (Å hQ))
abbrev Ar(X:Cx)(scope:Scope)(cl:List (Str×Addr))(N':kE)(C:Addr)(s₀:Shared)(H₀:Hp)(ex:List Addr)(xb:Value->Shared->Prop):Cx:={ zp9 X scope cl N' C s₀ H₀ ex with fn:=λx=>decide (scope.names.lookup x=some .cell),xe:=xb }
theorem Zs{h h' B B':Heap}(k:∀b o,B.get? b=none->h.get? b=some o->(∀us,o.data≠.fields us)->B'.get? b=none/\∃o',h'.get? b=some o'/\∀us,o'.data≠.fields us):∀{l},h.FunFrames B l->h'.FunFrames B' l
 |[],_=>trivial|_::_,⟨x,⟨L,o,y1,y2,y3,y4⟩,r⟩=>by
  obtain⟨z1,o',z2,z3⟩:=k L o y2 y3 y4;exact⟨x,⟨L,o',y1,z1,z2,z3⟩,Zs k r⟩
def Hg(X:Cx):Prop:=∃v l,X.stack=v::l/\X.env.frame=v.frame
theorem zfw{X:Cx}   {σ:L2.St}{H:Hp}        (hx:BI X E)(hst:Hg X)(I:Inv X pq σ H s)(fC:CD X pq H C)(hC:∃m,s.heap.Ns C m)(nC:C∉BS X.stack)
  (hb:benv.frame=X.env.frame) (h:Ce X.prog X.w X.stack H s (E σ) e s'):wpAny (model X.prog X.w) X.A (noteFrame e benv) (λ_ s2=>compPost (model X.prog X.w) X.A X.xe use QQ acc C (.error e) s2) EE s':=by
 obtain⟨v,l,st,hv⟩:=hst;obtain⟨a,cls,H',B,rfl,os,bare,un,hok,kB,tB,fl0,he⟩:=h;have fl1 :=st▸fl0
 obtain⟨L,hL⟩:∃L,v.frame=some L:=by
  obtain⟨_,_,_,⟨_,⟨L,_,y,_⟩,_⟩,_⟩:=fl1;exact⟨L,y⟩
 refine Oa (st▸I.ok.frames) (hb.trans hv) hL fl1 λh4 held sm=>?_
 obtain⟨m,oC,es,ep,hCo,dC,rC⟩:=hC;have bC :=kB C oC hCo fC.1 nC;obtain⟨f1,f2,f3,oe,ws,Tb,oT,ts,ha,hcl,hd,g1,nT,Tne,hT,dT,g3⟩:=held
 have hne:∀{b },B.get? b=none->b≠C:=λz w=>by
  rw[w,bC]at z;cases z
 have key:∃m,h4.Ns C m/\∀h',Heap.SameBut C h4 h'->∀cenv ,cenv.locals=C->wpAny (model X.prog X.w) X.A (PySem.passOn "comprehension.variables-let-go" (.ref a) cenv:Sem Value) (λ_ _=>False) X.xe { s' with heap:=h' }:=by
  refine⟨m,⟨oC,es,ep,f1 C oC bC,dC,rC⟩,λh5 sb cenv _=>?_⟩
  have ha5 :=(sb.2 a (hne f2)).trans ha;have hT5 :=(sb.2 Tb (hne nT)).trans hT;unfold PySem.passOn;refine À (ð ha5 hd g1 ?_);rw[if_neg (by simp)]
  refine À ?_;unfold setFlight;refine À (ð ha5 hd g1 ?_);rw[if_pos (by simp)]
  refine Ō hT5 dT (Ġ.mp g3).1 (wpAny_throw ?_);generalize hfl:(cenv.frame.elim Value.none λf=>rawInt f)=fl
  have dT6:=Ł dT (·.setIfInBounds 3 fl);have hT6:=Ā (Obj.mapFields (·.setIfInBounds 3 fl)) hT5 (Ţ dT6);generalize hh6:h5.update Tb (Obj.mapFields (·.setIfInBounds 3 fl))=h6 at hT6 ⊢
  have to6:∀b o,b≠C->b≠Tb->h4.get? b=some o->h6.get? b=some o:=λb o n1 n2 e=>by
   rw[<- hh6,î _ _ (É n2)];exact(sb.2 b n1).trans e
  have B6 :=λb o n e=>to6 b o n (λz=>by rw[z,nT]at e;cases e) (f1 b o e)
  have hid:∀{b } {o },(W.hideAll s.heap [C]).get? b=some o->s.heap.get? b=some o/\b≠C:=λ{b o} e=>⟨ĥ _ e,λz=>by
   rw[z,ţ [C] (Û.mpr rfl)]at e;cases e⟩
  have hidB:∀{b } {o },b≠C->B.get? b=some o->(W.hideAll B [C]).get? b=some o:=λ{b o} n e=>ē _ e (λz=>n (Û.mp z))
  have hidN:∀{b },B.get? b=none->(W.hideAll B [C]).get? b=none:=λ{b} e=>by
   cases q:(W.hideAll B [C]).get? b with
   |none=>rfl|some o=>rw[ĥ _ q]at e;cases e
  have IX :=GN (t':=s.toks) I (λb o n e=>ē _ e n) λb z=>by
   rw[Û.mp z];exact fC
  have slot:∀b o,s.heap.get? b=some o->H b=none->b∈BS X.stack->∃z,h6.get? b=some { o with slots:=z }:=λb o e n z=>by
   obtain⟨_,o2,ho2,d2⟩:=I.stack.mem z;rw[e]at ho2;cases ho2;obtain⟨z2,e2⟩:=un.slot b o e n z (by simp)
   obtain⟨z3,e3⟩:=sm b _ e2 d2;refine⟨z3,to6 b _ (λw=>nC (w▸z)) (λw=>?_) e3⟩
   rw[w,hT]at e3;cases e3;exact d2 _ dT
  have HC :=un.free C oC hCo fC.1 (by simp)
  refine hx pq σ H _ _ _ IX ⟨a,cls,H',W.hideAll B [C],rfl,os,bare,⟨λb o e n z _=>?_,λb o e n z _=>slot b o (hid e).1 n z,λb o e n z=>un.free b o (hid e).1 n z,λb o e _=>?_,un.tups,un.frzs,un.tbls⟩,?_,λb o e n z=>hidB (hid e).2 (kB b o (hid e).1 n z),λb o e z=>?_,⟨fl,λb o e=>?_,hidN f2,?_,?_⟩,he⟩
  .exact B6 b o (hid e).2 (kB b o (hid e).1 n z)
  .by_cases z:b∈BS X.stack
   .obtain⟨w,q⟩:=slot b o (hid e).1 (I.stkFree b z) z;exact⟨_,q⟩
   .obtain⟨o',q⟩:=tB b o (hid e).1 z;exact⟨o',B6 b o' (hid e).2 q⟩
  .intro b u e;refine(hok b u e).stay (λc x hc q=>hidB (λw=>?_) q) (λ_ q=>q) λ_ _ q=>q
   rcases hc with y|y
   .rw[<- y,w,HC]at e;cases e
   .rw[w,HC]at y;cases y
  .obtain⟨o',q⟩:=tB b o (hid e).1 z;exact⟨o',hidB (hid e).2 q⟩
  .have e':=ĥ _ e;refine B6 b o (λw=>?_) e'
   rw[w,ţ [C] (Û.mpr rfl)]at e;cases e
  .rw[st];refine Zs (λb o n e d=>⟨hidN n,o,to6 b o (hne n) (λw=>?_) e,d⟩) f3
   rw[w,hT]at e;cases e;exact d _ dT
  .refine⟨oe,ws,Tb,_,_,?_,hcl,hd,g1,hidN nT,Tne,hT6,dT6,?_⟩
   .rw[<- hh6,î _ _ Tne];exact ha5
   .simp[Array.getElem?_setIfInBounds,(Ġ.mp g3).1]
 cases use<;>exact key
structure TurnG(cq:Cx->Prop)(P:Program)(w:World)(K:k6)(tg:Expr)(J:It)(fp:List Addr)(it:Addr)(tn:Nat->Heap->Prop):Prop where
 obj:∀i h,tn i h->∀b∈fp,∃o,h.get? b=some o/\∀v,o.data≠.cell v
 keep:∀i h h',tn i h->(∀b∈fp,∀o,h.get? b=some o->h'.get? b=some o)->tn i h'
 item:∀(X:Cx),X.prog=P->X.w=w->X.K=K->cq X->∀(i:Nat) (pq:List (Addr×Obj)) (s:Shared) (σ:L2.St) (H:Hp) (E:Value->Shared->Prop),Inv X pq σ H s->(∀b∈fp,CD X pq H b)->tn i s.heap->J.go i H ->
  wpAny (model P w) X.A (pyNext (.ref it)) (λr s1=>∃u,r=some u/\wpAny (model P w) X.A (letOwnedTupleGo tg (.ref it) u) (λ_ s2=>∃x H',Inv X pq σ H' s2/\A8 x u/\J.yld i H x H'/\tn (i+1) s2.heap/\∀b∈fp,H' b=none) E s1) E s
 done:∀(X:Cx),X.prog=P->X.w=w->X.K=K->cq X->∀(i:Nat) (pq:List (Addr×Obj)) (s:Shared) (σ:L2.St) (H:Hp) (E:Value->Shared->Prop),Inv X pq σ H s->(∀b∈fp,CD X pq H b)->tn i s.heap->J.stop i H ->
  wpAny (model P w) X.A (pyNext (.ref it)) (λr s1=>r=none/\Inv X pq σ H s1) E s
 self:∀(A:Around) (i:Nat) (s:Shared) (Q:Value->Shared->Prop) (E:Value->Shared->Prop),tn i s.heap->Q (.ref it) s->wpAny (model P w) A (pyIter (.ref it)) Q E s
def PJ(cq:Cx->Prop)(X:Cx)(tg iter:Expr)(wi:TI):Prop:=
 ∀(pq:List (Addr×Obj)) (s:Shared) (σ:L2.St) (H:Hp) (R:It->Hp->Prop),Inv X pq σ H s->wi σ H R ->
  wpAny (model X.prog X.w) X.A (eval iter X.env) (λv s1=>wpAny (model X.prog X.w) X.A (pyIter v) (λitv s2=>∃(it:Addr) (fp:List Addr) (tn:Nat->Heap->Prop) (J:It) (H':Hp),itv=.ref it/\Inv X pq σ H' s2/\TurnG cq X.prog X.w X.K tg J fp it tn/\tn 0 s2.heap/\(∀b∈fp,CD X pq H' b)/\R J H') X.xe s1) X.xe s
theorem Vz(h:PI X tg iter wi):PJ (λX=>X.calm=true) X tg iter wi:=λpq s σ H R I q=>
 AQ (h pq s σ H R I q) λ_ _ h1=>AQ h1 λ_ _ ⟨it,fp,tn,J,H',e,I2,T,r⟩=>⟨it,fp,tn,J,H',e,I2,⟨T.obj,T.keep,T.item,T.done,T.self⟩,r⟩
section
variable {X:Cx}{elt iter tg:Expr}{ifs:kC}{scope:Scope}{pos pos2:Pos}{cl:List (Str×Addr)}{N':kE}{wi:TI}{g:TG}{tt:TT}{te:TE}
def Kz(σ':L2.St->L2.St)(wi:TI)(g:TG)(tt:TT)(te:TE):TE:=λσ H Q=>wi σ H λJ H1=>∃(W:Nat->kK->L2.St->Hp->Prop) (n:Nat),n<=sizeLine/\W 0 [] (σ' σ) H1/\∀i ys τ H,W i ys τ H->ys.length<=i/\i<=n /\
 ((J.stop i H/\∀p,H p=none->Q (.ref p) (upd H p (.lst ys)))\/(i<n/\J.go i H/\∀x H',J.yld i H x H'->g x τ H' λτ2 H2=>tt τ2 H2 λk H3=>if k=true then te τ2 H3 λy H4=>W (i+1) (ys++[y]) τ2 H4 else W (i+1) ys τ2 H3))
theorem Y1(σ':L2.St->L2.St)(hclos:closureFor scope X.env=pure cl)(hkind:scope.kind=.function)(hnames:∀y∈scope.names,y.2=.local->scope.names.lookup y.1=some .local)
  (hcl:∀y c,cl.lookup y=some c->X.env.cells.lookup y=some c) (hhas:∀y,(relabel scope X.env).names.lookup y=some .cell\/(relabel scope X.env).names.lookup y=some .free->(y,NameKind.cell)∈scope.names\/∃c,cl.lookup y=some c) (hcap:∀(σ:L2.St) (i:Nat) (y:Str) (v:V),N'[i]?=some y->(σ' σ)[i]?=some (some v)->(y,NameKind.cell)∉scope.names)
  (hσ:∀σ:L2.St,σ.length=X.N.length->(σ' σ).length=N'.length)
  (hvis:∀(σ:L2.St) (i:Nat) (y:Str) (v:V),N'[i]?=some y->(σ' σ)[i]?=some (some v)->((relabel scope X.env).names.lookup y=some .cell\/(relabel scope X.env).names.lookup y=some .free)/\∃j:Nat,X.N[j]?=some y/\σ[j]?=some (some v)/\DB X.env.scope y/\X.env.kindOf y≠some .local)
  {cq:Cx->Prop} (hc:∀pq σ H s cl C ex xb,Inv X pq σ H s->cq (Ar X scope cl N' C s H ex xb)) (hi:PJ cq X tg iter wi) {E:L2.St->XK} (hps:BI X E) (hst:Hg X) {σ:L2.St} (hg:∀cl C s₀ H₀ ex xb,BI (Ar X scope cl N' C s₀ H₀ ex xb) (λ_=>E σ)->PG (Ar X scope cl N' C s₀ H₀ ex xb) tg g) (ht:∀cl C s₀ H₀ ex xb,BI (Ar X scope cl N' C s₀ H₀ ex xb) (λ_=>E σ)->Gn (Ar X scope cl N' C s₀ H₀ ex xb) ifs tt) (he:∀cl C s₀ H₀ ex xb,BI (Ar X scope cl N' C s₀ H₀ ex xb) (λ_=>E σ)->PE (Ar X scope cl N' C s₀ H₀ ex xb) elt te)
  (hs:∀x,foldedSetIterable iter X.env x=pure x) {use:Option (Value->Sem Unit)} {pq:List (Addr×Obj)} {s:Shared} {H:Hp} {Q:VK} {QQ:Value->Shared->Prop} (I:Inv X pq σ H s) (h:Kz σ' wi g tt te σ H Q)
  (hend:∀(D C:Addr) (s5:Shared) (H5:Hp),Inv X pq σ H5 s5->Q (.ref D) H5->(∃m,s5.heap.Ns C m)->CD X pq H5 C->compPost (model X.prog X.w) X.A X.xe use QQ (.ref D) C (.ok .next) s5) :
  wpAny (model X.prog X.w) X.A (comprehension (.ListComp elt [⟨tg,iter,ifs,0⟩] scope pos) scope X.env pos2 (newList []) false (eval iter X.env) use) QQ X.xe s:=by
 refine wpAny_comprehension_free (use:=use) rfl hs hclos hkind hnames (AQ (hi pq s σ H _ I h) λv s1 h1=>AQ h1 λitv s2 h2=>?_)
 obtain⟨it,fp,tn,J,H2,e,I2,T,st2,f2,W,n,hn,w0,turn⟩:=h2;subst e;refine wpAny_newObj_type (zc2 ?_);dsimp only;generalize hHp:s2.heap.push { cls:=.type "list",dict:=none,data:=.seq ([]:k9).toArray }=P2;generalize hcl':cellsFrom (P2.objs.size+1) scope.names cl=cl';generalize hh1:pushCells (P2.push { cls:=.type "dict",data:=.dict #[] }) scope.names=h₁;have hC:P2.objs.size=s2.heap.objs.size+1:=by rw[<- hHp,ý]
 have hP3:(P2.push { cls:=.type "dict",data:=.dict #[] }).objs.size=P2.objs.size+1:=ý ..;have hDC:s2.heap.objs.size≠P2.objs.size:=by rw[hC];exact Ò (ę _)
 have below:∀b,b<s2.heap.objs.size->b≠P2.objs.size/\b≠s2.heap.objs.size:=λb hb=>⟨by rw[hC];exact Ò (Ī hb),Ò hb⟩
 have old:∀b o,s2.heap.get? b=some o->h₁.get? b=some o:=λb o e=>by
  rw[<- hh1];exact ŏ _ _ _ _ (Ë _ (hHp▸Ë _ e))
 have hacc:h₁.PlainList s2.heap.objs.size #[]:=⟨_,by
  rw[<- hh1];exact ŏ _ _ _ _ (Ë _ (hHp▸à _ rfl))⟩
 have hns₁:h₁.Ns P2.objs.size (λ_=>none):=by
  rw[<- hh1];exact(Heap.Ns.new P2 (.type "dict")).keeps (ŏ _ _)
 have cells:∀y c,cl'.lookup y=some c->X.env.cells.lookup y=some c\/(P2.objs.size<c/\h₁.IsCell c none/\(y,NameKind.cell)∈scope.names):=λy c e=>by
  rw[<- hcl',<- hP3]at e
  rcases RC _ _ _ y c e with q|⟨q1,q2,q3⟩
  .exact .inl (hcl y c q)
  .rw[hP3]at q1;rw[hh1]at q2;exact .inr ⟨q1,q2,q3⟩
 have has':∀y,(y,NameKind.cell)∈scope.names\/(∃c,cl.lookup y=some c)->∃c,cl'.lookup y=some c:=λy hy=>by
  rw[<- hcl']
  have go:∀(names:List (Str×NameKind)) (n:Nat) (acc:List (Str×Addr)),((y,NameKind.cell)∈names\/∃c,acc.lookup y=some c)->∃c,(cellsFrom n names acc).lookup y=some c:=by
   intro names
   induction names with
   |nil=>
    intro n acc h
    rcases h with h|h
    .cases h
    .exact h
   |cons x r ih=>
    obtain⟨m,k⟩:=x;intro n acc h;unfold cellsFrom;split
    .refine ih _ _ ?_
     by_cases hm:y=m
     .subst hm;exact .inr ⟨n,by simp⟩
     .rcases h with h|⟨c,h⟩
      .rcases Ð.mp h with z|z
       .cases z;exact absurd rfl hm
       .exact .inl z
      .exact .inr ⟨c,by rw[ö,beq_eq_false_iff_ne.mpr hm];exact h⟩
    .rename_i hk;refine ih _ _ ?_
     rcases h with h|h
     .rcases Ð.mp h with z|z
      .cases z;exact absurd rfl hk
      .exact .inl z
     .exact .inr h
  exact go _ _ _ hy
 have fsub:∀b∈BS X.stack,b∈X.env.locals::X.fs:=I2.stkSub
 have fpfs:∀b∈fp,b∉BS X.stack:=λb hb z=>by
  obtain⟨_,h2,h3,_⟩:=f2 b hb
  rcases Ð.mp (fsub b z) with q|q
  .exact h2 q
  .exact h3 q
 have fpold:∀b∈fp,b<s2.heap.objs.size:=λb hb=>by
  obtain⟨o,e,_⟩:=T.obj 0 _ st2 b hb;exact Ä e
 have cold:∀y c,cl'.lookup y=some c->c<s2.heap.objs.size\/P2.objs.size<c:=λy c e=>by
  rcases cells y c e with q|q
  .obtain⟨v,z⟩:=I2.cell y c q;exact .inl z.lt
  .exact .inr q.1
 have cneD:∀y c,cl'.lookup y=some c->c≠s2.heap.objs.size:=λy c e z=>by
  rcases cold y c e with q|q
  .rw[z]at q;exact â _ q
  .rw[z,hC]at q;exact absurd q (Nat.not_lt.mpr (Ć _))
 have cneF:∀b,b<s2.heap.objs.size->(∀y c,X.env.cells.lookup y=some c->c≠b)->∀y c,cl'.lookup y=some c->c≠b:=λb hb hx y c e z=>by
  rcases cells y c e with q|q
  .exact hx y c q z
  .have:=q.1;rw[z,hC]at this;exact absurd (ı hb (Nat.lt_of_succ_lt this)) (â _)
 have fresh2:∀b,s2.heap.objs.size<=b->H2 b=none:=λb hb=>I2.hok.fresh hb
 have CS:s2.heap.objs.size<=P2.objs.size:=by rw[hC];exact Ć _
 obtain⟨xb,hxb⟩:∃xb,xb=notedBy (model X.prog X.w) X.A (compEnvC scope cl' P2.objs.size X.env) λe s'=>compPost (model X.prog X.w) X.A X.xe use QQ (.ref s2.heap.objs.size) P2.objs.size (.error e) s':=⟨_,rfl⟩
 have hpb:BI (Ar X scope cl' N' P2.objs.size s2 H2 fp xb) (λ_=>E σ):=by
  subst hxb;intro pins4 σ4 H4 s4 e s' I4 hcx
  have IX:Inv X pq σ H4 s4:=I2.call' (s':=s4) (ch:=fp) I4.os I4.base I4.hok I4.bare λb hb=>by
   obtain⟨g1,g2,g3,g4,g5,g6⟩:=f2 b hb;exact⟨g4,g2,g5,g6⟩
  obtain⟨m4,hm4,_⟩:=I4.loc
  exact zfw hps hst IX ⟨I4.free,(I2.fpOk (H':=H2) CS (fresh2 _ CS)).2⟩ ⟨m4,hm4⟩ (λz=>by
   obtain⟨o,ho,_⟩:=(I2.stack.mem z).2;exact absurd (Ä ho) (Nat.not_lt.mpr CS)) rfl hcx
 have ok':(Ar X scope cl' N' P2.objs.size s2 H2 fp xb).Ok:=by
  refine⟨I2.ok.mod,hkind,I2.ok.glob,I2.ok.blt,CS,?inj,λy hy=>has' y (hhas y hy),?cab,I2.ok.hd,I2.ok.frames,.inl rfl,λb hb=>⟨(below b (fpold b hb)).1,cneF b (fpold b hb) λy c e=>(f2 b hb).2.2.2.2.1 y c e⟩,
   λb o e=>I2.bs b o e,Þ I2.ok.bsz I2.sz,λb o e hb=>?_,λb hb=>fpfs b hb,I2.stack,I2.stkFree⟩
  case inj=>
   intro y z c h1 h2;have h1':(cellsFrom (P2.push { cls:=.type "dict",data:=.dict #[] }).objs.size scope.names cl).lookup y=some c:=by rw[hP3,hcl'];exact h1
   have h2':(cellsFrom (P2.push { cls:=.type "dict",data:=.dict #[] }).objs.size scope.names cl).lookup z=some c:=by rw[hP3,hcl'];exact h2
   refine RD scope.names _ cl (λy z c g1 g2=>I2.ok.inj y z c (hcl y c g1) (hcl z c g2)) (λy c g=>?_) y z c h1' h2'
   obtain⟨v,q⟩:=I2.cell y c (hcl y c g);rw[hP3,hC];exact Ī (Ī q.lt)
  case cab=>
   intro y c hy e;have hy':scope.names.lookup y=some .cell:=ğ hy;have e':(cellsFrom (P2.objs.size+1) scope.names cl).lookup y=some c:=by rw[hcl'];exact e
   exact Þ CS (Þ (Ć _) (RB scope.names _ (P2.objs.size+1) cl y c (Ç _) (.inl (ă hy')) e'))
  .obtain⟨_,_,_,q,_⟩:=f2 b hb
   rcases q with q|q
   .exact I2.ok.noex b o e q
   .exact absurd (Ù (Ä e) (Þ I2.ok.bsz q)) (â _)
 have I':Inv (Ar X scope cl' N' P2.objs.size s2 H2 fp xb) pq (σ' σ) H2 { s2 with heap:=h₁ }:=by
  refine⟨ok',rfl,I2.bare,Un.kept old,⟨_,hns₁,λi y v h1 h2 h3=>?_⟩,λy c e=>?_,fresh2 _ CS,?fc,λp hp=>?_,I2.hok.kept old,hσ σ I2.len⟩
  case fc=>
   intro y c e
   rcases cells y c e with q|q
   .exact I2.freeC y c q
   .exact fresh2 c (Þ CS (Ŋ q.1))
  .obtain⟨hk,j,h4,h5,h6,h7⟩:=hvis σ i y v h1 h2;have hno:=hcap σ i y v h1 h2;obtain⟨m,hn',hl⟩:=I2.loc;obtain⟨u,r,l⟩:=hl j y v h4 h5 h6;obtain⟨c,hcc⟩:=has' y (hhas y hk);refine⟨u,r,.inr ⟨hk,c,hcc,?_⟩⟩
   rcases l with ⟨k1,_⟩|⟨_,c',e',z⟩
   .exact absurd k1 h7
   .rcases cells y c hcc with w|w
    .rw[w]at e';cases e';obtain⟨o,ho,hd⟩:=z;exact⟨o,old _ _ ho,hd⟩
    .exact absurd w.2.2 hno
  .rcases cells y c e with w|w
   .obtain⟨v,o,ho,hd⟩:=I2.cell y c w;exact⟨v,o,old _ _ ho,hd⟩
   .exact⟨none,w.2.1⟩
  .obtain⟨e1,e2,e3,e4,e5⟩:=I2.pin p hp;refine⟨old _ _ e1,e2,(below _ (Ä e1)).1,λz=>?_,e5⟩
   rcases Ð.mp (fsub _ z) with q|q
   .exact e3 q
   .exact e4 q
 have stat:∀{H':Hp},(∀b∈fp,H' b=none)->∀b∈fp,CD (Ar X scope cl' N' P2.objs.size s2 H2 fp xb) pq H' b:=λhn' b hb=>
  ⟨hn' b hb,(below b (fpold b hb)).1,fpfs b hb,.inl hb,cneF b (fpold b hb) λy c e=>(f2 b hb).2.2.2.2.1 y c e,(f2 b hb).2.2.2.2.2⟩
 have Dok:∀{H':Hp},H' s2.heap.objs.size=none->CD (Ar X scope cl' N' P2.objs.size s2 H2 fp xb) pq H' s2.heap.objs.size:=λhn'=>
  ⟨hn',hDC,(λz=>by
   obtain⟨o,ho,_⟩:=(I2.stack.mem z).2;exact absurd (Ä ho) (â _)),.inr (Ç _),cneD,λp hp z=>absurd (Ä (I2.pin p hp).1) (by rw[z];exact â _)⟩
 have loop:∀s3:Shared,s3={ s2 with heap:=h₁ } ->
   codeAny (model X.prog X.w) X.A (.compLoop (.ListComp elt [⟨tg,iter,ifs,0⟩] scope pos) 0 (.ref it) (.ref s2.heap.objs.size) (compEnvC scope cl' P2.objs.size X.env))
    (compPost (model X.prog X.w) X.A X.xe use QQ (.ref s2.heap.objs.size) P2.objs.size) s3:=by
  rintro s3 rfl
  refine zek hxb (λm s'=>∃i ys τ H',m=n - i/\Inv (Ar X scope cl' N' P2.objs.size s2 H2 fp xb) pq τ H' s'/\tn i s'.heap/\(∀b∈fp,H' b=none)/\H' s2.heap.objs.size=none/\(∃its:k9,A9 ys its/\s'.heap.PlainList s2.heap.objs.size its.toArray)/\W i ys τ H')
   ?_ n ⟨0,[],σ' σ,H2,rfl,I',T.keep _ _ _ st2 λb _ o e=>old b o e,λb hb=>(f2 b hb).1,fresh2 _ (Ç _),⟨[],.nil,hacc⟩,w0⟩
  rintro m s4 ⟨i,ys,τ,H4,rfl,I4,st4,fr4,hD4,⟨its,rv,hpl⟩,w4⟩;obtain⟨hly,hin,c⟩:=turn i ys τ H4 w4
  have statp:∀{H':Hp},(∀b∈fp,H' b=none)->∀b∈fp,CD (Ar X scope cl' N' P2.objs.size s2 H2 fp xb) (pq++Gy [s2.heap.objs.size] s4.heap) H' b:=λ{H'} fr' b hb=>by
    obtain⟨g1,g2,g3,g4,g5,g6⟩:=stat fr' b hb;refine⟨g1,g2,g3,g4,g5,λp hp z=>?_⟩
    rcases é.mp hp with y|y
    .exact g6 p (Ē _ y) z
    .rcases é.mp y with y|y
     .exact g6 p (ã _ y) z
     .obtain⟨hb',_⟩:=WO y;rw[z,Û]at hb';exact absurd (fpold b hb) (by rw[hb'];exact â _)
  rcases c with ⟨stop,q⟩|⟨hlt,go,step⟩
  .obtain⟨k,hDo⟩:=hpl;have I4p:=I4.pinned (fp:=[s2.heap.objs.size]) (λb hb=>by rw[Û.mp hb];exact Dok hD4) (λb hb=>by rw[Û.mp hb];exact⟨_,hDo,λv z=>(by cases z)⟩)
   refine AQ (T.done (Ar X scope cl' N' P2.objs.size s2 H2 fp xb) rfl rfl rfl (hc _ _ _ _ _ _ _ _ I2) i _ s4 τ H4 _ I4p (statp fr4) st4 stop) λr s5 zz=>?_
   obtain⟨hr,I5⟩:=zz;subst hr;have hD5 :=(I5.pin (s2.heap.objs.size,_) (ã _ (ã _ (HF (Û.mpr rfl) hDo)))).1;obtain⟨m5,hn5,_⟩:=I5.loc;have fC:H4 P2.objs.size=none:=I5.free
   have U5:Un (BS X.stack) fp H2 (upd H4 s2.heap.objs.size (.lst ys)) s2.heap s5.heap:=by
    have B:=I5.base;refine⟨λb o e1 e2 e3 e4=>B.keep b o e1 e2 e3 e4,λb o e1 e2 e3 e4=>B.slot b o e1 e2 e3 e4,λb o e1 e2 e4=>?_,λb o e1 e4=>B.there b o e1 e4,λb xs e1=>?_,λb o u e1=>?_,λb ps e1=>?_⟩
    .rw[Ah (below b (Ä e1)).2];exact B.free b o e1 e2 e4
    .have q':=B.tups b xs e1;rw[Ah (Bs q' hD4)];exact q'
    .have q':=B.frzs b o u e1;rw[Ah (Bs q' hD4)];exact q'
    .obtain⟨more,q'⟩:=B.tbls b ps e1;exact⟨more,by rw[Ah (Bs q' hD4)];exact q'⟩
   have hzy:ys.length<=sizeLine:=Þ hly (Þ hin hn);have HK:HOk X.prog X.w (upd H4 s2.heap.objs.size (.lst ys)) s5.heap:=Zw.HOk.adopt I5.hok hD4 ⟨hzy,its,k,rv,hD5⟩;have os5:s5.os=s2.os:=I5.os
   have IX:Inv X pq σ (upd H4 s2.heap.objs.size (.lst ys)) s5:=I2.call' (s':=s5) (ch:=fp) os5 U5 HK I5.bare (λb hb=>by
    obtain⟨g1,g2,g3,g4,g5,g6⟩:=f2 b hb;exact⟨g4,g2,g5,g6⟩)
   refine hend s2.heap.objs.size P2.objs.size s5 _ IX (q _ hD4) ⟨m5,hn5⟩ ?_;have CL:s2.heap.objs.size<=P2.objs.size:=CS;have fp0:CD X pq H2 P2.objs.size:=I2.fpOk CS (fresh2 _ CS);exact⟨by rw[Ah (É hDC)];exact fC,fp0.2⟩
  .obtain⟨k,hDo⟩:=hpl;have I4p:=I4.pinned (fp:=[s2.heap.objs.size]) (λb hb=>by rw[Û.mp hb];exact Dok hD4) (λb hb=>by rw[Û.mp hb];exact⟨_,hDo,λv z=>(by cases z)⟩)
   refine AQ (T.item (Ar X scope cl' N' P2.objs.size s2 H2 fp xb) rfl rfl rfl (hc _ _ _ _ _ _ _ _ I2) i _ s4 τ H4 _ I4p (statp fr4) st4 go) λr s5 zz=>?_
   obtain⟨u,hr,h5⟩:=zz;subst hr;refine AQ h5 λ_ s6 zz=>?_
   obtain⟨x,H6,I6,r6,y6,st6,fr6⟩:=zz;have I6':=I6.pinned (statp fr6) (T.obj _ _ st6);refine AQ (hg _ _ _ _ _ _ hpb _ s6 τ H6 x u _ I6' r6 (step x H6 y6)) λ_ s7 zz=>?_
   obtain⟨τ7,H7,I7,q7⟩:=zz;refine AQ (ht _ _ _ _ _ _ hpb _ s7 τ7 H7 _ I7 q7) λok s7b zz=>?_
   obtain⟨H7b,I7b,q7b⟩:=zz;have Aq:∀{H8:Hp} {s8:Shared} {τ8:L2.St},Inv (Ar X scope cl' N' P2.objs.size s2 H2 fp xb) (pq++Gy [s2.heap.objs.size] s4.heap++Gy fp s6.heap) τ8 H8 s8->∀h9:Heap,(∀b o,b≠s2.heap.objs.size->s8.heap.get? b=some o->h9.get? b=some o)->tn (i+1) h9/\∀b∈fp,H8 b=none:=λ{H8 s8 τ8} I8 h9 sb=>by
    refine⟨T.keep _ _ _ st6 λb hb o e=>?_,λb hb=>?_⟩
    .exact sb b o (below b (fpold b hb)).2 (I8.pin (b,o) (ã _ (ã _ (HF hb e)))).1
    .obtain⟨o,e,d⟩:=T.obj _ _ st6 b hb;exact(I8.pin (b,o) (ã _ (ã _ (HF hb e)))).2.1
   cases ok with
   |false=>
    rw[if_neg (by decide)]at q7b ⊢
    have hD8:=I7b.pin (s2.heap.objs.size,_) (ã _ (Ē _ (ã _ (HF (Û.mpr rfl) hDo))));obtain⟨t9,f9⟩:=Aq I7b s7b.heap λb o _ e=>e
    exact⟨n - (i+1),by omega,i+1,ys,τ7,H7b,rfl,I7b.unpinned.unpinned,t9,f9,hD8.2.1,⟨its,rv,k,hD8.1⟩,q7b⟩
   |true=>
    rw[if_pos rfl]at q7b ⊢;refine AQ (he _ _ _ _ _ _ hpb _ s7b τ7 H7b _ I7b q7b) λuy s8 zz=>?_
    obtain⟨y,H8,I8,ry,w8⟩:=zz;have hD8:=I8.pin (s2.heap.objs.size,_) (ã _ (Ē _ (ã _ (HF (Û.mpr rfl) hDo))));have P8:s8.heap.PlainList s2.heap.objs.size its.toArray:=⟨k,hD8.1⟩;have hlen:=rv.length;refine wpAny_list_append_plain P8 (λh' pl' sb=>?_) (by rw[ô,<- hlen];omega)
    have I8u :=I8.unpinned.unpinned;obtain⟨d1,d2,d3,d4,d5,d6⟩:=Dok hD8.2.1;have I9 :=I8u.turned (t':=s8.toks) (λb o hb e=>(sb.2 b hb).trans e) d1 d2 d4 d5 d6
    obtain⟨t9,f9⟩:=Aq I8 h' λb o hb e=>(sb.2 b hb).trans e
    exact⟨n - (i+1),by omega,i+1,ys++[y],τ7,H8,rfl,I9,t9,f9,hD8.2.1,⟨its++[uy],rv.append (.cons ry .nil),by simpa using pl'⟩,w8⟩
 refine codeAny_compStart_list (loop _ rfl) (T.self _ 0 _ _ _ (T.keep _ _ _ st2 λb _ o e=>old b o e) (loop _ rfl))
theorem zoc(σ' )(hclos:closureFor scope X.env=pure cl)(hkind:scope.kind=.function)(hnames:∀y∈scope.names,y.2=.local->scope.names.lookup y.1=some .local)
    (hcl:∀y c,cl.lookup y=some c->X.env.cells.lookup y=some c) (hhas:∀y,(relabel scope X.env).names.lookup y=some .cell\/(relabel scope X.env).names.lookup y=some .free->(y,NameKind.cell)∈scope.names\/∃c,cl.lookup y=some c) (hcap:∀(σ:L2.St) (i:Nat) (y:Str) (v:V),N'[i]?=some y->(σ' σ)[i]?=some (some v)->(y,NameKind.cell)∉scope.names)
    (hσ:∀σ:L2.St,σ.length=X.N.length->(σ' σ).length=N'.length)
    (hvis:∀(σ:L2.St) (i:Nat) (y:Str) (v:V),N'[i]?=some y->(σ' σ)[i]?=some (some v)->((relabel scope X.env).names.lookup y=some .cell\/(relabel scope X.env).names.lookup y=some .free)/\∃j:Nat,X.N[j]?=some y/\σ[j]?=some (some v)/\DB X.env.scope y/\X.env.kindOf y≠some .local)
     (hc:∀pq σ H s cl C ex xb,Inv X pq σ H s->cq (Ar X scope cl N' C s H ex xb)) (hi:PJ cq X tg iter wi)  (hps:BI X E) (hst:Hg X) {σ:L2.St} (hg:∀cl C s₀ H₀ ex xb,BI (Ar X scope cl N' C s₀ H₀ ex xb) (λ_=>E σ)->PG (Ar X scope cl N' C s₀ H₀ ex xb) tg g) (ht:∀cl C s₀ H₀ ex xb,BI (Ar X scope cl N' C s₀ H₀ ex xb) (λ_=>E σ)->Gn (Ar X scope cl N' C s₀ H₀ ex xb) ifs tt) (he:∀cl C s₀ H₀ ex xb,BI (Ar X scope cl N' C s₀ H₀ ex xb) (λ_=>E σ)->PE (Ar X scope cl N' C s₀ H₀ ex xb) elt te)
    (hs:∀x,foldedSetIterable iter X.env x=pure x)   {H:Hp} {Q:VK} (I:Inv X pq σ H s) (h:Kz σ' wi g tt te σ H Q) :
    wpAny (model X.prog X.w) X.A (eval (.ListComp elt [⟨tg,iter,ifs,0⟩] scope pos) X.env) (EP X pq σ Q) X.xe s:=by
  refine Y1 σ' hclos hkind hnames hcl hhas hcap hσ hvis hc hi hps hst hg ht he hs I h λD C s5 H5 I5 q5 ⟨m,hm⟩ f=>⟨m,hm,λh' sb=>?_⟩
  exact⟨.ref D,H5,GN (ch:=[C]) I5 (λb o hb e=>(sb.2 b (λz=>hb (by simp[z]))).trans e) (λb hb=>by grind),rfl,q5⟩
theorem zod(σ' )(hclos:closureFor scope X.env=pure cl)(hkind:scope.kind=.function)(hnames:∀y∈scope.names,y.2=.local->scope.names.lookup y.1=some .local)
  (hcl:∀y c,cl.lookup y=some c->X.env.cells.lookup y=some c) (hhas:∀y,(relabel scope X.env).names.lookup y=some .cell\/(relabel scope X.env).names.lookup y=some .free->(y,NameKind.cell)∈scope.names\/∃c,cl.lookup y=some c) (hcap:∀(σ:L2.St) (i:Nat) (y:Str) (v:V),N'[i]?=some y->(σ' σ)[i]?=some (some v)->(y,NameKind.cell)∉scope.names)
  (hσ:∀σ:L2.St,σ.length=X.N.length->(σ' σ).length=N'.length)
  (hvis:∀(σ:L2.St) (i:Nat) (y:Str) (v:V),N'[i]?=some y->(σ' σ)[i]?=some (some v)->((relabel scope X.env).names.lookup y=some .cell\/(relabel scope X.env).names.lookup y=some .free)/\∃j:Nat,X.N[j]?=some y/\σ[j]?=some (some v)/\DB X.env.scope y/\X.env.kindOf y≠some .local)
  (hc:X.calm=true) (hi:PI X tg iter wi)  (hps:BI X E) (hst:Hg X)  (hg:∀cl C s₀ H₀ ex xb,BI (Ar X scope cl N' C s₀ H₀ ex xb) (λ_=>E σ)->PG (Ar X scope cl N' C s₀ H₀ ex xb) tg g) (ht:∀cl C s₀ H₀ ex xb,BI (Ar X scope cl N' C s₀ H₀ ex xb) (λ_=>E σ)->Gn (Ar X scope cl N' C s₀ H₀ ex xb) ifs tt) (he:∀cl C s₀ H₀ ex xb,BI (Ar X scope cl N' C s₀ H₀ ex xb) (λ_=>E σ)->PE (Ar X scope cl N' C s₀ H₀ ex xb) elt te)
  (hs:∀x,foldedSetIterable iter X.env x=pure x)   {H:Hp} {D:Ends} {i:Nat} {x:Str}  (hN:X.N.Nodup) (hix:X.N[i]?=some x) (hx:X.env.scope.names.lookup x=some .local)
  (hsw:swapsWith (.ListComp elt [⟨tg,iter,ifs,0⟩] scope pos) (some (.Name x pos')) pos2.line X.env=pure true)
  (I:Inv X pq σ H s) (h:Kz σ' wi g tt te σ H λv H1=>D.nx (σ.set i (some v)) H1) :
  wpAny (model X.prog X.w) X.A (exec (.Assign [.Name x pos'] (.ListComp elt [⟨tg,iter,ifs,0⟩] scope pos) pos2) X.env) (SP X pq D) X.xe s:=by
 rw[exec_Assign_Name_used _ _ _ _ hsw];refine À (ĳ (À ?_));refine À (è (Y1 σ' hclos hkind hnames hcl hhas hcap hσ hvis (λ_ _ _ _ _ _ _ _ _=>hc) (Vz hi) hps hst hg ht he hs I h λA C s5 H5 I5 q5 ⟨m,hm⟩ f=>?_) (λ_ s' hq=>Å (Å hq)) λ_ _ e=>e)
 show wpAny _ X.A (assign (.Name x pos') X.env (.ref A)) _ _ _;refine wpAny_assign_Name (TX I5 hN hix (.inl hx) (v:=.ref A) rfl (λs6 I6 zz=>?_) (.inr hx))
 obtain⟨a,sb,ha⟩:=zz;have hCa:C≠a:=by
  rcases ha with rfl|ha
  .exact f.2.1
  .exact λz=>f.2.2.2.2.1 x a ha z.symm
 refine⟨m,hm.sameBut sb hCa,λh' sb2=>⟨_,H5,GN (ch:=[C]) I6 (λb o hb e=>(sb2.2 b (λz=>hb (by simp[z]))).trans e) (λb hb=>by rw[Û.mp hb];exact f),q5⟩⟩
end
structure RpO(K:k6)(F H:Hp)(l:kL)(xs:kK)(R:Nat->Rg):Prop where
 len:l.length=xs.length
 rep:∀(i:Nat) (t:T) (x:V),l[i]?=some t->xs[i]?=some x->Rp K F H t x (R i)
 dis:∀i j a,i≠j->R i a->¬ R j a
 out:∀i a,R i a->i<l.length
section
variable {K:k6}{F H F1 H1:Hp}{l:kL}{xs:kK}{R:Nat->Rg}{B:Rg}
theorem RpO.nil:RpO K F H [] [] (λ_=>R0):=⟨rfl,λi t x h=>by simp at h,λ_ _ _ _ z=>z.elim,λ_ _ z=>z.elim⟩
theorem RpO.dom(h:RpO K F H l xs R)(z:R i a):F a=none/\∃u,H a=some u:=by
 have hi:=h.out i a z;have hx:i<xs.length:=by have:=h.len;omega
 exact(h.rep i _ _ (Â hi) (Â hx)).dom z
theorem RpO.ext(h:RpO K F H l xs R)(e:Ext F H F1 H1 B):RpO K F1 H1 l xs R:=⟨h.len,λi t x h1 h2=>(h.rep i t x h1 h2).ext e,h.dis,h.out⟩
theorem RpO.apart(h:RpO K F H l xs R)(e:Ext F H F1 H1 B)(hb:B b)(i):¬ R i b:=λz=>by
 obtain⟨f,u,q⟩:=h.dom z;rw[e.nb b hb]at q;cases q
theorem RpO.snoc(h:RpO K F H l xs R) (r:Rp K F H t x B)(d:∀i a,R i a->¬ B a):RpO K F H (l++[t]) (xs++[x]) (λj=>if j=l.length then B else R j):=by
 have hl:=h.len;refine⟨by simp[hl],λi t' x' h1 h2=>?_,λi j a hij z1 z2=>?_,λi a z=>?_⟩
 .by_cases hi:i=l.length
  .subst hi;rw[if_pos rfl];have e1:=by simpa using h1
   have e2:=by rw[hl]at h2;simpa using h2
   subst e1;subst e2;exact r
  .rw[if_neg hi]
   have hlt:i<l.length:=by
    have:=(Í.mp h1).1;simp at this
    omega
   rw[ú hlt]at h1;rw[ú (by omega)]at h2
   exact h.rep i t' x' h1 h2
 .by_cases hi:i=l.length
  .erw[hi,È]at z1;have hj:¬ j=l.length:=λz=>hij (hi.trans z.symm)
   erw[hj,Ã]at z2;exact d j a z2 z1
  .erw[hi,Ã]at z1
   by_cases hj:j=l.length
   .erw[hj,È]at z2;exact d i a z1 z2
   .erw[hj,Ã]at z2;exact h.dis i j a hij z1 z2
 .by_cases hi:i=l.length
  .simp[hi]
  .erw[hi,Ã]at z;have:=h.out i a z;simp
   omega
theorem RpO.cons(h:RpO K F H l xs R)   (r:Rp K F H t x B)(d:∀i a,R i a->¬ B a):RpO K F H (t::l) (x::xs) (λj=>match j with|0=>B|j+1=>R j):=by
 refine⟨by simp[h.len],λi t' x' h1 h2=>?_,λi j a hij z1 z2=>?_,λi a z=>?_⟩
 .cases i with
  |zero=>simp at h1 h2;subst h1;subst h2;exact r|succ i=>exact h.rep i t' x' (by simpa using h1) (by simpa using h2)
 .cases i with
  |zero=>
   cases j with
   |zero=>exact hij rfl|succ j=>exact d j a z2 z1
  |succ i=>
   cases j with
   |zero=>exact d i a z1 z2|succ j=>exact h.dis i j a (λz=>hij (by rw[z])) z1 z2
 .cases i with
  |zero=>simp|succ i=>have:=h.out i a z;simp;omega
theorem RpO.list(h:RpO K F H l xs R)(s:A4 F H)  (hp:H p=none):Rp K F (upd H p (.lst xs)) (.own l) (.ref p) (λa=>a=p\/∃i,R i a)/\Ext F H F (upd H p (.lst xs)) (λa=>a=p):=by
 have e:=Ext.newO (o:=.lst xs) s hp;have h':=h.ext e;exact⟨.own (k:=.lst) trivial R (FV s hp) Be h.len h'.rep h.dis (λi z=>h.apart e rfl i z) h.out,e⟩
end
def AM(ma mk:AH):AH:=λτ=>match ma τ with
 |some (.v t b)=>(match mk τ with
  |some (.v (.int i) _)=>(match t with
   |.nd _ _ l=>(match AU l i with
    |some c=>some (.v c (b && !c.sh))|none=>none)
   |.str z=>if z.length<=Az then (match AU z.cps.toList i with
    |some c=>some (.v (.str ⟨#[c]⟩) false)|none=>none) else none
   |_=>none)
  |some (.v _ _)=>none|r=>r)
 |r=>r
theorem zll{c}(e:l.length=m.length)(h:AU l i=some c):∃(j:Nat) (d:β),l[j]?=some c/\m[j]?=some d/\AU m i=some d:=by
 unfold AU at h ⊢;rw[<- e];cases q:Bu l.length i with
 |none=>grind|some j=>
  rw[q]at h;have h' :=h
  have hj:j<m.length:=by
   grind
  exact⟨j,m[j],h',Â hj,Â hj⟩
section
variable {K:k6}{F H:Hp}
theorem Rp.seq      (s:A4 F H)(h:Rp K F H (.nd o k l) x A):∃p xs,x=.ref p/\(AX K H p xs\/Bp K H p xs)/\l.length=xs.length/\∀(i:Nat) (t ) (x ),l[i]?=some t->xs[i]?=some x->∃B,(∀a,B a->A a)/\Rp K F H t x B:=by
 cases h with
 |@shr k p xs l h e c=>
  refine⟨p,xs,rfl,?_,e,λi t x h1 h2=>⟨R0,λ_ z=>z.elim,c i t x h1 h2⟩⟩
  cases k with
  |lst=>exact .inl (AX.of (s _ _ h))|rl=>exact .inl (s.seq h.l)|tup=>exact .inr (Bp.of (s _ _ h))|rt=>exact .inr (GU s h)|pin q=>exact .inl (AX.of (s _ _ h))
 |@own k0 p xs l hk R f h e c d dp o=>
  refine⟨p,xs,rfl,?_,e,λi t x h1 h2=>⟨R i,λa z=>.inr ⟨i,z⟩,c i t x h1 h2⟩⟩
  cases k with
  |tup=>exact .inr (Bp.of h)|_=>exact .inl (AX.of h)
end
section
variable {X:Cx}{E:L2.St->XK}{ca:Str->Value}{σ:L2.St}{H:Hp}{m ma mb mc:AH}{ms:Av}{K:k6}{a b c e:Expr}{es:kC}{pos:Pos}
theorem tM_ix(h:tM K E ca (AM ma mb) σ H Q):Hn (Vs K) (tM K E ca ma) (tM K E ca mb) σ H Q:=by
 obtain⟨F,τ,R,S,q⟩:=h;refine⟨F,τ,R,S,?_⟩;unfold AM at q;cases hm:ma τ with
 |none=>erw[hm]at q<;>exact q.elim|some r=>
  erw[hm]at q;cases r with
  |x c=>exact q|v t bb=>
   intro F1 H1 x B e1 g1;have S1:=S.ext e1;refine⟨F1,τ,R,S1,?_⟩;cases hk:mb τ with
   |none=>erw[hk]at q<;>exact q.elim|some r=>
    erw[hk]at q;cases r with
    |x c=>exact λF' H' e=>q F' H' ((e1.trans e).mono λ_ z=>z.elim)|v tk bk=>
     cases tk with
     |int i=>
      intro F2 H2 y C e2 g2
      have hy:y=.int i:=by
       cases bk with
       |true=>obtain⟨_,A,_,r⟩:=g2;exact r.int_inv
       |false=>exact(g2).int_inv
      subst hy;have e02 :=(e1.trans e2).mono λ_ z=>.inl z
      have S2:=S1.ext e2;cases t with
      |nd o k l=>
       simp only at q;cases hc:AU l i with
       |none=>erw[hc]at q<;>exact q.elim|some cc=>
        erw[hc]at q
        have node:∃A0,(bb=true->∀a,A0 a->tot R a)/\(bb=false->∀a,A0 a->B a)/\Rp K F2 H2 (.nd o k l) x A0:=by
         cases bb with
         |true=>obtain⟨_,A,hA,r⟩:=g1;exact⟨A,λ_=>hA,(λz=>by cases z),r.ext e2⟩
         |false=>exact⟨B,(λz=>by cases z),λ_ _ z=>z,(g1).ext e2⟩
        obtain⟨A0,hA1,hA2,rn⟩:=node;obtain⟨p,xs,rfl,hq,hl,kids⟩:=Rp.seq S2.fh rn;obtain⟨j,d,h1,h2,h3⟩:=zll hl hc;obtain⟨A1,hA,rk⟩:=kids j cc d h1 h2
        have qq :=by
         cases bb with
         |false=>exact q F2 H2 d A1 (e02.mono λa z=>hA2 rfl a (hA a z)) rk|true=>
          cases hs:cc.sh with
          |true=>rw[hs]at q;exact q F2 H2 d R0 (e02.mono λ_ z=>z.elim) (rk.move hs (.refl _))|false=>rw[hs]at q;exact q F2 H2 d R0 (e02.mono λ_ z=>z.elim) ⟨rfl,A1,λa z=>hA1 rfl a (hA a z),rk⟩
        rcases hq with hq|hq
        .exact .inl ⟨p,xs,i,d,rfl,rfl,hq,h3,qq⟩
        .exact .inr (.inl ⟨p,xs,i,d,rfl,rfl,hq,h3,qq⟩)
      |str z=>
       by_cases hz:z.length<=Az
       .erw[hz,È]at q;cases hc:AU z.cps.toList i with
        |none=>erw[hc]at q<;>exact q.elim|some cc=>
         erw[hc]at q
         have hx:x=.str z:=by
          cases bb with
          |true=>obtain⟨_,A,_,r⟩:=g1;exact r.str_inv
          |false=>exact(g1).str_inv
         subst hx;exact .inr (.inr ⟨z,i,cc,rfl,rfl,by rw[<- FZ];exact hz,hc,q F2 H2 _ R0 (e02.mono λ_ z=>z.elim) (.str _)⟩)
       .erw[hz,Ã]at q<;>exact q.elim
      |_=>exact q.elim
     |_=>exact q.elim
theorem r_ix(ha:PE X a (tM X.K E ca ma))(hb:PE X b (tM X.K E ca mb))(hs:Kf b):PE X (.Subscript a b pos) (tM X.K E ca (AM ma mb)):=PE.weak (O6 zor ha hb hs) λσ H Q h=>tM_ix h
def BY{α:Type}(l:List α)(lo hi:kA):List α:=(l.drop (HT.sIx l.length 0 lo)).take (HT.sIx l.length l.length hi - HT.sIx l.length 0 lo)
noncomputable def Et(m:Option (AH)):AK->Option (kA):=λτ=>match m with
 |none=>some none|some m=>match m τ with
  |some (.v (.int i) _)=>some (some i)|_=>none
def EM(ma:AH)(ml mh:Option (AH)):AH:=λτ=>match ma τ with
 |some (.v t false)=>(match Et ml τ with
  |some lo=>(match Et mh τ with
   |some hi=>(match t with
    |.nd _ .lst l=>some (.v (.own (BY (BJ l) lo hi)) false)|.nd _ .rl l=>some (.v (.own (BY (BJ l) lo hi)) false)|_=>none)
   |none=>none)
  |none=>none)
 |some (.v _ true)=>none|r=>r
def Gr(K:k6)(m:Option (AH)):TO:=λσ H Q=>∃F τ R o,StR K F H σ τ R/\Et m τ=some o/\∀F' H',Ext F H F' H' R0->Q o H'
theorem r_po0:PO X none (Gr X.K none):=λpq s σ H Q I h=>by
 obtain⟨F,τ,R,o,S,e,q⟩:=h;cases e;exact zjx pq s σ H Q I (q F H (Ext.refl S.fh))
theorem r_po1(ha:PE X e (tM X.K E ca m)):PO X (some e) (Gr X.K (some m)):=λpq s σ H Q I h=>by
 obtain⟨F,τ,R,o,S,e',q⟩:=h;refine zjw ha pq s σ H Q I ⟨F,τ,R,S,?_⟩;unfold Et at e';simp only at e';cases hm:m τ with
 |none=>grind|some r=>
  rw[hm]at e';cases r with
  |x c=>cases e'|v v b=>
   cases v with
   |int i=>
    cases e';intro F' H' x B e g
    have hx:x=.int i:=by
     cases b with
     |true=>obtain⟨_,A,_,r⟩:=g;exact r.int_inv
     |false=>exact(g).int_inv
    exact⟨i,hx,q F' H' (e.mono λ_ z=>z.elim)⟩
   |_=>cases e'
theorem zi9(r:Ag K F l xs)(lo hi):Ag K F (BY l lo hi) (KN xs lo hi):=by
 have hl:=r.1;unfold BY KN;rw[hl];refine⟨by simp[hl],λi t x h1 h2=>?_⟩
 rw[List.getElem?_take]at h1 h2;split at h1
 .rename_i hi';rw[if_pos hi',ħ]at h2;rw[ħ]at h1;exact r.2 _ t x h1 h2
 .cases h1
theorem Vd{lo hi}(ha:PE X a (tM X.K E ca ma))(hl:PO X lo (Gr X.K ml))(hh:PO X hi (Gr X.K mh)):PE X (.Subscript a (.Slice lo hi none p2) pos) (tM X.K E ca (EM ma ml mh)):=by
 refine PE.weak (WC zj6 ha hl hh) λσ H Q h=>?_
 obtain⟨F,τ,R,S,q⟩:=h;refine⟨F,τ,R,S,?_⟩;unfold EM at q;cases hm:ma τ with
 |none=>erw[hm]at q<;>exact q.elim|some r=>
  erw[hm]at q;cases r with
  |x c=>exact q|v t bb=>
   cases bb with
   |true=>exact q.elim|false=>
    intro F1 H1 x B e1 g1;obtain⟨F1',e1',_,r1⟩:=DC.frz S e1 g1;have S1:=S.ext e1';simp only at q;cases h1:Et ml τ with
    |none=>erw[h1]at q<;>exact q.elim|some lo'=>
     erw[h1]at q;refine⟨F1',τ,R,lo',S1,h1,λF2 H2 e2=>?_⟩
     have S2:=S1.ext e2;cases h2:Et mh τ with
     |none=>erw[h2]at q<;>exact q.elim|some hi'=>
      erw[h2]at q;refine⟨F2,τ,R,hi',S2,h2,λF3 H3 e3=>?_⟩
      have S3:=S2.ext e3;have e03:=e1'.trans0 (e2.trans0 e3);have r3:Rp X.K F3 F3 t.share x R0:=(r1).frame (e2.ff.trans e3.ff) λ_ z=>z.elim
      have key:∀{o } {k } {l },t=.nd o k l->(k=.lst\/k=.rl)->(∀F' H' x B,Ext F H F' H' B->Rp X.K F' H' (.own (BY (BJ l) lo' hi')) x B->Q x H')->Vo X.K x lo' hi' H3 Q:=by
       intro o k l et hk qq;subst et;rw[T.share]at r3;obtain⟨p,xs,rfl,_,n3,k3⟩:=DY r3
       have sq:AX X.K H3 p xs:=by
        rcases hk with rfl|rfl
        .exact AX.of (S3.fh _ _ n3)
        .exact S3.fh.seq n3.l
       refine⟨p,xs,rfl,sq,λp' hp'=>?_⟩
       have gg:DE X.K F3 H3 (.own (BY (BJ l) lo' hi')) Q:=λF' H' z C e g=>qq F' H' z C (e03.trans0 e) g
       exact gg.list S3.fh (zi9 k3 lo' hi') hp'
      cases t with
      |nd o k l=>
       cases k with
       |lst=>exact key rfl (.inl rfl) q|rl=>exact key rfl (.inr rfl) q|tup=>exact q.elim|rt=>exact q.elim|pin _=>exact q.elim
      |_=>exact q.elim
def pMo(K:k6)(E:L2.St->XK)(ca:Str->Value)(σ:L2.St)(Q:kK->Hp->Prop)(F H:Hp):Option RsL->Prop
 |some (.v ts _)=>∀F' H' xs (Rr:Nat->Rg),Ext F H F' H' (tot Rr)->RpO K F' H' ts xs Rr->Q xs H'|some (.x c)=>∀F' H',Ext F H F' H' R0->XE (E σ) ca c F' H'|none=>False
def JJ(K:k6)(E:L2.St->XK)(ca:Str->Value)(m:Av):TA:=λσ H Q=>∃F τ R,StR K F H σ τ R/\pMo K E ca σ Q F H (m τ)
noncomputable def Ao(m:AH)(ms:Av):Av:=λτ=>match m τ with
 |some (.v t false)=>(match ms τ with
  |some (.v ts _)=>some (.v (t::ts) false)|r=>r)
 |some (.v _ true)=>none|some (.x c)=>some (.x c)|none=>none
theorem zmt:PA X [] (JJ X.K E ca AD):=PA.weak DW λσ H Q h=>by
 obtain⟨F,τ,R,S,q⟩:=h;exact q F H [] (λ_=>R0) ((Ext.refl S.fh).mono λa ⟨i,z⟩=>z.elim) .nil
theorem zjk(ha:PE X e (tM X.K E ca m))(hr:PA X es (JJ X.K E ca ms))(hs:starEach (e::es) X.env=(false,eval e X.env)::starEach es X.env):PA X (e::es) (JJ X.K E ca (Ao m ms)):=by
 refine PA.weak (CY ha hr hs) λσ H Q h=>?_
 obtain⟨F,τ,R,S,q⟩:=h;refine⟨F,τ,R,S,?_⟩;unfold Ao at q;cases hm:m τ with
 |none=>erw[hm]at q<;>exact q.elim|some r=>
  erw[hm]at q;cases r with
  |x c=>exact q|v t bb=>
   cases bb with
   |true=>exact q.elim|false=>
    intro F1 H1 x B e1 g1;have S1:=S.ext e1;refine⟨F1,τ,R,S1,?_⟩;cases hs:ms τ with
    |none=>erw[hs]at q<;>exact q.elim|some r=>
     erw[hs]at q;cases r with
     |x c=>exact λF' H' e=>q F' H' ((e1.trans e).mono λ_ z=>z.elim)|v ts b'=>
      intro F2 H2 xs Rr e2 ro;have g1' :=g1;refine q F2 H2 (x::xs) _ ((e1.trans e2).mono ?_) (ro.cons (g1'.ext e2) λi a z=>?_)
      .rintro a ⟨j,z⟩;cases j with
       |zero=>exact .inl z|succ j=>exact .inr ⟨j,z⟩
      .exact g1'.apart e2 ⟨i,z⟩
def Ay(ms:Av):AH:=λτ=>match ms τ with
 |some (.v ts _)=>if ts.length<=Az then some (.v (.own ts) false) else none
 |some (.x c)=>some (.x c)|none=>none
theorem r_lst(h:PA X es (JJ X.K E ca ms)):PE X (.List es pos) (tM X.K E ca (Ay ms)):=by
 refine PE.weak (znf h) λσ H Q h=>?_
 obtain⟨F,τ,R,S,q⟩:=h;refine⟨F,τ,R,S,?_⟩;unfold Ay at q;cases hm:ms τ with
 |none=>erw[hm]at q<;>exact q.elim|some r=>
  erw[hm]at q;cases r with
  |x c=>exact q|v ts b=>
   intro F1 H1 xs Rr e1 ro
   by_cases hz:ts.length<=Az
   .erw[hz]at q;refine⟨by rw[<- ro.len];exact hz,λp hp=>?_⟩
    obtain⟨r,e2⟩:=ro.list e1.fh hp;refine q F1 _ _ _ ((e1.trans e2).mono ?_) r;rintro a (z|⟨i,z⟩)
    .exact .inr z
    .exact .inl ⟨i,z⟩
   .erw[hz]at q<;>exact q.elim
def CK(ms:Av):AH:=λτ=>match ms τ with
 |some (.v ts false)=>if ts.length<=Az then some (.v (.tup ts) false) else none
 |some (.v _ true)=>none|some (.x c)=>some (.x c)|none=>none
theorem r_tup(h:PA X es (Bv X.K E ca ms)):PE X (.Tuple es k pos) (tM X.K E ca (CK ms)):=by
 refine PE.weak (WA h) λσ H Q h=>?_
 obtain⟨F,τ,R,S,q⟩:=h;refine⟨F,τ,R,S,?_⟩;unfold CK at q;cases hm:ms τ with
 |none=>erw[hm]at q<;>exact q.elim|some r=>
  erw[hm]at q;cases r with
  |x c=>exact q|v ts b=>
   cases b with
   |true=>exact q.elim|false=>
    intro F1 H1 xs e1 rs
    by_cases hz:ts.length<=Az
    .erw[hz]at q;refine⟨by rw[<- rs.1];exact hz,λp hp=>?_⟩
     have gg:DE X.K F1 H1 (.tup ts) Q:=λF' H' z C e g=>q F' H' z C (e1.trans0 e) g
     exact gg.tuple e1.fh rs hp
    .erw[hz]at q<;>exact q.elim
theorem zn1{id}(hc:Bj X (.builtin id) (DJ X.K g))(hg:Gl X x)(hm:X.mg x=none)(hv:bootBuiltins x=some (.builtin id))(ha:PA X (e::es) (Bv X.K E ca ms))(hn:x≠"__name__")(hdb:(x == "__debug__")=false)
  (he:starEach (e::es) X.env=(false,eval e X.env)::starEach es X.env) (hpl:(backTo pos (starEach es X.env)).any (·.1)=false):PE X (.Call (.Name x p) (e::es) [] pos) (tM X.K E ca (BM g ms)):=
 PE.weak (Hu hc hg hm hv ha hn hdb he hpl) λσ H Q h=>Fh h
theorem Vm(hc:Bj X (.type T') (DJ X.K g))(hg:Gl X x)(hm:X.mg x=none)(hv:bootBuiltins x=some (.type T'))(ha:PA X (e::es) (Bv X.K E ca ms))(hn:x≠"__name__")(hdb:(x == "__debug__")=false)
  (he:starEach (e::es) X.env=(false,eval e X.env)::starEach es X.env) (hpl:(backTo pos (starEach es X.env)).any (·.1)=false):PE X (.Call (.Name x p) (e::es) [] pos) (tM X.K E ca (BM g ms)):=
 PE.weak (Le hc hg hm hv ha hn hdb he hpl) λσ H Q h=>Fh h
end
def BL:T->kH
 |.nd _ _ l=>some (.int l.length)|.str z=>if z.length<=Az then some (.int z.length) else none
 |_=>none
def CA:T->kH
 |.nd _ _ l=>some (.own l)|_=>none
def Ie:T->kH
 |.int i=>some (.int (if i<0 then -i else i))
 |_=>none
def J7:T->T->kH
 |.int i,.int j=>some (.int (if j<i then j else i))
 |_,_=>none
noncomputable def Jx:T->kH
 |.int i=>some (.int i)|.bl k=>some (.int (if k then 1 else 0))
 |.str x=>if x.length<=640 then (intText? x).map T.int else none
 |_=>none
noncomputable def GB:kL->Option (List Bool)
 |[]=>some []|.bl b::r=>(match GB r with
  |some l=>some (b::l)|none=>none)
 |_::_=>none
def Fb:T->kH
 |.nd _ .lst l=>(match GB l with
  |some bs=>some (.bl (bs.all id))|none=>none)
 |_=>none
def KZ:T->kH
 |.nd _ .lst l=>(match GB l with
  |some bs=>some (.bl (bs.any id))|none=>none)
 |_=>none
def Si:Kd->Option String
 |.lst=>some "list"|.tup=>some "tuple"|.rl=>some "list"|.rt=>none|.pin _=>none
noncomputable def Kv:T->Option String
 |.non=>some "NoneType"|.bl _=>some "bool"|.int _=>some "int"|.str _=>some "str"|.nd _ k _=>Si k|.dic _ _=>some "dict"|.pdc _ _=>some "dict"|.odc _ _=>none|.obj _ _=>none|.oob _ _ _ _=>none|.osd _ _=>none
def Hk:List String:=["int","bool","str","list","tuple"]
def LD(a c:String):Bool:=a == c || (a == "bool" && c == "int")
def Cd(c:String)(t:T):kH:=match Kv t with
 |some a=>if c∈Hk then some (.bl (LD a c)) else none
 |none=>none
theorem zd8:W.kitMeta "str"=true:=by decide +kernel
theorem zc3:W.kitMeta "list"=true:=by decide +kernel
theorem Y6(K)(ha:a∈["NoneType","bool","int","str","list","tuple","dict"])(hc:c∈Hk):W.kitOne K (.type a) (.type c)=some (LD a c):=by
 have km:W.kitMeta c=true:=by
  erw[Hk,Ð,ì,ñ]at hc
  rcases hc with rfl|rfl|rfl|rfl|rfl
  .exact zd9
  .exact zc4
  .exact zd8
  .exact zc3
  .exact zbo
 by_cases h:a=c
 .subst h;rw[zhn];simp[LD]
 .refine zoj K (l:=[]) h km ?_;erw[Hk,Ð,ì,ñ]at hc ha
  rcases ha with rfl|rfl|rfl|rfl|rfl|rfl|rfl<;>rcases hc with rfl|rfl|rfl|rfl|rfl<;>first|exact absurd rfl h|decide +kernel
section
variable {X:Cx}
theorem zga:Bj X (.builtin "len") (DJ X.K (g1 BL)):=by
 intro pq s σ H xs us Q I r h;obtain⟨F,ts,v,fh,rs,e,q⟩:=h;unfold g1 at e;split at e
 .obtain⟨x1,xs1,rfl,r1,rs1⟩:=rs.inv;cases rs1.inv0;unfold BL at e;split at e
  .cases e;obtain⟨p,ys,rfl,hq,hl,_⟩:=Rp.seq fh (r1.any);refine aW pq s σ H _ us Q I r ⟨_,ys.length,rfl,?_,by rw[<- hl];exact q.int fh⟩
   rcases hq with hq|hq
   .exact .inl ⟨ys,hq,rfl⟩
   .exact .inr ⟨ys,hq,rfl⟩
  .split at e
   .cases e;rename_i hz;rw[r1.str_inv]at r;exact aW pq s σ H _ us Q I r ⟨_,_,rfl,⟨by exact hz,rfl⟩,q.int fh⟩
   .cases e
  .cases e
 .cases e
theorem zf5{K}(s:A4 F H)(h:Fc K F k p xs):AX K H p xs\/Bp K H p xs:=by
 cases k with
 |lst=>exact .inl (AX.of (s _ _ h))|rl=>exact .inl (s.seq h.l)|tup=>exact .inr (Bp.of (s _ _ h))|rt=>exact .inr (GU s h)|pin q=>exact .inl (AX.of (s _ _ h))
theorem aY:Bj X (.type "list") (DJ X.K (g1 CA)):=by
 intro pq s σ H xs us Q I r h;obtain⟨F,ts,v,fh,rs,e,q⟩:=h;unfold g1 at e;split at e
 .obtain⟨x1,xs1,rfl,r1,rs1⟩:=rs.inv;cases rs1.inv0;unfold CA at e;split at e
  .cases e;obtain⟨p,ys,rfl,rfl,n1,k1⟩:=DY r1;have hq :=zf5 fh n1;exact zd0 pq s σ H _ us Q I r ⟨p,ys,rfl,hq,λl hl=>q.list fh k1 hl⟩
  .cases e
 .cases e
theorem zgf:Bj X (.builtin "abs") (DJ X.K (g1 Ie)):=by
 intro pq s σ H xs us Q I r h;obtain⟨F,ts,v,fh,rs,e,q⟩:=h;unfold g1 at e;split at e
 .obtain⟨x1,xs1,rfl,r1,rs1⟩:=rs.inv;cases rs1.inv0;unfold Ie at e;split at e
  .cases e;rw[r1.int_inv]at r;exact zik pq s σ H _ us Q I r ⟨_,rfl,q.int fh⟩
  .cases e
 .cases e
theorem zgc:Bj X (.type "int") (DJ X.K (g1 Jx)):=by
 intro pq s σ H xs us Q I r h;obtain⟨F,ts,v,fh,rs,e,q⟩:=h;unfold g1 at e;split at e
 .obtain⟨x1,xs1,rfl,r1,rs1⟩:=rs.inv;cases rs1.inv0;unfold Jx at e;split at e
  .cases e;rw[r1.int_inv]at r;exact aX pq s σ H _ us Q I r (.inl ⟨_,rfl,q.int fh⟩)
  .cases e;rw[r1.bl_inv]at r;exact aX pq s σ H _ us Q I r (.inr ⟨_,rfl,q.int fh⟩)
  .split at e
   .obtain⟨n,hn,rfl⟩:=Õ.mp e;rw[r1.str_inv]at r;obtain⟨u,rfl,ru⟩:=r.one;obtain⟨t,rfl⟩:=ru;exact PySem.W.KIN.call_text hn ‹_› ⟨.int n,H,I.tok _,⟨_,rfl⟩,q.int fh⟩
   .cases e
  .cases e
 .cases e
theorem zg8{gi:Int->Int->Int}(hc:Bj X (.builtin f) (λxs H Q=>∃i j,xs=[.int i,.int j]/\Q (.int (gi i j)) H))(hg:∀t u v,g t u=some v->∃i j,t=.int i/\u=.int j/\v=.int (gi i j)):Bj X (.builtin f) (DJ X.K (g2 g)):=by
 intro pq s σ H xs us Q I r h;obtain⟨F,ts,v,fh,rs,e,q⟩:=h;unfold g2 at e;split at e
 .obtain⟨x1,xs1,rfl,r1,rs1⟩:=rs.inv;obtain⟨x2,xs2,rfl,r2,rs2⟩:=rs1.inv;cases rs2.inv0;obtain⟨i,j,rfl,rfl,rfl⟩:=hg _ _ _ e;rw[r1.int_inv,r2.int_inv]at r;exact hc pq s σ H _ us Q I r ⟨_,_,rfl,q.int fh⟩
 .cases e
theorem zg9(hc:X.calm=true):Bj X (.builtin "min") (DJ X.K (g2 J7)):=zg8 (zg5 hc) λt u v h=>by
 unfold J7 at h
 grind
theorem aZ:∀{l} {bs},GB l=some bs->l.length=bs.length/\∀(i:Nat) (t),l[i]?=some t->∃b,bs[i]?=some b/\t=.bl b
 |[],bs,h=>by cases h;exact⟨rfl,λi t e=>by simp at e⟩|t::r,bs,h=>by
  unfold GB at h;cases t with
  |bl b=>
   simp only at h;cases hr:GB r with
   |none=>erw[hr]at h;cases h|some l=>
    erw[hr]at h;cases h;obtain⟨h1,h2⟩:=aZ hr;refine⟨by simp[h1],λi t e=>?_⟩
    cases i with
    |zero=>simp at e;exact⟨b,rfl,e.symm⟩|succ i=>exact h2 i t (by simpa using e)
  |_=>cases h
theorem V5{bs:List Bool}(h:∀(i:Nat) (b:Bool),bs[i]?=some b->tr i=b):(List.range bs.length).all tr=bs.all id/\(List.range bs.length).any tr=bs.any id:=by
 have e:(List.range bs.length).map tr=bs:=by
  apply List.ext_getElem?
  grind
 constructor
 .have:(List.range bs.length).all tr=((List.range bs.length).map tr).all id:=by simp
  rw[this,e]
 .have:(List.range bs.length).any tr=((List.range bs.length).map tr).any id:=by simp
  rw[this,e]
theorem S6(hc:X.calm=true) {σ:L2.St}{H:Hp} (I:Inv X pq σ H s)(fh:A4 F H)(r1:Rp X.K F F (.nd o .lst l) (.ref p) R0)(hb:GB l=some bs)
  (hP : ∀ (I0) (wr fp) (St) (PP) (tr) (s2), Walks X.prog X.w X.A.in1 I0 fp wr bs.length PP St -> St 0 s2.heap -> TruthOf X.prog X.w X.A.in1 PP tr -> (∀ (i : Nat) (b : Bool), bs[i]? = some b -> tr i = b) ->
   (∀h' tk,(∀b o,b∉wr->s2.heap.get? b=some o->h'.get? b=some o)->Inv X pq σ H { s2 with heap:=h',toks:=tk})->P (.ref I0) s2):wpAny (model X.prog X.w) X.A.in1 (pyIter (.ref p)) P E' s:=by
 obtain⟨p',ys,e',rfl,n1,k1⟩:=DY r1;cases e';obtain⟨hlen,hget⟩:=aZ hb;obtain⟨its,rv,pl,hz⟩:=I.list (AX.of (fh _ _ n1));have hl:=rv.length
 have hne :=Ò (by
  obtain⟨o,n,e,_⟩:=pl;exact Ä e)
 have hh:X.A.in1.handled=none:=I.ok.hd hc
 have val:∀(i:Nat) (v),its[i]?=some v->∃b,bs[i]?=some b/\v=.bool b:=λi v hv=>by
  have hi:i<ys.length:=by
   have:=(Í.mp hv).1
   omega
  have hi2:i<l.length:=by rw[k1.1];exact hi
  obtain⟨b,h1,h2⟩:=hget i _ (Â hi2);have rr:=k1.2 i _ _ (Â hi2) (Â hi);rw[h2]at rr;obtain⟨u,e1,ru⟩:=rv.get (Â hi);rw[hv]at e1;cases e1;rw[rr.bl_inv]at ru;exact⟨b,h1,ru⟩
 have hbl:its.toArray.size=bs.length:=by rw[ô,<- hl,<- k1.1,hlen]
 refine ĝ pl.isList ?_;have W:=Walks.list (prog:=X.prog) (w:=X.w) hh s.heap.objs.size p hne its.toArray;rw[hbl]at W;refine hP s.heap.objs.size _ _ _ _ (λi=>bs.getD i false) _ W ⟨⟨_,à _ rfl,rfl,rfl⟩,?_⟩ ?_ ?_ ?_
 .obtain⟨o,ho,hr⟩:=pl.isList;exact⟨o,Ë _ ho,hr⟩
 .intro i v s' Q' E'' hv hq';obtain⟨b,h1,h2⟩:=val i v (by simpa using hv)
  subst h2;refine þ ?_;have e:bs.getD i false=b:=by rw[Ó,h1];rfl
  rw[<- e];exact hq'
 .intro i b hb';show bs.getD i false=b;rw[Ó,hb']
  rfl
 .intro h' tk k
  exact I.kept λb o e=>k b o (λz=>by
   rw[Û]at z;exact absurd (Ä e) (by rw[z];exact â _)) (Ë _ e)
theorem zge(hc:X.calm=true):Bj X (.builtin "all") (DJ X.K (g1 Fb)):=by
 intro pq s σ H xs us Q I r h;obtain⟨F,ts,v,fh,rs,e,q⟩:=h;unfold g1 at e;split at e
 .obtain⟨x1,xs1,rfl,r1,rs1⟩:=rs.inv;cases rs1.inv0;unfold Fb at e;split at e
  .split at e
   .cases e;rename_i bs hbs;obtain⟨p,rfl⟩:=r1.ref_inv;obtain⟨u,rfl,ru⟩:=EI r;cases ru;refine call_all_walk (S6 hc I fh r1 hbs λI0 wr fp St PP tr s2 W st0 tro htr Aq=>⟨I0,fp,wr,bs.length,PP,St,tr,rfl,W,st0,tro,λh' tk k=>?_⟩)
    rw[(V5 htr).1];exact⟨.bl _,H,Aq h' tk k,rfl,q.bl fh⟩
   .cases e
  .cases e
 .cases e
theorem zgd(hc:X.calm=true):Bj X (.builtin "any") (DJ X.K (g1 KZ)):=by
 intro pq s σ H xs us Q I r h;obtain⟨F,ts,v,fh,rs,e,q⟩:=h;unfold g1 at e;split at e
 .obtain⟨x1,xs1,rfl,r1,rs1⟩:=rs.inv;cases rs1.inv0;unfold KZ at e;split at e
  .split at e
   .cases e;rename_i bs hbs;obtain⟨p,rfl⟩:=r1.ref_inv;obtain⟨u,rfl,ru⟩:=EI r;cases ru;refine call_any_walk (S6 hc I fh r1 hbs λI0 wr fp St PP tr s2 W st0 tro htr Aq=>⟨I0,fp,wr,bs.length,PP,St,tr,rfl,W,st0,tro,λh' tk k=>?_⟩)
    rw[(V5 htr).2];exact⟨.bl _,H,Aq h' tk k,rfl,q.bl fh⟩
   .cases e
  .cases e
 .cases e
def Rc(K:k6)(H:Hp)(x:V)(a:String):Prop:=(a="dict"/\∃p ob kvs,x=.ref p/\H p=some (.frz ob (.dK kvs)))\/(a="list"/\∃p xs,x=.ref p/\AX K H p xs)
theorem Yh{σ:L2.St}(I:Inv X pq σ H s)(rx:A8 x u)(ty:Rc X.K H x a)(e:W.kitOne X.K (.type a) c=some b)(h:∀tk,Q (.bool b) { s with toks:=tk }) :
  wpAny (model X.prog X.w) A (call (.builtin "isinstance") [u,c]) Q E s:=by
 rcases ty with ⟨rfl,p,ob,kvs,rfl,ea⟩|⟨rfl,p,xs,rfl,hq⟩
 .cases rx;obtain⟨_,_,_,vs,_,q⟩:=(I.hok p _ ea);obtain⟨o,es,ep,h1,h2,_⟩:=q;exact ê Ű I.kIn ⟨o,h1,h2.1⟩ e (λz=>nomatch z) h
 .cases rx;obtain⟨its,r,⟨o,n,e1,e2,e3,e4⟩,_⟩:=I.list hq;exact ê ů I.kIn ⟨o,e1,e2⟩ e (λz=>nomatch z) h
theorem Sh(fh:A4 F H)(r:Rp X.K F F t x R0)(h:Kv t=some a):(TyOf X.K H x (.type a)\/Rc X.K H x a)/\a∈["NoneType","bool","int","str","list","tuple","dict"]:=by
 cases t with
 |non=>cases h;rw[r.non_inv];exact⟨.inl .non,by simp⟩|bl b=>cases h;rw[r.bl_inv];exact⟨.inl (.bl b),by simp⟩|int i=>cases h;rw[r.int_inv];exact⟨.inl (.int i),by simp⟩|str y=>cases h;rw[r.str_inv];exact⟨.inl (.str y),by simp⟩|nd o k l=>
  obtain⟨p,xs,rfl,_,n,_⟩:=DY r;cases k with
  |lst=>cases h;exact⟨.inl (.lst (fh _ _ n)),by simp⟩|tup=>cases h;exact⟨.inl (.tup (fh _ _ n)),by simp⟩|rl=>cases h;exact⟨.inr (.inr ⟨rfl,p,xs,rfl,fh.seq (GG.l n)⟩),by simp⟩|rt=>cases h|pin _=>cases h
 |dic ks l=>
  cases h;cases r with
  |dic h e ek c=>exact⟨.inr (.inl ⟨rfl,_,_,_,rfl,fh _ _ h⟩),by simp⟩
 |pdc ks l=>
  cases h;cases r with
  |pdc h e ek c=>exact⟨.inl (.dK (fh _ _ h)),by simp⟩
 |odc ks l=>cases h|obj k l=>cases h|oob p C fs l=>cases h|osd ks l=>cases h
theorem zgb:Bj X (.builtin "isinstance") (λxs H Q=>∃x,xs=[x,.ty c]/\DJ X.K (g1 (Cd c)) [x] H Q):=by
 intro pq s σ H xs us Q I r h;obtain⟨x,rfl,F,ts,v,fh,rs,e,q⟩:=h;unfold g1 at e;split at e
 .obtain⟨x1,xs1,e1,r1,rs1⟩:=rs.inv;cases e1;unfold Cd at e;split at e
  .rename_i a ha;split at e
   .cases e;rename_i hc;obtain⟨ty,hm⟩:=Sh fh r1 ha
    rcases ty with ty|hp
    .exact zih pq s σ H _ us Q I r ⟨x,_,_,rfl,ty,Y6 X.K hm hc,q.bl fh⟩
    .obtain⟨u,w',rfl,rx,ry⟩:=FO r;cases ry;exact Yh I rx hp (Y6 X.K hm hc) λtk=>⟨.bl _,H,I.tok _,rfl,q.bl fh⟩
   .cases e
  .cases e
 .cases e
def T.isN:T->Bool
 |.non=>true|_=>false
noncomputable def T.isB(b:Bool):T->Bool
 |.bl c=>c == b|_=>false
def Dh(neg:Bool)(t u:T):kH:=match u with
 |.non=>some (.bl (neg ^^ t.isN))|.bl b=>some (.bl (neg ^^ t.isB b))|_=>none
theorem aL{K}(r:Rp K F H t x A):decide (x=V.non)=t.isN:=by
 cases r<;>simp[T.isN]
theorem aM{K}(r:Rp K F H t x A):decide (x=V.bl b)=t.isB b:=by
 cases r<;>simp[T.isB]
 rfl
theorem znt:Ae X (compareOp .Is) (Bf X.K (Dh false)):=by
 intro pq s σ H x y v u Q I rx ry h;obtain⟨F,t1,t2,r,fh,r1,r2,e,q⟩:=h;unfold Dh at e;split at e
 .cases e;rw[r2.non_inv]at ry;refine znn pq s σ H _ _ v u Q I rx ry ⟨rfl,?_⟩;rw[aL r1];have:=q.bl fh
  simp_all
 .cases e;rw[r2.bl_inv]at ry;refine zno pq s σ H _ _ v u Q I rx ry ⟨_,rfl,?_⟩;rw[aM r1];have:=q.bl fh
  simp_all
 .cases e
theorem zf4:Ae X (compareOp .IsNot) (Bf X.K (Dh true)):=by
 intro pq s σ H x y v u Q I rx ry h;obtain⟨F,t1,t2,r,fh,r1,r2,e,q⟩:=h;unfold Dh at e;split at e
 .cases e;rw[r2.non_inv]at ry;refine zk5 pq s σ H _ _ v u Q I rx ry ⟨rfl,?_⟩;rw[aL r1];have:=q.bl fh
  simp_all
 .cases e;rw[r2.bl_inv]at ry;refine zk6 pq s σ H _ _ v u Q I rx ry ⟨_,rfl,?_⟩;rw[aM r1];have:=q.bl fh
  simp_all
 .cases e
end
section
variable {X:Cx}{E:L2.St->XK}{ca:Str->Value}{σ:L2.St}{H:Hp}{m ma mb mc:AH}{ms:Av}{K:k6}{a b c e:Expr}{es:kC}{pos p p2:Pos}
theorem r_isT{c}(hv:bootBuiltins cn=some (.type c))(hg:Gl X "isinstance")(hm:X.mg "isinstance"=none)(hgc:Gl X cn)(hmc:X.mg cn=none)(hn:cn≠"__name__")(hd:(cn == "__debug__")=false)(ha:PE X e (tM X.K E ca m))(he:starEach [e,.Name cn p2] X.env=(false,eval e X.env)::starEach [.Name cn p2] X.env) :
  PE X (.Call (.Name "isinstance" p) [e,.Name cn p2] [] pos) (tM X.K E ca (BM (g1 (Cd c)) (AB m AD))):=by
 refine PE.weak (Hu (zgb (c:=c)) hg hm ķ (CY ha (CY (WG (v:=.ty c) hgc hmc hv rfl hn hd) DW) he) (by decide) (by decide) he rfl) λσ H Q h=>?_
 exact(Fg (Fh h)).mono λx H1 h1=>⟨x,rfl,Ff h1⟩
set_option genInjectivity true in
inductive Ru where
 |ok (t:T)|exc (c:Str)
def Ba(K:k6)(ca:Str->Value)(g:kL->Option Ru):Sp:=λvs H Q E=>∃F ts,A4 F H/\Ag K F ts vs/\match g ts with
 |some (.ok v)=>DE K F H v Q|some (.exc c)=>∀F' H',Ext F H F' H' R0->XE E ca c F' H'|none=>False
def KI:Bool->Str->Option Rs
 |false,c=>some (.x c)|true,c=>(match E2 c with
  |none=>some (.x c)|some _=>none)
def AL(g:kL->Option Ru)(ms:Av):AH:=λτ=>match ms τ with
 |some (.v ts b)=>(match g ts with
  |some (.ok v)=>Aq b v|some (.exc c)=>KI b c|none=>none)
 |some (.x c)=>some (.x c)|none=>none
theorem zlj(h:tM K E ca (AL g ms) σ H Q):TN (Ba K ca g) [] E (Bv K E ca ms) σ H Q:=by
 obtain⟨F,τ,R,S,q⟩:=h;refine⟨F,τ,R,S,?_⟩;unfold AL at q;cases hs:ms τ with
 |none=>erw[hs]at q<;>exact q.elim|some r=>
  erw[hs]at q;cases r with
  |x c=>exact q|v ts b=>
   intro F1 H1 xs e1 rs;have S1:=S.ext e1;rw[Ą];refine⟨Gz b F1 H1 R,ts,QX S1,rs,?_⟩;cases hg:g ts with
   |none=>erw[hg]at q<;>exact q.elim|some r=>
    erw[hg]at q;cases r with
    |exc c=>
     cases b with
     |false=>exact λF' H' e2=>q F' H' (e1.trans0 e2)|true=>
      erw[KI]at q;cases hp:E2 c with
      |none=>rw[hp]at q;exact λF' H' e2=>(q F1 H' (e1.grow e2.hh)).any hp|some n=>rw[hp]at q;exact q.elim
    |ok v=>
     intro F2 H2 z C e2 r2;simp only at q;unfold Aq at q;cases b with
     |false=>exact q F2 H2 z C (e1.trans0 e2) r2|true=>
      cases hf:v.flat with
      |false=>rw[hf]at q;cases q|true=>rw[hf]at q;exact q F1 H2 z R0 (e1.grow e2.hh) (r2.flat_any hf)
theorem zn0(D:DefX X.prog X.w X.K X.mg X.base k x ps (Ba X.K ca g))(hr:Room j X.A)(hx:BI X E)(ha:PA X (e::es) (Bv X.K E ca ms))(hk:k<=j)(hg:Gl X x)(hdb:(x == "__debug__")=false)
  (he:starEach (e::es) X.env=(false,eval e X.env)::starEach es X.env) (hpl:(backTo pos (starEach es X.env)).any (·.1)=false):PE X (.Call (.Name x p) (e::es) [] pos) (tM X.K E ca (AL g ms)):=PE.weak (px D hr hx ha hk hg hdb he hpl) λ_ _ _ h=>zlj h
end
section
variable {X:Cx}{E:L2.St->XK}{ca:Str->Value}{ms:Av}{e:Expr}{es:kC}{p pos:Pos}
end
def GJ(K:k6)(J:It)(F:Hp)(ts:kL):Prop:=∀(i:Nat) (F' H':Hp),A4 F F'->A4 F' H' ->
 (∀t,ts[i]?=some t->J.go i H'/\∀x H'',J.yld i H' x H''->∃F'',Ext F' H' F'' H'' R0/\Rp K F'' H'' t x R0)/\(i=ts.length->J.stop i H')
def pI(K:k6)(E:L2.St->XK)(ca:Str->Value)(σ:L2.St)(P:It->Hp->Prop)(F H:Hp):Option RsL->Prop
 |some (.v ts _)=>∀F' H' J,Ext F H F' H' R0->GJ K J F' ts->P J H'|some (.x c)=>∀F' H',Ext F H F' H' R0->XE (E σ) ca c F' H'|none=>False
def tI(K:k6)(E:L2.St->XK)(ca:Str->Value)(m:Av):TI:=λσ H P=>∃F τ R,StR K F H σ τ R/\pI K E ca σ P F H (m τ)
noncomputable def Fw:T->Bool
 |.nd _ .lst _=>true|.nd _ .rl _=>true|.nd _ (.pin _) _=>true|_=>false
noncomputable def IQ(m:AH):Av:=λτ=>match m τ with
 |some (.v (.nd _ k l) false)=>some (.v (BJ l) false)|some (.x c)=>some (.x c)|_=>none
def BQ(lo:Int)(n:Nat):kL:=(List.range n).map λ(i:Nat)=>.int (lo+(i:Int))
def Bx(j:Int):Bool:=@decide (-(2 ^ 62)<=j/\j<2 ^ 62) (Classical.propDecidable _)
def Md:kL->kA
 |[.int j]=>some j|_=>none
def C7(ms:Av):Av:=λτ=>match ms τ with
 |some (.v ts _)=>(match Md ts with
  |some j=>if Bx j then some (.v (BQ 0 j.toNat) false) else none
  |none=>none)
 |r=>r
def EG:Nat->kL->kL
 |_,[]=>[]|i,t::r=>.tup [.int (i:Int),t]::EG (i+1) r
def HX:kL->Option (kL)
 |[.nd o k l]=>if Fw (.nd o k l) then some l else none
 |_=>none
def Mb:kL->Option (kL×kL)
 |[.nd o k l,.nd o' k' m]=>if Fw (.nd o k l) && Fw (.nd o' k' m) then some (l,m) else none
 |_=>none
def ED(ms:Av):Av:=λτ=>match ms τ with
 |some (.v ts false)=>(match HX ts with
  |some l=>some (.v (EG 0 l) false)|none=>none)
 |some (.v _ true)=>none|r=>r
def DF(l m:kL):kL:=List.zipWith (λa b=>T.tup [a,b]) l m
def Ge(ms:Av):Av:=λτ=>match ms τ with
 |some (.v ts false)=>(match Mb ts with
  |some (l,m)=>some (.v (DF l m) false)|none=>none)
 |some (.v _ true)=>none|r=>r
theorem aB:∀(l) (n i),(EG n l)[i]?=(l[i]?).map λt=>T.tup [.int (n+i:Nat),t]
 |[],n,i=>by rfl|t::r,n,i=>by
  cases i with
  |zero=>rfl|succ i=>
   erw[EG,ŗ];rw[aB r (n+1) i]
   grind
theorem zcm(l):∀n,(EG n l).length=l.length:=by
 induction l with
 |nil=>intro n;rfl|cons t r ih=>simp[EG,ih]
section
variable {X:Cx}{E:L2.St->XK}{ca:Str->Value}{σ:L2.St}{H:Hp}{m ma mb mc:AH}{ms:Av}{K:k6}{a b c e tg:Expr}{es elts:kC}{pos p tpos:Pos}{kk:Nat}
theorem QL{p}(n:∀F' H' ,A4 F F'->A4 F' H'->AX K H' p xs)(r:Ag K F l xs):GJ K (Rw K p) F l:=by
 intro i F' H' s1 s2;have sq:=n F' H' s1 s2;refine⟨λt ht=>?_,λe=>⟨xs,sq,by rw[e,r.1];simp⟩⟩
 have hi:i<xs.length:=by
  have:=(Í.mp ht).1;have:=r.1
  omega
 refine⟨⟨xs,xs[i],sq,Â hi⟩,λx H'' y=>?_⟩
 obtain⟨rfl,y⟩:=y;have hx:=y xs sq;exact⟨F',Ext.refl s2,((r.same s1).2 i t x ht hx).any⟩
theorem Yd{p}(n:∀F' H' ,A4 F F'->A4 F' H'->Bp K H' p xs)(r:Ag K F l xs):GJ K (Rv K p) F l:=by
 intro i F' H' s1 s2;have sq:=n F' H' s1 s2;refine⟨λt ht=>?_,λe=>⟨xs,sq,by rw[e,r.1];simp⟩⟩
 have hi:i<xs.length:=by
  have:=(Í.mp ht).1;have:=r.1
  omega
 refine⟨⟨xs,xs[i],sq,Â hi⟩,λx H'' y=>?_⟩
 obtain⟨rfl,y⟩:=y;have hx:=y xs sq;exact⟨F',Ext.refl s2,((r.same s1).2 i t x ht hx).any⟩
theorem zff{lo}:GJ K (NH lo n) F (BQ lo n):=by
 intro i F' H' s1 s2;refine⟨λt ht=>?_,λe=>?_⟩
 .unfold BQ at ht;rw[Ê]at ht;obtain⟨j,e1,e2⟩:=Õ.mp ht
  have hi:=by
   have:=(Í.mp e1).1
   simpa using this
  have hj:=by rw[List.getElem?_range hi]at e1;exact Ý e1
  subst hj;subst e2;refine⟨hi,λx H'' y=>?_⟩
  obtain⟨rfl,rfl⟩:=y;exact⟨F',Ext.refl s2,.int _⟩
 .have:n<=i:=by rw[e];simp[BQ]
  exact this
theorem Ye{p}(n:∀F' H' ,A4 F F'->A4 F' H'->AX K H' p xs)(r:Ag K F l xs):GJ K (NI K k p) F (EG k l):=by
 intro i F' H' s1 s2;have sq:=n F' H' s1 s2;refine⟨λt ht=>?_,λe=>⟨xs,sq,by rw[e,zcm,r.1];simp⟩⟩
 rw[aB]at ht;obtain⟨t0,h0,rfl⟩:=Õ.mp ht
 have hi:i<xs.length:=by
  have:=(Í.mp h0).1;have:=r.1
  omega
 refine⟨⟨xs,xs[i],sq,Â hi⟩,λx H'' y=>?_⟩
 obtain⟨q,y0,rfl,hq,rfl,y⟩:=y;have hx:=y xs sq;have e:=Ext.new (o:=.tup [.int (k+i),y0]) s2 hq;refine⟨_,e,Ag.of_node Be ?_⟩;exact .cons (H:=H') (.int _) (.cons (H:=H') (((r.same (s1.trans e.ff)).2 i t0 y0 h0 hx).any) .nil)
theorem zl1{p p2}(n:∀F' H' ,A4 F F'->A4 F' H'->AX K H' p xs)(n2:∀F' H' ,A4 F F'->A4 F' H'->AX K H' p2 ys)(r:Ag K F l xs)(r2:Ag K F l2 ys):GJ K (Rt K p p2) F (DF l l2):=by
 intro i F' H' s1 s2;have sq:=n F' H' s1 s2;have sq2:=n2 F' H' s1 s2;have l1:=r.1;have l2':=r2.1;refine⟨λt ht=>?_,λe=>⟨xs,ys,sq,sq2,?_⟩⟩
 .unfold DF at ht;rw[ľ]at ht;cases h1:l[i]? with
  |none=>rw[h1]at ht;cases ht|some t1=>
   cases h2:l2[i]? with
   |none=>rw[h1,h2]at ht;cases ht|some t2=>
    rw[h1,h2]at ht;cases ht;have hi:i<xs.length:=by have:=(Í.mp h1).1;omega
    have hi2:i<ys.length:=by grind
    refine⟨⟨xs,xs[i],ys,ys[i],sq,Â hi,sq2,Â hi2⟩,λx H'' y=>?_⟩
    obtain⟨q,y0,z0,rfl,hq,rfl,y,z⟩:=y;have hx:=y xs sq;have hy:=z ys sq2;have e:=Ext.new (o:=.tup [y0,z0]) s2 hq;refine⟨_,e,Ag.of_node Be ?_⟩;exact .cons (H:=H') (((r.same (s1.trans e.ff)).2 i t1 y0 h1 hx).any) (.cons (H:=H') (((r2.same (s1.trans e.ff)).2 i t2 z0 h2 hy).any) .nil)
 .have:i=min l.length l2.length:=by rw[e];simp[DF]
  omega
theorem PI.weak(h:PI X tg e t)(w:∀σ H P,t' σ H P->t σ H P):PI X tg e t':=λpq s σ H P I q=>h pq s σ H P I (w σ H P q)
theorem PI.or(h:PI X tg e t)(h':PI X tg e t'):PI X tg e (λσ H P=>t σ H P\/t' σ H P):=λpq s σ H P I q=>q.elim (h pq s σ H P I) (h' pq s σ H P I)
theorem Vj(ha:PE X e (tM X.K E ca m)):PI X tg e (tI X.K E ca (IQ m)):=by
 refine PI.weak (PI.or (zjy ha) (zn9 ha)) λσ H P h=>?_
 obtain⟨F,τ,R,S,q⟩:=h;unfold IQ at q
 have key:∀{o } {k } {l },m τ=some (.v (.nd o k l) false)->(∀F' H' J,Ext F H F' H' R0->GJ X.K J F' (BJ l)->P J H')->∀F1 H1 x B,Ext F H F1 H1 B->DC X.K F1 H1 R (.nd o k l) false x B->∃(F2:Hp) (p:Addr) (xs:kK),x=.ref p/\Ext F H F2 H1 R0/\Fc X.K F2 k p xs/\Ag X.K F2 (BJ l) xs:=by
  intro o k l hm q F1 H1 x B e1 g1;obtain⟨F2,e2,_,r2⟩:=DC.frz S e1 g1;have r2' :=r2;rw[T.share]at r2';obtain⟨p,xs,rfl,_,n,kd⟩:=DY r2';exact⟨F2,p,xs,rfl,e2,n,kd⟩
 cases hm:m τ with
 |none=>erw[hm]at q<;>exact q.elim|some r=>
  erw[hm]at q;cases r with
  |x c=>exact .inl ⟨F,τ,R,S,by rw[hm];exact q⟩|v t bb=>
   cases t with
   |nd o k l=>
    cases bb with
    |true=>exact q.elim|false=>
     simp only at q;cases k with
     |lst=>refine .inl ⟨F,τ,R,S,?_⟩;rw[hm];intro F1 H1 x B e1 g1;obtain⟨F2,p,xs,rfl,e2,n,kd⟩:=key hm q F1 H1 x B e1 g1;exact⟨p,rfl,⟨xs,AX.of (e2.fh _ _ n)⟩,q F2 H1 _ e2 (QL (λF' H' s1 s2=>AX.of (s2 _ _ (s1 _ _ n))) kd)⟩
     |pin _=>refine .inl ⟨F,τ,R,S,?_⟩;rw[hm];intro F1 H1 x B e1 g1;obtain⟨F2,p,xs,rfl,e2,n,kd⟩:=key hm q F1 H1 x B e1 g1;exact⟨p,rfl,⟨xs,AX.of (e2.fh _ _ n)⟩,q F2 H1 _ e2 (QL (λF' H' s1 s2=>AX.of (s2 _ _ (s1 _ _ n))) kd)⟩
     |rl=>refine .inl ⟨F,τ,R,S,?_⟩;rw[hm];intro F1 H1 x B e1 g1;obtain⟨F2,p,xs,rfl,e2,n,kd⟩:=key hm q F1 H1 x B e1 g1;exact⟨p,rfl,⟨xs,e2.fh.seq n.l⟩,q F2 H1 _ e2 (QL (λF' H' s1 s2=>s2.seq (s1.seq n.l)) kd)⟩
     |tup=>refine .inr ⟨F,τ,R,S,?_⟩;rw[hm];intro F1 H1 x B e1 g1;obtain⟨F2,p,xs,rfl,e2,n,kd⟩:=key hm q F1 H1 x B e1 g1;exact⟨p,rfl,⟨xs,Bp.of (e2.fh _ _ n)⟩,q F2 H1 _ e2 (Yd (λF' H' s1 s2=>Bp.of (s2 _ _ (s1 _ _ n))) kd)⟩
     |rt=>refine .inr ⟨F,τ,R,S,?_⟩;rw[hm];intro F1 H1 x B e1 g1;obtain⟨F2,p,xs,rfl,e2,n,kd⟩:=key hm q F1 H1 x B e1 g1;exact⟨p,rfl,⟨xs,GU e2.fh n⟩,q F2 H1 _ e2 (Yd (λF' H' s1 s2=>GU s2 (GU s1 n)) kd)⟩
   |_=>exact q.elim
theorem LA{f:(Av)->Av}   (hx:∀τ c,ms τ=some (.x c)->f ms τ=some (.x c))(hn:∀τ,ms τ=none->f ms τ=none)
  (hv : ∀ F τ R ts b, StR K F H σ τ R -> ms τ = some (.v ts b) -> (match f ms τ with
   |some (.v us _)=>∀F' H' J,Ext F H F' H' R0->GJ K J F' us->P J H'|some (.x c)=>∀F' H',Ext F H F' H' R0->XE (E σ) ca c F' H'|none=>False)->∀F' H' xs,Ext F H F' H' R0->Ag K (Gz b F' H' R) ts xs->W xs H') (h:tI K E ca (f ms) σ H P):Bv K E ca ms σ H W:=by
 obtain⟨F,τ,R,S,q⟩:=h;refine⟨F,τ,R,S,?_⟩;cases hm:ms τ with
 |none=>rw[hn τ hm]at q;exact q.elim|some r=>
  cases r with
  |x c=>rw[hx τ c hm]at q;exact q|v ts b=>exact λF' H' xs e rs=>hv F τ R ts b S hm q F' H' xs e rs
theorem WL(h:Bx j=true):-(2 ^ 62)<=j/\j<2 ^ 62:=@of_decide_eq_true _ (Classical.propDecidable _) h
theorem zgy(hg:Gl X "range")(hm:X.mg "range"=none)(ha:PA X [a] (Bv X.K E ca ms))(hs:starEach [a] X.env=[(false,eval a X.env)]):PI X tg (.Call (.Name "range" p) [a] [] pos) (tI X.K E ca (C7 ms)):=by
 refine PI.weak (zf1 hg hm ha hs) λσ H P h=>?_
 refine LA (λτ c e=>by unfold C7;rw[e]) (λτ e=>by unfold C7;rw[e]) (λF τ R ts b S e q F' H' xs e1 rs=>?_) h
 unfold C7 at q;rw[e]at q;simp only at q;cases h1:Md ts with
 |none=>erw[h1]at q<;>exact q.elim|some j=>
  erw[h1]at q
  by_cases hj:Bx j=true
  .erw[hj,È]at q;obtain⟨g1,g2⟩:=WL hj;unfold Md at h1;split at h1
   .cases h1;obtain⟨x1,xs1,rfl,r1,rs1⟩:=rs.inv;cases rs1.inv0;rw[r1.int_inv];exact⟨j,rfl,g1,g2,q F' H' _ e1 zff⟩
   .cases h1
  .erw[hj]at q;exact q.elim
theorem Jv(h:Fw (.nd o k l)=true)(r:Rp K F F (.nd o k l) x R0):∃p xs,x=.ref p/\(∀F' H' ,A4 F F'->A4 F' H'->AX K H' p xs)/\Ag K F l xs:=by
 obtain⟨p,xs,rfl,_,n,kd⟩:=DY r;refine⟨p,xs,rfl,λF' H' s1 s2=>?_,kd⟩
 cases k with
 |lst=>exact AX.of (s2 _ _ (s1 _ _ n))|rl=>exact s2.seq (s1.seq n.l)|tup=>cases h|rt=>cases h|pin q=>exact AX.of (s2 _ _ (s1 _ _ n))
theorem Vk(hg:Gl X "enumerate")(hm:X.mg "enumerate"=none)(ha:PA X [a] (Bv X.K E ca ms))(hs:starEach [a] X.env=[(false,eval a X.env)]):PI X (.Tuple elts kk tpos) (.Call (.Name "enumerate" p) [a] [] pos) (tI X.K E ca (ED ms)):=by
 refine PI.weak (zjz hg hm ha hs) λσ H P h=>?_
 refine LA (λτ c e=>by unfold ED;rw[e]) (λτ e=>by unfold ED;rw[e]) (λF τ R ts b S e q F' H' xs e1 rs=>?_) h
 unfold ED at q;rw[e]at q;cases b with
 |true=>exact q.elim|false=>
  simp only at q;cases h1:HX ts with
  |none=>erw[h1]at q<;>exact q.elim|some l=>
   erw[h1]at q;unfold HX at h1;split at h1
   .split at h1
    .cases h1;rename_i hL;obtain⟨x1,xs1,rfl,r1,rs1⟩:=rs.inv;cases rs1.inv0;obtain⟨p',ys,rfl,sq,kd⟩:=Jv hL r1;exact⟨p',rfl,⟨ys,sq F' H' (.refl _) e1.fh⟩,q F' H' _ e1 (Ye sq kd)⟩
    .cases h1
   .cases h1
theorem r_zip(hg:Gl X "zip")(hm:X.mg "zip"=none)(ha:PA X [a,b] (Bv X.K E ca ms))(hs:starEach [a,b] X.env=[(false,eval a X.env),(false,eval b X.env)])(hs2:starEach [b] X.env=[(false,eval b X.env)]):PI X (.Tuple elts kk tpos) (.Call (.Name "zip" p) [a,b] [] pos) (tI X.K E ca (Ge ms)):=by
 refine PI.weak (zn8 hg hm ha hs hs2) λσ H P h=>?_
 refine LA (λτ c e=>by unfold Ge;rw[e]) (λτ e=>by unfold Ge;rw[e]) (λF τ R ts b S e q F' H' xs e1 rs=>?_) h
 unfold Ge at q;rw[e]at q;cases b with
 |true=>exact q.elim|false=>
  simp only at q;cases h1:Mb ts with
  |none=>erw[h1]at q<;>exact q.elim|some lm=>
   obtain⟨l,m'⟩:=lm;erw[h1]at q;unfold Mb at h1;split at h1
   .split at h1
    .cases h1;rename_i hL;rw[Æ]at hL;obtain⟨x1,xs1,rfl,r1,rs1⟩:=rs.inv;obtain⟨x2,xs2,rfl,r2,rs2⟩:=rs1.inv;cases rs2.inv0;obtain⟨p',ys,rfl,sq,kd⟩:=Jv hL.1 r1;obtain⟨p2,zs,rfl,sq2,kd2⟩:=Jv hL.2 r2;exact⟨p',p2,rfl,⟨ys,sq F' H' (.refl _) e1.fh⟩,⟨zs,sq2 F' H' (.refl _) e1.fh⟩,q F' H' _ e1 (zl1 sq sq2 kd kd2)⟩
    .cases h1
   .cases h1
end
theorem StR.set{K}(S:StR K F H σ τ R)(r:Rp K F H t x A)(d:∀j a,j≠i->R j a->¬ A a)(hi:i<τ.length) :
  StR K F H (σ.set i (some x)) (τ.set i (some t)) (λj=>if j=i then A else R j):=by
 have hl:=S.len;refine⟨S.fh,by simp[hl],λj t' e=>?_,λj a z=>?_,λj k a hjk z1 z2=>?_⟩
 .by_cases hj:j=i
  .subst hj;rw[å hi]at e;cases e;exact⟨x,å (by omega),by simpa using r⟩
  .rw[Ú (É hj)]at e ⊢;obtain⟨y,e1,r1⟩:=S.rep j t' e;exact⟨y,e1,by simpa[hj] using r1⟩
 .by_cases hj:j=i
  .subst hj;exact⟨t,å hi⟩
  .erw[hj,Ã]at z;obtain⟨t',e⟩:=S.out j a z;exact⟨t',by rw[Ú (É hj)];exact e⟩
 .by_cases hj:j=i
  .erw[hj,È]at z1;have hk:¬ k=i:=λz=>hjk (hj.trans z.symm)
   erw[hk,Ã]at z2;exact d k a hk z2 z1
  .erw[hj,Ã]at z1
   by_cases hk:k=i
   .erw[hk,È]at z2;exact d j a hj z1 z2
   .erw[hk,Ã]at z2;exact S.dis j k a hjk z1 z2
def EJ(K:k6)(b:T->AK->Option AK):TG:=λv σ H Q=>∃F τ R t τ',StR K F H σ τ R/\Rp K F H t v R0/\b t τ=some τ'/\∀σ' R',StR K F H σ' τ' R'->(∀i a,R' i a->R i a)->Q σ' H
def Gs(K:k6)(b:kL->AK->Option AK):Ih:=λvs σ H Q=>∃F τ R ts τ',StR K F H σ τ R/\Ag K F ts vs/\b ts τ=some τ'/\∀σ' R',StR K F H σ' τ' R'->(∀i a,R' i a->R i a)->Q σ' H
def AE(i:Nat):T->AK->Option AK:=λt τ=>if i<τ.length then some (τ.set i (some t)) else none
def BU:kL->AK->Option AK
 |[],τ=>some τ|_::_,_=>none
def AS(b:T->AK->Option AK)(bs:kL->AK->Option AK):kL->AK->Option AK
 |t::ts,τ=>(match b t τ with
  |some τ'=>bs ts τ'|none=>none)
 |[],_=>none
def BN(n:Nat)(bs:kL->AK->Option AK):T->AK->Option AK
 |.nd _ .tup l,τ=>if l.length=n then bs l τ else none
 |.nd _ .rt l,τ=>if l.length=n then bs l τ else none
 |.nd _ .lst l,τ=>if l.length=n then bs l τ else none
 |_,_=>none
theorem znc       (hc:X.calm=true)(h:Ds X es t)(hn:(assignEach es X.env).length=n)(hst:(assignEach es X.env).findIdx? (·.1)=none):PG X (.Tuple es k pos) (λv σ H Q=>Q1 X.K n t v σ H Q\/∃a xs,v=.ref a/\AX X.K H a xs/\xs.length=n/\t xs σ H Q):=by
 intro pq s σ H v u Q I r hw
 rcases hw with hw|⟨a,xs,e1,hq,hl,hw⟩
 .exact znb hc h hn hst pq s σ H v u Q I r hw
 .subst e1;cases r;obtain⟨its,rv,⟨o,m,ho,hcl,_,hd⟩,hz⟩:=I.list hq;refine À (ĳ ?_);unfold unpack;rw[hst,hn,show n=its.toArray.size by simp[<- hl,rv.length]]
  refine À (ç (W.kun_itemsOf (I.ok.hd hc) ⟨o,ho,hcl,m,hd⟩ λh' hx=>?_))
  have I1 :=I.kept (t':=s.toks) λb o e=>hx b o (Ò (Ä e)) e
  exact h pq _ σ H xs _ Q I1 (by grind) hw
section
variable {X:Cx}{e:Expr}{es:kC}{pos:Pos}{b:T->AK->Option AK}{bs:kL->AK->Option AK}
theorem PG.weak(h:PG X e t)(w:∀v σ H Q,t' v σ H Q->t v σ H Q):PG X e t':=λpq s σ H v u Q I r q=>h pq s σ H v u Q I r (w v σ H Q q)
theorem Ds.weak(h:Ds X es t)(w:∀v σ H Q,t' v σ H Q->t v σ H Q):Ds X es t':=λpq s σ H v u Q I r q=>h pq s σ H v u Q I r (w v σ H Q q)
theorem g_nm(hN:X.N.Nodup)(hi:X.N[i]?=some x)(hx:Gp X.env.scope x)(hf:X.fn x=true\/X.env.scope.names.lookup x=some .local):PG X (.Name x pos) (EJ X.K (AE i)):=by
 refine PG.weak (Ψ hN hi hx hf) λv σ H Q h=>?_
 obtain⟨F,τ,R,t,τ',S,r,e,q⟩:=h;unfold AE at e;split at e
 .cases e;rename_i hl;refine q _ _ (S.set r (λ_ _ _ _ z=>z.elim) hl) λj a z=>?_
  by_cases hj:j=i
  .erw[hj]at z;exact z.elim
  grind
 .cases e
theorem g_nil:Ds X [] (Gs X.K BU):=Ds.weak Ω λv σ H Q h=>by
 obtain⟨F,τ,R,ts,τ',S,r,e,q⟩:=h;cases ts with
 |nil=>cases e;exact⟨r.inv0,q σ R S λ_ _ z=>z⟩|cons _ _=>cases e
theorem zoy(h1:PG X e (EJ X.K b))(h2:Ds X es (Gs X.K bs))(hs:(assignEach (e::es) X.env).map (·.2)=assign e X.env::(assignEach es X.env).map (·.2)):Ds X (e::es) (Gs X.K (AS b bs)):=by
 refine Ds.weak (zh6 h1 h2 hs) λv σ H Q h=>?_
 obtain⟨F,τ,R,ts,τ',S,r,e,q⟩:=h;cases ts with
 |nil=>cases e|cons t ts=>
  obtain⟨x,xs,rfl,r1,rs⟩:=r.inv;unfold AS at e;simp only at e;cases hb:b t τ with
  |none=>grind|some τ1=>rw[hb]at e;exact⟨x,xs,rfl,F,τ,R,t,τ1,S,r1.any,hb,λσ1 R1 S1 w1=>⟨F,τ1,R1,ts,τ',S1,rs,e,λσ2 R2 S2 w2=>q σ2 R2 S2 λi a z=>w1 i a (w2 i a z)⟩⟩
theorem g_tup(hc:X.calm=true)(h:Ds X es (Gs X.K bs))(hn:(assignEach es X.env).length=n)(hst:(assignEach es X.env).findIdx? (·.1)=none):PG X (.Tuple es k pos) (EJ X.K (BN n bs)):=by
 refine PG.weak (znc hc h hn hst) λv σ H Q h=>?_
 obtain⟨F,τ,R,t,τ',S,r,e,q⟩:=h
 have key:∀{o} {kd:Kd} {l:kL},t=.nd o kd l->(kd=.tup\/kd=.rt\/kd=.lst)->(if l.length=n then bs l τ else none)=some τ'->(Q1 X.K n (Gs X.K bs) v σ H Q\/∃a xs,v=.ref a/\AX X.K H a xs/\xs.length=n/\Gs X.K bs xs σ H Q):=by
  intro o kd l et hk e';subst et;split at e'
  .rename_i hl;obtain⟨p,xs,rfl,_,nn,kid⟩:=DY (r.any (H':=F));have hx:xs.length=n:=by rw[<- kid.1];exact hl
   rcases hk with rfl|rfl|rfl
   .exact .inl ⟨p,xs,rfl,Bp.of (S.fh _ _ nn),hx,F,τ,R,l,τ',S,kid,e',q⟩
   .exact .inl ⟨p,xs,rfl,GU S.fh nn,hx,F,τ,R,l,τ',S,kid,e',q⟩
   .exact .inr ⟨p,xs,rfl,AX.of (S.fh _ _ nn),hx,F,τ,R,l,τ',S,kid,e',q⟩
  .cases e'
 unfold BN at e;split at e
 .exact key rfl (.inl rfl) e
 .exact key rfl (.inr (.inl rfl)) e
 .exact key rfl (.inr (.inr rfl)) e
 .cases e
end
section
variable {X:Cx}{E:L2.St->XK}{ca:Str->Value}{ms:Av}{a:Expr}{pos p p2 pos2:Pos}
theorem zbm:Bj X (.type "range") (λxs H Q=>∃j ,xs=[.int j]/\∀r,H r=none->Q (.ref r) (upd H r (.rng 0 j))):=by
 intro pq s σ H xs us Q I r h;obtain⟨j,rfl,q⟩:=h;obtain⟨u,rfl,t,rfl⟩:=EI r;refine call_range_1 ?_;exact⟨.ref s.heap.objs.size,upd H s.heap.objs.size (.rng 0 j),I.laid (λb o e=>Ë _ e) (Ç _) ⟨_,_,_,à _ rfl⟩,rfl,q _ (I.hok.fresh (Ç _))⟩
theorem S9:∀(n) (lo) (l),l.length=n->(∀(j:Nat) (v),l[j]?=some v->∃t,v=.int (lo+j * 1) t)->A9 ((List.range n).map λ(i:Nat)=>V.int (lo+i)) l
 |0,lo,l,e,_=>by
  cases l with
  |nil=>exact .nil|cons _ _=>cases e
 |n+1,lo,l,e,h=>by
  cases l with
  |nil=>cases e|cons v r=>
   rw[List.range_succ_eq_map];obtain⟨t,ht⟩:=h 0 v rfl;refine .cons ⟨t,by rw[ht];simp⟩ ?_
   have ih:=S9 n (lo+1) r (by simpa using e) λj v hj=>by
    obtain⟨t',ht'⟩:=h (j+1) v (by grind)
    grind
   have eq:((λ(i:Nat)=>V.int (lo+i)) ∘ Nat.succ)=λ(i:Nat)=>V.int (lo+1+i):=funext λi=>by
    grind
   grind
theorem zc0(hc:X.calm=true):Bj X (.type "list") (λxs H Q=>∃r j,xs=[.ref r]/\H r=some (.rng 0 j)/\-(2 ^ 62)<=j/\j<2 ^ 62/\j.toNat<=Az/\∀l,H l=none->Q (.ref l) (upd H l (.lst ((List.range j.toNat).map λ(i:Nat)=>.int (0+i))))):=by
 intro pq s σ H xs us Q I rv h;obtain⟨r,j,rfl,hr,h1,h2,hz,q⟩:=h;obtain⟨u,rfl,ru⟩:=EI rv;cases ru;obtain⟨t0,u0,v0,e0⟩:=I.hok r _ hr;refine call_list_range (n:=j.toNat) (I.ok.hd hc) e0 (small_one (by decide) (by decide) h1 h2) (by rw[rangeSize_one];split<;>omega) (by unfold Az at hz;omega) λh' tk acc c hk hD hI=>?_
 have rl:=S9 j.toNat 0 acc.toList (by exact hI.1) λi v hv=>hI.2 i v (by grind)
 refine⟨.ref s.heap.objs.size,_,I.laid hk (Ç _) (show CP X.prog X.w _ h' _ (.lst _) from⟨?_,acc.toList,c,rl,?_⟩),rfl,q _ (I.hok.fresh (Ç _))⟩
 .rw[Á,ė,<- FZ];exact hz
 omega
def HG(ms:Av):AH:=λτ=>match ms τ with
 |some (.v [.int j] _)=>if Bx j=true/\j.toNat<=Az then some (.v (.own (BQ 0 j.toNat)) false) else none
 |some (.x c)=>some (.x c)|_=>none
theorem r_lr(hc:X.calm=true)(hg:Gl X "list")(hm:X.mg "list"=none)(hg2:Gl X "range")(hm2:X.mg "range"=none)(ha:PA X [a] (Bv X.K E ca ms))(hs:starEach [a] X.env=[(false,eval a X.env)]) :
  PE X (.Call (.Name "list" p) [.Call (.Name "range" p2) [a] [] pos2] [] pos) (tM X.K E ca (HG ms)):=by
 refine PE.weak (Le (zc0 hc) hg hm đ (CY (Le zbm hg2 hm2 boot_range ha (by decide) (by decide) hs rfl) DW rfl) (by decide) (by decide) rfl rfl) λσ H Q h=>?_
 obtain⟨F,τ,R,S,q⟩:=h;refine⟨F,τ,R,S,?_⟩;unfold HG at q;cases hq:ms τ with
 |none=>erw[hq]at q<;>exact q.elim|some r=>
  erw[hq]at q;cases r with
  |x c=>exact q|v ts b=>
   intro F1 H1 xs e1 rs
   match ts,q,rs with
   |[],q,_=>exact q.elim|t1::_::_,q,_=>cases t1<;>exact q.elim|[t],q,rs=>
    cases t with
    |int j=>
     simp only at q;obtain⟨x,xs',rfl,r1,rs1⟩:=rs.inv;cases rs1.inv0;rw[r1.int_inv]
     by_cases hj:Bx j=true/\j.toNat<=Az
     .erw[hj,and_self,È]at q;have hk:=WL hj.1;refine⟨j,rfl,λr hr=>⟨r,j,rfl,Be,hk.1,hk.2,hj.2,λl hl=>?_⟩⟩
      have S1:=S.ext e1;have e2:=Ext.new (o:=.rng 0 j) S1.fh hr;have g:=q (upd F1 r (.rng 0 j)) (upd (upd H1 r (.rng 0 j)) l (.lst ((List.range j.toNat).map λ(i:Nat)=>.int (0+i)))) (.ref l)
      have hro:RpO X.K (upd F1 r (.rng 0 j)) (upd H1 r (.rng 0 j)) (BQ 0 j.toNat) ((List.range j.toNat).map λ(i:Nat)=>V.int (0+i)) (λ_=>R0):=by
       refine⟨by simp[BQ],λi t x h1 h2=>?_,λ_ _ _ _ z=>z.elim,λ_ _ z=>z.elim⟩
       unfold BQ at h1;rw[Ê]at h1 h2;obtain⟨i1,a1,rfl⟩:=Õ.mp h1;obtain⟨i2,a2,rfl⟩:=Õ.mp h2;rw[a1]at a2;cases a2;exact .int _
      obtain⟨g1,g2⟩:=hro.list e2.fh hl;refine g _ (((e1.trans0 e2).trans0 g2).mono ?_) g1;rintro x (z|⟨_,z⟩)
      .exact z
      .exact z.elim
     .erw[hj,Ã]at q<;>exact q.elim
    |_=>exact q.elim
end
section
abbrev Jn(l:Addr):Obj:={ cls:=.type "list_iterator",data:=.fields #[.ref l,.int 0 0] }
abbrev Qu(p:Addr)(k:Int):Obj:={ cls:=.type "enumerate",data:=.fields #[.none,.bool false,.ref p,rawInt k,.none,.none] }
set_option maxHeartbeats 1000001 in
theorem zkl(l:Addr)(its:Array Value)(n:Nat)(d:Option Addr)(sl:Array (Option Value))(t:Tok) :
  Meets (Builtin.«enumerate.__new__» ⟨[.type "enumerate",.ref l],[("start",.int 1 t)]⟩) (λ_ R s=>s.heap.get? l=some ⟨.type "list",d,.seq its n,sl⟩ /\
   R (.ok (.ret (.ref (s.heap.push (Jn l)).objs.size))) { s with heap:=(s.heap.push (Jn l)).push (Qu s.heap.objs.size 1) }):=Meets.of_wp λprog w A R s h=>by
 obtain⟨hp,g,d2,tk,os⟩:=s;obtain⟨hl,h⟩:=h;have hsub:=sub_enumerate;have hL:Heap.IsList (Shared.heap ⟨hp,g,d2,tk,os⟩) l its:=⟨_,hl,rfl,n,rfl⟩
 wp_walk using Ő hl
 refine wpAny_stack_any λst=>Å ?_
 split
 .rename_i c _ _ _ _ _;cases (c == Value.type "enumerate")
  .wp_walk using Ő hl,ĝ hL
   exact⟨_,rfl,h⟩
  .wp_walk using Ő hl,ĝ hL
   exact⟨_,rfl,h⟩
 .wp_walk using Ő hl,ĝ hL
  exact⟨_,rfl,h⟩
set_option maxHeartbeats 1000001 in
theorem zhr(x l:Addr)(t:Tok):Meets (Builtin.«object.__init__» ⟨[.ref x,.ref l],[("start",.int 1 t)]⟩) (λ_ R s=>s.TypeIs (.ref x) "enumerate"/\R (.ok (.ret .none)) s):=Meets.of_wp λprog w A R s hs=>by
 obtain⟨hT,hq⟩:=hs;have hl:=ŭ.init.lookup;have hm:=ŭ.made;have hne:(some "enumerate.__new__" != some "object.__new__")=true:=by decide
 repeat (any_goals (first|assumption|wp_step))
 exact⟨_,rfl,hq⟩
set_option maxHeartbeats 1000001 in
theorem zij{prog:Program}{w:World}{A:Around}{E:Value->Shared->Prop}{s:Shared}{l:Addr}{its:Array Value}{t:Tok}{Q:Value->Shared->Prop}(hL:s.heap.IsList l its)
  (h:∀h',IsEnum h' (s.heap.objs.size+1) s.heap.objs.size 1 .none->h'.IsListIter s.heap.objs.size l 0->h'.objs.size=s.heap.objs.size+2->(∀b o,s.heap.get? b=some o->h'.get? b=some o)->Q (.ref (s.heap.objs.size+1)) { s with heap:=h' }) :
  wpAny (model prog w) A (call (.type "enumerate") [.ref l] [("start",.int 1 t)]) Q E s:=by
 obtain⟨⟨c,d,dt,sl⟩,hl,hc,n,hd⟩:=hL
 replace hc:c=.type "list":=hc
 replace hd:dt=.seq its n:=hd
 subst hc hd;have ft:=ŭ;obtain⟨c,tl,hmro⟩:=ft.mro;have hmade:=ft.made;have hsub:=ft.sub;have hct:checkTypeCall "enumerate" ⟨[.ref l],[("start",.int 1 t)]⟩=pure ():=by ext
 have hcn:checkBuiltinCall "enumerate.__new__" ⟨[.type "enumerate",.ref l],[("start",.int 1 t)]⟩=pure ():=by ext
 refine Ĉ (codeAny_of_tree ?_);refine Å ⟨Ŭ _ (by decide +kernel),ď F.entry_type_call ?_⟩
 rw[Around.under_plain (weight_type_call_type "enumerate" _ _) (units_type_call_type "enumerate" _ _)];have h1:=ft.notType;have h2:=ft.canCreate
 repeat (any_goals (first|assumption|wp_step))
 refine ÿ (ĵ ft.plain F.entry_enumerate_new (ĉ hcn (zkl l its n d sl t prog w A.in1 (wants (λo s1=>o=.ref (s.heap.objs.size+1)/\s1.TypeIs o "enumerate"/\Q o s1) E) s ⟨hl,?_⟩))) λr s1 hr=>?_
 .have hz:(s.heap.push (Jn l)).objs.size=s.heap.objs.size+1:=ý ..
  have he:IsEnum ((s.heap.push (Jn l)).push (Qu s.heap.objs.size 1)) (s.heap.objs.size+1) s.heap.objs.size 1 .none:=by
   have:=à (s.heap.push (Jn l)) (o:=Qu s.heap.objs.size 1) rfl;rw[hz]at this;exact this
  show _/\_;rw[hz];exact⟨rfl,⟨_,he,rfl⟩,h _ he ⟨_,Ë _ (à _ rfl),rfl,rfl⟩ (by rw[ý,hz]) λb o x=>Ë _ (Ë _ x)⟩
 .cases r with
  |error e=>exact hr|ok fl=>
   cases fl with
   |ret obj=>
    obtain⟨rfl,hT,hq⟩:=hr;have hli:=ft.init.lookup;have hbi:=ft.init.bind (.ref (s.heap.objs.size+1));have hok:argsOk "object.__init__" ⟨[.ref (s.heap.objs.size+1),.ref l],[("start",.int 1 t)]⟩:=by ext
    repeat (any_goals (first|assumption|wp_step))
    refine ÿ (ĵ ft.init.plain F.entry_object_init (ft.init.check _ _ _ _ _ _ _ _ hT hok (zhr _ l t prog w A.in1 (wants (λr s2=>r=.none/\Q (.ref (s.heap.objs.size+1)) s2) E) s1 ⟨hT,rfl,hq⟩))) λr2 s2 hr2=>?_
    cases r2 with
    |error e=>exact hr2|ok fl2=>
     cases fl2 with
     |ret r=>
      obtain⟨rfl,hq⟩:=hr2
      repeat (any_goals (first|assumption|wp_step))
     |_=>exact hr2.elim
   |_=>exact hr.elim
end
section
variable {X:Cx}{a:Expr}{elts:kC}{kk ko:Nat}{tpos p pos kp vp:Pos}{E:L2.St->XK}{ca:Str->Value}{ms:Av}
abbrev MD(ko:Nat)(vp kp:Pos):List Keyword:=[⟨some (Str.ofString "start"),.Constant (.int 1) ko vp,kp⟩]
theorem zp7{T}(h1:args.any (·.1)=false)(h2:ks.any (·.1.isNone)=false)
  (h:wpAny M A (evalArgs (.type T) true args ks) (λa s1=>wpAny M A (call (.type T) a.pos a.kw) Q R s1) R s):wpAny M A (callWith pos (.type T) [] args ks) Q R s:=by
 refine À (ç (AQ h λa s1 q=>À (ĳ ?_)))
 erw[h1,h2];exact À (Å (À (AQ q λr s2 z=>À (ç (wpAny_point (Å z))))))
def zov(K:k6)(ta:TA):TI:=λσ H R=>ta σ H λvs H1=>∃a,vs=[.ref a]/\(∃xs,AX K H1 a xs)/\R (NI K 1 a) H1
theorem zh5(hg:Gl X "enumerate")(hm:X.mg "enumerate"=none)(ha:PA X [a] ta)(hs:starEach [a] X.env=[(false,eval a X.env)]):PI X (.Tuple elts kk tpos) (.Call (.Name "enumerate" p) [a] (MD ko vp kp) pos) (zov X.K ta):=by
 intro pq s σ H R I h;have he:eval (.Call (.Name "enumerate" p) [a] (MD ko vp kp) pos) X.env=(do callWith pos (<- eval (.Name "enumerate" p) X.env) [] (backTo pos (starEach [a] X.env)) (backToKw pos (keywordEach (MD ko vp kp) X.env))):=by rfl
 rw[he];refine À (F7 I hg hm boot_enumerate (zp7 (by rw[hs];rfl) rfl ?_))
 have hb:backTo pos (starEach [a] X.env)=[(false,eval a X.env)]:=by rw[hs];rfl
 have h0:=ha pos pq s σ H _ I h;rw[hb]at h0 ⊢;refine evalArgs_kwB rfl (AQ h0 λus s1 ⟨vs,H1,I1,r1,q1⟩=>kws_cons ?_)
 refine wpAny_Constant_int (kws_nil ?_);obtain⟨l,e,⟨xs,hq⟩,q⟩:=q1;subst e;obtain⟨u,rfl,ru⟩:=EI r1;cases ru;have I2:Inv X pq σ H1 { s1 with toks:=s1.toks+1 }:=I1.tok _
 obtain⟨its,rv,pl,hz⟩:=I2.list hq;refine zij pl.isList λh' he hit hsz hk=>?_
 have I3:Inv X pq σ H1 { s1 with heap:=h',toks:=s1.toks+1 }:=I2.kept hk
 refine Ŷ he ⟨s1.heap.objs.size+1,[s1.heap.objs.size+1,s1.heap.objs.size],_,_,H1,rfl,I3,Sk 1 l _ _ (by simp),⟨⟨_,by simpa using he⟩,hit⟩,λb hb=>?_,q⟩
 have hb':s1.heap.objs.size<=b:=by
  obtain rfl|hb:=Ð.mp hb
  .exact Ć _
  .rw[Û.mp hb];exact Ç _
 exact I1.fpOk hb' (I1.hok.fresh hb')
def Gf(ms:Av):Av:=λτ=>match ms τ with
 |some (.v ts false)=>(match HX ts with
  |some l=>some (.v (EG 1 l) false)|none=>none)
 |some (.v _ true)=>none|r=>r
theorem r_en1(hg:Gl X "enumerate")(hm:X.mg "enumerate"=none)(ha:PA X [a] (Bv X.K E ca ms))(hs:starEach [a] X.env=[(false,eval a X.env)]):PI X (.Tuple elts kk tpos) (.Call (.Name "enumerate" p) [a] (MD ko vp kp) pos) (tI X.K E ca (Gf ms)):=by
 refine PI.weak (zh5 hg hm ha hs) λσ H P h=>?_
 refine LA (λτ c e=>by unfold Gf;rw[e]) (λτ e=>by unfold Gf;rw[e]) (λF τ R ts b S e q F' H' xs e1 rs=>?_) h
 unfold Gf at q;rw[e]at q;cases b with
 |true=>exact q.elim|false=>
  simp only at q;cases h1:HX ts with
  |none=>erw[h1]at q<;>exact q.elim|some l=>
   erw[h1]at q;unfold HX at h1;split at h1
   .split at h1
    .cases h1;rename_i hL;obtain⟨x1,xs1,rfl,r1,rs1⟩:=rs.inv;cases rs1.inv0;obtain⟨p',ys,rfl,sq,kd⟩:=Jv hL r1;exact⟨p',rfl,⟨ys,sq F' H' (.refl _) e1.fh⟩,q F' H' _ e1 (Ye sq kd)⟩
    .cases h1
   .cases h1
end
abbrev GF(h:Heap)(z TI TO:Addr)(f0:Value)(f:Bool):Prop:=
 h.get? z=some { cls:=.type "zip",dict:=none,data:=.fields #[f0,.bool f,.bool false,.ref TI,.ref TO],slots:=#[] }
section
variable {prog:Program}{w:World}{A:Around}{E:Value->Shared->Prop}{s:Shared}
theorem ziu{z TI TO a:Addr}(hz:GF s.heap z TI TO (rawInt a) f)(ha:s.heap.get? a=some oa) :
  wpAny (model prog w) A (Builtin.SmallTypes.ownedTupleIsFree (.ref z)) (λb s'=>b=false/\∃h',s'={ s with heap:=h'}/\GF h' z TI TO (rawInt a) true/\Heap.SameBut z s.heap h') E s:=by
 unfold Builtin.SmallTypes.ownedTupleIsFree;refine À (ð hz rfl rfl ?_);show wpAny _ _ (loadIfAlive ((a:Int).toNat) >>= _) _ _ _;rw[ò];refine À (W.kdx_alive ha ?_);erw[Option.isNone_some,ā,Ã];refine À (ð hz rfl (x:=.bool f) rfl ?_);cases f with
 |true=>exact Å ⟨rfl,_,rfl,hz,Heap.SameBut.refl _ _⟩|false=>exact À (wpAny_setField_rec hz (by simp) λh3 e3 s3=>Å ⟨rfl,_,rfl,e3,s3⟩)
theorem SG{z TI TO i1 i2 a:Addr}(hz:GF s.heap z TI TO (rawInt a) f)(ha:s.heap.get? a=some oa)(hTI:IsPair s.heap TI (.ref i1) (.ref i2))
  (h:∀h',GF h' z TI TO (rawInt a) true->Heap.SameBut z s.heap h'->wpAny (model prog w) A (Builtin.SmallTypes.nextOf (.ref i1)) (λx s1=>wpAny (model prog w) A (Builtin.SmallTypes.nextOf (.ref i2)) (λy s2=>wpAny (model prog w) A (newTuple [x,y]) (λr s3=>Q (.done (.ret r)) s3) E s2) E s1) E { s with heap:=h'}) :
  wpAny (model prog w) A (Builtin.«zip.__next__» ⟨[.ref z],[]⟩) Q E s:=by
 show wpAny _ _ (field (.ref z) 2 >>= _) _ _ _;refine À (ð hz rfl (x:=.bool false) rfl ?_);show wpAny _ _ (field (.ref z) 3 >>= _) _ _ _;refine À (ð hz rfl rfl ?_);refine À (wpAny_seqItems hTI rfl ?_);refine À (è (ziu hz ha) (λb s' ⟨eb,h₁,es,hz₁,hs₁⟩=>?_) λ_ _ z=>z)
 subst eb es;erw[ā,Ã];refine À ?_;simp only[<- Array.forIn_toList,List.forIn_cons,List.forIn_nil];refine À (À (ç ?_));show wpAny _ _ (Builtin.SmallTypes.nextOf (.ref i1) >>= _) _ _ _;refine À (AQ (h h₁ hz₁ hs₁) λx s1 q=>Å (Å ?_))
 refine À (À (ç ?_));show wpAny _ _ (Builtin.SmallTypes.nextOf (.ref i2) >>= _) _ _ _;refine À (AQ q λy s2 q2=>Å (Å (Å ?_)))
 exact À (AQ q2 λr s3 q3=>Å q3)
theorem zit{z TI TO i1 i2 l1 l2 a:Addr}{f:Bool}{oa:Obj}{k1 k2:Nat}{xs ys:Array Value}{x y:Value}{Q:Value->Shared->Prop}(D:ZipApart z TI TO i1 i2 l1 l2)
  (hz:GF s.heap z TI TO (rawInt a) f) (ha:s.heap.get? a=some oa) (hTI:IsPair s.heap TI (.ref i1) (.ref i2))
  (h1:s.heap.IsListIter i1 l1 k1) (h2:s.heap.IsListIter i2 l2 k2) (hl1:s.heap.IsList l1 xs) (hl2:s.heap.IsList l2 ys) (hx:xs[k1]?=some x) (hy:ys[k2]?=some y)
  (hQ : ∀ h', GF h' z TI TO (rawInt a) true -> h'.IsListIter i1 l1 (k1 + 1) -> h'.IsListIter i2 l2 (k2 + 1) -> IsPair h' s.heap.objs.size x y ->
   (∀c o,c∉[z,i1,i2]->s.heap.get? c=some o->h'.get? c=some o)->Q (.ref s.heap.objs.size) { s with heap:=h' }) :
  wpAny (model prog w) A (Builtin.«zip.__next__» ⟨[.ref z],[]⟩) (λAq s'=>∃v,Aq=.done (.ret v)/\Q v s') E s:=by
 refine SG hz ha hTI λh₁ hz₁ hs₁=>?_
 refine Ÿ (h1.extBut hs₁.extBut D.i1z) (hl1.extBut hs₁.extBut D.l1z) hx λh₂ h1₂ hs₂=>?_
 refine Ÿ ((h2.extBut hs₁.extBut D.i2z).extBut hs₂.extBut D.i12.symm) ((hl2.extBut hs₁.extBut D.l2z).extBut hs₂.extBut D.l2i1) hy λh₄ h2₄ hs₄=>?_
 refine wpAny_newTuple ⟨_,rfl,?_⟩;have hsz:h₄.objs.size=s.heap.objs.size:=by rw[hs₄.1,hs₂.1,hs₁.1]
 show Q (.ref h₄.objs.size) _;have g5:(h₄.push { cls:=.type "tuple",data:=.seq #[x,y] }).get? h₄.objs.size=some { cls:=.type "tuple",data:=.seq #[x,y] }:=à _ rfl;rw[hsz]at g5 ⊢;refine hQ _ (Ë _ (hs₄.extBut _ _ D.i2z.symm (hs₂.extBut _ _ D.i1z.symm hz₁))) ((h1₂.extBut hs₄.extBut D.i12).at λo e=>Ë _ e) (h2₄.at λo e=>Ë _ e) g5 λc o hc e=>?_
 erw[Ð,ì,ñ,not_or]at hc;exact Ë _ (hs₄.extBut _ _ hc.2.2 (hs₂.extBut _ _ hc.2.1 (hs₁.extBut _ _ hc.1 e)))
theorem zlm{z TI TO i1 i2 l1 l2 a:Addr}{f:Bool}{oa:Obj}{k1 k2:Nat}{xs ys:Array Value}{Q:Fin->Shared->Prop}(hh:A.handled=none)(D:ZipApart z TI TO i1 i2 l1 l2)
  (hz:GF s.heap z TI TO (rawInt a) f) (ha:s.heap.get? a=some oa) (hTI:IsPair s.heap TI (.ref i1) (.ref i2))
  (h1:s.heap.IsListIter i1 l1 k1) (h2:s.heap.IsListIter i2 l2 k2) (hl1:s.heap.IsList l1 xs) (hl2:s.heap.IsList l2 ys) (hend:xs[k1]?=none\/ys[k2]?=none)
  (hE:∀h' e,(∀c o,c∉[z,TO,i1,i2]->s.heap.get? c=some o->h'.get? c=some o)->(∃o,h'.get? e=some o/\o.cls=.type "StopIteration")->E (.ref e) { s with heap:=h' }) :
  wpAny (model prog w) A (Builtin.«zip.__next__» ⟨[.ref z],[]⟩) Q E s:=by
 refine SG hz ha hTI λh₁ hz₁ hs₁=>?_
 cases hx:xs[k1]? with
 |none=>
  refine ŵ hh (h1.extBut hs₁.extBut D.i1z) (hl1.extBut hs₁.extBut D.l1z) hx λh₂ e hs₂ he=>hE h₂ e (λc o hc x=>?_) he
  erw[Ð,ì,ñ,not_or]at hc;exact hs₂ _ _ hc.2.2.1 (hs₁.extBut _ _ hc.1 x)
 |some x=>
  have hy:ys[k2]?=none:=by grind
  refine Ÿ (h1.extBut hs₁.extBut D.i1z) (hl1.extBut hs₁.extBut D.l1z) hx λh₂ h1₂ hs₂=>?_
  refine ŵ hh ((h2.extBut hs₁.extBut D.i2z).extBut hs₂.extBut D.i12.symm) ((hl2.extBut hs₁.extBut D.l2z).extBut hs₂.extBut D.l2i1) hy λh₄ e hs₄ he=>hE h₄ e (λc o hc x=>?_) he
  erw[Ð,ì,ñ,not_or]at hc;exact hs₄ _ _ hc.2.2.2 (hs₂.extBut _ _ hc.2.2.1 (hs₁.extBut _ _ hc.1 x))
def ZS(h:Heap)(z TI TO i1 i2 l1 l2 i:Nat)(p:Option Addr):Prop:=(match p with
 |none=>GF h z TI TO .none false|some a=>∃f oa,GF h z TI TO (rawInt a) f/\h.get? a=some oa)/\IsPair h TI (.ref i1) (.ref i2)/\(∃a b,IsPair h TO a b)/\h.IsListIter i1 l1 i/\h.IsListIter i2 l2 i
theorem zir{z TI TO i1 i2 l1 l2 i:Nat}{p:Option Addr}{x y:Value}(D:ZipApart z TI TO i1 i2 l1 l2)(hst:ZS s.heap z TI TO i1 i2 l1 l2 i p)(hp:∀a∈p,a∉[z,TO,i1,i2])
  (hl1:s.heap.IsList l1 xs) (hl2:s.heap.IsList l2 ys) (hx:xs[i]?=some x) (hy:ys[i]?=some y)
  (hQ : ∀ h', ZS h' z TI TO i1 i2 l1 l2 (i + 1) (some (p.getD s.heap.objs.size)) -> IsPair h' s.heap.objs.size x y ->
   (∀c o,c∉[z,TO,i1,i2]->s.heap.get? c=some o->h'.get? c=some o)->Q (some (.ref s.heap.objs.size)) { s with heap:=h'}) :
  wpAny (model prog w) A (pyNext (.ref z)) Q E s:=by
 obtain⟨h0,hTI,⟨a,b,hTO⟩,h1,h2⟩:=hst;have nTI:TI∉[z,TO,i1,i2]:=by simp[D.TIz,D.TITO,D.TIi1,D.TIi2]
 cases p with
 |none=>
  refine wpAny_pyNext_zip_item D h0 hTI hTO h1 h2 hl1 hl2 hx hy λh' a1 a2 a3 a4 a5 a6 hk=>?_
  refine hQ h' ⟨⟨_,_,a1,a5⟩,hk _ _ D.TIz D.TITO D.TIi1 D.TIi2 hTI,⟨_,_,a2⟩,a3,a4⟩ a5 λc o hc e=>?_
  erw[Ð,ì,ñ,not_or]at hc;exact hk c o hc.1 hc.2.1 hc.2.2.1 hc.2.2.2 e
 |some v=>
  obtain⟨f,oa,hz,ha⟩:=h0;have hT:s.TypeIs (.ref z) "zip":=⟨_,hz,rfl⟩;unfold pyNext
  refine À (ō (wpAny_callSpecial?_slot hT Ň (wpAny_call_entry Ň hT F.entry_zip_next
   (zit D hz ha hTI h1 h2 hl1 hl2 hx hy λh' a1 a2 a3 a4 hk=>Å ?_) (F.args_zip_next_1 _))))
  have hk2:∀c o,c∉[z,TO,i1,i2]->s.heap.get? c=some o->h'.get? c=some o:=λc o hc e=>hk c o (λm=>hc (by grind)) e
  exact hQ h' ⟨⟨_,_,a1,hk2 _ _ (hp v rfl) ha⟩,hk2 _ _ nTI hTI,⟨_,_,hk _ _ (by simp[D.TOz,D.TOi1,D.TOi2]) hTO⟩,a2,a3⟩ a4 hk2
theorem zis{z TI TO i1 i2 l1 l2 i:Nat}(hh:A.handled=none)(D:ZipApart z TI TO i1 i2 l1 l2)(hst:ZS s.heap z TI TO i1 i2 l1 l2 i p)
  (hl1:s.heap.IsList l1 xs) (hl2:s.heap.IsList l2 ys) (hend:xs[i]?=none\/ys[i]?=none)
  (hQ:∀h',(∀c o,c∉[z,TO,i1,i2]->s.heap.get? c=some o->h'.get? c=some o)->Q none { s with heap:=h'}) :
  wpAny (model prog w) A (pyNext (.ref z)) Q E s:=by
 obtain⟨h0,hTI,⟨a,b,hTO⟩,h1,h2⟩:=hst;cases p with
 |none=>
  refine wpAny_pyNext_zip_end hh D h0 hTI hTO h1 h2 hl1 hl2 hend λh' hk=>hQ h' λc o hc e=>?_
  erw[Ð,ì,ñ,not_or]at hc;exact hk c o hc.1 hc.2.1 hc.2.2.1 hc.2.2.2 e
 |some v=>
  obtain⟨f,oa,hz,ha⟩:=h0;have hT:s.TypeIs (.ref z) "zip":=⟨_,hz,rfl⟩;unfold pyNext
  refine À (ō (wpAny_callSpecial?_slot hT Ň (wpAny_call_entry Ň hT F.entry_zip_next
   (zlm hh D hz ha hTI h1 h2 hl1 hl2 hend λh' e hk he=>?_) (F.args_zip_next_1 _))))
  obtain⟨o,ho,hc⟩:=he;exact À (ő (b:=true) ⟨o,ho,hc⟩ isSubtype_stop (Å (hQ _ hk)))
end
structure Zg(xs ys:kK)(H Hh:Hp)(ps:List Addr):Prop where
 same:A4 H Hh
 new:∀p∈ps,H p=none
 at':∀(j:Nat) (p:Addr),ps[j]?=some p->∃x y,xs[j]?=some x/\ys[j]?=some y/\Hh p=some (.tup [x,y])
theorem FQ{K}(h:AX K H a xs)(s:A4 H H'):AX K H' a xs:=by
 rcases h with (h|⟨o,h⟩)|h
 .exact .inl (.inl (s _ _ h))
 .exact .inl (.inr ⟨o,s _ _ h⟩)
 .exact .inr h
section
variable {X:Cx}{A:Around}{pq:List (Addr×Obj)}{σ:L2.St}{R:Result->Shared->Prop}
theorem ziv{z TI TO i1 i2 l1 l2 S:Nat}{H:Hp}{xs ys:kK}{res:Value}(hh:A.handled=none)(D:ZipApart z TI TO i1 i2 l1 l2)(hS:S∉[z,TI,TO,i1,i2])(q1:AX X.K H l1 xs)(q2:AX X.K H l2 ys)
  (hR:∀s' Hh ps,Inv X pq σ (upd Hh S (.lst (ps.map V.ref))) s'->Hh S=none->Zg xs ys H Hh ps->ps.length=min xs.length ys.length->R (.ok (.ret res)) s') :
  ∀(k i:Nat) (s:Shared) (Hh:Hp) (ps:List Addr),min xs.length ys.length - i=k->ps.length=i->i<=min xs.length ys.length->Inv X pq σ (upd Hh S (.lst (ps.map V.ref))) s->Hh S=none->Zg xs ys H Hh ps ->
   ZS s.heap z TI TO i1 i2 l1 l2 i ps[0]?->(∀b∈[z,TI,TO,i1,i2],CD X pq Hh b)->codeAny (model X.prog X.w) A (.builtin "list.extend.loop" ⟨[.ref S,.ref z,res],[]⟩) R s:=by
 have hSb:∀b∈[z,TI,TO,i1,i2],b≠S:=λb hb e=>hS (e▸hb)
 have hSl:S∉[z,TO,i1,i2]:=λm=>hS (by grind)
 intro k
 induction k with
 |zero=>
  intro i s Hh ps hk hl hi I hn G st hf;have q1':=FQ (FQ q1 G.same) (FR hn (.lst (ps.map V.ref)));have q2':=FQ (FQ q2 G.same) (FR hn (.lst (ps.map V.ref)));obtain⟨its,rv,p,hz⟩:=I.list q1';obtain⟨its2,rv2,p2,hz2⟩:=I.list q2';refine ď PySem.F.entry_extend_loop ?_;rw[Ŀ ĺ _];show wpAny _ A.in1 (pyNext (.ref z) >>= _) _ _ _;refine À (zis (A:=A.in1) hh D st p.isList p2.isList ?_ λh' hk'=>Å ?_)
  .have h1:=rv.length;have h2:=rv2.length
   rcases Nat.le_total xs.length ys.length with h|h
   .exact .inl (by simp;omega)
   .exact .inr (by simp;omega)
  .exact hR _ Hh ps (GN (t':=s.toks) I hk' λb hb=>KE (hf b (by grind)) (hSb b (by grind))) hn G (by omega)
 |succ k ih=>
  intro i s Hh ps hk hl hi I hn G st hf;have q1':=FQ (FQ q1 G.same) (FR hn (.lst (ps.map V.ref)));have q2':=FQ (FQ q2 G.same) (FR hn (.lst (ps.map V.ref)));obtain⟨its,rv,p,hz⟩:=I.list q1';obtain⟨its2,rv2,p2,hz2⟩:=I.list q2';have hix:i<xs.length:=by omega
  have hiy:i<ys.length:=by omega
  obtain⟨u,hu,ru⟩:=rv.get (Â hix);obtain⟨u2,hu2,ru2⟩:=rv2.get (Â hiy);have hfu:∀b∈[z,TI,TO,i1,i2],CD X pq (upd Hh S (.lst (ps.map V.ref))) b:=λb hb=>KE (hf b hb) (hSb b hb)
  have pz:∀a∈ps,a∉[z,TO,i1,i2]:=λa ha m=>by
   obtain⟨j,hj⟩:=List.mem_iff_getElem?.mp ha;obtain⟨x,y,_,_,e⟩:=G.at' j a hj;rw[(hf a (by grind)).1]at e
   cases e
  refine ď PySem.F.entry_extend_loop ?_;rw[Ŀ ĺ _];show wpAny _ A.in1 (pyNext (.ref z) >>= _) _ _ _;refine À (zir D st (λa ha=>pz a (ï ha)) p.isList p2.isList (by simpa using hu) (by simpa using hu2) λh' st' pr hk'=>?_)
  have hnew:=I.hok.fresh (Ç s.heap.objs.size);have hSn:S≠s.heap.objs.size:=λe=>by rw[<- e,Be]at hnew;cases hnew
  have hHn:Hh s.heap.objs.size=none:=by rwa[Ah (É hSn)]at hnew
  have I1:Inv X pq σ (upd (upd Hh S (.lst (ps.map V.ref))) s.heap.objs.size (.tup [xs[i],ys[i]])) { s with heap:=h',toks:=s.toks}:=by
   refine Nd I hk' (λb hb=>hfu b (by grind)) (Ç _) ?_
   exact⟨by erw[Ø,õ];rw[ć];decide,[u,u2],.cons ru (.cons ru2 .nil),_,pr,rfl,0,rfl⟩
  obtain⟨hzl,js,c,rj,ej⟩:=I1.hok S _ (by rw[Ah hSn];exact Be)
  have lj:js.length=i:=by rw[<- rj.length,Á,hl]
  show wpAny _ A.in1 (updateSeq S (·.push (Value.ref s.heap.objs.size)) >>= _) _ _ _;refine À (Œ ej rfl ?_ (by simp[lj];omega) (by simp[lj];omega))
  refine Å ⟨plainId_quiet ĺ _,?_⟩;have up:∀b o,b≠S->h'.get? b=some o->(h'.update S (Obj.mapSeq (·.push (Value.ref s.heap.objs.size)))).get? b=some o:=λb o hb e=>(î _ _ (É hb)).trans e
  have eS:=Ā (Obj.mapSeq (·.push (Value.ref s.heap.objs.size))) ej rfl
  have I2:=I1.write (x:=S) (e:=S) (t':=s.toks) (o:=.lst ((ps++[s.heap.objs.size]).map V.ref)) (by rw[Ah hSn,Be];trivial) (.inl rfl) (λb o hb e=>up b o hb e) ⟨_,eS⟩
   ⟨by simp[hl];omega,js++[.ref s.heap.objs.size],_,by rw[á];exact rj.append (.cons rfl .nil),by simpa[Obj.mapSeq] using eS⟩
  have eH:upd (upd (upd Hh S (.lst (ps.map V.ref))) s.heap.objs.size (.tup [xs[i],ys[i]])) S (.lst ((ps++[s.heap.objs.size]).map V.ref))=upd (upd Hh s.heap.objs.size (.tup [xs[i],ys[i]])) S (.lst ((ps++[s.heap.objs.size]).map V.ref)):=by
   funext b
   unfold upd
   grind
  rw[eH]at I2;refine ih (i+1) _ _ (ps++[s.heap.objs.size]) (by omega) (by simp[hl]) (by omega) I2 (by rw[Ah hSn];exact hn) ⟨G.same.trans (FR hHn _),?_,?_⟩ ?_ ?_
  .intro a ha
   rcases é.mp ha with ha|ha
   .exact G.new a ha
   .rw[Û.mp ha];exact FV G.same hHn
  .intro j a hj
   by_cases h1:j<ps.length
   .rw[ú h1]at hj;obtain⟨x,y,e1,e2,e3⟩:=G.at' j a hj;exact⟨x,y,e1,e2,FR hHn _ _ _ e3⟩
   .have h2:j=ps.length:=by
     have:=(Í.mp hj).1;simp at this
     omega
    subst h2;have:s.heap.objs.size=a:=by simpa using hj
    subst this;exact⟨_,_,by rw[hl];exact Â hix,by rw[hl];exact Â hiy,Be⟩
  .obtain⟨s0,s1,⟨a,b,s2⟩,s3,s4⟩:=st';have n5:=λb hb o e=>up b o (hSb b hb) e
   have e0:(ps++[s.heap.objs.size])[0]?=some (ps[0]?.getD s.heap.objs.size):=by cases ps<;>rfl
   rw[e0];obtain⟨f,oa,y1,y2⟩:=s0;refine⟨⟨f,oa,n5 _ (by simp) _ y1,up _ _ ?_ y2⟩,n5 _ (by simp) _ s1,⟨a,b,n5 _ (by simp) _ s2⟩,s3.at λo e=>n5 _ (by simp) o e,s4.at λo e=>n5 _ (by simp) o e⟩
   cases ps with
   |nil=>exact É hSn|cons a r=>intro e;obtain⟨x,y,_,_,e3⟩:=G.at' 0 a rfl;have e':a=S:=e;rw[e',hn]at e3;cases e3
  .intro b hb;refine KE (hf b hb) λe=>?_
   have:=(hfu b hb).1
   rcases st with ⟨s0,s1,⟨a,c,s2⟩,⟨o3,s3,_⟩,⟨o4,s4,_⟩⟩
   have hz0:∃o,s.heap.get? z=some o:=by
    cases hp:ps[0]? with
    |none=>rw[hp]at s0;exact⟨_,s0⟩|some v=>rw[hp]at s0;obtain⟨f,oa,y,_⟩:=s0;exact⟨_,y⟩
   obtain⟨o0,hz0⟩:=hz0
   have:b<s.heap.objs.size:=by
    erw[Ð,ì,ñ]at hb
    rcases hb with rfl|rfl|rfl|rfl|rfl
    .exact Ä hz0
    .exact Ä s1
    .exact Ä s2
    .exact Ä s3
    .exact Ä s4
   exact absurd (e▸this) (â _)
theorem zdv:typeLookup (.type "zip") "__len__"=pure none:=by rw[typeLookup_type,builtinLookup_eq_fast];ext
theorem zd3:typeLookup (.type "zip") "__length_hint__"=pure none:=by rw[typeLookup_type,builtinLookup_eq_fast];ext
theorem ziw{s:Shared}{z TI TO i1 i2 l1 l2:Nat}{H:Hp}{xs ys:kK}(hh:A.handled=none)(D:ZipApart z TI TO i1 i2 l1 l2)(q1:AX X.K H l1 xs)(q2:AX X.K H l2 ys)(I:Inv X pq σ H s)
  (st:ZS s.heap z TI TO i1 i2 l1 l2 0 none) (hf:∀b∈[z,TI,TO,i1,i2],CD X pq H b)
  (hQ:∀s' Hh ps S,Inv X pq σ (upd Hh S (.lst (ps.map V.ref))) s'->Hh S=none->Zg xs ys H Hh ps->ps.length=min xs.length ys.length->Q (.ref S) s') :
  wpAny (model X.prog X.w) A (call (.type "list") [.ref z]) Q E s:=by
 obtain⟨hz,hTI,⟨ta,tb,hTO⟩,h1,h2⟩:=id st
 have hlt:∀b∈[z,TI,TO,i1,i2],b<s.heap.objs.size:=λb hb=>by
  erw[Ð,ì,ñ]at hb;obtain⟨o3,s3,_⟩:=h1;obtain⟨o4,s4,_⟩:=h2
  rcases hb with rfl|rfl|rfl|rfl|rfl
  .exact Ä hz
  .exact Ä hTI
  .exact Ä hTO
  .exact Ä s3
  .exact Ä s4
 have hS:=λm=>â _ (hlt _ m)
 refine callType_codes (Q₁:=λobj s₁=>obj=.ref s.heap.objs.size/\s₁={ s with heap:=s.heap.push { cls:=.type "list",data:=.seq #[] } }) F.called_list (F.typeCall_list_1 _) F.entry_list_init (code_list_new _ ⟨rfl,rfl⟩) λobj s₁ e₁=>?_
 obtain⟨rfl,rfl⟩:=e₁;have gS:(s.heap.push { cls:=.type "list",data:=.seq #[] }).get? s.heap.objs.size=some { cls:=.type "list",data:=.seq #[] }:=à _ rfl;refine⟨⟨_,gS,rfl⟩,F.args_list_init_2 _ _,?_⟩;show wpAny _ _ (Builtin.List.listItems (.ref s.heap.objs.size) >>= _) _ _ _;refine À ?_;unfold Builtin.List.listItems;refine À (wpAny_seqItems gS rfl (Å ?_));show wpAny _ _ (updateSeq s.heap.objs.size (λ_=>#[]) >>= _) _ _ _
 refine À (Œ gS rfl ?_);have gS₂:=Ā (Obj.mapSeq (λ_=>(#[]:Array Value))) gS rfl
 refine À (wpAny_letGo ?_);have hne:s.heap.objs.size≠z:=λe=>hS (by simp[e])
 have k2:∀b o,s.heap.get? b=some o->((s.heap.push { cls:=.type "list",data:=.seq #[] }).update s.heap.objs.size (Obj.mapSeq (λ_=>(#[]:Array Value)))).get? b=some o:=λb o e=>
  (î _ _ (ě (Ä e))).trans (Ë _ e)
 have hT:∀h':Heap,(∀b o,s.heap.get? b=some o->h'.get? b=some o)->Shared.TypeIs { s with heap:=h' } (.ref z) "zip":=λh' k=>⟨_,k _ _ hz,rfl⟩
 unfold Builtin.List.listExtendWith;refine À (wpAny_typeOf (hT _ k2) ?_);have t1:Builtin.List.listSameRef (.ref s.heap.objs.size) (.ref z)=false:=by simp[Builtin.List.listSameRef,hne]
 have t2:(Value.type "zip" == Value.type "list")=false:=by decide
 have t3:(Value.type "zip" == Value.type "tuple")=false:=by decide
 erw[t1,t2,t3,Bool.or_false,ā,Ã];refine À (ŷ (k2 _ _ hz) ?_);refine À (ç ?_);unfold Builtin.List.listLengthHint;refine À (œ (hT _ k2) zdv ?_);show wpAny _ _ (specialOf (.ref z) (Str.ofString "__length_hint__") >>= _) _ _ _;refine À (œ (hT _ k2) zd3 ?_);refine Å ?_;show wpAny _ _ (rule "list.extend.makes-room" >>= λ_=>Builtin.List.listTouch (.ref s.heap.objs.size) >>= λ_=>again (.builtin "list.extend.loop" ⟨[.ref s.heap.objs.size,.ref z,.none],[]⟩)) _ _ _
 refine À (wpAny_rule ?_);refine À ?_;show wpAny _ _ (updateSeq s.heap.objs.size (·.push .none) >>= λ_=>updateSeq s.heap.objs.size (·.pop)) _ _ _
 refine À (Œ gS₂ rfl ?_);have gS₃:=Ā (Obj.mapSeq (·.push Value.none)) gS₂ rfl;refine Œ (hz:=by seq_fits) gS₃ rfl ?_
 have gS₄:=Ā (Obj.mapSeq (·.pop)) gS₃ rfl
 have k4:∀b o,s.heap.get? b=some o->((((s.heap.push { cls:=.type "list",data:=.seq #[] }).update s.heap.objs.size (Obj.mapSeq (λ_=>(#[]:Array Value)))).update s.heap.objs.size (Obj.mapSeq (·.push Value.none))).update s.heap.objs.size (Obj.mapSeq (·.pop))).get? b=some o:=λb o e=>
  (î _ _ (ě (Ä e))).trans ((î _ _ (ě (Ä e))).trans (k2 b o e))
 have hn:=I.hok.fresh (Ç s.heap.objs.size);refine Å ⟨plainId_quiet ĺ _,ziv (A:=A.in1) (i1:=i1) (i2:=i2) (l1:=l1) (l2:=l2) (H:=H) hh D hS q1 q2 (λs' Hh ps I' n' G e=>⟨rfl,hQ s' Hh ps _ I' n' G e⟩) _ 0 _ H [] rfl rfl (í _) ?_ hn ⟨.refl _,λp hp=>(ì hp).elim,λj p hj=>by simp at hj⟩ ?_ hf⟩
 .refine I.laid k4 (Ç _) ⟨í _,[],_,.nil,gS₄⟩
 .exact⟨k4 _ _ hz,k4 _ _ hTI,⟨_,_,k4 _ _ hTO⟩,h1.at λo e=>k4 _ o e,h2.at λo e=>k4 _ o e⟩
def SH(K:k6)(Q:VK)(vs:kK)(H:Hp):Prop:=∃a b xs ys,vs=[.ref a,.ref b]/\AX K H a xs/\AX K H b ys /\
 ∀Hh ps S,Hh S=none->Zg xs ys H Hh ps->ps.length=min xs.length ys.length->Q (.ref S) (upd Hh S (.lst (ps.map V.ref)))
def tLz(K:k6)(ta tb:TE):TE:=λσ H Q=>ta σ H λx H1=>tb σ H1 λy H2=>SH K Q [x,y] H2
theorem pe_lz{a b:Expr}(hc:X.calm=true)(hg:Gl X "list")(hm:X.mg "list"=none)(hg2:Gl X "zip")(hm2:X.mg "zip"=none)(ha:PE X a ta)(hb:PE X b tb)(hs:starEach [a,b] X.env=(false,eval a X.env)::starEach [b] X.env)(hs2:starEach [b] X.env=[(false,eval b X.env)]) :
  PE X (.Call (.Name "list" p) [.Call (.Name "zip" p2) [a,b] [] pos2] [] pos) (tLz X.K ta tb):=by
 intro pq s σ H Q I h;refine Ď (F7 I hg hm đ ?_ (by decide) (by decide))
 refine Ċ ?_ rfl rfl;show wpAny _ _ (spliced ((false,eval (.Call (.Name "zip" p2) [a,b] [] pos2) X.env)::backTo pos (starEach [] X.env))) _ _ s;refine ũ (Ď (F7 I hg2 hm2 boot_zip ?_ (by decide) (by decide)))
 refine Ċ (AQ (CY ha (CY hb DW hs2) hs pos2 pq s σ H (SH X.K Q) I h) λus s1 zz=>?_) hs (by rw[hs2];rfl)
 obtain⟨vs,H1,I1,r1,q1⟩:=zz;obtain⟨l1,l2,xs,ys,rfl,hq,hq2,q⟩:=q1;obtain⟨u,u2,rfl,ru,ru2⟩:=FO r1;cases ru;cases ru2;obtain⟨its,rv,pl,hz⟩:=I1.list hq;obtain⟨its2,rv2,pl2,hz2⟩:=I1.list hq2;have llt:l1<s1.heap.objs.size:=by obtain⟨o,n,e,_⟩:=pl;exact Ä e
 have llt2:l2<s1.heap.objs.size:=by obtain⟨o,n,e,_⟩:=pl2;exact Ä e
 refine call_zip_2 pl.isList pl2.isList λh' a1 a2 a3 a4 a5 a6 hk=>ű ?_
 have I2:Inv X pq σ H1 { s1 with heap:=h',toks:=s1.toks}:=I1.kept hk
 have n1:∀k,l1≠s1.heap.objs.size+k:=λk z=>â _ (Ù llt (z▸Ņ _ _))
 have n2:∀k,l2≠s1.heap.objs.size+k:=λk z=>â _ (Ù llt2 (z▸Ņ _ _))
 have D:ZipApart (s1.heap.objs.size+4) (s1.heap.objs.size+2) (s1.heap.objs.size+3) s1.heap.objs.size (s1.heap.objs.size+1) l1 l2:=by
  refine⟨?_,?_,?_,?_,?_,?_,?_,?_,?_,?_,n1 4,n1 3,n1 0,n1 1,n2 4,n2 3,n2 0,n2 1⟩<;>intro z<;>simp at z
 refine ziw (I2.ok.hd hc) D hq hq2 I2 ⟨a1,a2,⟨_,_,a3⟩,a4,a5⟩ (λb hb=>?_) λs' Hh ps S I' hn G e=>⟨.ref S,_,I',rfl,q Hh ps S hn G e⟩
 have hb':s1.heap.objs.size<=b:=by grind
 exact I1.fpOk hb' (I1.hok.fresh hb')
def Ho:T->Option (kL)
 |.nd o k l=>if Fw (.nd o k l) && Ad l then some l else none
 |_=>none
def Jh(m n:AH):AH:=λτ=>match m τ with
 |some (.v t _)=>(match n τ with
  |some (.v u _)=>(match Ho t with
   |some l=>(match Ho u with
    |some r=>some (.v (.own (DF l r)) false)|none=>none)
   |none=>none)
  |r=>r)
 |r=>r
theorem Yp{K}{R}(s:A4 F H)(g:DC K F H R t b x B)(h:Ho t=some l):∃p xs,x=.ref p/\AX K H p xs/\Ag K F l xs:=by
 have g':∃B',Rp K F H t x B':=by
  cases b with
  |true=>exact g.2.elim λA z=>⟨A,z.2⟩|false=>exact⟨_,g⟩
 obtain⟨B',g'⟩:=g';cases t with
 |nd o k l'=>
  change (if (Fw (.nd o k l') && Ad l')=true then some l' else none)=some l at h
  by_cases h1:(Fw (.nd o k l') && Ad l')=true
  .rw[if_pos h1]at h;cases h;rw[Æ]at h1;cases g' with
   |shr n e c=>
    refine⟨_,_,rfl,?_,e,λi t x h2 h3=>(c i t x h2 h3).any⟩
    cases k with
    |lst=>exact AX.of (s _ _ n)|rl=>exact FQ n.l s|pin q=>exact AX.of (s _ _ n)|tup=>cases h1.1|rt=>cases h1.1
   |own hk R' f n e c d dp o=>
    refine⟨_,_,rfl,?_,e,λi t x h2 h3=>?_⟩
    .cases k with
     |lst=>exact AX.of n|pin q=>exact AX.of n|rl=>exact hk.elim|tup=>cases h1.1|rt=>cases h1.1
    .have r:=c i t x h2 h3;have e0:=r.r0 (zj7 h1.2 h2);rw[e0]at r;exact r.any
  .rw[if_neg h1]at h;cases h
 |_=>cases h
theorem r_lz{m n:AH}{a b:Expr}(hc:X.calm=true)(hg:Gl X "list")(hm:X.mg "list"=none)(hg2:Gl X "zip")(hm2:X.mg "zip"=none)(ha:PE X a (tM X.K E ca m))(hb:PE X b (tM X.K E ca n))(hs:starEach [a,b] X.env=(false,eval a X.env)::starEach [b] X.env)(hs2:starEach [b] X.env=[(false,eval b X.env)]) :
  PE X (.Call (.Name "list" p) [.Call (.Name "zip" p2) [a,b] [] pos2] [] pos) (tM X.K E ca (Jh m n)):=by
 refine PE.weak (pe_lz hc hg hm hg2 hm2 ha hb hs hs2) λσ H Q h=>?_
 obtain⟨F,τ,R,S,q⟩:=h;refine⟨F,τ,R,S,?_⟩;unfold Jh at q;cases h1:m τ with
 |none=>rw[h1]at q;exact q.elim|some r=>
  rw[h1]at q;cases r with
  |x c=>exact q|v t b1=>
   intro F1 H1 x B e1 g1;have e1':Ext F H F1 H1 R0:=e1.mono λ_ z=>z.elim
   refine⟨F1,τ,R,S.ext e1',?_⟩;cases h2:n τ with
   |none=>erw[h2]at q<;>exact q.elim|some r=>
    erw[h2]at q;cases r with
    |x c=>exact λF2 H2 e2=>q F2 H2 (e1'.trans0 e2)|v u b2=>
     simp only at q;cases h3:Ho t with
     |none=>erw[h3]at q<;>exact q.elim|some l=>
      cases h4:Ho u with
      |none=>erw[h3,h4]at q<;>exact q.elim|some r=>
       erw[h3,h4]at q;intro F2 H2 y B2 e2 g2;have e2':Ext F1 H1 F2 H2 R0:=e2.mono λ_ z=>z.elim
       obtain⟨a1,xs,rfl,s1,k1⟩:=Yp e1.fh g1 h3;obtain⟨a2,ys,rfl,s2,k2⟩:=Yp e2.fh g2 h4;refine⟨a1,a2,xs,ys,rfl,FQ s1 e2.hh,s2,λHh ps S' hS G el=>?_⟩
       have k1':=k1.same e2.ff;have nF:=λa ha=>FV e2.fh (G.new a ha)
       have s3:A4 F2 Hh:=e2.fh.trans G.same
       have e3:Ext F2 H2 (frz F2 Hh (·∈ps)) Hh R0:=⟨G.same,ES nF,HP s3,λ_ z=>z.elim,λb u e=>by
        by_cases hb:b∈ps
        .exact .inr (G.new b hb)
        .rw[EO hb]at e;exact .inl e⟩
       have hro:RpO X.K (frz F2 Hh (·∈ps)) Hh (DF l r) (ps.map V.ref) (λ_=>R0):=by
        refine⟨by simp[DF,el,k1'.1,k2.1],λj t x g1 g2=>?_,λ_ _ _ _ z=>z.elim,λ_ _ z=>z.elim⟩
        rw[Ê]at g2;obtain⟨pj,g3,rfl⟩:=Õ.mp g2;obtain⟨x,y,y1,y2,y3⟩:=G.at' j pj g3;unfold DF at g1;rw[ľ]at g1;cases gl:l[j]? with
        |none=>rw[gl]at g1;cases g1|some lt=>
         cases gr:r[j]? with
         |none=>rw[gl,gr]at g1;cases g1|some rt=>rw[gl,gr]at g1;cases g1;refine Ag.of_node (k:=.tup) ?_ (.cons (H:=Hh) ((k1'.same e3.ff).2 j lt x gl y1).any (.cons (H:=Hh) ((k2.same e3.ff).2 j rt y gr y2).any .nil));show frz F2 Hh (·∈ps) pj=_;rw[Dj (ï g3)];exact y3
       obtain⟨w1,w2⟩:=hro.list e3.fh hS;refine q _ _ (.ref S') _ ((((e1'.trans0 e2').trans0 e3).trans0 w2).mono ?_) w1;rintro x (z|⟨_,z⟩)
       .exact z
       .exact z.elim
end
def Rz:L2.St->XK:=λ_=>E0
noncomputable def CB(b:T->AK->Option AK)(mt me:AH):kL->AK->Option (kL)
 |[],_=>some []|t::ts,τ=>(match b t τ with
  |some τ1=>(match mt τ1 with
   |some (.v (.bl true) _)=>(match me τ1 with
    |some (.v v false)=>(match CB b mt me ts τ1 with
     |some l=>some (v::l)|none=>none)
    |_=>none)
   |some (.v (.bl false) _)=>CB b mt me ts τ1|_=>none)
  |none=>none)
noncomputable def Fv(b:T->AK->Option AK)(mt me:AH):kL->AK->Option Str
 |[],_=>none|t::ts,τ=>(match b t τ with
  |some τ1=>(match mt τ1 with
   |some (.v (.bl true) _)=>(match me τ1 with
    |some (.v _ false)=>Fv b mt me ts τ1|some (.x c)=>some c|_=>none)
   |some (.v (.bl false) _)=>Fv b mt me ts τ1|some (.x c)=>some c|_=>none)
  |none=>none)
noncomputable def M4(τ:AK)(j:Nat):kH:=match τ[j]? with
 |some (some t)=>if t.sh then some t else none
 |_=>none
def blk(n:Nat)(caps:kG)(τ:AK):AK:=List.replicate n none++caps.map (M4 τ)
noncomputable def RF(σ:L2.St)(j:Nat):Option V:=match σ[j]? with
 |some (some v)=>some v|_=>none
def Ee(n:Nat)(caps:kG)(σ:L2.St):L2.St:=List.replicate n none++caps.map (RF σ)
def Bb(n:Nat)(caps:kG)(mi:Av)(b:T->AK->Option AK)(mt me:AH):AH:=λτ=>match mi τ with
 |some (.v ts _)=>if ts.length<=Az then (match CB b mt me ts (blk n caps τ) with
  |some l=>some (.v (.own l) false)|none=>(match Fv b mt me ts (blk n caps τ) with
   |some c=>some (.x c)|none=>none)) else none
 |some (.x c)=>some (.x c)|none=>none
theorem zpe{K}(S:StR K F H σ τ R)(n)(caps):StR K F H (Ee n caps σ) (blk n caps τ) (λ_=>R0):=by
 refine⟨S.fh,by simp[Ee,blk],λi t e=>?_,λ_ _ z=>z.elim,λ_ _ _ _ z=>z.elim⟩
 unfold blk at e;unfold Ee
 by_cases hi:i<n
 .rw[ú (by simpa using hi),ś,if_pos hi]at e
  cases e
 .rw[ĸ (by simp;omega),Ê]at e ⊢
  erw[ģ]at e ⊢;cases hc:caps[i - n]? with
  |none=>rw[hc]at e;cases e|some j=>
   rw[hc]at e;erw[Ĩ]at e ⊢;have e':=Ý e;unfold M4 at e';split at e'
   .rename_i t' ht;split at e'
    .cases e';rename_i hs;obtain⟨x,ex,r⟩:=S.rep j _ ht;refine⟨x,?_,r.move hs (.refl _)⟩;unfold RF;rw[ex]
    .cases e'
   .cases e'
theorem T6{l:kL}(h:tot (λj=>if j=l.length then B else Rr j) a):tot Rr a\/B a:=by
 obtain⟨j,z⟩:=h
 by_cases hj:j=l.length
 .grind
 .erw[hj]at z;exact .inl ⟨j,z⟩
section
variable {X:Cx}{E:L2.St->XK}{ca:Str->Value}{σ:L2.St}{H:Hp}{K:k6}{n:Nat}{caps:kG}{mi:Av}{b:T->AK->Option AK}{mt me:AH}
theorem zfc(h:CB b mt me (t::us) τ1=some l2):∃τ2,b t τ1=some τ2/\((∃bt,mt τ2=some (.v (.bl false) bt)/\CB b mt me us τ2=some l2)\/∃bt w l3,mt τ2=some (.v (.bl true) bt)/\me τ2=some (.v w false)/\CB b mt me us τ2=some l3/\l2=w::l3):=by
 unfold CB at h
 grind
theorem zhk(h:Fv b mt me (t::us) τ1=some c):∃τ2,b t τ1=some τ2/\((∃bt,mt τ2=some (.v (.bl false) bt)/\Fv b mt me us τ2=some c)\/(∃bt,mt τ2=some (.v (.bl true) bt)/\((∃w,me τ2=some (.v w false)/\Fv b mt me us τ2=some c)\/me τ2=some (.x c)))\/mt τ2=some (.x c)):=by
 unfold Fv at h
 grind
theorem TB  (h:tM K E ca (Bb n caps mi b mt me) σ H Q):Kz (Ee n caps) (tI K E ca mi) (EJ K b) (BF K (λ_=>E σ) ca mt) (tM K (λ_=>E σ) ca me) σ H Q:=by
 obtain⟨F,τ,R,S,q⟩:=h;refine⟨F,τ,R,S,?_⟩;unfold Bb at q;cases hi:mi τ with
 |none=>erw[hi]at q<;>exact q.elim|some r=>
  erw[hi]at q;cases r with
  |x c=>exact q|v ts bb=>
   intro F1 H1 J e1 its
   by_cases hz':¬ ts.length<=Az
   .erw[hz',Ã]at q<;>exact q.elim
   have hz :=Decidable.not_not.mp hz';erw[hz,È]at q
   obtain⟨G,g1,g0,gs⟩:∃G:kL->AK->kL->Prop,(∀t us τ1 l,G (t::us) τ1 l->∃τ2,b t τ1=some τ2/\((∃bt,mt τ2=some (.v (.bl false) bt)/\G us τ2 l)\/(∃bt,mt τ2=some (.v (.bl true) bt)/\((∃w,me τ2=some (.v w false)/\G us τ2 (l++[w]))\/∃c,me τ2=some (.x c)/\∀F' H',Ext F H F' H' R0->XE (E σ) ca c F' H'))\/∃c,mt τ2=some (.x c)/\∀F' H',Ext F H F' H' R0->XE (E σ) ca c F' H')) /\
     (∀τ1 l,G [] τ1 l->∀F' H' x B,Ext F H F' H' B->Rp K F' H' (.own l) x B->Q x H')/\G ts (blk n caps τ) []:=by
    cases hg:CB b mt me ts (blk n caps τ) with
    |some res=>
     erw[hg]at q;refine⟨λus τ1 l=>∃l2,CB b mt me us τ1=some l2/\l++l2=res,λt us τ1 l z=>?_,λτ1 l z=>?_,res,hg,rfl⟩
     .obtain⟨l2,z,e⟩:=z;obtain⟨τ2,y,w|⟨bt,w,l3,y1,y2,y3,rfl⟩⟩:=zfc z
      .obtain⟨bt,w1,w2⟩:=w;exact⟨τ2,y,.inl ⟨bt,w1,l2,w2,e⟩⟩
      .exact⟨τ2,y,.inr (.inl ⟨bt,y1,.inl ⟨w,y2,l3,y3,by simpa using e⟩⟩)⟩
     .obtain⟨l2,z,e⟩:=z;cases z;rw[Ą]at e;subst e;exact q
    |none=>
     erw[hg]at q;cases hx:Fv b mt me ts (blk n caps τ) with
     |none=>erw[hx]at q<;>exact q.elim|some c=>
      erw[hx]at q;refine⟨λus τ1 l=>Fv b mt me us τ1=some c,λt us τ1 l z=>?_,λτ1 l z=>(by cases z),hx⟩
      obtain⟨τ2,y,w|⟨bt,y1,⟨w,y2,y3⟩|y2⟩|w⟩:=zhk z
      .exact⟨τ2,y,.inl w⟩
      .exact⟨τ2,y,.inr (.inl ⟨bt,y1,.inl ⟨w,y2,y3⟩⟩)⟩
      .exact⟨τ2,y,.inr (.inl ⟨bt,y1,.inr ⟨c,y2,q⟩⟩)⟩
      .exact⟨τ2,y,.inr (.inr ⟨c,w,q⟩)⟩
   have S1:=S.ext e1;refine⟨λi ys st H'=>∃(F':Hp) (τ':AK) (l:kL) (Rr:Nat->Rg),Ext F1 H1 F' H' (tot Rr)/\RpO K F' H' l ys Rr/\StR K F' H' st τ' (λ_=>R0)/\i<=ts.length/\G (ts.drop i) τ' l/\l.length<=i,ts.length,by rw[<- FZ];exact hz,?_,?_⟩
   .exact⟨F1,blk n caps τ,[],λ_=>R0,(Ext.refl S1.fh).mono λa ⟨_,z⟩=>z.elim,.nil,zpe S1 n caps,í _,gs,Ç _⟩
   .rintro i ys st H' ⟨F',τ',l,Rr,e2,ro,S2,hle,hgo,hll⟩;have hly:=ro.len;refine⟨by omega,hle,?_⟩
    obtain⟨i1,i2⟩:=its i F' H' e2.ff e2.fh
    by_cases hlt:i<ts.length
    .refine .inr ⟨hlt,?_⟩;obtain⟨go,yld⟩:=i1 _ (Â hlt);refine⟨go,λx H'' y=>?_⟩
     obtain⟨F'',e3,rx⟩:=yld x H'' y;have S3:=S2.ext e3;rw[ġ hlt]at hgo;obtain⟨τ1,hb,hgo⟩:=g1 _ _ _ _ hgo;refine⟨F'',τ',_,ts[i],τ1,S3,rx,hb,λst1 R1 S4 hR1=>?_⟩
     have R1e :=funext λj=>funext λa=>propext ⟨λz=>hR1 j a z,λz=>z.elim⟩
     subst R1e;refine⟨F'',τ1,_,S4,?_⟩;have eX:∀{c },(∀F' H',Ext F H F' H' R0->XE (E σ) ca c F' H')->∀F' H',Ext F'' H'' F' H' R0->XE (E σ) ca c F' H':=λz F' H' e=>z F' H' (((e1.trans0 e2).trans (e3.trans0 e)).mono λ_ z=>z.elim)
     rcases hgo with ⟨bt,ht,hgo⟩|⟨bt,ht,hgo⟩|⟨c,ht,hX⟩
     .rw[ht];intro F4 H4 e4;exact Ju ⟨F4,τ1,l,Rr,(e2.trans ((e3.trans0 e4).mono λ_ z=>z)).mono λa z=>.inl z,(ro.ext e3).ext e4,S4.ext e4,hlt,hgo,by omega⟩
     .rw[ht];intro F4 H4 e4;have S5:=S4.ext e4;have e24:=e2.trans ((e3.trans0 e4).mono λ_ z=>z)
      refine Jt ⟨F4,τ1,_,S5,?_⟩
      rcases hgo with ⟨ve,he,hgo⟩|⟨c,he,hX⟩
      .rw[he];intro F5 H5 y B e5 ry;have ry' :=ry;have ro4:=(ro.ext e3).ext e4;have ro5:=ro4.ext e5;refine⟨F5,τ1,l++[ve],_,(e24.trans e5).mono ?_,ro5.snoc ry' (λj a z1 z2=>ro4.apart e5 z2 j z1),S5.ext e5,hlt,hgo,by simp;omega⟩
       intro a z
       rcases T6 z with z|z
       .exact .inl (.inl z)
       .exact .inr z
      .rw[he];exact λF' H' e=>eX hX F' H' (e4.trans0 e)
     .rw[ht];exact eX hX
    .have hi':i=ts.length:=by omega
     subst hi';refine .inl ⟨i2 rfl,λp hp=>?_⟩
     rw[List.drop_length]at hgo;obtain⟨rl,e3⟩:=ro.list e2.fh hp;refine g0 _ _ hgo F' _ _ _ (((e1.trans0 e2).trans e3).mono ?_) rl;rintro a (z|⟨j,z⟩)
     .exact .inr z
     .exact .inl ⟨j,z⟩
structure BlkOk(X:Cx)(scope:Scope)(N':kE)(n:Nat)(caps:kG):Prop where
 kind:scope.kind=.function
 names:∀y∈scope.names,y.2=.local->scope.names.lookup y.1=some .local
 len:N'.length=n+caps.length
 cap:∀(k j:Nat),caps[k]?=some j->∃y,X.N[j]?=some y/\N'[n+k]?=some y/\scope.names.lookup y=some .free/\(y,NameKind.cell)∉scope.names
 free:∀y∈scope.names,y.2=.free->scope.names.lookup y.1=some .free/\(X.env.scope.names.lookup y.1=some .cell\/X.env.scope.names.lookup y.1=some .free)
theorem Pt{env:Env}(y:Str):∀(names:List (Str×NameKind)),(names.map λ(n,k)=>if (k == NameKind.free && env.scope.kind == .function && env.kindOf n == some .cell) then (n,NameKind.cell) else (n,k)).lookup y =
  (names.lookup y).map λk=>if (k == NameKind.free && env.scope.kind == .function && env.kindOf y == some .cell) then .cell else k
 |[]=>rfl|(n,k)::r=>by
  rw[Ñ];cases hy:y == n with
  |true=>grind|false=>
   by_cases hc:(k == .free && env.scope.kind == .function && env.kindOf n == some .cell)=true
   .erw[hc,È,ö,hy];exact Pt y r
   .erw[hc,hy];erw[ā,Ã,ö,hy];exact Pt y r
theorem OM(scope)(env)(y):(relabel scope env).names.lookup y=(scope.names.lookup y).map λk=>if (k == NameKind.free && env.scope.kind == .function && env.kindOf y == some .cell) then .cell else k:=Pt y scope.names
theorem Pw:∀{names:List (Str×NameKind)},names.lookup y=some k->(y,k)∈names:=λh=>ă h
theorem bB(B:BlkOk X scope N' n caps) (I:Inv X pq σ H s) :
  ∃cl,closureFor scope X.env=pure cl/\(∀y c,cl.lookup y=some c->X.env.cells.lookup y=some c)/\(∀y,(relabel scope X.env).names.lookup y=some .cell\/(relabel scope X.env).names.lookup y=some .free->(y,NameKind.cell)∈scope.names\/∃c,cl.lookup y=some c) /\
   (∀(σ) (i:Nat) (y) (v),N'[i]?=some y->(Ee n caps σ)[i]?=some (some v)->(y,NameKind.cell)∉scope.names) /\
   (∀σ,σ.length=X.N.length->(Ee n caps σ).length=N'.length) /\
   (∀(σ) (i:Nat) (y) (v),N'[i]?=some y->(Ee n caps σ)[i]?=some (some v)->((relabel scope X.env).names.lookup y=some .cell\/(relabel scope X.env).names.lookup y=some .free)/\∃j:Nat,X.N[j]?=some y/\σ[j]?=some (some v)/\DB X.env.scope y/\X.env.kindOf y≠some .local):=by
 obtain⟨cl,h1,h2,h3⟩:=zdl scope X.env λy hy hf=>I.ok.has y.1 (B.free y hy hf).2
 have GC:∀(σ) (i:Nat) (y) (v),N'[i]?=some y->(Ee n caps σ)[i]?=some (some v)->∃j:Nat,X.N[j]?=some y/\σ[j]?=some (some v)/\scope.names.lookup y=some .free/\(y,NameKind.cell)∉scope.names:=by
  intro σ i y v e1 e2;unfold Ee at e2
  by_cases hi:i<n
  .rw[ú (by simpa using hi),ś,if_pos hi]at e2
   cases e2
  .rw[ĸ (by simp;omega),Ê]at e2
   erw[ģ]at e2;cases hc:caps[i - n]? with
   |none=>rw[hc]at e2;cases e2|some j=>
    rw[hc]at e2;erw[Ĩ]at e2;have e' :=Ý e2;obtain⟨y',g1,g2,g3,g4⟩:=B.cap (i - n) j hc;have en:n+(i - n)=i:=by omega
    rw[en,e1]at g2;cases g2
    have sv :=by
     unfold RF at e';split at e'
     .rename_i v' hv;cases e';exact hv
     .cases e'
    exact⟨j,g1,sv,g3,g4⟩
 refine⟨cl,h1,h2,λy hy=>?_,λσ i y v e1 e2=>?_,λσ hσ=>by simp[Ee,B.len],λσ i y v e1 e2=>?_⟩
 .cases hk:scope.names.lookup y with
  |none=>
   rw[OM,hk]at hy
   rcases hy with hy|hy<;>cases hy
  |some k=>
   by_cases hf:k=.free
   .subst hf;exact .inr (h3 _ (Pw hk) rfl)
   .rw[OM,hk]at hy;erw[Ĩ]at hy;have hf' :=beq_eq_false_iff_ne.mpr hf;erw[hf',Bool.false_and,ā,Ã]at hy
    rcases hy with hy|hy
    .cases hy;exact .inl (Pw hk)
    .cases hy;exact absurd rfl hf
 .exact(GC σ i y v e1 e2).choose_spec.2.2.2
 .obtain⟨j,g1,sv,g3,g4⟩:=GC σ i y v e1 e2;have fr:=B.free _ (Pw g3) rfl;refine⟨?_,j,g1,sv,?_,?_⟩
  .rw[OM,g3];erw[Ĩ]
   by_cases hc2:(NameKind.free == NameKind.free && X.env.scope.kind == .function && X.env.kindOf y == some .cell)=true
   .exact .inl (by rw[if_pos hc2])
   .exact .inr (by rw[if_neg hc2])
  .rcases fr.2 with z|z
   .exact .inr (.inl z)
   .exact .inr (.inr z)
  .intro z;have z':X.env.scope.names.lookup y=some .local:=z
   rcases fr.2 with w|w
   .rw[z']at w;cases w
   .rw[z']at w;cases w
theorem r_lcV(B:BlkOk X scope N' n caps)(hc:∀pq σ H s cl C ex xb,Inv X pq σ H s->cq (Ar X scope cl N' C s H ex xb))(hi:PJ cq X tg iter (tI X.K E ca mi))
  (hps:BI X E) (hst:Hg X) (hg:∀cl C s₀ H₀ ex xb E',BI (Ar X scope cl N' C s₀ H₀ ex xb) E'->PG (Ar X scope cl N' C s₀ H₀ ex xb) tg (EJ X.K b)) (ht:∀cl C s₀ H₀ ex xb E',BI (Ar X scope cl N' C s₀ H₀ ex xb) E'->Gn (Ar X scope cl N' C s₀ H₀ ex xb) ifs (BF X.K E' ca mt)) (he:∀cl C s₀ H₀ ex xb E',BI (Ar X scope cl N' C s₀ H₀ ex xb) E'->PE (Ar X scope cl N' C s₀ H₀ ex xb) elt (tM X.K E' ca me))
  (hs:∀x,foldedSetIterable iter X.env x=pure x):PE X (.ListComp elt [⟨tg,iter,ifs,0⟩] scope pos) (tM X.K E ca (Bb n caps mi b mt me)):=by
 intro pq s σ H Q I h;obtain⟨cl,h1,h2,h3,h4,h5,h6⟩:=bB B I;exact zoc (Ee n caps) h1 B.kind B.names h2 h3 h4 h5 h6 hc hi hps hst (λcl C s₀ H₀ ex xb=>hg cl C s₀ H₀ ex xb _) (λcl C s₀ H₀ ex xb=>ht cl C s₀ H₀ ex xb _) (λcl C s₀ H₀ ex xb=>he cl C s₀ H₀ ex xb _) hs I (TB h)
theorem r_lcS(B:BlkOk X scope N' n caps)(hc:X.calm=true)(hi:PI X tg iter (tI X.K E ca mi))
  (hps:BI X E) (hst:Hg X) (hg:∀cl C s₀ H₀ ex xb E',BI (Ar X scope cl N' C s₀ H₀ ex xb) E'->PG (Ar X scope cl N' C s₀ H₀ ex xb) tg (EJ X.K b)) (ht:∀cl C s₀ H₀ ex xb E',BI (Ar X scope cl N' C s₀ H₀ ex xb) E'->Gn (Ar X scope cl N' C s₀ H₀ ex xb) ifs (BF X.K E' ca mt)) (he:∀cl C s₀ H₀ ex xb E',BI (Ar X scope cl N' C s₀ H₀ ex xb) E'->PE (Ar X scope cl N' C s₀ H₀ ex xb) elt (tM X.K E' ca me))
  (hs:∀x,foldedSetIterable iter X.env x=pure x)   (hN:X.N.Nodup) (hix:X.N[i]?=some x) (hx:X.env.scope.names.lookup x=some .local)
  (hsw:swapsWith (.ListComp elt [⟨tg,iter,ifs,0⟩] scope pos) (some (.Name x pos')) pos2.line X.env=pure true):PS X (.Assign [.Name x pos'] (.ListComp elt [⟨tg,iter,ifs,0⟩] scope pos) pos2) (λD σ H=>tM X.K E ca (Bb n caps mi b mt me) σ H λv H1=>D.nx (σ.set i (some v)) H1):=by
 intro pq s σ H D I h;obtain⟨cl,h1,h2,h3,h4,h5,h6⟩:=bB B I;exact zod (Ee n caps) h1 B.kind B.names h2 h3 h4 h5 h6 hc hi hps hst (λcl C s₀ H₀ ex xb=>hg cl C s₀ H₀ ex xb _) (λcl C s₀ H₀ ex xb=>ht cl C s₀ H₀ ex xb _) (λcl C s₀ H₀ ex xb=>he cl C s₀ H₀ ex xb _) hs hN hix hx hsw I (TB h)
end
section
variable {X:Cx}{E:L2.St->XK}{ca:Str->Value}{m mk mv:AH}{o k v:Expr}{pos p p2 ap cp:Pos}{K:k6}{elts:kC}{kk:Nat}{tpos:Pos}
end
set_option genInjectivity true in
inductive Out where
 |nx (τ:AK)|rt (t:T)|bk (τ:AK)|ct (τ:AK)|xc (c:Str) (τ:AK)
abbrev AG:=AK->Option Out
structure Stp(F H:Hp)(O:Rg)(F' H':Hp)(O':Rg):Prop where
 ff:A4 F F'
 fh:A4 F' H'
 kp:∀b u,¬ O b->H b=some u->H' b=some u
 nw:∀b,O' b->O b\/H b=none
 nf:∀b u,F' b=some u->F b=some u\/O b\/H b=none
section
variable {F H F1 H1 F2 H2:Hp}{O O1 O2 B:Rg}{R:Nat->Rg}
theorem Stp.refl(s:A4 F H):Stp F H O F H O:=⟨.refl _,s,λ_ _ _ e=>e,λ_ z=>.inl z,λ_ _ e=>.inl e⟩
theorem Stp.trans(a:Stp F H O F1 H1 O1)(b:Stp F1 H1 O1 F2 H2 O2):Stp F H O F2 H2 O2 where
 ff:=a.ff.trans b.ff
 fh:=b.fh
 kp:=λx u n e=>b.kp x u (λz=>(a.nw x z).elim n λw=>by grind) (a.kp x u n e)
 nw:=λx z=>(b.nw x z).elim (a.nw x) λw=>by
  by_cases hO:O x
  .exact .inl hO
  .cases e:H x with
   |none=>simp|some u=>rw[a.kp x u hO e]at w;cases w
 nf:=λx u e=>(b.nf x u e).elim (a.nf x u) λz=>.inr (z.elim (a.nw x) λw=>by
  by_cases hO:O x
  .exact .inl hO
  .cases e':H x with
   |none=>simp|some u'=>rw[a.kp x u' hO e']at w;cases w)
theorem Stp.mono(a:Stp F H O F1 H1 O1)(h:∀x,O2 x->O1 x):Stp F H O F1 H1 O2:=⟨a.ff,a.fh,a.kp,λx z=>a.nw x (h x z),a.nf⟩
theorem Ext.stp(e:Ext F H F1 H1 B):Stp F H O F1 H1 (λx=>O x\/B x):=⟨e.ff,e.fh,λb u _ q=>e.hh b u q,λb z=>z.elim .inl λz=>.inr (e.nb b z),λb u q=>(e.nf b u q).elim .inl λz=>.inr (.inr z)⟩
theorem Ext.stp0(e:Ext F H F1 H1 B):Stp F H O F1 H1 O:=e.stp.mono λ_ z=>.inl z
end
section
def Wr(K:k6)(mu:Bool)(F H:Hp)(t:T)(x:V)(B:Rg):Prop:=match mu with
 |false=>Rp K F H t x B|true=>∃v q l,t=.own [v,.nd true (.pin q) l]/\v.flat=true/\Rp K F H v x R0/\Rp K F H (.nd true (.pin q) l) (.ref q) B
def pS(K:k6)(E:L2.St->XK)(ca:Str->Value)(mu:Bool)(D:Ends)(F H:Hp)(R:Nat->Rg):Option Out->Prop
 |some (.nx τ')=>∀F' H' σ' R',Stp F H (tot R) F' H' (tot R')->StR K F' H' σ' τ' R'->D.nx σ' H'|some (.bk τ')=>∀F' H' σ' R',Stp F H (tot R) F' H' (tot R')->StR K F' H' σ' τ' R'->D.bk σ' H'|some (.ct τ')=>∀F' H' σ' R',Stp F H (tot R) F' H' (tot R')->StR K F' H' σ' τ' R'->D.ct σ' H'|some (.rt t)=>∀F' H' x B,Stp F H (tot R) F' H' B->Wr K mu F' H' t x B->D.rt x H'|some (.xc c τ')=>∀F' H' σ' R',Stp F H (tot R) F' H' (tot R')->StR K F' H' σ' τ' R'->XE (E σ') ca c F' H'|none=>False
def tS(K:k6)(E:L2.St->XK)(ca:Str->Value)(mu:Bool)(m:AG):TS:=λD σ H=>∃F τ R,StR K F H σ τ R/\pS K E ca mu D F H R (m τ)
end
def AF(m n:AG):AG:=λτ=>match m τ with
 |some (.nx τ')=>n τ'|r=>r
def Af:AG:=λτ=>some (.nx τ)
def LU:AG:=λ_=>none
def LV:AG:=λτ=>some (.bk τ)
def VC:AG:=λτ=>some (.ct τ)
def El(m:AH):AG:=λτ=>match m τ with
 |some (.v _ _)=>some (.nx τ)|some (.x c)=>some (.xc c τ)|none=>none
def AN(m:AH):AG:=λτ=>match m τ with
 |some (.v t _)=>some (.rt t)|some (.x c)=>some (.xc c τ)|none=>none
def Nx:AG:=λ_=>some (.rt .non)
noncomputable def AW(m:AH)(b:T->AK->Option AK):AG:=λτ=>match m τ with
 |some (.v t false)=>(match b t.share τ with
  |some τ'=>some (.nx τ')|none=>none)
 |some (.v _ true)=>none|some (.x c)=>some (.xc c τ)|none=>none
noncomputable def C0(i:Nat)(m:AH):AG:=λτ=>match m τ with
 |some (.v t false)=>if i<τ.length then some (.nx (τ.set i (some t))) else none
 |some (.v _ true)=>none|some (.x c)=>some (.xc c τ)|none=>none
noncomputable def FT(i:Nat):AG:=λτ=>match τ[i]? with
 |some (some t)=>some (.nx (τ.set i (some t.share)))|_=>some (.nx τ)
def Ai(c:AH)(a b:AG):AG:=λτ=>match c τ with
 |some (.v (.bl true) _)=>a τ|some (.v (.bl false) _)=>b τ|some (.x c)=>some (.xc c τ)|_=>none
noncomputable def As(b:T->AK->Option AK)(body:AG):kL->AG
 |[],τ=>some (.nx τ)|t::ts,τ=>(match b t τ with
  |some τ1=>(match body τ1 with
   |some (.nx τ2)=>As b body ts τ2|some (.ct τ2)=>As b body ts τ2|some (.bk τ2)=>some (.nx τ2)|r=>r)
  |none=>none)
def Bw(mi:Av)(b:T->AK->Option AK)(body:AG):AG:=λτ=>match mi τ with
 |some (.v ts _)=>As b body ts τ|some (.x c)=>some (.xc c τ)|none=>none
noncomputable def Cm(c:AH)(body:AG):Nat->AG
 |0,_=>none|n+1,τ=>(match c τ with
  |some (.v (.bl true) _)=>(match body τ with
   |some (.nx τ2)=>Cm c body n τ2|some (.ct τ2)=>Cm c body n τ2|some (.bk τ2)=>some (.nx τ2)|r=>r)
  |some (.v (.bl false) _)=>some (.nx τ)|some (.x c)=>some (.xc c τ)|_=>none)
open Classical in
def Fk(c:AH)(body:AG):AG:=λτ=>if h:∃n,(Cm c body n τ).isSome=true then Cm c body h.choose τ else none
theorem zgs(h:Fk c body τ=some o):∃n,Cm c body n τ=some o:=by
 unfold Fk at h;split at h
 .grind
 .cases h
theorem NS:∀{n} {τ} {o},Cm c body n τ=some o->Cm c body (n+1) τ=some o
 |0,τ,o,h=>by cases h|n+1,τ,o,h=>by
  unfold Cm at h ⊢;split at h
  .split at h
   .exact NS h
   .exact NS h
   .exact h
   .exact h
  .exact h
  .exact h
  .cases h
theorem SX(h:Cm c body n τ=some o)(hm:n<=m):Cm c body m τ=some o:=by
 induction hm with
 |refl=>exact h|step _ ih=>exact NS ih
theorem zmk(h:Cm c body n τ=some o):Fk c body τ=some o:=by
 unfold Fk;have hx:∃n,(Cm c body n τ).isSome=true:=⟨n,by rw[h];rfl⟩
 obtain⟨o',e⟩:=Ļ.mp hx.choose_spec;have e1:=SX e (Nat.le_max_left hx.choose n);have e2:=SX h (Nat.le_max_right hx.choose n)
 grind
section
variable {mu:Bool}{X:Cx}{E:L2.St->XK}{ca:Str->Value}{σ:L2.St}{H:Hp}{K:k6}{m mk mc:AH}{ms mi:Av}{b:T->AK->Option AK}{u w:AG}{D:Ends}{e c tg iter:Expr}{st:Stmt}{rest body sa sb:kD}{pos pos':Pos}
theorem PS.weak(h:PS X st t)(w:∀D σ H,t' D σ H->t D σ H):PS X st t':=λpq s σ H D I q=>h pq s σ H D I (w D σ H q)
theorem BB.weak(h:BB X rest t)(w:∀D σ H,t' D σ H->t D σ H):BB X rest t':=λpq s σ H D I q=>h pq s σ H D I (w D σ H q)
theorem zlv(h:tS K E ca mu (AF u w) D σ H):Ss (tS K E ca mu u) (tS K E ca mu w) D σ H:=by
 obtain⟨F,τ,R,S,q⟩:=h;refine⟨F,τ,R,S,?_⟩;unfold AF at q;cases hm:u τ with
 |none=>erw[hm]at q<;>exact q.elim|some o=>
  erw[hm]at q;cases o with
  |nx τ'=>
   intro F1 H1 σ1 R1 s1 S1;refine⟨F1,τ',R1,S1,?_⟩;cases hw:w τ' with
   |none=>erw[hw]at q<;>exact q.elim|some o=>
    erw[hw]at q;cases o with
    |nx _=>exact λF' H' σ' R' s S=>q F' H' σ' R' (s1.trans s) S|bk _=>exact λF' H' σ' R' s S=>q F' H' σ' R' (s1.trans s) S|ct _=>exact λF' H' σ' R' s S=>q F' H' σ' R' (s1.trans s) S|rt _=>exact λF' H' x B s r=>q F' H' x B (s1.trans s) r|xc _ _=>exact λF' H' σ' R' s S=>q F' H' σ' R' (s1.trans s) S
  |rt _=>exact q|bk _=>exact q|ct _=>exact q|xc _ _=>exact q
theorem UD:BB X [] (tS X.K E ca mu Af):=BB.weak Ξ λD σ H h=>by
 obtain⟨F,τ,R,S,q⟩:=h;exact q F H σ R (Stp.refl S.fh) S
theorem Nw(h1:PS X st (tS X.K E ca mu u))(h2:BB X rest (tS X.K E ca mu w)):BB X (st::rest) (tS X.K E ca mu (AF u w)):=BB.weak (Ο h1 h2) λD σ H h=>zlv h
theorem Nt(h1:PS X st (tS X.K E ca mu u)):BB X [st] (tS X.K E ca mu u):=Ρ h1
theorem UC:PS X st (tS X.K E ca mu LU):=λpq s σ H D I h=>by
 obtain⟨_,_,_,_,q⟩:=h;exact q.elim
theorem zmf:PS X (.Pass pos) (tS X.K E ca mu Af):=PS.weak Υ λD σ H h=>by
 obtain⟨F,τ,R,S,q⟩:=h;exact q F H σ R (Stp.refl S.fh) S
theorem zjc:PS X (.Break pos) (tS X.K E ca mu LV):=PS.weak Φ λD σ H h=>by
 obtain⟨F,τ,R,S,q⟩:=h;exact q F H σ R (Stp.refl S.fh) S
theorem zdz:PS X (.Continue pos) (tS X.K E ca mu VC):=PS.weak Χ λD σ H h=>by
 obtain⟨F,τ,R,S,q⟩:=h;exact q F H σ R (Stp.refl S.fh) S
theorem zlw  (h:tS K E ca mu (AF (FT i) w) D σ H):tS K E ca mu w D σ H:=by
 obtain⟨F,τ,R,S,q⟩:=h;unfold AF FT at q;cases ht:τ[i]? with
 |none=>rw[ht]at q;exact⟨F,τ,R,S,q⟩|some ot=>
  rw[ht]at q;cases ot with
  |none=>exact⟨F,τ,R,S,q⟩|some t=>
   simp only at q;obtain⟨x,ex,r⟩:=S.rep i t ht;have hi :=(Í.mp ht).1;have n:∀a,R i a->F a=none:=λa z=>(r.dom z).1
   have S0:StR K (frz F H (R i)) H σ (τ.set i (some t.share)) (λj=>if j=i then R0 else R j):=by
    refine⟨HP S.fh,by simpa using S.len,λj t' e=>?_,λj a z=>?_,λj k a hjk z1 z2=>?_⟩
    .by_cases hj:j=i
     .subst hj;rw[å hi]at e;cases e;exact⟨x,ex,by simpa using r.share (ES n) λa u z q=>by rw[Dj z];exact q⟩
     .rw[Ú (É hj)]at e;obtain⟨y,e1,r1⟩:=S.rep j t' e;refine⟨y,e1,?_⟩;erw[hj,Ã]
      exact r1.frame (ES n) λa z=>⟨rfl,by
       rw[EO (λz'=>S.dis j i a hj z z')]
       exact(r1.dom z).1⟩
    .by_cases hj:j=i
     .erw[hj,È]at z;exact z.elim
     .erw[hj,Ã]at z;obtain⟨t',e⟩:=S.out j a z;exact⟨t',by rw[Ú (É hj)];exact e⟩
    .by_cases hj:j=i
     .erw[hj,È]at z1;exact z1.elim
     .by_cases hk:k=i
      .erw[hk,È]at z2;exact z2.elim
      .erw[hj,Ã]at z1;erw[hk,Ã]at z2;exact S.dis j k a hjk z1 z2
   have st0:Stp F H (tot R) (frz F H (R i)) H (tot λj=>if j=i then R0 else R j):=by
    refine⟨ES n,HP S.fh,λ_ _ _ e=>e,λb ⟨j,z⟩=>?_,λb u e=>?_⟩
    .by_cases hj:j=i
     .erw[hj,È]at z;exact z.elim
     .erw[hj,Ã]at z;exact .inl ⟨j,z⟩
    .by_cases hb:R i b
     .exact .inr (.inl ⟨i,hb⟩)
     .rw[EO hb]at e;exact .inl e
   refine⟨_,_,_,S0,?_⟩;cases hw:w (τ.set i (some t.share)) with
   |none=>erw[hw]at q<;>exact q.elim|some o=>
    erw[hw]at q;cases o with
    |nx _=>exact λF' H' σ' R' s S=>q F' H' σ' R' (st0.trans s) S|bk _=>exact λF' H' σ' R' s S=>q F' H' σ' R' (st0.trans s) S|ct _=>exact λF' H' σ' R' s S=>q F' H' σ' R' (st0.trans s) S|rt _=>exact λF' H' x B s r=>q F' H' x B (st0.trans s) r|xc _ _=>exact λF' H' σ' R' s S=>q F' H' σ' R' (st0.trans s) S
theorem s_frz(h:BB X rest (tS X.K E ca mu w)):BB X rest (tS X.K E ca mu (AF (FT i) w)):=BB.weak h λD σ H h=>zlw h
theorem s_exp(he:PE X e (tM X.K E ca m))(hs:swapsWith e none pos.line X.env=pure false):PS X (.Expr e pos) (tS X.K E ca mu (El m)):=by
 refine PS.weak (OZ he hs) λD σ H h=>?_
 obtain⟨F,τ,R,S,q⟩:=h;refine⟨F,τ,R,S,?_⟩;unfold El at q;cases hm:m τ with
 |none=>erw[hm]at q<;>exact q.elim|some r=>
  erw[hm]at q;cases r with
  |x c=>exact λF' H' e=>q F' H' σ R e.stp0 (S.ext e)|v t bb=>exact λF' H' x B e g=>q F' H' σ R e.stp0 (S.ext e)
theorem Tu(he:PE X e (tM X.K E ca m)):PS X (.Return (some e) pos) (tS X.K E ca false (AN m)):=by
 refine PS.weak (Vx he) λD σ H h=>?_
 obtain⟨F,τ,R,S,q⟩:=h;refine⟨F,τ,R,S,?_⟩;unfold AN at q;cases hm:m τ with
 |none=>erw[hm]at q<;>exact q.elim|some r=>
  erw[hm]at q;cases r with
  |x c=>exact λF' H' e=>q F' H' σ R e.stp0 (S.ext e)|v t bb=>
   intro F' H' x B e g;cases bb with
   |false=>exact q F' H' x B (e.stp.mono λ_ z=>.inr z) g|true=>obtain⟨_,A,hA,r⟩:=g;exact q F' H' x A (e.stp.mono λa z=>.inl (hA a z)) r
theorem zmd:PS X (.Return none pos) (tS X.K E ca false Nx):=PS.weak Vw λD σ H h=>by
 obtain⟨F,τ,R,S,q⟩:=h;exact q F H .non R0 ((Stp.refl S.fh).mono λ_ z=>z.elim) .non
theorem s_if(hc:PT X c (BF X.K E ca mc))(ha:BB X sa (tS X.K E ca mu u))(hb:BB X sb (tS X.K E ca mu w)):PS X (.If c sa sb pos) (tS X.K E ca mu (Ai mc u w)):=by
 refine PS.weak (OY hc ha hb) λD σ H h=>?_
 obtain⟨F,τ,R,S,q⟩:=h;refine⟨F,τ,R,S,?_⟩;unfold Ai at q;cases hm:mc τ with
 |none=>erw[hm]at q<;>exact q.elim|some r=>
  erw[hm]at q;cases r with
  |x c=>exact λF' H' e=>q F' H' σ R e.stp0 (S.ext e)|v t bb=>
   cases t with
   |bl k=>
    intro F1 H1 e1;have S1:=S.ext e1
    have key:∀{mm },(match mm τ with
      |some (.nx τ')=>∀F' H' σ' R',Stp F H (tot R) F' H' (tot R')->StR X.K F' H' σ' τ' R'->D.nx σ' H'|some (.bk τ')=>∀F' H' σ' R',Stp F H (tot R) F' H' (tot R')->StR X.K F' H' σ' τ' R'->D.bk σ' H'|some (.ct τ')=>∀F' H' σ' R',Stp F H (tot R) F' H' (tot R')->StR X.K F' H' σ' τ' R'->D.ct σ' H'|some (.rt t)=>∀F' H' x B,Stp F H (tot R) F' H' B->Wr X.K mu F' H' t x B->D.rt x H'|some (.xc c τ')=>∀F' H' σ' R',Stp F H (tot R) F' H' (tot R')->StR X.K F' H' σ' τ' R'->XE (E σ') ca c F' H'|none=>False)->tS X.K E ca mu mm D σ H1:=λ{mm} q=>by
     refine⟨F1,τ,R,S1,?_⟩;cases hr:mm τ with
     |none=>erw[hr]at q<;>exact q.elim|some o=>
      erw[hr]at q;cases o with
      |nx _=>exact λF' H' σ' R' s S=>q F' H' σ' R' (e1.stp0.trans s) S|bk _=>exact λF' H' σ' R' s S=>q F' H' σ' R' (e1.stp0.trans s) S|ct _=>exact λF' H' σ' R' s S=>q F' H' σ' R' (e1.stp0.trans s) S|rt _=>exact λF' H' x B s r=>q F' H' x B (e1.stp0.trans s) r|xc _ _=>exact λF' H' σ' R' s S=>q F' H' σ' R' (e1.stp0.trans s) S
    cases k with
    |true=>exact Jt (key q)|false=>exact Ju (key q)
   |_=>exact q.elim
theorem Ng  (hg:∀v σ H Q,EJ K b v σ H Q->g v σ H Q)(h:tS K E ca mu (AW m b) D σ H):GO (tM K E ca m) g D σ H:=by
 obtain⟨F,τ,R,S,q⟩:=h;refine⟨F,τ,R,S,?_⟩;unfold AW at q;cases hm:m τ with
 |none=>erw[hm]at q<;>exact q.elim|some r=>
  erw[hm]at q;cases r with
  |x c=>exact λF' H' e=>q F' H' σ R e.stp0 (S.ext e)|v t bb=>
   cases bb with
   |true=>exact q.elim|false=>
    intro F1 H1 x B e1 g1;obtain⟨F2,e2,_,r2⟩:=DC.frz S e1 g1;cases hb:b t.share τ with
    |none=>erw[hb]at q<;>exact q.elim|some τ'=>
     erw[hb]at q;refine hg _ _ _ _ ⟨F2,τ,R,t.share,τ',S.ext e2,(r2).any,hb,λσ' R' S' hR=>?_⟩
     exact q F2 H1 σ' R' (e2.stp0.mono λa ⟨i,z⟩=>⟨i,hR i a z⟩) S'
theorem Ys(h:EJ K (AE i) v σ H Q):Fy i v σ H Q:=by
 obtain⟨F,τ,R,t,τ',S,r,e,q⟩:=h;unfold AE at e;split at e
 .cases e;rename_i hl;refine q _ _ (S.set r (λ_ _ _ _ z=>z.elim) hl) λj a z=>?_
  by_cases hj:j=i
  .erw[hj]at z;exact z.elim
  grind
 .cases e
theorem Ti(hN:X.N.Nodup)(hi:X.N[i]?=some x)(hx:Gp X.env.scope x)(he:PE X e (tM X.K E ca m))(hs:swapsWith e (some (.Name x pos')) pos.line X.env=pure false)(hf:X.fn x=true\/X.env.scope.names.lookup x=some .local) :
  PS X (.Assign [.Name x pos'] e pos) (tS X.K E ca mu (AW m (AE i))):=PS.weak (Vv hN hi hx he hs hf) λD σ H h=>Ng (λ_ _ _ _ z=>Ys z) h
theorem zmc(he:PE X e (tM X.K E ca m))(hg:PG X tg (EJ X.K b))(hs:swapsWithSole [tg] e pos.line X.env=pure false)(hw:swappedStores [tg] e X.env=pure none)(h1:(assignEach [tg] X.env).map (·.2)=[assign tg X.env]) :
  PS X (.Assign [tg] e pos) (tS X.K E ca mu (AW m b)):=PS.weak (Ld he hg hs hw h1) λD σ H h=>Ng (λ_ _ _ _ z=>z) h
theorem Su  (h:tS K E ca mu (C0 i m) D σ H):GO (tM K E ca m) (Fy i) D σ H:=by
 obtain⟨F,τ,R,S,q⟩:=h;refine⟨F,τ,R,S,?_⟩;unfold C0 at q;cases hm:m τ with
 |none=>erw[hm]at q<;>exact q.elim|some r=>
  erw[hm]at q;cases r with
  |x c=>exact λF' H' e=>q F' H' σ R e.stp0 (S.ext e)|v t bb=>
   cases bb with
   |true=>exact q.elim|false=>
    intro F1 H1 x B e1 g1;have g1' :=g1;have S1:=S.ext e1
    by_cases hl:i<τ.length
    .erw[hl]at q;refine q F1 H1 _ _ (e1.stp.mono ?_) (S1.set g1' (λj a _ z1 z2=>S.apart e1 z2 j z1) hl)
     rintro a ⟨j,z⟩
     by_cases hj:j=i
     .grind
     .erw[hj]at z;exact .inl ⟨j,z⟩
    .erw[hl]at q<;>exact q.elim
theorem zmg(hN:X.N.Nodup)(hi:X.N[i]?=some x)(hx:Gp X.env.scope x)(he:PE X e (tM X.K E ca m))(hs:swapsWith e (some (.Name x pos')) pos.line X.env=pure false)(hf:X.fn x=true\/X.env.scope.names.lookup x=some .local) :
  PS X (.Assign [.Name x pos'] e pos) (tS X.K E ca mu (C0 i m)):=PS.weak (Vv hN hi hx he hs hf) λD σ H h=>Su h
theorem s_for(hp:PassesOwn (model X.prog X.w) X.A X.env X.xe)(hc:X.calm=true)(hi:PI X tg iter (tI X.K E ca mi))(hg:PG X tg (EJ X.K b))(hb:BB X body (tS X.K E ca mu u))(hs:∀x,foldedSetIterable iter X.env x=pure x) :
  PS X (.For tg iter body [] pos) (tS X.K E ca mu (Bw mi b u)):=by
 refine PS.weak (zn5 hp hc hi hg hb hs) λD σ H h=>?_
 obtain⟨F,τ,R,S,q⟩:=h;refine⟨F,τ,R,S,?_⟩;unfold Bw at q;cases hm:mi τ with
 |none=>erw[hm]at q<;>exact q.elim|some r=>
  erw[hm]at q;cases r with
  |x c=>exact λF' H' e=>q F' H' σ R e.stp0 (S.ext e)|v ts bb=>
   intro F1 H1 J e1 its;simp only at q;have S1:=S.ext e1;cases hg:As b u ts τ with
   |none=>erw[hg]at q<;>exact q.elim|some out=>
    erw[hg]at q;refine⟨λi mm σ' H'=>mm=ts.length - i/\i<=ts.length/\∃F' τ' R',Stp F H (tot R) F' H' (tot R')/\A4 F1 F'/\StR X.K F' H' σ' τ' R'/\As b u (ts.drop i) τ'=some out,⟨ts.length,by simp,í _,F1,τ,R,e1.stp0,.refl _,S1,by simpa using hg⟩,?_⟩
    rintro i mm σ' H' ⟨rfl,hle,F',τ',R',st,sf,S',hgo⟩;obtain⟨i1,i2⟩:=its i F' H' sf S'.fh
    by_cases hlt:i<ts.length
    .refine .inr ⟨(i1 _ (Â hlt)).1,λσ2 H2=>i+1<=ts.length/\∃F2 τ2 R2,Stp F H (tot R) F2 H2 (tot R2)/\A4 F1 F2/\StR X.K F2 H2 σ2 τ2 R2/\As b u (ts.drop (i+1)) τ2=some out,λσ2 H2 n2=>⟨ts.length - (i+1),by omega,rfl,n2⟩,λx H'' y=>?_⟩
     obtain⟨F'',e3,rx⟩:=(i1 _ (Â hlt)).2 x H'' y;have S3:=S'.ext e3;rw[ġ hlt]at hgo;unfold As at hgo;cases hb2:b ts[i] τ' with
     |none=>erw[hb2]at hgo;cases hgo|some τ1=>
      erw[hb2]at hgo;refine⟨F'',τ',R',ts[i],τ1,S3,rx,hb2,λσ3 R3 S4 hR3=>?_⟩
      have st3:Stp F H (tot R) F'' H'' (tot R3):=(st.trans e3.stp0).mono λa ⟨j,z⟩=>⟨j,hR3 j a z⟩
      refine⟨F'',τ1,R3,S4,?_⟩;cases hu:u τ1 with
      |none=>erw[hu]at hgo;cases hgo|some o=>
       erw[hu]at hgo;cases o with
       |nx τ2=>exact λF4 H4 σ4 R4 s4 S5=>⟨hlt,F4,τ2,R4,st3.trans s4,(sf.trans e3.ff).trans s4.ff,S5,hgo⟩|ct τ2=>exact λF4 H4 σ4 R4 s4 S5=>⟨hlt,F4,τ2,R4,st3.trans s4,(sf.trans e3.ff).trans s4.ff,S5,hgo⟩|bk τ2=>cases hgo;exact λF4 H4 σ4 R4 s4 S5=>q F4 H4 σ4 R4 (st3.trans s4) S5|rt v=>cases hgo;exact λF4 H4 x B s4 r=>q F4 H4 x B (st3.trans s4) r|xc cc τ2=>cases hgo;exact λF4 H4 σ4 R4 s4 S5=>q F4 H4 σ4 R4 (st3.trans s4) S5
    .have hi':i=ts.length:=by omega
     subst hi';refine .inl ⟨i2 rfl,?_⟩;rw[List.drop_length]at hgo;unfold As at hgo;cases hgo;exact q F' H' σ' R' st S'
theorem s_wh(hp:PassesOwn (model X.prog X.w) X.A X.env X.xe)(hc:PT X c (BF X.K E ca mc))(hb:BB X body (tS X.K E ca mu u)):PS X (.While c body [] pos) (tS X.K E ca mu (Fk mc u)):=by
 refine PS.weak (zh2 hp hc hb) λD σ H h=>?_
 obtain⟨F,τ,R,S,q⟩:=h;cases hw:Fk mc u τ with
 |none=>erw[hw]at q<;>exact q.elim|some out=>
  erw[hw]at q;obtain⟨n,hn⟩:=zgs hw;refine⟨λmm σ' H'=>∃F' τ' R',Stp F H (tot R) F' H' (tot R')/\StR X.K F' H' σ' τ' R'/\Cm mc u mm τ'=some out,⟨n,F,τ,R,Stp.refl S.fh,S,hn⟩,?_⟩
  rintro mm σ' H' ⟨F',τ',R',st,S',hgo⟩;cases mm with
  |zero=>cases hgo|succ mm=>
   refine⟨F',τ',R',S',?_⟩;unfold Cm at hgo;cases hm:mc τ' with
   |none=>erw[hm]at hgo;cases hgo|some r=>
    erw[hm]at hgo;cases r with
    |x cc=>cases hgo;exact λF2 H2 e2=>q F2 H2 σ' R' (st.trans e2.stp0) (S'.ext e2)|v t bb=>
     cases t with
     |bl k=>
      intro F2 H2 e2;have S2:=S'.ext e2;have st2 :=st.trans e2.stp0;cases k with
      |false=>cases hgo;exact Ju (q F2 H2 σ' R' st2 S2)|true=>
       simp only at hgo;refine Jt ⟨λσ2 H2=>∃F2 τ2 R2,Stp F H (tot R) F2 H2 (tot R2)/\StR X.K F2 H2 σ2 τ2 R2/\Cm mc u mm τ2=some out,λσ3 H3 n3=>⟨mm,ę _,n3⟩,F2,τ',R',S2,?_⟩
       cases hu:u τ' with
       |none=>erw[hu]at hgo;cases hgo|some o=>
        erw[hu]at hgo;cases o with
        |nx τ2=>exact λF4 H4 σ4 R4 s4 S5=>⟨F4,τ2,R4,st2.trans s4,S5,hgo⟩|ct τ2=>exact λF4 H4 σ4 R4 s4 S5=>⟨F4,τ2,R4,st2.trans s4,S5,hgo⟩|bk τ2=>cases hgo;exact λF4 H4 σ4 R4 s4 S5=>q F4 H4 σ4 R4 (st2.trans s4) S5|rt v=>cases hgo;exact λF4 H4 x B s4 r=>q F4 H4 x B (st2.trans s4) r|xc cc τ2=>cases hgo;exact λF4 H4 σ4 R4 s4 S5=>q F4 H4 σ4 R4 (st2.trans s4) S5
     |_=>cases hgo
end
section
variable {K:k6}{F H:Hp}{l:kL}{xs:kK}{Rr:Nat->Rg}{p:Addr}{o:HO}
theorem Rp.own_inv(h:Rp K F H (.nd true k l) x A)(n:k.isT=false):∃p xs Rr,x=.ref p/\A=(λa=>a=p\/∃j,Rr j a)/\F p=none/\H p=some (.lst xs)/\RpO K F H l xs Rr/\(∀j,¬ Rr j p)/\Iz k p:=by
 cases h with
 |own hk R f h e c d dp o=>exact⟨_,_,R,rfl,rfl,f,Yo n▸h,⟨e,c,d,o⟩,dp,hk⟩
theorem Hw(hk:Iz k p)(r:RpO K F H l xs Rr)(f:F p=none)(h:H p=some (.lst xs))(dp:∀j,¬ Rr j p)(n:k.isT=false):Rp K F H (.nd true k l) (.ref p) (λa=>a=p\/∃j,Rr j a):=.own hk Rr f (Yo n▸h) r.len r.rep r.dis dp r.out
theorem RpO.upd(r:RpO K F H l xs Rr)(dp:∀j,¬ Rr j p):RpO K F (L2.upd H p o) l xs Rr:=⟨r.len,λi t x h1 h2=>(r.rep i t x h1 h2).frame (.refl _) λa z=>⟨Ah (λe=>dp i (e▸z)),(r.dom z).1⟩,r.dis,r.out⟩
theorem Rp.upd(r:Rp K F H t x A)(dp:¬ A p):Rp K F (L2.upd H p o) t x A:=r.frame (.refl _) λa z=>⟨Ah (λe=>dp (e▸z)),(r.dom z).1⟩
theorem RpO.set(r:RpO K F H l xs Rr)(hj:j0<l.length)(rt:Rp K F H t y B)(d:∀j a,j≠j0->Rr j a->¬ B a):RpO K F H (l.set j0 t) (xs.set j0 y) (λj=>if j=j0 then B else Rr j):=by
 have hl:=r.len;refine⟨by simp[hl],λi t' x' h1 h2=>?_,λi k a hik z1 z2=>?_,λi a z=>?_⟩
 .by_cases hi:i=j0
  .grind
  .rw[Ú (É hi)]at h1 h2
   simpa[hi] using r.rep i t' x' h1 h2
 .by_cases hi:i=j0
  .grind
  .erw[hi,Ã]at z1
   by_cases hk:k=j0
   .erw[hk,È]at z2;exact d i a hi z1 z2
   .erw[hk,Ã]at z2;exact r.dis i k a hik z1 z2
 .by_cases hi:i=j0
  .simp[hi];omega
  .erw[hi,Ã]at z
   simpa using r.out i a z
variable {σ:L2.St}{τ:AK}{R:Nat->Rg}
theorem StR.upd(S:StR K F H σ τ R){A' B:Rg}(ht:τ[i]?=some (some t))(hx:σ[i]?=some (some x))(hp:R i p)(r':Rp K F (L2.upd H p o) t' x A')(hA:∀a,A' a->R i a\/B a)(hB:∀j a,R j a->¬ B a) :
  StR K F (L2.upd H p o) σ (τ.set i (some t')) (λj=>if j=i then A' else R j)/\Stp F H (λa=>Pu.tot R a\/B a) F (L2.upd H p o) (Pu.tot λj=>if j=i then A' else R j):=by
 have fp :=(S.dom hp).1;have hi :=(Í.mp ht).1
 have fh':A4 F (L2.upd H p o):=λb u e=>by
  rw[Ah (λz=>by rw[z,fp]at e;cases e)]
  exact S.fh b u e
 refine⟨⟨fh',by simpa using S.len,λj t1 e=>?_,λj a z=>?_,λj k a hjk z1 z2=>?_⟩,⟨.refl _,fh',λb u n e=>?_,λb ⟨j,z⟩=>?_,λb u e=>.inl e⟩⟩
 .by_cases hj:j=i
  .subst hj;rw[å hi]at e;cases e;exact⟨x,hx,by simpa using r'⟩
  .rw[Ú (É hj)]at e;obtain⟨y,e1,r1⟩:=S.rep j t1 e;exact⟨y,e1,by simpa[hj] using r1.upd (λz=>S.dis j i p hj z hp)⟩
 .by_cases hj:j=i
  .subst hj;exact⟨t',å hi⟩
  .erw[hj,Ã]at z;obtain⟨t1,e⟩:=S.out j a z;exact⟨t1,by rw[Ú (É hj)];exact e⟩
 .by_cases hj:j=i
  .erw[hj,È]at z1;have hk:¬ k=i:=λz=>hjk (hj.trans z.symm)
   erw[hk,Ã]at z2
   rcases hA a z1 with w|w
   .exact S.dis i k a (É hk) w z2
   .exact hB k a z2 w
  .erw[hj,Ã]at z1
   by_cases hk:k=i
   .erw[hk,È]at z2
    rcases hA a z2 with w|w
    .exact S.dis i j a (É hj) w z1
    .exact hB j a z1 w
   .erw[hk,Ã]at z2;exact S.dis j k a hjk z1 z2
 .rw[Ah (λz=>n (.inl (by rw[z];exact⟨i,hp⟩)))]
  exact e
 .by_cases hj:j=i
  .erw[hj,È]at z
   rcases hA b z with w|w
   .exact .inl (.inl ⟨i,w⟩)
   .exact .inl (.inr w)
  .erw[hj,Ã]at z;exact .inl (.inl ⟨j,z⟩)
end
def DX(τ:AK)(i:Nat):Option (Kd×kL):=match τ[i]? with
 |some (some (.nd true k l))=>(match k with
  |.tup=>none|k=>some (k,l))
 |_=>none
theorem JY(h:DX τ i=some (k,l)):τ[i]?=some (some (.nd true k l)):=by
 unfold DX at h
 grind
theorem Ep(h:DX τ i=some (k,l)):k.isT=false:=by
 unfold DX at h;cases k<;>first|rfl|(exfalso;grind)
def Cf(i:Nat)(m:AH):AG:=λτ=>match DX τ i with
 |some (kd,l)=>(match m τ with
  |some (.v t false)=>if l.length<Az then some (.nx (τ.set i (some (.nd true kd (l++[t]))))) else none
  |some (.v _ true)=>none|some (.x c)=>some (.xc c τ)|none=>none)
 |none=>none
def Fl(i:Nat)(m:AH):AG:=λτ=>match DX τ i with
 |some (kd,l)=>(match m τ with
  |some (.v (.nd _ .lst r) false)=>if l.length+r.length<=Az then some (.nx (τ.set i (some (.nd true kd (l++BJ r))))) else none
  |some (.v _ _)=>none|some (.x c)=>some (.xc c τ)|none=>none)
 |none=>none
def Gv(i:Nat)(mk m:AH):AG:=λτ=>match m τ with
 |some (.v t false)=>(match DX τ i with
  |some (kd,l)=>(match mk τ with
   |some (.v (.int k) _)=>(match Bu l.length k with
    |some j=>some (.nx (τ.set i (some (.nd true kd (l.set j t)))))|none=>none)
   |some (.v _ _)=>none|some (.x c)=>some (.xc c τ)|none=>none)
  |none=>none)
 |some (.v _ true)=>none|some (.x c)=>some (.xc c τ)|none=>none
def Lh:kH->Option (kL)
 |some (.nd true .lst l)=>some l|_=>none
def JQ(i:Nat)(mk mn m:AH):AG:=λτ=>match m τ with
 |some (.v t false)=>(match DX τ i with
  |some (kd,l)=>(match mk τ with
   |some (.v (.int k) _)=>(match Bu l.length k with
    |some j=>(match Lh l[j]? with
     |some r=>(match mn τ with
      |some (.v (.int n) _)=>(match Bu r.length n with
       |some j2=>some (.nx (τ.set i (some (.nd true kd (l.set j (.own (r.set j2 t)))))))|none=>none)
      |some (.v _ _)=>none|some (.x c)=>some (.xc c τ)|none=>none)
     |none=>none)
    |none=>none)
   |some (.v _ _)=>none|some (.x c)=>some (.xc c τ)|none=>none)
  |none=>none)
 |some (.v _ true)=>none|some (.x c)=>some (.xc c τ)|none=>none
section
variable {mu:Bool}{X:Cx}{E:L2.St->XK}{ca:Str->Value}{σ:L2.St}{H:Hp}{K:k6}{m mk mn:AH}{D:Ends}{e k n:Expr}{pos apos cpos p1 pos2 pos3:Pos}{i:Nat}{x:Str}
theorem QZ(g:DC K F H R (.int j) b y B):y=.int j:=by
 cases b with
 |true=>obtain⟨_,A,_,r⟩:=g;exact r.int_inv
 |false=>exact(g).int_inv
theorem T5{l:kL}{Rr:Nat->Rg}(h:∃j,(λj=>if j=l.length then B else Rr j) j a):(∃j,Rr j a)\/B a:=T6 h
theorem LO{Rr:Nat->Rg}(h:∃j,(λj=>if j=j0 then B else Rr j) j a):(∃j,Rr j a)\/B a:=by
 grind
theorem s_app(hN:X.N[i]?=some x)(hv:DB X.env.scope x)(hd:(x == "__debug__")=false)(hcd:(x == "__classdict__")=false)(he:PE X e (tM X.K E ca m))(hs:starEach [e] X.env=[(false,eval e X.env)])(hline:(apos.endLine == cpos.line)=true) :
  PS X (.Expr (.Call (.Attribute (.Name x p1) "append" apos) [e] [] cpos) pos) (tS X.K E ca mu (Cf i m)):=by
 refine PS.weak (OZ (Lf Ŝ PySem.F.slot_list_append PySem.F.type_list_append zf7 (G3 hN hv hd hcd) (CY he DW hs) rfl (by rw[hs];rfl) hline hs rfl) rfl) λD σ H h=>?_
 obtain⟨F,τ,R,S,q⟩:=h;unfold Cf at q;cases ho:DX τ i with
 |none=>erw[ho]at q<;>exact q.elim|some kl=>
  obtain⟨kd,l⟩:=kl;erw[ho]at q;have ht:=JY ho;obtain⟨y,ey,ry⟩:=S.rep i _ ht;obtain⟨p,xs,Rr,rfl,hA,fp,hp,ro,dp,hOw⟩:=ry.own_inv (Ep ho);refine⟨_,ey,.inl ⟨rfl,xs,AX.of hp⟩,F,τ,R,S,?_⟩;cases hm:m τ with
  |none=>erw[hm]at q<;>exact q.elim|some r=>
   erw[hm]at q;cases r with
   |x c=>exact λF' H' e=>q F' H' σ R e.stp0 (S.ext e)|v t bb=>
    cases bb with
    |true=>exact q.elim|false=>
     intro F1 H1 y B e1 g1;have g1' :=g1
     by_cases hz:l.length<Az
     .erw[hz,È]at q;have S1:=S.ext e1;have ro1:=ro.ext e1;have hp1:=e1.hh _ _ hp;have pB:¬ B p:=λz=>by rw[e1.nb p z]at hp;cases hp
      have fp1 :=(ry.ext e1 |>.dom (by rw[hA];exact .inl rfl)).1
      refine⟨p,xs,y,rfl,rfl,hp1,by rw[<- ro.len,<- FZ];exact hz,?_⟩
      have ro2:RpO X.K F1 (upd H1 p (.lst (xs++[y]))) (l++[t]) (xs++[y]) _:=(ro1.upd dp).snoc (g1'.upd pB) λj a z1 z2=>ro.apart e1 z2 j z1
      have dp2:∀j,¬ (if j=l.length then B else Rr j) p:=λj z=>by
       by_cases hj:j=l.length
       .erw[hj,È]at z;exact pB z
       .erw[hj,Ã]at z;exact dp j z
      have r2:=Hw hOw ro2 fp1 Be dp2 (Ep ho)
      obtain⟨S3,st3⟩:=S1.upd ht ey (by rw[hA];exact .inl rfl) r2 (λa z=>by
       rw[hA]
       rcases z with z|z
       .exact .inl (.inl z)
       .rcases T5 z with w|w
        .exact .inl (.inr w)
        .exact .inr w) (λj a z1 z2=>S.apart e1 z2 j z1)
      exact q F1 _ σ _ (e1.stp.trans st3) S3
     .erw[hz,Ã]at q<;>exact q.elim
theorem s_ext(hN:X.N[i]?=some x)(hv:DB X.env.scope x)(hd:(x == "__debug__")=false)(hcd:(x == "__classdict__")=false)(he:PE X e (tM X.K E ca m))(hs:starEach [e] X.env=[(false,eval e X.env)])(hline:(apos.endLine == cpos.line)=true) :
  PS X (.Expr (.Call (.Attribute (.Name x p1) "extend" apos) [e] [] cpos) pos) (tS X.K E ca mu (Fl i m)):=by
 refine PS.weak (OZ (Lf Ŝ PySem.F.slot_list_extend PySem.F.type_list_extend zf6 (G3 hN hv hd hcd) (CY he DW hs) rfl (by rw[hs];rfl) hline hs rfl) rfl) λD σ H h=>?_
 obtain⟨F,τ,R,S,q⟩:=h;unfold Fl at q;cases ho:DX τ i with
 |none=>erw[ho]at q<;>exact q.elim|some kl=>
  obtain⟨kd,l⟩:=kl;erw[ho]at q;have ht:=JY ho;obtain⟨y,ey,ry⟩:=S.rep i _ ht;obtain⟨p,xs,Rr,rfl,hA,fp,hp,ro,dp,hOw⟩:=ry.own_inv (Ep ho);refine⟨_,ey,.inl ⟨rfl,xs,AX.of hp⟩,F,τ,R,S,?_⟩;cases hm:m τ with
  |none=>erw[hm]at q<;>exact q.elim|some r=>
   erw[hm]at q;cases r with
   |x c=>exact λF' H' e=>q F' H' σ R e.stp0 (S.ext e)|v t bb=>
    cases t with
    |nd o kd2 r=>
     cases kd2 with
     |lst=>
      cases bb with
      |true=>exact q.elim|false=>
       intro F1 H1 y B e1 g1;obtain⟨F2,e2,_,r2⟩:=DC.frz S e1 g1;have r2' :=r2;rw[T.share]at r2';obtain⟨p2,ys,rfl,_,nn,kid⟩:=DY r2'
       by_cases hz:l.length+r.length<=Az
       .erw[hz,È]at q;have S1:=S.ext e2;have ro1:=ro.ext e2;have hp1:=e2.hh _ _ hp;have fp1 :=(ry.ext e2 |>.dom (by rw[hA];exact .inl rfl)).1
        have hn2 :=nn;have lr :=by have:=kid.1;rw[Ek,Á]at this;exact this
        refine⟨p,p2,xs,ys,rfl,rfl,hp1,e2.fh _ _ hn2,by rw[<- ro.len,<- lr,<- FZ];exact hz,?_⟩
        have app:∀(l2 ) (ys2 ),Ag X.K F2 l2 ys2->∀(l ) (xs ) (H0 ),RpO X.K F2 H0 l xs Rr->RpO X.K F2 H0 (l++l2) (xs++ys2) Rr:=by
         intro l2
         induction l2 with
         |nil=>intro ys2 hk l xs H0 hro;rw[hk.inv0,Ą,Ą];exact hro|cons t l2 ih=>
          intro ys2 hk l xs H0 hro;obtain⟨y,ys',rfl,r1,rs1⟩:=hk.inv;have h2:=hro.snoc (r1.any) (λ_ _ _ z=>z)
          have e3:(λj=>if j=l.length then R0 else Rr j)=Rr:=funext λj=>by
           by_cases hj:j=l.length
           .erw[hj,È];exact funext λa=>propext ⟨λz=>z.elim,λz=>absurd (hro.out _ a z) (â _)⟩
           .erw[hj,Ã]
          rw[e3]at h2;have h3:=ih ys' rs1 (l++[t]) (xs++[y]) H0 h2
          simpa using h3
        have ro2:=app _ _ kid l xs _ (ro1.upd (o:=.lst (xs++ys)) dp);have r3:=Hw hOw ro2 fp1 Be dp (Ep ho);obtain⟨S3,st3⟩:=S1.upd ht ey (by rw[hA];exact .inl rfl) r3 (λa z=>.inl (by rw[hA];exact z)) (λj a z1 z2=>z2)
        exact q F2 _ σ _ ((e2.stp).trans st3) S3
       .erw[hz,Ã]at q<;>exact q.elim
     |_=>exact q.elim
    |_=>exact q.elim
theorem s_sto(hN:X.N[i]?=some x)(hv:DB X.env.scope x)(hd:(x == "__debug__")=false)(hcd:(x == "__classdict__")=false)(he:PE X e (tM X.K E ca m))(hk:PE X k (tM X.K E ca mk))(hs:swapsWithSole [.Subscript (.Name x p1) k pos2] e pos.line X.env=pure false)(hw:swappedStores [.Subscript (.Name x p1) k pos2] e X.env=pure none)
  (ha : ∀ v, assign (.Subscript (.Name x p1) k pos2) X.env v = (do
   let ov <- holding [v] (eval (.Name x p1) X.env);let iv <- holding [v,ov] (eval k X.env)
   standAt pos2
   holding [v,ov,iv] (setItem ov iv v)
   release [v,ov,iv] [])) :
  PS X (.Assign [.Subscript (.Name x p1) k pos2] e pos) (tS X.K E ca mu (Gv i mk m)):=by
 refine PS.weak (Ld he (O5 (G3 hN hv hd hcd) hk Tc ha) hs hw rfl) λD σ H h=>?_
 obtain⟨F,τ,R,S,q⟩:=h;refine⟨F,τ,R,S,?_⟩;unfold Gv at q;cases hm:m τ with
 |none=>erw[hm]at q<;>exact q.elim|some r=>
  erw[hm]at q;cases r with
  |x c=>exact λF' H' e=>q F' H' σ R e.stp0 (S.ext e)|v t bb=>
   cases bb with
   |true=>exact q.elim|false=>
    intro F1 H1 y B e1 g1;have g1' :=g1;simp only at q;cases ho:DX τ i with
    |none=>erw[ho]at q<;>exact q.elim|some kl=>
     obtain⟨kd,l⟩:=kl;erw[ho]at q;have S1:=S.ext e1;have ht:=JY ho;obtain⟨y2,ey,ry⟩:=S1.rep i _ ht;refine⟨y2,ey,F1,τ,R,S1,?_⟩;cases hkk:mk τ with
     |none=>erw[hkk]at q<;>exact q.elim|some r=>
      erw[hkk]at q;cases r with
      |x c=>exact λF' H' e=>q F' H' σ R ((e1.stp0).trans e.stp0) (S1.ext e)|v tk bk=>
       cases tk with
       |int kk=>
        simp only at q;cases hj:Bu l.length kk with
        |none=>erw[hj]at q<;>exact q.elim|some j=>
         erw[hj]at q;intro F2 H2 z C e2 g2;have hz:=QZ g2;subst hz;have S2:=S1.ext e2;have ry2:=ry.ext e2;obtain⟨p,xs,Rr,rfl,hA,fp,hp,ro,dp,hOw⟩:=ry2.own_inv (Ep ho);have hjl:=(Js hj).2.1;have g2':=g1'.ext e2
         have pB :=λz=>by
          have:R i p:=by rw[hA];exact .inl rfl
          exact S.apart e1 z i this
         refine⟨p,xs,kk,j,rfl,rfl,hp,by rw[<- ro.len];exact hj,?_⟩
         have ro2:RpO X.K F2 (upd H2 p (.lst (xs.set j y))) (l.set j t) (xs.set j y) _:=(ro.upd dp).set hjl (g2'.upd pB) λj' a _ z1 z2=>S.apart e1 z2 i (by rw[hA];exact .inr ⟨j',z1⟩)
         have dp2:∀j',¬ (if j'=j then B else Rr j') p:=λj' z=>by
          by_cases hj':j'=j
          .erw[hj',È]at z;exact pB z
          .erw[hj',Ã]at z;exact dp j' z
         have r3:=Hw hOw ro2 fp Be dp2 (Ep ho)
         obtain⟨S3,st3⟩:=S2.upd ht ey (by rw[hA];exact .inl rfl) r3 (λa z=>by
          rw[hA]
          rcases z with z|z
          .exact .inl (.inl z)
          .rcases LO z with w|w
           .exact .inl (.inr w)
           .exact .inr w) (λj a z1 z2=>S.apart e1 z2 j z1)
         exact q F2 _ σ _ ((e1.stp.trans e2.stp0).trans st3) S3
       |_=>exact q.elim
theorem zmb(hN:X.N[i]?=some x)(hv:DB X.env.scope x)(hd:(x == ("__debug__":Str))=false)(hcd:(x == ("__classdict__":Str))=false)(he:PE X e (tM X.K E ca m))(hk:PE X k (tM X.K E ca mk))(hn:PE X n (tM X.K E ca mn))(hpl:Kf k)(hs:swapsWithSole [.Subscript (.Subscript (.Name x p1) k pos2) n pos3] e pos.line X.env=pure false)(hw:swappedStores [.Subscript (.Subscript (.Name x p1) k pos2) n pos3] e X.env=pure none)
  (ha : ∀ v, assign (.Subscript (.Subscript (.Name x p1) k pos2) n pos3) X.env v = (do
   let ov <- holding [v] (eval (.Subscript (.Name x p1) k pos2) X.env);let iv <- holding [v,ov] (eval n X.env)
   standAt pos3
   holding [v,ov,iv] (setItem ov iv v)
   release [v,ov,iv] [])) :
  PS X (.Assign [.Subscript (.Subscript (.Name x p1) k pos2) n pos3] e pos) (tS X.K E ca mu (JQ i mk mn m)):=by
 refine PS.weak (Ld he (O5 (O6 Yb (G3 hN hv hd hcd) hk hpl) hn Tc ha) hs hw rfl) λD σ H h=>?_
 obtain⟨F,τ,R,S,q⟩:=h;refine⟨F,τ,R,S,?_⟩;unfold JQ at q;cases hm:m τ with
 |none=>erw[hm]at q<;>exact q.elim|some r=>
  erw[hm]at q;cases r with
  |x c=>exact λF' H' e=>q F' H' σ R e.stp0 (S.ext e)|v t bb=>
   cases bb with
   |true=>exact q.elim|false=>
    intro F1 H1 y B e1 g1;have g1' :=g1;simp only at q;cases ho:DX τ i with
    |none=>erw[ho]at q<;>exact q.elim|some kl=>
     obtain⟨kd,l⟩:=kl;erw[ho]at q;have S1:=S.ext e1;have ht:=JY ho;obtain⟨y2,ey,ry⟩:=S1.rep i _ ht;refine⟨y2,ey,F1,τ,R,S1,?_⟩;cases hkk:mk τ with
     |none=>erw[hkk]at q<;>exact q.elim|some r=>
      erw[hkk]at q;cases r with
      |x c=>exact λF' H' e=>q F' H' σ R ((e1.stp0).trans e.stp0) (S1.ext e)|v tk bk=>
       cases tk with
       |int kk=>
        simp only at q;cases hj:Bu l.length kk with
        |none=>erw[hj]at q<;>exact q.elim|some j=>
         erw[hj]at q;cases hr:Lh l[j]? with
         |none=>erw[hr]at q<;>exact q.elim|some r=>
          erw[hr]at q;intro F2 H2 z C e2 g2;have hz:=QZ g2;subst hz;have S2:=S1.ext e2;have ry2:=ry.ext e2;obtain⟨p,xs,Rr,rfl,hA,fp,hp,ro,dp,hOw⟩:=ry2.own_inv (Ep ho);have hjl:=(Js hj).2.1;have hjx:j<xs.length:=by have:=ro.len;omega
          have hlj :=by
           unfold Lh at hr;split at hr
           .rename_i e;cases hr;exact e
           .cases hr
          have rk:=ro.rep j _ _ hlj (Â hjx)
          have GC:AU xs kk=some xs[j]:=by
           unfold AU;rw[<- ro.len,hj];exact Â hjx
          refine⟨p,xs,kk,xs[j],rfl,rfl,AX.of hp,GC,F2,τ,R,S2,?_⟩;cases hnn:mn τ with
          |none=>erw[hnn]at q<;>exact q.elim|some r'=>
           erw[hnn]at q;cases r' with
           |x c=>exact λF' H' e=>q F' H' σ R ((e1.stp0.trans e2.stp0).trans e.stp0) (S2.ext e)|v tn bn=>
            cases tn with
            |int nn=>
             simp only at q;cases hj2:Bu r.length nn with
             |none=>erw[hj2]at q<;>exact q.elim|some j2=>
              erw[hj2]at q;intro F3 H3 z C e3 g3;have hz:=QZ g3;subst hz;have S3:=S2.ext e3;have ro3:=ro.ext e3;have hp3:=e3.hh _ _ hp;have fp3 :=(ry2.ext e3 |>.dom (by rw[hA];exact .inl rfl)).1
              have rk3:=rk.ext e3;obtain⟨p2,ys,Rq,ep,hA2,fp2,hp2,rq,dq,_⟩:=rk3.own_inv rfl;have g3':=(g1'.ext e2).ext e3;have inR:∀a,Rr j a->R i a:=λa z=>by rw[hA];exact .inr ⟨j,z⟩
              have p2j:Rr j p2:=by rw[hA2];exact .inl rfl
              have p2B :=λz=>S.apart e1 z i (inR _ p2j)
              have pp2:p≠p2:=λz=>dp j (z▸p2j)
              have hj2l:=(Js hj2).2.1;rw[ep];refine⟨p2,ys,nn,j2,rfl,rfl,hp2,by rw[<- rq.len];exact hj2,?_⟩
              have rq2:RpO X.K F3 (upd H3 p2 (.lst (ys.set j2 y))) (r.set j2 t) (ys.set j2 y) _:=(rq.upd dq).set hj2l (g3'.upd p2B) λj' a _ z1 z2=>S.apart e1 z2 i (inR _ (by rw[hA2];exact .inr ⟨j',z1⟩))
              have dq2:∀j',¬ (if j'=j2 then B else Rq j') p2:=λj' z=>by
               by_cases hj':j'=j2
               .erw[hj',È]at z;exact p2B z
               .erw[hj',Ã]at z;exact dq j' z
              have rrow:=Hw (k:=.lst) trivial rq2 fp2 Be dq2 rfl;have others :=λj' hne z=>ro.dis j' j p2 hne z p2j
              have xsj:xs.set j (.ref p2)=xs:=by
               have :=ep;rw[<- this];exact List.set_getElem_self hjx
              have ro4:RpO X.K F3 (upd H3 p2 (.lst (ys.set j2 y))) (l.set j (.own (r.set j2 t))) xs (λj'=>if j'=j then (λa=>a=p2\/∃j',(if j'=j2 then B else Rq j') a) else Rr j'):=by
               refine⟨by simpa using ro3.len,λi' t' x' h1 h2=>?_,λi' k' a hik z1 z2=>?_,λi' a z=>?_⟩
               .by_cases hi:i'=j
                .subst hi;rw[å hjl]at h1;cases h1;rw[Â hjx]at h2;cases h2;rw[ep]
                 simpa using rrow
                .rw[Ú (É hi)]at h1;have:=(ro3.rep i' t' x' h1 h2).upd (o:=.lst (ys.set j2 y)) (others i' hi)
                 simpa[hi] using this
               .have sub:∀a,(a=p2\/∃j',(if j'=j2 then B else Rq j') a)->Rr j a\/B a:=λa z=>by
                 rcases z with z|z
                 .exact .inl (by rw[z];exact p2j)
                 .rcases LO z with w|w
                  .exact .inl (by rw[hA2];exact .inr w)
                  .exact .inr w
                by_cases hi:i'=j
                .erw[hi,È]at z1;have hk':¬ k'=j:=λz=>hik (hi.trans z.symm)
                 erw[hk',Ã]at z2
                 rcases sub a z1 with w|w
                 .exact ro3.dis j k' a (É hk') w z2
                 .exact S.apart e1 w i (by rw[hA];exact .inr ⟨k',z2⟩)
                .erw[hi,Ã]at z1
                 by_cases hk':k'=j
                 .erw[hk',È]at z2
                  rcases sub a z2 with w|w
                  .exact ro3.dis i' j a hi z1 w
                  .exact S.apart e1 w i (by rw[hA];exact .inr ⟨i',z1⟩)
                 .erw[hk',Ã]at z2;exact ro3.dis i' k' a hik z1 z2
               .by_cases hi:i'=j
                .simpa[hi] using hjl
                .erw[hi,Ã]at z
                 simpa using ro3.out i' a z
              have dp3:∀j',¬ (if j'=j then (λa=>a=p2\/∃j',(if j'=j2 then B else Rq j') a) else Rr j') p:=λj' z=>by
               by_cases hj':j'=j
               .erw[hj',È]at z
                rcases z with z|z
                .exact pp2 z
                .rcases LO z with w|w
                 .exact dp j (by rw[hA2];exact .inr w)
                 .exact S.apart e1 w i (by rw[hA];exact .inl rfl)
               .erw[hj',Ã]at z;exact dp j' z
              have rall:=Hw hOw ro4 fp3 (by rw[Ah pp2];exact hp3) dp3 (Ep ho)
              obtain⟨S4,st4⟩:=S3.upd ht ey (inR _ p2j) rall (λa z=>by
               rw[hA]
               rcases z with z|⟨j',z⟩
               .exact .inl (.inl z)
               .by_cases hj':j'=j
                .erw[hj',È]at z
                 rcases z with z|z
                 .exact .inl (.inr ⟨j,by rw[z];exact p2j⟩)
                 .rcases LO z with w|w
                  .exact .inl (.inr ⟨j,by rw[hA2];exact .inr w⟩)
                  .exact .inr w
                .erw[hj',Ã]at z;exact .inl (.inr ⟨j',z⟩)) (λj a z1 z2=>S.apart e1 z2 j z1)
              exact q F3 _ σ _ (((e1.stp.trans e2.stp0).trans e3.stp0).trans st4) S4
            |_=>exact q.elim
       |_=>exact q.elim
end
section
variable {X:Cx}{E:L2.St->XK}{ca:Str->Value}{σ:L2.St}{H F:Hp}{K:k6}{m mk:AH}{ms:Av}{D:Ends}{e:Expr}{es:kC}{pos apos cpos p1 p2:Pos}{i j:Nat}{x y:Str}{τ:AK}{R:Nat->Rg}{mu:Bool}
theorem Rp.kind(h:Rp K F H (.nd true k l) (.ref p) A)(o:Iz k' p)(n:k.isT=false)(n':k'.isT=false):Rp K F H (.nd true k' l) (.ref p) A:=by
 obtain⟨p',xs,Rr,e,rfl,fp,hp,ro,dp,_⟩:=h.own_inv n;cases e;exact Hw o ro fp hp dp n'
theorem Rp.pin_at{x}(h:Rp K F H (.nd true (.pin q) l) x A):x=.ref q:=by
 obtain⟨p',xs,Rr,rfl,rfl,fp,hp,ro,dp,o⟩:=h.own_inv rfl;have o' :=o;rw[o']
def Fm(t:T)(τ:AK):Option Out:=match τ[(0:Nat)]? with
 |some (some (.nd true (.pin q) l))=>some (.rt (.own [t,.nd true (.pin q) l]))|_=>none
theorem OL(h:Fm t τ=some o):∃q l,τ[0]?=some (some (.nd true (.pin q) l))/\o=.rt (.own [t,.nd true (.pin q) l]):=by
 unfold Fm at h
 grind
theorem OK{x}(S:StR K F' H' σ τ R)(h:τ[0]?=some (some (.nd true (.pin q) l)))(hf:t.flat=true)(r:Rp K F' H' t x R0):Wr K true F' H' (.own [t,.nd true (.pin q) l]) x (R 0):=by
 obtain⟨y,_,ry⟩:=S.rep 0 _ h;have hy:=ry.pin_at;subst hy;exact⟨t,q,l,rfl,hf,r,ry⟩
def JR(m:AH):AG:=λτ=>match m τ with
 |some (.v t _)=>if t.flat then Fm t τ else none
 |some (.x c)=>some (.xc c τ)|none=>none
def Ny:AG:=λτ=>Fm .non τ
theorem zhw{x}(g:DC K F H R t b x B)(hf:t.flat=true):Rp K F H t x R0:=by
 cases b with
 |true=>obtain⟨_,A,_,r⟩:=g;exact r.flat_any hf
 |false=>exact(g).flat_any hf
theorem zme(he:PE X e (tM X.K E ca m)):PS X (.Return (some e) pos) (tS X.K E ca true (JR m)):=by
 refine PS.weak (Vx he) λD σ H h=>?_
 obtain⟨F,τ,R,S,q⟩:=h;refine⟨F,τ,R,S,?_⟩;unfold JR at q;cases hm:m τ with
 |none=>erw[hm]at q<;>exact q.elim|some r=>
  erw[hm]at q;cases r with
  |x c=>exact λF' H' e=>q F' H' σ R e.stp0 (S.ext e)|v t bb=>
   intro F' H' x B e g;simp only at q;cases hf:t.flat with
   |false=>rw[hf]at q;cases q|true=>
    rw[hf]at q;cases ho:Fm t τ with
    |none=>rw[ho]at q;exact q.elim|some o=>rw[ho]at q;obtain⟨p,l,h0,rfl⟩:=OL ho;exact q F' H' x (R 0) (e.stp0.mono λa z=>⟨0,z⟩) (OK (S.ext e) h0 hf (zhw g hf))
theorem zja:PS X (.Return none pos) (tS X.K E ca true Ny):=PS.weak Vw λD σ H h=>by
 obtain⟨F,τ,R,S,q⟩:=h;unfold Ny at q;cases ho:Fm .non τ with
 |none=>erw[ho]at q<;>exact q.elim|some o=>erw[ho]at q;obtain⟨p,l,h0,rfl⟩:=OL ho;exact q F H .non (R 0) ((Stp.refl S.fh).mono λa z=>⟨0,z⟩) (OK S h0 rfl .non)
set_option genInjectivity true in
inductive Mo where
 |ok (v:T) (τ:AK)|exc (c:Str) (τ:AK)
def pMM(K:k6)(E:L2.St->XK)(ca:Str->Value)(σ:L2.St)(Q:VK)(F H:Hp)(R:Nat->Rg):Option Mo->Prop
 |some (.ok v τ')=>∀F' H' x R',Stp F H (tot R) F' H' (tot R')->StR K F' H' σ τ' R'->Rp K F' H' v x R0->Q x H'|some (.exc c τ')=>∀F' H' R',Stp F H (tot R) F' H' (tot R')->StR K F' H' σ τ' R'->XE (E σ) ca c F' H'|none=>False
def JK(K:k6)(E:L2.St->XK)(ca:Str->Value)(m:AK->Option Mo):TE:=λσ H Q=>∃F τ R,StR K F H σ τ R/\pMM K E ca σ Q F H R (m τ)
def Q2(g:kL->Option Ru)(l ts:kL)(r:T×kL):Prop:=∀p,g (.nd true (.pin p) l::ts)=some (.ok (.own [r.1,.nd true (.pin p) r.2]))
open Classical in
def IV(g:kL->Option Ru)(l ts:kL):Option (T×kL):=if h:∃r,Q2 g l ts r then some h.choose else none
theorem zl8(h:IV g l ts=some r):Q2 g l ts r:=by
 unfold IV at h;split at h
 .grind
 .cases h
theorem Yt(h:∀p,g (.nd true (.pin p) l::ts)=some (.ok (.own [v,.nd true (.pin p) l']))):IV g l ts=some (v,l'):=by
 have hx:∃r,Q2 g l ts r:=⟨(v,l'),h⟩;unfold IV;have e:=(hx.choose_spec 0).symm.trans (h 0)
 grind
def Jg(i:Nat)(g:kL->Option Ru)(ms:Av):AK->Option Mo:=λτ=>match DX τ i with
 |some (kd,l)=>(match ms τ with
  |some (.v ts false)=>(match IV g l ts with
   |some (v,l')=>if v.flat then some (.ok v (τ.set i (some (.nd true kd l')))) else none
   |none=>none)
  |some (.v _ true)=>none|some (.x c)=>some (.exc c τ)|none=>none)
 |none=>none
def Cu(K:k6)(ca:Str->Value)(g:kL->Option Ru):Sp:=λvs H Q E=>∃F p l ts A vs',A4 F H/\vs=.ref p::vs'/\Rp K F H (.nd true (.pin p) l) (.ref p) A/\Ag K F ts vs'/\match g (.nd true (.pin p) l::ts) with
 |some (.ok t)=>∀F' H' x B,Stp F H A F' H' B->Wr K true F' H' t x B->Q x H'|some (.exc c)=>∀F' H',Stp F H A F' H' R0->XE E ca c F' H'|none=>False
theorem StR.mut{F1 H1 F2 H2:Hp}{B:Rg}{t':T}{x0:V}(S:StR K F1 H1 σ τ R)(hi:i<τ.length)(ex:σ[i]?=some (some x0))(s:Stp F1 H1 (R i) F2 H2 B)(r:Rp K F2 H2 t' x0 B) :
  StR K F2 H2 σ (τ.set i (some t')) (λj=>if j=i then B else R j)/\Stp F1 H1 (Pu.tot R) F2 H2 (Pu.tot λj=>if j=i then B else R j):=by
 refine⟨⟨s.fh,by simpa using S.len,λj t e=>?_,λj a z=>?_,λj k a hjk z1 z2=>?_⟩,⟨s.ff,s.fh,λb u n e=>s.kp b u (λz=>n ⟨i,z⟩) e,λb ⟨j,z⟩=>?_,λb u e=>?_⟩⟩
 .by_cases hj:j=i
  .subst hj;rw[å hi]at e;cases e;exact⟨x0,ex,by simpa using r⟩
  .rw[Ú (É hj)]at e;obtain⟨y,e1,r1⟩:=S.rep j t e;refine⟨y,e1,?_⟩;erw[hj,Ã];refine r1.frame s.ff λa z=>?_
   obtain⟨f,u,hu⟩:=r1.dom z;have na :=λz'=>S.dis j i a hj z z'
   refine⟨(s.kp a u na hu).trans hu.symm,?_⟩;cases q:F2 a with
   |none=>rfl|some u'=>
    rcases s.nf a u' q with w|w|w
    .rw[f]at w;cases w
    .exact absurd w na
    .rw[hu]at w;cases w
 .by_cases hj:j=i
  .subst hj;exact⟨t',å hi⟩
  .erw[hj,Ã]at z;obtain⟨t1,e⟩:=S.out j a z;exact⟨t1,by rw[Ú (É hj)];exact e⟩
 .have key:∀k,k≠i->R k a->¬ B a:=λk hk w z=>by
   rcases s.nw a z with w'|w'
   .exact S.dis k i a hk w w'
   .obtain⟨_,u,hu⟩:=S.dom w;rw[hu]at w';cases w'
  by_cases hj:j=i
  .have hk:¬ k=i:=λz=>hjk (hj.trans z.symm)
   erw[hj,È]at z1;erw[hk,Ã]at z2;exact key k hk z2 z1
  .erw[hj,Ã]at z1
   by_cases hk:k=i
   .erw[hk,È]at z2;exact key j hj z1 z2
   .erw[hk,Ã]at z2;exact S.dis j k a hjk z1 z2
 .by_cases hj:j=i
  .erw[hj,È]at z
   rcases s.nw b z with w|w
   .exact .inl ⟨i,w⟩
   .exact .inr w
  .erw[hj,Ã]at z;exact .inl ⟨j,z⟩
 .rcases s.nf b u e with w|w|w
  .exact .inl w
  .exact .inr (.inl ⟨i,w⟩)
  .exact .inr (.inr w)
theorem zjl(D:DefX X.prog X.w X.K X.mg X.base k f ps (Cu X.K ca g))(hr:Room j X.A)(hx:BI X E)(hN:X.N[i]?=some x)(hv:DB X.env.scope x)(hd:(x == "__debug__")=false)(hcd:(x == "__classdict__")=false)
  (ha:PA X es (Bv X.K E ca ms)) (hk:k<=j) (hg:Gl X f) (hdb:(f == "__debug__")=false)
  (he:starEach (.Name x p1::es) X.env=(false,eval (.Name x p1) X.env)::starEach es X.env) (hpl:(backTo pos (starEach es X.env)).any (·.1)=false):PE X (.Call (.Name f p2) (.Name x p1::es) [] pos) (JK X.K E ca (Jg i g ms)):=by
 refine PE.weak (px D hr hx (CY (G3 hN hv hd hcd) ha he) hk hg hdb he hpl) λσ H Q h=>?_
 obtain⟨F,τ,R,S,q⟩:=h;unfold Jg at q;cases ho:DX τ i with
 |none=>erw[ho]at q<;>exact q.elim|some kl=>
  obtain⟨kd,l⟩:=kl;erw[ho]at q;have ht:=JY ho;obtain⟨y,ey,ry⟩:=S.rep i _ ht;obtain⟨p,xs0,Rr,rfl,hA,fp,hp,ro,dp,hOw⟩:=ry.own_inv (Ep ho);refine⟨_,ey,F,τ,R,S,?_⟩;cases hm:ms τ with
  |none=>erw[hm]at q<;>exact q.elim|some r=>
   erw[hm]at q;cases r with
   |x c=>exact λF' H' e=>q F' H' R e.stp0 (S.ext e)|v ts bb=>
    cases bb with
    |true=>exact q.elim|false=>
     intro F1 H1 xs e1 rs;simp only at q;cases hgm:IV g l ts with
     |none=>erw[hgm]at q<;>exact q.elim|some r=>
      obtain⟨v,l'⟩:=r;erw[hgm]at q;cases hf:v.flat with
      |false=>rw[hf]at q;cases q|true=>rw[hf,if_pos rfl]at q;have S1:=S.ext e1;have ry1:Rp X.K F1 H1 (.nd true (.pin p) l) (.ref p) (R i):=(ry.ext e1).kind rfl (Ep ho) rfl;rw[Ą];refine⟨F1,p,l,ts,R i,xs,S1.fh,rfl,ry1,rs,?_⟩;rw[zl8 hgm p];intro F2 H2 z B s2 w2;obtain⟨v2,q2,l2,et,hf2,rv,ro2⟩:=w2;erw[T.nd.injEq,List.cons.injEq,and_true,true_and,Kd.pin.injEq]at et;obtain⟨rfl,rfl,rfl⟩:=et;have hi :=(Í.mp ht).1;obtain⟨S2,st2⟩:=S1.mut hi ey s2 (ro2.kind hOw rfl (Ep ho));exact q F2 H2 z _ (e1.stp0.trans st2) S2 rv
def GW(neg:Bool)(m:AK->Option Mo)(a b:AG):AG:=λτ=>match m τ with
 |some (.ok (.bl c) τ')=>if (neg ^^ c)=true then a τ' else b τ'
 |some (.ok _ _)=>none|some (.exc c τ')=>some (.xc c τ')|none=>none
variable {mm:AK->Option Mo}
theorem TK{sa sb:kD}(h:tS K E ca mu (GW neg mm u w) D σ H):JK K E ca mm σ H λx H1=>∃c,x=.bl c/\if (neg ^^ c)=true then tS K E ca mu u D σ H1 else tS K E ca mu w D σ H1:=by
 obtain⟨F,τ,R,S,q⟩:=h;refine⟨F,τ,R,S,?_⟩;unfold GW at q;cases hm:mm τ with
 |none=>erw[hm]at q<;>exact q.elim|some r=>
  erw[hm]at q;cases r with
  |exc c τ'=>exact λF' H' R' s S'=>q F' H' σ R' s S'|ok v τ'=>
   cases v with
   |bl c=>
    intro F1 H1 x R1 s1 S1 rx;refine⟨c,rx.bl_inv,?_⟩
    have key:∀{nn },(match nn τ' with
      |some (.nx τ')=>∀F' H' σ' R',Stp F H (tot R) F' H' (tot R')->StR K F' H' σ' τ' R'->D.nx σ' H'|some (.bk τ')=>∀F' H' σ' R',Stp F H (tot R) F' H' (tot R')->StR K F' H' σ' τ' R'->D.bk σ' H'|some (.ct τ')=>∀F' H' σ' R',Stp F H (tot R) F' H' (tot R')->StR K F' H' σ' τ' R'->D.ct σ' H'|some (.rt t)=>∀F' H' x B,Stp F H (tot R) F' H' B->Wr K mu F' H' t x B->D.rt x H'|some (.xc c τ')=>∀F' H' σ' R',Stp F H (tot R) F' H' (tot R')->StR K F' H' σ' τ' R'->XE (E σ') ca c F' H'|none=>False)->tS K E ca mu nn D σ H1:=λ{nn} q=>by
     refine⟨F1,τ',R1,S1,?_⟩;cases hr:nn τ' with
     |none=>erw[hr]at q<;>exact q.elim|some o=>
      erw[hr]at q;cases o with
      |nx _=>exact λF' H' σ' R' s S=>q F' H' σ' R' (s1.trans s) S|bk _=>exact λF' H' σ' R' s S=>q F' H' σ' R' (s1.trans s) S|ct _=>exact λF' H' σ' R' s S=>q F' H' σ' R' (s1.trans s) S|rt _=>exact λF' H' x B s r=>q F' H' x B (s1.trans s) r|xc _ _=>exact λF' H' σ' R' s S=>q F' H' σ' R' (s1.trans s) S
    by_cases hc:(neg ^^ c)=true
    .rw[if_pos hc];erw[hc,È]at q;exact key q
    .rw[if_neg hc];erw[hc,Ã]at q;exact key q
   |_=>exact q.elim
theorem zmh(he:PE X e (JK X.K E ca mm))(ht:∀whole,isTrue e X.env whole=(do let v <- whole;standAt e.pos;holding [v] (truthy v)))(ha:BB X sa (tS X.K E ca mu u))(hb:BB X sb (tS X.K E ca mu w)):PS X (.If e sa sb pos) (tS X.K E ca mu (GW false mm u w)):=by
 refine PS.weak (OY (OX he ht) ha hb) λD σ H h=>?_
 have z:=TK (sa:=sa) (sb:=sb) h;erw[Bool.false_xor]at z;exact z
theorem zjb(he:PE X e (JK X.K E ca mm))(ht:∀whole,isTrue e X.env whole=(do let v <- whole;standAt e.pos;holding [v] (truthy v)))(ha:BB X sa (tS X.K E ca mu u))(hb:BB X sb (tS X.K E ca mu w)):PS X (.If (.UnaryOp .Not e p1) sa sb pos) (tS X.K E ca mu (GW true mm u w)):=by
 refine PS.weak (OY (Vu (OX he ht)) ha hb) λD σ H h=>?_
 have z:=TK (sa:=sa) (sb:=sb) h;erw[Bool.true_xor]at z;exact z
end
abbrev WM(A:Around):Around:={ A with handled:=none }
structure FnS(P:Program)(w:World)(K:k6)(mg:Str->Option Value)(base:Heap)(k:Nat)(f:Addr)(fd:FuncData)(p:Str)(sp:Sp):Prop where
 run:∀(A:Around) (outer:List Env) (s:Shared) (H:Hp) (args:Args) (a:Addr) (Q:VK),A.handled=some (.ref a)->(∃C,Hf H a C)->Room k (WM A)->Env0 P w K mg base A outer s H->BindsTo s fd args [(p,.ref a)]->sp [.ref a] H Q E0 ->
  codeAny (model P w) A (.call (.ref f) args) (CR Ki outer P w H s Q E0) s
structure DefS(P:Program)(w:World)(K:k6)(mg:Str->Option Value)(base:Heap)(k:Nat)(x p:Str)(sp:Sp) where
 f:Addr
 fd:FuncData
 ok:FnS P w K mg base k f fd p sp
 m:mg x=some (.ref f)
 kp:W.keepIn K (.ref f)=true
 b:CU K fd [p] []
section
variable {X:Cx}{pq:List (Addr×Obj)}{σ:L2.St}{H:Hp}{s:Shared}{a:Addr}{kvs:List (Key×V)}
end
section
variable {X:Cx}
def tDicO:TE:=λ_ H Q=>∀p,H p=none->Q (.ref p) (upd H p (.dK []))
theorem zk2:PE X (.Dict [] [] pos) tDicO:=λpq s σ H Q I h=>by
 refine wpAny_Dict_empty ⟨.ref s.heap.objs.size,_,I.laid (λ_ _ q=>Ë _ q) (Ç _) (zi6 s.heap I.big),rfl,h _ (I.hok.fresh (Ç _))⟩
end
section
variable {X:Cx}{E:L2.St->XK}{ca:Str->Value}{m mk mv:AH}{e k:Expr}{pos p1 pos2:Pos}{mu:Bool}
end
section
variable {X:Cx}{E:L2.St->XK}{ca:Str->Value}{m mk:AH}{e k:Expr}{pos p1 pos2:Pos}{mu:Bool}{i:Nat}{x:Str}
end
theorem zns(hu:X.A.units+64<cLine):Ae X (compareOp .NotEq) (Bf X.K Bk):=by
 intro pq s σ H x y v u Q I rx ry h;obtain⟨F,t1,t2,r,fh,r1,r2,e,q⟩:=h;unfold Bk at e;split at e
 .cases e;rename_i hc;unfold Gh EF at hc;rw[Æ,Æ,Æ,Æ,ë]at hc;obtain⟨a1,q1⟩:=G0 I fh (r1.any) hc.1.1.1 rx;obtain⟨a2,q2⟩:=G0 I fh (r2.any) hc.1.2.1 ry;exact SeqAt.compareNe_reads q1 q2 hc.1.1.2 hc.1.2.2 (aK hu hc.2) ⟨.bl _,H,I,rfl,q.bl fh⟩
 .cases e
theorem StR.frz{K }       (S:StR K F H σ τ R)(ht:τ[i]?=some (some t)):StR K (Pu.frz F H (R i)) H σ (τ.set i (some t.share)) (λj=>if j=i then R0 else R j):=by
 obtain⟨x,ex,r⟩:=S.rep i t ht;have hi:i<τ.length:=(Í.mp ht).1;have n:∀a,R i a->F a=none:=λa z=>(r.dom z).1
 refine⟨HP S.fh,by simpa using S.len,λj t' e=>?_,λj a z=>?_,λj k a hjk z1 z2=>?_⟩
 .by_cases hj:j=i
  .subst hj;rw[å hi]at e;cases e;exact⟨x,ex,by simpa using r.share (ES n) λa u z q=>by rw[Dj z];exact q⟩
  .rw[Ú (É hj)]at e;obtain⟨y,e1,r1⟩:=S.rep j t' e;refine⟨y,e1,?_⟩;erw[hj,Ã]
   exact r1.frame (ES n) λa z=>⟨rfl,by
    rw[EO (λz'=>S.dis j i a hj z z')]
    exact(r1.dom z).1⟩
 .by_cases hj:j=i
  .erw[hj,È]at z;exact z.elim
  .erw[hj,Ã]at z;obtain⟨t',e⟩:=S.out j a z;exact⟨t',by rw[Ú (É hj)];exact e⟩
 .by_cases hj:j=i
  .erw[hj,È]at z1;exact z1.elim
  .by_cases hk:k=i
   .erw[hk,È]at z2;exact z2.elim
   .erw[hj,Ã]at z1;erw[hk,Ã]at z2;exact S.dis j k a hjk z1 z2
open Classical in
def Ei(A:Rg)(F:Hp):Hp:=λa=>if A a then none else F a
section
variable {X:Cx}{E:L2.St->XK}{ca:Str->Value}{σ:L2.St}{H:Hp}{K:k6}{u w:AG}{D:Ends}
end
theorem YS{fs:kE}{xs}{f}:∀{j} {x:V},fs.findIdx? (· == f)=some j->xs[j]?=some x->(fs.zip xs).lookup f=some x:=by
 induction fs generalizing xs with
 |nil=>intro j x h;simp at h|cons g r ih=>
  intro j x h hx;rw[Ů]at h;cases xs with
  |nil=>simp at hx|cons y ys=>
   rw[Ń,ö]
   by_cases hg:g=f
   .subst hg;erw[Ŕ,È,Ş]at h;subst h;simp at hx;rw[Ŕ,hx]
   .have h1:=beq_eq_false_iff_ne.mpr hg;have h2:=beq_eq_false_iff_ne.mpr (É hg);rw[h1]at h;erw[ā,Ã,Õ]at h;obtain⟨j',h3,rfl⟩:=h;rw[h2];exact ih h3 (by simpa using hx)
theorem zap{fs:kE}{xs:kK}(h:fs.contains f=false):(fs.zip xs).lookup f=none:=by
 induction fs generalizing xs with
 |nil=>rfl|cons g r ih=>
  cases xs with
  |nil=>rfl|cons y ys=>rw[ł,Ă]at h;rw[Ń,ö,h.1];exact ih h.2
theorem Rp.obj_inv{K}(h:Rp K F H (.obj k l) x A):∃p xs,x=.ref p/\A=R0/\Kg F k p xs/\l.length=xs.length/\∀(i:Nat) (t) (x),l[i]?=some t->xs[i]?=some x->Rp K F H t x R0:=by
 cases h with
 |obj h e c=>exact⟨_,_,rfl,rfl,h,e,c⟩
noncomputable def Cp(C:Addr)(fs:kE):T->Option (kL)
 |.obj (.ins C' fs') l=>if C'=C/\fs'=fs then some l else none
 |_=>none
theorem Yl(h:Cp C fs t=some l):t=.obj (.ins C fs) l:=by
 unfold Cp at h
 grind
def Bt(C:Addr)(fs:kE)(j:Nat)(m:AH):AH:=λτ=>match m τ with
 |some (.v t b)=>(match Cp C fs t with
  |some l=>(match l[j]? with
   |some u=>some (.v u (b && !u.sh))|none=>none)
  |none=>none)
 |some (.x c)=>some (.x c)|none=>none
def DP(C:Addr)(fs:kE)(g:kL->Option Ru)(m:AH)(ms:Av):AH:=λτ=>match m τ with
 |some (.v t _)=>(match Cp C fs t with
  |some _=>(match ms τ with
   |some (.v ts b)=>(match g (t.share::ts) with
    |some (.ok v)=>Aq b v|some (.exc c)=>KI true c|none=>none)
   |some (.x c)=>some (.x c)|none=>none)
  |none=>none)
 |some (.x c)=>some (.x c)|none=>none
def Cg(m n:AH):AH:=λτ=>match m τ with
 |some r=>some r|none=>n τ
section
variable {X:Cx}{E:L2.St->XK}{ca:Str->Value}{m n:AH}{ms:Av}{e o:Expr}{es:kC}{pos p apos:Pos}{C:Addr}{fs:kE}{f:Str}{j:Nat}
theorem OU(h1:PE X e (tM X.K E ca m))(h2:PE X e (tM X.K E ca n)):PE X e (tM X.K E ca (Cg m n)):=λpq s σ H Q I h=>by
 obtain⟨F,τ,R,S,q⟩:=h;unfold Cg at q;cases hm:m τ with
 |none=>rw[hm]at q;exact h2 pq s σ H Q I ⟨F,τ,R,S,q⟩|some r=>rw[hm]at q;exact h1 pq s σ H Q I ⟨F,τ,R,S,by rw[hm];exact q⟩
theorem MN{K}(g:DC K F H R (.obj k l) b x B):Rp K F H (.obj k l) x R0/\B=R0:=by
 cases b with
 |true=>obtain⟨hB,A,_,r⟩:=g;obtain⟨p,xs,rfl,hA,_⟩:=r.obj_inv;exact⟨hA▸r,hB⟩
 |false=>have r:=g;obtain⟨p,xs,rfl,hA,_⟩:=r.obj_inv;exact⟨hA▸r,hA⟩
theorem r_fld(c:Cls X.K C)(hn:CQ X.K C f)(hj:fs.findIdx? (· == f)=some j)(ho:PE X o (tM X.K E ca m))(hb:attributeBase o f X.env (eval o X.env)=eval o X.env):PE X (.Attribute o f pos) (tM X.K E ca (Bt C fs j m)):=by
 refine PE.weak (WE ho hb) λσ H Q h=>?_
 obtain⟨F,τ,R,S,q⟩:=h;refine⟨F,τ,R,S,?_⟩;unfold Bt at q;cases hm:m τ with
 |none=>erw[hm]at q<;>exact q.elim|some r=>
  erw[hm]at q;cases r with
  |x c=>exact q|v t b=>
   intro F1 H1 x B e1 g1;cases hi:Cp C fs t with
   |none=>erw[hi]at q<;>exact q.elim|some l=>
    erw[hi]at q;have ht:=Yl hi;subst ht;cases hu:l[j]? with
    |none=>erw[hu]at q<;>exact q.elim|some u=>
     erw[hu]at q;obtain⟨r1,hB⟩:=MN g1;subst hB;obtain⟨a,xs,rfl,_,⟨dx,hF⟩,el,cc⟩:=r1.obj_inv;have hjl:=(Í.mp hu).1;have hx:xs[j]?=some xs[j]:=Â (by omega)
     have hc:=cc j u _ hu hx;refine⟨a,_,dx,_,xs[j],rfl,e1.fh _ _ hF,c,hn,YS hj hx,?_⟩;refine q F1 H1 _ R0 e1 ?_;cases b with
     |false=>exact hc|true=>
      cases hs:u.sh with
      |true=>exact hc|false=>exact⟨rfl,R0,λ_ z=>z.elim,hc⟩
structure MetX(P:Program)(w:World)(K:k6)(mg:Str->Option Value)(base:Heap)(C:Addr)(m:Str)(k:Nat)(ps:kE)(sp:Sp) where
 f:Addr
 fd:FuncData
 c:Cls K C
 me:Meth K C m f
 ok:FnOk P w K mg base (Ce P w) k f fd ps sp
 b:CU K fd ps []
def Nh(C:Addr)(m:Str)(sp:Sp)(E:L2.St->XK)(ta:TE)(t:TA):TE:=λσ H Q=>ta σ H λx H1=>∃a dx fs,x=.ref a/\H1 a=some (.ins C dx fs)/\fs.lookup m=none /\
 t σ H1 λvs H2=>sp (x::vs) H2 Q (E σ)
theorem pmx(D:MetX X.prog X.w X.K X.mg X.base C f k ps sp)(hr:Room j X.A)(hx:BI X E)(he:PE X o ta)(ha:PA X (e::es) t)(hk:k<=j)
  (hst:starEach (e::es) X.env=(false,eval e X.env)::starEach es X.env) (hpl:(backTo pos (starEach es X.env)).any (·.1)=false)
  (ht : eval (.Call (.Attribute o f apos) (e :: es) [] pos) X.env = (do
   let ov <- eval o X.env
   standAt apos.atName
   let (f,first) <- holding [ov] (getMethod ov f pl)
   callWith pos f first (backTo pos (starEach (e::es) X.env)) (backToKw pos (keywordEach [] X.env)))):PE X (.Call (.Attribute o f apos) (e::es) [] pos) (Nh C f sp E ta t):=by
 intro pq s σ H Q I h;refine W.methodCall_KW (AQ (he pq s σ H _ I h) λu s1 zz=>?_) ht
 obtain⟨x,H1,I1,rx,a,dx,fs,ex,ea,l,q⟩:=zz;subst ex;obtain rfl:u=Value.ref a:=rx;refine Yq I1 ea D.c D.me l ?_;refine ū I.ok.mod.kin D.me.kp (AQ (ha pos pq s1 σ H1 _ I1 q) λus s2 ⟨vs,H2,I2,r,q2⟩=>⟨I2.kIn,?_⟩) hst hpl
 exact OC (vs:=.ref a::vs) D.ok (hr.mono hk) D.b .nil hx I2 (.cons rfl r) (by grind)
theorem pmx0(D:MetX X.prog X.w X.K X.mg X.base C f k ps sp)(hr:Room j X.A)(hx:BI X E)(he:PE X o ta)(hk:k<=j)
  (ht : eval (.Call (.Attribute o f apos) [] [] pos) X.env = (do
   let ov <- eval o X.env
   standAt apos.atName
   let (f,first) <- holding [ov] (getMethod ov f pl)
   callWith pos f first (backTo pos (starEach [] X.env)) (backToKw pos (keywordEach [] X.env)))):PE X (.Call (.Attribute o f apos) [] [] pos) (Nh C f sp E ta Sx):=by
 intro pq s σ H Q I h;refine W.methodCall_KW (AQ (he pq s σ H _ I h) λu s1 zz=>?_) ht
 obtain⟨x,H1,I1,rx,a,dx,fs,ex,ea,l,q⟩:=zz;subst ex;obtain rfl:u=Value.ref a:=rx;refine Yq I1 ea D.c D.me l ?_;exact W.callWith_K0 I1.kIn D.me.kp (OC (vs:=[.ref a]) D.ok (hr.mono hk) D.b .nil hx I1 (.cons rfl .nil) q)
theorem Sz(hf:fs.contains f=false)(h:tM X.K E ca (DP C fs g m ms) σ H Q):Nh C f (Ba X.K ca g) E (tM X.K E ca m) (Bv X.K E ca ms) σ H Q:=by
 obtain⟨F,τ,R,S,q⟩:=h;refine⟨F,τ,R,S,?_⟩;unfold DP at q;cases hm:m τ with
 |none=>erw[hm]at q<;>exact q.elim|some r=>
  erw[hm]at q;cases r with
  |x c=>exact q|v t b=>
   intro F1 H1 x B e1 g1;cases hi:Cp C fs t with
   |none=>erw[hi]at q<;>exact q.elim|some l=>
    erw[hi]at q;have ht:=Yl hi;subst ht;obtain⟨r1,hB⟩:=MN g1;subst hB;have S1:=S.ext e1;obtain⟨a,xs,rfl,_,⟨dx,hF⟩,el,cc⟩:=r1.obj_inv;refine⟨a,dx,_,rfl,e1.fh _ _ hF,zap hf,F1,τ,R,S1,?_⟩;cases hs:ms τ with
    |none=>erw[hs]at q<;>exact q.elim|some r=>
     erw[hs]at q;cases r with
     |x c=>exact λF' H' e=>q F' H' (e1.trans0 e)|v ts b'=>
      intro F2 H2 vs e2 rs;have S2:=S1.ext e2;simp only at q;have r2:Rp X.K (Gz b' F2 H2 R) H2 (T.obj (.ins C fs) l).share (.ref a) R0:=(r1.ext e2).share (MM S2) λ_ _ z=>z.elim
      refine⟨Gz b' F2 H2 R,_,QX S2,.cons r2 rs,?_⟩;have e12:=e1.trans0 e2;cases hg:g ((T.obj (.ins C fs) l).share::ts) with
      |none=>erw[hg]at q<;>exact q.elim|some r=>
       erw[hg]at q;cases r with
       |exc c=>
        erw[KI]at q;cases hp:E2 c with
        |none=>rw[hp]at q;exact λF' H' e3=>(q F2 H' (e12.grow e3.hh)).any hp|some n=>rw[hp]at q;exact q.elim
       |ok v=>
        intro F3 H3 z C3 e3 r3;simp only at q;unfold Aq at q;cases b' with
        |false=>exact q F3 H3 z C3 (e12.trans0 e3) r3|true=>
         cases hf:v.flat with
         |false=>rw[hf]at q;cases q|true=>rw[hf]at q;exact q F2 H3 z R0 (e12.grow e3.hh) (r3.flat_any hf)
theorem zmu(D:MetX X.prog X.w X.K X.mg X.base C f k ps (Ba X.K ca g))(hf:fs.contains f=false)(hr:Room j X.A)(hx:BI X E)(he:PE X o (tM X.K E ca m))(ha:PA X (e::es) (Bv X.K E ca ms))(hk:k<=j)
  (hst:starEach (e::es) X.env=(false,eval e X.env)::starEach es X.env) (hpl:(backTo pos (starEach es X.env)).any (·.1)=false)
  (ht : eval (.Call (.Attribute o f apos) (e :: es) [] pos) X.env = (do
   let ov <- eval o X.env
   standAt apos.atName
   let (f,first) <- holding [ov] (getMethod ov f pl)
   callWith pos f first (backTo pos (starEach (e::es) X.env)) (backToKw pos (keywordEach [] X.env)))):PE X (.Call (.Attribute o f apos) (e::es) [] pos) (tM X.K E ca (DP C fs g m ms)):=
 PE.weak (pmx D hr hx he ha hk hst hpl ht) λσ H Q h=>Sz hf h
structure NewX(P:Program)(w:World)(K:k6)(mg:Str->Option Value)(base:Heap)(x:Str)(C:Addr)(k:Nat)(ps:kE)(sp:Sp) where
 f:Addr
 fd:FuncData
 m:mg x=some (.ref C)
 ma:Mk K C f
 ok:FnOk P w K mg base (Ce P w) k f fd ps sp
def zly(C:Addr)(sp:Sp)(dvs:kK)(E:L2.St->XK)(t:TA):TE:=λσ H Q=>t σ H λvs H1=>∀x dx,H1 x=none->H1 dx=none->dx≠x ->
 sp (.ref x::(vs++dvs)) (upd (upd H1 dx (.own x)) x (.ins C dx [])) (λv H2=>v=.non/\Q (.ref x) H2) (E σ)
theorem pnx{t:TA}(D:NewX X.prog X.w X.K X.mg X.base x C k ps sp)(hb:CU X.K D.fd ps ds)(hd:A9 dvs ds)(hr:Room j X.A)(hx:BI X E)(ha:PA X (e::es) t)(hk:k+1<=j)(hg:Gl X x)(hdb:(x == "__debug__")=false)
  (he:starEach (e::es) X.env=(false,eval e X.env)::starEach es X.env) (hpl:(backTo pos (starEach es X.env)).any (·.1)=false):PE X (.Call (.Name x p) (e::es) [] pos) (zly C sp dvs E t):=by
 intro pq s σ H Q I h;refine Ď (IJ I hg D.m ?_ hdb);refine ū I.ok.mod.kin D.ma.kp (AQ (ha pos pq s σ H _ I h) λus s1 ⟨vs,H1,I1,r,q⟩=>⟨I1.kIn,?_⟩) he hpl
 have hq:=q (s1.heap.objs.size+1) s1.heap.objs.size (I1.hok.fresh (Ć _)) (I1.hok.fresh (Ç _)) (Ò (ę _));have I2:=Inv.made (C:=C) I1;have r2:A9 (V.ref (s1.heap.objs.size+1)::(vs++dvs)) (Value.ref (s1.heap.objs.size+1)::(us++ds)):=.cons rfl (r.append hd)
 have hl :=by
  have e:=r2.length;rw[D.ok.len _ _ _ _ hq]at e;exact e.symm
 refine Ĉ (zhh I1.kIn D.ma.makes D.ma.init (beq_iff_eq.mp D.ma.fn) (ÿ (D.ok.run _ X.stack _ _ ⟨Value.ref (s1.heap.objs.size+1)::us,[]⟩ (Value.ref (s1.heap.objs.size+1)::(us++ds)) _ _ (E σ) ((hr.mono hk).make C us [])
  (I2.env0.make C us []) (hb _ (Value.ref (s1.heap.objs.size+1)::us) I2.kIn hl) r2 hq) λr s' hq'=>?_))
 cases r with
 |error v=>exact hx pq σ _ _ v s' I2 hq'|ok fl=>
  cases fl with
  |ret u=>obtain⟨v,H',I3,rv,ev,q3⟩:=I2.after hq';subst ev;exact⟨rv,⟨V.ref (s1.heap.objs.size+1),H',I3,rfl,q3⟩⟩
  |next=>exact False.elim hq'|brk=>exact False.elim hq'|cont=>exact False.elim hq'
def JM(K:k6)(ca:Str->Value)(C:Addr)(g:kL->Option Ru):Sp:=λvs H Q E=>∃F p dx ts vs',A4 F H/\vs=.ref p::vs'/\F p=none/\H p=some (.ins C dx [])/\Ag K F ts vs'/\match g ts with
 |some (.ok t)=>∀F' H',Stp F H (λa=>a=p) F' H' R0->Rp K F' H' t (.ref p) R0->Q .non H'|some (.exc c)=>∀F' H',Stp F H (λa=>a=p) F' H' R0->XE E ca c F' H'|none=>False
noncomputable def IH(g:kL->Option Ru)(ds:kL)(ms:Av):AH:=λτ=>match ms τ with
 |some (.v ts false)=>(match g (ts++ds) with
  |some (.ok t)=>some (.v t false)|some (.exc c)=>some (.x c)|none=>none)
 |some (.v _ true)=>none|some (.x c)=>some (.x c)|none=>none
theorem r_new{x:Str}(D:NewX X.prog X.w X.K X.mg X.base x C k ps (JM X.K ca C g))(hb:CU X.K D.fd ps ds)(hd:A9 dvs ds)(hdt:∀F:Hp,Ag X.K F dts dvs)(hr:Room j X.A)(hx:BI X E)(ha:PA X (e::es) (Bv X.K E ca ms))(hk:k+1<=j)(hg:Gl X x)(hdb:(x == ("__debug__":Str))=false)
  (he:starEach (e::es) X.env=(false,eval e X.env)::starEach es X.env) (hpl:(backTo pos (starEach es X.env)).any (·.1)=false):PE X (.Call (.Name x p) (e::es) [] pos) (tM X.K E ca (IH g dts ms)):=by
 refine PE.weak (pnx D hb hd hr hx ha hk hg hdb he hpl) λσ H Q h=>?_
 obtain⟨F,τ,R,S,q⟩:=h;refine⟨F,τ,R,S,?_⟩;unfold IH at q;cases hs:ms τ with
 |none=>erw[hs]at q<;>exact q.elim|some r=>
  erw[hs]at q;cases r with
  |x c=>exact q|v ts b=>
   cases b with
   |true=>exact λF1 H1 xs e1 rs=>q.elim|false=>
    intro F1 H1 xs e1 rs a dx ha hdx hne;simp only at q;have rs' :=rs
    have key:∀F' H',Stp F1 (upd (upd H1 dx (.own a)) a (.ins C dx [])) (λb=>b=a) F' H' R0->Ext F H F' H' R0:=λF' H' st=>by
     refine e1.trans0 ⟨λb u z=>?_,st.ff,st.fh,λ_ z=>z.elim,λb u z=>?_⟩
     .have h1 :=Bs z ha;have h2 :=Bs z hdx;exact st.kp b u h1 (by rw[Ah h1,Ah h2];exact z)
     .rcases st.nf b u z with w|w|w
      .exact .inl w
      .rw[w];exact .inr ha
      .by_cases h1:b=a
       .rw[h1];exact .inr ha
       .by_cases h2:b=dx
        .rw[h2];exact .inr hdx
        .rw[Ah h1,Ah h2]at w;exact .inr w
    have fh2:A4 F1 (upd (upd H1 dx (.own a)) a (.ins C dx [])):=λb u z=>by
     have z':=e1.fh b u z;rw[Ah (Bs z' ha),Ah (Bs z' hdx)];exact z'
    refine⟨F1,a,dx,ts++dts,xs++dvs,fh2,rfl,FV e1.fh ha,Be,L5 rs' (hdt F1),?_⟩;cases hg:g (ts++dts) with
    |none=>erw[hg]at q<;>exact q.elim|some r=>
     erw[hg]at q;cases r with
     |exc c=>exact λF' H' st=>q F' H' (key F' H' st)|ok t=>exact λF' H' st r=>⟨rfl,q F' H' _ R0 (key F' H' st) r⟩
end
noncomputable def Fq(τ:AK)(i:Nat)(C:Addr)(fs:kE):Option (Addr×kL):=match τ[i]? with
 |some (some (.oob p C' fs' l))=>if C'=C/\fs'=fs then some (p,l) else none
 |_=>none
theorem O8(h:Fq τ i C fs=some (p,l)):τ[i]?=some (some (.oob p C fs l)):=by
 unfold Fq at h
 grind
def Dx(C:Addr)(fs:kE)(j i:Nat)(m:AH):AG:=λτ=>match m τ with
 |some (.v t false)=>(match Fq τ i C fs with
  |some (p,l)=>if l.length=j then some (.nx (τ.set i (some (.oob p C fs (l++[t]))))) else none
  |none=>none)
 |some (.v _ true)=>none|some (.x c)=>some (.xc c τ)|none=>none
def JZ:kH->Option (kE×kL)
 |some (.osd ks l)=>some (ks,l)|_=>none
theorem ze0(h:JZ o=some (ks,l)):o=some (.osd ks l):=by
 unfold JZ at h
 grind
open Classical in
def JS(C:Addr)(fs:kE)(j i:Nat)(mk m:AH):AG:=λτ=>match m τ with
 |some (.v t false)=>(match Fq τ i C fs with
  |some (p,l)=>(match JZ l[j]? with
   |some (ks,lv)=>(match mk τ with
    |some (.v (.str k) _)=>if k∉ks/\ks.length<100000 then some (.nx (τ.set i (some (.oob p C fs (l.set j (.osd (ks++[k]) (lv++[t.share]))))))) else none
    |some (.v _ _)=>none|some (.x c)=>some (.xc c τ)|none=>none)
   |none=>none)
  |none=>none)
 |some (.v _ true)=>none|some (.x c)=>some (.xc c τ)|none=>none
def Lx:AH:=λ_=>some (.v (.osd [] []) false)
theorem Vt:∀{fs:kE} {xs:kK},fs[xs.length]?=some f->(fs.take xs.length).contains f=false->Cy f y (fs.zip xs)=fs.zip (xs++[y])
 |[],xs,h,_=>by simp at h|g::r,[],h,_=>by
  simp at h;subst h;simp[Cy]
 |g::r,x::xs,h,hn=>by
  rw[Ø,List.take_succ_cons,ł,Ă]at hn
  have hg:¬ g=f:=λz=>by
   grind
  have ih:=Vt (y:=y) (by simpa using h) hn.2
  rw[Ń,List.cons_append,Ń];show(if g=f then _ else _)=_
  grind
section
variable {K:k6}{F H:Hp}{C:Addr}{fs:kE}{l:kL}
theorem Rp.oob_inv(h:Rp K F H (.oob p C fs l) x A):∃dx xs Rr,x=.ref p/\A=(λa=>a=p\/∃j,Rr j a)/\F p=none/\H p=some (.ins C dx (fs.zip xs))/\RpO K F H l xs Rr/\∀j,¬ Rr j p:=by
 cases h with
 |oob R f h e c d dp o=>exact⟨_,_,R,rfl,rfl,f,h,⟨e,c,d,o⟩,dp⟩
theorem WK(r:RpO K F H l xs Rr)(f:F p=none)(h:H p=some (.ins C dx (fs.zip xs)))(dp:∀j,¬ Rr j p):Rp K F H (.oob p C fs l) (.ref p) (λa=>a=p\/∃j,Rr j a):=.oob Rr f h r.len r.rep r.dis dp r.out
theorem Rp.osd_inv(h:Rp K F H (.osd ks l) x A):∃p xs Rs,x=.ref p/\A=(λa=>a=p\/∃j,Rs j a)/\F p=none/\H p=some (.dK (Cc ks xs))/\RpO K F H l xs Rs/\ks.length=xs.length/\∀j,¬ Rs j p:=by
 cases h with
 |osd R f h e ek c d dp o=>exact⟨_,_,R,rfl,rfl,f,h,⟨e,c,d,o⟩,ek,dp⟩
theorem znj(r:RpO K F H l xs Rr)(ek:ks.length=xs.length)(f:F p=none)(h:H p=some (.dK (Cc ks xs)))(dp:∀j,¬ Rr j p):Rp K F H (.osd ks l) (.ref p) (λa=>a=p\/∃j,Rr j a):=.osd Rr f h r.len ek r.rep r.dis dp r.out
theorem zh9(r:RpO K F H l xs Rr)(ek:ks.length=xs.length)(f:F p=none)(dp:∀j,¬ Rr j p)(rt:Rp K F H t y B)(dB:∀j a,Rr j a->¬ B a)(pB:¬ B p):Rp K F (upd H p (.dK (Cc (ks++[k]) (xs++[y])))) (.osd (ks++[k]) (l++[t])) (.ref p) (λa=>a=p\/∃j,(if j=l.length then B else Rr j) a):=
 znj ((r.upd dp).snoc (rt.upd pB) dB) (by simp[ek]) f Be λj z=>by
  by_cases hj:j=l.length
  .erw[hj,È]at z;exact pB z
  .erw[hj,Ã]at z;exact dp j z
end
theorem zkz(h:ks.length=xs.length):(Cc ks xs).length=xs.length:=by
 unfold Cc
 grind
theorem zl0(h:kv∈Cc ks xs):∃k∈ks,kv.1=Sum.inr k:=by
 induction ks generalizing xs with
 |nil=>cases xs<;>cases h|cons a r ih=>
  cases xs with
  |nil=>cases h|cons b s=>
   rcases Ð.mp h with e|e
   .grind
   .obtain⟨k,hk,e⟩:=ih e
    grind
theorem zgz(h:ks.length=xs.length)(hk:k∉ks):Dy (Cc ks xs) (Sum.inr k) y=Cc (ks++[k]) (xs++[y]):=by
 unfold Dy;rw[if_neg]
 .unfold Cc;rw[List.zipWith_append h]
  rfl
 .intro c;obtain⟨kv,h1,h2⟩:=ų.mp c;obtain⟨k',h3,h4⟩:=zl0 h1
  grind
section
variable {X:Cx}{E:L2.St->XK}{ca:Str->Value}{m mk:AH}{e k:Expr}{pos p1 pos2 pos3:Pos}{mu:Bool}{i j:Nat}{x f:Str}{C:Addr}{fs:kE}
theorem zmz:PE X (.Dict [] [] pos) (tM X.K E ca Lx):=PE.weak zk2 λσ H Q h p hp=>by
 obtain⟨F,τ,R,S,q⟩:=h;exact q F (upd H p (.dK [])) (.ref p) _ (Ext.newO S.fh hp) (Rp.osd0 (xs:=[]) (FV S.fh hp) Be rfl rfl λi t x h=>by simp at h)
theorem zmj(c:Cls X.K C)(hn:CQ X.K C f)(hj:fs[j]?=some f)(hnf:(fs.take j).contains f=false)(hjl:j<900)(hN:X.N[i]?=some x)(hv:DB X.env.scope x)(hd:(x == "__debug__")=false)(hcd:(x == "__classdict__")=false)(he:PE X e (tM X.K E ca m))
  (hs:swapsWith e (some (.Attribute (.Name x p1) f pos2)) pos.line X.env=pure false):PS X (.Assign [.Attribute (.Name x p1) f pos2] e pos) (tS X.K E ca mu (Dx C fs j i m)):=by
 refine PS.weak (zn6 (G3 hN hv hd hcd) he hs) λD σ H h=>?_
 obtain⟨F,τ,R,S,q⟩:=h;refine⟨F,τ,R,S,?_⟩;unfold Dx at q;cases hm:m τ with
 |none=>erw[hm]at q<;>exact q.elim|some r=>
  erw[hm]at q;cases r with
  |x c=>exact λF' H' e=>q F' H' σ R e.stp0 (S.ext e)|v t bb=>
   cases bb with
   |true=>exact λF1 H1 y B e1 g1=>q.elim|false=>
    intro F1 H1 y B e1 g1;have g1' :=g1;simp only at q;cases ho:Fq τ i C fs with
    |none=>erw[ho]at q<;>exact q.elim|some pl=>
     obtain⟨p,l⟩:=pl;erw[ho]at q
     by_cases hl:l.length=j
     .rw[if_pos hl]at q;have S1:=S.ext e1;have ht:=O8 ho;obtain⟨y2,ey,ry⟩:=S.rep i _ ht;obtain⟨dx,xs,Rr,rfl,hA,fp,hp,ro,dp⟩:=ry.oob_inv;have hxs:xs.length=j:=by rw[<- ro.len];exact hl
      have hp1:=e1.hh _ _ hp;have pB:¬ B p:=λz=>by rw[e1.nb p z]at hp;cases hp
      have fp1 :=(ry.ext e1 |>.dom (by rw[hA];exact .inl rfl)).1
      refine⟨_,ey,p,C,dx,fs.zip xs,rfl,hp1,c,hn,?_,?_⟩
      .rw[List.length_zip]
       omega
      .rw[Vt (by rw[hxs];exact hj) (by rw[hxs];exact hnf)]
       have ro1:=ro.ext e1;have ro2:RpO X.K F1 (upd H1 p (.ins C dx (fs.zip (xs++[y])))) (l++[t]) (xs++[y]) _:=(ro1.upd dp).snoc (g1'.upd pB) λj a z1 z2=>ro.apart e1 z2 j z1
       have dp2:∀j,¬ (if j=l.length then B else Rr j) p:=λj z=>by
        by_cases hj:j=l.length
        .erw[hj,È]at z;exact pB z
        .erw[hj,Ã]at z;exact dp j z
       have r2:=WK ro2 fp1 Be dp2
       obtain⟨S3,st3⟩:=S1.upd ht ey (by rw[hA];exact .inl rfl) r2 (λa z=>by
        rw[hA]
        rcases z with z|z
        .exact .inl (.inl z)
        .rcases T5 z with w|w
         .exact .inl (.inr w)
         .exact .inr w) (λj a z1 z2=>S.apart e1 z2 j z1)
       exact q F1 _ σ _ (e1.stp.trans st3) S3
     .rw[if_neg hl]at q;exact q.elim
def rSetS:Rf:=λo i v H Q=>∃p kvs k,o=.ref p/\i=.str k/\H p=some (.dK kvs)/\kvs.length<sizeLine/\Q (upd H p (.dK (Dy kvs (Sum.inr k) v)))
theorem zgr(hu:X.A.units+1<cLine):Rn X rSetS:=by
 intro pq s σ H o i v ov iv u Q I ro ri rv h;obtain⟨p,kvs,k,rfl,rfl,hp,hl,q⟩:=h;cases ro;exact zfu hu I (NL.k (k:=Sum.inr k) hp hl) (ri) rv λs' I'=>⟨_,I',q⟩
theorem IS{K}(g:DC K F H R (.str z) b y B):y=.str z:=by
 cases b with
 |true=>obtain⟨_,A,_,r⟩:=g;exact r.str_inv
 |false=>exact(g).str_inv
theorem s_dpf(hu:X.A.units+1<cLine)(c:Cls X.K C)(hn:CQ X.K C f)(hj:fs.findIdx? (· == f)=some j)(hN:X.N[i]?=some x)(hv:DB X.env.scope x)(hd:(x == ("__debug__":Str))=false)(hcd:(x == "__classdict__")=false)(he:PE X e (tM X.K E ca m))(hk:PE X k (tM X.K E ca mk))
  (hs:swapsWithSole [.Subscript (.Attribute (.Name x p1) f pos3) k pos2] e pos.line X.env=pure false) (hw:swappedStores [.Subscript (.Attribute (.Name x p1) f pos3) k pos2] e X.env=pure none)
  (ha : ∀ v, assign (.Subscript (.Attribute (.Name x p1) f pos3) k pos2) X.env v = (do
   let ov <- holding [v] (eval (.Attribute (.Name x p1) f pos3) X.env);let iv <- holding [v,ov] (eval k X.env)
   standAt pos2
   holding [v,ov,iv] (setItem ov iv v)
   release [v,ov,iv] [])) :
  PS X (.Assign [.Subscript (.Attribute (.Name x p1) f pos3) k pos2] e pos) (tS X.K E ca mu (JS C fs j i mk m)):=by
 refine PS.weak (Ld he (O5 (WE (G3 hN hv hd hcd) rfl) hk (zgr hu) ha) hs hw rfl) λD σ H h=>?_
 obtain⟨F,τ,R,S,q⟩:=h;refine⟨F,τ,R,S,?_⟩;unfold JS at q;cases hm:m τ with
 |none=>erw[hm]at q<;>exact q.elim|some r=>
  erw[hm]at q;cases r with
  |x c=>exact λF' H' e=>q F' H' σ R e.stp0 (S.ext e)|v t bb=>
   cases bb with
   |true=>exact λF1 H1 y B e1 g1=>q.elim|false=>
    intro F0 H1 y B e0 g0;simp only at q;obtain⟨F1,e1,_,g1⟩:=DC.frz S e0 g0;have g1':Rp X.K F1 H1 t.share y R0:=(g1).any;cases ho:Fq τ i C fs with
    |none=>erw[ho]at q<;>exact q.elim|some pl=>
     obtain⟨p,l⟩:=pl;erw[ho]at q;cases hos:JZ l[j]? with
     |none=>erw[hos]at q<;>exact q.elim|some kl=>
      obtain⟨ks,lv⟩:=kl;erw[hos]at q;have hlj:=ze0 hos;have S1:=S.ext e1;have ht:=O8 ho;obtain⟨y2,ey,ry⟩:=S1.rep i _ ht;obtain⟨dx,xs,Rr,rfl,hA,fp,hp,ro,dp⟩:=ry.oob_inv;have hjl:=(Í.mp hlj).1;have hjx:j<xs.length:=by rw[<- ro.len];exact hjl
      have hx :=Â hjx;refine⟨_,ey,p,C,dx,_,xs[j],rfl,hp,c,hn,YS hj hx,F1,τ,R,S1,?_⟩;cases hkk:mk τ with
      |none=>erw[hkk]at q<;>exact q.elim|some r=>
       erw[hkk]at q;cases r with
       |x c=>exact λF' H' e=>q F' H' σ R ((e1.stp0).trans e.stp0) (S1.ext e)|v tk bk=>
        cases tk with
        |str kk=>
         simp only at q
         by_cases hc:kk∉ks/\ks.length<100000
         .rw[if_pos hc]at q;intro F2 H2 z CC e2 g2;have hz:=IS g2;subst hz;have e2':Ext F1 H1 F2 H2 R0:=e2.mono λ_ z=>z.elim
          have S2:=S1.ext e2;have ry2:=ry.ext e2;have ro2:=ro.ext e2;have fp2 :=(ry2.dom (by rw[hA];exact .inl rfl)).1
          have hp2:=e2.hh _ _ hp;have rk:=ro2.rep j _ _ hlj hx;obtain⟨pd,ys,Rs,exj,hAd,fpd,hpd,rs,ek,ds⟩:=rk.osd_inv;have g2' :=g1'.ext e2;have pdj:Rr j pd:=by rw[hAd];exact .inl rfl
          have pne:pd≠p:=λz=>dp j (z▸pdj)
          refine⟨pd,Cc ks ys,kk,exj,rfl,hpd,?_,?_⟩
          .rw[zkz ek,<- ek,ć];exact ı hc.2 (by decide)
          .rw[zgz ek hc.1];have r3:=zh9 (k:=kk) rs ek fpd ds (g2'.any (H':=H2)) (λ_ _ _ z=>z.elim) (λz=>z.elim)
           have hE:(λa=>a=pd\/∃j,(if j=lv.length then R0 else Rs j) a)=Rr j:=by
            rw[hAd]
            funext a
            apply propext;constructor
            .rintro(z|⟨j,z⟩)
             .exact .inl z
             .split at z
              .exact z.elim
              .exact .inr ⟨j,z⟩
            .rintro(z|⟨j,z⟩)
             .exact .inl z
             .exact .inr ⟨j,by rw[if_neg (Ò (rs.out j a z))];exact z⟩
           rw[hE]at r3;have oth :=λk hk z=>ro2.dis k j pd hk z pdj
           have ro3:RpO X.K F2 (upd H2 pd (.dK (Cc (ks++[kk]) (ys++[y])))) (l.set j (.osd (ks++[kk]) (lv++[t.share]))) xs Rr:=by
            refine⟨by rw[ŀ];exact ro2.len,λk t' x' h1 h2=>?_,ro2.dis,λk a z=>by rw[ŀ];exact ro2.out k a z⟩
            by_cases hk:k=j
            .subst hk;rw[å hjl]at h1;rw[hx]at h2;cases h1;cases h2;rw[exj];exact r3
            .rw[Ú (É hk)]at h1;exact(ro2.rep k t' x' h1 h2).upd (oth k hk)
           have r4:=WK ro3 fp2 (by rw[Ah (É pne)];exact hp2) dp
           obtain⟨S3,st3⟩:=S2.upd ht ey (by rw[hA];exact .inr ⟨j,pdj⟩) r4 (λa z=>.inl (by rw[hA];exact z)) (λj a z1 z2=>z2)
           exact q F2 _ σ _ ((e1.stp.trans e2.stp0).trans st3) S3
         .rw[if_neg hc]at q;exact q.elim
        |_=>exact λF' H' z CC e2 g2=>q.elim
end
section
variable {X:Cx}{E:L2.St->XK}{ca:Str->Value}{ma mb mc:AH}{a b c:Expr}{pos:Pos}{x:Str}{t:T}
theorem r_con(hg:Gl X x)(hm:X.mg x=some u)(rv:A8 v u)(hd:(x == "__debug__")=false)(r:∀F ,Rp X.K F F t v R0):PE X (.Name x pos) (tM X.K E ca (mC t)):=
 PE.weak (JX hg hm rv hd) λσ H Q h=>by
  obtain⟨F,τ,R,S,q⟩:=h;exact q F H v R0 (Ext.refl S.fh) (r F).any
def Eu(g g':T->T->kH)(ma mb mc:AH):AH:=λτ=>match ma τ,mb τ with
 |some (.v t _),some (.v u _)=>if t.flat && u.flat then (match g t u with
  |some (.bl true)=>(match mc τ with
   |some (.v w _)=>if w.flat then (match g' u w with
    |some (.bl k)=>some (.v (.bl k) false)|_=>none) else none
   |_=>none)
  |some (.bl false)=>some (.v (.bl false) false)|_=>none) else none
 |_,_=>none
theorem IU{K}{b}{x}(g:DC K F H R v b x B)(h:v.flat=true):Rp K F' H' v x R0:=by
 cases b with
 |true=>obtain⟨_,A,_,r⟩:=g;exact r.flat_any h
 |false=>exact(g).flat_any h
theorem TH(h:tM X.K E ca (Eu g g' ma mb mc) σ H Q):Nk (Bf X.K g) (Bf X.K g') (tM X.K E ca ma) (tM X.K E ca mb) (tM X.K E ca mc) σ H Q:=by
 obtain⟨F,τ,R,S,q⟩:=h;refine⟨F,τ,R,S,?_⟩;unfold Eu at q;cases h1:ma τ with
 |none=>erw[h1]at q<;>exact q.elim|some r1=>
  cases r1 with
  |x c=>erw[h1]at q<;>exact q.elim|v t b1=>
   cases h2:mb τ with
   |none=>erw[h1,h2]at q<;>exact q.elim|some r2=>
    cases r2 with
    |x c=>erw[h1,h2]at q<;>exact q.elim|v u b2=>
     erw[h1,h2]at q
     by_cases hf:(t.flat && u.flat)=true
     .rw[if_pos hf]at q;rw[Æ]at hf;intro F1 H1 x B1 e1 g1;have S1:=S.ext e1;refine⟨F1,τ,R,S1,?_⟩;rw[h2];intro F2 H2 y B2 e2 g2;have S2:=S1.ext e2;have e12:Ext F H F2 H2 R0:=(e1.trans e2).mono λ_ z=>z.elim
      cases hg:g t u with
      |none=>erw[hg]at q<;>exact q.elim|some k=>
       cases k with
       |bl k=>
        cases k with
        |false=>
         erw[hg]at q;refine⟨F2,t,u,_,S2.fh,IU g1 hf.1,IU g2 hf.2,hg,λF3 H3 z C3 e3 r3=>⟨false,r3.bl_inv,?_⟩⟩
         rw[if_neg û];exact q F3 H3 _ R0 (e12.trans0 (e3.mono λ_ z=>z.elim)) (.bl false)
        |true=>
         erw[hg]at q;refine⟨F2,t,u,_,S2.fh,IU g1 hf.1,IU g2 hf.2,hg,λF3 H3 z C3 e3 r3=>⟨true,r3.bl_inv,?_⟩⟩
         rw[if_pos rfl];have S3:=S2.ext e3;refine⟨F3,τ,R,S3,?_⟩;cases h3:mc τ with
         |none=>erw[h3]at q<;>exact q.elim|some r3=>
          cases r3 with
          |x c=>erw[h3]at q<;>exact q.elim|v w b3=>
           erw[h3]at q
           by_cases hw:w.flat=true
           .rw[if_pos hw]at q;intro F4 H4 z4 B4 e4 g4;have S4:=S3.ext e4;cases hg':g' u w with
            |none=>erw[hg']at q<;>exact q.elim|some k=>
             cases k with
             |bl k=>
              erw[hg']at q;refine⟨F4,u,w,_,S4.fh,IU g2 hf.2,IU g4 hw,hg',λF5 H5 z5 C5 e5 r5=>?_⟩
              rw[r5.bl_inv];exact q F5 H5 _ R0 (e12.trans0 (((e3.trans e4).trans e5).mono λ_ z=>z.elim)) (.bl k)
             |_=>erw[hg']at q<;>exact q.elim
           .rw[if_neg hw]at q;exact q.elim
       |_=>erw[hg]at q<;>exact q.elim
     .rw[if_neg hf]at q;exact q.elim
theorem r_chn(ho:Ae X (compareOp op) (Bf X.K g))(ho':Ae X (compareOp op') (Bf X.K g'))(ha:PE X a (tM X.K E ca ma))(hb:PE X b (tM X.K E ca mb))(hc:PE X c (tM X.K E ca mc))(hm:lastMarks [op,op'] [b,c]=false) :
  PE X (.Compare a [op,op'] [b,c] pos) (tM X.K E ca (Eu g g' ma mb mc)):=PE.weak (zh8 ho ho' ha hb hc hm) λσ H Q h=>TH h
theorem zms(ho:Ae X (compareOp op) (Bf X.K g))(ho':Ae X (compareOp op') (Bf X.K g'))(ha:PE X a (tM X.K E ca ma))(hb:PE X b (tM X.K E ca mb))(hc:PE X c (tM X.K E ca mc))(hm:lastMarks [op,op'] [b,c]=false) :
  PT X (.Compare a [op,op'] [b,c] pos) (BF X.K E ca (Eu g g' ma mb mc)):=PT.weak (zh0 ho ho' ha hb hc hm) λσ H Q h=>TH (Ky h)
end
def NJ(x:Str):It:=⟨λi _=>i<x.cps.size,λi H y H'=>H'=H/\∃c,x.cps[i]?=some c/\y=.str ⟨#[c]⟩,λi _=>x.cps.size<=i⟩
theorem zgl{K}(x)(t)(it):Turn P w K tg (NJ x) [it] it (λi h=>h.IsStrIter it (strIterType x) x t i) where
 mem:=by simp
 obj:=λi h st b hb=>by
  have e :=by simpa using hb
  subst e;obtain⟨o,e,c,d⟩:=st;exact⟨o,e,λv z=>by rw[d]at z;cases z⟩
 keep:=λi h h' st k=>by
  obtain⟨o,e,c,d⟩:=st;exact⟨o,k it (by simp) o e,c,d⟩
 item:=by
  intro X hP hw hK hc i pq s σ H E I hf st hg;subst hP hw hK;have hi :=hg;obtain⟨f0,f1,f2,f3,f4,f5⟩:=hf it (by simp)
  have Aq:∀(h' ),h'.IsStrIter it (strIterType x) x t (i+1)->Heap.SameBut it s.heap h'->∃u,some (Value.str ⟨#[x.cps[i]]⟩ s.toks)=some u /\
   wpAny (model X.prog X.w) X.A (letOwnedTupleGo tg (.ref it) u) (λ_ s2=>∃y H',Inv X pq σ H' s2/\A8 y u/\(NJ x).yld i H y H'/\s2.heap.IsStrIter it (strIterType x) x t (i+1)/\∀b∈[it],H' b=none) E { s with heap:=h',toks:=s.toks+1 }:=λh' st' sb=>by
   have I1 :=I.turned (t':=s.toks+1) (λb o hb e=>(sb.2 b hb).trans e) f0 f1 f3 f4 f5
   obtain⟨o,e,c,d⟩:=id st';refine⟨_,rfl,MO e c d ?_ ⟨.str ⟨#[x.cps[i]]⟩,H,I1,⟨_,rfl⟩,⟨rfl,_,Ģ hi,rfl⟩,st',λb hb=>(hf b hb).1⟩⟩
   unfold strIterType;split<;>decide
  cases ha:(x.cps.all λx=>decide (x<128)) with
  |true=>
   have e:strIterType x="str_ascii_iterator":=by unfold strIterType;rw[ha];rfl
   rw[e]at st Aq ⊢;exact wpAny_pyNext_ascii_item st (Ģ hi) Aq
  |false=>
   have e:strIterType x="str_iterator":=by unfold strIterType;rw[ha];rfl
   rw[e]at st Aq ⊢;exact wpAny_pyNext_wide_item st (Ģ hi) Aq
 done:=by
  intro X hP hw hK hc i pq s σ H E I hf st hg;subst hP hw hK;have hi :=hg;obtain⟨f0,f1,f2,f3,f4,f5⟩:=hf it (by simp)
  have n :=Array.getElem?_eq_none hi;cases ha:(x.cps.all λx=>decide (x<128)) with
  |true=>
   have e:strIterType x="str_ascii_iterator":=by unfold strIterType;rw[ha];rfl
   rw[e]at st;exact wpAny_pyNext_ascii_end (I.ok.hd hc) st n λh' eb=>⟨rfl,I.turned (λb o hb e=>eb b o hb e) f0 f1 f3 f4 f5⟩
  |false=>
   have e:strIterType x="str_iterator":=by unfold strIterType;rw[ha];rfl
   rw[e]at st;exact wpAny_pyNext_wide_end (I.ok.hd hc) st n λh' eb=>⟨rfl,I.turned (λb o hb e=>eb b o hb e) f0 f1 f3 f4 f5⟩
 self:=λ_ i s Q E st h=>by
  cases ha:(x.cps.all λx=>decide (x<128)) with
  |true=>
   have e:strIterType x="str_ascii_iterator":=by unfold strIterType;rw[ha];rfl
   rw[e]at st;exact wpAny_pyIter_striter_ascii st h
  |false=>
   have e:strIterType x="str_iterator":=by unfold strIterType;rw[ha];rfl
   rw[e]at st;exact wpAny_pyIter_striter_wide st h
def iStrT(tl:TE):TI:=λσ H P=>tl σ H λx H1=>∃y,x=.str y/\P (NJ y) H1
section
variable {X:Cx}{tg l e:Expr}{tl:TE}{E:L2.St->XK}{ca:Str->Value}{m:AH}
theorem zna(hl:PE X l tl):PI X tg l (iStrT tl):=by
 intro pq s σ H R I h;refine AQ (hl pq s σ H _ I h) λv s1 zz=>?_
 obtain⟨x,H1,I1,r1,q1⟩:=zz;obtain⟨y,rfl,q⟩:=q1;obtain⟨t,rfl⟩:=(r1);refine wpAny_pyIter_strU ?_;refine⟨s1.heap.objs.size,[s1.heap.objs.size],_,_,H1,rfl,I1.kept λb o e=>Ë _ e,zgl y t _,⟨_,à _ rfl,rfl,rfl⟩,λb hb=>?_,q⟩
 have e :=by simpa using hb
 subst e;exact I1.fpOk (Ç _) (I1.hok.fresh (Ç _))
def GS(x:Str):kL:=x.cps.toList.map λc=>.str ⟨#[c]⟩
theorem zl2{K}:GJ K (NJ x) F (GS x):=by
 intro i F' H' s1 s2;refine⟨λt ht=>?_,λe=>?_⟩
 .unfold GS at ht;rw[Ê]at ht;obtain⟨c,e1,rfl⟩:=Õ.mp ht;have hi:=by simpa using (Í.mp e1).1
  refine⟨hi,λy H'' z=>?_⟩
  obtain⟨rfl,c',hc,rfl⟩:=z;rw[Array.getElem?_toList,hc]at e1;cases e1;exact⟨F',Ext.refl s2,.str _⟩
 .show x.cps.size<=i;rw[e];simp[GS]
def Bc(m:AH):Av:=λτ=>match m τ with
 |some (.v (.str x) _)=>some (.v (GS x) false)|_=>IQ m τ
theorem zmy(ha:PE X e (tM X.K E ca m)):PI X tg e (tI X.K E ca (Bc m)):=by
 refine PI.weak (PI.or (Vj ha) (zna ha)) λσ H P h=>?_
 obtain⟨F,τ,R,S,q⟩:=h
 by_cases hs:∃x b,m τ=some (.v (.str x) b)
 .obtain⟨x,b,hm⟩:=hs;have e:Bc m τ=some (.v (GS x) false):=by unfold Bc;rw[hm]
  rw[e]at q;refine .inr ⟨F,τ,R,S,?_⟩;rw[hm];intro F1 H1 y B e1 g1;exact⟨x,IS g1,q F1 H1 _ (e1.mono λ_ z=>z.elim) zl2⟩
 .have e:Bc m τ=IQ m τ:=by
   unfold Bc
   grind
  rw[e]at q;exact .inl ⟨F,τ,R,S,q⟩
end
open Classical in
def met(val:Nat->Key):Nat->List Key
 |0=>[]|i+1=>if val i∈met val i then met val i else met val i++[val i]
open Classical in
theorem YC(val:Nat->Key):∀i,(met val i).length<=i
 |0=>Ç 0|i+1=>by
  have:=YC val i;unfold met;split
  .omega
  .rw[Ö,Ĥ]
   omega
section
variable {prog:Program}{w:World}{A:Around}{E:Value->Shared->Prop}
open Classical in
theorem YR{knd:PySem.KeyKind prog w Key}{R:Result->Shared->Prop}{I:Addr}{fp wr:List Addr}{G:Array GenState->Array GenState->Prop}{n:Nat}{P:Nat->Value->Prop}{St:Nat->Shared->Prop}(W:WalksS prog w A.in1 I fp wr G n P St)(S:Addr)(hS:S∉fp)(val:Nat->Key)
  (hP:∀i v,P i v->knd.is (val i) v=true/\v.scannable=true) (hn:n+1<scanBound):∀(k i:Nat) (s:Shared),n - i=k->i<=n->St i s->Heap.SetOf knd s.heap S (λk'=>decide (k'∈met val i)) (met val i).length ->
   (∀s':Shared,Moved (S::wr) G s s'->Heap.SetOf knd s'.heap S (λk'=>decide (k'∈met val n)) (met val n).length->R (Except.ok (Flow.ret Value.none)) s') ->
   codeAny (model prog w) A (Code.builtin "set.update.loop" { pos:=[Value.ref S,Value.ref I] }) R s
 |0,i,s,hk,hi,st,hset,h=>by
  have e:i=n:=by omega
  subst e;refine ď F.entry_set_update_loop ?_;rw[Ŀ ŝ];unfold Builtin.«set.update.loop»;refine À (W.done s _ _ st λs' mv=>?_)
  refine Å ?_;refine h s' (mv.mono λb hb=>Î _ hb) ?_
  obtain⟨o,es,ep,t,h1,h2⟩:=hset;exact⟨o,es,ep,t,mv.heap S o (λz=>hS (W.sub S z)) h1,h2⟩
 |k+1,i,s,hk,hi,st,hset,h=>by
  have hi':i<n:=by omega
  refine ď F.entry_set_update_loop ?_;rw[Ŀ ŝ];unfold Builtin.«set.update.loop»;refine À (W.item i s _ _ hi' st λv s' pv st' mv=>?_)
  obtain⟨hk1,hk2⟩:=hP i v pv
  have hset':Heap.SetOf knd s'.heap S (λk'=>decide (k'∈met val i)) (met val i).length:=by
   obtain⟨o,es,ep,t,h1,h2⟩:=hset;exact⟨o,es,ep,t,mv.heap S o (λz=>hS (W.sub S z)) h1,h2⟩
  refine À (ç ?_);unfold setAdd;refine ç (À (knd.pyHash hk1 ?_));have hl:=YC val i;refine wpAny_setAddHashed_of (s:={ s' with toks:=s'.toks+1 }) hk1 hk2 hset' (by omega) λh' sb hset2=>?_
  refine Å ⟨plainId_quiet ŝ _,?_⟩;have st2:=W.frame (i+1) s' h' (s'.toks+1) st' (Ć _) λb hb o e=>(sb.2 b (λz=>hS (z▸hb))).trans e
  have mv2:Moved (S::wr) G s { s' with heap:=h',toks:=s'.toks+1 }:=(mv.mono λb hb=>Î _ hb).then_heap (Ć _) λb o hb e=>(sb.2 b (λz=>hb (by rw[z];exact Ï ..))).trans e
  refine YR W S hS val hP hn k (i+1) _ (by omega) (by omega) st2 ?_ λs'' mv3 hs3=>h s'' (mv2.trans W.gtrans mv3) hs3
  have hS:(λk'=>(decide (k'∈met val i) || decide (k'=val i)))=λk'=>decide (k'∈met val (i+1)):=funext λk'=>by
   conv=>rhs;unfold met
   by_cases hm:val i∈met val i
   .rw[if_pos hm]
    by_cases e:k'=val i
    .rw[e,Ì hm];rfl
    .rw[Ü e,Bool.or_false]
   .rw[if_neg hm,ň];erw[Ě,ë,é,Û]
  have hN:(if decide (val i∈met val i)=true then (met val i).length else (met val i).length+1)=(met val (i+1)).length:=by
   conv=>rhs;unfold met
   by_cases hm:val i∈met val i
   .rw[if_pos hm,if_pos (Ì hm)]
   .rw[if_neg hm,if_neg (λz=>hm (ğ z)),Ö,Ĥ]
  obtain⟨o,es,ep,t,h1,h2,h3,h4,h5,h6,h7,h8⟩:=hset2;refine⟨o,es,ep,t,h1,h2,h3,h4,λk'=>?_,h6,h7,h8.trans hN⟩
  rw[<- h5 k'];have e:=congrFun hS k';show decide (k'∈met val (i+1))=true ↔ _;rw[<- e]
end
open Classical in
theorem zbz{prog:Program}{w:World}{A:Around}{E:Value->Shared->Prop}{s:Shared}{l:Addr}{items:Array Value}{knd:PySem.KeyKind prog w Key}{val:Nat->Key}{Q:Value->Shared->Prop}(hh:A.handled=none)(hl:s.heap.IsList l items)
  (hP:∀(i:Nat) (v:Value),items[i]?=some v->knd.is (val i) v=true/\v.scannable=true) (hb:items.size+1<scanBound)
  (h:∀(h':Heap) (tk:Nat),Heap.SetOf knd h' s.heap.objs.size (λk'=>decide (k'∈met val items.size)) (met val items.size).length->(∀(b:Nat) (o:Obj),b<s.heap.objs.size->s.heap.get? b=some o->h'.get? b=some o)->Q (.ref s.heap.objs.size) { s with heap:=h',toks:=tk }) :
  wpAny (model prog w) A (call (Value.type "set") [Value.ref l]) Q E s:=by
 obtain⟨c,tl,hmro⟩:=Ĝ.mro;have hmade:=Ĝ.made;have hsub:=Ĝ.sub;refine Ĉ (codeAny_of_tree ?_);refine Å ⟨Ŭ _ (by decide +kernel),ď F.entry_type_call ?_⟩
 have hu:=Around.under_plain (A:=A) (weight_type_call_type "set" [Value.ref l] []) rfl;have h1:=Ĝ.notType;have h2:=Ĝ.canCreate;have hct:=F.typeCall_set_1 (Value.ref l);show wpAny (model prog w) (A.under (Code.builtin "type.__call__" { pos:=[Value.type "set",Value.ref l] })) _ _ _ s;rw[hu];unfold Builtin.«type.__call__»;refine ø (by rw[h1];rfl) (ø (by rw[h2];rfl) ?_)
 refine À (ĉ hct (À (ĉ hmro (ø rfl (À (ĉ hmade (À (Å (À (ç (Ĉ (ÿ (code_set_new_1 (E:=λ_ _=>False) (Value.ref l) (Q₁:=λv s'=>∃led:Bool,v=.ref s.heap.objs.size/\s'={ s with heap:=s.heap.push { cls:=.type "set",data:=.set #[] 0 (SetTable.fresh 0 0 led) } }) λled=>⟨led,rfl,rfl⟩) λr s₁ hr=>?_))))))))))))
 cases r with
 |error e=>exact False.elim hr|ok fl=>
  cases fl with
  |next=>exact False.elim hr|brk=>exact False.elim hr|cont=>exact False.elim hr|ret v=>
   obtain⟨led,rfl,rfl⟩:=(show ∃led:Bool,v=.ref s.heap.objs.size/\s₁={ s with heap:=s.heap.push { cls:=.type "set",data:=.set #[] 0 (SetTable.fresh 0 0 led) } } from hr)
   have ho:(s.heap.push { cls:=.type "set",data:=.set #[] 0 (SetTable.fresh 0 0 led) }).get? s.heap.objs.size=some { cls:=.type "set",data:=.set #[] 0 (SetTable.fresh 0 0 led) }:=à _ rfl;have hT:Shared.TypeIs { s with heap:=s.heap.push { cls:=.type "set",data:=.set #[] 0 (SetTable.fresh 0 0 led) } } (.ref s.heap.objs.size) "set":=⟨_,ho,rfl⟩
   have hin:=Ĝ.init;refine À (ő hT hsub (ø rfl (À (ç ?_))));unfold callSpecial?;refine À (œ hT hin.lookup (ç (À (ĉ (hin.bind _) (À (Ĉ (ÿ (R:=wants (λv s'=>v=.none/\∃tk h',s'={ s with heap:=h',toks:=tk }/\Heap.SetOf knd h' s.heap.objs.size (λk'=>decide (k'∈met val items.size)) (met val items.size).length/\∀(b:Nat) (o:Obj),b<s.heap.objs.size->s.heap.get? b=some o->h'.get? b=some o) λ_ _=>False) (ĵ hin.plain F.entry_set_init (check_set_init_1 hT ?_)) λr s₂ hr₂=>?_)))))))
   .unfold Builtin.«set.__init__» noKeywords;refine À (wpAny_ite_true rfl (Å ?_));unfold typeNameOfCut shownTypeOf;refine À (À (À (wpAny_typeOf hT (ø (by decide +kernel) (Å ?_)))))
    refine ĉ (rfl:typeNameCut 200 (Value.type "set")=pure _) ?_;refine À (ĉ (rfl:checkCount _ 0 1 1=pure ()) ?_);refine À (Å ?_);unfold setUsed setState;refine À (À (À (wpAny_load ho (ø rfl (Å (Å (ø rfl ?_)))))));obtain⟨ol,hol,hcl,nl,hdl⟩:=id hl;have hol2:(s.heap.push { cls:=.type "set",data:=.set #[] 0 (SetTable.fresh 0 0 led) }).get? l=some ol:=Ë _ hol;have hTl:Shared.TypeIs { s with heap:=s.heap.push { cls:=.type "set",data:=.set #[] 0 (SetTable.fresh 0 0 led) } } (.ref l) "list":=⟨_,hol2,hcl⟩
    unfold Builtin.Frozenset.updateFrom Builtin.Frozenset.isAnySet;refine À (À (À (ő hTl F.sub_list_set ?_)));have hl2:(s.heap.push { cls:=.type "set",data:=.set #[] 0 (SetTable.fresh 0 0 led) }).IsList l items:=⟨ol,hol2,hcl,nl,hdl⟩;refine ő hTl F.sub_list_frozenset (ø rfl (À (wpAny_typeOf hTl (ø (by decide +kernel) (À (ĝ hl2 ?_))))))
    have lt:l<s.heap.objs.size:=Ä hol;have hsz:(s.heap.push { cls:=.type "set",data:=.set #[] 0 (SetTable.fresh 0 0 led) }).objs.size=s.heap.objs.size+1:=ý _ _;generalize hhp:s.heap.push { cls:=.type "set",data:=.set #[] 0 (SetTable.fresh 0 0 led) }=hp at *
    have hS:s.heap.objs.size∉[hp.objs.size,l]:=by
     rw[hsz];intro z
     rcases Ð.mp z with e|e
     .exact absurd e (Ò (ę _))
     .exact absurd (Û.mp e) (ě lt)
    refine À (wpAny_runValue ?_);refine YR (knd:=knd) (A:=A.in1.in1) (Walks.list (A:=A.in1.in1.in1) hh hp.objs.size l (by rw[hsz];exact Ò (Ī lt)) items).toS s.heap.objs.size hS val (λi v e=>hP i v e) hb items.size 0 _ (by omega) (í _) ⟨?_,?_⟩ ?_ λs' mv hs'=>?_
    .exact⟨_,à _ rfl,rfl,rfl⟩
    .exact⟨ol,Ë _ hol2,hcl,nl,hdl⟩
    .letI:BEq Key:=⟨λa b=>decide (a=b)⟩
     haveI:LawfulBEq Key:={ eq_of_beq:=λh=>ğ h,rfl:=Ì rfl }
     have e0:=(setObjOf_fresh (prog:=prog) (w:=w) (knd:=knd) led).setOf (h:=hp.push { cls:=.type "list_iterator",data:=.fields #[.ref l,.int 0 0] }) (a:=s.heap.objs.size) (Ë _ ho) (by decide)
     obtain⟨o,es,ep,t,g1,g2,g3,g4,g5,g6,g7,g8⟩:=e0;refine⟨o,es,ep,t,g1,g2,g3,g4,λk'=>?_,g6,g7,g8⟩
     rw[<- g5 k'];simp[met]
    .refine Å (Å ?_)
     have b2:∀(b:Nat) (o:Obj),b<s.heap.objs.size->s.heap.get? b=some o->s'.heap.get? b=some o:=λb o hb e=>by
      refine mv.heap b o (λz=>?_) (Ë _ (by rw[<- hhp];exact Ë _ e))
      rcases Ð.mp z with e|e
      .exact absurd e (Ò hb)
      .have e:=Û.mp e;rw[hsz]at e;exact absurd e (Ò (Ī hb))
     have m1:=mv.gens;have m2:=mv.drawn;have m3:=mv.os;obtain⟨hh',g',d',t',os'⟩:=s';refine⟨rfl,t',hh',?_,hs',b2⟩;simp only at m1 m2 m3;rw[m1,m2,m3]
   .cases r with
    |error e=>exact False.elim hr₂|ok fl=>
     cases fl with
     |next=>exact False.elim hr₂|brk=>exact False.elim hr₂|cont=>exact False.elim hr₂|ret v=>
      obtain⟨rfl,tk,h',rfl,hs,hk⟩:=(show v=.none/\∃tk h',s₂={ s with heap:=h',toks:=tk }/\Heap.SetOf knd h' s.heap.objs.size (λk'=>decide (k'∈met val items.size)) (met val items.size).length/\∀(b:Nat) (o:Obj),b<s.heap.objs.size->s.heap.get? b=some o->h'.get? b=some o from hr₂)
      refine Å (ø rfl (Å ?_));exact h h' tk hs hk
def Rj(P:Program)(w:World)(a:Addr)(ks:List Key):HO:=.ext λh=>Heap.SetOf (DA P w) h a (λk=>@decide (k∈ks) (Classical.propDecidable _)) ks.length
section
variable {X:Cx}
theorem zg4(hc:X.calm=true):Bj X (.type "set") (λxs H Q=>∃(p:Addr) (ys:kE),xs=[.ref p]/\AX X.K H p (ys.map V.str)/\ys.length<1000/\∀a,H a=none->Q (.ref a) (upd H a (Rj X.prog X.w a (met (λi=>Sum.inr (ys.getD i Str.empty)) ys.length)))):=by
 intro pq s σ H xs us Q I r h;obtain⟨p,ys,rfl,hq,hz,q⟩:=h;obtain⟨u,rfl,rx⟩:=EI r;cases rx;obtain⟨its,r',pl,_⟩:=I.list hq;have hlen:=r'.length;rw[Á]at hlen;have hsz:its.toArray.size=ys.length:=by rw[ô];exact hlen.symm
 refine zbz (knd:=DA X.prog X.w) (val:=λi=>Sum.inr (ys.getD i Str.empty)) (I.ok.hd hc) pl.isList (λi v e=>?_) (by rw[hsz];exact Ù (Nat.succ_lt_succ hz) (by decide)) λh' tk hs kp=>?_
 .have e' :=by simpa using e
  have hi:i<ys.length:=by rw[hlen];exact(Í.mp e').1
  have hx:(ys.map V.str)[i]?=some (.str ys[i]):=by rw[Ê,Â hi];rfl
  obtain⟨u,e2,ru⟩:=r'.get hx;rw[e']at e2;cases e2;obtain⟨t,rfl⟩:=(ru);refine⟨?_,rfl⟩;show Gb (Sum.inr (ys.getD i Str.empty)) (Value.str ys[i] t)=true;rw[Ó,Â hi];show(ys[i] == ys[i])=true;exact Ŕ _
 .rw[hsz]at hs;refine⟨.ref s.heap.objs.size,_,I.laid (o:=Rj X.prog X.w s.heap.objs.size (met (λi=>Sum.inr (ys.getD i Str.empty)) ys.length)) (λb o e=>kp b o (Ä e) e) (Ç _) ⟨?_,?_,?_⟩,rfl,q _ (I.hok.fresh (Ç _))⟩
  .exact hs
  .obtain⟨o,es,ep,t,g1,_⟩:=hs;exact⟨o,g1⟩
  .intro h1 h2 p1 k;obtain⟨o,es,ep,t,g1,g2⟩:=p1;exact⟨o,es,ep,t,k o g1,g2⟩
theorem zg6:Bj X (.builtin "len") (λxs H Q=>∃a ks,xs=[.ref a]/\H a=some (Rj X.prog X.w a ks)/\Q (.int ks.length) H):=by
 intro pq s σ H xs us Q I r h;obtain⟨a,ks,rfl,ha,q⟩:=h;obtain⟨u,rfl,rx⟩:=EI r;cases rx;obtain⟨⟨o,es,ep,t,g1,g2,g3,g4,g5,g6,g7,g8⟩,_⟩:=(I.hok a _ ha)
 have hb:(es.size:Int)<2 ^ 63:=by
  have:scanBound<=2 ^ 40:=by decide
  omega
 refine call_len_set g1 g2 g3 g7 hb ⟨.int es.size,H,I.tok _,⟨_,rfl⟩,?_⟩
 grind
end
def DS:kL->Option (kE)
 |[]=>some []|.str x::r=>(match DS r with
  |some l=>some (x::l)|none=>none)
 |_::_=>none
theorem LH{K}{F}:∀{l} {ys} {xs},DS l=some ys->Ag K F l xs->xs=ys.map V.str
 |[],ys,xs,h,r=>by
  cases h;exact r.inv0
 |t::l,ys,xs,h,r=>by
  obtain⟨x,xs',rfl,r1,r2⟩:=r.inv;unfold DS at h;split at h
  .grind
  .rename_i y r e;cases e;split at h
   .rename_i l' hl;cases h;rw[r1.str_inv,LH hl r2]
    rfl
   .cases h
  .cases h
def Nb(ys:kE):Nat:=(met (λi=>Sum.inr (ys.getD i Str.empty)) ys.length).length
def JG:T->kH
 |.nd _ .lst l=>(match DS l with
  |some ys=>if ys.length<1000 then some (.int (Nb ys)) else none
  |none=>none)
 |.nd _ .rl l=>(match DS l with
  |some ys=>if ys.length<1000 then some (.int (Nb ys)) else none
  |none=>none)
 |_=>none
section
variable {X:Cx}{E:L2.St->XK}{ca:Str->Value}{m:AH}{e:Expr}{pos p p2 p3:Pos}
theorem r_unq(hc:X.calm=true)(hg:Gl X "len")(hm:X.mg "len"=none)(hg2:Gl X "set")(hm2:X.mg "set"=none)(ha:PE X e (tM X.K E ca m))(he:starEach [e] X.env=[(false,eval e X.env)]) :
  PE X (.Call (.Name "len" p) [.Call (.Name "set" p2) [e] [] p3] [] pos) (tM X.K E ca (BM (g1 JG) (AB m AD))):=by
 have hset:=Le (pos:=p3) (p:=p2) (zg4 hc) hg2 hm2 (rfl) (CY ha DW he) (by decide) (by decide) he rfl
 refine PE.weak (Hu (zg6) hg hm PySem.boot_len (CY hset DW rfl) (by decide) (by decide) rfl rfl) λσ H Q h=>?_
 refine(Fg (Fh h)).mono λx H1 h1=>?_
 obtain⟨F,ts,v,fh,rs,e,q⟩:=Ff h1;unfold g1 at e;split at e
 .obtain⟨x1,xs1,e1,r1,rs1⟩:=rs.inv;cases e1;unfold JG at e;split at e
  .split at e
   .rename_i o l ys hy;split at e
    .rename_i hz;cases e;obtain⟨pp,zs,rfl,_,n,kd⟩:=DY r1;have hF :=n;refine⟨pp,ys,rfl,AX.of (by rw[<- LH hy kd];exact fh _ _ hF),hz,λa ha=>⟨a,_,rfl,Be,?_⟩⟩
     exact q F _ _ R0 ((Ext.newO fh ha).mono λ_ z=>z.elim) (Rp.int _)
    .cases e
   .cases e
  .split at e
   .rename_i o l ys hy;split at e
    .rename_i hz;cases e;obtain⟨pp,zs,rfl,_,n,kd⟩:=DY r1;refine⟨pp,ys,rfl,by rw[<- LH hy kd];exact fh.seq (GG.l n),hz,λa ha=>⟨a,_,rfl,Be,?_⟩⟩
     exact q F _ _ R0 ((Ext.newO fh ha).mono λ_ z=>z.elim) (Rp.int _)
    .cases e
   .cases e
  .cases e
 .cases e
end
def E7:T->T->kH
 |.int i,.int j=>some (.bl (decide (i<=j)))|.str x,.str y=>some (.bl (!(@decide (y.cps.toList<x.cps.toList) (Classical.propDecidable _))))|_,_=>none
section
variable {X:Cx}{E:L2.St->XK}{ca:Str->Value}{m mk:AH}{o k:Expr}{pos apos cpos:Pos}
theorem zkd:Ae X (compareOp .LtE) (Bf X.K E7):=by
 intro pq s σ H x y v u Q I rx ry h;obtain⟨F,t1,t2,r,fh,r1,r2,e,q⟩:=h;unfold E7 at e;split at e
 .cases e;rw[r1.int_inv]at rx;rw[r2.int_inv]at ry;exact WI pq s σ H _ _ v u Q I rx ry ⟨_,_,rfl,rfl,q.bl fh⟩
 .rename_i a b;cases e;rw[r1.str_inv]at rx;rw[r2.str_inv]at ry;obtain⟨t,rfl⟩:=(rx);obtain⟨t',rfl⟩:=(ry);refine PySem.P.le_str ⟨.bl _,H,I,rfl,?_⟩;have q1:=q.bl fh
  grind
 .cases e
end
def CM(ys:kE)(y:Str):Option Nat:=ys.findIdx? λx=>@decide (x=y) (Classical.propDecidable _)
theorem zfh(h:CM ys y=some j):∃hj,ys[j]=y/\∀(m) (hm),m<j->ys[m]≠y:=by
 obtain⟨h1,h2,h3⟩:=Đ.mp h
 grind
theorem aP{x y:Str}:(x.cps.toList == y.cps.toList)=true ↔ x=y:=by
 constructor
 .cases x
  simp_all
 grind
def zn2(K:k6):V->kK->Hp->VK->Prop:=λx vs H Q=>∃(l:Addr) (ys:kE) (y:Str) (j:Nat),x=.ref l/\vs=[.str y]/\AX K H l (ys.map V.str)/\CM ys y=some j/\ys.length<1000000/\Q (.int j) H
section
variable {X:Cx}{E:L2.St->XK}{ca:Str->Value}{m mk:AH}{o k:Expr}{pos apos cpos:Pos}
theorem zhg:NF X "list.index" (zn2 X.K):=by
 intro pq s σ H x vs v us Q I rx rv h;obtain⟨l,ys,y,j,rfl,rfl,hH,hj,hz,q⟩:=h;cases rx;obtain⟨u,rfl,ru⟩:=rv.one;obtain⟨its,r,⟨ob,n,e,c1,c2,c3⟩,hz0⟩:=I.list hH;have hl:=r.length;obtain⟨cc,dd,da,sl⟩:=ob;simp only at c1 c2 c3;subst c1 c2 c3;obtain⟨t,rfl⟩:=(ru);obtain⟨hj1,hj2,hj3⟩:=zfh hj;rw[Á]at hl
 have at_:∀(i ) (hi ),∃(t':Tok) (hi':i<ys.length),its.toArray[i]=Value.str ys[i] t':=λi hi=>by
  have hi0 :=by simpa using hi
  have hi':i<ys.length:=by omega
  have hx:(ys.map V.str)[i]?=some (.str ys[i]):=by rw[Ê,Â hi'];rfl
  obtain⟨u,e2,ru⟩:=r.get hx;obtain⟨t',rfl⟩:=(ru);rw[Â hi0]at e2;refine⟨t',hi',?_⟩
  simpa using e2
 let ev:Value->Bool:=λv=>match v with
  |.str x _=>x.cps.toList == y.cps.toList|_=>false
 have evs:∀(x ) (t' ),ev (.str x t')=(x.cps.toList == y.cps.toList):=λ_ _=>rfl
 have hjs:j<its.toArray.size:=by rw[ô];omega
 refine Ĵ F.slot_list_index ⟨_,e,rfl⟩ F.entry_list_index (F.args_list_index_2 _ _) (SeqAt.list_indexAt l its.toArray n none sl (.str y t) ev j hjs (by omega) ?_ λm hm hmj=>?_) ⟨e,λy' hy'=>?_,.int j,H,I.tok _,⟨_,rfl⟩,q⟩
 rotate_left 2
 .obtain⟨i,hi,rfl⟩:=Array.mem_iff_getElem.mp hy';obtain⟨t',hi',e1⟩:=at_ i hi;rw[e1,evs _ t'];exact(SeqRoads2.EqGives.str _ _ _ _).at _ _
 .obtain⟨t',hi',e1⟩:=at_ j hjs;rw[e1,evs _ t'];exact aP.mpr hj2
 .obtain⟨t',hi',e1⟩:=at_ m hm;rw[e1,evs _ t',Bool.eq_false_iff];exact λz=>hj3 m hi' hmj (aP.mp z)
def Jm:T->Option (kL)
 |.nd false .lst l=>some l|.nd false .rl l=>some l|_=>none
theorem zks(h:Jm t=some l):∃k,t=.nd false k l/\Fw t=true:=by
 unfold Jm at h;split at h
 .cases h;exact⟨_,rfl,rfl⟩
 .cases h;exact⟨_,rfl,rfl⟩
 .cases h
def Jj(m mk:AH):AH:=λτ=>match m τ with
  |some (.v t false)=>(match Jm t with
   |some l=>(match DS l with
    |some ys=>(match mk τ with
      |some (.v (.str y) _)=>(match CM ys y with
        |some j=>if ys.length<1000000 then some (.v (.int j) false) else none
        |none=>none)
      |_=>none)
    |none=>none)
   |none=>none)
  |_=>none
theorem zjj(ho:PE X o (tM X.K E ca m))(hk:PE X k (tM X.K E ca mk))(hbase:attributeBase o "index" X.env (eval o X.env)=eval o X.env)(hs:starEach [k] X.env=[(false,eval k X.env)])(hline:(apos.endLine == cpos.line)=true) :
    PE X (.Call (.Attribute o "index" apos) [k] [] cpos) (tM X.K E ca (Jj m mk)):=by
  refine PE.weak (Lf Ŝ PySem.F.slot_list_index PySem.F.type_list_index zhg ho (CY hk DW hs) hbase (by rw[hs];rfl) hline hs rfl) λσ H Q h=>?_
  obtain⟨F,τ,R,S,q⟩:=h;refine⟨F,τ,R,S,?_⟩;unfold Jj at q;cases hm:m τ with
  |none=>erw[hm]at q<;>exact q.elim|some r=>
    cases r with
    |x c=>erw[hm]at q<;>exact q.elim|v t b=>
      cases b with
      |true=>erw[hm]at q<;>exact q.elim|false=>
       erw[hm]at q;cases hls:Jm t with
       |none=>erw[hls]at q<;>exact q.elim|some l=>
        erw[hls]at q;obtain⟨kk,rfl,hL⟩:=zks hls;intro F1 H1 x B e1 g1;have g0:=g1;obtain⟨p,rfl⟩:=g0.ref_inv;obtain⟨xs0,hN,hr0⟩:=Ag.node g0;obtain⟨p1,xs,e0,sqq,hr⟩:=Jv hL (Ag.of_node hN hr0);injection e0 with e0
        subst e0;cases hy:DS l with
        |none=>erw[hy]at q<;>exact q.elim|some ys=>
          erw[hy]at q;have hxs:=LH hy hr;refine⟨.inl ⟨rfl,xs,sqq F1 H1 (A4.refl _) e1.fh⟩,F1,τ,R,S.ext e1,?_⟩;cases hk2:mk τ with
          |none=>erw[hk2]at q<;>exact q.elim|some r=>
            cases r with
            |x c=>erw[hk2]at q<;>exact q.elim|v t2 b2=>
              cases t2 with
              |str y=>
                erw[hk2]at q;intro F2 H2 z B2 e2 g2;have hz:=IS g2;subst hz;cases hj:CM ys y with
                |none=>erw[hj]at q<;>exact q.elim|some j=>
                  erw[hj]at q
                  by_cases hl:ys.length<1000000
                  . rw[if_pos hl]at q
                    refine⟨p,ys,y,j,rfl,rfl,by rw[<- hxs];exact sqq F2 H2 e2.ff e2.fh,hj,hl,?_⟩
                    exact q F2 H2 _ R0 ((e1.trans e2).mono λ_ z=>z.elim) (.int _)
                  . rw[if_neg hl]at q
                    exact q.elim
              |_=>erw[hk2]at q<;>exact q.elim
end
section
variable {X:Cx}{E:L2.St->XK}{ca:Str->Value}{mu:Bool}{i:Nat}{x n:Str}{np pos hpos:Pos}{body suite:kD}{b₀:Stmt}{u h:AG}{cs:List (Str×Addr)}
theorem StR.put{K}(S:StR K F H σ τ R)(hi:i<τ.length)(r:Rp K F H t v R0):StR K F H (σ.set i (some v)) (τ.set i (some t)) (λj=>if j=i then R0 else R j):=by
 refine⟨S.fh,by simpa using S.len,λj t' e=>?_,λj a z=>?_,λj k a hjk z1 z2=>?_⟩
 .by_cases hj:j=i
  .subst hj;rw[å hi]at e;cases e;exact⟨v,å (by rw[S.len];exact hi),by simpa using r⟩
  .rw[Ú (É hj)]at e;obtain⟨y,e1,r1⟩:=S.rep j t' e;exact⟨y,by rw[Ú (É hj)];exact e1,by simpa[hj] using r1⟩
 .by_cases hj:j=i
  .erw[hj,È]at z;exact z.elim
  .erw[hj,Ã]at z;obtain⟨t',e⟩:=S.out j a z;exact⟨t',by rw[Ú (É hj)];exact e⟩
 .by_cases hj:j=i
  .erw[hj,È]at z1;exact z1.elim
  .by_cases hk:k=i
   .erw[hk,È]at z2;exact z2.elim
   .erw[hj,Ã]at z1;erw[hk,Ã]at z2;exact S.dis j k a hjk z1 z2
theorem StR.gone{K}(S:StR K F H σ τ R):StR K F H (σ.set i none) (τ.set i none) (λj=>if j=i then R0 else R j):=by
 refine⟨S.fh,by simpa using S.len,λj t' e=>?_,λj a z=>?_,λj k a hjk z1 z2=>?_⟩
 .by_cases hj:j=i
  .subst hj;rw[List.getElem?_set]at e;erw[È]at e;split at e<;>cases e
  .rw[Ú (É hj)]at e;obtain⟨y,e1,r1⟩:=S.rep j t' e;exact⟨y,by rw[Ú (É hj)];exact e1,by simpa[hj] using r1⟩
 .by_cases hj:j=i
  .erw[hj,È]at z;exact z.elim
  .erw[hj,Ã]at z;obtain⟨t',e⟩:=S.out j a z;exact⟨t',by rw[Ú (É hj)];exact e⟩
 .by_cases hj:j=i
  .erw[hj,È]at z1;exact z1.elim
  .by_cases hk:k=i
   .erw[hk,È]at z2;exact z2.elim
   .erw[hj,Ã]at z1;erw[hk,Ã]at z2;exact S.dis j k a hjk z1 z2
theorem Sn(h:tot (λj=>if j=i then R0 else R j) a):tot R a:=by
 obtain⟨j,z⟩:=h
 by_cases hj:j=i
 .erw[hj]at z;exact z.elim
 .erw[hj]at z;exact⟨j,z⟩
theorem zg3{K} (fa:F a=none)(hX:FK (upd H a o) a C dx)(hp:Iy F c dx):Rp K (upd F a o) (upd H a o) (.obj (.exn C) (HA c)) (.ref a) R0:=by
 refine .obj ⟨dx,hX.of λu z=>Be.trans (Be.symm.trans z),λv hv=>(hp v hv).of λb u e=>(Ah (Bs e fa)).trans e⟩ ?_ λi t x h1 h2=>?_
 .unfold HA Hv;cases E2 c<;>rfl
 .unfold HA at h1;unfold Hv at h2;cases hq:E2 c with
  |none=>rw[hq]at h1;cases h1|some n=>
   rw[hq]at h1 h2;cases i with
   |zero=>cases h1;cases h2;exact .int _|succ i=>cases h1
end
def Gd(tb:List (Addr×Bool)):T->kH
 |.obj (.exn C) _=>(match tb.lookup C with
  |some b=>some (.bl b)|none=>none)
 |_=>none
section
variable {X:Cx}{E:L2.St->XK}{ca:Str->Value}{m:AH}{e:Expr}{pos p p2:Pos}{c:Str}{v:V}{tb:List (Addr×Bool)}
theorem Vi(hg:Gl X "isinstance")(hm:X.mg "isinstance"=none)(hv:PE X (.Name c p2) (tC v))(hvv:∃D,v=.ref D\/∃T,v=.ty T)(htb:∀C b,tb.lookup C=some b->ExcK X.K C/\W.kitOne X.K (.ref C) (Qz v)=some b)(ha:PE X e (tM X.K E ca m))(he:starEach [e,.Name c p2] X.env=(false,eval e X.env)::starEach [.Name c p2] X.env) :
  PE X (.Call (.Name "isinstance" p) [e,.Name c p2] [] pos) (tM X.K E ca (BM (g1 (Gd tb)) (AB m AD))):=by
 refine PE.weak (Hu (zig) hg hm ķ (CY ha (CY hv DW) he) (by decide) (by decide) he rfl) λσ H Q h=>?_
 refine(Fg (Fh h)).mono λx H1 h1=>?_
 obtain⟨F,ts,w,fh,rs,e,q⟩:=Ff h1;unfold g1 at e;split at e
 .obtain⟨x1,xs1,e1,r1,rs1⟩:=rs.inv;cases e1;unfold Gd at e;split at e
  .rename_i C l;split at e
   .rename_i b hb;cases e;obtain⟨k1,k2⟩:=htb C b hb;obtain⟨a,xs,rfl,_,hF,_,_⟩:=r1.obj_inv;have hF' :=hF.choose_spec.1.x;exact⟨a,C,v,b,rfl,hF'.of (fh a),k1,hvv,k2,q.bl fh⟩
   .cases e
  .cases e
 .cases e
end
section
variable {X:Cx}{E:L2.St->XK}{ca:Str->Value}{mu:Bool}{i j:Nat}{tg it c:Expr}{ret:kD}{mc:AH}{k:T}{ip pos:Pos}
end
section
variable {X:Cx}{E:L2.St->XK}{ca:Str->Value}{mu:Bool}{i j:Nat}{tg it e:Expr}{m:AH}{t:T}{p1 apos cpos pos bpos:Pos}{x:Str}
end
section
variable {X:Cx}{E:L2.St->XK}{ca:Str->Value}{m mk ma:AH}{o k e a:Expr}{pos apos cpos p p2:Pos}
def rSlS:V->kA->kA->Hp->VK->Prop:=λx lo hi H Q=>∃z:Str,x=.str z/\z.length<=Az/\Q (.str (Txt.slice z lo hi)) H
theorem zm6:Rh X rSlS:=by
 intro pq s σ H x v vl vu lo hi sl Q I rx hs pl pu q;obtain⟨z,rfl,hz,q⟩:=q;obtain⟨t,rfl⟩:=(rx);obtain⟨ob,ho,hc,hd⟩:=hs;rw[FZ]at hz;cases pl with
 |none=>
  cases pu with
  |none=>exact⟨"str",_,ļ.lookup,Ğ _ _ _,ŕ (l:=none) (u:=none) (st:=none) ⟨ob,ho,hc,hd⟩ rfl (Ŗ ⟨Þ (ŋ z _ _) hz,λt' k=>⟨.str _,H,I.tok _,⟨_,rfl⟩,q⟩⟩)⟩|int j uj=>exact⟨"str",_,ļ.lookup,Ğ _ _ _,ŕ (l:=none) (u:=some (j,uj)) (st:=none) ⟨ob,ho,hc,hd⟩ rfl (Ŗ ⟨Þ (ŋ z _ _) hz,λt' k=>⟨.str _,H,I.tok _,⟨_,rfl⟩,q⟩⟩)⟩
 |int i ui=>
  cases pu with
  |none=>exact⟨"str",_,ļ.lookup,Ğ _ _ _,ŕ (l:=some (i,ui)) (u:=none) (st:=none) ⟨ob,ho,hc,hd⟩ rfl (Ŗ ⟨Þ (ŋ z _ _) hz,λt' k=>⟨.str _,H,I.tok _,⟨_,rfl⟩,q⟩⟩)⟩|int j uj=>exact⟨"str",_,ļ.lookup,Ğ _ _ _,ŕ (l:=some (i,ui)) (u:=some (j,uj)) (st:=none) ⟨ob,ho,hc,hd⟩ rfl (Ŗ ⟨Þ (ŋ z _ _) hz,λt' k=>⟨.str _,H,I.tok _,⟨_,rfl⟩,q⟩⟩)⟩
def E5(ma:AH)(ml mh:Option (AH)):AH:=λτ=>match ma τ with
 |some (.v (.str z) _)=>(match Et ml τ,Et mh τ with
  |some lo,some hi=>if z.length<=Az then some (.v (.str (Txt.slice z lo hi)) false) else none
  |_,_=>none)
 |_=>none
theorem zgx{lo hi}(ha:PE X a (tM X.K E ca ma))(hl:PO X lo (Gr X.K ml))(hh:PO X hi (Gr X.K mh)):PE X (.Subscript a (.Slice lo hi none p2) pos) (tM X.K E ca (E5 ma ml mh)):=by
 refine PE.weak (WC zm6 ha hl hh) λσ H Q h=>?_
 obtain⟨F,τ,R,S,q⟩:=h;refine⟨F,τ,R,S,?_⟩;unfold E5 at q;cases hm:ma τ with
 |none=>rw[hm]at q;exact q.elim|some r=>
  rw[hm]at q;cases r with
  |x c=>exact q.elim|v t bb=>
   cases t with
   |str z=>
    intro F1 H1 x B e1 g1;have hx:=IS g1;subst hx;have e1':Ext F H F1 H1 R0:=e1.mono λ_ z=>z.elim
    have S1:=S.ext e1';cases h1:Et ml τ with
    |none=>erw[h1]at q<;>exact q.elim|some lo'=>
     refine⟨F1,τ,R,lo',S1,h1,λF2 H2 e2=>?_⟩
     have S2:=S1.ext e2;cases h2:Et mh τ with
     |none=>erw[h1,h2]at q<;>exact q.elim|some hi'=>
      erw[h1,h2]at q;refine⟨F2,τ,R,hi',S2,h2,λF3 H3 e3=>?_⟩
      by_cases hz:z.length<=Az
      .rw[if_pos hz]at q;exact⟨z,rfl,hz,q F3 H3 _ R0 (e1'.trans0 (e2.trans0 e3)) (.str _)⟩
      .rw[if_neg hz]at q;exact q.elim
   |_=>exact q.elim
def rJoin:V->kK->Hp->VK->Prop:=λx vs H Q=>∃(sep:Str) (l:Addr) (ys:kE),x=.str sep/\vs=[.ref l]/\H l=some (.lst (ys.map V.str))/\(ys.map (·.length)).sum+ys.length * sep.length<=Az/\Q (.str (Txt.join sep ys)) H
theorem TV:∀{ys} {its},A9 (ys.map V.str) its->StrsAre its ys
 |[],its,r=>by
  cases r;exact .nil
 |y::ys,its,r=>by
  cases r with
  |cons h t=>obtain⟨tk,rfl⟩:=h;exact .cons _ _ (TV t)
theorem zkn:NF X "str.join" rJoin:=by
 intro pq s σ H x vs v us Q I rx rv h;obtain⟨sep,l,ys,rfl,rfl,hH,hz,q⟩:=h;obtain⟨t,rfl⟩:=(rx);obtain⟨u,rfl,ru⟩:=rv.one;cases ru;obtain⟨its,r,pl,_⟩:=I.list (AX.of hH);refine join_list pl.isList (TV r) (by exact hz) λt' k=>⟨.str _,H,I.tok _,⟨_,rfl⟩,q⟩
def Ji(m mk:AH):AH:=λτ=>match m τ with
 |some (.v (.str sep) _)=>(match mk τ with
  |some (.v (.nd _ .lst l) _)=>(match DS l with
   |some ys=>if (ys.map (·.length)).sum+ys.length * sep.length<=Az then some (.v (.str (Txt.join sep ys)) false) else none
   |none=>none)
  |_=>none)
 |_=>none
theorem zo5{K}{o}(s:A4 F H)(h:Rp K F H (.nd o .lst l) x A):∃p xs,x=.ref p/\H p=some (.lst xs)/\l.length=xs.length/\∀(i:Nat) (t) (x),l[i]?=some t->xs[i]?=some x->∃B,Rp K F H t x B:=by
 cases h with
 |shr h e c=>exact⟨_,_,rfl,s _ _ h,e,λi t x h1 h2=>⟨_,c i t x h1 h2⟩⟩|own hk R f h e c d dp o=>exact⟨_,_,rfl,h,e,λi t x h1 h2=>⟨_,c i t x h1 h2⟩⟩
theorem TU{K}{F H}:∀{l} {ys} {xs},DS l=some ys->l.length=xs.length->(∀(i:Nat) (t) (x),l[i]?=some t->xs[i]?=some x->∃B,Rp K F H t x B)->xs=ys.map V.str
 |[],ys,xs,h,e,_=>by
  cases h
  grind
 |t::l,ys,[],h,e,_=>by simp at e|t::l,ys,x::xs,h,e,f=>by
  unfold DS at h;split at h
  .grind
  .rename_i z r hh;cases hh;split at h
   .rename_i l' hl;cases h;obtain⟨B,r0⟩:=f 0 _ x rfl rfl;have ih :=TU hl (by simpa using e) λi t x h1 h2=>f (i+1) t x (by grind) (by grind)
    rw[r0.str_inv,ih]
    rfl
   .cases h
  .cases h
theorem zmw(ho:PE X o (tM X.K E ca m))(hk:PE X k (tM X.K E ca mk))(hbase:attributeBase o "join" X.env (eval o X.env)=eval o X.env)(hs:starEach [k] X.env=[(false,eval k X.env)])(hline:(apos.endLine == cpos.line)=true) :
  PE X (.Call (.Attribute o "join" apos) [k] [] cpos) (tM X.K E ca (Ji m mk)):=by
 refine PE.weak (Lf PySem.F.plainAttrs_str PySem.F.slot_str_join PySem.F.type_str_join zkn ho (CY hk DW hs) hbase (by rw[hs];rfl) hline hs rfl) λσ H Q h=>?_
 obtain⟨F,τ,R,S,q⟩:=h;refine⟨F,τ,R,S,?_⟩;unfold Ji at q;cases hm:m τ with
 |none=>rw[hm]at q;exact q.elim|some r=>
  rw[hm]at q;cases r with
  |x c=>exact q.elim|v t b=>
   cases t with
   |str sep=>
    simp only at q;intro F1 H1 x B e1 g1;have hx:=IS g1;subst hx;have e1':Ext F H F1 H1 R0:=e1.mono λ_ z=>z.elim
    refine⟨rfl,F1,τ,R,S.ext e1',?_⟩;cases hk2:mk τ with
    |none=>rw[hk2]at q;exact q.elim|some r2=>
     rw[hk2]at q;cases r2 with
     |x c=>exact q.elim|v t2 b2=>
      cases t2 with
      |nd o2 k2 l=>
       cases k2 with
       |lst=>
        simp only at q;intro F2 H2 z B2 e2 g2
        have hr:∃A,Rp X.K F2 H2 (.nd o2 .lst l) z A:=by
         cases b2 with
         |true=>obtain⟨_,A,_,r⟩:=g2;exact⟨A,r⟩
         |false=>exact⟨_,g2⟩
        obtain⟨A,r⟩:=hr;obtain⟨p,xs,rfl,hH,el,kd⟩:=zo5 e2.fh r;cases hy:DS l with
        |none=>erw[hy]at q<;>exact q.elim|some ys=>
         erw[hy]at q;have hxs:=TU hy el kd
         by_cases hz:(ys.map (·.length)).sum+ys.length * sep.length<=Az
         .rw[if_pos hz]at q;exact⟨sep,p,ys,rfl,rfl,by rw[<- hxs];exact hH,hz,q F2 H2 _ R0 ((e1'.trans e2).mono λ_ z=>z.elim) (.str _)⟩
         .rw[if_neg hz]at q;exact q.elim
       |_=>exact q.elim
      |_=>exact q.elim
   |_=>exact q.elim
def rIxD:R2:=λx y H Q=>∃a kvs k v,x=.ref a/\y=.str k/\H a=some (.dK kvs)/\Du kvs (Sum.inr k)=some v/\Q v H
theorem zos(hu:X.A.units+1<cLine):Fd X rIxD:=by
 intro value slice pq s σ H x y v u Q I rx ry h hs;obtain⟨a,kvs,k,w,rfl,rfl,hH,hv,q⟩:=h;cases rx;have g :=hv▸NM.k hH
 have hT:s.TypeIs (.ref a) "dict":=by
  obtain⟨_,_,vs,_,dd⟩:=aI I.hok hH;exact dd.typeIs
 refine À ?_;refine À (œ hT PySem.F.slot_dict_getitem.lookup ?_)
 have Aq:wpAny (model X.prog X.w) X.A (subscripted slice false (.ref a) u) (λr s₃=>wpAny (model X.prog X.w) X.A (letTemporaryGo value (.ref a) r >>= λ_=>pure r) (EP X pq σ Q) X.xe s₃) X.xe s:=by
  rw[hs];exact wpAny_operating (è (zfv hu I g (ry) λw' s3 I3 rw'=>⟨w,H,I3,rw',q⟩) (λr s₃ h₃=>À (wpAny_letTemporaryGo (Å h₃))) λ_ _ x=>x)
 first|exact Å (À Aq)|rfl|rfl
def Jk(m mk:AH):AH:=λτ=>match m τ with
 |some (.v (.obj (.sdc ks) l) _)=>(match mk τ with
  |some (.v (.str y) _)=>(match CM ks y with
   |some j=>(match l[j]? with
    |some u=>if u.sh then some (.v u false) else none
    |none=>none)
   |none=>none)
  |_=>none)
 |_=>none
theorem Sb:∀{ks} {xs} {y} {j} {v},CM ks y=some j->xs[j]?=some v->Du (Cc ks xs) (Sum.inr y)=some v
 |[],xs,y,j,v,h,_=>by simp[CM]at h|k::ks,[],y,j,v,_,h=>by simp at h|k::ks,x::xs,y,j,v,h,hx=>by
  show Du ((Sum.inr k,x)::Cc ks xs) (Sum.inr y)=some v;unfold CM at h;rw[Ů]at h
  by_cases e:k=y
  .rw[@decide_eq_true _ (Classical.propDecidable _) e]at h;erw[È,Ş]at h;subst h;rw[Kr (by rw[e])]
   simpa using hx
  .rw[@decide_eq_false _ (Classical.propDecidable _) e]at h;erw[ā,Ã,Õ]at h;obtain⟨j',h1,rfl⟩:=h;rw[Ks (λz=>e (Sum.inr.inj z))]
   exact Sb (h1) (by simpa using hx)
theorem r_gt(hu:X.A.units+1<cLine)(ho:PE X o (tM X.K E ca m))(hk:PE X k (tM X.K E ca mk))(hs:Kf k):PE X (.Subscript o k pos) (tM X.K E ca (Jk m mk)):=by
 refine PE.weak (O6 (zos hu) ho hk hs) λσ H Q h=>?_
 obtain⟨F,τ,R,S,q⟩:=h;refine⟨F,τ,R,S,?_⟩;unfold Jk at q;cases hm:m τ with
 |none=>rw[hm]at q;exact q.elim|some r=>
  rw[hm]at q;cases r with
  |x c=>exact q.elim|v t b=>
   cases t with
   |obj kd l=>
    cases kd with
    |sdc ks=>
     simp only at q;intro F1 H1 x B e1 g1;obtain⟨r1,hB⟩:=MN g1;subst hB;obtain⟨a,xs,rfl,_,⟨hl1,hF⟩,el,cc⟩:=r1.obj_inv;refine⟨F1,τ,R,S.ext e1,?_⟩;cases hk2:mk τ with
     |none=>rw[hk2]at q;exact q.elim|some r2=>
      rw[hk2]at q;cases r2 with
      |x c=>exact q.elim|v t2 b2=>
       cases t2 with
       |str y=>
        simp only at q;intro F2 H2 z B2 e2 g2;have hz:=IS g2;subst hz;have e2':Ext F1 H1 F2 H2 R0:=e2.mono λ_ z=>z.elim
        cases hj:CM ks y with
        |none=>erw[hj]at q<;>exact q.elim|some j=>
         erw[hj]at q;cases hu2:l[j]? with
         |none=>erw[hu2]at q<;>exact q.elim|some u=>
          erw[hu2]at q
          by_cases hsh:u.sh=true
          .rw[if_pos hsh]at q;have hjl:=(Í.mp hu2).1;have hx:xs[j]?=some xs[j]:=Â (by omega)
           have hc:=(cc j u _ hu2 hx).move (H':=H2) hsh e2'.ff;exact⟨a,_,y,_,rfl,rfl,e2'.hh _ _ (e1.fh _ _ hF),Sb hj hx,q F2 H2 _ R0 (e1.trans0 e2') hc⟩
          .rw[if_neg hsh]at q;exact q.elim
       |_=>exact q.elim
    |_=>exact q.elim
   |_=>exact q.elim
def tKys(to:TE):TE:=λσ H Q=>to σ H λx H1=>∃a ks xs,x=.ref a/\ks.length=xs.length/\H1 a=some (.dK (Cc ks xs))/\∀p,H1 p=none->Q (.ref p) (upd H1 p (.lst (ks.map V.str)))
theorem Y3:∀{ks} {xs},ks.length=xs.length->(Cc ks xs).length=ks.length
 |[],[],_=>rfl|[],_::_,h=>by simp at h|_::_,[],h=>by simp at h|k::ks,x::xs,h=>by
  show(Cc ks xs).length+1=ks.length+1;rw[Y3 (by simpa using h)]
theorem Y4:∀{ks} {xs} {vs},ks.length=xs.length->KV (Cc ks xs) vs->vs.map (·.1)=ks.map Sum.inr
 |[],[],vs,_,r=>by
  have r' :=(r);cases r'
  rfl
 |[],_::_,_,h,_=>by simp at h|_::_,[],_,h,_=>by simp at h|k::ks,x::xs,vs,h,r=>by
  have r' :=r;cases r' with
  |@cons _ q _ qs hd tl=>rw[Ñ,Ñ,<- hd.1,Y4 (by simpa using h) tl]
theorem zng(hc:X.calm=true)(hg:Gl X "list")(hm:X.mg "list"=none)(ho:PE X o to)(hs:starEach [o] X.env=[(false,eval o X.env)]) :
  PE X (.Call (.Name "list" p) [o] [] p2) (tKys to):=by
 intro pq s σ H Q I h;refine Ď (F7 I hg hm đ ?_ (by decide) (by decide))
 refine Ċ ?_ (by rw[hs];rfl) rfl
 rw[hs];show wpAny _ _ (spliced ((false,eval o X.env)::backTo p2 (starEach [] X.env))) _ _ s;refine ũ (AQ (ho pq s σ H _ I h) λv s1 zz=>?_)
 obtain⟨x,H1,I1,r1,q1⟩:=zz;obtain⟨a,ks,xs,rfl,el,hd,q⟩:=q1;cases r1;obtain⟨z,hsm,vs,rel,o',es,ep,ho',r⟩:=(I1.hok a _ hd);have hat:s1.heap.DictAt (DA X.prog X.w) a vs ep:=⟨o',es,ho',r⟩;refine ű ?_;refine W.kdl_call (W.kdl_dict hsm) (I1.ok.hd hc) hat (by rw[<- zoi rel];exact z) λh' tk acc' c' hk hD hacc=>?_
 have hkeys:=Y4 el rel;refine⟨.ref _,_,I1.laid hk (Ç _) ?_,rfl,q _ (I1.hok.fresh (Ç _))⟩;refine⟨by rw[Á,<- Y3 el];exact z,acc'.toList,c',?_,by rw[hD]⟩
 have hlen:acc'.toList.length=ks.length:=by
  rw[Array.length_toList,hacc.1,<- Á,hkeys,Á]
 have key:∀(n ) (k ) (v ),ks[n]?=some k->acc'.toList[n]?=some v->∃t,v=Value.str k t:=λn k v h1 h2=>by
  obtain⟨k',x',e1,e2⟩:=hacc.2 n v (by rw[<- Array.getElem?_toList];exact h2)
  have e3:(vs.map (·.1))[n]?=some k':=by rw[Ê,e1];rfl
  rw[hkeys,Ê,h1]at e3;have e4 :=(Ý e3).symm;subst e4
  rcases FA (show Gb (Sum.inr k) v=true from e2) with ⟨i,t,e5,_⟩|⟨x,t,e5,e6⟩
  .cases e5
  .cases e5;exact⟨t,e6⟩
 clear hD hk hacc
 generalize acc'.toList=as at hlen key
 clear hd q hkeys
 have go:∀(ks:kE) (as ),as.length=ks.length->(∀(n:Nat) (k ) (v ),ks[n]?=some k->as[n]?=some v->∃t,v=Value.str k t)->A9 (ks.map V.str) as:=by
  intro ks
  induction ks with
  |nil=>
   intro as hl _;cases as with
   |nil=>exact .nil|cons _ _=>simp at hl
  |cons k ks ih=>
   intro as hl key;cases as with
   |nil=>simp at hl|cons v as=>exact .cons (key 0 k v rfl rfl) (ih as (by simpa using hl) λn k v h1 h2=>key (n+1) k v (by simpa using h1) (by simpa using h2))
 exact go ks as hlen key
def G7(m:AH):AH:=λτ=>match m τ with
 |some (.v (.obj (.sdc ks) _) _)=>some (.v (.own (ks.map T.str)) false)|_=>none
theorem zgt{K}(ks:kE):Ag K F (ks.map T.str) (ks.map V.str):=⟨by simp,λi t x h1 h2=>by
 rw[Ê]at h1 h2;cases h:ks[i]? with
 |none=>grind|some k=>rw[h]at h1 h2;cases h1;cases h2;exact .str k⟩
theorem r_kys(hc:X.calm=true)(hg:Gl X "list")(hm:X.mg "list"=none)(ho:PE X o (tM X.K E ca m))(hs:starEach [o] X.env=[(false,eval o X.env)]):PE X (.Call (.Name "list" p) [o] [] p2) (tM X.K E ca (G7 m)):=by
 refine PE.weak (zng hc hg hm ho hs) λσ H Q h=>?_
 obtain⟨F,τ,R,S,q⟩:=h;refine⟨F,τ,R,S,?_⟩;unfold G7 at q;cases hm2:m τ with
 |none=>rw[hm2]at q;exact q.elim|some r=>
  rw[hm2]at q;cases r with
  |x c=>exact q.elim|v t b=>
   cases t with
   |obj kd l=>
    cases kd with
    |sdc ks=>
     intro F1 H1 x B e1 g1;obtain⟨r1,hB⟩:=MN g1;subst hB;obtain⟨a,xs,rfl,_,⟨hl1,hF⟩,el,cc⟩:=r1.obj_inv;refine⟨a,ks,xs,rfl,hl1,e1.fh _ _ hF,λp hp=>?_⟩
     have gg:DE X.K F1 H1 (.own (ks.map T.str)) Q:=λF' H' z C e g=>q F' H' z C (e1.trans0 e) g
     exact gg.list e1.fh (zgt ks) hp
    |_=>exact q.elim
   |_=>exact q.elim
structure ICls(K:k6)(C:Addr):Prop where
 c:Cls K C
 a:W.findIn K (.ref C) "__class__"=some (some (.builtin "object.__class__"))
 n:W.specialIn K (.builtin "object.__class__") "__get__"=some (some (.builtin "getset_descriptor.__get__"))
 k:W.takesIn K (.builtin "object.__class__")=some true
 m:W.mroIn K C (.type "object")=some true
def QO(tb:List (Addr×Bool)):Ob->kH
 |.ins C _=>(tb.lookup C).map .bl|_=>none
def Ku:List String:=["NoneType","bool","int","str","list","tuple","dict"]
def Jw(tb:List (Addr×Bool)):T->kH
 |.obj o _=>QO tb o|t=>(Kv t).map λ_=>.bl false
theorem zii(hC:ICls X.K C)(hk:W.kitOne X.K (.ref C) (.ref D)=some b):Bj X (.builtin "isinstance") (λxs H Q=>∃a dx fs,xs=[.ref a,.ref D]/\H a=some (.ins C dx fs)/\Q (.bl b) H):=by
 intro pq s σ H xs us Q I r h;obtain⟨a,dx,fs,rfl,e,q⟩:=h;obtain⟨u,w',rfl,rx,ry⟩:=FO r;cases ry;exact QM I rx (.ins e hC.c hC.a hC.n hC.k hC.m) hk λtk=>⟨.bl b,H,I.tok _,rfl,q⟩
theorem r_isC(hC:(∀C b,tb.lookup C=some b->ICls X.K C/\W.kitOne X.K (.ref C) (.ref D)=some b)/\(Ku.all λa=>W.kitOne X.K (.type a) (.ref D) == some false)=true)(hg:Gl X "isinstance")(hm:X.mg "isinstance"=none)(hgc:Gl X c)(hmc:X.mg c=some (.ref D))(hd:(c == "__debug__")=false)(ha:PE X e (tM X.K E ca m))(he:starEach [e,.Name c p2] X.env=(false,eval e X.env)::starEach [.Name c p2] X.env) :
  PE X (.Call (.Name "isinstance" p) [e,.Name c p2] [] pos) (tM X.K E ca (BM (g1 (Jw tb)) (AB m AD))):=by
 have hR:Bj X (.builtin "isinstance") (λxs H Q=>(∃C b a dx fs,tb.lookup C=some b/\xs=[.ref a,.ref D]/\H a=some (.ins C dx fs)/\Q (.bl b) H)\/∃x a,xs=[x,.ref D]/\a∈Ku/\(TyOf X.K H x (.type a)\/Rc X.K H x a)/\Q (.bl false) H):=λpq s σ H xs us Q I r h=>by
  rcases h with ⟨C,b,a,dx,fs,hl,h⟩|⟨x,a,rfl,hm,ty,q⟩
  .exact zii (hC.1 C b hl).1 (hC.1 C b hl).2 pq s σ H xs us Q I r ⟨a,dx,fs,h⟩
  .have hk :=eq_of_beq (æ.mp hC.2 a hm);obtain⟨u,w',rfl,rx,ry⟩:=FO r;cases ry
   rcases ty with ty|hp
   .exact QM I rx ty hk λtk=>⟨.bl false,H,I.tok _,rfl,q⟩
   .exact Yh I rx hp hk λtk=>⟨.bl false,H,I.tok _,rfl,q⟩
 refine PE.weak (Hu hR hg hm ķ (CY ha (CY (JX (v:=.ref D) hgc hmc rfl hd) DW) he) (by decide) (by decide) he rfl) λσ H Q h=>?_
 refine(Fg (Fh h)).mono λx H1 h1=>?_
 obtain⟨F,ts,w,fh,rs,e,q⟩:=Ff h1;unfold g1 at e;split at e
 .obtain⟨x1,xs1,e1,r1,rs1⟩:=rs.inv;cases e1;unfold Jw at e;split at e
  .unfold QO at e;split at e
   .obtain⟨b,hb,rfl⟩:=Õ.mp e;obtain⟨a,xs,rfl,_,⟨dx,hF⟩,_,_⟩:=r1.obj_inv;exact .inl ⟨_,b,a,dx,_,hb,rfl,fh _ _ hF,q.bl fh⟩
   .cases e
  .obtain⟨a,ha,rfl⟩:=Õ.mp e;obtain⟨ty,hm⟩:=Sh fh r1 ha;exact .inr ⟨_,a,rfl,hm,ty,q.bl fh⟩
 .cases e
end
section
variable {X:Cx}{E:L2.St->XK}{ca:Str->Value}{m mk:AH}{e k:Expr}{pos p1 pos2 pos3:Pos}{mu:Bool}{i j:Nat}{x f:Str}
end
end Pu
namespace Zx
open PySem PySem.Spec PyProof.Rows L2 Zw
section
variable {A:Around}{E:Value->Shared->Prop}{M:Model}
theorem Zu{b:Bool}{h:Heap}{d:Drawn}{t:Nat}{os:OsState}{oe:Obj}{sn:kE}{ab:Bool}
      (hW:h.get? W=some (excClassObj nm q W N bs bm hdct sn sub ab col dd k0 k1 k2 k3 k5 newId)) (he:h.get? a=some oe) (hcls:oe.cls=.ref C) (hb:bm.contains (.type "BaseException")=true)
    (LS:PySem.W.Looks M h (isSubtype (.ref C) (.ref W)) b) (hq:Q b ⟨h,g,d,t,os⟩):wpAny M A (excMatches (.ref a) (.ref W)) Q E ⟨h,g,d,t,os⟩:=by
  cases b with
  |true=>exact exm hW he hcls hb LS hq|false=>
    have hcB:(Value.ref W::bm).contains (.type "BaseException")=true:=by
      rw[ł,hb];exact Bool.or_true _
    have f:=tc_notTuple;unfold excMatches
    repeat (first|(with_reducible refine Ŏ he ?_;rw[hcls])|with_reducible refine Ŏ hW ?_|(with_reducible refine wpAny_isSubtype_exc hW ?_;rw[hcB])|with_reducible refine PySem.W.Looks.at LS ?_|wp_step)
    exact hq
end
def tTry2(K:k6)(W1 W2:Addr)(i1 i2:Nat)(E:L2.St->XK)(tb th1 th2:TS):TS:=λD σ H=>tb D σ H/\∀σ1 cls dx H1,E σ1 cls dx H1->∃C,cls=.ref C /\
 ((W.subIn K (.ref C) (.ref W1) = some true /\ ∀ a o, H1 a = none -> FK (upd H1 a o) a C dx -> th1 (Jz i1 D) (σ1.set i1 (some (.ref a))) (upd H1 a o)) \/
  (W.subIn K (.ref C) (.ref W1)=some false/\W.subIn K (.ref C) (.ref W2)=some true/\∀a o,H1 a=none->FK (upd H1 a o) a C dx->th2 (Jz i2 D) (σ1.set i2 (some (.ref a))) (upd H1 a o)))
section
variable {X:Cx}{i1 i2:Nat}{x1 x2 n1 n2:Str}{np1 np2 pos hpos1 hpos2:Pos}{body suite1 suite2:kD}{b1 b2:Stmt}{tb th1 th2:TS}{E:L2.St->XK}
theorem zju(T1:ECls X.K X.mg x1)(T2:ECls X.K X.mg x2)(hst:X.stack=X.env::X.outer)(hf:X.env.frame=some X.env.locals)(hN:X.N.Nodup)(hi1:X.N[i1]?=some n1)(hloc1:X.env.scope.names.lookup n1=some .local)(hi2:X.N[i2]?=some n2)(hloc2:X.env.scope.names.lookup n2=some .local)
  (hb:∀pq xe,BI (Eb X pq xe) E->BB (Eb X pq xe) body tb) (hh1:∀a,BB (Ec X a) (b1::suite1) th1) (hh2:∀a,BB (Ec X a) (b2::suite2) th2) (hg1:Gl X x1) (hdb1:(x1 == ("__debug__":Str))=false) (hg2:Gl X x2) (hdb2:(x2 == ("__debug__":Str))=false) :
  PS X (.Try body [.ExceptHandler (some (.Name x1 np1)) (some n1) (b1::suite1) hpos1,.ExceptHandler (some (.Name x2 np2)) (some n2) (b2::suite2) hpos2] [] [] pos) (tTry2 X.K T1.C T2.C i1 i2 E tb th1 th2):=by
 intro pq s σ H D I h;obtain⟨h1,h2⟩:=h
 have hkind:(X.env.scope.kind == .class || (X.env.scope.kind == .module && X.env.locals != X.env.globals))=false:=by
  rw[I.ok.kind]
  rfl
 refine wpAny_Try_except (è (hb pq (λe s₁=>wpAny (model X.prog X.w) X.A (noteFrame e X.env) (λ_ s₂=>wpAny (model X.prog X.w) X.A (setFlight e none) (λ_ s₃=>wpAny (model X.prog X.w) X.A (handleBy e X.env [.ExceptHandler (some (.Name x1 np1)) (some n1) (b1::suite1) hpos1,.ExceptHandler (some (.Name x2 np2)) (some n2) (b2::suite2) hpos2]) (SP X pq D) X.xe s₃) X.xe s₂) X.xe s₁)
  ?pass [] s σ H D (zou I) h1) (λf s1 q=>?_) (λe s1 q=>q))
 case pass=>
  intro pins1 σ1 H1 s1 e s' I1t hcx;have I1:Inv X pq σ1 H1 s1:=WN (ok:=I.ok) I1t;obtain⟨a,cls,H',B,rfl,os,bare,un,hok,kB,tB,fl0,he⟩:=hcx;obtain⟨c0,dx⟩:=cls;obtain⟨C,hC0,hcase⟩:=h2 σ1 c0 dx H' he;have hC0:c0=.ref C:=hC0;subst hC0;have fl1 :=hst▸fl0;have hfr :=hst▸I.ok.frames;have ha:H' a=none:=none_of hok fl1.choose_spec.2.1
  have sl:∀h',s'.heap.UpToSlots h'->∀b o,s1.heap.get? b=some o->H1 b=none->b∈BS X.stack->∃z,h'.get? b=some { o with slots:=z }:=λh' sm b o e n hb=>by
   obtain⟨_,o2,ho2,hd⟩:=I1.stack.mem hb;rw[e]at ho2;cases ho2;obtain⟨z2,e2⟩:=un.slot b o e n hb (by simp)
   obtain⟨z3,e3⟩:=sm b { o with slots:=z2 } e2 hd
   exact⟨z3,e3⟩
  have th':∀h',B.StaysIn h'->s'.heap.UpToSlots h'->∀b o,s1.heap.get? b=some o->∃o',h'.get? b=some o':=λh' st sm b o e=>by
   by_cases hb:b∈BS X.stack
   .obtain⟨z,q⟩:=sl h' sm b o e (I1.stkFree b hb) hb;exact⟨_,q⟩
   .obtain⟨o',q⟩:=tB b o e hb;exact⟨o',st b o' q⟩
  have inv5 :=λh' st sm=>
   I1.call' (s':={ s' with heap:=h' }) (ch:=[]) os ⟨λb o e n hb _=>st b o (kB b o e n hb),λb o e n hb _=>sl h' sm b o e n hb,un.free,λb o e _=>th' h' st sm b o e,un.tups,un.frzs,un.tbls⟩ (hok.kept st) bare (λ_ z=>nomatch z)
  refine Oa hfr rfl hf fl1 λh4 held4 sm4=>?_
  refine QE held4 λh5 fl5 sm5=>?_
  have sm45:=sm4.trans sm5;have I5:=inv5 h5 fl5.1 sm45;obtain⟨oe,he5,hc5⟩:=fl5.there
  have hand:∀(x n:Str) (np hpos:Pos) (i:Nat) (b₀:Stmt) (suite:kD) (th:TS) (rest:List ExceptHandler) (T:ECls X.K X.mg x),X.N[i]?=some n->X.env.scope.names.lookup n=some .local->(∀a,BB (Ec X a) (b₀::suite) th)->Gl X x->(x == ("__debug__":Str))=false ->
    W.subIn X.K (.ref C) (.ref T.C)=some true->(∀a o,H' a=none->FK (upd H' a o) a C dx->th (Jz i D) (σ1.set i (some (.ref a))) (upd H' a o))->wpAny (model X.prog X.w) X.A (handleBy (.ref a) X.env (.ExceptHandler (some (.Name x np)) (some n) (b₀::suite) hpos::rest)) (SP X pq D) X.xe { s' with heap:=h5 }:=by
   intro x n np hpos i b₀ suite th rest T hi hloc hh hg hdb hsub kk;obtain⟨bm,N,nm,qn,bs,hd,sn,sub,ab,col,dd,k0,k1,k2,k3,k5,mN,hC,hNs,hni,TL⟩:=Qq I5.kIn T.k.q;refine wpAny_handleBy_cons (codeAny_handlers_test (IJ (X:=Ec X a) (QP I5) hg T.m ?_ hdb)) (by intro q;cases q)
   refine Zu hC he5 hc5 (TL.hasType Ĺ.hasBase) (W.looks_subIn I5.kIn hsub) ?_;refine codeAny_handlers_suite_as (zph fl5 λh6 fl6 sm6=>?_)
   have sm456:=sm45.trans sm6;obtain⟨oe6,ws6,he6,hc6,hd6,hz6⟩:=fl6.first
   have nea:∀b o,s1.heap.get? b=some o->H1 b=none->b≠a:=λb o e n z=>by
    by_cases hb:b∈BS X.stack
    .obtain⟨_,o2,ho2,hd⟩:=I1.stack.mem hb;rw[e]at ho2;cases ho2;obtain⟨y,e2⟩:=sl h6 sm456 b o e n hb;rw[z,he6]at e2;cases e2;exact hd _ hd6
    .have e2:=kB b o e n hb;rw[z,fl6.2.1]at e2;cases e2
   have I6:Inv X pq σ1 (upd H' a (.frz oe6 (.own 0))) { s' with heap:=h6 }:=by
    refine I1.call' (s':={ s' with heap:=h6 }) (ch:=[]) os ⟨λb o e n hb _=>fl6.1 b o (kB b o e n hb),λb o e n hb _=>sl h6 sm456 b o e n hb,λb o e n hx=>(Ah (nea b o e n)).trans (un.free b o e n hx),λb o e _=>th' h6 fl6.1 sm456 b o e,λb xs e=>?_,λb o u e=>?_,λb ps e=>?_⟩
     (zpi (hok.kept fl6.1) ha ⟨he6,oe6,he6⟩) bare (λ_ z=>nomatch z)
    .have q:=un.tups b xs e;exact(Ah (Bs q ha)).trans q
    .have q:=un.frzs b o u e;exact(Ah (Bs q ha)).trans q
    .obtain⟨more,q⟩:=un.tbls b ps e;exact⟨more,(Ah (Bs q ha)).trans q⟩
   refine Nn (X:=Ec X a) (v:=.ref a) (QP I6) hN hi (.inl hloc) rfl (λs7 I7=>?_) (.inr hloc)
   refine è (hh a pq s7 (σ1.set i (some (.ref a))) _ (Jz i D) I7 (kk a _ ha ⟨oe6,Be,hc6,ws6,hd6,hz6⟩)) (λf s8 q8=>?_) (λ_ _ z=>False.elim z)
   have Aq:∀σ8 H8,Inv (Ec X a) pq σ8 H8 s8->∀(G:Unit->Shared->Prop),(∀s9,Inv X pq (σ8.set i none) H8 s9->G () s9)->wpAny (model X.prog X.w) X.A (do bindName X.env n .none;unbindBehindTheSuite X.env n hpos) G X.xe s8:=λσ8 H8 I8 G hG=>by
    have J:=zhe I.ok I8;obtain⟨m,hm,_⟩:=id J.loc;exact wpAny_nameGoes_keeps hloc hm hkind λh' v hn hs=>hG _ (gone J hN hi hm hn hs)
   cases f with
   |next=>obtain⟨σ8,H8,I8,d8⟩:=q8;exact Aq σ8 H8 I8 _ λs9 I9=>⟨_,H8,I9,d8⟩
   |brk=>obtain⟨σ8,H8,I8,d8⟩:=q8;exact Aq σ8 H8 I8 _ λs9 I9=>⟨_,H8,I9,d8⟩
   |cont=>obtain⟨σ8,H8,I8,d8⟩:=q8;exact Aq σ8 H8 I8 _ λs9 I9=>⟨_,H8,I9,d8⟩
   |ret u=>obtain⟨v,σ8,H8,I8,r8,d8⟩:=q8;exact Aq σ8 H8 I8 _ λs9 I9=>⟨v,_,H8,I9,r8,d8⟩
  have skip:∀(x n:Str) (np hpos:Pos) (b₀:Stmt) (suite:kD) (rest:List ExceptHandler) (T:ECls X.K X.mg x),Gl X x->(x == ("__debug__":Str))=false->W.subIn X.K (.ref C) (.ref T.C)=some false ->
    wpAny (model X.prog X.w) X.A (handleBy (.ref a) X.env rest) (SP X pq D) X.xe { s' with heap:=h5 }->wpAny (model X.prog X.w) X.A (handleBy (.ref a) X.env (.ExceptHandler (some (.Name x np)) (some n) (b₀::suite) hpos::rest)) (SP X pq D) X.xe { s' with heap:=h5 }:=by
   intro x n np hpos b₀ suite rest T hg hdb hsub hrest;obtain⟨bm,N,nm,qn,bs,hd,sn,sub,ab,col,dd,k0,k1,k2,k3,k5,mN,hC,hNs,hni,TL⟩:=Qq I5.kIn T.k.q;refine wpAny_handleBy_cons (codeAny_handlers_test (IJ (X:=Ec X a) (QP I5) hg T.m ?_ hdb)) (by intro q;cases q)
   exact Zu hC he5 hc5 (TL.hasType Ĺ.hasBase) (W.looks_subIn I5.kIn hsub) hrest
  rcases hcase with ⟨hsub,kk⟩|⟨hno,hsub,kk⟩
  .exact hand _ _ _ _ _ _ _ _ _ T1 hi1 hloc1 hh1 hg1 hdb1 hsub kk
  .exact skip _ _ _ _ _ _ _ T1 hg1 hdb1 hno (hand _ _ _ _ _ _ _ _ _ T2 hi2 hloc2 hh2 hg2 hdb2 hsub kk)
 have back:∀{xe0:Value->Shared->Prop} {σ':L2.St} {H':Hp},Inv (Eb X pq xe0) [] σ' H' s1->Inv X pq σ' H' s1:=λJ=>WN (ok:=I.ok) J
 cases f with
 |next=>obtain⟨σ',H',J,d⟩:=q;exact Ĳ ⟨σ',H',back J,d⟩
 |brk=>obtain⟨σ',H',J,d⟩:=q;exact⟨σ',H',back J,d⟩
 |cont=>obtain⟨σ',H',J,d⟩:=q;exact⟨σ',H',back J,d⟩
 |ret u=>obtain⟨v,σ',H',J,r,d⟩:=q;exact⟨v,σ',H',back J,r,d⟩
end
end Zx
namespace Pu
open PySem PySem.Spec PyProof.Rows L2 Zw Zx
def Ib(i:Nat)(C:Addr)(c:Str)(h:AG)(τ':AK):Option Out:=if i<τ'.length then (match h (τ'.set i (some (.obj (.exn C) (HA c)))) with
 |some (.nx τ2)=>some (.nx (τ2.set i none))|some (.rt t)=>some (.rt t)|_=>none) else none
def GV(i1 i2:Nat)(cs1 cs2:List (Str×Addr))(u h1 h2:AG):AG:=λτ=>match u τ with
 |some (.xc c τ')=>(match cs1.lookup (Fp c) with
  |some C=>Ib i1 C c h1 τ'|none=>(match cs2.lookup (Fp c) with
   |some C=>Ib i2 C c h2 τ'|none=>none))
 |r=>r
section
variable {X:Cx}{E:L2.St->XK}{ca:Str->Value}{mu:Bool}{i1 i2:Nat}{x1 x2 n1 n2:Str}{np1 np2 pos hpos1 hpos2:Pos}{body suite1 suite2:kD}{b1 b2:Stmt}{u h1 h2:AG}{cs1 cs2:List (Str×Addr)}
theorem aU{c}{dx}{h}{F H F' H1}{R R'}{σ1}{τ'}{D}(st:Stp F H (tot R) F' H1 (tot R'))(S':StR X.K F' H1 σ1 τ' R')(hp:Iy F' c dx)
  (q : match Ib i C c h τ' with
   |some (.nx τ')=>∀F' H' σ' R',Stp F H (tot R) F' H' (tot R')->StR X.K F' H' σ' τ' R'->D.nx σ' H'|some (.bk τ')=>∀F' H' σ' R',Stp F H (tot R) F' H' (tot R')->StR X.K F' H' σ' τ' R'->D.bk σ' H'|some (.ct τ')=>∀F' H' σ' R',Stp F H (tot R) F' H' (tot R')->StR X.K F' H' σ' τ' R'->D.ct σ' H'|some (.rt t)=>∀F' H' x B,Stp F H (tot R) F' H' B->Wr X.K mu F' H' t x B->D.rt x H'|some (.xc c τ')=>∀F' H' σ' R',Stp F H (tot R) F' H' (tot R')->StR X.K F' H' σ' τ' R'->XE (E σ') ca c F' H'|none=>False):∀a o,H1 a=none->FK (upd H1 a o) a C dx->tS X.K Rz ca mu h (Jz i D) (σ1.set i (some (.ref a))) (upd H1 a o):=by
 intro a o ha hX;unfold Ib at q
 by_cases hlen:i<τ'.length
 case neg=>
  rw[if_neg hlen]at q;exact q.elim
 rw[if_pos hlen]at q;have fa :=FV S'.fh ha;have e1:Ext F' H1 (upd F' a o) (upd H1 a o) R0:=Ext.new S'.fh ha;have S2:=S'.ext e1;have rx:=zg3 (K:=X.K) fa hX hp;have S3:=S2.put hlen rx;have st2:Stp F H (tot R) (upd F' a o) (upd H1 a o) (tot λj=>if j=i then R0 else R' j):=(st.trans e1.stp0).mono λb z=>Sn z
 refine⟨_,_,_,S3,?_⟩;cases hh:h (τ'.set i (some (.obj (.exn C) (HA c)))) with
 |none=>erw[hh]at q<;>exact q.elim|some o=>
  erw[hh]at q;cases o with
  |nx τ2=>intro F4 H4 σ4 R4 st4 S4;exact q F4 H4 (σ4.set i none) _ ((st2.trans st4).mono λb z=>Sn z) S4.gone|rt t=>exact λF4 H4 x B st4 r4=>q F4 H4 x B (st2.trans st4) r4|bk _=>exact q.elim|ct _=>exact q.elim|xc _ _=>exact q.elim
theorem zma(T1:ECls X.K X.mg x1)(T2:ECls X.K X.mg x2)(hcs1:∀c C,cs1.lookup c=some C->ca c=.ref C/\W.subIn X.K (.ref C) (.ref T1.C)=some true)(hcs2:∀c C,cs2.lookup c=some C->ca c=.ref C/\W.subIn X.K (.ref C) (.ref T1.C)=some false/\W.subIn X.K (.ref C) (.ref T2.C)=some true)(hst:X.stack=X.env::X.outer)(hf:X.env.frame=some X.env.locals)(hN:X.N.Nodup)(hi1:X.N[i1]?=some n1)(hloc1:X.env.scope.names.lookup n1=some .local)(hi2:X.N[i2]?=some n2)(hloc2:X.env.scope.names.lookup n2=some .local)
  (hb:∀(E' ) pq xe,BI (Eb X pq xe) E'->BB (Eb X pq xe) body (tS X.K E' ca mu u)) (hh1:∀a,BB (Ec X a) (b1::suite1) (tS X.K Rz ca mu h1)) (hh2:∀a,BB (Ec X a) (b2::suite2) (tS X.K Rz ca mu h2)) (hg1:Gl X x1) (hdb1:(x1 == "__debug__")=false) (hg2:Gl X x2) (hdb2:(x2 == "__debug__")=false) :
  PS X (.Try body [.ExceptHandler (some (.Name x1 np1)) (some n1) (b1::suite1) hpos1,.ExceptHandler (some (.Name x2 np2)) (some n2) (b2::suite2) hpos2] [] [] pos) (tS X.K E ca mu (GV i1 i2 cs1 cs2 u h1 h2)):=by
 intro pq s σ H D I hq;obtain⟨F,τ,R,S,q⟩:=hq;let E' :=λσ1 cls dx H1=>∃c τ' F' R',u τ=some (.xc c τ')/\cls=ca (Fp c)/\Iy F' c dx/\Stp F H (tot R) F' H1 (tot R')/\StR X.K F' H1 σ1 τ' R'
 refine zju T1 T2 hst hf hN hi1 hloc1 hi2 hloc2 (λpq xe hp=>hb E' pq xe hp) hh1 hh2 hg1 hdb1 hg2 hdb2 pq s σ H D I ⟨⟨F,τ,R,S,?_⟩,?_⟩
 .unfold GV at q;cases hu:u τ with
  |none=>rw[hu]at q;exact q|some o=>
   cases o with
   |nx τ'=>rw[hu]at q;exact q|rt t=>rw[hu]at q;exact q|bk τ'=>rw[hu]at q;exact q|ct τ'=>rw[hu]at q;exact q|xc c τ'=>exact λF' H' σ' R' st S' dx hp=>⟨c,τ',F',R',hu,rfl,hp,st,S'⟩
 .intro σ1 cls dx H1 ⟨c,τ',F',R',hu,hcl,hp,st,S'⟩;unfold GV at q;erw[hu]at q;cases hl:cs1.lookup (Fp c) with
  |some C=>erw[hl]at q;obtain⟨k1,k2⟩:=hcs1 _ C hl;exact⟨C,hcl.trans k1,.inl ⟨k2,aU st S' hp q⟩⟩
  |none=>
   erw[hl]at q;cases hl2:cs2.lookup (Fp c) with
   |some C=>erw[hl2]at q;obtain⟨k1,k2,k3⟩:=hcs2 _ C hl2;exact⟨C,hcl.trans k1,.inr ⟨k2,k3,aU st S' hp q⟩⟩
   |none=>erw[hl2]at q<;>exact q.elim
end
def HL(t1 t2:List (Addr×Bool)):T->kH
 |.obj (.exn C) _=>(match t1.lookup C,t2.lookup C with
  |some b1,some b2=>some (.bl (b1 || b2))|_,_=>none)
 |_=>none
section
variable {X:Cx}{E:L2.St->XK}{ca:Str->Value}{m:AH}{e:Expr}{pos p p2 p3 p4:Pos}{c1 c2:Str}{t1 t2:List (Addr×Bool)}{kt:Nat}
theorem zg7:Bj X (.builtin "isinstance") (λxs H Q=>∃a C tp D1 D2 b1 b2,xs=[.ref a,.ref tp]/\Hf H a C/\ExcK X.K C/\H tp=some (.tup [.ref D1,.ref D2])/\W.kitOne X.K (.ref C) (.ref D1)=some b1/\W.kitOne X.K (.ref C) (.ref D2)=some b2/\Q (.bl (b1 || b2)) H):=by
 intro pq s σ H xs us Q I r h;obtain⟨a,C,tp,D1,D2,b1,b2,rfl,ho,k,ht,e1,e2,q⟩:=h;obtain⟨u,w',rfl,rx,ry⟩:=FO r;cases rx;cases ry
 have p0:∃o,s.heap.get? a=some o/\o.cls=.ref C:=by
  obtain⟨ob,y,r,_⟩:=ho;exact⟨ob,(I.hok a _ y).1,r⟩
 obtain⟨_,its,rv,o,h1,h2,n,h4⟩:=(I.hok tp _ ht);obtain⟨u1,u2,rfl,r1,r2⟩:=FO rv;cases r1;cases r2
 have ek:W.kitAny X.K (.ref C) [.ref D1,.ref D2]=some (b1 || b2):=by
  unfold W.kitAny;erw[e1];cases b1 with
  |true=>rfl|false=>unfold W.kitAny;erw[e2];cases b2<;>rfl
 obtain⟨ocls,od,odata,osl⟩:=o;simp only at h2 h4;subst h2;subst h4;exact W.kia_tup (Y5 k) I.kIn p0 h1 ek (λz=>nomatch z) λtk=>⟨.bl _,H,I.tok _,rfl,q⟩
theorem zmx(hg:Gl X "isinstance")(hm:X.mg "isinstance"=none)(hv1:PE X (.Name c1 p2) (tC (.ref D1)))(hv2:PE X (.Name c2 p3) (tC (.ref D2)))(h1:∀C b,t1.lookup C=some b->ExcK X.K C/\W.kitOne X.K (.ref C) (.ref D1)=some b)(h2:∀C b,t2.lookup C=some b->ExcK X.K C/\W.kitOne X.K (.ref C) (.ref D2)=some b)(ha:PE X e (tM X.K E ca m))(he:starEach [e,.Tuple [.Name c1 p2,.Name c2 p3] kt p4] X.env=(false,eval e X.env)::starEach [.Tuple [.Name c1 p2,.Name c2 p3] kt p4] X.env) :
  PE X (.Call (.Name "isinstance" p) [e,.Tuple [.Name c1 p2,.Name c2 p3] kt p4] [] pos) (tM X.K E ca (BM (g1 (HL t1 t2)) (AB m AD))):=by
 refine PE.weak (Hu (zg7) hg hm ķ (CY ha (CY (WA (CY hv1 (CY hv2 DW))) DW) he) (by decide) (by decide) he rfl) λσ H Q h=>?_
 refine(Fg (Fh h)).mono λx H1 h1'=>?_
 obtain⟨F,ts,w,fh,rs,e,q⟩:=Ff h1';refine⟨by show 2<=sizeLine;decide,λtp htp=>?_⟩
 unfold g1 at e;split at e
 .obtain⟨x1,xs1,e1,r1,rs1⟩:=rs.inv;cases e1;unfold HL at e;split at e
  .rename_i C l;split at e
   .rename_i b1 b2 hb1 hb2;cases e;obtain⟨k1,k2⟩:=h1 C b1 hb1;obtain⟨k3,k4⟩:=h2 C b2 hb2;obtain⟨a,xs,rfl,_,hF,_,_⟩:=r1.obj_inv;have hF' :=hF.choose_spec.1.x;have hH :=hF'.of (fh a);have hne:a≠tp:=λz=>by obtain⟨_,y,_⟩:=hH;rw[z,htp]at y;cases y
    exact⟨a,C,tp,D1,D2,b1,b2,rfl,hH.of λu y=>(Ah hne).trans y,k1,Be,k2,k4,q _ _ _ R0 ((Ext.new fh htp).mono λ_ z=>z.elim) (.bl _)⟩
   .cases e
  .cases e
 .cases e
end
section
variable {X:Cx}{E:L2.St->XK}{ca:Str->Value}{m mk ma:AH}{o k e a:Expr}{pos apos cpos p p2:Pos}
end
section
variable {X:Cx}{E:L2.St->XK}{ca:Str->Value}{m mk:AH}{o k e:Expr}{pos pos' apos cpos:Pos}
end
abbrev Yn(ms:Av):Av:=ED ms
theorem r_enX{elts:kC}(hg:Gl X "enumerate")(hm:X.mg "enumerate"=none)(ha:PA X [a] (Bv X.K E ca ms))(hs:starEach [a] X.env=[(false,eval a X.env)]):PI X (.Tuple elts kk tpos) (.Call (.Name "enumerate" p) [a] [] pos) (tI X.K E ca (Yn ms)):=Vk hg hm ha hs
def clsO(C N:Addr)(o:Obj):Prop:=∃nm q bs hdct sn sub ab col dd k0 k1 k2 k3 k5 newId,o=excClassObj nm q C N bs [.type "object"] hdct sn sub ab col dd k0 k1 k2 k3 k5 newId
noncomputable def keyO(e:DictEntry):Bool:=match e.key with
 |.str n _=>!(n == ("__eq__":Str)) && !(n == ("__ne__":Str))|_=>false
def nsO(o:Obj):Bool:=match o.data with
 |.dict es _=>es.toList.all keyO|_=>false
structure TiOk(K:k6)(C:Addr):Prop where
 i:ICls K C
 k:(Hk.all λc=>W.kitOne K (.ref C) (.type c) == some false)=true
 o:∃(oC oN:Obj) (N:Addr),K.lookup C=some oC/\clsO C N oC/\K.lookup N=some oN/\nsO oN=true
mutual
def T.lend:T->T
 |.nd o k l=>match o,k with
  |true,.lst=>.nd false .rl (Fu l)|true,.tup=>.nd false .tup (Fu l)|_,_=>.nd o k l
 |.dic ks l=>.dic ks l|.pdc ks l=>.pdc ks l|.odc ks l=>.odc ks l|.obj k l=>.obj k l|.oob p C fs l=>.oob p C fs l|.osd ks l=>.osd ks l|.non=>.non|.bl b=>.bl b|.int i=>.int i|.str x=>.str x
def Fu:List T->List T
 |[]=>[]|t::r=>t.lend::Fu r
end
def QN:T->Bool
 |.nd o k _=>match o,k with
  |true,.lst=>true|_,_=>false
 |_=>false
theorem zl3(h:QN t=true):∃l,t=.nd true .lst l:=by
 cases t with
 |nd o k l=>
  cases o with
  |false=>cases h|true=>cases k<;>first|exact⟨l,rfl⟩|cases h
 |_=>cases h
mutual
def T.lnd:T->Bool
 |.nd o k l=>match o,k with
  |true,.lst=>Ey l|true,.tup=>l.any QN && Ey l|true,_=>false|false,_=>Ad l
 |.dic _ l=>Ad l|.pdc _ l=>Ad l|.odc _ _=>false|.obj _ l=>Ad l|.oob _ _ _ _=>false|.osd _ _=>false|.non=>true|.bl _=>true|.int _=>true|.str _=>true
def Ey:List T->Bool
 |[]=>true|t::r=>t.lnd && Ey r
end
theorem MA:∀l,Fu l=l.map T.lend
 |[]=>rfl|t::r=>by rw[Fu,MA r];rfl
theorem Px:∀{l},Ey l=true->∀{i:Nat} {t},l[i]?=some t->t.lnd=true
 |[],_,i,t,e=>by simp at e|a::r,h,i,t,e=>by
  rw[Ey,Æ]at h;cases i with
  |zero=>cases e;exact h.1|succ j=>exact Px h.2 (by simpa using e)
theorem YW(n:T.lnd (.nd true .tup l)=true):l.any QN=true/\Ey l=true:=by
 rw[T.lnd,Æ]at n;exact n
theorem Rp.lend{K}(r:Rp K F H t x A)(n:t.lnd=true)(s:A4 F F')(k:∀a xs,A a->H a=some (.lst xs)->∃o,F' a=some (.frz o (.lst xs)))(k2:∀a xs,A a->H a=some (.tup xs)->F' a=some (.tup xs)):Rp K F' H' t.lend x R0:=by
 induction r with
 |non=>exact .non|bl b=>exact .bl b|int i=>exact .int i|str y=>exact .str y|@shr k0 p xs l h e c ih=>
  have hs:T.sh (.nd false k0 l)=true:=by rw[T.sh];rw[T.lnd]at n;exact n
  have hl:(T.nd false k0 l).lend=.nd false k0 l:=by cases k0<;>rfl
  rw[hl];exact(Rp.shr h e c).move hs s
 |dic h e ek c ih=>exact(Rp.dic h e ek c).move (by rw[T.sh];exact n) s|pdc h e ek c ih=>exact(Rp.pdc h e ek c).move (by rw[T.sh];exact n) s|odc f h e ek c ih=>cases n|obj h e c ih=>exact(Rp.obj h e c).move (by rw[T.sh];exact n) s|oob R f h e c d dp o ih=>cases n|osd R f h e ek c d dp o ih=>cases n|@own k0 p xs l hk R f h e c d dp o ih=>
  have kids:Ey l=true->∀i t x,(Fu l)[i]?=some t->xs[i]?=some x->Rp K F' H' t x R0:=λnl i t x h1 h2=>by
   rw[MA,Ê]at h1;obtain⟨t0,e0,rfl⟩:=Õ.mp h1;exact ih i t0 x e0 h2 (Px nl e0) (λa xs z=>k a xs (.inr ⟨i,z⟩)) λa xs z=>k2 a xs (.inr ⟨i,z⟩)
  cases k0 with
  |lst=>rw[T.lend];exact .shr (.inl (k p xs (.inl rfl) h)) (by rw[MA,Á];exact e) (kids n)|tup=>rw[T.lend];exact .shr (k2 p xs (.inl rfl) h) (by rw[MA,Á];exact e) (kids (YW n).2)|_=>cases n
theorem Rp.lnd{K}(r:Rp K F H t x A)(n:t.lnd=true):∀a,A a->(∃xs,H a=some (.lst xs))\/∃xs,H a=some (.tup xs)/\∃(j:Nat) (c:Addr) (ys:kK),xs[j]?=some (.ref c)/\A c/\H c=some (.lst ys):=by
 induction r with
 |@own k0 p xs l hk R f h e c d dp o ih=>
  have kids:Ey l=true->∀a i,R i a->(∃xs,H a=some (.lst xs))\/∃xs,H a=some (.tup xs)/\∃(j:Nat) (c:Addr) (ys:kK),xs[j]?=some (.ref c)/\(c=p\/∃i,R i c)/\H c=some (.lst ys):=λnl a i z=>by
   have hi:=o i a z;have hx:i<xs.length:=by omega
   rcases ih i _ _ (Â hi) (Â hx) (Px nl (Â hi)) a z with w|⟨zs,h1,j,c,ys,h2,h3,h4⟩
   .exact .inl w
   .exact .inr ⟨zs,h1,j,c,ys,h2,.inr ⟨i,h3⟩,h4⟩
  cases k0 with
  |lst=>
   rintro a (rfl|⟨i,z⟩)
   .exact .inl ⟨xs,h⟩
   .exact kids n a i z
  |tup=>
   obtain⟨n1,n2⟩:=YW n;rintro a (rfl|⟨i,z⟩)
   .obtain⟨t,ht,hl⟩:=ų.mp n1;obtain⟨m,rfl⟩:=zl3 hl;obtain⟨j,hj,ej⟩:=ť.mp ht;have hx:j<xs.length:=by omega
    have rj:=c j _ _ (Â hj) (Â hx);rw[ej]at rj;generalize hB:R j=B at rj;generalize hy:xs[j]=y at rj;cases rj with
    |@own k1 q ys m' hk1 Rq fq hq eq cq dq dpq oq=>exact .inr ⟨xs,h,j,q,ys,by rw[Â hx,hy],.inr ⟨j,by rw[hB];exact .inl rfl⟩,hq⟩
   .exact kids n2 a i z
  |_=>cases n
 |odc f h e ek c ih=>cases n|oob R f h e c d dp o ih=>cases n|osd R f h e ek c d dp o ih=>cases n|_=>exact λa z=>z.elim
open Classical in
def fz(A:Rg)(h:Heap)(H:Hp):Hp:=λb=>if A b then (match H b,h.get? b with
 |some (.lst xs),some o=>some (.frz o (.lst xs))|u,_=>u) else H b
open Classical in
def th(A:Rg)(H H':Hp):Hp:=λb=>if A b then H b else H' b
theorem fz_in(z:A b)(e:H b=some (.lst xs))(q:h.get? b=some o):fz A h H b=some (.frz o (.lst xs)):=by unfold fz;rw[if_pos z,e,q]
theorem Yu{A:Rg}{h:Heap}{H:Hp}(z:¬ A b):fz A h H b=H b:=by unfold fz;rw[if_neg z]
theorem KD(e:∀xs,H b≠some (.lst xs)):fz A h H b=H b:=by
 unfold fz;split
 .split
  .rename_i xs _ q _;exact absurd q (e xs)
  .rfl
 .rfl
theorem Hl{A:Rg}{H H':Hp}(z:A b):th A H H' b=H b:=by unfold th;rw[if_pos z]
theorem FP{A:Rg}{H H':Hp}(z:¬ A b):th A H H' b=H' b:=by unfold th;rw[if_neg z]
section
variable {X:Cx}{pq:List (Addr×Obj)}{σ σ':L2.St}{H H':Hp}{s s':Shared}{A:Rg}
theorem HN(I:Inv X pq σ H s)(z:A b)(e:H b=some (.lst xs)):∃o,s.heap.get? b=some o/\fz A s.heap H b=some (.frz o (.lst xs)):=by
 obtain⟨_,its,n,_,q⟩:=I.hok b _ e;exact⟨_,q,fz_in z e q⟩
theorem zhq(I:Inv X pq σ H s):Inv X pq σ (fz A s.heap H) s:=by
 have nf:∀{b},H b=none->fz A s.heap H b=none:=λ e=>by
  rw[KD (λxs q=>by rw[e]at q;cases q)];exact e
 have nl:∀{b} {u},H b=some u->(∀xs,u≠.lst xs)->fz A s.heap H b=some u:=λ e n=>by
  rw[KD (λxs q=>by rw[e]at q;exact n xs (Ý q))];exact e
 refine { I with base:=⟨I.base.keep,I.base.slot,λb o e n hx=>nf (I.base.free b o e n hx),I.base.there,λb xs e=>nl (I.base.tups b xs e) (λ_ z=>by cases z),λb o u e=>nl (I.base.frzs b o u e) (λ_ z=>by cases z),λb ps e=>?_⟩,free:=nf I.free,freeC:=λx c e=>nf (I.freeC x c e),pin:=λp hp=>?_,hok:=λa o e=>?_}
 .obtain⟨more,q⟩:=I.base.tbls b ps e;exact⟨more,nl q (λ_ z=>by cases z)⟩
 .obtain⟨h1,h2,h3⟩:=I.pin p hp;exact⟨h1,nf h2,h3⟩
 .have st:=λ{u} q=>(I.hok a u q).stay (λ_ _ _ e=>e) (λb e=>nl e (λ_ z=>by cases z)) λb xs e=>nl e (λ_ z=>by cases z)
  by_cases z:A a/\∃xs,H a=some (.lst xs)
  .obtain⟨z,xs,q⟩:=z;obtain⟨ob,ho,w⟩:=HN I z q;rw[w]at e;cases e;exact⟨ho,st q⟩
  .by_cases zA:A a
   .rw[KD (λxs q=>z ⟨zA,xs,q⟩)]at e
    exact st e
   .rw[Yu zA]at e;exact st e
theorem zhp(I:Inv X pq σ H s)(hA:∀a,A a->(∃xs,H a=some (.lst xs))\/∃xs,H a=some (.tup xs))(J:Inv X pq σ' H' s')(hk:∀b,A b->H' b=fz A s.heap H b):Inv X pq σ' (th A H H') s':=by
 have nf:∀{b},(A b->H b=none)->H' b=none->th A H H' b=none:=λ{b} e1 e2=>by
  by_cases z:A b
  .rw[Hl z];exact e1 z
  .rw[FP z];exact e2
 have tp:∀{b xs},A b->H b=some (.tup xs)->H' b=some (.tup xs):=λ{b xs} z e=>by
  rw[hk b z,KD (λys q=>by rw[e]at q;cases q)];exact e
 have nl:∀{b} {u},H' b=some u->(∀o xs,u≠.frz o (.lst xs))->th A H H' b=some u:=λ{b u} e n=>by
  by_cases z:A b
  .rcases hA b z with ⟨xs,q⟩|⟨xs,q⟩
   .obtain⟨o,_,w⟩:=HN I z q;rw[hk b z,w]at e;exact absurd (Ý e).symm (n o xs)
   .rw[Hl z,q,<- tp z q];exact e
  .rw[FP z];exact e
 refine { J with base:=⟨J.base.keep,J.base.slot,λb o e n hx=>nf (λ_=>I.base.free b o e n hx) (J.base.free b o e n hx),J.base.there,λb xs e=>nl (J.base.tups b xs e) (λ_ _ z=>by cases z),λb o u e=>?_,λb ps e=>?_⟩,free:=nf (λ_=>I.free) J.free,freeC:=λx c e=>nf (λ_=>I.freeC x c e) (J.freeC x c e),pin:=λp hp=>?_,hok:=λa o e=>?_}
 .by_cases z:A b
  .rw[Hl z];exact I.base.frzs b o u e
  .rw[FP z];exact J.base.frzs b o u e
 .obtain⟨more,q⟩:=J.base.tbls b ps e;exact⟨more,nl q (λ_ _ z=>by cases z)⟩
 .obtain⟨h1,h2,h3⟩:=J.pin p hp;exact⟨h1,nf (λ_=>(I.pin p hp).2.1) h2,h3⟩
 .have st:=λ{u} (q:CP X.prog X.w H' s'.heap a u)=>q.stay (λ_ _ _ e=>e) (λb e=>nl e (λ_ _ z=>by cases z)) λb xs e=>nl e (λ_ _ z=>by cases z)
  by_cases z:A a
  .rcases hA a z with ⟨xs,q⟩|⟨xs,q⟩
   .obtain⟨ob,ho,w⟩:=HN I z q;rw[Hl z,q]at e;cases e;have:=J.hok a _ ((hk a z).trans w);exact st this.2
   .rw[Hl z,q]at e;cases e;exact st (J.hok a _ (tp z q))
  .rw[FP z]at e;exact st (J.hok a o e)
end
def MJ:Kd->Bool
 |.rl=>false|.rt=>false|_=>true
def oYng:Ob->Bool
 |.lab _=>false|_=>true
mutual
def T.noR:T->Bool
 |.nd _ k l=>MJ k && E3 l|.dic _ l=>E3 l|.pdc _ l=>E3 l|.odc _ l=>E3 l|.obj k l=>oYng k && E3 l|.oob _ _ _ l=>E3 l|.osd _ l=>E3 l|.non=>true|.bl _=>true|.int _=>true|.str _=>true
def E3:List T->Bool
 |[]=>true|t::r=>t.noR && E3 r
end
theorem FW:∀{l},E3 l=true->∀{i:Nat} {t},l[i]?=some t->t.noR=true
 |[],_,i,t,e=>by simp at e|a::r,h,i,t,e=>by
  rw[E3,Æ]at h;cases i with
  |zero=>cases e;exact h.1|succ j=>exact FW h.2 (by simpa using e)
theorem znz{K}(r:Rp K F H t (.ref c) A)(n:t.noR=true)(hf:F c=some (.frz o (.lst ys))):False:=by
 cases r with
 |@shr k0 p xs l hn e kk=>
  rw[T.noR,Æ]at n;cases k0 with
  |lst=>have h:F c=some (.lst xs):=hn;rw[hf]at h;cases h|pin q=>have h:F c=some (.lst xs):=hn;rw[hf]at h;cases h|tup=>have h:F c=some (.tup xs):=hn;rw[hf]at h;cases h|rl=>cases n.1|rt=>cases n.1
 |dic hn e ek c=>rw[hf]at hn;cases hn|pdc hn e ek c=>rw[hf]at hn;cases hn|odc f hn e ek c=>rw[hf]at f;cases f|@obj k0 p xs l hn e c=>
  rw[T.noR,Æ]at n;cases k0 with
  |ins C fs=>obtain⟨dx,q⟩:=hn;rw[hf]at q;cases q
  |exn C=>obtain⟨dx,⟨ob,q,_⟩,_⟩:=hn;rw[hf]at q;cases q
  |sdc ks=>have q:=hn.2;rw[hf]at q;cases q|lab q=>cases n.1
 |oob R f hn e c d dp o=>rw[hf]at f;cases f|osd R f hn e ek c d dp o=>rw[hf]at f;cases f|own hk R f hn e c d dp o=>rw[hf]at f;cases f
theorem Rp.noR{K}{A:Rg}(r:Rp K F H t x B)(n:t.noR=true)(hf:∀b,A b->(∃o xs,F b=some (.frz o (.lst xs)))\/∃xs,F b=some (.tup xs)/\∃(j:Nat) (c:Addr) (o:Obj) (ys:kK),xs[j]?=some (.ref c)/\F c=some (.frz o (.lst ys)))(hB:∀b,B b->¬ A b):Rp K (Ei A F) (th A H0 H) t x B:=by
 have nl:∀{b} {u},F b=some u->(∀o xs,u≠.frz o (.lst xs))->(∀xs,u≠.tup xs)->Ei A F b=some u:=λ{b u} e m m2=>by
  unfold Ei;rw[if_neg (λz=>?_)]
  .exact e
  .rcases hf b z with ⟨o,xs,q⟩|⟨xs,q,_⟩
   .rw[e]at q;exact m o xs (Ý q)
   .rw[e]at q;exact m2 xs (Ý q)
 have nn:∀{b},F b=none->Ei A F b=none:=λ{b} e=>by unfold Ei;split;rfl;exact e
 induction r with
 |non=>exact .non|bl b=>exact .bl b|int i=>exact .int i|str y=>exact .str y|@shr k0 p xs l hn e c ih=>
  rw[T.noR,Æ]at n;refine .shr ?_ e λi t x h1 h2=>ih i t x h1 h2 (FW n.2 h1) λb z=>z.elim
  cases k0 with
  |lst=>exact nl hn (λ_ _ z=>by cases z) (λ_ z=>by cases z)|pin q=>exact nl hn (λ_ _ z=>by cases z) (λ_ z=>by cases z)|tup=>
   have hF:=hn;show Ei A F p=some (.tup xs);unfold Ei;rw[if_neg (λz=>?_)]
   .exact hF
   .rcases hf p z with ⟨o,ys,q⟩|⟨zs,q,j,c',o,ys,h1,h2⟩
    .rw[hF]at q;cases q
    .rw[hF]at q;cases q;have hj:j<l.length:=by rw[e];exact(Í.mp h1).1
     exact znz (c j _ _ (Â hj) h1) (FW n.2 (Â hj)) h2
  |rl=>cases n.1|rt=>cases n.1
 |dic hn e ek c ih=>exact .dic (nl hn (λ_ _ z=>by cases z) (λ_ z=>by cases z)) e ek λi t x h1 h2=>ih i t x h1 h2 (FW n h1) λb z=>z.elim|pdc hn e ek c ih=>exact .pdc (nl hn (λ_ _ z=>by cases z) (λ_ z=>by cases z)) e ek λi t x h1 h2=>ih i t x h1 h2 (FW n h1) λb z=>z.elim|odc f hn e ek c ih=>exact .odc (nn f) ((FP (hB _ rfl)).trans hn) e ek λi t x h1 h2=>ih i t x h1 h2 (FW n h1) λb z=>z.elim|@obj k0 p xs l hn e c ih=>
  rw[T.noR,Æ]at n;refine .obj ?_ e λi t x h1 h2=>ih i t x h1 h2 (FW n.2 h1) λb z=>z.elim
  cases k0 with
  |ins C fs=>exact hn.elim λdx q=>⟨dx,nl q (λ_ _ z=>by cases z) (λ_ z=>by cases z)⟩|exn C=>obtain⟨dx,⟨ob,q,r⟩,s⟩:=hn;exact⟨dx,⟨ob,nl q (λ_ _ z=>by cases z) (λ_ z=>by cases z),r⟩,λv hv=>let ⟨d,od,u,e,h1,r⟩:=s v hv;⟨d,od,u,e,nl h1 (λ_ _ z=>by cases z) (λ_ z=>by cases z),r⟩⟩
  |sdc ks=>exact⟨hn.1,nl hn.2 (λ_ _ z=>by cases z) (λ_ z=>by cases z)⟩|lab q=>exact hn
 |oob R f hn e c d dp o ih=>exact .oob R (nn f) ((FP (hB _ (.inl rfl))).trans hn) e (λi t x h1 h2=>ih i t x h1 h2 (FW n h1) λb z=>hB b (.inr ⟨i,z⟩)) d dp o|osd R f hn e ek c d dp o ih=>exact .osd R (nn f) ((FP (hB _ (.inl rfl))).trans hn) e ek (λi t x h1 h2=>ih i t x h1 h2 (FW n h1) λb z=>hB b (.inr ⟨i,z⟩)) d dp o|own hk R f hn e c d dp o ih=>rw[T.noR,Æ]at n;exact .own hk R (nn f) ((FP (hB _ (.inl rfl))).trans hn) e (λi t x h1 h2=>ih i t x h1 h2 (FW n.2 h1) λb z=>hB b (.inr ⟨i,z⟩)) d dp o
def EB(i:Nat)(m:AH):AH:=λτ=>match τ[i]? with
 |some (some t)=>if t.lnd then (match m (τ.set i (some t.lend)) with
  |some (.v v false)=>if v.noR then some (.v v false) else none
  |_=>none) else none
 |_=>none
theorem zfa(h:EB i m τ=some r):∃t v,τ[i]?=some (some t)/\t.lnd=true/\m (τ.set i (some t.lend))=some (.v v false)/\v.noR=true/\r=.v v false:=by
 unfold EB at h
 grind
theorem Y0{X:Cx}{m:AH}{i:Nat}{σ:L2.St}{H:Hp}{Q:VK}(I:Inv X pq σ H s)(h:tM X.K E ca (EB i m) σ H Q) :
  ∃A:Rg,Inv X pq σ (fz A s.heap H) s/\tM X.K E ca m σ (fz A s.heap H) (λv H'=>(∀b,A b->H' b=fz A s.heap H b)/\Q v (th A H H'))/\∀{σ':L2.St} {H':Hp} {s':Shared},Inv X pq σ' H' s'->(∀b,A b->H' b=fz A s.heap H b)->Inv X pq σ' (th A H H') s':=by
 obtain⟨F,τ,R,S,q⟩:=h;cases hm:EB i m τ with
 |none=>rw[hm]at q;exact q.elim|some r=>
  obtain⟨t,v,ht,hl,hv,hn,rfl⟩:=zfa hm;rw[hm]at q;obtain⟨x,ex,r⟩:=S.rep i t ht;have hi:=(Í.mp ht).1;have hA:=r.lnd hl;have hA':∀a,R i a->(∃xs,H a=some (.lst xs))\/∃xs,H a=some (.tup xs):=λa z=>(hA a z).imp_right λ⟨xs,e,_⟩=>⟨xs,e⟩
  have fA:∀a,R i a->F a=none:=λa z=>(r.dom z).1
  have nG:∀{b},¬ R i b->fz (R i) s.heap H b=H b:=λz=>Yu z
  have tG:∀{b xs},H b=some (.tup xs)->fz (R i) s.heap H b=some (.tup xs):=λ{b xs} e=>by rw[KD (λys z=>by rw[e]at z;cases z)];exact e
  have sF:A4 F (frz F (fz (R i) s.heap H) (R i)):=ES fA
  have fh:A4 (frz F (fz (R i) s.heap H) (R i)) (fz (R i) s.heap H):=λb u e=>by
   by_cases z:R i b
   .rw[Dj z]at e;exact e
   .rw[EO z]at e;rw[nG z];exact S.fh b u e
  have S':StR X.K (frz F (fz (R i) s.heap H) (R i)) (fz (R i) s.heap H) σ (τ.set i (some t.lend)) (λj=>if j=i then R0 else R j):=by
   refine⟨fh,by simpa using S.len,λj t' e=>?_,λj a z=>?_,λj k a hjk z1 z2=>?_⟩
   .by_cases hj:j=i
    .subst hj;rw[å hi]at e;cases e;refine⟨x,ex,?_⟩;erw[È];refine r.lend hl sF (λa xs z e1=>?_) λa xs z e1=>?_
     .obtain⟨o,_,w⟩:=HN I z e1;exact⟨o,by rw[Dj z];exact w⟩
     .rw[Dj z];exact tG e1
    .rw[Ú (É hj)]at e;obtain⟨y,e1,r1⟩:=S.rep j t' e;refine⟨y,e1,?_⟩;erw[hj,Ã];exact r1.frame sF λa z=>⟨nG λw=>S.dis j i a hj z w,by rw[EO (λw=>S.dis j i a hj z w)];exact(r1.dom z).1⟩
   .by_cases hj:j=i
    .erw[hj,È]at z;exact z.elim
    .erw[hj,Ã]at z;obtain⟨t',e⟩:=S.out j a z;exact⟨t',by rw[Ú (É hj)];exact e⟩
   .by_cases hj:j=i
    .erw[hj,È]at z1;exact z1.elim
    .by_cases hk:k=i
     .erw[hk,È]at z2;exact z2.elim
     .erw[hj,Ã]at z1;erw[hk,Ã]at z2;exact S.dis j k a hjk z1 z2
  have gin:∀b,R i b->∃u,fz (R i) s.heap H b=some u:=λb z=>by
   rcases hA' b z with ⟨xs,e⟩|⟨xs,e⟩
   .obtain⟨o,_,w⟩:=HN I z e;exact⟨_,w⟩
   .exact⟨_,tG e⟩
  refine⟨R i,zhq I,⟨_,_,_,S',?_⟩,λJ hk=>zhp I hA' J hk⟩
  rw[hv];intro F' H' y B e g;have g':=g
  have nB:∀b,B b->¬ R i b:=λb z w=>by
   obtain⟨u,q1⟩:=gin b w;rw[e.nb b z]at q1;cases q1
  refine⟨λb z=>?_,q (Ei (R i) F') (th (R i) H H') y B ⟨λb u w=>?_,λb u w=>?_,λb u w=>?_,λb z=>?_,λb u w=>?_⟩ ?_⟩
  .obtain⟨u,q1⟩:=gin b z;rw[q1];exact e.hh b _ q1
  .by_cases z:R i b
   .rw[Hl z];exact w
   .rw[FP z];exact e.hh b u (by rw[nG z];exact w)
  .have z:¬ R i b:=λz=>by rw[fA b z]at w;cases w
   unfold Ei;rw[if_neg z];exact e.ff b u (sF b u w)
  .unfold Ei at w
   by_cases z:R i b
   .rw[if_pos z]at w;cases w
   .rw[if_neg z]at w;rw[FP z];exact e.fh b u w
  .rw[<- nG (nB b z)];exact e.nb b z
  .unfold Ei at w
   by_cases z:R i b
   .rw[if_pos z]at w;cases w
   .rw[if_neg z]at w
    rcases e.nf b u w with w|w
    .rw[EO z]at w;exact .inl w
    .rw[nG z]at w;exact .inr w
  .refine g'.noR hn (λb z=>?_) nB
   rcases hA b z with ⟨xs,e1⟩|⟨xs,e1,j,c,ys,h1,h2,h3⟩
   .obtain⟨o,_,w⟩:=HN I z e1;exact .inl ⟨o,xs,e.ff b _ (by rw[Dj z];exact w)⟩
   .obtain⟨o,_,w⟩:=HN I h2 h3;exact .inr ⟨xs,e.ff b _ (by rw[Dj z];exact tG e1),j,c,o,ys,h1,e.ff c _ (by rw[Dj h2];exact w)⟩
theorem zmv(he:PE X e (tM X.K E ca m)):PE X e (tM X.K E ca (EB i m)):=by
 intro pq s σ H Q I h;obtain⟨A,I',h',back⟩:=Y0 I h;refine è (he pq s σ _ _ I' h') (λu s' hx=>?_) λ_ _ z=>z
 obtain⟨v',H',J,rv,hk,hq⟩:=hx;exact⟨v',_,back J hk,rv,hq⟩
theorem zmi{st}(hs:PS X st (GO (tM X.K E ca m) (Fy j))):PS X st (GO (tM X.K E ca (EB i m)) (Fy j)):=by
 intro pq s σ H D I h;obtain⟨A,I',h',back⟩:=Y0 I h;refine è (hs pq s σ _ { nx:=λσ' H'=>(∀b,A b->H' b=fz A s.heap H b)/\D.nx σ' (th A H H'),rt:=λ_ _=>False,bk:=λ_ _=>False,ct:=λ_ _=>False} I' h') (λf s' hx=>?_) λ_ _ z=>z
 cases f with
 |next=>obtain⟨σ',H',J,hk,hq⟩:=hx;exact⟨σ',_,back J hk,hq⟩
 |brk=>obtain⟨_,_,_,z⟩:=hx;exact z.elim
 |cont=>obtain⟨_,_,_,z⟩:=hx;exact z.elim
 |ret u=>obtain⟨_,_,_,_,_,z⟩:=hx;exact z.elim
end Pu
namespace Zx
open PySem PySem.Spec PyProof.Rows L2 Zw
section
variable {M:Model}{prog:Program}{w:World}{A:Around}{E:Value->Shared->Prop}{env:Env}{nm q:Str}{C N:Addr}{bs bm:k9}{hdct:Bool}{sn:kE}{sub:k9}{ab:Bool}{col:Option Bool}{dd:Option Addr}{k0 k1 k2 k3 k5:Option Value}{newId:String}
end
section
variable {K:k6}{prog:Program}{w:World}{A:Around}{E:Value->Shared->Prop}{s:Shared}{e C:Addr}{vs:Array Value}{sl:Array (Option Value)}{name:Str}{v:Value}
end
section
variable {K:k6}{prog:Program}{w:World}{A:Around}{E:Value->Shared->Prop}{s:Shared}{a C:Addr}{name:Str}{u:Value}
end
section
variable {X:Cx}{pq:List (Addr×Obj)}{σ:L2.St}{H:Hp}{s:Shared}{A:Around}{E:Value->Shared->Prop}{a C t:Addr}
end
section
variable {X:Cx}{E:L2.St->XK}{C:Addr}{x:Str}{p pos:Pos}{e:Expr}{t:TA}{k j:Nat}
end
section
variable {X:Cx}{pq:List (Addr×Obj)}{σ:L2.St}{H:Hp}{s:Shared}{a C t:Addr}{dx:Option Addr}
end
section
variable {X:Cx}{E:L2.St->XK}{e:Expr}{pos:Pos}{te:TE}
end
end Zx
namespace Pu
open PySem PySem.Spec PyProof.Rows L2 Zw Zx
def Dl(t u:T):kH:=match t,u with
 |.nd _ .lst (_::_),.nd _ .lst []=>some (.bl false)|_,_=>Ap t u
theorem zke(hu:X.A.units+64<cLine):Ae X (compareOp .Eq) (Bf X.K Dl):=by
 intro pq s σ H x y v u Q I rx ry h;obtain⟨F,t1,t2,r,fh,r1,r2,e,q⟩:=h;unfold Dl at e;split at e
 .cases e;obtain⟨p,xs,rfl,rfl,n1,k1⟩:=DY r1;obtain⟨p',ys,rfl,rfl,n2,k2⟩:=DY r2;cases rx;cases ry;obtain⟨its,rv,pl,_⟩:=I.list (AX.of (fh _ _ n1));obtain⟨its',rv',pl',_⟩:=I.list (AX.of (fh _ _ n2));refine SeqAt.RcAt.lists_lengths pl.isList pl'.isList ?_ (by omega) _ _ _ _ ⟨.bl false,H,I,rfl,q.bl fh⟩
  have l1:=k1.1;have l2:=k2.1;have l3:=rv.length;have l4:=rv'.length
  grind
 .exact WJ hu pq s σ H x y v u Q I rx ry ⟨F,t1,t2,_,fh,r1,r2,e,q⟩
end Pu
noncomputable section
namespace Pu
open PySem PySem.Spec PyProof.Rows L2 Zw Zx
structure Fn where
 lv:Nat
 ps:kE
 g:kL->Option Ru
structure Gx where
 co:List (Str×T)
 cl:List (Str×Addr×kE)
 mt:List (Str×Addr×kE×Fn)
 nw:List (Str×Fn×List (Nat×kL))
 nr:Bool
 tx:Bool
 df:Bool
 sf:Option (Addr×kE)
 xs:List (Str×List (Str×Addr))
 sb:List (Str×List (Addr×Bool))
 sv:List (Str×List (Addr×Bool))
 no:Bool
 fo:kE
 ci:List (Str×List (Addr×Bool))
 x2:List (Str×Str×List (Str×Addr))
 gt:kE
 wd:List (Str×Fn)
 pn:kE
 ti:List Addr
 dn:List (Str×Fn×kL)
 rn:Option (Addr×Nat)
noncomputable abbrev Aa:Gx:=⟨[],[],[],[],false,true,true,none,[],[],[],true,[],[],[],[],[],[],[],[],none⟩
structure Gm where
 N:kE
 nm:List (Str×NameKind)
 ce:kE
 lv:Nat
 fns:List (Str×Fn)
 bl:kE
 ex:kE
 ow:kE
 pk:kE
 mu:Bool
 mus:List (Str×Fn)
 mv:kE
 dc:kE
 ox:Gx
noncomputable def CJ(x:Str):Bool:=!(x == ("__debug__":Str)) && !(x == ("__classdict__":Str)) && !(x == ("__name__":Str))
def N6(nm:List (Str×NameKind))(x:Str):Bool:=nm.lookup x == some .local || nm.lookup x == some .cell || nm.lookup x == some .free
def BX(nm:List (Str×NameKind))(x:Str):Bool:=nm.lookup x == some .globalImplicit
noncomputable def Dg(N:kE)(x:Str):Option Nat:=N.findIdx? (· == x)
def Gm.var(Γ:Gm)(x:Str):Option Nat:=if CJ x && N6 Γ.nm x then Dg Γ.N x else none
def Gm.loc(Γ:Gm)(x:Str):Bool:=CJ x && (Γ.nm.lookup x == some .local || Γ.ce.contains x)
def DK:Expr->Bool
 |.Starred ..=>false|_=>true
def EL:Expr->Bool
 |.IfExp ..=>false|.NamedExpr ..=>false|_=>true
noncomputable def nmOf:Expr->Option (Str×Pos)
 |.Name x p=>some (x,p)|_=>none
def Nf:kC->kE
 |[]=>[]|e::es=>(match nmOf e with
  |some (x,_)=>x::Nf es|none=>Nf es)
def DH:Expr->kE
 |.Name x _=>[x]|.Tuple es _ _=>Nf es|_=>[]
def zot:Expr->Bool
 |.Tuple ..=>true|_=>false
def HM:Expr->Bool
 |.Slice ..=>true|_=>false
def DR(nm:List (Str×NameKind)):kE:=nm.filterMap λ(y,k)=>if k == .free then some y else none
def RE(nm:List (Str×NameKind)):kE:=nm.filterMap λ(y,k)=>if k == .cell then some y else none
noncomputable def JV(inner outer:List (Str×NameKind)):List (Str×NameKind):=inner.map λ(n,k)=>if (k == .free && outer.lookup n == some .cell) then (n,.cell) else (n,k)
def KO(N:kE):kE->Option (kG)
 |[]=>some []|y::r=>(match Dg N y with
  |some i=>(match KO N r with
   |some l=>some (i::l)|none=>none)
  |none=>none)
def KS(Γ:Gm)(scope:Scope)(N':kE):Bool:=
 (scope.kind == .function) && scope.names.all (λx=>!(x.2 == .local) || scope.names.lookup x.1 == some .local) &&
 scope.names.all (λx=>!(x.2 == .free) || (scope.names.lookup x.1 == some .free && (Γ.nm.lookup x.1 == some .cell || Γ.nm.lookup x.1 == some .free) && !(scope.names.contains (x.1,NameKind.cell)))) &&
 decide N'.Nodup && (RE scope.names).all (λy=>(JV scope.names Γ.nm).lookup y == some .cell)
def Gm.blk(Γ:Gm)(scope:Scope)(N':kE):Gm:={ Γ with N:=N',nm:=JV scope.names Γ.nm,ce:=(RE scope.names).filter λy=>scope.names.lookup y == some .cell,ow:=[],ox:={ Γ.ox with df:=false,nr:=true } }
def Oc:Expr->Bool
 |.Set ..=>false|_=>true
def Fx:Expr->Bool
 |.ListComp ..=>true|.SetComp ..=>true|.DictComp ..=>true|_=>false
noncomputable def Yj:Expr->Bool
 |.Attribute ..=>true|_=>false
def gtN(Γ:Gm):Expr->Bool
 |.Name x _=>Γ.ox.gt.contains x|_=>false
def G2:Expr->Bool
 |.Call _ es _ _=>!es.isEmpty|_=>true
theorem M7(h:G2 o=true):attributeBase o f env (eval o env)=eval o env:=by
 cases o with
 |Call g es ks c=>
  cases es with
  |nil=>cases h|cons e es=>cases g<;>rfl
 |_=>rfl
theorem zf8(h:G2 o=true)(hf:((backTo pos (starEach es env)).all λx=>!x.1)=true)(hn:es.length<30)(hl:(ap.endLine == pos.line)=true):∃pl ,eval (.Call (.Attribute o f ap) es [] pos) env=(do
   let ov <- eval o env
   standAt ap.atName
   let (f,first) <- holding [ov] (getMethod ov f pl)
   callWith pos f first (backTo pos (starEach es env)) (backToKw pos (keywordEach [] env))):=by
 refine⟨do let b <- importBound o env;pure (b.getD true),?_⟩
 have e:methodCallForm (es.length+([]:List Keyword).length) (backTo pos (starEach es env)) (backToKw pos (keywordEach [] env))=true:=by
  unfold methodCallForm;rw[hf];show(true && true && decide (es.length+0+0<30))=true
  grind
 rw[arm_eval_Call,M7 h];unfold methodCall calleeOf methodCallPos;grind
structure GxOk(G:Gx)(lv:Nat)(P:Program)(w:World)(K:k6)(mg:Str->Option Value)(base:Heap)(ca:Str->Value):Prop where
 co:∀x t,G.co.lookup x=some t->∃u v,mg x=some u/\A8 v u/\∀F:Hp,Rp K F F t v R0
 cl:∀c∈G.cl,Cls K c.2.1/\∀f∈c.2.2,CQ K c.2.1 f
 mt:∀c∈G.mt,c.2.2.2.lv<=lv/\Nonempty (MetX P w K mg base c.2.1 c.1 c.2.2.2.lv c.2.2.2.ps (Ba K ca c.2.2.2.g))
 nw:∀x F ds,G.nw.lookup x=some (F,ds)->F.lv+1<=lv/\∃(C:Addr) (D:NewX P w K mg base x C F.lv F.ps (JM K ca C F.g)),∀k dts,ds.lookup k=some dts->∃dvs us,CU K D.fd F.ps us/\A9 dvs us/\∀H:Hp,Ag K H dts dvs
 sf:∀C fs,G.sf=some (C,fs)->Cls K C/\∀f∈fs,CQ K C f
 xs:∀W cs,G.xs.lookup W=some cs->∃T:ECls K mg W,∀c C,cs.lookup c=some C->ca c=.ref C/\PySem.W.subIn K (.ref C) (.ref T.C)=some true
 sb:∀D tb,G.sb.lookup D=some tb->∃A:Addr,mg D=some (.ref A)/\∀C b,tb.lookup C=some b->ExcK K C/\PySem.W.kitOne K (.ref C) (.ref A)=some b
 sv:∀D tb,G.sv.lookup D=some tb->mg D=none/\∃t,bootBuiltins D=some (.type t)/\∀C b,tb.lookup C=some b->ExcK K C/\PySem.W.kitOne K (.ref C) (.type t)=some b
 ci:∀x tb,G.ci.lookup x=some tb->∃D:Addr,mg x=some (.ref D)/\(∀C b,tb.lookup C=some b->ICls K C/\PySem.W.kitOne K (.ref C) (.ref D)=some b)/\(Ku.all λa=>PySem.W.kitOne K (.type a) (.ref D) == some false)=true
 x2:∀W1 W2 cs,(W1,W2,cs)∈G.x2->∃(T1:ECls K mg W1) (T2:ECls K mg W2),∀c C,cs.lookup c=some C->ca c=.ref C/\PySem.W.subIn K (.ref C) (.ref T1.C)=some false/\PySem.W.subIn K (.ref C) (.ref T2.C)=some true
 wd:∀x F,G.wd.lookup x=some F->F.lv<=lv/\∃p,F.ps=[p]/\Nonempty (DefS P w K mg base F.lv x p (Ba K ca F.g))
 ti:∀C∈G.ti,TiOk K C
 dn:∀x y,G.dn.lookup x=some y->y.1.lv<=lv/\∃(D:DefX P w K mg base y.1.lv x y.1.ps (Ba K ca y.1.g)) (dvs:kK),DefsX K D.fd y.1.ps dvs/\∀H:Hp,Ag K H y.2 dvs
 rn:True
structure CxOk(Γ:Gm)(X:Cx)(E:L2.St->XK)(ca:Str->Value):Prop where
 N:X.N=Γ.N
 nd:Γ.N.Nodup
 nm:X.env.scope.names=Γ.nm
 kd:X.env.scope.kind=.function
 calm:X.calm=true
 room:Room Γ.lv X.A
 ce:∀x∈Γ.ce,X.fn x=true/\Γ.nm.lookup x=some .cell
 bl:∀b∈Γ.bl,X.mg b=none
 ps:BI X E
 po:Γ.ox.nr=false->PassesOwn (model X.prog X.w) X.A X.env X.xe
 md:Γ.ox.nr=false->Ro X E
 mn:True
 fs:∀f F,Γ.fns.lookup f=some F->F.lv<=Γ.lv/\Nonempty (DefX X.prog X.w X.K X.mg X.base F.lv f F.ps (Ba X.K ca F.g))
 ex:∀c∈Γ.ex,∃T:ECls X.K X.mg c,ca c=.ref T.C/\Cq X.K T.C=some none
 ms:∀f F,Γ.mus.lookup f=some F->F.lv<=Γ.lv/\Nonempty (DefX X.prog X.w X.K X.mg X.base F.lv f F.ps (Cu X.K ca F.g))
 gx:GxOk Γ.ox Γ.lv X.prog X.w X.K X.mg X.base ca
 tr:Γ.ox.df=true->X.stack=X.env::X.outer/\X.env.frame=some X.env.locals
 fr:Hg X
theorem Gc(h:Dg N x=some i):N[i]?=some x:=by
 obtain⟨h1,h2,_⟩:=Đ.mp h
 grind
theorem CI(h:CJ x=true):(x == "__debug__")=false/\(x == "__classdict__")=false/\x≠"__name__":=by
 unfold CJ at h
 grind
theorem S8(h:N6 sc.names x=true):DB sc x:=by
 unfold N6 at h;erw[Ě,beq_iff_eq]at h
 rcases h with (h|h)|h
 .exact .inl h
 .exact .inr (.inl h)
 .exact .inr (.inr h)
theorem Bz(h:DK e=true):starEach (e::es) env=(false,eval e env)::starEach es env:=by
 cases e<;>first|rfl|cases h
theorem Fi:∀{es} {env} {pos},(∀e∈es,DK e=true)->(backTo pos (starEach es env)).any (·.1)=false
 |[],env,pos,_=>rfl|e::es,env,pos,h=>by
  rw[Bz (h e (Ï ..))];have ih:=Fi (env:=env) (pos:=pos) λx hx=>h x (Î _ hx)
  show(false || (backTo pos (starEach es env)).any (·.1))=false
  grind
section
variable {Γ:Gm}{X:Cx}{E:L2.St->XK}{ca:Str->Value}
theorem CxOk.var(C:CxOk Γ X E ca){pos:Pos}(h:Γ.var x=some i):X.N[i]?=some x/\DB X.env.scope x/\(x == "__debug__")=false/\(x == "__classdict__")=false:=by
 unfold Gm.var at h;split at h
 .rename_i hp;rw[Æ]at hp;obtain⟨p1,p2,p3⟩:=CI hp.1;exact⟨by rw[C.N];exact Gc h,S8 (by rw[C.nm];exact hp.2),p1,p2⟩
 .cases h
theorem CxOk.gl(C:CxOk Γ X E ca)(h:BX Γ.nm x=true):Gl X x:=by
 show X.env.scope.names.lookup x=some .globalImplicit;rw[C.nm];exact eq_of_beq h
theorem CxOk.loc(C:CxOk Γ X E ca)(h:Γ.loc x=true)(hi:Dg Γ.N x=some i):X.N[i]?=some x/\Gp X.env.scope x/\(X.fn x=true\/X.env.scope.names.lookup x=some .local):=by
 unfold Gm.loc at h;erw[Æ,Ě,beq_iff_eq]at h;refine⟨by rw[C.N];exact Gc hi,?_⟩
 rcases h.2 with h|h
 .exact⟨.inl (by rw[C.nm];exact h),.inr (by rw[C.nm];exact h)⟩
 .obtain⟨c1,c2⟩:=C.ce x (ä.mp h);exact⟨.inr (by rw[C.nm];exact c2),.inl c1⟩
theorem CxOk.nodup(C:CxOk Γ X E ca):X.N.Nodup:=by rw[C.N];exact C.nd
theorem YU(C:CxOk Γ X E ca)(h1:Γ.loc x=true)(h2:Dg Γ.N x=some i):PG X (.Name x pos) (EJ X.K (AE i)):=by
 obtain⟨g1,g2,g3⟩:=C.loc h1 h2;exact g_nm C.nodup g1 g2 g3
theorem aV:∀{ys} {caps},KO N ys=some caps->ys.length=caps.length/\∀(k j:Nat),caps[k]?=some j->∃y,ys[k]?=some y/\N[j]?=some y
 |[],caps,h=>by cases h;simp|y::r,caps,h=>by
  unfold KO at h;split at h
  .rename_i i hi;split at h
   .rename_i l hl;cases h;obtain⟨h1,h2⟩:=aV hl;refine⟨by simp[h1],λk j e=>?_⟩
    cases k with
    |zero=>simp at e;subst e;exact⟨y,rfl,Gc hi⟩|succ k=>grind
   .cases h
  .cases h
theorem zfr(h:y∈DR nm):(y,NameKind.free)∈nm:=by
 unfold DR at h
 grind
theorem bA(C:CxOk Γ X E ca)(h:KS Γ scope (DH tg++DR scope.names)=true)(hc:KO Γ.N (DR scope.names)=some caps):BlkOk X scope (DH tg++DR scope.names) (DH tg).length caps:=by
 unfold KS at h;erw[Æ]at h;obtain⟨⟨⟨⟨h1,h2⟩,h3⟩,h4⟩,h5⟩:=h;obtain⟨l1,l2⟩:=aV hc
 have free:∀y∈scope.names,y.2=.free->scope.names.lookup y.1=some .free/\(Γ.nm.lookup y.1=some .cell\/Γ.nm.lookup y.1=some .free)/\(y.1,NameKind.cell)∉scope.names:=λy hy hf=>by
  grind
 refine⟨eq_of_beq h1,λy hy hl=>?_,by simp[l1],λk j e=>?_,λy hy hf=>?_⟩
 .grind
 .obtain⟨y,e1,e2⟩:=l2 k j e;have fm:=zfr (ï e1);obtain⟨f1,_,f3⟩:=free _ fm rfl;refine⟨y,by rw[C.N];exact e2,?_,f1,f3⟩
  rw[ĸ (by omega)]
  simpa using e1
 .obtain⟨f1,f2,_⟩:=free y hy hf;refine⟨f1,?_⟩;rw[C.nm];exact f2
theorem zgu(hk:env.scope.kind=.function):(relabel scope env).names=JV scope.names env.scope.names:=by
 unfold relabel JV;have e:(env.scope.kind == ScopeKind.function)=true:=by rw[hk];rfl
 erw[e,Bool.and_true]
 rfl
theorem YA:True:=trivial
theorem bD(C:CxOk Γ X E ca){scope:Scope}{N':kE}(h:KS Γ scope N'=true)(cl)(A:Addr)(s₀:Shared)(H₀:Hp)(ex:List Addr)(xb)(hp:BI (Ar X scope cl N' A s₀ H₀ ex xb) E'):CxOk (Γ.blk scope N') (Ar X scope cl N' A s₀ H₀ ex xb) E' ca:=by
 unfold KS at h;erw[Æ]at h;obtain⟨⟨⟨⟨h1,h2⟩,h3⟩,h4⟩,h5⟩:=h;refine⟨rfl,ğ h4,?_,?_,C.calm,C.room,λx hx=>?_,C.bl,hp,λz=>(by cases z),λz=>(by cases z),YA,C.fs,C.ex,C.ms,⟨C.gx.co,C.gx.cl,C.gx.mt,C.gx.nw,C.gx.sf,C.gx.xs,C.gx.sb,C.gx.sv,C.gx.ci,C.gx.x2,C.gx.wd,C.gx.ti,C.gx.dn,C.gx.rn⟩,λz=>(by cases z),C.fr⟩
 .show(relabel scope X.env).names=JV scope.names Γ.nm;rw[zgu C.kd,C.nm]
 .exact eq_of_beq h1
 .have hx':x∈(RE scope.names).filter λy=>scope.names.lookup y == some .cell:=hx
  rw[Į]at hx';refine⟨Ì (eq_of_beq hx'.2),?_⟩;exact eq_of_beq (æ.mp h5 x hx'.1)
end
theorem Q5(h:Oc e=true)(x):foldedSetIterable e env x=pure x:=by
 cases e<;>first|rfl|cases h
theorem O3(h:HM k=false):Kf k:=λo i=>by
 cases k<;>first|rfl|cases h
theorem Cz{b:Bool}(h:(!b)=true):b=false:=by cases b<;>first|rfl|cases h
noncomputable def gd{α:Type}:(b:Bool)->(b=true->Option α)->Option α
 |true,k=>k rfl|false,_=>none
noncomputable def oe{α β:Type}:(o:Option α)->((a:α)->o=some a->β)->β->β
 |some a,k,_=>k a rfl|none,_,d=>d
abbrev ob{α β:Type}(o:Option α)(k:(a:α)->o=some a->Option β):Option β:=oe o k none
structure ER(Γ:Gm)(e:Expr) where
 m:AH
 ok:∀{X:Cx} {E:L2.St->XK} {ca:Str->Value},CxOk Γ X E ca->PE X e (tM X.K E ca m)/\(EL e=true->PT X e (BF X.K E ca m))
structure AR(Γ:Gm)(es:kC) where
 m:Av
 ok:∀{X:Cx} {E:L2.St->XK} {ca:Str->Value},CxOk Γ X E ca->PA X es (Bv X.K E ca m)
 st:∀e∈es,DK e=true
 nl:es=[]->m=AD
structure OR(Γ:Gm)(es:kC) where
 m:Av
 ok:∀{X:Cx} {E:L2.St->XK} {ca:Str->Value},CxOk Γ X E ca->PA X es (JJ X.K E ca m)
structure BR(Γ:Gm)(op:BoolOp)(es:kC) where
 m:AH
 ok:∀{X:Cx} {E:L2.St->XK} {ca:Str->Value} {pos:Pos},CxOk Γ X E ca->PE X (.BoolOp op es pos) (tM X.K E ca m)/\PW X (.BoolOp op es pos) (BF X.K E ca m)
structure PR(Γ:Gm)(o:Option Expr) where
 m:Option (AH)
 ok:∀{X:Cx} {E:L2.St->XK} {ca:Str->Value},CxOk Γ X E ca->PO X o (Gr X.K m)
structure LR(Γ:Gm)(elt tg iter:Expr)(ifs:kC)(scope:Scope) where
 m:AH
 ok:∀{X:Cx} {E:L2.St->XK} {ca:Str->Value},CxOk Γ X E ca->∃caps mi b mt me,m=Bb (DH tg).length caps mi b mt me/\BlkOk X scope (DH tg++DR scope.names) (DH tg).length caps/\PI X tg iter (tI X.K E ca mi) /\
   (∀ cl A s₀ H₀ ex xb E', BI (Ar X scope cl (DH tg ++ DR scope.names) A s₀ H₀ ex xb) E' -> PG (Ar X scope cl (DH tg ++ DR scope.names) A s₀ H₀ ex xb) tg (EJ X.K b) /\ Gn (Ar X scope cl (DH tg ++ DR scope.names) A s₀ H₀ ex xb) ifs (BF X.K E' ca mt) /\
    PE (Ar X scope cl (DH tg++DR scope.names) A s₀ H₀ ex xb) elt (tM X.K E' ca me))/\∀x,foldedSetIterable iter X.env x=pure x
structure IR(Γ:Gm)(tg e:Expr) where
 m:Av
 ok:∀{X:Cx} {E:L2.St->XK} {ca:Str->Value},CxOk Γ X E ca->PI X tg e (tI X.K E ca m)
 ns:Oc e=true
structure GR(Γ:Gm)(tg:Expr) where
 m:T->AK->Option AK
 ok:∀{X:Cx} {E:L2.St->XK} {ca:Str->Value},CxOk Γ X E ca->PG X tg (EJ X.K m)
structure GsR(Γ:Gm)(es:kC) where
 m:kL->AK->Option AK
 ok:∀{X:Cx} {E:L2.St->XK} {ca:Str->Value},CxOk Γ X E ca->Ds X es (Gs X.K m)/\(assignEach es X.env).length=es.length/\(assignEach es X.env).findIdx? (·.1)=none
structure SR(Γ:Gm)(s:Stmt) where
 m:AG
 ok:∀{X:Cx} {E:L2.St->XK} {ca:Str->Value},CxOk Γ X E ca->PS X s (tS X.K E ca Γ.mu m)
structure QR(Γ:Gm)(ss:kD) where
 m:AG
 ok:∀{X:Cx} {E:L2.St->XK} {ca:Str->Value},CxOk Γ X E ca->BB X ss (tS X.K E ca Γ.mu m)
structure Dc where
 e:(Γ:Gm)->(e:Expr)->Option (ER Γ e)
 a:(Γ:Gm)->(es:kC)->Option (AR Γ es)
 o:(Γ:Gm)->(es:kC)->Option (OR Γ es)
 b:(Γ:Gm)->(op:BoolOp)->(es:kC)->Option (BR Γ op es)
 s:(Γ:Gm)->(s:Stmt)->Option (SR Γ s)
 q:(Γ:Gm)->(ss:kD)->Option (QR Γ ss)
theorem ER.t(r:ER Γ e)(h:EL e=true)(C:CxOk Γ X E ca):PT X e (BF X.K E ca r.m):=(r.ok C).2 h
def Kw:Expr->Prop
 |.UnaryOp ..=>False|.BoolOp ..=>False|.IfExp ..=>False|.Compare ..=>False|_=>True
theorem Sj(h:Kw e)(whole):isTrue e env whole=(do let v <- whole;standAt e.pos;holding [v] (truthy v)):=by
 cases e<;>first|rfl|exact False.elim h
noncomputable def vl{Γ:Gm}{e:Expr}(m:AH)(h:∀{X:Cx} {E:L2.St->XK} {ca:Str->Value},CxOk Γ X E ca->PE X e (tM X.K E ca m))(t:Kw e:=by trivial):Option (ER Γ e):=some ⟨m,λC=>⟨h C,λ_=>OS (h C) (Sj t)⟩⟩
structure OG(op:Operator) where
 g:T->T->kH
 ok:∀{X:Cx},Ae X (binaryOp op) (Bf X.K g)
def opF:(op:Operator)->Option (OG op)
 |.Add=>some ⟨Au,zkg⟩|.Sub=>some ⟨Ej,zk9⟩|.Mult=>some ⟨B0,zkb⟩|.Mod=>some ⟨BE,zkc⟩|.FloorDiv=>some ⟨Bi,zhb⟩|.Pow=>some ⟨EK,zka⟩|.BitOr=>some ⟨KR,zkf⟩|.BitAnd=>some ⟨KU,zhc⟩|_=>none
structure CG(op:CmpOp) where
 g:T->T->kH
 ok:∀{Γ:Gm} {X:Cx} {E:L2.St->XK} {ca:Str->Value},CxOk Γ X E ca->Ae X (compareOp op) (Bf X.K g)
def aR:(op:CmpOp)->Option (CG op)
 |.Eq=>some ⟨Ap,λC=>WJ C.room.units⟩|.NotEq=>some ⟨Bk,λC=>zns C.room.units⟩|.Lt=>some ⟨CN λi j=>decide (i<j),λ_=>Li op_lt⟩|.LtE=>some ⟨CN λi j=>decide (i<=j),λ_=>Li WI⟩|.Gt=>some ⟨CN λi j=>decide (j<i),λ_=>Li op_gt⟩|.GtE=>some ⟨CN λi j=>decide (j<=i),λ_=>Li op_ge⟩|.Is=>some ⟨Dh false,λ_=>znt⟩|.IsNot=>some ⟨Dh true,λ_=>zf4⟩|.In=>some ⟨FC,λC=>znu C.room.units⟩|.NotIn=>some ⟨HD,λC=>zf3 C.room.units⟩
def aS:(op:CmpOp)->Option (CG op)
 |.LtE=>some ⟨E7,λ_=>zkd⟩|op=>aR op
def eCst(Γ:Gm)(c:Const)(k:Nat)(pos:Pos):Option (ER Γ (.Constant c k pos)):=match c with
 |.int i=>vl (mC (.int i)) λ_=>Ht Ζ λ_ _=>.int i|.bool b=>vl (mC (.bl b)) λ_=>Ht pe_bl λ_ _=>.bl b|.none=>vl (mC .non) λ_=>Ht WD λ_ _=>.non|.str x=>vl (mC (.str x)) λ_=>Ht WB λ_ _=>.str x|_=>none
theorem CxOk.v(C:CxOk Γ X E ca)(h:Γ.var x=some i):PE X (.Name x pos) (tM X.K E ca (AA i)):=
 let ⟨h1,h2,h3,h4⟩:=C.var (pos:=pos) h
 Vb h1 h2 h3 h4
def eNam(Γ:Gm)(x:Str)(pos:Pos):Option (ER Γ (.Name x pos)):=oe (Γ.var x) (λi hi=>vl (AA i) λC=>C.v hi) (gd (CJ x && BX Γ.nm x) λhp=>ob (Γ.ox.co.lookup x) λt ht=>vl (mC t) λC=>by
 rw[Æ]at hp;obtain⟨u,v,k1,k2,k3⟩:=C.gx.co x t ht;exact r_con (C.gl hp.2) k1 k2 (CI hp.1).1 k3)
def aF{Γ:Gm}{e:Expr}(t:Kw e)(a:Option (ER Γ e))(b:Option (ER Γ e)):Option (ER Γ e):=a.bind λa=>match b with
 |some b=>vl (Cg a.m b.m) (λC=>OU (a.ok C).1 (b.ok C).1) t|none=>some a
def Qw{Γ:Gm}{o:Expr}{f:Str}{pos:Pos}(r:ER Γ o)(hp:G2 o=true):(L:List (Str×Addr×kE))->(∀c∈L,c∈Γ.ox.cl)->Option (ER Γ (.Attribute o f pos))
 |[],_=>none|c::L,hL=>oe (c.2.2.findIdx? (· == f)) (λj hj=>aF trivial (vl (Bt c.2.1 c.2.2 j r.m) λC=>by
   obtain⟨h1,h2⟩:=C.gx.cl _ (hL _ (Ï ..))
   have hf:f∈c.2.2:=by
    obtain⟨q1,q2,_⟩:=Đ.mp hj;rw[<- eq_of_beq q2];exact Ô q1
   exact r_fld h1 (h2 f hf) hj (r.ok C).1 (M7 hp)) (Qw r hp L λc h=>hL c (Î _ h))) (Qw r hp L λc h=>hL c (Î _ h))
theorem zkq(r:ER Γ o)(a:AR Γ es)(hpo:G2 o=true)(hln:(ap.endLine == pos.line)=true)(hlen:es.length<30)(hm:(f,g)∈Γ.ox.mt)(hnf:g.2.1.contains f=false) (C:CxOk Γ X E ca) :
  PE X (.Call (.Attribute o f ap) es [] pos) (tM X.K E ca (DP g.1 g.2.1 g.2.2.g r.m a.m)):=by
 obtain⟨hlv,⟨D⟩⟩:=C.gx.mt _ hm;have ho:=(r.ok C).1;have ha:=a.ok C;have hst:=a.st;have hnil:=a.nl;generalize a.m=ms at ha hnil
 clear a
 obtain⟨pl,ht⟩:=zf8 (env:=X.env) hpo (by
  have:=Fi (env:=X.env) (pos:=pos) hst
  grind) hlen hln
 cases es with
 |cons e es=>exact zmu D hnf C.room C.ps ho ha hlv (Bz (hst e (Ï ..))) (Fi λx hx=>hst x (Î e hx)) ht|nil=>
  refine PE.weak (pmx0 D C.room C.ps ho hlv ht) λσ H Q h=>?_
  obtain⟨F,τ,R,S,q⟩:=Sz hnf h;refine⟨F,τ,R,S,?_⟩;cases hm:r.m τ with
  |none=>rw[hm]at q;exact q|some r=>
   rw[hm]at q;cases r with
   |x c=>exact q|v t b=>intro F1 H1 x B e1 g1;obtain⟨a,dx,fs',h1,h2,h3,h4⟩:=q F1 H1 x B e1 g1;refine⟨a,dx,fs',h1,h2,h3,?_⟩;rw[hnil rfl]at h4;exact Ff h4
def Qv{Γ:Gm}{o:Expr}{f:Str}{ap pos:Pos}{es:kC}(r:ER Γ o)(a:AR Γ es)(hpo:G2 o=true)(hln:(ap.endLine == pos.line)=true)(hlen:es.length<30):(L:List (Str×Addr×kE×Fn))->(∀c∈L,c∈Γ.ox.mt)->Option (ER Γ (.Call (.Attribute o f ap) es [] pos))
 |[],_=>none|c::L,hL=>if h:c.1=f/\c.2.2.1.contains f=false then aF trivial (vl (DP c.2.1 c.2.2.1 c.2.2.2.g r.m a.m) λC=>zkq r a hpo hln hlen (g:=c.2) (h.1▸hL c (Ï ..)) h.2 C) (Qv r a hpo hln hlen L λc h=>hL c (Î _ h)) else Qv r a hpo hln hlen L λc h=>hL c (Î _ h)
def eAtt(D:Dc)(Γ:Gm)(o:Expr)(f:Str)(ap:Pos)(es:kC)(ks:List Keyword)(c:Pos):Option (ER Γ (.Call (.Attribute o f ap) es ks c)):=match ks with
 |[]=>gd (G2 o && (ap.endLine == c.line) && decide (es.length<30)) λhc=>(D.e Γ o).bind λr=>(D.a Γ es).bind λa=>
  have hc:(G2 o=true/\(ap.endLine == c.line)=true)/\es.length<30:=by
   rw[Æ,Æ,ë]at hc;exact hc
  if hf:f="index" then (match es,a with
   |[k],a=>(D.e Γ k).bind λmk=>vl (Jj r.m mk.m) λC=>by
    subst hf;exact zjj (r.ok C).1 (mk.ok C).1 (M7 hc.1.1) (Bz (es:=[]) (a.st k (Ï ..))) hc.1.2
   |_,_=>none) else
  if hf:f="join" then (match es,a with
   |[k],a=>(D.e Γ k).bind λmk=>vl (Ji r.m mk.m) λC=>by
    subst hf;exact zmw (r.ok C).1 (mk.ok C).1 (M7 hc.1.1) (Bz (es:=[]) (a.st k (Ï ..))) hc.1.2
   |_,_=>none) else
  Qv r a hc.1.1 hc.1.2 hc.2 Γ.ox.mt λ_ h=>h
 |_=>none
def cmpB(op:CmpOp)(b:Expr):Option (CG op):=
 match op,b with
 |.Eq,.List [] _=>some ⟨Dl,λC=>zke C.room.units⟩|op,_=>
 aR op
def eCmp(D:Dc)(Γ:Gm)(a:Expr)(ops:List CmpOp)(bs:kC)(pos:Pos):Option (ER Γ (.Compare a ops bs pos)):=match ops,bs with
 |[op],[b]=>gd (!(behindInMarks op b)) λhm=>(cmpB op b).bind λg=>(D.e Γ a).bind λra=>(D.e Γ b).bind λrb=>some ⟨BM (g2 g.g) (AB ra.m (AB rb.m AD)),λC=>
  have hm:=Cz hm
  ⟨r_cmp (g.ok C) (ra.ok C).1 (rb.ok C).1 hm,λ_=>zmr (g.ok C) (ra.ok C).1 (rb.ok C).1 hm⟩⟩
 |[op,op'],[b,c]=>gd (!(lastMarks [op,op'] [b,c])) λhm=>(aS op).bind λg=>(aS op').bind λg'=>(D.e Γ a).bind λra=>(D.e Γ b).bind λrb=>(D.e Γ c).bind λrc=>some ⟨Eu g.g g'.g ra.m rb.m rc.m,λC=>
  have hm:=Cz hm
  ⟨r_chn (g.ok C) (g'.ok C) (ra.ok C).1 (rb.ok C).1 (rc.ok C).1 hm,λ_=>zms (g.ok C) (g'.ok C) (ra.ok C).1 (rb.ok C).1 (rc.ok C).1 hm⟩⟩
 |_,_=>none
def eUn(D:Dc)(Γ:Gm)(op:UnaryOp)(a:Expr)(pos:Pos):Option (ER Γ (.UnaryOp op a pos)):=match op with
 |.USub=>(D.e Γ a).bind λr=>some ⟨BM (g1 DZ) (AB r.m AD),λC=>
  have hp:=r_un (pos:=pos) zj1 (r.ok C).1
  ⟨hp,λ_=>OS hp λ_=>rfl⟩⟩
 |.Not=>gd (EL a) λh=>(D.e Γ a).bind λr=>some ⟨BH r.m,λC=>⟨Vg (r.ok C).1,λ_=>Vc (r.t h C)⟩⟩|_=>none
def dP(D:Dc)(Γ:Gm):(o:Option Expr)->Option (PR Γ o)
 |none=>some ⟨none,λ_=>r_po0⟩|some e=>(D.e Γ e).bind λr=>some ⟨some r.m,λC=>r_po1 (r.ok C).1⟩
def eIx(D:Dc)(Γ:Gm)(a k:Expr)(pos:Pos):Option (ER Γ (.Subscript a k pos)):=gd (!(HM k)) λhs=>(D.e Γ a).bind λr=>(D.e Γ k).bind λrk=>
 if Yj a || gtN Γ a then vl (Jk r.m rk.m) λC=>r_gt (by have:=C.room.units;omega) (r.ok C).1 (rk.ok C).1 (O3 (Cz hs)) else
 vl (AM r.m rk.m) λC=>r_ix (r.ok C).1 (rk.ok C).1 (O3 (Cz hs))
def eSub(D:Dc)(Γ:Gm)(a k:Expr)(pos:Pos):Option (ER Γ (.Subscript a k pos)):=match k with
 |.Slice lo hi st p=>(match st with
  |none=>(D.e Γ a).bind λr=>(dP D Γ lo).bind λrl=>(dP D Γ hi).bind λrh=>if Γ.ox.tx then vl (Cg (EM r.m rl.m rh.m) (E5 r.m rl.m rh.m)) λC=>OU (Vd (r.ok C).1 (rl.ok C) (rh.ok C)) (zgx (r.ok C).1 (rl.ok C) (rh.ok C)) else vl (EM r.m rl.m rh.m) λC=>Vd (r.ok C).1 (rl.ok C) (rh.ok C)
  |_=>none
  )
 |k=>eIx D Γ a k pos
theorem Hq(h:DK e=true):starEach [e] env=[(false,eval e env)]:=Bz h
section
variable {Γ:Gm}{f:Str}{p:Pos}{e:Expr}{es:kC}{pos:Pos}{X:Cx}{E:L2.St->XK}{ca:Str->Value}
theorem bF(a:AR Γ (e::es))(hp:CJ f=true)(hg:BX Γ.nm f=true)(hb:Γ.bl.contains f=true)(C:CxOk Γ X E ca){id}(hc:Bj X (.builtin id) (DJ X.K g))(hv:bootBuiltins f=some (.builtin id)):PE X (.Call (.Name f p) (e::es) [] pos) (tM X.K E ca (BM g a.m)):=
 zn1 hc (C.gl hg) (C.bl f (ä.mp hb)) hv (a.ok C) (CI hp).2.2 (CI hp).1 (Bz (a.st e (Ï ..))) (Fi λx hx=>a.st x (Î e hx))
theorem bJ(a:AR Γ (e::es))(hp:CJ f=true)(hg:BX Γ.nm f=true)(hb:Γ.bl.contains f=true)(C:CxOk Γ X E ca){id}(hc:Bj X (.type id) (DJ X.K g))(hv:bootBuiltins f=some (.type id)):PE X (.Call (.Name f p) (e::es) [] pos) (tM X.K E ca (BM g a.m)):=
 Vm hc (C.gl hg) (C.bl f (ä.mp hb)) hv (a.ok C) (CI hp).2.2 (CI hp).1 (Bz (a.st e (Ï ..))) (Fi λx hx=>a.st x (Î e hx))
def MY(a:AR Γ (e::es))(hp:CJ f=true)(hg:BX Γ.nm f=true)(hb:Γ.bl.contains f=true):Option (ER Γ (.Call (.Name f p) (e::es) [] pos)):=
 if hf:f="len" then vl (BM (g1 BL) a.m) λC=>by subst hf;exact bF a hp hg hb C zga PySem.boot_len else
 if hf:f="list" then vl (BM (g1 CA) a.m) λC=>by subst hf;exact bJ a hp hg hb C aY đ else
 if hf:f="abs" then vl (BM (g1 Ie) a.m) λC=>by subst hf;exact bF a hp hg hb C zgf PyProof.Rows.boot_abs else
 if hf:f="int" then vl (BM (g1 Jx) a.m) λC=>by subst hf;exact bJ a hp hg hb C zgc PyProof.Rows.boot_int else
 if hf:f="min" then vl (BM (g2 J7) a.m) λC=>by subst hf;exact bF a hp hg hb C (zg9 C.calm) PyProof.Rows.boot_min else
 if hf:f="all" then vl (BM (g1 Fb) a.m) λC=>by subst hf;exact bF a hp hg hb C (zge C.calm) PyProof.Rows.boot_all else
 if hf:f="any" then vl (BM (g1 KZ) a.m) λC=>by subst hf;exact bF a hp hg hb C (zgd C.calm) PyProof.Rows.boot_any else
 none
end
structure TyR(c:Str) where
 t:String
 ok:bootBuiltins c=some (.type t)
noncomputable def tyF(c:Str):Option (TyR c):=
 if h:c="int" then some ⟨"int",by subst h;exact PyProof.Rows.boot_int⟩ else if h:c="bool" then some ⟨"bool",by subst h;exact PyProof.Rows.boot_bool⟩ else if h:c="str" then some ⟨"str",by subst h;exact PyProof.Rows.boot_str⟩ else
 if h:c="list" then some ⟨"list",by subst h;exact đ⟩ else if h:c="tuple" then some ⟨"tuple",by subst h;exact PyProof.Rows.boot_tuple⟩ else none
def eIs(D:Dc)(Γ:Gm)(p:Pos)(e:Expr)(es:kC)(pos:Pos)(hg:BX Γ.nm "isinstance"=true)(hb:Γ.bl.contains "isinstance"=true):Option (ER Γ (.Call (.Name "isinstance" p) (e::es) [] pos)):=match es with
 |[.Name c p2]=>gd (BX Γ.nm c && CJ c && DK e) λhc=>(D.e Γ e).bind λr=>
  have hc:(BX Γ.nm c=true/\CJ c=true)/\DK e=true:=by
   rw[Æ,Æ]at hc;exact hc
  if hm:Γ.bl.contains c=true then (tyF c).bind λt=>vl (BM (g1 (Cd t.t)) (AB r.m AD)) λC=>
   r_isT t.ok (C.gl hg) (C.bl _ (ä.mp hb)) (C.gl hc.1.1) (C.bl _ (ä.mp hm)) (CI hc.1.2).2.2 (CI hc.1.2).1 (r.ok C).1 (Bz hc.2)
  else ob (Γ.ox.ci.lookup c) λtb ht=>vl (BM (g1 (Jw tb)) (AB r.m AD)) λC=>by
   obtain⟨_,k1,k2⟩:=C.gx.ci c tb ht;exact r_isC k2 (C.gl hg) (C.bl _ (ä.mp hb)) (C.gl hc.1.1) k1 (CI hc.1.2).1 (r.ok C).1 (Bz hc.2)
 |_=>none
def eSet(D:Dc)(Γ:Gm)(p:Pos)(e:Expr)(pos:Pos)(hg:BX Γ.nm "len"=true)(hb:Γ.bl.contains "len"=true):Option (ER Γ (.Call (.Name "len" p) [e] [] pos)):=match e with
 |.Call (.Name x p2) [a] [] p3=>if h:x="set" then gd (BX Γ.nm "set" && Γ.bl.contains "set" && DK a) λhc=>(D.e Γ a).bind λr=>vl (BM (g1 JG) (AB r.m AD)) λC=>by
   rw[Æ,Æ]at hc;subst h;exact r_unq C.calm (C.gl hg) (C.bl _ (ä.mp hb)) (C.gl hc.1.1) (C.bl _ (ä.mp hc.1.2)) (r.ok C).1 (Hq hc.2)
  else none
 |_=>none
def eKys(D:Dc)(Γ:Gm)(p:Pos)(e:Expr)(pos:Pos)(hp:CJ "list"=true)(hg:BX Γ.nm "list"=true)(hb:Γ.bl.contains "list"=true):Option (ER Γ (.Call (.Name "list" p) [e] [] pos)):=if h:Yj e=true then (D.e Γ e).bind λr=>vl (Cg (BM (g1 CA) (AB r.m AD)) (G7 r.m)) λC=>by
  have hns:DK e=true:=by cases e<;>first|rfl|cases h
  have hst:=λenv=>Hq (env:=env) hns
  have b:=ä.mp hb;exact OU (Vm aY (C.gl hg) (C.bl _ b) đ (Vl (r.ok C).1 Vh (hst _)) (CI hp).2.2 (CI hp).1 (hst _) rfl) (r_kys C.calm (C.gl hg) (C.bl _ b) (r.ok C).1 (hst _))
 else none
def eLr(D:Dc)(Γ:Gm)(p:Pos)(e:Expr)(pos:Pos)(hg:BX Γ.nm "list"=true)(hb:Γ.bl.contains "list"=true):Option (ER Γ (.Call (.Name "list" p) [e] [] pos)):=match e with
 |.Call (.Name f p2) [a] [] pos2=>if hf:f="range" then gd (BX Γ.nm "range" && Γ.bl.contains "range") λh=>(D.a Γ [a]).bind λr=>vl (HG r.m) λC=>by
   subst hf;rw[Æ]at h;exact r_lr C.calm (C.gl hg) (C.bl _ (ä.mp hb)) (C.gl h.1) (C.bl _ (ä.mp h.2)) (r.ok C) (Bz (r.st a (Ï ..))) else none
 |_=>none
def eLz(D:Dc)(Γ:Gm)(p:Pos)(e:Expr)(pos:Pos)(hg:BX Γ.nm "list"=true)(hb:Γ.bl.contains "list"=true):Option (ER Γ (.Call (.Name "list" p) [e] [] pos)):=match e with
 |.Call (.Name f p2) [a,b] [] pos2=>if hf:f="zip" then gd (BX Γ.nm "zip" && Γ.bl.contains "zip") λh=>gd (DK a && DK b) λhs=>(D.e Γ a).bind λr=>(D.e Γ b).bind λr2=>vl (Jh r.m r2.m) λC=>by
   subst hf;rw[Æ]at h hs;exact r_lz C.calm (C.gl hg) (C.bl _ (ä.mp hb)) (C.gl h.1) (C.bl _ (ä.mp h.2)) (r.ok C).1 (r2.ok C).1 (Bz hs.1) (Hq hs.2) else none
 |_=>none
def eFn1(Γ:Gm)(f:Str)(p:Pos)(e:Expr)(es:kC)(pos:Pos)(a:AR Γ (e::es))(hp:CJ f=true)(hg:BX Γ.nm f=true):Option (ER Γ (.Call (.Name f p) (e::es) [] pos)):=
 ob (Γ.fns.lookup f) λF hF=>vl (AL F.g a.m) λC=>by
  obtain⟨hl,⟨D⟩⟩:=C.fs f F hF;exact zn0 D C.room C.ps (a.ok C) hl (C.gl hg) (CI hp).1 (Bz (a.st e (Ï ..))) (Fi λx hx=>a.st x (Î e hx))
def eFn(Γ:Gm)(f:Str)(p:Pos)(e:Expr)(es:kC)(pos:Pos)(a:AR Γ (e::es))(hp:CJ f=true)(hg:BX Γ.nm f=true):Option (ER Γ (.Call (.Name f p) (e::es) [] pos)):=
 oe (Γ.ox.nw.lookup f) (λF hF=>ob (F.2.lookup (e::es).length) λdts hd=>vl (IH F.1.g dts a.m) λC=>by
   obtain⟨hl,CC,D,hD⟩:=C.gx.nw f F.1 F.2 hF;obtain⟨dvs,us,k1,k2,k3⟩:=hD _ _ hd;exact r_new D k1 k2 k3 C.room C.ps (a.ok C) hl (C.gl hg) (CI hp).1 (Bz (a.st e (Ï ..))) (Fi λx hx=>a.st x (Î e hx))) <|
 eFn1 Γ f p e es pos a hp hg
def eCal(D:Dc)(Γ:Gm)(f:Str)(p:Pos)(es:kC)(ks:List Keyword)(pos:Pos):Option (ER Γ (.Call (.Name f p) es ks pos)):=match es,ks with
 |e::es,[]=>gd (CJ f && BX Γ.nm f) λhc=>
  have hc:CJ f=true/\BX Γ.nm f=true:=by
   rw[Æ]at hc;exact hc
  if hb:Γ.bl.contains f=true then
   (if hf : f = "isinstance" then (match f, hf, hc, hb with
    |_,rfl,hc,hb=>eIs D Γ p e es pos hc.2 hb) else
   match es with
   |[]=>
    (if hf : f = "len" then (match f, hf, hc, hb with
     |_,rfl,hc,hb=>(eSet D Γ p e pos hc.2 hb).orElse λ_=>(D.a Γ [e]).bind λa=>MY a hc.1 hc.2 hb) else
    if hf:f="list" then (match f,hf,hc,hb with
     |_,rfl,hc,hb=>
      (eLz D Γ p e pos hc.2 hb).orElse λ_=>
      (eLr D Γ p e pos hc.2 hb).orElse λ_=>
      (eKys D Γ p e pos hc.1 hc.2 hb).orElse λ_=>(D.a Γ [e]).bind λa=>MY a hc.1 hc.2 hb) else
    (D.a Γ [e]).bind λa=>MY a hc.1 hc.2 hb)
   |_=>(D.a Γ _).bind λa=>MY a hc.1 hc.2 hb)
  else (D.a Γ (e::es)).bind λa=>eFn Γ f p e es pos a hc.1 hc.2
 |_,_=>none
def aO(Γ:Gm):(es:kC)->Option (GsR Γ es)
 |[]=>some ⟨BU,λ_=>⟨g_nil,rfl,rfl⟩⟩|e::es=>(match e with
  |.Name x p=>gd (Γ.loc x) λhl=>ob (Dg Γ.N x) λi hi=>(aO Γ es).bind λr=>some ⟨AS (AE i) r.m,λ{X} {E} {ca} C=>by
   obtain⟨q1,q2,q3⟩:=r.ok C;refine⟨zoy (YU C hl hi) q1 rfl,?_,?_⟩
   .show(assignEach es X.env).length+1=es.length+1;rw[q2]
   .show List.findIdx? (·.1) ((false,assign (.Name x p) X.env)::assignEach es X.env)=none
    rw[Ů,q3]
    rfl⟩
  |_=>none)
def dG(Γ:Gm):(tg:Expr)->Option (GR Γ tg)
 |.Name x _=>gd (Γ.loc x) λhl=>ob (Dg Γ.N x) λi hi=>some ⟨AE i,λC=>YU C hl hi⟩|.Tuple es _ _=>(aO Γ es).bind λr=>some ⟨BN es.length r.m,λC=>g_tup C.calm (r.ok C).1 (r.ok C).2.1 (r.ok C).2.2⟩|_=>none
def iV(D:Dc)(Γ:Gm)(tg e:Expr):Option (IR Γ tg e):=gd (Oc e) λh=>(D.e Γ e).bind λr=>if Γ.ox.tx then some ⟨Bc r.m,λC=>zmy (r.ok C).1,h⟩ else some ⟨IQ r.m,λC=>Vj (r.ok C).1,h⟩
theorem F8(C:CxOk Γ X E ca)(h:(BX Γ.nm f && Γ.bl.contains f)=true):Gl X f/\X.mg f=none:=by
 rw[Æ]at h;exact⟨C.gl h.1,C.bl f (ä.mp h.2)⟩
def iRg(D:Dc)(Γ:Gm)(tg a:Expr)(p c:Pos):Option (IR Γ tg (.Call (.Name "range" p) [a] [] c)):=gd (BX Γ.nm "range" && Γ.bl.contains "range") λh=>(D.a Γ [a]).bind λr=>some ⟨C7 r.m,λC=>zgy (F8 C h).1 (F8 C h).2 (r.ok C) (Bz (r.st a (Ï ..))),rfl⟩
def iEn(D:Dc)(Γ:Gm)(tg a:Expr)(p c:Pos):Option (IR Γ tg (.Call (.Name "enumerate" p) [a] [] c)):=match tg with
 |.Tuple ..=>gd (BX Γ.nm "enumerate" && Γ.bl.contains "enumerate") λh=>(D.a Γ [a]).bind λr=>if Γ.ox.tx then some ⟨Yn r.m,λC=>r_enX (F8 C h).1 (F8 C h).2 (r.ok C) (Bz (r.st a (Ï ..))),rfl⟩ else
  some ⟨ED r.m,λC=>Vk (F8 C h).1 (F8 C h).2 (r.ok C) (Bz (r.st a (Ï ..))),rfl⟩
 |_=>none
def iZp(D:Dc)(Γ:Gm)(tg a b:Expr)(p c:Pos):Option (IR Γ tg (.Call (.Name "zip" p) [a,b] [] c)):=match tg with
 |.Tuple ..=>gd (BX Γ.nm "zip" && Γ.bl.contains "zip") λh=>(D.a Γ [a,b]).bind λr=>some ⟨Ge r.m,λC=>
   have s2:=λenv=>Hq (env:=env) (r.st b (Î _ (Ï ..)))
   r_zip (F8 C h).1 (F8 C h).2 (r.ok C) (by rw[Bz (r.st a (Ï ..)),s2]) (s2 _),rfl⟩
 |_=>none
def iE1(D:Dc)(Γ:Gm)(tg a:Expr)(p c:Pos)(k:Keyword):Option (IR Γ tg (.Call (.Name "enumerate" p) [a] [k] c)):=match tg,k with
 |.Tuple ..,⟨some y,.Constant (.int i) ko vp,kp⟩=>if hy:y="start"/\i=1 then gd (BX Γ.nm "enumerate" && Γ.bl.contains "enumerate") λh=>(D.a Γ [a]).bind λr=>some ⟨Gf r.m,λC=>by
   obtain⟨rfl,rfl⟩:=hy;exact r_en1 (F8 C h).1 (F8 C h).2 (r.ok C) (Bz (r.st a (Ï ..))),rfl⟩ else none
 |_,_=>none
def dI(D:Dc)(Γ:Gm)(tg e:Expr):Option (IR Γ tg e):=match e with
 |.Call (.Name f p) es ks c=>(match es,ks with
  |[a],[]=>if h:f="range" then (match f,h with|_,rfl=>iRg D Γ tg a p c) else
   if h:f="enumerate" then (match f,h with|_,rfl=>iEn D Γ tg a p c) else
   iV D Γ tg _
  |[a,b],[]=>
   if h:f="zip" then (match f,h with|_,rfl=>iZp D Γ tg a b p c) else
   iV D Γ tg _
  |[a],[k]=>if h:f="enumerate" then (match f,h with|_,rfl=>iE1 D Γ tg a p c k) else none
  |_,_=>iV D Γ tg _)
 |e=>iV D Γ tg e
def dC(D:Dc)(Γ:Gm)(elt tg iter:Expr)(ifs:kC)(scope:Scope):Option (LR Γ elt tg iter ifs scope):=
 gd (KS Γ scope (DH tg++DR scope.names)) λhb=>ob (KO Γ.N (DR scope.names)) λcaps hc=>(dI D Γ tg iter).bind λri=>(dG (Γ.blk scope (DH tg++DR scope.names)) tg).bind λrg=>(D.e (Γ.blk scope (DH tg++DR scope.names)) elt).bind λre=>match ifs with
  |[]=>some ⟨Bb (DH tg).length caps ri.m rg.m (mC (.bl true)) re.m,λ{X} {E} {ca} C=>⟨caps,ri.m,rg.m,_,re.m,rfl,bA C hb hc,ri.ok C,λcl A s₀ H₀ ex xb E' hp=>
    have C':=bD C hb cl A s₀ H₀ ex xb (E':=E') hp
    ⟨rg.ok C',λpq s σ H Q I q=>zjq pq s σ H Q I (Nj (K:=X.K) (E:=E') (ca:=ca) q),(re.ok C').1⟩,Q5 ri.ns⟩⟩
  |[c]=>gd (EL c) λhk=>(D.e (Γ.blk scope (DH tg++DR scope.names)) c).bind λrt=>some ⟨Bb (DH tg).length caps ri.m rg.m rt.m re.m,λ{X} {E} {ca} C=>⟨caps,ri.m,rg.m,rt.m,re.m,rfl,bA C hb hc,ri.ok C,λcl A s₀ H₀ ex xb E' hp=>
    have C':=bD C hb cl A s₀ H₀ ex xb (E':=E') hp
    ⟨rg.ok C',zjp (rt.t hk C'),(re.ok C').1⟩,Q5 ri.ns⟩⟩
  |_=>none
def eLC(D:Dc)(Γ:Gm)(elt:Expr)(gens:List Comprehension)(scope:Scope)(pos:Pos):Option (ER Γ (.ListComp elt gens scope pos)):=match gens with
 |[⟨tg,iter,ifs,0⟩]=>(dC D Γ elt tg iter ifs scope).bind λr=>vl r.m λC=>by
  obtain⟨caps,mi,b,mt,me,h,B,hi,hg,hs⟩:=r.ok C;rw[h];exact r_lcV B (cq:=λX=>X.calm=true) (λ_ _ _ _ _ _ _ _ _=>C.calm) (Vz hi) C.ps C.fr (λcl A s H ex xb E' hp=>(hg cl A s H ex xb E' hp).1) (λcl A s H ex xb E' hp=>(hg cl A s H ex xb E' hp).2.1) (λcl A s H ex xb E' hp=>(hg cl A s H ex xb E' hp).2.2) hs
 |_=>none
def eIf(D:Dc)(Γ:Gm)(c a b:Expr)(pos:Pos):Option (ER Γ (.IfExp c a b pos)):=gd (EL c) λh=>(D.e Γ c).bind λrc=>(D.e Γ a).bind λra=>(D.e Γ b).bind λrb=>some ⟨Dd rc.m ra.m rb.m,λC=>⟨r_ife (rc.t h C) (ra.ok C).1 (rb.ok C).1,λz=>by cases z⟩⟩
def dEs(D:Dc)(Γ:Gm):(e:Expr)->Option (ER Γ e)
 |.Constant c k pos=>eCst Γ c k pos|.Name x pos=>eNam Γ x pos|.Attribute o f pos=>gd (G2 o) λh=>(D.e Γ o).bind λr=>Qw r h Γ.ox.cl λ_ h=>h|.Call f es ks c=>(match f with
  |.Attribute o f ap=>eAtt D Γ o f ap es ks c|.Name f p=>eCal D Γ f p es ks c|_=>none)
 |.Compare a ops bs pos=>eCmp D Γ a ops bs pos|.BinOp a op b pos=>(opF op).bind λg=>(D.e Γ a).bind λra=>(D.e Γ b).bind λrb=>vl (BM (g2 g.g) (AB ra.m (AB rb.m AD))) λC=>r_bin g.ok (ra.ok C).1 (rb.ok C).1|.UnaryOp op a pos=>eUn D Γ op a pos|.BoolOp op vs pos=>(D.b Γ op vs).bind λr=>some ⟨r.m,λC=>⟨(r.ok C).1,λ_=>(r.ok C).2.pt⟩⟩|.IfExp c a b pos=>eIf D Γ c a b pos|.List es pos=>(D.o Γ es).bind λr=>vl (Ay r.m) λC=>r_lst (r.ok C)|.Tuple es k pos=>(D.a Γ es).bind λr=>vl (CK r.m) λC=>r_tup (r.ok C)|.Subscript a k pos=>eSub D Γ a k pos|.ListComp elt gens scope pos=>eLC D Γ elt gens scope pos|_=>none
def dAs(D:Dc)(Γ:Gm):(es:kC)->Option (AR Γ es)
 |[]=>some ⟨AD,λ_=>Vh,λ_ h=>(by cases h),λ_=>rfl⟩|e::es=>gd (DK e) λh=>(D.e Γ e).bind λr=>(D.a Γ es).bind λa=>some ⟨AB r.m a.m,λC=>Vl (r.ok C).1 (a.ok C) (Bz h),λx hx=>(Ð.mp hx).elim (λz=>z▸h) (a.st x),λz=>by cases z⟩
def dOs(D:Dc)(Γ:Gm):(es:kC)->Option (OR Γ es)
 |[]=>some ⟨AD,λ_=>zmt⟩|e::es=>gd (DK e) λh=>(D.e Γ e).bind λr=>(D.o Γ es).bind λa=>some ⟨Ao r.m a.m,λC=>zjk (r.ok C).1 (a.ok C) (Bz h)⟩
def dBs(D:Dc)(Γ:Gm)(op:BoolOp):(es:kC)->Option (BR Γ op es)
 |[]=>none|[a]=>gd (EL a) λh=>(D.e Γ a).bind λr=>some ⟨r.m,λC=>⟨Vf (r.ok C).1,by
   cases op with
   |And=>exact V9 (r.t h C)|Or=>exact V8 (r.t h C)⟩⟩
 |a::b::es=>gd (EL a) λh=>(D.e Γ a).bind λr=>(D.b Γ op (b::es)).bind λrb=>match op,rb with
  |.And,rb=>some ⟨C4 r.m rb.m,λC=>⟨Vn (r.ok C).1 (rb.ok C).1,Va (r.t h C) (rb.ok C).2⟩⟩|.Or,rb=>some ⟨B9 r.m rb.m,λC=>⟨Ve (r.ok C).1 (rb.ok C).1,V7 (r.t h C) (rb.ok C).2⟩⟩
noncomputable def pkB:kE:=["len","isinstance","all","any","abs","min","max","int"]
def isLC:Expr->Bool
 |.ListComp ..=>true|_=>false
def Bg:Nat->kE->Expr->kE
 |0,_,_=>[]|n+1,pk,e=>
  let peek:=λ(x:Expr)=>match x with
   |.Name _ _=>[]|x=>Bg n pk x
  match e with
  |.Name x _=>[x]|.BinOp a _ b _=>Bg n pk a++Bg n pk b|.UnaryOp _ a _=>Bg n pk a|.BoolOp _ vs _=>vs.flatMap (Bg n pk)|.Compare a _ bs _=>peek a++bs.flatMap peek|.IfExp c a b _=>Bg n pk c++Bg n pk a++Bg n pk b|.Call (.Name f _) args [] _=>if pkB.contains f || pk.contains f then args.flatMap peek else args.flatMap (Bg n pk)
  |.Call (.Attribute _ _ _) args [] _=>args.flatMap λa=>if isLC a then Bg n pk a else []
  |.Subscript a k _=>(match k with
   |.Slice lo hi _ _=>Bg n pk a++(match lo with|some e=>Bg n pk e|none=>[])++(match hi with|some e=>Bg n pk e|none=>[])
   |_=>peek a++Bg n pk k)
  |.List es _=>es.flatMap (Bg n pk)|.Tuple es _ _=>es.flatMap (Bg n pk)|.ListComp _ [⟨_,iter,_,_⟩] scope _=>Bg n pk iter++DR scope.names|_=>[]
def Sf(pk:kE):Stmt->kE
 |.Expr (.Call (.Attribute (.Name _ _) _ _) [e] [] _) _=>Bg 40 pk e|.Expr e _=>Bg 40 pk e|.Return (some (.Name _ _)) _=>[]|.Return (some e) _=>Bg 40 pk e|.Assign [.Subscript (.Subscript _ k _) j _] e _=>Bg 40 pk k++Bg 40 pk j++Bg 40 pk e|.Assign [.Subscript _ k _] e _=>Bg 40 pk k++Bg 40 pk e|.Assign [_] e _=>Bg 40 pk e|.If c _ _ _=>Bg 40 pk c|.For _ it _ _ _=>Bg 40 pk it|.While c _ _ _=>Bg 40 pk c|_=>[]
def isIf:Stmt->Bool
 |.If ..=>true|_=>false
def isAsg:Stmt->Bool
 |.Assign [.Name ..] ..=>true|.Expr (.Call (.Attribute (.Name ..) f _) [_] [] _) _=>f == "extend"|_=>false
def mvN:Stmt->Option Str
 |.Assign [.Name ..] (.List [_,_,.Name y _] _) _=>some y|_=>none
def frzs(Γ:Gm)(s:Stmt):kG:=((if isIf s then Γ.ox.gt++Sf Γ.pk s else Sf Γ.pk s).filter λx=>Γ.ow.contains x && !(isAsg s && (Γ.mv.contains x || (Γ.ox.fo.contains x && mvN s == some x)))).eraseDups.filterMap (Dg Γ.N)
def subN:Expr->kE
 |.Call _ es _ _=>es.filterMap fun
  |.Subscript (.Name x _) _ _=>some x|_=>none
 |_=>[]
def Jp(Γ:Gm)(e:Expr):kG:=((Bg 40 Γ.pk e++subN e).filter λx=>Γ.ow.contains x && Γ.mv.contains x).eraseDups.filterMap (Dg Γ.N)
def II(l:kG)(m:AH):AH:=l.foldr EB m
theorem Lb(he:PE X e (tM X.K E ca m)):∀l,PE X e (tM X.K E ca (II l m))
 |[]=>he|i::r=>zmv (Lb he r)
theorem UK{st}(hs:PS X st (GO (tM X.K E ca m) (Fy j))):∀l,PS X st (GO (tM X.K E ca (II l m)) (Fy j))
 |[]=>hs|i::r=>zmi (UK hs r)
def Q3(l:kG)(m:AG):AG:=l.foldr (λi m=>AF (FT i) m) m
def LB(Γ:Gm)(x:Str)(px:Pos):Expr->Bool
 |.ListComp _ _ scope p=>Γ.nm.lookup x == some .local && px.line == p.line && !(scope.names.any λ(n,k)=>n == x && (k == .local || k == .cell))|_=>false
def TR(Γ:Gm)(x:Str):Bool:=Γ.nm.lookup x == some .cell
def Hr(Γ:Gm)(x:Str)(i:Nat)(m:AH):AG:=if Γ.ow.contains x then C0 i m else AW m (AE i)
def CW(c:Str)(ms:Av):AG:=λτ=>match ms τ with
 |some (.v ts _)=>if ts.length<=Az then some (.xc c τ) else none
 |some (.x c)=>some (.xc c τ)|none=>none
section
variable {X:Cx}{E:L2.St->XK}{ca:Str->Value}{Γ:Gm}{mu:Bool}
theorem Nv(h:BB X rest (tS X.K E ca mu w)):∀l ,BB X rest (tS X.K E ca mu (Q3 l w))
 |[]=>h|i::r=>s_frz (Nv h r)
theorem LC(h:Fx e=false):swapsWith e t l env=pure false:=by
 cases e<;>first|rfl|cases h
theorem zd1{env:Env}(h:env.scope.kind=.function):env.blockKind=.function:=by
 unfold Env.blockKind;rw[h]
 rfl
theorem zgn(C:CxOk Γ X E ca){p px:Pos}{x:Str}{l:Nat}(h:LB Γ x px (.ListComp elt gens scope p)=true):swapsWith (.ListComp elt gens scope p) (some (.Name x px)) l X.env=pure true:=by
 have e:swapsWith (.ListComp elt gens scope p) (some (.Name x px)) l X.env=pure (X.env.blockKind == .function && X.env.kindOf x == some .local && px.line == p.line && !(scope.names.any λ(n,k)=>n == x && (k == .local || k == .cell))):=rfl
 rw[e];unfold LB at h
 erw[Æ]at h;have k:X.env.kindOf x=some .local:=by
  show X.env.scope.names.lookup x=some .local;rw[C.nm]
  grind
 rw[zd1 C.kd,k,h.1.2,h.2]
 rfl
theorem zj5(C:CxOk Γ X E ca){px}(h:TR Γ x=true):swapsWith e (some (.Name x px)) l X.env=pure false:=by
 have k:X.env.kindOf x=some .cell:=by
  show X.env.scope.names.lookup x=some .cell;rw[C.nm];exact eq_of_beq h
 have c:(some NameKind.cell == some NameKind.local)=false:=rfl;cases e<;>first|rfl|(unfold swapsWith;grind)
theorem LL(h:Fx e=false):swapsWithSole [t] e l env=pure false:=LC h
theorem Nl(h:HM k=false)(v):assign (.Subscript o k pos) env v=(do
   let ov <- holding [v] (eval o env);let iv <- holding [v,ov] (eval k env)
   standAt pos
   holding [v,ov,iv] (setItem ov iv v)
   release [v,ov,iv] []):=by
 cases k<;>first|rfl|cases h
theorem s_rse(C:CxOk Γ X E ca)(hnr:Γ.ox.nr=false)(hpn:E2 c=none)(hc:c∈Γ.ex)(hg:BX Γ.nm c=true)(hp:CJ c=true)(ha:PA X (e::es) (Bv X.K E ca ms))(hs:∀x∈e::es,DK x=true) :
  PS X (.Raise (some (.Call (.Name c p) (e::es) [] cpos)) none pos) (tS X.K E ca mu (CW c ms)):=by
 obtain⟨T,hT,hni⟩:=C.ex c hc;obtain⟨p1,p2,p3⟩:=CI hp;refine PS.weak (zh3 T hni C.calm (C.md hnr) ha (C.gl hg) p1 (Bz (hs e (Ï ..))) (Fi hs)) λD σ H h=>?_
 obtain⟨F,τ,R,S,q⟩:=h;refine⟨F,τ,R,S,?_⟩;unfold CW at q;cases hm:ms τ with
 |none=>erw[hm]at q<;>exact q.elim|some r=>
  erw[hm]at q;cases r with
  |x c=>exact λF' H' e=>q F' H' σ R e.stp0 (S.ext e)|v ts b=>
   intro F' H' xs e1 rs
   by_cases hz:ts.length<=Az
   .erw[hz,È]at q;refine⟨by rw[<- rs.1,<- FZ];exact hz,?_⟩
    have:=(q F' H' σ R e1.stp0 (S.ext e1)).plain hpn;rw[hT]at this;exact this
   .erw[hz,Ã]at q<;>exact q.elim
end
theorem bN{px pos}(hl:Γ.loc x=true)(hi:Dg Γ.N x=some i)(C:CxOk Γ X E ca)(he:PE X e (tM X.K E ca m))(sw:∀l,swapsWith e (some (.Name x px)) l X.env=pure false) :
  PS X (.Assign [.Name x px] e pos) (tS X.K E ca mu (Hr Γ x i m)):=by
 obtain⟨g1,g2,g3⟩:=C.loc hl hi;unfold Hr;split
 .exact zmg C.nodup g1 g2 he (sw _) g3
 .exact Ti C.nodup g1 g2 he (sw _) g3
def aLC(D:Dc)(Γ:Gm)(x:Str)(i:Nat)(px pos:Pos)(hi:Dg Γ.N x=some i):(e:Expr)->Option (SR Γ (.Assign [.Name x px] e pos))
 |.ListComp elt gens scope p=>gd (LB Γ x px (.ListComp elt gens scope p)) λhw=>(match gens,hw with
  |[⟨tg,iter,ifs,0⟩],hw=>(dC D Γ elt tg iter ifs scope).bind λr=>some ⟨
   Hr Γ x i (II (Jp Γ (.ListComp elt [⟨tg,iter,ifs,0⟩] scope p)) r.m)
   ,λ{X} {E} {ca} C=>by
   have lx:X.env.scope.names.lookup x=some .local:=by
    unfold LB at hw;erw[Æ]at hw;rw[C.nm];exact eq_of_beq hw.1.1
   have hN:X.N[i]?=some x:=by rw[C.N];exact Gc hi
   obtain⟨caps,mi,b,mt,me,h,B,hi',hg,hs⟩:=r.ok C;rw[h];have main:=r_lcS (pos2:=pos) B C.calm hi' C.ps C.fr (λcl A s H ex xb E' hp=>(hg cl A s H ex xb E' hp).1) (λcl A s H ex xb E' hp=>(hg cl A s H ex xb E' hp).2.1) (λcl A s H ex xb E' hp=>(hg cl A s H ex xb E' hp).2.2) hs C.nodup hN lx (zgn C hw)
   have main:=UK main (Jp Γ (.ListComp elt [⟨tg,iter,ifs,0⟩] scope p));unfold Hr;split
   .exact PS.weak main λD σ H h=>Su h
   .exact PS.weak main λD σ H h=>Ng (g:=Fy i) (λ_ _ _ _ z=>Ys z) h⟩
  |_,_=>none)
 |_=>none
def aNm(D:Dc)(Γ:Gm)(x:Str)(px:Pos)(e:Expr)(pos:Pos):Option (SR Γ (.Assign [.Name x px] e pos)):=gd (Γ.loc x) λhl=>ob (Dg Γ.N x) λi hi=>
 if hc:Fx e=false then (D.e Γ e).bind λr=>some ⟨Hr Γ x i (II (Jp Γ e) r.m),λC=>bN hl hi C (Lb (r.ok C).1 _) λ_=>LC hc⟩
 else if hn:TR Γ x=true then (D.e Γ e).bind λr=>some ⟨Hr Γ x i (II (Jp Γ e) r.m),λC=>bN hl hi C (Lb (r.ok C).1 _) λ_=>zj5 C hn⟩
 else aLC D Γ x i px pos hi e
def aTup(D:Dc)(Γ:Gm)(ts:kC)(kt:Nat)(pt:Pos)(e:Expr)(pos:Pos):Option (SR Γ (.Assign [.Tuple ts kt pt] e pos)):=gd (!(zot e || Fx e)) λhc=>(dG Γ (.Tuple ts kt pt)).bind λrg=>(D.e Γ e).bind λr=>some ⟨AW r.m rg.m,λC=>by
 have hc':=Cz hc;rw[Ă]at hc';refine zmc (r.ok C).1 (rg.ok C) (LL hc'.2) ?_ rfl;have ht:=hc'.1;cases e<;>first|rfl|cases ht⟩
def aTp(D:Dc)(Γ:Gm)(ts:kC)(kt:Nat)(pt:Pos)(e:Expr)(pos:Pos):Option (SR Γ (.Assign [.Tuple ts kt pt] e pos)):=
 aTup D Γ ts kt pt e pos
def aSto(D:Dc)(Γ:Gm)(x:Str)(p1:Pos)(j:Expr)(p3:Pos)(e:Expr)(pos:Pos):Option (SR Γ (.Assign [.Subscript (.Name x p1) j p3] e pos)):=gd (!(HM j || Fx e)) λhc=>ob (Γ.var x) λi hi=>(D.e Γ j).bind λrk=>(D.e Γ e).bind λr=>some ⟨Gv i rk.m r.m,λC=>by
 have hc':=Cz hc;rw[Ă]at hc';obtain⟨v1,v2,v3,v4⟩:=C.var (pos:=p1) hi;refine s_sto v1 v2 v3 v4 (r.ok C).1 (rk.ok C).1 (LL hc'.2) ?_ (Nl hc'.1);cases e<;>rfl⟩
def aSt2(D:Dc)(Γ:Gm)(x:Str)(p1:Pos)(j0:Expr)(p2:Pos)(j:Expr)(p3:Pos)(e:Expr)(pos:Pos):Option (SR Γ (.Assign [.Subscript (.Subscript (.Name x p1) j0 p2) j p3] e pos)):=gd (!(HM j0 || HM j || Fx e)) λhc=>ob (Γ.var x) λi hi=>(D.e Γ j0).bind λr0=>(D.e Γ j).bind λrk=>(D.e Γ e).bind λr=>some ⟨JQ i r0.m rk.m r.m,λC=>by
 have hc':=Cz hc;rw[Ă,Ă]at hc';obtain⟨v1,v2,v3,v4⟩:=C.var (pos:=p1) hi;refine zmb v1 v2 v3 v4 (r.ok C).1 (r0.ok C).1 (rk.ok C).1 (O3 hc'.1.1) (LL hc'.2) ?_ (Nl hc'.1.2);cases e<;>rfl⟩
theorem QK{fs:kE}(h:fs.findIdx? (· == f)=some j):f∈fs/\fs[j]?=some f:=by
 obtain⟨q1,q2,_⟩:=Đ.mp h
 grind
def aDpf(D:Dc)(Γ:Gm)(x f:Str)(p1 p2:Pos)(j:Expr)(p3:Pos)(e:Expr)(pos:Pos):Option (SR Γ (.Assign [.Subscript (.Attribute (.Name x p1) f p2) j p3] e pos)):=gd (!(HM j || Fx e)) λhc=>ob Γ.ox.sf λc hs=>ob (Γ.var x) λi hi=>ob (c.2.findIdx? (· == f)) λjj hj=>(D.e Γ j).bind λrk=>(D.e Γ e).bind λr=>some ⟨JS c.1 c.2 jj i rk.m r.m,λC=>by
 have hc':=Cz hc;rw[Ă]at hc';obtain⟨v1,v2,v3,v4⟩:=C.var (pos:=p1) hi;obtain⟨k1,k2⟩:=C.gx.sf c.1 c.2 hs;refine s_dpf (by have:=C.room.units;omega) k1 (k2 f (QK hj).1) hj v1 v2 v3 v4 (r.ok C).1 (rk.ok C).1 (LL hc'.2) ?_ (Nl hc'.1)
 cases e<;>rfl⟩
theorem Zp(hs:Γ.ox.sf=some c)(hi:Γ.var x=some i)(hj:c.2.findIdx? (· == f)=some jj)(hc:(!((c.2.take jj).contains f || !(decide (jj<900))))=true)(C:CxOk Γ X E ca)(he:PE X e (tM X.K E ca m)) :
  PS X (.Assign [.Attribute (.Name x p1) f p2] e pos) (tS X.K E ca Γ.mu (Dx c.1 c.2 jj i m)):=by
 have hc':=Cz hc;rw[Ă,Bool.not_eq_false',ë]at hc';obtain⟨c1,c2⟩:=hc';obtain⟨v1,v2,v3,v4⟩:=C.var (pos:=p1) hi;obtain⟨k1,k2⟩:=C.gx.sf c.1 c.2 hs;exact zmj k1 (k2 f (QK hj).1) (QK hj).2 c1 c2 v1 v2 v3 v4 he (by cases e<;>rfl)
def aFl(D:Dc)(Γ:Gm)(x f:Str)(p1 p2:Pos)(e:Expr)(pos:Pos):Option (SR Γ (.Assign [.Attribute (.Name x p1) f p2] e pos)):=ob Γ.ox.sf λc hs=>ob (Γ.var x) λi hi=>ob (c.2.findIdx? (· == f)) λjj hj=>gd (!((c.2.take jj).contains f || !(decide (jj<900)))) λhc=>match e,hc with
 |.Dict [] [] p,hc=>some ⟨Dx c.1 c.2 jj i Lx,λC=>Zp hs hi hj hc C zmz⟩|e,hc=>(D.e Γ e).bind λr=>some ⟨Dx c.1 c.2 jj i r.m,λC=>Zp hs hi hj hc C (r.ok C).1⟩
def aSub(D:Dc)(Γ:Gm)(a j:Expr)(p3:Pos)(e:Expr)(pos:Pos):Option (SR Γ (.Assign [.Subscript a j p3] e pos)):=match a with
 |.Name x p1=>aSto D Γ x p1 j p3 e pos|.Subscript (.Name x p1) j0 p2=>aSt2 D Γ x p1 j0 p2 j p3 e pos|.Attribute (.Name x p1) f p2=>aDpf D Γ x f p1 p2 j p3 e pos|_=>none
def dAsg(D:Dc)(Γ:Gm)(ts:kC)(e:Expr)(pos:Pos):Option (SR Γ (.Assign ts e pos)):=match ts with
 |[t]=>(match t with
  |.Name x px=>aNm D Γ x px e pos|.Tuple ts kt pt=>aTp D Γ ts kt pt e pos|.Subscript a j p3=>aSub D Γ a j p3 e pos|.Attribute o f p2=>(match o with
   |.Name x p1=>aFl D Γ x f p1 p2 e pos|_=>none)
  |_=>none)
 |_=>none
def SJ(D:Dc)(Γ:Gm)(e:Expr)(pos:Pos):Option (SR Γ (.Expr e pos)):=gd (!(Fx e)) λhc=>(D.e Γ e).bind λr=>some ⟨El r.m,λC=>s_exp (r.ok C).1 (LC (Cz hc))⟩
def xApp(D:Dc)(Γ:Gm)(x:Str)(p:Pos)(f:Str)(apos:Pos)(a:Expr)(cpos pos:Pos):Option (SR Γ (.Expr (.Call (.Attribute (.Name x p) f apos) [a] [] cpos) pos)):=gd (DK a) λh1=>gd (apos.endLine == cpos.line) λh2=>ob (Γ.var x) λi hi=>(D.e Γ a).bind λr=>
 if hf:f="append" then some ⟨Cf i r.m,λC=>by
  subst hf;obtain⟨v1,v2,v3,v4⟩:=C.var (pos:=p) hi;exact s_app v1 v2 v3 v4 (r.ok C).1 (Hq h1) h2⟩ else
 if hf:f="extend" then some ⟨Fl i (II (Jp Γ a) r.m),λC=>by
  subst hf;obtain⟨v1,v2,v3,v4⟩:=C.var (pos:=p) hi;exact s_ext v1 v2 v3 v4 (Lb (r.ok C).1 _) (Hq h1) h2⟩ else
 SJ D Γ _ pos
def dX(D:Dc)(Γ:Gm)(e:Expr)(pos:Pos):Option (SR Γ (.Expr e pos)):=
 match e with
 |.Call (.Attribute (.Name x p) f apos) [a] [] cpos=>xApp D Γ x p f apos a cpos pos|e=>SJ D Γ e pos
def xRet(D:Dc)(Γ:Gm)(o:Option Expr)(pos:Pos):Option (SR Γ (.Return o pos)):=
 if hM:Γ.mu=true then (match o with
 |none=>some ⟨Ny,λC=>by rw[hM];exact zja⟩|some e=>(D.e Γ e).bind λr=>some ⟨JR r.m,λC=>by rw[hM];exact zme (r.ok C).1⟩) else
 gd (!Γ.mu) λhmu=>match o with
 |none=>some ⟨Nx,λC=>by rw[Cz hmu];exact zmd⟩|some e=>(D.e Γ e).bind λr=>some ⟨AN r.m,λC=>by rw[Cz hmu];exact Tu (r.ok C).1⟩
def xRse(D:Dc)(Γ:Gm)(a b:Option Expr)(pos:Pos):Option (SR Γ (.Raise a b pos)):=match a,b with
 |some (.Call (.Name c p) (e::es) [] cp),none=>gd (!(Γ.ox.nr)) λh1=>gd ((E2 c).isNone) λh0=>gd (Γ.ex.contains c) λh2=>gd (BX Γ.nm c) λh3=>gd (CJ c) λh4=>(D.a Γ (e::es)).bind λr=>some ⟨CW c r.m,λC=>s_rse C (Cz h1) (Option.isNone_iff_eq_none.mp h0) (ä.mp h2) h3 h4 (r.ok C) r.st⟩|_,_=>none
def xFor(D:Dc)(Γ:Gm)(tg it:Expr)(body els:kD)(pos:Pos):Option (SR Γ (.For tg it body els pos)):=
 match els with
 |[]=>gd (!(Γ.ox.nr)) λh=>(dI D Γ tg it).bind λri=>(dG Γ tg).bind λrg=>(D.q Γ body).bind λr=>some ⟨Bw ri.m rg.m r.m,λC=>s_for (C.po (Cz h)) C.calm (ri.ok C) (rg.ok C) (r.ok C) (Q5 ri.ns)⟩|_=>none
def xWh(D:Dc)(Γ:Gm)(c:Expr)(body els:kD)(pos:Pos):Option (SR Γ (.While c body els pos)):=match els with
 |[]=>gd (!(Γ.ox.nr)) λh=>gd (EL c) λhk=>(D.e Γ c).bind λrc=>(D.q Γ body).bind λr=>some ⟨Fk rc.m r.m,λC=>s_wh (C.po (Cz h)) (rc.t hk C) (r.ok C)⟩|_=>none
structure UR(Γ:Gm)(e:Expr) where
 m:AK->Option Mo
 ok:∀{X:Cx} {E:L2.St->XK} {ca:Str->Value},CxOk Γ X E ca->PE X e (JK X.K E ca m)/\∀whole,isTrue e X.env whole=(do let v <- whole;standAt e.pos;holding [v] (truthy v))
def aE(D:Dc)(Γ:Gm):(e:Expr)->Option (UR Γ e)
 |.Call (.Name f p) (.Name x q::es) [] c=>gd (CJ f) λh1=>gd (BX Γ.nm f) λh2=>ob (Γ.mus.lookup f) λF hF=>ob (Γ.var x) λi hi=>(D.a Γ es).bind λr=>some ⟨Jg i F.g r.m,λ{X} {E} {ca} C=>⟨by
   obtain⟨hl,⟨DD⟩⟩:=C.ms _ _ hF;obtain⟨v1,v2,v3,v4⟩:=C.var (pos:=q) hi;exact zjl DD C.room C.ps v1 v2 v3 v4 (r.ok C) hl (C.gl h2) (CI h1).1 rfl (Fi r.st),λ_=>rfl⟩⟩
 |_=>none
def xIfM(D:Dc)(Γ:Gm)(c:Expr)(a b:kD)(pos:Pos):Option (SR Γ (.If c a b pos)):=match c with
 |.UnaryOp .Not e p=>(aE D Γ e).bind λrm=>(D.q Γ a).bind λra=>(D.q Γ b).bind λrb=>some ⟨GW true rm.m ra.m rb.m,λC=>zjb (rm.ok C).1 (rm.ok C).2 (ra.ok C) (rb.ok C)⟩|e=>(aE D Γ e).bind λrm=>(D.q Γ a).bind λra=>(D.q Γ b).bind λrb=>some ⟨GW false rm.m ra.m rb.m,λC=>zmh (rm.ok C).1 (rm.ok C).2 (ra.ok C) (rb.ok C)⟩
def xIf(D:Dc)(Γ:Gm)(c:Expr)(a b:kD)(pos:Pos):Option (SR Γ (.If c a b pos)):=
 match xIfM D Γ c a b pos with
 |some r=>some r|none=>
 gd (EL c) λh=>(D.e Γ c).bind λrc=>(D.q Γ a).bind λra=>(D.q Γ b).bind λrb=>some ⟨Ai rc.m ra.m rb.m,λC=>s_if (rc.t h C) (ra.ok C) (rb.ok C)⟩
structure CxS(Γ:Gm)(X:Cx)(ca:Str->Value):Prop where
 N:X.N=Γ.N
 nd:Γ.N.Nodup
 nm:X.env.scope.names=Γ.nm
 rm:Room Γ.lv (WM X.A)
 bl:∀b∈Γ.bl,X.mg b=none
 gx:GxOk Γ.ox Γ.lv X.prog X.w X.K X.mg X.base ca
theorem CxS.var(C:CxS Γ X ca)(h:Γ.var x=some i):X.N[i]?=some x/\DB X.env.scope x/\(x == "__debug__")=false/\(x == "__classdict__")=false:=by
 unfold Gm.var at h;split at h
 .rename_i hp;rw[Æ]at hp;obtain⟨p1,p2,p3⟩:=CI hp.1;exact⟨by rw[C.N];exact Gc h,S8 (by rw[C.nm];exact hp.2),p1,p2⟩
 .cases h
theorem CxS.gl(C:CxS Γ X ca)(h:BX Γ.nm x=true):Gl X x:=by
 show X.env.scope.names.lookup x=some .globalImplicit;rw[C.nm];exact eq_of_beq h
structure XR(Γ:Gm)(e:Expr) where
 m:AH
 ok:∀{X:Cx} {E:L2.St->XK} {ca:Str->Value},CxS Γ X ca->PE X e (tM X.K E ca m)/\(EL e=true->PT X e (BF X.K E ca m))
structure XQ(Γ:Gm)(ss:kD) where
 m:AG
 ok:∀{X:Cx} {E:L2.St->XK} {ca:Str->Value},CxS Γ X ca->BB X ss (tS X.K E ca false m)
def xv{Γ:Gm}{e:Expr}(m:AH)(h:∀{X:Cx} {E:L2.St->XK} {ca:Str->Value},CxS Γ X ca->PE X e (tM X.K E ca m))(t:Kw e:=by trivial):Option (XR Γ e):=some ⟨m,λC=>⟨h C,λ_=>OS (h C) (Sj t)⟩⟩
structure XB(Γ:Gm)(op:BoolOp)(es:kC) where
 m:AH
 ok:∀{X:Cx} {E:L2.St->XK} {ca:Str->Value} {pos:Pos},CxS Γ X ca->PE X (.BoolOp op es pos) (tM X.K E ca m)/\PW X (.BoolOp op es pos) (BF X.K E ca m)
def SK{Γ:Gm}(f:(e:Expr)->Option (XR Γ e))(op:BoolOp):(es:kC)->Option (XB Γ op es)
 |[]=>none|[a]=>gd (EL a) λh=>(f a).bind λr=>some ⟨r.m,λC=>⟨Vf (r.ok C).1,by
   cases op with
   |And=>exact V9 ((r.ok C).2 h)|Or=>exact V8 ((r.ok C).2 h)⟩⟩
 |a::b::es=>gd (EL a) λh=>(f a).bind λr=>(SK f op (b::es)).bind λrb=>match op,rb with
  |.And,rb=>some ⟨C4 r.m rb.m,λC=>⟨Vn (r.ok C).1 (rb.ok C).1,Va ((r.ok C).2 h) (rb.ok C).2⟩⟩|.Or,rb=>some ⟨B9 r.m rb.m,λC=>⟨Ve (r.ok C).1 (rb.ok C).1,V7 ((r.ok C).2 h) (rb.ok C).2⟩⟩
def xIs(Γ:Gm)(f:(e:Expr)->Option (XR Γ e))(p:Pos)(a:Expr)(d:Str)(q c:Pos):Option (XR Γ (.Call (.Name "isinstance" p) [a,.Name d q] [] c)):=gd (BX Γ.nm "isinstance") λc1=>gd (Γ.bl.contains "isinstance") λc2=>gd (BX Γ.nm d) λc3=>gd (CJ d) λc4=>gd (DK a) λc5=>(f a).bind λr=>
 oe (Γ.ox.sb.lookup d) (λtb ht=>xv (BM (g1 (Gd tb)) (AB r.m AD)) λC=>by
  obtain⟨A,k1,k2⟩:=C.gx.sb d tb ht;exact Vi (C.gl c1) (C.bl _ (ä.mp c2)) (JX (v:=.ref A) (C.gl c3) k1 rfl (CI c4).1) ⟨A,.inl rfl⟩ k2 (r.ok C).1 (Bz c5)) <|
 ob (Γ.ox.sv.lookup d) λtb ht=>xv (BM (g1 (Gd tb)) (AB r.m AD)) λC=>by
  obtain⟨k0,t,k1,k2⟩:=C.gx.sv d tb ht;exact Vi (C.gl c1) (C.bl _ (ä.mp c2)) (WG (v:=.ty t) (C.gl c3) k0 k1 rfl (CI c4).2.2 (CI c4).1) ⟨0,.inr ⟨t,rfl⟩⟩ k2 (r.ok C).1 (Bz c5)
def xE(Γ:Gm):Nat->(e:Expr)->Option (XR Γ e)
 |0,_=>none|n+1,e=>match e with
  |.Name x p=>ob (Γ.var x) λi hi=>xv (AA i) λC=>by
   obtain⟨h1,h2,h3,h4⟩:=C.var hi;exact Vb h1 h2 h3 h4
  |.Constant c k p=>(match c with
   |.none=>xv (mC .non) λ_=>Ht WD λ_ _=>.non|.str x=>xv (mC (.str x)) λ_=>Ht WB λ_ _=>.str x|_=>none)
  |.UnaryOp .Not a p=>gd (EL a) λh=>(xE Γ n a).bind λr=>some ⟨BH r.m,λC=>⟨Vg (r.ok C).1,λ_=>Vc ((r.ok C).2 h)⟩⟩|.BoolOp op vs p=>(SK (xE Γ n) op vs).bind λr=>some ⟨r.m,λC=>⟨(r.ok C).1,λ_=>(r.ok C).2.pt⟩⟩|.Call (.Name f p) [a,.Tuple [.Name d1 q1,.Name d2 q2] kt r] [] c=>if hf:f="isinstance" then gd (BX Γ.nm "isinstance" && Γ.bl.contains "isinstance" && BX Γ.nm d1 && CJ d1 && BX Γ.nm d2 && CJ d2 && DK a) λhc=>(xE Γ n a).bind λra=>ob (Γ.ox.sb.lookup d1) λt1 ht1=>ob (Γ.ox.sb.lookup d2) λt2 ht2=>xv (BM (g1 (HL t1 t2)) (AB ra.m AD)) λC=>by
   subst hf;erw[Æ]at hc;obtain⟨⟨⟨⟨⟨⟨c1,c2⟩,c3⟩,c4⟩,c5⟩,c6⟩,c7⟩:=hc;obtain⟨A1,k1,k2⟩:=C.gx.sb d1 t1 ht1;obtain⟨A2,k3,k4⟩:=C.gx.sb d2 t2 ht2;exact zmx (C.gl c1) (C.bl _ (ä.mp c2)) (JX (v:=.ref A1) (C.gl c3) k1 rfl (CI c4).1) (JX (v:=.ref A2) (C.gl c5) k3 rfl (CI c6).1) k2 k4 (ra.ok C).1 (Bz c7) else none
  |.Call (.Name f p) [a,.Name d q] [] c=>if hf:f="isinstance" then (match f,hf with|_,rfl=>xIs Γ (xE Γ n) p a d q c) else none
  |_=>none
def xS(Γ:Gm):Nat->(ss:kD)->Option (XQ Γ ss)
 |0,_=>none|n+1,ss=>match ss with
  |[]=>some ⟨Af,λ_=>UD⟩|s::r=>(match s with
   |.Return (some e) p=>(match r with
    |[]=>(xE Γ 50 e).bind λq=>some ⟨AN q.m,λC=>Nt (Tu (q.ok C).1)⟩|_=>none)
   |.Assign [.Name x q] e p=>gd (Γ.loc x) λh1=>gd (Γ.nm.lookup x == some .local) λh2=>gd (!(Fx e)) λh3=>ob (Dg Γ.N x) λi hi=>(xE Γ 50 e).bind λre=>(xS Γ n r).bind λrs=>some ⟨AF (AW re.m (AE i)) rs.m,λ{X} {E} {ca} C=>by
    have hl:X.env.scope.names.lookup x=some .local:=by rw[C.nm];exact eq_of_beq h2
    exact Nw (Ti (by rw[C.N];exact C.nd) (by rw[C.N];exact Gc hi) (.inl hl) (re.ok C).1 (LC (Cz h3)) (.inr hl)) (rs.ok C)⟩
   |_=>none)
theorem zp6{Γ:Gm}{X:Cx}(C:CxOk Γ X E ca)(hp:BI (Eb X pq xe) E'):CxOk { Γ with ox:={ Γ.ox with nr:=true}} (Eb X pq xe) E' ca:=
 ⟨C.N,C.nd,C.nm,C.kd,C.calm,C.room,C.ce,C.bl,hp,λz=>(by cases z),λz=>(by cases z),YA,C.fs,C.ex,C.ms,⟨C.gx.co,C.gx.cl,C.gx.mt,C.gx.nw,C.gx.sf,C.gx.xs,C.gx.sb,C.gx.sv,C.gx.ci,C.gx.x2,C.gx.wd,C.gx.ti,C.gx.dn,C.gx.rn⟩,C.tr,C.fr⟩
def xTr2(D:Dc)(Γ:Gm)(body:kD)(W1:Str)(np1:Pos)(n1:Str)(b1:Stmt)(suite1:kD)(hpos1:Pos)(W2:Str)(np2:Pos)(n2:Str)(b2:Stmt)(suite2:kD)(hpos2 pos:Pos):Option (SR Γ (.Try body [.ExceptHandler (some (.Name W1 np1)) (some n1) (b1::suite1) hpos1,.ExceptHandler (some (.Name W2 np2)) (some n2) (b2::suite2) hpos2] [] [] pos)):=gd (Γ.ox.df && !(Γ.ox.nr) && !(Γ.mu) && BX Γ.nm W1 && CJ W1 && BX Γ.nm W2 && CJ W2 && (Γ.nm.lookup n1 == some .local) && (Γ.nm.lookup n2 == some .local)) λhc=>ob (Dg Γ.N n1) λi1 hi1=>ob (Dg Γ.N n2) λi2 hi2=>ob (Γ.ox.xs.lookup W1) λcs h2=>ob (Γ.ox.x2.find? λy=>y.1 == W1 && y.2.1 == W2) λy hy=>(D.q { Γ with ox:={ Γ.ox with nr:=true } } body).bind λu=>(xS Γ 50 (b1::suite1)).bind λh=>(xS Γ 50 (b2::suite2)).bind λg=>some ⟨GV i1 i2 cs y.2.2 u.m h.m g.m,λ{X} {E} {ca} C=>by
 erw[Æ,Bool.not_eq_true']at hc;obtain⟨⟨⟨⟨⟨⟨⟨⟨c1,c2⟩,c3⟩,c5⟩,c6⟩,c7⟩,c8⟩,c4⟩,c4b⟩:=hc;obtain⟨T,hT⟩:=C.gx.xs W1 cs h2;obtain⟨y1,y2,y3⟩:=y;have hy1:=List.find?_some hy;rw[Æ]at hy1;have e1:y1=W1:=eq_of_beq hy1.1;have e2:y2=W2:=eq_of_beq hy1.2;subst e1;subst e2;obtain⟨T1,T2,hT2⟩:=C.gx.x2 _ _ _ (Ř hy)
 have eT:T.C=T1.C:=by
  have:=T.m.symm.trans T1.m;injection this with z
  injection z
 obtain⟨t1,t2⟩:=C.tr c1;have g0:∀(E':L2.St->XK) pq xe,BI (Eb X pq xe) E'->BB (Eb X pq xe) body (tS X.K E' ca Γ.mu u.m):=λE' pq xe hp=>u.ok (zp6 C hp)
 generalize u.m=um at g0 ⊢;rw[c3]at g0 ⊢;exact zma T1 T2 (λc C h=>eT▸hT c C h) hT2 t1 t2 C.nodup (by rw[C.N];exact Gc hi1) (by rw[C.nm];exact eq_of_beq c4) (by rw[C.N];exact Gc hi2) (by rw[C.nm];exact eq_of_beq c4b) g0 (λa=>h.ok ⟨C.N,C.nd,C.nm,⟨rfl,C.room.dp,C.room.un⟩,C.bl,C.gx⟩) (λa=>g.ok ⟨C.N,C.nd,C.nm,⟨rfl,C.room.dp,C.room.un⟩,C.bl,C.gx⟩) (C.gl c5) (CI c6).1 (C.gl c7) (CI c8).1⟩
def xTry(D:Dc)(Γ:Gm)(body:kD)(hs:List ExceptHandler)(els Aq:kD)(pos:Pos):Option (SR Γ (.Try body hs els Aq pos)):=match hs,els,Aq with
 |[.ExceptHandler (some (.Name W1 np1)) (some n1) (b1::s1) hp1,.ExceptHandler (some (.Name W2 np2)) (some n2) (b2::s2) hp2],[],[]=>xTr2 D Γ body W1 np1 n1 b1 s1 hp1 W2 np2 n2 b2 s2 hp2 pos|_,_,_=>none
def dSt(D:Dc)(Γ:Gm):(s:Stmt)->Option (SR Γ s)
 |.Pass _=>some ⟨Af,λ_=>zmf⟩|.Break _=>some ⟨LV,λ_=>zjc⟩|.Continue _=>some ⟨VC,λ_=>zdz⟩|.Return o pos=>xRet D Γ o pos|.Expr e pos=>dX D Γ e pos|.Assign ts e pos=>dAsg D Γ ts e pos|.If c a b pos=>xIf D Γ c a b pos|.For tg it body els pos=>xFor D Γ tg it body els pos|.While c body els pos=>xWh D Γ c body els pos|.Raise a b pos=>xRse D Γ a b pos|.Try body hs els Aq pos=>xTry D Γ body hs els Aq pos|_=>none
def dSq(D:Dc)(Γ:Gm):(ss:kD)->Option (QR Γ ss)
 |[]=>some ⟨Af,λ_=>UD⟩|[s]=>(match D.s Γ s with
  |some r=>some ⟨Q3 (frzs Γ s) r.m,λC=>Nv (Nt (r.ok C)) _⟩|none=>if Γ.ox.no then some ⟨LU,λ_=>Nt UC⟩ else none)
 |s::s2::r=>(D.q Γ (s2::r)).bind λrs=>match D.s Γ s with
  |some q=>some ⟨Q3 (frzs Γ s) (AF q.m rs.m),λC=>Nv (Nw (q.ok C) (rs.ok C)) _⟩|none=>if Γ.ox.no then some ⟨AF LU rs.m,λC=>Nw UC (rs.ok C)⟩ else none
def HS:Nat->Dc
 |0=>⟨λ_ _=>none,λ_ _=>none,λ_ _=>none,λ_ _ _=>none,λ_ _=>none,λ_ _=>none⟩|n+1=>⟨dEs (HS n),dAs (HS n),dOs (HS n),dBs (HS n),dSt (HS n),dSq (HS n)⟩
def KL(n:Nat)(Γ:Gm)(ss:kD):Option (AG):=((HS n).q Γ ss).map QR.m
structure GoodS(ca:Str->Value)(n:Nat):Prop where
 ss:∀{Γ:Gm} {X:Cx} {E:L2.St->XK} {st:kD} {m:AG},CxOk Γ X E ca->KL n Γ st=some m->BB X st (tS X.K E ca Γ.mu m)
theorem Q0(ca)(n):GoodS ca n:=⟨λC h=>by
 obtain⟨r,_,rfl⟩:=Õ.mp h;exact r.ok C⟩
end Pu
end
namespace Pu
open PySem PySem.Spec PyProof.Rows L2 Zw Zx
theorem Oh:True:=trivial
noncomputable def LW(n:Nat)(u:AG)(ts:kL):Option Ru:=match u (ts.map some++List.replicate (n - ts.length) none) with
 |some (.rt t)=>some (.ok t)|some (.nx _)=>some (.ok .non)|some (.xc c _)=>some (.exc c)|_=>none
def A5(k n:Nat)(u:AG)(ts:kL):Option Ru:=if ts.length=k then LW n u ts else none
theorem Nm(hR:∀i a,¬ R i a)(s:Stp F H (tot R) F' H' O'):Ext F H F' H' O' where
 hh:=λb u e=>s.kp b u (λ⟨i,z⟩=>hR i b z) e
 ff:=s.ff
 fh:=s.fh
 nb:=λb z=>(s.nw b z).elim (λ⟨i,w⟩=>absurd w (hR i b)) id
 nf:=λb u e=>(s.nf b u e).elim .inl λz=>z.elim (λ⟨i,w⟩=>absurd w (hR i b)) .inr
theorem zgo{K}(fh:A4 F H)(r:Ag K F ts vs):StR K F H (start N vs) (ts.map some++List.replicate (N.length - ts.length) none) (λ_=>R0):=by
 have hl:=r.1;refine⟨fh,by simp[L2.start,hl],λi t e=>?_,λ_ _ z=>z.elim,λ_ _ _ _ z=>z.elim⟩
 unfold L2.start
 by_cases hi:i<ts.length
 .rw[ú (by simpa using hi),Ê]at e
  obtain⟨t',e1,e2⟩:=Õ.mp e;cases e2;have hv:i<vs.length:=by omega
  refine⟨vs[i],?_,(r.2 i t vs[i] e1 (Â hv)).any⟩
  grind
 grind
theorem zmp{K}{N ps:kE}(h:Ba K ca (A5 ps.length N.length u) vs H Q E):tS K (λ_=>E) ca false u { nx:=λ_ H'=>Q .non H',rt:=Q} (start N vs) H:=by
 obtain⟨F',ts,fh,r,q⟩:=h;refine⟨F',_,_,zgo fh r,?_⟩;unfold A5 at q
 by_cases hl:ts.length=ps.length
 .erw[hl]at q;unfold LW at q;cases ho:u (ts.map some++List.replicate (N.length - ts.length) none) with
  |none=>grind|some o=>
   erw[ho]at q;cases o with
   |nx τ=>exact λF1 H1 σ1 R1 s1 S1=>q F1 H1 .non R0 ((Nm (λ_ _ z=>z) s1).mono λ_ z=>z.elim) .non|rt t=>exact λF1 H1 x B s1 r1=>q F1 H1 x B (Nm (λ_ _ z=>z) s1) r1|bk τ=>exact q.elim|ct τ=>exact q.elim|xc c τ=>exact λF1 H1 σ1 R1 s1 S1=>q F1 H1 ((Nm (λ_ _ z=>z) s1).mono λ_ z=>z.elim)
 grind
theorem ZH{K}{st:Stmt}(F:FunD K x qual st f fd)(S:FnScope N ps (AV st))
  (hΓ:Γ.N=N) (hnm:Γ.nm=(AV st).names) (hce:∀x∈Γ.ce,Γ.nm.lookup x=some .cell) (hlv:Γ.lv=k) (hbl:∀b∈Γ.bl,mg b=none)
  (hfs:∀f F,Γ.fns.lookup f=some F->F.lv<=k/\Nonempty (DefX P w K mg base F.lv f F.ps (Ba K ca F.g))) (hex:∀c∈Γ.ex,∃T:ECls K mg c,ca c=.ref T.C/\Cq K T.C=some none)
  (hms:∀f F,Γ.mus.lookup f=some F->F.lv<=k/\Nonempty (DefX P w K mg base F.lv f F.ps (Cu K ca F.g))) (hmu:Γ.mu=false) (hgx:GxOk Γ.ox k P w K mg base ca) (hu:KL n Γ (GA st)=some u):FnOk P w K mg base (Ce P w) (k+1) f fd ps (Ba K ca (A5 ps.length N.length u)):=by
 refine O9 F S (λvs H Q E h=>?_) λcdv A outer s H vs Q E hr h=>?_
 .obtain⟨F',ts,_,r,q⟩:=h;unfold A5 at q
  by_cases hl:ts.length=ps.length
  .rw[<- r.1,hl]
  grind
 .have C:CxOk Γ (FD (Ce P w) P w K mg base N qual (AV st) f cdv A outer s H E) (λ_=>E) ca:=by
   refine⟨hΓ.symm,by rw[hΓ];exact S.nd,hnm.symm,S.kind,rfl,by rw[hlv];exact hr,λy hy=>⟨rfl,hce y hy⟩,hbl,O7,λ_=>Ų,λ_=>Oi,Oh,λf F e=>by rw[hlv];exact hfs f F e,hex,λf F e=>by rw[hlv];exact hms f F e,by rw[hlv];exact hgx,λ_=>⟨rfl,rfl⟩,⟨_,_,rfl,rfl⟩⟩
  have G:=(Q0 ca n).ss C hu;rw[hmu]at G;refine⟨_,G,?_⟩;exact zmp h
def GX(k n:Nat)(u:AG)(ts:kL):Option Ru:=if ts.length=k then (match u (ts.map some++List.replicate (n - ts.length) none) with
 |some (.rt t)=>some (.ok t)|some (.nx τ)=>(match Fm .non τ with
  |some (.rt t)=>some (.ok t)|_=>none)
 |some (.xc c _)=>some (.exc c)|_=>none) else none
theorem TY{K}(fh:A4 F H)(r0:Rp K F H t0 x0 A)(r:Ag K F ts vs):StR K F H (start N (x0::vs)) ((t0::ts).map some++List.replicate (N.length - (t0::ts).length) none) (λi=>if i=0 then A else R0):=by
 have hl:=r.1;refine⟨fh,by simp[L2.start,hl],λi t e=>?_,λi a z=>?_,λi j a hij z1 z2=>?_⟩
 .unfold L2.start
  by_cases hi:i<(t0::ts).length
  .rw[ú (by simpa using hi),Ê]at e
   obtain⟨t',e1,e2⟩:=Õ.mp e;cases e2;cases i with
   |zero=>cases e1;exact⟨x0,by simp,r0⟩|succ i=>
    have hi' :=by simpa using hi
    have hv:i<vs.length:=by omega
    refine⟨vs[i],?_,(r.2 i t vs[i] (by simpa using e1) (Â hv)).any⟩
    rw[ú (by simpa using hv),Ê,ŗ,Â hv]
    rfl
  grind
 .by_cases hi:i=0
  .subst hi;exact⟨t0,rfl⟩
  .erw[hi,Ã]at z;exact z.elim
 .by_cases hi:i=0
  .have hj:¬ j=0:=λz=>hij (hi.trans z.symm)
   erw[hj,Ã]at z2;exact z2
  .erw[hi,Ã]at z1;exact z1
theorem Sl:tot (λi=>if i=0 then A else R0)=A:=funext λa=>propext ⟨λ⟨i,z⟩=>by
 by_cases hi:i=0
 .grind
 .erw[hi]at z;exact z.elim,λz=>⟨0,by simpa using z⟩⟩
theorem zoz{K}{st:Stmt}{Γ:Gm}(F:FunD K x qual st f fd)(S:FnScope N ps (AV st))
  (hΓ:Γ.N=N) (hnm:Γ.nm=(AV st).names) (hce:∀x∈Γ.ce,Γ.nm.lookup x=some .cell) (hlv:Γ.lv=k) (hbl:∀b∈Γ.bl,mg b=none)
  (hfs:∀f F,Γ.fns.lookup f=some F->F.lv<=k/\Nonempty (DefX P w K mg base F.lv f F.ps (Ba K ca F.g))) (hex:∀c∈Γ.ex,∃T:ECls K mg c,ca c=.ref T.C/\Cq K T.C=some none)
  (hms:∀f F,Γ.mus.lookup f=some F->F.lv<=k/\Nonempty (DefX P w K mg base F.lv f F.ps (Cu K ca F.g))) (hmu:Γ.mu=true) (hgx:GxOk Γ.ox k P w K mg base ca) (hu:KL n Γ (GA st)=some u):FnOk P w K mg base (Ce P w) (k+1) f fd ps (Cu K ca (GX ps.length N.length u)):=by
 refine O9 F S (λvs H Q E h=>?_) λcdv A outer s H vs Q E hr h=>?_
 .obtain⟨F',p,l,ts,B,vs',_,rfl,r0,r,q⟩:=h;unfold GX at q
  by_cases hl:(T.nd true (.pin p) l::ts).length=ps.length
  .rw[<- hl,Ø,Ø,r.1]
  .erw[hl,Ã]at q<;>exact q.elim
 .have C:CxOk Γ (FD (Ce P w) P w K mg base N qual (AV st) f cdv A outer s H E) (λ_=>E) ca:=by
   refine⟨hΓ.symm,by rw[hΓ];exact S.nd,hnm.symm,S.kind,rfl,by rw[hlv];exact hr,λy hy=>⟨rfl,hce y hy⟩,hbl,O7,λ_=>Ų,λ_=>Oi,Oh,λf F e=>by rw[hlv];exact hfs f F e,hex,λf F e=>by rw[hlv];exact hms f F e,by rw[hlv];exact hgx,λ_=>⟨rfl,rfl⟩,⟨_,_,rfl,rfl⟩⟩
  have G:=(Q0 ca n).ss C hu;rw[hmu]at G;refine⟨_,G,?_⟩;obtain⟨F',p,l,ts,B,vs',fh,rfl,r0,r,q⟩:=h;refine⟨F',_,_,TY fh r0 r,?_⟩;unfold pS;rw[Sl];unfold GX at q
  by_cases hl:(T.nd true (.pin p) l::ts).length=ps.length
  .erw[hl,È]at q;rw[hl];cases ho:u ((T.nd true (.pin p) l::ts).map some++List.replicate (N.length - ps.length) none) with
   |none=>erw[ho]at q<;>exact q.elim|some o=>
    erw[ho]at q;cases o with
    |nx τ=>
     intro F1 H1 σ1 R1 s1 S1;simp only at q;cases hr0:Fm .non τ with
     |none=>erw[hr0]at q<;>exact q.elim|some o=>obtain⟨p1,l1,h0,rfl⟩:=OL hr0;erw[hr0]at q;exact q F1 H1 .non (R1 0) (s1.mono λa z=>⟨0,z⟩) (OK S1 h0 rfl .non)
    |rt t=>exact λF1 H1 x B1 s1 r1=>q F1 H1 x B1 s1 r1|bk τ=>exact q.elim|ct τ=>exact q.elim|xc c τ=>exact λF1 H1 σ1 R1 s1 S1=>q F1 H1 (s1.mono λ_ z=>z.elim)
  .erw[hl,Ã]at q<;>exact q.elim
theorem B5{α:Type}{P:α->Prop}:∀x∈([]:List α),P x:=λ_ h=>by cases h
theorem BA{α:Type}{P:α->Prop}{a}{l}(h:P a)(r:∀x∈l,P x):∀x∈a::l,P x:=λx hx=>by
 obtain rfl|hx:=Ð.mp hx
 .exact h
 .exact r x hx
theorem JF{P:k9->Prop}(h:P []):∀us,us.length=0->P us:=λus e=>by
 cases us with
 |nil=>exact h|cons a r=>cases e
theorem DG{P:k9->Prop}(h:∀a us,us.length=k->P (a::us)):∀us,us.length=k+1->P us:=λus e=>by
 cases us with
 |nil=>cases e|cons a r=>exact h a r (Nat.succ.inj e)
theorem Na{P:k9->Prop}(h:∀a,P [a]):∀us:k9,us.length=1->P us:=DG λa=>JF (h a)
theorem Kt{P:k9->Prop}(h:∀a b,P [a,b]):∀us:k9,us.length=2->P us:=DG λa=>DG λb=>JF (h a b)
theorem N9{P:k9->Prop}(h:∀a b c,P [a,b,c]):∀us,us.length=3->P us:=DG λa=>DG λb=>DG λc=>JF (h a b c)
theorem N8{P:k9->Prop}(h:∀a b c d,P [a,b,c,d]):∀us,us.length=4->P us:=DG λa=>DG λb=>DG λc=>DG λd=>JF (h a b c d)
theorem N7{P:k9->Prop}(h:∀a b c d e f,P [a,b,c,d,e,f]):∀us,us.length=6->P us:=DG λa=>DG λb=>DG λc=>DG λd=>DG λe=>DG λf=>JF (h a b c d e f)
section
variable {P:Program}{w:World}{K:k6}{mg:Str->Option Value}{base:Heap}{ca:Str->Value}{k:Nat}
theorem Ac:∀f F,([]:List (Str×Fn)).lookup f=some F->F.lv<=k/\Nonempty (DefX P w K mg base F.lv f F.ps (Ba K ca F.g)):=λ_ _ h=>by cases h
theorem zi5{F0:Fn}(hk:F0.lv<=k)(D:DefX P w K mg base F0.lv x F0.ps (Ba K ca F0.g))(r:∀f F,l.lookup f=some F->F.lv<=k/\Nonempty (DefX P w K mg base F.lv f F.ps (Ba K ca F.g))) :
  ∀f F,((x,F0)::l).lookup f=some F->F.lv<=k/\Nonempty (DefX P w K mg base F.lv f F.ps (Ba K ca F.g)):=λf F h=>by
 rw[ö]at h;cases hf:f == x with
 |true=>rw[hf]at h;cases h;rw[eq_of_beq hf];exact⟨hk,⟨D⟩⟩|false=>rw[hf]at h;exact r f F h
theorem J5:∀f F,([]:List (Str×Fn)).lookup f=some F->F.lv<=k/\Nonempty (DefX P w K mg base F.lv f F.ps (Cu K ca F.g)):=λ_ _ h=>by cases h
theorem zhf{F0:Fn}(hk:F0.lv<=k)(D:DefX P w K mg base F0.lv x F0.ps (Cu K ca F0.g))(r:∀f F,l.lookup f=some F->F.lv<=k/\Nonempty (DefX P w K mg base F.lv f F.ps (Cu K ca F.g))) :
  ∀f F,((x,F0)::l).lookup f=some F->F.lv<=k/\Nonempty (DefX P w K mg base F.lv f F.ps (Cu K ca F.g)):=λf F h=>by
 rw[ö]at h;cases hf:f == x with
 |true=>rw[hf]at h;cases h;rw[eq_of_beq hf];exact⟨hk,⟨D⟩⟩|false=>rw[hf]at h;exact r f F h
def LK(K:k6):Sp:=λvs H Q _=>∃(a:Addr) (ns:kF),vs=[.ref a]/\GG K H a (ns.map V.int)/\ns.length<=63/\∀H',Q (.bl true) H'
theorem GG.of(hO:ND H)(h:AX K H a xs):GG K H a xs:=by
 rcases h with (h|h)|h
 .rcases hO a with z|⟨o,ys,z⟩<;>rw[h]at z<;>cases z
 .exact .inl h
 .exact .inr h
def CH(ns:kF):T:=.nd false .rl (ns.map T.int)
theorem VH:∀ns:kF,Ag K F (ns.map T.int) (ns.map V.int)
 |[]=>.nil|n::r=>.cons (H:=F) (.int n) (VH r)
theorem zog{f:Addr}(F:FnOk P w K mg base (Ce P w) k f fd ["_law_script"] (Ba K ca R))(h:∀ns:kF,ns.length<=63->R [CH ns]=some (.ok (.bl true))):FnOk P w K mg base Ki k f fd ["_law_script"] (LK K):=by
 refine⟨λvs H Q E hs=>?_,λA outer s H args us vs Q E hr e0 hb hv hs=>?_⟩
 .obtain⟨a,ns,rfl,_⟩:=hs
  rfl
 .obtain⟨a,ns,rfl,hq,h63,q⟩:=hs;refine ÿ (F.run A outer s H args us _ Q E0 hr e0 hb hv ⟨H,[CH ns],.refl _,.cons (H:=H) (Ag.of_node hq (VH ns)) .nil,?_⟩) λr s' hx=>?_
  .rw[h ns h63];intro F' H' z C e r;rw[r.bl_inv];exact q H'
  .cases r with
   |error v=>obtain⟨_,_,_,_,_,_,_,_,_,_,_,_,z⟩:=hx;exact z.elim
   |ok fl=>cases fl<;>exact hx
end
def GY(C:Addr)(fs:kE)(k n:Nat)(u:AG)(p:Addr)(ts:kL):Option Ru:=if ts.length+1=k then (match u ((T.oob p C fs []::ts).map some++List.replicate (n - (ts.length+1)) none) with
 |some (.nx τ)=>(match Fq τ 0 C fs with
  |some (q,l)=>if q=p then some (.ok (.obj (.ins C fs) (BJ l))) else none
  |none=>none)
 |some (.xc c _)=>some (.exc c)|_=>none) else none
open Classical in
def EW(C:Addr)(fs:kE)(k n:Nat)(u:AG)(ts:kL):Option Ru:=if h:∃r,∀p,GY C fs k n u p ts=some r then some h.choose else none
theorem VE(h:∀p,GY C fs k n u p ts=some r):EW C fs k n u ts=some r:=by
 have hx:∃r,∀p,GY C fs k n u p ts=some r:=⟨r,h⟩;unfold EW;rw[dif_pos hx];have e:=(hx.choose_spec 0).symm.trans (h 0);exact e
theorem VF(h:EW C fs k n u ts=some r)(p):GY C fs k n u p ts=some r:=by
 unfold EW at h;split at h
 .rename_i hx;cases h;exact hx.choose_spec p
 .cases h
theorem zp0{P:Program}{w:World}{K:k6}{base:Heap}{x qual:Str}{st:Stmt}{f:Addr}{N ps:kE}{k n:Nat}{Γ:Gm}{u:AG}{C:Addr}{fs:kE}(F:FunD K x qual st f fd)(S:FnScope N ps (AV st))
  (hΓ:Γ.N=N) (hnm:Γ.nm=(AV st).names) (hce:∀x∈Γ.ce,Γ.nm.lookup x=some .cell) (hlv:Γ.lv=k) (hbl:∀b∈Γ.bl,mg b=none)
  (hfs:∀f F,Γ.fns.lookup f=some F->F.lv<=k/\Nonempty (DefX P w K mg base F.lv f F.ps (Ba K ca F.g))) (hex:∀c∈Γ.ex,∃T:ECls K mg c,ca c=.ref T.C/\Cq K T.C=some none)
  (hms:∀f F,Γ.mus.lookup f=some F->F.lv<=k/\Nonempty (DefX P w K mg base F.lv f F.ps (Cu K ca F.g))) (hmu:Γ.mu=false) (hgx:GxOk Γ.ox k P w K mg base ca) (hu:KL n Γ (GA st)=some u):FnOk P w K mg base (Ce P w) (k+1) f fd ps (JM K ca C (EW C fs ps.length N.length u)):=by
 refine O9 F S (λvs H Q E h=>?_) λcdv A outer s H vs Q E hr h=>?_
 .obtain⟨F',p,dx,ts,vs',_,rfl,_,_,r,q⟩:=h;cases hg:EW C fs ps.length N.length u ts with
  |none=>rw[hg]at q;exact q.elim|some rr=>
   have h0:=VF hg 0;unfold GY at h0
   by_cases hl:ts.length+1=ps.length
   .rw[Ø,<- r.1,hl]
   .rw[if_neg hl]at h0;cases h0
 .have CC:CxOk Γ (FD (Ce P w) P w K mg base N qual (AV st) f cdv A outer s H E) (λ_=>E) ca:=by
   refine⟨hΓ.symm,by rw[hΓ];exact S.nd,hnm.symm,S.kind,rfl,by rw[hlv];exact hr,λy hy=>⟨rfl,hce y hy⟩,hbl,O7,λ_=>Ų,λ_=>Oi,Oh,λf F e=>by rw[hlv];exact hfs f F e,hex,λf F e=>by rw[hlv];exact hms f F e,by rw[hlv];exact hgx,λ_=>⟨rfl,rfl⟩,⟨_,_,rfl,rfl⟩⟩
  have G:=(Q0 ca n).ss CC hu;rw[hmu]at G;refine⟨_,G,?_⟩;obtain⟨F',p,dx,ts,vs',fh,rfl,fp,hp,r,q⟩:=h;have r0:Rp K F' H (.oob p C fs []) (.ref p) (λa=>a=p\/∃j:Nat,R0 a):=.oob (xs:=[]) (λ_=>R0) fp (by rw[List.zip_nil_right];exact hp) rfl (λi t x h=>by simp at h) (λ_ _ _ _ z=>z.elim) (λ_ z=>z) (λ_ _ z=>z.elim)
  have hA:(λa=>a=p\/∃j:Nat,R0 a)=λa=>a=p:=funext λa=>propext ⟨λz=>z.elim id λ⟨_,w⟩=>w.elim,λz=>.inl z⟩
  refine⟨F',_,_,TY fh r0 r,?_⟩;unfold pS;rw[Sl,hA];cases hg:EW C fs ps.length N.length u ts with
  |none=>rw[hg]at q;exact q.elim|some rr=>
   rw[hg]at q;have h0:=VF hg p;unfold GY at h0
   by_cases hl:ts.length+1=ps.length
   .rw[if_pos hl]at h0;have el:(T.oob p C fs []::ts).length=ts.length+1:=rfl;rw[el];cases ho:u ((T.oob p C fs []::ts).map some++List.replicate (N.length - (ts.length+1)) none) with
    |none=>rw[ho]at h0;cases h0|some o=>
     rw[ho]at h0;cases o with
     |nx τ=>
      simp only at h0;intro F1 H1 σ1 R1 s1 S1;cases hoo:Fq τ 0 C fs with
      |none=>rw[hoo]at h0;cases h0|some ql=>
       obtain⟨q0,l⟩:=ql;rw[hoo]at h0;simp only at h0
       by_cases hq:q0=p
       .rw[if_pos hq]at h0;subst hq;cases h0;have h00:=O8 hoo;have S2:=S1.frz h00;obtain⟨y,ey,ry⟩:=S1.rep 0 _ h00;obtain⟨dx2,xs2,Rr,rfl,hA2,fp2,hp2,ro,dp⟩:=ry.oob_inv;have n1:∀a,R1 0 a->F1 a=none:=λa z=>(S1.dom z).1
        have r2:=ry.share (H':=H1) (ES (H:=H1) n1) λa u z q=>by rw[Dj z];exact q
        simp only at q;refine q (frz F1 H1 (R1 0)) H1 ⟨s1.ff.trans (ES n1),HP S1.fh,s1.kp,λb z=>z.elim,λb u e=>?_⟩ r2
        by_cases hb:R1 0 b
        .exact(s1.nw b ⟨0,hb⟩).elim (λz=>.inr (.inl z)) λz=>.inr (.inr z)
        .rw[EO hb]at e;exact s1.nf b u e
       .rw[if_neg hq]at h0;cases h0
     |rt t=>cases h0|bk τ=>cases h0|ct τ=>cases h0|xc c τ=>cases h0;simp only at q;exact λF1 H1 σ1 R1 s1 S1=>q F1 H1 (s1.mono λ_ z=>z.elim)
   .rw[if_neg hl]at h0;cases h0
theorem C6{κ α:Type} [BEq κ]{P:κ->α->Prop}:∀y b,[].lookup y=some b->P y b:=λ_ _ h=>by cases h
theorem Ci{κ α:Type} [BEq κ] [LawfulBEq κ]{P:κ->α->Prop}{x}{a}{l}(h:P x a)(r:∀y b,l.lookup y=some b->P y b):∀y b,((x,a)::l).lookup y=some b->P y b:=λy b e=>by
 rw[ö]at e;cases hf:y == x with
 |true=>rw[hf]at e;cases e;rw[eq_of_beq hf];exact h|false=>rw[hf]at e;exact r y b e
theorem OH{K}:∀ys:kE,Ag K F (ys.map T.str) (ys.map V.str)
 |[]=>.nil|y::r=>.cons (H:=F) (.str y) (OH r)
theorem Xg{P:Str->Fn->List (Nat×kL)->Prop}:∀x F ds,[].lookup x=some (F,ds)->P x F ds:=λ_ _ _ h=>by cases h
theorem Xh{P:Str->Fn->List (Nat×kL)->Prop}(h:P x0 F0 d0)(r:∀x F ds,l.lookup x=some (F,ds)->P x F ds):∀x F ds,((x0,F0,d0)::l).lookup x=some (F,ds)->P x F ds:=λx F ds e=>by
 rw[ö]at e;cases hf:x == x0 with
 |true=>rw[hf]at e;cases e;rw[eq_of_beq hf];exact h|false=>rw[hf]at e;exact r x F ds e
def aD(K:k6)(C:Addr):=(MW K C,W.subIn K (.ref C) (.ref C),(W.clsIn K C).isSome,W.typeIn K (.ref C),W.findIn K (.ref C) "__getattribute__",W.findIn K (.ref C) "__getattr__",W.findIn K (.ref C) "__class__",W.mroIn K C (.type "object"),W.mroIn K C (.type "BaseException"))
def HQ{K:k6}{mg:Str->Option Value}{x:Str}(g:W.specialIn K (.builtin "object.__class__") "__get__"=some (some (.builtin "getset_descriptor.__get__"))/\W.takesIn K (.builtin "object.__class__")=some true)(C:Addr)(m:mg x=some (.ref C))(h:aD K C=(true,some true,true,some (.type "type"),some (some (.builtin "BaseException.__getattribute__")),some none,some (some (.builtin "object.__class__")),some true,some true)):ECls K mg x:=⟨C,m,by
 unfold aD at h;erw[Prod.mk.injEq,Ļ]at h;obtain⟨h1,h2,h3,h4,h5,h6,h7,h8,h9⟩:=h;exact⟨h1,h2,h3,h4,h5,h6,h7,h8,h9,g.1,g.2⟩⟩
theorem JI{K}{tb:List (Addr×Bool)}(e:∀C∈tb.map Prod.fst,ExcK K C)(h:(tb.all λx=>W.kitOne K (.ref x.1) A == some x.2)=true):∀C b,tb.lookup C=some b->ExcK K C/\W.kitOne K (.ref C) A=some b:=λC b hl=>by
 obtain⟨l,r,q,_⟩:=List.lookup_eq_some_iff.mp hl;have hm:(C,b)∈tb:=by rw[q];exact ã _ (.head _)
 exact⟨e C (Ĕ hm),eq_of_beq (æ.mp h (C,b) hm)⟩
theorem xs_of{K:k6}{W:Str}{ca:Str->Value}{cs:List (Str×Addr)}(T:ECls K mg W)(h:(cs.all λe=>(match ca e.1 with|.ref a=>a == e.2|_=>false) && PySem.W.subIn K (.ref e.2) (.ref T.C) == some true)=true):∃T:ECls K mg W,∀c C,cs.lookup c=some C->ca c=.ref C/\PySem.W.subIn K (.ref C) (.ref T.C)=some true:=⟨T,λc C hl=>by
 have h:=æ.mp h _ (ă hl);rw[Æ]at h;refine⟨?_,eq_of_beq h.2⟩;have h:=h.1;cases e:ca c with
 |ref a=>erw[e]at h;rw[eq_of_beq h]|_=>erw[e]at h;cases h⟩
theorem Ab{G:Gx}{lv:Nat}{P:Program}{w:World}{K:k6}{base:Heap}{ca}
  (co:∀x t,G.co.lookup x=some t->∃u v,mg x=some u/\A8 v u/\∀F:Hp,Rp K F F t v R0:=by exact C6)
  (cl:∀c∈G.cl,Cls K c.2.1/\∀f∈c.2.2,CQ K c.2.1 f:=by exact B5)
  (mt:∀c∈G.mt,c.2.2.2.lv<=lv/\Nonempty (MetX P w K mg base c.2.1 c.1 c.2.2.2.lv c.2.2.2.ps (Ba K ca c.2.2.2.g)):=by exact B5)
  (nw:∀x F ds,G.nw.lookup x=some (F,ds)->F.lv+1<=lv/\∃(C:Addr) (D:NewX P w K mg base x C F.lv F.ps (JM K ca C F.g)),∀k dts,ds.lookup k=some dts->∃dvs us,CU K D.fd F.ps us/\A9 dvs us/\∀H:Hp,Ag K H dts dvs:=by exact Xg)
  (sf:∀C fs,G.sf=some (C,fs)->Cls K C/\∀f∈fs,CQ K C f:=by exact(λ_ _ h=>by cases h))
  (xs:∀W cs,G.xs.lookup W=some cs->∃T:ECls K mg W,∀c C,cs.lookup c=some C->ca c=.ref C/\PySem.W.subIn K (.ref C) (.ref T.C)=some true:=by exact C6)
  (sb:∀D tb,G.sb.lookup D=some tb->∃A:Addr,mg D=some (.ref A)/\∀C b,tb.lookup C=some b->ExcK K C/\PySem.W.kitOne K (.ref C) (.ref A)=some b:=by exact C6)
  (sv:∀D tb,G.sv.lookup D=some tb->mg D=none/\∃t,bootBuiltins D=some (.type t)/\∀C b,tb.lookup C=some b->ExcK K C/\PySem.W.kitOne K (.ref C) (.type t)=some b:=by exact C6)
  (ci:∀x tb,G.ci.lookup x=some tb->∃D:Addr,mg x=some (.ref D)/\(∀C b,tb.lookup C=some b->ICls K C/\PySem.W.kitOne K (.ref C) (.ref D)=some b)/\(Ku.all λa=>PySem.W.kitOne K (.type a) (.ref D) == some false)=true:=by exact C6)
  (x2:∀W1 W2 cs,(W1,W2,cs)∈G.x2->∃(T1:ECls K mg W1) (T2:ECls K mg W2),∀c C,cs.lookup c=some C->ca c=.ref C/\PySem.W.subIn K (.ref C) (.ref T1.C)=some false/\PySem.W.subIn K (.ref C) (.ref T2.C)=some true:=by exact(λ_ _ _ h=>by cases h))
  (wd:∀x F,G.wd.lookup x=some F->F.lv<=lv/\∃p,F.ps=[p]/\Nonempty (DefS P w K mg base F.lv x p (Ba K ca F.g)):=by exact C6)
  (ti:∀C∈G.ti,TiOk K C:=by exact B5)
  (dn:∀x y,G.dn.lookup x=some y->y.1.lv<=lv/\∃(D:DefX P w K mg base y.1.lv x y.1.ps (Ba K ca y.1.g)) (dvs:kK),DefsX K D.fd y.1.ps dvs/\∀H:Hp,Ag K H y.2 dvs:=by exact C6)
  (rn:True:=trivial)
  : GxOk G lv P w K mg base ca:=⟨co,cl,mt,nw,sf,xs,sb,sv,ci,x2,wd,ti,dn,rn⟩
theorem scM{N ps:kE}(h:(sc.kind=.function/\sc.isCoroutine=false/\sc.isGenerator=false)/\N.Nodup/\N.take ps.length=ps/\(∀x∈ps,sc.names.lookup x=some .local\/sc.names.lookup x=some .cell)/\∀y∈sc.names,y.2≠.free):FnScope N ps sc:=⟨h.1.1,h.1.2.1,h.1.2.2,h.2.1,h.2.2.1,h.2.2.2.1,h.2.2.2.2⟩
class Qx (P:outParam Program) (w:outParam World) (K:outParam k6) (mg:outParam (Str->Option Value)) (base:outParam Heap) (ca:outParam (Str->Value)):Prop where
  c:∀(x:Str) (u:Value),W.nsIn K mainGlobals x=some (some u)->mg x=some u
  n:∀x:Str,W.nsIn K mainGlobals x=some none->mg x=none
structure Ck(Γ:Gm)(f:Fn)(st:Stmt)(u:AG):Prop where
 s:FnScope Γ.N f.ps (AV st):=by exact scM (by decide +kernel)
 k:KL 200 Γ (GA st)=some u:=by ext
 n:Γ.nm=(AV st).names:=by rfl
theorem AZ{K:k6}{k:Nat}{x:Str}{F0:Fn}(D:DefX P w K mg base F0.lv x F0.ps (Ba K ca F0.g))(r:∀f F,l.lookup f=some F->F.lv<=k/\Nonempty (DefX P w K mg base F.lv f F.ps (Ba K ca F.g)))(hk:F0.lv<=k:=by decide) :
  ∀f F,((x,F0)::l).lookup f=some F->F.lv<=k/\Nonempty (DefX P w K mg base F.lv f F.ps (Ba K ca F.g)):=zi5 hk D r
abbrev gF(x qual:Str)(s:Stmt)(d:Value)(m:Str)(t c:Nat)(y:Value):FuncData:=W.fnOf x qual (M0 s) (GA s) (AV s) d .none .none (.str m t) none (.ref c) y
def fO(a b:Str)(s:Stmt)(d:Value)(m:Str)(t c:Nat)(y:Value):Obj:=⟨(.type "function"),none,(.func (gF a b s d m t c y)),Array.mk []⟩
def gO(a:Str)(s:Stmt)(m:Str)(t c:Nat):Obj:=fO a a s .none m t c .none
noncomputable def Xm(K:k6)(b:Str):Bool:=match W.nsIn K mainGlobals b with
 |some none=>true|_=>false
def En(K:k6)(x:Str)(a:Addr):Bool:=match W.nsIn K mainGlobals x with
 |some (some (.ref b))=>b == a|_=>false
def HU(K:k6)(qual:Str)(a c:Nat)(Γ:Gm)(f:Fn):Bool:=W.codeIn K (.ref c) qual && W.keepIn K (.ref a) && Γ.bl.all (Xm K) && Γ.ce.all (λx=>Γ.nm.lookup x == some .cell) && !Γ.mu && (Γ.lv+1 == f.lv)
structure Chk(K:k6)(mg:Str->Option Value)(qual:Str)(a c:Nat)(Γ:Gm)(f:Fn):Prop where
 c:W.codeIn K (.ref c) qual=true
 k:W.keepIn K (.ref a)=true
 b:∀b∈Γ.bl,mg b=none
 e:∀x∈Γ.ce,Γ.nm.lookup x=some .cell
 m:Γ.mu=false
 l:Γ.lv+1=f.lv
theorem zpc{K} [q:Qx P w K mg base ca](h:HU K qual a c Γ f=true):Chk K mg qual a c Γ f:=by
 unfold HU at h;erw[Æ,æ]at h;obtain⟨⟨⟨⟨⟨h1,h2⟩,h3⟩,h4⟩,h5⟩,h6⟩:=h;refine⟨h1,h2,λb hb=>q.n b ?_,λx hx=>eq_of_beq (h4 x hx),Cz h5,eq_of_beq h6⟩
 have:=h3 b hb;unfold Xm at this;split at this
 .assumption
 .cases this
theorem ON{K} [q:Qx P w K mg base ca](h:En K x a=true):mg x=some (.ref a):=by
 unfold En at h;split at h
 .rename_i b e;rw[<- eq_of_beq h];exact q.c _ _ e
 .cases h
structure AY(P:Program)(w:World)(K:k6)(mg:Str->Option Value)(base:Heap)(ca:Str->Value)(x qual:Str)(st:Stmt)(d:Value)(mo:Str)(t c:Nat)(y:Value)(Γ:Gm)(f:Fn)(V:Params->Obj)(a:Addr):Prop where
 fs:∀g F,Γ.fns.lookup g=some F->F.lv<=Γ.lv/\Nonempty (DefX P w K mg base F.lv g F.ps (Ba K ca F.g))
 gx:GxOk Γ.ox Γ.lv P w K mg base ca
 ex:∀c∈Γ.ex,∃T:ECls K mg c,ca c=.ref T.C/\Cq K T.C=some none
 ms:∀g F,Γ.mus.lookup g=some F->F.lv<=Γ.lv/\Nonempty (DefX P w K mg base F.lv g F.ps (Cu K ca F.g))
 h:Chk K mg qual a c Γ f
 F:FunD K x qual st a (gF x qual st d mo t c y)
section
variable {P:Program}{w:World}{K:k6}{mg:Str->Option Value}{base:Heap}{ca:Str->Value} [q:Qx P w K mg base ca]{x mo qual:Str}{st:Stmt}{t c:Nat}{d y:Value}{Γ:Gm}{f:Fn}{u:AG}{V:Params->Obj}{a C:Addr}{fs:kE}
theorem M9(hfs:∀g F,Γ.fns.lookup g=some F->F.lv<=Γ.lv/\Nonempty (DefX P w K mg base F.lv g F.ps (Ba K ca F.g)))(hgx:GxOk Γ.ox Γ.lv P w K mg base ca)(hex:∀c∈Γ.ex,∃T:ECls K mg c,ca c=.ref T.C/\Cq K T.C=some none)(hms:∀g F,Γ.mus.lookup g=some F->F.lv<=Γ.lv/\Nonempty (DefX P w K mg base F.lv g F.ps (Cu K ca F.g)))
  (ho:V w.params=fO x qual st d mo t c y) (l:K.lookup a=some (V w.params)) (h:HU K qual a c Γ f=true):AY P w K mg base ca x qual st d mo t c y Γ f V a:=
 have h:=zpc h
 ⟨hfs,hgx,hex,hms,h,zl9 (l.trans (congrArg some ho)) h.c h.k⟩
theorem Ak(hfs:∀g F,Γ.fns.lookup g=some F->F.lv<=Γ.lv/\Nonempty (DefX P w K mg base F.lv g F.ps (Ba K ca F.g)))(hgx:GxOk Γ.ox Γ.lv P w K mg base ca)(hex:∀c∈Γ.ex,∃T:ECls K mg c,ca c=.ref T.C/\Cq K T.C=some none:=by exact B5)(hms:∀g F,Γ.mus.lookup g=some F->F.lv<=Γ.lv/\Nonempty (DefX P w K mg base F.lv g F.ps (Cu K ca F.g)):=by exact J5)
  (ho:V w.params=fO x x st d mo t c y:=by exact rfl) (l:K.lookup a=some (V w.params):=by ext) (h:HU K x a c Γ f=true:=by ext) (m:En K x a=true:=by ext) (hg:f.g=A5 f.ps.length Γ.N.length u:=by rfl)
  (b:CU K (gF x x st d mo t c y) f.ps []:=by first|exact .all (Na λ_=>rfl)|exact .all (Kt λ_ _=>rfl)|exact .all (N9 λ_ _ _=>rfl)|exact .all (N8 λ_ _ _ _=>rfl)|exact .all (us5 λ_ _ _ _ _=>rfl)|exact .all (N7 λ_ _ _ _ _ _=>rfl)):AY P w K mg base ca x x st d mo t c y Γ f V a/\En K x a=true/\f.g=A5 f.ps.length Γ.N.length u/\CU K (gF x x st d mo t c y) f.ps []:=⟨M9 hfs hgx hex hms ho l h,m,hg,b⟩
theorem HW(hfs:∀g F,Γ.fns.lookup g=some F->F.lv<=Γ.lv/\Nonempty (DefX P w K mg base F.lv g F.ps (Ba K ca F.g)))(hgx:GxOk Γ.ox Γ.lv P w K mg base ca)(hex:∀c∈Γ.ex,∃T:ECls K mg c,ca c=.ref T.C/\Cq K T.C=some none:=by exact B5)(hms:∀g F,Γ.mus.lookup g=some F->F.lv<=Γ.lv/\Nonempty (DefX P w K mg base F.lv g F.ps (Cu K ca F.g)):=by exact J5)
  (ho:V w.params=fO x qual st d mo t c y:=by exact rfl) (l:K.lookup a=some (V w.params):=by ext) (h:HU K qual a c Γ f=true:=by ext) (me:Meth K C x a:=by exact⟨by ext,by ext,by ext⟩) (hg:f.g=A5 f.ps.length Γ.N.length u:=by rfl)
  (b:CU K (gF x qual st d mo t c y) f.ps []:=by first|exact .all (Na λ_=>rfl)|exact .all (Kt λ_ _=>rfl)|exact .all (N9 λ_ _ _=>rfl)|exact .all (N8 λ_ _ _ _=>rfl)|exact .all (us5 λ_ _ _ _ _=>rfl)|exact .all (N7 λ_ _ _ _ _ _=>rfl)):AY P w K mg base ca x qual st d mo t c y Γ f V a/\Meth K C x a/\f.g=A5 f.ps.length Γ.N.length u/\CU K (gF x qual st d mo t c y) f.ps []:=⟨M9 hfs hgx hex hms ho l h,me,hg,b⟩
theorem bM{z}(hfs:∀g F,Γ.fns.lookup g=some F->F.lv<=Γ.lv/\Nonempty (DefX P w K mg base F.lv g F.ps (Ba K ca F.g)))(hgx:GxOk Γ.ox Γ.lv P w K mg base ca)(hex:∀c∈Γ.ex,∃T:ECls K mg c,ca c=.ref T.C/\Cq K T.C=some none:=by exact B5)(hms:∀g F,Γ.mus.lookup g=some F->F.lv<=Γ.lv/\Nonempty (DefX P w K mg base F.lv g F.ps (Cu K ca F.g)):=by exact J5)
  (ho:V w.params=fO x qual st d mo t c y:=by exact rfl) (l:K.lookup a=some (V w.params):=by ext) (h:HU K qual a c Γ f=true:=by ext) (m:En K z C=true:=by ext) (ma:Mk K C a:=by exact⟨by ext,by ext,by ext,by ext⟩) (hg:f.g=EW C fs f.ps.length Γ.N.length u:=by rfl):AY P w K mg base ca x qual st d mo t c y Γ f V a/\En K z C=true/\Mk K C a/\f.g=EW C fs f.ps.length Γ.N.length u:=⟨M9 hfs hgx hex hms ho l h,m,ma,hg⟩
theorem ayU(hfs:∀g F,Γ.fns.lookup g=some F->F.lv<=Γ.lv/\Nonempty (DefX P w K mg base F.lv g F.ps (Ba K ca F.g)))(hgx:GxOk Γ.ox Γ.lv P w K mg base ca)(hex:∀c∈Γ.ex,∃T:ECls K mg c,ca c=.ref T.C/\Cq K T.C=some none:=by exact B5)(hms:∀g F,Γ.mus.lookup g=some F->F.lv<=Γ.lv/\Nonempty (DefX P w K mg base F.lv g F.ps (Cu K ca F.g)):=by exact J5)
  (ho:V w.params=fO x x st d mo t c y:=by exact rfl) (l:K.lookup a=some (V w.params):=by ext) (h:HU K x a c { Γ with mu:=false} f=true:=by ext) (m:En K x a=true:=by ext) (hg:f.g=GX f.ps.length Γ.N.length u:=by rfl) (hu:Γ.mu=true:=by rfl)
  (b:CU K (gF x x st d mo t c y) f.ps []:=by first|exact .all (Na λ_=>rfl)|exact .all (Kt λ_ _=>rfl)|exact .all (N9 λ_ _ _=>rfl)):AY P w K mg base ca x x st d mo t c y { Γ with mu:=false} f V a/\En K x a=true/\f.g=GX f.ps.length Γ.N.length u/\CU K (gF x x st d mo t c y) f.ps []/\Γ.mu=true:=⟨M9 hfs hgx hex hms ho l h,m,hg,b,hu⟩
def dfC(V:Params->Obj)(a:Addr)(S:Ck Γ f st u)(A:AY P w K mg base ca x x st d mo t c y { Γ with mu:=false } f V a/\En K x a=true/\f.g=GX f.ps.length Γ.N.length u/\CU K (gF x x st d mo t c y) f.ps []/\Γ.mu=true):DefX P w K mg base f.lv x f.ps (Cu K ca f.g):=
 ⟨a,_,by rw[A.2.2.1,<- A.1.h.l];exact zoz A.1.F S.s rfl S.n A.1.h.e rfl A.1.h.b A.1.fs A.1.ex A.1.ms A.2.2.2.2 A.1.gx S.k,ON A.2.1,A.1.h.k,A.2.2.2.1⟩
def Aj(V:Params->Obj)(a:Addr)(S:Ck Γ f st u)(A:AY P w K mg base ca x x st d mo t c y Γ f V a/\En K x a=true/\f.g=A5 f.ps.length Γ.N.length u/\CU K (gF x x st d mo t c y) f.ps []):DefX P w K mg base f.lv x f.ps (Ba K ca f.g):=
 ⟨a,_,by rw[A.2.2.1,<- A.1.h.l];exact ZH A.1.F S.s rfl S.n A.1.h.e rfl A.1.h.b A.1.fs A.1.ex A.1.ms A.1.h.m A.1.gx S.k,ON A.2.1,A.1.h.k,A.2.2.2⟩
def HR(V:Params->Obj)(a:Addr)(S:Ck Γ f st u)(cl:Cls K C)(A:AY P w K mg base ca x qual st d mo t c y Γ f V a/\Meth K C x a/\f.g=A5 f.ps.length Γ.N.length u/\CU K (gF x qual st d mo t c y) f.ps []):MetX P w K mg base C x f.lv f.ps (Ba K ca f.g):=
 ⟨a,_,cl,A.2.1,by rw[A.2.2.1,<- A.1.h.l];exact ZH A.1.F S.s rfl S.n A.1.h.e rfl A.1.h.b A.1.fs A.1.ex A.1.ms A.1.h.m A.1.gx S.k,A.2.2.2⟩
def aJ(z:Str)(C:Addr)(fs:kE)(V:Params->Obj)(a:Addr)(S:Ck Γ f st u)(A:AY P w K mg base ca x qual st d mo t c y Γ f V a/\En K z C=true/\Mk K C a/\f.g=EW C fs f.ps.length Γ.N.length u):NewX P w K mg base z C f.lv f.ps (JM K ca C f.g):=
 ⟨a,gF x qual st d mo t c y,ON A.2.1,A.2.2.1,by rw[A.2.2.2,<- A.1.h.l];exact zp0 A.1.F S.s rfl S.n A.1.h.e rfl A.1.h.b A.1.fs A.1.ex A.1.ms A.1.h.m A.1.gx S.k⟩
end
theorem GD:AU (x::l) 0=some x:=by
 have:AU (x::l) 0=some x:=Cs rfl;exact this
theorem GC:AU (x::y::l) 1=some y:=by
 have:AU (x::y::l) 1=some y:=Cs rfl;exact this
theorem Ma:AU (x::y::z::l) 2=some z:=by
 have:AU (x::y::z::l) 2=some z:=Cs rfl;exact this
abbrev fr(a b:Int):T:=.tup [.int a,.int b]
section
variable {b:T->AK->Option AK}{body:AG}{mc:AH}
theorem Fz   (I:Nat->AK->Prop)(h0:I 0 τ)(hs:∀i t τ,ts[i]?=some t->I i τ->∃τ1,b t τ=some τ1/\∃τ2,body τ1=some (.nx τ2)/\I (i+1) τ2):∃τ',As b body ts τ=some (.nx τ')/\I ts.length τ':=by
 have key:∀(l ) (k ) (τ ),ts.drop k=l->k<=ts.length->I k τ->∃τ',As b body l τ=some (.nx τ')/\I ts.length τ':=by
  intro l
  induction l with
  |nil=>
   intro k τ hd hk hI
   have:k=ts.length:=by
    have:=congrArg List.length hd;simp at this
    omega
   subst this;exact⟨τ,rfl,hI⟩
  |cons t l ih=>
   intro k τ hd hk hI
   have hlt:k<ts.length:=by
    grind
   rw[ġ hlt]at hd;injection hd with h1 h2
   obtain⟨τ1,e1,τ2,e2,hI2⟩:=hs k t τ (by rw[Â hlt,h1]) hI
   obtain⟨τ',e3,h3⟩:=ih (k+1) τ2 h2 hlt hI2;exact⟨τ',by unfold As;erw[e1,e2];exact e3,h3⟩
 grind
theorem zfs   (I:Nat->AK->Prop)(Qr:T->Prop)(h0:I 0 τ)(hs:∀i t τ,ts[i]?=some t->I i τ->∃τ1,b t τ=some τ1/\((∃τ2,(body τ1=some (.nx τ2)\/body τ1=some (.ct τ2))/\I (i+1) τ2)\/∃v,body τ1=some (.rt v)/\Qr v)) :
  (∃τ',As b body ts τ=some (.nx τ')/\I ts.length τ')\/∃v,As b body ts τ=some (.rt v)/\Qr v:=by
 have key:∀(l ) (k ) (τ ),ts.drop k=l->k<=ts.length->I k τ->(∃τ',As b body l τ=some (.nx τ')/\I ts.length τ')\/∃v,As b body l τ=some (.rt v)/\Qr v:=by
  intro l
  induction l with
  |nil=>
   intro k τ hd hk hI
   have:k=ts.length:=by
    have:=congrArg List.length hd;simp at this
    omega
   subst this;exact .inl ⟨τ,rfl,hI⟩
  |cons t l ih=>
   intro k τ hd hk hI
   have hlt:k<ts.length:=by
    grind
   rw[ġ hlt]at hd;injection hd with h1 h2
   obtain⟨τ1,e1,hb⟩:=hs k t τ (by rw[Â hlt,h1]) hI
   rcases hb with ⟨τ2,e2,hI2⟩|⟨v,e2,hv⟩
   .rcases ih (k+1) τ2 h2 hlt hI2 with ⟨τ',e3,h3⟩|⟨v,e3,h3⟩
    .refine .inl ⟨τ',?_,h3⟩;unfold As
     grind
    .refine .inr ⟨v,?_,h3⟩;unfold As
     rcases e2 with e2|e2<;>erw[e1,e2]<;>exact e3
   .exact .inr ⟨v,by unfold As;erw[e1,e2],hv⟩
 exact key ts 0 τ rfl (í _) h0
theorem zjd  (I:AK->Prop)(μ:AK->Nat)(h0:I τ)(hs:∀τ,I τ->(∃bb,mc τ=some (.v (.bl true) bb)/\∃τ2,body τ=some (.nx τ2)/\I τ2/\μ τ2<μ τ)\/∃bb,mc τ=some (.v (.bl false) bb)) :
  ∃τ',Fk mc body τ=some (.nx τ')/\I τ'/\∃bb,mc τ'=some (.v (.bl false) bb):=by
 have key:∀(n ) (τ ),μ τ<n->I τ->∃τ',Cm mc body n τ=some (.nx τ')/\I τ'/\∃bb,mc τ'=some (.v (.bl false) bb):=by
  intro n
  induction n with
  |zero=>simp|succ n ih=>
   intro τ hn hI
   rcases hs τ hI with ⟨bb,e1,τ2,e2,hI2,hm⟩|⟨bb,e1⟩
   .obtain⟨τ',e3,h3⟩:=ih τ2 (by omega) hI2
    exact⟨τ',by unfold Cm;grind,h3⟩
   .exact⟨τ,by unfold Cm;erw[e1],hI,bb,e1⟩
 obtain⟨τ',e,h⟩:=key (μ τ+1) τ (ę _) h0;exact⟨τ',zmk e,h⟩
theorem IK    (I:Nat->AK->Prop)(f )(h0:I 0 τ)(hs:∀i t τ,ts[i]?=some t->I i τ->∃τ1,b t τ=some τ1/\me τ1=some (.v (f i) false)/\I (i+1) τ1) :
  CB b (mC (.bl true)) me ts τ=some ((List.range ts.length).map f):=by
 have key:∀(l ) (k ) (τ ),ts.drop k=l->k<=ts.length->I k τ->CB b (mC (.bl true)) me l τ=some ((List.range' k l.length).map f):=by
  intro l
  induction l with
  |nil=>intro k τ _ _ _;rfl|cons t l ih=>
   intro k τ hd hk hI
   have hlt:k<ts.length:=by
    grind
   rw[ġ hlt]at hd;injection hd with h1 h2
   obtain⟨τ1,e1,e2,hI2⟩:=hs k t τ (by grind) hI
   have e3:=ih (k+1) τ1 h2 hlt hI2;unfold CB;erw[e1,mC,e2,e3]
   rfl
 have:=key ts 0 τ rfl (í _) h0;rw[this,<- List.range_eq_range']
end
theorem J6{i j:Int}(h:DI j=true):Cb i j=true:=by unfold Cb;grind
theorem IB{i j:Int}(h:DI i=true):Cb i j=true:=by unfold Cb;grind
theorem zkm(h1:Bh i=true)(h2:Bh j=true):Cb i j=true:=by unfold Cb;grind
theorem Cv(h1:-(2 ^ 64)<i)(h2:i<2 ^ 64):DI i=true:=@decide_eq_true _ (Classical.propDecidable _) ⟨h1,h2⟩
theorem Br(h1:-(10 ^ 70)<i)(h2:i<10 ^ 70):Bh i=true:=@decide_eq_true _ (Classical.propDecidable _) ⟨h1,h2⟩
theorem fm{i j:Int}(h:0<j):i.fmod j=i % j:=Int.fmod_eq_emod_of_nonneg i (by omega)
theorem fd{i j:Int}(h:0<j):i.fdiv j=i / j:=Int.fdiv_eq_ediv_of_nonneg i (by omega)
theorem C8{i j:Int}:Ap (.int i) (.int j)=some (.bl (i == j)):=by
 rfl
theorem Es{i j:Int}:Bk (.int i) (.int j)=some (.bl (!(i == j))):=by
 rfl
mutual
def DM:PyData->Bool
 |.bool _=>false|.dict _=>false|.list xs=>G5 xs|.tuple xs=>G5 xs|_=>true
def G5:List PyData->Bool
 |[]=>true|x::xs=>DM x && G5 xs
end
mutual
theorem Zy:∀d d':PyData,DM d=true->DM d'=true->(PyData.eqv d d'=true ↔ d=d')
 |.none,d',_,h'=>by cases d'<;>simp[PyData.eqv,DM]at h' ⊢|.int i,d',_,h'=>by cases d'<;>simp[PyData.eqv,DM]at h' ⊢|.str x,d',_,h'=>by cases d'<;>simp[PyData.eqv,DM]at h' ⊢|.bool _,_,h,_=>by simp[DM]at h|.dict _,_,h,_=>by simp[DM]at h|.list xs,d',h,h'=>by
  cases d' with
  |list ys=>
   have:=Qs xs ys (by simpa[DM] using h) (by simpa[DM] using h')
   erw[PyData.eqv];rw[this];simp
  |_=>simp[PyData.eqv,DM]at h' ⊢
 |.tuple xs,d',h,h'=>by
  cases d' with
  |tuple ys=>
   have:=Qs xs ys (by simpa[DM] using h) (by simpa[DM] using h')
   erw[PyData.eqv];rw[this];simp
  |_=>simp[PyData.eqv,DM]at h' ⊢
theorem Qs:∀xs ys:List PyData,G5 xs=true->G5 ys=true->(PyData.eqvAll xs ys=true ↔ xs=ys)
 |[],[],_,_=>by simp[PyData.eqvAll]|[],_::_,_,_=>by simp[PyData.eqvAll]|_::_,[],_,_=>by simp[PyData.eqvAll]|x::xs,y::ys,hx,hy=>by
  erw[G5,Æ]at hx hy;have h1:=Zy x y hx.1 hy.1;have h2:=Qs xs ys hx.2 hy.2;erw[PyData.eqvAll,Æ,h1,h2,List.cons.injEq]
end
structure Fit(t:T)(n:Nat):Prop where
 fit:EF t=true
 nb:DM t.data=true
 dep:t.data.depth<=n
theorem Zq:∀{l} {n},(∀t∈l,Fit t n)->(E1 l=true/\PyData.canLayAll0 (Bd l)=true)/\G5 (Bd l)=true/\PyData.depthAll (Bd l)<=n
 |[],n,_=>⟨⟨rfl,rfl⟩,rfl,í _⟩|t::r,n,h=>by
  obtain⟨h1,h2,h3⟩:=h t (Ï ..);obtain⟨⟨g0,g1⟩,g2,g3⟩:=Zq λx hx=>h x (Î _ hx)
  unfold EF at h1;rw[Æ]at h1;refine⟨⟨by rw[E1,h1.1,g0];rfl,by rw[Bd,PyData.canLayAll0,h1.2,g1];rfl⟩,by rw[Bd,G5,h2,g2];rfl,?_⟩
  rw[Bd,PyData.depthAll]
  omega
theorem Fit.nd(h:∀t∈l,Fit t n):Fit (.nd o k l) (n+1):=by
 obtain⟨g1,g2,g3⟩:=Zq h;cases k<;>exact⟨by simpa[EF,T.data,T.pln,PyData.canLay0] using g1,by simpa[T.data,DM] using g2,by simpa[T.data,PyData.depth] using g3⟩
open Classical in
theorem zp2{t u:T}{n m:Nat}(h:Fit t n)(h':Fit u m)(hn:n<=60):Ap t u=some (.bl (decide (t.data=u.data)))/\Bk t u=some (.bl (!decide (t.data=u.data))):=by
 have ok:Gh t u=true:=by
  unfold Gh;rw[h.fit,h'.fit,Ì (by have:=h.dep;omega)]
  rfl
 have e:IZ t u=decide (t.data=u.data):=by
  unfold IZ;rw[ň,Zy _ _ h.nb h'.nb];simp
 unfold Ap Bk;rw[if_pos ok,if_pos ok,e];exact⟨rfl,rfl⟩
theorem JN:∀ns:kF,BJ (ns.map T.int)=ns.map T.int
 |[]=>rfl|n::r=>by rw[Ñ,BJ,JN r];rfl
theorem JO:∀ns:kF,Ad (ns.map T.int)=true
 |[]=>rfl|n::r=>by rw[Ñ,Ad,JO r];rfl
theorem T8(ns):(CH ns).share=CH ns:=by unfold CH;rw[T.share,JN]
theorem T9(ns):(CH ns).sh=true:=by unfold CH;rw[T.sh,JO];rfl
theorem Gi{x:α}(h0:0<=k)(h:l[k.toNat]?=some x):AU l k=some x:=by
 have :=Cs h
 grind
theorem M1(f:α->β)(l)(lo hi):BY (l.map f) lo hi=(BY l lo hi).map f:=by
 unfold BY;simp
theorem zlf(l:List α)(lo hi):(BY l lo hi).length<=l.length:=by
 unfold BY
 grind
end Pu
namespace Zm
end Zm
namespace Db
open PySem
theorem Of(a b):((a &&& b) % 2=1) ↔ (a % 2=1/\b % 2=1):=Nat.and_mod_two_eq_one
theorem J2(a:Nat):(a:Int) % 2=1 ↔ a % 2=1:=by omega
theorem J1(a:Nat):(Int.negSucc a) % 2=1 ↔ ¬ a % 2=1:=by omega
theorem WQ(a c:Nat):((a:Int) - c) % 2=1 ↔ ¬ (a % 2=1 ↔ c % 2=1):=by omega
theorem zim(x y):Builtin.bitAnd x y % 2=1 ↔ (x % 2=1/\y % 2=1):=by
 have ng:∀a ,Builtin.bitNot (Int.negSucc a)=a:=λa=>by
  unfold Builtin.bitNot
  omega
 cases x with
 |ofNat a=>
  cases y with
  |ofNat b=>show(a &&& b:Int) % 2=1 ↔ ((a:Int) % 2=1/\(b:Int) % 2=1);rw[J2,J2,J2,Of]|negSucc b=>show(a - (a &&& (Builtin.bitNot (Int.negSucc b)).toNat:Int)) % 2=1 ↔ ((a:Int) % 2=1/\(Int.negSucc b) % 2=1);rw[ng,WQ,J2,J1,Of];simp
 |negSucc a=>
  cases y with
  |ofNat b=>
   show(b - (b &&& (Builtin.bitNot (Int.negSucc a)).toNat:Int)) % 2=1 ↔ ((Int.negSucc a) % 2=1/\(b:Int) % 2=1);rw[ng,ò,WQ,J2,J1,Of]
   omega
  |negSucc b=>
   show(Builtin.bitNot ((Builtin.bitNot (Int.negSucc a)).toNat ||| (Builtin.bitNot (Int.negSucc b)).toNat)) % 2=1 ↔ _
   have nb:∀c:Nat,Builtin.bitNot c=Int.negSucc c:=λc=>by
    unfold Builtin.bitNot
    omega
   rw[ng,ng,ò,nb,J1,J1,J1,Nat.or_mod_two_eq_one];exact not_or
theorem zil(x):Builtin.bitAnd x 1=x % 2:=by
 unfold Builtin.bitAnd Builtin.bitNot
 grind
theorem bor_one(x y):Builtin.bitAnd (Builtin.bitOr x y) 1=max (x % 2) (y % 2):=by
 rw[zil];have h:=zim (Builtin.bitNot x) (Builtin.bitNot y);unfold Builtin.bitOr;generalize Builtin.bitAnd (Builtin.bitNot x) (Builtin.bitNot y)=c at *
 have nb:∀z,Builtin.bitNot z % 2=1 - z % 2:=λz=>by
  unfold Builtin.bitNot
  omega
 rw[nb,nb]at h;rw[nb]
 rcases Int.emod_two_eq x with e|e<;>rcases Int.emod_two_eq y with f|f<;>rw[e,f]at h ⊢<;>rcases Int.emod_two_eq c with g|g<;>rw[g]at h ⊢<;>revert h<;>decide
noncomputable def bs(a b:Int):Int:=2 * (a / 2+b / 2)+min (a % 2) (b % 2)
theorem bs_eq(a b:Int):a+b - max (a % 2) (b % 2)=bs a b:=by unfold bs;omega
abbrev B:=kA
def le:B->B->Prop
 |_,none=>True|none,some _=>False|some a,some b=>a<=b
def add:B->B->B
 |some a,some b=>some (bs a b)|_,_=>none
def mn:B->B->B
 |none,b=>b|some a,none=>some a|some a,some b=>some (min a b)
theorem le_trans(h:le a b)(h':le b c):le a c:=by
 cases a<;>cases b<;>cases c<;>simp_all [le]
 omega
theorem Xz(a b:B):le (mn a b) a:=by
 cases a<;>cases b<;>simp[le,mn]
 omega
theorem Ln(a b:B):le (mn a b) b:=by
 cases a<;>cases b<;>simp[le,mn]
 omega
abbrev Z:=Nat->Nat->B
def free(i j:Nat):B:=if i=0\/i=j then some 1 else none
def z0(f:Z):Z:=λi j=>mn (f i j) (free i j)
def stp(f:Z)(k:Nat):Z:=λi j=>mn (f i j) (add (f i k) (f k j))
def fw(f:Z):Nat->Z
 |0=>z0 f|k+1=>stp (fw f k) k
def Brk(n:Nat)(f:Z):Prop:=∃i,i<n/\¬ le (some 1) (f i i)
def Sound(n:Nat)(f:Z):Prop:=∀k,k<n->¬ Brk n (fw f k)
theorem diag_le(f)(i):∀k,le (fw f k i i) (some 1)
 |0=>by
  have h:=Ln (f i i) (free i i);have e:free i i=some 1:=if_pos (.inr rfl);rw[e]at h;show le (mn (f i i) (free i i)) _
  grind
 |k+1=>le_trans (Xz _ _) (diag_le f i k)
structure Nar(n:Nat)(f:Z):Prop where
 diag:∀i,i<n->f i i=some 1
 row:∀j,j<n->le (f 0 j) (some 1)
 tri:∀i j l,i<n->j<n->l<n->le (f i j) (add (f i l) (f l j))
end Db
namespace Db
end Db
namespace Dv
open Db
abbrev Lim:=Nat×Nat×Int
def pt(v:Nat->Int)(j:Nat)(a:Int):Nat->Int:=λk=>if k=j then a else v k
def rz:List Lim->(Nat->Int)->Bool->(Nat->Int)×Bool
 |[],v,b=>(v,b)|(i,j,m)::L,v,b=>if v j<v i - m then rz L (pt v j (v i - m)) true else rz L v b
def tn(L:List Lim):Nat->(Nat->Int)->Option (Nat->Int)
 |0,_=>none|t+1,v=>if (rz L v false).2 then tn L t (rz L v false).1 else some (rz L v false).1
def In(n:Nat)(L:List Lim):Prop:=∀x∈L,x.1<n/\x.2.1<n
end Dv
namespace Dm
open Db
end Dm
namespace Df
open Db Dv
structure St(n:Nat)(f:Z)(u l:Nat->B):Prop where
 nar:Nar n f
 c1:∀i,0<i->i<n->le (some 1) (add (f 0 i) (u i))
 c2:∀i,0<i->i<n->le (some 1) (add (l i) (f i 0))
 c3:∀i j,0<i->0<j->i<n->j<n->le (some 1) (add (l i) (add (f i j) (u j)))
def Sm(D:Int)(m:B)(x:Int):Prop:=match m with
 |none=>True|some m=>x<=m * D
end Df
namespace Dk
open Db Dv
end Dk
namespace Pu
open PySem PySem.Spec PyProof.Rows L2 Zw Zx
def mT(n:Nat)(g:Nat->T):kL:=(List.range n).map g
theorem nl0:((0:Nat):Int)=0:=rfl
theorem nl1:((1:Nat):Int)=1:=rfl
theorem nl2:((2:Nat):Int)=2:=rfl
theorem nl3:((3:Nat):Int)=3:=rfl
theorem nl4:((4:Nat):Int)=4:=rfl
theorem nl5:((5:Nat):Int)=5:=rfl
theorem nl6:((6:Nat):Int)=6:=rfl
theorem nl7:((7:Nat):Int)=7:=rfl
theorem nl8:((8:Nat):Int)=8:=rfl
theorem nl9:((9:Nat):Int)=9:=rfl
theorem zoa{k:Nat}(h:k<=100000):(k<=Az)=True:=eq_true (by unfold Az;omega)
theorem zo9{k:Nat}(h:k<100000):(k<Az)=True:=eq_true (by unfold Az;omega)
section
variable {n:Nat}{g h:Nat->T}
theorem BW:(mT n g).length=n:=by simp[mT]
theorem DN{i:Nat}(hi:i<n):(mT n g)[i]?=some (g i):=by simp[mT,hi]
theorem G6(e:(mT n g)[i]?=some t):i<n/\t=g i:=by
 have hi:i<n:=by
  rcases Nat.lt_or_ge i n with q|q
  .exact q
  .rw[Č (by rw[BW];exact q)]at e
   cases e
 rw[DN hi]at e
 grind
theorem EA(hl:l.length=n)(h:∀i,i<n->l[i]?=some (g i)):l=mT n g:=by
 refine List.ext_getElem? λi=>?_
 rcases Nat.lt_or_ge i n with q|q
 .rw[h i q,DN q]
 .rw[Č (by omega),Č (by rw[BW];exact q)]
theorem E4(e:∀i,i<n->g i=h i):mT n g=mT n h:=EA BW λi hi=>by rw[DN hi,e i hi]
theorem DO{k:Nat}(h1:k<n):AU (mT n g) (k:Int)=some (g k):=Cs (DN h1)
theorem zo3(ht:t∈mT n g):∃i,i<n/\t=g i:=by
 obtain⟨i,hi,e⟩:=ß.mp ht
 grind
theorem Nr:BJ (mT n g)=mT n λi=>(g i).share:=by
 rw[Ek];unfold mT;rw[ą]
 rfl
theorem Gu(e:∀i,(g i).sh=true):Ad (mT n g)=true:=by
 rw[DV,æ];intro t ht;obtain⟨i,-,rfl⟩:=zo3 ht;exact e i
theorem GQ(xs:Nat->Int):Ad (mT n λi=>.int (xs i))=true:=Gu λ_=>rfl
theorem IG:mT n g++[g n]=mT (n+1) g:=by
 unfold mT;rw[List.range_succ,á]
 rfl
theorem YG{α:Type}(t:α->T)(xs:Nat->α)(r):mT n (λj=>t (xs j))++[t r]=mT (n+1) λj=>t (if j=n then r else xs j):=by
 rw[<- IG,if_pos rfl,E4 (g:=λj=>t (if j=n then r else xs j)) (h:=λj=>t (xs j)) λj hj=>by grind]
theorem aA:∀(l) (k i:Nat) (t),l[i]?=some t->(EG k l)[i]?=some (.tup [.int (k+i:Nat),t])
 |[],_,_,_,e=>by simp at e|x::r,k,0,t,e=>by
  simp at e;subst e
  rfl
 |x::r,k,i+1,t,e=>by
  rw[EG];have:=aA r (k+1) i t (by simpa using e)
  grind
theorem Zz:∀(l) (k),(EG k l).length=l.length
 |[],_=>rfl|x::r,k=>by rw[EG,Ø,Ø,Zz r]
theorem Qt:EG 0 (mT n g)=mT n λi=>.tup [.int i,g i]:=by
 refine EA (by rw[Zz,BW]) λi hi=>?_
 rw[aA _ _ _ _ (DN hi),Nat.zero_add]
theorem zln:DF (mT n g) (mT n h)=mT n λi=>.tup [g i,h i]:=by
 refine EA (by simp[DF,BW]) λi hi=>?_
 unfold DF;rw[ľ,DN hi,DN hi]
theorem zgv(lo:Int):BQ lo n=mT n λi=>.int (lo+(i:Int)):=rfl
theorem Ca:BQ 0 n=mT n λi=>.int (i:Int):=by
 rw[zgv];simp
def consT(x:T)(g:Nat->T):Nat->T
 |0=>x|i+1=>g i
theorem zlh(x):x::mT n g=mT (n+1) (consT x g):=by
 refine EA (by rw[Ø,BW]) λi hi=>?_
 cases i with
 |zero=>rfl|succ i=>rw[ŗ,DN (by omega)];rfl
theorem mT_of(l)(d):l=mT l.length λi=>l.getD i d:=EA rfl λi hi=>by
 grind
theorem Jf:(mT n g).set i v=mT n λj=>if j=i then v else g j:=EA (by simp[BW]) λj hj=>by
 rw[List.getElem?_set,BW]
 by_cases e:i=j
 .grind
 .erw[e,Ã];rw[DN hj,if_neg (λq=>e q.symm)]
variable {b:T->AK->Option AK}{body:AG}{me:AH}{τ:AK}
theorem Q4(I:Nat->AK->Prop)(h0:I 0 τ)(hs:∀i τ,i<n->I i τ->∃τ1,b (g i) τ=some τ1/\∃τ2,body τ1=some (.nx τ2)/\I (i+1) τ2):∃τ',As b body (mT n g) τ=some (.nx τ')/\I n τ':=by
 have:=Fz I h0 λi t τ e hI=>by
  obtain⟨hi,rfl⟩:=G6 e;exact hs i τ hi hI
 rwa[BW]at this
theorem zla(p:Nat->Prop)(v )(I:Nat->AK->Prop)(h0:I 0 τ)
  (hs:∀i τ,i<n->(∀j,j<i->p j)->I i τ->∃τ1,b (g i) τ=some τ1/\((p i/\∃τ2,(body τ1=some (.nx τ2)\/body τ1=some (.ct τ2))/\I (i+1) τ2)\/(¬ p i/\body τ1=some (.rt v)))) :
  ((∀i,i<n->p i)/\∃τ',As b body (mT n g) τ=some (.nx τ')/\I n τ')\/((∃i,i<n/\¬ p i)/\As b body (mT n g) τ=some (.rt v)):=by
 have:=zfs (body:=body) (λi τ=>(∀j,j<i->p j)/\I i τ) (λw=>w=v/\∃i,i<n/\¬ p i) ⟨λj hj=>by omega,h0⟩ λi t τ e hI=>by
  obtain⟨hi,rfl⟩:=G6 e;obtain⟨τ1,e1,q⟩:=hs i τ hi hI.1 hI.2;refine⟨τ1,e1,?_⟩
  rcases q with ⟨pi,τ2,e2,I2⟩|⟨pi,e2⟩
  .grind
  .exact .inr ⟨v,e2,rfl,i,hi,pi⟩
 rw[BW]at this
 grind
theorem E8   {cs:AK}(hs:∀i,i<n->me (some (g i)::cs)=some (.v (f i) false)):CB (AE 0) (mC (.bl true)) me (mT n g) (x::cs)=some (mT n f):=by
 have:=IK (b:=AE 0) (ts:=mT n g) (λ_ τ=>∃y,τ=y::cs) f ⟨x,rfl⟩ λi t τ e hI=>by
  obtain⟨hi,rfl⟩:=G6 e;obtain⟨y,rfl⟩:=hI;exact⟨some (g i)::cs,by simp[AE],hs i hi,_,rfl⟩
 rw[this,BW]
 rfl
theorem HI{u w f:Nat->T}  {cs:AK}(hs:∀i,i<n->me (some (u i)::some (w i)::cs)=some (.v (f i) false)):CB (BN 2 (AS (AE 0) (AS (AE 1) BU))) (mC (.bl true)) me (mT n λi=>.tup [u i,w i]) (x::y::cs)=some (mT n f):=by
 have:=IK (b:=BN 2 (AS (AE 0) (AS (AE 1) BU))) (ts:=mT n λi=>.tup [u i,w i]) (λ_ τ=>∃x y,τ=x::y::cs) f ⟨x,y,rfl⟩ λi t τ e hI=>by
  obtain⟨hi,rfl⟩:=G6 e;obtain⟨x,y,rfl⟩:=hI;exact⟨some (u i)::some (w i)::cs,by rfl,hs i hi,_,_,rfl⟩
 rw[this,BW]
 rfl
end
def bT:Db.B->T
 |none=>.non|some i=>.int i
theorem bT0:bT none=.non:=rfl
theorem bK(i:Int):bT (some i)=.int i:=rfl
abbrev rT(n:Nat)(f:Nat->Db.B):T:=.lst (mT n λj=>bT (f j))
abbrev zT(n:Nat)(f:Db.Z):T:=.lst (mT n λi=>rT n (f i))
theorem M8(b:Db.B):(bT b).sh=true:=by cases b<;>rfl
theorem bL(b:Db.B):(bT b).share=bT b:=by cases b<;>rfl
theorem HV(p):GB (mT n λi=>.bl (p i))=some ((List.range n).map p):=by
 unfold mT;generalize List.range n=l
 induction l with
 |nil=>rfl|cons x r ih=>erw[Ñ,GB,ih]
theorem OV(n)(f):(rT n f).share=rT n f:=by
 unfold T.share;rw[Nr];erw[bL]
theorem OW(n)(f):(rT n f).sh=true:=by
 unfold T.sh;rw[Gu λi=>M8 _]
 rfl
theorem SI(n)(f):(zT n f).sh=true:=by
 unfold T.sh;rw[Gu λi=>OW n _]
 rfl
theorem Er{n:Nat}(h:n<=100000):Bx n=true:=@decide_eq_true _ (Classical.propDecidable _) ⟨by omega,by omega⟩
theorem QJ{n:Nat}(h:n<=100000):HJ n=true:=@decide_eq_true _ (Classical.propDecidable _) ⟨by omega,by omega⟩
theorem VO(n)(t):(List.replicate n [t]).flatten=mT n λ_=>t:=by
 induction n with
 |zero=>rfl|succ n ih=>
  rw[ŧ,List.flatten_cons,ih,List.singleton_append,zlh];refine E4 λi _=>?_
  cases i<;>rfl
theorem LJ:∀ys ,DS (ys.map T.str)=some ys
 |[]=>rfl|y::r=>by
  show(match DS (r.map T.str) with|some l=>some (y::l)|none=>none)=_
  rw[LJ r]
theorem A7:∀ys:kE,BJ (ys.map T.str)=ys.map T.str
 |[]=>rfl|y::r=>by
  show T.str y::BJ (r.map T.str)=_;rw[A7 r]
  rfl
theorem A3:∀ys:kE,Ad (ys.map T.str)=true
 |[]=>rfl|y::r=>by
  show(true && Ad (r.map T.str))=true;rw[A3 r]
  rfl
def CO(ys:kE):Prop:=∀y∈ys,PyData.strOk y=true
theorem Vy:∀ys:kE,E1 (ys.map T.str)=true
 |[]=>rfl|y::r=>by
  show(true && E1 (r.map T.str))=true;rw[Vy r]
  rfl
theorem Y2:∀{ys},CO ys->PyData.canLayAll0 (Bd (ys.map T.str))=true/\PyData.depthAll (Bd (ys.map T.str))=0
 |[],_=>⟨rfl,rfl⟩|y::r,h=>by
  obtain⟨h1,h2⟩:=Y2 λx hx=>h x (Î _ hx)
  have h3:=h y (Ï ..);rw[Ñ,Bd,PyData.canLayAll0,PyData.depthAll,h1,h2,T.data,PyData.canLay0,h3,PyData.depth];simp
theorem Ia(hx:PyData.strOk x=true)(hy:PyData.strOk y=true):Ap (.str x) (.str y)=some (.bl (decide (x=y))):=by
 have e:(x == y)=decide (x=y):=by rfl
 unfold Ap Gh EF IZ;erw[T.data,T.pln,PyData.canLay0,PyData.depth,PyData.eqv,hx,hy,e];simp
theorem Fit.str(h:PyData.strOk x=true)(n):Fit (.str x) n:=⟨by unfold EF;rw[T.data,PyData.canLay0,h];rfl,rfl,by simp[T.data,PyData.depth]⟩
theorem bO(x):∀ys:kE,((Bd (ys.map T.str)).any λy=>PyData.eqv y (.str x))=decide (x∈ys)
 |[]=>by rfl|y::r=>by
  have e:(y == x)=decide (x=y):=by grind
  rw[Ñ,Bd,List.any_cons,bO x r,T.data,PyData.eqv,e,ň,Ě,ë,ë,ë,Ð]
theorem Jy     (h:CO ys)(hx:PyData.strOk x=true):FC (.str x) (.nd o k (ys.map T.str))=some (.bl (decide (x∈ys))):=by
 have ok:IP (.str x) (ys.map T.str)=true:=by
  obtain⟨h1,h2⟩:=Y2 h;unfold IP EF;rw[Vy,h1,h2,T.data,PyData.canLay0,hx]
  rfl
 unfold FC;simp only;rw[if_pos ok];unfold QW;rw[T.data,bO]
end Pu
namespace Tx
open PySem PySem.NumText
end Tx
namespace Hd
open PySem PySem.W PySem.Calls PyProof.Rows
def KA(st:SharedT->Thread->Option (SharedT×Thread))(ok:Thread->Bool):Nat->SharedT->Thread->Option SharedT
 |0=>λ_ _=>none|n+1=>λs t=>bif through t then some s else bif ok t then (st s t).elim none λx=>KA st ok n x.1 x.2 else none
theorem zl5(n):∀(s) (t) (r),
  KA (stepT (denote tb) p w) (stepOk m ann) n s t=some r->topRun tb p w m ann n s.abs t=some r.abs:=by
 induction n with
 |zero=>intro s t r h;exact nomatch h
 |succ n ih=>
  intro s t r h;rw[KA]at h;dsimp only at h;rw[topRun];cases a:through t with
  |true=>grind|false=>
   rw[a]at h;cases b:stepOk m ann t with
   |false=>grind|true=>
    rw[b]at h;cases c:stepT (denote tb) p w s t with
    |none=>grind|some x=>rw[c]at h;rw[stepT_spec c];grind
noncomputable def LP(p q:Program)(loose:kE)(Xt:Shared->Bool){α:Type}(Yf:Shared->α)(h:Heap)(s:Shared):=
 ((staticsOk (importedModules p.main.body) h s.heap && namesBound p s.heap && gensDone s && laidKept h s.heap),openSeen q loose (importedModules p.main.body) Xt true s,Yf s)
theorem zkv{Ya:World->α}{N M m:Nat}{bt:Params->BT}{lf:Params->Life}{st:World->SharedT->Thread->Option (SharedT×Thread)}(hst:∀w,stepT (denote treeTable) p w=st w)(hok:stepOk m ann=ok)
  (e:opening p=plainProg p.main.scope.names) (hN:Nat.ble 600 N=true) (f:∀s,fenceModules? p s=some s) (hM:Nat.ble M N=true)
  (hb:∀P,absHeap (bt P) m (lf P)=boot_heap P) (hs:∀P,(boot_heap P).isNs mainGlobals=true) (hz:∀P,(boot_heap P).objs.size=m) (ha:∀P,(boot_heap P).nsMap mainGlobals "__annotations__"=ann)
  (h:∀(w ) (os ),(KA (st w) ok M ⟨bt w.params,m,lf w.params,Array.mk [],boot_drawn,boot_toks,os⟩ (topStub p)).map (λs=>LP p q loose Xt Yf (boot_heap w.params) s.abs)=some (true,openGood q loose,Ya w)) :
  LeftO p q loose Xt Yf Ya N true:=λw=>by
 obtain⟨⟨h0,g0,d0,k0,os⟩,hs0,hv⟩:=Õ.mp (boot_open e hN f w);erw[Prod.mk.injEq]at hv;obtain⟨rfl,rfl,rfl,rfl⟩:=hv;obtain⟨T,hT,hx⟩:=Õ.mp (h w os);rw[<- hst,<- hok]at hT;have r:=topRun_mono (N - M) _ _ _ _ (zl5 _ _ _ _ hT);rw[Nat.add_sub_cancel' (Nat.le_of_ble_eq_true hM)]at r;have hx1:=congrArg Prod.fst hx;have hx2:=congrArg Prod.snd hx;erw[LP]at hx1 hx2;erw[SharedT.abs,hb]at r hx1 hx2
 have k:topFrom treeTable p w N ⟨boot_heap w.params,Array.mk [],boot_drawn,boot_toks,os⟩=some T.abs:=by
  erw[topFrom,hs,hz,ha,r];erw[ī];rw[hx1]
  rfl
 show((fencedOpening treeTable p w N).bind (topFrom treeTable p w N)).map _=_;rw[hs0];show(topFrom treeTable p w N _).map _=_;rw[k];exact congrArg some hx2
def en(P:Params)(x:String)(k:Nat)(v:Value):DictEntry:=⟨PyData.keyHash P (Str.ofString x),.str (Str.ofString x) k,v⟩
def bt(P:Params):BT:=((boot_heap P).objs.toList.foldl (λ(x:BT×Nat) o=>(x.1.ins x.2 o,x.2+1)) (BT.nil,0)).1
theorem bt_ok(P:Params):absHeap (bt P) 11 (boot_heap P).life=boot_heap P:=by ext
theorem zpg(P):(boot_heap P).nsMap mainGlobals "__annotations__"=some (.ref 6):=by ext
theorem ns_ok(P:Params):(boot_heap P).isNs mainGlobals=true:=by ext
theorem sz_ok(P:Params):(boot_heap P).objs.size=11:=by ext
abbrev go(p:Program)(M:Nat)(w:World)(os:OsState):Option SharedT:=
 KA (Fast.tw10156331382660048174 (Fast.tw11892475500146522536 Fast.tw14364793385576792824) p w) (Fast.tw6613529449190102663 11 (some (.ref 6))) M ⟨bt w.params,11,(boot_heap w.params).life,Array.mk [],boot_drawn,boot_toks,os⟩ (topStub p)
abbrev xt(r:RowW)(q:Program)(s:Shared):Bool:=xlAt q [] s && recOk r.records s
theorem zkw{Ya:World->α}(N M:Nat)
  (e:opening p=plainProg p.main.scope.names) (hN:Nat.ble 600 N=true) (f:∀s,fenceModules? p s=some s) (hM:Nat.ble M N=true)
  (h:∀(w ) (os ),(go p M w os).map (λs=>LP p q loose (xt r q) Yf (boot_heap w.params) s.abs)=some (true,openGood q loose,Ya w)):LeftO p q loose (xt r q) Yf Ya N true:=
 zkv
  (λw=>by rw[Fast.te10156331382660048174,Fast.te11892475500146522536,Fast.te14364793385576792824]) (by rw[Fast.te6613529449190102663]) e hN f hM bt_ok ns_ok sz_ok zpg h
theorem zj9(h:Fast.tw9446332074065402090 l=true):l.wellSaid=true:=(congrFun Fast.te9446332074065402090 l).trans h
end Hd
set_option maxHeartbeats 4200000
namespace Zl
open PySem L2 Zw Zx Pu
noncomputable section
local macro_rules
  |`(tactic| simp![$as,*])=>do let y<-"A5 LW KI Dl AF AW C0 FT Ai AN Nx JR Fm GX GW Jg HG El Af LV Bw Cf Fl Gv JQ CW DX Lh AA mC AD AB Ao BM m1 m2 AL Dd BH C4 B9 AM EM Et Ay CK Bb Aq g1 g2 AE BU AS BN blk M4 IQ C7 ED Gf Ge Jh Ho Md HX Mb Fw Au Ej B0 BE Bi EK KR KU CN DZ Dh T.isN T.isB BL CA Ie J7 Ĩ Jx Fb KZ Cd Kv Si Hk LD T.share BJ T.sh Ad T.flat GD GC Ma Ñ İ Ø õ List.replicate Ą Ť List.cons_append List.getElem?_cons_zero ŗ List.getElem?_nil List.set_cons_zero List.set_cons_succ ŀ nl0 nl1 nl2 nl3 nl4 nl5 nl6 nl7 nl8 nl9 Int.reduceBEq Nat.reduceBEq Nat.reduceAdd Nat.reduceSub Nat.reduceLT Nat.reduceLeDiff if_true if_false ite_true ite_false reduceIte Bool.not_true Bool.not_false Bool.and_true Bool.true_and Bool.and_false Bool.false_and Bool.or_true Bool.true_or Bool.or_false Bool.false_or Bool.false_xor Bool.true_xor ā Ş decide_true decide_false Ð ì or_false or_true true_or and_true true_and and_self String.reduceEq String.reduceBEq beq_self_eq_true ne_eq not_false_eq_true not_true_eq_false zoa zo9 M8 bL BW Nr Int.reduceLT Int.reduceAdd ò GQ Gu implies_true forall_const bT0 bK Int.reduceEq Int.reduceNe QO Cp Bt DP Cg IH Dx Fq JS JZ Lx Eu E7 Bc Jj Jm Gd LU".splitOn.mapM (λx=>do`(Lean.Parser.Tactic.simpLemma|$(Lean.mkCIdent (<-Lean.Macro.resolveGlobalName x.toName).head!.1):ident));`(tactic| simp only[$(⟨(Lean.Syntax.SepArray.ofElems (sep:=",") (y.toArray.map (·.raw)++as.elemsAndSeps.getSepElems)).elemsAndSeps⟩),*])
noncomputable def AI(i:Nat):Stmt:=PySem.Challenge.pw_zonewalk_k51_rooms_of_roads.main.body.getD i (.Pass ⟨0,0,0,0⟩)
def zpa(s:Stmt)(j:Nat):Stmt:=match s with
 |.ClassDef _ _ _ body _ _ _ _ _ _ _=>body.getD j (.Pass ⟨0,0,0,0⟩)|_=>.Pass ⟨0,0,0,0⟩
def Co(i j:Nat):Stmt:=zpa (AI i) j
abbrev BO:Addr:=287
noncomputable def B3:kE:=["start","end","guard","noughts","sign"]
abbrev Aw:Addr:=341
noncomputable def Ax:kE:=["watch_names","stays","door_list"]
def EC:T:=(.nd false .rt [(.str "<"),(.str "<="),(.str ">"),(.str ">="),(.str "=")])
def MF:T:=(.nd false .rt [(.str "<"),(.str "<=")])
noncomputable def MG:T:=(.int 7)
def MH:T:=(.int 64)
def MI:T:=(.int 200)
def IM:T:=(.int 200)
def Qy:List (Addr×Bool):=[(287,true),(341,false)]
def FN:List (Str×Addr):=[("NoRoad",104)]
def GK:List (Str×Addr):=[("NoMark",92)]
def KW:List (Addr×Bool):=[(24,true),(37,true),(49,true),(61,true),(80,true),(92,true),(104,true)]
def KY:List (Addr×Bool):=[(24,false),(37,false),(49,false),(61,false),(80,true),(92,false),(104,false)]
def R9:List (Addr×Bool):=[(24,false),(37,false),(49,false),(61,false),(80,false),(92,true),(104,false)]
def R8:List (Addr×Bool):=[(24,false),(37,false),(49,false),(61,false),(80,false),(92,false),(104,true)]
def R7:List (Addr×Bool):=[(24,true),(37,true),(49,true),(61,true),(80,true),(92,true),(104,true)]
abbrev Ux:Stmt:=AI 71
def Pm:AG:=
 (AF (Ai (m2 (CN λi j=>decide (i<j)) (AA 1) (m1 BL (AA 0))) (AN (AM (AA 0) (AA 1))) Af)
 (AN (mC (.int 0))))
def FI:kL->Option Ru:=A5 2 2 Pm
abbrev Qo:Fn:=⟨1,["_law_script","_law_k"],FI⟩
abbrev zdj:Gm:=⟨["_law_script","_law_k"],(AV Ux).names,[],0,[],["len"],[],[],["raise_all"],false,[],[],[],Aa⟩
theorem zdu:Ck zdj Qo Ux Pm:={}
theorem M3(ns:kF){k:Int}(h0:0<=k):FI [CH ns,.int k]=some (.ok (.int (ns.getD k.toNat 0))):=by
 unfold FI Pm
 by_cases h:k<ns.length
 .have e:ns[k.toNat]?=some (ns.getD k.toNat 0):=by
   simp_all
  have ea:AU (ns.map T.int) k=some (.int (ns.getD k.toNat 0)):=Gi h0 (by simp_all)
  have el:decide (k<(ns.map T.int).length)=true:=by simpa using h
  simp![CH,JN,JO,el,ea]
 .have el:decide (k<(ns.map T.int).length)=false:=by simpa using h
  have e:ns.getD k.toNat 0=0:=by
   simp_all
  simp![CH,JN,JO,el,e]
abbrev Ub:Stmt:=AI 43
def P7:AG:=
 (AN (m2 Ap (m1 JG (AA 0)) (m1 BL (AA 0))))
def Ip:kL->Option Ru:=A5 1 1 P7
abbrev MV:Fn:=⟨1,["texts"],Ip⟩
abbrev zbs:Gm:=⟨["texts"],(AV Ub).names,[],0,[],["len","set"],[],[],["raise_all"],false,[],[],[],Aa⟩
theorem zby:Ck zbs MV Ub P7:={}
theorem YB{val:Nat->L2.Key}{n:Nat}(h:∀i j,i<n->j<n->val i=val j->i=j):∀k,k<=n->(met val k).length=k/\∀x∈met val k,∃i,i<k/\x=val i
 |0,_=>⟨rfl,λx hx=>by cases hx⟩|k+1,hk=>by
  obtain⟨h1,h2⟩:=YB h k (by omega)
  have hn:val k∉met val k:=λz=>by
   obtain⟨i,hi,e⟩:=h2 _ z;have:=h k i (by omega) (by omega) e
   omega
  have e:met val (k+1)=met val k++[val k]:=by
   conv=>lhs;unfold met
   omega
  rw[e];refine⟨by simp_all,λx hx=>?_⟩
  rcases é.mp hx with q|q
  .obtain⟨i,hi,e⟩:=h2 x q;exact⟨i,by omega,e⟩
  .exact⟨k,by omega,Û.mp q⟩
theorem zlr{ys:kE}(h:ys.Nodup):Nb ys=ys.length:=by
 refine(YB (λi j hi hj e=>?_) ys.length (Ç _)).1
 have e':=Sum.inr.inj e;rw[Ó,Ó,Â hi,Â hj]at e';exact(Ę h).mp e'
theorem Nc{ys:kE}(h:ys.Nodup)(hl:ys.length<1000):Ip [.lst (ys.map T.str)]=some (.ok (.bl true)):=by
 have e:(ys.length == ys.length)=true:=Ŕ _;unfold Ip P7
 simp![JG,A7,LJ,hl,zlr h,C8,e,Á]
abbrev UQ:Stmt:=AI 34
def PM:AG:=
 (AN (Eu E7 E7 (mC (.str "a")) (AA 0) (mC (.str "z"))))
def K6:kL->Option Ru:=A5 1 1 PM
abbrev Qg:Fn:=⟨1,["sign"],K6⟩
abbrev za6:Gm:=⟨["sign"],(AV UQ).names,[],0,[],[],[],[],["raise_all"],false,[],[],[],Aa⟩
theorem za9:Ck za6 Qg UQ PM:={}
theorem T7{c:Nat}(h1:97<=c)(h2:c<=122):K6 [.str ⟨#[c]⟩]=some (.ok (.bl true)):=by
 have a1:((Str.ofString "a").cps.toList)=[97]:=by rfl
 have a2:((Str.ofString "z").cps.toList)=[122]:=by rfl
 have b1:@decide (#[c].toList<(Str.ofString "a").cps.toList) (Classical.propDecidable _)=false:=@decide_eq_false _ (Classical.propDecidable _) (by
  rw[a1];rw[List.cons_lt_cons_iff]
  simp_all)
 have b2:@decide ((Str.ofString "z").cps.toList < #[c].toList) (Classical.propDecidable _)=false:=@decide_eq_false _ (Classical.propDecidable _) (by
  rw[a2];rw[List.cons_lt_cons_iff]
  simp_all)
 unfold K6 PM
 simp![b1,b2]
abbrev UY:Stmt:=AI 35
def RO:AH:=
 (AL K6 (AB (AA 0) AD))
def PU:AG:=
 (AN (C4 (Eu E7 E7 (mC (.int 1)) (m1 BL (AA 0)) (mC (.int 8))) (m1 Fb (Bb 1 [] (Bc (AA 0)) (AE 0) (mC (.bl true)) RO))))
def K7:kL->Option Ru:=A5 1 1 PU
abbrev Qh:Fn:=⟨2,["text"],K7⟩
abbrev zec:Gm:=⟨["text"],(AV UY).names,[],1,[("is_small_letter",Qg)],["len","all"],[],[],["raise_all"],false,[],[],[],Aa⟩
theorem zeq:Ck zec Qh UY PU:={}
def Ef(x:Str):Prop:=∀i,i<x.cps.size->97<=x.cps.getD i 0/\x.cps.getD i 0<=122
theorem Ta(x:Str):GS x=mT x.cps.size λi=>.str ⟨#[x.cps.getD i 0]⟩:=by
 refine EA (by simp[GS]) λi hi=>?_
 unfold GS
 simp_all
theorem Xq{x:Str}(h:Ef x)(h1:1<=x.cps.size)(h8:x.cps.size<=8):K7 [.str x]=some (.ok (.bl true)):=by
 have l1:x.cps.size<=100000:=by omega
 have lc:=E8 (n:=x.cps.size) (me:=RO) (x:=none) (cs:=[]) (g:=λi=>.str ⟨#[x.cps.getD i 0]⟩) (f:=λ_=>.bl true) λi hi=>by
  unfold RO
  simp![T7 (h i hi).1 (h i hi).2]
 have e1:decide (1<=(x.length:Int))=true:=Ì (by show 1<=(x.cps.size:Int);omega)
 have e2:decide ((x.length:Int)<=8)=true:=Ì (by show(x.cps.size:Int)<=8;omega)
 have ll:x.length<=Az:=by
  omega
 have ba:((List.range x.cps.size).map λ_=>true).all id=true:=by simp
 unfold K7 PU
 simp![Ta,lc,l1,e1,e2,ll,HV,ba]
abbrev UP:Stmt:=AI 36
def PL:AG:=
 (AN (C4 (m1 (Cd "str") (AA 0)) (B9 (m2 Ap (AA 0) (mC (.str "/"))) (AL K7 (AB (AA 0) AD)))))
def K5:kL->Option Ru:=A5 1 1 PL
abbrev Qf:Fn:=⟨3,["thing"],K5⟩
abbrev zag:Gm:=⟨["thing"],(AV UP).names,[],2,[("is_name",Qh)],["isinstance","str"],[],[],["raise_all"],false,[],[],[],Aa⟩
theorem zal:Ck zag Qf UP PL:={}
theorem LN{x:Str}(h:Ef x):PyData.strOk x=true:=by
 unfold PyData.strOk;rw[Array.all_eq_true];intro i hi;have:=(h i hi).2;rw[Array.getD_eq_getD_getElem?,Ģ hi]at this;rw[ë]
 omega
def Ig(x:Str):Prop:=x=Str.ofString "/"\/(Ef x/\1<=x.cps.size/\x.cps.size<=8)
theorem Nq:PyData.strOk (Str.ofString "/")=true:=by decide +kernel
theorem Kj{x:Str}(h:Ig x):PyData.strOk x=true:=by
 rcases h with rfl|h
 .exact Nq
 .exact LN h.1
theorem SQ{x:Str}(h:Ig x):K5 [.str x]=some (.ok (.bl true)):=by
 have e:=Ia (Kj h) Nq;unfold K5 PL
 by_cases q:x=Str.ofString "/"
 .rw[Ì q]at e
  simp![e]
 .rw[Ü q]at e;have en:=Xq (h.resolve_left q).1 (h.resolve_left q).2.1 (h.resolve_left q).2.2
  simp![e,en]
abbrev U6:Stmt:=AI 42
def RQ:AH:=
 (AL K5 (AB (AA 0) AD))
def P0:AG:=
 (AF (Ai (B9 (BH (m1 (Cd "list") (AA 0))) (m2 (CN λi j=>decide (j<i)) (m1 BL (AA 0)) (mC MG))) (CW "BadMachine" (AB (mC (.str "a machine's watches are a list of at most seven")) AD)) Af)
 (Ai (B9 (BH (m1 Fb (Bb 1 [] (Bc (AA 0)) (AE 0) (mC (.bl true)) RQ))) (BH (AL Ip (AB (AA 0) AD)))) (CW "BadMachine" (AB (mC (.str "a machine's watches are unlike names")) AD)) Af))
def Mv:kL->Option Ru:=A5 1 1 P0
abbrev ZZ:Fn:=⟨4,["watches"],Mv⟩
abbrev zac:Gx:={ Aa with co:=[("MOST_WATCHES",MG)] }
abbrev zah:Gm:=⟨["watches"],(AV U6).names,[],3,[("is_watch_name",Qf),("are_unlike",MV)],["isinstance","list","len","all"],["BadMachine"],[],["raise_all"],false,[],[],[],zac⟩
theorem zam:Ck zah ZZ U6 P0:={}
theorem LG(ws:kE):ws.map T.str=mT ws.length λi=>.str (ws.getD i Str.empty):=EA (by simp_all) λi hi=>by
 simp_all
theorem cw_ok{ws:kE}(h:∀x∈ws,Ig x)(hd:ws.Nodup)(hl:ws.length<=7):Mv [.lst (ws.map T.str)]=some (.ok .non):=by
 have lc:=E8 (n:=ws.length) (me:=RQ) (x:=none) (cs:=[]) (g:=λi=>.str (ws.getD i Str.empty)) (f:=λ_=>.bl true) λi hi=>by
  have hm:ws.getD i Str.empty∈ws:=by
   simp_all
  unfold RQ
  simp![SQ (h _ hm)]
 rw[<- LG]at lc;have l1:ws.length<=100000:=by omega
 have e1:decide (7<(ws.length:Int))=false:=Ü (by omega)
 have ba:((List.range ws.length).map λ_=>true).all id=true:=by simp
 have un:=Nc hd (by omega)
 unfold Mv P0 MG
 simp![A7,A3,Á,lc,l1,e1,HV,ba,un]
abbrev UU:Stmt:=AI 37
def RN:AH:=
 (B9 (m2 Ap (AA 0) (mC (.str "/"))) (AL K6 (AB (AA 0) AD)))
def PN:AG:=
 (AF (Ai (B9 (BH (m1 (Cd "str") (AA 0))) (BH (Eu E7 E7 (mC (.int 1)) (m1 BL (AA 0)) (mC (.int 60))))) (AN (mC (.bl false))) Af)
 (AN (m1 Fb (Bb 1 [] (Bc (AA 0)) (AE 0) (mC (.bl true)) RN))))
def Mp:kL->Option Ru:=A5 1 1 PN
abbrev ZP:Fn:=⟨2,["thing"],Mp⟩
abbrev zau:Gm:=⟨["thing"],(AV UU).names,[],1,[("is_small_letter",Qg)],["isinstance","str","len","all"],[],[],["raise_all"],false,[],[],[],Aa⟩
theorem zaz:Ck zau ZP UU PN:={}
theorem rn_ok{x:Str}(h:Ef x)(h1:1<=x.cps.size)(h8:x.cps.size<=60):Mp [.str x]=some (.ok (.bl true)):=by
 have l1:x.cps.size<=100000:=by omega
 have lc:=E8 (n:=x.cps.size) (me:=RN) (x:=none) (cs:=[]) (g:=λi=>.str ⟨#[x.cps.getD i 0]⟩) (f:=λ_=>.bl true) λi hi=>by
  have o1:PyData.strOk (Str.mk #[x.cps.getD i 0])=true:=LN λj hj=>by
   have hj':j<1:=hj;have e:j=0:=by omega
   subst e;exact h i hi
  have e:=Ia o1 Nq
  have n:¬ (Str.mk #[x.cps.getD i 0]=Str.ofString "/"):=λq=>by
   have e1:(Str.ofString "/").cps=#[47]:=by decide +kernel
   have q1:#[x.cps.getD i 0]=(Str.ofString "/").cps:=congrArg Str.cps q;rw[e1]at q1;have:=(h i hi).1;have q2:x.cps.getD i 0=47:=by simpa using q1
   omega
  rw[Ü n]at e;unfold RN
  simp![e,T7 (h i hi).1 (h i hi).2]
 have e1:decide ((1:Int)<=(x.length:Int))=true:=Ì (by show(1:Int)<=((x.cps.size:Nat):Int);omega)
 have e2:decide ((x.length:Int)<=60)=true:=Ì (by show((x.cps.size:Nat):Int)<=60;omega)
 have ll:x.length<=100000:=l1;have ba:((List.range x.cps.size).map λ_=>true).all id=true:=by simp
 unfold Mp PN
 simp![Ta,lc,l1,e1,e2,ll,HV,ba]
abbrev UO:Stmt:=AI 9
def YD:AG:=
 (AN (C4 (m1 (Cd "int") (AA 0)) (BH (m1 (Cd "bool") (AA 0)))))
def Im:kL->Option Ru:=A5 1 1 YD
abbrev MT:Fn:=⟨1,["thing"],Im⟩
abbrev zde:Gm:=⟨["thing"],(AV UO).names,[],0,[],["isinstance","int","bool"],[],[],["raise_all"],false,[],[],[],Aa⟩
theorem zdp:Ck zde MT UO YD:={}
theorem SW(i:Int):Im [.int i]=some (.ok (.bl true)):=by rfl
abbrev UX:Stmt:=AI 27
def YE:AG:=
 (AN (C4 (AL Im (AB (AA 0) AD)) (m2 (CN λi j=>decide (j<=i)) (AA 0) (mC (.int 0)))))
def Rk:kL->Option Ru:=A5 1 1 YE
abbrev ZR:Fn:=⟨2,["thing"],Rk⟩
abbrev zch:Gm:=⟨["thing"],(AV UX).names,[],1,[("is_whole",MT)],[],[],[],["raise_all"],false,[],[],[],Aa⟩
theorem zcv:Ck zch ZR UX YE:={}
theorem zkj(i:Int):Rk [.int i]=some (.ok (.bl (decide (0<=i)))):=by
 rfl
abbrev UZ:Stmt:=AI 26
def Ls:AG:=
 (AF (Ai (B9 (BH (m1 (Cd "tuple") (AA 0))) (m2 Bk (m1 BL (AA 0)) (mC (.int 3)))) (AN (mC (.bl false))) Af)
 (AN (C4 (m2 FC (AM (AA 0) (mC (.int 0))) (AA 1)) (C4 (m2 FC (AM (AA 0) (mC (.int 1))) (AA 2)) (AL Rk (AB (AM (AA 0) (mC (.int 2))) AD))))))
def Hb:kL->Option Ru:=A5 3 3 Ls
abbrev ZU:Fn:=⟨3,["thing","watches","words"],Hb⟩
abbrev zed:Gm:=⟨["thing","watches","words"],(AV UZ).names,[],2,[("is_number",ZR)],["isinstance","tuple","len"],[],[],["raise_all"],false,[],[],[],Aa⟩
theorem zer:Ck zed ZU UZ Ls:={}
def Bq:kE:=["<","<=",">",">=","="]
theorem SY:CO Bq:=by unfold CO;decide +kernel
abbrev U0:Stmt:=AI 28
def KQ:AH:=
 (AL Hb (AB (AA 0) (AB (AA 1) (AB (AA 2) AD))))
def Lu:AG:=
 (AN (C4 (m1 (Cd "list") (AA 0)) (m1 Fb (Bb 1 [1,2] (Bc (AA 0)) (AE 0) (mC (.bl true)) KQ))))
def GH:kL->Option Ru:=A5 3 3 Lu
abbrev MU:Fn:=⟨4,["thing","watches","words"],GH⟩
abbrev zdf:Gm:=⟨["thing","watches","words"],(AV U0).names,["watches","words"],3,[("is_look",ZU)],["isinstance","list","all"],[],[],["raise_all"],false,[],[],[],Aa⟩
theorem zdq:Ck zdf MU U0 Lu:={}
theorem ze6{ws:kE}{n:Nat}{g:Nat->T}{p:Nat->Bool}(hn:n<=1000)(hs:∀i,(g i).sh=true)(h:∀i,i<n->Hb [g i,.lst (ws.map T.str),EC]=some (.ok (.bl (p i)))):GH [.lst (mT n g),.lst (ws.map T.str),EC]=some (.ok (.bl ((List.range n).all p))):=by
 have hg:(mT n λi=>(g i).share)=mT n g:=E4 λi _=>An _ (hs i)
 have kw:EC.share=EC:=rfl;have ks:EC.sh=true:=rfl
 have lc:=E8 (n:=n) (me:=KQ) (x:=none) (cs:=[some (.lst (ws.map T.str)),some EC]) (g:=g) (f:=λi=>.bl (p i)) λi hi=>by
  unfold KQ
  simp![A7,A3,h i hi,kw,ks,An _ (hs i),hs i]
 have l1:n<=100000:=by omega
 have sg:=Gu (n:=n) hs;unfold GH Lu
 simp![A7,A3,kw,ks,hg,sg,l1,lc,HV,List.all_map,Function.comp_id,Function.id_comp]
abbrev U7:Stmt:=AI 44
def NZ:AG:=
 (AF (Ai (B9 (BH (m1 (Cd "tuple") (AA 2))) (m2 Bk (m1 BL (AA 2)) (mC (.int 2)))) (CW "BadMachine" (AB (mC (.str "a room is a tuple of a name and a stay")) AD)) Af)
 (Ai (B9 (BH (AL Mp (AB (AM (AA 2) (mC (.int 0))) AD))) (BH (AL GH (AB (AM (AA 2) (mC (.int 1))) (AB (AA 1) (AB (mC MF) AD)))))) (CW "BadMachine" (AB (mC (.str "a room has a name, and a stay of the machine's watches")) AD)) Af))
def RR:AH:=
 (AM (AA 0) (mC (.int 0)))
def P1:AG:=
 (AF (Ai (B9 (BH (m1 (Cd "list") (AA 0))) (m2 Ap (m1 BL (AA 0)) (mC (.int 0)))) (CW "BadMachine" (AB (mC (.str "a machine's rooms are a list of one or more")) AD)) Af)
 (AF (Bw (Bc (AA 0)) (AE 2) NZ)
 (Ai (BH (AL Ip (AB (Bb 1 [] (Bc (AA 0)) (AE 0) (mC (.bl true)) RR) AD))) (CW "BadMachine" (AB (mC (.str "no two rooms have one name")) AD)) Af)))
def Mw:kL->Option Ru:=A5 2 3 P1
abbrev Z1:Fn:=⟨5,["rooms","watches"],Mw⟩
abbrev zb4:Gx:={ Aa with co:=[("STAY_WORDS",MF)] }
abbrev zbb:Gm:=⟨["rooms","watches","room"],(AV U7).names,[],4,[("is_room_name",ZP),("is_guard",MU),("are_unlike",MV)],["isinstance","list","len","tuple"],["BadMachine"],[],["raise_all"],false,[],[],[],zb4⟩
theorem zbj:Ck zbb Z1 U7 P1:={}
def BZ(ws wd:kE)(l:kL):Prop:=∀t∈l,∃x y n,t=.tup [.str x,.str y,.int n]/\x∈ws/\y∈wd/\0<=n
theorem BZ.sh{ws wd:kE}{l:kL}(h:BZ ws wd l):Ad l=true:=by
 rw[DV,æ];intro t ht;obtain⟨x,y,n,rfl,_⟩:=h t ht
 rfl
abbrev Jq(wd:kE):T:=.nd false .rt (wd.map T.str)
theorem zkt{ws wd:kE}(h:CO ws)(hd:CO wd){t:T}(ht:∃x y n,t=.tup [.str x,.str y,.int n]/\x∈ws/\y∈wd/\0<=n):Hb [t,.lst (ws.map T.str),Jq wd]=some (.ok (.bl true)):=by
 obtain⟨x,y,n,rfl,h1,h2,h3⟩:=ht;have e1:=Jy (o:=false) (k:=.lst) h (h x h1);have e2:=Jy (o:=false) (k:=.rt) hd (hd y h2);have e3:=zkj n;rw[Ì h1]at e1;rw[Ì h2]at e2;rw[Ì h3]at e3;unfold Hb Ls
 simp![Es,A7,A3,e1,e2,e3]
theorem QY{ws wd:kE}(h:CO ws)(hd:CO wd){l:kL}(hl:l.length<=1000)(hk:BZ ws wd l):GH [.lst l,.lst (ws.map T.str),Jq wd]=some (.ok (.bl true)):=by
 have hs:=hk.sh;have es:=AO l hs;have em:=mT_of l .non
 have sg:∀i,(l.getD i .non).sh=true:=λi=>by
  by_cases hi:i<l.length
  .rw[Ó,Â hi];rw[DV,æ]at hs;exact hs _ (Ô hi)
  .rw[Ó,Č (by omega)]
   rfl
 have lc:=E8 (n:=l.length) (me:=KQ) (x:=none) (cs:=[some (.lst (ws.map T.str)),some (Jq wd)]) (g:=λi=>l.getD i .non) (f:=λ_=>.bl true) λi hi=>by
  have hm:l.getD i .non∈l:=by
   rw[Ó,Â hi];exact Ô hi
  have e:=zkt h hd (hk _ hm);unfold KQ
  simp![A7,A3,e,An _ (sg i),sg i]
 rw[<- em]at lc;have l1:l.length<=100000:=by omega
 have ba:((List.range l.length).map λ_=>true).all id=true:=by simp
 unfold GH Lu
 simp![A7,A3,hs,es,l1,lc,HV,ba]
def DU:kE:=["<","<="]
theorem zoo:MF=Jq DU:=rfl
theorem Jr:EC=Jq Bq:=rfl
theorem st_tx:CO DU:=by unfold CO;decide +kernel
structure RsOk(ws:kE)(rs:List (Str×kL)):Prop where
 l1:1<=rs.length
 l64:rs.length<=64
 nm:∀r∈rs,Ef r.1/\1<=r.1.cps.size/\r.1.cps.size<=60
 nd:(rs.map (·.1)).Nodup
 lk:∀r∈rs,BZ ws DU r.2/\r.2.length<=1000
abbrev B8(r:Str×kL):T:=.tup [.str r.1,.lst r.2]
abbrev Cw(rs:List (Str×kL)):T:=.lst (rs.map B8)
theorem G1{ws:kE}{rs:List (Str×kL)}(h:RsOk ws rs):Ad (rs.map B8)=true:=by
 rw[DV,æ];intro t ht;obtain⟨r,hr,rfl⟩:=ß.mp ht;have:=(h.lk r hr).1.sh;show((!false) && (true && (((!false) && Ad r.2) && true)))=true;rw[this]
 rfl
theorem zlg{ws:kE}(hw:CO ws){rs:List (Str×kL)}(h:RsOk ws rs):Mw [Cw rs,.lst (ws.map T.str)]=some (.ok .non):=by
 have sr:=G1 h;have er:=AO _ sr;have hl1:=h.l1;have hl2:=h.l64;have en:(((rs.map B8).length:Int) == 0)=false:=by rw[Ķ,Á];omega
 obtain⟨τ,e,y,rfl⟩:=Fz (b:=AE 2) (body:=NZ) (ts:=rs.map B8) (τ:=[some (Cw rs),some (.lst (ws.map T.str)),none]) (λi τ=>∃y,τ=[some (Cw rs),some (.lst (ws.map T.str)),y]) ⟨_,rfl⟩ λi t τ h1 h2=>by
  obtain⟨y,rfl⟩:=h2;obtain⟨r,hr,rfl⟩:=ß.mp (ï h1);obtain⟨n1,n2,n3⟩:=h.nm r hr;obtain⟨k1,k2⟩:=h.lk r hr;have e1:=rn_ok n1 n2 n3;have e2:=QY hw st_tx k2 k1;have e3:=k1.sh;refine⟨[some (Cw rs),some (.lst (ws.map T.str)),some (B8 r)],by simp![],[some (Cw rs),some (.lst (ws.map T.str)),some (B8 r)],?_,_,rfl⟩
  unfold NZ
  simp![zoo,Es,A7,A3,e1,e2,e3,AO _ e3]
 have lc:=IK (b:=AE 0) (me:=RR) (ts:=rs.map B8) (τ:=[none]) (λ_ τ=>∃y,τ=[y]) (λi=>.str ((rs.map (·.1)).getD i Str.empty)) ⟨none,rfl⟩ λi t τ h1 h2=>by
  obtain⟨y,rfl⟩:=h2;have hi:i<rs.length:=by simpa using (Í.mp h1).1
  rw[Ê,Â hi]at h1;have et:t=B8 rs[i]:=(Ý h1).symm;subst et;have k1:=(h.lk rs[i] (Ô hi)).1.sh;have eg:(rs.map (·.1)).getD i Str.empty=rs[i].1:=by simp[hi]
  refine⟨[some (B8 rs[i])],by simp![],?_,_,rfl⟩
  rw[eg];unfold RR
  simp![k1]
 have em:(List.range (rs.map B8).length).map (λi=>T.str ((rs.map (·.1)).getD i Str.empty))=(rs.map (·.1)).map T.str:=by
  rw[LG (rs.map (·.1)),Á,Á]
  rfl
 rw[em]at lc;have un:=Nc h.nd (by rw[Á];omega)
 have ll:(rs.map B8).length<=100000:=by rw[Á];omega
 unfold Mw P1
 simp![C8,A7,A3,sr,er,en,e,lc,un,ll]
abbrev Uc:Stmt:=AI 46
def RU:AH:=
 (AL K5 (AB (AA 0) AD))
def RS:AH:=
 (m2 FC (AA 0) (AA 1))
def P9:AG:=
 (AF (Ai (B9 (BH (m1 (Cd "list") (AA 0))) (BH (m1 Fb (Bb 1 [] (Bc (AA 0)) (AE 0) (mC (.bl true)) RU)))) (AN (mC (.bl false))) Af)
 (AN (C4 (AL Ip (AB (AA 0) AD)) (m1 Fb (Bb 1 [1] (Bc (AA 0)) (AE 0) (mC (.bl true)) RS)))))
def My:kL->Option Ru:=A5 2 2 P9
abbrev Z4:Fn:=⟨4,["thing","watches"],My⟩
abbrev zbd:Gm:=⟨["thing","watches"],(AV Uc).names,["watches"],3,[("is_watch_name",Qf),("are_unlike",MV)],["isinstance","list","all"],[],[],["raise_all"],false,[],[],[],Aa⟩
theorem zbl:Ck zbd Z4 Uc P9:={}
theorem zny{ws ns:kE}(hw:∀x∈ws,Ig x)(hn:∀x∈ns,x∈ws)(hd:ns.Nodup)(hl:ns.length<=100):My [.lst (ns.map T.str),.lst (ws.map T.str)]=some (.ok (.bl true)):=by
 have tw :=λx hx=>Kj (hw x hx)
 have mem:∀i,i<ns.length->ns.getD i Str.empty∈ns:=λi hi=>by
  simp_all
 have lc:=E8 (n:=ns.length) (me:=RU) (x:=none) (cs:=[]) (g:=λi=>.str (ns.getD i Str.empty)) (f:=λ_=>.bl true) λi hi=>by
  unfold RU
  simp![SQ (hw _ (hn _ (mem i hi)))]
 have HI:=E8 (me:=RS) (x:=none) (cs:=[some (.lst (ws.map T.str))]) (g:=λi=>.str (ns.getD i Str.empty)) (f:=λ_=>.bl true) λi hi=>by
  have e:=Jy (o:=false) (k:=.lst) tw (tw _ (hn _ (mem i hi)));rw[Ì (hn _ (mem i hi))]at e;unfold RS
  simp![A7,A3,e]
 rw[<- LG]at lc HI;have l1:ns.length<=100000:=by omega
 have ba:((List.range ns.length).map λ_=>true).all id=true:=by simp
 have un:=Nc hd (by omega)
 unfold My P9
 simp![A7,A3,Á,lc,HI,l1,HV,ba,un]
abbrev US:Stmt:=AI 38
def Lr:AG:=
 (AF (Ai (BH (m1 (Cd "str") (AA 0))) (AN (mC (.bl false))) Af)
 (AN (B9 (m2 Ap (AA 0) (mC (.str ""))) (C4 (m2 FC (AM (AA 0) (m1 DZ (mC (.int 1)))) (CK (AB (mC (.str "!")) (AB (mC (.str "?")) AD)))) (AL K7 (AB (Cg (EM (AA 0) none (some (m1 DZ (mC (.int 1))))) (E5 (AA 0) none (some (m1 DZ (mC (.int 1)))))) AD))))))
def Io:kL->Option Ru:=A5 1 1 Lr
abbrev ZO:Fn:=⟨3,["thing"],Io⟩
abbrev zea:Gm:=⟨["thing"],(AV US).names,[],2,[("is_name",Qh)],["isinstance","str"],[],[],["raise_all"],false,[],[],[],Aa⟩
theorem zeo:Ck zea ZO US Lr:={}
def Ri(z:Str):Prop:=z=Str.ofString ""\/z=Str.ofString "go!"\/z=Str.ofString "cut!"
theorem zm7{z:Str}(h:Ri z):PyData.strOk z=true:=by
 rcases h with rfl|rfl|rfl<;>decide +kernel
theorem zm8{z:Str}(h:Ri z):Io [.str z]=some (.ok (.bl true)):=by
 have o0:PyData.strOk (Str.ofString "")=true:=by decide +kernel
 have sm:∀x:Str,(x.cps.all λc=>decide (97<=c) && decide (c<=122))=true->Ef x:=λx hx i hi=>by
  rw[Array.all_eq_true]at hx;have:=hx i hi;rw[Æ,ë,ë]at this;rw[Array.getD_eq_getD_getElem?,Ģ hi];exact this
 have tl:FC (.str (Str.mk #[33])) (.tup [.str (Str.ofString "!"),.str (Str.ofString "?")])=some (.bl true):=by ext
 have key:∀z y:Str,PyData.strOk z=true->z≠Str.ofString ""->z.length<=100000->AU z.cps.toList (-1)=some 33->Txt.slice z none (some (-1))=y->Ef y->1<=y.cps.size->y.cps.size<=8->Io [.str z]=some (.ok (.bl true)):=by
  intro z y hz hne hl ha hs h1 h2 h3;have e:=Ia hz o0;rw[Ü hne]at e;have en:=Xq h1 h2 h3;unfold Io Lr
  simp![e,hl,ha,tl,E5,hs,en,show(-(1:Int))=-1 from rfl]
 rcases h with rfl|rfl|rfl
 .have e:=Ia o0 o0;rw[Ì rfl]at e;unfold Io Lr
  simp![e]
 .exact key _ (Str.ofString "go") (by decide +kernel) (by decide +kernel) (by decide +kernel) (by decide +kernel) (by decide +kernel) (sm _ (by decide +kernel)) (by decide +kernel) (by decide +kernel)
 .exact key _ (Str.ofString "cut") (by decide +kernel) (by decide +kernel) (by decide +kernel) (by decide +kernel) (by decide +kernel) (sm _ (by decide +kernel)) (by decide +kernel) (by decide +kernel)
abbrev U8:Stmt:=AI 45
def N0:AG:=
 (AF (Ai (BH (m1 (Jw Qy) (AA 3))) (CW "BadMachine" (AB (mC (.str "a machine's doors are doors")) AD)) Af)
 (AF (Ai (B9 (m2 HD (Bt BO B3 0 (AA 3)) (AA 1)) (m2 HD (Bt BO B3 1 (AA 3)) (AA 1))) (CW "BadMachine" (AB (mC (.str "a door leads from one room of the machine to another")) AD)) Af)
 (AF (Ai (BH (AL GH (AB (Bt BO B3 2 (AA 3)) (AB (AA 2) (AB (mC EC) AD))))) (CW "BadMachine" (AB (mC (.str "a door's guard is one of the machine's watches")) AD)) Af)
 (Ai (B9 (BH (AL My (AB (Bt BO B3 3 (AA 3)) (AB (AA 2) AD)))) (BH (AL Io (AB (Bt BO B3 4 (AA 3)) AD)))) (CW "BadMachine" (AB (mC (.str "a door sets watches of the machine, each once, and has at most one sign")) AD)) Af))))
def P4:AG:=
 (AF (Ai (BH (m1 (Cd "list") (AA 0))) (CW "BadMachine" (AB (mC (.str "a machine's doors are a list")) AD)) Af)
 (Bw (Bc (AA 0)) (AE 3) N0))
def Mx:kL->Option Ru:=A5 3 4 P4
abbrev Z2:Fn:=⟨5,["doors","names","watches"],Mx⟩
abbrev zb5:Gx:={ Aa with co:=[("WORDS",EC)],cl:=[("Door",BO,B3)],ci:=[("Door",Qy)] }
abbrev zbc:Gm:=⟨["doors","names","watches","door"],(AV U8).names,[],4,[("is_guard",MU),("are_noughts",Z4),("is_sign",ZO)],["isinstance","list"],["BadMachine"],[],["raise_all"],false,[],[],[],zb5⟩
theorem zbk:Ck zbc Z2 U8 P4:={}
structure Dr where
 s:Str
 e:Str
 g:kL
 n:kE
 z:Str
abbrev kI:=List Dr
abbrev A6(d:Dr):T:=.obj (.ins BO B3) [.str d.s,.str d.e,.lst d.g,.lst (d.n.map T.str),.str d.z]
structure DrOk(ws ns:kE)(d:Dr):Prop where
 s:d.s∈ns
 e:d.e∈ns
 g:BZ ws Bq d.g
 gl:d.g.length<=1000
 n:∀x∈d.n,x∈ws
 nd:d.n.Nodup
 nl:d.n.length<=100
 z:Ri d.z
theorem KJ{ws ns:kE}{d:Dr}(h:DrOk ws ns d):(A6 d).sh=true:=by
 have:=h.g.sh
 simp![this,A3]
theorem Xk{ys:kE}{x:Str}{o:Bool}{k:Kd}(h:CO ys)(hx:PyData.strOk x=true):HD (.str x) (.nd o k (ys.map T.str))=some (.bl (!decide (x∈ys))):=by
 have e:=Jy (o:=o) (k:=k) h hx;unfold FC at e;unfold HD;simp only at e ⊢;split at e
 .rename_i hok;rw[if_pos hok];injection e with e
  injection e with e
  rw[e]
 .cases e
theorem zli{ws ns:kE}(hw:∀x∈ws,Ig x)(hn:CO ns){ds:kI}(h:∀d∈ds,DrOk ws ns d):Mx [.lst (ds.map A6),.lst (ns.map T.str),.lst (ws.map T.str)]=some (.ok .non):=by
 have tw:CO ws:=λx hx=>Kj (hw x hx)
 have sd:Ad (ds.map A6)=true:=by
  rw[DV,æ];intro t ht;obtain⟨d,hd,rfl⟩:=ß.mp ht;exact KJ (h d hd)
 have ed:=AO _ sd
 obtain⟨τ,e,y,rfl⟩:=Fz (b:=AE 3) (body:=N0) (ts:=ds.map A6) (τ:=[some (.lst (ds.map A6)),some (.lst (ns.map T.str)),some (.lst (ws.map T.str)),none]) (λi τ=>∃y,τ=[some (.lst (ds.map A6)),some (.lst (ns.map T.str)),some (.lst (ws.map T.str)),y]) ⟨_,rfl⟩ λi t τ h1 h2=>by
  obtain⟨y,rfl⟩:=h2;obtain⟨d,hd,rfl⟩:=ß.mp (ï h1);have k:=h d hd;have e1:=Xk (o:=false) (k:=.lst) hn (hn _ k.s);have e2:=Xk (o:=false) (k:=.lst) hn (hn _ k.e);rw[Ì k.s]at e1;rw[Ì k.e]at e2;have e3:=QY tw SY k.gl k.g;have e4:=zny hw k.n k.nd k.nl;have e5:=zm8 k.z;have e6:=k.g.sh;refine⟨[some (.lst (ds.map A6)),some (.lst (ns.map T.str)),some (.lst (ws.map T.str)),some (A6 d)],by simp![],[some (.lst (ds.map A6)),some (.lst (ns.map T.str)),some (.lst (ws.map T.str)),some (A6 d)],?_,_,rfl⟩
  have ld:List.lookup BO Qy=some true:=by decide +kernel
  unfold N0
  simp![Jr,Jw,ld,Ĩ,A7,A3,e1,e2,e3,e4,e5,e6,AO _ e6]
 unfold Mx P4
 simp![A7,A3,sd,ed,e]
abbrev Ui:Stmt:=Co 41 0
def RV:AH:=
 (AA 0)
def N1:AG:=
 (JS Aw Ax 1 0 (AA 4) (m1 CA (AA 5)))
def Pd:AG:=
 (AF (El (AL Mv (AB (AA 1) AD)))
 (AF (El (AL Mw (AB (AA 2) (AB (AA 1) AD))))
 (AF (El (AL Mx (AB (AA 3) (AB (Bb 2 [] (Bc (AA 2)) (BN 2 (AS (AE 0) (AS (AE 1) BU))) (mC (.bl true)) RV) (AB (AA 1) AD)))))
 (AF (Ai (B9 (m2 (CN λi j=>decide (j<i)) (m1 BL (AA 2)) (mC MH)) (m2 (CN λi j=>decide (j<i)) (m1 BL (AA 3)) (mC MI))) (CW "TooMany" (AB (mC (.str "a machine has at most 64 rooms and at most 200 doors")) AD)) Af)
 (AF (Dx Aw Ax 0 0 (m1 CA (AA 1)))
 (AF (Dx Aw Ax 1 0 Lx)
 (AF (Bw (Bc (AA 2)) (BN 2 (AS (AE 4) (AS (AE 5) BU))) N1)
 (Dx Aw Ax 2 0 (m1 CA (AA 3))))))))))
def Rl:kL->Option Ru:=EW Aw Ax 4 6 Pd
abbrev Ql:Fn:=⟨6,["self","watches","rooms","doors"],Rl⟩
abbrev zas:Gx:={ Aa with co:=[("MOST_ROOMS",MH),("MOST_DOORS",MI)],sf:=some (Aw,Ax) }
abbrev zaw:Gm:=⟨["self","watches","rooms","doors","name","stay"],(AV Ui).names,[],5,[("check_watches",ZZ),("check_rooms",Z1),("check_doors",Z2)],["len","list"],["TooMany"],[],["raise_all"],false,[],[],[],zas⟩
theorem zb1:Ck zaw Ql Ui Pd:={}
structure Mc where
 ws:kE
 rs:List (Str×kL)
 ds:kI
abbrev kJ:=List Mc
abbrev D0(M:Mc):T:=.obj (.ins Aw Ax) [.lst (M.ws.map T.str),.obj (.sdc (M.rs.map (·.1))) (M.rs.map λr=>.lst r.2),.lst (M.ds.map A6)]
structure McOk(M:Mc):Prop where
 w:∀x∈M.ws,Ig x
 wd:M.ws.Nodup
 wl:M.ws.length<=7
 r:RsOk M.ws M.rs
 d:∀d∈M.ds,DrOk M.ws (M.rs.map (·.1)) d
 dl:M.ds.length<=200
theorem McOk.tw{M:Mc}(h:McOk M):CO M.ws:=λx hx=>Kj (h.w x hx)
theorem McOk.tn{M:Mc}(h:McOk M):CO (M.rs.map (·.1)):=λx hx=>by
 obtain⟨r,hr,rfl⟩:=ß.mp hx;exact LN (h.r.nm r hr).1
theorem McOk.sd{M:Mc}(h:McOk M):Ad (M.ds.map A6)=true:=by
 rw[DV,æ];intro t ht;obtain⟨d,hd,rfl⟩:=ß.mp ht;exact KJ (h.d d hd)
theorem McOk.ss{M:Mc}(h:McOk M):Ad (M.rs.map λr=>T.lst r.2)=true:=by
 rw[DV,æ];intro t ht;obtain⟨r,hr,rfl⟩:=ß.mp ht;show((!false) && Ad r.2)=true;rw[(h.r.lk r hr).1.sh]
 rfl
theorem McOk.sh{M:Mc}(h:McOk M):(D0 M).sh=true:=by
 simp![A3,h.ss,h.sd]
theorem zkp{M:Mc}(h:McOk M):Rl [.lst (M.ws.map T.str),Cw M.rs,.lst (M.ds.map A6)]=some (.ok (D0 M)):=by
 have cw:=cw_ok h.w h.wd h.wl;have cr:=zlg h.tw h.r;have cd:=zli h.w h.tn h.d;have sr:=G1 h.r;have er:=AO _ sr;have sd:=h.sd;have ed:=AO _ sd;have h1:=h.r.l1;have h64:=h.r.l64;have h200:=h.dl
 have lc:=IK (b:=BN 2 (AS (AE 0) (AS (AE 1) BU))) (me:=RV) (ts:=M.rs.map B8) (τ:=[none,none]) (λ_ τ=>∃x y,τ=[x,y]) (λi=>.str ((M.rs.map (·.1)).getD i Str.empty)) ⟨none,none,rfl⟩ λi t τ h1 h2=>by
  obtain⟨x,y,rfl⟩:=h2;have hi:i<M.rs.length:=by simpa using (Í.mp h1).1
  rw[Ê,Â hi]at h1;have et:t=B8 M.rs[i]:=(Ý h1).symm;subst et;have eg:(M.rs.map (·.1)).getD i Str.empty=M.rs[i].1:=by simp[hi]
  refine⟨[some (.str M.rs[i].1),some (.lst M.rs[i].2)],by simp![],?_,_,_,rfl⟩
  rw[eg];unfold RV
  simp![]
 have em:(List.range (M.rs.map B8).length).map (λi=>T.str ((M.rs.map (·.1)).getD i Str.empty))=(M.rs.map (·.1)).map T.str:=by
  rw[LG (M.rs.map (·.1)),Á,Á]
  rfl
 rw[em]at lc;have ll:(M.rs.map B8).length<=100000:=by rw[Á];omega
 have g1:decide ((64:Int)<((M.rs.map B8).length:Int))=false:=Ü (by rw[Á];omega)
 have g2:decide ((200:Int)<((M.ds.map A6).length:Int))=false:=Ü (by rw[Á];omega)
 refine VE λp=>?_
 obtain⟨τ,e,x,y,rfl⟩:=Fz (b:=BN 2 (AS (AE 4) (AS (AE 5) BU))) (body:=N1) (ts:=M.rs.map B8) (τ:=[some (.oob p Aw Ax [.own (M.ws.map T.str),.osd [] []]),some (.lst (M.ws.map T.str)),some (Cw M.rs),some (.lst (M.ds.map A6)),none,none])
  (λi τ=>∃x y,τ=[some (.oob p Aw Ax [.own (M.ws.map T.str),.osd ((M.rs.take i).map (·.1)) ((M.rs.take i).map λr=>.lst r.2)]),some (.lst (M.ws.map T.str)),some (Cw M.rs),some (.lst (M.ds.map A6)),x,y]) ⟨none,none,by rw[List.take_zero];rfl⟩ λi t τ h1 h2=>by
  obtain⟨x,y,rfl⟩:=h2;have hi:i<M.rs.length:=by simpa using (Í.mp h1).1
  rw[Ê,Â hi]at h1;have et:t=B8 M.rs[i]:=(Ý h1).symm;subst et;have k1:=(h.r.lk _ (Ô hi)).1.sh
  have hno:M.rs[i].1∉(M.rs.take i).map (·.1):=λhm=>by
   rw[List.map_take]at hm;obtain⟨j,hj,ej⟩:=ť.mp hm;rw[ó,Á]at hj;have hnd:=h.r.nd;rw[List.getElem_take]at ej;have e2:(M.rs.map (·.1))[j]'(by rw[Á];omega)=(M.rs.map (·.1))[i]'(by rw[Á];exact hi):=by rw[ej,Ĭ]
   have:=(Ę hnd).mp e2
   omega
  have hlen:((M.rs.take i).map (·.1)).length<100000:=by
   rw[Á,ó]
   omega
  have et2:M.rs.take (i+1)=M.rs.take i++[M.rs[i]]:=by rw[Ś]
  refine⟨[some (.oob p Aw Ax [.own (M.ws.map T.str),.osd ((M.rs.take i).map (·.1)) ((M.rs.take i).map λr=>.lst r.2)]),some (.lst (M.ws.map T.str)),some (Cw M.rs),some (.lst (M.ds.map A6)),some (.str M.rs[i].1),some (.lst M.rs[i].2)],by simp![],[some (.oob p Aw Ax [.own (M.ws.map T.str),.osd ((M.rs.take (i+1)).map (·.1)) ((M.rs.take (i+1)).map λr=>.lst r.2)]),some (.lst (M.ws.map T.str)),some (Cw M.rs),some (.lst (M.ds.map A6)),some (.str M.rs[i].1),some (.lst M.rs[i].2)],?_,_,_,rfl⟩
  rw[et2,á,á];unfold N1
  simp![k1,AO _ k1,hno,hlen]
 rw[Á,Ŵ]at e;have es:=AO _ h.ss;unfold GY Pd MH MI
 simp![A7,A3,cw,cr,cd,sr,er,sd,ed,lc,ll,g1,g2,e,es]
theorem Yv{α A:Type}{b:T->AK->Option AK}{body:AG}(f:α->T)(S:List A->AK->Prop)(g:α->List A)(N:Nat):∀(L:List α) (a:List A) (τ:AK),S a τ->a.length+(L.flatMap g).length<=N->(∀x∈L,∀a τ,S a τ->a.length+(g x).length<=N->∃τ1,b (f x) τ=some τ1/\∃τ2,body τ1=some (.nx τ2)/\S (a++g x) τ2)->∃τ',As b body (L.map f) τ=some (.nx τ')/\S (a++L.flatMap g) τ'
 |[],a,τ,h,_,_=>⟨τ,rfl,by simp_all⟩|x::L,a,τ,h,hN,hs=>by
  rw[List.flatMap_cons,Ö]at hN;obtain⟨τ1,e1,τ2,e2,h2⟩:=hs x (Ï ..) a τ h (by omega)
  obtain⟨τ',e,h'⟩:=Yv f S g N L (a++g x) τ2 h2 (by rw[Ö];omega) λy hy=>hs y (Î _ hy)
  refine⟨τ',?_,by simp_all⟩
  rw[Ñ];unfold As
  omega
theorem JP{α:Type}{f:α->T}{L:List α}(h:∀x∈L,(f x).sh=true):Ad (L.map f)=true:=by
 rw[DV,æ];intro t ht;obtain⟨x,hx,rfl⟩:=ß.mp ht;exact h x hx
theorem sq{f g:AG}{τ τ':AK}{r:Option Out}(h:f τ=some (.nx τ'))(h2:g τ'=r):AF f g τ=r:=by
 unfold AF;rw[h];exact h2
theorem Xx{α:Type}(l:List α)(hl:l≠[])(i:Int):∃x∈l,AU l (i.fmod (l.length:Int))=some x:=by
 have hp:0<l.length:=List.length_pos_iff.mpr hl;have h0:=ċ i (show(0:Int)<(l.length:Int) by omega)
 have h1:=Ė i (show(0:Int)<(l.length:Int) by omega)
 have h2:(i.fmod (l.length:Int)).toNat<l.length:=by omega
 exact⟨l[(i.fmod (l.length:Int)).toNat],Ô h2,Gi h0 (Â h2)⟩
theorem Ic{α:Type}(f:α->T){l:List α}{i:Int}{x:α}(h:AU l i=some x):AU (l.map f) i=some (f x):=by
 unfold AU at h ⊢;rw[Á];cases hi:Bu l.length i with
 |none=>rw[hi]at h;cases h|some j=>
  rw[hi]at h;have h':l[j]?=some x:=h;show(l.map f)[j]?=some (f x);rw[Ê,h']
  rfl
theorem zob{α:Type}{l:List α}(h:l≠[]):((l.length:Nat):Int)≠0:=λz=>h (List.length_eq_zero_iff.mp (Int.ofNat.inj z))
theorem MX:PyData.strOk (Str.ofString "")=true:=by decide +kernel
def AJ(M:Mc):T:=D0 M
theorem Bl{M:Mc}(h:McOk M):(AJ M).sh=true:=h.sh
theorem GP{f g:AG}{τ:AK}{r:Option Out}(h:f τ=some (.nx τ))(h2:g τ=r):AF f g τ=r:=sq h h2
theorem sr{f g:AG}{τ:AK}{t:T}(h:f τ=some (.rt t)):AF f g τ=some (.rt t):=by
 unfold AF;rw[h]
theorem J8(M:Mc):Cp Aw Ax (AJ M)=some [.lst (M.ws.map T.str),.obj (.sdc (M.rs.map (·.1))) (M.rs.map λr=>.lst r.2),.lst (M.ds.map A6)]:=(show Cp Aw Ax (D0 M)=(if Aw=Aw/\Ax=Ax then some [.lst (M.ws.map T.str),.obj (.sdc (M.rs.map (·.1))) (M.rs.map λr=>.lst r.2),.lst (M.ds.map A6)] else none) from rfl).trans (if_pos ⟨rfl,rfl⟩)
abbrev Tz:Stmt:=AI 39
def Ox:AG:=
 (AN (Dd (m1 (Cd "list") (AA 0)) (m1 CA (AA 0)) (AA 0)))
def K3:kL->Option Ru:=A5 1 1 Ox
abbrev ZG:Fn:=⟨1,["thing"],K3⟩
abbrev zdc:Gm:=⟨["thing"],(AV Tz).names,[],0,[],["isinstance","list"],[],[],["raise_all"],false,[],[],[],Aa⟩
theorem zdn:Ck zdc ZG Tz Ox:={}
theorem WR(l:kL)(h:Ad l=true):K3 [.lst l]=some (.ok (.own l)):=by
 unfold K3 Ox
 simp![h,AO _ h]
abbrev VA:Stmt:=Co 40 0
def Pp:AG:=
 (AF (Dx BO B3 0 0 (AA 1))
 (AF (Dx BO B3 1 0 (AA 2))
 (AF (Dx BO B3 2 0 (AL K3 (AB (AA 3) AD)))
 (AF (Dx BO B3 3 0 (AL K3 (AB (AA 4) AD)))
 (Dx BO B3 4 0 (AA 5))))))
def Rm:kL->Option Ru:=EW BO B3 6 6 Pp
abbrev Qp:Fn:=⟨2,["self","start","end","guard","noughts","sign"],Rm⟩
abbrev zc7:Gx:={ Aa with sf:=some (BO,B3) }
abbrev zck:Gm:=⟨["self","start","end","guard","noughts","sign"],(AV VA).names,[],1,[("own_copy",ZG)],[],[],[],["raise_all"],false,[],[],[],zc7⟩
theorem zcy:Ck zck Qp VA Pp:={}
theorem di_ok{ws ns:kE}{d:Dr}(h:DrOk ws ns d):Rm [.str d.s,.str d.e,.lst d.g,.lst (d.n.map T.str),.str d.z]=some (.ok (A6 d)):=by
 have hg:=h.g.sh;have e1:=WR d.g hg;have e2:=WR (d.n.map T.str) (A3 _);refine VE λp=>?_
 unfold GY Pp
 simp![e1,e2,hg,AO _ hg,A7,A3]
abbrev Ut:Stmt:=AI 79
def N4:AG:=
 (Cf 1 (IH Rm [] (AB (AM (AM (AA 3) (AA 5)) (mC (.int 0))) (AB (AM (AM (AA 3) (AA 6)) (mC (.int 0))) (AB (m1 CA (AA 7)) (AB (m1 CA (AA 8)) (AB (AA 9) AD)))))))
def RY:AH:=
 (CK (AB (AA 0) (AB (m1 CA (AA 1)) AD)))
def Pj:AG:=
 (AF (AW (AA 0) (BN 3 (AS (AE 2) (AS (AE 3) (AS (AE 4) BU)))))
 (AF (C0 1 (Ay AD))
 (AF (Bw (Bc (AA 4)) (BN 5 (AS (AE 5) (AS (AE 6) (AS (AE 7) (AS (AE 8) (AS (AE 9) BU)))))) N4)
 (AF (FT 1) (AN (IH Rl [] (AB (m1 CA (AA 2)) (AB (Bb 2 [] (Bc (AA 3)) (BN 2 (AS (AE 0) (AS (AE 1) BU))) (mC (.bl true)) RY) (AB (AA 1) AD)))))))))
def Ke:kL->Option Ru:=A5 1 10 Pj
abbrev Zd:Fn:=⟨8,["_law_spec"],Ke⟩
abbrev zhv:Gx:={ Aa with nw:=[("Door",Qp,[(5,[])]),("Machine",Ql,[(3,[])])] }
abbrev zi1:Gm:=⟨["_law_spec","_law_built","_law_watches","_law_rooms","_law_doors","_law_begin","_law_end","_law_guard_here","_law_noughts","_law_sign"],(AV Ut).names,[],7,[],["list"],[],["_law_built"],["raise_all"],false,[],[],[],zhv⟩
theorem zie:Ck zi1 Zd Ut Pj:={}
structure Sd where
 b:Nat
 e:Nat
 g:kL
 n:kE
 z:Str
abbrev BD(d:Sd):T:=.tup [.int (d.b:Int),.int (d.e:Int),.lst d.g,.lst (d.n.map T.str),.str d.z]
abbrev Bn(ws:kE)(rs:List (Str×kL))(dd:List Sd):T:=.tup [.lst (ws.map T.str),Cw rs,.lst (dd.map BD)]
def Ea(rs:List (Str×kL))(d:Sd):Dr:=⟨(rs.getD d.b (Str.empty,[])).1,(rs.getD d.e (Str.empty,[])).1,d.g,d.n,d.z⟩
structure SpOk(ws:kE)(rs:List (Str×kL))(dd:List Sd):Prop where
 r:RsOk ws rs
 b:∀d∈dd,d.b<rs.length/\d.e<rs.length
 d:∀d∈dd,DrOk ws (rs.map (·.1)) (Ea rs d)
 l:dd.length<=100
theorem SpOk.sd{ws:kE}{rs:List (Str×kL)}{dd:List Sd}(h:SpOk ws rs dd):Ad (dd.map BD)=true:=by
 rw[DV,æ];intro t ht;obtain⟨d,hd,rfl⟩:=ß.mp ht;have hg:Ad d.g=true:=(h.d d hd).g.sh
 simp![hg,A3]
theorem JU{rs:List (Str×kL)}{i:Nat}(h:i<rs.length):AU (rs.map B8) (i:Int)=some (.tup [.str (rs.getD i (Str.empty,[])).1,.lst (rs.getD i (Str.empty,[])).2]):=Cs (by
 rw[Ê,Ó,Â h]
 rfl)
theorem made_ok{ws:kE}{rs:List (Str×kL)}{dd:List Sd}(h:SpOk ws rs dd)(hm:McOk ⟨ws,rs,dd.map (Ea rs)⟩):Ke [Bn ws rs dd]=some (.ok (D0 ⟨ws,rs,dd.map (Ea rs)⟩)):=by
 have sr:=G1 h.r;have er:=AO _ sr;have sd:=h.sd;have ed:=AO _ sd;have hl:=h.l
 obtain⟨τ,e,x5,x6,x7,x8,x9,rfl⟩:=Fz (b:=BN 5 (AS (AE 5) (AS (AE 6) (AS (AE 7) (AS (AE 8) (AS (AE 9) BU)))))) (body:=N4) (ts:=dd.map BD) (τ:=[some (Bn ws rs dd),some (.own []),some (.lst (ws.map T.str)),some (Cw rs),some (.lst (dd.map BD)),none,none,none,none,none])
  (λi τ=>∃x5 x6 x7 x8 x9,τ=[some (Bn ws rs dd),some (.own (((dd.take i).map (Ea rs)).map A6)),some (.lst (ws.map T.str)),some (Cw rs),some (.lst (dd.map BD)),x5,x6,x7,x8,x9]) ⟨none,none,none,none,none,by rw[List.take_zero];rfl⟩ λi t τ h1 h2=>by
  obtain⟨x5,x6,x7,x8,x9,rfl⟩:=h2;have hi:i<dd.length:=by simpa using (Í.mp h1).1
  rw[Ê,Â hi]at h1;have et:t=BD dd[i]:=(Ý h1).symm;subst et;have hb:=h.b _ (Ô hi);have hd:=h.d _ (Ô hi);have k1:=JU hb.1;have k2:=JU hb.2;have k3:=di_ok hd;have hg:Ad dd[i].g=true:=hd.g.sh
  have hr:∀j,Ad (rs.getD j (Str.empty,[])).2=true:=λj=>by
   by_cases hj:j<rs.length
   .rw[Ó,Â hj];exact(h.r.lk _ (Ô hj)).1.sh
   .rw[Ó,Č (by omega)]
    rfl
  have ll:(((dd.take i).map (Ea rs)).map A6).length<100000:=by
   rw[Á,Á,ó]
   omega
  have et2:dd.take (i+1)=dd.take i++[dd[i]]:=by rw[Ś]
  refine⟨[some (Bn ws rs dd),some (.own (((dd.take i).map (Ea rs)).map A6)),some (.lst (ws.map T.str)),some (Cw rs),some (.lst (dd.map BD)),some (.int (dd[i].b:Int)),some (.int (dd[i].e:Int)),some (.lst dd[i].g),some (.lst (dd[i].n.map T.str)),some (.str dd[i].z)],by simp![],[some (Bn ws rs dd),some (.own (((dd.take (i+1)).map (Ea rs)).map A6)),some (.lst (ws.map T.str)),some (Cw rs),some (.lst (dd.map BD)),some (.int (dd[i].b:Int)),some (.int (dd[i].e:Int)),some (.lst dd[i].g),some (.lst (dd[i].n.map T.str)),some (.str dd[i].z)],?_,_,_,_,_,_,rfl⟩
  rw[et2,á,á];unfold Ea at k3;unfold N4
  simp![sr,k1,k2,hr,hg,AO _ hg,A7,A3,k3,ll]
  rfl
 rw[Á,Ŵ]at e
 have lc:=IK (b:=BN 2 (AS (AE 0) (AS (AE 1) BU))) (me:=RY) (ts:=rs.map B8) (τ:=[none,none]) (λ_ τ=>∃x y,τ=[x,y]) (λi=>B8 (rs.getD i (Str.empty,[]))) ⟨none,none,rfl⟩ λi t τ h1 h2=>by
  obtain⟨x,y,rfl⟩:=h2;have hi:i<rs.length:=by simpa using (Í.mp h1).1
  rw[Ê,Â hi]at h1;have et:t=B8 rs[i]:=(Ý h1).symm;subst et;have k1:=(h.r.lk _ (Ô hi)).1.sh;have eg:rs.getD i (Str.empty,[])=rs[i]:=by simp[hi]
  refine⟨[some (.str rs[i].1),some (.lst rs[i].2)],by simp![],?_,_,_,rfl⟩
  rw[eg];unfold RY
  simp![k1,AO _ k1]
 have em:(List.range (rs.map B8).length).map (λi=>B8 (rs.getD i (Str.empty,[])))=rs.map B8:=by
  rw[Á];refine(EA (n:=rs.length) (g:=λi=>B8 (rs.getD i (Str.empty,[]))) (by rw[Á]) λi hi=>?_).symm
  rw[Ê,Ó,Â hi]
  rfl
 rw[em]at lc
 have ll:(rs.map B8).length<=100000:=by
  have:=h.r.l64;rw[Á]
  omega
 have mi:=zkp hm;have s2:=hm.sd;have e2:=AO _ s2;unfold Ke Pj
 simp![A7,A3,sr,er,sd,ed,e,s2,e2,lc,ll,mi]
abbrev Us:Stmt:=AI 73
def RX:AH:=
 (AM (AA 2) (m2 BE (m2 Bi (AA 1) (m2 Au (mC (.int 6720)) (m2 B0 (mC (.int 31)) (AA 0)))) (mC (.int 26))))
def Kq:AG:=
 (AF (C0 7 (Bb 1 [0,2] (C7 (AB (AA 3) AD)) (AE 0) (mC (.bl true)) RX))
 (AF (Gv 7 (AA 4) (AM (AA 2) (m2 BE (m2 Au (m2 Bi (AA 0) (mC (.int 6720))) (AA 6)) (mC (.int 26)))))
 (Cf 5 (Ji (mC (.str "")) (AA 7)))))
def Ph:AG:=
 (AF (AW (mC (.str "abcdefghijklmnopqrstuvwxyz")) (AE 2))
 (AF (AW (m2 Au (mC (.int 1)) (m2 BE (AA 0) (mC (.int 8)))) (AE 3))
 (AF (AW (m2 BE (m2 BE (m2 Bi (AA 0) (mC (.int 8))) (mC (.int 840))) (AA 3)) (AE 4))
 (AF (C0 5 (Ay AD))
 (AF (Bw (C7 (AB (AA 1) AD)) (AE 6) Kq)
 (AN (AA 5)))))))
def Kc:kL->Option Ru:=A5 2 8 Ph
abbrev Zc:Fn:=⟨1,["_law_cell","_law_many"],Kc⟩
abbrev zfo:Gm:=⟨["_law_cell","_law_many","_law_letters","_law_size","_law_at","_law_names_here","_law_k","_law_word"],(AV Us).names,["_law_cell","_law_letters"],0,[],["range"],[],["_law_word","_law_names_here"],["raise_all"],false,[],[],[],Aa⟩
theorem zg0:Ck zfo Zc Us Ph:={}
def C1(c:Int):Nat:=(1+c.fmod 8).toNat
def G4(c:Int):Nat:=(((c.fdiv 8).fmod 840).fmod (1+c.fmod 8)).toNat
theorem Hy(c:Int):1<=C1 c/\C1 c<=8/\(1+c.fmod 8)=(C1 c:Int)/\((c.fdiv 8).fmod 840).fmod (1+c.fmod 8)=(G4 c:Int)/\G4 c<C1 c:=by
 have h1:1<=1+c.fmod 8/\1+c.fmod 8<=8:=by
  rw[fm (by decide)]
  omega
 have h2:0<=((c.fdiv 8).fmod 840).fmod (1+c.fmod 8)/\((c.fdiv 8).fmod 840).fmod (1+c.fmod 8)<1+c.fmod 8:=by
  rw[fm (j:=1+c.fmod 8) (by omega)]
  exact⟨Int.emod_nonneg _ (by omega),Int.emod_lt_of_pos _ (by omega)⟩
 unfold C1 G4
 omega
def G8(c:Int)(j:Nat):Int:=(c.fdiv (6720+31 * (j:Int))).fmod 26
def FX(c:Int)(k:Nat):Int:=(c.fdiv 6720+(k:Int)).fmod 26
def Ew(c:Int)(k j:Nat):Nat:=if j=G4 c then 97+(FX c k).toNat else 97+(G8 c j).toNat
def CZ(c:Int)(k:Nat):Str:=⟨((List.range (C1 c)).map (Ew c k)).toArray⟩
theorem HH(c:Int)(k j:Nat):(0<=G8 c j/\G8 c j<26)/\0<=FX c k/\FX c k<26:=by
 unfold G8 FX;rw[fm (j:=26) (by decide),fm (j:=26) (by decide)]
 omega
theorem abc:(Str.ofString "abcdefghijklmnopqrstuvwxyz").cps.toList=(List.range 26).map (97 + ·):=by decide +kernel
theorem bR{i:Int}(h0:0<=i)(h1:i<26):AU (Str.ofString "abcdefghijklmnopqrstuvwxyz").cps.toList i=some (97+i.toNat):=by
 rw[abc];refine Gi h0 ?_;rw[Ê,List.getElem?_range (by omega)]
 rfl
theorem bQ:(Str.ofString "abcdefghijklmnopqrstuvwxyz").length<=100000:=by decide +kernel
theorem Y9:∀cs:kG,Str.join (Str.ofString "") (cs.map λc=>⟨#[c]⟩)=⟨cs.toArray⟩
 |[]=>rfl|[c]=>rfl|c::d::r=>by
  have ih:=Y9 (d::r);rw[Ñ]at ih;rw[Ñ,Ñ];show Str.mk #[c]++Str.ofString ""++Str.join (Str.ofString "") (⟨#[d]⟩::r.map λc=>⟨#[c]⟩)=_
  rw[ih];have e0:(Str.ofString "").cps=#[]:=by decide +kernel
  show Str.mk ((#[c]++(Str.ofString "").cps)++(d::r).toArray)=Str.mk _;rw[e0];simp
theorem zho(cs:kG):Txt.join (Str.ofString "") (cs.map λc=>⟨#[c]⟩)=⟨cs.toArray⟩:=(eq_of_beq (PyProof.Rows.join_plain_closes _ _)).trans (Y9 cs)
theorem Oe(c:Int)(k:Nat):(CZ c k).cps.size=C1 c:=by
 unfold CZ;simp
theorem Xr{c:Int}{k i:Nat}(h:i<C1 c):(CZ c k).cps.getD i 0=Ew c k i:=by
 unfold CZ;simp[Array.getD,h]
theorem Xp(c:Int)(k:Nat):Ef (CZ c k):=λi hi=>by
 rw[Oe]at hi;rw[Xr hi];obtain⟨h1,h2⟩:=HH c k i;unfold Ew;split<;>omega
theorem zo1{c:Int}{j k:Nat}(hj:j<20)(hk:k<20)(h:CZ c j=CZ c k):j=k:=by
 obtain⟨n1,n8,ne,na,nl⟩:=Hy c;have e:=congrArg (λs:Str=>s.cps.getD (G4 c) 0) h
 erw[Xr nl]at e;unfold Ew at e;rw[if_pos rfl,if_pos rfl]at e;have s1:=(HH c j 0).2;have s2:=(HH c k 0).2;have e2:FX c j=FX c k:=by omega
 unfold FX at e2;rw[fm (j:=26) (by decide),fm (j:=26) (by decide)]at e2
 omega
theorem w5_ok{c:Int}{k m:Nat}(hk:k<20){l:kL}(hl:l.length<1000){x7:kH}:∃y7,Kq [some (.int c),some (.int m),some (.str "abcdefghijklmnopqrstuvwxyz"),some (.int (1+c.fmod 8)),some (.int (((c.fdiv 8).fmod 840).fmod (1+c.fmod 8))),some (.own l),some (.int k),x7]
  = some (.nx [some (.int c),some (.int m),some (.str "abcdefghijklmnopqrstuvwxyz"),some (.int (1+c.fmod 8)),some (.int (((c.fdiv 8).fmod 840).fmod (1+c.fmod 8))),some (.own (l++[.str (CZ c k)])),some (.int k),y7]):=by
 obtain⟨n1,n8,ne,na,nl⟩:=Hy c
 have lc:=E8 (n:=C1 c) (me:=RX) (x:=none) (cs:=[some (.int c),some (.str "abcdefghijklmnopqrstuvwxyz")]) (g:=λi=>.int (i:Int)) (f:=λj=>.str ⟨#[97+(G8 c j).toNat]⟩) λj hj=>by
  have m1:Cb 31 (j:Int)=true:=IB (Cv (by decide) (by decide))
  have n0:(6720+31 * (j:Int)=0)=False:=ù (by omega)
  have s0:Bh (6720+31 * (j:Int))=true:=Br (by omega) (by omega)
  have ea:AU (Str.ofString "abcdefghijklmnopqrstuvwxyz").cps.toList ((c.fdiv (6720+31 * (j:Int))).fmod 26)=some (97+(G8 c j).toNat):=bR (HH c 0 j).1.1 (HH c 0 j).1.2;unfold RX
  simp![m1,n0,s0,ea,bQ]
 have ok:Bx (1+c.fmod 8)=true:=@decide_eq_true _ (Classical.propDecidable _) ⟨by omega,by omega⟩
 have er:BQ 0 (1+c.fmod 8).toNat=mT (C1 c) λi=>.int (i:Int):=Ca
 have eb:AU (Str.ofString "abcdefghijklmnopqrstuvwxyz").cps.toList ((c.fdiv 6720+(k:Int)).fmod 26)=some (97+(FX c k).toNat):=bR (HH c k 0).2.1 (HH c k 0).2.2;have s1:Bh 6720=true:=Br (by decide) (by decide)
 have l8:C1 c<=100000:=by omega
 have ex:Bu (C1 c) (((c.fdiv 8).fmod 840).fmod (1+c.fmod 8))=some (G4 c):=by
  rw[na];unfold Bu;rw[if_pos (by omega),if_pos (by omega),ò]
 have es:DS (mT (C1 c) λj=>if j=G4 c then T.str ⟨#[97+(FX c k).toNat]⟩ else .str ⟨#[97+(G8 c j).toNat]⟩)=some (((List.range (C1 c)).map (Ew c k)).map λc=>⟨#[c]⟩):=by
  rw[<- LJ,ą,ą];refine congrArg DS ?_;unfold mT;refine List.map_congr_left λj hj=>?_
  show _=T.str ⟨#[Ew c k j]⟩;unfold Ew;split<;>rfl
 have ej:=zho ((List.range (C1 c)).map (Ew c k))
 have esum:(((((List.range (C1 c)).map (Ew c k)).map λc=>Str.mk #[c])).map (·.length)).sum+((((List.range (C1 c)).map (Ew c k)).map λc=>Str.mk #[c])).length * (Str.ofString "").length<=100000:=by
  have e0:(Str.ofString "").length=0:=by decide +kernel
  rw[e0,Nat.mul_zero,Nat.add_zero,ą]
  have:∀l:kG,(l.map ((·.length) ∘ λc=>Str.mk #[c])).sum=l.length:=by
   intro l
   induction l with
   |nil=>rfl|cons a r ih=>rw[Ñ,List.sum_cons,ih,Ø];show 1+r.length=r.length+1;omega
  rw[this];simp
  omega
 have ll:l.length<100000:=by omega
 have exq:Str.mk ((List.range (C1 c)).map (Ew c k)).toArray=CZ c k:=rfl;unfold Kq;refine⟨some (.own (mT (C1 c) λj=>if j=G4 c then T.str ⟨#[97+(FX c k).toNat]⟩ else .str ⟨#[97+(G8 c j).toNat]⟩)),?_⟩
 simp![ok,er,lc,l8,eb,s1,bQ,ex,Jf,Ji,es,esum,ej,ll,exq]
theorem Xu(c:Int){m:Nat}(hm:m<20):Kc [.int c,.int m]=some (.ok (.own (mT m λk=>.str (CZ c k)))):=by
 obtain⟨n1,n8,ne,na,nl⟩:=Hy c
 obtain⟨τ,e,z6,z7,rfl⟩:=Fz (b:=AE 6) (body:=Kq) (ts:=mT m λi=>.int (i:Int)) (τ:=[some (.int c),some (.int m),some (.str "abcdefghijklmnopqrstuvwxyz"),some (.int (1+c.fmod 8)),some (.int (((c.fdiv 8).fmod 840).fmod (1+c.fmod 8))),some (.own []),none,none])
  (λi τ=>∃x6 x7,τ=[some (.int c),some (.int m),some (.str "abcdefghijklmnopqrstuvwxyz"),some (.int (1+c.fmod 8)),some (.int (((c.fdiv 8).fmod 840).fmod (1+c.fmod 8))),some (.own (mT i λk=>.str (CZ c k))),x6,x7]) ⟨none,none,by rfl⟩ λi t τ h1 h2=>by
   obtain⟨hi,rfl⟩:=G6 h1;obtain⟨x6,x7,rfl⟩:=h2;obtain⟨y7,ew⟩:=w5_ok (c:=c) (k:=i) (m:=m) (by omega) (l:=mT i λk=>.str (CZ c k)) (by rw[BW];omega) (x7:=x7)
   rw[IG (g:=λk=>.str (CZ c k))]at ew
   exact⟨_,by simp![],_,ew,_,_,rfl⟩
 rw[BW]at e;have ok:Bx (m:Int)=true:=@decide_eq_true _ (Classical.propDecidable _) ⟨by omega,by omega⟩
 have er:BQ 0 m=mT m λi=>.int (i:Int):=Ca
 have h0:(1+c.fmod 8=0)=False:=ù (by omega)
 have s1:Bh 8=true:=Br (by decide) (by decide)
 unfold Kc Ph
 simp![ok,er,e,h0,s1]
abbrev Uk:Stmt:=AI 72
def N3:AG:=
 (AF (Cf 2 (m2 BE (AA 5) (m2 EK (mC (.int 10)) (mC (.int 45)))))
 (AW (m2 Bi (AA 5) (m2 EK (mC (.int 10)) (mC (.int 45)))) (AE 5)))
def N2:AG:=
 (AF (AW (m2 BE (m2 Au (m2 Au (m2 B0 (AA 3) (AA 3)) (m2 B0 (mC (.int 48271)) (AA 3))) (AA 4)) (m2 Au (m2 EK (mC (.int 10)) (mC (.int 18))) (mC (.int 9)))) (AE 3))
 (Cf 2 (AA 3)))
def Lv:AG:=
 (AF (C0 2 (Ay AD))
 (AF (Ai (m2 (CN λi j=>decide (j<=i)) (AA 0) (m2 EK (mC (.int 10)) (mC (.int 30)))) (AF (AW (m2 Ej (AA 0) (m2 EK (mC (.int 10)) (mC (.int 30)))) (AE 5))
 (AF (Bw (C7 (AB (AA 1) AD)) (AE 4) N3)
 (AN (AA 2)))) Af)
 (AF (AW (m2 Au (m2 BE (AA 0) (m2 Au (m2 EK (mC (.int 10)) (mC (.int 18))) (mC (.int 9)))) (mC (.int 48271))) (AE 3))
 (AF (Bw (C7 (AB (m2 Au (AA 1) (mC (.int 2))) AD)) (AE 4) N2)
 (AF (FT 2) (AN (Cg (EM (AA 2) (some (mC (.int 2))) none) (E5 (AA 2) (some (mC (.int 2))) none))))))))
def Gj:kL->Option Ru:=A5 2 6 Lv
abbrev Qm:Fn:=⟨1,["_law_cell","_law_many"],Gj⟩
abbrev zef:Gm:=⟨["_law_cell","_law_many","_law_found","_law_number_here","_law_k","_law_rest"],(AV Uk).names,[],0,[],["range"],[],["_law_found"],["raise_all"],false,[],[],[],Aa⟩
theorem zet:Ck zef Qm Uk Lv:={}
theorem TZ(c:Int){m:Nat}(hm:m<=1000):∃xs:Nat->Int,Gj [.int c,.int m]=some (.ok (.own (mT m λi=>.int (xs i)))):=by
 have p30:(0:Int)<=30/\(30:Int)<=1000000/\DI 10=true:=⟨by decide,by decide,Cv (by decide) (by decide)⟩
 have p45:(0:Int)<=45/\(45:Int)<=1000000/\DI 10=true:=⟨by decide,by decide,Cv (by decide) (by decide)⟩
 have p18:(0:Int)<=18/\(18:Int)<=1000000/\DI 10=true:=⟨by decide,by decide,Cv (by decide) (by decide)⟩
 have s45:Bh (10 ^ 45)=true:=Br (by decide) (by decide)
 have z45:((10:Int) ^ 45≠0)=True:=by simp
 have z18:((10:Int) ^ 18+9≠0)=True:=by simp
 have r45:(45:Int).toNat=45:=rfl;have r30:(30:Int).toNat=30:=rfl;have r18:(18:Int).toNat=18:=rfl
 by_cases h:(10:Int) ^ 30<=c
 .have loop:=Q4 (b:=AE 4) (body:=N3) (n:=m) (g:=λi=>.int (i:Int)) (τ:=[some (.int c),some (.int m),some (.own []),none,none,some (.int (c - 10 ^ 30))])
   (λi τ=>∃(xs:Nat->Int) (x:kH) (r:Int),τ=[some (.int c),some (.int m),some (.own (mT i λi=>.int (xs i))),none,x,some (.int r)])
   ⟨λ_=>0,none,_,rfl⟩ (by
    rintro i τ hi ⟨xs,x,r,rfl⟩;refine⟨_,by simp![];rfl,?_⟩
    have l1:i<100000:=by omega
    refine⟨_,by unfold N3;simp![p45,s45,z45,r45,l1];rfl,λj=>if j=i then r.fmod (10 ^ 45) else xs j,some (.int (i:Int)),r.fdiv (10 ^ 45),?_⟩
    rw[YG T.int])
  obtain⟨τ',e1,xs,x,r,rfl⟩:=loop;refine⟨xs,?_⟩;have o1:Bx (m:Int)=true:=Er (by omega)
  unfold Gj Lv
  simp![p30,r30,h,o1,Ca,e1]
 .have loop:=Q4 (b:=AE 4) (body:=N2) (n:=m+2) (g:=λi=>.int (i:Int)) (τ:=[some (.int c),some (.int m),some (.own []),some (.int (c.fmod (10 ^ 18+9)+48271)),none,none])
   (λi τ=>∃(xs:Nat->Int) (x:kH) (r:Int),0<=r/\r<2 * 10 ^ 18/\τ=[some (.int c),some (.int m),some (.own (mT i λi=>.int (xs i))),some (.int r),x,none])
   ⟨λ_=>0,none,_,by rw[fm (by decide)];omega,by rw[fm (by decide)];omega,rfl⟩ (by
    rintro i τ hi ⟨xs,x,r,r0,r1,rfl⟩;refine⟨_,by simp![];rfl,?_⟩
    have l1:i<100000:=by omega
    have m1:Cb r r=true:=zkm (Br (by omega) (by omega)) (Br (by omega) (by omega))
    have m2:Cb 48271 r=true:=IB (Cv (by decide) (by decide))
    refine⟨_,by unfold N2;simp![p18,z18,r18,l1,m1,m2];rfl,λj=>if j=i then (r * r+48271 * r+i).fmod (10 ^ 18+9) else xs j,some (.int (i:Int)),(r * r+48271 * r+i).fmod (10 ^ 18+9),by rw[fm (by decide)];omega,by rw[fm (by decide)];omega,?_⟩
    rw[YG T.int])
  obtain⟨τ',e1,xs,x,r,-,-,rfl⟩:=loop;refine⟨λi=>xs (i+2),?_⟩
  have o1:Bx ((m:Int)+2)=true:=Er (n:=m+2) (by omega)
  have o2:((m:Int)+2).toNat=m+2:=by omega
  have ct:BY (mT (m+2) λi=>.int (xs i)) (some 2) none=mT m λi=>.int (xs (i+2)):=by
   unfold BY;have e2:HT.sIx (mT (m+2) λi=>T.int (xs i)).length 0 (some 2)=2:=by rw[BW];simp[HT.sIx]
   have e3:HT.sIx (mT (m+2) λi=>T.int (xs i)).length (mT (m+2) λi=>T.int (xs i)).length none=m+2:=by rw[BW];rfl
   rw[e2,e3];refine EA (by simp[BW]) λi hi=>?_
   rw[ř (by omega),ħ,DN (by omega),Nat.add_comm]
  unfold Gj Lv
  simp![p30,r30,h,p18,r18,z18,o1,o2,Ca,e1,ct]
abbrev Ur:Stmt:=AI 74
def IE:AG:=
 (AN (m2 Au (m2 B0 (AA 1) (m2 BE (AA 0) (mC (.int 7)))) (AM (Ay (Ao (mC (.int 0)) (Ao (mC (.int 0)) (Ao (mC (.int 0)) (Ao (m2 Au (mC (.int 1)) (m2 BE (m2 Bi (AA 0) (mC (.int 28))) (mC (.int 3)))) AD))))) (m2 BE (m2 Bi (AA 0) (mC (.int 7))) (mC (.int 4))))))
def Gk:kL->Option Ru:=A5 2 2 IE
abbrev Qn:Fn:=⟨1,["_law_x","_law_unit"],Gk⟩
abbrev zeh:Gm:=⟨["_law_x","_law_unit"],(AV Ur).names,[],0,[],[],[],[],["raise_all"],false,[],[],[],Aa⟩
theorem zev:Ck zeh Qn Ur IE:={}
theorem Xi(x u:Int)(hu:0<=u):∃n,0<=n/\Gk [.int x,.int u]=some (.ok (.int n)):=by
 have h7:0<=x.fmod 7/\x.fmod 7<7:=by
  rw[fm (by decide)]
  omega
 have h3:0<=(x.fdiv 28).fmod 3:=by
  rw[fm (j:=3) (by decide)]
  omega
 have m1:Cb u (x.fmod 7)=true:=J6 (Cv (by omega) (by omega))
 have s28:Bh 28=true:=Br (by decide) (by decide)
 have s7:Bh 7=true:=Br (by decide) (by decide)
 have p0:0<=u * x.fmod 7:=Int.mul_nonneg hu h7.1
 have a3:∀{x y z v:T} {l:kL},AU (x::y::z::v::l) (3:Int)=some v:=by
  intro x y z v l;have:AU (x::y::z::v::l) ((3:Nat):Int)=some v:=Cs rfl;exact this
 have h4:(x.fdiv 7).fmod 4=0\/(x.fdiv 7).fmod 4=1\/(x.fdiv 7).fmod 4=2\/(x.fdiv 7).fmod 4=3:=by
  rw[fm (j:=4) (by decide)]
  omega
 rcases h4 with q|q|q|q
 .exact⟨u * x.fmod 7+0,by omega,by unfold Gk IE;simp![m1,s28,s7,q]⟩
 .exact⟨u * x.fmod 7+0,by omega,by unfold Gk IE;simp![m1,s28,s7,q]⟩
 .exact⟨u * x.fmod 7+0,by omega,by unfold Gk IE;simp![m1,s28,s7,q]⟩
 .exact⟨u * x.fmod 7+(1+(x.fdiv 28).fmod 3),by omega,by unfold Gk IE;simp![m1,s28,s7,q,a3]⟩
abbrev Uv:Stmt:=AI 75
def Hj:AG:=
 (Ai (m2 Bk (AA 2) (Ay AD)) (AF (AW (AM (Ay (Ao (mC (.str "<")) (Ao (mC (.str "<=")) (Ao (mC (.str ">")) (Ao (mC (.str ">=")) (Ao (mC (.str ">=")) (Ao (mC (.str "=")) AD))))))) (m2 BE (m2 Bi (AM (AA 0) (m2 Au (mC (.int 1)) (m2 B0 (mC (.int 2)) (AA 4)))) (mC (.int 8))) (mC (.int 6)))) (AE 5))
 (Cf 3 (CK (AB (AM (AA 2) (m2 BE (AM (AA 0) (m2 Au (mC (.int 1)) (m2 B0 (mC (.int 2)) (AA 4)))) (m1 BL (AA 2)))) (AB (AA 5) (AB (AL Gk (AB (AM (AA 0) (m2 Au (mC (.int 2)) (m2 B0 (mC (.int 2)) (AA 4)))) (AB (AA 1) AD))) AD)))))) Af)
def IF:AG:=
 (AF (C0 3 (Ay AD))
 (AF (Bw (C7 (AB (AM (Ay (Ao (mC (.int 0)) (Ao (mC (.int 1)) (Ao (mC (.int 1)) (Ao (mC (.int 2)) AD))))) (m2 BE (AM (AA 0) (mC (.int 0))) (mC (.int 4)))) AD)) (AE 4) Hj)
 (AN (AA 3))))
def He:kL->Option Ru:=A5 3 6 IF
abbrev Zf:Fn:=⟨2,["_law_xs","_law_unit","_law_watches"],He⟩
abbrev zfp:Gm:=⟨["_law_xs","_law_unit","_law_watches","_law_guard_here","_law_k","_law_word"],(AV Uv).names,[],1,[("_law_number",Qn)],["range","len"],[],["_law_guard_here"],["raise_all"],false,[],[],[],Aa⟩
theorem zg1:Ck zfp Zf Uv IF:={}
theorem Xs{ws:kE}(h:CO ws):Bk (.lst (ws.map T.str)) (.lst [])=some (.bl (!ws.isEmpty)):=by
 have f1:Fit (.lst (ws.map T.str)) 1:=Fit.nd λt ht=>by
  obtain⟨x,hx,rfl⟩:=ß.mp ht;exact Fit.str (h x hx) _
 have f2:Fit (.lst []) 1:=Fit.nd λt ht=>by cases ht
 have e:=(zp2 f1 f2 (by decide)).2
 rw[e];cases ws with
 |nil=>simp[T.data,Bd]|cons a r=>simp[T.data,Bd]
def JC:kE:=["<","<=",">",">=",">=","="]
theorem zlp:∀y∈JC,y∈Bq:=by decide +kernel
theorem JL{ys:kE}{i:Int}(h0:0<=i)(h1:i<ys.length):AU (ys.map T.str) i=some (.str (ys.getD i.toNat Str.empty))/\ys.getD i.toNat Str.empty∈ys:=by
 have hi:i.toNat<ys.length:=by omega
 rw[Ó,Â hi];exact⟨Gi h0 (by rw[Ê,Â hi];rfl),Ô hi⟩
theorem IC(x:Int){n:Nat}(h:1<=n):0<=x.fmod n/\x.fmod n<(n:Int):=by
 rw[fm (by omega)]
 exact⟨Int.emod_nonneg _ (by omega),Int.emod_lt_of_pos _ (by omega)⟩
theorem zl7{xs:Nat->Int}{u:Int}(hu:0<=u){ws:kE}(hw:CO ws){l:kL}(hl:BZ ws Bq l){k:Nat}(hk:k<2)(hn:l.length<=k){x5:kH}:∃l' y5,Hj [some (.lst (mT 5 λi=>.int (xs i))),some (.int u),some (.lst (ws.map T.str)),some (.own l),some (.int k),x5]
  = some (.nx [some (.lst (mT 5 λi=>.int (xs i))),some (.int u),some (.lst (ws.map T.str)),some (.own l'),some (.int k),y5])/\BZ ws Bq l'/\l'.length<=k+1:=by
 have en:=Xs hw;cases hws:ws.isEmpty with
 |true=>
  rw[hws]at en;refine⟨l,x5,?_,hl,by omega⟩
  unfold Hj
  simp![A7,A3,en]
 |false=>
  rw[hws]at en
  have h1:1<=ws.length:=by
   cases ws with
   |nil=>cases hws|cons a r=>simp
  have m2:Cb 2 (k:Int)=true:=IB (Cv (by decide) (by decide))
  have a1:AU (mT 5 λi=>T.int (xs i)) (1+2 * (k:Int))=some (.int (xs (1+2 * k))):=by
   have:=DO (n:=5) (g:=λi=>T.int (xs i)) (k:=1+2 * k) (by omega)
   simpa using this
  have a2:AU (mT 5 λi=>T.int (xs i)) (2+2 * (k:Int))=some (.int (xs (2+2 * k))):=by
   have:=DO (n:=5) (g:=λi=>T.int (xs i)) (k:=2+2 * k) (by omega)
   simpa using this
  have h6:=IC ((xs (1+2 * k)).fdiv 8) (n:=6) (by decide)
  obtain⟨b1,b2⟩:=JL (ys:=JC) h6.1 h6.2;have b1':AU [T.str (Str.ofString "<"),.str (Str.ofString "<="),.str (Str.ofString ">"),.str (Str.ofString ">="),.str (Str.ofString ">="),.str (Str.ofString "=")] (((xs (1+2 * k)).fdiv 8).fmod 6)=some (.str (JC.getD (((xs (1+2 * k)).fdiv 8).fmod 6).toNat Str.empty)):=b1;have hm:=IC (xs (1+2 * k)) h1;obtain⟨c1,c2⟩:=JL (ys:=ws) hm.1 hm.2;obtain⟨n,n0,e⟩:=Xi (xs (2+2 * k)) u hu;have s8:Bh 8=true:=Br (by decide) (by decide)
  have nw:((ws.length:Int)=0)=False:=ù (by omega)
  have ll:l.length<100000:=by omega
  refine⟨l++[.tup [.str (ws.getD ((xs (1+2 * k)).fmod ws.length).toNat Str.empty),.str (JC.getD (((xs (1+2 * k)).fdiv 8).fmod 6).toNat Str.empty),.int n]],some (.str (JC.getD (((xs (1+2 * k)).fdiv 8).fmod 6).toNat Str.empty)),?_,λt ht=>?_,by rw[Ö,Ø,õ];omega⟩
  .unfold Hj
   simp![A7,A3,Á,en,m2,a1,a2,b1',c1,e,s8,nw,ll]
  .rcases é.mp ht with ht|ht
   .exact hl t ht
   .rw[Û.mp ht];exact⟨_,_,_,rfl,c2,zlp _ b2,n0⟩
theorem gd_ex{xs:Nat->Int}{u:Int}(hu:0<=u){ws:kE}(hw:CO ws):∃l,He [.lst (mT 5 λi=>.int (xs i)),.int u,.lst (ws.map T.str)]=some (.ok (.own l))/\BZ ws Bq l/\l.length<=2:=by
 have go:∀n:Nat,n<=2->∃l y4 y5,As (AE 4) Hj (mT n λi=>.int (i:Int)) [some (.lst (mT 5 λi=>.int (xs i))),some (.int u),some (.lst (ws.map T.str)),some (.own []),none,none]=some (.nx [some (.lst (mT 5 λi=>.int (xs i))),some (.int u),some (.lst (ws.map T.str)),some (.own l),y4,y5])/\BZ ws Bq l/\l.length<=n:=λn hn=>by
  obtain⟨τ,e,l,y4,y5,rfl,h1,h2⟩:=Fz (b:=AE 4) (body:=Hj) (ts:=mT n λi=>.int (i:Int)) (τ:=[some (.lst (mT 5 λi=>.int (xs i))),some (.int u),some (.lst (ws.map T.str)),some (.own []),none,none])
   (λi τ=>∃l y4 y5,τ=[some (.lst (mT 5 λi=>.int (xs i))),some (.int u),some (.lst (ws.map T.str)),some (.own l),y4,y5]/\BZ ws Bq l/\l.length<=i) ⟨[],none,none,rfl,λt ht=>(by cases ht),í _⟩ λi t τ h1 h2=>by
    obtain⟨hi,rfl⟩:=G6 h1;obtain⟨l,y4,y5,rfl,k1,k2⟩:=h2;obtain⟨l',y5',ew,k3,k4⟩:=zl7 (xs:=xs) hu hw k1 (k:=i) (by omega) k2 (x5:=y5)
    exact⟨_,by simp![],_,ew,l',_,_,rfl,k3,k4⟩
  rw[BW]at h2;exact⟨l,y4,y5,e,h1,h2⟩
 have h4:(xs 0).fmod 4=0\/(xs 0).fmod 4=1\/(xs 0).fmod 4=2\/(xs 0).fmod 4=3:=by
  rw[fm (j:=4) (by decide)]
  omega
 have a0:AU (mT 5 λi=>T.int (xs i)) 0=some (.int (xs 0)):=DO (n:=5) (g:=λi=>T.int (xs i)) (k:=0) (by omega)
 have a3:∀{x y z v:T} {l:kL},AU (x::y::z::v::l) (3:Int)=some v:=by
  intro x y z v l;have:AU (x::y::z::v::l) ((3:Nat):Int)=some v:=Cs rfl;exact this
 have o0:Bx 0=true:=@decide_eq_true _ (Classical.propDecidable _) ⟨by decide,by decide⟩
 have o1:Bx 1=true:=@decide_eq_true _ (Classical.propDecidable _) ⟨by decide,by decide⟩
 have o2:Bx 2=true:=@decide_eq_true _ (Classical.propDecidable _) ⟨by decide,by decide⟩
 have r0:BQ 0 (0:Int).toNat=mT 0 λi=>.int (i:Int):=Ca
 have r1:BQ 0 (1:Int).toNat=mT 1 λi=>.int (i:Int):=Ca
 have r2:BQ 0 (2:Int).toNat=mT 2 λi=>.int (i:Int):=Ca
 rcases h4 with q|q|q|q
 .obtain⟨l,y4,y5,e,h1,h2⟩:=go 0 (by decide)
  exact⟨l,by unfold He IF;simp![A7,A3,a0,q,o0,r0,e],h1,by omega⟩
 .obtain⟨l,y4,y5,e,h1,h2⟩:=go 1 (by decide)
  exact⟨l,by unfold He IF;simp![A7,A3,a0,q,o1,r1,e],h1,by omega⟩
 .obtain⟨l,y4,y5,e,h1,h2⟩:=go 1 (by decide)
  exact⟨l,by unfold He IF;simp![A7,A3,a0,q,o1,r1,e],h1,by omega⟩
 .obtain⟨l,y4,y5,e,h1,h2⟩:=go 2 (by decide)
  exact⟨l,by unfold He IF;simp![A7,A3,a0,q,a3,o2,r2,e],h1,by omega⟩
abbrev Uw:Stmt:=AI 77
def QU:AH:=
 (m2 Ap (m2 BE (m2 Bi (m2 Bi (AM (AA 2) (mC (.int 7))) (m2 EK (mC (.int 2)) (mC (.int 4)))) (m2 Au (AA 0) (mC (.int 1)))) (mC (.int 2))) (mC (.int 1)))
def R5:AH:=
 (AM (AA 1) (AA 0))
def Pl:AG:=
 (AF (AW (AL Gj (AB (AA 0) (AB (mC (.int 9)) AD))) (AE 4))
 (AF (AW (Bb 1 [2,4] (C7 (AB (m1 BL (AA 2)) AD)) (AE 0) QU R5) (AE 5))
 (AF (AW (AM (Ay (Ao (mC (.str "")) (Ao (mC (.str "")) (Ao (mC (.str "")) (Ao (mC (.str "go!")) AD))))) (m2 B0 (m2 Bi (m2 BE (AM (AA 4) (mC (.int 8))) (mC (.int 16))) (mC (.int 12))) (m2 BE (m2 Bi (AM (AA 4) (mC (.int 8))) (mC (.int 16))) (mC (.int 4))))) (AE 6))
 (AN (CK (AB (m2 BE (AM (AA 4) (mC (.int 0))) (AA 3)) (AB (m2 BE (AM (AA 4) (mC (.int 1))) (AA 3)) (AB (AL He (AB (Cg (EM (AA 4) (some (mC (.int 2))) (some (mC (.int 7)))) (E5 (AA 4) (some (mC (.int 2))) (some (mC (.int 7))))) (AB (AA 1) (AB (AA 2) AD)))) (AB (AA 5) (AB (AA 6) AD))))))))))
def Iw:kL->Option Ru:=A5 4 7 Pl
abbrev Zh:Fn:=⟨3,["_law_cell","_law_unit","_law_watches","_law_many"],Iw⟩
abbrev zi2:Gm:=⟨["_law_cell","_law_unit","_law_watches","_law_many","_law_xs","_law_noughts","_law_sign"],(AV Uw).names,["_law_watches","_law_xs"],2,[("_law_stream",Qm),("_law_guard",Zf)],["range","len"],[],[],["raise_all"],false,[],[],[],Aa⟩
theorem zif:Ck zi2 Zh Uw Pl:={}
theorem QC{mt me:AH}{cs:AK}{f:Nat->T}{p:Nat->Bool}:∀{l:kG} {x:kH},(∀i∈l,(∃b,mt (some (.int (i:Int))::cs)=some (.v (.bl (p i)) b))/\me (some (.int (i:Int))::cs)=some (.v (f i) false))->CB (AE 0) mt me (l.map λi:Nat=>T.int (i:Int)) (x::cs)=some ((l.filter p).map f)
 |[],_,_=>rfl|i::r,x,h=>by
  obtain⟨⟨b,h1⟩,h2⟩:=h i (Ï ..);have ih:=QC (x:=some (.int (i:Int))) λj hj=>h j (Î _ hj)
  rw[Ñ];unfold CB;have eb:AE 0 (T.int (i:Int)) (x::cs)=some (some (.int (i:Int))::cs):=by simp[AE]
  erw[eb,h1];cases hp:p i with
  |true=>erw[h2,ih];rw[List.filter_cons_of_pos hp,Ñ]|false=>erw[ih];rw[List.filter_cons_of_neg (by rw[hp];exact û)]
def pN(y:Int)(i:Nat):Bool:=((y.fdiv 16).fdiv ((i:Int)+1)).fmod 2 == 1
def Ii(z:Str):Prop:=z=Str.ofString ""\/z=Str.ofString "go!"
theorem zld(c:Int){u:Int}(hu:0<=u){ws:kE}(hw:CO ws)(hd:ws.Nodup)(h7:ws.length<=7){m:Nat}(hm:1<=m):∃d:Sd,Iw [.int c,.int u,.lst (ws.map T.str),.int m]=some (.ok (BD d))/\d.b<m/\d.e<m/\BZ ws Bq d.g/\d.g.length<=2/\(∀x∈d.n,x∈ws)/\d.n.Nodup/\d.n.length<=7/\Ii d.z:=by
 obtain⟨xs,est⟩:=TZ c (m:=9) (by decide)
 obtain⟨g,eg,g1,g2⟩:=gd_ex (xs:=λi=>xs (i+2)) hu hw
 have gs:=g1.sh;have x9:∀k:Nat,k<9->AU (mT 9 λi=>T.int (xs i)) (k:Int)=some (.int (xs k)):=λk hk=>DO hk
 have x0:=x9 0 (by decide)
 have x1:=x9 1 (by decide)
 have x7:AU (mT 9 λi=>T.int (xs i)) 7=some (.int (xs 7)):=x9 7 (by decide)
 have x8:=x9 8 (by decide)
 have cu:BY (mT 9 λi=>T.int (xs i)) (some 2) (some 7)=mT 5 λi=>.int (xs (i+2)):=by
  have e1:HT.sIx 9 0 (some 2)=2:=by decide
  have e2:HT.sIx 9 9 (some 7)=7:=by decide
  unfold BY;rw[BW,e1,e2];refine EA (by rw[ó,ĭ,BW];rfl) λi hi=>?_
  rw[List.getElem?_take,if_pos (by omega),ħ,DN (by omega),Nat.add_comm]
 have lc:=QC (mt:=QU) (me:=R5) (cs:=[some (.lst (ws.map T.str)),some (.lst (mT 9 λi=>.int (xs i)))]) (f:=λi=>.str (ws.getD i Str.empty)) (p:=pN (xs 7)) (l:=List.range ws.length) (x:=none) λi hi=>by
  have hi':=ü.mp hi;have z16:((2:Int) ^ (4:Int).toNat)=16:=rfl;have t4:(0:Int)<=4/\(4:Int)<=1000000/\DI 2=true:=⟨by decide,by decide,Cv (by decide) (by decide)⟩
  have s16:Bh 16=true:=Br (by decide) (by decide)
  have si:Bh ((i:Int)+1)=true:=Br (Int.lt_of_lt_of_le (b:=0) (by decide +kernel) (by omega)) (Int.lt_trans (b:=9) (by omega) (by decide +kernel))
  have ni:((i:Int)+1=0)=False:=ù (by omega)
  have ai:AU (ws.map T.str) (i:Int)=some (.str (ws.getD i Str.empty)):=by
   have:=(JL (ys:=ws) (i:=(i:Int)) (by omega) (by omega)).1
   rwa[ò]at this
  have s9:Ad (mT 9 λi=>T.int (xs i))=true:=GQ _
  constructor
  .refine⟨false,?_⟩;unfold QU pN
   simp![x7,z16,t4,s16,si,ni,C8]
  .unfold R5
   simp![A3,ai]
 have lm:(List.range ws.length).map (λi:Nat=>T.int (i:Int))=mT ws.length λi=>.int (i:Int):=rfl
 rw[lm]at lc
 have fs:((List.range ws.length).filter (pN (xs 7))).map (λi=>T.str (ws.getD i Str.empty))=(((List.range ws.length).filter (pN (xs 7))).map λi=>ws.getD i Str.empty).map T.str:=by
  rw[ą]
  rfl
 rw[fs]at lc;have hin:∀i∈(List.range ws.length).filter (pN (xs 7)),i<ws.length:=λi hi=>ü.mp (Į.mp hi).1
 have n1:∀x∈((List.range ws.length).filter (pN (xs 7))).map (λi=>ws.getD i Str.empty),x∈ws:=λx hx=>by
  obtain⟨i,hi,rfl⟩:=ß.mp hx;have:=hin i hi;rw[Ó,Â this];exact Ô this
 have n2:(((List.range ws.length).filter (pN (xs 7))).map λi=>ws.getD i Str.empty).Nodup:=by
  rw[List.nodup_iff_pairwise_ne,List.pairwise_map];refine List.Pairwise.imp_of_mem ?_ (List.Pairwise.filter _ (List.nodup_range (n:=ws.length)));intro a b ha hb hab e;have h1:=hin a ha;have h2:=hin b hb;rw[Ó,Â h1,Ó,Â h2]at e;exact hab ((Ę hd).mp e)
 have n3:(((List.range ws.length).filter (pN (xs 7))).map λi=>ws.getD i Str.empty).length<=7:=by
  rw[Á];have:=List.length_filter_le (pN (xs 7)) (List.range ws.length);rw[ė]at this
  omega
 generalize ((List.range ws.length).filter (pN (xs 7))).map (λi=>ws.getD i Str.empty)=ns at lc n1 n2 n3
 have m16:0<=(xs 8).fmod 16/\(xs 8).fmod 16<16:=by
  rw[fm (by decide)]
  omega
 have q12:((xs 8).fmod 16).fdiv 12=0\/((xs 8).fmod 16).fdiv 12=1:=by
  rw[fd (by decide)]
  omega
 have q4:((xs 8).fdiv 16).fmod 4=0\/((xs 8).fdiv 16).fmod 4=1\/((xs 8).fdiv 16).fmod 4=2\/((xs 8).fdiv 16).fmod 4=3:=by
  rw[fm (j:=4) (by decide)]
  omega
 have a3:∀{x y z v:T} {l:kL},AU (x::y::z::v::l) (3:Int)=some v:=by
  intro x y z v l;have:AU (x::y::z::v::l) ((3:Nat):Int)=some v:=Cs rfl;exact this
 have sg:∃z,Ii z/\AU [T.str (Str.ofString ""),.str (Str.ofString ""),.str (Str.ofString ""),.str (Str.ofString "go!")] (((xs 8).fmod 16).fdiv 12 * ((xs 8).fdiv 16).fmod 4)=some (.str z):=by
  rcases q12 with q|q<;>rcases q4 with p|p|p|p<;>rw[q,p]
  .exact⟨_,.inl rfl,GD⟩
  .exact⟨_,.inl rfl,GD⟩
  .exact⟨_,.inl rfl,GD⟩
  .exact⟨_,.inl rfl,GD⟩
  .exact⟨_,.inl rfl,GD⟩
  .exact⟨_,.inl rfl,GC⟩
  .exact⟨_,.inl rfl,Ma⟩
  .exact⟨_,.inr rfl,a3⟩
 obtain⟨z,z1,z2⟩:=sg;have mz:Cb (((xs 8).fmod 16).fdiv 12) (((xs 8).fdiv 16).fmod 4)=true:=J6 (Cv (by rcases q4 with p|p|p|p<;>omega) (by rcases q4 with p|p|p|p<;>omega))
 have s16:Bh 16=true:=Br (by decide) (by decide)
 have s12:Bh 12=true:=Br (by decide) (by decide)
 have h0:=IC (xs 0) hm;have h1:=IC (xs 1) hm;have nm:((m:Int)=0)=False:=ù (by omega)
 have ok:Bx (ws.length:Int)=true:=Er (by omega)
 have er:BQ 0 ws.length=mT ws.length λi=>.int (i:Int):=Ca
 have l7:ws.length<=100000:=by omega
 refine⟨⟨((xs 0).fmod m).toNat,((xs 1).fmod m).toNat,g,ns,z⟩,?_,by show _<m;omega,by show _<m;omega,g1,g2,n1,n2,n3,z1⟩
 have t0:(((xs 0).fmod m).toNat:Int)=(xs 0).fmod m:=by omega
 have t1:(((xs 1).fmod m).toNat:Int)=(xs 1).fmod m:=by omega
 have x0':AU (mT 9 λi=>T.int (xs i)) 0=some (.int (xs 0)):=x0
 have x1':AU (mT 9 λi=>T.int (xs i)) 1=some (.int (xs 1)):=x1
 have x8':AU (mT 9 λi=>T.int (xs i)) 8=some (.int (xs 8)):=x8
 have est':Gj [.int c,.int 9]=some (.ok (.own (mT 9 λi=>.int (xs i)))):=est
 show Iw [.int c,.int u,.lst (ws.map T.str),.int m]=some (.ok (.tup [.int (((xs 0).fmod m).toNat:Int),.int (((xs 1).fmod m).toNat:Int),.lst g,.lst (ns.map T.str),.str z]));unfold Iw Pl
 simp![A7,A3,Á,est',ok,er,l7,lc,x0',x1',x8',s16,s12,mz,z2,cu,eg,gs,AO _ gs,nm,t0,t1]
abbrev Ul:Stmt:=AI 76
def Hi:AG:=
 (Ai (m2 Bk (AA 2) (Ay AD)) (AF (AW (m2 Au (AL Gk (AB (AM (AA 0) (m2 Au (mC (.int 2)) (m2 B0 (mC (.int 2)) (AA 4)))) (AB (AA 1) AD))) (m2 B0 (AA 1) (m2 Ej (mC (.int 1)) (m2 Bi (m2 BE (m2 Bi (AM (AA 0) (mC (.int 0))) (mC (.int 4))) (mC (.int 16))) (mC (.int 15)))))) (AE 5))
 (Cf 3 (CK (AB (AM (AA 2) (m2 BE (AM (AA 0) (m2 Au (mC (.int 1)) (m2 B0 (mC (.int 2)) (AA 4)))) (m1 BL (AA 2)))) (AB (AM (Ay (Ao (mC (.str "<")) (Ao (mC (.str "<=")) AD))) (m2 BE (m2 Bi (AM (AA 0) (m2 Au (mC (.int 1)) (m2 B0 (mC (.int 2)) (AA 4)))) (mC (.int 8))) (mC (.int 2)))) (AB (AA 5) AD)))))) Af)
def ID:AG:=
 (AF (C0 3 (Ay AD))
 (AF (Bw (C7 (AB (AM (Ay (Ao (mC (.int 0)) (Ao (mC (.int 0)) (Ao (mC (.int 1)) (Ao (mC (.int 2)) AD))))) (m2 BE (AM (AA 0) (mC (.int 0))) (mC (.int 4)))) AD)) (AE 4) Hi)
 (AN (AA 3))))
def Hc:kL->Option Ru:=A5 3 6 ID
abbrev Z7:Fn:=⟨2,["_law_xs","_law_unit","_law_watches"],Hc⟩
abbrev zhy:Gm:=⟨["_law_xs","_law_unit","_law_watches","_law_stay_here","_law_k","_law_number_here"],(AV Ul).names,[],1,[("_law_number",Qn)],["range","len"],[],["_law_stay_here"],["raise_all"],false,[],[],[],Aa⟩
theorem zib:Ck zhy Z7 Ul ID:={}
theorem zj4{xs:Nat->Int}{u:Int}(hu:0<=u){ws:kE}(hw:CO ws){l:kL}(hl:BZ ws DU l){k:Nat}(hk:k<2)(hn:l.length<=k){x5:kH}:∃l' y5,Hi [some (.lst (mT 5 λi=>.int (xs i))),some (.int u),some (.lst (ws.map T.str)),some (.own l),some (.int k),x5]
  = some (.nx [some (.lst (mT 5 λi=>.int (xs i))),some (.int u),some (.lst (ws.map T.str)),some (.own l'),some (.int k),y5])/\BZ ws DU l'/\l'.length<=k+1:=by
 have en:=Xs hw;cases hws:ws.isEmpty with
 |true=>
  rw[hws]at en;refine⟨l,x5,?_,hl,by omega⟩
  unfold Hi
  simp![A7,A3,en]
 |false=>
  rw[hws]at en
  have h1:1<=ws.length:=by
   cases ws with
   |nil=>cases hws|cons a r=>simp
  have m2:Cb 2 (k:Int)=true:=IB (Cv (by decide) (by decide))
  have a0:AU (mT 5 λi=>T.int (xs i)) 0=some (.int (xs 0)):=DO (n:=5) (g:=λi=>T.int (xs i)) (k:=0) (by omega)
  have a1:AU (mT 5 λi=>T.int (xs i)) (1+2 * (k:Int))=some (.int (xs (1+2 * k))):=by
   have:=DO (n:=5) (g:=λi=>T.int (xs i)) (k:=1+2 * k) (by omega)
   simpa using this
  have a2:AU (mT 5 λi=>T.int (xs i)) (2+2 * (k:Int))=some (.int (xs (2+2 * k))):=by
   have:=DO (n:=5) (g:=λi=>T.int (xs i)) (k:=2+2 * k) (by omega)
   simpa using this
  have h6:=IC ((xs (1+2 * k)).fdiv 8) (n:=2) (by decide)
  obtain⟨b1,b2⟩:=JL (ys:=DU) h6.1 h6.2;have b1':AU [T.str (Str.ofString "<"),.str (Str.ofString "<=")] (((xs (1+2 * k)).fdiv 8).fmod 2)=some (.str (DU.getD (((xs (1+2 * k)).fdiv 8).fmod 2).toNat Str.empty)):=b1;have hm:=IC (xs (1+2 * k)) h1;obtain⟨c1,c2⟩:=JL (ys:=ws) hm.1 hm.2;obtain⟨n,n0,e⟩:=Xi (xs (2+2 * k)) u hu;have s8:Bh 8=true:=Br (by decide) (by decide)
  have s4:Bh 4=true:=Br (by decide) (by decide)
  have s15:Bh 15=true:=Br (by decide) (by decide)
  have nw:((ws.length:Int)=0)=False:=ù (by omega)
  have ll:l.length<100000:=by omega
  have h15:0<=1 - (((xs 0).fdiv 4).fmod 16).fdiv 15/\1 - (((xs 0).fdiv 4).fmod 16).fdiv 15<=1:=by
   rw[fm (j:=16) (by decide),fd (j:=15) (by decide)]
   omega
  have mu:Cb u (1 - (((xs 0).fdiv 4).fmod 16).fdiv 15)=true:=J6 (Cv (by omega) (by omega))
  have pu0:0<=u * (1 - (((xs 0).fdiv 4).fmod 16).fdiv 15):=Int.mul_nonneg hu h15.1;refine⟨l++[.tup [.str (ws.getD ((xs (1+2 * k)).fmod ws.length).toNat Str.empty),.str (DU.getD (((xs (1+2 * k)).fdiv 8).fmod 2).toNat Str.empty),.int (n+u * (1 - (((xs 0).fdiv 4).fmod 16).fdiv 15))]],some (.int (n+u * (1 - (((xs 0).fdiv 4).fmod 16).fdiv 15))),?_,λt ht=>?_,by rw[Ö,Ø,õ];omega⟩
  .unfold Hi
   simp![A7,A3,Á,en,m2,a0,a1,a2,b1',c1,e,s8,s4,s15,nw,ll,mu]
  .rcases é.mp ht with ht|ht
   .exact hl t ht
   .rw[Û.mp ht];exact⟨_,_,_,rfl,c2,b2,by omega⟩
theorem sy_ex{xs:Nat->Int}{u:Int}(hu:0<=u){ws:kE}(hw:CO ws):∃l,Hc [.lst (mT 5 λi=>.int (xs i)),.int u,.lst (ws.map T.str)]=some (.ok (.own l))/\BZ ws DU l/\l.length<=2:=by
 have go:∀n:Nat,n<=2->∃l y4 y5,As (AE 4) Hi (mT n λi=>.int (i:Int)) [some (.lst (mT 5 λi=>.int (xs i))),some (.int u),some (.lst (ws.map T.str)),some (.own []),none,none]=some (.nx [some (.lst (mT 5 λi=>.int (xs i))),some (.int u),some (.lst (ws.map T.str)),some (.own l),y4,y5])/\BZ ws DU l/\l.length<=n:=λn hn=>by
  obtain⟨τ,e,l,y4,y5,rfl,h1,h2⟩:=Fz (b:=AE 4) (body:=Hi) (ts:=mT n λi=>.int (i:Int)) (τ:=[some (.lst (mT 5 λi=>.int (xs i))),some (.int u),some (.lst (ws.map T.str)),some (.own []),none,none])
   (λi τ=>∃l y4 y5,τ=[some (.lst (mT 5 λi=>.int (xs i))),some (.int u),some (.lst (ws.map T.str)),some (.own l),y4,y5]/\BZ ws DU l/\l.length<=i) ⟨[],none,none,rfl,λt ht=>(by cases ht),í _⟩ λi t τ h1 h2=>by
    obtain⟨hi,rfl⟩:=G6 h1;obtain⟨l,y4,y5,rfl,k1,k2⟩:=h2;obtain⟨l',y5',ew,k3,k4⟩:=zj4 (xs:=xs) hu hw k1 (k:=i) (by omega) k2 (x5:=y5)
    exact⟨_,by simp![],_,ew,l',_,_,rfl,k3,k4⟩
  rw[BW]at h2;exact⟨l,y4,y5,e,h1,h2⟩
 have h4:(xs 0).fmod 4=0\/(xs 0).fmod 4=1\/(xs 0).fmod 4=2\/(xs 0).fmod 4=3:=by
  rw[fm (j:=4) (by decide)]
  omega
 have a0:AU (mT 5 λi=>T.int (xs i)) 0=some (.int (xs 0)):=DO (n:=5) (g:=λi=>T.int (xs i)) (k:=0) (by omega)
 have a3:∀{x y z v:T} {l:kL},AU (x::y::z::v::l) (3:Int)=some v:=by
  intro x y z v l;have:AU (x::y::z::v::l) ((3:Nat):Int)=some v:=Cs rfl;exact this
 have o0:Bx 0=true:=@decide_eq_true _ (Classical.propDecidable _) ⟨by decide,by decide⟩
 have o1:Bx 1=true:=@decide_eq_true _ (Classical.propDecidable _) ⟨by decide,by decide⟩
 have o2:Bx 2=true:=@decide_eq_true _ (Classical.propDecidable _) ⟨by decide,by decide⟩
 have r0:BQ 0 (0:Int).toNat=mT 0 λi=>.int (i:Int):=Ca
 have r1:BQ 0 (1:Int).toNat=mT 1 λi=>.int (i:Int):=Ca
 have r2:BQ 0 (2:Int).toNat=mT 2 λi=>.int (i:Int):=Ca
 rcases h4 with q|q|q|q
 .obtain⟨l,y4,y5,e,h1,h2⟩:=go 0 (by decide)
  exact⟨l,by unfold Hc ID;simp![A7,A3,a0,q,o0,r0,e],h1,by omega⟩
 .obtain⟨l,y4,y5,e,h1,h2⟩:=go 0 (by decide)
  exact⟨l,by unfold Hc ID;simp![A7,A3,a0,q,o0,r0,e],h1,by omega⟩
 .obtain⟨l,y4,y5,e,h1,h2⟩:=go 1 (by decide)
  exact⟨l,by unfold Hc ID;simp![A7,A3,a0,q,o1,r1,e],h1,by omega⟩
 .obtain⟨l,y4,y5,e,h1,h2⟩:=go 2 (by decide)
  exact⟨l,by unfold Hc ID;simp![A7,A3,a0,q,a3,o2,r2,e],h1,by omega⟩
abbrev Uu:Stmt:=AI 78
def N5:AG:=
 (AF (AW (AL Gj (AB (m2 Au (AL FI (AB (AA 0) (AB (m2 Au (mC (.int 2)) (AA 7)) AD))) (AA 7)) (AB (mC (.int 5)) AD))) (AE 9))
 (Cf 6 (CK (AB (AM (AA 5) (AA 7)) (AB (AL Hc (AB (AA 9) (AB (AA 3) (AB (AA 4) AD)))) AD)))))
def RZ:AH:=
 (AL Iw (AB (AA 0) (AB (AA 2) (AB (AA 3) (AB (m1 BL (AA 1)) AD)))))
def Pk:AG:=
 (AF (AW (AL FI (AB (AA 0) (AB (mC (.int 0)) AD))) (AE 1))
 (AF (AW (AL FI (AB (AA 0) (AB (mC (.int 1)) AD))) (AE 2))
 (AF (AW (m2 Au (mC (.int 1)) (m2 BE (m2 Bi (AA 1) (mC (.int 4))) (AM (Ay (Ao (mC (.int 1)) (Ao (mC (.int 3)) (Ao (m2 EK (mC (.int 10)) (mC (.int 15))) (Ao (m2 EK (mC (.int 10)) (mC (.int 40))) AD))))) (m2 BE (AA 1) (mC (.int 4)))))) (AE 3))
 (AF (AW (AL Kc (AB (m2 Bi (AA 1) (mC (.int 16))) (AB (AM (Ay (Ao (mC (.int 0)) (Ao (mC (.int 1)) (Ao (mC (.int 1)) (Ao (mC (.int 2)) (Ao (mC (.int 2)) (Ao (mC (.int 2)) AD))))))) (m2 BE (AA 2) (mC (.int 6)))) AD))) (AE 4))
 (AF (AW (AL Kc (AB (m2 Bi (AA 2) (mC (.int 24))) (AB (m2 Au (mC (.int 1)) (m2 BE (m2 Bi (AA 2) (mC (.int 6))) (mC (.int 4)))) AD))) (AE 5))
 (AF (C0 6 (Ay AD))
 (AF (Bw (C7 (AB (m1 BL (AA 5)) AD)) (AE 7) N5)
 (AF (AW (Bb 1 [5,3,4] (Bc (Cg (EM (AA 0) (some (mC (.int 6))) (some (mC (.int 12)))) (E5 (AA 0) (some (mC (.int 6))) (some (mC (.int 12)))))) (AE 0) (mC (.bl true)) RZ) (AE 8))
 (AF (FT 6) (AN (CK (AB (AA 4) (AB (AA 6) (AB (AA 8) AD))))))))))))))
def NA:kL->Option Ru:=A5 1 10 Pk
abbrev Ze:Fn:=⟨4,["_law_script"],NA⟩
abbrev zdi:Gm:=⟨["_law_script","_law_first","_law_second","_law_unit","_law_watches","_law_names_here","_law_rooms","_law_k","_law_doors","_law_xs"],(AV Uu).names,["_law_unit","_law_watches","_law_names_here"],3,[("_law_cell_at",Qo),("_law_names",Zc),("_law_stream",Qm),("_law_stay",Z7),("_law_door",Zh)],["range","len"],[],["_law_rooms"],["raise_all"],false,[],[],[],Aa⟩
theorem zdt:Ck zdi Ze Uu Pk:={}
structure DrwOk(ws:kE)(rs:List (Str×kL))(dd:List Sd)(sz:Nat):Prop where
 w:∀x∈ws,Ef x/\1<=x.cps.size/\x.cps.size<=8
 wd:ws.Nodup
 wl:ws.length<=2
 r1:1<=rs.length
 r4:rs.length<=4
 rn:∀r∈rs,Ef r.1/\r.1.cps.size=sz
 sz:1<=sz/\sz<=8
 rd:(rs.map (·.1)).Nodup
 rl:∀r∈rs,BZ ws DU r.2/\r.2.length<=2
 dl:dd.length<=100
 d:∀d∈dd,d.b<rs.length/\d.e<rs.length/\BZ ws Bq d.g/\d.g.length<=2/\(∀x∈d.n,x∈ws)/\d.n.Nodup/\d.n.length<=7/\Ii d.z
theorem zo0(c:Int)(m:Nat):(mT m λk=>.str (CZ c k))=((List.range m).map (CZ c)).map T.str:=by
 unfold mT;rw[ą]
 rfl
theorem Xo(c:Int){m:Nat}(hm:m<20):((List.range m).map (CZ c)).Nodup:=by
 rw[List.nodup_iff_pairwise_ne,List.pairwise_map];refine List.Pairwise.imp_of_mem ?_ (List.nodup_range (n:=m));intro a b ha hb hab e;have h1:=ü.mp ha;have h2:=ü.mp hb;exact hab (zo1 (by omega) (by omega) e)
theorem ze5(ns:kF)(h:ns.length<=63):∃ws rs dd sz,NA [CH ns]=some (.ok (Bn ws rs dd))/\DrwOk ws rs dd sz:=by
 have c0:FI [CH ns,.int 0]=some (.ok (.int (ns.getD 0 0))):=M3 ns (k:=0) (by decide)
 have c1:FI [CH ns,.int 1]=some (.ok (.int (ns.getD 1 0))):=M3 ns (k:=1) (by decide)
 have ck:∀k:Nat,FI [CH ns,.int (2+(k:Int))]=some (.ok (.int (ns.getD (2+(k:Int)).toNat 0))):=λk=>M3 ns (by omega)
 generalize ns.getD 0 0=x at c0;generalize ns.getD 1 0=y at c1
 have a3:∀{x y z v:T} {l:kL},AU (x::y::z::v::l) (3:Int)=some v:=by
  intro x y z v l;have:AU (x::y::z::v::l) ((3:Nat):Int)=some v:=Cs rfl;exact this
 have a4:∀{x y z v w:T} {l:kL},AU (x::y::z::v::w::l) (4:Int)=some w:=by
  intro x y z v w l;have:AU (x::y::z::v::w::l) ((4:Nat):Int)=some w:=Cs rfl;exact this
 have a5:∀{x y z v w t:T} {l:kL},AU (x::y::z::v::w::t::l) (5:Int)=some t:=by
  intro x y z v w t l;have:AU (x::y::z::v::w::t::l) ((5:Nat):Int)=some t:=Cs rfl;exact this
 have q4:x.fmod 4=0\/x.fmod 4=1\/x.fmod 4=2\/x.fmod 4=3:=by
  rw[fm (j:=4) (by decide)]
  omega
 have eu:∃q:Int,0<q/\AU [T.int 1,.int 3,.int (10 ^ 15),.int (10 ^ 40)] (x.fmod 4)=some (.int q):=by
  rcases q4 with p|p|p|p<;>rw[p]
  .exact⟨_,by decide,GD⟩
  .exact⟨_,by decide,GC⟩
  .exact⟨_,by decide,Ma⟩
  .exact⟨_,by decide,a3⟩
 obtain⟨q,q0,eq⟩:=eu
 have q6:y.fmod 6=0\/y.fmod 6=1\/y.fmod 6=2\/y.fmod 6=3\/y.fmod 6=4\/y.fmod 6=5:=by
  rw[fm (j:=6) (by decide)]
  omega
 have ew:∃m:Nat,m<=2/\AU [T.int 0,.int 1,.int 1,.int 2,.int 2,.int 2] (y.fmod 6)=some (.int (m:Int)):=by
  rcases q6 with p|p|p|p|p|p<;>rw[p]
  .exact⟨0,by decide,GD⟩
  .exact⟨1,by decide,GC⟩
  .exact⟨1,by decide,Ma⟩
  .exact⟨2,by decide,a3⟩
  .exact⟨2,by decide,a4⟩
  .exact⟨2,by decide,a5⟩
 obtain⟨m,m2,em⟩:=ew
 have en:∃n:Nat,1<=n/\n<=4/\1+(y.fdiv 6).fmod 4=(n:Int):=by
  refine⟨(1+(y.fdiv 6).fmod 4).toNat,?_⟩;rw[fm (j:=4) (by decide)]
  omega
 obtain⟨n,n1,n4,en⟩:=en
 have u0:0<=1+(x.fdiv 4).fmod q:=by
  rw[fm (j:=q) q0];have:=Int.emod_nonneg (x.fdiv 4) (show q≠0 by omega)
  omega
 have nw:=Xu (x.fdiv 16) (m:=m) (by omega)
 have nn:=Xu (y.fdiv 24) (m:=n) (by omega)
 rw[zo0]at nw nn
 have hws:∀z∈(List.range m).map (CZ (x.fdiv 16)),Ef z/\1<=z.cps.size/\z.cps.size<=8:=λz hz=>by
  obtain⟨k,_,rfl⟩:=ß.mp hz;have:=Hy (x.fdiv 16);rw[Oe];exact⟨Xp _ _,this.1,this.2.1⟩
 have wnd:=Xo (x.fdiv 16) (m:=m) (by omega)
 have wln:((List.range m).map (CZ (x.fdiv 16))).length=m:=by simp
 generalize (List.range m).map (CZ (x.fdiv 16))=ws at nw hws wnd wln;have tw:CO ws:=λz hz=>LN (hws z hz).1
 have rnm:∀z∈(List.range n).map (CZ (y.fdiv 24)),Ef z/\z.cps.size=C1 (y.fdiv 24):=λz hz=>by
  obtain⟨k,_,rfl⟩:=ß.mp hz;exact⟨Xp _ _,Oe _ _⟩
 have rnd:=Xo (y.fdiv 24) (m:=n) (by omega)
 have rln:((List.range n).map (CZ (y.fdiv 24))).length=n:=by simp
 generalize (List.range n).map (CZ (y.fdiv 24))=zs at nn rnm rnd rln;generalize hu:1+(x.fdiv 4).fmod q=u at u0
 obtain⟨τ,e,rs,x7,x9,rfl,hr1,hr2⟩:=Fz (b:=AE 7) (body:=N5) (ts:=mT n λi=>.int (i:Int)) (τ:=[some (CH ns),some (.int x),some (.int y),some (.int u),some (.lst (ws.map T.str)),some (.lst (zs.map T.str)),some (.own []),none,none,none])
  (λi τ=>∃(rs:List (Str×kL)) (x7 x9:kH),τ=[some (CH ns),some (.int x),some (.int y),some (.int u),some (.lst (ws.map T.str)),some (.lst (zs.map T.str)),some (.own (rs.map B8)),x7,none,x9]/\rs.map (·.1)=zs.take i/\∀r∈rs,BZ ws DU r.2/\r.2.length<=2) ⟨[],none,none,rfl,by simp,λr hr=>by cases hr⟩ λi t τ h1 h2=>by
   obtain⟨hi,rfl⟩:=G6 h1;obtain⟨rs,x7,x9,rfl,k1,k2⟩:=h2;obtain⟨xs,es⟩:=TZ (ns.getD (2+(i:Int)).toNat 0+(i:Int)) (m:=5) (by decide)
   have es':Gj [.int (ns.getD (2+(i:Int)).toNat 0+(i:Int)),.int 5]=some (.ok (.own (mT 5 λi=>.int (xs i)))):=es
   obtain⟨l,el,l1,l2⟩:=sy_ex (xs:=xs) u0 tw;have ls:=l1.sh
   have lr:(rs.map B8).length<100000:=by
    have:=congrArg List.length k1;rw[Á,ó]at this;rw[Á]
    omega
   have hi':i<zs.length:=by omega
   have ai:AU (zs.map T.str) (i:Int)=some (.str zs[i]):=Cs (by rw[Ê,Â hi'];rfl)
   have s5:Ad (mT 5 λi=>T.int (xs i))=true:=GQ _
   refine⟨[some (CH ns),some (.int x),some (.int y),some (.int u),some (.lst (ws.map T.str)),some (.lst (zs.map T.str)),some (.own (rs.map B8)),some (.int (i:Int)),none,x9],by simp![],[some (CH ns),some (.int x),some (.int y),some (.int u),some (.lst (ws.map T.str)),some (.lst (zs.map T.str)),some (.own ((rs++[(zs[i],l)]).map B8)),some (.int (i:Int)),none,some (.lst (mT 5 λi=>.int (xs i)))],?_,rs++[(zs[i],l)],_,_,rfl,?_,λr hr=>?_⟩
   .rw[á];unfold N5
    simp![T8,T9,ck i,es',A7,A3,ai,el,ls,AO _ ls,lr]
   .rw[á,k1,<- Ś hi']
    rfl
   .rcases é.mp hr with hr|hr
    .exact k2 r hr
    .rw[Û.mp hr];exact⟨l1,l2⟩
 rw[BW,<- rln,Ŵ]at hr1;have hz1:1<=zs.length:=by omega
 have hdx:∀c:Int,∃d:Sd,Iw [.int c,.int u,.lst (ws.map T.str),.int zs.length]=some (.ok (BD d))/\d.b<zs.length/\d.e<zs.length/\BZ ws Bq d.g/\d.g.length<=2/\(∀x∈d.n,x∈ws)/\d.n.Nodup/\d.n.length<=7/\Ii d.z:=λc=>zld c u0 tw wnd (by omega) hz1
 obtain⟨f,hf⟩:=Classical.axiomOfChoice hdx;have cl:=zlf ns (some 6) (some 12);have cm:BY (ns.map T.int) (some 6) (some 12)=(BY ns (some 6) (some 12)).map T.int:=M1 _ _ _ _;generalize BY ns (some 6) (some 12)=ks at cl cm
 have lc:=IK (b:=AE 0) (me:=RZ) (ts:=ks.map T.int) (τ:=[none,some (.lst (zs.map T.str)),some (.int u),some (.lst (ws.map T.str))]) (λ_ τ=>∃x,τ=[x,some (.lst (zs.map T.str)),some (.int u),some (.lst (ws.map T.str))]) (λi=>BD (f (ks.getD i 0))) ⟨none,rfl⟩ λi t τ h1 h2=>by
  obtain⟨x,rfl⟩:=h2;have hi:i<ks.length:=by simpa using (Í.mp h1).1
  rw[Ê,Â hi]at h1
  have et:t=.int (ks.getD i 0):=by
   rw[Ó,Â hi];exact(Ý h1).symm
  subst et;have ed:=(hf (ks.getD i 0)).1;refine⟨[some (.int (ks.getD i 0)),some (.lst (zs.map T.str)),some (.int u),some (.lst (ws.map T.str))],by simp![],?_,_,rfl⟩
  unfold RZ
  simp![A7,A3,Á,ed]
 have ee:(List.range (ks.map T.int).length).map (λi=>BD (f (ks.getD i 0)))=(ks.map f).map BD:=by
  rw[Á];refine(EA (n:=ks.length) (g:=λi=>BD (f (ks.getD i 0))) (by simp) λi hi=>?_).symm
  rw[Ê,Ê,Ó,Â hi]
  rfl
 rw[ee]at lc
 have hds:∀d∈ks.map f,d.b<zs.length/\d.e<zs.length/\BZ ws Bq d.g/\d.g.length<=2/\(∀x∈d.n,x∈ws)/\d.n.Nodup/\d.n.length<=7/\Ii d.z:=λd hd=>by
  obtain⟨c,_,rfl⟩:=ß.mp hd;exact(hf c).2
 have hdl:(ks.map f).length<=100:=by
  rw[Á]
  omega
 generalize ks.map f=dd at lc hds hdl;have zl:rs.length=zs.length:=by rw[<- hr1,Á]
 have D:DrwOk ws rs dd (C1 (y.fdiv 24)):=by
  refine⟨hws,wnd,by omega,by omega,by omega,λr hr=>rnm _ (hr1▸Ĕ hr),⟨(Hy _).1,(Hy _).2.1⟩,by rw[hr1];exact rnd,hr2,hdl,λd hd=>?_⟩
  rw[zl];exact hds d hd
 refine⟨ws,rs,dd,_,?_,D⟩
 have sr:Ad (rs.map B8)=true:=by
  rw[DV,æ];intro t ht;obtain⟨r,hr,rfl⟩:=ß.mp ht;have:=(hr2 r hr).1.sh
  simp![this]
 have er:=AO _ sr
 have sd:Ad (dd.map BD)=true:=by
  rw[DV,æ];intro t ht;obtain⟨d,hd,rfl⟩:=ß.mp ht;have:=(hds d hd).2.2.1.sh
  simp![this,A3]
 have ed:=AO _ sd;have s4:Bh 4=true:=Br (by decide) (by decide)
 have s16:Bh 16=true:=Br (by decide) (by decide)
 have s24:Bh 24=true:=Br (by decide) (by decide)
 have s6:Bh 6=true:=Br (by decide) (by decide)
 have z15:((10:Int) ^ (15:Int).toNat)=10 ^ 15:=rfl;have z40:((10:Int) ^ (40:Int).toNat)=10 ^ 40:=rfl;have t15:(0:Int)<=15/\(15:Int)<=1000000/\DI 10=true:=⟨by decide,by decide,Cv (by decide) (by decide)⟩
 have t40:(0:Int)<=40/\(40:Int)<=1000000/\DI 10=true:=⟨by decide,by decide,Cv (by decide) (by decide)⟩
 have nq:(q=0)=False:=ù (by omega)
 have ok:Bx (zs.length:Int)=true:=Er (by omega)
 have rg:BQ 0 zs.length=mT n λi=>.int (i:Int):=by rw[rln];exact Ca
 have kl:ks.length<=100000:=by omega
 unfold CH at *;unfold NA Pk
 simp![JN,JO,c0,c1,s4,s16,s24,s6,z15,z40,t15,t40,eq,nq,hu,em,nw,en,nn,A7,A3,Á,ok,rg,e,cm,lc,kl,sr,er,sd,ed]
abbrev Ud:Stmt:=Co 41 1
def Pa:AG:=
 (AN (Cg (m1 CA (Bt Aw Ax 0 (AA 0))) (G7 (Bt Aw Ax 0 (AA 0)))))
def Iq:kL->Option Ru:=A5 1 1 Pa
abbrev Qi:Fn:=⟨1,["self"],Iq⟩
abbrev za5:Gx:={ Aa with cl:=[("Machine",Aw,Ax)] }
abbrev za7:Gm:=⟨["self"],(AV Ud).names,[],0,[],["list"],[],[],["raise_all"],false,[],[],[],za5⟩
theorem zaa:Ck za7 Qi Ud Pa:={}
theorem Og{M:Mc}(h:McOk M):Iq [D0 M]=some (.ok (.own (M.ws.map T.str))):=by
 unfold Iq Pa
 simp![A7,A3,h.ss,h.sd,AO _ h.ss,AO _ h.sd]
abbrev Ue:Stmt:=Co 41 5
def Pb:AG:=
 (AN (m2 Au (Jj (Bt Aw Ax 0 (AA 0)) (AA 1)) (mC (.int 1))))
def Ir:kL->Option Ru:=A5 2 2 Pb
abbrev Qj:Fn:=⟨1,["self","name"],Ir⟩
abbrev za0:Gx:={ Aa with cl:=[("Machine",Aw,Ax)] }
abbrev za1:Gm:=⟨["self","name"],(AV Ue).names,[],0,[],[],[],[],["raise_all"],false,[],[],[],za0⟩
theorem za2:Ck za1 Qj Ue Pb:={}
theorem Xy{M:Mc}(h:McOk M){x:Str}{j:Nat}(e:CM M.ws x=some j):Ir [D0 M,.str x]=some (.ok (.int ((j:Int)+1))):=by
 have l1:M.ws.length<1000000:=by have:=h.wl;omega
 unfold Ir Pb
 simp![A7,A3,LJ,h.ss,h.sd,AO _ h.ss,AO _ h.sd,e,l1]
abbrev Tw:Stmt:=AI 47
def RJ:AH:=
 (CK (AB (DP Aw Ax Ir (AA 3) (AB (AA 0) AD)) (AB (AA 1) (AB (AA 2) AD))))
def Lo:AG:=
 (AF (AW (DP Aw Ax Iq (AA 0) AD) (AE 2))
 (AF (Ai (BH (AL GH (AB (AA 1) (AB (AA 2) (AB (mC EC) AD))))) (CW "NoMark" (AB (mC (.str "a guard is a list of looks at the machine's watches")) AD)) Af)
 (AN (Bb 3 [0] (Bc (AA 1)) (BN 3 (AS (AE 0) (AS (AE 1) (AS (AE 2) BU)))) (mC (.bl true)) RJ))))
def Ct:kL->Option Ru:=A5 2 3 Lo
abbrev Qa:Fn:=⟨5,["machine","guard"],Ct⟩
abbrev zfk:Gx:={ Aa with co:=[("WORDS",EC)],mt:=[("watches",Aw,Ax,Qi),("watch_number",Aw,Ax,Qj)] }
abbrev zfn:Gm:=⟨["machine","guard","watches"],(AV Tw).names,["machine"],4,[("is_guard",MU)],[],["NoMark"],[],["raise_all"],false,[],[],[],zfk⟩
theorem zfz:Ck zfn Qa Tw Lo:={}
def Fs:T->Str
 |.nd _ _ (.str x::_)=>x|_=>Str.empty
def G9:T->Str
 |.nd _ _ (_::.str y::_)=>y|_=>Str.empty
def Ga:T->Int
 |.nd _ _ (_::_::.int n::_)=>n|_=>0
theorem Pz{ws wd:kE}{t:T}(h:∃x y n,t=.tup [.str x,.str y,.int n]/\x∈ws/\y∈wd/\0<=n):t=.tup [.str (Fs t),.str (G9 t),.int (Ga t)]/\Fs t∈ws/\G9 t∈wd/\0<=Ga t:=by
 obtain⟨x,y,n,rfl,h1,h2,h3⟩:=h;exact⟨rfl,h1,h2,h3⟩
def Fo(ws:kE)(t:T):T:=.tup [.int (((CM ws (Fs t)).getD 0:Int)+1),.str (G9 t),.int (Ga t)]
theorem ML{ws:kE}{x:Str}(h:x∈ws):∃j,CM ws x=some j/\∃hj:j<ws.length,ws[j]=x:=by
 unfold CM;cases e:List.findIdx? (λy=>@decide (y=x) (Classical.propDecidable _)) ws with
 |none=>have:=List.findIdx?_eq_none_iff.mp e x h;simp at this|some j=>obtain⟨h1,h2,_⟩:=Đ.mp e;exact⟨j,rfl,h1,@of_decide_eq_true _ (Classical.propDecidable _) h2⟩
theorem QB{α:Type}{b:T->AK->Option AK}{me:AH}(f g:α->T)(I:AK->Prop):∀(L:List α) (τ:AK),I τ->(∀x∈L,∀τ,I τ->∃τ1,b (f x) τ=some τ1/\me τ1=some (.v (g x) false)/\I τ1)->CB b (mC (.bl true)) me (L.map f) τ=some (L.map g)
 |[],_,_,_=>rfl|x::L,τ,h,hs=>by
  obtain⟨τ1,e1,e2,h1⟩:=hs x (Ï ..) τ h;have k:=QB f g I L τ1 h1 λu hu=>hs u (Î _ hu)
  have f1:mC (.bl true) τ1=some (.v (.bl true) false):=rfl;rw[Ñ,Ñ];unfold CB
  omega
theorem O4{M:Mc}(h:McOk M){l:kL}{wd:kE}(hl:BZ M.ws wd l)(hw:∀y∈wd,y∈Bq)(hn:l.length<=1000):Ct [D0 M,.lst l]=some (.ok (.own (l.map (Fo M.ws)))):=by
 have hl':BZ M.ws Bq l:=λt ht=>by
  obtain⟨x,y,n,e,h1,h2,h3⟩:=hl t ht;exact⟨x,y,n,e,h1,hw y h2,h3⟩
 have hg:=QY h.tw SY hn hl';have hs:=hl.sh;have es:=AO _ hs
 have lc:=QB (b:=BN 3 (AS (AE 0) (AS (AE 1) (AS (AE 2) BU)))) (me:=RJ) (λt:T=>t) (Fo M.ws) (λτ=>∃x y z,τ=[x,y,z,some (D0 M)]) l [none,none,none,some (D0 M)] ⟨none,none,none,rfl⟩ λt ht τ hI=>by
  obtain⟨x,y,z,rfl⟩:=hI;obtain⟨k1,k2,k3,k4⟩:=Pz (hl' t ht);obtain⟨j,ej,_⟩:=ML k2;have en:=Xy h ej;refine⟨[some (.str (Fs t)),some (.str (G9 t)),some (.int (Ga t)),some (D0 M)],by rw[k1];simp![Fs,G9,Ga],?_,_,_,_,rfl⟩
  unfold RJ Fo;rw[ej]
  simp![A7,A3,h.ss,h.sd,AO _ h.ss,AO _ h.sd,en,ņ]
 rw[List.map_id']at lc;have mw:=Og h;have l1:l.length<=100000:=by omega
 unfold Ct Lo
 simp![Jr,A7,A3,h.ss,h.sd,AO _ h.ss,AO _ h.sd,mw,hs,es,hg,l1,lc]
theorem zd5{M:Mc}(h:McOk M){t:T}(ht:t.sh=true)(hg:GH [t,.lst (M.ws.map T.str),EC]=some (.ok (.bl false))):Ct [D0 M,t]=some (.exc "NoMark"):=by
 have mw:=Og h;rw[Jr]at hg;unfold Ct Lo
 simp![Jr,A7,A3,h.ss,h.sd,AO _ h.ss,AO _ h.sd,mw,hg,ht,An _ ht]
abbrev Uh:Stmt:=Co 41 2
def YF:AG:=
 (AN (Cg (m1 CA (Bt Aw Ax 1 (AA 0))) (G7 (Bt Aw Ax 1 (AA 0)))))
def Iu:kL->Option Ru:=A5 1 1 YF
abbrev Qk:Fn:=⟨1,["self"],Iu⟩
abbrev zad:Gx:={ Aa with cl:=[("Machine",Aw,Ax)] }
abbrev zai:Gm:=⟨["self"],(AV Uh).names,[],0,[],["list"],[],[],["raise_all"],false,[],[],[],zad⟩
theorem zan:Ck zai Qk Uh YF:={}
theorem Xv{M:Mc}(h:McOk M):Iu [D0 M]=some (.ok (.own ((M.rs.map (·.1)).map T.str))):=by
 rfl
abbrev Ug:Stmt:=Co 41 4
def Pc:AG:=
 (AN (m1 CA (Jk (Bt Aw Ax 1 (AA 0)) (AA 1))))
def K9:kL->Option Ru:=A5 2 2 Pc
abbrev Z5:Fn:=⟨1,["self","room"],K9⟩
abbrev zar:Gx:={ Aa with cl:=[("Machine",Aw,Ax)] }
abbrev zav:Gm:=⟨["self","room"],(AV Ug).names,[],0,[],["list"],[],[],["raise_all"],false,[],[],[],zar⟩
theorem zb0:Ck zav Z5 Ug Pc:={}
theorem zht{ws:kE}(hd:ws.Nodup){i:Nat}(hi:i<ws.length):CM ws ws[i]=some i:=by
 unfold CM;rw[Đ];refine⟨hi,@decide_eq_true _ (Classical.propDecidable _) rfl,λj hj q=>?_⟩
 have:=@of_decide_eq_true _ (Classical.propDecidable _) q;have:=(Ę hd).mp this
 omega
theorem zko{M:Mc}(h:McOk M){i:Nat}(hi:i<M.rs.length):K9 [D0 M,.str M.rs[i].1]=some (.ok (.own M.rs[i].2)):=by
 have e:=zht h.r.nd (i:=i) (by simp_all)
 rw[Ĭ]at e;have e2:(M.rs.map λr=>T.lst r.2)[i]?=some (.lst M.rs[i].2):=by simp_all
 have k:=(h.r.lk _ (Ô hi)).1.sh;unfold K9 Pc
 simp![Jk,A7,A3,h.ss,h.sd,AO _ h.ss,AO _ h.sd,e,e2,k,AO _ k]
abbrev Uj:Stmt:=Co 41 3
def Pe:AG:=
 (AN (Cg (m1 CA (Bt Aw Ax 2 (AA 0))) (G7 (Bt Aw Ax 2 (AA 0)))))
def Ka:kL->Option Ru:=A5 1 1 Pe
abbrev Z6:Fn:=⟨1,["self"],Ka⟩
abbrev zae:Gx:={ Aa with cl:=[("Machine",Aw,Ax)] }
abbrev zaj:Gm:=⟨["self"],(AV Uj).names,[],0,[],["list"],[],[],["raise_all"],false,[],[],[],zae⟩
theorem zao:Ck zaj Z6 Uj Pe:={}
theorem zkr{M:Mc}(h:McOk M):Ka [D0 M]=some (.ok (.own (M.ds.map A6))):=by
 unfold Ka Pe
 simp![A7,A3,h.ss,h.sd,AO _ h.ss,AO _ h.sd]
abbrev VB:Stmt:=Co 40 1
def Pq:AG:=
 (AN (Cg (m1 CA (Bt BO B3 2 (AA 0))) (G7 (Bt BO B3 2 (AA 0)))))
def NC:kL->Option Ru:=A5 1 1 Pq
abbrev Zk:Fn:=⟨1,["self"],NC⟩
abbrev zc8:Gx:={ Aa with cl:=[("Door",BO,B3)] }
abbrev zcl:Gm:=⟨["self"],(AV VB).names,[],0,[],["list"],[],[],["raise_all"],false,[],[],[],zc8⟩
theorem zcz:Ck zcl Zk VB Pq:={}
theorem zle{d:Dr}(h:Ad d.g=true):NC [A6 d]=some (.ok (.own d.g)):=by
 unfold NC Pq
 simp![A7,A3,h,AO _ h]
abbrev Uz:Stmt:=Co 40 2
def Po:AG:=
 (AN (Cg (m1 CA (Bt BO B3 3 (AA 0))) (G7 (Bt BO B3 3 (AA 0)))))
def NB:kL->Option Ru:=A5 1 1 Po
abbrev Zj:Fn:=⟨1,["self"],NB⟩
abbrev zc6:Gx:={ Aa with cl:=[("Door",BO,B3)] }
abbrev zcj:Gm:=⟨["self"],(AV Uz).names,[],0,[],["list"],[],[],["raise_all"],false,[],[],[],zc6⟩
theorem zcx:Ck zcj Zj Uz Po:={}
theorem zlc{d:Dr}(h:Ad d.g=true):NB [A6 d]=some (.ok (.own (d.n.map T.str))):=by
 unfold NB Po
 simp![A7,A3,h,AO _ h]
abbrev Ua:Stmt:=AI 13
def P6:AG:=
 (AN (m2 Au (m2 B0 (mC (.int 2)) (AA 0)) (mC (.int 1))))
def GI:kL->Option Ru:=A5 1 1 P6
abbrev KG:Fn:=⟨1,["number"],GI⟩
abbrev zee:Gm:=⟨["number"],(AV Ua).names,[],0,[],[],[],[],["raise_all"],false,[],[],[],Aa⟩
theorem zes:Ck zee KG Ua P6:={}
theorem bP(i:Int):GI [.int i]=some (.ok (.int (2 * i+1))):=by
 have m:Cb 2 i=true:=IB (Cv (by decide) (by decide))
 unfold GI P6
 simp![m]
theorem Me:GI [.int 0]=some (.ok (.int 1)):=bP 0
abbrev U9:Stmt:=AI 14
def P5:AG:=
 (AN (m2 B0 (mC (.int 2)) (AA 0)))
def K8:kL->Option Ru:=A5 1 1 P5
abbrev Z3:Fn:=⟨1,["number"],K8⟩
abbrev zhx:Gm:=⟨["number"],(AV U9).names,[],0,[],[],[],[],["raise_all"],false,[],[],[],Aa⟩
theorem zia:Ck zhx Z3 U9 P5:={}
theorem bl_ok(i:Int):K8 [.int i]=some (.ok (.int (2 * i))):=by
 have m:Cb 2 i=true:=IB (Cv (by decide) (by decide))
 unfold K8 P5
 simp![m]
abbrev UA:Stmt:=AI 15
def Oy:AG:=
 (AN (m2 Bi (AA 0) (mC (.int 2))))
def Mj:kL->Option Ru:=A5 1 1 Oy
abbrev ZI:Fn:=⟨1,["bound"],Mj⟩
abbrev zcc:Gm:=⟨["bound"],(AV UA).names,[],0,[],[],[],[],["raise_all"],false,[],[],[],Aa⟩
theorem zcq:Ck zcc ZI UA Oy:={}
theorem Xn(i:Int):Mj [.int i]=some (.ok (.int (i / 2))):=by
 have m:Bh 2=true:=Br (by decide) (by decide)
 have f:i.fdiv 2=i / 2:=fd (by decide)
 unfold Mj Oy
 simp![m,f]
abbrev UW:Stmt:=AI 16
def PQ:AG:=
 (AN (m2 Ap (m2 BE (AA 0) (mC (.int 2))) (mC (.int 0))))
def Mq:kL->Option Ru:=A5 1 1 PQ
abbrev ZQ:Fn:=⟨1,["bound"],Mq⟩
abbrev zeb:Gm:=⟨["bound"],(AV UW).names,[],0,[],[],[],[],["raise_all"],false,[],[],[],Aa⟩
theorem zep:Ck zeb ZQ UW PQ:={}
theorem Yk(i:Int):Mq [.int i]=some (.ok (.bl (i % 2 == 0))):=by
 have f:i.fmod 2=i % 2:=fm (by decide)
 unfold Mq PQ
 simp![f,C8]
abbrev UG:Stmt:=AI 17
def PC:AG:=
 (AF (Ai (m2 (Dh false) (AA 0) (mC .non)) (AN (AA 1)) Af)
 (AF (Ai (m2 (Dh false) (AA 1) (mC .non)) (AN (AA 0)) Af)
 (AN (m2 J7 (AA 0) (AA 1)))))
def Ik:kL->Option Ru:=A5 2 2 PC
abbrev Qb:Fn:=⟨1,["one","other"],Ik⟩
abbrev zdd:Gm:=⟨["one","other"],(AV UG).names,[],0,[],["min"],[],[],["raise_all"],false,[],[],[],Aa⟩
theorem zdo:Ck zdd Qb UG PC:={}
theorem Xj(a b:Db.B):Ik [bT a,bT b]=some (.ok (bT (Db.mn a b))):=by
 unfold Ik PC;cases a with
 |none=>simp![Db.mn]|some a=>
  cases b with
  |none=>simp![Db.mn]|some b=>
   simp![Db.mn]
   by_cases h:b<a
   .simp[h,Aq];omega
   .simp[h,Aq];omega
abbrev U3:Stmt:=AI 51
def PY:AG:=
 (AF (Ai (B9 (m2 Ap (AA 0) (mC (.int 0))) (m2 Ap (AA 0) (AA 1))) (AN (AL GI (AB (mC (.int 0)) AD))) Af)
 (AN (mC .non)))
def Mt:kL->Option Ru:=A5 2 2 PY
abbrev ZX:Fn:=⟨2,["i","j"],Mt⟩
abbrev zbr:Gm:=⟨["i","j"],(AV U3).names,[],1,[("at_most",KG)],[],[],[],["raise_all"],false,[],[],[],Aa⟩
theorem zbx:Ck zbr ZX U3 PY:={}
theorem fb_ok(i j:Nat):Mt [.int i,.int j]=some (.ok (bT (Db.free i j))):=by
 unfold Mt PY
 by_cases h0:i=0
 .subst h0
  simp![C8,Me,Db.free]
 .by_cases h:i=j
  .subst h;have e1:((i:Int) == 0)=false:=by simp;omega
   simp![C8,e1,Me,Db.free]
  .have e1:((i:Int) == 0)=false:=by simp;omega
   have e2:((i:Int) == (j:Int))=false:=by simp;omega
   simp![C8,e1,e2,Db.free,h0,h]
abbrev To:Stmt:=AI 54
def NU:AG:=
 (Ai (m2 (Dh false) (AA 5) (mC .non)) (Cf 3 (AA 4)) (AF (AW (m2 Ej (m2 Au (AA 1) (AA 5)) (m2 KU (m2 KR (AA 1) (AA 5)) (mC (.int 1)))) (AE 6))
 (Cf 3 (Dd (B9 (m2 (Dh false) (AA 4) (mC .non)) (m2 (CN λi j=>decide (i<j)) (AA 6) (AA 4))) (AA 6) (AA 4)))))
def Oq:AG:=
 (AF (C0 3 (Ay AD))
 (AF (Bw (Ge (AB (AA 0) (AB (AA 2) AD))) (BN 2 (AS (AE 4) (AS (AE 5) BU))) NU)
 (AN (AA 3))))
def Mh:kL->Option Ru:=A5 3 7 Oq
abbrev ZD:Fn:=⟨1,["row","first","rest"],Mh⟩
abbrev zdb:Gm:=⟨["row","first","rest","told","old","more","bound"],(AV To).names,[],0,[],["zip"],[],["told"],["raise_all"],false,[],[],[],Aa⟩
theorem zdm:Ck zdb ZD To Oq:={}
theorem ro_ok{n:Nat}(hn:n<=100000)(r s:Nat->Db.B)(c:Int):Mh [rT n r,.int c,rT n s]=some (.ok (.own (mT n λj=>bT (Db.mn (r j) (Db.add (some c) (s j)))))):=by
 have loop:=Q4 (b:=BN 2 (AS (AE 4) (AS (AE 5) BU))) (body:=NU) (n:=n) (g:=λi=>.tup [bT (r i),bT (s i)]) (τ:=[some (rT n r),some (.int c),some (rT n s),some (.own []),none,none,none])
  (λi τ=>∃x y z,τ=[some (rT n r),some (.int c),some (rT n s),some (.own (mT i λj=>bT (Db.mn (r j) (Db.add (some c) (s j))))),x,y,z])
  ⟨none,none,none,rfl⟩ (by
   rintro i τ hi ⟨x,y,z,rfl⟩;have l1:i<100000:=by omega
   refine⟨_,by simp![];rfl,?_⟩
   unfold NU;cases hs:s i with
   |none=>
    refine⟨_,by simp![l1];rfl,some (bT (r i)),some .non,z,?_⟩
    rw[<- IG,hs];cases r i<;>rfl
   |some m=>
    have e1:c+m - Builtin.bitAnd (Builtin.bitOr c m) 1=Db.bs c m:=by rw[Db.bor_one,Db.bs_eq]
    cases hr:r i with
    |none=>
     refine⟨_,by simp![e1,l1];rfl,some .non,some (.int m),some (.int (Db.bs c m)),?_⟩
     rw[<- IG,hs,hr]
     rfl
    |some o=>
     by_cases h:Db.bs c m<o
     .refine⟨_,by simp![e1,h,l1];rfl,some (.int o),some (.int m),some (.int (Db.bs c m)),?_⟩
      rw[<- IG,hs,hr];rw[show Db.mn (some o) (Db.add (some c) (some m))=some (Db.bs c m) by show some (min _ _)=_;rw[show min o (Db.bs c m)=Db.bs c m by omega]]
      rfl
     .refine⟨_,by simp![e1,h,l1];rfl,some (.int o),some (.int m),some (.int (Db.bs c m)),?_⟩
      rw[<- IG,hs,hr];rw[show Db.mn (some o) (Db.add (some c) (some m))=some o by show some (min _ _)=_;rw[show min o (Db.bs c m)=o by omega]]
      rfl)
 obtain⟨τ',e1,x,y,z,rfl⟩:=loop;unfold Mh Oq
 simp![zln,e1]
abbrev U1:Stmt:=AI 53
def RP:AH:=
 (m2 (CN λi j=>decide (i<j)) (AM (AA 1) (AA 0)) (AL GI (AB (mC (.int 0)) AD)))
def PV:AG:=
 (AN (m1 KZ (Bb 2 [] (ED (AB (AA 0) AD)) (BN 2 (AS (AE 0) (AS (AE 1) BU))) (mC (.bl true)) RP)))
def Mr:kL->Option Ru:=A5 1 1 PV
abbrev ZV:Fn:=⟨2,["rows"],Mr⟩
abbrev zci:Gm:=⟨["rows"],(AV U1).names,[],1,[("at_most",KG)],["any","enumerate"],[],[],["raise_all"],false,[],[],[],Aa⟩
theorem zcw:Ck zci ZV U1 PV:={}
theorem zpd{n:Nat}{f:Db.Z}(hn:n<=100000){d:Nat->Int}(hd:∀i,i<n->f i i=some (d i)):Mr [zT n f]=some (.ok (.bl ((List.range n).any λi=>decide (d i<1)))):=by
 have lc:=HI (n:=n) (me:=RP) (x:=none) (y:=none) (cs:=[]) (u:=λi=>.int (i:Int)) (w:=λi=>rT n (f i)) (f:=λi=>.bl (decide (d i<1))) λi hi=>by
  unfold RP
  simp![OW,OV,DO hi,hd i hi,Me]
 unfold Mr PV;have c:n<=100000:=by omega
 simp![An _ (SI n f),SI,OV,OW,ED,Qt,lc,c,HV,List.any_map,Function.comp_def,id_eq]
abbrev UE:Stmt:=AI 52
def RM:AH:=
 (AL Ik (AB (AA 1) (AB (AL Mt (AB (AA 2) (AB (AA 0) AD))) AD)))
def M5:AH:=
 (Bb 2 [0] (ED (AB (AA 1) AD)) (BN 2 (AS (AE 0) (AS (AE 1) BU))) (mC (.bl true)) RM)
def RL:AH:=
 (Dd (m2 (Dh false) (AM (AA 0) (AA 1)) (mC .non)) (AA 0) (AL Mh (AB (AA 0) (AB (AM (AA 0) (AA 1)) (AB (AA 2) AD)))))
def JD:AG:=
 (AF (Ai (AL Mr (AB (AA 1) AD)) (AN (mC .non)) Af)
 (AF (AW (AM (AA 1) (AA 2)) (AE 3))
 (AW (Bb 1 [2,3] (Bc (AA 1)) (AE 0) (mC (.bl true)) RL) (AE 1))))
def PB:AG:=
 (AF (AW (Bb 2 [] (ED (AB (AA 0) AD)) (BN 2 (AS (AE 0) (AS (AE 1) BU))) (mC (.bl true)) M5) (AE 1))
 (AF (Bw (C7 (AB (m1 BL (AA 1)) AD)) (AE 2) JD)
 (AN (AA 1))))
def H9:kL->Option Ru:=A5 1 4 PB
abbrev ZK:Fn:=⟨3,["zone"],H9⟩
abbrev zcd:Gm:=⟨["zone","rows","k","over"],(AV UE).names,["k","over"],2,[("narrower",Qb),("free_bound",ZX),("is_broken",ZV),("row_over",ZD)],["enumerate","range","len"],[],[],["raise_all"],false,[],[],[],Aa⟩
theorem zcr:Ck zcd ZK UE PB:={}
theorem VI{n:Nat}{f:Db.Z}{d:Nat->Int}(hd:∀i,i<n->f i i=some (d i)):((List.range n).any λi=>decide (d i<1))=true ↔ Db.Brk n f:=by
 rw[ų];constructor
 .rintro⟨i,hi,h⟩;have hi:=ü.mp hi;refine⟨i,hi,?_⟩;rw[hd i hi];have:=ğ h;erw[Db.le]
  omega
 .rintro⟨i,hi,h⟩;refine⟨i,ü.mpr hi,Ì ?_⟩;rw[hd i hi]at h;erw[Db.le]at h
  omega
theorem zft(f:Db.Z)(k i:Nat):∃d,Db.fw f k i i=some d:=by
 have:=Db.diag_le f i k;cases h:Db.fw f k i i with
 |none=>rw[h]at this;exact this.elim|some d=>exact⟨d,rfl⟩
theorem znw{n:Nat}(hn:n<=100000)(f:Db.Z):(Db.Sound n f->H9 [zT n f]=some (.ok (zT n (Db.fw f n))))/\(¬ Db.Sound n f->H9 [zT n f]=some (.ok .non)):=by
 have l1:n<=100000:=by omega
 have in1:∀i,i<n->M5 [some (.int (i:Int)),some (rT n (f i))]=some (.v (.own (mT n λj=>bT (Db.z0 f i j))) false):=λi hi=>by
  have lc:=HI (n:=n) (me:=RM) (x:=none) (y:=none) (cs:=[some (.int (i:Int))]) (u:=λj=>.int (j:Int)) (w:=λj=>bT (f i j)) (f:=λj=>bT (Db.z0 f i j)) λj hj=>by
   unfold RM
   simp![fb_ok,Xj]
   rfl
  unfold M5
  simp![ED,Qt,lc,l1]
 have lc0:=HI (n:=n) (me:=M5) (x:=none) (y:=none) (cs:=[]) (u:=λi=>.int (i:Int)) (w:=λi=>rT n (f i)) (f:=λi=>.own (mT n λj=>bT (Db.z0 f i j))) in1
 have loop:=zla (b:=AE 2) (body:=JD) (n:=n) (g:=λi=>.int (i:Int)) (τ:=[some (zT n f),some (zT n (Db.fw f 0)),none,none]) (λk=>¬ Db.Brk n (Db.fw f k)) .non
  (λk τ=>∃x y,τ=[some (zT n f),some (zT n (Db.fw f k)),x,y]) ⟨none,none,rfl⟩ (by
   rintro k τ hk - ⟨x,y,rfl⟩;refine⟨_,by simp![];rfl,?_⟩
   have hd:∀i,i<n->Db.fw f k i i=some ((Db.fw f k i i).getD 0):=λi _=>by
    obtain⟨d,e⟩:=zft f k i;rw[e]
    rfl
   have b1:=zpd hn hd
   by_cases hb:Db.Brk n (Db.fw f k)
   .right;refine⟨λq=>q hb,?_⟩
    rw[(VI hd).mpr hb]at b1;unfold JD
    simp![b1]
   .left;refine⟨hb,?_⟩
    have b2:((List.range n).any λi=>decide ((Db.fw f k i i).getD 0<1))=false:=by
     cases q:((List.range n).any λi=>decide ((Db.fw f k i i).getD 0<1)) with
     |false=>rfl|true=>exact absurd ((VI hd).mp q) hb
    rw[b2]at b1;generalize hg:Db.fw f k=g at *
    have lc:=E8 (n:=n) (me:=RL) (x:=none) (cs:=[some (.int (k:Int)),some (rT n (g k))]) (g:=λi=>rT n (g i)) (f:=λi=>match g i k with|none=>rT n (g i)|some c=>.own (mT n λj=>bT (Db.mn (g i j) (Db.add (some c) (g k j))))) λi hi=>by
     unfold RL;cases e:g i k with
     |none=>simp![DO hk,e]|some c=>simp![DO hk,e,ro_ok hn]
    have e2:(mT n λi=>(match g i k with|none=>rT n (g i)|some c=>T.own (mT n λj=>bT (Db.mn (g i j) (Db.add (some c) (g k j))))).share)=mT n λi=>rT n (Db.stp g k i):=E4 λi hi=>by
     cases e:g i k with
     |none=>
      erw[OV];unfold rT;rw[E4 λj hj=>?_]
      unfold Db.stp;rw[e];cases g i j<;>rfl
     |some c=>
      simp![]
      rw[E4 λj hj=>?_]
      unfold Db.stp;rw[e]
    refine⟨[some (zT n f),some (zT n (Db.stp g k)),some (.int (k:Int)),some (rT n (g k))],.inl ?_,some (.int (k:Int)),some (rT n (g k)),?_⟩
    .unfold JD
     simp![b1,DO hk,lc,l1]
     rw[e2]
    .rw[show Db.fw f (k+1)=Db.stp g k by rw[<- hg];rfl])
 have hr:Bx (n:Int)=true:=Er hn
 have st:∀r,As (AE 2) JD (mT n λi=>.int (i:Int)) [some (zT n f),some (zT n (Db.fw f 0)),none,none]=r->H9 [zT n f]=(match (match r with|some (.nx τ')=>AN (AA 1) τ'|r=>r) with
   |some (.rt t)=>some (Ru.ok t)|some (.nx _)=>some (.ok .non)|some (.xc c _)=>some (.exc c)|_=>none):=by
  rintro _ rfl;unfold H9 PB
  simp![ED,Qt,lc0,l1,hr,Ca]
  rfl
 rcases loop with ⟨h1,τ',e,x,y,rfl⟩|⟨⟨i,hi,hb⟩,e⟩
 .refine⟨λ_=>?_,λh=>absurd (λk hk=>h1 k hk) h⟩
  rw[st _ e]
  simp![]
 .refine⟨λh=>absurd (h i hi) hb,λ_=>?_⟩
  rw[st _ e]
abbrev UI:Stmt:=AI 29
def PF:AG:=
 (AF (C0 4 (Ay AD))
 (AF (Ai (m2 Ap (AA 2) (mC (.str "<"))) (Cf 4 (CK (AB (AA 0) (AB (AA 1) (AB (AL K8 (AB (AA 3) AD)) AD))))) Af)
 (AF (Ai (B9 (m2 Ap (AA 2) (mC (.str "<="))) (m2 Ap (AA 2) (mC (.str "=")))) (Cf 4 (CK (AB (AA 0) (AB (AA 1) (AB (AL GI (AB (AA 3) AD)) AD))))) Af)
 (AF (Ai (m2 Ap (AA 2) (mC (.str ">"))) (Cf 4 (CK (AB (AA 1) (AB (AA 0) (AB (AL K8 (AB (m1 DZ (AA 3)) AD)) AD))))) Af)
 (AF (Ai (B9 (m2 Ap (AA 2) (mC (.str ">="))) (m2 Ap (AA 2) (mC (.str "=")))) (Cf 4 (CK (AB (AA 1) (AB (AA 0) (AB (AL GI (AB (m1 DZ (AA 3)) AD)) AD))))) Af)
 (AN (AA 4)))))))
def Mm:kL->Option Ru:=A5 4 5 PF
abbrev ZL:Fn:=⟨2,["i","j","word","number"],Mm⟩
abbrev zb9:Gm:=⟨["i","j","word","number","bounds"],(AV UI).names,[],1,[("below",Z3),("at_most",KG)],[],[],["bounds"],["raise_all"],false,[],[],[],Aa⟩
theorem zbh:Ck zb9 ZL UI PF:={}
def Eh:Nat->Str
 |0=>"<"|1=>"<="|2=>">"|3=>">="|_=>"="
theorem wdNq{w:Nat}(h:w<5):Ap (.str (Eh w)) (.str "<")=some (.bl (w == 0))/\Ap (.str (Eh w)) (.str "<=")=some (.bl (w == 1))/\Ap (.str (Eh w)) (.str ">")=some (.bl (w == 2))/\Ap (.str (Eh w)) (.str ">=")=some (.bl (w == 3))/\Ap (.str (Eh w)) (.str "=")=some (.bl (w == 4)):=by
 have:w=0\/w=1\/w=2\/w=3\/w=4:=by omega
 rcases this with rfl|rfl|rfl|rfl|rfl<;>refine⟨?_,?_,?_,?_,?_⟩<;>ext
abbrev DQ(l:Nat×Nat×Int):T:=.tup [.int (l.1:Nat),.str (Eh l.2.1),.int l.2.2]
def Look(m:Nat)(l:Nat×Nat×Int):Prop:=0<l.1/\l.1<m+1/\l.2.1<5
abbrev Am(x:Dv.Lim):T:=.tup [.int (x.1:Nat),.int (x.2.1:Nat),.int x.2.2]
def De(i j:Nat):Nat->Int->List Dv.Lim
 |0,n=>[(i,j,2 * n)]|1,n=>[(i,j,2 * n+1)]|2,n=>[(j,i,2 * -n)]|3,n=>[(j,i,2 * -n+1)]|_,n=>[(i,j,2 * n+1),(j,i,2 * -n+1)]
theorem zoe{i j w:Nat}{n:Int}(hw:w<5):Mm [.int (i:Nat),.int (j:Nat),.str (Eh w),.int n]=some (.ok (.own ((De i j w n).map Am))):=by
 obtain⟨s0,s1,s2,s3,s4⟩:=wdNq hw;have:w=0\/w=1\/w=2\/w=3\/w=4:=by omega
 unfold Mm PF
 rcases this with rfl|rfl|rfl|rfl|rfl<;>simp![s0,s1,s2,s3,s4,bl_ok,bP,De]
theorem zkx(i j w:Nat)(n:Int):(De i j w n).length<=2:=by
 unfold De;split<;>simp
theorem zof{i j w N:Nat}{n:Int}(hi:i<N)(hj:j<N):Dv.In N (De i j w n):=λx hx=>by
 unfold De at hx;split at hx<;>erw[Ð,ì,ñ]at hx
 all_goals first|(rcases hx with rfl|rfl<;>exact⟨by assumption,by assumption⟩)|(subst hx;exact⟨by assumption,by assumption⟩)
abbrev UB:Stmt:=AI 49
def RK:AH:=
 (DP Aw Ax Ir (AA 1) (AB (AA 0) AD))
def Oz:AG:=
 (AN (Bb 1 [0] (Bc (DP BO B3 NB (AA 1) AD)) (AE 0) (mC (.bl true)) RK))
def Ml:kL->Option Ru:=A5 2 2 Oz
abbrev ZJ:Fn:=⟨2,["machine","door"],Ml⟩
abbrev zab:Gx:={ Aa with mt:=[("sets",BO,B3,Zj),("watch_number",Aw,Ax,Qj)] }
abbrev zaf:Gm:=⟨["machine","door"],(AV UB).names,["machine"],1,[],[],[],[],["raise_all"],false,[],[],[],zab⟩
theorem zak:Ck zaf ZJ UB Oz:={}
def Dz(ws ns:kE):kG:=ns.map λx=>(CM ws x).getD 0+1
abbrev Hz(l:kG):kL:=l.map λp:Nat=>T.int (p:Int)
theorem zo2(l:kG):Ad (Hz l)=true:=JP λ_ _=>rfl
theorem np_ok{M:Mc}(h:McOk M){d:Dr}(hd:d∈M.ds):Ml [AJ M,A6 d]=some (.ok (.own (Hz (Dz M.ws d.n)))):=by
 have D:=h.d d hd;have sg:=D.g.sh;have sm:=Bl h;have sets:=zlc sg
 have lc:=QB (b:=AE 0) (me:=RK) T.str (λx=>.int ((CM M.ws x).getD 0+1:Nat)) (λτ=>∃x,τ=[x,some (AJ M)]) d.n [none,some (AJ M)] ⟨none,rfl⟩ λx hx τ hI=>by
  obtain⟨y,rfl⟩:=hI;obtain⟨j,ej,_⟩:=ML (D.n x hx);have en:Ir [AJ M,.str x]=some (.ok (.int (j+1))):=Xy h ej;refine⟨[some (.str x),some (AJ M)],by simp![],?_,_,rfl⟩
  unfold RK;rw[ej]
  simp![-Cp,J8,sm,An _ sm,en,ņ,Int.natCast_add]
 have e1:Hz (Dz M.ws d.n)=d.n.map λx=>.int ((CM M.ws x).getD 0+1:Nat):=by
  unfold Hz Dz
  simp_all
 have nl:d.n.length<=100000:=by have:=D.nl;omega
 rw[e1];unfold Ml Oz
 simp![sm,An _ sm,sets,sg,AO _ sg,A3,A7,Á,nl,lc]
def oT(n:Nat):Option Db.Z->T
 |none=>.non|some f=>zT n f
theorem oT_sh(n:Nat)(o:Option Db.Z):(oT n o).sh=true:=by
 cases o with
 |none=>rfl|some f=>exact SI n f
abbrev NG(m:Nat)(L:List (Nat×Nat×Int)):Prop:=∀l∈L,Look m l
open Classical in
def Hx(n:Nat)(f:Db.Z):Option Db.Z:=if Db.Sound n f then some (Db.fw f n) else none
theorem znx{n:Nat}(hn:n<=100000)(f:Db.Z):H9 [zT n f]=some (.ok (oT n (Hx n f))):=by
 obtain⟨h1,h2⟩:=znw hn f;unfold Hx;split
 .exact h1 ‹_›
 .exact h2 ‹_›
theorem Lz(L:List (Nat×Nat×Int)):Ad (L.map DQ)=true:=JP λ_ _=>rfl
def JB(y:Str):Nat:=if y=Str.ofString "<" then 0 else if y=Str.ofString "<=" then 1 else if y=Str.ofString ">" then 2 else if y=Str.ofString ">=" then 3 else 4
theorem SV:∀y∈Bq,Eh (JB y)=y/\JB y<5:=by decide +kernel
def Al(ws:kE)(t:T):Nat×Nat×Int:=((CM ws (Fs t)).getD 0+1,JB (G9 t),Ga t)
theorem O0{ws:kE}{l:kL}(h:BZ ws Bq l):l.map (Fo ws)=(l.map (Al ws)).map DQ:=by
 rw[ą];refine List.map_congr_left λt ht=>?_
 obtain⟨k1,k2,k3,k4⟩:=Pz (h t ht);show Fo ws t=DQ (Al ws t);unfold Fo Al;rw[show DQ ((CM ws (Fs t)).getD 0+1,JB (G9 t),Ga t)=.tup [.int (((CM ws (Fs t)).getD 0+1:Nat):Int),.str (Eh (JB (G9 t))),.int (Ga t)] from rfl,(SV _ k3).1,Int.natCast_add]
 rfl
theorem JW{ws:kE}{l:kL}(h:BZ ws Bq l):NG ws.length (l.map (Al ws)):=λx hx=>by
 obtain⟨t,ht,rfl⟩:=ß.mp hx;obtain⟨k1,k2,k3,k4⟩:=Pz (h t ht);obtain⟨j,ej,hj,_⟩:=ML k2;refine⟨Nat.succ_pos _,?_,(SV _ k3).2⟩;show(CM ws (Fs t)).getD 0+1<_;rw[ej,ņ]
 omega
theorem BZ.wd{ws:kE}{l:kL}(h:BZ ws DU l):BZ ws Bq l:=λt ht=>by
 obtain⟨x,y,n,e,h1,h2,h3⟩:=h t ht;refine⟨x,y,n,e,h1,?_,h3⟩
 revert y
 have:∀y∈DU,y∈Bq:=by decide +kernel
 exact λy _ h=>this y h
theorem Zr{α:Type}{x:Str}{v:α}:∀{rs:List (Str×α)},(rs.map (·.1)).Nodup->(x,v)∈rs->rs.find? (λq=>decide (q.1=x))=some (x,v)
 |[],_,h=>by cases h|a::l,nd,h=>by
  rw[Ñ,į]at nd
  rcases Ð.mp h with rfl|h
  .rw[List.find?_cons_of_pos (by simp)]
  .rw[List.find?_cons_of_neg λz=>nd.1 ?_]
   .exact Zr nd.2 h
   .rw[ğ z];exact ß.mpr ⟨_,h,rfl⟩
def Dw(ws:kE)(rs:List (Str×kL))(x:Str):List (Nat×Nat×Int):=(((rs.find? λq=>decide (q.1=x)).map (·.2)).getD []).map (Al ws)
theorem zm2{ws:kE}{rs:List (Str×kL)}(nd:(rs.map (·.1)).Nodup){r:Str×kL}(h:r∈rs):Dw ws rs r.1=r.2.map (Al ws):=by
 unfold Dw;rw[Zr (v:=r.2) nd h]
 rfl
theorem T3{M:Mc}(h:McOk M)(x:Str):NG M.ws.length (Dw M.ws M.rs x):=by
 unfold Dw;cases e:M.rs.find? λq=>decide (q.1=x) with
 |none=>exact λl hl=>by cases hl|some r=>exact JW (h.r.lk r (Ř e)).1.wd
abbrev U2:Stmt:=AI 10
def Hm:AH:=
 (m2 Bk (AA 3) (mC (.int 0)))
def NY:AG:=
 (AF (AW (m2 BE (AA 2) (AA 3)) (AE 4))
 (AF (AW (AA 3) (AE 2))
 (AW (AA 4) (AE 3))))
def PX:AG:=
 (AF (AW (m1 Ie (AA 0)) (AE 2))
 (AF (AW (m1 Ie (AA 1)) (AE 3))
 (AF (Fk Hm NY)
 (AN (AA 2)))))
def Ms:kL->Option Ru:=A5 2 5 PX
abbrev ZW:Fn:=⟨1,["one","other"],Ms⟩
abbrev za3:Gm:=⟨["one","other","greater","lesser","rest"],(AV U2).names,[],0,[],["abs"],[],[],["raise_all"],false,[],[],[],Aa⟩
theorem za4:Ck za3 ZW U2 PX:={}
theorem gd_ok(a b:Int):Ms [.int a,.int b]=some (.ok (.int (Zm.gd a b))):=by
 have loop:=zjd (mc:=Hm) (body:=NY)
  (λτ=>∃(g l:Int) (r:kH),τ=[some (.int a),some (.int b),some (.int g),some (.int l),r]/\0<=g/\0<=l/\Zm.gd g l=Zm.gd a b)
  (λτ=>match τ with|[_,_,_,some (.int l),_]=>l.natAbs|_=>0)
  ⟨_,_,none,rfl,by split<;>omega,by split<;>omega,Zm.gd_abs a b⟩ (by
   rintro τ ⟨g,l,r,rfl,hg,hl,e⟩
   by_cases h0:l=0
   .right;exact⟨false,by unfold Hm;simp![Es,h0]⟩
   .left;refine⟨false,by unfold Hm;simp![Es];simp[h0],[some (.int a),some (.int b),some (.int l),some (.int (g.fmod l)),some (.int (g.fmod l))],by unfold NY;simp![h0],⟨_,_,_,rfl,hl,?_,?_⟩,?_⟩
    .exact ċ g (by omega)
    .exact Zm.gd_turn e
    .exact Zm.fmod_less g h0)
 obtain⟨τ',e1,⟨g,l,r,rfl,hg,hl,e⟩,bb,e2⟩:=loop
 have hl0 :=by
  have e3:Hm [some (.int a),some (.int b),some (.int g),some (.int l),r]=some (.v (.bl (!(l == 0))) false):=by unfold Hm;simp![Es]
  rw[e3]at e2;exact(by simpa using e2:l=0/\bb=false).1
 have hgd:g=Zm.gd a b:=by
  rw[<- e,hl0];unfold Zm.gd;rw[Int.gcd_zero_right]
  omega
 unfold Ms PX
 simp![e1]
 rw[hgd]
abbrev U4:Stmt:=AI 11
def PZ:AG:=
 (AF (Ai (B9 (BH (AL Im (AB (AA 0) AD))) (BH (AL Im (AB (AA 1) AD)))) (CW "NoNumber" (AB (mC (.str "a fraction is made of two whole numbers")) AD)) Af)
 (AF (Ai (m2 Ap (AA 1) (mC (.int 0))) (CW "NoNumber" (AB (mC (.str "the bottom of a fraction is not 0")) AD)) Af)
 (AF (AW (AL Ms (AB (AA 0) (AB (AA 1) AD))) (AE 2))
 (AF (Ai (m2 (CN λi j=>decide (i<j)) (AA 1) (mC (.int 0))) (AW (m1 DZ (AA 2)) (AE 2)) Af)
 (AN (CK (AB (m2 Bi (AA 0) (AA 2)) (AB (m2 Bi (AA 1) (AA 2)) AD))))))))
def Mu:kL->Option Ru:=A5 2 3 PZ
abbrev ZY:Fn:=⟨2,["top","bottom"],Mu⟩
abbrev zdg:Gm:=⟨["top","bottom","divisor"],(AV U4).names,[],1,[("is_whole",MT),("greatest_divisor",ZW)],[],["NoNumber"],[],["raise_all"],false,[],[],[],Aa⟩
theorem zdr:Ck zdg ZY U4 PZ:={}
theorem fr_ok{t b:Int}(hb:0<b)(hs:b<10 ^ 70):Mu [.int t,.int b]=some (.ok (fr (Zm.lt t b) (Zm.lb t b))):=by
 have g0:0<Zm.gd t b:=Zm.gd_pos (by omega)
 have g1:Zm.gd t b<=b:=Zm.gd_le hb;have gs :=Br (by omega) (by omega (config:={}))
 have n0:(b == 0)=false:=by omega
 have n1:decide (b<0)=false:=by omega
 have n2:(Zm.gd t b≠0)=True:=by omega
 unfold Mu PZ
 simp![SW,gd_ok,C8,n0,n1,gs,n2]
 rfl
abbrev Tv:Stmt:=AI 22
def Kn:AG:=
 (AF (AW (m2 Ej (AM (AA 0) (AA 3)) (AA 5)) (AE 6))
 (Ai (m2 (CN λi j=>decide (j<i)) (AA 6) (AM (AA 0) (AA 4))) (AF (Gv 0 (AA 4) (AA 6))
 (AW (mC (.bl true)) (AE 2))) Af))
def Ow:AG:=
 (AF (AW (mC (.bl false)) (AE 2))
 (AF (Bw (Bc (AA 1)) (BN 3 (AS (AE 3) (AS (AE 4) (AS (AE 5) BU)))) Kn)
 (JR (AA 2))))
def Mi:kL->Option Ru:=GX 2 7 Ow
abbrev ZF:Fn:=⟨1,["values","limits"],Mi⟩
abbrev zcb:Gm:=⟨["values","limits","raised","i","j","most","least"],(AV Tv).names,[],0,[],[],[],["values"],["raise_all"],true,[],[],[],Aa⟩
theorem zcp:Ck zcb ZF Tv Ow:={}
abbrev Cj(x:Dv.Lim):T:=.tup [.int (x.1:Nat),.int (x.2.1:Nat),.int x.2.2]
abbrev iT(n:Nat)(v:Nat->Int):kL:=mT n λk=>.int (v k)
theorem Ez:∀L:List Dv.Lim,BJ (L.map Cj)=L.map Cj
 |[]=>rfl|x::L=>by rw[Ñ,BJ,Ez L];rfl
theorem E6:∀L:List Dv.Lim,Ad (L.map Cj)=true
 |[]=>rfl|x::L=>by rw[Ñ,Ad,E6 L];rfl
theorem OQ{n:Nat}{p:Addr}{A:T}(hA:A.sh=true):∀(L:List Dv.Lim) (v:Nat->Int) (b:Bool) (x3 x4 x5 x6:kH),Dv.In n L ->
  ∃y3 y4 y5 y6,As (BN 3 (AS (AE 3) (AS (AE 4) (AS (AE 5) BU)))) Kn (L.map Cj) [some (.nd true (.pin p) (iT n v)),some A,some (.bl b),x3,x4,x5,x6]
   = some (.nx [some (.nd true (.pin p) (iT n (Dv.rz L v b).1)),some A,some (.bl (Dv.rz L v b).2),y3,y4,y5,y6])
 |[],v,b,x3,x4,x5,x6,_=>⟨x3,x4,x5,x6,rfl⟩|(i,j,m)::L,v,b,x3,x4,x5,x6,hI=>by
  obtain⟨hi,hj⟩:=hI (i,j,m) (Ï ..);have hI2:Dv.In n L:=λx hx=>hI x (Î _ hx)
  have a1:AU (iT n v) (i:Int)=some (.int (v i)):=DO hi;have a2:AU (iT n v) (j:Int)=some (.int (v j)):=DO hj
  have i2:Bu n (j:Int)=some j:=by
   have hj':j<n:=hj;unfold Bu;simp
   omega
  rw[Ñ]
  by_cases h:v j<v i - m
  .obtain⟨y3,y4,y5,y6,e⟩:=OQ hA L (Dv.pt v j (v i - m)) true (some (.int (i:Nat))) (some (.int (j:Nat))) (some (.int m)) (some (.int (v i - m))) hI2
   have st:(iT n v).set j (.int (v i - m))=iT n (Dv.pt v j (v i - m)):=by
    unfold iT;rw[Jf];refine E4 λk hk=>?_
    unfold Dv.pt
    by_cases e:k=j<;>simp[e]
   have er:Dv.rz ((i,j,m)::L) v b=Dv.rz L (Dv.pt v j (v i - m)) true:=by rw[Dv.rz,if_pos h]
   refine⟨y3,y4,y5,y6,?_⟩;rw[er,<- e]
   conv=>lhs;unfold As
   unfold Kn
   simp![a1,a2,h,i2,st]
  .obtain⟨y3,y4,y5,y6,e⟩:=OQ hA L v b (some (.int (i:Nat))) (some (.int (j:Nat))) (some (.int m)) (some (.int (v i - m))) hI2;have er:Dv.rz ((i,j,m)::L) v b=Dv.rz L v b:=by rw[Dv.rz,if_neg h]
   refine⟨y3,y4,y5,y6,?_⟩;rw[er,<- e]
   conv=>lhs;unfold As
   unfold Kn
   simp![a1,a2,h]
theorem V6{n:Nat}{L:List Dv.Lim}(hI:Dv.In n L)(v:Nat->Int)(p:Addr):Mi [.nd true (.pin p) (iT n v),.lst (L.map Cj)]=some (.ok (.own [.bl (Dv.rz L v false).2,.nd true (.pin p) (iT n (Dv.rz L v false).1)])):=by
 obtain⟨y3,y4,y5,y6,e⟩:=OQ (p:=p) (A:=.lst (L.map Cj)) (by rw[T.sh,E6];rfl) L v false none none none none hI
 unfold Mi Ow
 simp![Ez,E6,e]
abbrev UL:Stmt:=AI 21
def JE:AG:=
 (GW true (Jg 2 Mi (AB (AA 1) AD)) (AN (AA 2)) Af)
def Lp:AG:=
 (AF (C0 2 (m2 B0 (Ay (Ao (mC (.int 0)) AD)) (m2 Au (AA 0) (mC (.int 1)))))
 (AF (Bw (C7 (AB (m2 Au (AA 0) (mC (.int 1))) AD)) (AE 3) JE)
 (AN (mC .non))))
def Ha:kL->Option Ru:=A5 2 4 Lp
abbrev ZN:Fn:=⟨2,["many","limits"],Ha⟩
abbrev zat:Gm:=⟨["many","limits","values","turn"],(AV UL).names,[],1,[],["range"],[],["values"],["raise_all"],false,[("raise_all",ZF)],[],[],Aa⟩
theorem zay:Ck zat ZN UL Lp:={}
theorem YI{n:Nat}{L:List Dv.Lim}(hI:Dv.In n L){M:T}:∀(l:kL) (v v':Nat->Int) (x:kH),Dv.tn L l.length v=some v' ->
  As (AE 3) JE l [some M,some (.lst (L.map Cj)),some (.own (iT n v)),x]=some (.rt (.own (iT n v')))
 |[],v,v',x,h=>by cases h|t::l,v,v',x,h=>by
  rw[Ø,Dv.tn]at h;have g:=Yt (V6 hI v)
  conv=>lhs;unfold As
  unfold JE;cases hb:(Dv.rz L v false).2 with
  |true=>
   rw[hb,if_pos rfl]at h;rw[hb]at g;have ih:=YI hI (M:=M) l _ v' (some t) h
   simp![Ez,E6,g]
   exact ih
  |false=>
   rw[hb]at h;rw[hb]at g;erw[ā,Ã,Ş]at h;subst h
   simp![Ez,E6,g]
theorem lv_ok{m:Nat}(hm:m<=1000){L:List Dv.Lim}(hI:Dv.In (m+1) L){v:Nat->Int}(h:Dv.tn L (m+1) (λ_=>0)=some v):Ha [.int m,.lst (L.map Cj)]=some (.ok (.own (iT (m+1) v))):=by
 obtain⟨k,ek⟩:∃k,k=m+1:=⟨_,rfl⟩;rw[<- ek]at hI h ⊢;have k1:HJ ((m:Int)+1)=true/\1 * k<=Az:=⟨QJ (n:=m+1) (by omega),by unfold Az;omega⟩
 have o2:((m:Int)+1).toNat=k:=by omega
 have o1:Bx ((m:Int)+1)=true:=Er (n:=m+1) (by omega)
 have e:=YI hI (M:=.int m) (mT k λi=>.int (i:Int)) (λ_=>0) v none (by rw[BW];exact h)
 unfold Ha Lp
 simp![k1,o1,o2,VO,Ca,Ez,E6,e]
theorem YH{n:Nat}{L:List Dv.Lim}(hI:Dv.In n L){M:T}:∀(l:kL) (v:Nat->Int) (x:kH),Dv.tn L l.length v=none ->
  ∃τ',As (AE 3) JE l [some M,some (.lst (L.map Cj)),some (.own (iT n v)),x]=some (.nx τ')
 |[],v,x,h=>⟨_,rfl⟩|t::l,v,x,h=>by
  rw[Ø,Dv.tn]at h;have g:=Yt (V6 hI v);cases hb:(Dv.rz L v false).2 with
  |true=>
   rw[hb,if_pos rfl]at h;rw[hb]at g;obtain⟨τ',ih⟩:=YH hI (M:=M) l _ (some t) h;refine⟨τ',?_⟩
   conv=>lhs;unfold As
   unfold JE
   simp![Ez,E6,g]
   exact ih
  |false=>rw[hb]at h;simp at h
theorem lv_no{m:Nat}(hm:m<=1000){L:List Dv.Lim}(hI:Dv.In (m+1) L)(h:Dv.tn L (m+1) (λ_=>0)=none):Ha [.int m,.lst (L.map Cj)]=some (.ok .non):=by
 obtain⟨k,ek⟩:∃k,k=m+1:=⟨_,rfl⟩;rw[<- ek]at hI h;have k1:HJ ((m:Int)+1)=true/\1 * k<=Az:=⟨QJ (n:=m+1) (by omega),by unfold Az;omega⟩
 have o2:((m:Int)+1).toNat=k:=by omega
 have o1:Bx ((m:Int)+1)=true:=Er (n:=m+1) (by omega)
 obtain⟨τ',e⟩:=YH hI (M:=.int m) (mT k λi=>.int (i:Int)) (λ_=>0) none (by rw[BW];exact h)
 unfold Ha Lp
 simp![k1,o1,o2,VO,Ca,Ez,E6,e]
def Jl(n:Nat):Option (Nat->Int)->T
 |some v=>.own (iT n v)|none=>.non
theorem zo4{m:Nat}(hm:m<=1000){L:List Dv.Lim}(hI:Dv.In (m+1) L):Ha [.int m,.lst (L.map Cj)]=some (.ok (Jl (m+1) (Dv.tn L (m+1) λ_=>0))):=by
 cases e:Dv.tn L (m+1) λ_=>0 with
 |none=>exact lv_no hm hI e|some v=>exact lv_ok hm hI e
abbrev UJ:Stmt:=AI 20
def M6:AH:=
 (CK (AB (AA 0) (AB (AA 1) (AB (m2 Ej (m2 B0 (AL Mj (AB (AA 2) AD)) (AA 3)) (Dd (AL Mq (AB (AA 2) AD)) (mC (.int 1)) (mC (.int 0)))) AD))))
def PH:AG:=
 (AN (Bb 3 [1] (Bc (AA 0)) (BN 3 (AS (AE 0) (AS (AE 1) (AS (AE 2) BU)))) (mC (.bl true)) M6))
def Mn:kL->Option Ru:=A5 2 2 PH
abbrev ZM:Fn:=⟨2,["bounds","unit"],Mn⟩
abbrev zcf:Gm:=⟨["bounds","unit"],(AV UJ).names,["unit"],1,[("number_of",ZI),("is_open",ZQ)],[],[],[],["raise_all"],false,[],[],[],Aa⟩
theorem zct:Ck zcf ZM UJ PH:={}
def F6(u:Int)(x:Dv.Lim):Dv.Lim:=(x.1,x.2.1,x.2.2 / 2 * u - 1+x.2.2 % 2)
theorem YV{u:Int}(hu:DI u=true):∀(L:List Dv.Lim) (x y z:kH),CB (BN 3 (AS (AE 0) (AS (AE 1) (AS (AE 2) BU)))) (mC (.bl true)) M6 (L.map Cj) [x,y,z,some (.int u)]=some ((L.map (F6 u)).map Cj)
 |[],_,_,_=>rfl|(i,j,c)::L,x,y,z=>by
  have ih:=YV hu L (some (.int (i:Nat))) (some (.int (j:Nat))) (some (.int c));have m1:Cb (c / 2) u=true:=J6 hu
  have el:M6 [some (.int (i:Nat)),some (.int (j:Nat)),some (.int c),some (.int u)]=some (.v (Cj (F6 u (i,j,c))) false):=by
   unfold M6 F6;have e0:c % 2=0\/c % 2=1:=by omega
   rcases e0 with e|e
   .have e1:(c % 2 == 0)=true:=by rw[e];rfl
    simp![Xn,Yk,m1,e1,e]
    rw[show c / 2 * u - 1+0=c / 2 * u - 1 by omega]
   .have e1:(c % 2 == 0)=false:=by rw[e];rfl
    simp![Xn,Yk,m1,e1,e]
    rw[show c / 2 * u - 1+1=c / 2 * u - 0 by omega]
  rw[Ñ,Ñ,Ñ]
  conv=>lhs;unfold CB
  simp![el,ih]
theorem lo_ok{u:Int}(hu:DI u=true)(L:List Dv.Lim)(hl:L.length<=100000):Mn [.lst (L.map Cj),.int u]=some (.ok (.own ((L.map (F6 u)).map Cj))):=by
 have e:=YV hu L none none none;unfold Mn PH
 simp![Ez,E6,e,Á,hl]
abbrev Tf:Stmt:=AI 19
def Ol:AG:=
 (AN (m2 B0 (AA 1) (m2 Au (AA 0) (mC (.int 1)))))
def Mg:kL->Option Ru:=A5 2 2 Ol
abbrev Yy:Fn:=⟨1,["many","bottom"],Mg⟩
abbrev ze7:Gm:=⟨["many","bottom"],(AV Tf).names,[],0,[],[],[],[],["raise_all"],false,[],[],[],Aa⟩
theorem zel:Ck ze7 Yy Tf Ol:={}
theorem uo_ok{m:Nat}{b:Int}(hm:m<=1000):Mg [.int m,.int b]=some (.ok (.int (b * ((m:Int)+1)))):=by
 have m1:Cb b ((m:Int)+1)=true:=J6 (Cv (by omega) (by omega))
 unfold Mg Ol
 simp![m1]
abbrev Ts:Stmt:=AI 57
def Kl:AG:=
 (AF (Ai (B9 (BH (AL Im (AB (AA 5) AD))) (BH (Eu E7 (CN λi j=>decide (i<j)) (mC (.int 0)) (AA 5) (m1 BL (AA 2))))) (CW "NoRoad" (AB (mC (.str "a road goes through doors of the machine")) AD)) Af)
 (AF (AW (AM (AA 2) (AA 5)) (AE 6))
 (AF (Ai (B9 (m2 Bk (Bt BO B3 4 (AA 6)) (mC (.str ""))) (m2 Bk (Bt BO B3 0 (AA 6)) (AA 3))) (CW "NoRoad" (AB (mC (.str "a road goes on from where it is, and through no door with a sign")) AD)) Af)
 (AF (AW (Bt BO B3 1 (AA 6)) (AE 3))
 (Cf 4 (AA 6))))))
def Ov:AG:=
 (AF (Ai (B9 (BH (m1 (Cd "list") (AA 1))) (m2 (CN λi j=>decide (j<i)) (m1 BL (AA 1)) (mC IM))) (CW "NoRoad" (AB (mC (.str "a road is a list of at most two hundred doors' numbers")) AD)) Af)
 (AF (AW (DP Aw Ax Ka (AA 0) AD) (AE 2))
 (AF (AW (AM (DP Aw Ax Iu (AA 0) AD) (mC (.int 0))) (AE 3))
 (AF (C0 4 (Ay AD))
 (AF (Bw (Bc (AA 1)) (AE 5) Kl)
 (AN (AA 4)))))))
def FH:kL->Option Ru:=A5 2 7 Ov
abbrev Q8:Fn:=⟨2,["machine","road"],FH⟩
abbrev zbp:Gx:={ Aa with co:=[("MOST_ROAD_DOORS",IM)],cl:=[("Door",BO,B3)],mt:=[("doors",Aw,Ax,Z6),("rooms",Aw,Ax,Qk)] }
abbrev zbq:Gm:=⟨["machine","road","doors","here","told","number","door"],(AV Ts).names,[],1,[("is_whole",MT)],["isinstance","list","len"],["NoRoad"],["told"],["raise_all"],false,[],[],[],zbp⟩
theorem zbw:Ck zbq Q8 Ts Ov:={}
def EX(M:Mc):Str->kF->Option (kI)
 |_,[]=>some []|x,k::r=>if 0<=k then (match M.ds[k.toNat]? with
  |some d=>if d.z=Str.empty/\d.s=x then (EX M d.e r).map (d::·) else none
  |none=>none) else none
def FU(M:Mc):Str:=((M.rs.map (·.1))[0]?).getD Str.empty
def BV(M:Mc)(ks:kF):Option (kI):=if ks.length<=200 then EX M (FU M) ks else none
def L4:Option (kI)->Ru
 |some l=>.ok (.own (l.map A6))|none=>.exc "NoRoad"
theorem La{M:Mc}:∀{ks:kF} {x:Str} {l:kI},EX M x ks=some l->(∀d∈l,d∈M.ds)/\l.length=ks.length
 |[],x,l,h=>by
  cases h;exact⟨λd hd=>by simp at hd,rfl⟩
 |k::r,x,l,h=>by
  unfold EX at h
  by_cases h0:0<=k
  .rw[if_pos h0]at h;cases hd:M.ds[k.toNat]? with
   |none=>rw[hd]at h;cases h|some d=>
    rw[hd]at h;simp only at h
    by_cases h1:d.z=Str.empty/\d.s=x
    .rw[if_pos h1]at h;obtain⟨l',e,rfl⟩:=Õ.mp h;obtain⟨i1,i2⟩:=La e;refine⟨λd' hd'=>?_,by rw[Ø,Ø,i2]⟩
     rcases Ð.mp hd' with rfl|hd'
     .exact ï hd
     .exact i1 d' hd'
    .rw[if_neg h1]at h;cases h
  .rw[if_neg h0]at h;cases h
theorem J4{x y:Str}(hx:PyData.strOk x=true)(hy:PyData.strOk y=true):Bk (.str x) (.str y)=some (.bl (!decide (x=y))):=by
 have e:(x == y)=decide (x=y):=by rw[ň,beq_iff_eq,ë]
 unfold Bk Gh EF IZ;erw[T.data,T.pln,PyData.canLay0,PyData.depth,PyData.eqv,hx,hy,e]
 rfl
theorem IY{b:T->AK->Option AK}{body:AG}{t:T}{ts:kL}{τ τ1 τ2:AK}(h1:b t τ=some τ1)(h2:body τ1=some (.nx τ2)):As b body (t::ts) τ=As b body ts τ2:=by
 conv=>lhs;unfold As
 rw[h1];erw[h2]
theorem fg_xc{b:T->AK->Option AK}{body:AG}{t:T}{ts:kL}{τ τ1 τ2:AK}{c:Str}(h1:b t τ=some τ1)(h2:body τ1=some (.xc c τ2)):As b body (t::ts) τ=some (.xc c τ2):=by
 conv=>lhs;unfold As
 rw[h1];erw[h2]
def Eo(M:Mc)(x:Str)(k:Int):Option Dr:=if 0<=k then (match M.ds[k.toNat]? with
 |some d=>if d.z=Str.empty/\d.s=x then some d else none
 |none=>none) else none
theorem zjg{M:Mc}{x:Str}{k:Int}{d:Dr}(h:Eo M x k=some d):d∈M.ds:=by
 unfold Eo at h;split at h
 .split at h
  .split at h
   .cases h;exact ï (by assumption)
   .cases h
  .cases h
 .cases h
theorem VU(M:Mc)(x:Str)(k:Int)(r:kF):EX M x (k::r)=(Eo M x k).bind λd=>(EX M d.e r).map (d::·):=by
 conv=>lhs;unfold EX
 unfold Eo
 by_cases h0:0<=k
 .rw[if_pos h0,if_pos h0];cases M.ds[k.toNat]? with
  |none=>rfl|some d=>
   simp only
   by_cases h1:d.z=Str.empty/\d.s=x
   .rw[if_pos h1,if_pos h1];rfl
   .rw[if_neg h1,if_neg h1];rfl
 .rw[if_neg h0,if_neg h0];rfl
theorem zje{M:Mc}(h:McOk M)(R:T)(x:Str)(hx:PyData.strOk x=true)(A:kL)(hA:A.length<100000)(k:Int)(x6:kH):∃τ',Kl [some (AJ M),some R,some (.lst (M.ds.map A6)),some (.str x),some (.own A),some (.int k),x6]=some (match Eo M x k with
   |some d=>.nx [some (AJ M),some R,some (.lst (M.ds.map A6)),some (.str d.e),some (.own (A++[A6 d])),some (.int k),some (A6 d)]|none=>.xc "NoRoad" τ'):=by
 have sd:=h.sd;have ed:=AO _ sd;have ew:=SW k;have al:(M.ds.map A6).length=M.ds.length:=Á ..;unfold Kl Eo
 by_cases h0:0<=k
 .rw[if_pos h0];have d1:decide (0<=k)=true:=Ì h0
  by_cases h1:k<(M.ds.length:Int)
  .have hk:k.toNat<M.ds.length:=by omega
   have hd:=Â hk;have D:=h.d _ (Ô hk);have dsh:=KJ D;have esh:=An _ dsh;have gs:=D.g.sh;have ea:AU (M.ds.map A6) k=some (A6 M.ds[k.toNat]):=Ic A6 (Gi h0 hd);have ez:=J4 (zm7 D.z) MX;have es:=J4 (h.tn _ D.s) hx;have d2:decide (k<(M.ds.length:Int))=true:=Ì h1;rw[hd];generalize M.ds.map A6=DT at *;generalize M.ds[k.toNat]=d at *
   by_cases h2:d.z=Str.empty
   .by_cases h3:d.s=x
    .refine⟨[],?_⟩;erw[if_pos (And.intro h2 h3)];have ez':(!decide (d.z=Str.ofString ""))=false:=by rw[Ì (show d.z=Str.ofString "" from h2)];rfl
     have es':(!decide (d.s=x))=false:=by rw[Ì h3];rfl
     rw[ez']at ez;rw[es']at es
     simp![ew,al,sd,ed,d1,d2,ea,ez,es,gs,AO _ gs,A7,A3,hA]
    .refine⟨[some (AJ M),some R,some (.lst DT),some (.str x),some (.own A),some (.int k),some (A6 d)],?_⟩;erw[if_neg (show ¬ (d.z=Str.empty/\d.s=x) from λz=>h3 z.2)]
     have ez':(!decide (d.z=Str.ofString ""))=false:=by rw[Ì (show d.z=Str.ofString "" from h2)];rfl
     have es':(!decide (d.s=x))=true:=by rw[Ü h3];rfl
     rw[ez']at ez;rw[es']at es
     simp![ew,al,sd,ed,d1,d2,ea,ez,es,gs,AO _ gs,A7,A3,hA]
   .refine⟨[some (AJ M),some R,some (.lst DT),some (.str x),some (.own A),some (.int k),some (A6 d)],?_⟩;erw[if_neg (show ¬ (d.z=Str.empty/\d.s=x) from λz=>h2 z.1)]
    have ez':(!decide (d.z=Str.ofString ""))=true:=by rw[Ü (show ¬ d.z=Str.ofString "" from h2)];rfl
    rw[ez']at ez
    simp![ew,al,sd,ed,d1,d2,ea,ez,gs,AO _ gs,A7,A3,hA]
  .have hd:M.ds[k.toNat]?=none:=Č (by omega)
   have d2:decide (k<(M.ds.length:Int))=false:=Ü h1;rw[hd];generalize M.ds.map A6=DT at *;refine⟨[some (AJ M),some R,some (.lst DT),some (.str x),some (.own A),some (.int k),x6],?_⟩
   simp![ew,al,sd,ed,d1,d2]
 .rw[if_neg h0];have d1:decide (0<=k)=false:=Ü h0;generalize M.ds.map A6=DT at *;refine⟨[some (AJ M),some R,some (.lst DT),some (.str x),some (.own A),some (.int k),x6],?_⟩
  simp![ew,al,sd,ed,d1]
theorem VQ{M:Mc}(h:McOk M)(R:T):∀(ks:kF) (x:Str) (a:kI) (x5 x6:kH),PyData.strOk x=true->a.length+ks.length<=200 ->
  ∃τ',As (AE 5) Kl (ks.map T.int) [some (AJ M),some R,some (.lst (M.ds.map A6)),some (.str x),some (.own (a.map A6)),x5,x6]=some (match EX M x ks with
   |some _=>.nx τ'|none=>.xc "NoRoad" τ')/\∀l,EX M x ks=some l->∃y3 y5 y6,τ'=[some (AJ M),some R,some (.lst (M.ds.map A6)),y3,some (.own ((a++l).map A6)),y5,y6]
 |[],x,a,x5,x6,hx,hl=>⟨[some (AJ M),some R,some (.lst (M.ds.map A6)),some (.str x),some (.own (a.map A6)),x5,x6],rfl,λl e=>by
   cases e;exact⟨_,_,_,by rw[Ą]⟩⟩
 |k::r,x,a,x5,x6,hx,hl=>by
  rw[Ø]at hl;obtain⟨τ0,e0⟩:=zje h R x hx (a.map A6) (by rw[Á];omega) k x6
  rw[VU,Ñ];cases e1:Eo M x k with
  |none=>rw[e1]at e0;exact⟨τ0,fg_xc (by simp![]) e0,λl e=>by cases e⟩|some d=>
   rw[e1]at e0;obtain⟨τ',i1,i2⟩:=VQ h R r d.e (a++[d]) (some (.int k)) (some (A6 d)) (h.tn _ (h.d d (zjg e1)).e) (by rw[Ö,Ĥ];omega)
   rw[á]at i1;refine⟨τ',(IY (by simp![]) e0).trans (i1.trans ?_),λl e=>?_⟩
   .erw[ī];cases EX M d.e r<;>rfl
   .erw[ī]at e;obtain⟨l',e',rfl⟩:=Õ.mp e;obtain⟨y3,y5,y6,ey⟩:=i2 l' e';exact⟨y3,y5,y6,by rw[ey,ń];rfl⟩
theorem BC:∀ks:kF,BJ (ks.map T.int)=ks.map T.int
 |[]=>rfl|k::r=>by rw[Ñ,BJ,BC r];rfl
theorem BG:∀ks:kF,Ad (ks.map T.int)=true
 |[]=>rfl|k::r=>by rw[Ñ,Ad,BG r];rfl
theorem Xw{M:Mc}(h:McOk M):AU ((M.rs.map (·.1)).map T.str) 0=some (.str (FU M)):=by
 have h1:=h.r.l1;have e:(M.rs.map (·.1))[0]?=some (M.rs[0]'(by omega)).1:=by rw[Ê,Â (by omega)];rfl
 refine Gi (by decide) ?_
 show((M.rs.map (·.1)).map T.str)[0]?=_;unfold FU;rw[Ê,e]
 rfl
theorem VW{M:Mc}(h:McOk M):FU M∈M.rs.map (·.1):=by
 have h1:=h.r.l1;unfold FU;rw[Â (show 0<(M.rs.map (·.1)).length by rw[Á];omega)]
 exact Ô _
theorem L9{M:Mc}(h:McOk M)(ks:kF):FH [AJ M,.lst (ks.map T.int)]=some (L4 (BV M ks)):=by
 have sm:=Bl h;have em:=An _ sm;have sd:=h.sd;have ed:=AO _ sd;have md:Ka [AJ M]=some (.ok (.own (M.ds.map A6))):=zkr h;have mr:Iu [AJ M]=some (.ok (.own ((M.rs.map (·.1)).map T.str))):=Xv h;have ma:=Xw h;have si:=BG ks;have ei:=BC ks;have hin:=J8 M;unfold FH Ov BV
 by_cases hl:ks.length<=200
 .rw[if_pos hl];obtain⟨τ',e1,e2⟩:=VQ h (.lst (ks.map T.int)) ks (FU M) [] none none (h.tn _ (VW h)) (by simpa using hl)
  have hl':decide ((200:Int)<((ks.map T.int).length:Int))=false:=Ü (by rw[Á];omega)
  rw[İ]at e1;generalize ks.map T.int=KT at *;cases hr:EX M (FU M) ks with
  |none=>
   rw[hr]at e1;generalize M.ds.map A6=DT at *
   simp![-Cp,hin,IM,si,ei,sm,em,hl',md,mr,ma,sd,ed,A7,A3,e1,L4]
  |some l=>
   rw[hr]at e1;obtain⟨y3,y5,y6,rfl⟩:=e2 l hr;generalize M.ds.map A6=DT at *
   simp![-Cp,hin,IM,si,ei,sm,em,hl',md,mr,ma,sd,ed,A7,A3,e1,L4]
 .rw[if_neg hl];have hl':decide ((200:Int)<((ks.map T.int).length:Int))=true:=Ì (by rw[Á];omega)
  generalize ks.map T.int=KT at *
  simp![-Cp,hin,IM,si,ei,sm,em,hl',L4]
abbrev UN:Stmt:=AI 59
def PK:AG:=
 (AN (Dd (m2 Ap (m1 BL (AA 1)) (mC (.int 0))) (AM (DP Aw Ax Iu (AA 0) AD) (mC (.int 0))) (Bt BO B3 1 (AM (AA 1) (m1 DZ (mC (.int 1)))))))
def K4:kL->Option Ru:=A5 2 2 PK
abbrev Qe:Fn:=⟨2,["machine","doors"],K4⟩
abbrev zc5:Gx:={ Aa with cl:=[("Door",BO,B3)],mt:=[("rooms",Aw,Ax,Qk)] }
abbrev zcg:Gm:=⟨["machine","doors"],(AV UN).names,[],1,[],["len"],[],[],["raise_all"],false,[],[],[],zc5⟩
theorem zcu:Ck zcg Qe UN PK:={}
def Cr(M:Mc)(l:kI):Str:=match l.getLast? with
 |some d=>d.e|none=>FU M
theorem MZ{M:Mc}(h:McOk M){l:kI}(hl:∀d∈l,d∈M.ds):Ad (l.map A6)=true:=JP λd hd=>KJ (h.d d (hl d hd))
theorem zp3{M:Mc}(h:McOk M){l:kI}(hl:∀d∈l,d∈M.ds):Cr M l∈M.rs.map (·.1):=by
 unfold Cr;cases e:l.getLast? with
 |none=>exact VW h|some d=>exact(h.d d (hl d (List.mem_of_getLast? e))).e
theorem Ra{α:Type}{l:List α}{d:α}(e:l.getLast?=some d):AU l (-1)=some d:=by
 have hp:0<l.length:=by
  cases l with
  |nil=>cases e|cons a r=>simp
 unfold AU Bu;rw[if_neg (by decide),if_pos (by omega),ī,<- e,List.getLast?_eq_getElem?]
 congr 1
 omega
theorem YQ{M:Mc}(h:McOk M){l:kI}(hl:∀d∈l,d∈M.ds):K4 [AJ M,.lst (l.map A6)]=some (.ok (.str (Cr M l))):=by
 have sm:=Bl h;have em:=An _ sm;have mr:Iu [AJ M]=some (.ok (.own ((M.rs.map (·.1)).map T.str))):=Xv h;have ma:=Xw h;have hin:=J8 M;have sl:=MZ h hl;have esl:=AO _ sl;unfold K4 PK Cr;cases e:l.getLast? with
 |none=>
  have:l=[]:=List.getLast?_eq_none_iff.mp e;subst this
  simp![-Cp,hin,C8,sm,em,mr,ma,A7,A3]
 |some d=>
  have hd:=hl d (List.mem_of_getLast? e);have gs:=(h.d d hd).g.sh
  have hp:0<l.length:=by
   cases l with
   |nil=>cases e|cons a r=>simp
  have ne:(((l.map A6).length:Int) == 0)=false:=by rw[Ķ,Á];omega
  have ea:AU (l.map A6) (-1)=some (A6 d):=Ic A6 (Ra e);generalize l.map A6=LT at *
  simp![-Cp,hin,C8,sm,em,ne,ea,sl,esl,gs,AO _ gs,A7,A3]
abbrev Tp:Stmt:=AI 58
def Ot:AG:=
 (AF (AW (AL FH (AB (AA 0) (AB (AA 1) AD))) (AE 2))
 (AN (AL K4 (AB (AA 0) (AB (AA 2) AD)))))
def Dp:kL->Option Ru:=A5 2 3 Ot
abbrev Q7:Fn:=⟨3,["machine","road"],Dp⟩
abbrev ze9:Gm:=⟨["machine","road","doors"],(AV Tp).names,[],2,[("road_doors",Q8),("last_room",Qe)],[],[],[],["raise_all"],false,[],[],[],Aa⟩
theorem zen:Ck ze9 Q7 Tp Ot:={}
def LZ(M:Mc):Option (kI)->Ru
 |some l=>.ok (.str (Cr M l))|none=>.exc "NoRoad"
theorem L6{M:Mc}(h:McOk M)(ks:kF):Dp [AJ M,.lst (ks.map T.int)]=some (LZ M (BV M ks)):=by
 have sm:=Bl h;have em:=An _ sm;have si:=BG ks;have ei:=BC ks;have e1:=L9 h ks;unfold Dp Ot;cases e:BV M ks with
 |none=>
  rw[e]at e1;generalize ks.map T.int=KT at *;have e1':FH [AJ M,.lst KT]=some (.exc "NoRoad"):=e1
  simp![si,ei,sm,em,e1',LZ]
 |some l=>
  rw[e]at e1
  have hl:∀d∈l,d∈M.ds:=by
   unfold BV at e;split at e
   .exact(La e).1
   .cases e
  have e2:=YQ h hl;have sl:=MZ h hl;have esl:=AO _ sl;have e1':FH [AJ M,.lst (ks.map T.int)]=some (.ok (.own (l.map A6))):=e1;generalize ks.map T.int=KT at *;generalize l.map A6=LT at *
  simp![si,ei,sm,em,e1',e2,sl,esl,LZ]
abbrev UH:Stmt:=AI 60
def NX:AG:=
 (Fl 3 (AL Mm (AB (AA 1) (AB (AM (AA 2) (AA 4)) (AB (AA 5) (AB (AA 6) AD))))))
def PD:AG:=
 (AF (C0 3 (Ay AD))
 (AF (Bw (Bc (AA 0)) (BN 3 (AS (AE 4) (AS (AE 5) (AS (AE 6) BU)))) NX)
 (AN (AA 3))))
def Il:kL->Option Ru:=A5 3 7 PD
abbrev Qc:Fn:=⟨3,["looks","time","set_at"],Il⟩
abbrev zce:Gm:=⟨["looks","time","set_at","bounds","place","word","number"],(AV UH).names,[],2,[("look_bounds",ZL)],[],[],["bounds"],["raise_all"],false,[],[],[],Aa⟩
theorem zcs:Ck zce Qc UH PD:={}
abbrev B7(n:Nat)(sa:Nat->Nat):kL:=mT n λp=>.int ((sa p:Nat):Int)
abbrev Hs(l:kL):T:=.nd false .rl l
def By(L:List (Nat×Nat×Int))(t:Nat)(sa:Nat->Nat):List Dv.Lim:=L.flatMap λl=>De t (sa l.1) l.2.1 l.2.2
theorem Ft:∀(L:List (Nat×Nat×Int)) (t:Nat) (sa:Nat->Nat),(By L t sa).length<=2 * L.length
 |[],_,_=>Ç _|l::L,t,sa=>by
  have h1:=zkx t (sa l.1) l.2.1 l.2.2;have h2:=Ft L t sa;unfold By at h2 ⊢;rw[List.flatMap_cons,Ö,Ø]
  omega
theorem MB(L:List Dv.Lim):Ad (L.map Am)=true:=E6 L
theorem IL(L:List Dv.Lim):BJ (L.map Am)=L.map Am:=Ez L
theorem LQ(n:Nat)(sa:Nat->Nat):Ad (B7 n sa)=true:=GQ _
theorem Py{m:Nat}{L:List (Nat×Nat×Int)}(hL:NG m L)(hl:L.length<=1000)(t:Nat)(sa:Nat->Nat):Il [.lst (L.map DQ),.int (t:Int),Hs (B7 (m+1) sa)]=some (.ok (.own ((By L t sa).map Am))):=by
 have sl:=Lz L;have esl:=AO _ sl;have ss:=LQ (m+1) sa;have ess:=AO _ ss;have hn:=Ft L t sa
 obtain⟨τ,e,x4,x5,x6,rfl⟩:=Yv (b:=BN 3 (AS (AE 4) (AS (AE 5) (AS (AE 6) BU)))) (body:=NX) DQ (λ(a:List Dv.Lim) τ=>∃x4 x5 x6,τ=[some (.lst (L.map DQ)),some (.int (t:Int)),some (Hs (B7 (m+1) sa)),some (.own (a.map Am)),x4,x5,x6]) (λl=>De t (sa l.1) l.2.1 l.2.2) 2000 L []
  [some (.lst (L.map DQ)),some (.int (t:Int)),some (Hs (B7 (m+1) sa)),some (.own []),none,none,none] ⟨none,none,none,rfl⟩ (by unfold By at hn;erw[õ];omega) λl hl' a τ hs ha=>by
   obtain⟨x4,x5,x6,rfl⟩:=hs;obtain⟨h1,h2,h3⟩:=hL l hl';have e1:AU (B7 (m+1) sa) (l.1:Int)=some (.int (sa l.1:Int)):=DO h2;have e2:=zoe (i:=t) (j:=sa l.1) (n:=l.2.2) h3
   have e3:(a.map Am).length+((De t (sa l.1) l.2.1 l.2.2).map Am).length<=100000:=by
    rw[Á,Á]
    omega
   have s3:=IL (De t (sa l.1) l.2.1 l.2.2);refine⟨[some (.lst (L.map DQ)),some (.int (t:Int)),some (Hs (B7 (m+1) sa)),some (.own (a.map Am)),some (.int (l.1:Int)),some (.str (Eh l.2.1)),some (.int l.2.2)],by simp![],[some (.lst (L.map DQ)),some (.int (t:Int)),some (Hs (B7 (m+1) sa)),some (.own ((a++De t (sa l.1) l.2.1 l.2.2).map Am)),some (.int (l.1:Int)),some (.str (Eh l.2.1)),some (.int l.2.2)],?_,_,_,_,rfl⟩
   rw[á];generalize L.map DQ=LT at *;generalize B7 (m+1) sa=ST at *;generalize (De t (sa l.1) l.2.1 l.2.2).map Am=BT at *;generalize a.map Am=AT at *;unfold NX
   simp![ss,ess,e1,e2,e3,s3]
 rw[Ť]at e;have eb:(By L t sa).map Am=(L.flatMap λl=>De t (sa l.1) l.2.1 l.2.2).map Am:=rfl
 have sb:=MB (L.flatMap λl=>De t (sa l.1) l.2.1 l.2.2)
 rw[eb];generalize L.map DQ=LT at *;generalize B7 (m+1) sa=ST at *;generalize (L.flatMap λl=>De t (sa l.1) l.2.1 l.2.2).map Am=BT at *
 unfold Il PD
 simp![sl,esl,ss,ess,e,sb]
theorem QA{m N:Nat}{L:List (Nat×Nat×Int)}(hL:NG m L){t:Nat}{sa:Nat->Nat}(ht:t<N)(hs:∀p,p<m+1->sa p<N):Dv.In N (By L t sa):=λx hx=>by
 obtain⟨l,hl,hx⟩:=List.mem_flatMap.mp hx;exact zof ht (hs _ (hL l hl).2.1) x hx
abbrev Te:Stmt:=AI 61
def Oj:AG:=
 (AF (AW (AL Ct (AB (AA 0) (AB (DP Aw Ax K9 (AA 0) (AB (AA 1) AD)) AD))) (AE 4))
 (AN (m2 Au (Ay (Ao (CK (AB (m2 Ej (AA 2) (mC (.int 1))) (AB (AA 2) (AB (AL GI (AB (mC (.int 0)) AD)) AD)))) AD)) (AL Il (AB (AA 4) (AB (AA 2) (AB (AA 3) AD)))))))
def K2:kL->Option Ru:=A5 4 5 Oj
abbrev Yx:Fn:=⟨6,["machine","room","time","set_at"],K2⟩
abbrev zb2:Gx:={ Aa with mt:=[("stay",Aw,Ax,Z5)] }
abbrev zb6:Gm:=⟨["machine","room","time","set_at","stay"],(AV Te).names,[],5,[("placed",Qa),("at_most",KG),("looked_at",Qc)],[],[],[],["raise_all"],false,[],[],[],zb2⟩
theorem zbe:Ck zb6 Yx Te Oj:={}
def CV(M:Mc)(x:Str)(t:Nat)(sa:Nat->Nat):List Dv.Lim:=(t - 1,t,1)::By (Dw M.ws M.rs x) t sa
structure Sh1(M:Mc):Prop where
 r:∀r∈M.rs,r.2.length<=100
 d:∀d∈M.ds,d.g.length<=100
theorem T4{M:Mc}(s:Sh1 M)(x:Str):(Dw M.ws M.rs x).length<=100:=by
 unfold Dw;rw[Á];cases e:M.rs.find? λq=>decide (q.1=x) with
 |none=>exact í _|some r=>exact s.r r (Ř e)
theorem JA{M:Mc}(s:Sh1 M)(x:Str)(t:Nat)(sa:Nat->Nat):(CV M x t sa).length<=201:=by
 have h1:=Ft (Dw M.ws M.rs x) t sa;have h2:=T4 s x;unfold CV;rw[Ø]
 omega
theorem SM{M:Mc}(h:McOk M)(s:Sh1 M){x:Str}(hx:x∈M.rs.map (·.1)){t:Nat}(ht:1<=t)(sa:Nat->Nat):K2 [AJ M,.str x,.int (t:Int),Hs (B7 (M.ws.length+1) sa)]=some (.ok (.own ((CV M x t sa).map Am))):=by
 have sm:=Bl h;have em:=An _ sm;obtain⟨i,hi,ei⟩:=ť.mp hx;rw[Á]at hi;rw[Ĭ]at ei;subst ei;have hr:=Ô hi;have hk:=(h.r.lk _ hr);have e1:K9 [AJ M,.str M.rs[i].1]=some (.ok (.own M.rs[i].2)):=zko h hi;have e2:Ct [AJ M,.lst M.rs[i].2]=some (.ok (.own (M.rs[i].2.map (Fo M.ws)))):=O4 h hk.1.wd (λ_ z=>z) hk.2
 rw[O0 hk.1.wd,<- zm2 h.r.nd hr]at e2;have hL:=T3 h M.rs[i].1;have hz:=T4 s M.rs[i].1;have e3:=Py hL (by omega) t sa
 have sl:=Lz (Dw M.ws M.rs M.rs[i].1);have esl:=AO _ sl;have sk:=hk.1.sh;have esk:=AO _ sk;have ss:=LQ (M.ws.length+1) sa;have ess:=AO _ ss;have sb:=MB (By (Dw M.ws M.rs M.rs[i].1) t sa);have esb:=AO _ sb;have hin:=J8 M
 have el:((By (Dw M.ws M.rs M.rs[i].1) t sa).map Am).length<=99999:=by
  have:=Ft (Dw M.ws M.rs M.rs[i].1) t sa;rw[Á]
  omega
 have et:((t:Int) - 1)=((t - 1:Nat):Int):=by omega
 unfold CV;rw[Ñ,show Am (t - 1,t,1)=.tup [.int ((t - 1:Nat):Int),.int (t:Int),.int 1] from rfl,<- et];generalize (Dw M.ws M.rs M.rs[i].1).map DQ=LT at *;generalize (By (Dw M.ws M.rs M.rs[i].1) t sa).map Am=BT at *;generalize B7 (M.ws.length+1) sa=ST at *;generalize M.rs[i].2=KT at *;generalize M.rs[i].1=x at *;have el2:1+BT.length<=100000:=by omega
 unfold K2 Oj
 simp![-Cp,hin,sm,em,e1,sk,esk,e2,sl,esl,ss,ess,e3,sb,esb,Me,el2]
theorem SN{M:Mc}(h:McOk M){N t:Nat}{x:Str}{sa:Nat->Nat}(ht:t<N)(hs:∀p,p<M.ws.length+1->sa p<N):Dv.In N (CV M x t sa):=λy hy=>by
 rcases Ð.mp hy with rfl|hy
 .exact⟨by show t - 1<N;omega,ht⟩
 .exact QA (T3 h x) ht hs y hy
abbrev Tt:Stmt:=AI 62
def RI:AH:=
 (mC (.int 0))
def NW:AG:=
 (Gv 5 (AA 10) (AA 8))
def Km:AG:=
 (AF (Fl 6 (EB 5 (AL K2 (AB (AA 0) (AB (Bt BO B3 0 (AA 9)) (AB (AA 8) (AB (AA 5) AD)))))))
 (AF (Fl 6 (EB 5 (AL Il (AB (AL Ct (AB (AA 0) (AB (DP BO B3 NC (AA 9) AD) AD))) (AB (AA 8) (AB (AA 5) AD))))))
 (Bw (Bc (AL Ml (AB (AA 0) (AB (AA 9) AD)))) (AE 10) NW)))
def Jc:AG:=
 (AF (AW (AL FH (AB (AA 0) (AB (AA 1) AD))) (AE 3))
 (AF (AW (AL Ct (AB (AA 0) (AB (AA 2) AD))) (AE 4))
 (AF (C0 5 (Bb 1 [] (C7 (AB (m2 Au (m1 BL (DP Aw Ax Iq (AA 0) AD)) (mC (.int 1))) AD)) (AE 0) (mC (.bl true)) RI))
 (AF (C0 6 (Ay AD))
 (AF (Bw (Gf (AB (AA 3) AD)) (BN 2 (AS (AE 8) (AS (AE 9) BU))) Km)
 (AF (AW (m2 Au (m1 BL (AA 3)) (mC (.int 1))) (AE 7))
 (AF (Fl 6 (EB 5 (AL K2 (AB (AA 0) (AB (AL K4 (AB (AA 0) (AB (AA 3) AD))) (AB (AA 7) (AB (AA 5) AD)))))))
 (AF (Fl 6 (EB 5 (AL Il (AB (AA 4) (AB (AA 7) (AB (AA 5) AD))))))
 (AN (AA 6))))))))))
def EV:kL->Option Ru:=A5 3 11 Jc
abbrev Q9:Fn:=⟨7,["machine","road","guard"],EV⟩
abbrev zb3:Gx:={ Aa with cl:=[("Door",BO,B3)],mt:=[("watches",Aw,Ax,Qi),("asks",BO,B3,Zk)] }
abbrev zb8:Gm:=⟨["machine","road","guard","doors","looks","set_at","bounds","end","time","door","place"],(AV Tt).names,[],6,[("road_doors",Q8),("placed",Qa),("waited_till",Yx),("looked_at",Qc),("nought_places",ZJ),("last_room",Qe)],["range","len","enumerate"],[],["bounds","set_at"],["raise_all"],false,[],["set_at"],[],zb3⟩
theorem zbg:Ck zb8 Q9 Tt Jc:={}
def Cn(ps:kG)(t:Nat)(sa:Nat->Nat):Nat->Nat:=λp=>if p∈ps then t else sa p
theorem zgp(p:Nat)(ps:kG)(t:Nat)(sa:Nat->Nat):Cn (p::ps) t sa=Cn ps t (Cn [p] t sa):=by
 funext q
 unfold Cn
 by_cases h1:q∈ps<;>by_cases h2:q=p<;>simp[h1,h2]
theorem zm9{n p:Nat}(t:Nat)(sa:Nat->Nat):(B7 n sa).set p (.int (t:Int))=B7 n (Cn [p] t sa):=by
 unfold B7;rw[Jf];refine E4 λk hk=>?_
 unfold Cn
 by_cases e:k=p<;>simp[e]
theorem V2{n t:Nat}{a0 a1 a2 a3 a4 a6 a7 a9:kH}:∀(ps:kG) (sa:Nat->Nat) (x:kH),(∀p∈ps,p<n)->∃y,As (AE 10) NW (Hz ps) [a0,a1,a2,a3,a4,some (.own (B7 n sa)),a6,a7,some (.int (t:Int)),a9,x]=some (.nx [a0,a1,a2,a3,a4,some (.own (B7 n (Cn ps t sa))),a6,a7,some (.int (t:Int)),a9,y])
 |[],sa,x,_=>⟨x,by
   have:Cn [] t sa=sa:=funext λp=>rfl
   rw[this]
   rfl⟩
 |p::ps,sa,x,h=>by
  obtain⟨y,e⟩:=V2 ps (Cn [p] t sa) (some (.int (p:Int))) λq hq=>h q (Î _ hq)
  have hp:=h p (Ï ..)
  have i1:Bu (B7 n sa).length (p:Int)=some p:=by
   rw[BW];unfold Bu;simp
   omega
  have st:=zm9 (n:=n) (p:=p) t sa;refine⟨y,?_⟩;rw[zgp];refine(IY (τ1:=[a0,a1,a2,a3,a4,some (.own (B7 n sa)),a6,a7,some (.int (t:Int)),a9,some (.int (p:Int))]) (by simp![]) ?_).trans e
  rw[<- st];unfold NW;generalize B7 n sa=ST at *
  simp![i1]
def BP(M:Mc):kI->Nat->(Nat->Nat)->List Dv.Lim×(Nat->Nat)
 |[],_,sa=>([],sa)|d::r,t,sa=>((CV M d.s t sa++By (d.g.map (Al M.ws)) t sa)++(BP M r (t+1) (Cn (Dz M.ws d.n) t sa)).1,(BP M r (t+1) (Cn (Dz M.ws d.n) t sa)).2)
theorem np_lt{M:Mc}(h:McOk M){d:Dr}(hd:d∈M.ds):∀p∈Dz M.ws d.n,1<=p/\p<M.ws.length+1:=λp hp=>by
 obtain⟨x,hx,rfl⟩:=ß.mp hp;obtain⟨j,ej,hj,_⟩:=ML ((h.d d hd).n x hx);rw[ej,ņ]
 omega
theorem J3:∀B:List Dv.Lim,E3 (B.map Am)=true
 |[]=>rfl|b::B=>by
  rw[Ñ,E3,J3 B]
  rfl
theorem YX{n:Nat}{sa:Nat->Nat}:Ey (B7 n sa)=true/\Fu (B7 n sa)=B7 n sa:=by
 have:∀l:kG,Ey (l.map λp=>T.int ((sa p:Nat):Int))=true/\Fu (l.map λp=>T.int ((sa p:Nat):Int))=l.map λp=>T.int ((sa p:Nat):Int):=λl=>by
  induction l with
  |nil=>exact⟨rfl,rfl⟩|cons a r ih=>exact⟨by rw[Ñ,Ey,ih.1];rfl,by rw[Ñ,Fu,ih.2];rfl⟩
 exact this (List.range n)
theorem zjh{M:Mc}(h:McOk M)(s:Sh1 M){d:Dr}(hd:d∈M.ds){t:Nat}(ht:1<=t)(sa:Nat->Nat)(R G DT LT:T)(B:List Dv.Lim)(hB:B.length<=90000)(x7 x10:kH) :
  ∃y10,Km [some (AJ M),some R,some G,some DT,some LT,some (.own (B7 (M.ws.length+1) sa)),some (.own (B.map Am)),x7,some (.int (t:Int)),some (A6 d),x10] =
   some (.nx [some (AJ M),some R,some G,some DT,some LT,some (.own (B7 (M.ws.length+1) (Cn (Dz M.ws d.n) t sa))),some (.own ((B++(CV M d.s t sa++By (d.g.map (Al M.ws)) t sa)).map Am)),x7,some (.int (t:Int)),some (A6 d),y10]):=by
 have D:=h.d d hd;have sm:=Bl h;have em:=An _ sm;have gs:=D.g.sh;have egs:=AO _ gs;have dsh:=KJ D;have esh:=An _ dsh;have e1:=SM h s D.s ht sa;have e2:Ct [AJ M,.lst d.g]=some (.ok (.own (d.g.map (Fo M.ws)))):=O4 h D.g (λ_ z=>z) D.gl
 rw[O0 D.g]at e2;have e3:=Py (JW D.g) (by have:=D.gl;rw[Á];omega) t sa
 have e4:=np_ok h hd;have e5:=zle (d:=d) gs;obtain⟨l1,l2⟩:=YX (n:=M.ws.length+1) (sa:=sa);have ss:=LQ (M.ws.length+1) sa;have ess:=AO _ ss;have n1:=J3 (CV M d.s t sa);have n2:=J3 (By (d.g.map (Al M.ws)) t sa);have sb1:=IL (CV M d.s t sa);have sb2:=IL (By (d.g.map (Al M.ws)) t sa);have z1:=JA s d.s t sa;have z2:=Ft (d.g.map (Al M.ws)) t sa;have z3:=s.d d hd;rw[Á]at z2;have c1:(B.map Am).length+((CV M d.s t sa).map Am).length<=100000:=by rw[Á,Á];omega
 have c2:(B.map Am++(CV M d.s t sa).map Am).length+((By (d.g.map (Al M.ws)) t sa).map Am).length<=100000:=by rw[Ö,Á,Á,Á];omega
 have sk:=Lz (d.g.map (Al M.ws));have esk:=AO _ sk;have sn:=zo2 (Dz M.ws d.n);have esn:=AO _ sn;obtain⟨y10,ey⟩:=V2 (n:=M.ws.length+1) (t:=t) (a0:=some (AJ M)) (a1:=some R) (a2:=some G) (a3:=some DT) (a4:=some LT) (a6:=some (.own ((B++(CV M d.s t sa++By (d.g.map (Al M.ws)) t sa)).map Am))) (a7:=x7) (a9:=some (A6 d)) (Dz M.ws d.n) sa x10 λp hp=>(np_lt h hd p hp).2
 refine⟨y10,?_⟩;rw[<- ey];rw[á,á];unfold Km;generalize Hz (Dz M.ws d.n)=NT at *;generalize (d.g.map (Al M.ws)).map DQ=KT at *;generalize (CV M d.s t sa).map Am=WT at *;generalize (By (d.g.map (Al M.ws)) t sa).map Am=QT at *;generalize B7 (M.ws.length+1) sa=ST at *;generalize B.map Am=BT at *;refine sq (τ':=[some (AJ M),some R,some G,some DT,some LT,some (.own ST),some (.own (BT++WT)),x7,some (.int (t:Int)),some (A6 d),x10]) ?_ (sq (τ':=[some (AJ M),some R,some G,some DT,some LT,some (.own ST),some (.own (BT++(WT++QT))),x7,some (.int (t:Int)),some (A6 d),x10]) ?_ ?_)
 .simp![EB,MJ,T.lnd,T.lend,T.noR,l1,l2,sm,em,gs,egs,A7,A3,ss,ess,e1,n1,sb1,c1]
 .simp![EB,MJ,T.lnd,T.lend,T.noR,l1,l2,sm,em,gs,egs,A7,A3,ss,ess,e5,e2,sk,esk,e3,n2,sb2,c2,ń]
 .simp![sm,em,gs,egs,A7,A3,e4,sn,esn]
theorem OP{M:Mc}(s:Sh1 M):∀(ds:kI) (t:Nat) (sa:Nat->Nat),(∀d∈ds,d∈M.ds)->(BP M ds t sa).1.length<=401 * ds.length
 |[],_,_,_=>Ç _|d::r,t,sa,h=>by
  have i:=OP s r (t+1) (Cn (Dz M.ws d.n) t sa) λx hx=>h x (Î _ hx)
  have z1:=JA s d.s t sa;have z2:=Ft (d.g.map (Al M.ws)) t sa;have z3:=s.d d (h d (Ï ..));rw[Á]at z2;show((CV M d.s t sa++By (d.g.map (Al M.ws)) t sa)++(BP M r (t+1) (Cn (Dz M.ws d.n) t sa)).1).length<=_;rw[Ö,Ö,Ø]
  omega
theorem V1{M:Mc}(h:McOk M)(s:Sh1 M){R G DT LT:T}{x7:kH}:∀(ds:kI) (t:Nat) (sa:Nat->Nat) (B:List Dv.Lim) (x8 x9 x10:kH),(∀d∈ds,d∈M.ds)->1<=t->B.length+401 * ds.length<=90000 ->
  ∃y8 y9 y10,As (BN 2 (AS (AE 8) (AS (AE 9) BU))) Km (EG t (ds.map A6)) [some (AJ M),some R,some G,some DT,some LT,some (.own (B7 (M.ws.length+1) sa)),some (.own (B.map Am)),x7,x8,x9,x10] =
   some (.nx [some (AJ M),some R,some G,some DT,some LT,some (.own (B7 (M.ws.length+1) (BP M ds t sa).2)),some (.own ((B++(BP M ds t sa).1).map Am)),x7,y8,y9,y10])
 |[],t,sa,B,x8,x9,x10,_,_,_=>⟨x8,x9,x10,by
   show some (Out.nx [some (AJ M),some R,some G,some DT,some LT,some (.own (B7 (M.ws.length+1) sa)),some (.own (B.map Am)),x7,x8,x9,x10])=_;rw[show(BP M [] t sa).1=[] from rfl,Ą]
   rfl⟩
 |d::r,t,sa,B,x8,x9,x10,hd,ht,hB=>by
  rw[Ø]at hB;have hdm:=hd d (Ï ..);obtain⟨y10,e⟩:=zjh h s hdm ht sa R G DT LT B (by omega) x7 x10
  have z1:=JA s d.s t sa;have z2:=Ft (d.g.map (Al M.ws)) t sa;have z3:=s.d d hdm;rw[Á]at z2;obtain⟨z8,z9,z10,e2⟩:=V1 h s r (t+1) (Cn (Dz M.ws d.n) t sa) (B++(CV M d.s t sa++By (d.g.map (Al M.ws)) t sa)) (some (.int (t:Int))) (some (A6 d)) y10 (λx hx=>hd x (Î _ hx)) (by omega) (by rw[Ö,Ö];omega)
  refine⟨z8,z9,z10,(IY (τ1:=[some (AJ M),some R,some G,some DT,some LT,some (.own (B7 (M.ws.length+1) sa)),some (.own (B.map Am)),x7,some (.int (t:Int)),some (A6 d),x10]) ?_ e).trans (e2.trans ?_)⟩
  .generalize B7 (M.ws.length+1) sa=ST;generalize B.map Am=BT
   simp![]
  .rw[ń B]
   rfl
def Bo(M:Mc)(ds:kI)(g:List (Nat×Nat×Int)):List Dv.Lim:=(BP M ds 1 λ_=>0).1++(CV M (Cr M ds) (ds.length+1) (BP M ds 1 λ_=>0).2++By g (ds.length+1) (BP M ds 1 λ_=>0).2)
theorem zji{M:Mc}(s:Sh1 M){ds:kI}(hd:∀d∈ds,d∈M.ds)(hl:ds.length<=200){g:List (Nat×Nat×Int)}(hg:g.length<=100):(Bo M ds g).length<=90000:=by
 have z0:=OP s ds 1 (λ_=>0) hd
 have z1:=JA s (Cr M ds) (ds.length+1) (BP M ds 1 λ_=>0).2
 have z2:=Ft g (ds.length+1) (BP M ds 1 λ_=>0).2
 unfold Bo;rw[Ö,Ö]
 omega
def OF(M:Mc)(g:kL):Option (kI)->Ru
 |some l=>.ok (.own ((Bo M l (g.map (Al M.ws))).map Am))|none=>.exc "NoRoad"
theorem Gw{M:Mc}{ks:kF}{l:kI}(e:BV M ks=some l):(∀d∈l,d∈M.ds)/\l.length=ks.length/\ks.length<=200:=by
 unfold BV at e;split at e
 .exact⟨(La e).1,(La e).2,by assumption⟩
 .cases e
theorem VY{M:Mc}(h:McOk M)(s:Sh1 M)(ks:kF){g:kL}(hg:BZ M.ws Bq g)(gl:g.length<=100):EV [AJ M,.lst (ks.map T.int),.lst g]=some (OF M g (BV M ks)):=by
 have sm:=Bl h;have em:=An _ sm;have si:=BG ks;have ei:=BC ks;have sg:=hg.sh;have eg:=AO _ sg;have hin:=J8 M;have e1:=L9 h ks;unfold EV Jc;cases e:BV M ks with
 |none=>
  rw[e]at e1;have e1':FH [AJ M,.lst (ks.map T.int)]=some (.exc "NoRoad"):=e1;generalize ks.map T.int=KT at *
  simp![-Cp,hin,si,ei,sg,eg,sm,em,e1',OF]
 |some l=>
  rw[e]at e1;obtain⟨hl,hn,h2⟩:=Gw e;have e1':FH [AJ M,.lst (ks.map T.int)]=some (.ok (.own (l.map A6))):=e1;have sl:=MZ h hl;have esl:=AO _ sl;have e2:Ct [AJ M,.lst g]=some (.ok (.own (g.map (Fo M.ws)))):=O4 h hg (λ_ z=>z) (by omega)
  rw[O0 hg]at e2;have mw:Iq [AJ M]=some (.ok (.own (M.ws.map T.str))):=Og h;have sk:=Lz (g.map (Al M.ws));have esk:=AO _ sk;have wl:=h.wl;have ok:Bx ((M.ws.length:Int)+1)=true:=Er (n:=M.ws.length+1) (by omega)
  have lc:CB (AE 0) (mC (.bl true)) RI (BQ 0 (M.ws.length+1)) [none]=some (B7 (M.ws.length+1) λ_=>0):=by
   rw[show BQ 0 (M.ws.length+1)=mT (M.ws.length+1) λi=>.int (i:Int) from Ca]
   exact E8 (n:=M.ws.length+1) (me:=RI) (x:=none) (cs:=[]) (g:=λi=>.int (i:Int)) (f:=λ_=>.int ((0:Nat):Int)) λi hi=>rfl
  obtain⟨y8,y9,y10,ef⟩:=V1 h s (R:=.lst (ks.map T.int)) (G:=.lst g) (DT:=.lst (l.map A6)) (LT:=.lst ((g.map (Al M.ws)).map DQ)) (x7:=none) l 1 (λ_=>0) [] none none none hl (Ç _) (by erw[õ];omega)
  have e4:=YQ h hl;have e5:=SM h s (zp3 h hl) (t:=l.length+1) (by omega) (BP M l 1 λ_=>0).2
  have e6:=Py (JW hg) (by rw[Á];omega) (l.length+1) (BP M l 1 λ_=>0).2
  obtain⟨l1,l2⟩:=YX (n:=M.ws.length+1) (sa:=(BP M l 1 λ_=>0).2)
  have ss:=LQ (M.ws.length+1) (BP M l 1 λ_=>0).2
  have ess:=AO _ ss;have n1:=J3 (CV M (Cr M l) (l.length+1) (BP M l 1 λ_=>0).2)
  have n2:=J3 (By (g.map (Al M.ws)) (l.length+1) (BP M l 1 λ_=>0).2)
  have sb1:=IL (CV M (Cr M l) (l.length+1) (BP M l 1 λ_=>0).2)
  have sb2:=IL (By (g.map (Al M.ws)) (l.length+1) (BP M l 1 λ_=>0).2)
  have z0:=OP s l 1 (λ_=>0) hl
  have z1:=JA s (Cr M l) (l.length+1) (BP M l 1 λ_=>0).2
  have z2:=Ft (g.map (Al M.ws)) (l.length+1) (BP M l 1 λ_=>0).2
  rw[Á]at z2;have c1:((BP M l 1 λ_=>0).1.map Am).length+((CV M (Cr M l) (l.length+1) (BP M l 1 λ_=>0).2).map Am).length<=100000:=by rw[Á,Á];omega
  have c2:((BP M l 1 λ_=>0).1.map Am++(CV M (Cr M l) (l.length+1) (BP M l 1 λ_=>0).2).map Am).length+((By (g.map (Al M.ws)) (l.length+1) (BP M l 1 λ_=>0).2).map Am).length<=100000:=by rw[Ö,Á,Á,Á];omega
  have sb:=MB (Bo M l (g.map (Al M.ws)))
  have eb:(Bo M l (g.map (Al M.ws))).map Am=(BP M l 1 λ_=>0).1.map Am++((CV M (Cr M l) (l.length+1) (BP M l 1 λ_=>0).2).map Am++(By (g.map (Al M.ws)) (l.length+1) (BP M l 1 λ_=>0).2).map Am):=by
   unfold Bo;rw[á,á]
  rw[eb]at sb;rw[show OF M g (some l)=.ok (.own ((Bo M l (g.map (Al M.ws))).map Am)) from rfl,eb];rw[Ť,İ]at ef;have rl:(BQ 0 (M.ws.length+1)).length<=100000:=by unfold BQ;rw[Á,ė];omega
  have en:(((l.map A6).length:Int)+1)=((l.length+1:Nat):Int):=by rw[Á];omega
  have tn:((M.ws.length:Int)+1).toNat=M.ws.length+1:=by omega
  generalize (g.map (Al M.ws)).map DQ=LT at *;generalize (CV M (Cr M l) (l.length+1) (BP M l 1 λ_=>0).2).map Am=WT at *
  generalize (By (g.map (Al M.ws)) (l.length+1) (BP M l 1 λ_=>0).2).map Am=QT at *
  generalize (BP M l 1 λ_=>0).1.map Am=BT at *
  generalize B7 (M.ws.length+1) (BP M l 1 λ_=>0).2=ST at *
  generalize B7 (M.ws.length+1) (λ_=>0)=S0 at *
  generalize l.map A6=DL at *;generalize Cr M l=xe at *;generalize ks.map T.int=KT at *
  simp![-Cp,hin,EB,MJ,T.lnd,T.lend,T.noR,si,ei,sg,eg,sm,em,e1',sl,esl,e2,sk,esk,mw,A7,A3,Á,ok,tn,lc,rl,ef,en,e4,l1,l2,ss,ess,e5,n1,sb1,c1,e6,n2,sb2,c2,ń,sb]
theorem V0{M:Mc}(h:McOk M){ks:kF}(e:BV M ks=none){G:T}(sG:G.sh=true):EV [AJ M,.lst (ks.map T.int),G]=some (.exc "NoRoad"):=by
 have sm:=Bl h;have em:=An _ sm;have si:=BG ks;have ei:=BC ks;have e1:=L9 h ks;rw[e]at e1;have e1':FH [AJ M,.lst (ks.map T.int)]=some (.exc "NoRoad"):=e1;unfold EV Jc;generalize ks.map T.int=KT at *
 simp![si,ei,sm,em,e1',sG,An _ sG]
theorem VZ{M:Mc}(h:McOk M){ks:kF}{l:kI}(e:BV M ks=some l){G:T}(sG:G.sh=true)(hp:Ct [AJ M,G]=some (.exc "NoMark")):EV [AJ M,.lst (ks.map T.int),G]=some (.exc "NoMark"):=by
 have sm:=Bl h;have em:=An _ sm;have si:=BG ks;have ei:=BC ks;have e1:=L9 h ks;rw[e]at e1;have e1':FH [AJ M,.lst (ks.map T.int)]=some (.ok (.own (l.map A6))):=e1;have sl:=MZ h (Gw e).1;have esl:=AO _ sl;unfold EV Jc;generalize ks.map T.int=KT at *;generalize l.map A6=DL at *
 simp![si,ei,sm,em,e1',sl,esl,hp,sG,An _ sG]
theorem zm3{ps:kG}{t N:Nat}{sa:Nat->Nat}(ht:t<N)(hs:∀p,sa p<N):∀p,Cn ps t sa p<N:=λp=>by
 unfold Cn;split
 .exact ht
 .exact hs p
theorem V3{M:Mc}(h:McOk M){N:Nat}:∀(ds:kI) (t:Nat) (sa:Nat->Nat),(∀d∈ds,d∈M.ds)->t+ds.length<=N->(∀p,sa p<N)->Dv.In N (BP M ds t sa).1/\∀p,(BP M ds t sa).2 p<N
 |[],_,_,_,_,hs=>⟨λx hx=>(by cases hx),hs⟩|d::r,t,sa,hd,ht,hs=>by
  rw[Ø]at ht;have i:=V3 h r (t+1) (Cn (Dz M.ws d.n) t sa) (λx hx=>hd x (Î _ hx)) (by omega) (zm3 (by omega) hs)
  refine⟨λx hx=>?_,i.2⟩
  rcases é.mp hx with hx|hx
  .rcases é.mp hx with hx|hx
   .exact SN h (by omega) (λp _=>hs p) x hx
   .exact QA (JW (h.d d (hd d (Ï ..))).g) (by omega) (λp _=>hs p) x hx
  .exact i.1 x hx
theorem V4{M:Mc}(h:McOk M){ds:kI}(hd:∀d∈ds,d∈M.ds){g:kL}(hg:BZ M.ws Bq g):Dv.In (ds.length+2) (Bo M ds (g.map (Al M.ws))):=λx hx=>by
 obtain⟨h1,h2⟩:=V3 h (N:=ds.length+2) ds 1 (λ_=>0) hd (by omega) λ_=>by omega
 unfold Bo at hx
 rcases é.mp hx with hx|hx
 .exact h1 x hx
 .rcases é.mp hx with hx|hx
  .exact SN h (by omega) (λp _=>h2 p) x hx
  .exact QA (JW hg) (by omega) (λp _=>h2 p) x hx
abbrev Tr:Stmt:=AI 64
def Ou:AG:=
 (AN (AL Mg (AB (m2 Au (m1 BL (AA 0)) (mC (.int 1))) (AB (AA 1) AD))))
def Ij:kL->Option Ru:=A5 2 2 Ou
abbrev MS:Fn:=⟨2,["road","bottom"],Ij⟩
abbrev zca:Gm:=⟨["road","bottom"],(AV Tr).names,[],1,[("unit_of",Yy)],["len"],[],[],["raise_all"],false,[],[],[],Aa⟩
theorem zco:Ck zca MS Tr Ou:={}
theorem OD(ks:kF)(hl:ks.length<=200)(b:Int):Ij [.lst (ks.map T.int),.int b]=some (.ok (.int (b * ((ks.length:Int)+2)))):=by
 have si:=BG ks;have ei:=BC ks;have e:=uo_ok (m:=ks.length+1) (b:=b) (by omega)
 have e1:(((ks.map T.int).length:Int)+1)=((ks.length+1:Nat):Int):=by rw[Á];omega
 have e2:(((ks.length+1:Nat):Int)+1)=(ks.length:Int)+2:=by omega
 rw[e2]at e;generalize ks.map T.int=KT at *;unfold Ij Ou
 simp![si,ei,e1,e]
abbrev UM:Stmt:=AI 65
def Jd:AG:=
 (AF (AW (AL EV (AB (AA 0) (AB (AA 1) (AB (AA 2) AD)))) (AE 4))
 (AN (AL Ha (AB (m2 Au (m1 BL (AA 1)) (mC (.int 1))) (AB (AL Mn (AB (AA 4) (AB (AL Ij (AB (AA 1) (AB (AA 3) AD))) AD))) AD)))))
def Dq:kL->Option Ru:=A5 4 5 Jd
abbrev Qd:Fn:=⟨8,["machine","road","guard","bottom"],Dq⟩
abbrev zba:Gm:=⟨["machine","road","guard","bottom","bounds"],(AV UM).names,[],7,[("road_bounds",Q9),("least_values",ZN),("limits_of",ZM),("road_unit",MS)],["len"],[],[],["raise_all"],false,[],[],[],Aa⟩
theorem zbi:Ck zba Qd UM Jd:={}
def FY(M:Mc)(l:kI)(g:kL)(b:Int):Option (Nat->Int):=Dv.tn ((Bo M l (g.map (Al M.ws))).map (F6 (b * ((l.length:Int)+2)))) (l.length+2) λ_=>0
def GZ(M:Mc)(g:kL)(b:Int):Option (kI)->Ru
 |some l=>.ok (Jl (l.length+2) (FY M l g b))|none=>.exc "NoRoad"
theorem YJ{M:Mc}(h:McOk M)(s:Sh1 M)(ks:kF){g:kL}(hg:BZ M.ws Bq g)(gl:g.length<=100){b:Int}(hb:0<b)(hb2:b<=10 ^ 12):Dq [AJ M,.lst (ks.map T.int),.lst g,.int b]=some (GZ M g b (BV M ks)):=by
 have sm:=Bl h;have em:=An _ sm;have si:=BG ks;have ei:=BC ks;have sg:=hg.sh;have eg:=AO _ sg;have e1:=VY h s ks hg gl;unfold Dq Jd;cases e:BV M ks with
 |none=>
  rw[e]at e1;have e1':EV [AJ M,.lst (ks.map T.int),.lst g]=some (.exc "NoRoad"):=e1;generalize ks.map T.int=KT at *
  simp![si,ei,sg,eg,sm,em,e1',GZ]
 |some l=>
  rw[e]at e1;obtain⟨hl,hn,h2⟩:=Gw e;have e1':EV [AJ M,.lst (ks.map T.int),.lst g]=some (.ok (.own ((Bo M l (g.map (Al M.ws))).map Cj))):=e1;have e2:=OD ks h2 b
  have hu:DI (b * ((ks.length:Int)+2))=true:=by
   have:b * ((ks.length:Int)+2)<=10 ^ 12 * 202:=Int.mul_le_mul hb2 (by omega) (by omega) (by decide)
   have:0<=b * ((ks.length:Int)+2):=Int.mul_nonneg (by omega) (by omega)
   exact Cv (by omega) (by omega)
  have hz:=zji s hl (by omega) (g:=g.map (Al M.ws)) (by rw[Á];exact gl)
  have e3:=lo_ok hu (Bo M l (g.map (Al M.ws))) (by omega)
  have hI:=V4 h hl hg
  have e4:=zo4 (m:=ks.length+1) (by omega) (L:=(Bo M l (g.map (Al M.ws))).map (F6 (b * ((ks.length:Int)+2)))) (λx hx=>by
   obtain⟨y,hy,rfl⟩:=ß.mp hx;have:=hI y hy;rw[hn]at this;exact this)
  have sb:=E6 (Bo M l (g.map (Al M.ws)));have esb:=Ez (Bo M l (g.map (Al M.ws)));have sc:=E6 ((Bo M l (g.map (Al M.ws))).map (F6 (b * ((ks.length:Int)+2))));have esc:=Ez ((Bo M l (g.map (Al M.ws))).map (F6 (b * ((ks.length:Int)+2))));have en:(((ks.map T.int).length:Int)+1)=((ks.length+1:Nat):Int):=by rw[Á];omega
  rw[show GZ M g b (some l)=.ok (Jl (ks.length+2) (Dv.tn ((Bo M l (g.map (Al M.ws))).map (F6 (b * ((ks.length:Int)+2)))) (ks.length+2) λ_=>0)) by unfold GZ FY;erw[hn]]
  generalize ((Bo M l (g.map (Al M.ws))).map (F6 (b * ((ks.length:Int)+2))))=L2 at *;generalize Bo M l (g.map (Al M.ws))=L1 at *;generalize L2.map Cj=LT2 at *;generalize L1.map Cj=LT1 at *;generalize ks.map T.int=KT at *;generalize b * ((ks.length:Int)+2)=u at *
  simp![si,ei,sg,eg,sm,em,e1',sb,esb,en,e2,e3,sc,esc,e4]
theorem YL{M:Mc}(h:McOk M){ks:kF}(e:BV M ks=none){G:T}(sG:G.sh=true)(b:Int):Dq [AJ M,.lst (ks.map T.int),G,.int b]=some (.exc "NoRoad"):=by
 have sm:=Bl h;have em:=An _ sm;have si:=BG ks;have ei:=BC ks;have e1:=V0 h e sG;unfold Dq Jd;generalize ks.map T.int=KT at *
 simp![si,ei,sm,em,e1,sG,An _ sG]
theorem YK{M:Mc}(h:McOk M){ks:kF}{l:kI}(e:BV M ks=some l){G:T}(sG:G.sh=true)(hp:Ct [AJ M,G]=some (.exc "NoMark"))(b:Int):Dq [AJ M,.lst (ks.map T.int),G,.int b]=some (.exc "NoMark"):=by
 have sm:=Bl h;have em:=An _ sm;have si:=BG ks;have ei:=BC ks;have e1:=VZ h e sG hp;unfold Dq Jd;generalize ks.map T.int=KT at *
 simp![si,ei,sm,em,e1,sG,An _ sG]
abbrev Tn:Stmt:=AI 66
def RG:AH:=
 (AL Mu (AB (m2 Ej (AA 1) (AA 0)) (AB (AA 2) AD)))
def Ja:AG:=
 (AF (AW (AL Dq (AB (AA 0) (AB (AA 1) (AB (AA 2) (AB (AA 3) AD))))) (AE 4))
 (AF (Ai (m2 (Dh false) (AA 4) (mC .non)) (AN (mC .non)) Af)
 (AF (AW (AL Ij (AB (AA 1) (AB (AA 3) AD))) (AE 5))
 (AF (AW (Bb 2 [5] (Ge (AB (AA 4) (AB (Cg (EM (AA 4) (some (mC (.int 1))) none) (E5 (AA 4) (some (mC (.int 1))) none)) AD))) (BN 2 (AS (AE 0) (AS (AE 1) BU))) (mC (.bl true)) RG) (AE 6))
 (AN (Jh (AA 6) (m2 Au (AA 1) (Ay (Ao (mC .non) AD)))))))))
def EU:kL->Option Ru:=A5 4 7 Ja
abbrev Q6:Fn:=⟨9,["machine","road","guard","bottom"],EU⟩
abbrev zfm:Gm:=⟨["machine","road","guard","bottom","times","unit","waits"],(AV Tn).names,["unit"],8,[("least_times",Qd),("road_unit",MS),("fraction",ZY)],["zip","list"],[],[],["raise_all"],false,[],[],[],Aa⟩
theorem zfy:Ck zfm Q6 Tn Ja:={}
def Gq(v:Nat->Int)(u:Int)(i:Nat):T:=fr (Zm.lt (v (i+1) - v i) u) (Zm.lb (v (i+1) - v i) u)
def stpT(ks:kF)(v:Nat->Int)(u:Int):kL:=DF (mT (ks.length+1) (Gq v u)) (ks.map T.int++[.non])
def L7(ks:kF)(u:Int):Option (Nat->Int)->T
 |some v=>.own (stpT ks v u)|none=>.non
def OE(M:Mc)(ks:kF)(g:kL)(b:Int):Option (kI)->Ru
 |some l=>.ok (L7 ks (b * ((ks.length:Int)+2)) (FY M l g b))|none=>.exc "NoRoad"
theorem zp8{n a:Nat}{g:Nat->T}:BY (mT (n+a) g) (some (a:Int)) none=mT n λi=>g (i+a):=by
 unfold BY
 have e2:HT.sIx (mT (n+a) g).length 0 (some (a:Int))=a:=by
  rw[BW];simp[HT.sIx]
  omega
 have e3:HT.sIx (mT (n+a) g).length (mT (n+a) g).length none=n+a:=by rw[BW];rfl
 rw[e2,e3];refine EA (by simp[BW]) λi hi=>?_
 rw[ř (by omega),ħ,DN (by omega),Nat.add_comm]
theorem zgh(n:Nat)(v:Nat->Int):DF (iT (n+1) v) (mT n λi=>.int (v (i+1)))=mT n λi=>.tup [.int (v i),.int (v (i+1))]:=by
 refine EA (by simp[DF,BW]) λi hi=>?_
 unfold DF;rw[ľ,DN (show i<n+1 by omega),DN hi]
theorem VJ{M:Mc}(h:McOk M)(s:Sh1 M)(ks:kF){g:kL}(hg:BZ M.ws Bq g)(gl:g.length<=100){b:Int}(hb:0<b)(hb2:b<=10 ^ 12):EU [AJ M,.lst (ks.map T.int),.lst g,.int b]=some (OE M ks g b (BV M ks)):=by
 have sm:=Bl h;have em:=An _ sm;have si:=BG ks;have ei:=BC ks;have sg:=hg.sh;have eg:=AO _ sg;have e1:=YJ h s ks hg gl hb hb2;unfold EU Ja;cases e:BV M ks with
 |none=>
  rw[e]at e1;have e1':Dq [AJ M,.lst (ks.map T.int),.lst g,.int b]=some (.exc "NoRoad"):=e1;generalize ks.map T.int=KT at *
  simp![si,ei,sg,eg,sm,em,e1',OE]
 |some l=>
  rw[e]at e1;obtain⟨hl,hn,h2⟩:=Gw e;have e2:=OD ks h2 b;have u0:0<b * ((ks.length:Int)+2):=Int.mul_pos hb (by omega)
  have u1:b * ((ks.length:Int)+2)<=10 ^ 12 * 202:=Int.mul_le_mul hb2 (by omega) (by omega) (by decide)
  rw[show GZ M g b (some l)=.ok (Jl (ks.length+2) (FY M l g b)) by unfold GZ;erw[hn]]at e1
  rw[show OE M ks g b (some l)=.ok (L7 ks (b * ((ks.length:Int)+2)) (FY M l g b)) from rfl];cases ev:FY M l g b with
  |none=>
   rw[ev]at e1;have e1':Dq [AJ M,.lst (ks.map T.int),.lst g,.int b]=some (.ok .non):=e1;generalize ks.map T.int=KT at *
   simp![si,ei,sg,eg,sm,em,e1',L7]
  |some v=>
   rw[ev]at e1;have e1':Dq [AJ M,.lst (ks.map T.int),.lst g,.int b]=some (.ok (.own (iT (ks.length+2) v))):=e1;generalize b * ((ks.length:Int)+2)=u at *;have cu:BY (iT (ks.length+2) v) (some 1) none=mT (ks.length+1) λi=>.int (v (i+1)):=zp8 (n:=ks.length+1) (a:=1) (g:=λi=>T.int (v i))
   have zt:=zgh (ks.length+1) v
   have lc:=HI (n:=ks.length+1) (me:=RG) (x:=none) (y:=none) (cs:=[some (.int u)]) (u:=λi=>.int (v i)) (w:=λi=>.int (v (i+1))) (f:=Gq v u) λi hi=>by
    have ef:=fr_ok (t:=v (i+1) - v i) u0 (by omega)
    unfold RG Gq
    simp![ef]
   have sT:Ad (iT (ks.length+2) v)=true:=GQ _;have eT:=AO _ sT;have sU:Ad (mT (ks.length+1) λi=>T.int (v (i+1)))=true:=GQ _
   have eU:=AO _ sU;have sW:Ad (mT (ks.length+1) (Gq v u))=true:=JP (L:=List.range (ks.length+1)) (f:=Gq v u) λ_ _=>rfl
   have eW:=AO _ sW;have l1:(mT (ks.length+1) λi=>T.tup [.int (v i),.int (v (i+1))]).length<=100000:=by rw[BW];omega
   have l2:(ks.map T.int).length+1<=100000:=by rw[Á];omega
   have sN:Ad (ks.map T.int++[.non])=true:=by
    rw[DV,List.all_append,<- DV,si]
    rfl
   have eN:=AO _ sN;rw[show L7 ks u (some v)=.own (DF (mT (ks.length+1) (Gq v u)) (ks.map T.int++[.non])) from rfl];generalize iT (ks.length+2) v=VT at *;generalize (mT (ks.length+1) λi=>T.int (v (i+1)))=UT at *
   generalize (mT (ks.length+1) λi=>T.tup [.int (v i),.int (v (i+1))])=PT at *
   generalize mT (ks.length+1) (Gq v u)=WT at *;generalize ks.map T.int=KT at *
   simp![si,ei,sg,eg,sm,em,e1',sT,eT,e2,cu,sU,eU,zt,lc,l1,sW,eW,l2,sN,eN]
theorem VM{M:Mc}(h:McOk M){ks:kF}(e:BV M ks=none){G:T}(sG:G.sh=true)(b:Int):EU [AJ M,.lst (ks.map T.int),G,.int b]=some (.exc "NoRoad"):=by
 have sm:=Bl h;have em:=An _ sm;have si:=BG ks;have ei:=BC ks;have e1:=YL h e sG b;unfold EU Ja;generalize ks.map T.int=KT at *
 simp![si,ei,sm,em,e1,sG,An _ sG]
theorem VL{M:Mc}(h:McOk M){ks:kF}{l:kI}(e:BV M ks=some l){G:T}(sG:G.sh=true)(hp:Ct [AJ M,G]=some (.exc "NoMark"))(b:Int):EU [AJ M,.lst (ks.map T.int),G,.int b]=some (.exc "NoMark"):=by
 have sm:=Bl h;have em:=An _ sm;have si:=BG ks;have ei:=BC ks;have e1:=YK h e sG hp b;unfold EU Ja;generalize ks.map T.int=KT at *
 simp![si,ei,sm,em,e1,sG,An _ sG]
abbrev Tj:Stmt:=AI 67
def Oo:AG:=
 (AN (AL EU (AB (AA 0) (AB (AA 1) (AB (AA 2) (AB (mC (.int 1)) AD))))))
def HZ:kL->Option Ru:=A5 3 3 Oo
abbrev ZC:Fn:=⟨10,["machine","road","guard"],HZ⟩
abbrev zfl:Gm:=⟨["machine","road","guard"],(AV Tj).names,[],9,[("run_by",Q6)],[],[],[],["raise_all"],false,[],[],[],Aa⟩
theorem zfx:Ck zfl ZC Tj Oo:={}
theorem OJ{M:Mc}(h:McOk M){ks:kF}{G:T}(sG:G.sh=true):HZ [AJ M,.lst (ks.map T.int),G]=EU [AJ M,.lst (ks.map T.int),G,.int 1]:=by
 have sm:=Bl h;have em:=An _ sm;have si:=BG ks;have ei:=BC ks;unfold HZ Oo;generalize ks.map T.int=KT at *;generalize e:EU [AJ M,.lst KT,G,.int 1]=r
 rcases r with _|⟨t⟩|⟨c⟩
 all_goals simp![si,ei,sm,em,e,sG,An _ sG]
abbrev Th:Stmt:=AI 68
def J9:AG:=
 (AF (AW (AL Dq (AB (AA 0) (AB (AA 1) (AB (AA 2) (AB (mC (.int 1)) AD))))) (AE 3))
 (AF (Ai (m2 (Dh false) (AA 3) (mC .non)) (AN (mC .non)) Af)
 (AF (AW (AL Ij (AB (AA 1) (AB (mC (.int 1)) AD))) (AE 4))
 (AN (CK (AB (m2 Bi (AM (AA 3) (m1 DZ (mC (.int 1)))) (AA 4)) (AB (m2 Ap (m2 BE (AM (AA 3) (m1 DZ (mC (.int 1)))) (AA 4)) (mC (.int 0))) AD)))))))
def FE:kL->Option Ru:=A5 3 5 J9
abbrev ZA:Fn:=⟨9,["machine","road","guard"],FE⟩
abbrev ze8:Gm:=⟨["machine","road","guard","times","unit"],(AV Th).names,[],8,[("least_times",Qd),("road_unit",MS)],[],[],[],["raise_all"],false,[],[],[],Aa⟩
theorem zem:Ck ze8 ZA Th J9:={}
def LM(n:Nat)(u:Int):Option (Nat->Int)->T
 |some v=>.tup [.int ((v n).fdiv u),.bl ((v n).fmod u == 0)]|none=>.non
def LY(M:Mc)(g:kL):Option (kI)->Ru
 |some l=>.ok (LM (l.length+1) (1 * ((l.length:Int)+2)) (FY M l g 1))|none=>.exc "NoRoad"
theorem sn_ok{M:Mc}(h:McOk M)(s:Sh1 M)(ks:kF){g:kL}(hg:BZ M.ws Bq g)(gl:g.length<=100):FE [AJ M,.lst (ks.map T.int),.lst g]=some (LY M g (BV M ks)):=by
 have sm:=Bl h;have em:=An _ sm;have si:=BG ks;have ei:=BC ks;have sg:=hg.sh;have eg:=AO _ sg;have e1:=YJ h s ks hg gl (b:=1) (by decide) (by decide)
 unfold FE J9;cases e:BV M ks with
 |none=>
  rw[e]at e1;have e1':Dq [AJ M,.lst (ks.map T.int),.lst g,.int 1]=some (.exc "NoRoad"):=e1;generalize ks.map T.int=KT at *
  simp![si,ei,sg,eg,sm,em,e1',LY]
 |some l=>
  rw[e]at e1;obtain⟨hl,hn,h2⟩:=Gw e;have e2:=OD ks h2 1;rw[show GZ M g 1 (some l)=.ok (Jl (ks.length+2) (FY M l g 1)) by unfold GZ;erw[hn]]at e1
  rw[show LY M g (some l)=.ok (LM (ks.length+1) (1 * ((ks.length:Int)+2)) (FY M l g 1)) by unfold LY;erw[hn]]
  have un:((1 * ((ks.length:Int)+2))=0)=False:=ù (by omega)
  have us:Bh (1 * ((ks.length:Int)+2))=true:=Br (by omega) (by omega)
  cases ev:FY M l g 1 with
  |none=>
   rw[ev]at e1;have e1':Dq [AJ M,.lst (ks.map T.int),.lst g,.int 1]=some (.ok .non):=e1;generalize ks.map T.int=KT at *
   simp![si,ei,sg,eg,sm,em,e1',LM]
  |some v=>
   rw[ev]at e1;have e1':Dq [AJ M,.lst (ks.map T.int),.lst g,.int 1]=some (.ok (.own (iT (ks.length+2) v))):=e1;have sT:Ad (iT (ks.length+2) v)=true:=GQ _;have eT:=AO _ sT
   have al:AU (iT (ks.length+2) v) (-1)=some (.int (v (ks.length+1))):=Ra (by
    rw[List.getLast?_eq_getElem?,BW];exact DN (by omega))
   rw[show LM (ks.length+1) (1 * ((ks.length:Int)+2)) (some v)=.tup [.int ((v (ks.length+1)).fdiv (1 * ((ks.length:Int)+2))),.bl ((v (ks.length+1)).fmod (1 * ((ks.length:Int)+2)) == 0)] from rfl];generalize iT (ks.length+2) v=VT at *;generalize ks.map T.int=KT at *;generalize (1 * ((ks.length:Int)+2))=u at *
   simp![si,ei,sg,eg,sm,em,e1',sT,eT,e2,al,un,us,C8]
theorem zm5{M:Mc}(h:McOk M){ks:kF}(e:BV M ks=none){G:T}(sG:G.sh=true):FE [AJ M,.lst (ks.map T.int),G]=some (.exc "NoRoad"):=by
 have sm:=Bl h;have em:=An _ sm;have si:=BG ks;have ei:=BC ks;have e1:=YL h e sG 1;unfold FE J9;generalize ks.map T.int=KT at *
 simp![si,ei,sm,em,e1,sG,An _ sG]
theorem zm4{M:Mc}(h:McOk M){ks:kF}{l:kI}(e:BV M ks=some l){G:T}(sG:G.sh=true)(hp:Ct [AJ M,G]=some (.exc "NoMark")):FE [AJ M,.lst (ks.map T.int),G]=some (.exc "NoMark"):=by
 have sm:=Bl h;have em:=An _ sm;have si:=BG ks;have ei:=BC ks;have e1:=YK h e sG hp 1;unfold FE J9;generalize ks.map T.int=KT at *
 simp![si,ei,sm,em,e1,sG,An _ sG]
abbrev Tg:Stmt:=AI 69
def Om:AG:=
 (AN (AL EU (AB (AA 0) (AB (AA 1) (AB (AA 2) (AB (AM (AA 3) (mC (.int 1))) AD))))))
def HY:kL->Option Ru:=A5 4 4 Om
abbrev Yz:Fn:=⟨10,["machine","road","guard","near"],HY⟩
abbrev zb7:Gm:=⟨["machine","road","guard","near"],(AV Tg).names,[],9,[("run_by",Q6)],[],[],[],["raise_all"],false,[],[],[],Aa⟩
theorem zbf:Ck zb7 Yz Tg Om:={}
theorem Np{M:Mc}(h:McOk M){ks:kF}{G:T}(sG:G.sh=true)(a b:Int):HY [AJ M,.lst (ks.map T.int),G,fr a b]=EU [AJ M,.lst (ks.map T.int),G,.int b]:=by
 have sm:=Bl h;have em:=An _ sm;have si:=BG ks;have ei:=BC ks;unfold HY Om;generalize ks.map T.int=KT at *;generalize e:EU [AJ M,.lst KT,G,.int b]=r
 rcases r with _|⟨t⟩|⟨c⟩
 all_goals simp![si,ei,sm,em,e,sG,An _ sG]
abbrev Tq:Stmt:=AI 63
def RH:AH:=
 (mC .non)
def KP:AH:=
 (Bb 1 [] (C7 (AB (AA 1) AD)) (AE 0) (mC (.bl true)) RH)
def NV:AG:=
 (JQ 5 (AA 6) (AA 7) (AL Ik (AB (AM (AM (AA 5) (AA 6)) (AA 7)) (AB (AA 8) AD))))
def Jb:AG:=
 (AF (AW (AL EV (AB (AA 0) (AB (AA 1) (AB (AA 2) AD)))) (AE 3))
 (AF (AW (m2 Au (m1 BL (AA 1)) (mC (.int 2))) (AE 4))
 (AF (C0 5 (Bb 1 [4] (C7 (AB (AA 4) AD)) (AE 0) (mC (.bl true)) KP))
 (AF (Bw (Bc (AA 3)) (BN 3 (AS (AE 6) (AS (AE 7) (AS (AE 8) BU)))) NV)
 (AF (FT 5) (AN (AL H9 (AB (AA 5) AD))))))))
def FG:kL->Option Ru:=A5 3 9 Jb
abbrev ZE:Fn:=⟨8,["machine","road","guard"],FG⟩
abbrev zc9:Gm:=⟨["machine","road","guard","bounds","size","rows","i","j","bound"],(AV Tq).names,["size"],7,[("road_bounds",Q9),("narrower",Qb),("narrowest",ZK)],["len","range"],[],["rows"],["raise_all"],false,[],[],[],Aa⟩
theorem zcn:Ck zc9 ZE Tq Jb:={}
abbrev oZ(n:Nat)(f:Db.Z):kL:=mT n λi=>.own (mT n λj=>bT (f i j))
theorem zki{n:Nat}{f:Db.Z}{a b:Nat}{c:Db.B}:(oZ n f).set a (.own ((mT n λj=>bT (f a j)).set b (bT c)))=oZ n λi j=>if i=a/\j=b then c else f i j:=by
 unfold oZ;rw[Jf,Jf];refine E4 λi hi=>?_
 by_cases e:i=a
 .subst e;rw[if_pos rfl,E4 λj hj=>?_]
  by_cases e2:j=b
  .simp[e2]
  .simp[e2]
 .rw[if_neg e,E4 λj hj=>?_]
  simp[e]
def NQ(f:Db.Z)(x:Dv.Lim):Db.Z:=λi j=>if i=x.1/\j=x.2.1 then Db.mn (f x.1 x.2.1) (some x.2.2) else f i j
def NP(f:Db.Z)(L:List Dv.Lim):Db.Z:=L.foldl NQ f
theorem Yc{n i:Nat}(h:i<n):Bu n (i:Int)=some i:=by unfold Bu;simp;omega
theorem VD{n:Nat}{a0 a1 a2 a3 a4:kH}:∀(L:List Dv.Lim) (f:Db.Z) (x6 x7 x8:kH),Dv.In n L ->
  ∃y6 y7 y8,As (BN 3 (AS (AE 6) (AS (AE 7) (AS (AE 8) BU)))) NV (L.map Am) [a0,a1,a2,a3,a4,some (.own (oZ n f)),x6,x7,x8]=some (.nx [a0,a1,a2,a3,a4,some (.own (oZ n (NP f L))),y6,y7,y8])
 |[],f,x6,x7,x8,_=>⟨x6,x7,x8,rfl⟩|(i,j,c)::L,f,x6,x7,x8,hI=>by
  obtain⟨hi,hj⟩:=hI (i,j,c) (Ï ..);obtain⟨y6,y7,y8,e⟩:=VD L (NQ f (i,j,c)) (some (.int (i:Nat))) (some (.int (j:Nat))) (some (.int c)) λx hx=>hI x (Î _ hx)
  refine⟨y6,y7,y8,(IY (τ1:=[a0,a1,a2,a3,a4,some (.own (oZ n f)),some (.int (i:Nat)),some (.int (j:Nat)),some (.int c)]) (by simp![]) ?_).trans e⟩
  have i1:Bu (oZ n f).length (i:Int)=some i:=by rw[BW];exact Yc hi
  have i2:Bu (mT n λj=>bT (f i j)).length (j:Int)=some j:=by rw[BW];exact Yc hj
  have g1:(oZ n f)[i]?=some (.own (mT n λj=>bT (f i j))):=DN hi
  have a1:AU (oZ n f) (i:Int)=some (.own (mT n λj=>bT (f i j))):=Cs g1
  have a2:AU (mT n λj=>bT (f i j)) (j:Int)=some (bT (f i j)):=DO hj
  have nr:Ik [bT (f i j),.int c]=some (.ok (bT (Db.mn (f i j) (some c)))):=Xj (f i j) (some c);have st:=zki (n:=n) (f:=f) (a:=i) (b:=j) (c:=Db.mn (f i j) (some c));have sr:Ad (mT n λj=>bT (f i j))=true:=Gu λ_=>M8 _
  rw[show oZ n (NQ f (i,j,c))=oZ n λi' j'=>if i'=i/\j'=j then Db.mn (f i j) (some c) else f i' j' from rfl,<- st]
  generalize Db.mn (f i j) (some c)=o at *;generalize oZ n f=OT at *;generalize (mT n λj=>bT (f i j))=RT at *
  generalize f i j=q at *;unfold NV;cases q<;>cases o<;>erw[bT0,bK]at nr a2<;>simp![i1,i2,g1,a1,a2,nr,sr]
def Em(M:Mc)(l:kI)(g:kL):Db.Z:=NP (λ_ _=>none) (Bo M l (g.map (Al M.ws)))
def LX(M:Mc)(g:kL):Option (kI)->Ru
 |some l=>.ok (oT (l.length+2) (Hx (l.length+2) (Em M l g)))|none=>.exc "NoRoad"
theorem rz_ok{M:Mc}(h:McOk M)(s:Sh1 M)(ks:kF){g:kL}(hg:BZ M.ws Bq g)(gl:g.length<=100):FG [AJ M,.lst (ks.map T.int),.lst g]=some (LX M g (BV M ks)):=by
 have sm:=Bl h;have em:=An _ sm;have si:=BG ks;have ei:=BC ks;have sg:=hg.sh;have eg:=AO _ sg;have e1:=VY h s ks hg gl;unfold FG Jb;cases e:BV M ks with
 |none=>
  rw[e]at e1;have e1':EV [AJ M,.lst (ks.map T.int),.lst g]=some (.exc "NoRoad"):=e1;generalize ks.map T.int=KT at *
  simp![si,ei,sg,eg,sm,em,e1',LX]
 |some l=>
  rw[e]at e1;obtain⟨hl,hn,h2⟩:=Gw e;have e1':EV [AJ M,.lst (ks.map T.int),.lst g]=some (.ok (.own ((Bo M l (g.map (Al M.ws))).map Am))):=e1;have sb:=MB (Bo M l (g.map (Al M.ws)));have esb:=IL (Bo M l (g.map (Al M.ws)));have hI:=V4 h hl hg;rw[hn]at hI;rw[show LX M g (some l)=.ok (oT (ks.length+2) (Hx (ks.length+2) (Em M l g))) by unfold LX;erw[hn]]
  have enr:=znx (n:=ks.length+2) (by omega) (Em M l g)
  have ez:(.lst (BJ (oZ (ks.length+2) (Em M l g))):T)=zT (ks.length+2) (Em M l g):=by
   rw[Nr];refine congrArg T.lst (E4 λi hi=>?_)
   show T.lst (BJ (mT (ks.length+2) λj=>bT (Em M l g i j)))=_
   rw[AO _ (Gu λ_=>M8 _)]
  have en:(((ks.map T.int).length:Int)+2)=((ks.length+2:Nat):Int):=by rw[Á];omega
  have ok:Bx ((ks.length+2:Nat):Int)=true:=Er (by omega)
  have tn:(((ks.length+2:Nat):Int)).toNat=ks.length+2:=by omega
  have rg:BQ 0 (ks.length+2)=mT (ks.length+2) λi=>.int (i:Int):=Ca
  have ln:(mT (ks.length+2) λi=>T.int (i:Int)).length<=100000:=by rw[BW];omega
  have lcI:CB (AE 0) (mC (.bl true)) RH (mT (ks.length+2) λi=>.int (i:Int)) [none]=some (mT (ks.length+2) λj=>bT none):=E8 (n:=ks.length+2) (me:=RH) (x:=none) (cs:=[]) (g:=λi=>.int (i:Int)) (f:=λ_=>bT none) λi hi=>rfl
  have inn:∀i:Nat,KP [some (.int (i:Int)),some (.int ((ks.length+2:Nat):Int))]=some (.v (.own (mT (ks.length+2) λj=>bT none)) false):=λi=>by
   generalize (mT (ks.length+2) λj=>bT none)=NT at *
   generalize (mT (ks.length+2) λi=>T.int (i:Int))=IT at *
   unfold KP
   simp![ok,tn,rg,lcI,ln]
  have lcO:CB (AE 0) (mC (.bl true)) KP (mT (ks.length+2) λi=>.int (i:Int)) [none,some (.int ((ks.length+2:Nat):Int))]=some (oZ (ks.length+2) λ_ _=>none):=E8 (n:=ks.length+2) (me:=KP) (x:=none) (cs:=[some (.int ((ks.length+2:Nat):Int))]) (g:=λi=>.int (i:Int)) (f:=λ_=>.own (mT (ks.length+2) λj=>bT none)) λi hi=>inn i
  obtain⟨y6,y7,y8,ef⟩:=VD (n:=ks.length+2) (a0:=some (AJ M)) (a1:=some (.lst (ks.map T.int))) (a2:=some (.lst g)) (a3:=some (.lst ((Bo M l (g.map (Al M.ws))).map Am))) (a4:=some (.int ((ks.length+2:Nat):Int))) (Bo M l (g.map (Al M.ws))) (λ_ _=>none) none none none hI
  rw[show NP (λ_ _=>none) (Bo M l (g.map (Al M.ws)))=Em M l g from rfl]at ef
  rw[<- ez]at enr;have sq1:=Fj (oZ (ks.length+2) (Em M l g));have eq1:=AO _ sq1;have so:=oT_sh (ks.length+2) (Hx (ks.length+2) (Em M l g));generalize oT (ks.length+2) (Hx (ks.length+2) (Em M l g))=OT at *;generalize oZ (ks.length+2) (Em M l g)=ZT at *;generalize (oZ (ks.length+2) λ_ _=>none)=Z0 at *
  generalize (mT (ks.length+2) λi=>T.int (i:Int))=IT at *
  generalize (Bo M l (g.map (Al M.ws))).map Am=BT at *;generalize ks.map T.int=KT at *
  simp![si,ei,sg,eg,sm,em,e1',sb,esb,en,ok,tn,rg,lcO,ln,ef,sq1,eq1,enr,so]
theorem zmm{M:Mc}(h:McOk M){ks:kF}(e:BV M ks=none){G:T}(sG:G.sh=true):FG [AJ M,.lst (ks.map T.int),G]=some (.exc "NoRoad"):=by
 have sm:=Bl h;have em:=An _ sm;have si:=BG ks;have ei:=BC ks;have e1:=V0 h e sG;unfold FG Jb;generalize ks.map T.int=KT at *
 simp![si,ei,sm,em,e1,sG,An _ sG]
theorem zml{M:Mc}(h:McOk M){ks:kF}{l:kI}(e:BV M ks=some l){G:T}(sG:G.sh=true)(hp:Ct [AJ M,G]=some (.exc "NoMark")):FG [AJ M,.lst (ks.map T.int),G]=some (.exc "NoMark"):=by
 have sm:=Bl h;have em:=An _ sm;have si:=BG ks;have ei:=BC ks;have e1:=VZ h e sG hp;unfold FG Jb;generalize ks.map T.int=KT at *
 simp![si,ei,sm,em,e1,sG,An _ sG]
abbrev Up:Stmt:=AI 80
def QS:AH:=
 (C4 (m2 Ap (AM (AM (AA 1) (AA 0)) (mC (.int 0))) (AA 2)) (m2 Ap (AM (AM (AA 1) (AA 0)) (mC (.int 4))) (mC (.str ""))))
def RW:AH:=
 (AA 0)
def Kp:AG:=
 (AF (AW (Bb 1 [7,2] (C7 (AB (m1 BL (AA 7)) AD)) (AE 0) QS RW) (AE 8))
 (AF (Ai (m2 Dl (AA 8) (Ay AD)) LV Af)
 (AF (Cf 3 (AM (AA 8) (m2 BE (AA 4) (m1 BL (AA 8)))))
 (AW (AM (AM (AA 7) (AM (AA 3) (m1 DZ (mC (.int 1))))) (mC (.int 1))) (AE 2)))))
def Pg:AG:=
 (AF (AW (AA 0) (BN 3 (AS (AE 5) (AS (AE 6) (AS (AE 7) BU)))))
 (AF (AW (mC (.int 0)) (AE 2))
 (AF (C0 3 (Ay AD))
 (AF (Bw (Bc (AA 1)) (AE 4) Kp)
 (AF (FT 3) (AN (CK (AB (AA 3) (AB (AA 2) AD)))))))))
def Mz:kL->Option Ru:=A5 2 9 Pg
abbrev Za:Fn:=⟨1,["_law_spec","_law_cells"],Mz⟩
abbrev zi0:Gm:=⟨["_law_spec","_law_cells","_law_room_here","_law_road_here","_law_cell","_law_watches","_law_rooms","_law_doors","_law_ways"],(AV Up).names,["_law_room_here","_law_doors"],0,[],["range","len"],[],["_law_road_here"],["raise_all"],false,[],[],[],Aa⟩
theorem zid:Ck zi0 Za Up Pg:={}
def Bm(ws:kE)(rs:List (Str×kL))(dd:List Sd):Mc:=⟨ws,rs,dd.map (Ea rs)⟩
structure SpK(ws:kE)(rs:List (Str×kL))(dd:List Sd):Prop where
 sp:SpOk ws rs dd
 mc:McOk (Bm ws rs dd)
 s1:Sh1 (Bm ws rs dd)
 z:∀d∈dd,Ii d.z
 w2:ws.length<=2
 g2:∀d∈dd,d.g.length<=2
 l2:∀r∈rs,r.2.length<=2
theorem zp4{ws:kE}{rs:List (Str×kL)}{dd:List Sd}{sz:Nat}(D:DrwOk ws rs dd sz):SpK ws rs dd:=by
 have rr:RsOk ws rs:=⟨D.r1,by have:=D.r4;omega,λr hr=>by
  have:=D.rn r hr;have:=D.sz;exact⟨(D.rn r hr).1,by omega,by omega⟩,D.rd,λr hr=>⟨(D.rl r hr).1,by have:=(D.rl r hr).2;omega⟩⟩
 have drk:∀d∈dd,DrOk ws (rs.map (·.1)) (Ea rs d):=λd hd=>by
  obtain⟨d1,d2,d3,d4,d5,d6,d7,d8⟩:=D.d d hd;refine⟨?_,?_,d3,by show d.g.length<=1000;omega,d5,d6,by show d.n.length<=100;omega,?_⟩
  .show(rs.getD d.b (Str.empty,[])).1∈_;rw[Ó,Â d1];exact Ĕ (Ô d1)
  .show(rs.getD d.e (Str.empty,[])).1∈_;rw[Ó,Â d2];exact Ĕ (Ô d2)
  .rcases d8 with e|e
   .exact .inl e
   .exact .inr (.inl e)
 have wl:=D.wl;have dl:=D.dl;refine⟨⟨rr,λd hd=>⟨(D.d d hd).1,(D.d d hd).2.1⟩,drk,D.dl⟩,⟨λx hx=>.inr (D.w x hx),D.wd,by show ws.length<=7;omega,rr,λd hd=>?_,by show(dd.map _).length<=200;rw[Á];omega⟩,⟨λr hr=>by have:=(D.rl r hr).2;omega,λd hd=>?_⟩,λd hd=>(D.d d hd).2.2.2.2.2.2.2,wl,λd hd=>(D.d d hd).2.2.2.1,λr hr=>(D.rl r hr).2⟩
 .obtain⟨d',hd',rfl⟩:=ß.mp hd;exact drk d' hd'
 .obtain⟨d',hd',rfl⟩:=ß.mp hd;have:=(D.d d' hd').2.2.2.1;show d'.g.length<=100
  omega
def CF(dd:List Sd)(r:Nat)(k:Int):Option Nat:=if 0<=k then (match dd[k.toNat]? with
 |some d=>if d.z=Str.empty/\d.b=r then some d.e else none
 |none=>none) else none
def C9(dd:List Sd):Nat->kF->Option Nat
 |r,[]=>some r|r,k::ks=>(CF dd r k).bind λe=>C9 dd e ks
theorem SS{dd:List Sd}:∀(ks:kF) (r:Nat) (js:kF),C9 dd r (ks++js)=(C9 dd r ks).bind λe=>C9 dd e js
 |[],r,js=>rfl|k::ks,r,js=>by
  show(CF dd r k).bind (λe=>C9 dd e (ks++js))=((CF dd r k).bind λe=>C9 dd e ks).bind _
  cases CF dd r k with
  |none=>rfl|some e=>exact SS ks e js
def BK(rs:List (Str×kL))(r:Nat):Str:=(rs.getD r (Str.empty,[])).1
theorem zkk{rs:List (Str×kL)}(nd:(rs.map (·.1)).Nodup){i j:Nat}(hi:i<rs.length)(hj:j<rs.length)(e:BK rs i=BK rs j):i=j:=by
 unfold BK at e;rw[Ó,Â hi,Ó,Â hj]at e;have e2:(rs.map (·.1))[i]'(by rw[Á];exact hi)=(rs.map (·.1))[j]'(by rw[Á];exact hj):=by rw[Ĭ,Ĭ];exact e
 exact(Ę nd).mp e2
theorem NR{ws:kE}{rs:List (Str×kL)}{dd:List Sd}(h:SpK ws rs dd){r:Nat}{k:Int}{e:Nat}(q:CF dd r k=some e):e<rs.length/\0<=k/\k<(dd.length:Int)/\∃d,dd[k.toNat]?=some d/\d.z=Str.empty/\d.b=r/\d.e=e:=by
 unfold CF at q;split at q
 .split at q
  .rename_i h0 _ d hd;split at q
   .rename_i h1;cases q;have:=(Í.mp hd).1;exact⟨(h.sp.b d (ï hd)).2,h0,by omega,d,hd,h1.1,h1.2,rfl⟩
   .cases q
  .cases q
 .cases q
theorem zmq{ws:kE}{rs:List (Str×kL)}{dd:List Sd}(h:SpK ws rs dd){r:Nat}(hr:r<rs.length)(k:Int):(Eo (Bm ws rs dd) (BK rs r) k).map (·.e)=(CF dd r k).map (BK rs):=by
 unfold Eo CF
 by_cases h0:0<=k
 .rw[if_pos h0,if_pos h0];show Option.map _ (match (dd.map (Ea rs))[k.toNat]? with|some d=>_|none=>_)=_
  rw[Ê];cases hd:dd[k.toNat]? with
  |none=>rfl|some d=>
   have hb:=h.sp.b d (ï hd);show Option.map (·.e) (if d.z=Str.empty/\BK rs d.b=BK rs r then some (Ea rs d) else none)=_
   by_cases h1:d.z=Str.empty/\d.b=r
   .rw[if_pos ⟨h1.1,by rw[h1.2]⟩]
    erw[if_pos h1]
    rfl
   .rw[if_neg λz=>h1 ⟨z.1,zkk h.sp.r.nd hb.1 hr z.2⟩]
    erw[if_neg h1]
    rfl
 .rw[if_neg h0,if_neg h0]
  rfl
theorem VS{ws:kE}{rs:List (Str×kL)}{dd:List Sd}(h:SpK ws rs dd):∀(ks:kF) {r:Nat},r<rs.length->(EX (Bm ws rs dd) (BK rs r) ks).map (λl=>(l.getLast?.map (·.e)).getD (BK rs r))=(C9 dd r ks).map (BK rs)
 |[],r,_=>rfl|k::ks,r,hr=>by
  rw[VU];show _=Option.map _ ((CF dd r k).bind λe=>C9 dd e ks)
  have e1:=zmq h hr k;cases q:CF dd r k with
  |none=>
   rw[q]at e1;cases q2:Eo (Bm ws rs dd) (BK rs r) k with
   |none=>rfl|some d=>rw[q2]at e1;cases e1
  |some e=>
   rw[q]at e1;cases q2:Eo (Bm ws rs dd) (BK rs r) k with
   |none=>rw[q2]at e1;cases e1|some d=>
    rw[q2]at e1;have ed:d.e=BK rs e:=Ý e1;have i:=VS h ks (NR h q).1;rw[<- ed]at i;erw[ī];rw[<- i,Option.map_map];refine congrFun (congrArg Option.map (funext λl=>?_)) _
    show((d::l).getLast?.map (·.e)).getD (BK rs r)=(l.getLast?.map (·.e)).getD d.e
    rw[List.getLast?_cons];cases l.getLast?<;>rfl
theorem VX{ws:kE}{rs:List (Str×kL)}{dd:List Sd}(h:SpK ws rs dd):FU (Bm ws rs dd)=BK rs 0:=by
 have h1:=h.sp.r.l1;unfold FU BK;show((rs.map (·.1))[0]?).getD _=_;rw[Ê,Ó,Â (by omega)]
 rfl
def Dt(dd:List Sd)(ks:kF):Option Nat:=if ks.length<=200 then C9 dd 0 ks else none
theorem OO{ws:kE}{rs:List (Str×kL)}{dd:List Sd}(h:SpK ws rs dd)(ks:kF):(BV (Bm ws rs dd) ks).map (Cr (Bm ws rs dd))=(Dt dd ks).map (BK rs):=by
 unfold BV Dt
 by_cases hl:ks.length<=200
 .rw[if_pos hl,if_pos hl,VX h,<- VS h ks (by have:=h.sp.r.l1;omega)]
  refine congrFun (congrArg Option.map (funext λl=>?_)) _
  unfold Cr;rw[VX h];cases l.getLast?<;>rfl
 .rw[if_neg hl,if_neg hl]
  rfl
theorem Kk{ws:kE}{rs:List (Str×kL)}{dd:List Sd}(h:SpK ws rs dd):∀{ks:kF} {r e:Nat},r<rs.length->C9 dd r ks=some e->e<rs.length
 |[],r,e,hr,q=>by cases q;exact hr|k::ks,r,e,hr,q=>by
  obtain⟨e1,h1,h2⟩:=Option.bind_eq_some_iff.mp q;exact Kk h (NR h h1).1 h2
theorem Zv:Dl (.lst []) (.lst [])=some (.bl true):=by ext
def EH(dd:List Sd)(r:Nat):kG:=(List.range dd.length).filter λk=>(CF dd r (k:Int)).isSome
theorem Td{dd:List Sd}{k:Nat}(hk:k<dd.length):AU (dd.map BD) (k:Int)=some (BD dd[k]):=Cs (by rw[Ê,Â hk];rfl)
theorem SU{dd:List Sd}{k r:Nat}(hk:k<dd.length):CF dd r (k:Int)=if dd[k].z=Str.empty/\dd[k].b=r then some dd[k].e else none:=by
 unfold CF;rw[if_pos (by omega),ò,Â hk]
theorem zj0{ws:kE}{rs:List (Str×kL)}{dd:List Sd}(h:SpK ws rs dd)(r:Nat){x:kH}:CB (AE 0) QS RW (BQ 0 dd.length) [x,some (.lst (dd.map BD)),some (.int (r:Int))]=some ((EH dd r).map λk:Nat=>T.int (k:Int)):=by
 rw[show BQ 0 dd.length=mT dd.length λi=>.int (i:Int) from Ca]
 refine QC (f:=λk:Nat=>T.int (k:Int)) (p:=λk=>(CF dd r (k:Int)).isSome) λk hk=>?_
 have hk':=ü.mp hk;have sd:=h.sp.sd;have ea:=Td hk';have gs:Ad dd[k].g=true:=(h.sp.d _ (Ô hk')).g.sh
 have tz:PyData.strOk dd[k].z=true:=by
  rcases h.z _ (Ô hk') with e|e<;>rw[e]<;>decide +kernel
 have ez:=Ia tz MX
 have a4:∀{x y z v w:T} {l:kL},AU (x::y::z::v::w::l) (4:Int)=some w:=by
  intro x y z v w l;have:AU (x::y::z::v::w::l) ((4:Nat):Int)=some w:=Cs rfl;exact this
 rw[SU hk'];generalize dd[k]=d at *;generalize dd.map BD=DT at *;unfold QS RW;refine⟨⟨false,?_⟩,by simp![]⟩
 by_cases h1:d.b=r
 .have e1:((d.b:Int) == (r:Int))=true:=by rw[h1];simp
  by_cases h2:d.z=Str.empty
  .rw[Ì (show d.z=Str.ofString "" from h2)]at ez;rw[if_pos ⟨h2,h1⟩]
   simp![sd,ea,C8,e1,a4,ez,gs,A3,A7,AO _ gs,Ū]
  .rw[Ü (show ¬ d.z=Str.ofString "" from h2)]at ez;rw[if_neg λz=>h2 z.1]
   simp![sd,ea,C8,e1,a4,ez,gs,A3,A7,AO _ gs,Option.isSome_none]
 .have e1:((d.b:Int) == (r:Int))=false:=by rw[Ķ];omega
  rw[if_neg λz=>h1 z.2]
  simp![sd,ea,C8,e1,a4,gs,A3,A7,AO _ gs,Option.isSome_none]
theorem fg_bk{b:T->AK->Option AK}{body:AG}{t:T}{ts:kL}{τ τ1 τ2:AK}(h1:b t τ=some τ1)(h2:body τ1=some (.bk τ2)):As b body (t::ts) τ=some (.nx τ2):=by
 conv=>lhs;unfold As
 rw[h1];erw[h2]
theorem YO{ws:kE}{rs:List (Str×kL)}{dd:List Sd}(h:SpK ws rs dd){a0 a1 a5 a6:kH}:∀(cs:kF) (ks:kF) (r:Nat) (x4 x8:kH),C9 dd 0 ks=some r->ks.length+cs.length<=1000 ->
  ∃(ks':kF) (r':Nat) (y4 y8:kH),As (AE 4) Kp (cs.map T.int) [a0,a1,some (.int (r:Int)),some (.own (ks.map T.int)),x4,a5,a6,some (.lst (dd.map BD)),x8]=some (.nx [a0,a1,some (.int (r':Int)),some (.own (ks'.map T.int)),y4,a5,a6,some (.lst (dd.map BD)),y8])/\C9 dd 0 ks'=some r'/\ks'.length<=ks.length+cs.length
 |[],ks,r,x4,x8,hk,_=>⟨ks,r,x4,x8,rfl,hk,Ç _⟩|c::cs,ks,r,x4,x8,hk,hl=>by
  rw[Ø]at hl;have lw:=zj0 h r (x:=none);have sd:=h.sp.sd;have ed:=AO _ sd;have dl:=h.sp.l;have ok:Bx (dd.length:Int)=true:=Er (by omega)
  have ll:(BQ 0 dd.length).length<=100000:=by unfold BQ;rw[Á,ė];omega
  have el:(dd.map BD).length=dd.length:=Á ..;rw[Ñ];cases hw:EH dd r with
  |nil=>
   rw[hw]at lw;refine⟨ks,r,some (.int c),some (.lst []),fg_bk (τ1:=[a0,a1,some (.int (r:Int)),some (.own (ks.map T.int)),some (.int c),a5,a6,some (.lst (dd.map BD)),x8]) (by simp![]) ?_,hk,by omega⟩
   rw[İ]at lw;have eq:=Zv;generalize dd.map BD=DT at *;generalize ks.map T.int=KT at *;unfold Kp
   simp![-Dl,sd,ed,el,ok,ò,lw,ll,eq]
  |cons k0 kr=>
   obtain⟨k,hk1,hk2⟩:=Xx (EH dd r) (by rw[hw];simp) c
   have hkf:=Į.mp hk1;have hkw:k<dd.length:=ü.mp hkf.1;obtain⟨e,he⟩:=Ļ.mp hkf.2;have hd:=he.symm.trans (SU (r:=r) hkw)
   have hee:dd[k].e=e:=by
    split at hd
    .exact(Ý hd).symm
    .cases hd
   obtain⟨ks',r',y4,y8,i1,i2,i3⟩:=YO h cs (ks++[(k:Int)]) e (some (.int c)) (some (.lst ((EH dd r).map λk:Nat=>T.int (k:Int)))) (by
    rw[SS,hk];show(CF dd r (k:Int)).bind _=_;rw[he]
    rfl) (by rw[Ö,Ĥ];omega)
   refine⟨ks',r',y4,y8,(IY (τ1:=[a0,a1,some (.int (r:Int)),some (.own (ks.map T.int)),some (.int c),a5,a6,some (.lst (dd.map BD)),x8]) (by simp![]) ?_).trans i1,i2,by rw[Ö,Ĥ]at i3;rw[Ø];omega⟩
   have a1':AU ((EH dd r).map λk:Nat=>T.int (k:Int)) (c.fmod ((EH dd r).length:Int))=some (.int (k:Int)):=Ic (λk:Nat=>T.int (k:Int)) hk2
   have sw:Ad ((EH dd r).map λk:Nat=>T.int (k:Int))=true:=JP λ_ _=>rfl
   have esw:=AO _ sw;have nl:((EH dd r).length:Int)≠0:=zob (by rw[hw];simp)
   have ewl:((EH dd r).map λk:Nat=>T.int (k:Int)).length=(EH dd r).length:=Á ..
   have eq:Dl (.lst ((EH dd r).map λk:Nat=>T.int (k:Int))) (.lst [])=some (.bl false):=by rw[hw];rfl
   have la:(ks.map T.int).length<100000:=by rw[Á];omega
   have al:AU (ks.map T.int++[.int (k:Int)]) (-1)=some (.int (k:Int)):=Ra (by simp)
   have ea:=Td hkw;have gs:Ad dd[k].g=true:=(h.sp.d _ (Ô hkw)).g.sh;have esn:(.int (dd[k].e:Int):T)=.int (e:Int):=by rw[hee]
   rw[á];have sk:=BG ks;generalize dd[k]=d at *;generalize ((EH dd r).map λk:Nat=>T.int (k:Int))=WT at *
   generalize dd.map BD=DT at *;generalize ks.map T.int=KT at *;generalize (EH dd r).length=wl at *;unfold Kp
   simp![-Dl,sd,ed,el,ok,ò,lw,ll,eq,sw,esw,ewl,nl,a1',la,al,ea,gs,A3,esn,sk]
theorem zo8{ws:kE}{rs:List (Str×kL)}{dd:List Sd}(h:SpK ws rs dd){cs:kF}(hl:cs.length<=100):∃(ks:kF) (r:Nat),Mz [Bn ws rs dd,.lst (cs.map T.int)]=some (.ok (.tup [.lst (ks.map T.int),.int (r:Int)]))/\C9 dd 0 ks=some r/\ks.length<=cs.length:=by
 have sr:=G1 h.sp.r;have er:=AO _ sr;have sd:=h.sp.sd;have ed:=AO _ sd;have sc:=BG cs;have ec:=BC cs;obtain⟨ks,r,y4,y8,e,e2,e3⟩:=YO h (a0:=some (Bn ws rs dd)) (a1:=some (.lst (cs.map T.int))) (a5:=some (.lst (ws.map T.str))) (a6:=some (Cw rs)) cs [] 0 none none rfl (by erw[õ];omega)
 refine⟨ks,r,?_,e2,by simpa using e3⟩
 have sk:=BG ks;have ek:=BC ks;rw[İ,show((0:Nat):Int)=0 from rfl]at e;generalize cs.map T.int=CT at *;generalize ks.map T.int=KT at *;unfold Mz Pg
 simp![A7,A3,sr,er,sd,ed,sc,ec,e,sk,ek]
abbrev Uo:Stmt:=AI 82
def Ko:AG:=
 (AF (Ai (B9 (BH (Eu E7 (CN λi j=>decide (i<j)) (mC (.int 0)) (AA 3) (m1 BL (AA 6)))) (B9 (m2 Bk (AM (AM (AA 6) (AA 3)) (mC (.int 0))) (AA 2)) (m2 Bk (AM (AM (AA 6) (AA 3)) (mC (.int 4))) (mC (.str ""))))) (AN (mC .non)) Af)
 (AW (AM (AM (AA 6) (AA 3)) (mC (.int 1))) (AE 2)))
def Pf:AG:=
 (AF (AW (AA 0) (BN 3 (AS (AE 4) (AS (AE 5) (AS (AE 6) BU)))))
 (AF (AW (mC (.int 0)) (AE 2))
 (AF (Bw (Bc (AA 1)) (AE 3) Ko)
 (AF (Ai (m2 (CN λi j=>decide (j<i)) (m1 BL (AA 1)) (mC (.int 200))) (AN (mC .non)) Af)
 (AN (AM (AM (AA 5) (AA 2)) (mC (.int 0))))))))
def Iv:kL->Option Ru:=A5 2 7 Pf
abbrev Z9:Fn:=⟨1,["_law_spec","_law_road_here"],Iv⟩
abbrev zhz:Gm:=⟨["_law_spec","_law_road_here","_law_room_here","_law_number_here","_law_watches","_law_rooms","_law_doors"],(AV Uo).names,[],0,[],["len"],[],[],["raise_all"],false,[],[],[],Aa⟩
theorem zic:Ck zhz Z9 Uo Pf:={}
def Ly(rs:List (Str×kL)):Option Nat->T
 |some r=>.str (BK rs r)|none=>.non
theorem bS{x y z v w:T}{l:kL}:AU (x::y::z::v::w::l) (4:Int)=some w:=by
 have:AU (x::y::z::v::w::l) ((4:Nat):Int)=some w:=Cs rfl;exact this
theorem fg_rt{b:T->AK->Option AK}{body:AG}{t u:T}{ts:kL}{τ τ1:AK}(h1:b t τ=some τ1)(h2:body τ1=some (.rt u)):As b body (t::ts) τ=some (.rt u):=by
 conv=>lhs;unfold As
 rw[h1];erw[h2]
theorem zhi{ws:kE}{rs:List (Str×kL)}{dd:List Sd}(h:SpK ws rs dd)(a0 a1 a4 a5:kH)(r:Nat)(k:Int):Ko [a0,a1,some (.int (r:Int)),some (.int k),a4,a5,some (.lst (dd.map BD))]=some (match CF dd r k with
  |some e=>.nx [a0,a1,some (.int (e:Int)),some (.int k),a4,a5,some (.lst (dd.map BD))]|none=>.rt .non):=by
 have sd:=h.sp.sd;have ed:=AO _ sd;have el:(dd.map BD).length=dd.length:=Á ..;unfold Ko CF
 by_cases h0:0<=k
 .rw[if_pos h0];have d1:decide (0<=k)=true:=Ì h0
  by_cases h1:k<(dd.length:Int)
  .have hk:k.toNat<dd.length:=by omega
   have hd:=Â hk;have ea:AU (dd.map BD) k=some (BD dd[k.toNat]):=Ic BD (Gi h0 hd);have d2:decide (k<(dd.length:Int))=true:=Ì h1;have gs:Ad dd[k.toNat].g=true:=(h.sp.d _ (Ô hk)).g.sh
   have tz:PyData.strOk dd[k.toNat].z=true:=by
    rcases h.z _ (Ô hk) with e|e<;>rw[e]<;>decide +kernel
   have ez:=J4 tz MX;rw[hd];generalize dd[k.toNat]=d at *;generalize dd.map BD=DT at *
   by_cases h2:d.b=r
   .have e1:(!((d.b:Int) == (r:Int)))=false:=by rw[h2];simp
    by_cases h3:d.z=Str.empty
    .rw[Ì (show d.z=Str.ofString "" from h3)]at ez;erw[if_pos (And.intro h3 h2)]
     simp![sd,ed,el,d1,d2,ea,Es,e1,bS,ez,gs,A3]
    .rw[Ü (show ¬ d.z=Str.ofString "" from h3)]at ez;erw[if_neg (show ¬ (d.z=Str.empty/\d.b=r) from λz=>h3 z.1)]
     simp![sd,ed,el,d1,d2,ea,Es,e1,bS,ez,gs,A3]
   .have e1:(!((d.b:Int) == (r:Int)))=true:=by
     have:((d.b:Int) == (r:Int))=false:=by rw[Ķ];omega
     rw[this]
     rfl
    erw[if_neg (show ¬ (d.z=Str.empty/\d.b=r) from λz=>h2 z.2)]
    simp![sd,ed,el,d1,d2,ea,Es,e1,gs,A3]
  .have hd:dd[k.toNat]?=none:=Č (by omega)
   have d2:decide (k<(dd.length:Int))=false:=Ü h1;rw[hd];generalize dd.map BD=DT at *
   simp![sd,ed,el,d1,d2]
 .rw[if_neg h0];have d1:decide (0<=k)=false:=Ü h0;generalize dd.map BD=DT at *
  simp![sd,ed,el,d1]
theorem YM{ws:kE}{rs:List (Str×kL)}{dd:List Sd}(h:SpK ws rs dd){a0 a1 a4 a5:kH}:∀(ks:kF) (r:Nat) (x3:kH),∃y3,As (AE 3) Ko (ks.map T.int) [a0,a1,some (.int (r:Int)),x3,a4,a5,some (.lst (dd.map BD))]=some (match C9 dd r ks with
  |some e=>.nx [a0,a1,some (.int (e:Int)),y3,a4,a5,some (.lst (dd.map BD))]|none=>.rt .non)
 |[],r,x3=>⟨x3,rfl⟩|k::ks,r,x3=>by
  have b:=zhi h a0 a1 a4 a5 r k;have ew:C9 dd r (k::ks)=(CF dd r k).bind λe=>C9 dd e ks:=rfl
  rw[ew];cases e:CF dd r k with
  |none=>rw[e]at b;exact⟨none,fg_rt (by simp![]) b⟩|some e'=>rw[e]at b;obtain⟨y3,i⟩:=YM h ks e' (some (.int k));exact⟨y3,(IY (by simp![]) b).trans i⟩
theorem zo7{ws:kE}{rs:List (Str×kL)}{dd:List Sd}(h:SpK ws rs dd)(ks:kF):Iv [Bn ws rs dd,.lst (ks.map T.int)]=some (.ok (Ly rs (Dt dd ks))):=by
 have sr:=G1 h.sp.r;have er:=AO _ sr;have sd:=h.sp.sd;have ed:=AO _ sd;have sk:=BG ks;have ek:=BC ks;have el:(ks.map T.int).length=ks.length:=Á ..;obtain⟨y3,e⟩:=YM h (a0:=some (Bn ws rs dd)) (a1:=some (.lst (ks.map T.int))) (a4:=some (.lst (ws.map T.str))) (a5:=some (Cw rs)) ks 0 none;rw[show((0:Nat):Int)=0 from rfl]at e;unfold Dt Iv Pf;cases hw:C9 dd 0 ks with
 |none=>
  rw[hw]at e;have:(if ks.length<=200 then (none:Option Nat) else none)=none:=by split<;>rfl
  rw[this];generalize ks.map T.int=KT at *
  simp![A7,A3,sr,er,sd,ed,sk,ek,e,Ly]
 |some r=>
  rw[hw]at e;have hr:=Kk h (r:=0) (by have:=h.sp.r.l1;omega) hw
  have ra:=JU hr
  by_cases hl:ks.length<=200
  .rw[if_pos hl];have d1:decide ((200:Int)<(ks.length:Int))=false:=Ü (by omega)
   have gl:Ad (rs.getD r (Str.empty,[])).2=true:=by
    rw[Ó,Â hr];exact(h.sp.r.lk _ (Ô hr)).1.sh
   generalize ks.map T.int=KT at *
   simp![A7,A3,sr,er,sd,ed,sk,ek,e,el,d1,ra,gl,Ly,BK]
  .rw[if_neg hl];have d1:decide ((200:Int)<(ks.length:Int))=true:=Ì (by omega)
   generalize ks.map T.int=KT at *
   simp![A7,A3,sr,er,sd,ed,sk,ek,e,el,d1,Ly]
abbrev Um:Stmt:=AI 81
def Lw:AG:=
 (AF (AW (AA 0) (BN 3 (AS (AE 6) (AS (AE 7) (AS (AE 8) BU)))))
 (AF (AW (m2 Au (HG (AB (m1 BL (AA 8)) AD)) (Ay (Ao (m1 BL (AA 8)) (Ao (m1 DZ (mC (.int 1))) (Ao (m2 Au (m1 BL (AA 8)) (mC (.int 200))) AD))))) (AE 3))
 (AF (AW (AM (AA 3) (m2 BE (m2 Bi (AA 2) (mC (.int 4))) (m1 BL (AA 3)))) (AE 4))
 (AF (AW (m2 BE (m2 Bi (AA 2) (mC (.int 64))) (m2 Au (m1 BL (AA 1)) (mC (.int 1)))) (AE 5))
 (AF (Ai (m2 Ap (m2 Bi (m2 BE (AA 2) (mC (.int 64))) (mC (.int 4))) (mC (.int 15))) (AN (m2 Au (m2 B0 (m1 CA (AA 1)) (mC (.int 201))) (m2 B0 (Ay (Ao (AA 4) AD)) (mC (.int 201))))) Af)
 (AN (m2 Au (m2 Au (Cg (EM (AA 1) none (some (AA 5))) (E5 (AA 1) none (some (AA 5)))) (Ay (Ao (AA 4) AD))) (Cg (EM (AA 1) (some (m2 Au (AA 5) (m2 BE (AA 2) (mC (.int 2))))) none) (E5 (AA 1) (some (m2 Au (AA 5) (m2 BE (AA 2) (mC (.int 2))))) none)))))))))
def Kb:kL->Option Ru:=A5 3 9 Lw
abbrev Z8:Fn:=⟨1,["_law_spec","_law_road_here","_law_cell"],Kb⟩
abbrev zeg:Gm:=⟨["_law_spec","_law_road_here","_law_cell","_law_some","_law_bad","_law_at","_law_watches","_law_rooms","_law_doors"],(AV Um).names,[],0,[],["list","range","len"],[],[],["raise_all"],false,[],[],[],Aa⟩
theorem zeu:Ck zeg Z8 Um Lw:={}
theorem zi8{α:Type}(l:List α)(k:Nat):BY l (some (k:Int)) none=l.drop k:=by
 unfold BY;rw[HT.sIx_none,HT.sIx_nat]
 by_cases h:k<=l.length
 .rw[Nat.min_eq_left h];refine š ?_;rw[ĭ]
  omega
 .rw[Nat.min_eq_right (by omega),List.drop_eq_nil_of_le (Ç _),List.drop_eq_nil_of_le (by omega),List.take_nil]
theorem zi7{α:Type}(l:List α)(k:Nat):BY l none (some (k:Int))=l.take k:=by
 unfold BY;rw[HT.sIx_none,HT.sIx_nat,List.drop_zero,Nat.sub_zero]
 by_cases h:k<=l.length
 .rw[Nat.min_eq_left h]
 .rw[Nat.min_eq_right (by omega),š (Ç _),š (by omega)]
theorem Lm{o:Bool}(ks:kF)(n:Nat)(h:ks.length * n<=100000)(hn:n<=1000):B0 (.nd o .lst (ks.map T.int)) (.int (n:Int))=some (.own ((List.replicate n ks).flatten.map T.int)):=by
 have k1:HJ (n:Int)=true/\(ks.map T.int).length * n<=Az:=⟨QJ (by omega),by rw[Á];unfold Az;omega⟩
 show(if HJ (n:Int)=true/\(ks.map T.int).length * ((n:Int)).toNat<=Az then some (T.own (List.replicate ((n:Int)).toNat (ks.map T.int)).flatten) else none)=_
 rw[ò,if_pos k1,List.map_flatten,ĩ]
theorem zo6{ws:kE}{rs:List (Str×kL)}{dd:List Sd}(h:SpK ws rs dd){ks:kF}(hl:ks.length<=10)(c:Int):∃js:kF,Kb [Bn ws rs dd,.lst (ks.map T.int),.int c]=some (.ok (.own (js.map T.int)))/\(js.length<13\/200<js.length)/\js.length<=3000:=by
 have sr:=G1 h.sp.r;have er:=AO _ sr;have sd:=h.sp.sd;have ed:=AO _ sd;have sk:=BG ks;have ek:=BC ks;have dl:=h.sp.l;have el:(dd.map BD).length=dd.length:=Á ..;have ekl:(ks.map T.int).length=ks.length:=Á ..;obtain⟨so,hso⟩:∃so:kF,so=(List.range dd.length).map (λi:Nat=>(i:Int))++[(dd.length:Int),-1,(dd.length:Int)+200]:=⟨_,rfl⟩
 have hsl:so.length=dd.length+3:=by rw[hso,Ö,Á,ė];rfl
 have eso:BQ 0 dd.length++[.int (dd.length:Int),.int (-1),.int ((dd.length:Int)+200)]=so.map T.int:=by
  rw[hso,á,ą];rw[show BQ 0 dd.length=mT dd.length λi=>.int (i:Int) from Ca]
  rfl
 obtain⟨bd,_,hbd⟩:=Xx so (by intro z;rw[z]at hsl;simp at hsl) (c.fdiv 4)
 have hb:=Ic T.int hbd
 obtain⟨a,ha,ea⟩:∃a:Nat,a<=ks.length/\(c.fdiv 64).fmod ((ks.length:Int)+1)=(a:Int):=by
  refine⟨((c.fdiv 64).fmod ((ks.length:Int)+1)).toNat,?_⟩;have h0:=ċ (c.fdiv 64) (show(0:Int)<(ks.length:Int)+1 by omega)
  have h1:=Ė (c.fdiv 64) (show(0:Int)<(ks.length:Int)+1 by omega)
  omega
 obtain⟨m,hm,em⟩:∃m:Nat,m<=1/\c.fmod 2=(m:Int):=by
  refine⟨(c.fmod 2).toNat,?_⟩;have h0:=ċ c (show(0:Int)<2 by omega)
  have h1:=Ė c (show(0:Int)<2 by omega)
  omega
 have ok:Bx (dd.length:Int)=true:=Er (by omega)
 have s4:Bh 4=true:=Br (by decide) (by decide)
 have s64':Bh 64=true:=Br (by decide) (by decide)
 have r1:(BQ 0 dd.length).length+3<=100000:=by unfold BQ;rw[Á,ė];omega
 have lr:dd.length<=100000:=by omega
 have sR:BJ (BQ 0 dd.length)=BQ 0 dd.length:=by
  rw[show BQ 0 dd.length=mT dd.length λi=>.int (i:Int) from Ca]
  exact AO _ (GQ _)
 have sso:=BG so;have eso2:=BC so;have esl:((so.map T.int).length:Int)=(so.length:Int):=by rw[Á]
 have nso:((so.length:Int)=0)=False:=ù (by omega)
 have nk:(((ks.length:Int)+1)=0)=False:=ù (by omega)
 by_cases h15:((c.fmod 64).fdiv 4 == 15)=true
 .refine⟨(List.replicate 201 ks).flatten++(List.replicate 201 [bd]).flatten,?_,.inr ?_,?_⟩
  .have m1:=Lm (o:=false) ks 201 (by omega) (by omega)
   have m2:B0 (.nd false .lst [.int bd]) (.int ((201:Nat):Int))=some (.own ((List.replicate 201 [bd]).flatten.map T.int)):=Lm (o:=false) [bd] 201 (by simp) (by omega)
   rw[show((201:Nat):Int)=201 from rfl]at m1 m2
   have l1:((List.replicate 201 ks).flatten.map T.int).length+((List.replicate 201 [bd]).flatten.map T.int).length<=100000:=by
    rw[Á,Á,ĕ,ĕ,ĩ,ĩ,Ľ,Ľ];erw[Ø,õ]
    omega
   have t1:=BC (List.replicate 201 ks).flatten;have u1:=BC (List.replicate 201 [bd]).flatten;rw[á];generalize (List.replicate 201 ks).flatten.map T.int=TT at *;generalize (List.replicate 201 [bd]).flatten.map T.int=UT at *;generalize so.map T.int=SO at *;generalize so.length=sl at *;have lk:(ks.map T.int).length<=100000:=by omega
   generalize ks.map T.int=KT at *;unfold Kb Lw
   simp![-B0,-List.replicate,A7,A3,sr,er,sd,ed,sk,ek,el,ok,HG,ò,r1,lr,sR,eso,sso,eso2,esl,s4,nso,hb,s64',ekl,nk,ea,h15,C8,m1,m2,l1,t1,u1,lk]
  .rw[Ö,ĕ,ĕ];simp<;>omega
  .rw[Ö,ĕ,ĕ,ĩ,ĩ,Ľ,Ľ];erw[Ø,õ]
   omega
 .have h15':((c.fmod 64).fdiv 4 == 15)=false:=by simpa using h15
  refine⟨ks.take a++[bd]++ks.drop (a+m),?_,.inl ?_,?_⟩
  .have ct:BY (ks.map T.int) none (some (a:Int))=(ks.take a).map T.int:=by rw[M1,zi7]
   have cd:BY (ks.map T.int) (some ((a:Int)+(m:Int))) none=(ks.drop (a+m)).map T.int:=by
    rw[show(a:Int)+(m:Int)=((a+m:Nat):Int) by omega,M1,zi8]
   rw[á,á];have l1:((ks.take a).map T.int).length+1<=100000:=by rw[Á,ó];omega
   have l2:((ks.take a).map T.int++[T.int bd]).length+((ks.drop (a+m)).map T.int).length<=100000:=by rw[Ö,Á,ó,Á,ĭ];simp;omega
   have t1:=BC (ks.take a)
   have t3:BJ ((ks.take a).map T.int++[T.int bd])=(ks.take a).map T.int++[T.int bd]:=by
    have:=BC (ks.take a++[bd])
    rwa[á]at this
   have t2:=BG (ks.take a);have u1:=BC (ks.drop (a+m));have u2:=BG (ks.drop (a+m));generalize (ks.take a).map T.int=TT at *;generalize (ks.drop (a+m)).map T.int=UT at *;generalize so.map T.int=SO at *;generalize so.length=sl at *;generalize ks.map T.int=KT at *;unfold Kb Lw
   simp![A7,A3,sr,er,sd,ed,sk,ek,el,ok,HG,ò,r1,lr,sR,eso,sso,eso2,esl,s4,nso,hb,s64',ekl,nk,ea,h15',C8,ct,cd,em,l1,l2,t1,t2,t3,u1,u2]
  .rw[Ö,Ö,ó,ĭ];simp<;>omega
  .rw[Ö,Ö,ó,ĭ];simp<;>omega
abbrev Uy:Stmt:=AI 83
def Pn:AG:=
 (AF (Ai (m2 Ap (AA 0) (mC (.int 0))) (AN (AL Dp (AB (AA 1) (AB (AA 2) AD)))) Af)
 (AF (Ai (m2 Ap (AA 0) (mC (.int 1))) (AN (AL FG (AB (AA 1) (AB (AA 2) (AB (AA 3) AD))))) Af)
 (AF (Ai (m2 Ap (AA 0) (mC (.int 2))) (AN (AL HZ (AB (AA 1) (AB (AA 2) (AB (AA 3) AD))))) Af)
 (AF (Ai (m2 Ap (AA 0) (mC (.int 3))) (AN (AL FE (AB (AA 1) (AB (AA 2) (AB (AA 3) AD))))) Af)
 (AN (AL HY (AB (AA 1) (AB (AA 2) (AB (AA 3) (AB (CK (AB (mC (.int 1)) (AB (mC (.int 3)) AD))) AD))))))))))
def FJ:kL->Option Ru:=A5 4 4 Pn
abbrev Zi:Fn:=⟨11,["_law_which","_law_machine_here","_law_road_here","_law_guard_here"],FJ⟩
abbrev zfq:Gm:=⟨["_law_which","_law_machine_here","_law_road_here","_law_guard_here"],(AV Uy).names,[],10,[("room_of",Q7),("road_zone",ZE),("run_of",ZC),("soonest",ZA),("soonest_run",Yz)],[],[],[],["raise_all"],false,[],[],[],Aa⟩
theorem zg2:Ck zfq Zi Uy Pn:={}
theorem MC{M:Mc}(h:McOk M)(js:kF){G:T}(sG:G.sh=true){w:Nat}(hw:w<5):FJ [.int (w:Int),AJ M,.lst (js.map T.int),G]=(match w with
  |0=>Dp [AJ M,.lst (js.map T.int)]|1=>FG [AJ M,.lst (js.map T.int),G]|2=>HZ [AJ M,.lst (js.map T.int),G]|3=>FE [AJ M,.lst (js.map T.int),G]|_=>HY [AJ M,.lst (js.map T.int),G,fr 1 3]):=by
 have sm:=Bl h;have em:=An _ sm;have si:=BG js;have ei:=BC js;have eG:=An _ sG;have z0:((0:Nat):Int)=0:=rfl;have z1:((1:Nat):Int)=1:=rfl;have z2:((2:Nat):Int)=2:=rfl;have z3:((3:Nat):Int)=3:=rfl;have z4:((4:Nat):Int)=4:=rfl;generalize js.map T.int=JT at *;have:w=0\/w=1\/w=2\/w=3\/w=4:=by omega
 unfold FJ Pn
 rcases this with rfl|rfl|rfl|rfl|rfl
 .show _=Dp [AJ M,.lst JT];generalize e:Dp [AJ M,.lst JT]=r
  rcases r with _|⟨t⟩|⟨c⟩
  all_goals simp![si,ei,sm,em,e,sG,eG,z0,C8]
 .show _=FG [AJ M,.lst JT,G];generalize e:FG [AJ M,.lst JT,G]=r
  rcases r with _|⟨t⟩|⟨c⟩
  all_goals simp![si,ei,sm,em,e,sG,eG,z1,C8]
 .show _=HZ [AJ M,.lst JT,G];generalize e:HZ [AJ M,.lst JT,G]=r
  rcases r with _|⟨t⟩|⟨c⟩
  all_goals simp![si,ei,sm,em,e,sG,eG,z2,C8]
 .show _=FE [AJ M,.lst JT,G];generalize e:FE [AJ M,.lst JT,G]=r
  rcases r with _|⟨t⟩|⟨c⟩
  all_goals simp![si,ei,sm,em,e,sG,eG,z3,C8]
 .show _=HY [AJ M,.lst JT,G,fr 1 3];generalize e:HY [AJ M,.lst JT,G,fr 1 3]=r
  rcases r with _|⟨t⟩|⟨c⟩
  all_goals simp![si,ei,sm,em,e,sG,eG,z4,C8]
theorem QD{M:Mc}(h:McOk M){js:kF}(e:BV M js=none){G:T}(sG:G.sh=true){w:Nat}(hw:w<5):FJ [.int (w:Int),AJ M,.lst (js.map T.int),G]=some (.exc "NoRoad"):=by
 rw[MC h js sG hw];have:w=0\/w=1\/w=2\/w=3\/w=4:=by omega
 rcases this with rfl|rfl|rfl|rfl|rfl
 .have:=L6 h js;rw[e]at this;exact this
 .exact zmm h e sG
 .exact(OJ h sG).trans (VM h e sG 1)
 .exact zm5 h e sG
 .exact(Np h sG 1 3).trans (VM h e sG 3)
theorem zky{M:Mc}(h:McOk M){js:kF}{l:kI}(e:BV M js=some l){G:T}(sG:G.sh=true)(hp:Ct [AJ M,G]=some (.exc "NoMark")){w:Nat}(hw:w<5)(h0:0<w):FJ [.int (w:Int),AJ M,.lst (js.map T.int),G]=some (.exc "NoMark"):=by
 rw[MC h js sG hw];have:w=1\/w=2\/w=3\/w=4:=by omega
 rcases this with rfl|rfl|rfl|rfl
 .exact zml h e sG hp
 .exact(OJ h sG).trans (VL h e sG hp 1)
 .exact zm4 h e sG hp
 .exact(Np h sG 1 3).trans (VL h e sG hp 3)
theorem las_0{M:Mc}(h:McOk M){js:kF}{l:kI}(e:BV M js=some l){G:T}(sG:G.sh=true):∃t,FJ [.int ((0:Nat):Int),AJ M,.lst (js.map T.int),G]=some (.ok t):=by
 rw[MC h js sG (by decide)]
 have:=L6 h js;rw[e]at this;exact⟨_,this⟩
theorem zoh{M:Mc}(h:McOk M)(s:Sh1 M){js:kF}{l:kI}(e:BV M js=some l){g:kL}(hg:BZ M.ws Bq g)(gl:g.length<=100){w:Nat}(hw:w<5):∃t,FJ [.int (w:Int),AJ M,.lst (js.map T.int),.lst g]=some (.ok t):=by
 have sG:(T.lst g).sh=true:=by
  show((!false) && Ad g)=true;rw[hg.sh]
  rfl
 rw[MC h js sG hw];have:w=0\/w=1\/w=2\/w=3\/w=4:=by omega
 rcases this with rfl|rfl|rfl|rfl|rfl
 .have:=L6 h js;rw[e]at this;exact⟨_,this⟩
 .have:=rz_ok h s js hg gl;rw[e]at this;exact⟨_,this⟩
 .have:=VJ h s js hg gl (b:=1) (by decide) (by decide)
  rw[e]at this;exact⟨_,(OJ h sG).trans this⟩
 .have:=sn_ok h s js hg gl;rw[e]at this;exact⟨_,this⟩
 .have:=VJ h s js hg gl (b:=3) (by decide) (by decide)
  rw[e]at this;exact⟨_,(Np h sG 1 3).trans this⟩
abbrev Uq:Stmt:=AI 84
def Je:AG:=
 (AF (AW (mC (.str "none")) (AE 4))
 (AF (AW (mC (.bl true)) (AE 5))
 (AF (GV 6 6 FN GK (El (AL FJ (AB (AA 0) (AB (AA 1) (AB (AA 2) (AB (AA 3) AD)))))) (AF (AW (mC (.str "road")) (AE 4)) (AF (AW (C4 (m1 (Gd KW) (AA 6)) (C4 (m1 (Gd R7) (AA 6)) (BH (m1 (HL R9 KY) (AA 6))))) (AE 5)) Af)) (AF (AW (mC (.str "mark")) (AE 4)) (AF (AW (C4 (m1 (Gd KW) (AA 6)) (BH (m1 (HL R8 KY) (AA 6)))) (AE 5)) Af)))
 (AF (Ai (AA 5) (AN (AA 4)) Af)
 (AN (mC (.str "?")))))))
def Eg:kL->Option Ru:=A5 4 7 Je
abbrev Zb:Fn:=⟨12,["_law_which","_law_machine_here","_law_road_here","_law_guard_here"],Eg⟩
abbrev zda:Gx:={ Aa with xs:=[("NoRoad",FN)],sb:=[("WalkError",KW),("NoMark",R9),("NoRun",KY),("NoRoad",R8)],sv:=[("ValueError",R7)],x2:=[("NoRoad","NoMark",GK)] }
abbrev zdh:Gm:=⟨["_law_which","_law_machine_here","_law_road_here","_law_guard_here","_law_found","_law_good","e"],(AV Uq).names,[],11,[("_law_asked",Zi)],["isinstance"],[],[],["raise_all"],false,[],[],[],zda⟩
theorem zds:Ck zdh Zb Uq Je:={}
theorem YN{M:Mc}(h:McOk M){js:kF}{G:T}(sG:G.sh=true){w:Nat}{t:T}(e:FJ [.int (w:Int),AJ M,.lst (js.map T.int),G]=some (.ok t)):Eg [.int (w:Int),AJ M,.lst (js.map T.int),G]=some (.ok (.str "none")):=by
 have sm:=Bl h;have em:=An _ sm;have si:=BG js;have ei:=BC js;have eG:=An _ sG;generalize js.map T.int=JT at *;unfold Eg Je
 simp![si,ei,sm,em,e,sG,eG,GV,El]
theorem Pr{M:Mc}(h:McOk M){js:kF}{G:T}(sG:G.sh=true){w:Nat}(e:FJ [.int (w:Int),AJ M,.lst (js.map T.int),G]=some (.exc "NoRoad")):Eg [.int (w:Int),AJ M,.lst (js.map T.int),G]=some (.ok (.str "road")):=by
 have sm:=Bl h;have em:=An _ sm;have si:=BG js;have ei:=BC js;have eG:=An _ sG;have pb:Fp (Str.ofString "NoRoad")=Str.ofString "NoRoad":=by decide +kernel
 have pl:HA (Str.ofString "NoRoad")=[]:=by rfl
 have x0:FN.lookup (Str.ofString "NoRoad")=some ((FN.lookup (Str.ofString "NoRoad")).getD 0):=by decide +kernel
 have x1:KW.lookup ((FN.lookup (Str.ofString "NoRoad")).getD 0)=some true:=by decide +kernel
 have x2:R7.lookup ((FN.lookup (Str.ofString "NoRoad")).getD 0)=some true:=by decide +kernel
 have x3:R9.lookup ((FN.lookup (Str.ofString "NoRoad")).getD 0)=some false:=by decide +kernel
 have x4:KY.lookup ((FN.lookup (Str.ofString "NoRoad")).getD 0)=some false:=by decide +kernel
 generalize (FN.lookup (Str.ofString "NoRoad")).getD 0=C at x0 x1 x2 x3 x4;generalize js.map T.int=JT at *;unfold Eg Je
 simp![si,ei,sm,em,e,sG,eG,GV,El,Ib,HL,pb,pl,x0,x1,x2,x3,x4]
theorem zhj{M:Mc}(h:McOk M){js:kF}{G:T}(sG:G.sh=true){w:Nat}(e:FJ [.int (w:Int),AJ M,.lst (js.map T.int),G]=some (.exc "NoMark")):Eg [.int (w:Int),AJ M,.lst (js.map T.int),G]=some (.ok (.str "mark")):=by
 have sm:=Bl h;have em:=An _ sm;have si:=BG js;have ei:=BC js;have eG:=An _ sG;have pb:Fp (Str.ofString "NoMark")=Str.ofString "NoMark":=by decide +kernel
 have pl:HA (Str.ofString "NoMark")=[]:=by rfl
 have xn:FN.lookup (Str.ofString "NoMark")=none:=by decide +kernel
 have x0:GK.lookup (Str.ofString "NoMark")=some ((GK.lookup (Str.ofString "NoMark")).getD 0):=by decide +kernel
 have x1:KW.lookup ((GK.lookup (Str.ofString "NoMark")).getD 0)=some true:=by decide +kernel
 have x3:R8.lookup ((GK.lookup (Str.ofString "NoMark")).getD 0)=some false:=by decide +kernel
 have x4:KY.lookup ((GK.lookup (Str.ofString "NoMark")).getD 0)=some false:=by decide +kernel
 generalize (GK.lookup (Str.ofString "NoMark")).getD 0=C at x0 x1 x3 x4;generalize js.map T.int=JT at *;unfold Eg Je
 simp![si,ei,sm,em,e,sG,eG,GV,El,Ib,HL,pb,pl,xn,x0,x1,x3,x4]
abbrev Nu:Stmt:=AI 85
def Lq:AG:=
 (AF (AW (AL NA (AB (AA 0) AD)) (AE 1))
 (AF (AW (AL Ke (AB (AA 1) AD)) (AE 2))
 (AF (AW (AL Mz (AB (AA 1) (AB (Cg (EM (AA 0) (some (mC (.int 12))) (some (mC (.int 22)))) (E5 (AA 0) (some (mC (.int 12))) (some (mC (.int 22))))) AD))) (BN 2 (AS (AE 9) (AS (AE 10) BU))))
 (AF (AW (AL Dp (AB (AA 2) (AB (m1 CA (AA 9)) AD))) (AE 3))
 (AF (Ai (B9 (BH (m1 (Cd "str") (AA 3))) (m2 Bk (AA 3) (AM (AM (AM (AA 1) (mC (.int 1))) (AA 10)) (mC (.int 0))))) (AN (mC (.bl false))) Af)
 (AF (AW (AL FI (AB (AA 0) (AB (mC (.int 22)) AD))) (AE 4))
 (AF (AW (AL Kb (AB (AA 1) (AB (AA 9) (AB (m2 Bi (AA 4) (mC (.int 5))) AD)))) (AE 5))
 (AF (AW (AM (Ay (Ao (mC (.str "none")) (Ao (mC (.str "road")) AD))) (m1 Jx (m2 (Dh false) (AL Iv (AB (AA 1) (AB (AA 5) AD))) (mC .non)))) (AE 6))
 (AF (AW (m2 BE (AA 4) (mC (.int 5))) (AE 7))
 (AF (Ai (B9 (m2 (CN λi j=>decide (i<j)) (m1 BL (AA 5)) (mC (.int 13))) (m2 Ap (AA 6) (mC (.str "road")))) (Ai (m2 Bk (AL Eg (AB (AA 7) (AB (AA 2) (AB (m1 CA (AA 5)) (AB (Ay AD) AD))))) (AA 6)) (AN (mC (.bl false))) Af) Af)
 (AF (AW (Ay (Ao (CK (AB (mC (.str "")) (AB (mC (.str "<")) (AB (mC (.int 1)) AD)))) AD)) (AE 8))
 (AF (Ai (C4 (m2 Ap (AA 6) (mC (.str "none"))) (m2 (CN λi j=>decide (j<i)) (AA 7) (mC (.int 0)))) (AW (mC (.str "mark")) (AE 6)) Af)
 (AF (Ai (m2 Bk (AL Eg (AB (AA 7) (AB (AA 2) (AB (m1 CA (AA 5)) (AB (m1 CA (AA 8)) AD))))) (AA 6)) (AN (mC (.bl false))) Af)
 (AF (Ai (B9 (m2 Dl (AA 9) (Ay AD)) (m2 Bk (AM (AM (AM (AA 1) (mC (.int 2))) (AM (AA 9) (mC (.int 0)))) (mC (.int 1))) (mC (.int 0)))) (AN (m2 Ap (AL Dp (AB (AA 2) (AB (AA 9) AD))) (AA 3))) Af)
 (AF (Ai (m2 Bk (AL Dp (AB (AA 2) (AB (m2 B0 (Ay (Ao (AM (AA 9) (mC (.int 0))) AD)) (mC (.int 200))) AD))) (AM (AM (AM (AA 1) (mC (.int 1))) (mC (.int 0))) (mC (.int 0)))) (AN (mC (.bl false))) Af)
 (AN (C4 (m2 Ap (AL Eg (AB (mC (.int 0)) (AB (AA 2) (AB (m2 B0 (Ay (Ao (AM (AA 9) (mC (.int 0))) AD)) (mC (.int 201))) (AB (Ay AD) AD))))) (mC (.str "road"))) (m2 Ap (AL Dp (AB (AA 2) (AB (AA 9) AD))) (AA 3)))))))))))))))))))
def bU:kL->Option Ru:=A5 1 11 Lq
abbrev zp1:Fn:=⟨13,["_law_script"],bU⟩
abbrev zox:Gm:=⟨["_law_script","_law_spec","_law_machine_here","_law_found","_law_cell","_law_wrong","_law_due","_law_which","_law_bad","_law_road_here","_law_room_here"],(AV Nu).names,[],12,[("_law_machine",Ze),("_law_made",Zd),("_law_road",Za),("room_of",Q7),("_law_cell_at",Qo),("_law_spoilt",Z8),("_law_room",Z9),("_law_refused",Zb)],["list","isinstance","str","int","len"],[],[],["raise_all"],false,[],[],[],Aa⟩
theorem zpb:Ck zox zp1 Nu Lq:={}
theorem modN{n:Nat}(hn:0<n)(i:Int):∃k:Nat,i.fmod (n:Int)=(k:Int)/\k<n:=by
 have h0:=ċ i (show(0:Int)<(n:Int) by omega)
 have h1:=Ė i (show(0:Int)<(n:Int) by omega)
 exact⟨(i.fmod (n:Int)).toNat,by omega,by omega⟩
theorem zmn{k n:Nat}{u:AG}{ts:kL}{t:T}(hk:ts.length=k)(h:u (ts.map some++List.replicate (n - ts.length) none)=some (.rt t)):A5 k n u ts=some (.ok t):=by
 unfold A5 LW;rw[if_pos hk,h]
theorem VN{dd:List Sd}{k:Int}(h:CF dd 0 k=some 0):∀n:Nat,C9 dd 0 (List.replicate n k)=some 0
 |0=>rfl|n+1=>by
  show(CF dd 0 k).bind _=_;rw[h];exact VN h n
theorem OI{ws:kE}{rs:List (Str×kL)}{dd:List Sd}(K:SpK ws rs dd){ks:kF}{r:Nat}(e:Dt dd ks=some r):Dp [AJ (Bm ws rs dd),.lst (ks.map T.int)]=some (.ok (.str (BK rs r))):=by
 have h1:=L6 K.mc ks;have h2:=OO K ks;rw[e]at h2;obtain⟨l,hl,el⟩:=Õ.mp h2;rw[hl]at h1;rw[show LZ (Bm ws rs dd) (some l)=.ok (.str (Cr (Bm ws rs dd) l)) from rfl,el]at h1;exact h1
theorem VV{ws:kE}{rs:List (Str×kL)}{dd:List Sd}(K:SpK ws rs dd){ks:kF}(e:Dt dd ks=none):BV (Bm ws rs dd) ks=none:=by
 have h2:=OO K ks;rw[e]at h2;exact Option.map_eq_none_iff.mp h2
theorem zjf{ws:kE}{rs:List (Str×kL)}{dd:List Sd}(K:SpK ws rs dd){ks:kF}{r:Nat}(e:Dt dd ks=some r):∃l,BV (Bm ws rs dd) ks=some l:=by
 have h2:=OO K ks;rw[e]at h2;obtain⟨l,hl,_⟩:=Õ.mp h2;exact⟨l,hl⟩
abbrev ET:T:=.lst [.tup [.str "",.str "<",.int 1]]
theorem zpf{M:Mc}(h:McOk M):Ct [AJ M,ET]=some (.exc "NoMark"):=by
 refine zd5 h rfl ?_
 have hn:Str.ofString ""∉M.ws:=λhx=>by
  rcases h.w _ hx with e|e
  .revert e
   decide +kernel
  .have:=e.2.1
   revert this
   decide +kernel
 have e1:=Jy (o:=false) (k:=.lst) h.tw (x:=Str.ofString "") MX;rw[Ü hn]at e1
 have il:Hb [.tup [.str "",.str "<",.int 1],.lst (M.ws.map T.str),EC]=some (.ok (.bl false)):=by
  unfold Hb Ls
  simp![Jr,Es,A7,A3,e1]
 exact ze6 (n:=1) (g:=λ_=>.tup [.str "",.str "<",.int 1]) (p:=λ_=>false) (by decide) (λ_=>rfl) λ_ _=>il
theorem zhl{ws:kE}{rs:List (Str×kL)}{dd:List Sd}(K:SpK ws rs dd){ks:kF}(hk:ks.length<=10){r:Nat}(wk:C9 dd 0 ks=some r)(a0 a4 a5 a6 a7 a8 a10:kH):(AF (Ai (B9 (m2 Dl (AA 9) (Ay AD)) (m2 Bk (AM (AM (AM (AA 1) (mC (.int 2))) (AM (AA 9) (mC (.int 0)))) (mC (.int 1))) (mC (.int 0)))) (AN (m2 Ap (AL Dp (AB (AA 2) (AB (AA 9) AD))) (AA 3))) Af)
 (AF (Ai (m2 Bk (AL Dp (AB (AA 2) (AB (m2 B0 (Ay (Ao (AM (AA 9) (mC (.int 0))) AD)) (mC (.int 200))) AD))) (AM (AM (AM (AA 1) (mC (.int 1))) (mC (.int 0))) (mC (.int 0)))) (AN (mC (.bl false))) Af)
 (AN (C4 (m2 Ap (AL Eg (AB (mC (.int 0)) (AB (AA 2) (AB (m2 B0 (Ay (Ao (AM (AA 9) (mC (.int 0))) AD)) (mC (.int 201))) (AB (Ay AD) AD))))) (mC (.str "road"))) (m2 Ap (AL Dp (AB (AA 2) (AB (AA 9) AD))) (AA 3))))))
  [a0,some (Bn ws rs dd),some (AJ (Bm ws rs dd)),some (.str (BK rs r)),a4,a5,a6,a7,a8,some (.lst (ks.map T.int)),a10]=some (.rt (.bl true)):=by
 have s9:=G1 K.sp.r;have er:=AO _ s9;have sd:=K.sp.sd;have ed:=AO _ sd;have sm:=Bl K.mc;have emc:=An _ sm;have hr:=Kk K (r:=0) (by have:=K.sp.r.l1;omega) wk
 have nmt:∀i,i<rs.length->PyData.strOk (BK rs i)=true:=λi hi=>K.mc.tn _ (by
  unfold BK;rw[Ó,Â hi];exact Ĕ (Ô hi))
 have eqn:=Ia (nmt r hr) (nmt r hr);rw[Ì rfl]at eqn;have ro:=OI K (show Dt dd ks=some r by unfold Dt;rw[if_pos (by omega)];exact wk)
 have sk:=BG ks;have ek:=BC ks;cases ks with
 |nil=>
  have e0:=Zv;rw[İ]at *
  simp![-Dl,e0,sm,emc,ro,eqn]
 |cons k0 kr=>
  obtain⟨e0,w1,w2⟩:=Option.bind_eq_some_iff.mp (show(CF dd 0 k0).bind (λe=>C9 dd e kr)=some r from wk)
  obtain⟨h1,h2,h3,d,hd,hz,hb,he⟩:=NR K w1;have hkl:k0.toNat<dd.length:=by omega
  have ea:AU (dd.map BD) k0=some (BD d):=Ic BD (Gi h2 hd);have gs:Ad d.g=true:=(K.sp.d d (ï hd)).g.sh;have eqc:Dl (.lst ((k0::kr).map T.int)) (.lst [])=some (.bl false):=rfl;have ak:AU ((k0::kr).map T.int) 0=some (.int k0):=GD;have l1:=K.sp.r.l1
  by_cases h0:d.e=0
  .have n0:(!((d.e:Int) == 0))=false:=by rw[h0];rfl
   have w10:CF dd 0 k0=some 0:=by rw[w1,<- he,h0]
   have m1:B0 (.nd false .lst [.int k0]) (.int ((200:Nat):Int))=some (.own ((List.replicate 200 [k0]).flatten.map T.int)):=Lm [k0] 200 (by simp) (by omega)
   have m2:B0 (.nd false .lst [.int k0]) (.int ((201:Nat):Int))=some (.own ((List.replicate 201 [k0]).flatten.map T.int)):=Lm [k0] 201 (by simp) (by omega)
   have fl:∀n:Nat,(List.replicate n [k0]).flatten=List.replicate n k0:=λn=>by
    induction n with
    |zero=>rfl|succ n ih=>rw[ŧ,List.flatten_cons,ih];rfl
   rw[fl,show((200:Nat):Int)=200 from rfl]at m1;rw[fl,show((201:Nat):Int)=201 from rfl]at m2;have r1:=OI K (ks:=List.replicate 200 k0) (r:=0) (by unfold Dt;rw[if_pos (by rw[ģ];omega)];exact VN w10 200)
   have x1:=QD K.mc (js:=List.replicate 201 k0) (VV K (by unfold Dt;rw[if_neg (by rw[ģ];omega)])) (G:=.lst []) rfl (w:=0) (by decide)
   have r2:=Pr K.mc (js:=List.replicate 201 k0) (G:=.lst []) rfl x1;rw[show((0:Nat):Int)=0 from rfl]at r2;have ra0:AU (rs.map B8) 0=some (.tup [.str (BK rs 0),.lst (rs.getD 0 (Str.empty,[])).2]):=JU (i:=0) (by omega)
   have gl:Ad (rs.getD 0 (Str.empty,[])).2=true:=by
    rw[Ó,Â (by omega)]
    exact(K.sp.r.lk _ (Ô _)).1.sh
   have nq:=J4 (nmt 0 (by omega)) (nmt 0 (by omega))
   rw[Ì rfl]at nq;have q1:Ap (.str "road") (.str "road")=some (.bl true):=by ext
   have s1:=BG (List.replicate 200 k0);have t1:=BC (List.replicate 200 k0);have s2:=BG (List.replicate 201 k0);have t2:=BC (List.replicate 201 k0);generalize (List.replicate 200 k0).map T.int=R1 at *;generalize (List.replicate 201 k0).map T.int=R2 at *;generalize (k0::kr).map T.int=KT at *;generalize (rs.getD 0 (Str.empty,[])).2=GL at *;refine GP ?_ (GP ?_ ?_)
   .simp![-Dl,eqc,A7,A3,s9,er,sd,ed,ea,gs,ak,Es,n0,sk,ek]
   .simp![-B0,A7,A3,s9,er,sd,ed,ak,sk,ek,sm,emc,m1,s1,t1,r1,ra0,gl,nq]
   .simp![-B0,sk,ek,sm,emc,ak,m2,s2,t2,r2,q1,ro,eqn]
  .have n0:(!((d.e:Int) == 0))=true:=by
    have:((d.e:Int) == 0)=false:=by rw[Ķ];omega
    rw[this]
    rfl
   generalize (k0::kr).map T.int=KT at *;refine sr ?_
   simp![-Dl,eqc,A7,A3,s9,er,sd,ed,ea,gs,ak,Es,n0,sk,ek,sm,emc,ro,eqn]
theorem law_true(ns:kF)(h:ns.length<=63):bU [CH ns]=some (.ok (.bl true)):=by
 have F:=T9 ns;have F2:=T8 ns;have c22:FI [CH ns,.int 22]=some (.ok (.int (ns.getD (22:Int).toNat 0))):=M3 ns (k:=22) (by decide)
 generalize ns.getD (22:Int).toNat 0=c at c22;obtain⟨ws,rs,dd,sz,em,D⟩:=ze5 ns h;have K:=zp4 D;have md:Ke [Bn ws rs dd]=some (.ok (AJ (Bm ws rs dd))):=made_ok K.sp K.mc;have sr:=G1 K.sp.r;have er:=AO _ sr;have sd:=K.sp.sd;have ed:=AO _ sd;have sm:=Bl K.mc;have emc:=An _ sm
 have hcl:(BY ns (some 12) (some 22)).length<=10:=by
  unfold BY;rw[show(some (12:Int))=some ((12:Nat):Int) from rfl,show(some (22:Int))=some ((22:Nat):Int) from rfl,HT.sIx_nat,HT.sIx_nat,ó]
  omega
 obtain⟨ks,r,er1,wk,kl⟩:=zo8 K (cs:=BY ns (some 12) (some 22)) (by omega)
 have cm:BY (ns.map T.int) (some 12) (some 22)=(BY ns (some 12) (some 22)).map T.int:=M1 ..;have scs:=BG (BY ns (some 12) (some 22));have ecs:=BC (BY ns (some 12) (some 22));have wka:Dt dd ks=some r:=by unfold Dt;rw[if_pos (by omega)];exact wk
 have hr:=Kk K (r:=0) (by have:=K.sp.r.l1;omega) wk
 have ro:=OI K wka;have ra:=JU hr
 have tn:PyData.strOk (BK rs r)=true:=K.mc.tn _ (by
  unfold BK;rw[Ó,Â hr];exact Ĕ (Ô hr))
 have nq:=J4 tn tn;rw[Ì rfl]at nq
 have gl:Ad (rs.getD r (Str.empty,[])).2=true:=by
  rw[Ó,Â hr];exact(K.sp.r.lk _ (Ô hr)).1.sh
 have sk:=BG ks;have ek:=BC ks;have lk:(ks.map T.int).length<=100000:=by rw[Á];omega
 have s5:Bh 5=true:=Br (by decide) (by decide)
 obtain⟨js,ej,hj,hj3⟩:=zo6 K (ks:=ks) (by omega) (c.fdiv 5)
 obtain⟨w,ew,hw⟩:=modN (n:=5) (by decide) c
 rw[show((5:Nat):Int)=5 from rfl]at ew;have lrm:=zo7 K js;have sj:=BG js;have ej2:=BC js;have ljs:(js.map T.int).length<=100000:=by rw[Á];omega
 refine zmn rfl ?_;show Lq [some (CH ns),none,none,none,none,none,none,none,none,none,none]=_;unfold Lq;unfold CH at *;have sN:=BG ns;have eN:=BC ns;generalize ns.map T.int=NT at *;generalize (BY ns (some 12) (some 22)).map T.int=CT at *;refine sq (τ':=[some (.nd false .rl NT),some (Bn ws rs dd),none,none,none,none,none,none,none,none,none]) ?_ ?_
 .simp![sN,eN,em,A7,A3,sr,er,sd,ed]
 refine sq (τ':=[some (.nd false .rl NT),some (Bn ws rs dd),some (AJ (Bm ws rs dd)),none,none,none,none,none,none,none,none]) ?_ ?_
 .simp![A7,A3,sr,er,sd,ed,md,sm,emc]
 refine sq (τ':=[some (.nd false .rl NT),some (Bn ws rs dd),some (AJ (Bm ws rs dd)),none,none,none,none,none,none,some (.lst (ks.map T.int)),some (.int (r:Int))]) ?_ ?_
 .simp![A7,A3,sr,er,sd,ed,sN,eN,cm,scs,ecs,er1,sk,ek]
 refine sq (τ':=[some (.nd false .rl NT),some (Bn ws rs dd),some (AJ (Bm ws rs dd)),some (.str (BK rs r)),none,none,none,none,none,some (.lst (ks.map T.int)),some (.int (r:Int))]) ?_ ?_
 .simp![sm,emc,sk,ek,lk,ro]
 refine GP ?_ ?_
 .unfold BK at nq ⊢
  simp![A7,A3,sr,er,sd,ed,ra,gl,nq]
 refine sq (τ':=[some (.nd false .rl NT),some (Bn ws rs dd),some (AJ (Bm ws rs dd)),some (.str (BK rs r)),some (.int c),none,none,none,none,some (.lst (ks.map T.int)),some (.int (r:Int))]) ?_ ?_
 .simp![sN,eN,c22]
 refine sq (τ':=[some (.nd false .rl NT),some (Bn ws rs dd),some (AJ (Bm ws rs dd)),some (.str (BK rs r)),some (.int c),some (.lst (js.map T.int)),none,none,none,some (.lst (ks.map T.int)),some (.int (r:Int))]) ?_ ?_
 .simp![A7,A3,sr,er,sd,ed,sk,ek,s5,ej,sj,ej2]
 have q1:Ap (.str "road") (.str "road")=some (.bl true):=by ext
 have q2:Bk (.str "road") (.str "road")=some (.bl false):=by ext
 have q3:Ap (.str "road") (.str "none")=some (.bl false):=by ext
 have q4:Bk (.str "none") (.str "none")=some (.bl false):=by ext
 have q5:Ap (.str "none") (.str "none")=some (.bl true):=by ext
 have q6:Bk (.str "mark") (.str "mark")=some (.bl false):=by ext
 have q7:Ap (.str "none") (.str "road")=some (.bl false):=by ext
 have tl:=zhl K (ks:=ks) (by omega) wk (some (.nd false .rl NT)) (some (.int c)) (some (.lst (js.map T.int)))
 have ejl:((js.map T.int).length:Int)=(js.length:Int):=by rw[Á]
 cases hwk:Dt dd js with
 |none=>
  rw[hwk]at lrm;have lrm':Iv [Bn ws rs dd,.lst (js.map T.int)]=some (.ok .non):=lrm;have no:=VV K hwk;have x1:=Pr K.mc (js:=js) (G:=.lst []) rfl (QD K.mc no (G:=.lst []) rfl hw);have x2:=Pr K.mc (js:=js) (G:=ET) rfl (QD K.mc no (G:=ET) rfl hw);have tl':=tl (some (.str "road")) (some (.int (w:Int))) (some ET) (some (.int (r:Int)));generalize js.map T.int=JT at *;refine sq (τ':=[some (.nd false .rl NT),some (Bn ws rs dd),some (AJ (Bm ws rs dd)),some (.str (BK rs r)),some (.int c),some (.lst JT),some (.str "road"),none,none,some (.lst (ks.map T.int)),some (.int (r:Int))]) ?_ ?_
  .simp![A7,A3,sr,er,sd,ed,sj,ej2,lrm']
  refine sq (τ':=[some (.nd false .rl NT),some (Bn ws rs dd),some (AJ (Bm ws rs dd)),some (.str (BK rs r)),some (.int c),some (.lst JT),some (.str "road"),some (.int (w:Int)),none,some (.lst (ks.map T.int)),some (.int (r:Int))]) ?_ ?_
  .simp![ew]
  refine GP ?_ ?_
  .by_cases hl:js.length<13
   .have d1:decide ((js.length:Int)<13)=true:=Ì (by omega)
    simp![sj,ej2,ejl,d1,sm,emc,ljs,x1,q2]
   .have d1:decide ((js.length:Int)<13)=false:=Ü (by omega)
    simp![sj,ej2,ejl,d1,q1,sm,emc,ljs,x1,q2]
  refine sq (τ':=[some (.nd false .rl NT),some (Bn ws rs dd),some (AJ (Bm ws rs dd)),some (.str (BK rs r)),some (.int c),some (.lst JT),some (.str "road"),some (.int (w:Int)),some ET,some (.lst (ks.map T.int)),some (.int (r:Int))]) ?_ ?_
  .simp![]
  refine GP ?_ (GP ?_ tl')
  .simp![q3]
  .simp![sj,ej2,sm,emc,ljs,x2,q2]
 |some r'=>
  rw[hwk]at lrm;have lrm':Iv [Bn ws rs dd,.lst (js.map T.int)]=some (.ok (.str (BK rs r'))):=lrm;obtain⟨l,yes⟩:=zjf K hwk
  have hl:js.length<13:=by
   have:=(Gw yes).2.2
   omega
  obtain⟨u1,v1⟩:=zoh K.mc K.s1 yes (g:=[]) (λt ht=>by cases ht) (by simp) hw
  have x1:=YN K.mc (js:=js) (G:=.lst []) rfl v1;have d1:decide ((js.length:Int)<13)=true:=Ì (by omega)
  obtain⟨du,hdu,hd2⟩:∃du:Str,(du=if 0<w then Str.ofString "mark" else Str.ofString "none")/\Eg [.int (w:Int),AJ (Bm ws rs dd),.lst (js.map T.int),ET]=some (.ok (.str du)):=by
   by_cases w0:0<w
   .exact⟨_,rfl,by rw[if_pos w0];exact zhj K.mc (js:=js) (G:=ET) rfl (zky K.mc yes (G:=ET) rfl (zpf K.mc) hw w0)⟩
   .have:w=0:=by omega
    subst this;obtain⟨u2,v2⟩:=las_0 K.mc yes (G:=ET) rfl;exact⟨_,rfl,by rw[if_neg w0];exact YN K.mc (js:=js) (G:=ET) rfl v2⟩
  have tl':=tl (some (.str du)) (some (.int (w:Int))) (some ET) (some (.int (r:Int)));generalize js.map T.int=JT at *;refine sq (τ':=[some (.nd false .rl NT),some (Bn ws rs dd),some (AJ (Bm ws rs dd)),some (.str (BK rs r)),some (.int c),some (.lst JT),some (.str "none"),none,none,some (.lst (ks.map T.int)),some (.int (r:Int))]) ?_ ?_
  .simp![A7,A3,sr,er,sd,ed,sj,ej2,lrm']
  refine sq (τ':=[some (.nd false .rl NT),some (Bn ws rs dd),some (AJ (Bm ws rs dd)),some (.str (BK rs r)),some (.int c),some (.lst JT),some (.str "none"),some (.int (w:Int)),none,some (.lst (ks.map T.int)),some (.int (r:Int))]) ?_ ?_
  .simp![ew]
  refine GP ?_ ?_
  .simp![sj,ej2,ejl,d1,sm,emc,ljs,x1,q4]
  refine sq (τ':=[some (.nd false .rl NT),some (Bn ws rs dd),some (AJ (Bm ws rs dd)),some (.str (BK rs r)),some (.int c),some (.lst JT),some (.str "none"),some (.int (w:Int)),some ET,some (.lst (ks.map T.int)),some (.int (r:Int))]) ?_ ?_
  .simp![]
  refine sq (τ':=[some (.nd false .rl NT),some (Bn ws rs dd),some (AJ (Bm ws rs dd)),some (.str (BK rs r)),some (.int c),some (.lst JT),some (.str du),some (.int (w:Int)),some ET,some (.lst (ks.map T.int)),some (.int (r:Int))]) ?_ (GP ?_ tl')
  .by_cases w0:0<w
   .have d2:decide ((0:Int)<(w:Int))=true:=Ì (by omega)
    rw[hdu,if_pos w0]
    simp![q5,d2]
   .have d2:decide ((0:Int)<(w:Int))=false:=Ü (by omega)
    rw[hdu,if_neg w0]
    simp![q5,d2]
  .have nq2:Bk (.str du) (.str du)=some (.bl false):=by
    rw[hdu];split
    .exact q6
    .exact q4
   simp![sj,ej2,sm,emc,ljs,hd2,nq2]
end
end Zl
namespace Zl
open PySem PySem.W L2 Zw Zx Pu Hd
abbrev pw:Program:=PySem.Challenge.pw_zonewalk_k51_rooms_of_roads
abbrev OB:OpenLaw:=PySem.Challenge.rw_zonewalk_k51_rooms_of_roads
abbrev md:String:="__module__"
abbrev fl:String:="__firstlineno__"
abbrev sa:String:="__static_attributes__"
abbrev dc:String:="__doc__"
noncomputable abbrev cf:Str:="/claim/cut.py"
noncomputable def tO(l:k9):Obj:=⟨(.type "tuple"),none,(.seq (Array.mk l) 0),Array.mk []⟩
noncomputable def dO(l:List DictEntry)(n:Nat):Obj:=⟨(.type "dict"),none,(.dict (Array.mk l) n),Array.mk []⟩
def eb:k9:=[(.type "ValueError"),(.type "Exception"),(.type "BaseException"),(.type "object")]
noncomputable def yO(a:Str)(b c:k9)(n:Addr)(d:k9)(r ta tb:Nat)(w:String):Obj:=⟨(.type "type"),none,(.cls ⟨a,b,c,n,a,true,[],d,false,none,false⟩),Array.mk [(some (.ref r)),none,(some (.str a ta)),(some (.str a tb)),(some (.builtin w)),(some (.bool true))]⟩
def cP(a:Str)(ta:Nat)(b:Str)(tb tf:Nat)(r n k:Int)(r1:Nat)(z:Int)(v1 v2 v3 v4 v5:Value)(x y:Int)(tg:Nat):Obj:=⟨(.type "code"),none,(.fields (Array.mk [(.str a ta),(.str b tb),(.str cf tf),(.int r 0),(.int n 0),(.int 0 0),(.int 0 0),(.int k 0),(.ref r1),(.bool true),(.int z 0),v1,v2,v3,v4,v5,(.int x 0),(.int y 0),(.str cf tg)])),Array.mk []⟩
noncomputable def cO(a:Str)(ta tb tf:Nat)(r n k:Int)(r1:Nat)(z:Int)(r2 r3 r4 r5:Nat)(x y:Int)(tg:Nat):Obj:=cP a ta a tb tf r n k r1 z (.ref r2) .none (.ref r3) (.ref r4) (.ref r5) x y tg
def o2(P:Params):Obj:=⟨.none,none,(.dict (Array.mk []) 0),Array.mk []⟩
def o3(P:Params):Obj:=dO [en P "__name__" 165 (.str "law_zonewalk_k51_rooms_of_roads" 838),en P "__doc__" 166 .none,en P "__package__" 167 .none,en P "__loader__" 168 (.builtin "__main__.__loader__#opaque"),en P "__spec__" 169 .none,en P "__annotations__" 170 (.ref 6),en P "__builtins__" 171 (.ref 4),en P "__file__" 173 (.str "/claim/cut.py" 172),en P "__cached__" 174 .none,en P "WalkError" 206 (.ref 24),en P "NoNumber" 222 (.ref 37),en P "BadMachine" 238 (.ref 49),en P "TooMany" 254 (.ref 61),en P "NoRun" 279 (.ref 80),en P "NoMark" 295 (.ref 92),en P "NoRoad" 311 (.ref 104),en P "is_whole" 320 (.ref 113),en P "greatest_divisor" 331 (.ref 120),en P "fraction" 341 (.ref 128),en P "at_most" 350 (.ref 135),en P "below" 357 (.ref 142),en P "number_of" 364 (.ref 149),en P "is_open" 371 (.ref 156),en P "narrower" 379 (.ref 163),en P "unit_of" 389 (.ref 170),en P "limits_of" 395 (.ref 175),en P "least_values" 405 (.ref 182),en P "raise_all" 418 (.ref 189),en P "WORDS" 426 (.ref 190),en P "STAY_WORDS" 429 (.ref 191),en P "is_look" 438 (.ref 198),en P "is_number" 445 (.ref 205),en P "is_guard" 451 (.ref 210),en P "look_bounds" 462 (.ref 217),en P "MOST_WATCHES" 466 (.int 7 465),en P "MOST_ROOMS" 468 (.int 64 467),en P "MOST_DOORS" 470 (.int 200 469),en P "is_small_letter" 477 (.ref 224),en P "is_name" 483 (.ref 229),en P "is_watch_name" 490 (.ref 236),en P "is_room_name" 496 (.ref 241),en P "is_sign" 503 (.ref 248),en P "own_copy" 510 (.ref 255),en P "Door" 562 (.ref 287),en P "Machine" 628 (.ref 341),en P "check_watches" 634 (.ref 350),en P "are_unlike" 641 (.ref 357),en P "check_rooms" 647 (.ref 362),en P "check_doors" 657 (.ref 369),en P "are_noughts" 663 (.ref 374),en P "placed" 669 (.ref 379),en P "nought_places" 677 (.ref 384),en P "free_bound" 687 (.ref 391),en P "narrowest" 693 (.ref 396),en P "is_broken" 699 (.ref 401),en P "row_over" 712 (.ref 408),en P "MOST_ROAD_DOORS" 716 (.int 200 715),en P "road_doors" 729 (.ref 415),en P "room_of" 738 (.ref 422),en P "last_room" 746 (.ref 429),en P "looked_at" 759 (.ref 436),en P "waited_till" 770 (.ref 443),en P "road_bounds" 776 (.ref 448),en P "road_zone" 782 (.ref 453),en P "road_unit" 790 (.ref 460),en P "least_times" 801 (.ref 467),en P "run_by" 807 (.ref 472),en P "run_of" 816 (.ref 479),en P "soonest" 827 (.ref 486),en P "soonest_run" 837 (.ref 493),en P "_law_cell_at" 847 (.ref 500),en P "_law_stream" 859 (.ref 507),en P "_law_names" 865 (.ref 512),en P "_law_number" 873 (.ref 519),en P "_law_guard" 885 (.ref 526),en P "_law_stay" 897 (.ref 533),en P "_law_door" 903 (.ref 538),en P "_law_machine" 909 (.ref 543),en P "_law_made" 915 (.ref 548),en P "_law_road" 921 (.ref 553),en P "_law_spoilt" 936 (.ref 560),en P "_law_room" 949 (.ref 567),en P "_law_asked" 959 (.ref 574),en P "_law_refused" 972 (.ref 581),en P "law" 989 (.ref 588)] 85
def o15(P:Params):Obj:=tO [(.type "ValueError")]
def o22(P:Params):Obj:=tO []
def o23(P:Params):Obj:=dO [en P md 196 (.str "zonewalk.errors" 187),en P fl 200 (.int 2 199),en P sa 201 (.ref 22),en P "__weakref__" 203 (.ref 25),en P dc 204 .none] 3
def o24(P:Params):Obj:=yO "WalkError" [(.type "ValueError")] ([(.ref 24)]++eb) 23 [(.ref 37),(.ref 49),(.ref 61),(.ref 80),(.ref 92),(.ref 104)] 15 189 197 "ValueError.__new__"
def o25(P:Params):Obj:=⟨(.type "getset_descriptor"),none,(.fields (Array.mk [(.str "__weakref__" 202),(.ref 24),(.builtin "ExceptionGroup.__weakref__"),.none])),Array.mk []⟩
def o28(P:Params):Obj:=tO [(.ref 24)]
def o35(P:Params):Obj:=tO []
def o36(P:Params):Obj:=dO [en P md 214 (.str "zonewalk.errors" 187),en P fl 218 (.int 4 217),en P sa 219 (.ref 35),en P dc 220 .none] 2
def o37(P:Params):Obj:=yO "NoNumber" [(.ref 24)] ([(.ref 37),(.ref 24)]++eb) 36 [] 28 207 215 "ValueError.__new__"
def o40(P:Params):Obj:=tO [(.ref 24)]
def o47(P:Params):Obj:=tO []
def o48(P:Params):Obj:=dO [en P md 230 (.str "zonewalk.errors" 187),en P fl 234 (.int 6 233),en P sa 235 (.ref 47),en P dc 236 .none] 2
def o49(P:Params):Obj:=yO "BadMachine" [(.ref 24)] ([(.ref 49),(.ref 24)]++eb) 48 [] 40 223 231 "ValueError.__new__"
def o52(P:Params):Obj:=tO [(.ref 24)]
def o59(P:Params):Obj:=tO []
def o60(P:Params):Obj:=dO [en P md 246 (.str "zonewalk.errors" 187),en P fl 250 (.int 8 249),en P sa 251 (.ref 59),en P dc 252 .none] 2
def o61(P:Params):Obj:=yO "TooMany" [(.ref 24)] ([(.ref 61),(.ref 24)]++eb) 60 [] 52 239 247 "ValueError.__new__"
def o64(P:Params):Obj:=tO [(.ref 24)]
def o78(P:Params):Obj:=tO [(.str "step" 275)]
def o79(P:Params):Obj:=dO [en P md 262 (.str "zonewalk.errors" 187),en P fl 266 (.int 10 265),en P "__init__" 274 (.ref 77),en P sa 276 (.ref 78),en P dc 277 .none] 2
def o80(P:Params):Obj:=yO "NoRun" [(.ref 24)] ([(.ref 80),(.ref 24)]++eb) 79 [] 64 255 263 "ValueError.__new__"
def o83(P:Params):Obj:=tO [(.ref 24)]
def o90(P:Params):Obj:=tO []
def o91(P:Params):Obj:=dO [en P md 287 (.str "zonewalk.errors" 187),en P fl 291 (.int 14 290),en P sa 292 (.ref 90),en P dc 293 .none] 2
def o92(P:Params):Obj:=yO "NoMark" [(.ref 24)] ([(.ref 92),(.ref 24)]++eb) 91 [] 83 280 288 "ValueError.__new__"
def o95(P:Params):Obj:=tO [(.ref 24)]
def o102(P:Params):Obj:=tO []
def o103(P:Params):Obj:=dO [en P md 303 (.str "zonewalk.errors" 187),en P fl 307 (.int 16 306),en P sa 308 (.ref 102),en P dc 309 .none] 2
def o104(P:Params):Obj:=yO "NoRoad" [(.ref 24)] ([(.ref 104),(.ref 24)]++eb) 103 [] 95 296 304 "ValueError.__new__"
def o112(_:Params):=cO "is_whole" 314 315 316 19 1 3 107 181 108 109 110 111 318 19 319
def Yr(a:Str)(s:Stmt)(c:Nat):=gO a s "zonewalk.fractions" 312 c
def Xf(_:Params):=Yr "is_whole" (AI 9) 112
def o119(_:Params):=cO "greatest_divisor" 321 322 323 21 2 3 114 181 115 116 117 118 329 21 330
def Xe(_:Params):=Yr "greatest_divisor" (AI 10) 119
def Xd(P:Params):Obj:=tO [(.int 1 332)]
def o127(_:Params):=cO "fraction" 333 334 335 29 2 3 122 181 123 124 125 126 339 29 340
def Xc(_:Params):=fO "fraction" "fraction" (AI 11) (.ref 121) "zonewalk.fractions" 312 127 .none
def o134(_:Params):=cO "at_most" 344 345 346 39 1 3 129 181 130 131 132 133 348 39 349
def KC(a:Str)(s:Stmt)(c:Nat):=gO a s "zonewalk.bounds" 342 c
def Xb(_:Params):=KC "at_most" (AI 13) 134
def o141(_:Params):=cO "below" 351 352 353 41 1 3 136 181 137 138 139 140 355 41 356
def Xa(_:Params):=KC "below" (AI 14) 141
def o148(_:Params):=cO "number_of" 358 359 360 43 1 3 143 181 144 145 146 147 362 43 363
def X9(_:Params):=KC "number_of" (AI 15) 148
def o155(_:Params):=cO "is_open" 365 366 367 45 1 3 150 181 151 152 153 154 369 45 370
def X8(_:Params):=KC "is_open" (AI 16) 155
def o162(_:Params):=cO "narrower" 372 373 374 47 2 3 157 181 158 159 160 161 377 47 378
def X7(_:Params):=KC "narrower" (AI 17) 162
def o169(_:Params):=cO "unit_of" 382 383 384 54 2 3 164 181 165 166 167 168 387 54 388
def MR(a:Str)(s:Stmt)(c:Nat):=gO a s "zonewalk.leasts" 380 c
def X6(_:Params):=MR "unit_of" (AI 19) 169
def o174(P:Params):Obj:=cP "limits_of" 390 "limits_of" 391 392 56 2 3 171 181 (.ref 172) .none .none .none (.ref 173) 393 56 394
def X5(_:Params):=MR "limits_of" (AI 20) 174
def o181(_:Params):=cO "least_values" 396 397 398 58 2 3 176 181 177 178 179 180 403 58 404
def X4(_:Params):=MR "least_values" (AI 21) 181
def o188(_:Params):=cO "raise_all" 406 407 408 64 2 3 183 181 184 185 186 187 416 64 417
def X3(_:Params):=MR "raise_all" (AI 22) 188
def X2(P:Params):Obj:=tO [(.str "<" 421),(.str "<=" 422),(.str ">" 423),(.str ">=" 424),(.str "=" 425)]
def X1(P:Params):Obj:=tO [(.str "<" 427),(.str "<=" 428)]
def o197(_:Params):=cO "is_look" 430 431 432 75 3 3 192 181 193 194 195 196 436 75 437
def MQ(a:Str)(s:Stmt)(c:Nat):=gO a s "zonewalk.looks" 419 c
def X0(_:Params):=MQ "is_look" (AI 26) 197
def o204(_:Params):=cO "is_number" 439 440 441 79 1 3 199 181 200 201 202 203 443 79 444
def XZ(_:Params):=MQ "is_number" (AI 27) 204
def o209(P:Params):Obj:=cP "is_guard" 446 "is_guard" 447 448 81 3 3 206 181 (.ref 207) .none .none .none (.ref 208) 449 81 450
def XY(_:Params):=MQ "is_guard" (AI 28) 209
def o216(_:Params):=cO "look_bounds" 452 453 454 83 4 3 211 181 212 213 214 215 460 83 461
def XX(_:Params):=MQ "look_bounds" (AI 29) 216
def o223(_:Params):=cO "is_small_letter" 471 472 473 98 1 3 218 181 219 220 221 222 475 98 476
def E9(a:Str)(s:Stmt)(c:Nat):=gO a s "zonewalk.machines" 463 c
def XW(_:Params):=E9 "is_small_letter" (AI 34) 223
noncomputable def o228(P:Params):Obj:=cP "is_name" 478 "is_name" 479 480 100 1 3 225 181 (.ref 226) .none .none .none (.ref 227) 481 100 482
def XU(_:Params):=E9 "is_name" (AI 35) 228
def o235(_:Params):=cO "is_watch_name" 484 485 486 102 1 3 230 181 231 232 233 234 488 102 489
def XT(_:Params):=E9 "is_watch_name" (AI 36) 235
def o240(P:Params):Obj:=cP "is_room_name" 491 "is_room_name" 492 493 104 1 3 237 181 (.ref 238) .none .none .none (.ref 239) 494 104 495
def XS(_:Params):=E9 "is_room_name" (AI 37) 240
def o247(_:Params):=cO "is_sign" 497 498 499 108 1 3 242 181 243 244 245 246 501 108 502
def XO(_:Params):=E9 "is_sign" (AI 38) 247
noncomputable def o254(_:Params):=cO "own_copy" 504 505 506 112 1 3 249 181 250 251 252 253 508 112 509
def XN(_:Params):=E9 "own_copy" (AI 39) 254
def XM(P:Params):Obj:=tO [(.str "" 523)]
def o269(P:Params):Obj:=cP "__init__" 524 "Door.__init__" 525 526 116 6 3 264 181 (.ref 265) .none (.ref 266) (.ref 267) (.ref 268) 533 116 534
def XJ(_:Params):=fO "__init__" "Door.__init__" (Co 40 0) (.ref 263) "zonewalk.machines" 463 269 .none
def o276(P:Params):Obj:=cP "asks" 536 "Door.asks" 537 538 123 1 3 271 181 (.ref 272) .none (.ref 273) (.ref 274) (.ref 275) 540 123 541
def XI(_:Params):=fO "asks" "Door.asks" (Co 40 1) .none "zonewalk.machines" 463 276 .none
def o283(P:Params):Obj:=cP "sets" 543 "Door.sets" 544 545 126 1 3 278 181 (.ref 279) .none (.ref 280) (.ref 281) (.ref 282) 547 126 548
def XH(_:Params):=fO "sets" "Door.sets" (Co 40 2) .none "zonewalk.machines" 463 283 .none
def o285(P:Params):Obj:=tO [(.str "end" 550),(.str "guard" 551),(.str "noughts" 552),(.str "sign" 553),(.str "start" 554)]
def o286(P:Params):Obj:=dO [en P md 518 (.str "zonewalk.machines" 463),en P fl 522 (.int 114 521),en P "__init__" 535 (.ref 270),en P "asks" 542 (.ref 277),en P "sets" 549 (.ref 284),en P sa 555 (.ref 285),en P "__dict__" 557 (.ref 288),en P "__weakref__" 559 (.ref 289),en P dc 560 .none] 4
def o287(P:Params):Obj:=⟨(.type "type"),none,(.cls ⟨"Door",[(.type "object")],[(.ref 287),(.type "object")],286,"Door",true,[],[],false,none,false⟩),Array.mk [none,none,(some (.str "Door" 511)),(some (.str "Door" 519)),(some (.builtin "object.__new__")),(some (.bool true))]⟩
def o288(P:Params):Obj:=⟨(.type "getset_descriptor"),none,(.fields (Array.mk [(.str "__dict__" 556),(.ref 287),(.builtin "function.__dict__"),(.builtin "function.__dict__#set")])),Array.mk []⟩
def o289(P:Params):Obj:=⟨(.type "getset_descriptor"),none,(.fields (Array.mk [(.str "__weakref__" 558),(.ref 287),(.builtin "ExceptionGroup.__weakref__"),.none])),Array.mk []⟩
def o302(P:Params):Obj:=cP "__init__" 575 "Machine.__init__" 576 577 130 4 3 299 181 (.ref 300) .none .none .none (.ref 301) 578 130 579
def XG(_:Params):=fO "__init__" "Machine.__init__" (Co 41 0) .none "zonewalk.machines" 463 302 .none
def o309(P:Params):Obj:=cP "watches" 581 "Machine.watches" 582 583 142 1 3 304 181 (.ref 305) .none (.ref 306) (.ref 307) (.ref 308) 585 142 586
def XF(_:Params):=fO "watches" "Machine.watches" (Co 41 1) .none "zonewalk.machines" 463 309 .none
def o316(P:Params):Obj:=cP "rooms" 588 "Machine.rooms" 589 590 145 1 3 311 181 (.ref 312) .none (.ref 313) (.ref 314) (.ref 315) 592 145 593
def XD(_:Params):=fO "rooms" "Machine.rooms" (Co 41 2) .none "zonewalk.machines" 463 316 .none
def o323(P:Params):Obj:=cP "doors" 595 "Machine.doors" 596 597 148 1 3 318 181 (.ref 319) .none (.ref 320) (.ref 321) (.ref 322) 599 148 600
def XC(_:Params):=fO "doors" "Machine.doors" (Co 41 3) .none "zonewalk.machines" 463 323 .none
def o330(P:Params):Obj:=cP "stay" 602 "Machine.stay" 603 604 151 2 3 325 181 (.ref 326) .none (.ref 327) (.ref 328) (.ref 329) 607 151 608
def XA(_:Params):=fO "stay" "Machine.stay" (Co 41 4) .none "zonewalk.machines" 463 330 .none
def o337(P:Params):Obj:=cP "watch_number" 610 "Machine.watch_number" 611 612 154 2 3 332 181 (.ref 333) .none (.ref 334) (.ref 335) (.ref 336) 615 154 616
def Wz(_:Params):=fO "watch_number" "Machine.watch_number" (Co 41 5) .none "zonewalk.machines" 463 337 .none
def o339(P:Params):Obj:=tO [(.str "door_list" 618),(.str "stays" 619),(.str "watch_names" 620)]
def o340(P:Params):Obj:=dO [en P md 570 (.str "zonewalk.machines" 463),en P fl 574 (.int 128 573),en P "__init__" 580 (.ref 303),en P "watches" 587 (.ref 310),en P "rooms" 594 (.ref 317),en P "doors" 601 (.ref 324),en P "stay" 609 (.ref 331),en P "watch_number" 617 (.ref 338),en P sa 621 (.ref 339),en P "__dict__" 623 (.ref 342),en P "__weakref__" 625 (.ref 343),en P dc 626 .none] 4
def o341(P:Params):Obj:=⟨(.type "type"),none,(.cls ⟨"Machine",[(.type "object")],[(.ref 341),(.type "object")],340,"Machine",true,[],[],false,none,false⟩),Array.mk [none,none,(some (.str "Machine" 563)),(some (.str "Machine" 571)),(some (.builtin "object.__new__")),(some (.bool true))]⟩
def o342(P:Params):Obj:=⟨(.type "getset_descriptor"),none,(.fields (Array.mk [(.str "__dict__" 622),(.ref 341),(.builtin "function.__dict__"),(.builtin "function.__dict__#set")])),Array.mk []⟩
def o343(P:Params):Obj:=⟨(.type "getset_descriptor"),none,(.fields (Array.mk [(.str "__weakref__" 624),(.ref 341),(.builtin "ExceptionGroup.__weakref__"),.none])),Array.mk []⟩
def o349(P:Params):Obj:=cP "check_watches" 629 "check_watches" 630 631 156 1 3 346 181 (.ref 347) .none .none .none (.ref 348) 632 156 633
def Wy(_:Params):=E9 "check_watches" (AI 42) 349
def o356(_:Params):=cO "are_unlike" 635 636 637 161 1 3 351 181 352 353 354 355 639 161 640
def Wx(_:Params):=E9 "are_unlike" (AI 43) 356
def o361(P:Params):Obj:=cP "check_rooms" 642 "check_rooms" 643 644 163 2 3 358 181 (.ref 359) .none .none .none (.ref 360) 645 163 646
def Ww(_:Params):=E9 "check_rooms" (AI 44) 361
def o368(_:Params):=cO "check_doors" 648 649 650 173 3 3 363 181 364 365 366 367 655 173 656
def Wv(_:Params):=E9 "check_doors" (AI 45) 368
def o373(P:Params):Obj:=cP "are_noughts" 658 "are_noughts" 659 660 185 2 3 370 181 (.ref 371) .none .none .none (.ref 372) 661 185 662
def Wu(_:Params):=E9 "are_noughts" (AI 46) 373
def o378(P:Params):Obj:=cP "placed" 664 "placed" 665 666 189 2 3 375 181 (.ref 376) .none .none .none (.ref 377) 667 189 668
def Wt(_:Params):=E9 "placed" (AI 47) 378
def o383(P:Params):Obj:=cP "nought_places" 672 "nought_places" 673 674 195 2 3 380 181 (.ref 381) .none .none .none (.ref 382) 675 195 676
def gO6(a:Str)(s:Stmt)(c:Nat):=gO a s "zonewalk.plans" 670 c
def Ws(_:Params):=gO6 "nought_places" (AI 49) 383
def o390(_:Params):=cO "free_bound" 680 681 682 198 2 3 385 181 386 387 388 389 685 198 686
def MP(a:Str)(s:Stmt)(c:Nat):=gO a s "zonewalk.zones" 678 c
def Wq(_:Params):=MP "free_bound" (AI 51) 390
def o395(P:Params):Obj:=cP "narrowest" 688 "narrowest" 689 690 202 1 3 392 181 (.ref 393) .none .none .none (.ref 394) 691 202 692
def Wp(_:Params):=MP "narrowest" (AI 52) 395
def o400(P:Params):Obj:=cP "is_broken" 694 "is_broken" 695 696 210 1 3 397 181 (.ref 398) .none .none .none (.ref 399) 697 210 698
def Wo(_:Params):=MP "is_broken" (AI 53) 400
def o407(_:Params):=cO "row_over" 700 701 702 212 3 3 402 181 403 404 405 406 710 212 711
def Wn(_:Params):=MP "row_over" (AI 54) 407
def o414(_:Params):=cO "road_doors" 717 718 719 223 2 3 409 181 410 411 412 413 727 223 728
def EN(a:Str)(s:Stmt)(c:Nat):=gO a s "zonewalk.roads" 713 c
def Wm(_:Params):=EN "road_doors" (AI 57) 414
def o421(_:Params):=cO "room_of" 730 731 732 238 2 3 416 181 417 418 419 420 736 238 737
def Wl(_:Params):=EN "room_of" (AI 58) 421
def o428(_:Params):=cO "last_room" 739 740 741 241 2 3 423 181 424 425 426 427 744 241 745
def Wk(_:Params):=EN "last_room" (AI 59) 428
def o435(_:Params):=cO "looked_at" 747 748 749 243 3 3 430 181 431 432 433 434 757 243 758
def Wj(_:Params):=EN "looked_at" (AI 60) 435
def o442(_:Params):=cO "waited_till" 760 761 762 248 4 3 437 181 438 439 440 441 768 248 769
def Wi(_:Params):=EN "waited_till" (AI 61) 442
def o447(P:Params):Obj:=cP "road_bounds" 771 "road_bounds" 772 773 251 3 3 444 181 (.ref 445) .none .none .none (.ref 446) 774 251 775
def Wh(_:Params):=EN "road_bounds" (AI 62) 447
def o452(P:Params):Obj:=cP "road_zone" 777 "road_zone" 778 779 265 3 3 449 181 (.ref 450) .none .none .none (.ref 451) 780 265 781
def Wg(_:Params):=EN "road_zone" (AI 63) 452
def o459(_:Params):=cO "road_unit" 783 784 785 272 2 3 454 181 455 456 457 458 788 272 789
def Wf(_:Params):=EN "road_unit" (AI 64) 459
def o466(_:Params):=cO "least_times" 791 792 793 274 4 3 461 181 462 463 464 465 799 274 800
def We(_:Params):=EN "least_times" (AI 65) 466
def o471(P:Params):Obj:=cP "run_by" 802 "run_by" 803 804 277 4 3 468 181 (.ref 469) .none .none .none (.ref 470) 805 277 806
def Wd(_:Params):=EN "run_by" (AI 66) 471
def o478(_:Params):=cO "run_of" 808 809 810 284 3 3 473 181 474 475 476 477 814 284 815
def Wc(_:Params):=EN "run_of" (AI 67) 478
def o485(_:Params):=cO "soonest" 817 818 819 286 3 3 480 181 481 482 483 484 825 286 826
def Wb(_:Params):=EN "soonest" (AI 68) 485
def o492(_:Params):=cO "soonest_run" 828 829 830 292 4 3 487 181 488 489 490 491 835 292 836
def Wa(_:Params):=EN "soonest_run" (AI 69) 492
def o499(_:Params):=cO "_law_cell_at" 840 841 842 295 2 3 494 181 495 496 497 498 845 295 846
def Di(a:Str)(s:Stmt)(c:Nat):=gO a s "law_zonewalk_k51_rooms_of_roads" 838 c
def W9(_:Params):=Di "_law_cell_at" (AI 71) 499
def o506(_:Params):=cO "_law_stream" 848 849 850 299 2 3 501 181 502 503 504 505 857 299 858
def W8(_:Params):=Di "_law_stream" (AI 72) 506
def o511(P:Params):Obj:=cP "_law_names" 860 "_law_names" 861 862 312 2 3 508 181 (.ref 509) .none .none .none (.ref 510) 863 312 864
def W7(_:Params):=Di "_law_names" (AI 73) 511
def o518(_:Params):=cO "_law_number" 866 867 868 322 2 3 513 181 514 515 516 517 871 322 872
def W6(_:Params):=Di "_law_number" (AI 74) 518
def o525(_:Params):=cO "_law_guard" 874 875 876 324 3 3 520 181 521 522 523 524 883 324 884
def W5(_:Params):=Di "_law_guard" (AI 75) 525
def o532(_:Params):=cO "_law_stay" 886 887 888 331 3 3 527 181 528 529 530 531 895 331 896
def W4(_:Params):=Di "_law_stay" (AI 76) 532
def o537(P:Params):Obj:=cP "_law_door" 898 "_law_door" 899 900 338 4 3 534 181 (.ref 535) .none .none .none (.ref 536) 901 338 902
def W3(_:Params):=Di "_law_door" (AI 77) 537
def o542(P:Params):Obj:=cP "_law_machine" 904 "_law_machine" 905 906 343 1 3 539 181 (.ref 540) .none .none .none (.ref 541) 907 343 908
def W0(_:Params):=Di "_law_machine" (AI 78) 542
def o547(P:Params):Obj:=cP "_law_made" 910 "_law_made" 911 912 355 1 3 544 181 (.ref 545) .none .none .none (.ref 546) 913 355 914
def WZ(_:Params):=Di "_law_made" (AI 79) 547
def o552(P:Params):Obj:=cP "_law_road" 916 "_law_road" 917 918 361 2 3 549 181 (.ref 550) .none .none .none (.ref 551) 919 361 920
def WY(_:Params):=Di "_law_road" (AI 80) 552
def o559(_:Params):=cO "_law_spoilt" 922 923 924 372 3 3 554 181 555 556 557 558 934 372 935
def WX(_:Params):=Di "_law_spoilt" (AI 81) 559
def o566(_:Params):=cO "_law_room" 937 938 939 380 2 3 561 181 562 563 564 565 947 380 948
def WW(_:Params):=Di "_law_room" (AI 82) 566
def o573(_:Params):=cO "_law_asked" 950 951 952 390 4 3 568 181 569 570 571 572 957 390 958
def WV(_:Params):=Di "_law_asked" (AI 83) 573
def o580(_:Params):=cO "_law_refused" 960 961 962 400 4 3 575 181 576 577 578 579 970 400 971
def WU(_:Params):=Di "_law_refused" (AI 84) 580
def o587(_:Params):=cO "law" 973 974 975 414 1 3 582 181 583 584 585 586 987 414 988
def WS(_:Params):=Di "law" (AI 85) 587
noncomputable def Zt:List Addr:=[2,3,15,22,23,24,25,28,35,36,37,40,47,48,49,52,59,60,61,64,78,79,80,83,90,91,92,95,102,103,104,112,113,119,120,121,127,128,134,135,141,142,148,149,155,156,162,163,169,170,174,175,181,182,188,189,190,191,197,198,204,205,209,210,216,217,223,224,228,229,235,236,240,241,247,248,254,255,263,269,270,276,277,283,284,285,286,287,288,289,302,303,309,310,316,317,323,324,330,331,337,338,339,340,341,342,343,349,350,356,357,361,362,368,369,373,374,378,379,383,384,390,391,395,396,400,401,407,408,414,415,421,422,428,429,435,436,442,443,447,448,452,453,459,460,466,467,471,472,478,479,485,486,492,493,499,500,506,507,511,512,518,519,525,526,532,533,537,538,542,543,547,548,552,553,559,560,566,567,573,574,580,581,587,588]
def IW(P:Params):Frag:=Zt.zipWith (λa o=>(a,o P)) [o2,o3,o15,o22,o23,o24,o25,o28,o35,o36,o37,o40,o47,o48,o49,o52,o59,o60,o61,o64,o78,o79,o80,o83,o90,o91,o92,o95,o102,o103,o104,o112,Xf,o119,Xe,Xd,o127,Xc,o134,Xb,o141,Xa,o148,X9,o155,X8,o162,X7,o169,X6,o174,X5,o181,X4,o188,X3,X2,X1,o197,X0,o204,XZ,o209,XY,o216,XX,o223,XW,o228,XU,o235,XT,o240,XS,o247,XO,o254,XN,XM,o269,XJ,o276,XI,o283,XH,o285,o286,o287,o288,o289,o302,XG,o309,XF,o316,XD,o323,XC,o330,XA,o337,Wz,o339,o340,o341,o342,o343,o349,Wy,o356,Wx,o361,Ww,o368,Wv,o373,Wu,o378,Wt,o383,Ws,o390,Wq,o395,Wp,o400,Wo,o407,Wn,o414,Wm,o421,Wl,o428,Wk,o435,Wj,o442,Wi,o447,Wh,o452,Wg,o459,Wf,o466,We,o471,Wd,o478,Wc,o485,Wb,o492,Wa,o499,W9,o506,W8,o511,W7,o518,W6,o525,W5,o532,W4,o537,W3,o542,W0,o547,WZ,o552,WY,o559,WX,o566,WW,o573,WV,o580,WU,o587,WS]
def vq:Program:={ pw with main:={ (pw).main with body:=[AI 85] } }
noncomputable def loo:kE:=["WalkError","NoNumber","BadMachine","TooMany","NoRun","NoMark","NoRoad","is_whole","greatest_divisor","fraction","at_most","below","number_of","is_open","narrower","unit_of","limits_of","least_values","raise_all","WORDS","STAY_WORDS","is_look","is_number","is_guard","look_bounds","MOST_WATCHES","MOST_ROOMS","MOST_DOORS","is_small_letter","is_name","is_watch_name","is_room_name","is_sign","own_copy","Door","Machine","check_watches","are_unlike","check_rooms","check_doors","are_noughts","placed","nought_places","free_bound","narrowest","is_broken","row_over","MOST_ROAD_DOORS","road_doors","room_of","last_room","looked_at","waited_till","road_bounds","road_zone","road_unit","least_times","run_by","run_of","soonest","soonest_run","_law_cell_at","_law_stream","_law_names","_law_number","_law_guard","_law_stay","_law_door","_law_machine","_law_made","_law_road","_law_spoilt","_law_room","_law_asked","_law_refused"].map Str.ofString
abbrev hk:Hook:=kHook IW Zt (λ_=>by ext)
theorem zmo(w:World)(os:OsState):(go pw 4223 w os).map (λs=>LP pw vq loo (xt OB.row.toRowW vq) hk.obs (boot_heap w.params) s.abs)=some (true,openGood vq loo,hk.val w):=by ext
theorem left:LeftO pw vq loo (xt OB.row.toRowW vq) hk.obs hk.val 9026 true:=zkw 9026 4223 (by ext) (by decide) (λs=>by ext) (by decide) zmo
theorem said:OB.wellSaid=true:=zj9 (by ext)
abbrev fr(w:World):Frag:=IW w.params
noncomputable def ca:Str->Value:=λc=>if c="BadMachine" then .ref 49 else if c="TooMany" then .ref 61 else if c="NoMark" then .ref 92 else if c="NoNumber" then .ref 37 else if c="NoRoad" then .ref 104 else if c="WalkError" then .ref 24 else if c="NoRun" then .ref 80 else .none
section
variable {w:World}{mg:Str->Option Value}{base:Heap} [q:Qx pw w (fr w) mg base ca]
theorem F9:Cls (fr w) BO:=⟨by ext,by ext,by ext,by ext⟩
theorem HE:∀f∈B3,CQ (fr w) BO f:=(BA (by unfold CQ;ext) (BA (by unfold CQ;ext) (BA (by unfold CQ;ext) (BA (by unfold CQ;ext) (BA (by unfold CQ;ext) B5)))))
theorem Ed:Cls (fr w) Aw:=⟨by ext,by ext,by ext,by ext⟩
theorem IA:∀f∈Ax,CQ (fr w) Aw f:=(BA (by unfold CQ;ext) (BA (by unfold CQ;ext) (BA (by unfold CQ;ext) B5)))
theorem yg:specialIn (fr w) (.builtin "object.__class__") "__get__"=some (some (.builtin "getset_descriptor.__get__"))/\takesIn (fr w) (.builtin "object.__class__")=some true:=⟨by ext,by ext⟩
include q
def cI:ECls (fr w) mg "BadMachine":=HQ yg 49 (q.c _ _ (by ext)) (by ext)
theorem Ry:∃T:ECls (fr w) mg "BadMachine",ca "BadMachine"=.ref T.C/\Cq (fr w) T.C=some none:=⟨cI,by rfl,by ext⟩
def cG:ECls (fr w) mg "TooMany":=HQ yg 61 (q.c _ _ (by ext)) (by ext)
theorem zgg:∃T:ECls (fr w) mg "TooMany",ca "TooMany"=.ref T.C/\Cq (fr w) T.C=some none:=⟨cG,by rfl,by ext⟩
def SF:ECls (fr w) mg "NoMark":=HQ yg 92 (q.c _ _ (by ext)) (by ext)
theorem zio:∃T:ECls (fr w) mg "NoMark",ca "NoMark"=.ref T.C/\Cq (fr w) T.C=some none:=⟨SF,by rfl,by ext⟩
def cH:ECls (fr w) mg "NoNumber":=HQ yg 37 (q.c _ _ (by ext)) (by ext)
theorem zew:∃T:ECls (fr w) mg "NoNumber",ca "NoNumber"=.ref T.C/\Cq (fr w) T.C=some none:=⟨cH,by rfl,by ext⟩
def NO:ECls (fr w) mg "NoRoad":=HQ yg 104 (q.c _ _ (by ext)) (by ext)
theorem zin:∃T:ECls (fr w) mg "NoRoad",ca "NoRoad"=.ref T.C/\Cq (fr w) T.C=some none:=⟨NO,by rfl,by ext⟩
def zd2:ECls (fr w) mg "WalkError":=HQ yg 24 (q.c _ _ (by ext)) (by ext)
def ziq:ECls (fr w) mg "NoRun":=HQ yg 80 (q.c _ _ (by ext)) (by ext)
theorem eK:∀C∈[24,37,49,61,80,92,104],ExcK (fr w) C:=(BA zd2.k (BA cH.k (BA cI.k (BA cG.k (BA ziq.k (BA SF.k (BA NO.k B5)))))))
def D1:=Aj W9 500 zdu (Ak Ac Ab)
def D2:=Aj Wx 357 zby (Ak Ac Ab)
def D3:=Aj XW 224 za9 (Ak Ac Ab)
def D4:=Aj XU 229 zeq (Ak (AZ D3 Ac) Ab)
def D5:=Aj XT 236 zal (Ak (AZ D4 Ac) Ab)
theorem zax:∃u v,mg "MOST_WATCHES"=some u/\A8 v u/\∀F:Hp,Rp (fr w) F F MG v R0:=⟨(.int (7) 465),(.int 7),q.c _ _ (by ext),⟨_,rfl⟩,λF=>.int _⟩
def D6:=Aj Wy 350 zam (Ak (AZ D5 (AZ D2 Ac)) (Ab (co:=(Ci zax C6))) (hex:=(BA Ry B5)))
def D7:=Aj XS 241 zaz (Ak (AZ D3 Ac) Ab)
def D8:=Aj Xf 113 zdp (Ak Ac Ab)
def D9:=Aj XZ 205 zcv (Ak (AZ D8 Ac) Ab)
def D10:=Aj X0 198 zer (Ak (AZ D9 Ac) Ab)
def SD:=Aj XY 210 zdq (Ak (AZ D10 Ac) Ab)
theorem zbt:∃u v,mg "STAY_WORDS"=some u/\A8 v u/\∀F:Hp,Rp (fr w) F F MF v R0:=⟨_,.ref 191,q.c _ (.ref 191) (by ext),rfl,λF=>Ag.of_node (k:=.rt) (xs:=[.str "<",.str "<="]) (.inr ⟨X1 w.params,_,_,by ext,rfl,rfl,by decide,(.cons ⟨_,rfl⟩ (.cons ⟨_,rfl⟩ .nil))⟩) (OH ["<","<="])⟩
def D12:=Aj Ww 362 zbj (Ak (AZ D7 (AZ SD (AZ D2 Ac))) (Ab (co:=(Ci zbt C6))) (hex:=(BA Ry B5)))
def D13:=Aj Wu 374 zbl (Ak (AZ D5 (AZ D2 Ac)) Ab)
def D14:=Aj XO 248 zeo (Ak (AZ D4 Ac) Ab)
theorem aQ:∃u v,mg "WORDS"=some u/\A8 v u/\∀F:Hp,Rp (fr w) F F EC v R0:=⟨_,.ref 190,q.c _ (.ref 190) (by ext),rfl,λF=>Ag.of_node (k:=.rt) (xs:=[.str "<",.str "<=",.str ">",.str ">=",.str "="]) (.inr ⟨X2 w.params,_,_,by ext,rfl,rfl,by decide,(.cons ⟨_,rfl⟩ (.cons ⟨_,rfl⟩ (.cons ⟨_,rfl⟩ (.cons ⟨_,rfl⟩ (.cons ⟨_,rfl⟩ .nil)))))⟩) (OH ["<","<=",">",">=","="])⟩
def D15:=Aj Wv 369 zbk (Ak (AZ SD (AZ D13 (AZ D14 Ac))) (Ab (co:=(Ci aQ C6)) (cl:=(BA ⟨F9,HE⟩ B5)) (ci:=(Ci ⟨287,q.c _ _ (by ext),(Ci ⟨⟨F9,by ext,by ext,by ext,by ext⟩,by ext⟩ (Ci ⟨⟨Ed,by ext,by ext,by ext,by ext⟩,by ext⟩ C6)),by ext⟩ C6))) (hex:=(BA Ry B5)))
theorem zbu:∃u v,mg "MOST_ROOMS"=some u/\A8 v u/\∀F:Hp,Rp (fr w) F F MH v R0:=⟨(.int (64) 467),(.int 64),q.c _ _ (by ext),⟨_,rfl⟩,λF=>.int _⟩
theorem zbv:∃u v,mg "MOST_DOORS"=some u/\A8 v u/\∀F:Hp,Rp (fr w) F F MI v R0:=⟨(.int (200) 469),(.int 200),q.c _ _ (by ext),⟨_,rfl⟩,λF=>.int _⟩
def cF:=aJ "Machine" Aw Ax XG 303 zb1 (bM (AZ D6 (AZ D12 (AZ D15 Ac))) (Ab (co:=(Ci zbu (Ci zbv C6))) (sf:=(λC fs h=>by cases h;exact⟨Ed,IA⟩))) (hex:=(BA zgg B5)))
theorem E16:CU (fr w) (cF (w:=w) (mg:=mg) (base:=base)).fd Ql.ps []:=.all (N8 λ_ _ _ _=>rfl)
def D17:=Aj XN 255 zdn (Ak Ac Ab)
def cE:=aJ "Door" BO B3 XJ 270 zcy (bM (AZ D17 Ac) (Ab (sf:=(λC fs h=>by cases h;exact⟨F9,HE⟩))))
theorem E18:CU (fr w) (cE (w:=w) (mg:=mg) (base:=base)).fd Qp.ps []:=λs us X hl=>N7 (P:=λus=>BindsTo s _ ⟨us,[]⟩ (List.zip _ (us++_))) (λ_ _ _ _ _ _=>binds_K X rfl (show(fr w).lookup 263=some (XM w.params) by ext) rfl rfl rfl) us (by simpa using hl)
def D19:=Aj WZ 548 zie (Ak Ac (Ab (nw:=(Xh ⟨by decide,BO,cE,(Ci ⟨[],[],E18,.nil,λ_=>.nil⟩ C6)⟩ (Xh ⟨by decide,Aw,cF,(Ci ⟨[],[],E16,.nil,λ_=>.nil⟩ C6)⟩ Xg)))))
def D20:=Aj W7 512 zg0 (Ak Ac Ab)
def cD:=Aj W8 507 zet (Ak Ac Ab)
def cC:=Aj W6 519 zev (Ak Ac Ab)
def D23:=Aj W5 526 zg1 (Ak (AZ cC Ac) Ab)
def D24:=Aj W3 538 zif (Ak (AZ cD (AZ D23 Ac)) Ab)
def D25:=Aj W4 533 zib (Ak (AZ cC Ac) Ab)
def D26:=Aj W0 543 zdt (Ak (AZ D1 (AZ D20 (AZ cD (AZ D25 (AZ D24 Ac))))) Ab)
def cB:=HR XF 310 zaa Ed (HW Ac (Ab (cl:=(BA ⟨Ed,IA⟩ B5))))
def cA:=HR Wz 338 za2 Ed (HW Ac (Ab (cl:=(BA ⟨Ed,IA⟩ B5))))
def b9:=Aj Wt 379 zfz (Ak (AZ SD Ac) (Ab (co:=(Ci aQ C6)) (mt:=(BA ⟨by decide,⟨cB⟩⟩ (BA ⟨by decide,⟨cA⟩⟩ B5)))) (hex:=(BA zio B5)))
def b8:=HR XD 317 zan Ed (HW Ac (Ab (cl:=(BA ⟨Ed,IA⟩ B5))))
def D31:=HR XA 331 zb0 Ed (HW Ac (Ab (cl:=(BA ⟨Ed,IA⟩ B5))))
def D32:=HR XC 324 zao Ed (HW Ac (Ab (cl:=(BA ⟨Ed,IA⟩ B5))))
def D33:=HR XI 277 zcz F9 (HW Ac (Ab (cl:=(BA ⟨F9,HE⟩ B5))))
def D34:=HR XH 284 zcx F9 (HW Ac (Ab (cl:=(BA ⟨F9,HE⟩ B5))))
def NN:=Aj Xb 135 zes (Ak Ac Ab)
def D36:=Aj Xa 142 zia (Ak Ac Ab)
def D37:=Aj X9 149 zcq (Ak Ac Ab)
def D38:=Aj X8 156 zep (Ak Ac Ab)
def b7:=Aj X7 163 zdo (Ak Ac Ab)
def D40:=Aj Wq 391 zbx (Ak (AZ NN Ac) Ab)
def D41:=Aj Wn 408 zdm (Ak Ac Ab)
def D42:=Aj Wo 401 zcw (Ak (AZ NN Ac) Ab)
def D43:=Aj Wp 396 zcr (Ak (AZ b7 (AZ D40 (AZ D42 (AZ D41 Ac)))) Ab)
def D44:=Aj XX 217 zbh (Ak (AZ D36 (AZ NN Ac)) Ab)
def D45:=Aj Ws 384 zak (Ak Ac (Ab (mt:=(BA ⟨by decide,⟨D34⟩⟩ (BA ⟨by decide,⟨cA⟩⟩ B5)))))
def D46:=Aj Xe 120 za4 (Ak Ac Ab)
def D47:=Aj Xc 128 zdr (Ak (AZ D8 (AZ D46 Ac)) Ab (hex:=(BA zew B5)) (b:=λs us X hl=>Kt (P:=λus=>BindsTo s _ ⟨us,[]⟩ (List.zip _ (us++_))) (λ_ _=>binds_K X rfl (show(fr w).lookup 121=some (Xd w.params) by ext) rfl rfl rfl) us (by simpa using hl)))
def D48:=dfC X3 189 zcp (ayU Ac Ab)
def D49:=Aj X4 182 zay (Ak Ac Ab (hms:=(zhf (by decide) D48 J5)))
def D50:=Aj X5 175 zct (Ak (AZ D37 (AZ D38 Ac)) Ab)
def D51:=Aj X6 170 zel (Ak Ac Ab)
theorem za8:∃u v,mg "MOST_ROAD_DOORS"=some u/\A8 v u/\∀F:Hp,Rp (fr w) F F IM v R0:=⟨(.int (200) 715),(.int 200),q.c _ _ (by ext),⟨_,rfl⟩,λF=>.int _⟩
def b6:=Aj Wm 415 zbw (Ak (AZ D8 Ac) (Ab (co:=(Ci za8 C6)) (cl:=(BA ⟨F9,HE⟩ B5)) (mt:=(BA ⟨by decide,⟨D32⟩⟩ (BA ⟨by decide,⟨b8⟩⟩ B5)))) (hex:=(BA zin B5)))
def b5:=Aj Wk 429 zcu (Ak Ac (Ab (cl:=(BA ⟨F9,HE⟩ B5)) (mt:=(BA ⟨by decide,⟨b8⟩⟩ B5))))
def b4:=Aj Wl 422 zen (Ak (AZ b6 (AZ b5 Ac)) Ab)
def bZ:=Aj Wj 436 zcs (Ak (AZ D44 Ac) Ab)
def D56:=Aj Wi 443 zbe (Ak (AZ b9 (AZ NN (AZ bZ Ac))) (Ab (mt:=(BA ⟨by decide,⟨D31⟩⟩ B5))))
def bY:=Aj Wh 448 zbg (Ak (AZ b6 (AZ b9 (AZ D56 (AZ bZ (AZ D45 (AZ b5 Ac)))))) (Ab (cl:=(BA ⟨F9,HE⟩ B5)) (mt:=(BA ⟨by decide,⟨cB⟩⟩ (BA ⟨by decide,⟨D33⟩⟩ B5)))))
def SA:=Aj Wf 460 zco (Ak (AZ D51 Ac) Ab)
def bX:=Aj We 467 zbi (Ak (AZ bY (AZ D49 (AZ D50 (AZ SA Ac)))) Ab)
def bW:=Aj Wd 472 zfy (Ak (AZ bX (AZ SA (AZ D47 Ac))) Ab)
def D61:=Aj Wc 479 zfx (Ak (AZ bW Ac) Ab)
def D62:=Aj Wb 486 zem (Ak (AZ bX (AZ SA Ac)) Ab)
def D63:=Aj Wa 493 zbf (Ak (AZ bW Ac) Ab)
def D64:=Aj Wg 453 zcn (Ak (AZ bY (AZ b7 (AZ D43 Ac))) Ab)
def D65:=Aj WY 553 zid (Ak Ac Ab)
def D66:=Aj WW 567 zic (Ak Ac Ab)
def D67:=Aj WX 560 zeu (Ak Ac Ab)
def D68:=Aj WV 574 zg2 (Ak (AZ b4 (AZ D64 (AZ D61 (AZ D62 (AZ D63 Ac))))) Ab)
def D69:=Aj WU 581 zds (Ak (AZ D68 Ac) (Ab (xs:=(Ci (xs_of NO (by ext)) C6)) (sb:=(Ci ⟨24,q.c _ _ (by ext),JI eK (by ext)⟩ (Ci ⟨92,q.c _ _ (by ext),JI eK (by ext)⟩ (Ci ⟨80,q.c _ _ (by ext),JI eK (by ext)⟩ (Ci ⟨104,q.c _ _ (by ext),JI eK (by ext)⟩ C6))))) (sv:=(Ci ⟨q.n "ValueError" (by ext),"ValueError",by ext,JI eK (by ext)⟩ C6)) (x2:=(λ_ _ _ h=>by cases Û.mp h;exact⟨NO,SF,(Ci ⟨by rfl,by ext,by ext⟩ C6)⟩))))
def D70:=Aj WS 588 zpb (Ak (AZ D26 (AZ D19 (AZ D65 (AZ b4 (AZ D1 (AZ D67 (AZ D66 (AZ D69 Ac)))))))) Ab)
end
theorem all_mk{w:World}{h:Heap}{mg:Str->Option Value}{fa:Addr}(X:(IW w.params).In h)(G:h.Ns mainGlobals mg)(hfa:mg "law"=some (.ref fa))
  : ∃fd:FuncData,(∀(s:Shared) (v:Value),BindsTo s fd ⟨[v],[]⟩ [("_law_script",v)])/\∀base:Heap,(IW w.params).In base->base.Ns mainGlobals mg->FnOk pw w (IW w.params) mg base Ki 13 fa fd ["_law_script"] (LK (IW w.params)):=by
 have e:=hfa.symm.trans (mg_of X G (show nsIn (fr w) mainGlobals "law"=some (some (.ref 588)) by ext))
 cases e;refine⟨gF "law" "law" Nu .none "law_zonewalk_k51_rooms_of_roads" 838 587 .none,λs v=>.of_eq rfl,λbase _ _=>?_⟩
 have q:Qx pw w (fr w) mg base ca:=⟨λ_ _ e=>mg_of X G e,λ_ e=>mg_none_of X G e⟩
 exact zog (D70 (mg:=mg)).ok λns h=>law_true ns h
theorem walk{l:PySem.W.OpenLaw}{q:Program}{loose:kE}{XP:(Str->Option Value)->Heap->Prop}{YP:World->Heap->Prop}{d:DefRec}{K:Params->k6}(hn:l.most=some 63)(hdf:d.params.defaults=[])
  (hY:∀(w:World) (h:Heap),YP w h->(K w.params).In h)
  (F : ∀ (w : World) (mg : Str -> Option Value) (fa : Addr) (h : Heap), (K w.params).In h -> h.Ns mainGlobals mg -> mg d.name = some (.ref fa) ->
   ∃fd:FuncData,(∀(s:Shared) (u:Value),BindsTo s fd ⟨[u],[]⟩ [("_law_script",u)])/\∀base:Heap,(K w.params).In base->base.Ns mainGlobals mg->FnOk l.prog w (K w.params) mg base Ki 13 fa fd ["_law_script"] (LK (K w.params))) :
  PySem.W.WalkO q loose XP YP l.row.toRowW d [] (λf vs=>PySem.call f vs):=
 L2.walk_of (n:=63) (k:=13) (x:="_law_script") (CX:=λ_=>Ki) (sp:=λw=>LK (K w.params)) hn (by decide) hdf ⟨rfl,by decide,by decide⟩ hY F (λ_ _ a ns hl hO hS=>⟨a,ns,rfl,GG.of hO hS,hl,λ_=>rfl⟩) λ_ _ _ _ _ z=>z
end Zl
open PySem PySem.W PyProof.Rows
set_option maxRecDepth 100000 in
set_option maxHeartbeats 0 in
theorem PySem.Challenge.cw_zonewalk_k51_rooms_of_roads_holds : PySem.Challenge.rw_zonewalk_k51_rooms_of_roads.Holds := by
 refine holds_law Zl.said λs=>?_
 refine holds_open (q:=Zl.vq) (loose:=Zl.loo) (Xt:=Hd.xt PySem.Challenge.rw_zonewalk_k51_rooms_of_roads.row.toRowW Zl.vq) (XP:=XL Zl.vq []) (Yf:=Zl.hk.obs) (Ya:=Zl.hk.val) (YP:=Zl.hk.says) Zl.left Zl.hk.of Zl.hk.keeps (λs e=>xl_of s (Bool.and_eq_true_iff.mp e).1) XL.keeps (by rfl) (by rfl) (by rfl) (λs e=>recFacts_of (Bool.and_eq_true_iff.mp e).2) (by rfl) s (by decide +kernel) ⟨rfl,rfl,rfl,rfl,rfl,by decide +kernel⟩ ?hw ?hc
 case hw=>w_witness2
 case hc=>exact Zl.walk (l:=PySem.Challenge.rw_zonewalk_k51_rooms_of_roads) rfl rfl (λw h Y=>kIn_of Y) λw mg fa h X G e=>Zl.all_mk X G e
end
