import PyProof.Rows.All
import Wide.All
import OpenK.AllK
import Wide.FinOn
import Lean
import PyProof.EqAt
import PyProof.EqKinds
import PyProof.TupleCall
import PySem.Challenge.RW_zonewalk_k34_whole_runs_put_together
set_option compiler.extract_closed false
set_option bootstrap.genMatcherCode false
set_option linter.all false
def À:=@List.length_map
def Â:=@List.getElem?_eq_getElem
def Å:=@List.mem_cons_of_mem
def Ã:=@List.mem_cons_self
def Ì:=@PySem.Heap.get?_push_of_some
def Ô:=@List.getD_eq_getElem?_getD
def Ä:=@List.getElem?_map
def Õ:=@List.getElem?_eq_some_iff
def Ê:=@Bool.and_eq_true
def Í:=@List.mem_singleton
def Æ:=@PySem.Heap.lt_size
def Ë:=@List.mem_map
def Ø:=@List.length_append
def Ú:=@List.mem_of_getElem?
def È:=@Nat.le_refl
def Ï:=@List.mem_cons
def à:=@Option.map_eq_some_iff
def Ò:=@List.map_cons
def Ó:=@Nat.le_trans
def Û:=@List.mem_flatMap
def ã:=@List.getElem?_set_ne
def á:=@Nat.lt_of_lt_of_le
def Ý:=@List.length_cons
def Þ:=@List.all_eq_true
def Ö:=@Nat.ne_of_lt
def ß:=@List.map_append
def ä:=@List.flatMap_cons
def é:=@List.mem_append_right
def í:=@List.getElem?_set_self
def æ:=@PySem.Heap.get?_push_size
def â:=@List.mem_range
def Ü:=@List.map_map
def å:=@List.length_nil
def Ð:=@Ne.symm
def ç:=@List.append_nil
def ñ:=@List.length_singleton
def ò:=@List.getElem?_eq_none
def ê:=@List.getElem_mem
def ø:=@Int.fmod_nonneg_of_pos
def ï:=@List.not_mem_nil
def ë:=@List.mem_append
def ì:=@Option.some.inj
def ù:=@List.contains_iff_mem
def ó:=@Bool.false_ne_true
def ć:=@List.getElem?_append_left
def ô:=@List.length_range
def î:=@Nat.lt_irrefl
def Ġ:=@List.findIdx?_eq_some_iff_getElem
def ú:=@List.nil_append
def ę:=@List.getElem?_append_right
def û:=@PySem.W.kia_one
def Ā:=@Int.fmod_lt_of_pos
def ď:=@PySem.Heap.get?_update_other
def ü:=@Option.getD_some
def ā:=@List.size_toArray
def ý:=@List.mem_filter
def Ă:=@Option.map_some
def ă:=@List.length_take
def ġ:=@PySem.F.excBase_ValueError
def Đ:=@PySem.W.hideAll_get
def đ:=@PySem.mem_of_lookup
def Ĉ:=@List.length_set
def Ě:=@List.pairwise_flatMap
def ĉ:=@List.lookup_cons
def Ē:=@List.zip_cons_cons
def õ:=@Nat.zero_le
def ē:=@List.ext_getElem?
def Ĕ:=@List.append_assoc
def į:=@PyProof.Rows.callWith_type1
def Ċ:=@List.nodup_cons
def İ:=@Array.getElem?_eq_some_iff
def ě:=@PySem.W.of_hideAll
def ċ:=@PySem.Heap.size_push
def ı:=@Array.getElem?_eq_getElem
def Ĳ:=@List.getElem?_zip_eq_some
def Ģ:=@List.mem_append_left
def ģ:=@Bool.or_eq_false_iff
def ĳ:=@Int.eq_ofNat_of_zero_le
def Ĥ:=@List.getElem?_range
def ĥ:=@List.map_congr_left
def Ĝ:=@List.take_length
def Ą:=@Nat.le_succ
def Ħ:=@List.mem_filterMap
def Ĵ:=@PySem.Heap.get?_update_self
def ĝ:=@Bool.or_eq_true
def ĵ:=@List.mem_iff_getElem?
def Ķ:=@PySem.W.hideAll_none
def Ō:=@List.drop_eq_getElem_cons
def ķ:=@List.getElem?_of_mem
def ħ:=@Nat.lt_succ_self
def ō:=@List.getElem?_take_of_lt
def Ŏ:=@PySem.F.slot_str_getitem
def ĸ:=@List.length_pos_iff
def Ū:=@List.getElem?_cons_succ
def ŏ:=@Option.bind_eq_some_iff
def Ĺ:=@PySem.W.callWith_K
def ĺ:=@List.getElem?_drop
def Ő:=@Bool.false_eq_true
def ő:=@PyProof.Rows.boot_list
def Ļ:=@Bool.not_eq_true'
def ļ:=@Nat.lt_succ_of_lt
def Ľ:=@List.nodup_append
def ľ:=@List.pairwise_map
def Œ:=@List.cons_append
def Ŀ:=@Option.bind_some
def ŀ:=@List.flatMap_nil
def œ:=@List.mem_of_mem_take
def Ł:=@List.nodup_range
def ū:=@List.exists_cons_of_ne_nil
def Ŭ:=@List.mem_of_find?_eq_some
def ŭ:=@Option.isSome_iff_exists
def Ŕ:=@PySem.Obj.data_mapFields
def ŕ:=@List.contains_cons
def Ŗ:=@PySem.Code.quiet_builtin
def Ĩ:=@PySem.F.called_set
def ŗ:=@Nat.add_sub_cancel
def ł:=@Int.mul_nonneg
def Ů:=@List.getElem?_replicate
def ů:=@PySem.F.plainAttrs_list
def Ű:=@PyProof.Rows.F.plain_set_update_loop
def ű:=@PyProof.V.reads_dictOf
def Ų:=@PySem.SeqAt.notIn_list_reads
def Ń:=@List.cons.inj
def ń:=@Int.ofNat.inj
def Ņ:=@Int.mul_assoc
def Ř:=@List.getElem_inj
def ų:=@List.length_replicate
def Ŵ:=@PySem.Obj.isFreed_of_fields
def ņ:=@Nat.lt_trans
def Ň:=@Nat.le_of_lt
def ŵ:=@PySem.Heap.get?_none_of_le
def ř:=@List.of_mem_zip
def ň:=@Int.mul_comm
def Ś:=@List.length_zip
def ś:=@Bool.eq_iff_iff
def Ŝ:=@List.map_nil
def Ŷ:=@PySem.W.plainGet_of
def ŷ:=@PySem.SeqAt.in_list_reads
def Ÿ:=@Int.lt_of_le_of_lt
def Ź:=@PySem.F.called_enumerate
def ź:=@List.findIdx?_cons
def Η:=@List.set_cons_succ
def ŝ:=@PySem.Paired.length
def Ż:=@Bool.and_true
def ż:=@PySem.W.kitx_dict
def Θ:=@Option.some.injEq
def Ι:=@Int.toNat_natCast
def Ž:=@List.mem_range'_1
def ž:=@Nat.succ_le_succ
def Ş:=@Nat.ne_of_gt
def ş:=@PySem.Txt.slice_le
def ſ:=@List.cons_ne_nil
def Š:=@Nat.add_comm
def š:=@List.map_set
def Ţ:=@List.map_id'
def Ù:=@decide_eq_false
def è:=@PySem.wpAny_mono
def Č:=@PySem.wpAny_truthy_bool
def ĩ:=@PySem.wpAny_execs_nil
def Α:=@PyProof.Rows.assignInOrder_cons
def Á:=@PySem.wpAny_bind
def ð:=@PySem.wpAny_holding
def ĕ:=@PySem.wpAny_standAt
def Ç:=@PySem.wpAny_pure
def Β:=@PySem.wpAny_newObj_type
def Ğ:=@PySem.wpAny_passesOwn
def Ī:=@PySem.wpAny_pyIter_list
def č:=@PySem.sizeLine_eq
def Κ:=@PySem.plainObj_wpAny_Assign_Attribute
def ğ:=@PySem.wpAny_Call_Name_kw
def ī:=@PySem.typeIs_str
def Î:=@if_true
def ŉ:=@PySem.call_meets
def ą:=@PySem.codeAny_mono
def Ñ:=@decide_eq_true
def ţ:=@PySem.wpAny_setField
def Ė:=@PySem.wpAny_field
def Ď:=@PySem.wpAny_call
def Ĭ:=@beq_iff_eq
def ĭ:=@PySem.wpAny_loadPart_at
def Δ:=@PySem.wpAny_isSubtype_exc
def ö:=@decide_eq_true_eq
def Ε:=@PySem.wpAny_pyIter_enum
def þ:=@or_false
def Ť:=@PySem.pushCells_keeps
def Į:=@of_decide_eq_true
def É:=@if_false
def ť:=@PySem.wpAny_loadPart'
def Ŧ:=@PySem.codeAny_builtin
def Ŋ:=@PySem.codeAny_call_builtin
def ė:=@PySem.wpAny_of_eq
def ÿ:=@beq_self_eq_true
def Ć:=@PySem.wpAny_ite_false
def Ζ:=@PySem.wpAny_isInstance
def ŧ:=@PySem.wpAny_getItem_str_slice
def Ũ:=@PySem.post_val_or_str
def ũ:=@PySem.W.looks_findIn
def ŋ:=@beq_eq_false_iff_ne
def Ę:=@PySem.W.binds_K
noncomputable section
abbrev k7:=List (PySem.Str×List Int)
abbrev k8:=List (Nat×Nat)
abbrev k9:=List PySem.Value
abbrev kA:=Option Int
abbrev kC:=List PySem.Expr
abbrev kD:=List PySem.Stmt
abbrev kE:=List PySem.Str
abbrev kF:=List Int
abbrev kG:=List Nat
local macro_rules|`(tactic|ext)=>`(tactic|kernel_rfl)
local macro_rules|`(tactic|erw [$rs,*] $[$l:location]?)=>do let ts:=rs.getElems.map fun r=>(⟨r.raw[1]⟩:Lean.TSyntax `term);`(tactic|simp only [$[$ts:term],*] $[$l]?)
abbrev k6:=PySem.W.Frag
set_option Elab.async false
set_option linter.all false
set_option maxRecDepth 100000
set_option genSizeOf false
set_option genInjectivity false
local macro_rules
  |`(tactic| omega)=>`(tactic| first
    |assumption
    |exact Ó (by assumption) (by decide +kernel)
    |exact á (by assumption) (by decide +kernel)
    |exact Nat.lt_of_le_of_lt (by assumption) (by decide +kernel)
    |exact Nat.succ_pos _
    |exact á (by assumption) (ž (Ó (by assumption) (by decide +kernel)))
    |exact ž (Ó (by assumption) (by decide +kernel))
    |exact ņ (by assumption) (by assumption)
    |exact á (by assumption) (by assumption)
    |exact Int.lt_trans (b:=0) (by decide +kernel) (by assumption)
    |exact Int.lt_of_lt_of_le (b:=0) (by decide +kernel) (by assumption)
    |exact Ÿ (by assumption) (by decide +kernel)
    |exact Int.le_trans (by assumption) (by decide +kernel)
    |exact Int.le_of_lt (by assumption)
    |exact Int.ne_of_gt (by assumption)
    |lia
    |fail)
namespace L2
open PySem PySem.Spec PyProof.Rows
abbrev Key:=Sum Int Str
noncomputable def G7:Key->Value->Bool
 |.inl k,v=>Value.isInt k v|.inr x,v=>Value.isStrOf x v
def keyH(w:World):Key->Int
 |.inl k=>hashInt k|.inr x=>hashStr w x
theorem Ez:∀{k} {v},G7 k v=true->(∃i t,k=Sum.inl i/\v=Value.int i t)\/(∃x t,k=Sum.inr x/\v=Value.str x t)
 |.inl i,v,h=>by
  obtain⟨t,e⟩:=Value.isInt_shape h
  grind
 |.inr x,v,h=>by
  obtain⟨t,e⟩:=Value.isStrOf_shape h
  grind
theorem Λ(i)(t):G7 (.inl i) (.int i t)=true:=by simp[G7,Value.isInt]
theorem Μ(x)(t):G7 (.inr x) (.str x t)=true:=by simp[G7,Value.isStrOf]
theorem Ν(a b:Int):decide ((Sum.inl a:Key)=Sum.inl b)=(a == b):=by
 grind
theorem Ξ(a b:Str):decide ((Sum.inr a:Key)=Sum.inr b)=decide (a=b):=by
 simp
theorem Ο(a:Int)(b:Str):decide (Sum.inl a=Sum.inr b)=false:=Ù (λq=>nomatch q)
theorem Ρ(a:Str)(b:Int):decide (Sum.inr a=Sum.inl b)=false:=Ù (λq=>nomatch q)
def DZ(prog:Program)(w:World):PySem.KeyKind prog w Key where
 is:=G7
 hash:=keyH w
 inj:=λv a b ha hb=>by
  rcases Ez ha with ⟨i,t,rfl,rfl⟩|⟨x,t,rfl,rfl⟩
  .rcases Ez hb with ⟨j,u,rfl,e⟩|⟨y,u,rfl,e⟩
   .injection e with e1 _;rw[e1]
   .exact nomatch e
  .rcases Ez hb with ⟨j,u,rfl,e⟩|⟨y,u,rfl,e⟩
   .exact nomatch e
   .injection e with e1 _;rw[e1]
 byValue:=λk v h=>by
  rcases Ez h with ⟨i,t,rfl,rfl⟩|⟨x,t,rfl,rfl⟩<;>rfl
 pyHash:=λhv h=>by
  rcases Ez hv with ⟨i,t,rfl,rfl⟩|⟨x,t,rfl,rfl⟩
  .exact wpAny_pyHash_int h
  .exact wpAny_pyHash_str h
 eqBool:=λhu hv h=>by
  rcases Ez hu with ⟨i,t,rfl,rfl⟩|⟨x,t,rfl,rfl⟩
  .rcases Ez hv with ⟨j,u,rfl,rfl⟩|⟨y,u,rfl,rfl⟩
   .rw[Ν]at h;exact wpAny_eqBool_int h
   .rw[Ο]at h;exact SeqAt.EqAt.int_str i t y u _ _ _ _ h
  .rcases Ez hv with ⟨j,u,rfl,rfl⟩|⟨y,u,rfl,rfl⟩
   .rw[Ρ]at h;exact SeqAt.EqAt.str_int x t j u _ _ _ _ h
   .rw[Ξ]at h;exact wpAny_eqBool_str h
 «strs»:=λk x t v h=>by
  rcases Ez h with ⟨i,u,rfl,e⟩|⟨y,u,rfl,e⟩
  .exact nomatch e
  .injection e with e1 _
   subst e1;cases v<;>rfl
theorem Τ(prog)(w)(i)(t):(DZ prog w).is (.inl i) (.int i t)=true:=Λ i t
theorem Υ(prog)(w)(x)(t):(DZ prog w).is (.inr x) (.str x t)=true:=Μ x t
set_option genInjectivity true in
inductive V where
 |non|bl (b:Bool)|int (i:Int)|str (x:Str)|byt (b:Array UInt8)|flt (b:UInt64)|ref (a:Addr)|ty (n:String)
 deriving DecidableEq
abbrev kK:=List V
def Ab:V->Value->Prop
 |.non,u=>u=Value.none|.bl b,u=>u=Value.bool b|.int i,u=>∃t,u=Value.int i t|.str x,u=>∃t,u=Value.str x t|.byt b,u=>∃t,u=Value.bytes b t|.flt b,u=>∃t,u=Value.float b t|.ref a,u=>u=Value.ref a|.ty n,u=>u=Value.type n
abbrev Al:kK->k9->Prop:=Paired Ab
theorem Al.length(r:Al xs us):xs.length=us.length:=ŝ r
theorem Al.get:∀{xs} {us} {i:Nat} {x},Al xs us->xs[i]?=some x->∃u,us[i]?=some u/\Ab x u
 |_,_,_,_,.nil,e=>by simp at e|_,_,0,_,.cons r _,e=>by grind|_,_,i+1,x,.cons _ t,e=>by
  obtain⟨u,h1,h2⟩:=Al.get t (by simpa using e)
  grind
theorem Al.set(r:Ab x u):∀{xs} {us} (i),Al xs us->Al (xs.set i x) (us.set i u)
 |_,_,_,.nil=>.nil|_,_,0,.cons _ t=>.cons r t|_,_,i+1,.cons q t=>.cons q (Al.set r i t)
theorem Al.append{xs ys us ws}(h:Al xs us)(s:Al ys ws):Al (xs++ys) (us++ws):=by
 induction h with
 |nil=>exact s
 |cons r _ ih=>exact .cons r ih
theorem Al.take:∀{xs} {us} (n),Al xs us->Al (xs.take n) (us.take n)
 |_,_,0,_=>.nil|_,_,_+1,.nil=>.nil|_,_,n+1,.cons r t=>.cons r (Al.take n t)
theorem Al.drop:∀{xs} {us} (n),Al xs us->Al (xs.drop n) (us.drop n)
 |_,_,0,r=>r|_,_,_+1,.nil=>.nil|_,_,n+1,.cons _ t=>Al.drop n t
theorem Al.none_of:∀{i:Nat},Al xs us->xs[i]?=none->us[i]?=none:=λr e=>by
 have h1:=r.length
 grind
def EB:Option V->Option Value->Prop
 |some v,some u=>Ab v u|none,none=>True|_,_=>False
def KV{κ:Type}:List (κ×V)->List (κ×Value)->Prop:=Paired λ(p:κ×V) (q:κ×Value)=>p.1=q.1/\Ab p.2 q.2
def kV:Key->V
 |.inl i=>.int i|.inr x=>.str x
set_option genInjectivity true in
inductive HO where
 |lst (xs:List V)
 |tup (xs:List V)
 |dK (kvs:List (Key×V))|dT (kvs:List (List Key×V))
 |set (S:Int->Bool) (n:Nat)
 |ins (C dx:Addr) (fs:List (Str×V))
 |own (x:Addr)
 |xd (fs:List (Str×V))
 |met (f x:Addr)
 |rng (lo hi:Int)
 |frz (o:Obj) (u:HO)
 |tbl (ps:Array Value)
 |ext (φ:Heap->Prop)
abbrev Hp:=Addr->Option HO
noncomputable def upd(H:Hp)(a:Addr)(o:HO):Hp:=λb=>if b=a then some o else H b
theorem Bj{H:Hp}{a:Addr}{o:HO}:upd H a o a=some o:=by unfold upd;simp
theorem Ag(h:b≠a):upd H a o b=H b:=by unfold upd;rw[if_neg h]
theorem ne_of{H:Hp}   (h:H a=some o)(h':H b=some u)(d:o≠u):a≠b:=by
 grind
theorem Bt{H:Hp}(h:H a=some o)(h':H b=none):a≠b:=by
 grind
section
variable (P:Program)(w:World)
def Cf(H:Hp)(h:Heap)(a:Addr):HO->Prop
 |.lst xs=>xs.length<=sizeLine/\∃(its:k9) (n:Nat),Al xs its/\h.get? a=some { cls:=.type "list",data:=.seq its.toArray n }|.tup xs=>xs.length<=sizeLine/\∃its:k9,Al xs its/\IsTup h a its.toArray|.dK kvs=>kvs.length<=sizeLine/\(a == sysModules)=false/\∃vs,KV kvs vs/\h.DictOf (DZ P w) a vs|.dT kvs=>kvs.length<=sizeLine/\(a == sysModules)=false/\∃xs:List (List Key×Addr×Value),
   Paired (λ(p:List Key×V) (q:List Key×Addr×Value)=>p.1=q.1/\H q.2.1=some (.tup (p.1.map kV))/\Ab p.2 q.2.2) kvs xs /\
   ∃o es ep,h.get? a=some o/\o.ExactDict/\o.data=.dict es ep/\es.toList=xs.map (entryOfKey (tupleKind (DZ P w)))/\(xs.map (·.1)).Nodup
 |.set S n=>h.SetOf (intKind P w) a S n|.ins C dx fs=>H dx=some (.own a)/\fs.length<=1000/\dx≠a/\h.get? a=some (W.instObj C dx) /\
   ∃mA,h.Ns1 dx mA/\(∀f,EB (fs.lookup f) (mA f))/\PySem.Within mA (fs.map (·.1))
 |.own _=>∃o,h.get? a=some o|.xd fs=>∃mA,h.Ns1 a mA/\∀f,EB (fs.lookup f) (mA f)|.rng lo hi=>∃t u v,h.get? a=some { cls:=.type "range",data:=.fields #[.int lo t,.int hi u,.int 1 v] }|.frz o u=>h.get? a=some o/\Cf H h a u|.tbl ps=>h.get? a=some { cls:=.none,data:=.fields ps }|.met f x=>h.get? a=some (W.methodObj (.ref f) (.ref x))|.ext φ=>φ h/\(∃o,h.get? a=some o)/\∀h1 h2:Heap,φ h1->(∀o,h1.get? a=some o->h2.get? a=some o)->φ h2
def HOk(H:Hp)(h:Heap):Prop:=∀a o,H a=some o->Cf P w H h a o
end
section
variable {P:Program}{w:World}{H H':Hp}{h h':Heap}{a:Addr}{o:HO}
theorem Cf.lt(x:Cf P w H h a o):a<h.objs.size:=by
 cases o with
 |lst xs=>obtain⟨_,_,_,_,e⟩:=x;exact Æ e
 |tup xs=>obtain⟨_,_,_,p⟩:=x;exact p.lt
 |dK kvs=>obtain⟨_,_,_,_,o,_,_,e,_⟩:=x;exact Æ e
 |dT kvs=>obtain⟨_,_,_,_,o,_,_,e,_⟩:=x;exact Æ e
 |set S n=>obtain⟨o,_,_,_,e,_⟩:=x;exact Æ e
 |ins C dx fs=>obtain⟨_,_,_,e,_⟩:=x;exact Æ e
 |own y=>obtain⟨_,e⟩:=x;exact Æ e
 |xd fs=>obtain⟨_,⟨_,_,_,e,_⟩,_⟩:=x;exact Æ e
 |rng lo hi=>obtain⟨_,_,_,e⟩:=x;exact Æ e
 |frz ob u=>obtain⟨e,_⟩:=x;exact Æ e
 |tbl ps=>exact Æ (x)|met f y=>exact Æ (x)|ext φ=>obtain⟨_,⟨_,e⟩,_⟩:=x;exact Æ e
theorem Paired.mapP{l₁ l₂}(h:Paired F l₁ l₂)(f:∀a b,F a b->G a b):Paired G l₁ l₂:=by
 induction h with
 |nil=>exact .nil
 |cons r _ ih=>exact .cons (f _ _ r) ih
theorem Cf.stay(x:Cf P w H h a o)(k:∀b u,(b=a\/H b=some (.own a))->h.get? b=some u->h'.get? b=some u)
  (ho:∀b,H b=some (.own a)->H' b=some (.own a)) (ht:∀b xs,H b=some (.tup xs)->H' b=some (.tup xs)):Cf P w H' h' a o:=by
 induction o with
 |lst xs=>obtain⟨z,its,n,r,e⟩:=x;exact⟨z,its,n,r,k _ _ (.inl rfl) e⟩
 |tup xs=>obtain⟨z,its,r,ob,e,c⟩:=x;exact⟨z,its,r,ob,k _ _ (.inl rfl) e,c⟩
 |dK kvs=>obtain⟨z,y,vs,r,ob,es,ep,e,c⟩:=x;exact⟨z,y,vs,r,ob,es,ep,k _ _ (.inl rfl) e,c⟩
 |dT kvs=>obtain⟨z,y,xs,r,ob,es,ep,e,c⟩:=x;exact⟨z,y,xs,Paired.mapP r λp q z=>⟨z.1,ht _ _ z.2.1,z.2.2⟩,ob,es,ep,k _ _ (.inl rfl) e,c⟩
 |set S n=>obtain⟨ob,es,ep,t,e,c⟩:=x;exact⟨ob,es,ep,t,k _ _ (.inl rfl) e,c⟩
 |ins C dx fs=>obtain⟨d,z,ne,e,mA,⟨od,es,ep,e2,c⟩,r⟩:=x;exact⟨ho _ d,z,ne,k _ _ (.inl rfl) e,mA,⟨od,es,ep,k _ _ (.inr d) e2,c⟩,r⟩
 |own y=>obtain⟨ob,e⟩:=x;exact⟨ob,k _ _ (.inl rfl) e⟩
 |xd fs=>obtain⟨mA,⟨od,es,ep,e,c⟩,r⟩:=x;exact⟨mA,⟨od,es,ep,k _ _ (.inl rfl) e,c⟩,r⟩
 |rng lo hi=>obtain⟨t,u,v,e⟩:=x;exact⟨t,u,v,k _ _ (.inl rfl) e⟩
 |frz ob u ih=>obtain⟨e,q⟩:=x;exact⟨k _ _ (.inl rfl) e,ih q⟩
 |tbl ps=>have e :=x;exact k a _ (.inl rfl) e|met f y=>have e :=x;exact k a _ (.inl rfl) e|ext φ=>obtain⟨p,⟨o,e⟩,st⟩:=x;exact⟨st _ _ p λo q=>k _ _ (.inl rfl) q,⟨o,k _ _ (.inl rfl) e⟩,st⟩
theorem HOk.lt(x:HOk P w H h)(e:H a=some o):a<h.objs.size:=(x a o e).lt
theorem HOk.fresh(x:HOk P w H h)(e:h.objs.size<=a):H a=none:=by
 cases q:H a with
 |none=>rfl|some u=>exact absurd (á (x.lt q) e) (î _)
theorem HOk.kept(x:HOk P w H h)(k:∀b u,h.get? b=some u->h'.get? b=some u):HOk P w H h':=λa o e=>
 (x a o e).stay (λb u _ q=>k b u q) (λ_ q=>q) λ_ _ q=>q
theorem HOk.laid(x:HOk P w H h)(k:∀b u,h.get? b=some u->h'.get? b=some u)(hp:h.objs.size<=a)(new:Cf P w (upd H a o) h' a o):HOk P w (upd H a o) h':=λb u e=>by
 have hn:=x.fresh hp
 by_cases hb:b=a
 .subst hb;rw[Bj]at e;grind
 .rw[Ag hb]at e;exact(x b u e).stay (λc v _ q=>k c v q) (λc q=>by rw[Ag (Bt q hn)];exact q) λc xs q=>by rw[Ag (Bt q hn)];exact q
end
def Rd(H:Hp)(a:Addr)(u:HO):Prop:=H a=some u\/∃o,H a=some (.frz o u)
theorem Rd.ok(r:Rd H a u)(x:HOk P w H h):Cf P w H h a u:=by
 rcases r with r|⟨o,r⟩
 .exact x a u r
 .obtain⟨_,q⟩:=x a _ r;exact q
def KZ:Option HO->Prop
 |some (.lst _)=>True|some (.dK _)=>True|some (.dT _)=>True|some (.set _ _)=>True|some (.ins _ _ _)=>True|some (.ext _)=>True|_=>False
section
variable {P:Program}{w:World}{H:Hp}{h h':Heap}{x e:Addr}{o':HO}
theorem HOk.write(ok:HOk P w H h)(mu:KZ (H x))(he:e=x\/H e=some (.own x))(k:∀b u,b≠e->h.get? b=some u->h'.get? b=some u)(heo:∃u,h'.get? e=some u)
  (new:Cf P w (upd H x o') h' x o'):HOk P w (upd H x o') h':=λb u q=>by
 have nown:∀c y,H c=some (.own y)->c≠x:=λc y r z=>by subst z;rw[r]at mu;exact mu
 have ntup:∀c xs,H c=some (.tup xs)->c≠x:=λc xs r z=>by subst z;rw[r]at mu;exact mu
 by_cases hb:b=x
 .subst hb;rw[Bj]at q;cases q;exact new
 .rw[Ag hb]at q
  by_cases hbe:b=e
  .have q':H b=some (.own x):=by
    grind
   rw[q]at q';cases q';obtain⟨v,hv⟩:=heo;exact⟨v,by rw[hbe];exact hv⟩
  .refine(ok b u q).stay (λc v hc r=>k c v ?_ r) (λc r=>by rw[Ag (nown c b r)];exact r) λc xs r=>by rw[Ag (ntup c xs r)];exact r
   grind
end
structure Un(fs ex:List Addr)(H H':Hp)(h h':Heap):Prop where
 keep:∀b o,h.get? b=some o->H b=none->b∉fs->b∉ex->h'.get? b=some o
 slot:∀b o,h.get? b=some o->H b=none->b∈fs->b∉ex->∃sl,h'.get? b=some { o with slots:=sl }
 free:∀b o,h.get? b=some o->H b=none->b∉ex->H' b=none
 there:∀b o,h.get? b=some o->b∉ex->∃o',h'.get? b=some o'
 tups:∀b xs,H b=some (.tup xs)->H' b=some (.tup xs)
 frzs:∀b o u,H b=some (.frz o u)->H' b=some (.frz o u)
 tbls:∀b ps,H b=some (.tbl ps)->∃more,H' b=some (.tbl (ps++more))
section
variable {fs fs' ex ex':List Addr}{H H1 H2:Hp}{h h1 h2 h':Heap}{a x e:Addr}{o:HO}
theorem Un.any(u:Un fs ex H H1 h h1)(q:h.get? b=some ob)(n:H b=none)(hx:b∉ex):∃sl,h1.get? b=some { ob with slots:=sl}:=by
 by_cases hb:b∈fs
 .exact u.slot b ob q n hb hx
 .exact⟨ob.slots,u.keep b ob q n hb hx⟩
theorem Un.kept(k:∀b u,h.get? b=some u->h'.get? b=some u):Un fs ex H H h h':=
 ⟨λb ob q _ _ _=>k b ob q,λb ob q _ _ _=>⟨ob.slots,k b ob q⟩,λ_ _ _ n _=>n,λb ob q _=>⟨ob,k b ob q⟩,λ_ _ q=>q,λ_ _ _ q=>q,λ_ ps q=>⟨#[],by rw[q];simp⟩⟩
theorem Un.refl:Un fs ex H H h h:=Un.kept λ_ _ q=>q
theorem Un.laid(k:∀b u,h.get? b=some u->h'.get? b=some u)(hp:h.objs.size<=a)(hn:H a=none):Un fs ex H (upd H a o) h h' where
 keep:=λb u q _ _ _=>k b u q
 slot:=λb u q _ _ _=>⟨u.slots,k b u q⟩
 free:=λb u q n _=>by rw[Ag (Ö (á (Æ q) hp))];exact n
 there:=λb u q _=>⟨u,k b u q⟩
 tups:=λb xs q=>by rw[Ag (Bt q hn)];exact q
 frzs:=λb u xs q=>by rw[Ag (Bt q hn)];exact q
 tbls:=λb ps q=>⟨#[],by rw[Ag (Bt q hn),q];simp⟩
theorem Un.write(mu:KZ (H x))(he:e=x\/H e=some (.own x))(k:∀b u,b≠e->h.get? b=some u->h'.get? b=some u)(heo:∃u,h'.get? e=some u):Un fs ex H (upd H x o) h h':=by
 have hx:∀b,H b=none->b≠x:=λb n z=>by subst z;rw[n]at mu;exact mu
 have hb:∀b,H b=none->b≠e:=λb n z=>by
  grind
 have hm:∀b u,H b=some u->¬ KZ (some u)->b≠x:=λb u q nm z=>by grind
 refine⟨λb u q n _ _=>k b u (hb b n) q,λb u q n _ _=>⟨u.slots,k b u (hb b n) q⟩,λb u q n _=>by rw[Ag (hx b n)];exact n,λb u q _=>?_,
  λb xs q=>by rw[Ag (hm b _ q λz=>z)];exact q,λb u xs q=>by rw[Ag (hm b _ q λz=>z)];exact q,λb ps q=>⟨#[],by rw[Ag (hm b _ q λz=>z),q];simp⟩⟩
 grind
end
def Ku(h:Heap)(H:Hp):List Addr:=(List.range h.objs.size).filter λa=>(H a).isSome
def Gc(h:Heap)(H:Hp):Heap:=W.hideAll h (Ku h H)
theorem Φ(h)(H):(Gc h H).objs.size=h.objs.size:=W.hideAll_size _ _
theorem Χ(e:h.get? b=some o)(n:H b=none):(Gc h H).get? b=some o:=
 Đ _ e λhm=>by
  have q :=(ý.mp hm).2
  grind
theorem Ψ(e:(Gc h H).get? b=some o):h.get? b=some o/\H b=none:=by
 have e' :=ě (Ku h H) e;refine⟨e',?_⟩;cases q:H b with
 |none=>rfl|some x=>
  have hm:b∈Ku h H:=ý.mpr ⟨â.mpr (Æ e'),by simp[q]⟩
  have z:(Gc h H).get? b=none:=Ķ (Ku h H) hm
  grind
structure Mod(K:k6)(mg:Str->Option Value)(base:Heap):Prop where
 kin:K.In base
 glob:base.Ns mainGlobals mg
 blt:∃mb,base.Ns builtinsNs mb/\∀x:Str,x≠"__name__"->mb x=bootBuiltins x
 nolimit:base.NoLimit
structure Cx where
 prog:Program
 w:World
 K:k6
 mg:Str->Option Value
 base:Heap
 A:Around
 N:kE
 s₀:Shared
 H₀:Hp
 env:Env
 outer:List Env
 stack:List Env
 ex:List Addr
 fn:Str->Bool
 calm:Bool
 pn:List (Addr×Obj)
 xe:Value->Shared->Prop
def BO(l:List Env):List Addr:=l.filterMap (·.frame)
abbrev Cx.fs(X:Cx):List Addr:=BO X.outer
def EA(sc:Scope)(x:Str):Prop:=sc.names.lookup x=some .local\/sc.names.lookup x=some .cell\/sc.names.lookup x=some .free
def Gk(sc:Scope)(x:Str):Prop:=sc.names.lookup x=some .local\/sc.names.lookup x=some .cell
def Look(env:Env)(h:Heap)(m:Str->Option Value)(x:Str)(u:Value):Prop:=
 (env.kindOf x=some .local/\m x=some u)\/((env.kindOf x=some .cell\/env.kindOf x=some .free)/\∃c,env.cells.lookup x=some c/\h.IsCell c (some u))
structure Cx.Ok(X:Cx):Prop where
 mod:Mod X.K X.mg X.base
 kind:X.env.scope.kind=.function
 glob:X.env.globals=mainGlobals
 blt:X.env.builtins=builtinsNs
 above:X.s₀.heap.objs.size<=X.env.locals
 inj:∀x y c,X.env.cells.lookup x=some c->X.env.cells.lookup y=some c->x=y
 has:∀x,(X.env.kindOf x=some .cell\/X.env.kindOf x=some .free)->∃c,X.env.cells.lookup x=some c
 cab:∀x c,X.fn x=true->X.env.cells.lookup x=some c->X.s₀.heap.objs.size<=c
 hd:X.calm=true->X.A.handled=none
 frames:X.A.frames=some X.stack
 stk:X.stack=X.outer\/(X.stack=X.env::X.outer/\X.env.frame=some X.env.locals)
 exf:∀b∈X.ex,b≠X.env.locals/\∀x c,X.env.cells.lookup x=some c->c≠b
 bs:∀b o,X.base.get? b=some o->X.s₀.heap.get? b=some o/\X.H₀ b=none
 bsz:X.base.objs.size<=X.s₀.heap.objs.size
 noex:∀b o,X.base.get? b=some o->b∉X.ex
 exfs:∀b∈X.ex,b∉X.fs
 funs:X.s₀.heap.FunFrames X.base X.outer
 frf:∀b∈X.fs,X.H₀ b=none
structure Inv(X:Cx)(pz:List (Addr×Obj))(σ:List (Option V))(H:Hp)(s:Shared):Prop where
 ok:X.Ok
 os:s.os=X.s₀.os
 bare:AllBare s.gens
 base:Un X.fs X.ex X.H₀ H X.s₀.heap s.heap
 loc:∃m,s.heap.Ns X.env.locals m/\∀(i:Nat) (x:Str) (v:V),X.N[i]?=some x->σ[i]?=some (some v)->EA X.env.scope x->∃u,Ab v u/\Look X.env s.heap m x u
 cell:∀x c,X.env.cells.lookup x=some c->∃v,s.heap.IsCell c v
 free:H X.env.locals=none
 freeC:∀x c,X.env.cells.lookup x=some c->H c=none
 pin:∀p∈X.pn++pz,s.heap.get? p.1=some p.2/\H p.1=none/\p.1≠X.env.locals/\p.1∉X.fs/\∀v,p.2.data≠.cell v
 hok:HOk X.prog X.w H s.heap
 len:σ.length=X.N.length
section
variable {X:Cx}{pz:List (Addr×Obj)}{σ:List (Option V)}{H H':Hp}{s:Shared}{h':Heap}
theorem Cx.Ok.nofr(ok:X.Ok)(e:X.base.get? b=some o):b∉X.fs:=λhb=>by
 have:=(ok.funs.mem hb).1
 grind
theorem Inv.bs(I:Inv X pz σ H s):∀b o,X.base.get? b=some o->s.heap.get? b=some o/\H b=none:=λb o e=>
 ⟨I.base.keep b o (I.ok.bs b o e).1 (I.ok.bs b o e).2 (I.ok.nofr e) (I.ok.noex b o e),I.base.free b o (I.ok.bs b o e).1 (I.ok.bs b o e).2 (I.ok.noex b o e)⟩
theorem Inv.bk(I:Inv X pz σ H s):∀b o,X.base.get? b=some o->s.heap.get? b=some o:=λb o e=>(I.bs b o e).1
theorem Inv.mod(I:Inv X pz σ H s):Mod X.K X.mg X.base:=I.ok.mod
theorem Inv.kIn(I:Inv X pz σ H s):X.K.In s.heap:=I.ok.mod.kin.keeps I.bk
theorem Inv.lt(I:Inv X pz σ H s):X.env.locals<s.heap.objs.size:=let ⟨_,hn,_⟩:=I.loc;hn.lt
theorem Inv.sz(I:Inv X pz σ H s):X.s₀.heap.objs.size<=s.heap.objs.size:=Ó I.ok.above (Ň I.lt)
theorem Inv.nofs(I:Inv X pz σ H s){a:Addr}(h:s.heap.objs.size<=a):a∉X.fs:=λhb=>by
 obtain⟨_,o,ho,_⟩:=I.ok.funs.mem hb;exact absurd (á (Æ ho) (Ó I.sz h)) (î _)
theorem Inv.cne(I:Inv X pz σ H s):∀x c,X.env.cells.lookup x=some c->c≠X.env.locals:=λx c e z=>by
 obtain⟨v,o,ho,hd⟩:=I.cell x c e;obtain⟨m,⟨o',es,ep,ho',hd',_⟩,_⟩:=I.loc
 grind
theorem Inv.funs(I:Inv X pz σ H s):s.heap.FunFrames X.base X.outer:=by
 have all:∀(l ),(∀b∈BO l,b∈X.fs)->X.s₀.heap.FunFrames X.base l->s.heap.FunFrames X.base l:=by
  intro l
  induction l with
  |nil=>intro _ _;trivial|cons env r ih=>
   intro hs hl;obtain⟨hk,⟨L,o,hf,hn,ho,hd⟩,hr⟩:=hl;have hL :=hs L (by unfold BO;grind)
   obtain⟨sl,e⟩:=I.base.slot L o ho (I.ok.frf L hL) hL λz=>I.ok.exfs L z hL
   exact⟨hk,⟨L,_,hf,hn,e,hd⟩,ih (λb hb=>hs b (by unfold BO;rw[List.filterMap_cons,hf];exact Å _ hb)) hr⟩
 exact all X.outer (λ_ hb=>hb) I.ok.funs
theorem Inv.stack(I:Inv X pz σ H s):s.heap.FunFrames X.base X.stack:=by
 rcases I.ok.stk with e|⟨e,hf⟩
 .rw[e];exact I.funs
 .rw[e];obtain⟨m,hn,_⟩:=I.loc;refine .cons (by rw[I.ok.kind];decide) hf hn ?_ I.funs
  exact ŵ (Ó I.ok.bsz I.ok.above)
theorem Inv.stkSub(I:Inv X pz σ H s):∀b∈BO X.stack,b∈X.env.locals::X.fs:=λb hb=>by
 rcases I.ok.stk with e|⟨e,hf⟩
 .grind
 .rw[e]at hb;unfold BO at hb;rw[List.filterMap_cons,hf]at hb;exact hb
theorem Inv.stkFree(I:Inv X pz σ H s):∀b∈BO X.stack,H b=none:=λb hb=>by
 rcases Ï.mp (I.stkSub b hb) with e|hb
 .rw[e];exact I.free
 .obtain⟨_,o,ho,_⟩:=I.ok.funs.mem hb;exact I.base.free b o ho (I.ok.frf b hb) λz=>I.ok.exfs b z hb
theorem Inv.step  {t':Nat}{d':Drawn}{ch:List Addr}(I:Inv X pz σ H s)
  (hch:∀b∈ch,(b∈X.ex\/X.s₀.heap.objs.size<=b)/\b≠X.env.locals/\(∀x c,X.env.cells.lookup x=some c->c≠b)/\∀p∈X.pn++pz,p.1≠b)
  (keep:∀b o,b≠X.env.locals->b∉X.fs->b∉ch->s.heap.get? b=some o->H b=none->h'.get? b=some o)
  (slot:∀b o,b≠X.env.locals->b∈X.fs->b∉ch->s.heap.get? b=some o->H b=none->∃sl,h'.get? b=some { o with slots:=sl }) (free:∀b o,b∉ch->s.heap.get? b=some o->H b=none->H' b=none)
  (there:∀b o,b∉ch->s.heap.get? b=some o->∃o',h'.get? b=some o')
  (tups:∀b xs,H b=some (.tup xs)->H' b=some (.tup xs)) (frzs:∀b o u,H b=some (.frz o u)->H' b=some (.frz o u)) (tbls:∀b ps,H b=some (.tbl ps)->∃more,H' b=some (.tbl (ps++more)))
  (ns:∀m,s.heap.Ns X.env.locals m->h'.Ns X.env.locals m) (hok:HOk X.prog X.w H' h') (hg:AllBare g') :
  Inv X pz σ H' { s with heap:=h',gens:=g',drawn:=d',toks:=t' }:=by
 have neL:∀b o,X.s₀.heap.get? b=some o->b≠X.env.locals:=λb o e=>Ö (á (Æ e) I.ok.above)
 have neC:∀b o,X.s₀.heap.get? b=some o->b∉X.ex->b∉ch:=λb o e hx hb=>by
  rcases(hch b hb).1 with z|z
  .exact hx z
  .exact absurd (á (Æ e) z) (î _)
 have cellK:∀x c,X.env.cells.lookup x=some c->∀v,s.heap.IsCell c v->h'.IsCell c v:=λx c e v zz=>by
  obtain⟨o,ho,hd⟩:=zz;have nch :=λz=>(hch c z).2.2.1 x c e rfl
  by_cases hc:c∈X.fs
  .obtain⟨sl,q⟩:=slot c o (I.cne x c e) hc nch ho (I.freeC x c e);exact⟨_,q,hd⟩
  .exact⟨o,keep c o (I.cne x c e) hc nch ho (I.freeC x c e),hd⟩
 refine⟨I.ok,I.os,hg,⟨λb o e n hb hx=>?_,λb o e n hb hx=>?_,λb o e n hx=>?_,λb o e hx=>?_,λb xs e=>tups b xs (I.base.tups b xs e),λb o xs e=>frzs b o xs (I.base.frzs b o xs e),λb ps e=>?_⟩,?_,λx c e=>?_,?_,λx c e=>?_,λp hp=>?_,hok,I.len⟩
 .exact keep b o (neL b o e) hb (neC b o e hx) (I.base.keep b o e n hb hx) (I.base.free b o e n hx)
 .obtain⟨sl,e1⟩:=I.base.slot b o e n hb hx;obtain⟨sl',e2⟩:=slot b _ (neL b o e) hb (neC b o e hx) e1 (I.base.free b o e n hx);exact⟨sl',e2⟩
 .obtain⟨o',e1⟩:=I.base.there b o e hx;exact free b o' (neC b o e hx) e1 (I.base.free b o e n hx)
 .obtain⟨o',e1⟩:=I.base.there b o e hx;exact there b o' (neC b o e hx) e1
 .obtain⟨m1,e1⟩:=I.base.tbls b ps e;obtain⟨m2,e2⟩:=tbls b _ e1;exact⟨m1++m2,by rw[e2,Array.append_assoc]⟩
 .obtain⟨m,hn,hl⟩:=I.loc;refine⟨m,ns m hn,λi x v e1 e2 e3=>?_⟩
  obtain⟨u,r,l⟩:=hl i x v e1 e2 e3;refine⟨u,r,?_⟩
  rcases l with l|⟨k,c,e,z⟩
  .exact .inl l
  .exact .inr ⟨k,c,e,cellK x c e _ z⟩
 .obtain⟨v,z⟩:=I.cell x c e;exact⟨v,cellK x c e v z⟩
 .obtain⟨m,⟨o,_,_,ho,_⟩,_⟩:=I.loc;exact free _ o (λz=>(hch _ z).2.1 rfl) ho I.free
 .obtain⟨v,o,ho,hd⟩:=I.cell x c e;exact free c o (λz=>(hch c z).2.2.1 x c e rfl) ho (I.freeC x c e)
 .obtain⟨e,n,ne,nf,d⟩:=I.pin p hp;have nch :=λz=>(hch p.1 z).2.2.2 p hp rfl
  exact⟨keep p.1 p.2 ne nf nch e n,free p.1 p.2 nch e n,ne,nf,d⟩
theorem Inv.un  (I:Inv X pz σ H s)(u:Un X.fs [] H H' s.heap h')(hok:HOk X.prog X.w H' h'):Inv X pz σ H' { s with heap:=h',toks:=t' }:=by
 obtain⟨m,⟨o,es,ep,ho,r⟩,_⟩:=id I.loc;obtain⟨sl,hL⟩:=u.any ho I.free (by simp)
 exact I.step (ch:=[]) (λ_ z=>nomatch z) (λb o _ hb _ e n=>u.keep b o e n hb (by simp)) (λb o _ hb _ e n=>u.slot b o e n hb (by simp)) (λb o _ e n=>u.free b o e n (by simp)) (λb o _ e=>u.there b o e (by simp)) u.tups u.frzs u.tbls (λm' hm=>by
  obtain⟨o',es',ep',ho',r'⟩:=hm;rw[ho]at ho';cases ho';exact⟨_,es',ep',hL,r'⟩) hok I.bare
theorem Inv.call     (I:Inv X pz σ H s)(u:Un (BO X.stack) ch H H' s.heap h')(hok:HOk X.prog X.w H' h')(hg:AllBare g')
  (hch:∀b∈ch,(b∈X.ex\/X.s₀.heap.objs.size<=b)/\b≠X.env.locals/\(∀x c,X.env.cells.lookup x=some c->c≠b)/\∀p∈X.pn++pz,p.1≠b) :
  Inv X pz σ H' { s with heap:=h',gens:=g',drawn:=d',toks:=t' }:=by
 obtain⟨m,⟨o,es,ep,ho,r⟩,_⟩:=id I.loc;obtain⟨sl,hL⟩:=u.any ho I.free λz=>(hch _ z).2.1 rfl
 exact I.step hch (λb o hL hb hc e n=>u.keep b o e n (λz=>(Ï.mp (I.stkSub b z)).elim hL hb) hc) (λb o _ _ hc e n=>u.any e n hc) (λb o hc e n=>u.free b o e n hc) (λb o hc e=>u.there b o e hc) u.tups u.frzs u.tbls (λm' hm=>by
  obtain⟨o',es',ep',ho',r'⟩:=hm;rw[ho]at ho';cases ho';exact⟨_,es',ep',hL,r'⟩) hok hg
theorem Inv.turned   (I:Inv X pz σ H s)(k:∀b o,b≠it->s.heap.get? b=some o->h'.get? b=some o)(hn:H it=none)(hL:it≠X.env.locals)
  (h1:it∈X.ex\/X.s₀.heap.objs.size<=it) (h2:∀x c,X.env.cells.lookup x=some c->c≠it) (h3:∀p∈X.pn++pz,p.1≠it):Inv X pz σ H { s with heap:=h',toks:=t' }:=by
 refine I.step (ch:=[it]) (λb hb=>?_) (λb o _ _ hc e _=>k b o (λz=>hc (by simp[z])) e) (λb o _ _ hc e _=>⟨o.slots,k b o (λz=>hc (by simp[z])) e⟩) (λ_ _ _ _ n=>n)
  (λb o hc e=>⟨o,k b o (λz=>hc (by simp[z])) e⟩) (λ_ _ e=>e) (λ_ _ _ e=>e) (λb ps e=>⟨#[],by rw[e];simp⟩) (λm hm=>?_) (λb u e=>?_) I.bare
 .grind
 .obtain⟨o,es,ep,ho,r⟩:=hm;exact⟨o,es,ep,k _ o (Ð hL) ho,r⟩
 .refine(I.hok b u e).stay (λc v hc q=>k c v ?_ q) (λ_ q=>q) λ_ _ q=>q
  grind
theorem Inv.tok(I:Inv X pz σ H s)(t):Inv X pz σ H { s with toks:=t}:=I.un Un.refl I.hok
theorem Inv.kept  (I:Inv X pz σ H s)(k:∀b u,s.heap.get? b=some u->h'.get? b=some u):Inv X pz σ H { s with heap:=h',toks:=t' }:=I.un (Un.kept k) (I.hok.kept k)
theorem Inv.laid{a:Addr}   (I:Inv X pz σ H s)(k:∀b u,s.heap.get? b=some u->h'.get? b=some u)(hp:s.heap.objs.size<=a)(new:Cf X.prog X.w (upd H a o) h' a o) :
  Inv X pz σ (upd H a o) { s with heap:=h',toks:=t' }:=I.un (Un.laid k hp (I.hok.fresh hp)) (I.hok.laid k hp new)
theorem Inv.write    (I:Inv X pz σ H s)(mu:KZ (H x))(he:e=x\/H e=some (.own x))(k:∀b u,b≠e->s.heap.get? b=some u->h'.get? b=some u)(heo:∃u,h'.get? e=some u)
  (new:Cf X.prog X.w (upd H x o) h' x o):Inv X pz σ (upd H x o) { s with heap:=h',toks:=t' }:=I.un (Un.write mu he k heo) (I.hok.write mu he k heo new)
theorem Inv.pins_of(I:Inv X pz σ H s)(h:∀p∈pins',s.heap.get? p.1=some p.2/\H p.1=none/\p.1≠X.env.locals/\p.1∉X.fs/\∀v,p.2.data≠.cell v):Inv X pins' σ H s:=
 ⟨I.ok,I.os,I.bare,I.base,I.loc,I.cell,I.free,I.freeC,λp hp=>(ë.mp hp).elim (λz=>I.pin p (Ģ _ z)) (h p),I.hok,I.len⟩
theorem Of{N:kE}(hN:N.Nodup){i j:Nat}(a:N[i]?=some x)(b:N[j]?=some x):i=j:=by
 obtain⟨h1,e1⟩:=Õ.mp a;obtain⟨h2,e2⟩:=Õ.mp b;exact(Ř hN).mp (e1.trans e2.symm)
theorem Tf         (I:Inv X pz σ H s)(hN:X.N.Nodup)(hi:X.N[i]?=some x)(hx:Gk X.env.scope x)(r:Ab v u)
  (h:∀s',Inv X pz (σ.set i (some v)) H s'->(∃a,Heap.SameBut a s.heap s'.heap/\(a=X.env.locals\/X.env.cells.lookup x=some a))->Q () s') (hf:X.fn x=true\/X.env.scope.names.lookup x=some .local:=by first|exact .inl rfl|exact .inr rfl|assumption):wpAny M A (storeName X.env x u) Q E s:=by
 obtain⟨m,hn,hl⟩:=id I.loc;have hcls:(X.env.scope.kind == .class || (X.env.scope.kind == .module && X.env.locals != X.env.globals))=false:=by rw[I.ok.kind];rfl
 have hiσ:i<σ.length:=by rw[I.len];exact(Õ.mp hi).1
 have cne:=I.cne
 have tracked:∀{a } {h' },(∃o,s.heap.get? a=some o/\H a=none)->Heap.SameBut a s.heap h'->HOk X.prog X.w H h':=fun  ha hs b ob e=>by
  obtain⟨_,_,hfree⟩:=ha;refine(I.hok b ob e).stay (λc w' hc q=>(hs.2 c ?_).trans q) (λ_ q=>q) λ_ _ q=>q
  rintro rfl
  rcases hc with rfl|hc
  .rw[hfree]at e;cases e
  .rw[hfree]at hc;cases hc
 rcases hx with hk|hk
 .refine wpAny_storeName_local hk hn (λh' hn' hs=>?_) hcls
  obtain⟨oL,_,_,hoL,_⟩:=id hn;refine h _ ⟨I.ok,I.os,I.bare,⟨λb o e n hb hx=>?_,λb o e n hb hx=>?_,I.base.free,λb o e hx=>?_,I.base.tups,I.base.frzs,I.base.tbls⟩,⟨_,hn',λj y v' e1 e2 e3=>?_⟩,λy c e=>?_,I.free,I.freeC,λp hp=>?_,tracked ⟨oL,hoL,I.free⟩ hs,by simpa using I.len⟩ ⟨_,hs,.inl rfl⟩
  .exact(hs.2 b (Ö (á (Æ e) I.ok.above))).trans (I.base.keep b o e n hb hx)
  .obtain⟨sl,e1⟩:=I.base.slot b o e n hb hx;exact⟨sl,(hs.2 b (Ö (á (Æ e) I.ok.above))).trans e1⟩
  .obtain⟨o',e1⟩:=I.base.there b o e hx;exact⟨o',(hs.2 b (Ö (á (Æ e) I.ok.above))).trans e1⟩
  .by_cases hj:j=i
   .subst hj;rw[hi]at e1;cases e1;rw[í hiσ]at e2;cases e2;exact⟨u,r,.inl ⟨hk,by simp⟩⟩
   .rw[ã (Ð hj)]at e2;obtain⟨u',r',q⟩:=hl j y v' e1 e2 e3;refine⟨u',r',?_⟩
    rcases q with ⟨k,e⟩|⟨k,c,e,z⟩
    .refine .inl ⟨k,?_⟩;have:y≠x:=λe=>hj (Of hN e1 (e▸hi))
     simp[this,e]
    .exact .inr ⟨k,c,e,z.sameBut hs (cne y c e)⟩
  .obtain⟨w',z⟩:=I.cell y c e;exact⟨w',z.sameBut hs (cne y c e)⟩
  .obtain⟨e,n,ne,nf,d⟩:=I.pin p hp;exact⟨(hs.2 p.1 ne).trans e,n,ne,nf,d⟩
 .have hfn:X.fn x=true:=by
   rcases hf with z|z
   .exact z
   .rw[z]at hk;cases hk
  obtain⟨c,hc⟩:=I.ok.has x (.inl hk);obtain⟨w',z⟩:=I.cell x c hc;refine wpAny_storeName_cell I.ok.kind hk hc z (λh' hc' hs=>?_)
  obtain⟨oc,hoc,hocd⟩:=id z;refine h { s with heap:=h' } ⟨I.ok,I.os,I.bare,⟨λb o e n hb hx=>?_,λb o e n hb hx=>?_,I.base.free,λb o e hx=>?_,I.base.tups,I.base.frzs,I.base.tbls⟩,⟨m,hn.sameBut hs (Ð (cne x c hc)),λj y v' e1 e2 e3=>?_⟩,λy c' e=>?_,I.free,I.freeC,λp hp=>?_,tracked ⟨oc,hoc,I.freeC x c hc⟩ hs,by simpa using I.len⟩ ⟨c,hs,.inr hc⟩
  .exact(hs.2 b (Ö (á (Æ e) (I.ok.cab x c hfn hc)))).trans (I.base.keep b o e n hb hx)
  .obtain⟨sl,e1⟩:=I.base.slot b o e n hb hx;exact⟨sl,(hs.2 b (Ö (á (Æ e) (I.ok.cab x c hfn hc)))).trans e1⟩
  .obtain⟨o',e1⟩:=I.base.there b o e hx;exact⟨o',(hs.2 b (Ö (á (Æ e) (I.ok.cab x c hfn hc)))).trans e1⟩
  .by_cases hj:j=i
   .subst hj;rw[hi]at e1;cases e1;rw[í hiσ]at e2;cases e2;exact⟨u,r,.inr ⟨.inl hk,c,hc,hc'⟩⟩
   .rw[ã (Ð hj)]at e2;obtain⟨u',r',q⟩:=hl j y v' e1 e2 e3;refine⟨u',r',?_⟩
    rcases q with q|⟨k,c',e,z'⟩
    .exact .inl q
    .refine .inr ⟨k,c',e,z'.sameBut hs ?_⟩;rintro rfl;exact hj (Of hN e1 (I.ok.inj _ _ _ e hc▸hi))
  .by_cases hcc:c'=c
   .subst hcc;exact⟨_,hc'⟩
   .obtain⟨w2,z2⟩:=I.cell y c' e;exact⟨w2,z2.sameBut hs hcc⟩
  .obtain⟨e,n,ne,nf,d⟩:=I.pin p hp;refine⟨(hs.2 p.1 ?_).trans e,n,ne,nf,d⟩;intro q;rw[q,hoc]at e;have q' :=ì e;exact d w' (by rw[<- q'];exact hocd)
theorem JO(I:Inv X pz σ H s)(hN:X.N.Nodup)(hi:X.N[i]?=some x)(hx:Gk X.env.scope x)(r:Ab v u)
  (h:∀s',Inv X pz (σ.set i (some v)) H s'->Q () s') (hf:X.fn x=true\/X.env.scope.names.lookup x=some .local):wpAny M A (storeName X.env x u) Q E s:=
 Tf I hN hi hx r (λs' I' _=>h s' I') hf
theorem Inv.call'   (I:Inv X pz σ H s)(ho:s'.os=s.os)(u:Un (BO X.stack) ch H H' s.heap s'.heap)(hok:HOk X.prog X.w H' s'.heap)(hg:AllBare s'.gens)
  (hch:∀b∈ch,(b∈X.ex\/X.s₀.heap.objs.size<=b)/\b≠X.env.locals/\(∀x c,X.env.cells.lookup x=some c->c≠b)/\∀p∈X.pn++pz,p.1≠b):Inv X pz σ H' s':=by
 obtain⟨h',g',d',t',o'⟩:=s';have e :=ho;subst e;exact I.call u hok hg hch
end
abbrev XK:=Value->Option Addr->Hp->Prop
abbrev St:=List (Option V)
abbrev VK:=V->Hp->Prop
abbrev TE:=St->Hp->VK->Prop
abbrev TT:=St->Hp->(Bool->Hp->Prop)->Prop
abbrev TA:=St->Hp->(kK->Hp->Prop)->Prop
structure Ends where
 nx:St->Hp->Prop
 rt:VK
 bk:St->Hp->Prop:=λ_ _=>False
 ct:St->Hp->Prop:=λ_ _=>False
abbrev TS:=Ends->St->Hp->Prop
def EP(X:Cx)(pz:List (Addr×Obj))(σ:St)(Q:VK)(u:Value)(s':Shared):Prop:=∃v H',Inv X pz σ H' s'/\Ab v u/\Q v H'
def TP(X:Cx)(pz:List (Addr×Obj))(σ:St)(Q:Bool->Hp->Prop)(b:Bool)(s':Shared):Prop:=∃H',Inv X pz σ H' s'/\Q b H'
def AP(X:Cx)(pz:List (Addr×Obj))(σ:St)(Q:kK->Hp->Prop)(us:k9)(s':Shared):Prop:=∃vs H',Inv X pz σ H' s'/\Al vs us/\Q vs H'
def SP(X:Cx)(pz:List (Addr×Obj))(D:Ends)(f:Flow)(s':Shared):Prop:=
 match f with
 |.next=>∃σ' H',Inv X pz σ' H' s'/\D.nx σ' H'|.brk=>∃σ' H',Inv X pz σ' H' s'/\D.bk σ' H'|.cont=>∃σ' H',Inv X pz σ' H' s'/\D.ct σ' H'|.ret u=>∃v σ' H',Inv X pz σ' H' s'/\Ab v u/\D.rt v H'
def PE(X:Cx)(e:Expr)(t:TE):Prop:=
 ∀(pz:List (Addr×Obj)) (s:Shared) (σ:St) (H:Hp) (Q:VK),Inv X pz σ H s->t σ H Q->wpAny (model X.prog X.w) X.A (eval e X.env) (EP X pz σ Q) X.xe s
def PT(X:Cx)(e:Expr)(t:TT):Prop:=
 ∀(pz:List (Addr×Obj)) (s:Shared) (σ:St) (H:Hp) (Q:Bool->Hp->Prop),Inv X pz σ H s->t σ H Q->wpAny (model X.prog X.w) X.A (isTrue e X.env (eval e X.env)) (TP X pz σ Q) X.xe s
def PW(X:Cx)(e:Expr)(t:TT):Prop:=
 ∀(whole:Sem Value) (pz:List (Addr×Obj)) (s:Shared) (σ:St) (H:Hp) (Q:Bool->Hp->Prop),Inv X pz σ H s->t σ H Q->wpAny (model X.prog X.w) X.A (isTrue e X.env whole) (TP X pz σ Q) X.xe s
theorem PW.pt{X:Cx}{e:Expr}{t:TT}(h:PW X e t):PT X e t:=h _
def PA(X:Cx)(es:kC)(t:TA):Prop:=
 ∀(pos:Pos) (pz:List (Addr×Obj)) (s:Shared) (σ:St) (H:Hp) (Q:kK->Hp->Prop),Inv X pz σ H s->t σ H Q->wpAny (model X.prog X.w) X.A (spliced (backTo pos (starEach es X.env))) (AP X pz σ Q) X.xe s
def PS(X:Cx)(st:Stmt)(t:TS):Prop:=
 ∀(pz:List (Addr×Obj)) (s:Shared) (σ:St) (H:Hp) (D:Ends),Inv X pz σ H s->t D σ H->wpAny (model X.prog X.w) X.A (exec st X.env) (SP X pz D) X.xe s
def B3(X:Cx)(st:kD)(t:TS):Prop:=
 ∀(pz:List (Addr×Obj)) (s:Shared) (σ:St) (H:Hp) (D:Ends),Inv X pz σ H s->t D σ H->wpAny (model X.prog X.w) X.A (execs st X.env) (SP X pz D) X.xe s
theorem AX  {t:Sem α}      (h:wpAny M A t Q E s)(hQ:∀a s,Q a s->Q' a s):wpAny M A t Q' E s:=è h hQ λ_ _ x=>x
section
variable {X:Cx}
def TH(i:Nat):TE:=λσ H Q=>∃v,σ[i]?=some (some v)/\Q v H
def tC(v:V):TE:=λ_ H Q=>Q v H
theorem GW{pos}(hN:X.N[i]?=some x)(hv:EA X.env.scope x)(hd:(x == "__debug__")=false:=by decide)(hcd:(x == "__classdict__")=false:=by decide):PE X (.Name x pos) (TH i):=by
 intro pz s σ H Q I h;obtain⟨v,e,h⟩:=h;obtain⟨m,hn,hl⟩:=I.loc;obtain⟨u,r,l⟩:=hl i x v hN e hv;have BP:EP X pz σ Q u s:=⟨v,H,I,r,h⟩
 rcases l with ⟨hk,hm⟩|⟨hk,c,hc,hcell⟩
 .exact wpAny_Name (wpAny_loadName_local I.ok.kind hk hn hm BP) hd
 .rcases hk with hk|hk
  .exact wpAny_Name (wpAny_loadName_cell I.ok.kind hk hc hcell BP) hd
  .exact wpAny_Name (wpAny_loadName_free I.ok.kind hk hc hcell BP hcd) hd
theorem Ω:PE X (.Constant (.int i) j pos) (tC (.int i)):=λ_ _ _ H _ I h=>wpAny_Constant_int ⟨.int i,H,I.tok _,⟨_,rfl⟩,h⟩
theorem pe_bl:PE X (.Constant (.bool b) j pos) (tC (.bl b)):=λ_ _ _ H _ I h=>Constant_bool ⟨.bl b,H,I,rfl,h⟩
theorem Vt:PE X (.Constant .none j pos) (tC .non):=λ_ _ _ H _ I h=>Constant_none ⟨.non,H,I,rfl,h⟩
theorem znx:PE X (.Constant (.str x) j pos) (tC (.str x)):=λ_ _ _ H _ I h=>Calls.Constant_str ⟨.str x,H,I.tok _,⟨_,rfl⟩,h⟩
def Gl(X:Cx)(x:Str):Prop:=X.env.kindOf x=some .globalImplicit
theorem G5{σ:St}(I:Inv X pz σ H s)(hg:Gl X x)(hm:X.mg x=some u)(h:Q u s)
  (hd:(x == "__debug__")=false):wpAny (model X.prog X.w) X.A (eval (.Name x pos) X.env) Q E s:=
 Calls.Name_function_global I.ok.kind hg (Calls.loadGlobal_global (by rw[I.ok.glob];exact I.mod.glob.keeps I.bk) hm h) hd
theorem G6{E}{σ:St}{pos}(I:Inv X pz σ H s)(hg:Gl X x)(hm:X.mg x=none)(hv:bootBuiltins x=some u)(h:Q u s)
  (hn:x≠"__name__":=by decide) (hd:(x == "__debug__")=false:=by decide):wpAny (model X.prog X.w) X.A (eval (.Name x pos) X.env) Q E s:=by
 obtain⟨mb,h1,h2⟩:=I.mod.blt;exact Calls.Name_function_global I.ok.kind hg (Calls.loadGlobal_builtin (by rw[I.ok.glob];exact I.mod.glob.keeps I.bk) hm (by rw[I.ok.blt];exact h1.keeps I.bk) ((h2 x hn).trans hv) h) hd
theorem Vv     (hg:Gl X x)(hm:X.mg x=some u)(r:Ab v u)(hd:(x == "__debug__")=false):PE X (.Name x pos) (tC v):=
 λ_ _ _ H _ I h=>G5 I hg hm ⟨v,H,I,r,h⟩ hd
theorem zke{pos}(hg:Gl X x)(hm:X.mg x=none)(hv:bootBuiltins x=some u)(r:Ab v u)(hn:x≠"__name__")(hd:(x == "__debug__")=false):PE X (.Name x pos) (tC v):=
 λ_ _ _ H _ I h=>G6 I hg hm hv ⟨v,H,I,r,h⟩ hn hd
variable {a b:Expr}{ta tb:TE}{pos:Pos}
def tB(t:TE):TT:=λσ H Q=>t σ H λx H1=>∃c,x=.bl c/\Q c H1
theorem zni   (h:PE X e t)(he:∀whole,isTrue e X.env whole=(do let v <- whole;standAt e.pos;holding [v] (truthy v))):PT X e (tB t):=by
 intro pz s σ H Q I hw;refine isTrue_plain (AX (h pz s σ H _ I hw) λv s1 zz=>?_) (he _)
 obtain⟨x,H1,I1,r1,q1⟩:=zz;obtain⟨d,rfl,q⟩:=q1;cases r1;exact Č ⟨H1,I1,q⟩
variable {tA tB':TT}{rest:kC}
def tAnd(t u:TT):TT:=λσ H Q=>t σ H λc H1=>if c=true then u σ H1 Q else Q false H1
def tOr(t u:TT):TT:=λσ H Q=>t σ H λc H1=>if c=true then Q true H1 else u σ H1 Q
def TR(t:TT):TT:=λσ H Q=>t σ H λc H1=>Q (!c) H1
theorem zjx(ha:PT X a tA):PW X (.BoolOp .And [a] pos) tA:=by
 intro wh pz s σ H Q I h;refine isTrue_and (AX (ha pz s σ H Q I h) λc s1 e=>?_)
 cases c with
 |true=>exact isTrue_and_nil e|false=>exact e
theorem zng(ha:PT X a tA):PW X (.BoolOp .Or [a] pos) tA:=by
 intro wh pz s σ H Q I h;refine isTrue_or (AX (ha pz s σ H Q I h) λc s1 e=>?_)
 cases c with
 |false=>exact isTrue_or_nil e|true=>exact e
theorem znh(ha:PT X a tA)(hb:PW X (.BoolOp .And (b::rest) pos) tB'):PW X (.BoolOp .And (a::b::rest) pos) (tAnd tA tB'):=by
 intro wh pz s σ H Q I h;refine isTrue_and (AX (ha pz s σ H _ I h) λc s1 zz=>?_)
 obtain⟨H1,I1,q1⟩:=zz;cases c with
 |true=>exact hb wh pz s1 σ H1 Q I1 q1|false=>exact⟨H1,I1,q1⟩
theorem pw_or(ha:PT X a tA)(hb:PW X (.BoolOp .Or (b::rest) pos) tB'):PW X (.BoolOp .Or (a::b::rest) pos) (tOr tA tB'):=by
 intro wh pz s σ H Q I h;refine isTrue_or (AX (ha pz s σ H _ I h) λc s1 zz=>?_)
 obtain⟨H1,I1,q1⟩:=zz;cases c with
 |true=>exact⟨H1,I1,q1⟩|false=>exact hb wh pz s1 σ H1 Q I1 q1
theorem znj(ha:PT X a tA):PT X (.UnaryOp .Not a pos) (TR tA):=by
 intro pz s σ H Q I h;exact isTrue_not (ha pz s σ H (λc H1=>Q (!c) H1) I h)
def tAndV(ta tb:TE):TE:=λσ H Q=>ta σ H λx H1=>∃c,x=.bl c/\if c=true then tb σ H1 Q else Q (.bl false) H1
def tOrV(ta tb:TE):TE:=λσ H Q=>ta σ H λx H1=>∃c,x=.bl c/\if c=true then Q (.bl true) H1 else tb σ H1 Q
def TQ(ta:TE):TE:=λσ H Q=>ta σ H λx H1=>∃c,x=.bl c/\Q (.bl (!c)) H1
theorem zny(h:PE X a t):PE X (.BoolOp op [a] pos) t:=λpz s σ H Q I hw=>BoolOp_one (h pz s σ H Q I hw)
theorem zo3(ha:PE X a ta)(hb:PE X (.BoolOp .And (b::rest) pos) tb):PE X (.BoolOp .And (a::b::rest) pos) (tAndV ta tb):=by
 intro pz s σ H Q I h;refine BoolOp_and (AX (ha pz s σ H _ I h) λv s1 zz=>?_)
 obtain⟨x,H1,I1,r1,q1⟩:=zz;obtain⟨c,rfl,q1⟩:=q1;cases r1;refine Č ?_;cases c with
 |true=>exact hb pz s1 σ H1 Q I1 q1|false=>exact⟨.bl false,H1,I1,rfl,q1⟩
theorem pe_or(ha:PE X a ta)(hb:PE X (.BoolOp .Or (b::rest) pos) tb):PE X (.BoolOp .Or (a::b::rest) pos) (tOrV ta tb):=by
 intro pz s σ H Q I h;refine BoolOp_or (AX (ha pz s σ H _ I h) λv s1 zz=>?_)
 obtain⟨x,H1,I1,r1,q1⟩:=zz;obtain⟨c,rfl,q1⟩:=q1;cases r1;refine Č ?_;cases c with
 |false=>exact hb pz s1 σ H1 Q I1 q1|true=>exact⟨.bl true,H1,I1,rfl,q1⟩
theorem znz(ha:PE X a ta):PE X (.UnaryOp .Not a pos) (TQ ta):=by
 intro pz s σ H Q I h;refine UnaryOp_ (AX (ha pz s σ H _ I h) λv s1 zz=>?_)
 obtain⟨x,H1,I1,r1,q1⟩:=zz;obtain⟨c,rfl,q1⟩:=q1;cases r1;exact not_of (Č ⟨.bl (!c),H1,I1,rfl,q1⟩)
def tIf(t:TT)(ta tb:TE):TE:=λσ H Q=>t σ H λc H1=>if c=true then ta σ H1 Q else tb σ H1 Q
theorem zhh(hc:PT X c tA)(ha:PE X a ta)(hb:PE X b tb):PE X (.IfExp c a b pos) (tIf tA ta tb):=by
 intro pz s σ H Q I h;refine wpAny_IfExp (AX (hc pz s σ H _ I h) λd s1 zz=>?_)
 obtain⟨H1,I1,q1⟩:=zz;cases d with
 |true=>exact ha pz s1 σ H1 Q I1 q1|false=>exact hb pz s1 σ H1 Q I1 q1
end
def Am(K:k6)(H:Hp)(a:Addr)(xs:kK):Prop:=
 Rd H a (.lst xs) \/
  ∃(o:Obj) (its:Array Value) (n:Nat),K.lookup a=some o/\o.cls=.type "list"/\o.dict=none/\o.data=.seq its n/\its.size<=sizeLine/\Al xs its.toList
def CV(K:k6)(H:Hp)(a:Addr)(xs:kK):Prop:=
 Rd H a (.tup xs) \/
  ∃(o:Obj) (its:Array Value) (n:Nat),K.lookup a=some o/\o.cls=.type "tuple"/\o.data=.seq its n/\its.size<=sizeLine/\Al xs its.toList
noncomputable def absV:Value->Option V
 |.none=>some .non|.bool b=>some (.bl b)|.int i _=>some (.int i)|.str x _=>some (.str x)|.bytes b _=>some (.byt b)|.float b _=>some (.flt b)|.ref a=>some (.ref a)|.type n=>some (.ty n)|_=>none
theorem Ab.abs(r:Ab x u):absV u=some x:=by
 cases x with
 |non=>cases r;rfl|bl _=>cases r;rfl|int _=>obtain⟨t,rfl⟩:=r;rfl
 |str _=>obtain⟨t,rfl⟩:=r;rfl
 |byt _=>obtain⟨t,rfl⟩:=r;rfl
 |flt _=>obtain⟨t,rfl⟩:=r;rfl
 |ref _=>cases r;rfl|ty _=>cases r;rfl
theorem Ab.inj(r:Ab x u)(q:Ab y u):x=y:=ì (r.abs.symm.trans q.abs)
theorem Al.inj{xs ys us}(h:Al xs us)(g:Al ys us):xs=ys:=by
 induction h generalizing ys with
 |nil=>cases g;rfl
 |cons r _ ih=>cases g with|cons r' t'=>rw[r.inj r',ih t']
section
variable {X:Cx}{pz:List (Addr×Obj)}{σ:St}{H:Hp}{s:Shared}{a:Addr}{xs ys:kK}
theorem Am.of{K:k6}(h:H a=some (.lst xs)):Am K H a xs:=.inl (.inl h)
theorem CV.of{K:k6}(h:H a=some (.tup xs)):CV K H a xs:=.inl (.inl h)
theorem Inv.list(I:Inv X pz σ H s)(h:Am X.K H a xs):∃its ,Al xs its/\PlainL s.heap a its.toArray/\xs.length<=sizeLine:=by
 rcases h with h|⟨o,its,n,hk,hc,hd,hs,hz,r⟩
 .obtain⟨z,its,n,r,e⟩:=h.ok I.hok;exact⟨its,r,⟨_,n,e,rfl,rfl,rfl⟩,z⟩
 .refine⟨its.toList,r,⟨o,n,I.kIn a o hk,hc,hd,by omega⟩,?_⟩
  have e:=r.length
  grind
theorem Inv.tuple(I:Inv X pz σ H s)(h:CV X.K H a xs):∃its ,Al xs its/\IsTup s.heap a its.toArray/\xs.length<=sizeLine:=by
 rcases h with h|⟨o,its,n,hk,hc,hs,hz,r⟩
 .obtain⟨z,its,r,p⟩:=h.ok I.hok
  grind
 .refine⟨its.toList,r,⟨o,I.kIn a o hk,hc,n,by omega⟩,?_⟩
  have e:=r.length
  grind
theorem Inv.list_inj(I:Inv X pz σ H s)(h:Am X.K H a xs)(h':Am X.K H a ys):xs=ys:=by
 obtain⟨its,r,⟨o,n,e,_,_,d⟩,_⟩:=I.list h;obtain⟨its',r',⟨o',n',e',_,_,d'⟩,_⟩:=I.list h';have:its=its':=by grind
 subst this;exact r.inj r'
theorem Inv.tuple_inj(I:Inv X pz σ H s)(h:CV X.K H a xs)(h':CV X.K H a ys):xs=ys:=by
 obtain⟨its,r,⟨o,e,_,n,d⟩,_⟩:=I.tuple h;obtain⟨its',r',⟨o',e',_,n',d'⟩,_⟩:=I.tuple h';have:its=its':=by grind
 subst this;exact r.inj r'
end
section
variable {X:Cx}{pz:List (Addr×Obj)}{σ:St}{H:Hp}{s:Shared}{E:Value->Shared->Prop}
end
section
variable {X:Cx}{st:Stmt}{rest:kD}{t u:TS}{e:Expr}{te:TE}{pos:Pos}
def TV:TS:=λD σ H=>D.nx σ H
def TM(t u:TS):TS:=λD σ H=>t { D with nx:=u D } σ H
theorem zk1:B3 X [] TV:=λ_ _ σ H _ I h=>ĩ ⟨σ,H,I,h⟩
theorem zha(h1:PS X st t)(h2:B3 X rest u):B3 X (st::rest) (TM t u):=by
 intro pz s σ H D I h;refine wpAny_execs_cons (AX (h1 pz s σ H { D with nx:=u D } I h) λf s1 q=>?_)
 cases f with
 |next=>obtain⟨σ',H',I',q⟩:=q;exact h2 pz s1 σ' H' D I' q
 |ret v=>exact q|brk=>exact q|cont=>exact q
theorem Vj(h1:PS X st t):B3 X [st] t:=by
 intro pz s σ H D I h;refine wpAny_execs_cons (AX (h1 pz s σ H D I h) λf s1 q=>?_)
 cases f with
 |next=>exact ĩ q|ret v=>exact q|brk=>exact q|cont=>exact q
theorem zk5:PS X (.Pass pos) TV:=λ_ _ σ H _ I h=>wpAny_Pass ⟨σ,H,I,h⟩
theorem Inv.quiet  {σ:St}   (I:Inv X pz σ H s):interactive X.env=false:=by simp[interactive,I.ok.kind]
def tDrop(te:TE):TS:=λD σ H=>te σ H λ_ H1=>D.nx σ H1
theorem O3(he:PE X e te)(hs:swapsWith e none pos.line X.env=pure false):PS X (.Expr e pos) (tDrop te):=by
 intro pz s σ H D I h;exact wpAny_Expr_any (AX (he pz s σ H _ I h) λv s1 ⟨x,H1,I1,r1,q1⟩=>⟨σ,H1,I1,q1⟩) I.quiet hs
def tRet(te:TE):TS:=λD σ H=>te σ H D.rt
theorem znm(he:PE X e te):PS X (.Return (some e) pos) (tRet te):=by
 intro pz s σ H D I h;exact wpAny_Return_some (AX (he pz s σ H _ I h) λv s1 ⟨x,H1,I1,r1,q1⟩=>⟨x,σ,H1,I1,r1,q1⟩)
def tRetN:TS:=λD _ H=>D.rt .non H
theorem zk4:PS X (.Return none pos) tRetN:=λ_ _ σ H _ I h=>wpAny_Return_none ⟨.non,σ,H,I,rfl,h⟩
def tIfS(c:TT)(t u:TS):TS:=λD σ H=>c σ H λb H1=>if b=true then t D σ H1 else u D σ H1
theorem ps_if(hc:PT X c tc)(ha:B3 X a t)(hb:B3 X b u):PS X (.If c a b pos) (tIfS tc t u):=by
 intro pz s σ H D I h;refine wpAny_If (AX (hc pz s σ H _ I h) λd s1 zz=>?_)
 obtain⟨H1,I1,q1⟩:=zz;cases d with
 |true=>exact ha pz s1 σ H1 D I1 q1|false=>exact hb pz s1 σ H1 D I1 q1
end
abbrev TG:=V->St->Hp->(St->Hp->Prop)->Prop
abbrev Ii:=kK->St->Hp->(St->Hp->Prop)->Prop
def PG(X:Cx)(target:Expr)(t:TG):Prop:=
 ∀(pz:List (Addr×Obj)) (s:Shared) (σ:St) (H:Hp) (v:V) (u:Value) (Q:St->Hp->Prop),Inv X pz σ H s->Ab v u->t v σ H Q ->
  wpAny (model X.prog X.w) X.A (assign target X.env u) (λ_ s'=>∃σ' H',Inv X pz σ' H' s'/\Q σ' H') X.xe s
def ED(X:Cx)(ts:kC)(t:Ii):Prop:=
 ∀(pz:List (Addr×Obj)) (s:Shared) (σ:St) (H:Hp) (vs:kK) (us:k9) (Q:St->Hp->Prop),Inv X pz σ H s->Al vs us->t vs σ H Q ->
  wpAny (model X.prog X.w) X.A (assignInOrder ((assignEach ts X.env).map (·.2)) us) (λ_ s'=>∃σ' H',Inv X pz σ' H' s'/\Q σ' H') X.xe s
abbrev Rz:=V->V->V->Hp->(Hp->Prop)->Prop
def SI(X:Cx)(t:Rz):Prop:=
 ∀(pz:List (Addr×Obj)) (s:Shared) (σ:St) (H:Hp) (o i v:V) (ov iv u:Value) (Q:Hp->Prop),Inv X pz σ H s->Ab o ov->Ab i iv->Ab v u->t o i v H Q ->
  wpAny (model X.prog X.w) X.A (setItem ov iv u) (λ_ s'=>∃H',Inv X pz σ H' s'/\Q H') X.xe s
section
variable {X:Cx}{pos:Pos}
def Ji(i:Nat):TG:=λv σ H Q=>Q (σ.set i (some v)) H
theorem zkb(hN:X.N.Nodup)(hi:X.N[i]?=some x)(hx:Gk X.env.scope x)(hf:X.fn x=true\/X.env.scope.names.lookup x=some .local):PG X (.Name x pos) (Ji i):=by
 intro pz s σ H v u Q I r h;exact wpAny_assign_Name (JO I hN hi hx r (λs' I'=>⟨_,H,I',h⟩) hf)
def gNil:Ii:=λvs σ H Q=>vs=[]/\Q σ H
def gCons(t:TG)(u:Ii):Ii:=λvs σ H Q=>∃v r,vs=v::r/\t v σ H λσ' H'=>u r σ' H' Q
theorem zka:ED X [] gNil:=by
 intro pz s σ H vs us Q I r h;obtain⟨e,h⟩:=h;exact assignInOrder_nil ⟨σ,H,I,h⟩
theorem zhf(h1:PG X e t)(h2:ED X es u)
  (hs:(assignEach (e::es) X.env).map (·.2)=assign e X.env::(assignEach es X.env).map (·.2)):ED X (e::es) (gCons t u):=by
 intro pz s σ H vs us Q I r h;obtain⟨v,vr,e1,h⟩:=h;subst e1;cases r with
 |cons r rr=>
  rw[hs];refine Α (AX (h1 pz s σ H _ _ _ I r h) λ_ s1 zz=>?_)
  obtain⟨σ1,H1,I1,q1⟩:=zz;exact h2 pz s1 σ1 H1 _ _ Q I1 rr q1
def QT(K:k6)(n:Nat)(t:Ii):TG:=λv σ H Q=>∃a xs,v=.ref a/\CV K H a xs/\xs.length=n/\t xs σ H Q
theorem znu{k}(hc:X.calm=true)(h:ED X es t)
  (hn:(assignEach es X.env).length=n) (hst:(assignEach es X.env).findIdx? (·.1)=none):PG X (.Tuple es k pos) (QT X.K n t):=by
 intro pz s σ H v u Q I r hw;obtain⟨a,xs,e1,hq,hl,hw⟩:=hw;subst e1;cases r;obtain⟨its,rv,ht,hz⟩:=I.tuple hq;refine assign_Tuple_tuple (I.ok.hd hc) ht (by simp[hn,<- hl,rv.length]) hst λh' hx=>?_
 have I1 :=I.kept (t':=s.toks) λb o e=>hx b o (Ö (Æ e)) e
 exact h pz _ σ H xs _ Q I1 (by omega) hw
def gSub(to ti:TE)(t:Rz):TG:=λv σ H Q=>to σ H λo H1=>ti σ H1 λi H2=>t o i v H2 λH3=>Q σ H3
theorem Vr(ho:PE X o to)(hi:PE X i ti)(hs:SI X t)
  (ha : ∀ v, assign (.Subscript o i pos) X.env v = (do
   let ov <- holding [v] (eval o X.env);let iv <- holding [v,ov] (eval i X.env)
   standAt pos
   holding [v,ov,iv] (setItem ov iv v)
   release [v,ov,iv] []):=by rfl):PG X (.Subscript o i pos) (gSub to ti t):=by
 intro pz s σ H v u Q I r h;refine Á (ð (AX (ho pz s σ H _ I h) λov s1 zz=>?_))
 obtain⟨x,H1,I1,r1,q1⟩:=zz;refine Á (ð (AX (hi pz s1 σ H1 _ I1 q1) λiv s2 zz=>?_))
 obtain⟨y,H2,I2,r2,q2⟩:=zz;refine Á (ĕ (Á (ð (AX (hs pz s2 σ H2 x y v ov iv u _ I2 r1 r2 r q2) λ_ s3 zz=>?_))))
 obtain⟨H3,I3,q3⟩:=zz;exact wpAny_release ⟨σ,H3,I3,q3⟩
def Ky(te:TE)(g:TG):TS:=λD σ H=>te σ H λx H1=>g x σ H1 D.nx
theorem O4(he:PE X e te)(hg:PG X tg g)(hs:swapsWithSole [tg] e pos.line X.env=pure false)(hw:swappedStores [tg] e X.env=pure none)
  (h1:(assignEach [tg] X.env).map (·.2)=[assign tg X.env]):PS X (.Assign [tg] e pos) (Ky te g):=by
 intro pz s σ H D I h;refine wpAny_Assign_stores (AX (he pz s σ H _ I h) λv s1 zz=>?_) hs hw
 obtain⟨x,H1,I1,r1,q1⟩:=zz;rw[h1];exact AX (hg pz s1 σ H1 x v _ I1 r1 q1) λ_ s2 q=>q
theorem Vk      (hN:X.N.Nodup)(hi:X.N[i]?=some x)(hx:Gk X.env.scope x)(he:PE X e te)(hs:swapsWith e (some (.Name x pos')) pos.line X.env=pure false)(hf:X.fn x=true\/X.env.scope.names.lookup x=some .local) :
  PS X (.Assign [.Name x pos'] e pos) (Ky te (Ji i)):=by
 intro pz s σ H D I h;refine wpAny_Assign_Name (AX (he pz s σ H _ I h) λv s1 zz=>?_) hs
 obtain⟨y,H1,I1,r1,q1⟩:=zz;exact JO I1 hN hi hx r1 (λs2 I2=>⟨_,H1,I2,q1⟩) hf
def tPar(i j:Nat)(ta:TA):TS:=λD σ H=>ta σ H λvs H1=>∃v w,vs=[v,w]/\D.nx ((σ.set i (some v)).set j (some w)) H1
theorem znn(hc:X.calm=true)(hN:X.N.Nodup)(hi:X.N[i]?=some x)(hj:X.N[j]?=some y)(hij:i≠j)
  (hx:X.env.scope.names.lookup x=some .local) (hy:X.env.scope.names.lookup y=some .local) (ha:PA X [a,b] ta)
  (hw:swappedStores [.Tuple [.Name x px,.Name y py] kt pt] (.Tuple [a,b] k2 pt2) X.env=pure (some [x,y]))
  (hs:swapsWithSole [.Tuple [.Name x px,.Name y py] kt pt] (.Tuple [a,b] k2 pt2) pos.line X.env=pure false) :
  PS X (.Assign [.Tuple [.Name x px,.Name y py] kt pt] (.Tuple [a,b] k2 pt2) pos) (tPar i j ta):=by
 intro pz s σ H D I h;rw[exec_Assign_arm];refine Á (ĕ ?_);rw[hs];refine Á (Ç ?_);rw[if_neg (by decide)]
 refine Á (Tuple_ (AX (ha _ pz s σ H _ I h) λus s1 zz=>?_))
 obtain⟨vs,H1,I1,r1,q1⟩:=zz;obtain⟨v,w,e1,q1⟩:=q1;subst e1
 obtain⟨u1,u2,rfl,rv,rw'⟩:∃u1 u2,us=[u1,u2]/\Ab v u1/\Ab w u2:=by
  cases r1 with
  |cons p q=>
   cases q with
   |cons p' q'=>cases q';exact⟨_,_,rfl,p,p'⟩
 refine Β ?_ (by show 2<=sizeLine;decide)
 have I2:Inv X pz σ H1 { s1 with heap:=s1.heap.push { cls:=.type "tuple",data:=.seq [u1,u2].toArray } }:=I1.kept λb o e=>Ì _ e
 rw[hw];refine Á (Ç ?_);show wpAny (model X.prog X.w) X.A (do rule "assign.swapped-stores";let items <- unpackItems (.ref s1.heap.objs.size) 2 none;assignInOrder [λv=>bindName X.env y v,λv=>bindName X.env x v] items.reverse;pure Flow.next) _ _ _
 refine Á (wpAny_rule (Á (unpackItems_tuple (items:=#[u1,u2]) (I.ok.hd hc) (IsTup.new s1.heap _) λh' hx'=>?_)))
 have I3:=I2.kept (t':=s1.toks) λb o e=>hx' b o (Ö (Æ e)) e
 show wpAny _ _ (assignInOrder [λv=>bindName X.env y v,λv=>bindName X.env x v] [u2,u1] >>= λ_=>pure Flow.next) _ _ _
 refine Á (Α (wpAny_bindName (JO I3 hN hj (.inl hy) rw' (λs2 I4=>?_) (.inr hy))))
 refine Α (wpAny_bindName (JO I4 hN hi (.inl hx) rv (λs3 I5=>assignInOrder_nil (Ç ?_)) (.inr hx)))
 rw[List.set_comm _ _ (Ð hij)]at I5;exact⟨_,H1,I5,q1⟩
end
section
variable {X:Cx}{pos:Pos}
def zmd(c:TT)(tb:TS):TS:=λD σ H=>∃W:Nat->St->Hp->Prop,(∃m,W m σ H)/\∀m σ H,W m σ H ->
 c σ H λb H1=>if b=true then ∃N:St->Hp->Prop,(∀σ' H',N σ' H'->∃m',m'<m/\W m' σ' H')/\tb { D with nx:=N,ct:=N,bk:=D.nx } σ H1 else D.nx σ H1
theorem zhb(hp:PassesOwn (model X.prog X.w) X.A X.env X.xe)(hc:PT X c tc)(hb:B3 X body tb):PS X (.While c body [] pos) (zmd tc tb):=by
 intro pz s σ H D I h;obtain⟨W,⟨m0,w0⟩,turn⟩:=h;refine wpAny_While (codeAny_whileLoop (λn s'=>∃σ' H',Inv X pz σ' H' s'/\W n σ' H') ?_ m0 ⟨σ,H,I,w0⟩)
 rintro n s1 ⟨σ1,H1,I1,w1⟩;refine Ğ hp (AX (hc pz s1 σ1 H1 _ I1 (turn n σ1 H1 w1)) λb s2 zz=>?_)
 obtain⟨H2,I2,q2⟩:=zz;cases b with
 |true=>
  obtain⟨N,hN,q2⟩:=q2;rw[if_pos rfl];refine Ğ hp (AX (hb pz s2 σ1 H2 _ I2 q2) λf s3 q3=>?_)
  cases f with
  |next=>
   obtain⟨σ3,H3,I3,n3⟩:=q3
   grind
  |cont=>
   obtain⟨σ3,H3,I3,n3⟩:=q3
   grind
  |brk=>exact q3|ret v=>exact q3
 |false=>rw[if_neg ó];exact ĩ ⟨σ1,H2,I2,q2⟩
end
structure It where
 go:Nat->Hp->Prop
 yld:Nat->Hp->V->Hp->Prop
 stop:Nat->Hp->Prop
def Cp(X:Cx)(pz:List (Addr×Obj))(H:Hp)(b:Addr):Prop:=
 H b=none/\b≠X.env.locals/\b∉X.fs/\(b∈X.ex\/X.s₀.heap.objs.size<=b)/\(∀x c,X.env.cells.lookup x=some c->c≠b)/\∀p∈X.pn++pz,p.1≠b
theorem Inv.fpOk{σ:St}{b:Addr}(I:Inv X pz σ H s)(hb:s.heap.objs.size<=b)(hn:H' b=none):Cp X pz H' b:=by
 refine⟨hn,Ş (á I.lt hb),I.nofs hb,.inr (Ó I.sz hb),λx c e z=>?_,λp hp z=>?_⟩
 .obtain⟨v,q⟩:=I.cell x c e;exact absurd (á q.lt (by grind)) (î _)
 .exact absurd (á (Æ (I.pin p hp).1) (by grind)) (î _)
structure Turn(P:Program)(w:World)(K:k6)(tg:Expr)(J:It)(fp:List Addr)(it:Addr)(tn:Nat->Heap->Prop):Prop where
 mem:it∈fp
 obj:∀i h,tn i h->∀b∈fp,∃o,h.get? b=some o/\∀v,o.data≠.cell v
 keep:∀i h h',tn i h->(∀b∈fp,∀o,h.get? b=some o->h'.get? b=some o)->tn i h'
 item:∀(X:Cx),X.prog=P->X.w=w->X.K=K->X.calm=true->∀(i:Nat) (pz:List (Addr×Obj)) (s:Shared) (σ:St) (H:Hp) (E:Value->Shared->Prop),Inv X pz σ H s->(∀b∈fp,Cp X pz H b)->tn i s.heap->J.go i H ->
  wpAny (model P w) X.A (pyNext (.ref it)) (λr s1=>∃u,r=some u /\
   wpAny (model P w) X.A (letOwnedTupleGo tg (.ref it) u) (λ_ s2=>∃x H',Inv X pz σ H' s2/\Ab x u/\J.yld i H x H'/\tn (i+1) s2.heap/\∀b∈fp,H' b=none) E s1) E s
 done:∀(X:Cx),X.prog=P->X.w=w->X.K=K->X.calm=true->∀(i:Nat) (pz:List (Addr×Obj)) (s:Shared) (σ:St) (H:Hp) (E:Value->Shared->Prop),Inv X pz σ H s->(∀b∈fp,Cp X pz H b)->tn i s.heap->J.stop i H ->
  wpAny (model P w) X.A (pyNext (.ref it)) (λr s1=>r=none/\Inv X pz σ H s1) E s
 self:∀(A:Around) (i:Nat) (s:Shared) (Q:Value->Shared->Prop) (E:Value->Shared->Prop),tn i s.heap->Q (.ref it) s->wpAny (model P w) A (pyIter (.ref it)) Q E s
abbrev TI:=St->Hp->(It->Hp->Prop)->Prop
def b8(X:Cx)(pz:List (Addr×Obj))(σ:St)(tg:Expr)(R:It->Hp->Prop)(itv:Value)(s2:Shared):Prop:=
 ∃(it:Addr) (fp:List Addr) (tn:Nat->Heap->Prop) (J:It) (H':Hp),itv=.ref it/\Inv X pz σ H' s2/\Turn X.prog X.w X.K tg J fp it tn/\tn 0 s2.heap/\(∀b∈fp,Cp X pz H' b)/\R J H'
def PI(X:Cx)(tg iter:Expr)(wi:TI):Prop:=
 ∀(pz:List (Addr×Obj)) (s:Shared) (σ:St) (H:Hp) (R:It->Hp->Prop),Inv X pz σ H s->wi σ H R ->
  wpAny (model X.prog X.w) X.A (eval iter X.env) (λv s1=>wpAny (model X.prog X.w) X.A (pyIter v) (b8 X pz σ tg R) X.xe s1) X.xe s
theorem MP            (ho:s.heap.get? it=some o)(hc:o.cls=.type n)(hd:o.data=.fields vs)
    (hn:["enumerate","zip","dict_itemiterator","dict_reverseitemiterator","odict_iterator","itertools.zip_longest","itertools.pairwise"].contains n=false) (hQ:Q () s):wpAny M A (letOwnedTupleGo tg (.ref it) u) Q E s:=by
  unfold letOwnedTupleGo
  cases tg<;>first
    |exact Ç hQ
    |(cases u<;>first
        |exact Ç hQ
        | (refine Á (wpAny_load ho ?_)
           rw[hc,hd];show wpAny M A (if (["enumerate","zip","dict_itemiterator","dict_reverseitemiterator","odict_iterator","itertools.zip_longest","itertools.pairwise"].contains n && vs[0]? == some (rawInt _))=true then _ else _) Q E s
           rw[if_neg (by intro h;rw[hn,Bool.false_and]at h;cases h)]
           exact Ç hQ))
def SO(K:k6)(a:Addr):It:=
 ⟨λi H=>∃xs x,Am K H a xs/\xs[i]?=some x,λi H x H'=>H'=H/\∀xs,Am K H a xs->xs[i]?=some x,λi H=>∃xs,Am K H a xs/\xs.length<=i⟩
def SM(K:k6)(a:Addr):It:=
 ⟨λi H=>∃xs x,CV K H a xs/\xs[i]?=some x,λi H x H'=>H'=H/\∀xs,CV K H a xs->xs[i]?=some x,λi H=>∃xs,CV K H a xs/\xs.length<=i⟩
def NR(lo:Int)(n:Nat):It:=⟨λi _=>i<n,λi H x H'=>H'=H/\x=.int (lo+i),λi _=>n<=i⟩
theorem zeq{K}(a it):Turn P w K tg (SO K a) [it] it (λi h=>h.IsListIter it a i) where
 mem:=by simp
 obj:=λi h st b hb=>by
  have e :=by simpa using hb
  subst e;obtain⟨o,e,c,d⟩:=st;exact⟨o,e,λv z=>by rw[d]at z;cases z⟩
 keep:=λi h h' st k=>st.at λo e=>k it (by simp) o e
 item:=by
  intro X hP hw hK hc i pz s σ H E I hf st hg;subst hP hw hK;obtain⟨xs,x,hq,hx⟩:=hg;obtain⟨its,rv,p,hz⟩:=I.list hq;obtain⟨u,hu,ru⟩:=rv.get hx;obtain⟨f0,f1,f2,f3,f4,f5⟩:=hf it (by simp)
  refine wpAny_pyNext_list_item st p.isList (by simpa using hu) λh' st' sb=>?_
  have I1 :=I.turned (t':=s.toks) (λb o hb e=>(sb.2 b hb).trans e) f0 f1 f3 f4 f5
  obtain⟨o,e,c,d⟩:=id st';exact⟨u,rfl,MP e c d (by decide) ⟨x,H,I1,ru,⟨rfl,λys hy=>by rw[I.list_inj hy hq];exact hx⟩,st',λb hb=>(hf b hb).1⟩⟩
 done:=by
  intro X hP hw hK hc i pz s σ H E I hf st hg;subst hP hw hK;obtain⟨xs,hq,hx⟩:=hg;obtain⟨its,rv,p,hz⟩:=I.list hq;obtain⟨f0,f1,f2,f3,f4,f5⟩:=hf it (by simp)
  have hl:=rv.length;exact wpAny_pyNext_list_end (I.ok.hd hc) st p.isList (by simp;omega) λh' eb=>⟨rfl,I.turned (λb o hb e=>eb b o hb e) f0 f1 f3 f4 f5⟩
 self:=λ_ _ _ _ _ st h=>wpAny_pyIter_listiter st h
theorem zdw{K}(a it):Turn P w K tg (SM K a) [it] it (λi h=>h.IsTupleIter it a i) where
 mem:=by simp
 obj:=λi h st b hb=>by
  have e :=by simpa using hb
  subst e;obtain⟨o,e,c,d⟩:=st;exact⟨o,e,λv z=>by rw[d]at z;cases z⟩
 keep:=λi h h' st k=>st.at λo e=>k it (by simp) o e
 item:=by
  intro X hP hw hK hc i pz s σ H E I hf st hg;subst hP hw hK;obtain⟨xs,x,hq,hx⟩:=hg;obtain⟨its,rv,p,hz⟩:=I.tuple hq;obtain⟨u,hu,ru⟩:=rv.get hx;obtain⟨f0,f1,f2,f3,f4,f5⟩:=hf it (by simp)
  refine wpAny_pyNext_tuple_item st (p) (by simpa using hu) λh' st' sb=>?_
  have I1 :=I.turned (t':=s.toks) (λb o hb e=>(sb.2 b hb).trans e) f0 f1 f3 f4 f5
  obtain⟨o,e,c,d⟩:=id st';exact⟨u,rfl,MP e c d (by decide) ⟨x,H,I1,ru,⟨rfl,λys hy=>by rw[I.tuple_inj hy hq];exact hx⟩,st',λb hb=>(hf b hb).1⟩⟩
 done:=by
  intro X hP hw hK hc i pz s σ H E I hf st hg;subst hP hw hK;obtain⟨xs,hq,hx⟩:=hg;obtain⟨its,rv,p,hz⟩:=I.tuple hq;obtain⟨f0,f1,f2,f3,f4,f5⟩:=hf it (by simp)
  have hl:=rv.length;exact wpAny_pyNext_tuple_end (I.ok.hd hc) st (p) (by simp;omega) λh' eb=>⟨rfl,I.turned (λb o hb e=>eb b o hb e) f0 f1 f3 f4 f5⟩
 self:=λ_ _ _ _ _ st h=>wpAny_pyIter_tupleiter st h
theorem zdx{K}(it)(lo)(n):Turn P w K tg (NR lo n) [it] it (λi h=>IsRangeIter h it (lo+i * 1) (n - i) 1) where
 mem:=by simp
 obj:=λi h st b hb=>by
  have e :=by simpa using hb
  subst e
  exact⟨_,st,λv z=>by
   have z' :=z;cases z'⟩
 keep:=λi h h' st k=>k it (by simp) _ st
 item:=by
  intro X hP hw hK hc i pz s σ H E I hf st hg;subst hP hw hK;obtain⟨f0,f1,f2,f3,f4,f5⟩:=hf it (by simp)
  have W:=Walks.range (prog:=X.prog) (w:=X.w) (I.ok.hd hc) it lo 1 n;refine W.item i s _ _ hg st λv h' tk hv st' kk=>?_
  obtain⟨t,rfl⟩:=hv;have I1:Inv X pz σ H { s with heap:=h',toks:=tk }:=I.turned (λb o hb e=>kk b o (by simpa using hb) e) f0 f1 f3 f4 f5
  refine⟨_,rfl,MP st' rfl rfl (by decide) ⟨.int (lo+i),H,I1,⟨t,?_⟩,⟨rfl,rfl⟩,st',λb hb=>(hf b hb).1⟩⟩
  rw[Int.mul_one]
 done:=by
  intro X hP hw hK hc i pz s σ H E I hf st hg;subst hP hw hK;obtain⟨f0,f1,f2,f3,f4,f5⟩:=hf it (by simp)
  exact wpAny_pyNext_range_end (I.ok.hd hc) st (by have:n<=i:=hg;omega) λh' eb=>⟨rfl,I.turned (λb o hb e=>eb b o hb e) f0 f1 f3 f4 f5⟩
 self:=λ_ _ _ _ _ st h=>wpAny_pyIter_rangeiter st h
section
variable {X:Cx}{tg:Expr}
def iList(K:k6)(tl:TE):TI:=λσ H R=>tl σ H λx H1=>∃a,x=.ref a/\(∃xs,Am K H1 a xs)/\R (SO K a) H1
def iTup(K:k6)(tl:TE):TI:=λσ H R=>tl σ H λx H1=>∃a,x=.ref a/\(∃xs,CV K H1 a xs)/\R (SM K a) H1
theorem zk8(hl:PE X l tl):PI X tg l (iList X.K tl):=by
 intro pz s σ H R I h;refine AX (hl pz s σ H _ I h) λv s1 zz=>?_
 obtain⟨x,H1,I1,r1,q1⟩:=zz;obtain⟨a,e,⟨xs,hq⟩,q⟩:=q1;subst e;cases r1;obtain⟨its,rv,p,hz⟩:=I1.list hq;refine Ī p.isList ?_;refine⟨s1.heap.objs.size,[s1.heap.objs.size],_,_,H1,rfl,I1.kept λb o e=>Ì _ e,zeq a _,⟨_,æ _ rfl,rfl,rfl⟩,λb hb=>?_,q⟩
 have e:b=s1.heap.objs.size:=by grind
 subst e;exact I1.fpOk (È _) (I1.hok.fresh (È _))
theorem zns(hl:PE X l tl):PI X tg l (iTup X.K tl):=by
 intro pz s σ H R I h;refine AX (hl pz s σ H _ I h) λv s1 zz=>?_
 obtain⟨x,H1,I1,r1,q1⟩:=zz;obtain⟨a,e,⟨xs,hq⟩,q⟩:=q1;subst e;cases r1;obtain⟨its,rv,p,hz⟩:=I1.tuple hq;refine wpAny_pyIter_tuple (p) ?_;refine⟨s1.heap.objs.size,[s1.heap.objs.size],_,_,H1,rfl,I1.kept λb o e=>Ì _ e,zdw a _,⟨_,æ _ rfl,rfl,rfl⟩,λb hb=>?_,q⟩
 have e:b=s1.heap.objs.size:=by grind
 subst e;exact I1.fpOk (È _) (I1.hok.fresh (È _))
theorem zh5{σ:St} {lo hi:Int} (I:Inv X pz σ H s)(h1:-(2 ^ 62)<=lo)(h2:lo<2 ^ 62)(h3:-(2 ^ 62)<=hi)(h4:hi<2 ^ 62)
  (q:R (NR lo (hi - lo).toNat) H):wpAny (model X.prog X.w) X.A (pyIter (.ref s.heap.objs.size)) (b8 X pz σ tg R) E { s with heap:=s.heap.push { cls:=.type "range",data:=.fields #[.int lo t,.int hi u,.int 1 v] },toks:=tk }:=by
 refine wpAny_pyIter_range (IsRange.new ..) (small_one h1 h2 h3 h4) ?_;have I1:Inv X pz σ H { s with heap:=s.heap.push { cls:=.type "range",data:=.fields #[.int lo t,.int hi u,.int 1 v] },toks:=tk }:=I.kept λb o e=>Ì _ e
 refine⟨(s.heap.push { cls:=.type "range",data:=.fields #[.int lo t,.int hi u,.int 1 v] }).objs.size,[(s.heap.push { cls:=.type "range",data:=.fields #[.int lo t,.int hi u,.int 1 v] }).objs.size],_,_,H,rfl,
  I1.kept λb o e=>Ì _ e,zdx _ lo (hi - lo).toNat,?_,λb hb=>?_,q⟩
 .have e1:lo+(0:Nat) * 1=lo:=by simp
  have e2:(hi - lo).toNat - (0:Nat)=Builtin.Range.rangeSize lo hi 1:=by rw[rangeSize_one];grind
  rw[e1,e2];exact æ _ rfl
 .have e:b=(s.heap.push { cls:=.type "range",data:=.fields #[.int lo t,.int hi u,.int 1 v] }).objs.size:=by grind
  subst e;exact I1.fpOk (È _) (I1.hok.fresh (È _))
def iRng1(ta:TA):TI:=λσ H R=>ta σ H λvs H1=>∃j:Int,vs=[.int j]/\-(2 ^ 62)<=j/\j<2 ^ 62/\R (NR 0 j.toNat) H1
theorem zey(hg:Gl X "range")(hm:X.mg "range"=none)(ha:PA X [a] ta)(hs:starEach [a] X.env=[(false,eval a X.env)]):PI X tg (.Call (.Name "range" p) [a] [] pos) (iRng1 ta):=by
 intro pz s σ H R I h;refine Call_ (G6 I hg hm boot_range (į (AX (ha pos pz s σ H _ I h) λus s1 zz=>?_) hs rfl))
 obtain⟨vs,H1,I1,r1,q1⟩:=zz;obtain⟨j,e,q1,q2,q⟩:=q1;subst e;cases r1 with
 |cons r rr=>cases rr;obtain⟨t,rfl⟩:=r;exact call_range_1 (zh5 I1 (by omega) (by omega) q1 q2 (by simpa using q))
def tFor(wi:TI)(g:TG)(tb:TS):TS:=λD σ H=>wi σ H λJ H1=>∃W:Nat->Nat->St->Hp->Prop,(∃m,W 0 m σ H1)/\∀i m σ H,W i m σ H ->
 (J.stop i H/\D.nx σ H)\/(J.go i H/\∃N:St->Hp->Prop,(∀σ' H',N σ' H'->∃m',m'<m/\W (i+1) m' σ' H')/\∀x H',J.yld i H x H'->g x σ H' λσ2 H2=>tb { D with nx:=N,ct:=N,bk:=D.nx } σ2 H2)
def HQ(fp:List Addr)(h:Heap):List (Addr×Obj):=fp.filterMap λb=>(h.get? b).map λo=>(b,o)
theorem HU(hb:b∈fp)(e:h.get? b=some o):(b,o)∈HQ fp h:=Ħ.mpr ⟨b,hb,by rw[e];rfl⟩
theorem WI(hp:p∈HQ fp h):p.1∈fp/\h.get? p.1=some p.2:=by
 obtain⟨b,hb,e⟩:=Ħ.mp hp;cases q:h.get? b with
 |none=>grind|some o=>grind
theorem Inv.pinned{σ:St}(I:Inv X pz σ H s)(hf:∀b∈fp,Cp X pz H b)(ho:∀b∈fp,∃o,s.heap.get? b=some o/\∀v,o.data≠.cell v):Inv X (pz++HQ fp s.heap) σ H s:=
 I.pins_of λp hp=>(ë.mp hp).elim (λz=>I.pin p (é _ z)) λz=>by
  obtain⟨hb,e⟩:=WI z;obtain⟨f0,f1,f2,_⟩:=hf p.1 hb
  grind
theorem Inv.unpinned{σ:St}(I:Inv X (pz++pl) σ H s):Inv X pz σ H s:=I.pins_of λp hp=>I.pin p (é _ (Ģ _ hp))
theorem zno(hp:PassesOwn (model X.prog X.w) X.A X.env X.xe)(hc:X.calm=true)(hi:PI X tg iter wi)(hg:PG X tg g)(hb:B3 X body tb)
  (hs:∀x,foldedSetIterable iter X.env x=pure x:=by intro _;rfl):PS X (.For tg iter body [] pos) (tFor wi g tb):=by
 intro pz s σ H D I h;refine wpAny_For (AX (hi pz s σ H _ I h) λv s1 h1=>AX h1 λitv s2 h2=>?_) hs
 obtain⟨it,fp,tn,J,H2,e,I2,T,st2,f2,W,⟨m0,w0⟩,turn⟩:=h2;subst e;have stat:∀{H' },(∀b∈fp,H' b=none)->∀b∈fp,Cp X pz H' b:=λhn b hb=>⟨hn b hb,(f2 b hb).2⟩
 refine codeAny_forLoop_any (λn s'=>∃i σ' H',Inv X pz σ' H' s'/\tn i s'.heap/\(∀b∈fp,H' b=none)/\W i n σ' H') ?_ m0 ⟨0,σ,H2,I2,st2,λb hb=>(f2 b hb).1,w0⟩
 rintro n s3 ⟨i,σ3,H3,I3,st3,fr3,w3⟩
 rcases turn i n σ3 H3 w3 with ⟨stop,qn⟩|⟨go,N,hN,step⟩
 .refine Ğ hp (AX (T.done X rfl rfl rfl hc i pz s3 σ3 H3 X.xe I3 (stat fr3) st3 stop) λr s4 zz=>?_)
  obtain⟨hr,I4⟩:=zz;subst hr;exact ĩ ⟨σ3,H3,I4,qn⟩
 .refine Ğ hp (AX (T.item X rfl rfl rfl hc i pz s3 σ3 H3 X.xe I3 (stat fr3) st3 go) λr s4 zz=>?_)
  obtain⟨u,hr,h4⟩:=zz;subst hr;refine Ğ hp (AX h4 λ_ s5 zz=>?_)
  obtain⟨x,H5,I5,r5,y5,st5,fr5⟩:=zz;have I5':=I5.pinned (stat fr5) (T.obj _ _ st5);refine Ğ hp (AX (hg _ s5 σ3 H5 x u _ I5' r5 (step x H5 y5)) λ_ s6 zz=>?_)
  obtain⟨σ6,H6,I6,q6⟩:=zz;refine Ğ hp (AX (hb _ s6 σ6 H6 _ I6 q6) λf s7 q7=>?_)
  have again:∀{σ7 } {H7 },Inv X (pz++HQ fp s5.heap) σ7 H7 s7->N σ7 H7->∃m,m<n/\∃i σ' H',Inv X pz σ' H' s7/\tn i s7.heap/\(∀b∈fp,H' b=none)/\W i m σ' H':=λ{σ7 H7} I7 n7=>by
   obtain⟨m',hm,w7⟩:=hN σ7 H7 n7;refine⟨m',hm,i+1,σ7,H7,I7.unpinned,T.keep _ _ _ st5 λb hb o e=>(I7.pin (b,o) (é _ (é _ (HU hb e)))).1,λb hb=>?_,w7⟩
   obtain⟨o,e,d⟩:=T.obj _ _ st5 b hb;exact(I7.pin (b,o) (é _ (é _ (HU hb e)))).2.1
  cases f with
  |next=>obtain⟨σ7,H7,I7,n7⟩:=q7;exact again I7 n7
  |cont=>obtain⟨σ7,H7,I7,n7⟩:=q7;exact again I7 n7
  |brk=>obtain⟨σ7,H7,I7,q7⟩:=q7;exact⟨σ7,H7,I7.unpinned,q7⟩
  |ret v=>obtain⟨x7,σ7,H7,I7,r7,q7⟩:=q7;exact⟨x7,σ7,H7,I7.unpinned,r7,q7⟩
end
abbrev R2:=V->V->Hp->VK->Prop
def As(X:Cx)(f:Value->Value->Sem Value)(r:R2):Prop:=
 ∀(pz:List (Addr×Obj)) (s:Shared) (σ:St) (H:Hp) (x y:V) (v u:Value) (Q:VK),Inv X pz σ H s->Ab x v->Ab y u->r x y H Q ->
  wpAny (model X.prog X.w) X.A (f v u) (EP X pz σ Q) X.xe s
def Jw(X:Cx)(f:Value->Sem Value)(r:V->Hp->VK->Prop):Prop:=
 ∀(pz:List (Addr×Obj)) (s:Shared) (σ:St) (H:Hp) (x:V) (v:Value) (Q:VK),Inv X pz σ H s->Ab x v->r x H Q ->
  wpAny (model X.prog X.w) X.A (f v) (EP X pz σ Q) X.xe s
def Cq(X:Cx)(f:Value)(r:kK->Hp->VK->Prop):Prop:=
 ∀(pz:List (Addr×Obj)) (s:Shared) (σ:St) (H:Hp) (xs:kK) (us:k9) (Q:VK),Inv X pz σ H s->Al xs us->r xs H Q ->
  wpAny (model X.prog X.w) X.A (call f us) (EP X pz σ Q) X.xe s
def ID(r:R2)(ta tb:TE):TE:=λσ H Q=>ta σ H λx H1=>tb σ H1 λy H2=>r x y H2 Q
def TJ(r:V->Hp->VK->Prop)(ta:TE):TE:=λσ H Q=>ta σ H λx H1=>r x H1 Q
def rI(C:Int->Int->Prop)(g:Int->Int->V):R2:=λx y H Q=>∃i j,x=.int i/\y=.int j/\C i j/\Q (g i j) H
def FR(g:Int->Int->V):R2:=λx y H Q=>∃i j,x=.int i/\y=.int j/\Q (g i j) H
def rU(g:Int->V):V->Hp->VK->Prop:=λx H Q=>∃i,x=.int i/\Q (g i) H
section
variable {X:Cx}{a b c:Expr}{ta tb tc:TE}{pos:Pos}
theorem Rt(ha:PE X a ta)(hb:PE X b tb){σ:St}{R:V->V->Hp->Prop}(I:Inv X pz σ H s)
  (h:ta σ H λx H1=>tb σ H1 λy H2=>R x y H2)  {f:Value->Value->Sem Value}
  (hf:∀v u s2 x y H2,Inv X pz σ H2 s2->Ab x v->Ab y u->R x y H2->wpAny (model X.prog X.w) X.A (f v u) Q X.xe s2) :
  wpAny (model X.prog X.w) X.A (eval a X.env) (λv s₁=>wpAny (model X.prog X.w) X.A (eval b X.env) (λu s₂=>wpAny (model X.prog X.w) X.A (f v u) Q X.xe s₂) X.xe s₁) X.xe s:=by
 refine AX (ha pz s σ H _ I h) λv s1 zz=>?_
 obtain⟨x,H1,I1,r1,q1⟩:=zz;refine AX (hb pz s1 σ H1 _ I1 q1) λu s2 zz=>?_
 obtain⟨y,H2,I2,r2,q2⟩:=zz;grind
theorem pe_op(ho:As X (binaryOp op) r)(ha:PE X a ta)(hb:PE X b tb):PE X (.BinOp a op b pos) (ID r ta tb):=by
 intro pz s σ H Q I h;exact wpAny_BinOp (Rt ha hb I h λv u s2 x y H2 I2 rx ry q=>ho pz s2 σ H2 x y v u Q I2 rx ry q)
theorem pe_un(ho:Jw X (unaryOp op) r)(ha:PE X a ta):PE X (.UnaryOp op a pos) (TJ r ta):=by
 intro pz s σ H Q I h;exact UnaryOp_ (AX (ha pz s σ H _ I h) λv s1 ⟨x,H1,I1,r1,q1⟩=>ho pz s1 σ H1 x v Q I1 r1 q1)
theorem JZ{g:Int->Int->Int}
  (rule:∀(i j ) (t u ) (s ) (Q ) (E ),C i j->Q (.int (g i j) s.toks) { s with toks:=s.toks+1 }->wpAny (model X.prog X.w) X.A (f (.int i t) (.int j u)) Q E s) :
  As X f (rI C λi j=>.int (g i j)):=by
 intro pz s σ H x y v u Q I rx ry h;obtain⟨i,j,rfl,rfl,hc,q⟩:=h;obtain⟨t,rfl⟩:=rx;obtain⟨t',rfl⟩:=ry;exact rule i j t t' s _ _ hc ⟨.int (g i j),H,I.tok _,⟨_,rfl⟩,q⟩
theorem WE{g:Int->Int->Int}
  (rule:∀(i j ) (t u ) (s ) (Q ) (E ),Q (.int (g i j) s.toks) { s with toks:=s.toks+1 }->wpAny (model X.prog X.w) X.A (f (.int i t) (.int j u)) Q E s) :
  As X f (FR λi j=>.int (g i j)):=by
 intro pz s σ H x y v u Q I rx ry h;obtain⟨i,j,rfl,rfl,q⟩:=h;obtain⟨t,rfl⟩:=rx;obtain⟨t',rfl⟩:=ry;exact rule i j t t' s _ _ ⟨.int (g i j),H,I.tok _,⟨_,rfl⟩,q⟩
theorem L4{g:Int->Int->Bool}
  (rule:∀(i j ) (t u ) (s ) (Q ) (E ),Q (.bool (g i j)) s->wpAny (model X.prog X.w) X.A (f (.int i t) (.int j u)) Q E s) :
  As X f (FR λi j=>.bl (g i j)):=by
 intro pz s σ H x y v u Q I rx ry h;obtain⟨i,j,rfl,rfl,q⟩:=h;obtain⟨t,rfl⟩:=rx;obtain⟨t',rfl⟩:=ry;exact rule i j t t' s _ _ ⟨.bl (g i j),H,I,rfl,q⟩
def CPow(i j:Int):Prop:=0<=j/\j<=1000000/\i.natAbs<2 ^ 64
def S7(i j:Int):Prop:=(-(2 ^ 64)<i/\i<2 ^ 64)\/(-(2 ^ 64)<j/\j<2 ^ 64)
theorem S7.ok(h:S7 i j):IntMulOk i j:=by
 rcases h with ⟨h1,h2⟩|⟨h1,h2⟩
 .exact .of_left (intBits_le_64 h1 h2)
 .exact .of_right (intBits_le_64 h1 h2)
theorem zob:As X (binaryOp .Add) (FR λi j=>.int (i+j)):=WE λ_ _ _ _ _ _ _ q=>add_int q
theorem zo5:As X (binaryOp .Sub) (FR λi j=>.int (i - j)):=WE λ_ _ _ _ _ _ _ q=>sub_int q
theorem WB:As X (binaryOp .Mult) (rI S7 λi j=>.int (i * j)):=JZ λ_ _ _ _ _ _ _ hc q=>mul_int q hc.ok
theorem zkk:As X (binaryOp .Mod) (rI (λ_ j=>j≠0) λi j=>.int (i.fmod j)):=JZ λ_ _ _ _ _ _ _ hc q=>mod_int' hc q
theorem zo7:As X (binaryOp .Pow) (rI CPow λi j=>.int (i ^ j.toNat)):=JZ λ_ _ _ _ _ _ _ hc q=>pow_int_small hc.1 hc.2.1 hc.2.2 q
theorem unI{g:Int->Int}
  (rule:∀(i ) (t ) (s ) (Q ) (E ),Q (.int (g i) s.toks) { s with toks:=s.toks+1 }->wpAny (model X.prog X.w) X.A (f (.int i t)) Q E s) :
  Jw X f (rU λi=>.int (g i)):=by
 intro pz s σ H x v Q I rx h;obtain⟨i,rfl,q⟩:=h;obtain⟨t,rfl⟩:=rx;exact rule i t s _ _ ⟨.int (g i),H,I.tok _,⟨_,rfl⟩,q⟩
theorem zm7:Jw X (unaryOp .USub) (rU λi=>.int (-i)):=unI λ_ _ _ _ _ q=>neg_int q
end
section
variable {X:Cx}{a b c:Expr}{ta tb tc:TE}{pos:Pos}
theorem Jk{σ:St}(I:Inv X pz σ H s)(q:Q (.bl k) H)(e:k=k'):EP X pz σ Q (.bool k') s:=by
 subst e;exact⟨.bl k,H,I,rfl,q⟩
theorem op_lt:As X (compareOp .Lt) (FR λi j=>.bl (decide (i<j))):=L4 λ_ _ _ _ _ _ _ q=>lt_int q
theorem WC:As X (compareOp .LtE) (FR λi j=>.bl (decide (i<=j))):=L4 λ_ _ _ _ _ _ _ q=>le_int q
theorem op_gt:As X (compareOp .Gt) (FR λi j=>.bl (decide (j<i))):=L4 λ_ _ _ _ _ _ _ q=>gt_int q
theorem op_ge:As X (compareOp .GtE) (FR λi j=>.bl (decide (j<=i))):=L4 λ_ _ _ _ _ _ _ q=>ge_int q
theorem zez:As X (compareOp .In) (λx y H Q=>∃i j,x=.str i/\y=.str j/\Q (.bl (!(Builtin.Str.occurrences j i 0 j.length 1).isEmpty)) H):=by
 intro pz s σ H x y v u Q I rx ry h;obtain⟨i,j,rfl,rfl,q⟩:=h;obtain⟨t,rfl⟩:=rx;obtain⟨t',rfl⟩:=ry;exact in_str (Jk I q rfl)
theorem zo8:As X (compareOp .Is) (λx y H Q=>y=.non/\Q (.bl (decide (x=.non))) H):=by
 intro pz s σ H x y v u Q I rx ry h;obtain⟨rfl,q⟩:=h;cases ry;refine is_none_gen (Jk I q ?_)
 cases x<;>first
  |rfl
  |(obtain⟨t,rfl⟩:=rx;rfl)
theorem zkh:As X (compareOp .IsNot) (λx y H Q=>y=.non/\Q (.bl (!decide (x=.non))) H):=by
 intro pz s σ H x y v u Q I rx ry h;obtain⟨rfl,q⟩:=h;cases ry;refine isnot_none_gen (Jk I q ?_)
 cases x<;>first
  |rfl
  |(obtain⟨t,rfl⟩:=rx;rfl)
theorem zkd   (ho:As X (compareOp op) r)(ha:PE X a ta)(hb:PE X b tb)(hm:behindInMarks op b=false):PE X (.Compare a [op] [b] pos) (ID r ta tb):=by
 intro pz s σ H Q I h;exact wpAny_Compare1 (Rt ha hb I h λv u s2 x y H2 I2 rx ry q=>ho pz s2 σ H2 x y v u Q I2 rx ry q) hm
def TK(t:TE):TT:=λσ H Q=>t σ H λx H'=>∃k,x=.bl k/\Q k H'
theorem zk0(ho:As X (compareOp op) r)(ha:PE X a ta)(hb:PE X b tb)(hm:behindInMarks op b=false):PT X (.Compare a [op] [b] pos) (TK (ID r ta tb)):=by
 intro pz s σ H Q I h
 refine wpAny_isTrue_Compare1 (AX (ha pz s σ H _ I h) λv s1 zz=>?_) hm;obtain⟨x,H1,I1,r1,q1⟩:=zz;refine AX (hb pz s1 σ H1 _ I1 q1) λu s2 zz=>?_
 obtain⟨y,H2,I2,r2,q2⟩:=zz;refine AX (ho pz s2 σ H2 x y v u _ I2 r1 r2 q2) λc s3 zz=>?_
 obtain⟨z,H3,I3,r3,k,e,q3⟩:=zz;subst e;cases r3;exact Č ⟨H3,I3,q3⟩
def OC(r r':R2)(ta tb tc:TE):TE:=λσ H Q=>ta σ H λx H1=>tb σ H1 λy H2=>r x y H2 λz H3=>∃k,z=.bl k /\
 (if k=true then tc σ H3 λw' H4=>r' y w' H4 Q else Q (.bl false) H3)
theorem zhi(ho:As X (compareOp op) r)(ho':As X (compareOp op') r')(ha:PE X a ta)(hb:PE X b tb)(hc:PE X c tc)
  (hm:lastMarks [op,op'] [b,c]=false):PE X (.Compare a [op,op'] [b,c] pos) (OC r r' ta tb tc):=by
 intro pz s σ H Q I h
 refine Compare_chain (AX (ha pz s σ H _ I h) λv s1 zz=>?_) hm;obtain⟨x,H1,I1,r1,q1⟩:=zz;refine chain_link (AX (hb pz s1 σ H1 _ I1 q1) λu s2 zz=>?_);obtain⟨y,H2,I2,r2,q2⟩:=zz;refine AX (ho pz s2 σ H2 x y v u _ I2 r1 r2 q2) λd s3 zz=>?_
 obtain⟨z,H3,I3,r3,k,e,q3⟩:=zz;subst e;cases r3;refine Č ?_;cases k with
 |false=>exact ite_ff ⟨.bl false,H3,I3,rfl,q3⟩|true=>exact ite_tt (chain_last (AX (hc pz s3 σ H3 _ I3 q3) λw' s4 ⟨z',H4,I4,r4,q4⟩=>ho' pz s4 σ H4 y z' u w' Q I4 r2 r4 q4))
theorem zh9(ho:As X (compareOp op) r)(ho':As X (compareOp op') r')(ha:PE X a ta)(hb:PE X b tb)(hc:PE X c tc)
  (hm:lastMarks [op,op'] [b,c]=false):PT X (.Compare a [op,op'] [b,c] pos) (TK (OC r r' ta tb tc)):=by
 intro pz s σ H Q I h
 refine isTrue_chain (AX (ha pz s σ H _ I h) λv s1 ⟨x,H1,I1,r1,q1⟩=>test_link (AX (hb pz s1 σ H1 _ I1 q1) λu s2 ⟨y,H2,I2,r2,q2⟩=>
  AX (ho pz s2 σ H2 x y v u _ I2 r1 r2 q2) λd s3 ⟨z,H3,I3,r3,k,e,q3⟩=>?_)) hm
 subst e;cases r3;refine Č ?_;cases k with
 |false=>obtain⟨k',e',q'⟩:=q3;cases e';exact ite_ff ⟨H3,I3,q'⟩
 |true=>
  refine ite_tt (test_last (AX (hc pz s3 σ H3 _ I3 q3) λw' s4 ⟨z',H4,I4,r4,q4⟩=>AX (ho' pz s4 σ H4 y z' u w' _ I4 r2 r4 q4) λd' s5 zz=>?_))
  obtain⟨z2,H5,I5,r5,k2,e2,q5⟩:=zz;subst e2;cases r5;exact Č ⟨H5,I5,q5⟩
theorem J6:(sizeLine:Nat)<2 ^ 63:=by rw[č];decide
theorem ze2:As X (binaryOp .Add) (λx y H Q=>∃i j,x=.str i/\y=.str j/\i.length+j.length<=sizeLine/\Q (.str (i++j)) H):=by
 intro pz s σ H x y v u Q I rx ry h;obtain⟨i,j,rfl,rfl,hz,q⟩:=h;obtain⟨t,rfl⟩:=rx;obtain⟨t',rfl⟩:=ry;exact add_str (λt' tk=>⟨.str (i++j),H,I.tok _,⟨_,rfl⟩,q⟩) hz
theorem FK(r:Al [x] us):∃u,us=[u]/\Ab x u:=by
 cases r with
 |cons r1 r2=>cases r2;grind
theorem JH(r:Al [x,y] us):∃u w',us=[u,w']/\Ab x u/\Ab y w':=by
 cases r with
 |cons r1 r2=>
  cases r2 with
  |cons r3 r4=>cases r4;grind
theorem ziy:Cq X (.builtin "abs") (λxs H Q=>∃i,xs=[.int i]/\Q (.int (if i<0 then -i else i)) H):=by
 intro pz s σ H xs us Q I r h;obtain⟨i,rfl,q⟩:=h;obtain⟨u,rfl,t,rfl⟩:=FK r;exact call_abs_int λu tk=>⟨.int (if i<0 then -i else i),H,I.tok _,⟨_,rfl⟩,q⟩
theorem bH:Cq X (.type "int") (λxs H Q=>(∃i,xs=[.int i]/\Q (.int i) H)\/∃k,xs=[.bl k]/\Q (.int (if k then 1 else 0)) H):=by
 intro pz s σ H xs us Q I r h
 rcases h with ⟨i,rfl,q⟩|⟨k,rfl,q⟩
 .obtain⟨u,rfl,t,rfl⟩:=FK r;exact call_int_int ⟨.int i,H,I,⟨_,rfl⟩,q⟩
 .obtain⟨u,rfl,r1⟩:=FK r;cases r1;exact call_int_bool ⟨.int (if k then 1 else 0),H,I.tok _,⟨_,rfl⟩,q⟩
def LenV(K:k6)(x:V)(H:Hp)(n:Nat):Prop:=
 match x with
 |.str y=>y.length<=sizeLine/\n=y.length|.byt y=>y.size<=sizeLine/\n=y.size|.ref p=>(∃xs,Am K H p xs/\n=xs.length)\/∃xs,CV K H p xs/\n=xs.length|_=>False
theorem bG:Cq X (.builtin "len") (λxs H Q=>∃x n,xs=[x]/\LenV X.K x H n/\Q (.int n) H):=by
 intro pz s σ H xs us Q I r h;obtain⟨x,n,rfl,e,q⟩:=h;obtain⟨u,rfl,rx⟩:=FK r;have hl:=J6;have hs :=č;cases x with
 |str y=>obtain⟨t,rfl⟩:=rx;obtain⟨hy,e'⟩:y.length<=sizeLine/\n=y.length:=e;subst e';exact len_str (by omega) ⟨.int _,H,I.tok _,⟨_,rfl⟩,q⟩
 |byt y=>obtain⟨t,rfl⟩:=rx;obtain⟨hy,e'⟩:y.size<=sizeLine/\n=y.size:=e;subst e';exact W.len_bytes (by omega) ⟨.int _,H,I.tok _,⟨_,rfl⟩,q⟩
 |ref p=>
  cases rx;have e' :=e
  rcases e' with ⟨xs,hx,e'⟩|⟨xs,hx,e'⟩
  .subst e';obtain⟨its,r',pl,hz⟩:=I.list hx;have hlen:=r'.length;exact Calls.call_len_list pl.isList (by erw[ā];omega) ⟨.int xs.length,H,I.tok _,⟨_,by erw[ā];rw[hlen]⟩,q⟩
  .subst e';obtain⟨its,r',pl,hz⟩:=I.tuple hx;have hlen:=r'.length;exact len_tuple pl (by grind) ⟨.int xs.length,H,I.tok _,⟨_,by erw[ā];rw[hlen]⟩,q⟩
 |_=>exact(e).elim
end
structure ObjM(h:Heap)(x dx C:Addr)(mA:Str->Option Value):Prop where
 obj:h.get? x=some (W.instObj C dx)
 ns:h.Ns1 dx mA
 ne:dx≠x
theorem YH{h:Heap}(n:h.Ns1 dx mA):∃od,h.get? dx=some od/\∀name,W.lookIn name od=some (mA name):=by
 obtain⟨o,es,ep,ho,hd,hk,_,hm⟩:=n;refine⟨o,ho,λname=>?_⟩
 have e:=hm name;unfold nsFind findBy at e;rw[<- Array.find?_toList]at e;unfold W.lookIn;rw[hd];dsimp only;split
 .grind
 .have a:es.toList.any (·.refKey)=false:=by
   rw[List.any_eq_false];intro y hy;obtain⟨z,t,hkey⟩:=hk y (Array.mem_toList_iff.mp hy);simp[DictEntry.refKey,hkey]
  grind
theorem ObjM.look(I:ObjM h x dx C mA):∃od,PySem.W.InstAt h x (W.instObj C dx) C (some od)/\∀name,W.lookIn name od=some (mA name):=
 let ⟨od,ho,hl⟩:=YH I.ns
 ⟨od,⟨I.obj,rfl,rfl,ho⟩,hl⟩
section
variable {prog:Program}{w:World}{A:Around}{E:Value->Shared->Prop}{s:Shared}{K:k6}{x dx C f:Addr}{mA:Str->Option Value}{name:Str}{v:Value}
theorem zlo(X:K.In s.heap)(I:ObjM s.heap x dx C mA)(hg:W.plainGet K C name=true)(hh:W.hasDictIn K C=true)
  (ha:W.findIn K (.ref C) name=some none) (hv:mA name=some v) (hv':W.handedIn v=true) (h:Q v { s with toks:=s.toks+1 }) :
  wpAny (model prog w) A (getAttr (.ref x) name expr) Q E s:=by
 obtain⟨od,J,hl⟩:=I.look;exact W.get_value X J (Ŷ hg).1 (W.findObj_own hh ha rfl (by rw[hl,hv])) hv' h
theorem zid(X:K.In s.heap)(I:ObjM s.heap x dx C mA)(hg:W.plainGet K C name=true)
  (hf:W.findIn K (.ref C) name=some (some (.ref f))) (ht:W.isFn K (.ref f)=true) (hv:mA name=none) (h:Q (.ref f,[.ref x]) s) :
  wpAny (model prog w) A (getMethod (.ref x) name pl) Q E s:=by
 obtain⟨od,J,hl⟩:=I.look;exact W.method_fn X J (Ŷ hg).1 (Ŷ hg).2 hf (beq_iff_eq.mp ht) (by show(W.lookIn name od).map (·.isSome)=some false;grind) h
theorem zjn(X:K.In s.heap)(I:ObjM s.heap x dx C mA)
  (hs:W.findIn K (.ref C) "__setattr__"=some (some (.builtin "object.__setattr__"))) (hp:W.plainOver K C=true) (ht:W.takerIn K C name=some none) (hh:W.hasDictIn K C=true)
  (hw:PySem.Within mA ns) (hsz:ns.length<=sizeLine)
  (h:∀h',ObjM h' x dx C (λy=>if y=name then some v else mA y)->Heap.SameBut dx s.heap h'->Q () { s with heap:=h',toks:=s.toks+2 }) :
  wpAny (model prog w) A (setAttr (.ref x) name v) Q E s:=by
 obtain⟨od,J,hl⟩:=I.look;refine W.set_plain X J hs (W.osa_open X J hp ht λb=>?_)
 obtain⟨cd,hc,hd'⟩:=W.any_some hh;have hx :=I.obj;refine Á (Ç (Á (Á (wpAny_loadPart hx (Á (PySem.W.Looks.here (W.looks_clsIn X hc) ?_))))));rw[hd'];refine Ç (Á (Ç (Á ?_)));refine wpAny_nsSet1 I.ns λh' hn2 hs2=>?_
 obtain⟨oD,esD,epD,hoD,hdD,hcD⟩:=hn2.count (PySem.Within.cons name v hw);refine Á (wpAny_lookBehind hoD (by rw[hdD];exact pastItsLine_dict (Ó hcD (by grind))) ?_)
 exact Ç (h _ ⟨(hs2.2 _ (Ð I.ne)).trans I.obj,hn2,I.ne⟩ hs2)
theorem zhu    (X:K.In s.heap)(hm:W.makesIn K C=true)
  (hi:W.findIn K (.ref C) "__init__"=some (some (.ref f))) (hf:W.typeIn K (.ref f)=some (.type "function"))
  (h : codeAny (model prog w) (A.under (.builtin "type.__call__" ⟨.ref C :: vs, kw⟩)) (.call (.ref f) ⟨.ref (s.heap.objs.size + 1) :: vs, kw⟩) (PySem.W.InitBack (s.heap.objs.size + 1) R)
   { s with heap:=(s.heap.push W.emptyDict).push (W.instObj C s.heap.objs.size) }) :
  codeAny (model prog w) A (.call (.ref C) ⟨vs,kw⟩) R s:=by
 exact W.make_core (W.makes_of X hm) (W.looks_findIn X hi) (λself=>W.bind_fn X self hf) (.inl rfl) h
end
def DX(f:Str)(v:V):List (Str×V)->List (Str×V)
 |[]=>[(f,v)]|(g,x)::r=>if g=f then (g,v)::r else (g,x)::DX f v r
theorem YF(f g)(v):∀fs ,(DX f v fs).lookup g=if g=f then some v else fs.lookup g
 |[]=>by
  show List.lookup g [(f,v)]=_
  grind
 |(k,x)::r=>by
  have ih:=YF f g v r;rw[show DX f v ((k,x)::r)=(if k=f then (k,v)::r else (k,x)::DX f v r) from rfl]
  grind
theorem Pz(f)(v):∀fs ,f∈(DX f v fs).map (·.1)/\∀g,g∈fs.map (·.1)->g∈(DX f v fs).map (·.1)
 |[]=>⟨by simp[DX],λg h=>by simp at h⟩|(k,x)::r=>by
  obtain⟨i1,i2⟩:=Pz f v r;rw[show DX f v ((k,x)::r)=(if k=f then (k,v)::r else (k,x)::DX f v r) from rfl]
  grind
theorem YM(f)(v):∀fs ,(DX f v fs).length<=fs.length+1
 |[]=>by simp[DX]|(k,x)::r=>by
  have ih:=YM f v r;rw[show DX f v ((k,x)::r)=(if k=f then (k,v)::r else (k,x)::DX f v r) from rfl]
  grind
theorem EB.some_of(r:EB (some v) o):∃u,o=some u/\Ab v u:=by
 cases o with
 |none=>exact(r).elim|some u=>exact⟨u,rfl,r⟩
theorem EB.none_of(r:EB none o):o=none:=by
 cases o with
 |none=>rfl|some u=>exact(r).elim
theorem zff(r:Ab v u):W.handedIn u=true:=by
 cases v with
 |non=>cases (r);rfl|bl b=>cases (r);rfl|int i=>obtain⟨t,e⟩:=(r);cases e;rfl
 |str x=>obtain⟨t,e⟩:=(r);cases e;rfl
 |byt b=>obtain⟨t,e⟩:=(r);cases e;rfl
 |flt b=>obtain⟨t,e⟩:=(r);cases e;rfl
 |ref a=>cases (r);rfl|ty n=>cases (r);rfl
section
variable {P:Program}{w:World}{H H':Hp}{h h':Heap}{a C dx:Addr}{fs fs':List (Str×V)}
theorem MK(hok:HOk P w H h)(e:H a=some (.ins C dx fs)):∃mA,ObjM h a dx C mA/\(∀f,EB (fs.lookup f) (mA f))/\PySem.Within mA (fs.map (·.1))/\fs.length<=1000/\H dx=some (.own a):=by
 obtain⟨d,z,ne,ob,mA,n,r,q⟩:=(hok a _ e);exact⟨mA,⟨ob,n,ne⟩,r,q,z,d⟩
end
structure Cls(K:k6)(C:Addr):Prop where
 pg:W.plainGet K C Str.empty=true
 hd:W.hasDictIn K C=true
 po:W.plainOver K C=true
 sa:W.findIn K (.ref C) "__setattr__"=some (some (.builtin "object.__setattr__"))
theorem Cls.get{K}(c:Cls K C)(f):W.plainGet K C f=true:=c.pg
def Cb(K:k6)(C:Addr)(f:Str):Prop:=W.findIn K (.ref C) f=some none
theorem Cb.taker{K}(n:Cb K C f):W.takerIn K C f=some none:=by
 unfold W.takerIn;rw[n]
 rfl
structure Meth(K:k6)(C:Addr)(m:Str)(f:Addr):Prop where
 at_:W.findIn K (.ref C) m=some (some (.ref f))
 fn:W.isFn K (.ref f)=true
 kp:W.keepIn K (.ref f)=true
section
variable {X:Cx}{pz:List (Addr×Obj)}{σ:St}{H:Hp}{s:Shared}{a C dx:Addr}{fs:List (Str×V)}{f:Str}{v:V}{A:Around}{E:Value->Shared->Prop}
theorem zee(I:Inv X pz σ H s)(e:H a=some (.ins C dx fs))(c:Cls X.K C)(n:Cb X.K C f)(l:fs.lookup f=some v)
  (h:∀u s',Inv X pz σ H s'->Ab v u->Q u s'):wpAny (model X.prog X.w) A (getAttr (.ref a) f b) Q E s:=by
 obtain⟨mA,O,r,_,_,_⟩:=MK I.hok e;obtain⟨u,hu,ru⟩:=EB.some_of (v:=v) (o:=mA f) (by grind)
 exact zlo I.kIn O (c.get f) c.hd n hu (zff ru) (h u _ (I.tok _) ru)
theorem Ym(I:Inv X pz σ H s)(e:H a=some (.ins C dx fs))(c:Cls X.K C)(k:Meth X.K C m g)(l:fs.lookup m=none)
  (h:Q (.ref g,[.ref a]) s):wpAny (model X.prog X.w) A (getMethod (.ref a) m pl) Q E s:=by
 obtain⟨mA,O,r,_,_,_⟩:=MK I.hok e;have hn:mA m=none:=EB.none_of (by grind)
 exact zid I.kIn O (c.get m) k.at_ k.fn hn h
theorem zdz(I:Inv X pz σ H s)(e:H a=some (.ins C dx fs))(c:Cls X.K C)(n:Cb X.K C f)(hl:fs.length<1000)(ry:Ab y u)
  (h:∀s',Inv X pz σ (upd H a (.ins C dx (DX f y fs))) s'->Q () s'):wpAny (model X.prog X.w) A (setAttr (.ref a) f u) Q E s:=by
 obtain⟨mA,O,r,wi,_,ho⟩:=MK I.hok e;have hz:(fs.map (·.1)).length<=sizeLine:=by rw[À,č];omega
 refine zjn I.kIn O c.sa c.po n.taker c.hd wi hz λh' O' sb=>h _ ?_
 have hd:∃o,h'.get? dx=some o:=let ⟨o,_,_,e',_⟩:=O'.ns;⟨o,e'⟩;refine I.write (by rw[e];exact True.intro) (.inr ho) (λb q hb z=>(sb.2 b hb).trans z) hd ?_
 refine⟨by rw[Ag O.ne];exact ho,?_,O.ne,O'.obj,_,O'.ns,λg=>?_,λg hg=>?_⟩
 .have:=YM f y fs;omega
 .rw[YF]
  by_cases q:g=f
  .rw[if_pos q,if_pos q];exact ry
  .rw[if_neg q,if_neg q];exact r g
 .by_cases q:g=f
  .rw[q];exact(Pz f y fs).1
  .refine(Pz f y fs).2 g (wi g λz=>hg ?_)
   grind
theorem Inv.made(I:Inv X pz σ H s):Inv X pz σ (upd (upd H s.heap.objs.size (.own (s.heap.objs.size+1))) (s.heap.objs.size+1) (.ins C s.heap.objs.size []))
  { s with heap:=(s.heap.push W.emptyDict).push (W.instObj C s.heap.objs.size) }:=by
 have e1:(s.heap.push W.emptyDict).get? s.heap.objs.size=some W.emptyDict:=æ s.heap rfl
 have e2:((s.heap.push W.emptyDict).push (W.instObj C s.heap.objs.size)).get? (s.heap.objs.size+1)=some (W.instObj C s.heap.objs.size):=by
  have:=æ (s.heap.push W.emptyDict) (o:=W.instObj C s.heap.objs.size) rfl
  simp_all
 have e3:(s.heap.push W.emptyDict).Ns s.heap.objs.size (λ_=>none):=⟨W.emptyDict,#[],_,e1,rfl,(λe he=>absurd he (by simp)),λ_=>rfl⟩
 have I1:=I.laid (o:=.own (s.heap.objs.size+1)) (t':=s.toks) (λb u q=>Ì _ q) (È _) ⟨_,e1⟩
 refine I1.laid (λb u q=>Ì _ q) (Nat.le_of_eq (ċ _ _)) ?_
 have ne:s.heap.objs.size≠s.heap.objs.size+1:=Ö (ħ _);refine⟨by rw[Ag ne,Bj],õ _,ne,e2,λ_=>none,(Heap.Ns1.of_empty e3).at λo q=>Ì _ q,λ_=>True.intro,λy hy=>absurd rfl hy⟩
theorem bV         (hb:attributeBase e f env (eval e env)=eval e env)
  (h:wpAny (model prog w) A (eval e env) (λo s₁=>wpAny (model prog w) A (getAttr o f true) Q E s₁) E s):wpAny (model prog w) A (eval (.Attribute e f pos) env) Q E s:=
 Attribute_any_ h (by rw[arm_eval_Attribute,hb])
end
def tFld(K:k6)(ta:TE)(f:Str):TE:=λσ H Q=>ta σ H λx H1=>∃a C dx fs v,x=.ref a/\H1 a=some (.ins C dx fs)/\Cls K C/\Cb K C f/\fs.lookup f=some v/\Q v H1
def sFld(K:k6)(ta tv:TE)(f:Str):TS:=λD σ H=>tv σ H λy H1=>ta σ H1 λx H2=>∃a C dx fs,x=.ref a/\H2 a=some (.ins C dx fs)/\Cls K C/\Cb K C f/\fs.length<1000 /\
 D.nx σ (upd H2 a (.ins C dx (DX f y fs)))
section
variable {X:Cx}{o e value:Expr}{f:Str}{pos pos' tpos:Pos}{ta tv:TE}
theorem Vw(he:PE X e ta)(hb:attributeBase e f X.env (eval e X.env)=eval e X.env):PE X (.Attribute e f pos) (tFld X.K ta f):=by
 intro pz s σ H Q I h;refine bV hb (AX (he pz s σ H _ I h) λu s1 zz=>?_)
 obtain⟨x,H1,I1,rx,a,C,dx,fs,v,ex,ea,c,n,l,q⟩:=zz;subst ex;obtain rfl:u=Value.ref a:=rx;exact zee I1 ea c n l λu' s2 I2 ru=>⟨v,H1,I2,ru,q⟩
theorem znp(ha:PE X o ta)(hv:PE X value tv)(hs:swapsWith value (some (.Attribute o f pos')) pos.line X.env=pure false):PS X (.Assign [.Attribute o f pos'] value pos) (sFld X.K ta tv f):=by
 intro pz s σ H D I h;refine Κ (AX (hv pz s σ H _ I h) λu s1 zz=>?_) hs;obtain⟨y,H1,I1,ry,q⟩:=zz;refine AX (ha pz s1 σ H1 _ I1 q) λov s2 zz=>?_
 obtain⟨x,H2,I2,rx,a,C,dx,fs,ex,ea,c,n,l,q2⟩:=zz;subst ex;obtain rfl:ov=Value.ref a:=rx;exact zdz I2 ea c n l ry λs3 I3=>⟨σ,_,I3,q2⟩
end
section
variable {X:Cx}{pz:List (Addr×Obj)}{σ:St}{H:Hp}{s:Shared}{A:Around}{E:Value->Shared->Prop}{Q:Value->Shared->Prop}{c:Value}{b:Bool}
inductive TyOf(K:k6)(H:Hp):V->Value->Prop where
 |non:TyOf K H .non (.type "NoneType")
 |bl (x:Bool):TyOf K H (.bl x) (.type "bool")
 |int (i:Int):TyOf K H (.int i) (.type "int")
 |str (x:Str):TyOf K H (.str x) (.type "str")
 |flt (x:UInt64):TyOf K H (.flt x) (.type "float")
 |lst {a:Addr} {xs:List V} (e:H a=some (.lst xs)):TyOf K H (.ref a) (.type "list")
 |frz {a:Addr} {o:Obj} {xs:List V} (e:H a=some (.frz o (.lst xs))):TyOf K H (.ref a) (.type "list")
 |tup {a:Addr} {xs:List V} (e:H a=some (.tup xs)):TyOf K H (.ref a) (.type "tuple")
 |dK {a:Addr} {kvs:List (Key×V)} (e:H a=some (.dK kvs)):TyOf K H (.ref a) (.type "dict")
 |dT {a:Addr} {kvs:List (List Key×V)} (e:H a=some (.dT kvs)):TyOf K H (.ref a) (.type "dict")
 |ins {a C dx:Addr} {fs:List (Str×V)} (e:H a=some (.ins C dx fs)) (cl:Cls K C) (ha:W.findIn K (.ref C) "__class__"=some (some (.builtin "object.__class__")))
   (hn:W.specialIn K (.builtin "object.__class__") "__get__"=some (some (.builtin "getset_descriptor.__get__"))) (htk:W.takesIn K (.builtin "object.__class__")=some true)
   (hm:W.mroIn K C (.type "object")=some true):TyOf K H (.ref a) (.ref C)
theorem QH{x:V}  (I:Inv X pz σ H s)(rx:Ab x u)(ty:TyOf X.K H x t)(e:W.kitOne X.K t c=some b)(h:∀tk,Q (.bool b) { s with toks:=tk }) :
  wpAny (model X.prog X.w) A (call (.builtin "isinstance") [u,c]) Q E s:=by
 cases ty with
 |non=>cases (rx);exact û W.kitx_none I.kIn True.intro e (λz=>nomatch z) h
 |bl y=>cases (rx);exact û W.kitx_bool I.kIn True.intro e (λz=>nomatch z) h
 |int i=>obtain⟨t,q⟩:=(rx);cases q;exact û W.kitx_int I.kIn True.intro e (λz=>nomatch z) h
 |str y=>obtain⟨t,q⟩:=(rx);cases q;exact û W.kitx_str I.kIn True.intro e (λz=>nomatch z) h
 |flt y=>obtain⟨t,q⟩:=(rx);cases q;exact û W.kitx_float I.kIn True.intro e (λz=>nomatch z) h
 |@lst a xs ea=>cases (rx);obtain⟨_,_,n,_,h1⟩:=(I.hok a _ ea);exact û W.kitx_list I.kIn ⟨_,h1,rfl⟩ e (λz=>nomatch z) h
 |@frz a ob xs ea=>cases (rx);obtain⟨_,_,_,n,_,h1⟩:=(I.hok a _ ea);exact û W.kitx_list I.kIn ⟨_,h1,rfl⟩ e (λz=>nomatch z) h
 |@tup a xs ea=>cases (rx);obtain⟨_,_,_,p⟩:=(I.hok a _ ea);obtain⟨o,h1,h2,_⟩:=p;exact û W.kitx_tuple I.kIn ⟨o,h1,h2⟩ e (λz=>nomatch z) h
 |@dK a kvs ea=>cases (rx);obtain⟨_,_,vs,_,p⟩:=(I.hok a _ ea);obtain⟨o,es,ep,h1,h2,_⟩:=p;exact û ż I.kIn ⟨o,h1,h2.1⟩ e (λz=>nomatch z) h
 |@dT a kvs ea=>cases (rx);obtain⟨_,_,xs,_,o,es,ep,h1,h2,_⟩:=(I.hok a _ ea);exact û ż I.kIn ⟨o,h1,h2.1⟩ e (λz=>nomatch z) h
 |@ins a C dx fs ea cl ha hn htk hm=>cases (rx);obtain⟨mA,O,_⟩:=MK I.hok ea;obtain⟨od,J,_⟩:=O.look;exact û (W.kitx_own (cl.get _) cl.hd ha hn htk hm) I.kIn J e (λz=>nomatch z) h
end
structure Room(k:Nat)(A:Around):Prop where
 hd:A.handled=none
 dp:A.depth+3 * k+5<recursionLimit
 un:A.units+16 * k+200<cLine
theorem Room.mono(r:Room k A)(h:j<=k):Room j A:=⟨r.hd,by have:=r.dp;omega,by have:=r.un;omega⟩
theorem Room.deeper(r:Room (k+1) A)(env):Room k (A.deeper env):=
 ⟨r.hd,by have:=r.dp;show A.depth+1+3 * k+5<_;omega,by have:=r.un;show A.units+3+16 * k+200<_;omega⟩
theorem ze6{A:Around}:(A.under (.builtin "type.__call__" ⟨.ref C::us,kw⟩)).depth=A.depth+1:=by
 rfl
theorem ze5{A:Around}:(A.under (.builtin "type.__call__" ⟨.ref C::us,kw⟩)).units=A.units+1:=by
 rfl
theorem Room.make(r:Room (k+1) A)(C)(us)(kw):Room k (A.under (.builtin "type.__call__" ⟨.ref C::us,kw⟩)):=
 ⟨r.hd,by have:=r.dp;rw[ze6];omega,by have:=r.un;rw[ze5];omega⟩
theorem Room.depth(r:Room k A):A.depth<recursionLimit:=by have:=r.dp;omega
theorem Room.units(r:Room k A):A.units+64<cLine:=by have:=r.un;omega
def TU:TA:=λ_ H Q=>Q [] H
def tCons(ta:TE)(tr:TA):TA:=λσ H Q=>ta σ H λx H1=>tr σ H1 λxs H2=>Q (x::xs) H2
section
variable {X:Cx}{e:Expr}{es:kC}{te:TE}{t:TA}{pos:Pos}
theorem Es:PA X [] TU:=λ_ _ _ _ H Q I h=>Calls.spliced_nil ⟨[],H,I,.nil,h⟩
theorem EZ(ha:PE X e te)(hr:PA X es t)(hs:starEach (e::es) X.env=(false,eval e X.env)::starEach es X.env:=by rfl):PA X (e::es) (tCons te t):=by
 intro pos pz s σ H Q I h;rw[hs];refine Calls.spliced_cons (AX (ha pz s σ H _ I h) λu s1 zz=>?_)
 obtain⟨x,H1,I1,r1,q1⟩:=zz;exact AX (hr pos pz s1 σ H1 _ I1 q1) λus s2 ⟨xs,H2,I2,r2,q2⟩=>⟨x::xs,H2,I2,.cons r1 r2,q2⟩
def tTup(t:TA):TE:=λσ H Q=>t σ H λxs H1=>xs.length<=sizeLine/\∀p,H1 p=none->Q (.ref p) (upd H1 p (.tup xs))
def tLst(t:TA):TE:=λσ H Q=>t σ H λxs H1=>xs.length<=sizeLine/\∀p,H1 p=none->Q (.ref p) (upd H1 p (.lst xs))
theorem znw(h:PA X es t):PE X (.Tuple es x1 pos) (tTup t):=by
 intro pz s σ H Q I hq;refine wpAny_Tuple_spliced (AX (h pos pz s σ H _ I hq) λus s1 ⟨xs,H1,I1,r,z,q⟩=>⟨by rw[<- r.length];exact z,?_⟩)
 have hf :=I1.hok.fresh (È _);refine⟨.ref s1.heap.objs.size,upd H1 s1.heap.objs.size (.tup xs),I1.laid (λb u e=>Ì _ e) (È _) ?_,rfl,q _ hf⟩
 exact⟨z,us,r,⟨_,æ _ rfl,rfl,_,rfl⟩⟩
theorem zo0(h:PA X es t):PE X (.List es pos) (tLst t):=by
 intro pz s σ H Q I hq;refine wpAny_List_spliced (AX (h pos pz s σ H _ I hq) λus s1 ⟨xs,H1,I1,r,z,q⟩=>⟨by rw[<- r.length];exact z,?_⟩)
 have hf :=I1.hok.fresh (È _);refine⟨.ref s1.heap.objs.size,upd H1 s1.heap.objs.size (.lst xs),I1.laid (λb u e=>Ì _ e) (È _) ?_,rfl,q _ hf⟩
 exact⟨z,us,0,r,æ _ rfl⟩
end
abbrev Sp:=kK->Hp->VK->XK->Prop
abbrev Fe:=List Env->Hp->Shared->XK->Value->Shared->Prop
structure Env0(P:Program)(w:World)(K:k6)(mg:Str->Option Value)(base:Heap)(A:Around)(outer:List Env)(s:Shared)(H:Hp):Prop where
 frames:A.frames=some outer
 mod:Mod K mg base
 bs:∀b o,base.get? b=some o->s.heap.get? b=some o/\H b=none
 bsz:base.objs.size<=s.heap.objs.size
 funs:s.heap.FunFrames base outer
 frf:∀b∈BO outer,H b=none
 hok:HOk P w H s.heap
 bare:AllBare s.gens
def CE(outer:List Env)(P:Program)(w:World)(H:Hp)(s:Shared)(Q:VK)(u:Value)(s':Shared):Prop:=
 ∃v H',s'.os=s.os/\AllBare s'.gens/\Un (BO outer) [] H H' s.heap s'.heap/\HOk P w H' s'.heap/\Ab v u/\Q v H'
def CR(CX:Fe)(outer:List Env)(P:Program)(w:World)(H:Hp)(s:Shared)(Q:VK)(E:XK)(r:Result)(s':Shared):Prop:=
 match r with
 |.ok (.ret u)=>CE outer P w H s Q u s'|.ok _=>False|.error e=>CX outer H s E e s'
structure FnOk(P:Program)(w:World)(K:k6)(mg:Str->Option Value)(base:Heap)(CX:Fe)(k:Nat)(f:Addr)(fd:FuncData)(ps:kE)(sp:Sp):Prop where
 len:∀vs H Q E,sp vs H Q E->vs.length=ps.length
 run:∀(A:Around) (outer:List Env) (s:Shared) (H:Hp) (args:Args) (us:k9) (vs:kK) (Q:VK) (E:XK),Room k A->Env0 P w K mg base A outer s H->BindsTo s fd args (ps.zip us)->Al vs us->sp vs H Q E ->
  codeAny (model P w) A (.call (.ref f) args) (CR CX outer P w H s Q E) s
theorem Env0.make{K}{H:Hp}(e:Env0 P w K mg base A outer s H)(C:Addr)(us)(kw) :
  Env0 P w K mg base (A.under (.builtin "type.__call__" ⟨.ref C::us,kw⟩)) outer s H:=⟨by first|exact e.frames|rfl,e.mod,e.bs,e.bsz,e.funs,e.frf,e.hok,e.bare⟩
section
variable {X:Cx}{pz:List (Addr×Obj)}{σ:St}{H:Hp}{s s':Shared}
theorem Inv.env0(I:Inv X pz σ H s):Env0 X.prog X.w X.K X.mg X.base X.A X.stack s H:=
 ⟨I.ok.frames,I.ok.mod,I.bs,Ó I.ok.bsz I.sz,I.stack,I.stkFree,I.hok,I.bare⟩
theorem Inv.after   (I:Inv X pz σ H s)(h:CE X.stack X.prog X.w H s Q u s'):EP X pz σ Q u s':=by
 obtain⟨v,H',os,bare,un,hok,r,q⟩:=h;obtain⟨hh,g,d,t,os'⟩:=s';obtain rfl:os'=s.os:=os;exact⟨v,H',I.call un hok bare (λb z=>absurd z (by simp)),r,q⟩
end
def Cr(K:k6)(fd:FuncData)(ps:kE)(ds:k9):Prop:=
 ∀(s:Shared) (us:k9),K.In s.heap->(us++ds).length=ps.length->BindsTo s fd ⟨us,[]⟩ (ps.zip (us++ds))
theorem Cr.all{K }   (h:∀us ,us.length=ps.length->bindArgs fd ⟨us,[]⟩=pure (ps.zip us)):Cr K fd ps []:=λs us _ hl=>by
 rw[ç]at hl ⊢;exact .of_eq (h us hl)
section
variable {X:Cx}{CX:Fe}{k:Nat}{f C:Addr}{fd:FuncData}{ps:kE}{sp:Sp}{dvs:kK}{ds:k9}{E:XK}{x m:Str}{p pos apos:Pos}{e o:Expr}{es:kC}{ta:TE}{t:TA}
structure Mk(K:k6)(C f:Addr):Prop where
 makes:W.makesIn K C=true
 init:W.findIn K (.ref C) "__init__"=some (some (.ref f))
 fn:W.isFn K (.ref f)=true
 kp:W.keepIn K (.ref C)=true
end
section
variable {X:Cx}{CX:Fe}{k:Nat}{f C:Addr}{fd:FuncData}{ps ks:kE}{sp:Sp}{E:XK}{x m:Str}{p pos apos kpos:Pos}{e o:Expr}{es:kC}{kws:List Keyword}{te ta:TE}{t tk:TA}{nm:Option Str}
variable {g:k9->k9->k9}{gV:kK->kK->kK}
end
structure FnScope(N P:kE)(sc:Scope):Prop where
 kind:sc.kind=.function
 co:sc.isCoroutine=false
 gen:sc.isGenerator=false
 nd:N.Nodup
 pre:N.take P.length=P
 par:∀x∈P,sc.names.lookup x=some .local\/sc.names.lookup x=some .cell
 nofree:∀y∈sc.names,y.2≠.free
theorem bO{kindOf}:∀{binds} {m},(∀v,(x,v)∉binds)->bindL kindOf binds m x=m x
 |[],_,_=>rfl|(n,v)::r,m,h=>by
  unfold bindL;rw[bO λw hw=>h w (Å _ hw)]
  split
  .grind
  .rfl
theorem bQ{kindOf}:∀{binds} {m},(∀v,(x,v)∉binds)->bindC kindOf binds m x=m x
 |[],_,_=>rfl|(n,v)::r,m,h=>by
  unfold bindC;rw[bQ λw hw=>h w (Å _ hw)]
  split
  .rfl
  grind
theorem bP{kindOf}{x}{v}:∀{P:kE} {vs} {i:Nat} {m},P.Nodup->P[i]?=some x->vs[i]?=some v->kindOf x=some .local ->
  bindL kindOf (P.zip vs) m x=some v
 |[],_,_,_,_,h,_,_=>by simp at h|_::_,[],_,_,_,_,h,_=>by simp at h|p::P,w::vs,0,m,nd,h1,h2,hk=>by
  simp at h1 h2;subst h1;subst h2;show bindL kindOf ((p,w)::P.zip vs) m p=_;unfold bindL;rw[bO λv hv=>(Ċ.mp nd).1 (ř hv).1,if_pos hk]
  simp
 |p::P,w::vs,i+1,m,nd,h1,h2,hk=>by
  unfold bindL;exact bP (i:=i) (Ċ.mp nd).2 (by grind) (by grind) hk
theorem bR{kindOf}{x}{v}:∀{P:kE} {vs} {i:Nat} {m},P.Nodup->P[i]?=some x->vs[i]?=some v->kindOf x≠some .local ->
  bindC kindOf (P.zip vs) m x=some v
 |[],_,_,_,_,h,_,_=>by simp at h|_::_,[],_,_,_,_,h,_=>by simp at h|p::P,w::vs,0,m,nd,h1,h2,hk=>by
  simp at h1 h2;subst h1;subst h2;show bindC kindOf ((p,w)::P.zip vs) m p=_;unfold bindC;rw[bQ λv hv=>(Ċ.mp nd).1 (ř hv).1,if_neg hk]
  simp
 |p::P,w::vs,i+1,m,nd,h1,h2,hk=>by
  unfold bindC;exact bR (i:=i) (Ċ.mp nd).2 (by grind) (by grind) hk
def start(N:kE)(vs:kK):St:=vs.map some++List.replicate (N.length - vs.length) none
noncomputable def Em(CX:Fe)(P:Program)(w:World)(K:k6)(mg:Str->Option Value)(base:Heap)(N:kE)(qual:Str)(scope:Scope)(f:Addr)(cd:Value)(A:Around)(outer:List Env)(s:Shared)(H:Hp)(E:XK):Cx where
 prog:=P
 w:=w
 K:=K
 mg:=mg
 base:=base
 A:=A.deeper (envOfC qual scope s.heap.objs.size f cd)
 N:=N
 s₀:=s
 H₀:=H
 env:=envOfC qual scope s.heap.objs.size f cd
 outer:=outer
 stack:=envOfC qual scope s.heap.objs.size f cd::outer
 ex:=[]
 calm:=true
 fn:=λ_=>true
 pn:=[]
 xe:=λe s'=>wpAny (model P w) (A.deeper (envOfC qual scope s.heap.objs.size f cd)) (leaving (envOfC qual scope s.heap.objs.size f cd) e) (λ_ s''=>CX outer H s E e s'') (λe' s''=>CX outer H s E e' s'') s'
theorem bB{sc:Scope}(h:sc.names.lookup x=some .cell):∃c,(cellsFrom n sc.names []).lookup x=some c:=by
 have q:=W.cellsFrom_some sc.names n [] (.inl h);exact ŭ.mp q
theorem zfc{CX:Fe}{P:Program}{w:World}{K:k6}{base:Heap}{N ps:kE}{qual:Str}{scope:Scope}{f:Addr}{cd:Value}{A:Around}{s s1:Shared}{H:Hp}{E:XK}{vs:kK}
  (S:FnScope N ps scope) (hd:A.handled=none) (e0:Env0 P w K mg base A outer s H) (hl:vs.length=ps.length) (r:Al vs us)
  (x:InCallC s s.heap.objs.size (bindL (envOfC qual scope s.heap.objs.size f cd).kindOf (ps.zip us) λ_=>none) (cellsFrom (s.heap.objs.size+1) scope.names []) (bindC (envOfC qual scope s.heap.objs.size f cd).kindOf (ps.zip us) λ_=>none) s1) :
  Inv (Em CX P w K mg base N qual scope f cd A outer s H E) [] (start N vs) H s1:=by
 have hpl :=by have:=congrArg List.length S.pre;rw[ă]at this;omega
 obtain⟨h1,tk,rfl,hk⟩:=x.done;have noA:∀b ,b∉(Em CX P w K mg base N qual scope f cd A outer s H E).ex:=λb z=>absurd (show b∈[] from z) (by simp)
 refine⟨⟨e0.mod,S.kind,rfl,rfl,È _,λy z c h1 h2=>?_,λy hy=>?_,λy c _ h=>?_,λ_=>hd,Around.frames_deeper e0.frames,.inr ⟨rfl,rfl⟩,λb z=>absurd z (noA b),e0.bs,e0.bsz,λb _ _=>noA b,λb z=>absurd z (noA b),e0.funs,e0.frf⟩,
  rfl,e0.bare,Un.kept hk,⟨_,x.toInCall.ns,λi y v h1 h2 h3=>?_⟩,λy c h=>⟨_,x.cell y c h⟩,e0.hok.fresh (È _),λy c h=>?_,λp hp=>absurd (show p∈[] from hp) (by simp),e0.hok.kept hk,?_⟩
 .exact name_of_addr x.apart (đ h1) (đ h2)
 .have hy :=hy
  rcases hy with hy|hy
  .exact bB hy
  .exact absurd rfl (S.nofree _ (đ hy))
 .exact Ň (x.above y c (đ h))
 .have hi:i<vs.length:=by
   unfold start at h2
   by_cases hi:i<vs.length
   .exact hi
   .rw[ę (by simpa using hi)]at h2
    rw[Ů]at h2;split at h2<;>cases h2
  have ha:vs[i]?=some v:=by
   unfold start at h2;rw[ć (by simpa using hi),Ä]at h2
   cases e:vs[i]? with
   |none=>rw[e]at h2;cases h2|some a=>rw[e]at h2;cases h2;rfl
  obtain⟨u,hu,rv⟩:=r.get ha
  have hp:ps[i]?=some y:=by
   rw[<- S.pre,ō (by omega)];exact h1
  have ndP:ps.Nodup:=by rw[<- S.pre];exact S.nd.sublist (List.take_sublist _ _)
  refine⟨u,rv,?_⟩
  rcases S.par y (Ú hp) with k|k
  .exact .inl ⟨k,bP ndP hp hu k⟩
  .obtain⟨c,e⟩:=bB k;refine .inr ⟨.inl k,c,e,?_⟩;have q:=x.cell y c e;rw[bR ndP hp hu (by show scope.names.lookup y≠_;rw[k];decide)]at q
   exact q
 .exact e0.hok.fresh (Ň (x.above y c (đ h)))
 .unfold start;show _=N.length;rw[Ø,À,ų]
  omega
theorem fn_of{CX:Fe} {K} {k:Nat} {dV kV doc pm cdv ct oc:Value}
   {sp:Sp} (lk:K.lookup f=some ⟨oc,od,.func (W.fnOf name qual params body scope dV kV doc pm an cdv ct),osl⟩) (hcd:W.codeIn K cdv qual=true) (S:FnScope N ps scope)
  (len:∀vs H Q E,sp vs H Q E->vs.length=ps.length)
  (hbody : ∀ (A) (outer) (s) (H : Hp) (vs : kK) (Q : VK) (E : XK), Room k (A.deeper (envOfC qual scope s.heap.objs.size f cdv)) -> sp vs H Q E ->
   ∃t,B3 (Em CX P w K mg base N qual scope f cdv A outer s H E) body t/\t { nx:=λ_ H'=>Q .non H',rt:=Q} (start N vs) H) :
  FnOk P w K mg base CX (k+1) f (W.fnOf name qual params body scope dV kV doc pm an cdv ct) ps sp:=by
 refine⟨len,λA outer s H args us vs Q E hr e0 hb r hsp=>?_⟩
 have hl:=len _ _ _ _ hsp;have KX :=e0.mod.kin.keeps λb o e=>(e0.bs b o e).1
 have Bh :=e0.mod.nolimit.keeps λb o e=>(e0.bs b o e).1
 have hkind:∀y∈ps.zip us,scope.names.lookup y.1=some .local\/(scope.names.lookup y.1=some .cell/\((cellsFrom (s.heap.objs.size+1) scope.names []).lookup y.1).isSome=true):=λ⟨n,v⟩ hy=>by
  rcases S.par n (ř hy).1 with q|q
  .exact .inl q
  .exact .inr ⟨q,W.cellsFrom_some _ _ _ (.inl q)⟩
 refine codeAny_call_function hr.depth (KX _ _ lk) rfl S.co S.gen rfl (W.codeRec_of KX hcd) (hb _ _ _ _ ?_);refine wpAny_newFunctionEnv_cells S.kind hkind λenv he s1 x=>?_
 subst he;refine⟨Bh.keeps x.toInCall.keep,codeAny_func ?_⟩;obtain⟨t,ht,hq⟩:=hbody A outer s H vs Q E (hr.deeper _) hsp;have I:Inv (Em CX P w K mg base N qual scope f cdv A outer s H E) [] (start N vs) H s1:=zfc S hr.hd e0 hl r x;refine è (ht [] s1 (start N vs) H _ I hq) (λfl s' hs=>?_) λe s' hs=>hs
 have BP:∀{σ'} {H'} {v} {u},Inv (Em CX P w K mg base N qual scope f cdv A outer s H E) [] σ' H' s'->Ab v u->Q v H'->CE outer P w H s Q u s':=
  λ{σ' H' v u} J rv q=>⟨v,H',J.os,J.bare,J.base,J.hok,rv,q⟩
 cases fl with
 |ret u=>obtain⟨v,σ',H',J,rv,q⟩:=hs;exact BP J rv q
 |next=>obtain⟨σ',H',J,q⟩:=hs;exact BP (v:=V.non) J rfl q
 |brk=>obtain⟨_,_,_,q⟩:=hs;exact False.elim q
 |cont=>obtain⟨_,_,_,q⟩:=hs;exact False.elim q
section
variable {X:Cx}{x:Str}{p pos:Pos}{e:Expr}{es:kC}{t:TA}{id T:String}{r:kK->Hp->VK->Prop}
def T7(r:kK->Hp->VK->Prop)(t:TA):TE:=λσ H Q=>t σ H λvs H1=>r vs H1 Q
theorem LW(hc:Cq X (.builtin id) r)(hg:Gl X x)(hm:X.mg x=none)(hv:bootBuiltins x=some (.builtin id))(ha:PA X (e::es) t)(hn:x≠"__name__")(hdb:(x == "__debug__")=false)
  (he:starEach (e::es) X.env=(false,eval e X.env)::starEach es X.env) (hpl:(backTo pos (starEach es X.env)).any (·.1)=false):PE X (.Call (.Name x p) (e::es) [] pos) (T7 r t):=by
 intro pz s σ H Q I h;refine ğ (G6 I hg hm hv ?_ hn hdb);exact PyProof.Rows.callWith_builtin1 (AX (ha pos pz s σ H _ I h) λus s1 ⟨vs,H1,I1,r1,q1⟩=>hc pz s1 σ H1 vs us Q I1 r1 q1) he hpl
theorem Vx(hc:Cq X (.type T) r)(hg:Gl X x)(hm:X.mg x=none)(hv:bootBuiltins x=some (.type T))(ha:PA X (e::es) t)(hn:x≠"__name__")(hdb:(x == "__debug__")=false)
  (he:starEach (e::es) X.env=(false,eval e X.env)::starEach es X.env) (hpl:(backTo pos (starEach es X.env)).any (·.1)=false):PE X (.Call (.Name x p) (e::es) [] pos) (T7 r t):=by
 intro pz s σ H Q I h;refine ğ (G6 I hg hm hv ?_ hn hdb);exact į (AX (ha pos pz s σ H _ I h) λus s1 ⟨vs,H1,I1,r1,q1⟩=>hc pz s1 σ H1 vs us Q I1 r1 q1) he hpl
end
end L2
namespace HT
open PySem PyProof.Rows
section
open PySem.SeqAt
open PySem.AutoSeq1 (wpAny_loadPart')
open PySem.MeetsSeq PySem.MeetsSeq2 PySem.MeetsSeq3
end
section
variable {prog:Program}{w:World}{A:Around}{E:Value->Shared->Prop}{s:Shared}
noncomputable def sIx(n d:Nat):kA->Nat
 |none=>d|some v=>if v<0 then (v+(n:Int)).toNat else min v.toNat n
theorem sIx_none(n d:Nat):sIx n d none=d:=rfl
theorem sIx_nat(n d k:Nat):sIx n d (some (k:Int))=min k n:=by
 rfl
end
end HT
namespace L2
open PySem PySem.Spec PyProof.Rows
abbrev TO:=St->Hp->(kA->Hp->Prop)->Prop
def PO(X:Cx)(e:Option Expr)(t:TO):Prop:=
 ∀(pz:List (Addr×Obj)) (s:Shared) (σ:St) (H:Hp) (Q:kA->Hp->Prop),Inv X pz σ H s->t σ H Q ->
  wpAny (model X.prog X.w) X.A (evalPart e X.env) (λu s'=>∃o H',Inv X pz σ H' s'/\IsPart u o/\Q o H') X.xe s
def zj8:TO:=λ_ H Q=>Q none H
def tPart(t:TE):TO:=λσ H Q=>t σ H λx H1=>∃i,x=.int i/\Q (some i) H1
section
variable {X:Cx}{e:Expr}{te:TE}{lo hi:Option Expr}{tl th:TO}{pos p2:Pos}
theorem zk7:PO X none zj8:=by
 intro pz s σ H Q I h;exact Ç ⟨none,H,I,.none,h⟩
theorem zk6(h:PE X e te):PO X (some e) (tPart te):=by
 intro pz s σ H Q I hw;refine AX (h pz s σ H _ I hw) λu s1 zz=>?_
 obtain⟨x,H1,I1,r1,q1⟩:=zz;obtain⟨i,rfl,q⟩:=q1;obtain⟨t,rfl⟩:=r1;exact⟨some i,H1,I1,.int i t,q⟩
def SA(X:Cx)(r:V->kA->kA->Hp->VK->Prop):Prop:=
 ∀(pz:List (Addr×Obj)) (s:Shared) (σ:St) (H:Hp) (x:V) (v vl vu:Value) (lo hi:kA) (sl:Addr) (Q:VK),Inv X pz σ H s->Ab x v->s.heap.IsSliceOf sl vl vu .none->IsPart vl lo->IsPart vu hi->r x lo hi H Q ->
  ∃T id,typeLookup (.type T) "__getitem__"=pure (some (.builtin id))/\s.TypeIs v T/\wpAny (model X.prog X.w) X.A (getItem v (.ref sl)) (EP X pz σ Q) X.xe s
def tSl(r:V->kA->kA->Hp->VK->Prop)(te:TE)(tl th:TO):TE:=λσ H Q=>te σ H λx H1=>tl σ H1 λl H2=>th σ H2 λu H3=>r x l u H3 Q
theorem Vs  (hr:SA X r)(he:PE X e te)(hl:PO X lo tl)(hu:PO X hi th):PE X (.Subscript e (.Slice lo hi none p2) pos) (tSl r te tl th):=by
 intro pz s σ H Q I h;refine Subscript_ (AX (he pz s σ H _ I h) λv s1 zz=>?_)
 obtain⟨x,H1,I1,r1,q1⟩:=zz;refine wpAny_Slice (AX (hl pz s1 σ H1 _ I1 q1) λvl s2 ⟨l,H2,I2,pl,q2⟩=>AX (hu pz s2 σ H2 _ I2 q2) λvu s3 zz=>?_)
 obtain⟨u,H3,I3,pu,q3⟩:=zz;refine Ç ?_;have I4:Inv X pz σ H3 { s3 with heap:=s3.heap.push { cls:=.type "slice",data:=.fields #[vl,vu,.none] } }:=I3.kept λb ob q=>Ì _ q
 obtain⟨T,id,hT,ht,hg⟩:=hr pz { s3 with heap:=s3.heap.push { cls:=.type "slice",data:=.fields #[vl,vu,.none] } } σ H3 x v vl vu l u s3.heap.objs.size Q I4 r1 (Heap.IsSliceOf.new ..) pl pu q3
 exact tail_any ht hT hg (by rfl)
def Jq(xs:kK)(lo hi:kA):kK:=(xs.drop (HT.sIx xs.length 0 lo)).take (HT.sIx xs.length xs.length hi - HT.sIx xs.length 0 lo)
theorem zdi(xs)(lo hi):(Jq xs lo hi).length<=xs.length:=by
 unfold Jq
 grind
end
noncomputable def Ce(n:Nat)(i:Int):Option Nat:=if 0<=i then (if i<n then some i.toNat else none) else if -(n:Int)<=i then some (i+n).toNat else none
def A5{α:Type}(xs:List α)(i:Int):Option α:=(Ce xs.length i).bind λj=>xs[j]?
theorem QF(h:Ce n i=some j):seqIndex? i n=some j/\j<n/\-n<=i/\i<n:=by
 unfold Ce at h
 by_cases h0:0<=i
 .rw[if_pos h0]at h
  by_cases h1:i<n
  .rw[if_pos h1]at h;have e :=ì h;exact⟨by rw[seqIndex_of h0 h1,e],by omega,by omega,h1⟩
  grind
 .rw[if_neg h0]at h
  by_cases h1:-n<=i
  .rw[if_pos h1]at h;have e :=ì h;exact⟨by rw[seqIndex_neg (by omega) h1,e],by omega,h1,by omega⟩
  grind
theorem Rw(h:A5 xs i=some v):∃j,seqIndex? i xs.length=some j/\xs[j]?=some v/\j<xs.length/\-xs.length<=i/\i<xs.length:=by
 unfold A5 at h;cases e:Ce xs.length i with
 |none=>grind|some j=>
  obtain⟨h1,h2,h3,h4⟩:=QF e
  grind
theorem CB{j:Nat}{v}(h:xs[j]?=some v):A5 xs j=some v:=by
 have hj :=(Õ.mp h).1
 have e:Ce xs.length j=some j:=by
  unfold Ce
  grind
 unfold A5;grind
def NP(b:Expr):Prop:=∀o i,subscripted b false o i=operate [o,i] (getItem o i)
def Fd(X:Cx)(r:R2):Prop:=
 ∀(value slice:Expr) (pz:List (Addr×Obj)) (s:Shared) (σ:St) (H:Hp) (x y:V) (v u:Value) (Q:VK),Inv X pz σ H s->Ab x v->Ab y u->r x y H Q ->
  subscripted slice false v u=operate [v,u] (getItem v u)->wpAny (model X.prog X.w) X.A (subscriptTail value slice v u) (EP X pz σ Q) X.xe s
def MtR(X:Cx)(id:String)(r:V->kK->Hp->VK->Prop):Prop:=
 ∀(pz:List (Addr×Obj)) (s:Shared) (σ:St) (H:Hp) (x:V) (xs:kK) (v:Value) (us:k9) (Q:VK),Inv X pz σ H s->Ab x v->Al xs us->r x xs H Q ->
  wpAny (model X.prog X.w) X.A (call (.builtin id) (v::us)) (EP X pz σ Q) X.xe s
section
variable {X:Cx}{a b:Expr}{ta tb:TE}{pos:Pos}
theorem Fd.or(h:Fd X r)(h':Fd X r'):Fd X (λx y H Q=>r x y H Q\/r' x y H Q):=by
 intro value slice pz s σ H x y v u Q I rx ry q hs
 rcases q with q|q
 .exact h value slice pz s σ H x y v u Q I rx ry q hs
 .exact h' value slice pz s σ H x y v u Q I rx ry q hs
theorem Vu  (hr:Fd X r)(ha:PE X a ta)(hb:PE X b tb)(hs:NP b):PE X (.Subscript a b pos) (ID r ta tb):=by
 intro pz s σ H Q I h;exact Subscript_ (Rt ha hb I h λv u s2 x y H2 I2 rx ry q=>hr a b pz s2 σ H2 x y v u Q I2 rx ry q (hs _ _))
def Vf(K:k6):R2:=λx y H Q=>∃p xs i v,x=.ref p/\y=.int i/\Am K H p xs/\A5 xs i=some v/\Q v H
def Vd(K:k6):R2:=λx y H Q=>∃p xs i v,x=.ref p/\y=.int i/\CV K H p xs/\A5 xs i=some v/\Q v H
def Ve:R2:=λx y H Q=>∃z i c,x=.str z/\y=.int i/\z.length<=sizeLine/\A5 z.cps.toList i=some c/\Q (.str ⟨#[c]⟩) H
theorem zld:Fd X (Vf X.K):=by
 intro value slice pz s σ H x y v u Q I rx ry h hs;obtain⟨p,xs,i,z,rfl,rfl,hq,he,q⟩:=h;cases rx;obtain⟨t,rfl⟩:=ry;obtain⟨its,r,pl,hz⟩:=I.list hq;obtain⟨j,h1,h2,h3,h4,h5⟩:=Rw he;obtain⟨w,ew,rw'⟩:=r.get h2;have hl:=r.length;have hn:=J6;have BP:EP X pz σ Q w s:=⟨z,H,I,rw',q⟩
 by_cases h0:0<=i
 .have hj :=by
   rw[seqIndex_of h0 h5]at h1;exact ì h1
  exact item_listR pl.isList h0 (by omega) (by rw[hj];simpa using ew) BP hs
 .have hj:(i+its.toArray.size).toNat=j:=by
   rw[seqIndex_neg (by omega) h4]at h1
   grind
  exact subscriptTail_builtinR pl.isList.typeIs slot_list_getitem.lookup
   (wpAny_getItem_list_neg pl.isList (by omega) (by rw[ā]<;>omega) (by omega) (by rw[hj];simpa using ew) ⟨rfl,BP⟩) hs
theorem zp4:Fd X (Vd X.K):=by
 intro value slice pz s σ H x y v u Q I rx ry h hs;obtain⟨p,xs,i,z,rfl,rfl,hq,he,q⟩:=h;cases rx;obtain⟨t,rfl⟩:=ry;obtain⟨its,r,pl,hz⟩:=I.tuple hq;obtain⟨j,h1,h2,h3,h4,h5⟩:=Rw he;obtain⟨w,ew,rw'⟩:=r.get h2;have hl:=r.length;have hn:=J6;have BP:EP X pz σ Q w s:=⟨z,H,I,rw',q⟩
 exact subscriptTail_builtinR pl.typeIs slot_tuple_getitem.lookup
  (getItem_tuple (j:=j) pl (by omega) (by omega) (by grind) (by grind) ⟨rfl,BP⟩) hs
theorem zp5:Fd X Ve:=by
 intro value slice pz s σ H x y v u Q I rx ry h hs;obtain⟨z,i,c,rfl,rfl,hz,he,q⟩:=h;obtain⟨t,rfl⟩:=rx;obtain⟨t',rfl⟩:=ry;obtain⟨j,h1,h2,h3,h4,h5⟩:=Rw he;have hl:z.cps.toList.length=z.length:=by simp[Str.length]
 rw[hl]at h1 h4 h5;have hn:=J6
 exact tail_any (ī s z t) slot_str_getitem.lookup (getItem_str (by
  grind) (by grind) ⟨.str ⟨#[c]⟩,H,I.tok _,⟨_,rfl⟩,q⟩) hs
def Vg(K:k6):R2:=λx y H Q=>Vf K x y H Q\/Vd K x y H Q\/Ve x y H Q
theorem zp6:Fd X (Vg X.K):=zld.or (zp4.or zp5)
theorem ze4(its:k9)(n j )(u ):Obj.mapSeq (·.setIfInBounds j u) { cls:=.type "list",data:=.seq its.toArray n }={ cls:=.type "list",data:=.seq (its.set j u).toArray n }:=by
 simp[Obj.mapSeq]
theorem Inv.lst{pz:List (Addr×Obj)}{σ:St}{H:Hp}{s:Shared}{p:Addr}{xs:kK}(I:Inv X pz σ H s)(h:H p=some (.lst xs)) :
  ∃(its:k9) (n:Nat),Al xs its/\s.heap.get? p=some { cls:=.type "list",data:=.seq its.toArray n }/\xs.length<=sizeLine:=by
 obtain⟨z,its,n,r,e⟩:=I.hok p _ h
 grind
theorem Inv.lstUpd{σ:St} {its its':k9} (I:Inv X pz σ H s)(h:H p=some (.lst xs))
  (ho:s.heap.get? p=some { cls:=.type "list",data:=.seq its.toArray n }) (hf:f { cls:=.type "list",data:=.seq its.toArray n }={ cls:=.type "list",data:=.seq its'.toArray n' }) (r:Al ys its') (hz:ys.length<=sizeLine) (t) :
  Inv X pz σ (upd H p (.lst ys)) { s with heap:=s.heap.update p f,toks:=t}:=by
 have e:(s.heap.update p f).get? p=some { cls:=.type "list",data:=.seq its'.toArray n' }:=by
  rw[Ĵ f ho (by rw[hf]<;>rfl),hf]
 refine I.write (by rw[h];trivial) (.inl rfl) (λb u hb q=>(ď _ _ (Ð hb)).trans q) ⟨_,e⟩ ?_
 exact⟨hz,its',n',r,e⟩
def rSetL:V->V->V->Hp->(Hp->Prop)->Prop:=λo i v H Q=>∃p xs k j,o=.ref p/\i=.int k/\H p=some (.lst xs)/\Ce xs.length k=some j/\Q (upd H p (.lst (xs.set j v)))
theorem zgx:SI X rSetL:=by
 intro pz s σ H o i v ov iv u Q I ro ri rv h;obtain⟨p,xs,k,j,rfl,rfl,hp,hj,q⟩:=h;cases ro;obtain⟨t,rfl⟩:=ri;obtain⟨its,n,r,ho,hz⟩:=I.lst hp;obtain⟨h1,h2,h3,h4⟩:=QF hj;have hl:=r.length;have hn:=J6
 have I' :=
  I.lstUpd hp ho (ze4 its n j u) (r.set rv j) (by rw[Ĉ];exact hz) s.toks
 by_cases h0:0<=k
 .have hk :=by
   rw[seqIndex_of h0 h4]at h1;exact ì h1
  exact W.ki_setAt ho h0 (by omega) (by grind) (by rw[hk];exact⟨_,I',q⟩)
 .have hk:(k+its.toArray.size).toNat=j:=by
   rw[seqIndex_neg (by omega) h3]at h1
   grind
  exact W.ki_setBack ho (by omega) (by grind) (by omega) (by rw[hk];exact⟨_,I',q⟩)
theorem zc8(lo hi)(n):(sliceBounds lo hi none n).1=HT.sIx n 0 lo/\(sliceBounds lo hi none n).2.1=HT.sIx n n hi/\(sliceBounds lo hi none n).2.2=1:=by
 refine⟨?_,?_,rfl⟩
 .cases lo with
  |none=>simp[sliceBounds,HT.sIx]|some i=>
   erw[sliceBounds,HT.sIx,Option.getD_none,Î]
   grind
 .cases hi with
  |none=>simp[sliceBounds,HT.sIx]|some i=>
   erw[sliceBounds,HT.sIx,Option.getD_none,Î]
   grind
theorem zbp(its:k9)(lo hi):slicePick its.toArray lo hi none=((its.drop (HT.sIx its.length 0 lo)).take (HT.sIx its.length its.length hi - HT.sIx its.length 0 lo)).toArray:=by
 obtain⟨h1,h2,h3⟩:=zc8 lo hi its.toArray.size;unfold slicePick;rw[h1,h2,h3];erw[sliceRange_one,pick_run]<;>rfl
def Vc(K:k6):V->kA->kA->Hp->VK->Prop:=λx lo hi H Q=>∃a xs,x=.ref a/\Am K H a xs/\∀p,H p=none->Q (.ref p) (upd H p (.lst (Jq xs lo hi)))
theorem zjg:SA X (Vc X.K):=by
 intro pz s σ H x v vl vu lo hi sl Q I rx hs pl pu h;obtain⟨a,xs,rfl,hx,q⟩:=h;cases rx;obtain⟨its,r,ht,hz⟩:=I.list hx;have hlen:=r.length;refine⟨"list",_,slot_list_getitem.lookup,ht.isList.typeIs,?_⟩;refine wpAny_getItem_list_slice ht.isList hs pl pu .none (by simp) ?_ (by grind)
 rw[zbp,<- hlen];refine⟨.ref s.heap.objs.size,_,I.laid (λb ob q=>Ì _ q) (È _) ?_,rfl,q _ (I.hok.fresh (È _))⟩
 exact⟨Ó (zdi xs lo hi) hz,_,0,(r.drop (HT.sIx xs.length 0 lo)).take (HT.sIx xs.length xs.length hi - HT.sIx xs.length 0 lo),æ _ rfl⟩
theorem zcw:Cq X (.type "list") (λxs H Q=>∃p ys,xs=[.ref p]/\(Am X.K H p ys\/CV X.K H p ys)/\∀l,H l=none->Q (.ref l) (upd H l (.lst ys))):=by
 intro pz s σ H xs us Q I r h;obtain⟨p,ys,rfl,hq,q⟩:=h;obtain⟨u,rfl,rx⟩:=FK r;cases rx
 have BP:∀(its ),Al ys its->ys.length<=sizeLine->∀(h' ) (c' ),(∀b o',s.heap.get? b=some o'->h'.get? b=some o') ->
   h'.get? s.heap.objs.size=some { cls:=.type "list",dict:=none,data:=.seq its.toArray c',slots:=#[] }->EP X pz σ Q (.ref s.heap.objs.size) { s with heap:=h' }:=λits r' hz h' c' kp e=>
  ⟨.ref s.heap.objs.size,_,I.laid kp (È _) (show Cf X.prog X.w _ h' _ (.lst ys) from⟨hz,its,c',r',e⟩),rfl,q _ (I.hok.fresh (È _))⟩
 rcases hq with hq|hq
 .obtain⟨its,r',pl,hz⟩:=I.list hq;have hlen:=r'.length;obtain⟨o,ho,hc,n,hd⟩:=pl.isList;exact call_list_seq p (.inl rfl) ho hc hd (λh' c' kp e=>BP its r' hz h' c' kp e) (by grind)
 .obtain⟨its,r',pl,hz⟩:=I.tuple hq;have hlen:=r'.length;obtain⟨o,ho,hc,n,hd⟩:=pl;exact call_list_seq p (.inr rfl) ho hc hd (λh' c' kp e=>BP its r' hz h' c' kp e) (by grind)
def Su(K:k6)(T:String)(x:V)(H:Hp):Prop:=match x with
 |.str _=>T="str"|.int _=>T="int"|.ref p=>(T="list"/\∃xs,Am K H p xs)\/(T="tuple"/\∃o,K.lookup p=some o/\o.cls=.type "tuple"/\o.dict=none) \/
   (T="dict"/\((∃kvs,H p=some (.dK kvs))\/∃kvs,H p=some (.dT kvs)))\/(T="set"/\∃S n,H p=some (.set S n))
 |_=>False
theorem zm8{σ:St}(I:Inv X pz σ H s)(r:Ab x v)(ty:Su X.K T x H) :
  s.TypeIs v T/\∀a,v=.ref a->∃ob,s.heap.get? a=some ob/\ob.dict=none:=by
 cases x with
 |str z=>obtain⟨t,rfl⟩:=r;cases (ty);exact⟨ī s z t,λ_ e=>nomatch e⟩
 |int i=>obtain⟨t,rfl⟩:=r;cases (ty);exact⟨typeIs_int s i t,λ_ e=>nomatch e⟩
 |ref p=>
  cases r
  rcases ty with ⟨rfl,xs,hq⟩|⟨rfl,o,hk,hc,hd⟩|⟨rfl,hk⟩|⟨rfl,S,n,hk⟩
  .obtain⟨its,_,pl,_⟩:=I.list hq;refine⟨pl.isList.typeIs,λa e=>?_⟩
   cases e;obtain⟨o,n,e,c,hd,_⟩:=pl;exact⟨o,e,hd⟩
  .refine⟨⟨o,I.kIn p o hk,hc⟩,λa e=>?_⟩
   cases e;exact⟨o,I.kIn _ o hk,hd⟩
  .have z:∃o,s.heap.get? p=some o/\o.ExactDict:=by
    rcases hk with ⟨kvs,hk⟩|⟨kvs,hk⟩
    .obtain⟨_,_,_,_,o,_,_,e,ex,_⟩:=I.hok p _ hk;exact⟨o,e,ex⟩
    .obtain⟨_,_,_,_,o,_,_,e,ex,_⟩:=I.hok p _ hk;exact⟨o,e,ex⟩
   obtain⟨o,e,ex⟩:=z;refine⟨⟨o,e,ex.1⟩,λa e2=>?_⟩
   cases e2;exact⟨o,e,ex.2.1⟩
  .obtain⟨o,_,_,_,e,ex,_⟩:=I.hok p _ hk;refine⟨⟨o,e,ex.1⟩,λa e2=>?_⟩
   cases e2;exact⟨o,e,ex.2.1⟩
 |_=>exact False.elim ty
def tBM(K:k6)(T:String)(r:V->kK->Hp->VK->Prop)(to:TE)(t:TA):TE:=λσ H Q=>to σ H λx H1=>Su K T x H1/\t σ H1 λxs H2=>r x xs H2 Q
variable {o e:Expr}{es:kC}{to:TE}{t:TA}{name:Str}{apos cpos:Pos}{T id:String}{r:V->kK->Hp->VK->Prop}
theorem JW(pa:PlainAttrs T)(slot:Slot T name id)(hty:typeOf (.builtin id)=pure (.type "method_descriptor"))(hm:MtR X id r)(ho:PE X o to)(ha:PA X (e::es) t)
  (hbase:attributeBase o name X.env (eval o X.env)=eval o X.env)
  (hfew : ((backTo cpos (starEach (e :: es) X.env)).all (fun x => !x.1) && (backToKw cpos (keywordEach [] X.env)).all (fun x => x.1.isSome)
   && decide ((e::es).length+([]:List Keyword).length+(if ([]:List Keyword).isEmpty then 0 else 1)<30))=true:=by rfl)
  (hline:(apos.endLine == cpos.line)=true) (hs:starEach (e::es) X.env=(false,eval e X.env)::starEach es X.env) (hplain:(backTo cpos (starEach es X.env)).any (·.1)=false) :
  PE X (.Call (.Attribute o name apos) (e::es) [] cpos) (tBM X.K T r to t):=by
 intro pz s σ H Q I h;refine wpAny_Call_method_late hbase hfew hline rfl (AX (ho pz s σ H _ I h) λv s1 zz=>?_)
 obtain⟨x,H1,I1,r1,ty,q1⟩:=zz;obtain⟨h1,h2⟩:=zm8 I1 r1 ty;refine⟨T,id,pa,slot,hty,h1,h2,?_⟩;have hA:=ha cpos pz s1 σ H1 _ I1 q1;rw[hs]at hA ⊢;refine Calls.callWith_builtin (by grind) (Calls.evalArgs_plain ?_)
 exact AX hA λus s2 ⟨vs,H2,I2,r2,q2⟩=>hm pz s2 σ H2 x vs v us Q I2 r1 r2 q2
end
def K0(X:Cx)(id:String)(r:V->kK->Hp->VK->Prop):Prop:=
 ∀(pz:List (Addr×Obj)) (s:Shared) (σ:St) (H:Hp) (x:V) (xs:kK) (v:Value) (us:k9) (Q:VK),Inv X pz σ H s->Ab x v->Al xs us->r x xs H Q ->
  wpAny (model X.prog X.w) X.A (call (.builtin id) (v::us)) (EP X pz σ Q) X.xe s
theorem Al.one{x us}(h:Al [x] us):∃u,us=[u]/\Ab x u:=by
 cases h with|cons r t=>cases t;exact⟨_,rfl,r⟩
theorem Al.rep(h:Al xs us):∀k ,Al (List.replicate k xs).flatten (List.replicate k us).flatten
 |0=>.nil|k+1=>by
  exact Al.append h (Al.rep h k)
theorem Yu(its):∀(k) (acc:k9),
  List.foldl (λx1 x2=>x1++x2) acc.toArray (List.replicate k its.toArray)=(acc++(List.replicate k its).flatten).toArray
 |0,acc=>by simp|k+1,acc=>by
  have e:acc.toArray++its.toArray=(acc++its).toArray:=by simp
  have e2:(acc++its)++(List.replicate k its).flatten=acc++(List.replicate (k+1) its).flatten:=by
   grind
  rw[<- e2,<- Yu its k (acc++its),<- e,List.replicate_succ,List.foldl_cons]
section
variable {X:Cx}{pz:List (Addr×Obj)}{σ:St}{H:Hp}{s:Shared}{l b:Addr}{xs ys zs:kK}
theorem Inv.lset{its its':k9}(I:Inv X pz σ H s)(hH:H l=some (.lst xs))
  (e:s.heap.get? l=some { cls:=.type "list",data:=.seq its.toArray n }) (hf:f its.toArray=its'.toArray) (hv:Al ys its') (hz:ys.length<=sizeLine) :
  Inv X pz σ (upd H l (.lst ys)) { s with heap:=s.heap.update l (Obj.mapSeq f),toks:=t' }:=by
 have q:=PySem.IsL.update e f;rw[hf]at q;refine I.write (by rw[hH];exact trivial) (.inl rfl) (λb' u hb hu=>(ď s.heap (Obj.mapSeq f) (Ð hb)).trans hu) ⟨_,q⟩ ?_
 exact⟨hz,its',_,hv,q⟩
theorem Inv.lnew(I:Inv X pz σ H s)(hv:Al ys its)(hz:ys.length<=sizeLine) :
  Inv X pz σ (upd H s.heap.objs.size (.lst ys)) { s with heap:=s.heap.push { cls:=.type "list",data:=.seq its.toArray },toks:=t' }:=
 I.laid (λ_ _ q=>Ì _ q) (È _) ⟨hz,its,0,hv,æ _ rfl⟩
theorem Inv.fresh(I:Inv X pz σ H s):H s.heap.objs.size=none:=I.hok.fresh (È _)
theorem Inv.lstM(I:Inv X pz σ H s)(hH:H l=some (.lst xs)):xs.length<=sizeLine/\∃(its:k9) (n:Nat),Al xs its/\xs.length=its.length/\s.heap.get? l=some { cls:=.type "list",data:=.seq its.toArray n }:=by
 obtain⟨z,its,n,r,e⟩:=I.hok l _ hH;exact⟨z,its,n,r,r.length,e⟩
theorem Xa(h:n<=sizeLine):Builtin.List.listTooLong n=false:=by
 exact Ù (by omega)
end
section
variable {X:Cx}
def zjw:V->kK->Hp->VK->Prop:=λx vs H Q=>∃l xs y,x=.ref l/\vs=[y]/\H l=some (.lst xs)/\xs.length<sizeLine/\Q .non (upd H l (.lst (xs++[y])))
theorem zf5:K0 X "list.append" zjw:=by
 intro pz s σ H x vs v us Q I rx rv h;obtain⟨l,xs,y,rfl,rfl,hH,hz,q⟩:=h;cases rx;obtain⟨u,rfl,ru⟩:=rv.one;obtain⟨z,its,n,r,hl,e⟩:=I.lstM hH;refine ŉ F.slot_list_append ⟨_,e,rfl⟩ F.entry_list_append (F.args_list_append_2 _ _) (PySem.list_append l its.toArray n u (by grind)) ⟨e,?_⟩
 refine⟨.non,_,I.lset hH e (by simp) (r.append (.cons ru .nil)) ?_,rfl,q⟩
 grind
def zjv:V->kK->Hp->VK->Prop:=λx vs H Q=>∃l b xs zs,x=.ref l/\vs=[.ref b]/\H l=some (.lst xs)/\H b=some (.lst zs)/\xs.length+zs.length<=sizeLine/\Q .non (upd H l (.lst (xs++zs)))
theorem zf4:K0 X "list.extend" zjv:=by
 intro pz s σ H x vs v us Q I rx rv h;obtain⟨l,b,xs,zs,rfl,rfl,hH,hB,hz,q⟩:=h;cases rx;obtain⟨u,rfl,ru⟩:=rv.one;cases ru;obtain⟨z,its,n,r,hl,e⟩:=I.lstM hH;obtain⟨z2,its2,n2,r2,hl2,e2⟩:=I.lstM hB;have hsz:its.toArray.size+its2.toArray.size<=sizeLine:=by grind
 have hlong:¬ (!its.toArray.isEmpty && Builtin.List.listTooLong (its.toArray.size+its2.toArray.size))=true:=by
  rw[Xa hsz];simp
 refine ŉ F.slot_list_extend ⟨_,e,rfl⟩ F.entry_list_extend (F.args_list_extend_2 _ _)
  (AutoSeq1.list_extend_list_list_0 l its.toArray n b its2.toArray n2 hlong (by omega) (by omega)) ⟨e,e2,?_⟩
 refine⟨.non,_,I.lset hH e (by simp) (r.append r2) ?_,rfl,q⟩
 grind
def rCat:R2:=λx y H Q=>∃l b xs zs,x=.ref l/\y=.ref b/\H l=some (.lst xs)/\H b=some (.lst zs)/\xs.length+zs.length<=sizeLine/\∀p,H p=none->Q (.ref p) (upd H p (.lst (xs++zs)))
theorem zoa:As X (binaryOp .Add) rCat:=by
 intro pz s σ H x y v u Q I rx ry h;obtain⟨l,b,xs,zs,rfl,rfl,hH,hB,hz,q⟩:=h;cases rx;cases ry;obtain⟨z,its,n,r,hl,e⟩:=I.lstM hH;obtain⟨z2,its2,n2,r2,hl2,e2⟩:=I.lstM hB;refine PySem.P.add_list e e2 ?_ (by grind)
 have ea:its.toArray++its2.toArray=(its++its2).toArray:=by simp
 rw[ea];exact⟨.ref _,_,I.lnew (r.append r2) (by grind),rfl,q _ I.fresh⟩
def rRep:R2:=λx y H Q=>∃l k xs,x=.ref l/\y=.int k/\H l=some (.lst xs)/\-(2 ^ 63)<=k/\k<2 ^ 63/\xs.length * k.toNat<=sizeLine /\
 ∀p,H p=none->Q (.ref p) (upd H p (.lst (List.replicate k.toNat xs).flatten))
theorem zl7{α:Type}(xs:List α)(k):(List.replicate k xs).flatten.length=k * xs.length:=by
 simp
theorem zo6:As X (binaryOp .Mult) rRep:=by
 intro pz s σ H x y v u Q I rx ry h;obtain⟨l,k,xs,rfl,rfl,hH,h1,h2,hz,q⟩:=h;cases rx;obtain⟨t,rfl⟩:=ry;obtain⟨z,its,n,r,hl,e⟩:=I.lstM hH;have hlen:its.toArray.size * k.toNat<=sizeLine:=by rw[ā,<- hl];exact hz
 have hcap:¬ its.toArray.size * k.toNat > (2 ^ 63 - 1) / 8:=by
  have:sizeLine<=(2 ^ 63 - 1) / 8:=by decide
  omega
 have hfit:¬ (!Builtin.List.listFitsIndex k)=true:=by
  rw[fitsIndex_both h1 h2];exact ó
 have hlong:¬ Builtin.List.listTooLong (its.toArray.size * k.toNat)=true:=by
  rw[Xa hlen];exact ó
 have hnew:List.foldl (λx1 x2=>x1++x2) #[] (List.replicate (if its.toArray.isEmpty=true then 0 else k.toNat) its.toArray)=(List.replicate k.toNat its).flatten.toArray:=by
  have f0 :=λm=>by
   have:=Yu its m [];rw[ú]at this;exact this
  rw[f0];cases its with
  |nil=>simp|cons a r'=>rw[if_neg (by simp)]
 refine wpAny_binaryOp_repeat_ref (by decide) ⟨_,e,rfl⟩ (λs'=>typeIs_int s' k t) noFill_list_mul F.fills_int_mul F.slot_int_rmul repeat_list F.slot_int_index.lookup
  (ŉ F.slot_int_rmul (typeIs_int s k t) F.entry_int_rmul (F.args_int_rmul_2 _ _) (int___rmul___int_list k t l its.toArray n)
   ⟨e,rfl,⟨_,e,rfl⟩,ŉ F.slot_list_mul ⟨_,e,rfl⟩ F.entry_list_mul (F.args_list_mul_2 _ _) (AutoListH.list___mul___list_int_3 l its.toArray n k t hfit hcap hlong) ⟨e,?_⟩⟩)
 rw[hnew];exact⟨.ref _,_,I.lnew (r.rep k.toNat) (by rw[zl7,Nat.mul_comm];exact hz),rfl,q _ I.fresh⟩
end
section
variable {prog:Program}{w:World}{A:Around}{E:Value->Shared->Prop}{s:Shared}
end
section
variable {X:Cx}
end
end L2
namespace Att
open PySem PySem.W PySem.Calls PyProof.Rows
theorem zar:∀(ns) (vs),WellAll P h vs (ns.map WData.int)->IntsAre vs ns:=by
 intro ns
 induction ns with
 |nil=>intro vs w;cases w;exact .nil|cons n ns ih=>
  intro vs w;cases w with
  |cons a b=>cases a;exact .cons _ _ (ih _ b)
theorem zeu{l:OpenLaw}(hn:l.most=some n)
  (hpre:l.row.toRowW.claim.pre args=true) (hwl:WellAll P h vals args) :
  ∃a vs ns,vals=[Value.ref a]/\args=[WData.list (ns.map WData.int)]/\h.get? a=some { cls:=.type "list",data:=.seq vs.toArray }/\IntsAre vs ns/\ns.length<=n:=by
 have hsh :=(pre_splitW hpre).1;have hc:l.pre.holds [] { args:=args }=true:=(pre_splitW hpre).2;obtain⟨d,r,rfl,h1,h2⟩:=hasAllW_cons hsh;obtain rfl:=hasAllW_nil h2;obtain⟨xs,rfl,h3⟩:=hasW_list h1;obtain⟨ns,rfl⟩:=items_int h3
 have hlen:ns.length<=n:=by
  have h4:(WTm.not (.lt (.lit (.int n)) (.len (.arg 0)))).holds [] { args:=[.list (ns.map .int)] }=true:=by
   have h4:=(holds_andW hc).1
   grind
  have h5:=condW_of h4 (w_not (w_lt w_lit (w_len_list (w_arg rfl))))
  grind
 cases hwl with
 |cons w1 w2=>
  cases w2;cases w1 with
  |list ho hall=>exact⟨_,_,ns,rfl,rfl,ho,zar ns _ hall,hlen⟩
theorem zex(l:OpenLaw)(args):l.row.toRowW.claim.post args (.bool true) args=true:=
 postW_of
  (by rfl)
  (w_eq_bool (w_res rfl) w_lit) rfl
theorem attach_call{l:OpenLaw}
  (hn:l.most=some n) (hdf:d.params.defaults=[])
  (call : ∀ (w ) (s₀ s₁ ) (mg mb ) (fa ) (o ) (pm cd doc ) (a ) (vs ) (ns ),
   Ground q loose [] XP w s₀ mg mb s₁.heap->YP w s₁.heap ->
   s₁.heap.get? fa=some o->o.data=.func (docDef d.name d.params d.body d.scope pm cd doc)->s₁.heap.CodeRec cd d.name->mg d.name=some (.ref fa) ->
   s₁.heap.get? a=some { cls:=.type "list",data:=.seq vs.toArray }->IntsAre vs ns->ns.length<=n->s₁.gens=#[] ->
   codeAny (model l.prog w) callerA (.call (.ref fa) ⟨[.ref a],[]⟩) (λr s'=>r=.ok (.ret (.bool true))/\OldK s₁.heap s'.heap/\s'.os=s₁.os/\AllBare s'.gens) s₁) :
  WalkO q loose XP YP l.row.toRowW d [] (λf vs=>PySem.call f vs):=by
 intro w s₀ s₁ mg mb G Y fa o pm cd doc dV kV ho hd hcd hD hmg hg args vals as hpre hlay hrd hwl hlo;obtain rfl:dV=.none:=Dflts.none hD hdf;obtain rfl:kV=.none:=Dflts.noKw hD;obtain⟨a,vs,ns,rfl,rfl,hobj,hints,hlen⟩:=zeu hn hpre hwl;refine enter_call (ą (call w s₀ s₁ mg mb fa o pm cd doc a vs ns G Y ho (fd_plain hd) hcd hmg hobj hints hlen hg) λr s' hq=>?_)
 obtain⟨rfl,h2,h3,h4⟩:=hq;exact⟨.inl ⟨.bool true,.bool true,[],rfl,λ_=>rfl,.bool true,zex l _,λ_=>⟨List.Pairwise.nil,λ_ hm=>(nomatch hm)⟩⟩,h2,h3,h4⟩
section
variable {prog:Program}{w:World}{A:Around}{E:Value->Shared->Prop}{s:Shared}{K:Frag}
end
end Att
namespace L2
open PySem PySem.Spec PyProof.Rows
theorem Sk{vs ns}(h:IntsAre vs ns):Al (ns.map V.int) vs:=by
 induction h with
 |nil=>exact .nil
 |cons n t _ ih=>exact .cons ⟨t,rfl⟩ ih
def NQ(H:Hp):Prop:=∀b,H b=none\/∃o xs,H b=some (.frz o (.lst xs))
theorem zhz{K} {k:Nat} {x:Str}{sp:Sp}
  (KX:K.In s₁.heap) (hns:s₁.heap.Ns mainGlobals mg) (hb:s₁.heap.Ns builtinsNs mb) (hbb:∀x:Str,x≠"__name__"->mb x=bootBuiltins x) (hlim:s₁.heap.NoLimit) (hg:s₁.gens=#[])
  (ha:s₁.heap.get? a=some { cls:=.type "list",data:=.seq vs.toArray }) (hi:IntsAre vs ns) (hl:ns.length<=sizeLine) (hr:Room k callerA)
  (F:∀base:Heap,K.In base->base.Ns mainGlobals mg->FnOk P w K mg base CX k fa fd [x] sp) (hbind:∀(s) (u:Value),BindsTo s fd ⟨[u],[]⟩ [(x,u)])
  (hsp:∀H:Hp,NQ H->Am K H a (ns.map V.int)->sp [.ref a] H (λv _=>v=.bl true) λ_ _ _=>False)
  (hCX:∀H e s',CX [] H s₁ (λ_ _ _=>False) e s'->False) :
  codeAny (model P w) callerA (.call (.ref fa) ⟨[.ref a],[]⟩) (λr s'=>r=.ok (.ret (.bool true))/\OldK s₁.heap s'.heap/\s'.os=s₁.os/\AllBare s'.gens) s₁:=by
 have rv:=Sk hi;have lenV:=hi.length
 have core:∀H ,NQ H->Am K H a (ns.map V.int)->HOk P w H s₁.heap->(∀b,H b≠none->b=a)->(H a≠none->K.lookup a=none) ->
   codeAny (model P w) callerA (.call (.ref fa) ⟨[.ref a],[]⟩) (λr s'=>r=.ok (.ret (.bool true))/\OldK s₁.heap s'.heap/\s'.os=s₁.os/\AllBare s'.gens) s₁:=by
  intro H hO hS hok hA hK;have base_of:∀{b} {o},s₁.heap.get? b=some o->H b=none->(Gc s₁.heap H).get? b=some o:=λe n=>Χ e n
  have noA:∀{b} {o} {es} {ep},s₁.heap.get? b=some o->o.data=.dict es ep->H b=none:=λ{b o es ep} e d=>by
   cases q:H b with
   |none=>rfl|some u=>
    have e' :=hA b (by rw[q];simp)
    subst e';rw[ha]at e;cases e;have d' :=d;cases d'
  have nsK:∀{b} {m},s₁.heap.Ns b m->(Gc s₁.heap H).Ns b m:=λ{b m} ⟨o,es,ep,e,d,r⟩=>⟨o,es,ep,base_of e (noA e d),d,r⟩
  have hKb :=λb o e=>base_of (KX b o e) (by
   cases q:H b with
   |none=>rfl|some u=>
    have e' :=hA b (by rw[q];simp)
    subst e';rw[hK (by rw[q];simp)]at e;cases e)
  have hM:Mod K mg (Gc s₁.heap H):=⟨hKb,nsK hns,⟨mb,nsK hb,hbb⟩,let ⟨mc,h1,h2⟩:=hlim;⟨mc,nsK h1,h2⟩⟩;have e0:Env0 P w K mg (Gc s₁.heap H) callerA [] s₁ H:=⟨rfl,hM,λb o e=>Ψ e,Nat.le_of_eq (Φ _ _),trivial,λb hb=>absurd (show b∈[] from hb) (by simp),hok,.of_eq hg⟩
  refine ą ((F _ hKb (nsK hns)).run callerA [] s₁ H ⟨[.ref a],[]⟩ [.ref a] [.ref a] _ _ hr e0 (hbind s₁ (.ref a)) (.cons rfl .nil) (hsp H hO hS)) λr s' h=>?_
  cases r with
  |error e=>exact(hCX H e s' h).elim|ok fl=>
   cases fl with
   |next=>exact False.elim h|brk=>exact False.elim h|cont=>exact False.elim h|ret u=>
    obtain⟨v,H',os,bare,un,hok',r',q⟩:=h;have q' :=q;subst q';obtain rfl:u=Value.bool true:=r';refine⟨rfl,OldK.of_keep λb o e=>?_,os,bare⟩
    cases q:H b with
    |none=>exact un.keep b o e q (by intro z;exact absurd (show b∈[] from z) (by simp)) (by simp)|some u=>
     rcases hO b with z|⟨ob,xs,z⟩
     .rw[q]at z;cases z
     .have z2:=un.frzs b ob _ z;obtain⟨e1,_⟩:=hok b _ z;obtain⟨e2,_⟩:=hok' b _ z2;rw[e]at e1;cases e1;exact e2
 cases hk:K.lookup a with
 |some o=>have e:=KX a o hk;rw[ha]at e;cases e;refine core (λ_=>none) (λ_=>.inl rfl) (.inr ⟨_,vs.toArray,_,hk,rfl,rfl,rfl,by rw[ā,lenV];exact hl,by simpa using rv⟩) (λb u z=>by have z' :=z;cases z') (λb z=>absurd rfl z) λz=>absurd rfl z|none=>
  refine core (λb=>if b=a then some (.frz { cls:=.type "list",data:=.seq vs.toArray } (.lst (ns.map V.int))) else none) (λb=>?_) (.inl (.inr ⟨{ cls:=.type "list",data:=.seq vs.toArray },if_pos rfl⟩)) (λb u z=>?_) (λb z=>?_) λ_=>hk
  .by_cases hb:b=a
   .exact .inr ⟨_,_,if_pos hb⟩
   .exact .inl (if_neg hb)
  .by_cases hb:b=a
   .have z':=(if_pos hb).symm.trans z;cases z';subst hb;exact⟨ha,by rw[À];exact hl,vs,_,rv,ha⟩
   .have z':=(if_neg hb).symm.trans z;cases z'
  .by_cases hb:b=a
   .exact hb
   .exact absurd (if_neg hb) z
theorem walk_of{l:PySem.W.OpenLaw}{n k:Nat} {K:Params->k6}{CX:World->Fe}{sp:World->Sp}{x:Str}
  (hn:l.most=some n) (hn2:n<=sizeLine) (hdf:d.params.defaults=[]) (hr:Room k callerA)
  (hY:∀(w:World) (h:Heap),YP w h->(K w.params).In h)
  (F : ∀ (w : World) (mg) (fa : Addr) (h : Heap), (K w.params).In h -> h.Ns mainGlobals mg -> mg d.name = some (.ref fa) ->
   ∃fd:FuncData,(∀(s:Shared) (u:Value),BindsTo s fd ⟨[u],[]⟩ [(x,u)]) /\
    ∀base:Heap,(K w.params).In base->base.Ns mainGlobals mg->FnOk l.prog w (K w.params) mg base (CX w) k fa fd [x] (sp w))
  (hsp:∀(w:World) (H:Hp) (a:Addr) (ns:kF),ns.length<=n->NQ H->Am (K w.params) H a (ns.map V.int)->sp w [.ref a] H (λv _=>v=.bl true) λ_ _ _=>False)
  (hCX:∀(w:World) (H:Hp) (s:Shared) (e:Value) (s':Shared),CX w [] H s (λ_ _ _=>False) e s'->False) :
  PySem.W.WalkO q loose XP YP l.row.toRowW d [] (λf vs=>PySem.call f vs):=by
 refine Att.attach_call hn hdf λw s₀ s₁ mg mb fa o pm cd doc a vs ns G Y ho hd hcd hmg hobj hints hlen hg=>?_
 have KX:=hY w _ Y;obtain⟨fd,hb,hF⟩:=F w mg fa _ KX G.T.g hmg;exact zhz KX G.T.g G.T.b G.T.builtins G.T.nolimit hg hobj hints (Ó hlen hn2) hr hF hb (λH hO hS=>hsp w H a ns hlen hO hS) λH e s'=>hCX w H s₁ e s'
def M6(s:Stmt):Arguments:=match s with
 |.FunctionDef _ a _ _ _ _ _ _ _ _=>a|_=>{ posonlyargs:=[],args:=[],vararg:=none,kwonlyargs:=[],kw_defaults:=[],kwarg:=none,defaults:=[] }
def Fz(s:Stmt):kD:=match s with
 |.FunctionDef _ _ b _ _ _ _ _ _ _=>b|_=>[]
noncomputable def DJ(s:Stmt):Scope:=match s with
 |.FunctionDef _ _ _ _ _ _ sc _ _ _=>sc|_=>{ kind:=.function,names:=[],isGenerator:=false,isCoroutine:=false }
abbrev K5:Fe:=λ_ _ _ _ _ _=>False
abbrev E0:XK:=λ_ _ _=>False
section
variable {P:Program}{w:World}{K:k6}{mg:Str->Option Value}{base:Heap}
end
section
variable {X:Cx}
end
theorem J9{A B:Prop}(h:B):if false=true then A else B:=by
 grind
theorem J8{A B:Prop}(h:A):if true=true then A else B:=by
 rw[if_pos rfl];exact h
def Af(H H':Hp):Prop:=∀b o,H b=some o->H' b=some o
theorem Af.refl(H:Hp):Af H H:=λ_ _ h=>h
theorem Af.trans(a:Af H H1)(b:Af H1 H2):Af H H2:=λc o h=>b c o (a c o h)
theorem Af.seq{K}(e:Af H H')(h:Am K H a xs):Am K H' a xs:=by
 rcases h with (h|⟨o,h⟩)|h
 .exact .inl (.inl (e _ _ h))
 .exact .inl (.inr ⟨o,e _ _ h⟩)
 .exact .inr h
section
variable {κ:Type} [DecidableEq κ]
noncomputable def EH(kvs:List (κ×V))(k:κ):Option V:=(kvs.find? λkv=>decide (kv.1=k)).map (·.2)
noncomputable def EK(kvs:List (κ×V))(k:κ)(v:V):List (κ×V):=
 if (kvs.any λkv=>decide (kv.1=k))=true then kvs.map (λkv=>if kv.1=k then (kv.1,v) else kv) else kvs++[(k,v)]
theorem Ko{k:κ}(e:p.1=k):EH (p::r) k=some p.2:=by simp[EH,e]
theorem Kp{k:κ}(e:¬ p.1=k):EH (p::r) k=EH r k:=by simp[EH,e]
theorem Sn(k:κ):∀kvs ,(kvs.any λkv=>decide (kv.1=k))=(EH kvs k).isSome
 |[]=>rfl|p::r=>by
  rw[List.any_cons]
  by_cases e:p.1=k
  .erw[Ko e,Ñ e,Bool.true_or,Option.isSome_some]
  .rw[Kp e,Ù e];exact Sn k r
theorem YL(kvs)(k:κ)(v):(EK kvs k v).length<=kvs.length+1:=by
 unfold EK
 grind
theorem EB.isSome_eq(r:EB o u):o.isSome=u.isSome:=by
 cases o with
 |none=>cases u with
  |none=>rfl|some _=>exact(r).elim
 |some _=>cases u with
  |none=>exact(r).elim|some _=>rfl
theorem KV.val   (r:KV kvs vs)(k:κ):EB (EH kvs k) (valueAt vs k):=by
 induction r with
 |nil=>exact True.intro|@cons p q ps qs h t ih=>
  obtain⟨h1,h2⟩:=h
  by_cases e:p.1=k
  .have e' :=h1.symm.trans e;have b:valueAt (q::qs) k=some q.2:=by simp[valueAt,e']
   rw[Ko e,b];exact h2
  .have e':¬ q.1=k:=λz=>e (h1.trans z)
   have b:valueAt (q::qs) k=valueAt qs k:=by simp[valueAt,e']
   rw[Kp e,b];exact ih
theorem KV.any(r:KV kvs vs)(k:κ):(kvs.any λkv=>decide (kv.1=k))=vs.any λkv=>decide (kv.1=k):=by
 induction r with
 |nil=>rfl|cons h t ih=>grind
theorem KV.repl(r:KV kvs vs)(k:κ)(ry:Ab y u) :
  KV (kvs.map λkv=>if kv.1=k then (kv.1,y) else kv) (vs.map λkv=>if kv.1=k then (kv.1,u) else kv):=by
 induction r with
 |nil=>exact .nil|@cons p q ps qs h t ih=>
  refine .cons ?_ ih
  grind
theorem KV.put(r:KV kvs vs)(k:κ)(ry:Ab y u):KV (EK kvs k y) (stored vs k u):=by
 unfold EK stored;rw[r.any k]
 by_cases e:(vs.any λkv=>decide (kv.1=k))=true
 .rw[if_pos e,if_pos e];exact r.repl k ry
 .rw[if_neg e,if_neg e];exact Paired.snoc r ⟨rfl,ry⟩
theorem KV.length{kvs:List (κ×V)}(r:KV kvs vs):kvs.length=vs.length:=ŝ r
end
theorem QC(r:Ab (kV k) u):(DZ P w).is k u=true:=by
 cases k with
 |inl i=>obtain⟨t,e⟩:=(r);subst e;exact Τ P w i t
 |inr x=>obtain⟨t,e⟩:=(r);subst e;exact Υ P w x t
theorem Y4:∀{ks} {us},Al (ks.map kV) us->ItemsAre (DZ P w) ks us
 |[],_,r=>by cases r;exact .nil|k::ks,_,r=>by
  cases r with
  |cons h t=>exact .cons (QC h) (Y4 t)
abbrev KT(H:Hp):List (List Key×V)->List (List Key×Addr×Value)->Prop:=Paired λp q=>p.1=q.1/\H q.2.1=some (.tup (p.1.map kV))/\Ab p.2 q.2.2
theorem KT.val(r:KT H kvs xs)(k):EB (EH kvs k) ((atKey xs k).map (·.2)):=by
 induction r with
 |nil=>exact True.intro|@cons p q ps qs h t ih=>
  obtain⟨h1,_,h2⟩:=h
  by_cases e:p.1=k
  .have e' :=h1.symm.trans e;have b:atKey (q::qs) k=some q.2:=by simp[atKey,e']
   rw[Ko e,b];exact h2
  .have e':¬ q.1=k:=λz=>e (h1.trans z)
   have b:atKey (q::qs) k=atKey qs k:=by simp[atKey,e']
   rw[Kp e,b];exact ih
theorem KT.repl(r:KT H kvs xs)(k)(ry:Ab y u) :
  KT H (kvs.map λkv=>if kv.1=k then (kv.1,y) else kv) (xs.map (putAt k u)):=by
 induction r with
 |nil=>exact .nil|@cons p q ps qs h t ih=>
  refine .cons ?_ ih;unfold putAt
  grind
theorem KT.put{H:Hp}(r:KT H kvs xs)(k){y:V}(hb:H b=some (.tup (k.map kV)))(ry:Ab y u) :
  KT H (EK kvs k y) (storedH xs k b u):=by
 have e:(kvs.any λkv=>decide (kv.1=k))=(atKey xs k).isSome:=by
  rw[Sn,(r.val k).isSome_eq,Option.isSome_map]
 unfold EK storedH;rw[e]
 by_cases q:(atKey xs k).isSome=true
 .rw[if_pos q,if_pos q];exact r.repl k ry
 .rw[if_neg q,if_neg q];exact Paired.snoc r ⟨rfl,hb,ry⟩
theorem KT.keeps(r:KT H kvs xs)(ht:∀b ys,H b=some (.tup ys)->H' b=some (.tup ys)):KT H' kvs xs:=
 Paired.mapP r λ_ _ z=>⟨z.1,ht _ _ z.2.1,z.2.2⟩
section
variable {P:Program}{w:World}{H:Hp}{h:Heap}{a:Addr}
theorem V5{u:HO}(ok:HOk P w H h)(e:Rd H a u):Cf P w H h a u:=e.ok ok
theorem aH(ok:HOk P w H h)(e:Rd H a (.dK kvs)):kvs.length<=sizeLine/\(a == sysModules)=false/\∃vs,KV kvs vs/\h.DictOf (DZ P w) a vs:=
 V5 ok e
theorem aI(ok:HOk P w H h)(e:H a=some (.dK kvs)):kvs.length<=sizeLine/\(a == sysModules)=false/\∃vs,KV kvs vs/\h.DictOf (DZ P w) a vs:=aH ok (.inl e)
theorem QB  (ok:HOk P w H h)(e:H a=some (.tup (ks.map kV))):(tupleKind (DZ P w)).is h ks a:=by
 obtain⟨_,its,r,o,h1,h2,n,h3⟩:=(ok a _ e);exact⟨o,its.toArray,n,h1,h2,h3,by simpa using Y4 r⟩
theorem aE(ok:HOk P w H h)(e:Rd H a (.dT kvs)):kvs.length<=sizeLine/\(a == sysModules)=false /\
  ∃xs,KT H kvs xs/\h.DictOfH (tupleKind (DZ P w)) a xs:=by
 obtain⟨z,y,xs,r,o,es,ep,h1,h2,h3,h4,h5⟩:=(V5 ok e);refine⟨z,y,xs,r,o,es,ep,h1,h2,h3,h4,λx hx=>?_,h5⟩
 have all:∀{l } {m },KT H l m->∀x∈m,(tupleKind (DZ P w)).is h x.1 x.2.1:=by
  intro l m q
  induction q with
  |nil=>simp|@cons p q ps qs hq t ih=>
   intro x hx
   rcases(Ï.mp hx) with e|hx
   .exact QB ok (by grind)
   grind
 grind
theorem dt_of(ok:HOk P w H h)(e:H a=some (.dT kvs)):kvs.length<=sizeLine/\(a == sysModules)=false /\
  ∃xs,KT H kvs xs/\h.DictOfH (tupleKind (DZ P w)) a xs:=aE ok (.inl e)
end
def NX(H:Hp)(a:Addr)(y:V)(r:Option V):Prop:=
 (∃kvs k,Rd H a (.dK kvs)/\y=kV k/\r=EH kvs k)\/∃kvs k b,Rd H a (.dT kvs)/\y=.ref b/\H b=some (.tup (k.map kV))/\r=EH kvs k
def NW(H:Hp)(a:Addr)(y v:V)(H':Hp):Prop:=
 (∃kvs k,H a=some (.dK kvs)/\y=kV k/\kvs.length<sizeLine/\H'=upd H a (.dK (EK kvs k v))) \/
 ∃kvs k b,H a=some (.dT kvs)/\y=.ref b/\H b=some (.tup (k.map kV))/\kvs.length<sizeLine/\H'=upd H a (.dT (EK kvs k v))
theorem NX.k{k}(e:H a=some (.dK kvs)):NX H a (kV k) (EH kvs k):=.inl ⟨kvs,k,.inl e,rfl,rfl⟩
theorem NW.k{k}(e:H a=some (.dK kvs))(hl:kvs.length<sizeLine):NW H a (kV k) v (upd H a (.dK (EK kvs k v))):=.inl ⟨kvs,k,e,rfl,hl,rfl⟩
section
variable {X:Cx}{pz:List (Addr×Obj)}{σ:St}{H:Hp}{s:Shared}{a:Addr}{y v:V}{u r:Value}{o:Option V}{A:Around}{E:Value->Shared->Prop}
theorem Inv.big(I:Inv X pz σ H s):sysModules<s.heap.objs.size:=by
 have h :=(I.mod.glob.keeps I.bk).lt;exact ņ (by decide) h
theorem zfv  (hu:A.units+1<cLine)(I:Inv X pz σ H s)(g:NX H a y (some v))(ry:Ab y u)(h:∀w' s',Inv X pz σ H s'->Ab v w'->Q w' s') :
  wpAny (model X.prog X.w) A (getItem (.ref a) u) Q E s:=by
 rcases g with ⟨kvs,k,e,ey,l⟩|⟨kvs,k,b,e,ey,eb,l⟩
 .subst ey;obtain⟨z,hd,vs,rel,dd⟩:=aH I.hok e;obtain⟨w',hw,rw'⟩:=EB.some_of (by rw[l];exact rel.val k)
  exact wpAny_getItem_of (QC ry) dd.mapOf hw (h w' _ (I.tok _) rw')
 .subst ey;cases (ry);obtain⟨z,hd,xs,rel,dd⟩:=aE I.hok e;obtain⟨w',hw,rw'⟩:=EB.some_of (by rw[l];exact rel.val k)
  obtain⟨p,hp,hp2⟩:=à.mp hw;refine wpAny_getItem_heap (tupleKind_room_in1 hu) (QB I.hok eb) dd hp ?_;rw[hp2];exact h w' _ (I.tok _) rw'
theorem aQ    (I:Inv X pz σ H s)(mu:KZ (H a))(hs:Heap.SameBut a s.heap h')(he:∃q,h'.get? a=some q)(new:Cf X.prog X.w (upd H a ob) h' a ob) :
  Inv X pz σ (upd H a ob) { s with heap:=h',toks:=t' }:=
 I.write mu (.inl rfl) (λb q hb z=>(hs.2 b hb).trans z) he new
theorem zpl(z:kvs.length<=sizeLine)(hd:(a == sysModules)=false)(rel:KV kvs vs)(dd:h'.DictOf (DZ P w) a vs) :
  Cf P w H' h' a (.dK kvs):=⟨z,hd,vs,rel,dd⟩
theorem zfu   (hu:A.units+1<cLine)(I:Inv X pz σ H s)(g:NW H a y v H')(ry:Ab y u)(rv:Ab v r)(h:∀s',Inv X pz σ H' s'->Q () s') :
  wpAny (model X.prog X.w) A (setItem (.ref a) u r) Q E s:=by
 rcases g with ⟨kvs,k,e,ey,l,eH⟩|⟨kvs,k,b,e,ey,eb,l,eH⟩
 .subst ey eH;obtain⟨z,hd,vs,rel,dd⟩:=aI I.hok e;have hz:vs.length<=sizeLine:=by rw[<- rel.length];exact z
  have hl:(EK kvs k v).length<=sizeLine:=by have:=YL kvs k v;omega
  refine wpAny_setItem_pairs (QC ry) dd λh' dd' hs=>h _ ?_
  have he:∃q,h'.get? a=some q:=(by obtain⟨q,_,_,hq,_⟩:=dd';exact⟨q,hq⟩);exact aQ I (by rw[e];exact True.intro) hs he (zpl hl hd (rel.put k rv) dd')
 .subst ey eH;cases (ry);obtain⟨z,hd,xs,rel,dd⟩:=dt_of I.hok e;have hz:xs.length<=sizeLine:=by rw[<- ŝ rel];exact z
  have hl:(EK kvs k v).length<=sizeLine:=by have:=YL kvs k v;omega
  refine wpAny_setItem_heap (tupleKind_room_in1 hu) (QB I.hok eb) dd λh' dd' hs=>h _ ?_
  obtain⟨q,es,ep,hq,h2,h3,h4,_,h5⟩:=dd';refine aQ I (by rw[e];exact True.intro) hs ⟨q,hq⟩ ⟨hl,hd,_,(rel.put k eb rv).keeps λc ys ec=>?_,q,es,ep,hq,h2,h3,h4,h5⟩
  rw[Ag (ne_of ec e (λz=>nomatch z))]
  exact ec
end
section
variable {X:Cx}{pz:List (Addr×Obj)}{σ:St}{H:Hp}{s:Shared}{a:Addr}{kvs:List (Key×V)}{k:Key}{u:Value}{A:Around}{E:Value->Shared->Prop}
end
section
variable {X:Cx}{o i e value:Expr}{pos pos' tpos:Pos}{td ty tv:TE}
end
theorem zik(h:Heap)(hb:sysModules<h.objs.size):Cf P w H (h.push { cls:=.type "dict",data:=.dict #[]}) h.objs.size (.dK []):=
 ⟨õ _,beq_eq_false_iff_ne.mpr (Ð (Ö hb)),[],.nil,Heap.DictOf.new h⟩
section
variable {X:Cx}{pos:Pos}
end
section
variable {X:Cx}{pz:List (Addr×Obj)}{σ:St}{H:Hp}{s:Shared}{a:Addr}{y d:V}{u r:Value}{o:Option V}{A:Around}{E:Value->Shared->Prop}
end
section
variable {X:Cx}{o e f:Expr}{apos cpos:Pos}{td ty tx:TE}
end
section
variable {X:Cx}{pz:List (Addr×Obj)}{σ:St}{H:Hp}{s:Shared}{a:Addr}{kvs:List (Key×V)}{A:Around}{E:Value->Shared->Prop}
end
section
variable {X:Cx}{pz:List (Addr×Obj)}{σ:St}{H:Hp}{s:Shared}{a:Addr}{y:V}{u:Value}{A:Around}{E:Value->Shared->Prop}
end
end L2
namespace Zm
theorem zie(a b):Int.gcd b (a.fmod b)=Int.gcd a b:=by
 rw[Int.fmod_def,Int.gcd_comm a b];simp
theorem fmod_less(a:Int)(h:b≠0):(a.fmod b).natAbs<b.natAbs:=by
 rcases Int.lt_or_gt_of_ne h with hb|hb
 .have e:a.fmod b=-((-a).fmod (-b)):=by simp
  have h1:=ø (-a) (show 0 < -b by omega)
  have h2:=Ā (-a) (show 0 < -b by omega)
  omega
 .have h1:=ø a hb;have h2:=Ā a hb
  omega
noncomputable def gd(a b:Int):Int:=(Int.gcd a b:Nat)
theorem gd_end(hg:gd a b=gd a0 b0)(hb:b=0):(if a<0 then -a else a)=gd a0 b0:=by
 subst hb;rw[<- hg];unfold gd;rw[Int.gcd_zero_right]
 omega
theorem gd_turn(hg:gd a b=gd a0 b0):gd b (a.fmod b)=gd a0 b0:=by
 rw[<- hg];unfold gd;rw[zie]
theorem gd_abs(a b):gd (if a<0 then -a else a) (if b<0 then -b else b)=gd a b:=by
 unfold gd
 have e1:Int.gcd (if a<0 then -a else a) (if b<0 then -b else b)=Int.gcd a b:=by
  split<;>split<;>simp[Int.gcd_neg]
 rw[e1]
theorem gd_pos{a b:Int}(h:b≠0):0<gd a b:=by
 unfold gd
 simp_all
theorem gd_le(h:0<b):gd a b<=b:=by
 exact Int.le_of_dvd h (Int.gcd_dvd_right a b)
def lt(t b:Int):Int:=t.fdiv (gd t b)
def lb(t b:Int):Int:=b.fdiv (gd t b)
theorem Zk{x g:Int}(hg:g≠0)(h:g ∣ x):x.fdiv g * g=x:=by
 rw[ň];exact Int.mul_fdiv_cancel' h
theorem lt_mul(h:b≠0):lt t b * gd t b=t:=by
 exact Zk (by have:=gd_pos (a:=t) h;omega) (Int.gcd_dvd_left t b)
theorem lb_mul(h:b≠0):lb t b * gd t b=b:=by
 exact Zk (by have:=gd_pos (a:=t) h;omega) (Int.gcd_dvd_right t b)
theorem lb_pos(h:0<b):0<lb t b:=by
 have h1:=lb_mul (t:=t) (by omega)
 have h2:=gd_pos (a:=t) (by omega)
 rcases Int.lt_or_le 0 (lb t b) with q|q
 .exact q
 .have:=Int.mul_nonpos_of_nonpos_of_nonneg q (Int.le_of_lt h2)
  omega
theorem zen{x g:Int}(h:0<g):x.natAbs<=(x * g).natAbs:=by
 rw[Int.natAbs_mul];exact Nat.le_mul_of_pos_right _ (by omega)
theorem lb_le(h:0<b):lb t b<=b:=by
 have h1:=lb_mul (t:=t) (by omega)
 have h2:=zen (x:=lb t b) (gd_pos (a:=t) (by omega))
 grind
theorem gd_low(h:b≠0):gd (lt t b) (lb t b)=1:=by
 have hp:=gd_pos (a:=t) h;unfold lt lb gd;have hp':0<Int.gcd t b:=by simp_all
 have e:=Int.gcd_ediv_gcd_ediv_gcd hp'
 grind
theorem cross{t b g T B:Int}(hg:0<g)(ht:T * g=t)(hb:B * g=b):T * b=t * B:=by
 grind
end Zm
namespace Zw
open PySem PySem.Spec PyProof.Rows L2
def Sm(i:Int):Prop:=-(10 ^ 70)<i/\i<10 ^ 70
theorem Sm.nat{i:Int}(h:Sm i):i.natAbs<10 ^ 70:=by
 unfold Sm at h
 omega
theorem znq:10 ^ 70<=2 ^ 300:=by decide +kernel
theorem Sm.log(h:Sm i):i.natAbs.log2<300:=by
 by_cases z:i.natAbs=0
 .simp_all
 .exact(Nat.log2_lt z).mpr (á h.nat znq)
theorem Sm.bits(h:Sm i):Builtin.Int.intBits i<=2 ^ 20:=by
 have q:=h.log;unfold Builtin.Int.intBits
 grind
section
variable {X:Cx}
theorem zkj:As X (binaryOp .Mult) (rI (λi j=>Sm i/\Sm j) λi j=>.int (i * j)):=JZ λ_ _ _ _ _ _ _ hc q=>mul_int q (.of_bits hc.1.bits hc.2.bits)
theorem zhm:As X (binaryOp .FloorDiv) (rI (λ_ j=>j≠0/\Sm j) λi j=>.int (i.fdiv j)):=
 JZ λ_ _ _ _ _ _ _ hc q=>floordiv_int hc.1 q (.inl (PyProof.noPylong_of_log2 (ņ hc.2.log (by decide))))
theorem Y6(r:Ab x v):PySem.plainIs v (.bool b)=true/\(v == Value.bool b)=decide (x=V.bl b):=by
 cases x with
 |non=>cases r;exact⟨rfl,by simp⟩|bl c=>cases r;exact⟨rfl,by grind⟩|int i=>obtain⟨t,rfl⟩:=r;exact⟨rfl,by simp⟩
 |str i=>obtain⟨t,rfl⟩:=r;exact⟨rfl,by simp⟩
 |byt i=>obtain⟨t,rfl⟩:=r;exact⟨rfl,by simp⟩
 |flt i=>obtain⟨t,rfl⟩:=r;exact⟨rfl,by simp⟩
 |ref i=>cases r;exact⟨rfl,by simp⟩|ty i=>cases r;exact⟨rfl,by simp⟩
theorem zo9:As X (compareOp .Is) (λx y H Q=>∃b,y=.bl b/\Q (.bl (decide (x=.bl b))) H):=by
 intro pz s σ H x y v u Q I rx ry h;obtain⟨b,rfl,q⟩:=h;cases ry;obtain⟨e1,e2⟩:=Y6 rx;exact wpAny_is_plain e1 (Jk I q e2.symm)
theorem zki:As X (compareOp .IsNot) (λx y H Q=>∃b,y=.bl b/\Q (.bl (!decide (x=.bl b))) H):=by
 intro pz s σ H x y v u Q I rx ry h;obtain⟨b,rfl,q⟩:=h;cases ry;obtain⟨e1,e2⟩:=Y6 rx;exact wpAny_isNot_plain e1 (Jk I q (by rw[e2]))
theorem ziv :Cq X (.builtin "isinstance") (λxs H Q=>∃x t b,xs=[x,.ty c]/\TyOf X.K H x t/\W.kitOne X.K t (.type c)=some b/\Q (.bl b) H):=by
 intro pz s σ H xs us Q I r h;obtain⟨x,t,b,rfl,ty,e,q⟩:=h;obtain⟨u,w',rfl,rx,ry⟩:=JH r;cases ry;exact QH I rx ty e λtk=>⟨.bl b,H,I.tok _,rfl,q⟩
end
section
variable {X:Cx}
end
section
variable {X:Cx}{pos:Pos}
end
section
variable {X:Cx}
end
theorem zd2:W.kitMeta "int"=true:=by decide +kernel
theorem zcb:W.kitMeta "bool"=true:=by decide +kernel
theorem zbq:W.kitMeta "tuple"=true:=by decide +kernel
theorem zi0(K)(c):W.kitOne K (.type c) (.type c)=some true:=by
 unfold W.kitOne;simp
theorem zow(K){l:k9}(h:t≠c)(hm:W.kitMeta c=true)(hl:(fastBuiltinMro t).map (·.contains (Value.type c))=some b):W.kitOne K (.type t) (.type c)=some b:=by
 unfold W.kitOne;rw[if_neg (by simpa using h)]
 show(if W.kitMeta c=true then W.subIn K (.type t) (.type c) else none)=some b
 rw[if_pos hm];exact hl
structure FunD(K:k6)(x qual:Str)(st:Stmt)(f:Addr)(fd:FuncData):Prop where
 ex:∃(oc:Value) (od:Option Addr) (dV kV doc pm:Value) (an:Option Addr) (cdv ct:Value) (osl:Array (Option Value)),
  fd=W.fnOf x qual (M6 st) (Fz st) (DJ st) dV kV doc pm an cdv ct/\K.lookup f=some ⟨oc,od,.func fd,osl⟩/\W.codeIn K cdv qual=true
 kp:W.keepIn K (.ref f)=true
theorem Yo{K}{st}{dV kV doc pm cdv ct}(l:K.lookup f=some ⟨oc,od,.func (W.fnOf x qual (M6 st) (Fz st) (DJ st) dV kV doc pm an cdv ct),osl⟩)
  (c:W.codeIn K cdv qual=true) (k:W.keepIn K (.ref f)=true):FunD K x qual st f (W.fnOf x qual (M6 st) (Fz st) (DJ st) dV kV doc pm an cdv ct):=⟨⟨oc,od,dV,kV,doc,pm,an,cdv,ct,osl,rfl,l,c⟩,k⟩
structure Tx(K:k6)(mg:Str->Option Value)(x:Str)(st:Stmt)(ps:kE) where
 f:Addr
 fd:FuncData
 F:FunD K x x st f fd
 m:mg x=some (.ref f)
 b:Cr K fd ps []
section
variable {X:Cx}{k j:Nat}{x:Str}{ps:kE}{sp:Sp}{p pos:Pos}{e:Expr}{es:kC}{t:TA}
end
theorem LN(h:H p=none)(o):Af H (upd H p o):=λb u q=>by
 rw[Ag (Bt q h)];exact q
noncomputable def zpo(X:Cx)(scope:Scope)(cl:List (Str×Addr))(N':kE)(C:Addr)(s₀:Shared)(H₀:Hp)(ex:List Addr):Cx:=
 { X with N:=N',s₀:=s₀,H₀:=H₀,env:=compEnvC scope cl C X.env,outer:=X.stack,ex:=ex,fn:=λ_=>false,xe:=λ_ _=>False }
theorem HOk.adopt(x:HOk P w H h)(hn:H a=none)(new:Cf P w (upd H a o) h a o):HOk P w (upd H a o) h:=λb u e=>by
 by_cases hb:b=a
 .subst hb;rw[Bj]at e
  grind
 .rw[Ag hb]at e;exact(x b u e).stay (λc v _ q=>q) (λc q=>by rw[Ag (Bt q hn)];exact q) λc xs q=>by rw[Ag (Bt q hn)];exact q
section
variable {X:Cx}{elt iter tg:Expr}{scope:Scope}{pos:Pos}{cl:List (Str×Addr)}{N':kE}{wi:TI}{g:TG}{te:TE}
end
end Zw
namespace Zx
open PySem PySem.Spec PyProof.Rows L2 Zw
def Mj(h B:Heap)(a:Addr)(cls:Value×Option Addr)(fl:Value):Prop:=
 ∃oe vs T oT ts,h.get? a=some oe/\((oe.cls,oe.dict)=cls/\vs[2]?=some .none)/\oe.data=.fields vs/\vs[1]?=some (.ref T)/\B.get? T=none/\T≠a/\h.get? T=some oT/\oT.data=.fields ts/\ts[3]?=some fl
def FJ(B:Heap)(l:List Env)(a:Addr)(cls:Value×Option Addr)(h:Heap):Prop:=B.StaysIn h/\B.get? a=none/\h.FunFrames B l/\Mj h B a cls .none
def SQ(B:Heap)(l:List Env)(a:Addr)(cls:Value×Option Addr)(L:Addr)(h:Heap):Prop:=B.StaysIn h/\B.get? a=none/\h.FunFrames B l/\Mj h B a cls (rawInt L)
theorem FJ.first(x:FJ B l a cls h):∃oe vs,h.get? a=some oe/\(oe.cls,oe.dict)=cls/\oe.data=.fields vs/\vs[2]?=some .none:=by
 obtain⟨_,_,_,oe,vs,_,_,_,he,hc,hd,_⟩:=x;exact⟨oe,vs,he,hc.1,hd,hc.2⟩
theorem FJ.there(x:FJ B l a cls h):∃ob,h.get? a=some ob/\ob.cls=cls.1:=
 let ⟨oe,_,he,hc,_⟩:=x.first;⟨oe,he,congrArg Prod.fst hc⟩
theorem zf7(f)(o):((Obj.mapFields f o).cls,(Obj.mapFields f o).dict)=(o.cls,o.dict):=by
 unfold Obj.mapFields;split<;>rfl
section
variable {M:Model}{A:Around}{E:Value->Shared->Prop}{s:Shared}{B:Heap}{env v:Env}{l:List Env}{L a:Addr}{cls:Value×Option Addr}{Q:Unit->Shared->Prop}
theorem aA     (hfr:A.frames=some (v::l))(hl:s.heap.FunFrames B (v::l))(hL:v.frame=some L)(he:s.heap.get? a=some oe)(hk:B.StaysIn s.heap)(ha:B.get? a=none)
  (hd:oe.data=.fields vs) (hsz:1<vs.size) (h2:vs[2]?=some .none) (h:∀h',SQ B (v::l) a (oe.cls,oe.dict) L h'->s.heap.UpToSlots h'->Q () { s with heap:=h' }) :
  wpAny M A (do let f <- frameOf v;let pl <- entryPlaceOf L hn;let b <- EntryCells.newEntry head f .none (rawInt L) .none pl;setField (.ref a) 1 b) Q E s:=by
 have nof:a∉(v::l).filterMap (·.frame):=λz=>by
  obtain⟨_,o,ho,n⟩:=hl.mem z;rw[he]at ho;cases ho;exact n vs hd
 refine Á (wpAny_frameOf_fun hfr hl hL λh1 k1=>?_)
 refine Á (wpAny_entryPlaceOf λpl hpl=>?_)
 unfold EntryCells.newEntry newFields;refine Á (Β ?_ (hpl.sizeOk5 _ _ _ _ _));have e1 :=(k1.2.1 a nof).trans he;have b1:B.StaysIn h1:=λb o q=>(k1.2.1 b λz=>by rw[(hl.mem z).1]at q;cases q).trans (hk b o q)
 have ne :=Ş (Æ e1);refine ţ (Ì _ e1) hd hsz ?_;have hd3:=Ŕ hd (·.setIfInBounds 1 (Value.ref h1.objs.size));have kp:∀nw b o,b≠a->h1.get? b=some o->((h1.push nw).update a (Obj.mapFields (·.setIfInBounds 1 (Value.ref h1.objs.size)))).get? b=some o:=λnw b o n q=>(ď _ _ (Ð n)).trans (Ì _ q)
 have nr:∀b o,s.heap.get? b=some o->(∀ws,o.data≠.fields ws)->b≠a:=λb o q n z=>by
  rw[z,he]at q;cases q;exact n vs hd
 have sm:∀nw,s.heap.UpToSlots ((h1.push nw).update a (Obj.mapFields (·.setIfInBounds 1 (Value.ref h1.objs.size)))):=λnw b o q n=>by
  obtain⟨sl,q1⟩:=k1.2.2 b o q;exact⟨sl,kp nw b _ (nr b o q n) q1⟩
 refine h _ ⟨λb o q=>kp _ b o (λz=>by rw[z,ha]at q;cases q) (b1 b o q),ha,hl.of_keeps λb o q n=>?_,_,_,h1.objs.size,_,_,Ĵ _ (Ì _ e1) (Ŵ hd3),⟨by rw[zf7],?_⟩,hd3,by simp[hsz],b1.fresh,ne,
  (ď _ _ (Ð ne)).trans (æ h1 rfl),rfl,?_⟩ (sm _)
 .obtain⟨sl,q1⟩:=sm _ b o q n;exact⟨_,q1,rfl⟩
 .rw[Array.getElem?_setIfInBounds_ne (by decide)]
  exact h2
 .first|(simp;done)|(rcases hpl with rfl|⟨_,_,_,_,_,_,_,rfl⟩<;>simp)
theorem Zf(hk:B.StaysIn s.heap)(ha:B.get? a=none)(hl:s.heap.FunFrames B l)(ht:Mj s.heap B a cls fl)(h:∀h',FJ B l a cls h'->s.heap.UpToSlots h'->Q () { s with heap:=h'}):wpAny M A (setFlight (.ref a) none) Q E s:=by
 obtain⟨oe,vs,T,oT,ts,he,hc,hd,g1,nT,Tne,hT,dT,g3⟩:=ht;have s3:=(İ.mp g3).1;have oth:∀b,b≠T->(s.heap.update T (Obj.mapFields (·.setIfInBounds 3 (none.elim Value.none λf=>rawInt f)))).get? b=s.heap.get? b:=λb hb=>ď _ _ (Ð hb)
 have nr:∀b o,s.heap.get? b=some o->(∀ws,o.data≠.fields ws)->b≠T:=λb o q n z=>by
  rw[z,hT]at q;cases q;exact n ts dT
 unfold setFlight;refine Á (Ė he hd g1 ?_);rw[if_pos (by simp)]
 exact ţ hT dT s3 (h _ ⟨λb o q=>(oth b λz=>by rw[z,nT]at q;cases q).trans (hk b o q),ha,hl.of_keeps λb o q n=>⟨o,(oth b (nr b o q n)).trans q,rfl⟩,
  oe,vs,T,_,_,(oth a (Ð Tne)).trans he,hc,hd,g1,nT,Tne,Ĵ _ hT (Ŵ (Ŕ dT _)),Ŕ dT _,by simp[s3]⟩ λb o q n=>⟨o.slots,(oth b (nr b o q n)).trans q⟩)
theorem ME(hh:SQ B l a cls L s.heap)(hQ:∀h',FJ B l a cls h'->s.heap.UpToSlots h'->Q () { s with heap:=h' }):wpAny M A (setFlight (.ref a) none) Q E s:=
 Zf hh.1 hh.2.1 hh.2.2.1 hh.2.2.2 hQ
theorem b5(hh:FJ B l a cls s.heap)(hQ:∀h',FJ B l a cls h'->s.heap.UpToSlots h'->Q () { s with heap:=h' }):wpAny M A (setFlight (.ref a) none) Q E s:=
 Zf hh.1 hh.2.1 hh.2.2.1 hh.2.2.2 hQ
structure MadeO(h h':Heap)(a:Addr)(cls:Value×Option Addr):Prop where
 keeps:∀b o,h.get? b=some o->h'.get? b=some o
 new:h.get? a=none
 there:∃oe t,h'.get? a=some oe/\(oe.cls,oe.dict)=cls/\oe.data=.fields #[.ref t,.none,.none,.none,.bool false,.none]
theorem madeO(hx:Heap.MadeExcOf h h' a c args):MadeO h h' a (c,none):=
 ⟨hx.keeps,hx.new,let ⟨t,he,_,_⟩:=hx.there;⟨_,t,he,rfl,rfl⟩⟩
theorem Xw  (hfr:A.frames=some (v::l))(hL:v.frame=some L)(hk:B.StaysIn h)(hl:h.FunFrames B (v::l))(hx:MadeO h s.heap a cls)
  (hQ:∀h',FJ B l a cls h'->s.heap.UpToSlots h'->Q () { s with heap:=h' }):wpAny M A (leaving v (.ref a)) Q E s:=by
 obtain⟨oe,t,he,rfl,hd⟩:=hx.there
 have fr:B.get? a=none:=by
  cases q:B.get? a with
  |none=>rfl|some o=>have:=hk a o q;rw[hx.new]at this;cases this
 unfold leaving noteFrame;erw[hL];refine Á (Á (Ė he hd rfl ?_));refine aA hfr (hl.of_keeps λb o q _=>⟨o,hx.keeps b o q,rfl⟩) hL he (λb o q=>hx.keeps b o (hk b o q)) fr hd (by simp) rfl λh1 k1 sm=>ME k1 λh2 k2 sm2=>?_
 obtain⟨k1,k2,⟨_,_,k3⟩,k4⟩:=k2;exact hQ h2 ⟨k1,k2,k3,k4⟩ (sm.trans sm2)
end
def NU(B:Heap)(l:List Env)(a:Addr)(cls:Value×Option Addr)(h:Heap):Prop:=∃fl,B.StaysIn h/\B.get? a=none/\h.FunFrames B l/\Mj h B a cls fl
theorem Qj(x:FJ B l a cls h):NU B l a cls h:=⟨.none,x⟩
section
variable {M:Model}{A:Around}{E:Value->Shared->Prop}{s:Shared}{B:Heap}{env v:Env}{l:List Env}{L a:Addr}{cls:Value×Option Addr}{Q:Unit->Shared->Prop}
theorem La(hfr:A.frames=some (v::l))(hv:env.frame=v.frame)(hL:v.frame=some L)(hx:NU B (v::l) a cls s.heap)(hQ:∀h',SQ B (v::l) a cls L h'->s.heap.UpToSlots h'->Q () { s with heap:=h' }):wpAny M A (noteFrame (.ref a) env) Q E s:=by
 have en:noteFrame (.ref a) env=noteFrame (.ref a) v:=by
  unfold noteFrame PySem.frameOf;rw[hv]
 rw[en];obtain⟨fl,f1,f2,f3,f4⟩:=hx
 by_cases hfl:fl=rawInt L
 .subst hfl;obtain⟨oe,ws,Tb,oT,ts,ha,_,hd,g1,_,_,hT,dT,g3⟩:=id f4;unfold noteFrame;erw[hL];refine Á (Ė ha hd g1 ?_);rw[if_pos (by simp)]
  refine Á (Ė hT dT g3 ?_);rw[if_pos (by simp)]
  exact Ç (hQ _ ⟨f1,f2,f3,f4⟩ (.refl _))
 .obtain⟨oe,ws,Tb,oT,ts,ha,⟨rfl,g0⟩,hd,g1,nT,Tne,hT,dT,g3⟩:=f4;have g3s:=(İ.mp g3).1;have oth:∀b,b≠Tb->(s.heap.update Tb (Obj.mapFields (·.setIfInBounds 3 Value.none))).get? b=s.heap.get? b:=λb hb=>ď _ _ (Ð hb)
  have nr:∀b o,s.heap.get? b=some o->(∀us,o.data≠.fields us)->b≠Tb:=λb o hb hn z=>by
   rw[z,hT]at hb;cases hb;exact hn ts dT
  unfold noteFrame;erw[hL];refine Á (Ė ha hd g1 ?_);rw[if_pos (by simp)]
  refine Á (Ė hT dT g3 ?_);rw[if_neg (λz=>hfl (beq_iff_eq.mp z))]
  refine Á (ţ hT dT g3s ?_);refine aA hfr (f3.of_keeps λb o hb hn=>⟨o,(oth b (nr b o hb hn)).trans hb,rfl⟩) hL ((oth a (Ð Tne)).trans ha) (λb o hb=>(oth b λz=>by rw[z,nT]at hb;cases hb).trans (f1 b o hb)) f2 hd (İ.mp g1).1 g0 λh' k k4=>?_
  exact hQ h' k λb o hb hn=>k4 b o ((oth b (nr b o hb hn)).trans hb) hn
theorem leavX(hfr:A.frames=some (v::l))(hL:v.frame=some L)(hx:NU B (v::l) a cls s.heap)(hQ:∀h',FJ B l a cls h'->s.heap.UpToSlots h'->Q () { s with heap:=h' }):wpAny M A (leaving v (.ref a)) Q E s:=by
 refine Á (La hfr rfl hL hx λh1 hh sm1=>ME hh λh2 hf sm2=>?_)
 obtain⟨k1,k2,⟨_,_,k3⟩,k4⟩:=hf;exact hQ h2 ⟨k1,k2,k3,k4⟩ (sm1.trans sm2)
end
def Cc(P:Program)(w:World):Fe:=λouter H s E e s'=>∃(a:Addr) (cls:Value×Option Addr) (H':Hp) (B:Heap),
 e=.ref a/\s'.os=s.os/\AllBare s'.gens/\Un (BO outer) [] H H' s.heap s'.heap/\HOk P w H' B/\(∀b o,s.heap.get? b=some o->H b=none->b∉BO outer->B.get? b=some o) /\
 (∀b o,s.heap.get? b=some o->b∉BO outer->∃o',B.get? b=some o')/\NU B outer a cls s'.heap/\E cls.1 cls.2 H'
theorem zgo       (x:Cf P w H h a o):∃ob,h.get? a=some ob:=by
 cases o with
 |lst xs=>obtain⟨_,_,_,_,e⟩:=x;grind
 |tup xs=>obtain⟨_,_,_,o',e,_⟩:=x;grind
 |dK kvs=>obtain⟨_,_,_,_,o',_,_,e,_⟩:=x;grind
 |dT kvs=>obtain⟨_,_,_,_,o',_,_,e,_⟩:=x;grind
 |set S n=>obtain⟨o',_,_,_,e,_⟩:=x;grind
 |ins C dx fs=>obtain⟨_,_,_,e,_⟩:=x;grind
 |own y=>exact x|xd fs=>obtain⟨_,⟨o',_,_,e,_⟩,_⟩:=x;grind
 |rng lo hi=>obtain⟨_,_,_,e⟩:=x;grind
 |frz ob u=>obtain⟨e,_⟩:=x;exact⟨_,e⟩
 |tbl ps=>exact⟨_,(x)⟩|met f y=>exact⟨_,(x)⟩|ext φ=>obtain⟨_,e,_⟩:=x;exact e
theorem none_of(x:HOk P w H h)(e:h.get? a=none):H a=none:=by
 cases q:H a with
 |none=>rfl|some u=>
  obtain⟨ob,z⟩:=zgo (x a u q)
  grind
theorem b6       (x:HOk P w H h)(hn:H a=none)(new:Cf P w (upd H a o) h a o):HOk P w (upd H a o) h:=λb u e=>by
 by_cases hb:b=a
 .subst hb;have e':=Bj.symm.trans e
  grind
 .have e':=(Ag hb).symm.trans e;exact(x b u e').stay (λc v _ q=>q) (λc q=>(Ag (Bt q hn)).trans q) λc xs q=>(Ag (Bt q hn)).trans q
def BW(X:Cx)(E:L2.St->XK):Prop:=∀(pz:List (Addr×Obj)) (σ:L2.St) (H:Hp) (s:Shared) (e:Value) (s':Shared),Inv X pz σ H s->Cc X.prog X.w X.stack H s (E σ) e s'->X.xe e s'
def SJ(X:Cx)(E:L2.St->XK):Prop:=∀(pz:List (Addr×Obj)) (σ:L2.St) (H:Hp) (s:Shared) (a:Addr) (cls:Value) (vs:k9) (h':Heap),Inv X pz σ H s->Heap.MadeExcOf s.heap h' a cls vs->E σ cls none H->X.xe (.ref a) { s with heap:=h' }
section
variable {X:Cx}{pz:List (Addr×Obj)}{σ:L2.St}{H:Hp}{s:Shared}
theorem IP(I:Inv X pz σ H s)(e:X.s₀.heap.get? b=some o)(hb:b∉BO X.outer):b∉BO X.stack:=λz=>by
 rcases Ï.mp (I.stkSub b z) with q|q
 .exact absurd (á (Æ e) I.ok.above) (by rw[q];exact î _)
 .exact hb q
theorem zes(hst:X.stack=X.env::X.outer)(hb:b∈BO X.outer):b∈BO X.stack:=by
 rw[hst];obtain⟨v,h1,h2⟩:=Ħ.mp hb;exact Ħ.mpr ⟨v,Å _ h1,h2⟩
theorem zpc(I:Inv X pz σ H s):HOk X.prog X.w H (W.hideAll s.heap (BO X.stack)):=λb u e=>(I.hok b u e).stay (λc v hc q=>Đ _ q λz=>by
  have f:=I.stkFree c z
  grind) (λ_ q=>q) λ_ _ q=>q
theorem zl2(hst:X.stack=X.env::X.outer)(hf:X.env.frame=some X.env.locals)(hex:X.ex=[])       (I:Inv X pz σ H s)(hx:Heap.MadeExcOf s.heap h' a cls vs)(he:E cls none H) :
  wpAny (model X.prog X.w) X.A (leaving X.env (.ref a)) (λ_ s2=>Cc X.prog X.w X.outer X.H₀ X.s₀ E (.ref a) s2) Ex { s with heap:=h' }:=by
 have nex:∀b ,b∉X.ex:=λb z=>by grind
 have hfr :=hst▸I.ok.frames
 have FF:s.heap.FunFrames (W.hideAll s.heap (BO X.stack)) (X.env::X.outer):=by
  rw[<- hst];exact W.funFrames_hide I.stack λv hv b hb=>Ħ.mpr ⟨v,hv,hb⟩
 refine Xw hfr hf (λb o q=>ě _ q) FF (madeO hx) λh2 fl sm=>?_
 have kB :=λb o e n hb=>Đ _ (I.base.keep b o e n hb (nex b)) (IP I e hb)
 have tB:∀b o,X.s₀.heap.get? b=some o->b∉BO X.outer->∃o',(W.hideAll s.heap (BO X.stack)).get? b=some o':=λb o e hb=>by
  obtain⟨o',e'⟩:=I.base.there b o e (nex b);exact⟨o',Đ _ e' (IP I e hb)⟩
 have sl:∀b o,X.s₀.heap.get? b=some o->X.H₀ b=none->b∈BO X.outer->∃z,h2.get? b=some { o with slots:=z }:=λb o e n hb=>by
  obtain⟨z,e1⟩:=I.base.slot b o e n hb (nex b);obtain⟨_,o2,ho2,hd⟩:=I.funs.mem hb;rw[e1]at ho2;cases ho2;obtain⟨z3,e3⟩:=sm b { o with slots:=z } (hx.keeps b _ e1) hd
  exact⟨z3,e3⟩
 refine⟨a,(cls,none),H,_,rfl,I.os,I.bare,⟨λb o e n hb _=>fl.1 b o (kB b o e n hb),λb o e n hb _=>sl b o e n hb,λb o e n _=>I.base.free b o e n (nex b),λb o e _=>?_,I.base.tups,I.base.frzs,I.base.tbls⟩,zpc I,kB,tB,Qj fl,he⟩
 by_cases hb:b∈BO X.outer
 .obtain⟨z,q⟩:=sl b o e (I.ok.frf b hb) hb;exact⟨_,q⟩
 .obtain⟨o',q⟩:=tB b o e hb;exact⟨o',fl.1 b o' q⟩
theorem zkf(hst:X.stack=X.env::X.outer)(hf:X.env.frame=some X.env.locals)(hex:X.ex=[])     (I:Inv X pz σ H s)(h:Cc X.prog X.w X.stack H s E e s') :
  wpAny (model X.prog X.w) X.A (leaving X.env e) (λ_ s2=>Cc X.prog X.w X.outer X.H₀ X.s₀ E e s2) Ex s':=by
 obtain⟨a,cls,H',B,rfl,os,bare,un,hok,kB0,tB0,fl0,he⟩:=h;have nex:∀b ,b∉X.ex:=λb z=>by rw[hex]at z;cases z
 have hfr :=hst▸I.ok.frames;have fl1 :=hst▸fl0;refine leavX hfr hf fl1 λh2 fl sm=>?_
 have kB :=λb o e n hb=>kB0 b o (I.base.keep b o e n hb (nex b)) (I.base.free b o e n (nex b)) (IP I e hb)
 have tB:∀b o,X.s₀.heap.get? b=some o->b∉BO X.outer->∃o',B.get? b=some o':=λb o e hb=>by
  obtain⟨o',e'⟩:=I.base.there b o e (nex b);exact tB0 b o' e' (IP I e hb)
 have sl:∀b o,X.s₀.heap.get? b=some o->X.H₀ b=none->b∈BO X.outer->∃z,h2.get? b=some { o with slots:=z }:=λb o e n hb=>by
  obtain⟨z,e1⟩:=I.base.slot b o e n hb (nex b);obtain⟨_,o2,ho2,hd⟩:=I.funs.mem hb;rw[e1]at ho2;cases ho2;obtain⟨z2,e2⟩:=un.slot b { o with slots:=z } e1 (I.base.free b o e n (nex b)) (zes hst hb) (by simp)
  obtain⟨z3,e3⟩:=sm b { o with slots:=z2 } e2 hd
  exact⟨z3,e3⟩
 refine⟨a,cls,H',B,rfl,os.trans I.os,bare,⟨λb o e n hb _=>fl.1 b o (kB b o e n hb),λb o e n hb _=>sl b o e n hb,λb o e n _=>?_,λb o e _=>?_,λb xs e=>un.tups b xs (I.base.tups b xs e),λb o u e=>un.frzs b o u (I.base.frzs b o u e),λb ps e=>?_⟩,hok,kB,tB,Qj fl,he⟩
 .obtain⟨o',e'⟩:=I.base.there b o e (nex b);exact un.free b o' e' (I.base.free b o e n (nex b)) (by simp)
 .by_cases hb:b∈BO X.outer
  .obtain⟨z,q⟩:=sl b o e (I.ok.frf b hb) hb;exact⟨_,q⟩
  .obtain⟨o',q⟩:=tB b o e hb;exact⟨o',fl.1 b o' q⟩
 .obtain⟨m1,e1⟩:=I.base.tbls b ps e;obtain⟨m2,e2⟩:=un.tbls b _ e1;exact⟨m1++m2,e2.trans (by rw[Array.append_assoc])⟩
end
section
variable {P:Program}{w:World}{K:k6}{mg:Str->Option Value}{base:Heap}
theorem Vz:BW (Em (Cc P w) P w K mg base N qual sc f cd A outer s H E) (λ_=>E):=
 λ_ _ _ _ _ _ I h=>zkf rfl rfl rfl I h
theorem Xx:SJ (Em (Cc P w) P w K mg base N qual sc f cd A outer s H E) (λ_=>E):=
 λ_ _ _ _ _ _ _ _ I hx he=>zl2 rfl rfl rfl I hx he
theorem Oa  {st }      (F:FunD K x qual st f fd)(S:FnScope N ps (DJ st))(len:∀vs H Q E,sp vs H Q E->vs.length=ps.length)
  (hbody : ∀ (cdv ) (A ) (outer ) (s ) (H ) (vs ) (Q ) (E ), Room k (A.deeper (envOfC qual (DJ st) s.heap.objs.size f cdv)) -> sp vs H Q E ->
   ∃t,B3 (Em (Cc P w) P w K mg base N qual (DJ st) f cdv A outer s H E) (Fz st) t/\t { nx:=λ_ H'=>Q .non H',rt:=Q } (start N vs) H):FnOk P w K mg base (Cc P w) (k+1) f fd ps sp:=by
 obtain⟨oc,od,dV,kV,doc,pm,an,cdv,ct,osl,rfl,lk,hcd⟩:=F.ex;exact fn_of lk hcd S len λA outer s H vs Q E hr hsp=>hbody cdv A outer s H vs Q E hr hsp
end
structure DefX(P:Program)(w:World)(K:k6)(mg:Str->Option Value)(base:Heap)(k:Nat)(x:Str)(ps:kE)(sp:Sp) where
 f:Addr
 fd:FuncData
 ok:FnOk P w K mg base (Cc P w) k f fd ps sp
 m:mg x=some (.ref f)
 kp:W.keepIn K (.ref f)=true
 b:Cr K fd ps []
structure DefsX(K:k6)(fd:FuncData)(ps:kE)(dvs:kK):Prop where
 ex:∃ds,Cr K fd ps ds/\Al dvs ds
section
variable {X:Cx}{k j:Nat}{f:Addr}{fd:FuncData}{x:Str}{ps:kE}{sp:Sp}{p pos:Pos}{e:Expr}{es:kC}{t:TA}{E:L2.St->XK}{dvs:kK}
theorem LQ  {σ:L2.St}      (F:FnOk X.prog X.w X.K X.mg X.base (Cc X.prog X.w) k f fd ps sp)(hr:Room k X.A)(hb:Cr X.K fd ps ds)(hd:Al dvs ds)(hx:BW X E)
  (I:Inv X pz σ H s) (r:Al vs us) (h:sp (vs++dvs) H Q (E σ)):wpAny (model X.prog X.w) X.A (call (.ref f) us) (EP X pz σ Q) X.xe s:=by
 have r2 :=r.append hd;have hl :=r2.length.symm.trans (F.len _ _ _ _ h);refine Ď (ą (F.run X.A X.stack s H ⟨us,[]⟩ (us++ds) (vs++dvs) Q (E σ) hr I.env0 (hb s us I.kIn hl) r2 h) λr s' hq=>?_)
 cases r with
 |error v=>exact hx pz σ H s v s' I hq|ok fl=>
  cases fl with
  |ret u=>exact I.after hq|_=>exact False.elim hq
def OD(sp:Sp)(dvs:kK)(E:L2.St->XK)(t:TA):TE:=λσ H Q=>t σ H λvs H1=>sp (vs++dvs) H1 Q (E σ)
theorem px(D:DefX X.prog X.w X.K X.mg X.base k x ps sp)(hr:Room j X.A)(hx:BW X E)(ha:PA X (e::es) t)(hk:k<=j)(hg:Gl X x)(hdb:(x == "__debug__")=false)
  (he:starEach (e::es) X.env=(false,eval e X.env)::starEach es X.env) (hpl:(backTo pos (starEach es X.env)).any (·.1)=false):PE X (.Call (.Name x p) (e::es) [] pos) (OD sp [] E t):=by
 intro pz s σ H Q I h;refine ğ (G5 I hg D.m ?_ hdb);refine Ĺ I.ok.mod.kin D.kp (AX (ha pos pz s σ H _ I h) λus s1 zz=>?_) he hpl;obtain⟨vs,H1,I1,r,q⟩:=zz;refine⟨I1.kIn,?_⟩
 exact LQ D.ok (hr.mono hk) D.b .nil hx I1 r q
theorem pxd(D:DefX X.prog X.w X.K X.mg X.base k x ps sp)(DD:DefsX X.K D.fd ps dvs)(hr:Room j X.A)(hx:BW X E)(ha:PA X (e::es) t)(hk:k<=j)(hg:Gl X x)(hdb:(x == "__debug__")=false)
  (he:starEach (e::es) X.env=(false,eval e X.env)::starEach es X.env) (hpl:(backTo pos (starEach es X.env)).any (·.1)=false):PE X (.Call (.Name x p) (e::es) [] pos) (OD sp dvs E t):=by
 intro pz s σ H Q I h;obtain⟨ds,hb,hd⟩:=DD.ex;refine ğ (G5 I hg D.m ?_ hdb);refine Ĺ I.ok.mod.kin D.kp (AX (ha pos pz s σ H _ I h) λus s1 zz=>?_) he hpl;obtain⟨vs,H1,I1,r,q⟩:=zz;refine⟨I1.kIn,?_⟩
 exact LQ D.ok (hr.mono hk) hb hd hx I1 r q
end
noncomputable abbrev Kn:k9:=[.type "ValueError",.type "Exception",.type "BaseException",.type "object"]
def M1(K:k6)(C:Addr):Bool:=match K.lookup C with
 |some ⟨.type "type",_,.cls k,l⟩=>(match k.mro,l.toList with|.ref D::r,[_,_,_,_,some (.builtin n),_]=>D == C && n == "ValueError.__new__" && !k.hasDel && W.tailIn K Kn r && W.nsOkIn K k.ns|_,_=>false)
 |_=>false
def DS(K:k6)(C:Addr):Option (Option Value):=(W.clsIn K C).bind λk=>W.nsIn K k.ns "__init__"
structure ExcK(K:k6)(C:Addr):Prop where
 q:M1 K C=true
 self:W.subIn K (.ref C) (.ref C)=some true
 cd:∃cd,W.clsIn K C=some cd
 ty:W.typeIn K (.ref C)=some (.type "type")
 ga:W.findIn K (.ref C) "__getattribute__"=some (some (.builtin "BaseException.__getattribute__"))
 gt:W.findIn K (.ref C) "__getattr__"=some none
 ca:W.findIn K (.ref C) "__class__"=some (some (.builtin "object.__class__"))
 ob:W.mroIn K C (.type "object")=some true
 be:W.mroIn K C (.type "BaseException")=some true
 gs:W.specialIn K (.builtin "object.__class__") "__get__"=some (some (.builtin "getset_descriptor.__get__"))
 tk:W.takesIn K (.builtin "object.__class__")=some true
structure ECls(K:k6)(mg:Str->Option Value)(x:Str) where
 C:Addr
 m:mg x=some (.ref C)
 k:ExcK K C
theorem He{K}(X:K.In h)(q:M1 K C=true):∃bm N nm qn bs hd sn sub ab col dd k0 k1 k2 k3 k5 mN,
  h.get? C=some (excClassObj nm qn C N bs bm hd sn sub ab col dd k0 k1 k2 k3 k5 "ValueError.__new__")/\h.Ns N mN/\(∃cd,W.clsIn K C=some cd/\cd.ns=N/\cd.mro=.ref C::bm/\cd.hasDict=hd)/\OwnTail h Kn bm:=by
 unfold M1 at q;split at q
 .rename_i dd cd sl ho;have hcl:W.clsIn K C=some cd:=by unfold W.clsIn;rw[ho]
  split at q
  .rename_i C2 bm k0 k1 k2 k3 nid k5 hm hs;erw[Ļ,Ê,Ĭ]at q;obtain⟨⟨⟨⟨z1,z2⟩,hdel⟩,ht⟩,hok⟩:=q;subst z1;subst z2;obtain⟨nm,bs,mro,nsp,qn,hd,sn,sub,ab,col,dl⟩:=cd;dsimp only at hm hok hdel;subst hm;subst hdel
   have hsl:sl=#[k0,k1,k2,k3,some (.builtin "ValueError.__new__"),k5]:=by
    obtain⟨l⟩:=sl;have hs':l=[k0,k1,k2,k3,some (.builtin "ValueError.__new__"),k5]:=hs;rw[hs']
   subst hsl;exact⟨bm,nsp,nm,qn,bs,hd,sn,sub,ab,col,dd,k0,k1,k2,k3,k5,_,X _ _ ho,.of_isNs (W.isNs_of_in X hok),⟨_,hcl,rfl,rfl,rfl⟩,W.tail_of_in X ht⟩
  .exact absurd q ó
 .exact absurd q ó
theorem zi4{K}(X:K.In h)(G:h.Ns N mN)(hc:W.clsIn K C=some cd)(hn:cd.ns=N)(q:DS K C=some none):mN "__init__"=none:=by
 unfold DS at q;rw[hc]at q;subst hn;exact W.ns_none_of X G q
section
variable {X:Cx}{x:Str}{p cpos pos:Pos}{e:Expr}{es:kC}{t:TA}{E:L2.St->XK}
def zmg(C:Addr)(E:L2.St->XK)(t:TA):TS:=λ_ σ H=>t σ H λvs H1=>vs.length<=sizeLine/\E σ (.ref C) none H1
theorem zhc(T:ECls X.K X.mg x)(hini:DS X.K T.C=some none)(hc:X.calm=true)(hx:SJ X E)(ha:PA X (e::es) t)(hg:Gl X x)(hdb:(x == ("__debug__":Str))=false)
  (he:starEach (e::es) X.env=(false,eval e X.env)::starEach es X.env) (hpl:(backTo cpos (starEach (e::es) X.env)).any (·.1)=false) :
  PS X (.Raise (some (.Call (.Name x p) (e::es) [] cpos)) none pos) (zmg T.C E t):=by
 intro pz s σ H D I h;obtain⟨bm,N,nm,qn,bs,hd,sn,sub,ab,col,dd,k0,k1,k2,k3,k5,mN,hC,hN,⟨cd,hcd,hcn,_⟩,TL⟩:=He I.mod.kin T.k.q;have hni:=zi4 I.mod.kin hN hcd hcn hini
 refine wpAny_Raise_call_subT (nm:=nm) (q:=qn) (N:=N) (bs:=bs) (hdct:=hd) (sn:=sn) (sub:=sub) (ab:=ab) (col:=col) (dd:=dd) (k0:=k0) (k1:=k1) (k2:=k2) (k3:=k3) (k5:=k5)
  ġ (TL.hasType ġ.hasBase) (I.ok.hd hc) hpl hni (G5 I hg T.m ⟨rfl,?_⟩ hdb)
 have h2:=ha cpos pz s σ H _ I h;rw[he]at h2 ⊢;exact Calls.evalArgs_plain (AX h2 λus s1 ⟨vs,H1,I1,r,z,q1⟩=>⟨rfl,r.length▸z,I1.bk _ _ hC,hN.keeps I1.bk,TL.keeps I1.bk,λh' a hm=>hx pz σ H1 s1 a _ us h' I1 hm q1⟩)
end
def b9(H:Hp)(a C:Addr):Prop:=∃ob,H a=some (.frz ob (.own 0))/\ob.cls=.ref C/\∃vs,ob.data=.fields vs/\vs[2]?=some .none
def Hv(H:Hp)(a C:Addr)(dx:Option Addr):Prop:=∃ob,H a=some (.frz ob (.own 0))/\(ob.cls,ob.dict)=(.ref C,dx)/\∃vs,ob.data=.fields vs/\vs[2]?=some .none
theorem Hv.of(x:Hv H a C dx)(e:∀u,H a=some u->F a=some u):Hv F a C dx:=
 let ⟨ob,y,r⟩:=x;⟨ob,e _ y,r⟩
section
variable {K:k6}{a C:Addr}
theorem zgj:(Value.builtin "BaseException.__getattribute__" == Value.builtin "object.__getattribute__")=false:=by rfl
theorem zj2:builtinKind "BaseException.__getattribute__"=some .slot:=by decide +kernel
theorem zgi:splitId "BaseException.__getattribute__"=some ("BaseException","__getattribute__"):=by rfl
end
section
variable {X:Cx}
end
noncomputable abbrev DK(X:Cx)(pz:List (Addr×Obj))(xe:Value->Shared->Prop):Cx:={ X with pn:=X.pn++pz,xe:=xe }
abbrev GA(X:Cx)(a:Addr):Cx:={ X with A:=X.A.mark (some (.ref a)),calm:=false,xe:=λ_ _=>False }
section
variable {X:Cx}{pz:List (Addr×Obj)}{σ:L2.St}{H:Hp}{s:Shared}{xe:Value->Shared->Prop}
theorem zof(ok:X.Ok):(DK X pz xe).Ok:=⟨ok.mod,ok.kind,ok.glob,ok.blt,ok.above,ok.inj,ok.has,ok.cab,ok.hd,ok.frames,ok.stk,ok.exf,ok.bs,ok.bsz,ok.noex,ok.exfs,ok.funs,ok.frf⟩
theorem zho(ok:X.Ok):(GA X a).Ok:=⟨ok.mod,ok.kind,ok.glob,ok.blt,ok.above,ok.inj,ok.has,ok.cab,λz=>Bool.noConfusion z,ok.frames,ok.stk,ok.exf,ok.bs,ok.bsz,ok.noex,ok.exfs,ok.funs,ok.frf⟩
theorem Y9(I:Inv X pz σ H s):Inv (DK X pz xe) [] σ H s:=⟨zof I.ok,I.os,I.bare,I.base,I.loc,I.cell,I.free,I.freeC,λp hp=>I.pin p (by simpa using hp),I.hok,I.len⟩
theorem L5{ok:X.Ok}(I:Inv (DK X pz xe) pn2 σ H s):Inv X pz σ H s:=⟨ok,I.os,I.bare,I.base,I.loc,I.cell,I.free,I.freeC,λp hp=>I.pin p (Ģ _ hp),I.hok,I.len⟩
theorem ML{a:Addr}(I:Inv X pz σ H s):Inv (GA X a) pz σ H s:=⟨zho I.ok,I.os,I.bare,I.base,I.loc,I.cell,I.free,I.freeC,I.pin,I.hok,I.len⟩
theorem J0(ok:X.Ok)(I:Inv (GA X a) pz σ H s):Inv X pz σ H s:=⟨ok,I.os,I.bare,I.base,I.loc,I.cell,I.free,I.freeC,I.pin,I.hok,I.len⟩
theorem gone(I:Inv X pz σ H s)(hN:X.N.Nodup)(hi:X.N[i]?=some n)(hm:s.heap.Ns X.env.locals m)(hn:h'.Ns X.env.locals (λx=>if x=n then v else m x))
  (hs:Heap.SameBut X.env.locals s.heap h'):Inv X pz (σ.set i none) H { s with heap:=h',toks:=t}:=by
 have neL:∀b o,X.s₀.heap.get? b=some o->b≠X.env.locals:=λb o e=>Ö (á (Æ e) I.ok.above)
 have hok:=λb u e=>(I.hok b u e).stay (λc x hc q=>(hs.2 c (λz=>by
   have f:=I.free
   rcases hc with y|y
   .rw[<- z,y,e]at f;cases f
   .rw[<- z,y]at f;cases f)).trans q) (λ_ q=>q) λ_ _ q=>q
 refine⟨I.ok,I.os,I.bare,⟨λb o e n hb hx=>(hs.2 b (neL b o e)).trans (I.base.keep b o e n hb hx),λb o e n hb hx=>?_,I.base.free,λb o e hx=>?_,I.base.tups,I.base.frzs,I.base.tbls⟩,⟨_,hn,λj y v' e1 e2 e3=>?_⟩,λy c e=>?_,I.free,I.freeC,λp hp=>?_,hok,by rw[Ĉ];exact I.len⟩
 .obtain⟨z,e1⟩:=I.base.slot b o e n hb hx;exact⟨z,(hs.2 b (neL b o e)).trans e1⟩
 .obtain⟨o',e1⟩:=I.base.there b o e hx;exact⟨o',(hs.2 b (neL b o e)).trans e1⟩
 .have hj:j≠i:=λz=>by
   subst z
   have hl:j<σ.length:=by
    rw[I.len];exact(Õ.mp hi).1
   rw[í hl]at e2;cases e2
  rw[ã (Ð hj)]at e2;obtain⟨m2,hn2,hl2⟩:=I.loc;obtain⟨u,r,q⟩:=hl2 j y v' e1 e2 e3;refine⟨u,r,?_⟩
  rcases q with ⟨kk,e⟩|⟨kk,c,e,z⟩
  .refine .inl ⟨kk,?_⟩;have hy:y≠n:=λz=>hj (Of hN e1 (z▸hi))
   have em:m2 y=m y:=by
    obtain⟨o1,es1,ep1,a1,b1,_,c1⟩:=hn2;obtain⟨o2,es2,ep2,a2,b2,_,c2⟩:=hm;rw[a1]at a2;cases a2;rw[b1]at b2;cases b2;rw[<- c1,<- c2]
   show(if y=n then v else m y)=some u
   rw[if_neg hy,<- em];exact e
  .exact .inr ⟨kk,c,e,z.sameBut hs (I.cne y c e)⟩
 .obtain⟨w',z⟩:=I.cell y c e;exact⟨w',z.sameBut hs (I.cne y c e)⟩
 .obtain⟨e,n,ne,nf,d⟩:=I.pin p hp;exact⟨(hs.2 p.1 ne).trans e,n,ne,nf,d⟩
end
def SH(a:Addr)(i:Nat)(X:Cx)(st:kD)(t:TS):Prop:=∀(pz:List (Addr×Obj)) (s:Shared) (σ:L2.St) (H:Hp) (D:Ends),Inv X pz σ H s->σ[i]?=some (some (.ref a))->(∃C,b9 H a C)->t D σ H->wpAny (model X.prog X.w) X.A (execs st X.env) (SP X pz D) X.xe s
theorem pss_e{st}(h:B3 X st t):SH a i X st t:=λpz s σ H D I _ _ q=>h pz s σ H D I q
def Yk(i:Nat)(D:Ends):Ends:={ nx:=λσ H=>D.nx (σ.set i none) H,rt:=D.rt,bk:=λσ H=>D.bk (σ.set i none) H,ct:=λσ H=>D.ct (σ.set i none) H }
def tTry(K:k6)(W:Addr)(i:Nat)(E:L2.St->XK)(tb th:TS):TS:=λD σ H=>tb D σ H/\∀σ1 cls dx H1,E σ1 cls dx H1->∃C,cls=.ref C/\PySem.W.subIn K (.ref C) (.ref W)=some true /\
 ∀a o,H1 a=none->Hv (upd H1 a o) a C dx->th (Yk i D) (σ1.set i (some (.ref a))) (upd H1 a o)
section
variable {A:Around}{E:Value->Shared->Prop}{M:Model}
theorem Zo{h:Heap}{d:Drawn}{t:Nat}{os:OsState}{oe:Obj}{nm q:Str}{sn:kE}{ab:Bool}
      (hW:h.get? W=some (excClassObj nm q W N bs bm hdct sn sub ab col dd k0 k1 k2 k3 k5 newId)) (he:h.get? a=some oe) (hcls:oe.cls=.ref C) (hb:bm.contains (.type "BaseException")=true)
    (LS:PySem.W.Looks M h (isSubtype (.ref C) (.ref W)) true) (hq:Q true ⟨h,g,d,t,os⟩):wpAny M A (excMatches (.ref a) (.ref W)) Q E ⟨h,g,d,t,os⟩:=by
  have hcB:(Value.ref W::bm).contains (.type "BaseException")=true:=by
    rw[ŕ,hb];exact Bool.or_true _
  have f:=tc_notTuple;unfold excMatches
  repeat (first|(with_reducible refine ĭ he ?_;rw[hcls])|with_reducible refine ĭ hW ?_|(with_reducible refine Δ hW ?_;rw[hcB])|with_reducible refine PySem.W.Looks.at LS ?_|wp_step)
  exact hq
end
section
variable {X:Cx}{i:Nat}{x n:Str}{np pos hpos:Pos}{body suite:kD}{b₀:Stmt}{tb th:TS}{E:L2.St->XK}
theorem znk(T:ECls X.K X.mg x)(hst:X.stack=X.env::X.outer)(hf:X.env.frame=some X.env.locals)(hN:X.N.Nodup)(hi:X.N[i]?=some n)(hloc:X.env.scope.names.lookup n=some .local)
  (hb:∀pz xe,BW (DK X pz xe) E->B3 (DK X pz xe) body tb) (hh:∀a,SH a i (GA X a) (b₀::suite) th) (hg:Gl X x) (hdb:(x == ("__debug__":Str))=false) :
  PS X (.Try body [.ExceptHandler (some (.Name x np)) (some n) (b₀::suite) hpos] [] [] pos) (tTry X.K T.C i E tb th):=by
 intro pz s σ H D I h;obtain⟨h1,h2⟩:=h
 have hkind:(X.env.scope.kind == .class || (X.env.scope.kind == .module && X.env.locals != X.env.globals))=false:=by
  rw[I.ok.kind]
  rfl
 refine wpAny_Try_except (è (hb pz (λe s₁=>wpAny (model X.prog X.w) X.A (noteFrame e X.env) (λ_ s₂=>wpAny (model X.prog X.w) X.A (setFlight e none) (λ_ s₃=>wpAny (model X.prog X.w) X.A (handleBy e X.env [.ExceptHandler (some (.Name x np)) (some n) (b₀::suite) hpos]) (SP X pz D) X.xe s₃) X.xe s₂) X.xe s₁)
  ?pass [] s σ H D (Y9 I) h1) (λf s1 q=>?_) (λe s1 q=>q))
 case pass=>
  intro pins1 σ1 H1 s1 e s' I1t hcx;have I1 :=L5 (ok:=I.ok) I1t;obtain⟨a,cls,H',B,rfl,os,bare,un,hok,kB,tB,fl0,he⟩:=hcx;obtain⟨c0,dx⟩:=cls;obtain⟨C,hC0,hsub,kk⟩:=h2 σ1 c0 dx H' he;have hC0 :=hC0;subst hC0;have fl1 :=hst▸fl0;have hfr :=hst▸I.ok.frames;have ha :=none_of hok fl1.choose_spec.2.1
  have sl:∀h',s'.heap.UpToSlots h'->∀b o,s1.heap.get? b=some o->H1 b=none->b∈BO X.stack->∃z,h'.get? b=some { o with slots:=z }:=λh' sm b o e n hb=>by
   obtain⟨_,o2,ho2,hd⟩:=I1.stack.mem hb;rw[e]at ho2;cases ho2;obtain⟨z2,e2⟩:=un.slot b o e n hb (by simp)
   obtain⟨z3,e3⟩:=sm b { o with slots:=z2 } e2 hd
   exact⟨z3,e3⟩
  have th':∀h',B.StaysIn h'->s'.heap.UpToSlots h'->∀b o,s1.heap.get? b=some o->∃o',h'.get? b=some o':=λh' st sm b o e=>by
   by_cases hb:b∈BO X.stack
   .obtain⟨z,q⟩:=sl h' sm b o e (I1.stkFree b hb) hb;exact⟨_,q⟩
   .obtain⟨o',q⟩:=tB b o e hb;exact⟨o',st b o' q⟩
  have inv5 :=λh' st sm=>
   I1.call' (s':={ s' with heap:=h' }) os ⟨λb o e n hb _=>st b o (kB b o e n hb),λb o e n hb _=>sl h' sm b o e n hb,un.free,λb o e _=>th' h' st sm b o e,un.tups,un.frzs,un.tbls⟩ (hok.kept st) bare (λ_ z=>nomatch z)
  refine La hfr rfl hf fl1 λh4 held4 sm4=>?_
  refine ME held4 λh5 fl5 sm5=>?_
  have sm45:=sm4.trans sm5;have I5:=inv5 h5 fl5.1 sm45;obtain⟨oe,he5,hc5⟩:=fl5.there;obtain⟨bm,N,nm,qn,bs,hd,sn,sub,ab,col,dd,k0,k1,k2,k3,k5,mN,hC,hNs,hni,TL⟩:=He I5.kIn T.k.q;refine wpAny_handleBy_cons (codeAny_handlers_test (G5 (ML I5) hg T.m ?_ hdb)) (by intro q;cases q)
  refine Zo hC he5 hc5 (TL.hasType ġ.hasBase) (W.looks_subIn I5.kIn hsub) ?_;refine codeAny_handlers_suite_as (b5 fl5 λh6 fl6 sm6=>?_)
  have sm456:=sm45.trans sm6;obtain⟨oe6,ws6,he6,hc6,hd6,hz6⟩:=fl6.first
  have nea:∀b o,s1.heap.get? b=some o->H1 b=none->b≠a:=λb o e n z=>by
   by_cases hb:b∈BO X.stack
   .obtain⟨_,o2,ho2,hd⟩:=I1.stack.mem hb;rw[e]at ho2;cases ho2;obtain⟨y,e2⟩:=sl h6 sm456 b o e n hb;rw[z,he6]at e2;cases e2;exact hd _ hd6
   .have e2:=kB b o e n hb;rw[z,fl6.2.1]at e2;cases e2
  have I6:Inv X pz σ1 (upd H' a (.frz oe6 (.own 0))) { s' with heap:=h6 }:=by
   refine I1.call' (ch:=[]) os ⟨λb o e n hb _=>fl6.1 b o (kB b o e n hb),λb o e n hb _=>sl h6 sm456 b o e n hb,λb o e n hx=>(Ag (nea b o e n)).trans (un.free b o e n hx),λb o e _=>th' h6 fl6.1 sm456 b o e,λb xs e=>?_,λb o u e=>?_,λb ps e=>?_⟩
    (b6 (hok.kept fl6.1) ha ⟨he6,oe6,he6⟩) bare (λ_ z=>nomatch z)
   .have q:=un.tups b xs e;exact(Ag (Bt q ha)).trans q
   .have q:=un.frzs b o u e;exact(Ag (Bt q ha)).trans q
   .obtain⟨more,q⟩:=un.tbls b ps e;exact⟨more,(Ag (Bt q ha)).trans q⟩
  refine JO (X:=GA X a) (v:=.ref a) (ML I6) hN hi (.inl hloc) rfl (λs7 I7=>?_) (.inr hloc)
  refine è (hh a pz s7 (σ1.set i (some (.ref a))) _ (Yk i D) I7 (í (by rw[I1.len];exact(Õ.mp hi).1)) ⟨C,oe6,Bj,congrArg Prod.fst hc6,ws6,hd6,hz6⟩ (kk a _ ha ⟨oe6,Bj,hc6,ws6,hd6,hz6⟩)) (λf s8 q8=>?_) (λ_ _ z=>False.elim z)
  have BP:∀σ8 H8,Inv (GA X a) pz σ8 H8 s8->∀(G ),(∀s9,Inv X pz (σ8.set i none) H8 s9->G () s9)->wpAny (model X.prog X.w) X.A (do bindName X.env n .none;unbindBehindTheSuite X.env n hpos) G X.xe s8:=λσ8 H8 I8 G hG=>by
   have J:=J0 I.ok I8;obtain⟨m,hm,_⟩:=id J.loc;exact wpAny_nameGoes_keeps hloc hm hkind λh' v hn hs=>hG _ (gone J hN hi hm hn hs)
  cases f with
  |next=>obtain⟨σ8,H8,I8,d8⟩:=q8;exact BP σ8 H8 I8 _ λs9 I9=>⟨_,H8,I9,d8⟩
  |brk=>obtain⟨σ8,H8,I8,d8⟩:=q8;exact BP σ8 H8 I8 _ λs9 I9=>⟨_,H8,I9,d8⟩
  |cont=>obtain⟨σ8,H8,I8,d8⟩:=q8;exact BP σ8 H8 I8 _ λs9 I9=>⟨_,H8,I9,d8⟩
  |ret u=>obtain⟨v,σ8,H8,I8,r8,d8⟩:=q8;exact BP σ8 H8 I8 _ λs9 I9=>⟨v,_,H8,I9,r8,d8⟩
 have back:∀{xe0 } {σ':L2.St} {H':Hp},Inv (DK X pz xe0) [] σ' H' s1->Inv X pz σ' H' s1:=λJ=>L5 (ok:=I.ok) J
 cases f with
 |next=>obtain⟨σ',H',J,d⟩:=q;exact ĩ ⟨σ',H',back J,d⟩
 |brk=>obtain⟨σ',H',J,d⟩:=q;exact⟨σ',H',back J,d⟩
 |cont=>obtain⟨σ',H',J,d⟩:=q;exact⟨σ',H',back J,d⟩
 |ret u=>obtain⟨v,σ',H',J,r,d⟩:=q;exact⟨v,σ',H',back J,r,d⟩
end
end Zx
namespace Pu
open PySem PySem.Spec PyProof.Rows L2 Zw Zx
abbrev Rg:=Addr->Prop
def R0:Rg:=λ_=>False
set_option genInjectivity true in
inductive Kd where
 |lst|rl|tup|rt|pin (p:Addr)
set_option genInjectivity true in
inductive Ob where
 |ins (C:Addr) (fs:List Str)|exn (C:Addr)|sdc (ks:List Str)|lab (p:Addr)
set_option genInjectivity true in
inductive T where
 |non|bl (b:Bool)|int (i:Int)|str (x:Str)|nd (o:Bool) (k:Kd) (l:List T)|dic (ks:List Int) (l:List T)|pdc (ks:List Int) (l:List T)|odc (ks:List Int) (l:List T)
 |obj (k:Ob) (l:List T)|oob (p C:Addr) (fs:List Str) (l:List T)|osd (ks:List Str) (l:List T)
abbrev kH:=Option T
abbrev kL:=List T
noncomputable abbrev T.lst(l:kL):T:=.nd false .lst l
noncomputable abbrev T.own(l:kL):T:=.nd true .lst l
noncomputable abbrev T.tup(l:kL):T:=.nd false .tup l
mutual
def T.share:T->T
 |.nd _ k l=>.nd false k (Bc l)|.dic ks l=>.dic ks (Bc l)|.pdc ks l=>.pdc ks (Bc l)|.odc ks l=>.pdc ks (Bc l)|.obj k l=>.obj k (Bc l)|.oob _ C fs l=>.obj (.ins C fs) (Bc l)|.osd ks l=>.obj (.sdc ks) (Bc l)|.non=>.non|.bl b=>.bl b|.int i=>.int i|.str x=>.str x
def Bc:List T->List T
 |[]=>[]|t::r=>t.share::Bc r
end
mutual
def T.sh:T->Bool
 |.nd o _ l=>!o && Aq l|.dic _ l=>Aq l|.pdc _ l=>Aq l|.odc _ _=>false|.obj _ l=>Aq l|.oob _ _ _ _=>false|.osd _ _=>false|.non=>true|.bl _=>true|.int _=>true|.str _=>true
def Aq:List T->Bool
 |[]=>true|t::r=>t.sh && Aq r
end
noncomputable def T.flat:T->Bool
 |.nd _ _ _=>false|.dic _ _=>false|.pdc _ _=>false|.odc _ _=>false|.obj _ _=>false|.oob _ _ _ _=>false|.osd _ _=>false|.non=>true|.bl _=>true|.int _=>true|.str _=>true
theorem DW:∀l ,Bc l=l.map T.share
 |[]=>rfl|t::r=>by rw[Bc,DW r];rfl
theorem Di:∀l ,Aq l=l.all T.sh
 |[]=>rfl|t::r=>by rw[Aq,Di r];rfl
mutual
theorem Ap:∀t:T,t.sh=true->t.share=t
 |.nd o k l,h=>by
  rw[T.sh,Ê]at h;have ho:o=false:=by simpa using h.1
  subst ho;rw[T.share,AF l h.2]
 |.dic ks l,h=>by
  rw[T.sh]at h;rw[T.share,AF l h]
 |.pdc ks l,h=>by
  rw[T.sh]at h;rw[T.share,AF l h]
 |.odc ks l,h=>by
  rw[T.sh]at h;cases h
 |.obj k l,h=>by
  rw[T.sh]at h;rw[T.share,AF l h]
 |.oob p C fs l,h=>by
  rw[T.sh]at h;cases h
 |.osd ks l,h=>by
  rw[T.sh]at h;cases h
 |.non,_=>rfl|.bl _,_=>rfl|.int _,_=>rfl|.str _,_=>rfl
theorem AF:∀l:List T,Aq l=true->Bc l=l
 |[],_=>rfl|t::r,h=>by
  rw[Aq,Ê]at h;rw[Bc,Ap t h.1,AF r h.2]
end
theorem zjj(h:Aq l=true){i:Nat}(e:l[i]?=some t):t.sh=true:=by
 rw[Di]at h;exact Þ.mp h _ (Ú e)
def Hn(K:k6)(F:Hp)(p:Addr)(xs:kK):Prop:=(∃o,F p=some (.frz o (.lst xs)))\/∃(o:Obj) (its:Array Value) (n:Nat),K.lookup p=some o/\o.cls=.type "list"/\o.dict=none/\o.data=.seq its n/\its.size<=sizeLine/\Al xs its.toList
theorem Hn.l{K}(h:Hn K F p xs):Am K F p xs:=h.elim (λz=>.inl (.inr z)) .inr
def Fc(K:k6)(F:Hp)(k:Kd)(p:Addr)(xs:kK):Prop:=match k with
 |.lst=>F p=some (.lst xs)|.rl=>Hn K F p xs|.tup=>F p=some (.tup xs)|.rt=>CV K F p xs|.pin _=>F p=some (.lst xs)
theorem GK{K}(s:Af F F')(h:CV K F p xs):CV K F' p xs:=by
 rcases h with (h|⟨o,h⟩)|h
 .exact .inl (.inl (s _ _ h))
 .exact .inl (.inr ⟨o,s _ _ h⟩)
 .exact .inr h
theorem Fc.same{K}(h:Fc K F k p xs)(s:Af F F'):Fc K F' k p xs:=by
 cases k with
 |lst=>exact s _ _ h|rl=>exact h.elim (λ⟨o,z⟩=>.inl ⟨o,s _ _ z⟩) .inr|tup=>exact s _ _ h|rt=>exact GK s h|pin q=>exact s _ _ h
def KW(k:Kd)(p:Addr):Prop:=match k with
 |.lst=>True|.pin q=>q=p|_=>False
theorem KW.node{K}(hk:KW k p)(h:F p=some (.lst xs)):Fc K F k p xs:=by
 cases k with
 |lst=>exact h|pin q=>exact h|_=>exact hk.elim
def MG(ks:kF)(xs:kK):List (Key×V):=List.zipWith (λk x=>(Sum.inl k,x)) ks xs
def Cu(ks:kE)(xs:kK):List (Key×V):=List.zipWith (λk x=>(Sum.inr k,x)) ks xs
def Ij(F:Hp)(dx:Option Addr)(v:V):Prop:=∃d od u,dx=some d/\F d=some (.frz od (.own 0))/\Ab v u/\W.lookIn "step" od=some (some u)
theorem Ij.of(h:Ij F dx v)(s:∀a u,F a=some u->F' a=some u):Ij F' dx v:=
 let ⟨d,od,u,e,h1,r⟩:=h;⟨d,od,u,e,s _ _ h1,r⟩
def KY(F:Hp)(k:Ob)(p:Addr)(xs:kK):Prop:=match k with
 |.ins C fs=>∃dx,F p=some (.ins C dx (fs.zip xs))|.exn C=>∃dx,Hv F p C dx/\∀v∈xs,Ij F dx v|.sdc ks=>ks.length=xs.length/\F p=some (.dK (Cu ks xs))|.lab q=>q=p/\xs=[.ref p]
theorem KY.same(h:KY F k p xs)(s:Af F F'):KY F' k p xs:=by
 cases k with
 |ins C fs=>exact h.elim λdx e=>⟨dx,s _ _ e⟩|exn C=>exact h.elim λdx e=>⟨dx,e.1.of λu=>s p u,λv hv=>(e.2 v hv).of s⟩|sdc ks=>exact⟨h.1,s _ _ h.2⟩|lab q=>exact h
inductive Rp(K:k6)(F H:Hp):T->V->Rg->Prop where
 |non:Rp K F H .non .non R0
 |bl (b:Bool):Rp K F H (.bl b) (.bl b) R0
 |int (i:Int):Rp K F H (.int i) (.int i) R0
 |str (x:Str):Rp K F H (.str x) (.str x) R0
 |shr {k:Kd} {p:Addr} {xs:List V} {l:List T} (h:Fc K F k p xs) (e:l.length=xs.length) (c:∀(i:Nat) (t:T) (x:V),l[i]?=some t->xs[i]?=some x->Rp K F H t x R0):Rp K F H (.nd false k l) (.ref p) R0
 |dic {p:Addr} {ob:Obj} {ks:List Int} {xs:List V} {l:List T} (h:F p=some (.frz ob (.dK (MG ks xs)))) (e:l.length=xs.length) (ek:ks.length=xs.length) (c:∀(i:Nat) (t:T) (x:V),l[i]?=some t->xs[i]?=some x->Rp K F H t x R0):Rp K F H (.dic ks l) (.ref p) R0
 |pdc {p:Addr} {ks:List Int} {xs:List V} {l:List T} (h:F p=some (.dK (MG ks xs))) (e:l.length=xs.length) (ek:ks.length=xs.length) (c:∀(i:Nat) (t:T) (x:V),l[i]?=some t->xs[i]?=some x->Rp K F H t x R0):Rp K F H (.pdc ks l) (.ref p) R0
 |odc {p:Addr} {ks:List Int} {xs:List V} {l:List T} (f:F p=none) (h:H p=some (.dK (MG ks xs))) (e:l.length=xs.length) (ek:ks.length=xs.length) (c:∀(i:Nat) (t:T) (x:V),l[i]?=some t->xs[i]?=some x->Rp K F H t x R0):Rp K F H (.odc ks l) (.ref p) (λa=>a=p)
 |obj {k:Ob} {p:Addr} {xs:List V} {l:List T} (h:KY F k p xs) (e:l.length=xs.length) (c:∀(i:Nat) (t:T) (x:V),l[i]?=some t->xs[i]?=some x->Rp K F H t x R0):Rp K F H (.obj k l) (.ref p) R0
 |oob {C p dx:Addr} {fs:List Str} {xs:List V} {l:List T} (R:Nat->Rg) (f:F p=none) (h:H p=some (.ins C dx (fs.zip xs))) (e:l.length=xs.length) (c:∀(i:Nat) (t:T) (x:V),l[i]?=some t->xs[i]?=some x->Rp K F H t x (R i))
   (d:∀i j a,i≠j->R i a->¬ R j a) (dp:∀i,¬ R i p) (o:∀i a,R i a->i<l.length):Rp K F H (.oob p C fs l) (.ref p) (λa=>a=p\/∃i,R i a)
 |osd {p:Addr} {ks:List Str} {xs:List V} {l:List T} (R:Nat->Rg) (f:F p=none) (h:H p=some (.dK (Cu ks xs))) (e:l.length=xs.length) (ek:ks.length=xs.length) (c:∀(i:Nat) (t:T) (x:V),l[i]?=some t->xs[i]?=some x->Rp K F H t x (R i))
   (d:∀i j a,i≠j->R i a->¬ R j a) (dp:∀i,¬ R i p) (o:∀i a,R i a->i<l.length):Rp K F H (.osd ks l) (.ref p) (λa=>a=p\/∃i,R i a)
 |own {k:Kd} {p:Addr} {xs:List V} {l:List T} (hk:KW k p) (R:Nat->Rg) (f:F p=none) (h:H p=some (.lst xs)) (e:l.length=xs.length) (c:∀(i:Nat) (t:T) (x:V),l[i]?=some t->xs[i]?=some x->Rp K F H t x (R i))
   (d:∀i j a,i≠j->R i a->¬ R j a) (dp:∀i,¬ R i p) (o:∀i a,R i a->i<l.length):Rp K F H (.nd true k l) (.ref p) (λa=>a=p\/∃i,R i a)
theorem reg0:(λa=>a=p\/∃_:Nat,R0 a)=λa=>a=p:=funext λ_=>propext ⟨λz=>z.elim id λ⟨_,w⟩=>w.elim,.inl⟩
theorem Rp.osd0{K}{ks:kE}{l:kL}(f:F p=none)(h:H p=some (.dK (Cu ks xs)))(e:l.length=xs.length)(ek:ks.length=xs.length)(c:∀(i:Nat) (t) (x),l[i]?=some t->xs[i]?=some x->Rp K F H t x R0):Rp K F H (.osd ks l) (.ref p) (λa=>a=p):=by
 have r:Rp K F H (.osd ks l) (.ref p) (λa=>a=p\/∃_,R0 a):=.osd (λ_=>R0) f h e ek c (λ_ _ _ _ z=>z.elim) (λ_ z=>z) (λ_ _ z=>z.elim)
 rwa[reg0]at r
section
variable {K:k6}{F F' H H':Hp}{t:T}{x:V}{A:Rg}
theorem Rp.frame(h:Rp K F H t x A)(s:Af F F')(k:∀a,A a->H' a=H a/\F' a=none):Rp K F' H' t x A:=by
 induction h with
 |non=>exact .non|bl b=>exact .bl b|int i=>exact .int i|str y=>exact .str y|shr h e c ih=>exact .shr (h.same s) e λi t x h1 h2=>ih i t x h1 h2 λa z=>z.elim|dic h e ek c ih=>exact .dic (s _ _ h) e ek λi t x h1 h2=>ih i t x h1 h2 λa z=>z.elim|pdc h e ek c ih=>exact .pdc (s _ _ h) e ek λi t x h1 h2=>ih i t x h1 h2 λa z=>z.elim|odc f h e ek c ih=>have q:=k _ rfl;exact .odc q.2 (q.1.trans h) e ek λi t x h1 h2=>ih i t x h1 h2 λa z=>z.elim|obj h e c ih=>exact .obj (h.same s) e λi t x h1 h2=>ih i t x h1 h2 λa z=>z.elim|oob R f h e c d dp o ih=>have q:=k _ (.inl rfl);exact .oob R q.2 (q.1.trans h) e (λi t x h1 h2=>ih i t x h1 h2 λa z=>k a (.inr ⟨i,z⟩)) d dp o|osd R f h e ek c d dp o ih=>have q:=k _ (.inl rfl);exact .osd R q.2 (q.1.trans h) e ek (λi t x h1 h2=>ih i t x h1 h2 λa z=>k a (.inr ⟨i,z⟩)) d dp o|own hk R f h e c d dp o ih=>have q:=k _ (.inl rfl);exact .own hk R q.2 (q.1.trans h) e (λi t x h1 h2=>ih i t x h1 h2 λa z=>k a (.inr ⟨i,z⟩)) d dp o
theorem Rp.dom(h:Rp K F H t x A)(ha:A a):F a=none/\∃u,H a=some u:=by
 induction h with
 |non=>exact ha.elim|bl b=>exact ha.elim|int i=>exact ha.elim|str y=>exact ha.elim|shr h e c ih=>exact ha.elim|dic h e ek c ih=>exact ha.elim|pdc h e ek c ih=>exact ha.elim|odc f h e ek c ih=>grind|obj h e c ih=>exact ha.elim|@osd p ks xs l R f h e ek c d dp o ih=>
  rcases ha with rfl|⟨i,z⟩
  .grind
  .have hi:=o i a z;have hx:i<xs.length:=by omega
   exact ih i _ _ (Â hi) (Â hx) z
 |@oob C p dx fs xs l R f h e c d dp o ih=>
  rcases ha with rfl|⟨i,z⟩
  .grind
  .have hi:=o i a z;have hx:i<xs.length:=by omega
   exact ih i _ _ (Â hi) (Â hx) z
 |@own k0 p xs l hk R f h e c d dp o ih=>
  rcases ha with rfl|⟨i,z⟩
  .grind
  .have hi:=o i a z;have hx:i<xs.length:=by omega
   exact ih i _ _ (Â hi) (Â hx) z
theorem Rp.share(h:Rp K F H t x A)(s:Af F F')(k:∀a u,A a->H a=some u->F' a=some u):Rp K F' H' t.share x R0:=by
 induction h with
 |non=>exact .non|bl b=>exact .bl b|int i=>exact .int i|str y=>exact .str y|@shr k0 p xs l h e c ih=>
  rw[T.share,DW];refine .shr (h.same s) (by rw[À];exact e) λi t x h1 h2=>?_
  rw[Ä]at h1;obtain⟨t0,e0,rfl⟩:=à.mp h1;exact ih i t0 x e0 h2 λa u z=>z.elim
 |@dic p ob ks xs l h e ek c ih=>
  rw[T.share,DW];refine .dic (s _ _ h) (by rw[À];exact e) ek λi t x h1 h2=>?_
  rw[Ä]at h1;obtain⟨t0,e0,rfl⟩:=à.mp h1;exact ih i t0 x e0 h2 λa u z=>z.elim
 |@pdc p ks xs l h e ek c ih=>
  rw[T.share,DW];refine .pdc (s _ _ h) (by rw[À];exact e) ek λi t x h1 h2=>?_
  rw[Ä]at h1;obtain⟨t0,e0,rfl⟩:=à.mp h1;exact ih i t0 x e0 h2 λa u z=>z.elim
 |@odc p ks xs l f h e ek c ih=>
  rw[T.share,DW];refine .pdc (k _ _ rfl h) (by rw[À];exact e) ek λi t x h1 h2=>?_
  rw[Ä]at h1;obtain⟨t0,e0,rfl⟩:=à.mp h1;exact ih i t0 x e0 h2 λa u z=>z.elim
 |@obj k0 p xs l h e c ih=>
  rw[T.share,DW];refine .obj (h.same s) (by rw[À];exact e) λi t x h1 h2=>?_
  rw[Ä]at h1;obtain⟨t0,e0,rfl⟩:=à.mp h1;exact ih i t0 x e0 h2 λa u z=>z.elim
 |@oob C p dx fs xs l R f h e c d dp o ih=>
  rw[T.share,DW];refine .obj ⟨dx,k _ _ (.inl rfl) h⟩ (by rw[À];exact e) λi t x h1 h2=>?_
  grind
 |@osd p ks xs l R f h e ek c d dp o ih=>
  rw[T.share,DW];refine .obj ⟨ek,k _ _ (.inl rfl) h⟩ (by rw[À];exact e) λi t x h1 h2=>?_
  grind
 |@own k0 p xs l hk R f h e c d dp o ih=>
  rw[T.share,DW];refine .shr (hk.node (k _ _ (.inl rfl) h)) (by rw[À];exact e) λi t x h1 h2=>?_
  grind
theorem Rp.r0(h:Rp K F H t x A)(s:t.sh=true):A=R0:=by
 cases h with
 |own hk R f h e c d dp o=>cases s|odc f h e ek c=>cases s|oob R f h e c d dp o=>cases s|osd R f h e ek c d dp o=>cases s|_=>rfl
theorem Rp.move(h:Rp K F H t x A)(s:t.sh=true)(q:Af F F'):Rp K F' H' t x R0:=by
 have e:=h.r0 s;subst e;exact h.frame q λa z=>z.elim
theorem Rp.flat_any(h:Rp K F H t x A)(s:t.flat=true):Rp K F' H' t x R0:=by
 cases h with
 |non=>exact .non|bl b=>exact .bl b|int i=>exact .int i|str y=>exact .str y|shr h e c=>cases s|dic h e ek c=>cases s|pdc h e ek c=>cases s|odc f h e ek c=>cases s|obj h e c=>cases s|oob R f h e c d dp o=>cases s|osd R f h e ek c d dp o=>cases s|own hk R f h e c d dp o=>cases s
theorem Rp.int_inv{i:Int}(h:Rp K F H (.int i) x A):x=.int i:=by cases h;rfl
theorem Rp.bl_inv{b:Bool}(h:Rp K F H (.bl b) x A):x=.bl b:=by cases h;rfl
theorem Rp.non_inv(h:Rp K F H .non x A):x=.non:=by cases h;rfl
theorem Rp.str_inv{y:Str}(h:Rp K F H (.str y) x A):x=.str y:=by cases h;rfl
end
def Ar(K:k6)(F:Hp)(ts:kL)(xs:kK):Prop:=ts.length=xs.length/\∀(i:Nat) (t:T) (x:V),ts[i]?=some t->xs[i]?=some x->Rp K F F t x R0
theorem Ar.nil{K}:Ar K F [] []:=⟨rfl,λi t x h=>by simp at h⟩
theorem Rp.any{K}(h:Rp K F H t x R0):Rp K F H' t x R0:=h.frame (Af.refl F) λa z=>z.elim
theorem Ar.cons{K:k6}{F H:Hp}{t:T}{x:V}{ts:kL}{xs:kK}(h:Rp K F H t x R0)(r:Ar K F ts xs):Ar K F (t::ts) (x::xs):=by
 refine⟨by simp[r.1],λi t' x' h1 h2=>?_⟩
 cases i with
 |zero=>simp at h1 h2;subst h1;subst h2;exact h.any|succ j=>exact r.2 j t' x' (by simpa using h1) (by simpa using h2)
theorem Ar.inv{K}(r:Ar K F (t::ts) xs):∃x xs',xs=x::xs'/\Rp K F F t x R0/\Ar K F ts xs':=by
 obtain⟨e,h⟩:=r;cases xs with
 |nil=>simp at e|cons x xs'=>exact⟨x,xs',rfl,h 0 t x rfl rfl,by simpa using e,λi t' x' h1 h2=>h (i+1) t' x' (by simpa using h1) (by simpa using h2)⟩
theorem Ar.inv0{K}(r:Ar K F [] xs):xs=[]:=by
 obtain⟨e,h⟩:=r
 grind
theorem Ar.same{K}(r:Ar K F ts xs)(s:Af F F'):Ar K F' ts xs:=⟨r.1,λi t x h1 h2=>((r.2 i t x h1 h2).frame s λa z=>z.elim)⟩
theorem Ar.node{K}(h:Rp K F H (.nd false k l) (.ref p) A):∃xs,Fc K F k p xs/\Ar K F l xs:=by
 cases h with
 |shr h e c=>exact⟨_,h,e,λi t x h1 h2=>(c i t x h1 h2).any⟩
theorem Rp.ref_inv{K}(h:Rp K F H (.nd o k l) x A):∃p,x=.ref p:=by
 cases h with
 |shr h e c=>simp|own hk R f h e c d dp o=>simp
theorem Ar.of_node{K}(h:Fc K F k p xs)(r:Ar K F l xs):Rp K F H (.nd false k l) (.ref p) R0:=.shr h r.1 λi t x h1 h2=>(r.2 i t x h1 h2).any
structure Ext(F H F' H':Hp)(B:Rg):Prop where
 hh:Af H H'
 ff:Af F F'
 fh:Af F' H'
 nb:∀b,B b->H b=none
 nf:∀b u,F' b=some u->F b=some u\/H b=none
theorem GY(s:Af H H')(h:H' b=none):H b=none:=by
 cases e:H b with
 |none=>rfl|some u=>rw[s b u e]at h;cases h
section
variable {F H F1 H1 F2 H2:Hp}{B C:Rg}
theorem Ext.refl(s:Af F H):Ext F H F H R0:=⟨.refl _,.refl _,s,λ_ z=>z.elim,λ_ _ e=>.inl e⟩
theorem Ext.trans(a:Ext F H F1 H1 B)(b:Ext F1 H1 F2 H2 C):Ext F H F2 H2 (λx=>B x\/C x) where
 hh:=a.hh.trans b.hh
 ff:=a.ff.trans b.ff
 fh:=b.fh
 nb:=λx z=>z.elim (a.nb x) λz=>GY a.hh (b.nb x z)
 nf:=λx u e=>(b.nf x u e).elim (a.nf x u) λz=>.inr (GY a.hh z)
theorem Ext.mono(a:Ext F H F1 H1 B)(h:∀x,C x->B x):Ext F H F1 H1 C:=⟨a.hh,a.ff,a.fh,λx z=>a.nb x (h x z),a.nf⟩
theorem Ext.trans0(a:Ext F H F1 H1 R0)(b:Ext F1 H1 F2 H2 C):Ext F H F2 H2 C:=(a.trans b).mono λx z=>.inr z
open Classical in
def frz(F H:Hp)(A:Rg):Hp:=λb=>if A b then H b else F b
theorem Gh{A:Rg}{b:Addr}(h:A b):frz F H A b=H b:=by unfold frz;rw[if_pos h]
theorem Fy{A:Rg}{b:Addr}(h:¬ A b):frz F H A b=F b:=by unfold frz;rw[if_neg h]
theorem FA(n:∀a,A a->F a=none):Af F (frz F H A):=λb u e=>by
 by_cases h:A b
 .grind
 .rw[Fy h];exact e
theorem Ia(s:Af F H):Af (frz F H A) H:=λb u e=>by
 by_cases h:A b
 .rw[Gh h]at e;exact e
 .rw[Fy h]at e;exact s b u e
theorem Ext.frz(a:Ext F H F1 H1 B)(n:∀b,B b->F1 b=none):Ext F H (frz F1 H1 B) H1 R0 where
 hh:=a.hh
 ff:=a.ff.trans (FA n)
 fh:=Ia a.fh
 nb:=λ_ z=>z.elim
 nf:=λb u e=>by
  by_cases h:B b
  .exact .inr (a.nb b h)
  .rw[Fy h]at e;exact a.nf b u e
theorem Rp.ext{K }    (h:Rp K F H t x A)(a:Ext F H F1 H1 B):Rp K F1 H1 t x A:=h.frame a.ff λb z=>by
 obtain⟨f,u,e⟩:=h.dom z;refine⟨(a.hh b u e).trans e.symm,?_⟩;cases q:F1 b with
 |none=>rfl|some u'=>
  rcases a.nf b u' q with z|z
  .grind
  grind
theorem Rp.apart{K}(h:Rp K F H t x A)(a:Ext F H F1 H1 B)(hb:B b):¬ A b:=λz=>by
 obtain⟨f,u,e⟩:=h.dom z;rw[a.nb b hb]at e;cases e
theorem Ext.new   (s:Af F H)(h:H p=none):Ext F H (upd F p o) (upd H p o) R0 where
 hh:=LN h o
 ff:=LN (GY s h) o
 fh:=λb u e=>by
  by_cases hb:b=p
  .subst hb;rw[Bj]at e ⊢;exact e
  .rw[Ag hb]at e ⊢;exact s b u e
 nb:=λ_ z=>z.elim
 nf:=λb u e=>by
  by_cases hb:b=p
  .grind
  .rw[Ag hb]at e;exact .inl e
theorem Ext.newO   (s:Af F H)(h:H p=none):Ext F H F (upd H p o) (λa=>a=p) where
 hh:=LN h o
 ff:=.refl _
 fh:=λb u e=>LN h o b u (s b u e)
 nb:=λb z=>by grind
 nf:=λb u e=>.inl e
end
abbrev AK:=List (kH)
structure StR(K:k6)(F H:Hp)(σ:L2.St)(τ:AK)(R:Nat->Rg):Prop where
 fh:Af F H
 len:σ.length=τ.length
 rep:∀i t,τ[i]?=some (some t)->∃x,σ[i]?=some (some x)/\Rp K F H t x (R i)
 out:∀i a,R i a->∃t,τ[i]?=some (some t)
 dis:∀i j a,i≠j->R i a->¬ R j a
section
variable {K:k6}{F H F1 H1:Hp}{σ:L2.St}{τ:AK}{R:Nat->Rg}{B:Rg}
theorem StR.dom(h:StR K F H σ τ R)(ha:R i a):F a=none/\∃u,H a=some u:=by
 obtain⟨t,e⟩:=h.out i a ha;obtain⟨x,_,r⟩:=h.rep i t e;exact r.dom ha
theorem StR.ext(h:StR K F H σ τ R)(a:Ext F H F1 H1 B):StR K F1 H1 σ τ R where
 fh:=a.fh
 len:=h.len
 rep:=λi t e=>by
  obtain⟨x,e1,r⟩:=h.rep i t e;exact⟨x,e1,r.ext a⟩
 out:=h.out
 dis:=h.dis
theorem StR.apart(h:StR K F H σ τ R)(a:Ext F H F1 H1 B)(hb:B b)(i):¬ R i b:=λz=>by
 obtain⟨f,u,e⟩:=h.dom z;rw[a.nb b hb]at e;cases e
end
def YU:Key->PyData
 |.inl i=>.int i|.inr x=>.str x
mutual
def T.data:T->PyData
 |.non=>.none|.bl b=>.bool b|.int i=>.int i|.str x=>.str x|.nd _ .lst l=>.list (Bi l)|.nd _ .rl l=>.list (Bi l)|.nd _ .tup l=>.tuple (Bi l)|.nd _ .rt l=>.tuple (Bi l)|.nd _ (.pin _) l=>.list (Bi l)|.dic ks l=>.dict ((ks.map PyData.int).zip (Bi l))|.pdc ks l=>.dict ((ks.map PyData.int).zip (Bi l))|.odc ks l=>.dict ((ks.map PyData.int).zip (Bi l))|.obj _ _=>.none|.oob _ _ _ _=>.none|.osd _ _=>.none
def Bi:List T->List PyData
 |[]=>[]|t::r=>t.data::Bi r
end
mutual
def T.pln:T->Bool
 |.nd _ _ l=>EY l|.dic _ l=>EY l|.pdc _ l=>EY l|.odc _ l=>EY l|.obj _ _=>false|.oob _ _ _ _=>false|.osd _ _=>false|.non=>true|.bl _=>true|.int _=>true|.str _=>true
def EY:List T->Bool
 |[]=>true|t::r=>t.pln && EY r
end
theorem Er:∀{l},EY l=true->∀{i:Nat} {t},l[i]?=some t->t.pln=true
 |[],_,i,t,e=>by simp at e|a::r,h,i,t,e=>by
  rw[EY,Ê]at h;cases i with
  |zero=>simp at e;subst e;exact h.1|succ i=>exact Er h.2 (by simpa using e)
theorem V4:∀{l} {us},l.length=us.length->(∀(i:Nat) (t) (u),l[i]?=some t->us[i]?=some u->∃as,Reads h u t.data as)->∃as,ReadsAll h us (Bi l) as
 |[],[],_,_=>⟨_,.nil⟩|[],_::_,e,_=>by simp at e|_::_,[],e,_=>by simp at e|t::l,u::us,e,f=>by
  obtain⟨a1,r1⟩:=f 0 t u rfl rfl;obtain⟨a2,r2⟩:=V4 (by simpa using e) λi t' u' h1 h2=>f (i+1) t' u' (by simpa using h1) (by simpa using h2)
  exact⟨_,.cons r1 r2⟩
theorem QA(e:(DZ P w).is k v=true):Reads h v (YU k) []:=by
 rcases Ez (e) with ⟨i,t,rfl,rfl⟩|⟨x,t,rfl,rfl⟩
 .exact .int i t
 .exact .str x t
theorem LY:∀(ks) (xs) (l) (vs),KV (MG ks xs) vs->l.length=xs.length->ks.length=xs.length->(∀(i:Nat) (t) (x),l[i]?=some t->xs[i]?=some x->∀{u},Ab x u->∃as,Reads h u t.data as) ->
  ∃bs,PyProof.V.PairsRead h YU vs ((ks.map PyData.int).zip (Bi l)) bs
 |[],xs,l,vs,r,_,_,_=>by
  have r' :=(r);cases r';exact⟨_,.nil⟩
 |k::ks,[],l,vs,r,_,ek,_=>by simp at ek|k::ks,x::xs,[],vs,r,e,_,_=>by simp at e|k::ks,x::xs,t::l,vs,r,e,ek,f=>by
  have r' :=r;cases r' with
  |@cons _ q _ qs hd tl=>
   obtain⟨a1,r1⟩:=f 0 t x rfl rfl hd.2;obtain⟨a2,r2⟩:=LY ks xs l qs tl (by simpa using e) (by grind) λi t' x' h1 h2=>f (i+1) t' x' (by grind) (by grind)
   obtain⟨q1,q2⟩:=q;cases (hd.1);exact⟨_,.cons r1 r2⟩
section
variable {X:Cx}{pz:List (Addr×Obj)}{σ:L2.St}{F H:Hp}{s:Shared}
theorem GN(I:Inv X pz σ H s)(fh:Af F H)(h:Rp X.K F H t x A)(hpl:t.pln=true):∀{u},Ab x u->∃as,Reads s.heap u t.data as:=by
 have kids:∀{l } {xs } {its },Al xs its->l.length=xs.length->(∀(i:Nat) (t ) (x ),l[i]?=some t->xs[i]?=some x->∀{u },Ab x u->∃as,Reads s.heap u t.data as)->∃as,ReadsAll s.heap its (Bi l) as:=by
  intro l xs its r e ih;refine V4 (e.trans r.length) λi t u h1 h2=>?_
  have hi:i<xs.length:=by
   have:=(Õ.mp h1).1
   omega
  obtain⟨u',e1,r1⟩:=r.get (Â hi);rw[h2]at e1;cases e1;exact ih i t _ h1 (Â hi) r1
 have lsts:∀{p } {l } {xs },Am X.K H p xs->l.length=xs.length->(∀(i:Nat) (t ) (x ),l[i]?=some t->xs[i]?=some x->∀{u },Ab x u->∃as,Reads s.heap u t.data as)->∃as,Reads s.heap (.ref p) (.list (Bi l)) as:=by
  intro p l xs hq e ih;obtain⟨its,r,⟨o,n,e1,e2,e3,e4⟩,_⟩:=I.list hq;obtain⟨as,ra⟩:=kids r e ih;exact⟨_,.list e1 e2 e4 (by simpa using ra)⟩
 have tups:∀{p } {l } {xs },CV X.K H p xs->l.length=xs.length->(∀(i:Nat) (t ) (x ),l[i]?=some t->xs[i]?=some x->∀{u },Ab x u->∃as,Reads s.heap u t.data as)->∃as,Reads s.heap (.ref p) (.tuple (Bi l)) as:=by
  intro p l xs hq e ih;obtain⟨its,r,⟨o,e1,e2,n,e4⟩,_⟩:=I.tuple hq;obtain⟨as,ra⟩:=kids r e ih;exact⟨_,.tuple e1 e2 e4 (by simpa using ra)⟩
 induction h with
 |non=>intro u r;cases r;exact⟨_,.none⟩|bl b=>intro u r;cases r;exact⟨_,.bool b⟩|int i=>intro u r;obtain⟨t,rfl⟩:=r;exact⟨_,.int i t⟩
 |str y=>intro u r;obtain⟨t,rfl⟩:=r;exact⟨_,.str y t⟩
 |@shr k p xs l h e c ih=>
  intro u r;cases r;cases k with
  |lst=>exact lsts (Am.of (fh _ _ h)) e λi t x h1 h2=>ih i t x h1 h2 (Er hpl h1)|rl=>exact lsts (fh.seq h.l) e λi t x h1 h2=>ih i t x h1 h2 (Er hpl h1)|tup=>exact tups (CV.of (fh _ _ h)) e λi t x h1 h2=>ih i t x h1 h2 (Er hpl h1)|rt=>exact tups (GK fh h) e λi t x h1 h2=>ih i t x h1 h2 (Er hpl h1)|pin q=>exact lsts (Am.of (fh _ _ h)) e λi t x h1 h2=>ih i t x h1 h2 (Er hpl h1)
 |@dic p ob ks xs l h e ek c ih=>
  intro u r;cases r;obtain⟨ho,z,hd,vs,rel,dd⟩:=(I.hok p _ (fh _ _ h));obtain⟨bs,pr⟩:=LY ks xs l vs rel e ek λi t x h1 h2=>ih i t x h1 h2 (Er hpl h1)
  exact⟨_,ű (λk v q=>QA q) dd pr⟩
 |@pdc p ks xs l h e ek c ih=>
  intro u r;cases r;obtain⟨z,hd,vs,rel,dd⟩:=(I.hok p _ (fh _ _ h));obtain⟨bs,pr⟩:=LY ks xs l vs rel e ek λi t x h1 h2=>ih i t x h1 h2 (Er hpl h1)
  exact⟨_,ű (λk v q=>QA q) dd pr⟩
 |@odc p ks xs l f h e ek c ih=>
  intro u r;cases r;obtain⟨z,hd,vs,rel,dd⟩:=(I.hok p _ h);obtain⟨bs,pr⟩:=LY ks xs l vs rel e ek λi t x h1 h2=>ih i t x h1 h2 (Er hpl h1)
  exact⟨_,ű (λk v q=>QA q) dd pr⟩
 |obj h e c ih=>cases hpl|oob R f h e c d dp o ih=>cases hpl|osd R f h e ek c d dp o ih=>cases hpl|@own k0 p xs l hk R f h e c d dp o ih=>
  intro u r;cases r;cases k0 with
  |lst=>exact lsts (Am.of h) e λi t x h1 h2=>ih i t x h1 h2 (Er hpl h1)|pin q=>exact lsts (Am.of h) e λi t x h1 h2=>ih i t x h1 h2 (Er hpl h1)|_=>exact hk.elim
end
noncomputable def ES(t:T):Bool:=t.pln && t.data.canLay0
def Jm(t u:T):Bool:=PyData.eqv t.data u.data
def Hg(t u:T):Bool:=ES t && ES u && decide (min t.data.depth u.data.depth<=60)
def Be(t u:T):kH:=if Hg t u then some (.bl (Jm t u)) else none
def Bz(t u:T):kH:=if Hg t u then some (.bl (!Jm t u)) else none
def G9(t:T)(l:kL):Bool:=ES t && (EY l && PyData.canLayAll0 (Bi l)) && decide (min (PyData.depthAll (Bi l)) t.data.depth<=60)
def Je(t:T)(l:kL):Bool:=(Bi l).any λy=>PyData.eqv y t.data
def Yb(t:T)(y:Str):kH:=match t with
 |.str x=>some (.bl (!(Builtin.Str.occurrences y x 0 y.length 1).isEmpty))|_=>none
def CM(t c:T):kH:=match c with
 |.nd _ _ l=>if G9 t l then some (.bl (Je t l)) else none
 |.str y=>Yb t y|_=>none
def HR(t c:T):kH:=match c with
 |.nd _ _ l=>if G9 t l then some (.bl (!Je t l)) else none
 |_=>none
def Dg(K:k6)(F H:Hp)(v:T)(Q:VK):Prop:=∀F' H' z C,Ext F H F' H' C->Rp K F' H' v z C->Q z H'
def By(K:k6)(g:T->T->kH):R2:=λx y H Q=>∃F t u v,Af F H/\Rp K F F t x R0/\Rp K F F u y R0/\g t u=some v/\Dg K F H v Q
def LV(K:k6)(g:T->kH):V->Hp->VK->Prop:=λx H Q=>∃F t v,Af F H/\Rp K F F t x R0/\g t=some v/\Dg K F H v Q
def EX(K:k6)(g:kL->kH):kK->Hp->VK->Prop:=λxs H Q=>∃F ts v,Af F H/\Ar K F ts xs/\g ts=some v/\Dg K F H v Q
section
variable {K:k6}{F H:Hp}{Q:VK}
theorem Dg.int(q:Dg K F H (.int i) Q)(s:Af F H):Q (.int i) H:=q F H _ _ (Ext.refl s) (.int i)
theorem Dg.bl(q:Dg K F H (.bl b) Q)(s:Af F H):Q (.bl b) H:=q F H _ _ (Ext.refl s) (.bl b)
theorem Dg.str(q:Dg K F H (.str x) Q)(s:Af F H):Q (.str x) H:=q F H _ _ (Ext.refl s) (.str x)
theorem Dg.list   (q:Dg K F H (.own l) Q)(s:Af F H)(r:Ar K F l xs)  (hp:H p=none):Q (.ref p) (upd H p (.lst xs)):=by
 refine q F (upd H p (.lst xs)) (.ref p) _ ((Ext.newO s hp).mono ?_) (.own (k:=.lst) trivial (λ_=>R0) (GY s hp) Bj r.1 (λi t x h1 h2=>?_) (λ_ _ _ _ z=>z.elim) (λ_ z=>z) (λ_ _ z=>z.elim))
 .rintro a (z|⟨i,z⟩)
  .exact z
  .exact z.elim
 .exact(r.2 i t x h1 h2).any
theorem Dg.tuple(q:Dg K F H (.tup l) Q)(s:Af F H)(r:Ar K F l xs)(hp:H p=none):Q (.ref p) (upd H p (.tup xs)):=by
 have e:=Ext.new (o:=.tup xs) s hp;exact q _ _ _ _ e (Ar.of_node Bj (r.same e.ff))
end
def Ec(i:Int):Bool:=@decide (-(2 ^ 64)<i/\i<2 ^ 64) (Classical.propDecidable _)
def C7(i:Int):Bool:=@decide (-(10 ^ 70)<i/\i<10 ^ 70) (Classical.propDecidable _)
def YX(k:Int):Bool:=@decide (k<2 ^ 63/\-(2 ^ 63)<=k) (Classical.propDecidable _)
def CY(i j:Int):Bool:=Ec i || Ec j || (C7 i && C7 j)
noncomputable def Bh:Nat:=16777216
def Bb:T->T->kH
 |.int i,.int j=>some (.int (i+j))|.str x,.str y=>if x.length+y.length<=Bh then some (.str (x++y)) else none
 |.nd _ .lst l,.nd _ .lst m=>if l.length+m.length<=Bh then some (.own (l++m)) else none
 |_,_=>none
def IE:T->T->kH
 |.int i,.int j=>some (.int (i - j))|_,_=>none
def Bg:T->T->kH
 |.int i,.int j=>if CY i j then some (.int (i * j)) else none
 |.nd _ .lst l,.int k=>if YX k=true/\l.length * k.toNat<=Bh then some (.own (List.replicate k.toNat l).flatten) else none
 |.str x,.int k=>if 0<=k/\k<=1000000/\x.length<=16 then some (.str (Txt.mul x k)) else none
 |_,_=>none
def B0:T->T->kH
 |.int i,.int j=>if j≠0 then some (.int (i.fmod j)) else none
 |_,_=>none
def C9:T->T->kH
 |.int i,.int j=>if j≠0/\C7 j then some (.int (i.fdiv j)) else none
 |_,_=>none
def GQ:T->T->kH
 |.int i,.int j=>if 0<=j/\j<=1000000/\Ec i then some (.int (i ^ j.toNat)) else none
 |_,_=>none
def CI(f:Int->Int->Bool):T->T->kH
 |.int i,.int j=>some (.bl (f i j))|_,_=>none
def Ds:T->kH
 |.int i=>some (.int (-i))|_=>none
theorem OS(h:Ec i=true):-(2 ^ 64)<i/\i<2 ^ 64:=@of_decide_eq_true _ (Classical.propDecidable _) h
theorem OQ(h:C7 i=true):Sm i:=@of_decide_eq_true _ (Classical.propDecidable _) h
theorem YW(h:YX k=true):k<2 ^ 63/\-(2 ^ 63)<=k:=@of_decide_eq_true _ (Classical.propDecidable _) h
theorem Ft:Bh=sizeLine:=by rw[č];rfl
theorem LU{K}{F}:∀{l m} {xs ys},Ar K F l xs->Ar K F m ys->Ar K F (l++m) (xs++ys)
 |[],m,xs,ys,r,q=>by rw[r.inv0];exact q|t::l,m,xs,ys,r,q=>by
  obtain⟨x,xs',rfl,r1,r2⟩:=r.inv;exact .cons r1 (LU r2 q)
theorem VY{K}(r:Ar K F l xs):∀n ,Ar K F (List.replicate n l).flatten (List.replicate n xs).flatten
 |0=>.nil|n+1=>by
  exact LU r (VY r n)
section
variable {X:Cx}
theorem EN{K}(h:Rp K F H (.nd o k l) x R0):∃p xs,x=.ref p/\o=false/\Fc K F k p xs/\Ar K F l xs:=by
 generalize hA:R0=A at h;cases h with
 |shr h e c=>exact⟨_,_,rfl,rfl,h,e,λi t x h1 h2=>(hA▸c i t x h1 h2).any⟩|@own k0 p xs l hk R f h e c d dp o=>
  exfalso
  have:R0 p:=by grind
  exact this
theorem zkr:As X (binaryOp .Add) (By X.K Bb):=by
 intro pz s σ H x y v u Q I rx ry h;obtain⟨F,t1,t2,r,fh,r1,r2,e,q⟩:=h;unfold Bb at e;split at e
 .cases e;rw[r1.int_inv]at rx;rw[r2.int_inv]at ry;exact zob pz s σ H _ _ v u Q I rx ry ⟨_,_,rfl,rfl,q.int fh⟩
 .split at e
  .cases e;rename_i hz;rw[r1.str_inv]at rx;rw[r2.str_inv]at ry;exact ze2 pz s σ H _ _ v u Q I rx ry ⟨_,_,rfl,rfl,by rw[<- Ft];exact hz,q.str fh⟩
  .cases e
 .split at e
  .cases e;rename_i hz;obtain⟨p,xs,rfl,rfl,n1,k1⟩:=EN r1;obtain⟨p2,ys,rfl,rfl,n2,k2⟩:=EN r2;refine zoa pz s σ H _ _ v u Q I rx ry ⟨p,p2,xs,ys,rfl,rfl,fh _ _ n1,fh _ _ n2,?_,λa ha=>q.list fh (LU k1 k2) ha⟩
   rw[<- k1.1,<- k2.1,<- Ft];exact hz
  .cases e
 .cases e
theorem JY(ho:As X f (rI C g))(hg:∀t u v,gT t u=some v->∃i j,t=.int i/\u=.int j/\C i j/\((∃k,v=.int k/\g i j=.int k)\/∃k,v=.bl k/\g i j=.bl k)):As X f (By X.K gT):=by
 intro pz s σ H x y v u Q I rx ry h;obtain⟨F,t1,t2,r,fh,r1,r2,e,q⟩:=h;obtain⟨i,j,rfl,rfl,hc,hv⟩:=hg _ _ _ e;rw[r1.int_inv]at rx;rw[r2.int_inv]at ry;refine ho pz s σ H _ _ v u Q I rx ry ⟨i,j,rfl,rfl,hc,?_⟩
 rcases hv with ⟨k,rfl,ek⟩|⟨k,rfl,ek⟩
 .rw[ek];exact q.int fh
 .rw[ek];exact q.bl fh
theorem As.weak(h:As X f r)(w:∀x y H Q,r' x y H Q->r x y H Q):As X f r':=λpz s σ H x y v u Q I rx ry q=>h pz s σ H x y v u Q I rx ry (w x y H Q q)
theorem V3(h:As X f (FR g)):As X f (rI (λ_ _=>True) g):=As.weak h λx y H Q ⟨i,j,a,b,_,q⟩=>⟨i,j,a,b,q⟩
theorem zkl:As X (binaryOp .Sub) (By X.K IE):=JY (V3 zo5) λt u v h=>by
 unfold IE at h
 grind
theorem zko:As X (binaryOp .Mod) (By X.K B0):=JY zkk λt u v h=>by
 unfold B0 at h
 grind
theorem zhn:As X (binaryOp .FloorDiv) (By X.K C9):=JY zhm λt u v h=>by
 unfold C9 at h;split at h
 .split at h
  .cases h;rename_i hc;exact⟨_,_,rfl,rfl,⟨hc.1,OQ hc.2⟩,.inl ⟨_,rfl,rfl⟩⟩
  .cases h
 .cases h
theorem zkm:As X (binaryOp .Pow) (By X.K GQ):=JY zo7 λt u v h=>by
 unfold GQ at h;split at h
 .split at h
  .cases h;rename_i hc;have q:=OS hc.2.2;exact⟨_,_,rfl,rfl,⟨hc.1,hc.2.1,by omega⟩,.inl ⟨_,rfl,rfl⟩⟩
  .cases h
 .cases h
theorem L3(ho:As X (compareOp op) (FR λi j=>.bl (g i j))):As X (compareOp op) (By X.K (CI g)):=JY (V3 ho) λt u v h=>by
 unfold CI at h
 grind
theorem zkn:As X (binaryOp .Mult) (By X.K Bg):=by
 intro pz s σ H x y v u Q I rx ry h;obtain⟨F,t1,t2,r,fh,r1,r2,e,q⟩:=h;unfold Bg at e;split at e
 .rename_i i j;split at e
  .cases e;rename_i hc;rw[r1.int_inv]at rx;rw[r2.int_inv]at ry;unfold CY at hc;rw[ĝ,ĝ,Ê]at hc
   rcases hc with (hc|hc)|hc
   .exact WB pz s σ H _ _ v u Q I rx ry ⟨i,j,rfl,rfl,.inl (OS hc),q.int fh⟩
   .exact WB pz s σ H _ _ v u Q I rx ry ⟨i,j,rfl,rfl,.inr (OS hc),q.int fh⟩
   .exact zkj pz s σ H _ _ v u Q I rx ry ⟨i,j,rfl,rfl,⟨OQ hc.1,OQ hc.2⟩,q.int fh⟩
  .cases e
 .split at e
  .cases e;rename_i hc;obtain⟨p,xs,rfl,rfl,n1,k1⟩:=EN r1;rw[r2.int_inv]at ry;refine zo6 pz s σ H _ _ v u Q I rx ry ⟨p,_,xs,rfl,rfl,fh _ _ n1,(YW hc.1).2,(YW hc.1).1,?_,λa ha=>q.list fh (VY k1 _) ha⟩
   rw[<- k1.1,<- Ft];exact hc.2
  .cases e
 .split at e
  .cases e;rename_i hc;rw[r1.str_inv]at rx;rw[r2.int_inv]at ry;obtain⟨t1,rfl⟩:=rx;obtain⟨t2,rfl⟩:=ry;exact SB.mul (mulOk_of 16 1048576 hc.2.2 (by omega) (by omega) (by decide) (by decide)) λt' k=>⟨.str _,H,I.tok _,⟨_,rfl⟩,q.str fh⟩
  .cases e
 .cases e
theorem zj5:Jw X (unaryOp .USub) (LV X.K Ds):=by
 intro pz s σ H x v Q I rx h;obtain⟨F,t,r,fh,r1,e,q⟩:=h;unfold Ds at e;split at e
 .cases e;rw[r1.int_inv]at rx;exact zm7 pz s σ H _ v Q I rx ⟨_,rfl,q.int fh⟩
 .cases e
theorem aK{A:Around}(hu:A.units+64<cLine)(h:n<=60):A.units+n<cLine:=by omega
theorem WD(hu:X.A.units+64<cLine):As X (compareOp .Eq) (By X.K Be):=by
 intro pz s σ H x y v u Q I rx ry h;obtain⟨F,t1,t2,r,fh,r1,r2,e,q⟩:=h;unfold Be at e;split at e
 .cases e;rename_i hc;unfold Hg ES at hc;rw[Ê,Ê,Ê,Ê,ö]at hc;obtain⟨a1,q1⟩:=GN I fh (r1.any) hc.1.1.1 rx;obtain⟨a2,q2⟩:=GN I fh (r2.any) hc.1.2.1 ry;exact SeqAt.compareEq_reads q1 q2 hc.1.1.2 hc.1.2.2 (aK hu hc.2) ⟨.bl _,H,I,rfl,q.bl fh⟩
 .cases e
theorem zoe(hu:X.A.units+64<cLine):As X (compareOp .In) (By X.K CM):=by
 intro pz s σ H x y v u Q I rx ry h;obtain⟨F,t1,t2,r,fh,r1,r2,e,q⟩:=h;unfold CM at e;split at e
 .rename_i o k l;split at e
  .cases e;rename_i hc;unfold G9 ES at hc;rw[Ê,Ê,Ê,Ê,ö]at hc;obtain⟨a1,q1⟩:=GN I fh (r1.any) hc.1.1.1 rx;obtain⟨a2,q2⟩:=GN I fh (r2.any) (hc.1.2.1) ry;have hd:X.A.units+1+min (PyData.depthAll (Bi l)) t1.data.depth<cLine:=by omega
   cases k with
   |lst=>exact ŷ q2 q1 hc.1.2.2 hc.1.1.2 hd ⟨.bl _,H,I,rfl,q.bl fh⟩|rl=>exact ŷ q2 q1 hc.1.2.2 hc.1.1.2 hd ⟨.bl _,H,I,rfl,q.bl fh⟩|tup=>exact SeqAt.in_tuple_reads q2 q1 hc.1.2.2 hc.1.1.2 hd ⟨.bl _,H,I,rfl,q.bl fh⟩|rt=>exact SeqAt.in_tuple_reads q2 q1 hc.1.2.2 hc.1.1.2 hd ⟨.bl _,H,I,rfl,q.bl fh⟩|pin _=>exact ŷ q2 q1 hc.1.2.2 hc.1.1.2 hd ⟨.bl _,H,I,rfl,q.bl fh⟩
  .cases e
 .unfold Yb at e;split at e
  .cases e;rw[r1.str_inv]at rx;rw[r2.str_inv]at ry;exact zez pz s σ H _ _ v u Q I rx ry ⟨_,_,rfl,rfl,q.bl fh⟩
  .cases e
 .cases e
theorem zf0(hu:X.A.units+64<cLine):As X (compareOp .NotIn) (By X.K HR):=by
 intro pz s σ H x y v u Q I rx ry h;obtain⟨F,t1,t2,r,fh,r1,r2,e,q⟩:=h;unfold HR at e;split at e
 .rename_i o k l;split at e
  .cases e;rename_i hc;unfold G9 ES at hc;rw[Ê,Ê,Ê,Ê,ö]at hc;obtain⟨a1,q1⟩:=GN I fh (r1.any) hc.1.1.1 rx;obtain⟨a2,q2⟩:=GN I fh (r2.any) (hc.1.2.1) ry;have hd:X.A.units+1+min (PyData.depthAll (Bi l)) t1.data.depth<cLine:=by omega
   cases k with
   |lst=>exact Ų q2 q1 hc.1.2.2 hc.1.1.2 hd ⟨.bl _,H,I,rfl,q.bl fh⟩|rl=>exact Ų q2 q1 hc.1.2.2 hc.1.1.2 hd ⟨.bl _,H,I,rfl,q.bl fh⟩|tup=>exact SeqAt.notIn_tuple_reads q2 q1 hc.1.2.2 hc.1.1.2 hd ⟨.bl _,H,I,rfl,q.bl fh⟩|rt=>exact SeqAt.notIn_tuple_reads q2 q1 hc.1.2.2 hc.1.1.2 hd ⟨.bl _,H,I,rfl,q.bl fh⟩|pin _=>exact Ų q2 q1 hc.1.2.2 hc.1.1.2 hd ⟨.bl _,H,I,rfl,q.bl fh⟩
  .cases e
 .cases e
end
set_option genInjectivity true in
inductive Rs where
 |v (t:T) (b:Bool)|x (c:Str)
abbrev AI:=AK->Option Rs
set_option genInjectivity true in
inductive RsL where
 |v (ts:List T) (b:Bool)|x (c:Str)
abbrev BQ:=AK->Option RsL
def tot(R:Nat->Rg):Rg:=λa=>∃i,R i a
def EF(K:k6)(F H:Hp)(R:Nat->Rg)(v:T)(b:Bool)(x:V)(B:Rg):Prop:=match b with
 |true=>B=R0/\∃A,(∀a,A a->tot R a)/\Rp K F H v x A|false=>Rp K F H v x B
def Gz(b:Bool)(F H:Hp)(R:Nat->Rg):Hp:=match b with
 |true=>frz F H (tot R)|false=>F
section
variable {K:k6}{F H F1 H1:Hp}{σ:L2.St}{τ:AK}{R:Nat->Rg}{B:Rg}{b c:Bool}{v:T}{x:V}
theorem StR.tot(S:StR K F H σ τ R)(h:tot R a):F a=none/\∃u,H a=some u:=by
 obtain⟨i,z⟩:=h;exact S.dom z
theorem MM(S:StR K F H σ τ R):Af F (Gz b F H R):=by
 cases b with
 |true=>exact FA λa z=>(S.tot z).1|false=>exact .refl _
theorem QO(S:StR K F H σ τ R):Af (Gz b F H R) H:=by
 cases b with
 |true=>exact Ia S.fh|false=>exact S.fh
theorem zlg(S:StR K F H σ τ R)(e:Ext F H F1 H1 B)(h:b=true->c=true):Af (Gz b F H R) (Gz c F1 H1 R):=by
 have S1:=S.ext e;cases b with
 |false=>exact e.ff.trans (MM S1)|true=>
  rw[h rfl];intro a u q;show frz F1 H1 (Pu.tot R) a=some u
  by_cases z:Pu.tot R a
  .rw[Gh z];have q':frz F H (Pu.tot R) a=some u:=q;rw[Gh z]at q';exact e.hh _ _ q'
  .rw[Fy z];have q':frz F H (Pu.tot R) a=some u:=q;rw[Fy z]at q';exact e.ff _ _ q'
theorem EF.frz(S:StR K F H σ τ R)(e:Ext F H F1 H1 B)(g:EF K F1 H1 R v b x B):∃F2,Ext F H F2 H1 R0/\Af F1 F2/\Rp K (Gz b F2 H1 R) (Gz b F2 H1 R) v.share x R0:=by
 have S1:=S.ext e;cases b with
 |true=>
  obtain⟨rfl,A,hA,r⟩:=g
  exact⟨F1,e,.refl _,r.share (MM S1) λa u z q=>by
   show Pu.frz F1 H1 (Pu.tot R) a=some u;rw[Gh (hA a z)];exact q⟩
 |false=>
  have g' :=g;have n:∀a,B a->F1 a=none:=λa z=>(g'.dom z).1
  exact⟨_,e.frz n,FA n,g'.share (FA n) λa u z q=>by
   show Pu.frz F1 H1 B a=some u;rw[Gh z];exact q⟩
theorem Ext.grow(e:Ext F H F1 H1 R0)(s:Af H1 H2):Ext F H F1 H2 R0:=⟨e.hh.trans s,e.ff,e.fh.trans s,λ_ z=>z.elim,e.nf⟩
end
noncomputable def Ef(c:Str):Option Nat:=match c.cps.toList with
 |[78,111,82,117,110,n]=>some n|_=>none
noncomputable def Et(n:Nat):Str:=⟨#[78,111,82,117,110,n]⟩
def FT(c:Str):Str:=match Ef c with
 |some _=>"NoRun"|none=>c
def IK(c:Str):kK:=match Ef c with
 |some n=>[.int n]|none=>[]
def IL(c:Str):kL:=match Ef c with
 |some n=>[.int n]|none=>[]
def KU(F:Hp)(c:Str)(dx:Option Addr):Prop:=∀v∈IK c,Ij F dx v
def XE(E:XK)(ca:Str->Value)(c:Str)(F H:Hp):Prop:=∀dx,KU F c dx->E (ca (FT c)) dx H
theorem XE.plain(h:XE E ca c F H)(hc:Ef c=none):E (ca c) none H:=by
 have:=h none (by unfold KU IK;grind)
 unfold FT at this
 grind
theorem XE.any(h:XE E ca c F H)(hc:Ef c=none):XE E ca c F' H:=λdx _=>h dx (by unfold KU IK;grind)
def pM(K:k6)(E:L2.St->XK)(ca:Str->Value)(σ:L2.St)(Q:VK)(F H:Hp)(R:Nat->Rg):Option Rs->Prop
 |some (.v v b)=>∀F' H' x B,Ext F H F' H' B->EF K F' H' R v b x B->Q x H'|some (.x c)=>∀F' H',Ext F H F' H' R0->XE (E σ) ca c F' H'|none=>False
def tM(K:k6)(E:L2.St->XK)(ca:Str->Value)(m:AI):TE:=λσ H Q=>∃F τ R,StR K F H σ τ R/\pM K E ca σ Q F H R (m τ)
def pMs(K:k6)(E:L2.St->XK)(ca:Str->Value)(σ:L2.St)(Q:kK->Hp->Prop)(F H:Hp)(R:Nat->Rg):Option RsL->Prop
 |some (.v ts b)=>∀F' H' xs,Ext F H F' H' R0->Ar K (Gz b F' H' R) ts xs->Q xs H'|some (.x c)=>∀F' H',Ext F H F' H' R0->XE (E σ) ca c F' H'|none=>False
def Bx(K:k6)(E:L2.St->XK)(ca:Str->Value)(m:BQ):TA:=λσ H Q=>∃F τ R,StR K F H σ τ R/\pMs K E ca σ Q F H R (m τ)
def pMB(K:k6)(E:L2.St->XK)(ca:Str->Value)(σ:L2.St)(Q:Bool->Hp->Prop)(F H:Hp):Option Rs->Prop
 |some (.v (.bl c) _)=>∀F' H',Ext F H F' H' R0->Q c H'|some (.v _ _)=>False|some (.x c)=>∀F' H',Ext F H F' H' R0->XE (E σ) ca c F' H'|none=>False
def B5(K:k6)(E:L2.St->XK)(ca:Str->Value)(m:AI):TT:=λσ H Q=>∃F τ R,StR K F H σ τ R/\pMB K E ca σ Q F H (m τ)
noncomputable def AA(i:Nat):AI:=λτ=>match τ[i]? with
 |some (some t)=>some (.v t (!t.sh))|_=>none
noncomputable def mC(t:T):AI:=λ_=>some (.v t false)
def AE:BQ:=λ_=>some (.v [] false)
noncomputable def AB(m:AI)(ms:BQ):BQ:=λτ=>match m τ with
 |some (.v t b)=>(match ms τ with
  |some (.v ts b')=>some (.v (t.share::ts) (b || b'))|r=>r)
 |some (.x c)=>some (.x c)|none=>none
def BP(b:Bool)(v:T):Option Rs:=if b && !v.flat then none else some (.v v false)
def Bm(g:kL->kH)(ms:BQ):AI:=λτ=>match ms τ with
 |some (.v ts b)=>(match g ts with
  |some v=>BP b v|none=>none)
 |some (.x c)=>some (.x c)|none=>none
def g2(g:T->T->kH):kL->kH
 |[t,u]=>g t u|_=>none
def g1(g:T->kH):kL->kH
 |[t]=>g t|_=>none
abbrev m1(g:T->kH)(a:AI):AI:=Bm (g1 g) (AB a AE)
abbrev m2(g:T->T->kH)(a b:AI):AI:=Bm (g2 g) (AB a (AB b AE))
def Dv(c:AI)(a b:AI):AI:=λτ=>match c τ with
 |some (.v (.bl true) _)=>a τ|some (.v (.bl false) _)=>b τ|some (.x c)=>some (.x c)|_=>none
def BD(c:AI):AI:=λτ=>match c τ with
 |some (.v (.bl b) _)=>some (.v (.bl (!b)) false)|some (.x c)=>some (.x c)|_=>none
def CA(a b:AI):AI:=Dv a b (mC (.bl false))
def Bk(a b:AI):AI:=Dv a (mC (.bl true)) b
section
variable {X:Cx}{E:L2.St->XK}{ca:Str->Value}{σ:L2.St}{H:Hp}{m ma mb mc:AI}{ms:BQ}{K:k6}{a b c e:Expr}{es:kC}{pos:Pos}
theorem PE.weak(h:PE X e t)(w:∀σ H Q,t' σ H Q->t σ H Q):PE X e t':=λpz s σ H Q I q=>h pz s σ H Q I (w σ H Q q)
theorem PT.weak(h:PT X e t)(w:∀σ H Q,t' σ H Q->t σ H Q):PT X e t':=λpz s σ H Q I q=>h pz s σ H Q I (w σ H Q q)
theorem PA.weak(h:PA X es t)(w:∀σ H Q,t' σ H Q->t σ H Q):PA X es t':=λpos pz s σ H Q I q=>h pos pz s σ H Q I (w σ H Q q)
theorem tM.mono(h:tM K E ca m σ H Q)(w:∀x H',Q x H'->Q' x H'):tM K E ca m σ H Q':=by
 obtain⟨F,τ,R,S,q⟩:=h;refine⟨F,τ,R,S,?_⟩;cases hm:m τ with
 |none=>rw[hm]at q;exact q|some r=>
  rw[hm]at q;cases r with
  |v v b=>exact λF' H' x B e g=>w _ _ (q F' H' x B e g)|x c=>exact q
theorem Bx.mono(h:Bx K E ca ms σ H Q)(w:∀x H',Q x H'->Q' x H'):Bx K E ca ms σ H Q':=by
 obtain⟨F,τ,R,S,q⟩:=h;refine⟨F,τ,R,S,?_⟩;cases hm:ms τ with
 |none=>rw[hm]at q;exact q|some r=>
  rw[hm]at q;cases r with
  |v v b=>exact λF' H' x e g=>w _ _ (q F' H' x e g)|x c=>exact q
theorem HA(h:Bx K E ca AE σ H Q):Q [] H:=by
 obtain⟨F,τ,R,S,q⟩:=h;exact q F H [] (Ext.refl S.fh) .nil
theorem HB(h:Bx K E ca (AB m ms) σ H Q):tM K E ca m σ H λx H1=>Bx K E ca ms σ H1 λxs H2=>Q (x::xs) H2:=by
 obtain⟨F,τ,R,S,q⟩:=h;refine⟨F,τ,R,S,?_⟩;unfold AB at q;cases hm:m τ with
 |none=>rw[hm]at q;exact q|some r=>
  rw[hm]at q;cases r with
  |x c=>exact q|v t b=>
   intro F' H' x B e g;obtain⟨F2,e2,_,r2⟩:=EF.frz S e g;have S2:=S.ext e2;refine⟨F2,τ,R,S2,?_⟩;cases hs:ms τ with
   |none=>rw[hs]at q;exact q.elim|some r=>
    erw[hs]at q;cases r with
    |x c=>exact λF3 H3 e3=>q F3 H3 (e2.trans0 e3)|v ts b'=>
     intro F3 H3 xs e3 rs;refine q F3 H3 (x::xs) (e2.trans0 e3) ?_;refine .cons (H:=H3) ((r2.frame (zlg S2 e3 (by grind)) λa z=>z.elim)) ?_
     cases b' with
     |true=>grind|false=>
      cases b with
      |false=>exact rs|true=>exact rs.same (MM (S2.ext e3))
theorem HD(h:tM K E ca (Bm g ms) σ H Q):Bx K E ca ms σ H λxs H1=>EX K g xs H1 Q:=by
 obtain⟨F,τ,R,S,q⟩:=h;refine⟨F,τ,R,S,?_⟩;unfold Bm at q;cases hs:ms τ with
 |none=>rw[hs]at q;exact q.elim|some r=>
  erw[hs]at q;cases r with
  |x c=>exact q|v ts b=>
   intro F1 H1 xs e1 rs;have S1:=S.ext e1;cases hg:g ts with
   |none=>erw[hg]at q;exact q.elim|some v=>
    erw[hg]at q;refine⟨Gz b F1 H1 R,ts,v,QO S1,rs,hg,λF2 H2 z C e2 r2=>?_⟩
    unfold BP at q;cases b with
    |false=>exact q F2 H2 z C (e1.trans0 e2) r2|true=>
     cases hf:v.flat with
     |false=>rw[hf]at q;exact False.elim q|true=>rw[hf]at q;exact q F1 H2 z R0 (e1.grow e2.hh) (r2.flat_any hf)
theorem rTn2(h:EX K (g2 g) [x,y] H Q):By K g x y H Q:=by
 obtain⟨F,ts,v,fh,rs,e,q⟩:=h;unfold g2 at e;split at e
 .obtain⟨x1,xs1,e1,r1,rs1⟩:=rs.inv;obtain⟨x2,xs2,e2,r2,rs2⟩:=rs1.inv;cases e1;cases e2;exact⟨F,_,_,v,fh,r1,r2,e,q⟩
 .cases e
theorem rTn1(h:EX K (g1 g) [x] H Q):LV K g x H Q:=by
 obtain⟨F,ts,v,fh,rs,e,q⟩:=h;unfold g1 at e;split at e
 .obtain⟨x1,xs1,e1,r1,rs1⟩:=rs.inv;cases e1;exact⟨F,_,v,fh,r1,e,q⟩
 .cases e
theorem OA(h:tM K E ca (Bm (g2 g) (AB ma (AB mb AE))) σ H Q):ID (By K g) (tM K E ca ma) (tM K E ca mb) σ H Q:=
 (HB (HD h)).mono λx H1 h1=>(HB h1).mono λy H2 h2=>rTn2 (HA h2)
theorem zmj(h:tM K E ca (Bm (g1 g) (AB ma AE)) σ H Q):TJ (LV K g) (tM K E ca ma) σ H Q:=
 (HB (HD h)).mono λx H1 h1=>rTn1 (HA h1)
theorem zm5(h:tM K E ca (AA i) σ H Q):TH i σ H Q:=by
 obtain⟨F,τ,R,S,q⟩:=h;unfold AA at q;split at q
 .rename_i t ht;obtain⟨x,e,r⟩:=S.rep i t ht;refine⟨x,e,q F H x R0 (Ext.refl S.fh) ?_⟩;cases hs:t.sh with
  |true=>exact r.move hs (.refl _)|false=>exact⟨rfl,R i,λa z=>⟨i,z⟩,r⟩
 .exact False.elim q
theorem OY(hN:X.N[i]?=some x)(hv:EA X.env.scope x)(hd:(x == "__debug__")=false)(hcd:(x == "__classdict__")=false):PE X (.Name x pos) (tM X.K E ca (AA i)):=PE.weak (GW hN hv hd hcd) λ_ _ _ h=>zm5 h
theorem JV(h:PE X e (tC v))(r:∀F H,Rp X.K F H t v R0):PE X e (tM X.K E ca (mC t)):=PE.weak h λσ H Q h=>by
 obtain⟨F,τ,R,S,q⟩:=h;exact q F H v R0 (Ext.refl S.fh) (r _ _)
theorem V7:PA X [] (Bx X.K E ca AE):=PA.weak Es λσ H Q h=>HA h
theorem Va(ha:PE X e (tM X.K E ca m))(hr:PA X es (Bx X.K E ca ms))(hs:starEach (e::es) X.env=(false,eval e X.env)::starEach es X.env):PA X (e::es) (Bx X.K E ca (AB m ms)):=
 PA.weak (EZ ha hr hs) λσ H Q h=>HB h
theorem r_bin(ho:As X (binaryOp op) (By X.K g))(ha:PE X a (tM X.K E ca ma))(hb:PE X b (tM X.K E ca mb)):PE X (.BinOp a op b pos) (tM X.K E ca (Bm (g2 g) (AB ma (AB mb AE)))):=
 PE.weak (pe_op ho ha hb) λσ H Q h=>OA h
theorem r_un(ho:Jw X (unaryOp op) (LV X.K g))(ha:PE X a (tM X.K E ca ma)):PE X (.UnaryOp op a pos) (tM X.K E ca (Bm (g1 g) (AB ma AE))):=
 PE.weak (pe_un ho ha) λσ H Q h=>zmj h
theorem r_cmp(ho:As X (compareOp op) (By X.K g))(ha:PE X a (tM X.K E ca ma))(hb:PE X b (tM X.K E ca mb))(hm:behindInMarks op b=false):PE X (.Compare a [op] [b] pos) (tM X.K E ca (Bm (g2 g) (AB ma (AB mb AE)))):=
 PE.weak (zkd ho ha hb hm) λσ H Q h=>OA h
theorem Kv  (h:B5 K E ca m σ H Q):tM K E ca m σ H λx H1=>∃k,x=.bl k/\Q k H1:=by
 obtain⟨F,τ,R,S,q⟩:=h;refine⟨F,τ,R,S,?_⟩;cases hm:m τ with
 |none=>rw[hm]at q;exact q|some r=>
  rw[hm]at q;cases r with
  |x c=>exact q|v v b=>
   cases v with
   |bl k=>
    intro F' H' x B e g
    have hx:x=.bl k:=by
     cases b with
     |true=>obtain⟨_,A,_,r⟩:=g;exact r.bl_inv
     |false=>exact(g).bl_inv
    exact⟨k,hx,q F' H' (e.mono λ_ z=>z.elim)⟩
   |_=>exact q.elim
theorem zn6(ho:As X (compareOp op) (By X.K g))(ha:PE X a (tM X.K E ca ma))(hb:PE X b (tM X.K E ca mb))(hm:behindInMarks op b=false):PT X (.Compare a [op] [b] pos) (B5 X.K E ca (Bm (g2 g) (AB ma (AB mb AE)))):=
 PT.weak (zk0 ho ha hb hm) λσ H Q h=>OA (Kv h)
theorem OZ(h:PE X e (tM X.K E ca m))(he:∀whole,isTrue e X.env whole=(do let v <- whole;standAt e.pos;holding [v] (truthy v))):PT X e (B5 X.K E ca m):=PT.weak (zni h he) λσ H Q h=>Kv h
theorem T6  (h:B5 K E ca (Dv mc ma mb) σ H Q):B5 K E ca mc σ H λk H1=>if k=true then B5 K E ca ma σ H1 Q else B5 K E ca mb σ H1 Q:=by
 obtain⟨F,τ,R,S,q⟩:=h;refine⟨F,τ,R,S,?_⟩;unfold Dv at q;cases hm:mc τ with
 |none=>rw[hm]at q;exact q.elim|some r=>
  erw[hm]at q;cases r with
  |x c=>exact q|v v b=>
   cases v with
   |bl k=>
    intro F1 H1 e1;have S1:=S.ext e1
    have key:∀{mm },(match mm τ with
      |some (.v (.bl c) _)=>∀F' H',Ext F H F' H' R0->Q c H'|some (.v _ _)=>False|some (.x c)=>∀F' H',Ext F H F' H' R0->XE (E σ) ca c F' H'|none=>False)->B5 K E ca mm σ H1 Q:=λ{mm} q=>by
     refine⟨F1,τ,R,S1,?_⟩;cases hr:mm τ with
     |none=>grind|some r=>
      erw[hr]at q;cases r with
      |x c=>exact λF' H' e=>q F' H' (e1.trans0 e)|v v b=>
       cases v with
       |bl k=>exact λF' H' e=>q F' H' (e1.trans0 e)|_=>exact q.elim
    cases k with
    |true=>exact J8 (key q)|false=>exact J9 (key q)
   |_=>exact q.elim
theorem T3(h:tM K E ca (Dv mc ma mb) σ H Q):B5 K E ca mc σ H λk H1=>if k=true then tM K E ca ma σ H1 Q else tM K E ca mb σ H1 Q:=by
 obtain⟨F,τ,R,S,q⟩:=h;refine⟨F,τ,R,S,?_⟩;unfold Dv at q;cases hm:mc τ with
 |none=>rw[hm]at q;exact q.elim|some r=>
  erw[hm]at q;cases r with
  |x c=>exact q|v v b=>
   cases v with
   |bl k=>
    intro F1 H1 e1;have S1:=S.ext e1
    have key:∀{mm },(match mm τ with
      |some (.v v b)=>∀F' H' x B,Ext F H F' H' B->EF K F' H' R v b x B->Q x H'|some (.x c)=>∀F' H',Ext F H F' H' R0->XE (E σ) ca c F' H'|none=>False)->tM K E ca mm σ H1 Q:=λ{mm} q=>by
     refine⟨F1,τ,R,S1,?_⟩;cases hr:mm τ with
     |none=>grind|some r=>
      erw[hr]at q;cases r with
      |x c=>exact λF' H' e=>q F' H' (e1.trans0 e)|v v b=>exact λF' H' x B e g=>q F' H' x B (e1.trans0 e) g
    cases k with
    |true=>exact J8 (key q)|false=>exact J9 (key q)
   |_=>exact q.elim
theorem r_ife(hc:PT X c (B5 X.K E ca mc))(ha:PE X a (tM X.K E ca ma))(hb:PE X b (tM X.K E ca mb)):PE X (.IfExp c a b pos) (tM X.K E ca (Dv mc ma mb)):=PE.weak (zhh hc ha hb) λσ H Q h=>T3 h
theorem zj9(h:B5 K E ca (BD mc) σ H Q):TR (B5 K E ca mc) σ H Q:=by
 obtain⟨F,τ,R,S,q⟩:=h;refine⟨F,τ,R,S,?_⟩;unfold BD at q;cases hm:mc τ with
 |none=>rw[hm]at q;exact q.elim|some r=>
  erw[hm]at q;cases r with
  |x c=>exact q|v v b=>
   cases v with
   |bl k=>exact q|_=>exact q.elim
theorem zn5(hc:PT X c (B5 X.K E ca mc)):PT X (.UnaryOp .Not c pos) (B5 X.K E ca (BD mc)):=PT.weak (znj hc) λσ H Q h=>zj9 h
theorem zmk(h:tM K E ca (BD mc) σ H Q):TQ (tM K E ca mc) σ H Q:=by
 obtain⟨F,τ,R,S,q⟩:=h;refine⟨F,τ,R,S,?_⟩;unfold BD at q;cases hm:mc τ with
 |none=>rw[hm]at q;exact q.elim|some r=>
  erw[hm]at q;cases r with
  |x c=>exact q|v v b=>
   cases v with
   |bl k=>
    intro F' H' x B e g
    have hx:x=.bl k:=by
     cases b with
     |true=>obtain⟨_,A,_,r⟩:=g;exact r.bl_inv
     |false=>exact(g).bl_inv
    exact⟨k,hx,q F' H' _ R0 (e.mono λ_ z=>z.elim) (.bl _)⟩
   |_=>exact q.elim
theorem r_not(ha:PE X a (tM X.K E ca ma)):PE X (.UnaryOp .Not a pos) (tM X.K E ca (BD ma)):=PE.weak (znz ha) λσ H Q h=>zmk h
theorem TZ(h:tM K E ca (Dv mc ma mb) σ H Q):tM K E ca mc σ H λx H1=>∃k,x=.bl k/\if k=true then tM K E ca ma σ H1 Q else tM K E ca mb σ H1 Q:=Kv (T3 h)
theorem T5(r:∀F H,Rp K F H t v R0)(h:tM K E ca (mC t) σ H Q):Q v H:=by
 obtain⟨F,τ,R,S,q⟩:=h;exact q F H v R0 (Ext.refl S.fh) (r _ _)
theorem r_and(ha:PE X a (tM X.K E ca ma))(hb:PE X (.BoolOp .And (b::rest) pos) (tM X.K E ca mb)):PE X (.BoolOp .And (a::b::rest) pos) (tM X.K E ca (CA ma mb)):=
 PE.weak (zo3 ha hb) λσ H Q h=>(TZ h).mono λx H1 ⟨k,e,q⟩=>⟨k,e,by
  cases k with
  |true=>exact q|false=>exact T5 (λ_ _=>.bl _) q⟩
theorem r_or(ha:PE X a (tM X.K E ca ma))(hb:PE X (.BoolOp .Or (b::rest) pos) (tM X.K E ca mb)):PE X (.BoolOp .Or (a::b::rest) pos) (tM X.K E ca (Bk ma mb)):=
 PE.weak (pe_or ha hb) λσ H Q h=>(TZ h).mono λx H1 ⟨k,e,q⟩=>⟨k,e,by
  cases k with
  |true=>exact T5 (λ_ _=>.bl _) q|false=>exact q⟩
theorem r_one(ha:PE X a (tM X.K E ca ma)):PE X (.BoolOp op [a] pos) (tM X.K E ca ma):=zny ha
theorem B5.mono(h:B5 K E ca m σ H Q)(w:∀x H',Q x H'->Q' x H'):B5 K E ca m σ H Q':=by
 obtain⟨F,τ,R,S,q⟩:=h;refine⟨F,τ,R,S,?_⟩;cases hm:m τ with
 |none=>rw[hm]at q;exact q|some r=>
  rw[hm]at q;cases r with
  |v v b=>
   cases v with
   |bl k=>exact λF' H' e=>w _ _ (q F' H' e)|_=>exact q.elim
  |x c=>exact q
theorem OB(h:B5 K E ca (mC (.bl k)) σ H Q):Q k H:=by
 obtain⟨F,τ,R,S,q⟩:=h;exact q F H (Ext.refl S.fh)
theorem PW.weak(h:PW X e t)(w:∀σ H Q,t' σ H Q->t σ H Q):PW X e t':=λwh pz s σ H Q I q=>h wh pz s σ H Q I (w σ H Q q)
theorem zn4(ha:PT X a (B5 X.K E ca ma))(hb:PW X (.BoolOp .And (b::rest) pos) (B5 X.K E ca mb)):PW X (.BoolOp .And (a::b::rest) pos) (B5 X.K E ca (CA ma mb)):=
 PW.weak (znh ha hb) λσ H Q h=>(T6 h).mono λk H1 q=>by
  cases k with
  |true=>exact q|false=>exact OB q
theorem r_wor(ha:PT X a (B5 X.K E ca ma))(hb:PW X (.BoolOp .Or (b::rest) pos) (B5 X.K E ca mb)):PW X (.BoolOp .Or (a::b::rest) pos) (B5 X.K E ca (Bk ma mb)):=
 PW.weak (pw_or ha hb) λσ H Q h=>(T6 h).mono λk H1 q=>by
  cases k with
  |true=>exact OB q|false=>exact q
theorem zjr(ha:PT X a (B5 X.K E ca ma)):PW X (.BoolOp .And [a] pos) (B5 X.K E ca ma):=zjx ha
theorem zjq(ha:PT X a (B5 X.K E ca ma)):PW X (.BoolOp .Or [a] pos) (B5 X.K E ca ma):=zng ha
end
section
variable {X:Cx}{pz:List (Addr×Obj)}{σ:L2.St}{H:Hp}{s:Shared}{h':Heap}
theorem Gv{ch:List Addr}(I:Inv X pz σ H s)(k:∀b o,b∉ch->s.heap.get? b=some o->h'.get? b=some o)(f:∀b∈ch,Cp X pz H b):Inv X pz σ H { s with heap:=h',toks:=t'}:=by
 have nit:∀b u,H b=some u->b∉ch:=λb u e z=>by rw[(f b z).1]at e;cases e
 refine I.step (λb hb=>?_) (λb o _ _ hc e _=>k b o hc e) (λb o _ _ hc e _=>⟨o.slots,k b o hc e⟩) (λ_ _ _ _ n=>n)
  (λb o hc e=>⟨o,k b o hc e⟩) (λ_ _ e=>e) (λ_ _ _ e=>e) (λb ps e=>⟨#[],by rw[e];simp⟩) (λm hm=>?_) (λb u e=>?_) I.bare
 .obtain⟨_,f1,f2,f3,f4,f5⟩:=f b hb
  grind
 .obtain⟨o,es,ep,ho,r⟩:=hm;exact⟨o,es,ep,k _ o (λz=>(f _ z).2.1 rfl) ho,r⟩
 .refine(I.hok b u e).stay (λc v hc q=>k c v ?_ q) (λ_ q=>q) λ_ _ q=>q
  grind
theorem Sy{ch:List Addr}{p:Addr}(I:Inv X pz σ H s)(k:∀b o,b∉ch->s.heap.get? b=some o->h'.get? b=some o)(f:∀b∈ch,Cp X pz H b)(hp:s.heap.objs.size<=p)(new:Cf X.prog X.w (upd H p o) h' p o) :
  Inv X pz σ (upd H p o) { s with heap:=h',toks:=t' }:=by
 have hn :=I.hok.fresh hp;have nit:∀b u,H b=some u->b∉ch:=λb u e z=>by rw[(f b z).1]at e;cases e
 have old:∀b ob,s.heap.get? b=some ob->b≠p:=λb ob e z=>by
  subst z;exact absurd (Æ e) (Nat.not_lt.mpr hp)
 refine I.step (λb hb=>?_) (λb o _ _ hc e _=>k b o hc e) (λb o _ _ hc e _=>⟨o.slots,k b o hc e⟩) (λb ob hc e n=>by rw[Ag (old b ob e)];exact n)
  (λb o hc e=>⟨o,k b o hc e⟩) (λb xs e=>by rw[Ag (Bt e hn)];exact e) (λb o u e=>by rw[Ag (Bt e hn)];exact e) (λb ps e=>⟨#[],by rw[Ag (Bt e hn),e];simp⟩) (λm hm=>?_) (λb u e=>?_) I.bare
 .obtain⟨_,f1,f2,f3,f4,f5⟩:=f b hb;exact⟨f3,f1,f4,f5⟩
 .obtain⟨o,es,ep,ho,r⟩:=hm;exact⟨o,es,ep,k _ o (λz=>(f _ z).2.1 rfl) ho,r⟩
 .by_cases hb:b=p
  .subst hb;rw[Bj]at e;cases e;exact new
  .rw[Ag hb]at e;refine(I.hok b u e).stay (λc v hc q=>k c v ?_ q) (λc q=>by rw[Ag (Bt q hn)];exact q) λc xs q=>by rw[Ag (Bt q hn)];exact q
   grind
theorem Yp(f:Cp X pz H b)(h:b≠p):Cp X pz (upd H p o) b:=⟨by rw[Ag h];exact f.1,f.2⟩
end
def NS(K:k6)(k:Nat)(l:Addr):It:=
 ⟨λi H=>∃xs x,Am K H l xs/\xs[i]?=some x,λi H x H'=>∃p y,x=.ref p/\H p=none/\H'=upd H p (.tup [.int ((k+i:Nat):Int),y])/\∀xs,Am K H l xs->xs[i]?=some y,λi H=>∃xs,Am K H l xs/\xs.length<=i⟩
theorem drw{St}(D:Draws P w A it fp n Q St)(k:Nat):Draws P w A it fp (k+n) (λj x=>∃i,j=k+i/\Q i x) (λj h=>∃i,j=k+i/\St i h) where
 live:=λ_ h ⟨i,_,st⟩=>D.live i h st
 frame:=λ_ h h' ⟨i,e,st⟩ c=>⟨i,e,D.frame i h h' st c⟩
 item:=λj s R E hj ⟨i,e,st⟩ hQ=>D.item i s R E (by omega) st λx h' tk q st' sb=>hQ x h' tk ⟨i,e,q⟩ ⟨i+1,by omega,st'⟩ sb
 done:=λs R E ⟨i,e,st⟩ hE=>D.done s R E (by grind) hE
theorem zlr(he:IsEnum h e it i old)(hi:h.IsListIter it l j)(hl:h.IsList l its):l≠it/\l≠e:=by
 obtain⟨o,h1,c1,_⟩:=hl;obtain⟨o2,h2,c2,_⟩:=hi
 grind
theorem drw0       (hh:A.handled=none)(hi:its[i]?=none):Draws P w A it [it,l] i (λ_ _=>True) (λj h=>j=i/\h.IsListIter it l i/\h.IsList l its) where
 live:=λ_ _ ⟨_,⟨o,ho,_⟩,_⟩=>⟨o,ho⟩
 frame:=λ_ _ _ ⟨e,a,b⟩ c=>⟨e,a.at λo q=>c it (by simp) o q,b.at λo q=>c l (by simp) o q⟩
 item:=λj _ _ _ hj ⟨e,_⟩=>absurd hj (by omega)
 done:=λ_ _ _ ⟨_,a,b⟩ hE=>wpAny_nextOf_list_end hh a b hi hE
theorem Sz{K}(k)(l e it)(hei:e≠it) :
  Turn P w K (.Tuple elts kk tpos) (NS K k l) [e,it] e (λi h=>(∃old,IsEnum h e it (k+i:Nat) old)/\h.IsListIter it l i) where
 mem:=by simp
 obj:=λi h st b hb=>by
  obtain⟨⟨old,he⟩,o,hi,hc,hd⟩:=st;obtain rfl|hb:=Ï.mp hb
  .exact⟨_,he,λv z=>by
    have z' :=z;cases z'⟩
  .have q :=by simpa using hb
   subst q;exact⟨o,hi,λv z=>by rw[hd]at z;cases z⟩
 keep:=λi h h' st k=>by
  obtain⟨⟨old,he⟩,hi⟩:=st;exact⟨⟨old,k e (by simp) _ he⟩,hi.at λo q=>k it (by simp) o q⟩
 item:=by
  intro X hP hw hK hc i pz s σ H E I hf st hg;subst hP hw hK;obtain⟨⟨old,he⟩,hit⟩:=st;obtain⟨xs,x,hq,hx⟩:=hg;obtain⟨its,rv,p,hz⟩:=I.list hq;obtain⟨u,hu,ru⟩:=rv.get hx;have elt :=Æ he;have ilt:it<s.heap.objs.size:=by obtain⟨o,q,_⟩:=hit;exact Æ q
  have hn :=I.hok.fresh (È _);obtain⟨n1,n2⟩:=zlr he hit p.isList;have hlt:i<its.toArray.size:=by simpa using (Õ.mp hu).1
  refine wpAny_pyNext_enum_itemD (drw (Draws.list (A:=X.A.in1) (I.ok.hd hc) it l n1 _) k) he ⟨i,rfl,hit,p.isList⟩ (by omega) hei (by simp[hei,Ð n2]) λx' h' tk hx' ho hit' hT hsz hk=>?_
  obtain⟨i',e1,hx'⟩:=hx';have e1:i'=i:=by omega
  subst e1
  have e2 :=by
   rw[List.getElem?_toArray,hu]at hx';exact(ì hx').symm
  subst e2;obtain⟨i2,e2,hit',_⟩:=hit';have e2:i2=i'+1:=by omega
  subst e2
  have I1:Inv X pz σ (upd H s.heap.objs.size (.tup [.int (k+i'),x])) { s with heap:=h',toks:=tk+1}:=by
   refine Sy I (λb o hb q=>hk b o (λz=>hb (by simp[z])) (λz=>hb (by simp[z])) q) hf (È _) ?_
   exact⟨by erw[Ý,å];rw[č];decide,[.int (k+i') tk,x'],.cons ⟨_,rfl⟩ (.cons ru .nil),_,hT,rfl,0,rfl⟩
  have f1:∀b∈[e,it],Cp X pz (upd H s.heap.objs.size (.tup [.int (k+i'),x])) b:=λb hb=>Yp (hf b hb) (by
   obtain rfl|hb:=Ï.mp hb
   .exact Ö elt
   .have q :=by simpa using hb
    subst q;exact Ö ilt)
  refine⟨.ref s.heap.objs.size,rfl,wpAny_letOwnedTupleGo_enum ho λh2 he2 hs2=>?_⟩
  refine⟨.ref s.heap.objs.size,_,Gv (ch:=[e]) I1 (λb o hb q=>hs2.extBut b o (λz=>hb (by simp[z])) q) (λb hb=>f1 b (by simp at hb;simp[hb])),rfl,⟨_,x,rfl,hn,rfl,λys hy=>by rw[I.list_inj hy hq];exact hx⟩,⟨⟨_,by simpa[Int.add_assoc] using he2⟩,hit'.extBut hs2.extBut hei.symm⟩,λb hb=>(f1 b hb).1⟩
 done:=by
  intro X hP hw hK hc i pz s σ H E I hf st hg;subst hP hw hK;obtain⟨⟨old,he⟩,hit⟩:=st;obtain⟨xs,hq,hx⟩:=hg;obtain⟨its,rv,p,hz⟩:=I.list hq;have hl:=rv.length;exact wpAny_pyNext_enum_endD (drw0 (I.ok.hd hc) (by simp;omega)) he ⟨rfl,hit,p.isList⟩ λh' eb=>⟨rfl,Gv (ch:=[it]) I (λb o hb q=>eb b o (λz=>hb (by simp[z])) q) (λb hb=>hf b (by simp at hb;simp[hb]))⟩
 self:=λ_ _ _ _ _ st h=>Ε st.1.choose_spec h
def SK(K:k6)(l1 l2:Addr):It:=
  ⟨λi H=>∃xs x ys y,Am K H l1 xs/\xs[i]?=some x/\Am K H l2 ys/\ys[i]?=some y,
   λi H x H'=>∃p y z,x=.ref p/\H p=none/\H'=upd H p (.tup [y,z])/\(∀xs,Am K H l1 xs->xs[i]?=some y)/\∀xs,Am K H l2 xs->xs[i]?=some z,
   λi H=>∃xs ys,Am K H l1 xs/\Am K H l2 ys/\(xs.length<=i\/ys.length<=i)⟩
theorem zgm{K}(z TI TO i1 i2 l1 l2)(D:ZipApart z TI TO i1 i2 l1 l2) :
  Turn P w K (.Tuple elts kk tpos) (SK K l1 l2) [z,TI,TO,i1,i2] z (λi h=>IsZip h z TI TO .none/\IsPair h TI (.ref i1) (.ref i2)/\(∃a b,IsPair h TO a b)/\h.IsListIter i1 l1 i/\h.IsListIter i2 l2 i) where
 mem:=by simp
 obj:=λi h st b hb=>by
  obtain⟨hz,hTI,⟨a,c,hTO⟩,⟨o1,e1,_,d1⟩,⟨o2,e2,_,d2⟩⟩:=st;erw[Ï,ï,þ]at hb;rcases hb with rfl|rfl|rfl|rfl|rfl
  .exact⟨_,hz,λv z=>by
    have z' :=z;cases z'⟩
  .exact⟨_,hTI,λv z=>by
    have z' :=z;cases z'⟩
  .exact⟨_,hTO,λv z=>by
    have z' :=z;cases z'⟩
  .exact⟨o1,e1,λv z=>by rw[d1]at z;cases z⟩
  .exact⟨o2,e2,λv z=>by rw[d2]at z;cases z⟩
 keep:=λi h h' st k=>by
  obtain⟨hz,hTI,⟨a,c,hTO⟩,h1,h2⟩:=st;exact⟨k z (by simp) _ hz,k TI (by simp) _ hTI,⟨a,c,k TO (by simp) _ hTO⟩,h1.at λo q=>k i1 (by simp) o q,h2.at λo q=>k i2 (by simp) o q⟩
 item:=by
  intro X hP hw hK hc i pz s σ H E I hf st hg;subst hP hw hK;obtain⟨hz,hTI,⟨a,c,hTO⟩,h1,h2⟩:=st;obtain⟨xs,x,ys,y,hq,hx,hq2,hy⟩:=hg;obtain⟨its,rv,p,hzz⟩:=I.list hq;obtain⟨its2,rv2,p2,hzz2⟩:=I.list hq2;obtain⟨u,hu,ru⟩:=rv.get hx;obtain⟨u2,hu2,ru2⟩:=rv2.get hy;have hn :=I.hok.fresh (È _)
  have lt:∀b∈[z,TI,TO,i1,i2],b≠s.heap.objs.size:=λb hb=>by
   erw[Ï,ï,þ]at hb;rcases hb with rfl|rfl|rfl|rfl|rfl
   .exact Ö (Æ hz)
   .exact Ö (Æ hTI)
   .exact Ö (Æ hTO)
   .obtain⟨o,q,_⟩:=h1;exact Ö (Æ q)
   .obtain⟨o,q,_⟩:=h2;exact Ö (Æ q)
  refine wpAny_pyNext_zip_item D hz hTI hTO h1 h2 p.isList p2.isList (by simpa using hu) (by simpa using hu2) λh' a1 a2 a3 a4 a5 a6 hk=>?_
  have I1:Inv X pz σ (upd H s.heap.objs.size (.tup [x,y])) { s with heap:=h',toks:=s.toks }:=by
   refine Sy I (λb o hb q=>hk b o (λz=>hb (by simp[z])) (λz=>hb (by simp[z])) (λz=>hb (by simp[z])) (λz=>hb (by simp[z])) q) hf (È _) ?_
   exact⟨by erw[Ý,å];rw[č];decide,[u,u2],.cons ru (.cons ru2 .nil),_,a5,rfl,0,rfl⟩
  have f1:∀b∈[z,TI,TO,i1,i2],Cp X pz (upd H s.heap.objs.size (.tup [x,y])) b:=λb hb=>Yp (hf b hb) (lt b hb)
  refine⟨.ref s.heap.objs.size,rfl,wpAny_letOwnedTupleGo_zip a1 λh3 hz3 hs3=>?_⟩
  refine⟨.ref s.heap.objs.size,_,Gv (ch:=[z]) I1 (λb o hb q=>hs3.extBut b o (λz=>hb (by simp[z])) q) (λb hb=>f1 b (by simp at hb;simp[hb])),rfl,⟨_,x,y,rfl,hn,rfl,(λzs hy'=>by rw[I.list_inj hy' hq];exact hx),λzs hy'=>by rw[I.list_inj hy' hq2];exact hy⟩,?_,λb hb=>(f1 b hb).1⟩
  exact⟨hz3,hs3.extBut _ _ D.TIz (hk _ _ D.TIz D.TITO D.TIi1 D.TIi2 hTI),⟨_,_,hs3.extBut _ _ D.TOz a2⟩,a3.extBut hs3.extBut D.i1z,a4.extBut hs3.extBut D.i2z⟩
 done:=by
  intro X hP hw hK hc i pz s σ H E I hf st hg;subst hP hw hK;obtain⟨hz,hTI,⟨a,c,hTO⟩,h1,h2⟩:=st;obtain⟨xs,ys,hq,hq2,hx⟩:=hg;obtain⟨its,rv,p,hzz⟩:=I.list hq;obtain⟨its2,rv2,p2,hzz2⟩:=I.list hq2;have hl:=rv.length;have hl2:=rv2.length;refine wpAny_pyNext_zip_end (I.ok.hd hc) D hz hTI hTO h1 h2 p.isList p2.isList ?_ λh' hk=>⟨rfl,Gv I (λb o hb q=>hk b o (λz=>hb (by simp[z])) (λz=>hb (by simp[z])) (λz=>hb (by simp[z])) (λz=>hb (by simp[z])) q) hf⟩
  rcases hx with hx|hx
  .exact .inl (by simp;omega)
  .exact .inr (by simp;omega)
 self:=λ_ _ _ _ _ st h=>wpAny_pyIter_zip st.1 h
section
variable {X:Cx}{elts:kC}{kk:Nat}{tpos:Pos}
def iEnum(K:k6)(ta:TA):TI:=λσ H R=>ta σ H λvs H1=>∃a,vs=[.ref a]/\(∃xs,Am K H1 a xs)/\R (NS K 0 a) H1
theorem zk9(hg:Gl X "enumerate")(hm:X.mg "enumerate"=none)(ha:PA X [a] ta)(hs:starEach [a] X.env=[(false,eval a X.env)]):PI X (.Tuple elts kk tpos) (.Call (.Name "enumerate" p) [a] [] pos) (iEnum X.K ta):=by
 intro pz s σ H R I h;refine Call_ (G6 I hg hm boot_enumerate (į (AX (ha pos pz s σ H _ I h) λus s1 zz=>?_) hs rfl))
 obtain⟨vs,H1,I1,r1,q1⟩:=zz;obtain⟨l,e,⟨xs,hq⟩,q⟩:=q1;subst e;obtain⟨u,rfl,ru⟩:=FK r1;cases ru;obtain⟨its,rv,pl,hz⟩:=I1.list hq;refine call_enumerate_list pl.isList λh' he hit hsz hk=>?_
 have I2:Inv X pz σ H1 { s1 with heap:=h',toks:=s1.toks }:=I1.kept hk
 refine Ε he ⟨s1.heap.objs.size+1,[s1.heap.objs.size+1,s1.heap.objs.size],_,_,H1,rfl,I2,Sz 0 l _ _ (by simp),⟨⟨_,by simpa using he⟩,hit⟩,λb hb=>?_,q⟩
 have hb':s1.heap.objs.size<=b:=by
  grind
 exact I1.fpOk hb' (I1.hok.fresh hb')
def iZip(K:k6)(ta:TA):TI:=λσ H R=>ta σ H λvs H1=>∃a b,vs=[.ref a,.ref b]/\(∃xs,Am K H1 a xs)/\(∃xs,Am K H1 b xs)/\R (SK K a b) H1
theorem znr(hg:Gl X "zip")(hm:X.mg "zip"=none)(ha:PA X [a,b] ta)(hs:starEach [a,b] X.env=[(false,eval a X.env),(false,eval b X.env)])(hs2:starEach [b] X.env=[(false,eval b X.env)]):PI X (.Tuple elts kk tpos) (.Call (.Name "zip" p) [a,b] [] pos) (iZip X.K ta):=by
 intro pz s σ H R I h;refine Call_ (G6 I hg hm boot_zip (į (AX (ha pos pz s σ H _ I h) λus s1 zz=>?_) (by rw[hs,hs2]) (by rw[hs2];rfl)))
 obtain⟨vs,H1,I1,r1,q1⟩:=zz;obtain⟨l1,l2,e,⟨xs,hq⟩,⟨ys,hq2⟩,q⟩:=q1;subst e;obtain⟨u,u2,rfl,ru,ru2⟩:=JH r1;cases ru;cases ru2;obtain⟨its,rv,pl,hz⟩:=I1.list hq;obtain⟨its2,rv2,pl2,hz2⟩:=I1.list hq2;have llt:l1<s1.heap.objs.size:=by obtain⟨o,n,e,_⟩:=pl;exact Æ e
 have llt2:l2<s1.heap.objs.size:=by obtain⟨o,n,e,_⟩:=pl2;exact Æ e
 refine call_zip_2 pl.isList pl2.isList λh' a1 a2 a3 a4 a5 a6 hk=>?_
 have I2:Inv X pz σ H1 { s1 with heap:=h',toks:=s1.toks }:=I1.kept hk
 have D:ZipApart (s1.heap.objs.size+4) (s1.heap.objs.size+2) (s1.heap.objs.size+3) s1.heap.objs.size (s1.heap.objs.size+1) l1 l2:=by
  have n1:∀k ,l1≠s1.heap.objs.size+k:=λk z=>î _ (á llt (z▸Nat.le_add_right _ _))
  have n2:∀k ,l2≠s1.heap.objs.size+k:=λk z=>î _ (á llt2 (z▸Nat.le_add_right _ _))
  refine⟨?_,?_,?_,?_,?_,?_,?_,?_,?_,?_,n1 4,n1 3,n1 0,n1 1,n2 4,n2 3,n2 0,n2 1⟩<;>intro z<;>simp at z
 refine wpAny_pyIter_zip a1 ⟨_,[s1.heap.objs.size+4,s1.heap.objs.size+2,s1.heap.objs.size+3,s1.heap.objs.size,s1.heap.objs.size+1],_,_,H1,rfl,I2,zgm _ _ _ _ _ l1 l2 D,⟨a1,a2,⟨_,_,a3⟩,a4,a5⟩,λb hb=>?_,q⟩
 have hb':s1.heap.objs.size<=b:=by
  grind
 exact I1.fpOk hb' (I1.hok.fresh hb')
end
section
variable {X:Cx}{pz:List (Addr×Obj)}{σ:L2.St}{H:Hp}{s:Shared}{a:Addr}{o:Obj}{kvs:List (Key×V)}
theorem zov(r:KV kvs vs):kvs.length=vs.length:=ŝ (r)
end
section
variable {X:Cx}{o:Expr}{to:TE}{ap cp:Pos}{elts:kC}{kk:Nat}{tpos:Pos}
end
def JK(ifs:kC)(env:Env):Sem Bool:=forIn ifs true λc r=>if r=true then do let ok <- isTrue c env (eval c env);pure (ForInStep.yield ok) else pure (ForInStep.yield r)
def Gj(X:Cx)(ifs:kC)(t:TT):Prop:=
 ∀(pz:List (Addr×Obj)) (s:Shared) (σ:L2.St) (H:Hp) (Q:Bool->Hp->Prop),Inv X pz σ H s->t σ H Q->wpAny (model X.prog X.w) X.A (JK ifs X.env) (TP X pz σ Q) X.xe s
theorem zjz:Gj X [] (λ_ H Q=>Q true H):=λpz s σ H Q I h=>Ç ⟨H,I,h⟩
theorem zjy(h:PT X c t):Gj X [c] t:=λpz s σ H Q I q=>by
 have e:JK [c] X.env=(isTrue c X.env (eval c X.env) >>= λok=>pure ok):=by
  unfold JK;simp
 rw[e];exact Á (è (h pz s σ H Q I q) (λb s1 h1=>Ç h1) λ_ _ z=>z)
theorem zef:compTurn (.ListComp elt [⟨target,iter,ifs,0⟩] scope pos) 0 it acc env=(standAt iter.pos >>= λ_=>pyNext it >>= λr=>match r with
  |none=>pure (.done .next)|some u=>letOwnedTupleGo target it u >>= λ_=>assign target env u >>= λ_=>JK ifs env >>= λok=>
   if ok=true then ((eval elt env >>= λx=>call (.builtin "list.append") [acc,x] >>= λ_=>pure ()) >>= λ_=>again (.compLoop (.ListComp elt [⟨target,iter,ifs,0⟩] scope pos) 0 it acc env))
   else again (.compLoop (.ListComp elt [⟨target,iter,ifs,0⟩] scope pos) 0 it acc env)):=by rfl
theorem zeg(hN:NE=notedBy (model prog w) A env λe s'=>R (.error e) s')(I:Nat->Shared->Prop)
  (hturn : ∀ n s, I n s -> wpAny (model prog w) A (pyNext it) (fun r s₁ => match r with
   |none=>R (.ok .next) s₁|some v=>wpAny (model prog w) A (letOwnedTupleGo target it v) (λ_ s₁'=>wpAny (model prog w) A (assign target env v) (λ_ s₂=>wpAny (model prog w) A (JK ifs env) (λok s₂'=>if ok=true then wpAny (model prog w) A (eval elt env) (λx s₃=>
     wpAny (model prog w) A (call (.builtin "list.append") [acc,x]) (λ_ s₄=>∃m,m<n/\I m s₄) NE s₃)
     NE s₂' else ∃m,m<n/\I m s₂') NE s₂) NE s₁') NE s₁) NE s)
  (k ) (hk:I k s):codeAny (model prog w) A (.compLoop (.ListComp elt [⟨target,iter,ifs,0⟩] scope pos) 0 it acc env) R s:=by
 subst hN;refine codeAny_loop rfl I (λn s hI=>?_) k hk
 refine wpAny_noted ?_;rw[zef];refine Á (ĕ (Á (è (hturn n s hI) (λr s₁ h₁=>?_) λ_ _ z=>z)))
 cases r with
 |none=>exact Ç h₁|some v=>
  refine Á (è h₁ (λ_ s₁' h₁'=>?_) λ_ _ z=>z)
  refine Á (è h₁' (λ_ s₂ h₂=>Á (è h₂ (λok s₂' h₂'=>?_) λ_ _ z=>z)) λ_ _ z=>z)
  cases ok with
  |false=>
   rw[if_neg (by decide)]at h₂' ⊢
   exact Ç ⟨rfl,h₂'⟩
  |true=>rw[if_pos rfl]at h₂' ⊢;exact Á (Á (è h₂' (λx s₃ h₃=>Á (è h₃ (λ_ s₄ h₄=>Ç (Ç ⟨rfl,h₄⟩)) λ_ _ z=>z)) λ_ _ z=>z))
theorem RB(env ):∀(names:List (Str×NameKind)),(∀y∈names,y.2=.free->∃c,env.cells.lookup y.1=some c)->∀acc ,∃cl ,
  (forIn names acc λ(x:Str×NameKind) r=>if (x.2 == NameKind.free)=true then do let a <- cellOf env x.1;pure (ForInStep.yield ((x.1,a)::r)) else pure (ForInStep.yield r))=pure cl /\
  (∀y c,cl.lookup y=some c->acc.lookup y=some c\/env.cells.lookup y=some c)/\(∀y∈names,y.2=.free->∃c,cl.lookup y.1=some c)/\∀y c,acc.lookup y=some c->∃c',cl.lookup y=some c'
 |[],_,acc=>⟨acc,rfl,λ_ _ e=>.inl e,(λ_ z=>by cases z),λ_ c e=>⟨c,e⟩⟩|(n,k)::r,h,acc=>by
  rw[List.forIn_cons]
  by_cases hk:k=.free
  .subst hk;obtain⟨c,hc⟩:=h (n,.free) (Ã ..) rfl;have e1:cellOf env n=pure c:=by unfold cellOf;rw[hc]
   obtain⟨cl,e,h1,h2,h3⟩:=RB env r (λy hy=>h y (Å _ hy)) ((n,c)::acc)
   grind
  .have hk' :=beq_eq_false_iff_ne.mpr hk;obtain⟨cl,e,h1,h2,h3⟩:=RB env r (λy hy=>h y (Å _ hy)) acc
   grind
theorem zdj(scope)(env)(h:∀y∈scope.names,y.2=.free->∃c,env.cells.lookup y.1=some c):∃cl,closureFor scope env=pure cl/\(∀y c,cl.lookup y=some c->env.cells.lookup y=some c)/\∀y∈scope.names,y.2=.free->∃c,cl.lookup y.1=some c:=by
 obtain⟨cl,e,h1,h2,_⟩:=RB env scope.names h [];refine⟨cl,?_,λy c q=>?_,h2⟩
 .have e2:closureFor scope env=(forIn scope.names [] λx r=>if (x.2 == NameKind.free)=true then do let a <- cellOf env x.1;pure (ForInStep.yield ((x.1,a)::r)) else pure (ForInStep.yield r)) >>= pure:=rfl
  grind
 grind
theorem RD:∀(names) (h:Heap) (acc) (y) (c),(cellsFrom h.objs.size names acc).lookup y=some c->acc.lookup y=some c\/(h.objs.size<=c/\(pushCells h names).IsCell c none/\(y,NameKind.cell)∈names)
 |[],h,acc,y,c,e=>.inl e|(n,k)::r,h,acc,y,c,e=>by
  unfold cellsFrom at e;unfold pushCells;split at e
  .rename_i hk;rw[if_pos hk];have ez:(h.push { cls:=.type "cell",data:=.cell none }).objs.size=h.objs.size+1:=ċ ..;rw[<- ez]at e
   rcases RD r _ _ y c e with q|⟨q1,q2,q3⟩
   .rw[ĉ]at q;cases hy:y == n with
    |true=>rw[hy]at q;cases q;have e1:=eq_of_beq hy;subst e1;exact .inr ⟨È _,⟨_,Ť _ _ _ _ (æ _ rfl),rfl⟩,by rw[eq_of_beq hk];exact Ã ..⟩|false=>rw[hy]at q;exact .inl q
   .exact .inr ⟨by rw[ez]at q1;exact Ó (Ą _) q1,q2,Å _ q3⟩
  .rename_i hk;rw[if_neg hk]
   rcases RD r h acc y c e with q|⟨q1,q2,q3⟩
   .exact .inl q
   .exact .inr ⟨q1,q2,Å _ q3⟩
theorem RE:∀(names) (h:Heap) (acc:List (Str×Addr)),(∀y z c,acc.lookup y=some c->acc.lookup z=some c->y=z)->(∀y c,acc.lookup y=some c->c<h.objs.size) ->
  ∀y z c,(cellsFrom h.objs.size names acc).lookup y=some c->(cellsFrom h.objs.size names acc).lookup z=some c->y=z
 |[],h,acc,hi,_=>hi|(n,k)::r,h,acc,hi,hl=>by
  unfold cellsFrom;split
  .have ez:(h.push { cls:=.type "cell",data:=.cell none }).objs.size=h.objs.size+1:=ċ ..;rw[<- ez];refine RE r _ _ (λy z c h1 h2=>?_) (λy c h1=>?_)
   .grind
   grind
  .exact RE r h acc hi hl
theorem RC:∀(names) (n lo:Nat) (acc:List (Str×Addr)) (y) (c),lo<=n->((y,NameKind.cell)∈names\/∃c0,acc.lookup y=some c0/\lo<=c0)->(cellsFrom n names acc).lookup y=some c->lo<=c
 |[],n,lo,acc,y,c,hn,h,e=>by
  rcases h with h|⟨c0,h1,h2⟩
  .cases h
  .have e':acc.lookup y=some c:=e
   grind
 |(m,k)::r,n,lo,acc,y,c,hn,h,e=>by
  unfold cellsFrom at e;split at e
  .refine RC r (n+1) lo _ y c (Nat.le_succ_of_le hn) ?_ e
   grind
  .rename_i hk;refine RC r n lo acc y c hn ?_ e
   grind
theorem zc9{code}
  (hQ:Q (newEnv scope s.heap.objs.size globals (cellsFrom (s.heap.objs.size+1) scope.names cl) qual func code (some outer) builtins) { s with heap:=pushCells (s.heap.push { cls:=.type "dict",data:=.dict #[] }) scope.names }) :
  wpAny M A (newFunctionEnv scope globals cl [] qual func code (some outer) builtins) Q E s:=by
 erw[newFunctionEnv,Option.isSome_some,Î];refine Á (wpAny_alloc ?_);refine Á (wpAny_layCells _ (λname kind cells=>by rfl) _ _ _ _ ?_);rw[ċ ..]
 exact Á (Ç (Ç hQ))
abbrev BL(X:Cx)(scope:Scope)(cl:List (Str×Addr))(N':kE)(C:Addr)(s₀:Shared)(H₀:Hp)(ex:List Addr)(xb:Value->Shared->Prop):Cx:={ zpo X scope cl N' C s₀ H₀ ex with fn:=λx=>decide (scope.names.lookup x=some .cell),xe:=xb }
theorem Zj{h h' B B':Heap}(k:∀b o,B.get? b=none->h.get? b=some o->(∀us,o.data≠.fields us)->B'.get? b=none/\∃o',h'.get? b=some o'/\∀us,o'.data≠.fields us):∀{l},h.FunFrames B l->h'.FunFrames B' l
 |[],_=>trivial|_::_,⟨x,⟨L,o,y1,y2,y3,y4⟩,r⟩=>by
  obtain⟨z1,o',z2,z3⟩:=k L o y2 y3 y4;exact⟨x,⟨L,o',y1,z1,z2,z3⟩,Zj k r⟩
def Hw(X:Cx):Prop:=∃v l,X.stack=v::l/\X.env.frame=v.frame
theorem zfw{σ:L2.St}{H:Hp} (hx:BW X E)(hst:Hw X)(I:Inv X pz σ H s)(fC:Cp X pz H C)(hC:∃m,s.heap.Ns C m)(nC:C∉BO X.stack)
  (hb:benv.frame=X.env.frame) (h:Cc X.prog X.w X.stack H s (E σ) e s'):wpAny (model X.prog X.w) X.A (noteFrame e benv) (λ_ s2=>compPost (model X.prog X.w) X.A X.xe use QQ acc C (.error e) s2) EE s':=by
 obtain⟨v,l,st,hv⟩:=hst;obtain⟨a,cls,H',B,rfl,os,bare,un,hok,kB,tB,fl0,he⟩:=h;have fl1 :=st▸fl0
 obtain⟨L,hL⟩:∃L,v.frame=some L:=by
  obtain⟨_,_,_,⟨_,⟨L,_,y,_⟩,_⟩,_⟩:=fl1;exact⟨L,y⟩
 refine La (st▸I.ok.frames) (hb.trans hv) hL fl1 λh4 held sm=>?_
 obtain⟨m,oC,es,ep,hCo,dC,rC⟩:=hC;have bC :=kB C oC hCo fC.1 nC;obtain⟨f1,f2,f3,oe,ws,Tb,oT,ts,ha,hcl,hd,g1,nT,Tne,hT,dT,g3⟩:=held
 have hne:∀{b},B.get? b=none->b≠C:=λz w=>by
  rw[w,bC]at z;cases z
 have key:∃m,h4.Ns C m/\∀h',Heap.SameBut C h4 h'->∀cenv ,cenv.locals=C->wpAny (model X.prog X.w) X.A (PySem.passOn "comprehension.variables-let-go" (.ref a) cenv:Sem Value) (λ_ _=>False) X.xe { s' with heap:=h' }:=by
  refine⟨m,⟨oC,es,ep,f1 C oC bC,dC,rC⟩,λh5 sb cenv _=>?_⟩
  have ha5 :=(sb.2 a (hne f2)).trans ha;have hT5 :=(sb.2 Tb (hne nT)).trans hT;unfold PySem.passOn;refine Á (Ė ha5 hd g1 ?_);rw[if_neg (by simp)]
  refine Á ?_;unfold setFlight;refine Á (Ė ha5 hd g1 ?_);rw[if_pos (by simp)]
  refine ţ hT5 dT (İ.mp g3).1 (wpAny_throw ?_);generalize hfl:(cenv.frame.elim Value.none λf=>rawInt f)=fl
  have dT6:=Ŕ dT (·.setIfInBounds 3 fl);have hT6:=Ĵ (Obj.mapFields (·.setIfInBounds 3 fl)) hT5 (Ŵ dT6);generalize hh6:h5.update Tb (Obj.mapFields (·.setIfInBounds 3 fl))=h6 at hT6 ⊢
  have to6:∀b o,b≠C->b≠Tb->h4.get? b=some o->h6.get? b=some o:=λb o n1 n2 e=>by
   rw[<- hh6,ď _ _ (Ð n2)];exact(sb.2 b n1).trans e
  have B6 :=λb o n e=>to6 b o n (λz=>by rw[z,nT]at e;cases e) (f1 b o e)
  have hid:∀{b} {o},(W.hideAll s.heap [C]).get? b=some o->s.heap.get? b=some o/\b≠C:=λ{b o} e=>⟨ě _ e,λz=>by
   rw[z,Ķ [C] (Í.mpr rfl)]at e;cases e⟩
  have hidB:∀{b} {o},b≠C->B.get? b=some o->(W.hideAll B [C]).get? b=some o:=λ{b o} n e=>Đ _ e (λz=>n (Í.mp z))
  have hidN:∀{b},B.get? b=none->(W.hideAll B [C]).get? b=none:=λ{b} e=>by
   cases q:(W.hideAll B [C]).get? b with
   |none=>rfl|some o=>rw[ě _ q]at e;cases e
  have IX :=Gv (t':=s.toks) I (λb o n e=>Đ _ e n) λb z=>by
   rw[Í.mp z];exact fC
  have slot:∀b o,s.heap.get? b=some o->H b=none->b∈BO X.stack->∃z,h6.get? b=some { o with slots:=z}:=λb o e n z=>by
   obtain⟨_,o2,ho2,d2⟩:=I.stack.mem z;rw[e]at ho2;cases ho2;obtain⟨z2,e2⟩:=un.slot b o e n z (by simp)
   obtain⟨z3,e3⟩:=sm b _ e2 d2;refine⟨z3,to6 b _ (λw=>nC (w▸z)) (λw=>?_) e3⟩
   rw[w,hT]at e3;cases e3;exact d2 _ dT
  have HC :=un.free C oC hCo fC.1 (by simp)
  refine hx pz σ H _ _ _ IX ⟨a,cls,H',W.hideAll B [C],rfl,os,bare,⟨λb o e n z _=>?_,λb o e n z _=>slot b o (hid e).1 n z,λb o e n z=>un.free b o (hid e).1 n z,λb o e _=>?_,un.tups,un.frzs,un.tbls⟩,?_,λb o e n z=>hidB (hid e).2 (kB b o (hid e).1 n z),λb o e z=>?_,⟨fl,λb o e=>?_,hidN f2,?_,?_⟩,he⟩
  .exact B6 b o (hid e).2 (kB b o (hid e).1 n z)
  .by_cases z:b∈BO X.stack
   .obtain⟨w,q⟩:=slot b o (hid e).1 (I.stkFree b z) z;exact⟨_,q⟩
   .obtain⟨o',q⟩:=tB b o (hid e).1 z;exact⟨o',B6 b o' (hid e).2 q⟩
  .intro b u e;refine(hok b u e).stay (λc x hc q=>hidB (λw=>?_) q) (λ_ q=>q) λ_ _ q=>q
   rcases hc with y|y
   .rw[<- y,w,HC]at e;cases e
   .rw[w,HC]at y;cases y
  .obtain⟨o',q⟩:=tB b o (hid e).1 z;exact⟨o',hidB (hid e).2 q⟩
  .have e':=ě _ e;refine B6 b o (λw=>?_) e'
   rw[w,Ķ [C] (Í.mpr rfl)]at e;cases e
  .rw[st];refine Zj (λb o n e d=>⟨hidN n,o,to6 b o (hne n) (λw=>?_) e,d⟩) f3
   rw[w,hT]at e;cases e;exact d _ dT
  .refine⟨oe,ws,Tb,_,_,?_,hcl,hd,g1,hidN nT,Tne,hT6,dT6,?_⟩
   .rw[<- hh6,ď _ _ Tne];exact ha5
   .simp[Array.getElem?_setIfInBounds,(İ.mp g3).1]
 cases use<;>exact key
structure TurnG(cq:Cx->Prop)(P:Program)(w:World)(K:k6)(tg:Expr)(J:It)(fp:List Addr)(it:Addr)(tn:Nat->Heap->Prop):Prop where
 obj:∀i h,tn i h->∀b∈fp,∃o,h.get? b=some o/\∀v,o.data≠.cell v
 keep:∀i h h',tn i h->(∀b∈fp,∀o,h.get? b=some o->h'.get? b=some o)->tn i h'
 item:∀(X:Cx),X.prog=P->X.w=w->X.K=K->cq X->∀(i:Nat) (pz:List (Addr×Obj)) (s:Shared) (σ:L2.St) (H:Hp) (E:Value->Shared->Prop),Inv X pz σ H s->(∀b∈fp,Cp X pz H b)->tn i s.heap->J.go i H ->
  wpAny (model P w) X.A (pyNext (.ref it)) (λr s1=>∃u,r=some u/\wpAny (model P w) X.A (letOwnedTupleGo tg (.ref it) u) (λ_ s2=>∃x H',Inv X pz σ H' s2/\Ab x u/\J.yld i H x H'/\tn (i+1) s2.heap/\∀b∈fp,H' b=none) E s1) E s
 done:∀(X:Cx),X.prog=P->X.w=w->X.K=K->cq X->∀(i:Nat) (pz:List (Addr×Obj)) (s:Shared) (σ:L2.St) (H:Hp) (E:Value->Shared->Prop),Inv X pz σ H s->(∀b∈fp,Cp X pz H b)->tn i s.heap->J.stop i H ->
  wpAny (model P w) X.A (pyNext (.ref it)) (λr s1=>r=none/\Inv X pz σ H s1) E s
 self:∀(A:Around) (i:Nat) (s:Shared) (Q:Value->Shared->Prop) (E:Value->Shared->Prop),tn i s.heap->Q (.ref it) s->wpAny (model P w) A (pyIter (.ref it)) Q E s
def PJ(cq:Cx->Prop)(X:Cx)(tg iter:Expr)(wi:TI):Prop:=
 ∀(pz:List (Addr×Obj)) (s:Shared) (σ:L2.St) (H:Hp) (R:It->Hp->Prop),Inv X pz σ H s->wi σ H R ->
  wpAny (model X.prog X.w) X.A (eval iter X.env) (λv s1=>wpAny (model X.prog X.w) X.A (pyIter v) (λitv s2=>∃(it:Addr) (fp:List Addr) (tn:Nat->Heap->Prop) (J:It) (H':Hp),itv=.ref it/\Inv X pz σ H' s2/\TurnG cq X.prog X.w X.K tg J fp it tn/\tn 0 s2.heap/\(∀b∈fp,Cp X pz H' b)/\R J H') X.xe s1) X.xe s
theorem Vq(h:PI X tg iter wi):PJ (λX=>X.calm=true) X tg iter wi:=λpz s σ H R I q=>
 AX (h pz s σ H R I q) λ_ _ h1=>AX h1 λ_ _ zz=>by obtain⟨it,fp,tn,J,H',e,I2,T,r⟩:=zz;exact⟨it,fp,tn,J,H',e,I2,⟨T.obj,T.keep,T.item,T.done,T.self⟩,r⟩
section
variable {X:Cx}{elt iter tg:Expr}{ifs:kC}{scope:Scope}{pos pos2:Pos}{cl:List (Str×Addr)}{N':kE}{wi:TI}{g:TG}{tt:TT}{te:TE}
def Kw(σ':L2.St->L2.St)(wi:TI)(g:TG)(tt:TT)(te:TE):TE:=λσ H Q=>wi σ H λJ H1=>∃(W:Nat->kK->L2.St->Hp->Prop) (n:Nat),n<=sizeLine/\W 0 [] (σ' σ) H1/\∀i ys τ H,W i ys τ H->ys.length<=i/\i<=n /\
 ((J.stop i H/\∀p,H p=none->Q (.ref p) (upd H p (.lst ys)))\/(i<n/\J.go i H/\∀x H',J.yld i H x H'->g x τ H' λτ2 H2=>tt τ2 H2 λk H3=>if k=true then te τ2 H3 λy H4=>W (i+1) (ys++[y]) τ2 H4 else W (i+1) ys τ2 H3))
theorem YN(σ':L2.St->L2.St)(hclos:closureFor scope X.env=pure cl)(hkind:scope.kind=.function)(hnames:∀y∈scope.names,y.2=.local->scope.names.lookup y.1=some .local)
  (hcl:∀y c,cl.lookup y=some c->X.env.cells.lookup y=some c) (hhas:∀y,(relabel scope X.env).names.lookup y=some .cell\/(relabel scope X.env).names.lookup y=some .free->(y,NameKind.cell)∈scope.names\/∃c,cl.lookup y=some c) (hcap:∀(σ:L2.St) (i:Nat) (y:Str) (v:V),N'[i]?=some y->(σ' σ)[i]?=some (some v)->(y,NameKind.cell)∉scope.names)
  (hσ:∀σ:L2.St,σ.length=X.N.length->(σ' σ).length=N'.length)
  (hvis:∀(σ:L2.St) (i:Nat) (y:Str) (v:V),N'[i]?=some y->(σ' σ)[i]?=some (some v)->((relabel scope X.env).names.lookup y=some .cell\/(relabel scope X.env).names.lookup y=some .free)/\∃j:Nat,X.N[j]?=some y/\σ[j]?=some (some v)/\EA X.env.scope y/\X.env.kindOf y≠some .local)
  {cq:Cx->Prop} (hc:∀pz σ H s cl C ex xb,Inv X pz σ H s->cq (BL X scope cl N' C s H ex xb)) (hi:PJ cq X tg iter wi) {E:L2.St->XK} (hps:BW X E) (hst:Hw X) {σ:L2.St} (hg:∀cl C s₀ H₀ ex xb,BW (BL X scope cl N' C s₀ H₀ ex xb) (λ_=>E σ)->PG (BL X scope cl N' C s₀ H₀ ex xb) tg g) (ht:∀cl C s₀ H₀ ex xb,BW (BL X scope cl N' C s₀ H₀ ex xb) (λ_=>E σ)->Gj (BL X scope cl N' C s₀ H₀ ex xb) ifs tt) (he:∀cl C s₀ H₀ ex xb,BW (BL X scope cl N' C s₀ H₀ ex xb) (λ_=>E σ)->PE (BL X scope cl N' C s₀ H₀ ex xb) elt te)
  (hs:∀x,foldedSetIterable iter X.env x=pure x) {use:Option (Value->Sem Unit)} {pz:List (Addr×Obj)} {s:Shared} {H:Hp} {Q:VK} {QQ:Value->Shared->Prop} (I:Inv X pz σ H s) (h:Kw σ' wi g tt te σ H Q)
  (hend:∀(D C:Addr) (s5:Shared) (H5:Hp),Inv X pz σ H5 s5->Q (.ref D) H5->(∃m,s5.heap.Ns C m)->Cp X pz H5 C->compPost (model X.prog X.w) X.A X.xe use QQ (.ref D) C (.ok .next) s5) :
  wpAny (model X.prog X.w) X.A (comprehension (.ListComp elt [⟨tg,iter,ifs,0⟩] scope pos) scope X.env pos2 (newList []) false (eval iter X.env) use) QQ X.xe s:=by
 refine wpAny_comprehension_free (use:=use) rfl hs hclos hkind hnames (AX (hi pz s σ H _ I h) λv s1 h1=>AX h1 λitv s2 h2=>?_)
 obtain⟨it,fp,tn,J,H2,e,I2,T,st2,f2,W,n,hn,w0,turn⟩:=h2;subst e;refine Β (zc9 ?_);dsimp only;generalize hHp:s2.heap.push { cls:=.type "list",dict:=none,data:=.seq ([]:k9).toArray }=P2;generalize hcl':cellsFrom (P2.objs.size+1) scope.names cl=cl';generalize hh1:pushCells (P2.push { cls:=.type "dict",data:=.dict #[] }) scope.names=h₁;have hC:P2.objs.size=s2.heap.objs.size+1:=by rw[<- hHp,ċ]
 have hP3:(P2.push { cls:=.type "dict",data:=.dict #[] }).objs.size=P2.objs.size+1:=ċ ..;have hDC:s2.heap.objs.size≠P2.objs.size:=by rw[hC];exact Ö (ħ _)
 have below:∀b,b<s2.heap.objs.size->b≠P2.objs.size/\b≠s2.heap.objs.size:=λb hb=>⟨by rw[hC];exact Ö (ļ hb),Ö hb⟩
 have old:∀b o,s2.heap.get? b=some o->h₁.get? b=some o:=λb o e=>by
  rw[<- hh1];exact Ť _ _ _ _ (Ì _ (hHp▸Ì _ e))
 have hacc:h₁.PlainList s2.heap.objs.size #[]:=⟨_,by
  rw[<- hh1];exact Ť _ _ _ _ (Ì _ (hHp▸æ _ rfl))⟩
 have hns₁:h₁.Ns P2.objs.size (λ_=>none):=by
  rw[<- hh1];exact(Heap.Ns.new P2 (.type "dict")).keeps (Ť _ _)
 have cells:∀y c,cl'.lookup y=some c->X.env.cells.lookup y=some c\/(P2.objs.size<c/\h₁.IsCell c none/\(y,NameKind.cell)∈scope.names):=λy c e=>by
  rw[<- hcl',<- hP3]at e
  rcases RD _ _ _ y c e with q|⟨q1,q2,q3⟩
  .exact .inl (hcl y c q)
  .rw[hP3]at q1;rw[hh1]at q2;exact .inr ⟨q1,q2,q3⟩
 have has':∀y,(y,NameKind.cell)∈scope.names\/(∃c,cl.lookup y=some c)->∃c,cl'.lookup y=some c:=λy hy=>by
  rw[<- hcl']
  have go:∀(names:List (Str×NameKind)) (n:Nat) (acc:List (Str×Addr)),((y,NameKind.cell)∈names\/∃c,acc.lookup y=some c)->∃c,(cellsFrom n names acc).lookup y=some c:=by
   intro names
   induction names with
   |nil=>
    intro n acc h
    rcases h with h|h
    .cases h
    .exact h
   |cons x r ih=>
    obtain⟨m,k⟩:=x;intro n acc h;unfold cellsFrom;split
    .refine ih _ _ ?_
     by_cases hm:y=m
     .subst hm;exact .inr ⟨n,by simp⟩
     .rcases h with h|⟨c,h⟩
      .rcases Ï.mp h with z|z
       .cases z;exact absurd rfl hm
       .exact .inl z
      .exact .inr ⟨c,by rw[ĉ,beq_eq_false_iff_ne.mpr hm];exact h⟩
    .rename_i hk;refine ih _ _ ?_
     rcases h with h|h
     .rcases Ï.mp h with z|z
      .cases z;exact absurd rfl hk
      .exact .inl z
     .exact .inr h
  exact go _ _ _ hy
 have fsub:∀b∈BO X.stack,b∈X.env.locals::X.fs:=I2.stkSub
 have fpfs:∀b∈fp,b∉BO X.stack:=λb hb z=>by
  obtain⟨_,h2,h3,_⟩:=f2 b hb
  rcases Ï.mp (fsub b z) with q|q
  .exact h2 q
  .exact h3 q
 have fpold:∀b∈fp,b<s2.heap.objs.size:=λb hb=>by
  obtain⟨o,e,_⟩:=T.obj 0 _ st2 b hb;exact Æ e
 have cold:∀y c,cl'.lookup y=some c->c<s2.heap.objs.size\/P2.objs.size<c:=λy c e=>by
  rcases cells y c e with q|q
  .obtain⟨v,z⟩:=I2.cell y c q;exact .inl z.lt
  .exact .inr q.1
 have cneD:∀y c,cl'.lookup y=some c->c≠s2.heap.objs.size:=λy c e z=>by
  rcases cold y c e with q|q
  .rw[z]at q;exact î _ q
  .rw[z,hC]at q;exact absurd q (Nat.not_lt.mpr (Ą _))
 have cneF:∀b,b<s2.heap.objs.size->(∀y c,X.env.cells.lookup y=some c->c≠b)->∀y c,cl'.lookup y=some c->c≠b:=λb hb hx y c e z=>by
  rcases cells y c e with q|q
  .exact hx y c q z
  .have:=q.1;rw[z,hC]at this;exact absurd (ņ hb (Nat.lt_of_succ_lt this)) (î _)
 have fresh2:∀b,s2.heap.objs.size<=b->H2 b=none:=λb hb=>I2.hok.fresh hb
 have CS:s2.heap.objs.size<=P2.objs.size:=by rw[hC];exact Ą _
 obtain⟨xb,hxb⟩:∃xb,xb=notedBy (model X.prog X.w) X.A (compEnvC scope cl' P2.objs.size X.env) λe s'=>compPost (model X.prog X.w) X.A X.xe use QQ (.ref s2.heap.objs.size) P2.objs.size (.error e) s':=⟨_,rfl⟩
 have hpb:BW (BL X scope cl' N' P2.objs.size s2 H2 fp xb) (λ_=>E σ):=by
  subst hxb;intro pins4 σ4 H4 s4 e s' I4 hcx
  have IX:Inv X pz σ H4 s4:=I2.call' (s':=s4) (ch:=fp) I4.os I4.base I4.hok I4.bare λb hb=>by
   obtain⟨g1,g2,g3,g4,g5,g6⟩:=f2 b hb;exact⟨g4,g2,g5,g6⟩
  obtain⟨m4,hm4,_⟩:=I4.loc
  exact zfw hps hst IX ⟨I4.free,(I2.fpOk (H':=H2) CS (fresh2 _ CS)).2⟩ ⟨m4,hm4⟩ (λz=>by
   obtain⟨o,ho,_⟩:=(I2.stack.mem z).2;exact absurd (Æ ho) (Nat.not_lt.mpr CS)) rfl hcx
 have ok':(BL X scope cl' N' P2.objs.size s2 H2 fp xb).Ok:=by
  refine⟨I2.ok.mod,hkind,I2.ok.glob,I2.ok.blt,CS,?inj,λy hy=>has' y (hhas y hy),?cab,I2.ok.hd,I2.ok.frames,.inl rfl,λb hb=>⟨(below b (fpold b hb)).1,cneF b (fpold b hb) λy c e=>(f2 b hb).2.2.2.2.1 y c e⟩,
   λb o e=>I2.bs b o e,Ó I2.ok.bsz I2.sz,λb o e hb=>?_,λb hb=>fpfs b hb,I2.stack,I2.stkFree⟩
  case inj=>
   intro y z c h1 h2;have h1':(cellsFrom (P2.push { cls:=.type "dict",data:=.dict #[] }).objs.size scope.names cl).lookup y=some c:=by rw[hP3,hcl'];exact h1
   have h2':(cellsFrom (P2.push { cls:=.type "dict",data:=.dict #[] }).objs.size scope.names cl).lookup z=some c:=by rw[hP3,hcl'];exact h2
   refine RE scope.names _ cl (λy z c g1 g2=>I2.ok.inj y z c (hcl y c g1) (hcl z c g2)) (λy c g=>?_) y z c h1' h2'
   obtain⟨v,q⟩:=I2.cell y c (hcl y c g);rw[hP3,hC];exact ļ (ļ q.lt)
  case cab=>
   intro y c hy e;have hy':scope.names.lookup y=some .cell:=Į hy;have e':(cellsFrom (P2.objs.size+1) scope.names cl).lookup y=some c:=by rw[hcl'];exact e
   exact Ó CS (Ó (Ą _) (RC scope.names _ (P2.objs.size+1) cl y c (È _) (.inl (đ hy')) e'))
  .obtain⟨_,_,_,q,_⟩:=f2 b hb
   rcases q with q|q
   .exact I2.ok.noex b o e q
   .exact absurd (á (Æ e) (Ó I2.ok.bsz q)) (î _)
 have I':Inv (BL X scope cl' N' P2.objs.size s2 H2 fp xb) pz (σ' σ) H2 { s2 with heap:=h₁ }:=by
  refine⟨ok',rfl,I2.bare,Un.kept old,⟨_,hns₁,λi y v h1 h2 h3=>?_⟩,λy c e=>?_,fresh2 _ CS,?fc,λp hp=>?_,I2.hok.kept old,hσ σ I2.len⟩
  case fc=>
   intro y c e
   rcases cells y c e with q|q
   .exact I2.freeC y c q
   .exact fresh2 c (Ó CS (Ň q.1))
  .obtain⟨hk,j,h4,h5,h6,h7⟩:=hvis σ i y v h1 h2;have hno:=hcap σ i y v h1 h2;obtain⟨m,hn',hl⟩:=I2.loc;obtain⟨u,r,l⟩:=hl j y v h4 h5 h6;obtain⟨c,hcc⟩:=has' y (hhas y hk);refine⟨u,r,.inr ⟨hk,c,hcc,?_⟩⟩
   rcases l with ⟨k1,_⟩|⟨_,c',e',z⟩
   .exact absurd k1 h7
   .rcases cells y c hcc with w|w
    .rw[w]at e';cases e';obtain⟨o,ho,hd⟩:=z;exact⟨o,old _ _ ho,hd⟩
    .exact absurd w.2.2 hno
  .rcases cells y c e with w|w
   .obtain⟨v,o,ho,hd⟩:=I2.cell y c w;exact⟨v,o,old _ _ ho,hd⟩
   .exact⟨none,w.2.1⟩
  .obtain⟨e1,e2,e3,e4,e5⟩:=I2.pin p hp;refine⟨old _ _ e1,e2,(below _ (Æ e1)).1,λz=>?_,e5⟩
   rcases Ï.mp (fsub _ z) with q|q
   .exact e3 q
   .exact e4 q
 have stat:∀{H':Hp},(∀b∈fp,H' b=none)->∀b∈fp,Cp (BL X scope cl' N' P2.objs.size s2 H2 fp xb) pz H' b:=λhn' b hb=>
  ⟨hn' b hb,(below b (fpold b hb)).1,fpfs b hb,.inl hb,cneF b (fpold b hb) λy c e=>(f2 b hb).2.2.2.2.1 y c e,(f2 b hb).2.2.2.2.2⟩
 have Dok:∀{H':Hp},H' s2.heap.objs.size=none->Cp (BL X scope cl' N' P2.objs.size s2 H2 fp xb) pz H' s2.heap.objs.size:=λhn'=>
  ⟨hn',hDC,(λz=>by
   obtain⟨o,ho,_⟩:=(I2.stack.mem z).2;exact absurd (Æ ho) (î _)),.inr (È _),cneD,λp hp z=>absurd (Æ (I2.pin p hp).1) (by rw[z];exact î _)⟩
 have loop:∀s3:Shared,s3={ s2 with heap:=h₁ } ->
   codeAny (model X.prog X.w) X.A (.compLoop (.ListComp elt [⟨tg,iter,ifs,0⟩] scope pos) 0 (.ref it) (.ref s2.heap.objs.size) (compEnvC scope cl' P2.objs.size X.env))
    (compPost (model X.prog X.w) X.A X.xe use QQ (.ref s2.heap.objs.size) P2.objs.size) s3:=by
  rintro s3 rfl
  refine zeg hxb (λm s'=>∃i ys τ H',m=n - i/\Inv (BL X scope cl' N' P2.objs.size s2 H2 fp xb) pz τ H' s'/\tn i s'.heap/\(∀b∈fp,H' b=none)/\H' s2.heap.objs.size=none/\(∃its:k9,Al ys its/\s'.heap.PlainList s2.heap.objs.size its.toArray)/\W i ys τ H')
   ?_ n ⟨0,[],σ' σ,H2,rfl,I',T.keep _ _ _ st2 λb _ o e=>old b o e,λb hb=>(f2 b hb).1,fresh2 _ (È _),⟨[],.nil,hacc⟩,w0⟩
  rintro m s4 ⟨i,ys,τ,H4,rfl,I4,st4,fr4,hD4,⟨its,rv,hpl⟩,w4⟩;obtain⟨hly,hin,c⟩:=turn i ys τ H4 w4
  have statp:∀{H':Hp},(∀b∈fp,H' b=none)->∀b∈fp,Cp (BL X scope cl' N' P2.objs.size s2 H2 fp xb) (pz++HQ [s2.heap.objs.size] s4.heap) H' b:=λ{H'} fr' b hb=>by
    obtain⟨g1,g2,g3,g4,g5,g6⟩:=stat fr' b hb;refine⟨g1,g2,g3,g4,g5,λp hp z=>?_⟩
    rcases ë.mp hp with y|y
    .exact g6 p (Ģ _ y) z
    .rcases ë.mp y with y|y
     .exact g6 p (é _ y) z
     .obtain⟨hb',_⟩:=WI y;rw[z,Í]at hb';exact absurd (fpold b hb) (by rw[hb'];exact î _)
  rcases c with ⟨stop,q⟩|⟨hlt,go,step⟩
  .obtain⟨k,hDo⟩:=hpl;have I4p:=I4.pinned (fp:=[s2.heap.objs.size]) (λb hb=>by rw[Í.mp hb];exact Dok hD4) (λb hb=>by rw[Í.mp hb];exact⟨_,hDo,λv z=>(by cases z)⟩)
   refine AX (T.done (BL X scope cl' N' P2.objs.size s2 H2 fp xb) rfl rfl rfl (hc _ _ _ _ _ _ _ _ I2) i _ s4 τ H4 _ I4p (statp fr4) st4 stop) λr s5 zz=>?_
   obtain⟨hr,I5⟩:=zz;subst hr;have hD5 :=(I5.pin (s2.heap.objs.size,_) (é _ (é _ (HU (Í.mpr rfl) hDo)))).1;obtain⟨m5,hn5,_⟩:=I5.loc;have fC:H4 P2.objs.size=none:=I5.free
   have U5:Un (BO X.stack) fp H2 (upd H4 s2.heap.objs.size (.lst ys)) s2.heap s5.heap:=by
    have B:=I5.base;refine⟨λb o e1 e2 e3 e4=>B.keep b o e1 e2 e3 e4,λb o e1 e2 e3 e4=>B.slot b o e1 e2 e3 e4,λb o e1 e2 e4=>?_,λb o e1 e4=>B.there b o e1 e4,λb xs e1=>?_,λb o u e1=>?_,λb ps e1=>?_⟩
    .rw[Ag (below b (Æ e1)).2];exact B.free b o e1 e2 e4
    .have q':=B.tups b xs e1;rw[Ag (Bt q' hD4)];exact q'
    .have q':=B.frzs b o u e1;rw[Ag (Bt q' hD4)];exact q'
    .obtain⟨more,q'⟩:=B.tbls b ps e1;exact⟨more,by rw[Ag (Bt q' hD4)];exact q'⟩
   have hzy:ys.length<=sizeLine:=Ó hly (Ó hin hn);have HK:HOk X.prog X.w (upd H4 s2.heap.objs.size (.lst ys)) s5.heap:=Zw.HOk.adopt I5.hok hD4 ⟨hzy,its,k,rv,hD5⟩;have os5:s5.os=s2.os:=I5.os
   have IX:Inv X pz σ (upd H4 s2.heap.objs.size (.lst ys)) s5:=I2.call' (s':=s5) (ch:=fp) os5 U5 HK I5.bare (λb hb=>by
    obtain⟨g1,g2,g3,g4,g5,g6⟩:=f2 b hb;exact⟨g4,g2,g5,g6⟩)
   refine hend s2.heap.objs.size P2.objs.size s5 _ IX (q _ hD4) ⟨m5,hn5⟩ ?_;have CL:s2.heap.objs.size<=P2.objs.size:=CS;have fp0:Cp X pz H2 P2.objs.size:=I2.fpOk CS (fresh2 _ CS);exact⟨by rw[Ag (Ð hDC)];exact fC,fp0.2⟩
  .obtain⟨k,hDo⟩:=hpl;have I4p:=I4.pinned (fp:=[s2.heap.objs.size]) (λb hb=>by rw[Í.mp hb];exact Dok hD4) (λb hb=>by rw[Í.mp hb];exact⟨_,hDo,λv z=>(by cases z)⟩)
   refine AX (T.item (BL X scope cl' N' P2.objs.size s2 H2 fp xb) rfl rfl rfl (hc _ _ _ _ _ _ _ _ I2) i _ s4 τ H4 _ I4p (statp fr4) st4 go) λr s5 zz=>?_
   obtain⟨u,hr,h5⟩:=zz;subst hr;refine AX h5 λ_ s6 zz=>?_
   obtain⟨x,H6,I6,r6,y6,st6,fr6⟩:=zz;have I6':=I6.pinned (statp fr6) (T.obj _ _ st6);refine AX (hg _ _ _ _ _ _ hpb _ s6 τ H6 x u _ I6' r6 (step x H6 y6)) λ_ s7 zz=>?_
   obtain⟨τ7,H7,I7,q7⟩:=zz;refine AX (ht _ _ _ _ _ _ hpb _ s7 τ7 H7 _ I7 q7) λok s7b zz=>?_
   obtain⟨H7b,I7b,q7b⟩:=zz;have BP:∀{H8:Hp} {s8:Shared} {τ8:L2.St},Inv (BL X scope cl' N' P2.objs.size s2 H2 fp xb) (pz++HQ [s2.heap.objs.size] s4.heap++HQ fp s6.heap) τ8 H8 s8->∀h9:Heap,(∀b o,b≠s2.heap.objs.size->s8.heap.get? b=some o->h9.get? b=some o)->tn (i+1) h9/\∀b∈fp,H8 b=none:=λ{H8 s8 τ8} I8 h9 sb=>by
    refine⟨T.keep _ _ _ st6 λb hb o e=>?_,λb hb=>?_⟩
    .exact sb b o (below b (fpold b hb)).2 (I8.pin (b,o) (é _ (é _ (HU hb e)))).1
    .obtain⟨o,e,d⟩:=T.obj _ _ st6 b hb;exact(I8.pin (b,o) (é _ (é _ (HU hb e)))).2.1
   cases ok with
   |false=>
    rw[if_neg (by decide)]at q7b ⊢
    have hD8:=I7b.pin (s2.heap.objs.size,_) (é _ (Ģ _ (é _ (HU (Í.mpr rfl) hDo))));obtain⟨t9,f9⟩:=BP I7b s7b.heap λb o _ e=>e
    exact⟨n - (i+1),by omega,i+1,ys,τ7,H7b,rfl,I7b.unpinned.unpinned,t9,f9,hD8.2.1,⟨its,rv,k,hD8.1⟩,q7b⟩
   |true=>
    rw[if_pos rfl]at q7b ⊢;refine AX (he _ _ _ _ _ _ hpb _ s7b τ7 H7b _ I7b q7b) λuy s8 zz=>?_
    obtain⟨y,H8,I8,ry,w8⟩:=zz;have hD8:=I8.pin (s2.heap.objs.size,_) (é _ (Ģ _ (é _ (HU (Í.mpr rfl) hDo))));have P8:s8.heap.PlainList s2.heap.objs.size its.toArray:=⟨k,hD8.1⟩;have hlen:=rv.length;refine wpAny_list_append_plain P8 (λh' pl' sb=>?_) (by rw[ā,<- hlen];omega)
    have I8u :=I8.unpinned.unpinned;obtain⟨d1,d2,d3,d4,d5,d6⟩:=Dok hD8.2.1;have I9 :=I8u.turned (t':=s8.toks) (λb o hb e=>(sb.2 b hb).trans e) d1 d2 d4 d5 d6
    obtain⟨t9,f9⟩:=BP I8 h' λb o hb e=>(sb.2 b hb).trans e
    exact⟨n - (i+1),by omega,i+1,ys++[y],τ7,H8,rfl,I9,t9,f9,hD8.2.1,⟨its++[uy],rv.append (.cons ry .nil),by simpa using pl'⟩,w8⟩
 refine codeAny_compStart_list (loop _ rfl) (T.self _ 0 _ _ _ (T.keep _ _ _ st2 λb _ o e=>old b o e) (loop _ rfl))
theorem zos(σ')(hclos:closureFor scope X.env=pure cl)(hkind:scope.kind=.function)(hnames:∀y∈scope.names,y.2=.local->scope.names.lookup y.1=some .local)
    (hcl:∀y c,cl.lookup y=some c->X.env.cells.lookup y=some c) (hhas:∀y,(relabel scope X.env).names.lookup y=some .cell\/(relabel scope X.env).names.lookup y=some .free->(y,NameKind.cell)∈scope.names\/∃c,cl.lookup y=some c) (hcap:∀(σ:L2.St) (i:Nat) (y:Str) (v:V),N'[i]?=some y->(σ' σ)[i]?=some (some v)->(y,NameKind.cell)∉scope.names)
    (hσ:∀σ:L2.St,σ.length=X.N.length->(σ' σ).length=N'.length)
    (hvis:∀(σ:L2.St) (i:Nat) (y:Str) (v:V),N'[i]?=some y->(σ' σ)[i]?=some (some v)->((relabel scope X.env).names.lookup y=some .cell\/(relabel scope X.env).names.lookup y=some .free)/\∃j:Nat,X.N[j]?=some y/\σ[j]?=some (some v)/\EA X.env.scope y/\X.env.kindOf y≠some .local)
     (hc:∀pz σ H s cl C ex xb,Inv X pz σ H s->cq (BL X scope cl N' C s H ex xb)) (hi:PJ cq X tg iter wi)  (hps:BW X E) (hst:Hw X)  (hg:∀cl C s₀ H₀ ex xb,BW (BL X scope cl N' C s₀ H₀ ex xb) (λ_=>E σ)->PG (BL X scope cl N' C s₀ H₀ ex xb) tg g) (ht:∀cl C s₀ H₀ ex xb,BW (BL X scope cl N' C s₀ H₀ ex xb) (λ_=>E σ)->Gj (BL X scope cl N' C s₀ H₀ ex xb) ifs tt) (he:∀cl C s₀ H₀ ex xb,BW (BL X scope cl N' C s₀ H₀ ex xb) (λ_=>E σ)->PE (BL X scope cl N' C s₀ H₀ ex xb) elt te)
    (hs:∀x,foldedSetIterable iter X.env x=pure x)   {H:Hp} {Q:VK} (I:Inv X pz σ H s) (h:Kw σ' wi g tt te σ H Q) :
    wpAny (model X.prog X.w) X.A (eval (.ListComp elt [⟨tg,iter,ifs,0⟩] scope pos) X.env) (EP X pz σ Q) X.xe s:=by
  refine YN σ' hclos hkind hnames hcl hhas hcap hσ hvis hc hi hps hst hg ht he hs I h λD C s5 H5 I5 q5 ⟨m,hm⟩ f=>⟨m,hm,λh' sb=>?_⟩
  exact⟨.ref D,H5,Gv (ch:=[C]) I5 (λb o hb e=>(sb.2 b (λz=>hb (by simp[z]))).trans e) (λb hb=>by grind),rfl,q5⟩
theorem zot(σ' )(hclos:closureFor scope X.env=pure cl)(hkind:scope.kind=.function)(hnames:∀y∈scope.names,y.2=.local->scope.names.lookup y.1=some .local)
  (hcl:∀y c,cl.lookup y=some c->X.env.cells.lookup y=some c) (hhas:∀y,(relabel scope X.env).names.lookup y=some .cell\/(relabel scope X.env).names.lookup y=some .free->(y,NameKind.cell)∈scope.names\/∃c,cl.lookup y=some c) (hcap:∀(σ:L2.St) (i:Nat) (y:Str) (v:V),N'[i]?=some y->(σ' σ)[i]?=some (some v)->(y,NameKind.cell)∉scope.names)
  (hσ:∀σ:L2.St,σ.length=X.N.length->(σ' σ).length=N'.length)
  (hvis:∀(σ:L2.St) (i:Nat) (y:Str) (v:V),N'[i]?=some y->(σ' σ)[i]?=some (some v)->((relabel scope X.env).names.lookup y=some .cell\/(relabel scope X.env).names.lookup y=some .free)/\∃j:Nat,X.N[j]?=some y/\σ[j]?=some (some v)/\EA X.env.scope y/\X.env.kindOf y≠some .local)
  (hc:X.calm=true) (hi:PI X tg iter wi)  (hps:BW X E) (hst:Hw X)  (hg:∀cl C s₀ H₀ ex xb,BW (BL X scope cl N' C s₀ H₀ ex xb) (λ_=>E σ)->PG (BL X scope cl N' C s₀ H₀ ex xb) tg g) (ht:∀cl C s₀ H₀ ex xb,BW (BL X scope cl N' C s₀ H₀ ex xb) (λ_=>E σ)->Gj (BL X scope cl N' C s₀ H₀ ex xb) ifs tt) (he:∀cl C s₀ H₀ ex xb,BW (BL X scope cl N' C s₀ H₀ ex xb) (λ_=>E σ)->PE (BL X scope cl N' C s₀ H₀ ex xb) elt te)
  (hs:∀x,foldedSetIterable iter X.env x=pure x)   {H:Hp} {D:Ends} {i:Nat} {x:Str}  (hN:X.N.Nodup) (hix:X.N[i]?=some x) (hx:X.env.scope.names.lookup x=some .local)
  (hsw:swapsWith (.ListComp elt [⟨tg,iter,ifs,0⟩] scope pos) (some (.Name x pos')) pos2.line X.env=pure true)
  (I:Inv X pz σ H s) (h:Kw σ' wi g tt te σ H λv H1=>D.nx (σ.set i (some v)) H1) :
  wpAny (model X.prog X.w) X.A (exec (.Assign [.Name x pos'] (.ListComp elt [⟨tg,iter,ifs,0⟩] scope pos) pos2) X.env) (SP X pz D) X.xe s:=by
 rw[exec_Assign_Name_used _ _ _ _ hsw];refine Á (ĕ (Á ?_));refine Á (è (YN σ' hclos hkind hnames hcl hhas hcap hσ hvis (λ_ _ _ _ _ _ _ _ _=>hc) (Vq hi) hps hst hg ht he hs I h λA C s5 H5 I5 q5 ⟨m,hm⟩ f=>?_) (λ_ s' hq=>Ç (Ç hq)) λ_ _ e=>e)
 show wpAny _ X.A (assign (.Name x pos') X.env (.ref A)) _ _ _;refine wpAny_assign_Name (Tf I5 hN hix (.inl hx) (v:=.ref A) rfl (λs6 I6 zz=>?_) (.inr hx))
 obtain⟨a,sb,ha⟩:=zz;have hCa:C≠a:=by
  rcases ha with rfl|ha
  .exact f.2.1
  .exact λz=>f.2.2.2.2.1 x a ha z.symm
 refine⟨m,hm.sameBut sb hCa,λh' sb2=>⟨_,H5,Gv (ch:=[C]) I6 (λb o hb e=>(sb2.2 b (λz=>hb (by simp[z]))).trans e) (λb hb=>by rw[Í.mp hb];exact f),q5⟩⟩
end
structure RpO(K:k6)(F H:Hp)(l:kL)(xs:kK)(R:Nat->Rg):Prop where
 len:l.length=xs.length
 rep:∀(i:Nat) (t:T) (x:V),l[i]?=some t->xs[i]?=some x->Rp K F H t x (R i)
 dis:∀i j a,i≠j->R i a->¬ R j a
 out:∀i a,R i a->i<l.length
section
variable {K:k6}{F H F1 H1:Hp}{l:kL}{xs:kK}{R:Nat->Rg}{B:Rg}
theorem RpO.nil:RpO K F H [] [] (λ_=>R0):=⟨rfl,λi t x h=>by simp at h,λ_ _ _ _ z=>z.elim,λ_ _ z=>z.elim⟩
theorem RpO.dom(h:RpO K F H l xs R)(z:R i a):F a=none/\∃u,H a=some u:=by
 have hi:=h.out i a z;have hx:i<xs.length:=by have:=h.len;omega
 exact(h.rep i _ _ (Â hi) (Â hx)).dom z
theorem RpO.ext(h:RpO K F H l xs R)(e:Ext F H F1 H1 B):RpO K F1 H1 l xs R:=⟨h.len,λi t x h1 h2=>(h.rep i t x h1 h2).ext e,h.dis,h.out⟩
theorem RpO.apart(h:RpO K F H l xs R)(e:Ext F H F1 H1 B)(hb:B b)(i):¬ R i b:=λz=>by
 obtain⟨f,u,q⟩:=h.dom z;rw[e.nb b hb]at q;cases q
theorem RpO.snoc(h:RpO K F H l xs R) (r:Rp K F H t x B)(d:∀i a,R i a->¬ B a):RpO K F H (l++[t]) (xs++[x]) (λj=>if j=l.length then B else R j):=by
 have hl:=h.len;refine⟨by simp[hl],λi t' x' h1 h2=>?_,λi j a hij z1 z2=>?_,λi a z=>?_⟩
 .by_cases hi:i=l.length
  .subst hi;rw[if_pos rfl];have e1:=by simpa using h1
   have e2:=by rw[hl]at h2;simpa using h2
   subst e1;subst e2;exact r
  .rw[if_neg hi]
   have hlt:i<l.length:=by
    have:=(Õ.mp h1).1;simp at this
    omega
   rw[ć hlt]at h1;rw[ć (by omega)]at h2
   exact h.rep i t' x' h1 h2
 .by_cases hi:i=l.length
  .erw[hi,Î]at z1;have hj:¬ j=l.length:=λz=>hij (hi.trans z.symm)
   erw[hj,É]at z2;exact d j a z2 z1
  .erw[hi,É]at z1
   by_cases hj:j=l.length
   .erw[hj,Î]at z2;exact d i a z1 z2
   .erw[hj,É]at z2;exact h.dis i j a hij z1 z2
 .by_cases hi:i=l.length
  .simp[hi]
  .erw[hi,É]at z;have:=h.out i a z;simp
   omega
theorem RpO.cons(h:RpO K F H l xs R)   (r:Rp K F H t x B)(d:∀i a,R i a->¬ B a):RpO K F H (t::l) (x::xs) (λj=>match j with|0=>B|j+1=>R j):=by
 refine⟨by simp[h.len],λi t' x' h1 h2=>?_,λi j a hij z1 z2=>?_,λi a z=>?_⟩
 .cases i with
  |zero=>simp at h1 h2;subst h1;subst h2;exact r|succ i=>exact h.rep i t' x' (by simpa using h1) (by simpa using h2)
 .cases i with
  |zero=>
   cases j with
   |zero=>exact hij rfl|succ j=>exact d j a z2 z1
  |succ i=>
   cases j with
   |zero=>exact d i a z1 z2|succ j=>exact h.dis i j a (λz=>hij (by rw[z])) z1 z2
 .cases i with
  |zero=>simp|succ i=>have:=h.out i a z;simp;omega
theorem RpO.list(h:RpO K F H l xs R)(s:Af F H)  (hp:H p=none):Rp K F (upd H p (.lst xs)) (.own l) (.ref p) (λa=>a=p\/∃i,R i a)/\Ext F H F (upd H p (.lst xs)) (λa=>a=p):=by
 have e:=Ext.newO (o:=.lst xs) s hp;have h':=h.ext e;exact⟨.own (k:=.lst) trivial R (GY s hp) Bj h.len h'.rep h.dis (λi z=>h.apart e rfl i z) h.out,e⟩
end
def AL(ma mk:AI):AI:=λτ=>match ma τ with
 |some (.v t b)=>(match mk τ with
  |some (.v (.int i) _)=>(match t with
   |.nd _ _ l=>(match A5 l i with
    |some c=>some (.v c (b && !c.sh))|none=>none)
   |.str z=>if z.length<=Bh then (match A5 z.cps.toList i with
    |some c=>some (.v (.str ⟨#[c]⟩) false)|none=>none) else none
   |_=>none)
  |some (.v _ _)=>none|r=>r)
 |r=>r
theorem zm0{c}(e:l.length=m.length)(h:A5 l i=some c):∃(j:Nat) (d:β),l[j]?=some c/\m[j]?=some d/\A5 m i=some d:=by
 unfold A5 at h ⊢;rw[<- e];cases q:Ce l.length i with
 |none=>grind|some j=>
  rw[q]at h;have h' :=h
  have hj:j<m.length:=by
   grind
  exact⟨j,m[j],h',Â hj,Â hj⟩
section
variable {K:k6}{F H:Hp}
theorem Rp.seq      (s:Af F H)(h:Rp K F H (.nd o k l) x A):∃p xs,x=.ref p/\(Am K H p xs\/CV K H p xs)/\l.length=xs.length/\∀(i:Nat) (t ) (x ),l[i]?=some t->xs[i]?=some x->∃B,(∀a,B a->A a)/\Rp K F H t x B:=by
 cases h with
 |@shr k p xs l h e c=>
  refine⟨p,xs,rfl,?_,e,λi t x h1 h2=>⟨R0,λ_ z=>z.elim,c i t x h1 h2⟩⟩
  cases k with
  |lst=>exact .inl (Am.of (s _ _ h))|rl=>exact .inl (s.seq h.l)|tup=>exact .inr (CV.of (s _ _ h))|rt=>exact .inr (GK s h)|pin q=>exact .inl (Am.of (s _ _ h))
 |@own k0 p xs l hk R f h e c d dp o=>exact⟨p,xs,rfl,.inl (Am.of h),e,λi t x h1 h2=>⟨R i,λa z=>.inr ⟨i,z⟩,c i t x h1 h2⟩⟩
end
section
variable {X:Cx}{E:L2.St->XK}{ca:Str->Value}{σ:L2.St}{H:Hp}{m ma mb mc:AI}{ms:BQ}{K:k6}{a b c e:Expr}{es:kC}{pos:Pos}
theorem tM_ix(h:tM K E ca (AL ma mb) σ H Q):ID (Vg K) (tM K E ca ma) (tM K E ca mb) σ H Q:=by
 obtain⟨F,τ,R,S,q⟩:=h;refine⟨F,τ,R,S,?_⟩;unfold AL at q;cases hm:ma τ with
 |none=>erw[hm]at q<;>exact q.elim|some r=>
  erw[hm]at q;cases r with
  |x c=>exact q|v t bb=>
   intro F1 H1 x B e1 g1;have S1:=S.ext e1;refine⟨F1,τ,R,S1,?_⟩;cases hk:mb τ with
   |none=>erw[hk]at q<;>exact q.elim|some r=>
    erw[hk]at q;cases r with
    |x c=>exact λF' H' e=>q F' H' ((e1.trans e).mono λ_ z=>z.elim)|v tk bk=>
     cases tk with
     |int i=>
      intro F2 H2 y C e2 g2
      have hy:y=.int i:=by
       cases bk with
       |true=>obtain⟨_,A,_,r⟩:=g2;exact r.int_inv
       |false=>exact(g2).int_inv
      subst hy;have e02 :=(e1.trans e2).mono λ_ z=>.inl z
      have S2:=S1.ext e2;cases t with
      |nd o k l=>
       simp only at q;cases hc:A5 l i with
       |none=>erw[hc]at q<;>exact q.elim|some cc=>
        erw[hc]at q
        have node:∃A0,(bb=true->∀a,A0 a->tot R a)/\(bb=false->∀a,A0 a->B a)/\Rp K F2 H2 (.nd o k l) x A0:=by
         cases bb with
         |true=>obtain⟨_,A,hA,r⟩:=g1;exact⟨A,λ_=>hA,(λz=>by cases z),r.ext e2⟩
         |false=>exact⟨B,(λz=>by cases z),λ_ _ z=>z,(g1).ext e2⟩
        obtain⟨A0,hA1,hA2,rn⟩:=node;obtain⟨p,xs,rfl,hq,hl,kids⟩:=Rp.seq S2.fh rn;obtain⟨j,d,h1,h2,h3⟩:=zm0 hl hc;obtain⟨A1,hA,rk⟩:=kids j cc d h1 h2
        have qq :=by
         cases bb with
         |false=>exact q F2 H2 d A1 (e02.mono λa z=>hA2 rfl a (hA a z)) rk|true=>
          cases hs:cc.sh with
          |true=>rw[hs]at q;exact q F2 H2 d R0 (e02.mono λ_ z=>z.elim) (rk.move hs (.refl _))|false=>rw[hs]at q;exact q F2 H2 d R0 (e02.mono λ_ z=>z.elim) ⟨rfl,A1,λa z=>hA1 rfl a (hA a z),rk⟩
        rcases hq with hq|hq
        .exact .inl ⟨p,xs,i,d,rfl,rfl,hq,h3,qq⟩
        .exact .inr (.inl ⟨p,xs,i,d,rfl,rfl,hq,h3,qq⟩)
      |str z=>
       by_cases hz:z.length<=Bh
       .erw[hz,Î]at q;cases hc:A5 z.cps.toList i with
        |none=>erw[hc]at q<;>exact q.elim|some cc=>
         erw[hc]at q
         have hx:x=.str z:=by
          cases bb with
          |true=>obtain⟨_,A,_,r⟩:=g1;exact r.str_inv
          |false=>exact(g1).str_inv
         subst hx;exact .inr (.inr ⟨z,i,cc,rfl,rfl,by rw[<- Ft];exact hz,hc,q F2 H2 _ R0 (e02.mono λ_ z=>z.elim) (.str _)⟩)
       .erw[hz,É]at q<;>exact q.elim
      |_=>exact q.elim
     |_=>exact q.elim
theorem r_ix(ha:PE X a (tM X.K E ca ma))(hb:PE X b (tM X.K E ca mb))(hs:NP b):PE X (.Subscript a b pos) (tM X.K E ca (AL ma mb)):=PE.weak (Vu zp6 ha hb hs) λσ H Q h=>tM_ix h
def CT{α:Type}(l:List α)(lo hi:kA):List α:=(l.drop (HT.sIx l.length 0 lo)).take (HT.sIx l.length l.length hi - HT.sIx l.length 0 lo)
noncomputable def Ey(m:Option (AI)):AK->Option (kA):=λτ=>match m with
 |none=>some none|some m=>match m τ with
  |some (.v (.int i) _)=>some (some i)|_=>none
def Du(ma:AI)(ml mh:Option (AI)):AI:=λτ=>match ma τ with
 |some (.v t false)=>(match Ey ml τ with
  |some lo=>(match Ey mh τ with
   |some hi=>(match t with
    |.nd _ .lst l=>some (.v (.own (CT (Bc l) lo hi)) false)|.nd _ .rl l=>some (.v (.own (CT (Bc l) lo hi)) false)|_=>none)
   |none=>none)
  |none=>none)
 |some (.v _ true)=>none|r=>r
def Gy(K:k6)(m:Option (AI)):TO:=λσ H Q=>∃F τ R o,StR K F H σ τ R/\Ey m τ=some o/\∀F' H',Ext F H F' H' R0->Q o H'
theorem r_po0:PO X none (Gy X.K none):=λpz s σ H Q I h=>by
 obtain⟨F,τ,R,o,S,e,q⟩:=h;cases e;exact zk7 pz s σ H Q I (q F H (Ext.refl S.fh))
theorem r_po1(ha:PE X e (tM X.K E ca m)):PO X (some e) (Gy X.K (some m)):=λpz s σ H Q I h=>by
 obtain⟨F,τ,R,o,S,e',q⟩:=h;refine zk6 ha pz s σ H Q I ⟨F,τ,R,S,?_⟩;unfold Ey at e';simp only at e';cases hm:m τ with
 |none=>grind|some r=>
  rw[hm]at e';cases r with
  |x c=>cases e'|v v b=>
   cases v with
   |int i=>
    cases e';intro F' H' x B e g
    have hx:x=.int i:=by
     cases b with
     |true=>obtain⟨_,A,_,r⟩:=g;exact r.int_inv
     |false=>exact(g).int_inv
    exact⟨i,hx,q F' H' (e.mono λ_ z=>z.elim)⟩
   |_=>cases e'
theorem zin(r:Ar K F l xs)(lo hi):Ar K F (CT l lo hi) (Jq xs lo hi):=by
 have hl:=r.1;unfold CT Jq;rw[hl];refine⟨by simp[hl],λi t x h1 h2=>?_⟩
 rw[List.getElem?_take]at h1 h2;split at h1
 .rename_i hi';rw[if_pos hi',ĺ]at h2;rw[ĺ]at h1;exact r.2 _ t x h1 h2
 .cases h1
theorem V6{lo hi}(ha:PE X a (tM X.K E ca ma))(hl:PO X lo (Gy X.K ml))(hh:PO X hi (Gy X.K mh)):PE X (.Subscript a (.Slice lo hi none p2) pos) (tM X.K E ca (Du ma ml mh)):=by
 refine PE.weak (Vs zjg ha hl hh) λσ H Q h=>?_
 obtain⟨F,τ,R,S,q⟩:=h;refine⟨F,τ,R,S,?_⟩;unfold Du at q;cases hm:ma τ with
 |none=>erw[hm]at q<;>exact q.elim|some r=>
  erw[hm]at q;cases r with
  |x c=>exact q|v t bb=>
   cases bb with
   |true=>exact q.elim|false=>
    intro F1 H1 x B e1 g1;obtain⟨F1',e1',_,r1⟩:=EF.frz S e1 g1;have S1:=S.ext e1';simp only at q;cases h1:Ey ml τ with
    |none=>erw[h1]at q<;>exact q.elim|some lo'=>
     erw[h1]at q;refine⟨F1',τ,R,lo',S1,h1,λF2 H2 e2=>?_⟩
     have S2:=S1.ext e2;cases h2:Ey mh τ with
     |none=>erw[h2]at q<;>exact q.elim|some hi'=>
      erw[h2]at q;refine⟨F2,τ,R,hi',S2,h2,λF3 H3 e3=>?_⟩
      have S3:=S2.ext e3;have e03:=e1'.trans0 (e2.trans0 e3);have r3:Rp X.K F3 F3 t.share x R0:=(r1).frame (e2.ff.trans e3.ff) λ_ z=>z.elim
      have key:∀{o } {k } {l },t=.nd o k l->(k=.lst\/k=.rl)->(∀F' H' x B,Ext F H F' H' B->Rp X.K F' H' (.own (CT (Bc l) lo' hi')) x B->Q x H')->Vc X.K x lo' hi' H3 Q:=by
       intro o k l et hk qq;subst et;rw[T.share]at r3;obtain⟨p,xs,rfl,_,n3,k3⟩:=EN r3
       have sq:Am X.K H3 p xs:=by
        rcases hk with rfl|rfl
        .exact Am.of (S3.fh _ _ n3)
        .exact S3.fh.seq n3.l
       refine⟨p,xs,rfl,sq,λp' hp'=>?_⟩
       have gg:Dg X.K F3 H3 (.own (CT (Bc l) lo' hi')) Q:=λF' H' z C e g=>qq F' H' z C (e03.trans0 e) g
       exact gg.list S3.fh (zin k3 lo' hi') hp'
      cases t with
      |nd o k l=>
       cases k with
       |lst=>exact key rfl (.inl rfl) q|rl=>exact key rfl (.inr rfl) q|tup=>exact q.elim|rt=>exact q.elim|pin _=>exact q.elim
      |_=>exact q.elim
def pMo(K:k6)(E:L2.St->XK)(ca:Str->Value)(σ:L2.St)(Q:kK->Hp->Prop)(F H:Hp):Option RsL->Prop
 |some (.v ts _)=>∀F' H' xs (Rr:Nat->Rg),Ext F H F' H' (tot Rr)->RpO K F' H' ts xs Rr->Q xs H'|some (.x c)=>∀F' H',Ext F H F' H' R0->XE (E σ) ca c F' H'|none=>False
def JM(K:k6)(E:L2.St->XK)(ca:Str->Value)(m:BQ):TA:=λσ H Q=>∃F τ R,StR K F H σ τ R/\pMo K E ca σ Q F H (m τ)
noncomputable def BK(m:AI)(ms:BQ):BQ:=λτ=>match m τ with
 |some (.v t false)=>(match ms τ with
  |some (.v ts _)=>some (.v (t::ts) false)|r=>r)
 |some (.v _ true)=>none|some (.x c)=>some (.x c)|none=>none
theorem zn8:PA X [] (JM X.K E ca AE):=PA.weak Es λσ H Q h=>by
 obtain⟨F,τ,R,S,q⟩:=h;exact q F H [] (λ_=>R0) ((Ext.refl S.fh).mono λa ⟨i,z⟩=>z.elim) .nil
theorem zjt(ha:PE X e (tM X.K E ca m))(hr:PA X es (JM X.K E ca ms))(hs:starEach (e::es) X.env=(false,eval e X.env)::starEach es X.env):PA X (e::es) (JM X.K E ca (BK m ms)):=by
 refine PA.weak (EZ ha hr hs) λσ H Q h=>?_
 obtain⟨F,τ,R,S,q⟩:=h;refine⟨F,τ,R,S,?_⟩;unfold BK at q;cases hm:m τ with
 |none=>erw[hm]at q<;>exact q.elim|some r=>
  erw[hm]at q;cases r with
  |x c=>exact q|v t bb=>
   cases bb with
   |true=>exact q.elim|false=>
    intro F1 H1 x B e1 g1;have S1:=S.ext e1;refine⟨F1,τ,R,S1,?_⟩;cases hs:ms τ with
    |none=>erw[hs]at q<;>exact q.elim|some r=>
     erw[hs]at q;cases r with
     |x c=>exact λF' H' e=>q F' H' ((e1.trans e).mono λ_ z=>z.elim)|v ts b'=>
      intro F2 H2 xs Rr e2 ro;have g1' :=g1;refine q F2 H2 (x::xs) _ ((e1.trans e2).mono ?_) (ro.cons (g1'.ext e2) λi a z=>?_)
      .rintro a ⟨j,z⟩;cases j with
       |zero=>exact .inl z|succ j=>exact .inr ⟨j,z⟩
      .exact g1'.apart e2 ⟨i,z⟩
def BN(ms:BQ):AI:=λτ=>match ms τ with
 |some (.v ts _)=>if ts.length<=Bh then some (.v (.own ts) false) else none
 |some (.x c)=>some (.x c)|none=>none
theorem r_lst(h:PA X es (JM X.K E ca ms)):PE X (.List es pos) (tM X.K E ca (BN ms)):=by
 refine PE.weak (zo0 h) λσ H Q h=>?_
 obtain⟨F,τ,R,S,q⟩:=h;refine⟨F,τ,R,S,?_⟩;unfold BN at q;cases hm:ms τ with
 |none=>erw[hm]at q<;>exact q.elim|some r=>
  erw[hm]at q;cases r with
  |x c=>exact q|v ts b=>
   intro F1 H1 xs Rr e1 ro
   by_cases hz:ts.length<=Bh
   .erw[hz]at q;refine⟨by rw[<- ro.len];exact hz,λp hp=>?_⟩
    obtain⟨r,e2⟩:=ro.list e1.fh hp;refine q F1 _ _ _ ((e1.trans e2).mono ?_) r;rintro a (z|⟨i,z⟩)
    .exact .inr z
    .exact .inl ⟨i,z⟩
   .erw[hz]at q<;>exact q.elim
def B7(ms:BQ):AI:=λτ=>match ms τ with
 |some (.v ts false)=>if ts.length<=Bh then some (.v (.tup ts) false) else none
 |some (.v _ true)=>none|some (.x c)=>some (.x c)|none=>none
theorem r_tup(h:PA X es (Bx X.K E ca ms)):PE X (.Tuple es k pos) (tM X.K E ca (B7 ms)):=by
 refine PE.weak (znw h) λσ H Q h=>?_
 obtain⟨F,τ,R,S,q⟩:=h;refine⟨F,τ,R,S,?_⟩;unfold B7 at q;cases hm:ms τ with
 |none=>erw[hm]at q<;>exact q.elim|some r=>
  erw[hm]at q;cases r with
  |x c=>exact q|v ts b=>
   cases b with
   |true=>exact q.elim|false=>
    intro F1 H1 xs e1 rs
    by_cases hz:ts.length<=Bh
    .erw[hz]at q;refine⟨by rw[<- rs.1];exact hz,λp hp=>?_⟩
     have gg:Dg X.K F1 H1 (.tup ts) Q:=λF' H' z C e g=>q F' H' z C (e1.trans0 e) g
     exact gg.tuple e1.fh rs hp
    .erw[hz]at q<;>exact q.elim
theorem zne{id}(hc:Cq X (.builtin id) (EX X.K g))(hg:Gl X x)(hm:X.mg x=none)(hv:bootBuiltins x=some (.builtin id))(ha:PA X (e::es) (Bx X.K E ca ms))(hn:x≠"__name__")(hdb:(x == "__debug__")=false)
  (he:starEach (e::es) X.env=(false,eval e X.env)::starEach es X.env) (hpl:(backTo pos (starEach es X.env)).any (·.1)=false):PE X (.Call (.Name x p) (e::es) [] pos) (tM X.K E ca (Bm g ms)):=
 PE.weak (LW hc hg hm hv ha hn hdb he hpl) λσ H Q h=>HD h
theorem Vb(hc:Cq X (.type T') (EX X.K g))(hg:Gl X x)(hm:X.mg x=none)(hv:bootBuiltins x=some (.type T'))(ha:PA X (e::es) (Bx X.K E ca ms))(hn:x≠"__name__")(hdb:(x == "__debug__")=false)
  (he:starEach (e::es) X.env=(false,eval e X.env)::starEach es X.env) (hpl:(backTo pos (starEach es X.env)).any (·.1)=false):PE X (.Call (.Name x p) (e::es) [] pos) (tM X.K E ca (Bm g ms)):=
 PE.weak (Vx hc hg hm hv ha hn hdb he hpl) λσ H Q h=>HD h
end
def B9:T->kH
 |.nd _ _ l=>some (.int l.length)|.str z=>if z.length<=Bh then some (.int z.length) else none
 |_=>none
def CQ:T->kH
 |.nd _ _ l=>some (.own l)|_=>none
def Hl:T->kH
 |.int i=>some (.int (if i<0 then -i else i))
 |_=>none
noncomputable def Jc:T->kH
 |.int i=>some (.int i)|.bl k=>some (.int (if k then 1 else 0))
 |.str x=>if x.length<=640 then (intText? x).map T.int else none
 |_=>none
noncomputable def En:kL->Option (List Bool)
 |[]=>some []|.bl b::r=>(match En r with
  |some l=>some (b::l)|none=>none)
 |_::_=>none
def ET:T->kH
 |.nd _ .lst l=>(match En l with
  |some bs=>some (.bl (bs.all id))|none=>none)
 |_=>none
def Sw:Kd->Option String
 |.lst=>some "list"|.tup=>some "tuple"|.rl=>none|.rt=>none|.pin _=>none
noncomputable def Ks:T->Option String
 |.non=>some "NoneType"|.bl _=>some "bool"|.int _=>some "int"|.str _=>some "str"|.nd _ k _=>Sw k|.dic _ _=>some "dict"|.pdc _ _=>some "dict"|.odc _ _=>none|.obj _ _=>none|.oob _ _ _ _=>none|.osd _ _=>none
def IB:List String:=["int","bool","str","list","tuple"]
def LB(a c:String):Bool:=a == c || (a == "bool" && c == "int")
def DH(c:String)(t:T):kH:=match Ks t with
 |some a=>if c∈IB then some (.bl (LB a c)) else none
 |none=>none
theorem zd1:W.kitMeta "str"=true:=by decide +kernel
theorem zca:W.kitMeta "list"=true:=by decide +kernel
theorem YT(K)(ha:a∈["NoneType","bool","int","str","list","tuple","dict"])(hc:c∈IB):W.kitOne K (.type a) (.type c)=some (LB a c):=by
 have km:W.kitMeta c=true:=by
  erw[IB,Ï,ï,þ]at hc
  rcases hc with rfl|rfl|rfl|rfl|rfl
  .exact zd2
  .exact zcb
  .exact zd1
  .exact zca
  .exact zbq
 by_cases h:a=c
 .subst h;rw[zi0];simp[LB]
 .refine zow K (l:=[]) h km ?_;erw[IB,Ï,ï,þ]at hc ha
  rcases ha with rfl|rfl|rfl|rfl|rfl|rfl|rfl<;>rcases hc with rfl|rfl|rfl|rfl|rfl<;>first|exact absurd rfl h|decide +kernel
section
variable {X:Cx}
theorem zgb:Cq X (.builtin "len") (EX X.K (g1 B9)):=by
 intro pz s σ H xs us Q I r h;obtain⟨F,ts,v,fh,rs,e,q⟩:=h;unfold g1 at e;split at e
 .obtain⟨x1,xs1,rfl,r1,rs1⟩:=rs.inv;cases rs1.inv0;unfold B9 at e;split at e
  .cases e;obtain⟨p,ys,rfl,hq,hl,_⟩:=Rp.seq fh (r1.any);refine bG pz s σ H _ us Q I r ⟨_,ys.length,rfl,?_,by rw[<- hl];exact q.int fh⟩
   rcases hq with hq|hq
   .exact .inl ⟨ys,hq,rfl⟩
   .exact .inr ⟨ys,hq,rfl⟩
  .split at e
   .cases e;rename_i hz;rw[r1.str_inv]at r;exact bG pz s σ H _ us Q I r ⟨_,_,rfl,⟨by exact hz,rfl⟩,q.int fh⟩
   .cases e
  .cases e
 .cases e
theorem zf2{K}(s:Af F H)(h:Fc K F k p xs):Am K H p xs\/CV K H p xs:=by
 cases k with
 |lst=>exact .inl (Am.of (s _ _ h))|rl=>exact .inl (s.seq h.l)|tup=>exact .inr (CV.of (s _ _ h))|rt=>exact .inr (GK s h)|pin q=>exact .inl (Am.of (s _ _ h))
theorem bI:Cq X (.type "list") (EX X.K (g1 CQ)):=by
 intro pz s σ H xs us Q I r h;obtain⟨F,ts,v,fh,rs,e,q⟩:=h;unfold g1 at e;split at e
 .obtain⟨x1,xs1,rfl,r1,rs1⟩:=rs.inv;cases rs1.inv0;unfold CQ at e;split at e
  .cases e;obtain⟨p,ys,rfl,rfl,n1,k1⟩:=EN r1;have hq :=zf2 fh n1;exact zcw pz s σ H _ us Q I r ⟨p,ys,rfl,hq,λl hl=>q.list fh k1 hl⟩
  .cases e
 .cases e
theorem zgf:Cq X (.builtin "abs") (EX X.K (g1 Hl)):=by
 intro pz s σ H xs us Q I r h;obtain⟨F,ts,v,fh,rs,e,q⟩:=h;unfold g1 at e;split at e
 .obtain⟨x1,xs1,rfl,r1,rs1⟩:=rs.inv;cases rs1.inv0;unfold Hl at e;split at e
  .cases e;rw[r1.int_inv]at r;exact ziy pz s σ H _ us Q I r ⟨_,rfl,q.int fh⟩
  .cases e
 .cases e
theorem zgd:Cq X (.type "int") (EX X.K (g1 Jc)):=by
 intro pz s σ H xs us Q I r h;obtain⟨F,ts,v,fh,rs,e,q⟩:=h;unfold g1 at e;split at e
 .obtain⟨x1,xs1,rfl,r1,rs1⟩:=rs.inv;cases rs1.inv0;unfold Jc at e;split at e
  .cases e;rw[r1.int_inv]at r;exact bH pz s σ H _ us Q I r (.inl ⟨_,rfl,q.int fh⟩)
  .cases e;rw[r1.bl_inv]at r;exact bH pz s σ H _ us Q I r (.inr ⟨_,rfl,q.int fh⟩)
  .split at e
   .obtain⟨n,hn,rfl⟩:=à.mp e;rw[r1.str_inv]at r;obtain⟨u,rfl,ru⟩:=r.one;obtain⟨t,rfl⟩:=ru;exact PySem.W.KIN.call_text hn ‹_› ⟨.int n,H,I.tok _,⟨_,rfl⟩,q.int fh⟩
   .cases e
  .cases e
 .cases e
theorem bJ:∀{l} {bs},En l=some bs->l.length=bs.length/\∀(i:Nat) (t),l[i]?=some t->∃b,bs[i]?=some b/\t=.bl b
 |[],bs,h=>by cases h;exact⟨rfl,λi t e=>by simp at e⟩|t::r,bs,h=>by
  unfold En at h;cases t with
  |bl b=>
   simp only at h;cases hr:En r with
   |none=>erw[hr]at h;cases h|some l=>
    erw[hr]at h;cases h;obtain⟨h1,h2⟩:=bJ hr;refine⟨by simp[h1],λi t e=>?_⟩
    cases i with
    |zero=>simp at e;exact⟨b,rfl,e.symm⟩|succ i=>exact h2 i t (by simpa using e)
  |_=>cases h
theorem zev{bs:List Bool}(h:∀(i:Nat) (b:Bool),bs[i]?=some b->tr i=b):(List.range bs.length).all tr=bs.all id/\(List.range bs.length).any tr=bs.any id:=by
 have e:(List.range bs.length).map tr=bs:=by
  apply ē
  grind
 constructor
 .have:(List.range bs.length).all tr=((List.range bs.length).map tr).all id:=by simp
  rw[this,e]
 .have:(List.range bs.length).any tr=((List.range bs.length).map tr).any id:=by simp
  rw[this,e]
theorem walkB(hc:X.calm=true) {σ:L2.St}{H:Hp} (I:Inv X pz σ H s)(fh:Af F H)(r1:Rp X.K F F (.nd o .lst l) (.ref p) R0)(hb:En l=some bs)
  (hP : ∀ (I0 : Addr) (wr fp) (St) (PP) (tr) (s2), Walks X.prog X.w X.A.in1 I0 fp wr bs.length PP St -> St 0 s2.heap -> TruthOf X.prog X.w X.A.in1 PP tr -> (∀ (i : Nat) (b : Bool), bs[i]? = some b -> tr i = b) ->
   (∀h' tk,(∀b o,b∉wr->s2.heap.get? b=some o->h'.get? b=some o)->Inv X pz σ H { s2 with heap:=h',toks:=tk})->P (.ref I0) s2):wpAny (model X.prog X.w) X.A.in1 (pyIter (.ref p)) P E' s:=by
 obtain⟨p',ys,e',rfl,n1,k1⟩:=EN r1;cases e';obtain⟨hlen,hget⟩:=bJ hb;obtain⟨its,rv,pl,hz⟩:=I.list (Am.of (fh _ _ n1));have hl:=rv.length
 have hne :=Ö (by
  obtain⟨o,n,e,_⟩:=pl;exact Æ e)
 have hh:X.A.in1.handled=none:=I.ok.hd hc
 have val:∀(i:Nat) (v),its[i]?=some v->∃b,bs[i]?=some b/\v=.bool b:=λi v hv=>by
  have hi:i<ys.length:=by
   have:=(Õ.mp hv).1
   omega
  have hi2:i<l.length:=by rw[k1.1];exact hi
  obtain⟨b,h1,h2⟩:=hget i _ (Â hi2);have rr:=k1.2 i _ _ (Â hi2) (Â hi);rw[h2]at rr;obtain⟨u,e1,ru⟩:=rv.get (Â hi);rw[hv]at e1;cases e1;rw[rr.bl_inv]at ru;exact⟨b,h1,ru⟩
 have hbl:its.toArray.size=bs.length:=by rw[ā,<- hl,<- k1.1,hlen]
 refine Ī pl.isList ?_;have W:=Walks.list (prog:=X.prog) (w:=X.w) hh s.heap.objs.size p hne its.toArray;rw[hbl]at W;refine hP s.heap.objs.size _ _ _ _ (λi=>bs.getD i false) _ W ⟨⟨_,æ _ rfl,rfl,rfl⟩,?_⟩ ?_ ?_ ?_
 .obtain⟨o,ho,hr⟩:=pl.isList;exact⟨o,Ì _ ho,hr⟩
 .intro i v s' Q' E'' hv hq';obtain⟨b,h1,h2⟩:=val i v (by simpa using hv)
  subst h2;refine Č ?_;have e:bs.getD i false=b:=by rw[Ô,h1];rfl
  rw[<- e];exact hq'
 .intro i b hb';show bs.getD i false=b;rw[Ô,hb']
  rfl
 .intro h' tk k
  exact I.kept λb o e=>k b o (λz=>by
   rw[Í]at z;exact absurd (Æ e) (by rw[z];exact î _)) (Ì _ e)
theorem zge(hc:X.calm=true):Cq X (.builtin "all") (EX X.K (g1 ET)):=by
 intro pz s σ H xs us Q I r h;obtain⟨F,ts,v,fh,rs,e,q⟩:=h;unfold g1 at e;split at e
 .obtain⟨x1,xs1,rfl,r1,rs1⟩:=rs.inv;cases rs1.inv0;unfold ET at e;split at e
  .split at e
   .cases e;rename_i bs hbs;obtain⟨p,rfl⟩:=r1.ref_inv;obtain⟨u,rfl,ru⟩:=FK r;cases ru;refine call_all_walk (walkB hc I fh r1 hbs λI0 wr fp St PP tr s2 W Ad tro htr BP=>⟨I0,fp,wr,bs.length,PP,St,tr,rfl,W,Ad,tro,λh' tk k=>?_⟩)
    rw[(zev htr).1];exact⟨.bl _,H,BP h' tk k,rfl,q.bl fh⟩
   .cases e
  .cases e
 .cases e
theorem Y5  {σ:L2.St}           (I:Inv X pz σ H s)(ea:H p=some (.frz ob (.dK kvs)))(e:W.kitOne X.K (.type "dict") c=some b)(h:∀tk,Q (.bool b) { s with toks:=tk }) :
  wpAny (model X.prog X.w) A (call (.builtin "isinstance") [.ref p,c]) Q E s:=by
 obtain⟨_,_,_,vs,_,q⟩:=(I.hok p _ ea);obtain⟨o,es,ep,h1,h2,_⟩:=q;exact û ż I.kIn ⟨o,h1,h2.1⟩ e (λz=>nomatch z) h
theorem Sv(fh:Af F H)(r:Rp X.K F F t x R0)(h:Ks t=some a):(TyOf X.K H x (.type a)\/a="dict"/\∃p ob kvs,x=.ref p/\H p=some (.frz ob (.dK kvs)))/\a∈["NoneType","bool","int","str","list","tuple","dict"]:=by
 cases t with
 |non=>cases h;rw[r.non_inv];exact⟨.inl .non,by simp⟩|bl b=>cases h;rw[r.bl_inv];exact⟨.inl (.bl b),by simp⟩|int i=>cases h;rw[r.int_inv];exact⟨.inl (.int i),by simp⟩|str y=>cases h;rw[r.str_inv];exact⟨.inl (.str y),by simp⟩|nd o k l=>
  obtain⟨p,xs,rfl,_,n,_⟩:=EN r;cases k with
  |lst=>cases h;exact⟨.inl (.lst (fh _ _ n)),by simp⟩|tup=>cases h;exact⟨.inl (.tup (fh _ _ n)),by simp⟩|rl=>cases h|rt=>cases h|pin _=>cases h
 |dic ks l=>
  cases h;cases r with
  |dic h e ek c=>exact⟨.inr ⟨rfl,_,_,_,rfl,fh _ _ h⟩,by simp⟩
 |pdc ks l=>
  cases h;cases r with
  |pdc h e ek c=>exact⟨.inl (.dK (fh _ _ h)),by simp⟩
 |odc ks l=>cases h|obj k l=>cases h|oob p C fs l=>cases h|osd ks l=>cases h
theorem zgc:Cq X (.builtin "isinstance") (λxs H Q=>∃x,xs=[x,.ty c]/\EX X.K (g1 (DH c)) [x] H Q):=by
 intro pz s σ H xs us Q I r h;obtain⟨x,rfl,F,ts,v,fh,rs,e,q⟩:=h;unfold g1 at e;split at e
 .obtain⟨x1,xs1,e1,r1,rs1⟩:=rs.inv;cases e1;unfold DH at e;split at e
  .rename_i a ha;split at e
   .cases e;rename_i hc;obtain⟨ty,hm⟩:=Sv fh r1 ha
    rcases ty with ty|⟨rfl,p,ob,kvs,rfl,hp⟩
    .exact ziv pz s σ H _ us Q I r ⟨x,_,_,rfl,ty,YT X.K hm hc,q.bl fh⟩
    .obtain⟨u,w',rfl,rx,ry⟩:=JH r;cases ry;cases rx;exact Y5 I hp (YT X.K hm hc) λtk=>⟨.bl _,H,I.tok _,rfl,q.bl fh⟩
   .cases e
  .cases e
 .cases e
def T.isN:T->Bool
 |.non=>true|_=>false
noncomputable def T.isB(b:Bool):T->Bool
 |.bl c=>c == b|_=>false
def Dd(neg:Bool)(t u:T):kH:=match u with
 |.non=>some (.bl (neg ^^ t.isN))|.bl b=>some (.bl (neg ^^ t.isB b))|_=>none
theorem aM{K}(r:Rp K F H t x A):decide (x=V.non)=t.isN:=by
 cases r<;>simp[T.isN]
theorem aN{K}(r:Rp K F H t x A):decide (x=V.bl b)=t.isB b:=by
 cases r<;>simp[T.isB]
 rfl
theorem zod:As X (compareOp .Is) (By X.K (Dd false)):=by
 intro pz s σ H x y v u Q I rx ry h;obtain⟨F,t1,t2,r,fh,r1,r2,e,q⟩:=h;unfold Dd at e;split at e
 .cases e;rw[r2.non_inv]at ry;refine zo8 pz s σ H _ _ v u Q I rx ry ⟨rfl,?_⟩;rw[aM r1];have:=q.bl fh
  simp_all
 .cases e;rw[r2.bl_inv]at ry;refine zo9 pz s σ H _ _ v u Q I rx ry ⟨_,rfl,?_⟩;rw[aN r1];have:=q.bl fh
  simp_all
 .cases e
theorem zf1:As X (compareOp .IsNot) (By X.K (Dd true)):=by
 intro pz s σ H x y v u Q I rx ry h;obtain⟨F,t1,t2,r,fh,r1,r2,e,q⟩:=h;unfold Dd at e;split at e
 .cases e;rw[r2.non_inv]at ry;refine zkh pz s σ H _ _ v u Q I rx ry ⟨rfl,?_⟩;rw[aM r1];have:=q.bl fh
  simp_all
 .cases e;rw[r2.bl_inv]at ry;refine zki pz s σ H _ _ v u Q I rx ry ⟨_,rfl,?_⟩;rw[aN r1];have:=q.bl fh
  simp_all
 .cases e
end
section
variable {X:Cx}{E:L2.St->XK}{ca:Str->Value}{σ:L2.St}{H:Hp}{m ma mb mc:AI}{ms:BQ}{K:k6}{a b c e:Expr}{es:kC}{pos p p2:Pos}
theorem r_isT{c}(hv:bootBuiltins cn=some (.type c))(hg:Gl X "isinstance")(hm:X.mg "isinstance"=none)(hgc:Gl X cn)(hmc:X.mg cn=none)(hn:cn≠"__name__")(hd:(cn == "__debug__")=false)(ha:PE X e (tM X.K E ca m))(he:starEach [e,.Name cn p2] X.env=(false,eval e X.env)::starEach [.Name cn p2] X.env) :
  PE X (.Call (.Name "isinstance" p) [e,.Name cn p2] [] pos) (tM X.K E ca (Bm (g1 (DH c)) (AB m AE))):=by
 refine PE.weak (LW (zgc (c:=c)) hg hm PyProof.Rows.boot_isinstance (EZ ha (EZ (zke (v:=.ty c) hgc hmc hv rfl hn hd) Es) he) (by decide) (by decide) he rfl) λσ H Q h=>?_
 exact(HB (HD h)).mono λx H1 h1=>⟨x,rfl,HA h1⟩
set_option genInjectivity true in
inductive Ru where
 |ok (t:T)|exc (c:Str)
def Br(K:k6)(ca:Str->Value)(g:kL->Option Ru):Sp:=λvs H Q E=>∃F ts,Af F H/\Ar K F ts vs/\match g ts with
 |some (.ok v)=>Dg K F H v Q|some (.exc c)=>∀F' H',Ext F H F' H' R0->XE E ca c F' H'|none=>False
def Jl:Bool->Str->Option Rs
 |false,c=>some (.x c)|true,c=>(match Ef c with
  |none=>some (.x c)|some _=>none)
def AS(g:kL->Option Ru)(ms:BQ):AI:=λτ=>match ms τ with
 |some (.v ts b)=>(match g ts with
  |some (.ok v)=>BP b v|some (.exc c)=>Jl b c|none=>none)
 |some (.x c)=>some (.x c)|none=>none
theorem bE(h:tM K E ca (AS g ms) σ H Q):OD (Br K ca g) [] E (Bx K E ca ms) σ H Q:=by
 obtain⟨F,τ,R,S,q⟩:=h;refine⟨F,τ,R,S,?_⟩;unfold AS at q;cases hs:ms τ with
 |none=>erw[hs]at q<;>exact q.elim|some r=>
  erw[hs]at q;cases r with
  |x c=>exact q|v ts b=>
   intro F1 H1 xs e1 rs;have S1:=S.ext e1;rw[ç];refine⟨Gz b F1 H1 R,ts,QO S1,rs,?_⟩;cases hg:g ts with
   |none=>erw[hg]at q<;>exact q.elim|some r=>
    erw[hg]at q;cases r with
    |exc c=>
     cases b with
     |false=>exact λF' H' e2=>q F' H' (e1.trans0 e2)|true=>
      erw[Jl]at q;cases hp:Ef c with
      |none=>rw[hp]at q;exact λF' H' e2=>(q F1 H' (e1.grow e2.hh)).any hp|some n=>rw[hp]at q;exact q.elim
    |ok v=>
     intro F2 H2 z C e2 r2;simp only at q;unfold BP at q;cases b with
     |false=>exact q F2 H2 z C (e1.trans0 e2) r2|true=>
      cases hf:v.flat with
      |false=>rw[hf]at q;cases q|true=>rw[hf]at q;exact q F1 H2 z R0 (e1.grow e2.hh) (r2.flat_any hf)
theorem znd(D:DefX X.prog X.w X.K X.mg X.base k x ps (Br X.K ca g))(hr:Room j X.A)(hx:BW X E)(ha:PA X (e::es) (Bx X.K E ca ms))(hk:k<=j)(hg:Gl X x)(hdb:(x == "__debug__")=false)
  (he:starEach (e::es) X.env=(false,eval e X.env)::starEach es X.env) (hpl:(backTo pos (starEach es X.env)).any (·.1)=false):PE X (.Call (.Name x p) (e::es) [] pos) (tM X.K E ca (AS g ms)):=PE.weak (px D hr hx ha hk hg hdb he hpl) λ_ _ _ h=>bE h
end
theorem Ar.app{K}{F}:∀{ts us} {xs ys},Ar K F ts xs->Ar K F us ys->Ar K F (ts++us) (xs++ys)
 |[],us,xs,ys,h,r=>by
  rw[h.inv0];exact r
 |t::ts,us,xs,ys,h,r=>by
  obtain⟨x,xs',rfl,h1,h2⟩:=h.inv;exact .cons h1 (Ar.app h2 r)
def gD(dts:kL)(g:kL->Option Ru):kL->Option Ru:=λts=>g (ts++dts)
section
variable {X:Cx}{E:L2.St->XK}{ca:Str->Value}{ms:BQ}{e:Expr}{es:kC}{p pos:Pos}
theorem zju(D:DefX X.prog X.w X.K X.mg X.base k x ps (Br X.K ca g))(DD:DefsX X.K D.fd ps dvs)(hdt:∀F ,Ar X.K F dts dvs)(hr:Room j X.A)(hx:BW X E)(ha:PA X (e::es) (Bx X.K E ca ms))(hk:k<=j)(hg:Gl X x)(hdb:(x == "__debug__")=false)
  (he:starEach (e::es) X.env=(false,eval e X.env)::starEach es X.env) (hpl:(backTo pos (starEach es X.env)).any (·.1)=false):PE X (.Call (.Name x p) (e::es) [] pos) (tM X.K E ca (AS (gD dts g) ms)):=PE.weak (pxd D DD hr hx ha hk hg hdb he hpl) λσ H Q h=>(bE h).mono λvs H1 zz=>by
 obtain⟨F,ts,s,r,q⟩:=zz;rw[ç]at r;exact⟨F,ts++dts,s,r.app (hdt F),q⟩
end
def GC(K:k6)(J:It)(F:Hp)(ts:kL):Prop:=∀(i:Nat) (F' H':Hp),Af F F'->Af F' H' ->
 (∀t,ts[i]?=some t->J.go i H'/\∀x H'',J.yld i H' x H''->∃F'',Ext F' H' F'' H'' R0/\Rp K F'' H'' t x R0)/\(i=ts.length->J.stop i H')
def pI(K:k6)(E:L2.St->XK)(ca:Str->Value)(σ:L2.St)(P:It->Hp->Prop)(F H:Hp):Option RsL->Prop
 |some (.v ts _)=>∀F' H' J,Ext F H F' H' R0->GC K J F' ts->P J H'|some (.x c)=>∀F' H',Ext F H F' H' R0->XE (E σ) ca c F' H'|none=>False
def tI(K:k6)(E:L2.St->XK)(ca:Str->Value)(m:BQ):TI:=λσ H P=>∃F τ R,StR K F H σ τ R/\pI K E ca σ P F H (m τ)
noncomputable def IV:T->Bool
 |.nd _ .lst _=>true|.nd _ .rl _=>true|.nd _ (.pin _) _=>true|_=>false
noncomputable def IW(m:AI):BQ:=λτ=>match m τ with
 |some (.v (.nd _ k l) false)=>some (.v (Bc l) false)|some (.x c)=>some (.x c)|_=>none
def DO(lo:Int)(n:Nat):kL:=(List.range n).map λ(i:Nat)=>.int (lo+(i:Int))
def DE(j:Int):Bool:=@decide (-(2 ^ 62)<=j/\j<2 ^ 62) (Classical.propDecidable _)
def Mh:kL->kA
 |[.int j]=>some j|_=>none
def C8(ms:BQ):BQ:=λτ=>match ms τ with
 |some (.v ts _)=>(match Mh ts with
  |some j=>if DE j then some (.v (DO 0 j.toNat) false) else none
  |none=>none)
 |r=>r
def Co:Nat->kL->kL
 |_,[]=>[]|i,t::r=>.tup [.int (i:Int),t]::Co (i+1) r
def Hk:kL->Option (kL)
 |[.nd o k l]=>if IV (.nd o k l) then some l else none
 |_=>none
def Mg:kL->Option (kL×kL)
 |[.nd o k l,.nd o' k' m]=>if IV (.nd o k l) && IV (.nd o' k' m) then some (l,m) else none
 |_=>none
def Cw(ms:BQ):BQ:=λτ=>match ms τ with
 |some (.v ts false)=>(match Hk ts with
  |some l=>some (.v (Co 0 l) false)|none=>none)
 |some (.v _ true)=>none|r=>r
def JE(l m:kL):kL:=List.zipWith (λa b=>T.tup [a,b]) l m
def Ga(ms:BQ):BQ:=λτ=>match ms τ with
 |some (.v ts false)=>(match Mg ts with
  |some (l,m)=>some (.v (JE l m) false)|none=>none)
 |some (.v _ true)=>none|r=>r
theorem Qq:∀(l) (n i),(Co n l)[i]?=(l[i]?).map λt=>T.tup [.int (n+i:Nat),t]
 |[],n,i=>by rfl|t::r,n,i=>by
  cases i with
  |zero=>rfl|succ i=>
   erw[Co,Ū];rw[Qq r (n+1) i]
   grind
theorem Zz(l):∀n,(Co n l).length=l.length:=by
 induction l with
 |nil=>intro n;rfl|cons t r ih=>simp[Co,ih]
section
variable {X:Cx}{E:L2.St->XK}{ca:Str->Value}{σ:L2.St}{H:Hp}{m ma mb mc:AI}{ms:BQ}{K:k6}{a b c e tg:Expr}{es elts:kC}{pos p tpos:Pos}{kk:Nat}
theorem QG{p}(n:∀F' H' ,Af F F'->Af F' H'->Am K H' p xs)(r:Ar K F l xs):GC K (SO K p) F l:=by
 intro i F' H' s1 s2;have sq:=n F' H' s1 s2;refine⟨λt ht=>?_,λe=>⟨xs,sq,by rw[e,r.1];simp⟩⟩
 have hi:i<xs.length:=by
  have:=(Õ.mp ht).1;have:=r.1
  omega
 refine⟨⟨xs,xs[i],sq,Â hi⟩,λx H'' y=>?_⟩
 obtain⟨rfl,y⟩:=y;have hx:=y xs sq;exact⟨F',Ext.refl s2,((r.same s1).2 i t x ht hx).any⟩
theorem Y2{p}(n:∀F' H' ,Af F F'->Af F' H'->CV K H' p xs)(r:Ar K F l xs):GC K (SM K p) F l:=by
 intro i F' H' s1 s2;have sq:=n F' H' s1 s2;refine⟨λt ht=>?_,λe=>⟨xs,sq,by rw[e,r.1];simp⟩⟩
 have hi:i<xs.length:=by
  have:=(Õ.mp ht).1;have:=r.1
  omega
 refine⟨⟨xs,xs[i],sq,Â hi⟩,λx H'' y=>?_⟩
 obtain⟨rfl,y⟩:=y;have hx:=y xs sq;exact⟨F',Ext.refl s2,((r.same s1).2 i t x ht hx).any⟩
theorem zfb{lo}:GC K (NR lo n) F (DO lo n):=by
 intro i F' H' s1 s2;refine⟨λt ht=>?_,λe=>?_⟩
 .unfold DO at ht;rw[Ä]at ht;obtain⟨j,e1,e2⟩:=à.mp ht
  have hi:=by
   have:=(Õ.mp e1).1
   simpa using this
  have hj:=by rw[Ĥ hi]at e1;exact ì e1
  subst hj;subst e2;refine⟨hi,λx H'' y=>?_⟩
  obtain⟨rfl,rfl⟩:=y;exact⟨F',Ext.refl s2,.int _⟩
 .have:n<=i:=by rw[e];simp[DO]
  exact this
theorem Y3{p}(n:∀F' H' ,Af F F'->Af F' H'->Am K H' p xs)(r:Ar K F l xs):GC K (NS K k p) F (Co k l):=by
 intro i F' H' s1 s2;have sq:=n F' H' s1 s2;refine⟨λt ht=>?_,λe=>⟨xs,sq,by rw[e,Zz,r.1];simp⟩⟩
 rw[Qq]at ht;obtain⟨t0,h0,rfl⟩:=à.mp ht
 have hi:i<xs.length:=by
  have:=(Õ.mp h0).1;have:=r.1
  omega
 refine⟨⟨xs,xs[i],sq,Â hi⟩,λx H'' y=>?_⟩
 obtain⟨q,y0,rfl,hq,rfl,y⟩:=y;have hx:=y xs sq;have e:=Ext.new (o:=.tup [.int (k+i),y0]) s2 hq;refine⟨_,e,Ar.of_node Bj ?_⟩;exact .cons (H:=H') (.int _) (.cons (H:=H') (((r.same (s1.trans e.ff)).2 i t0 y0 h0 hx).any) .nil)
theorem zle{p p2}(n:∀F' H' ,Af F F'->Af F' H'->Am K H' p xs)(n2:∀F' H' ,Af F F'->Af F' H'->Am K H' p2 ys)(r:Ar K F l xs)(r2:Ar K F l2 ys):GC K (SK K p p2) F (JE l l2):=by
 intro i F' H' s1 s2;have sq:=n F' H' s1 s2;have sq2:=n2 F' H' s1 s2;have l1:=r.1;have l2':=r2.1;refine⟨λt ht=>?_,λe=>⟨xs,ys,sq,sq2,?_⟩⟩
 .unfold JE at ht;rw[List.getElem?_zipWith]at ht;cases h1:l[i]? with
  |none=>rw[h1]at ht;cases ht|some t1=>
   cases h2:l2[i]? with
   |none=>rw[h1,h2]at ht;cases ht|some t2=>
    rw[h1,h2]at ht;cases ht;have hi:i<xs.length:=by have:=(Õ.mp h1).1;omega
    have hi2:i<ys.length:=by grind
    refine⟨⟨xs,xs[i],ys,ys[i],sq,Â hi,sq2,Â hi2⟩,λx H'' y=>?_⟩
    obtain⟨q,y0,z0,rfl,hq,rfl,y,z⟩:=y;have hx:=y xs sq;have hy:=z ys sq2;have e:=Ext.new (o:=.tup [y0,z0]) s2 hq;refine⟨_,e,Ar.of_node Bj ?_⟩;exact .cons (H:=H') (((r.same (s1.trans e.ff)).2 i t1 y0 h1 hx).any) (.cons (H:=H') (((r2.same (s1.trans e.ff)).2 i t2 z0 h2 hy).any) .nil)
 .have:i=min l.length l2.length:=by rw[e];simp[JE]
  omega
theorem PI.weak(h:PI X tg e t)(w:∀σ H P,t' σ H P->t σ H P):PI X tg e t':=λpz s σ H P I q=>h pz s σ H P I (w σ H P q)
theorem PI.or(h:PI X tg e t)(h':PI X tg e t'):PI X tg e (λσ H P=>t σ H P\/t' σ H P):=λpz s σ H P I q=>q.elim (h pz s σ H P I) (h' pz s σ H P I)
theorem V8(ha:PE X e (tM X.K E ca m)):PI X tg e (tI X.K E ca (IW m)):=by
 refine PI.weak (PI.or (zk8 ha) (zns ha)) λσ H P h=>?_
 obtain⟨F,τ,R,S,q⟩:=h;unfold IW at q
 have key:∀{o } {k } {l },m τ=some (.v (.nd o k l) false)->(∀F' H' J,Ext F H F' H' R0->GC X.K J F' (Bc l)->P J H')->∀F1 H1 x B,Ext F H F1 H1 B->EF X.K F1 H1 R (.nd o k l) false x B->∃(F2:Hp) (p:Addr) (xs:kK),x=.ref p/\Ext F H F2 H1 R0/\Fc X.K F2 k p xs/\Ar X.K F2 (Bc l) xs:=by
  intro o k l hm q F1 H1 x B e1 g1;obtain⟨F2,e2,_,r2⟩:=EF.frz S e1 g1;have r2' :=r2;rw[T.share]at r2';obtain⟨p,xs,rfl,_,n,kd⟩:=EN r2';exact⟨F2,p,xs,rfl,e2,n,kd⟩
 cases hm:m τ with
 |none=>erw[hm]at q<;>exact q.elim|some r=>
  erw[hm]at q;cases r with
  |x c=>exact .inl ⟨F,τ,R,S,by rw[hm];exact q⟩|v t bb=>
   cases t with
   |nd o k l=>
    cases bb with
    |true=>exact q.elim|false=>
     simp only at q;cases k with
     |lst=>refine .inl ⟨F,τ,R,S,?_⟩;rw[hm];intro F1 H1 x B e1 g1;obtain⟨F2,p,xs,rfl,e2,n,kd⟩:=key hm q F1 H1 x B e1 g1;exact⟨p,rfl,⟨xs,Am.of (e2.fh _ _ n)⟩,q F2 H1 _ e2 (QG (λF' H' s1 s2=>Am.of (s2 _ _ (s1 _ _ n))) kd)⟩
     |pin _=>refine .inl ⟨F,τ,R,S,?_⟩;rw[hm];intro F1 H1 x B e1 g1;obtain⟨F2,p,xs,rfl,e2,n,kd⟩:=key hm q F1 H1 x B e1 g1;exact⟨p,rfl,⟨xs,Am.of (e2.fh _ _ n)⟩,q F2 H1 _ e2 (QG (λF' H' s1 s2=>Am.of (s2 _ _ (s1 _ _ n))) kd)⟩
     |rl=>refine .inl ⟨F,τ,R,S,?_⟩;rw[hm];intro F1 H1 x B e1 g1;obtain⟨F2,p,xs,rfl,e2,n,kd⟩:=key hm q F1 H1 x B e1 g1;exact⟨p,rfl,⟨xs,e2.fh.seq n.l⟩,q F2 H1 _ e2 (QG (λF' H' s1 s2=>s2.seq (s1.seq n.l)) kd)⟩
     |tup=>refine .inr ⟨F,τ,R,S,?_⟩;rw[hm];intro F1 H1 x B e1 g1;obtain⟨F2,p,xs,rfl,e2,n,kd⟩:=key hm q F1 H1 x B e1 g1;exact⟨p,rfl,⟨xs,CV.of (e2.fh _ _ n)⟩,q F2 H1 _ e2 (Y2 (λF' H' s1 s2=>CV.of (s2 _ _ (s1 _ _ n))) kd)⟩
     |rt=>refine .inr ⟨F,τ,R,S,?_⟩;rw[hm];intro F1 H1 x B e1 g1;obtain⟨F2,p,xs,rfl,e2,n,kd⟩:=key hm q F1 H1 x B e1 g1;exact⟨p,rfl,⟨xs,GK e2.fh n⟩,q F2 H1 _ e2 (Y2 (λF' H' s1 s2=>GK s2 (GK s1 n)) kd)⟩
   |_=>exact q.elim
theorem Kx{f:(BQ)->BQ}   (hx:∀τ c,ms τ=some (.x c)->f ms τ=some (.x c))(hn:∀τ,ms τ=none->f ms τ=none)
  (hv : ∀ F τ R ts b, StR K F H σ τ R -> ms τ = some (.v ts b) -> (match f ms τ with
   |some (.v us _)=>∀F' H' J,Ext F H F' H' R0->GC K J F' us->P J H'|some (.x c)=>∀F' H',Ext F H F' H' R0->XE (E σ) ca c F' H'|none=>False)->∀F' H' xs,Ext F H F' H' R0->Ar K (Gz b F' H' R) ts xs->W xs H') (h:tI K E ca (f ms) σ H P):Bx K E ca ms σ H W:=by
 obtain⟨F,τ,R,S,q⟩:=h;refine⟨F,τ,R,S,?_⟩;cases hm:ms τ with
 |none=>rw[hn τ hm]at q;exact q.elim|some r=>
  cases r with
  |x c=>rw[hx τ c hm]at q;exact q|v ts b=>exact λF' H' xs e rs=>hv F τ R ts b S hm q F' H' xs e rs
theorem zhp(h:DE j=true):-(2 ^ 62)<=j/\j<2 ^ 62:=@of_decide_eq_true _ (Classical.propDecidable _) h
theorem zh7(hg:Gl X "range")(hm:X.mg "range"=none)(ha:PA X [a] (Bx X.K E ca ms))(hs:starEach [a] X.env=[(false,eval a X.env)]):PI X tg (.Call (.Name "range" p) [a] [] pos) (tI X.K E ca (C8 ms)):=by
 refine PI.weak (zey hg hm ha hs) λσ H P h=>?_
 refine Kx (λτ c e=>by unfold C8;rw[e]) (λτ e=>by unfold C8;rw[e]) (λF τ R ts b S e q F' H' xs e1 rs=>?_) h
 unfold C8 at q;rw[e]at q;simp only at q;cases h1:Mh ts with
 |none=>erw[h1]at q<;>exact q.elim|some j=>
  erw[h1]at q
  by_cases hj:DE j=true
  .erw[hj,Î]at q;obtain⟨g1,g2⟩:=zhp hj;unfold Mh at h1;split at h1
   .cases h1;obtain⟨x1,xs1,rfl,r1,rs1⟩:=rs.inv;cases rs1.inv0;rw[r1.int_inv];exact⟨j,rfl,g1,g2,q F' H' _ e1 zfb⟩
   .cases h1
  .erw[hj]at q;exact q.elim
theorem Jb(h:IV (.nd o k l)=true)(r:Rp K F F (.nd o k l) x R0):∃p xs,x=.ref p/\(∀F' H' ,Af F F'->Af F' H'->Am K H' p xs)/\Ar K F l xs:=by
 obtain⟨p,xs,rfl,_,n,kd⟩:=EN r;refine⟨p,xs,rfl,λF' H' s1 s2=>?_,kd⟩
 cases k with
 |lst=>exact Am.of (s2 _ _ (s1 _ _ n))|rl=>exact s2.seq (s1.seq n.l)|tup=>cases h|rt=>cases h|pin q=>exact Am.of (s2 _ _ (s1 _ _ n))
theorem V9(hg:Gl X "enumerate")(hm:X.mg "enumerate"=none)(ha:PA X [a] (Bx X.K E ca ms))(hs:starEach [a] X.env=[(false,eval a X.env)]):PI X (.Tuple elts kk tpos) (.Call (.Name "enumerate" p) [a] [] pos) (tI X.K E ca (Cw ms)):=by
 refine PI.weak (zk9 hg hm ha hs) λσ H P h=>?_
 refine Kx (λτ c e=>by unfold Cw;rw[e]) (λτ e=>by unfold Cw;rw[e]) (λF τ R ts b S e q F' H' xs e1 rs=>?_) h
 unfold Cw at q;rw[e]at q;cases b with
 |true=>exact q.elim|false=>
  simp only at q;cases h1:Hk ts with
  |none=>erw[h1]at q<;>exact q.elim|some l=>
   erw[h1]at q;unfold Hk at h1;split at h1
   .split at h1
    .cases h1;rename_i hL;obtain⟨x1,xs1,rfl,r1,rs1⟩:=rs.inv;cases rs1.inv0;obtain⟨p',ys,rfl,sq,kd⟩:=Jb hL r1;exact⟨p',rfl,⟨ys,sq F' H' (.refl _) e1.fh⟩,q F' H' _ e1 (Y3 sq kd)⟩
    .cases h1
   .cases h1
theorem r_zip(hg:Gl X "zip")(hm:X.mg "zip"=none)(ha:PA X [a,b] (Bx X.K E ca ms))(hs:starEach [a,b] X.env=[(false,eval a X.env),(false,eval b X.env)])(hs2:starEach [b] X.env=[(false,eval b X.env)]):PI X (.Tuple elts kk tpos) (.Call (.Name "zip" p) [a,b] [] pos) (tI X.K E ca (Ga ms)):=by
 refine PI.weak (znr hg hm ha hs hs2) λσ H P h=>?_
 refine Kx (λτ c e=>by unfold Ga;rw[e]) (λτ e=>by unfold Ga;rw[e]) (λF τ R ts b S e q F' H' xs e1 rs=>?_) h
 unfold Ga at q;rw[e]at q;cases b with
 |true=>exact q.elim|false=>
  simp only at q;cases h1:Mg ts with
  |none=>erw[h1]at q<;>exact q.elim|some lm=>
   obtain⟨l,m'⟩:=lm;erw[h1]at q;unfold Mg at h1;split at h1
   .split at h1
    .cases h1;rename_i hL;rw[Ê]at hL;obtain⟨x1,xs1,rfl,r1,rs1⟩:=rs.inv;obtain⟨x2,xs2,rfl,r2,rs2⟩:=rs1.inv;cases rs2.inv0;obtain⟨p',ys,rfl,sq,kd⟩:=Jb hL.1 r1;obtain⟨p2,zs,rfl,sq2,kd2⟩:=Jb hL.2 r2;exact⟨p',p2,rfl,⟨ys,sq F' H' (.refl _) e1.fh⟩,⟨zs,sq2 F' H' (.refl _) e1.fh⟩,q F' H' _ e1 (zle sq sq2 kd kd2)⟩
    .cases h1
   .cases h1
end
theorem StR.set{K}(S:StR K F H σ τ R)(r:Rp K F H t x A)(d:∀j a,j≠i->R j a->¬ A a)(hi:i<τ.length) :
  StR K F H (σ.set i (some x)) (τ.set i (some t)) (λj=>if j=i then A else R j):=by
 have hl:=S.len;refine⟨S.fh,by simp[hl],λj t' e=>?_,λj a z=>?_,λj k a hjk z1 z2=>?_⟩
 .by_cases hj:j=i
  .subst hj;rw[í hi]at e;cases e;exact⟨x,í (by omega),by simpa using r⟩
  .rw[ã (Ð hj)]at e ⊢;obtain⟨y,e1,r1⟩:=S.rep j t' e;exact⟨y,e1,by simpa[hj] using r1⟩
 .by_cases hj:j=i
  .subst hj;exact⟨t,í hi⟩
  .erw[hj,É]at z;obtain⟨t',e⟩:=S.out j a z;exact⟨t',by rw[ã (Ð hj)];exact e⟩
 .by_cases hj:j=i
  .erw[hj,Î]at z1;have hk:¬ k=i:=λz=>hjk (hj.trans z.symm)
   erw[hk,É]at z2;exact d k a hk z2 z1
  .erw[hj,É]at z1
   by_cases hk:k=i
   .erw[hk,Î]at z2;exact d j a hj z1 z2
   .erw[hk,É]at z2;exact S.dis j k a hjk z1 z2
def EW(K:k6)(b:T->AK->Option AK):TG:=λv σ H Q=>∃F τ R t τ',StR K F H σ τ R/\Rp K F H t v R0/\b t τ=some τ'/\∀σ' R',StR K F H σ' τ' R'->(∀i a,R' i a->R i a)->Q σ' H
def HE(K:k6)(b:kL->AK->Option AK):Ii:=λvs σ H Q=>∃F τ R ts τ',StR K F H σ τ R/\Ar K F ts vs/\b ts τ=some τ'/\∀σ' R',StR K F H σ' τ' R'->(∀i a,R' i a->R i a)->Q σ' H
def AD(i:Nat):T->AK->Option AK:=λt τ=>if i<τ.length then some (τ.set i (some t)) else none
def Az:kL->AK->Option AK
 |[],τ=>some τ|_::_,_=>none
def AM(b:T->AK->Option AK)(bs:kL->AK->Option AK):kL->AK->Option AK
 |t::ts,τ=>(match b t τ with
  |some τ'=>bs ts τ'|none=>none)
 |[],_=>none
def Ax(n:Nat)(bs:kL->AK->Option AK):T->AK->Option AK
 |.nd _ .tup l,τ=>if l.length=n then bs l τ else none
 |.nd _ .rt l,τ=>if l.length=n then bs l τ else none
 |.nd _ .lst l,τ=>if l.length=n then bs l τ else none
 |_,_=>none
theorem znv       (hc:X.calm=true)(h:ED X es t)(hn:(assignEach es X.env).length=n)(hst:(assignEach es X.env).findIdx? (·.1)=none):PG X (.Tuple es k pos) (λv σ H Q=>QT X.K n t v σ H Q\/∃a xs,v=.ref a/\Am X.K H a xs/\xs.length=n/\t xs σ H Q):=by
 intro pz s σ H v u Q I r hw
 rcases hw with hw|⟨a,xs,e1,hq,hl,hw⟩
 .exact znu hc h hn hst pz s σ H v u Q I r hw
 .subst e1;cases r;obtain⟨its,rv,⟨o,m,ho,hcl,_,hd⟩,hz⟩:=I.list hq;refine Á (ĕ ?_);unfold unpack;rw[hst,hn,show n=its.toArray.size by simp[<- hl,rv.length]]
  refine Á (ð (W.kun_itemsOf (I.ok.hd hc) ⟨o,ho,hcl,m,hd⟩ λh' hx=>?_))
  have I1 :=I.kept (t':=s.toks) λb o e=>hx b o (Ö (Æ e)) e
  exact h pz _ σ H xs _ Q I1 (by grind) hw
section
variable {X:Cx}{e:Expr}{es:kC}{pos:Pos}{b:T->AK->Option AK}{bs:kL->AK->Option AK}
theorem PG.weak(h:PG X e t)(w:∀v σ H Q,t' v σ H Q->t v σ H Q):PG X e t':=λpz s σ H v u Q I r q=>h pz s σ H v u Q I r (w v σ H Q q)
theorem ED.weak(h:ED X es t)(w:∀v σ H Q,t' v σ H Q->t v σ H Q):ED X es t':=λpz s σ H v u Q I r q=>h pz s σ H v u Q I r (w v σ H Q q)
theorem g_nm(hN:X.N.Nodup)(hi:X.N[i]?=some x)(hx:Gk X.env.scope x)(hf:X.fn x=true\/X.env.scope.names.lookup x=some .local):PG X (.Name x pos) (EW X.K (AD i)):=by
 refine PG.weak (zkb hN hi hx hf) λv σ H Q h=>?_
 obtain⟨F,τ,R,t,τ',S,r,e,q⟩:=h;unfold AD at e;split at e
 .cases e;rename_i hl;refine q _ _ (S.set r (λ_ _ _ _ z=>z.elim) hl) λj a z=>?_
  by_cases hj:j=i
  .erw[hj]at z;exact z.elim
  grind
 .cases e
theorem g_nil:ED X [] (HE X.K Az):=ED.weak zka λv σ H Q h=>by
 obtain⟨F,τ,R,ts,τ',S,r,e,q⟩:=h;cases ts with
 |nil=>cases e;exact⟨r.inv0,q σ R S λ_ _ z=>z⟩|cons _ _=>cases e
theorem zph(h1:PG X e (EW X.K b))(h2:ED X es (HE X.K bs))(hs:(assignEach (e::es) X.env).map (·.2)=assign e X.env::(assignEach es X.env).map (·.2)):ED X (e::es) (HE X.K (AM b bs)):=by
 refine ED.weak (zhf h1 h2 hs) λv σ H Q h=>?_
 obtain⟨F,τ,R,ts,τ',S,r,e,q⟩:=h;cases ts with
 |nil=>cases e|cons t ts=>
  obtain⟨x,xs,rfl,r1,rs⟩:=r.inv;unfold AM at e;simp only at e;cases hb:b t τ with
  |none=>grind|some τ1=>rw[hb]at e;exact⟨x,xs,rfl,F,τ,R,t,τ1,S,r1.any,hb,λσ1 R1 S1 w1=>⟨F,τ1,R1,ts,τ',S1,rs,e,λσ2 R2 S2 w2=>q σ2 R2 S2 λi a z=>w1 i a (w2 i a z)⟩⟩
theorem g_tup(hc:X.calm=true)(h:ED X es (HE X.K bs))(hn:(assignEach es X.env).length=n)(hst:(assignEach es X.env).findIdx? (·.1)=none):PG X (.Tuple es k pos) (EW X.K (Ax n bs)):=by
 refine PG.weak (znv hc h hn hst) λv σ H Q h=>?_
 obtain⟨F,τ,R,t,τ',S,r,e,q⟩:=h
 have key:∀{o} {kd:Kd} {l:kL},t=.nd o kd l->(kd=.tup\/kd=.rt\/kd=.lst)->(if l.length=n then bs l τ else none)=some τ'->(QT X.K n (HE X.K bs) v σ H Q\/∃a xs,v=.ref a/\Am X.K H a xs/\xs.length=n/\HE X.K bs xs σ H Q):=by
  intro o kd l et hk e';subst et;split at e'
  .rename_i hl;obtain⟨p,xs,rfl,_,nn,kid⟩:=EN (r.any (H':=F));have hx:xs.length=n:=by rw[<- kid.1];exact hl
   rcases hk with rfl|rfl|rfl
   .exact .inl ⟨p,xs,rfl,CV.of (S.fh _ _ nn),hx,F,τ,R,l,τ',S,kid,e',q⟩
   .exact .inl ⟨p,xs,rfl,GK S.fh nn,hx,F,τ,R,l,τ',S,kid,e',q⟩
   .exact .inr ⟨p,xs,rfl,Am.of (S.fh _ _ nn),hx,F,τ,R,l,τ',S,kid,e',q⟩
  .cases e'
 unfold Ax at e;split at e
 .exact key rfl (.inl rfl) e
 .exact key rfl (.inr (.inl rfl)) e
 .exact key rfl (.inr (.inr rfl)) e
 .cases e
end
section
abbrev J5(l:Addr):Obj:={ cls:=.type "list_iterator",data:=.fields #[.ref l,.int 0 0] }
abbrev Qr(p:Addr)(k:Int):Obj:={ cls:=.type "enumerate",data:=.fields #[.none,.bool false,.ref p,rawInt k,.none,.none] }
set_option maxHeartbeats 1000001 in
theorem zkx(l:Addr)(its:Array Value)(n:Nat)(d:Option Addr)(sl:Array (Option Value))(t:Tok) :
  Meets (Builtin.«enumerate.__new__» ⟨[.type "enumerate",.ref l],[("start",.int 1 t)]⟩) (λ_ R s=>s.heap.get? l=some ⟨.type "list",d,.seq its n,sl⟩ /\
   R (.ok (.ret (.ref (s.heap.push (J5 l)).objs.size))) { s with heap:=(s.heap.push (J5 l)).push (Qr s.heap.objs.size 1) }):=Meets.of_wp λprog w A R s h=>by
 obtain⟨hp,g,d2,tk,os⟩:=s;obtain⟨hl,h⟩:=h;have hsub:=sub_enumerate;have hL:Heap.IsList (Shared.heap ⟨hp,g,d2,tk,os⟩) l its:=⟨_,hl,rfl,n,rfl⟩
 wp_walk using ť hl
 refine wpAny_stack_any λst=>Ç ?_
 split
 .rename_i c _ _ _ _ _;cases (c == Value.type "enumerate")
  .wp_walk using ť hl,Ī hL
   exact⟨_,rfl,h⟩
  .wp_walk using ť hl,Ī hL
   exact⟨_,rfl,h⟩
 .wp_walk using ť hl,Ī hL
  exact⟨_,rfl,h⟩
set_option maxHeartbeats 1000001 in
theorem zi2(x l:Addr)(t:Tok):Meets (Builtin.«object.__init__» ⟨[.ref x,.ref l],[("start",.int 1 t)]⟩) (λ_ R s=>s.TypeIs (.ref x) "enumerate"/\R (.ok (.ret .none)) s):=Meets.of_wp λprog w A R s hs=>by
 obtain⟨hT,hq⟩:=hs;have hl:=Ź.init.lookup;have hm:=Ź.made;have hne:(some "enumerate.__new__" != some "object.__new__")=true:=by decide
 repeat (any_goals (first|assumption|wp_step))
 exact⟨_,rfl,hq⟩
set_option maxHeartbeats 1000001 in
theorem zix{prog:Program}{w:World}{A:Around}{E:Value->Shared->Prop}{s:Shared}{l:Addr}{its:Array Value}{t:Tok}{Q:Value->Shared->Prop}(hL:s.heap.IsList l its)
  (h:∀h',IsEnum h' (s.heap.objs.size+1) s.heap.objs.size 1 .none->h'.IsListIter s.heap.objs.size l 0->h'.objs.size=s.heap.objs.size+2->(∀b o,s.heap.get? b=some o->h'.get? b=some o)->Q (.ref (s.heap.objs.size+1)) { s with heap:=h' }) :
  wpAny (model prog w) A (call (.type "enumerate") [.ref l] [("start",.int 1 t)]) Q E s:=by
 obtain⟨⟨c,d,dt,sl⟩,hl,hc,n,hd⟩:=hL
 replace hc:c=.type "list":=hc
 replace hd:dt=.seq its n:=hd
 subst hc hd;have ft:=Ź;obtain⟨c,tl,hmro⟩:=ft.mro;have hmade:=ft.made;have hsub:=ft.sub;have hct:checkTypeCall "enumerate" ⟨[.ref l],[("start",.int 1 t)]⟩=pure ():=by ext
 have hcn:checkBuiltinCall "enumerate.__new__" ⟨[.type "enumerate",.ref l],[("start",.int 1 t)]⟩=pure ():=by ext
 refine Ď (codeAny_of_tree ?_);refine Ç ⟨Ŗ _ (by decide +kernel),Ŧ F.entry_type_call ?_⟩
 rw[Around.under_plain (weight_type_call_type "enumerate" _ _) (units_type_call_type "enumerate" _ _)];have h1:=ft.notType;have h2:=ft.canCreate
 repeat (any_goals (first|assumption|wp_step))
 refine ą (Ŋ ft.plain F.entry_enumerate_new (ė hcn (zkx l its n d sl t prog w A.in1 (wants (λo s1=>o=.ref (s.heap.objs.size+1)/\s1.TypeIs o "enumerate"/\Q o s1) E) s ⟨hl,?_⟩))) λr s1 hr=>?_
 .have hz:(s.heap.push (J5 l)).objs.size=s.heap.objs.size+1:=ċ ..
  have he:IsEnum ((s.heap.push (J5 l)).push (Qr s.heap.objs.size 1)) (s.heap.objs.size+1) s.heap.objs.size 1 .none:=by
   have:=æ (s.heap.push (J5 l)) (o:=Qr s.heap.objs.size 1) rfl;rw[hz]at this;exact this
  show _/\_;rw[hz];exact⟨rfl,⟨_,he,rfl⟩,h _ he ⟨_,Ì _ (æ _ rfl),rfl,rfl⟩ (by rw[ċ,hz]) λb o x=>Ì _ (Ì _ x)⟩
 .cases r with
  |error e=>exact hr|ok fl=>
   cases fl with
   |ret obj=>
    obtain⟨rfl,hT,hq⟩:=hr;have hli:=ft.init.lookup;have hbi:=ft.init.bind (.ref (s.heap.objs.size+1));have hok:argsOk "object.__init__" ⟨[.ref (s.heap.objs.size+1),.ref l],[("start",.int 1 t)]⟩:=by ext
    repeat (any_goals (first|assumption|wp_step))
    refine ą (Ŋ ft.init.plain F.entry_object_init (ft.init.check _ _ _ _ _ _ _ _ hT hok (zi2 _ l t prog w A.in1 (wants (λr s2=>r=.none/\Q (.ref (s.heap.objs.size+1)) s2) E) s1 ⟨hT,rfl,hq⟩))) λr2 s2 hr2=>?_
    cases r2 with
    |error e=>exact hr2|ok fl2=>
     cases fl2 with
     |ret r=>
      obtain⟨rfl,hq⟩:=hr2
      repeat (any_goals (first|assumption|wp_step))
     |_=>exact hr2.elim
   |_=>exact hr.elim
end
section
variable {X:Cx}{a:Expr}{elts:kC}{kk ko:Nat}{tpos p pos kp vp:Pos}{E:L2.St->XK}{ca:Str->Value}{ms:BQ}
abbrev MF(ko:Nat)(vp kp:Pos):List Keyword:=[⟨some (Str.ofString "start"),.Constant (.int 1) ko vp,kp⟩]
theorem zpm{T}(h1:args.any (·.1)=false)(h2:ks.any (·.1.isNone)=false)
  (h:wpAny M A (evalArgs (.type T) true args ks) (λa s1=>wpAny M A (call (.type T) a.pos a.kw) Q R s1) R s):wpAny M A (callWith pos (.type T) [] args ks) Q R s:=by
 refine Á (ð (AX h λa s1 q=>Á (ĕ ?_)))
 erw[h1,h2];exact Á (Ç (Á (AX q λr s2 z=>Á (ð (wpAny_point (Ç z))))))
def zpb(K:k6)(ta:TA):TI:=λσ H R=>ta σ H λvs H1=>∃a,vs=[.ref a]/\(∃xs,Am K H1 a xs)/\R (NS K 1 a) H1
theorem zhe(hg:Gl X "enumerate")(hm:X.mg "enumerate"=none)(ha:PA X [a] ta)(hs:starEach [a] X.env=[(false,eval a X.env)]):PI X (.Tuple elts kk tpos) (.Call (.Name "enumerate" p) [a] (MF ko vp kp) pos) (zpb X.K ta):=by
 intro pz s σ H R I h;have he:eval (.Call (.Name "enumerate" p) [a] (MF ko vp kp) pos) X.env=(do callWith pos (<- eval (.Name "enumerate" p) X.env) [] (backTo pos (starEach [a] X.env)) (backToKw pos (keywordEach (MF ko vp kp) X.env))):=by rfl
 rw[he];refine Á (G6 I hg hm boot_enumerate (zpm (by rw[hs];rfl) rfl ?_))
 have hb:backTo pos (starEach [a] X.env)=[(false,eval a X.env)]:=by rw[hs];rfl
 have h0:=ha pos pz s σ H _ I h;rw[hb]at h0 ⊢;refine evalArgs_kwB rfl (AX h0 λus s1 ⟨vs,H1,I1,r1,q1⟩=>kws_cons ?_)
 refine wpAny_Constant_int (kws_nil ?_);obtain⟨l,e,⟨xs,hq⟩,q⟩:=q1;subst e;obtain⟨u,rfl,ru⟩:=FK r1;cases ru;have I2:Inv X pz σ H1 { s1 with toks:=s1.toks+1 }:=I1.tok _
 obtain⟨its,rv,pl,hz⟩:=I2.list hq;refine zix pl.isList λh' he hit hsz hk=>?_
 have I3:Inv X pz σ H1 { s1 with heap:=h',toks:=s1.toks+1 }:=I2.kept hk
 refine Ε he ⟨s1.heap.objs.size+1,[s1.heap.objs.size+1,s1.heap.objs.size],_,_,H1,rfl,I3,Sz 1 l _ _ (by simp),⟨⟨_,by simpa using he⟩,hit⟩,λb hb=>?_,q⟩
 have hb':s1.heap.objs.size<=b:=by
  obtain rfl|hb:=Ï.mp hb
  .exact Ą _
  .rw[Í.mp hb];exact È _
 exact I1.fpOk hb' (I1.hok.fresh hb')
def Gb(ms:BQ):BQ:=λτ=>match ms τ with
 |some (.v ts false)=>(match Hk ts with
  |some l=>some (.v (Co 1 l) false)|none=>none)
 |some (.v _ true)=>none|r=>r
theorem r_en1(hg:Gl X "enumerate")(hm:X.mg "enumerate"=none)(ha:PA X [a] (Bx X.K E ca ms))(hs:starEach [a] X.env=[(false,eval a X.env)]):PI X (.Tuple elts kk tpos) (.Call (.Name "enumerate" p) [a] (MF ko vp kp) pos) (tI X.K E ca (Gb ms)):=by
 refine PI.weak (zhe hg hm ha hs) λσ H P h=>?_
 refine Kx (λτ c e=>by unfold Gb;rw[e]) (λτ e=>by unfold Gb;rw[e]) (λF τ R ts b S e q F' H' xs e1 rs=>?_) h
 unfold Gb at q;rw[e]at q;cases b with
 |true=>exact q.elim|false=>
  simp only at q;cases h1:Hk ts with
  |none=>erw[h1]at q<;>exact q.elim|some l=>
   erw[h1]at q;unfold Hk at h1;split at h1
   .split at h1
    .cases h1;rename_i hL;obtain⟨x1,xs1,rfl,r1,rs1⟩:=rs.inv;cases rs1.inv0;obtain⟨p',ys,rfl,sq,kd⟩:=Jb hL r1;exact⟨p',rfl,⟨ys,sq F' H' (.refl _) e1.fh⟩,q F' H' _ e1 (Y3 sq kd)⟩
    .cases h1
   .cases h1
end
def cB:L2.St->XK:=λ_=>E0
noncomputable def Ba(b:T->AK->Option AK)(mt me:AI):kL->AK->Option (kL)
 |[],_=>some []|t::ts,τ=>(match b t τ with
  |some τ1=>(match mt τ1 with
   |some (.v (.bl true) _)=>(match me τ1 with
    |some (.v v false)=>(match Ba b mt me ts τ1 with
     |some l=>some (v::l)|none=>none)
    |_=>none)
   |some (.v (.bl false) _)=>Ba b mt me ts τ1|_=>none)
  |none=>none)
noncomputable def Fu(b:T->AK->Option AK)(mt me:AI):kL->AK->Option Str
 |[],_=>none|t::ts,τ=>(match b t τ with
  |some τ1=>(match mt τ1 with
   |some (.v (.bl true) _)=>(match me τ1 with
    |some (.v _ false)=>Fu b mt me ts τ1|some (.x c)=>some c|_=>none)
   |some (.v (.bl false) _)=>Fu b mt me ts τ1|some (.x c)=>some c|_=>none)
  |none=>none)
noncomputable def Ma(τ:AK)(j:Nat):kH:=match τ[j]? with
 |some (some t)=>if t.sh then some t else none
 |_=>none
def blk(n:Nat)(caps:kG)(τ:AK):AK:=List.replicate n none++caps.map (Ma τ)
noncomputable def RG(σ:L2.St)(j:Nat):Option V:=match σ[j]? with
 |some (some v)=>some v|_=>none
def Eo(n:Nat)(caps:kG)(σ:L2.St):L2.St:=List.replicate n none++caps.map (RG σ)
def BU(n:Nat)(caps:kG)(mi:BQ)(b:T->AK->Option AK)(mt me:AI):AI:=λτ=>match mi τ with
 |some (.v ts _)=>if ts.length<=Bh then (match Ba b mt me ts (blk n caps τ) with
  |some l=>some (.v (.own l) false)|none=>(match Fu b mt me ts (blk n caps τ) with
   |some c=>some (.x c)|none=>none)) else none
 |some (.x c)=>some (.x c)|none=>none
theorem zps{K}(S:StR K F H σ τ R)(n)(caps):StR K F H (Eo n caps σ) (blk n caps τ) (λ_=>R0):=by
 refine⟨S.fh,by simp[Eo,blk],λi t e=>?_,λ_ _ z=>z.elim,λ_ _ _ _ z=>z.elim⟩
 unfold blk at e;unfold Eo
 by_cases hi:i<n
 .rw[ć (by simpa using hi),Ů,if_pos hi]at e
  cases e
 .rw[ę (by simp;omega),Ä]at e ⊢
  erw[ų]at e ⊢;cases hc:caps[i - n]? with
  |none=>rw[hc]at e;cases e|some j=>
   rw[hc]at e;erw[Ă]at e ⊢;have e':=ì e;unfold Ma at e';split at e'
   .rename_i t' ht;split at e'
    .cases e';rename_i hs;obtain⟨x,ex,r⟩:=S.rep j _ ht;refine⟨x,?_,r.move hs (.refl _)⟩;unfold RG;rw[ex]
    .cases e'
   .cases e'
theorem To{l:kL}(h:tot (λj=>if j=l.length then B else Rr j) a):tot Rr a\/B a:=by
 obtain⟨j,z⟩:=h
 by_cases hj:j=l.length
 .grind
 .erw[hj]at z;exact .inl ⟨j,z⟩
section
variable {X:Cx}{E:L2.St->XK}{ca:Str->Value}{σ:L2.St}{H:Hp}{K:k6}{n:Nat}{caps:kG}{mi:BQ}{b:T->AK->Option AK}{mt me:AI}
theorem zf8(h:Ba b mt me (t::us) τ1=some l2):∃τ2,b t τ1=some τ2/\((∃bt,mt τ2=some (.v (.bl false) bt)/\Ba b mt me us τ2=some l2)\/∃bt w l3,mt τ2=some (.v (.bl true) bt)/\me τ2=some (.v w false)/\Ba b mt me us τ2=some l3/\l2=w::l3):=by
 unfold Ba at h
 grind
theorem zhy(h:Fu b mt me (t::us) τ1=some c):∃τ2,b t τ1=some τ2/\((∃bt,mt τ2=some (.v (.bl false) bt)/\Fu b mt me us τ2=some c)\/(∃bt,mt τ2=some (.v (.bl true) bt)/\((∃w,me τ2=some (.v w false)/\Fu b mt me us τ2=some c)\/me τ2=some (.x c)))\/mt τ2=some (.x c)):=by
 unfold Fu at h
 grind
theorem TY  (h:tM K E ca (BU n caps mi b mt me) σ H Q):Kw (Eo n caps) (tI K E ca mi) (EW K b) (B5 K (λ_=>E σ) ca mt) (tM K (λ_=>E σ) ca me) σ H Q:=by
 obtain⟨F,τ,R,S,q⟩:=h;refine⟨F,τ,R,S,?_⟩;unfold BU at q;cases hi:mi τ with
 |none=>erw[hi]at q<;>exact q.elim|some r=>
  erw[hi]at q;cases r with
  |x c=>exact q|v ts bb=>
   intro F1 H1 J e1 its
   by_cases hz':¬ ts.length<=Bh
   .erw[hz',É]at q<;>exact q.elim
   have hz :=Decidable.not_not.mp hz';erw[hz,Î]at q
   obtain⟨G,g1,g0,gs⟩:∃G:kL->AK->kL->Prop,(∀t us τ1 l,G (t::us) τ1 l->∃τ2,b t τ1=some τ2/\((∃bt,mt τ2=some (.v (.bl false) bt)/\G us τ2 l)\/(∃bt,mt τ2=some (.v (.bl true) bt)/\((∃w,me τ2=some (.v w false)/\G us τ2 (l++[w]))\/∃c,me τ2=some (.x c)/\∀F' H',Ext F H F' H' R0->XE (E σ) ca c F' H'))\/∃c,mt τ2=some (.x c)/\∀F' H',Ext F H F' H' R0->XE (E σ) ca c F' H')) /\
     (∀τ1 l,G [] τ1 l->∀F' H' x B,Ext F H F' H' B->Rp K F' H' (.own l) x B->Q x H')/\G ts (blk n caps τ) []:=by
    cases hg:Ba b mt me ts (blk n caps τ) with
    |some res=>
     erw[hg]at q;refine⟨λus τ1 l=>∃l2,Ba b mt me us τ1=some l2/\l++l2=res,λt us τ1 l z=>?_,λτ1 l z=>?_,res,hg,rfl⟩
     .obtain⟨l2,z,e⟩:=z;obtain⟨τ2,y,w|⟨bt,w,l3,y1,y2,y3,rfl⟩⟩:=zf8 z
      .obtain⟨bt,w1,w2⟩:=w;exact⟨τ2,y,.inl ⟨bt,w1,l2,w2,e⟩⟩
      .exact⟨τ2,y,.inr (.inl ⟨bt,y1,.inl ⟨w,y2,l3,y3,by simpa using e⟩⟩)⟩
     .obtain⟨l2,z,e⟩:=z;cases z;rw[ç]at e;subst e;exact q
    |none=>
     erw[hg]at q;cases hx:Fu b mt me ts (blk n caps τ) with
     |none=>erw[hx]at q<;>exact q.elim|some c=>
      erw[hx]at q;refine⟨λus τ1 l=>Fu b mt me us τ1=some c,λt us τ1 l z=>?_,λτ1 l z=>(by cases z),hx⟩
      obtain⟨τ2,y,w|⟨bt,y1,⟨w,y2,y3⟩|y2⟩|w⟩:=zhy z
      .exact⟨τ2,y,.inl w⟩
      .exact⟨τ2,y,.inr (.inl ⟨bt,y1,.inl ⟨w,y2,y3⟩⟩)⟩
      .exact⟨τ2,y,.inr (.inl ⟨bt,y1,.inr ⟨c,y2,q⟩⟩)⟩
      .exact⟨τ2,y,.inr (.inr ⟨c,w,q⟩)⟩
   have S1:=S.ext e1;refine⟨λi ys st H'=>∃(F':Hp) (τ':AK) (l:kL) (Rr:Nat->Rg),Ext F1 H1 F' H' (tot Rr)/\RpO K F' H' l ys Rr/\StR K F' H' st τ' (λ_=>R0)/\i<=ts.length/\G (ts.drop i) τ' l/\l.length<=i,ts.length,by rw[<- Ft];exact hz,?_,?_⟩
   .exact⟨F1,blk n caps τ,[],λ_=>R0,(Ext.refl S1.fh).mono λa ⟨_,z⟩=>z.elim,.nil,zps S1 n caps,õ _,gs,È _⟩
   .rintro i ys st H' ⟨F',τ',l,Rr,e2,ro,S2,hle,hgo,hll⟩;have hly:=ro.len;refine⟨by omega,hle,?_⟩
    obtain⟨i1,i2⟩:=its i F' H' e2.ff e2.fh
    by_cases hlt:i<ts.length
    .refine .inr ⟨hlt,?_⟩;obtain⟨go,yld⟩:=i1 _ (Â hlt);refine⟨go,λx H'' y=>?_⟩
     obtain⟨F'',e3,rx⟩:=yld x H'' y;have S3:=S2.ext e3;rw[Ō hlt]at hgo;obtain⟨τ1,hb,hgo⟩:=g1 _ _ _ _ hgo;refine⟨F'',τ',_,ts[i],τ1,S3,rx,hb,λst1 R1 S4 hR1=>?_⟩
     have R1e :=funext λj=>funext λa=>propext ⟨λz=>hR1 j a z,λz=>z.elim⟩
     subst R1e;refine⟨F'',τ1,_,S4,?_⟩;have eX:∀{c },(∀F' H',Ext F H F' H' R0->XE (E σ) ca c F' H')->∀F' H',Ext F'' H'' F' H' R0->XE (E σ) ca c F' H':=λz F' H' e=>z F' H' (((e1.trans0 e2).trans (e3.trans0 e)).mono λ_ z=>z.elim)
     rcases hgo with ⟨bt,ht,hgo⟩|⟨bt,ht,hgo⟩|⟨c,ht,hX⟩
     .rw[ht];intro F4 H4 e4;exact J9 ⟨F4,τ1,l,Rr,(e2.trans ((e3.trans0 e4).mono λ_ z=>z)).mono λa z=>.inl z,(ro.ext e3).ext e4,S4.ext e4,hlt,hgo,by omega⟩
     .rw[ht];intro F4 H4 e4;have S5:=S4.ext e4;have e24:=e2.trans ((e3.trans0 e4).mono λ_ z=>z)
      refine J8 ⟨F4,τ1,_,S5,?_⟩
      rcases hgo with ⟨ve,he,hgo⟩|⟨c,he,hX⟩
      .rw[he];intro F5 H5 y B e5 ry;have ry' :=ry;have ro4:=(ro.ext e3).ext e4;have ro5:=ro4.ext e5;refine⟨F5,τ1,l++[ve],_,(e24.trans e5).mono ?_,ro5.snoc ry' (λj a z1 z2=>ro4.apart e5 z2 j z1),S5.ext e5,hlt,hgo,by simp;omega⟩
       intro a z
       rcases To z with z|z
       .exact .inl (.inl z)
       .exact .inr z
      .rw[he];exact λF' H' e=>eX hX F' H' (e4.trans0 e)
     .rw[ht];exact eX hX
    .have hi':i=ts.length:=by omega
     subst hi';refine .inl ⟨i2 rfl,λp hp=>?_⟩
     rw[List.drop_length]at hgo;obtain⟨rl,e3⟩:=ro.list e2.fh hp;refine g0 _ _ hgo F' _ _ _ (((e1.trans0 e2).trans e3).mono ?_) rl;rintro a (z|⟨j,z⟩)
     .exact .inr z
     .exact .inl ⟨j,z⟩
structure BlkOk(X:Cx)(scope:Scope)(N':kE)(n:Nat)(caps:kG):Prop where
 kind:scope.kind=.function
 names:∀y∈scope.names,y.2=.local->scope.names.lookup y.1=some .local
 len:N'.length=n+caps.length
 cap:∀(k j:Nat),caps[k]?=some j->∃y,X.N[j]?=some y/\N'[n+k]?=some y/\scope.names.lookup y=some .free/\(y,NameKind.cell)∉scope.names
 free:∀y∈scope.names,y.2=.free->scope.names.lookup y.1=some .free/\(X.env.scope.names.lookup y.1=some .cell\/X.env.scope.names.lookup y.1=some .free)
theorem Pq{env:Env}(y:Str):∀(names:List (Str×NameKind)),(names.map λ(n,k)=>if (k == NameKind.free && env.scope.kind == .function && env.kindOf n == some .cell) then (n,NameKind.cell) else (n,k)).lookup y =
  (names.lookup y).map λk=>if (k == NameKind.free && env.scope.kind == .function && env.kindOf y == some .cell) then .cell else k
 |[]=>rfl|(n,k)::r=>by
  rw[Ò];cases hy:y == n with
  |true=>grind|false=>
   by_cases hc:(k == .free && env.scope.kind == .function && env.kindOf n == some .cell)=true
   .erw[hc,Î,ĉ,hy];exact Pq y r
   .erw[hc,hy];erw[Ő,É,ĉ,hy];exact Pq y r
theorem OX(scope)(env)(y):(relabel scope env).names.lookup y=(scope.names.lookup y).map λk=>if (k == NameKind.free && env.scope.kind == .function && env.kindOf y == some .cell) then .cell else k:=Pq y scope.names
theorem Pr:∀{names:List (Str×NameKind)},names.lookup y=some k->(y,k)∈names:=λh=>đ h
theorem bM(B:BlkOk X scope N' n caps) (I:Inv X pz σ H s) :
  ∃cl,closureFor scope X.env=pure cl/\(∀y c,cl.lookup y=some c->X.env.cells.lookup y=some c)/\(∀y,(relabel scope X.env).names.lookup y=some .cell\/(relabel scope X.env).names.lookup y=some .free->(y,NameKind.cell)∈scope.names\/∃c,cl.lookup y=some c) /\
   (∀(σ) (i:Nat) (y) (v),N'[i]?=some y->(Eo n caps σ)[i]?=some (some v)->(y,NameKind.cell)∉scope.names) /\
   (∀σ,σ.length=X.N.length->(Eo n caps σ).length=N'.length) /\
   (∀(σ) (i:Nat) (y) (v),N'[i]?=some y->(Eo n caps σ)[i]?=some (some v)->((relabel scope X.env).names.lookup y=some .cell\/(relabel scope X.env).names.lookup y=some .free)/\∃j:Nat,X.N[j]?=some y/\σ[j]?=some (some v)/\EA X.env.scope y/\X.env.kindOf y≠some .local):=by
 obtain⟨cl,h1,h2,h3⟩:=zdj scope X.env λy hy hf=>I.ok.has y.1 (B.free y hy hf).2
 have Ih:∀(σ) (i:Nat) (y) (v),N'[i]?=some y->(Eo n caps σ)[i]?=some (some v)->∃j:Nat,X.N[j]?=some y/\σ[j]?=some (some v)/\scope.names.lookup y=some .free/\(y,NameKind.cell)∉scope.names:=by
  intro σ i y v e1 e2;unfold Eo at e2
  by_cases hi:i<n
  .rw[ć (by simpa using hi),Ů,if_pos hi]at e2
   cases e2
  .rw[ę (by simp;omega),Ä]at e2
   erw[ų]at e2;cases hc:caps[i - n]? with
   |none=>rw[hc]at e2;cases e2|some j=>
    rw[hc]at e2;erw[Ă]at e2;have e' :=ì e2;obtain⟨y',g1,g2,g3,g4⟩:=B.cap (i - n) j hc;have en:n+(i - n)=i:=by omega
    rw[en,e1]at g2;cases g2
    have sv :=by
     unfold RG at e';split at e'
     .rename_i v' hv;cases e';exact hv
     .cases e'
    exact⟨j,g1,sv,g3,g4⟩
 refine⟨cl,h1,h2,λy hy=>?_,λσ i y v e1 e2=>?_,λσ hσ=>by simp[Eo,B.len],λσ i y v e1 e2=>?_⟩
 .cases hk:scope.names.lookup y with
  |none=>
   rw[OX,hk]at hy
   rcases hy with hy|hy<;>cases hy
  |some k=>
   by_cases hf:k=.free
   .subst hf;exact .inr (h3 _ (Pr hk) rfl)
   .rw[OX,hk]at hy;erw[Ă]at hy;have hf' :=beq_eq_false_iff_ne.mpr hf;erw[hf',Bool.false_and,Ő,É]at hy
    rcases hy with hy|hy
    .cases hy;exact .inl (Pr hk)
    .cases hy;exact absurd rfl hf
 .exact(Ih σ i y v e1 e2).choose_spec.2.2.2
 .obtain⟨j,g1,sv,g3,g4⟩:=Ih σ i y v e1 e2;have fr:=B.free _ (Pr g3) rfl;refine⟨?_,j,g1,sv,?_,?_⟩
  .rw[OX,g3];erw[Ă]
   by_cases hc2:(NameKind.free == NameKind.free && X.env.scope.kind == .function && X.env.kindOf y == some .cell)=true
   .exact .inl (by rw[if_pos hc2])
   .exact .inr (by rw[if_neg hc2])
  .rcases fr.2 with z|z
   .exact .inr (.inl z)
   .exact .inr (.inr z)
  .intro z;have z':X.env.scope.names.lookup y=some .local:=z
   rcases fr.2 with w|w
   .rw[z']at w;cases w
   .rw[z']at w;cases w
theorem r_lcV(B:BlkOk X scope N' n caps)(hc:∀pz σ H s cl C ex xb,Inv X pz σ H s->cq (BL X scope cl N' C s H ex xb))(hi:PJ cq X tg iter (tI X.K E ca mi))
  (hps:BW X E) (hst:Hw X) (hg:∀cl C s₀ H₀ ex xb E',BW (BL X scope cl N' C s₀ H₀ ex xb) E'->PG (BL X scope cl N' C s₀ H₀ ex xb) tg (EW X.K b)) (ht:∀cl C s₀ H₀ ex xb E',BW (BL X scope cl N' C s₀ H₀ ex xb) E'->Gj (BL X scope cl N' C s₀ H₀ ex xb) ifs (B5 X.K E' ca mt)) (he:∀cl C s₀ H₀ ex xb E',BW (BL X scope cl N' C s₀ H₀ ex xb) E'->PE (BL X scope cl N' C s₀ H₀ ex xb) elt (tM X.K E' ca me))
  (hs:∀x,foldedSetIterable iter X.env x=pure x):PE X (.ListComp elt [⟨tg,iter,ifs,0⟩] scope pos) (tM X.K E ca (BU n caps mi b mt me)):=by
 intro pz s σ H Q I h;obtain⟨cl,h1,h2,h3,h4,h5,h6⟩:=bM B I;exact zos (Eo n caps) h1 B.kind B.names h2 h3 h4 h5 h6 hc hi hps hst (λcl C s₀ H₀ ex xb=>hg cl C s₀ H₀ ex xb _) (λcl C s₀ H₀ ex xb=>ht cl C s₀ H₀ ex xb _) (λcl C s₀ H₀ ex xb=>he cl C s₀ H₀ ex xb _) hs I (TY h)
theorem r_lcS(B:BlkOk X scope N' n caps)(hc:X.calm=true)(hi:PI X tg iter (tI X.K E ca mi))
  (hps:BW X E) (hst:Hw X) (hg:∀cl C s₀ H₀ ex xb E',BW (BL X scope cl N' C s₀ H₀ ex xb) E'->PG (BL X scope cl N' C s₀ H₀ ex xb) tg (EW X.K b)) (ht:∀cl C s₀ H₀ ex xb E',BW (BL X scope cl N' C s₀ H₀ ex xb) E'->Gj (BL X scope cl N' C s₀ H₀ ex xb) ifs (B5 X.K E' ca mt)) (he:∀cl C s₀ H₀ ex xb E',BW (BL X scope cl N' C s₀ H₀ ex xb) E'->PE (BL X scope cl N' C s₀ H₀ ex xb) elt (tM X.K E' ca me))
  (hs:∀x,foldedSetIterable iter X.env x=pure x)   (hN:X.N.Nodup) (hix:X.N[i]?=some x) (hx:X.env.scope.names.lookup x=some .local)
  (hsw:swapsWith (.ListComp elt [⟨tg,iter,ifs,0⟩] scope pos) (some (.Name x pos')) pos2.line X.env=pure true):PS X (.Assign [.Name x pos'] (.ListComp elt [⟨tg,iter,ifs,0⟩] scope pos) pos2) (λD σ H=>tM X.K E ca (BU n caps mi b mt me) σ H λv H1=>D.nx (σ.set i (some v)) H1):=by
 intro pz s σ H D I h;obtain⟨cl,h1,h2,h3,h4,h5,h6⟩:=bM B I;exact zot (Eo n caps) h1 B.kind B.names h2 h3 h4 h5 h6 hc hi hps hst (λcl C s₀ H₀ ex xb=>hg cl C s₀ H₀ ex xb _) (λcl C s₀ H₀ ex xb=>ht cl C s₀ H₀ ex xb _) (λcl C s₀ H₀ ex xb=>he cl C s₀ H₀ ex xb _) hs hN hix hx hsw I (TY h)
end
section
variable {X:Cx}{E:L2.St->XK}{ca:Str->Value}{m mk mv:AI}{o k v:Expr}{pos p p2 ap cp:Pos}{K:k6}{elts:kC}{kk:Nat}{tpos:Pos}
end
set_option genInjectivity true in
inductive Out where
 |nx (τ:AK)|rt (t:T)|bk (τ:AK)|ct (τ:AK)|xc (c:Str) (τ:AK)
abbrev AH:=AK->Option Out
structure Stp(F H:Hp)(O:Rg)(F' H':Hp)(O':Rg):Prop where
 ff:Af F F'
 fh:Af F' H'
 kp:∀b u,¬ O b->H b=some u->H' b=some u
 nw:∀b,O' b->O b\/H b=none
 nf:∀b u,F' b=some u->F b=some u\/O b\/H b=none
section
variable {F H F1 H1 F2 H2:Hp}{O O1 O2 B:Rg}{R:Nat->Rg}
theorem Stp.refl(s:Af F H):Stp F H O F H O:=⟨.refl _,s,λ_ _ _ e=>e,λ_ z=>.inl z,λ_ _ e=>.inl e⟩
theorem Stp.trans(a:Stp F H O F1 H1 O1)(b:Stp F1 H1 O1 F2 H2 O2):Stp F H O F2 H2 O2 where
 ff:=a.ff.trans b.ff
 fh:=b.fh
 kp:=λx u n e=>b.kp x u (λz=>(a.nw x z).elim n λw=>by grind) (a.kp x u n e)
 nw:=λx z=>(b.nw x z).elim (a.nw x) λw=>by
  by_cases hO:O x
  .exact .inl hO
  .cases e:H x with
   |none=>simp|some u=>rw[a.kp x u hO e]at w;cases w
 nf:=λx u e=>(b.nf x u e).elim (a.nf x u) λz=>.inr (z.elim (a.nw x) λw=>by
  by_cases hO:O x
  .exact .inl hO
  .cases e':H x with
   |none=>simp|some u'=>rw[a.kp x u' hO e']at w;cases w)
theorem Stp.mono(a:Stp F H O F1 H1 O1)(h:∀x,O2 x->O1 x):Stp F H O F1 H1 O2:=⟨a.ff,a.fh,a.kp,λx z=>a.nw x (h x z),a.nf⟩
theorem Ext.stp(e:Ext F H F1 H1 B):Stp F H O F1 H1 (λx=>O x\/B x):=⟨e.ff,e.fh,λb u _ q=>e.hh b u q,λb z=>z.elim .inl λz=>.inr (e.nb b z),λb u q=>(e.nf b u q).elim .inl λz=>.inr (.inr z)⟩
theorem Ext.stp0(e:Ext F H F1 H1 B):Stp F H O F1 H1 O:=e.stp.mono λ_ z=>.inl z
end
section
def Wr(K:k6)(mu:Bool)(F H:Hp)(t:T)(x:V)(B:Rg):Prop:=match mu with
 |false=>Rp K F H t x B|true=>∃v q l,t=.own [v,.nd true (.pin q) l]/\v.flat=true/\Rp K F H v x R0/\Rp K F H (.nd true (.pin q) l) (.ref q) B
def pS(K:k6)(E:L2.St->XK)(ca:Str->Value)(mu:Bool)(D:Ends)(F H:Hp)(R:Nat->Rg):Option Out->Prop
 |some (.nx τ')=>∀F' H' σ' R',Stp F H (tot R) F' H' (tot R')->StR K F' H' σ' τ' R'->D.nx σ' H'|some (.bk τ')=>∀F' H' σ' R',Stp F H (tot R) F' H' (tot R')->StR K F' H' σ' τ' R'->D.bk σ' H'|some (.ct τ')=>∀F' H' σ' R',Stp F H (tot R) F' H' (tot R')->StR K F' H' σ' τ' R'->D.ct σ' H'|some (.rt t)=>∀F' H' x B,Stp F H (tot R) F' H' B->Wr K mu F' H' t x B->D.rt x H'|some (.xc c τ')=>∀F' H' σ' R',Stp F H (tot R) F' H' (tot R')->StR K F' H' σ' τ' R'->XE (E σ') ca c F' H'|none=>False
def tS(K:k6)(E:L2.St->XK)(ca:Str->Value)(mu:Bool)(m:AH):TS:=λD σ H=>∃F τ R,StR K F H σ τ R/\pS K E ca mu D F H R (m τ)
end
def AG(m n:AH):AH:=λτ=>match m τ with
 |some (.nx τ')=>n τ'|r=>r
def Ah:AH:=λτ=>some (.nx τ)
def LP:AH:=λ_=>none
def Fj(m:AI):AH:=λτ=>match m τ with
 |some (.v _ _)=>some (.nx τ)|some (.x c)=>some (.xc c τ)|none=>none
def AU(m:AI):AH:=λτ=>match m τ with
 |some (.v t _)=>some (.rt t)|some (.x c)=>some (.xc c τ)|none=>none
def OP:AH:=λ_=>some (.rt .non)
noncomputable def AW(m:AI)(b:T->AK->Option AK):AH:=λτ=>match m τ with
 |some (.v t false)=>(match b t.share τ with
  |some τ'=>some (.nx τ')|none=>none)
 |some (.v _ true)=>none|some (.x c)=>some (.xc c τ)|none=>none
noncomputable def CW(i:Nat)(m:AI):AH:=λτ=>match m τ with
 |some (.v t false)=>if i<τ.length then some (.nx (τ.set i (some t))) else none
 |some (.v _ true)=>none|some (.x c)=>some (.xc c τ)|none=>none
noncomputable def Dn(i:Nat):AH:=λτ=>match τ[i]? with
 |some (some t)=>some (.nx (τ.set i (some t.share)))|_=>some (.nx τ)
def Aj(c:AI)(a b:AH):AH:=λτ=>match c τ with
 |some (.v (.bl true) _)=>a τ|some (.v (.bl false) _)=>b τ|some (.x c)=>some (.xc c τ)|_=>none
noncomputable def BV(b:T->AK->Option AK)(body:AH):kL->AH
 |[],τ=>some (.nx τ)|t::ts,τ=>(match b t τ with
  |some τ1=>(match body τ1 with
   |some (.nx τ2)=>BV b body ts τ2|some (.ct τ2)=>BV b body ts τ2|some (.bk τ2)=>some (.nx τ2)|r=>r)
  |none=>none)
def BZ(mi:BQ)(b:T->AK->Option AK)(body:AH):AH:=λτ=>match mi τ with
 |some (.v ts _)=>BV b body ts τ|some (.x c)=>some (.xc c τ)|none=>none
noncomputable def DN(c:AI)(body:AH):Nat->AH
 |0,_=>none|n+1,τ=>(match c τ with
  |some (.v (.bl true) _)=>(match body τ with
   |some (.nx τ2)=>DN c body n τ2|some (.ct τ2)=>DN c body n τ2|some (.bk τ2)=>some (.nx τ2)|r=>r)
  |some (.v (.bl false) _)=>some (.nx τ)|some (.x c)=>some (.xc c τ)|_=>none)
open Classical in
def FO(c:AI)(body:AH):AH:=λτ=>if h:∃n,(DN c body n τ).isSome=true then DN c body h.choose τ else none
theorem zgz(h:FO c body τ=some o):∃n,DN c body n τ=some o:=by
 unfold FO at h;split at h
 .grind
 .cases h
theorem N4:∀{n} {τ} {o},DN c body n τ=some o->DN c body (n+1) τ=some o
 |0,τ,o,h=>by cases h|n+1,τ,o,h=>by
  unfold DN at h ⊢;split at h
  .split at h
   .exact N4 h
   .exact N4 h
   .exact h
   .exact h
  .exact h
  .exact h
  .cases h
theorem Sg(h:DN c body n τ=some o)(hm:n<=m):DN c body m τ=some o:=by
 induction hm with
 |refl=>exact h|step _ ih=>exact N4 ih
theorem zn1(h:DN c body n τ=some o):FO c body τ=some o:=by
 unfold FO;have hx:∃n,(DN c body n τ).isSome=true:=⟨n,by rw[h];rfl⟩
 obtain⟨o',e⟩:=ŭ.mp hx.choose_spec;have e1:=Sg e (Nat.le_max_left hx.choose n);have e2:=Sg h (Nat.le_max_right hx.choose n)
 grind
section
variable {mu:Bool}{X:Cx}{E:L2.St->XK}{ca:Str->Value}{σ:L2.St}{H:Hp}{K:k6}{m mk mc:AI}{ms mi:BQ}{b:T->AK->Option AK}{u w:AH}{D:Ends}{e c tg iter:Expr}{st:Stmt}{rest body sa sb:kD}{pos pos':Pos}
theorem PS.weak(h:PS X st t)(w:∀D σ H,t' D σ H->t D σ H):PS X st t':=λpz s σ H D I q=>h pz s σ H D I (w D σ H q)
theorem B3.weak(h:B3 X rest t)(w:∀D σ H,t' D σ H->t D σ H):B3 X rest t':=λpz s σ H D I q=>h pz s σ H D I (w D σ H q)
theorem zme(h:tS K E ca mu (AG u w) D σ H):TM (tS K E ca mu u) (tS K E ca mu w) D σ H:=by
 obtain⟨F,τ,R,S,q⟩:=h;refine⟨F,τ,R,S,?_⟩;unfold AG at q;cases hm:u τ with
 |none=>erw[hm]at q<;>exact q.elim|some o=>
  erw[hm]at q;cases o with
  |nx τ'=>
   intro F1 H1 σ1 R1 s1 S1;refine⟨F1,τ',R1,S1,?_⟩;cases hw:w τ' with
   |none=>erw[hw]at q<;>exact q.elim|some o=>
    erw[hw]at q;cases o with
    |nx _=>exact λF' H' σ' R' s S=>q F' H' σ' R' (s1.trans s) S|bk _=>exact λF' H' σ' R' s S=>q F' H' σ' R' (s1.trans s) S|ct _=>exact λF' H' σ' R' s S=>q F' H' σ' R' (s1.trans s) S|rt _=>exact λF' H' x B s r=>q F' H' x B (s1.trans s) r|xc _ _=>exact λF' H' σ' R' s S=>q F' H' σ' R' (s1.trans s) S
  |rt _=>exact q|bk _=>exact q|ct _=>exact q|xc _ _=>exact q
theorem UX:B3 X [] (tS X.K E ca mu Ah):=B3.weak zk1 λD σ H h=>by
 obtain⟨F,τ,R,S,q⟩:=h;exact q F H σ R (Stp.refl S.fh) S
theorem OO(h1:PS X st (tS X.K E ca mu u))(h2:B3 X rest (tS X.K E ca mu w)):B3 X (st::rest) (tS X.K E ca mu (AG u w)):=B3.weak (zha h1 h2) λD σ H h=>zme h
theorem OL(h1:PS X st (tS X.K E ca mu u)):B3 X [st] (tS X.K E ca mu u):=Vj h1
theorem UW:PS X st (tS X.K E ca mu LP):=λpz s σ H D I h=>by
 obtain⟨_,_,_,_,q⟩:=h;exact q.elim
theorem zmy:PS X (.Pass pos) (tS X.K E ca mu Ah):=PS.weak zk5 λD σ H h=>by
 obtain⟨F,τ,R,S,q⟩:=h;exact q F H σ R (Stp.refl S.fh) S
theorem zmf  (h:tS K E ca mu (AG (Dn i) w) D σ H):tS K E ca mu w D σ H:=by
 obtain⟨F,τ,R,S,q⟩:=h;unfold AG Dn at q;cases ht:τ[i]? with
 |none=>rw[ht]at q;exact⟨F,τ,R,S,q⟩|some ot=>
  rw[ht]at q;cases ot with
  |none=>exact⟨F,τ,R,S,q⟩|some t=>
   simp only at q;obtain⟨x,ex,r⟩:=S.rep i t ht;have hi :=(Õ.mp ht).1;have n:∀a,R i a->F a=none:=λa z=>(r.dom z).1
   have S0:StR K (frz F H (R i)) H σ (τ.set i (some t.share)) (λj=>if j=i then R0 else R j):=by
    refine⟨Ia S.fh,by simpa using S.len,λj t' e=>?_,λj a z=>?_,λj k a hjk z1 z2=>?_⟩
    .by_cases hj:j=i
     .subst hj;rw[í hi]at e;cases e;exact⟨x,ex,by simpa using r.share (FA n) λa u z q=>by rw[Gh z];exact q⟩
     .rw[ã (Ð hj)]at e;obtain⟨y,e1,r1⟩:=S.rep j t' e;refine⟨y,e1,?_⟩;erw[hj,É]
      exact r1.frame (FA n) λa z=>⟨rfl,by
       rw[Fy (λz'=>S.dis j i a hj z z')]
       exact(r1.dom z).1⟩
    .by_cases hj:j=i
     .erw[hj,Î]at z;exact z.elim
     .erw[hj,É]at z;obtain⟨t',e⟩:=S.out j a z;exact⟨t',by rw[ã (Ð hj)];exact e⟩
    .by_cases hj:j=i
     .erw[hj,Î]at z1;exact z1.elim
     .by_cases hk:k=i
      .erw[hk,Î]at z2;exact z2.elim
      .erw[hj,É]at z1;erw[hk,É]at z2;exact S.dis j k a hjk z1 z2
   have Ad:Stp F H (tot R) (frz F H (R i)) H (tot λj=>if j=i then R0 else R j):=by
    refine⟨FA n,Ia S.fh,λ_ _ _ e=>e,λb ⟨j,z⟩=>?_,λb u e=>?_⟩
    .by_cases hj:j=i
     .erw[hj,Î]at z;exact z.elim
     .erw[hj,É]at z;exact .inl ⟨j,z⟩
    .by_cases hb:R i b
     .exact .inr (.inl ⟨i,hb⟩)
     .rw[Fy hb]at e;exact .inl e
   refine⟨_,_,_,S0,?_⟩;cases hw:w (τ.set i (some t.share)) with
   |none=>erw[hw]at q<;>exact q.elim|some o=>
    erw[hw]at q;cases o with
    |nx _=>exact λF' H' σ' R' s S=>q F' H' σ' R' (Ad.trans s) S|bk _=>exact λF' H' σ' R' s S=>q F' H' σ' R' (Ad.trans s) S|ct _=>exact λF' H' σ' R' s S=>q F' H' σ' R' (Ad.trans s) S|rt _=>exact λF' H' x B s r=>q F' H' x B (Ad.trans s) r|xc _ _=>exact λF' H' σ' R' s S=>q F' H' σ' R' (Ad.trans s) S
theorem s_frz(h:B3 X rest (tS X.K E ca mu w)):B3 X rest (tS X.K E ca mu (AG (Dn i) w)):=B3.weak h λD σ H h=>zmf h
theorem s_exp(he:PE X e (tM X.K E ca m))(hs:swapsWith e none pos.line X.env=pure false):PS X (.Expr e pos) (tS X.K E ca mu (Fj m)):=by
 refine PS.weak (O3 he hs) λD σ H h=>?_
 obtain⟨F,τ,R,S,q⟩:=h;refine⟨F,τ,R,S,?_⟩;unfold Fj at q;cases hm:m τ with
 |none=>erw[hm]at q<;>exact q.elim|some r=>
  erw[hm]at q;cases r with
  |x c=>exact λF' H' e=>q F' H' σ R e.stp0 (S.ext e)|v t bb=>exact λF' H' x B e g=>q F' H' σ R e.stp0 (S.ext e)
theorem UQ(he:PE X e (tM X.K E ca m)):PS X (.Return (some e) pos) (tS X.K E ca false (AU m)):=by
 refine PS.weak (znm he) λD σ H h=>?_
 obtain⟨F,τ,R,S,q⟩:=h;refine⟨F,τ,R,S,?_⟩;unfold AU at q;cases hm:m τ with
 |none=>erw[hm]at q<;>exact q.elim|some r=>
  erw[hm]at q;cases r with
  |x c=>exact λF' H' e=>q F' H' σ R e.stp0 (S.ext e)|v t bb=>
   intro F' H' x B e g;cases bb with
   |false=>exact q F' H' x B (e.stp.mono λ_ z=>.inr z) g|true=>obtain⟨_,A,hA,r⟩:=g;exact q F' H' x A (e.stp.mono λa z=>.inl (hA a z)) r
theorem zmx:PS X (.Return none pos) (tS X.K E ca false OP):=PS.weak zk4 λD σ H h=>by
 obtain⟨F,τ,R,S,q⟩:=h;exact q F H .non R0 ((Stp.refl S.fh).mono λ_ z=>z.elim) .non
theorem s_if(hc:PT X c (B5 X.K E ca mc))(ha:B3 X sa (tS X.K E ca mu u))(hb:B3 X sb (tS X.K E ca mu w)):PS X (.If c sa sb pos) (tS X.K E ca mu (Aj mc u w)):=by
 refine PS.weak (ps_if hc ha hb) λD σ H h=>?_
 obtain⟨F,τ,R,S,q⟩:=h;refine⟨F,τ,R,S,?_⟩;unfold Aj at q;cases hm:mc τ with
 |none=>erw[hm]at q<;>exact q.elim|some r=>
  erw[hm]at q;cases r with
  |x c=>exact λF' H' e=>q F' H' σ R e.stp0 (S.ext e)|v t bb=>
   cases t with
   |bl k=>
    intro F1 H1 e1;have S1:=S.ext e1
    have key:∀{mm },(match mm τ with
      |some (.nx τ')=>∀F' H' σ' R',Stp F H (tot R) F' H' (tot R')->StR X.K F' H' σ' τ' R'->D.nx σ' H'|some (.bk τ')=>∀F' H' σ' R',Stp F H (tot R) F' H' (tot R')->StR X.K F' H' σ' τ' R'->D.bk σ' H'|some (.ct τ')=>∀F' H' σ' R',Stp F H (tot R) F' H' (tot R')->StR X.K F' H' σ' τ' R'->D.ct σ' H'|some (.rt t)=>∀F' H' x B,Stp F H (tot R) F' H' B->Wr X.K mu F' H' t x B->D.rt x H'|some (.xc c τ')=>∀F' H' σ' R',Stp F H (tot R) F' H' (tot R')->StR X.K F' H' σ' τ' R'->XE (E σ') ca c F' H'|none=>False)->tS X.K E ca mu mm D σ H1:=λ{mm} q=>by
     refine⟨F1,τ,R,S1,?_⟩;cases hr:mm τ with
     |none=>erw[hr]at q<;>exact q.elim|some o=>
      erw[hr]at q;cases o with
      |nx _=>exact λF' H' σ' R' s S=>q F' H' σ' R' (e1.stp0.trans s) S|bk _=>exact λF' H' σ' R' s S=>q F' H' σ' R' (e1.stp0.trans s) S|ct _=>exact λF' H' σ' R' s S=>q F' H' σ' R' (e1.stp0.trans s) S|rt _=>exact λF' H' x B s r=>q F' H' x B (e1.stp0.trans s) r|xc _ _=>exact λF' H' σ' R' s S=>q F' H' σ' R' (e1.stp0.trans s) S
    cases k with
    |true=>exact J8 (key q)|false=>exact J9 (key q)
   |_=>exact q.elim
theorem Ny  (hg:∀v σ H Q,EW K b v σ H Q->g v σ H Q)(h:tS K E ca mu (AW m b) D σ H):Ky (tM K E ca m) g D σ H:=by
 obtain⟨F,τ,R,S,q⟩:=h;refine⟨F,τ,R,S,?_⟩;unfold AW at q;cases hm:m τ with
 |none=>erw[hm]at q<;>exact q.elim|some r=>
  erw[hm]at q;cases r with
  |x c=>exact λF' H' e=>q F' H' σ R e.stp0 (S.ext e)|v t bb=>
   cases bb with
   |true=>exact q.elim|false=>
    intro F1 H1 x B e1 g1;obtain⟨F2,e2,_,r2⟩:=EF.frz S e1 g1;cases hb:b t.share τ with
    |none=>erw[hb]at q<;>exact q.elim|some τ'=>
     erw[hb]at q;refine hg _ _ _ _ ⟨F2,τ,R,t.share,τ',S.ext e2,(r2).any,hb,λσ' R' S' hR=>?_⟩
     exact q F2 H1 σ' R' (e2.stp0.mono λa ⟨i,z⟩=>⟨i,hR i a z⟩) S'
theorem Yn(h:EW K (AD i) v σ H Q):Ji i v σ H Q:=by
 obtain⟨F,τ,R,t,τ',S,r,e,q⟩:=h;unfold AD at e;split at e
 .cases e;rename_i hl;refine q _ _ (S.set r (λ_ _ _ _ z=>z.elim) hl) λj a z=>?_
  by_cases hj:j=i
  .erw[hj]at z;exact z.elim
  grind
 .cases e
theorem UP(hN:X.N.Nodup)(hi:X.N[i]?=some x)(hx:Gk X.env.scope x)(he:PE X e (tM X.K E ca m))(hs:swapsWith e (some (.Name x pos')) pos.line X.env=pure false)(hf:X.fn x=true\/X.env.scope.names.lookup x=some .local) :
  PS X (.Assign [.Name x pos'] e pos) (tS X.K E ca mu (AW m (AD i))):=PS.weak (Vk hN hi hx he hs hf) λD σ H h=>Ny (λ_ _ _ _ z=>Yn z) h
theorem zmw(he:PE X e (tM X.K E ca m))(hg:PG X tg (EW X.K b))(hs:swapsWithSole [tg] e pos.line X.env=pure false)(hw:swappedStores [tg] e X.env=pure none)(h1:(assignEach [tg] X.env).map (·.2)=[assign tg X.env]) :
  PS X (.Assign [tg] e pos) (tS X.K E ca mu (AW m b)):=PS.weak (O4 he hg hs hw h1) λD σ H h=>Ny (λ_ _ _ _ z=>z) h
theorem TN  (h:tS K E ca mu (CW i m) D σ H):Ky (tM K E ca m) (Ji i) D σ H:=by
 obtain⟨F,τ,R,S,q⟩:=h;refine⟨F,τ,R,S,?_⟩;unfold CW at q;cases hm:m τ with
 |none=>erw[hm]at q<;>exact q.elim|some r=>
  erw[hm]at q;cases r with
  |x c=>exact λF' H' e=>q F' H' σ R e.stp0 (S.ext e)|v t bb=>
   cases bb with
   |true=>exact q.elim|false=>
    intro F1 H1 x B e1 g1;have g1' :=g1;have S1:=S.ext e1
    by_cases hl:i<τ.length
    .erw[hl]at q;refine q F1 H1 _ _ (e1.stp.mono ?_) (S1.set g1' (λj a _ z1 z2=>S.apart e1 z2 j z1) hl)
     rintro a ⟨j,z⟩
     by_cases hj:j=i
     .grind
     .erw[hj]at z;exact .inl ⟨j,z⟩
    .erw[hl]at q<;>exact q.elim
theorem zmz(hN:X.N.Nodup)(hi:X.N[i]?=some x)(hx:Gk X.env.scope x)(he:PE X e (tM X.K E ca m))(hs:swapsWith e (some (.Name x pos')) pos.line X.env=pure false)(hf:X.fn x=true\/X.env.scope.names.lookup x=some .local) :
  PS X (.Assign [.Name x pos'] e pos) (tS X.K E ca mu (CW i m)):=PS.weak (Vk hN hi hx he hs hf) λD σ H h=>TN h
theorem s_for(hp:PassesOwn (model X.prog X.w) X.A X.env X.xe)(hc:X.calm=true)(hi:PI X tg iter (tI X.K E ca mi))(hg:PG X tg (EW X.K b))(hb:B3 X body (tS X.K E ca mu u))(hs:∀x,foldedSetIterable iter X.env x=pure x) :
  PS X (.For tg iter body [] pos) (tS X.K E ca mu (BZ mi b u)):=by
 refine PS.weak (zno hp hc hi hg hb hs) λD σ H h=>?_
 obtain⟨F,τ,R,S,q⟩:=h;refine⟨F,τ,R,S,?_⟩;unfold BZ at q;cases hm:mi τ with
 |none=>erw[hm]at q<;>exact q.elim|some r=>
  erw[hm]at q;cases r with
  |x c=>exact λF' H' e=>q F' H' σ R e.stp0 (S.ext e)|v ts bb=>
   intro F1 H1 J e1 its;simp only at q;have S1:=S.ext e1;cases hg:BV b u ts τ with
   |none=>erw[hg]at q<;>exact q.elim|some out=>
    erw[hg]at q;refine⟨λi mm σ' H'=>mm=ts.length - i/\i<=ts.length/\∃F' τ' R',Stp F H (tot R) F' H' (tot R')/\Af F1 F'/\StR X.K F' H' σ' τ' R'/\BV b u (ts.drop i) τ'=some out,⟨ts.length,by simp,õ _,F1,τ,R,e1.stp0,.refl _,S1,by simpa using hg⟩,?_⟩
    rintro i mm σ' H' ⟨rfl,hle,F',τ',R',st,sf,S',hgo⟩;obtain⟨i1,i2⟩:=its i F' H' sf S'.fh
    by_cases hlt:i<ts.length
    .refine .inr ⟨(i1 _ (Â hlt)).1,λσ2 H2=>i+1<=ts.length/\∃F2 τ2 R2,Stp F H (tot R) F2 H2 (tot R2)/\Af F1 F2/\StR X.K F2 H2 σ2 τ2 R2/\BV b u (ts.drop (i+1)) τ2=some out,λσ2 H2 n2=>⟨ts.length - (i+1),by omega,rfl,n2⟩,λx H'' y=>?_⟩
     obtain⟨F'',e3,rx⟩:=(i1 _ (Â hlt)).2 x H'' y;have S3:=S'.ext e3;rw[Ō hlt]at hgo;unfold BV at hgo;cases hb2:b ts[i] τ' with
     |none=>erw[hb2]at hgo;cases hgo|some τ1=>
      erw[hb2]at hgo;refine⟨F'',τ',R',ts[i],τ1,S3,rx,hb2,λσ3 R3 S4 hR3=>?_⟩
      have st3:Stp F H (tot R) F'' H'' (tot R3):=(st.trans e3.stp0).mono λa ⟨j,z⟩=>⟨j,hR3 j a z⟩
      refine⟨F'',τ1,R3,S4,?_⟩;cases hu:u τ1 with
      |none=>erw[hu]at hgo;cases hgo|some o=>
       erw[hu]at hgo;cases o with
       |nx τ2=>exact λF4 H4 σ4 R4 s4 S5=>⟨hlt,F4,τ2,R4,st3.trans s4,(sf.trans e3.ff).trans s4.ff,S5,hgo⟩|ct τ2=>exact λF4 H4 σ4 R4 s4 S5=>⟨hlt,F4,τ2,R4,st3.trans s4,(sf.trans e3.ff).trans s4.ff,S5,hgo⟩|bk τ2=>cases hgo;exact λF4 H4 σ4 R4 s4 S5=>q F4 H4 σ4 R4 (st3.trans s4) S5|rt v=>cases hgo;exact λF4 H4 x B s4 r=>q F4 H4 x B (st3.trans s4) r|xc cc τ2=>cases hgo;exact λF4 H4 σ4 R4 s4 S5=>q F4 H4 σ4 R4 (st3.trans s4) S5
    .have hi':i=ts.length:=by omega
     subst hi';refine .inl ⟨i2 rfl,?_⟩;rw[List.drop_length]at hgo;unfold BV at hgo;cases hgo;exact q F' H' σ' R' st S'
theorem s_wh(hp:PassesOwn (model X.prog X.w) X.A X.env X.xe)(hc:PT X c (B5 X.K E ca mc))(hb:B3 X body (tS X.K E ca mu u)):PS X (.While c body [] pos) (tS X.K E ca mu (FO mc u)):=by
 refine PS.weak (zhb hp hc hb) λD σ H h=>?_
 obtain⟨F,τ,R,S,q⟩:=h;cases hw:FO mc u τ with
 |none=>erw[hw]at q<;>exact q.elim|some out=>
  erw[hw]at q;obtain⟨n,hn⟩:=zgz hw;refine⟨λmm σ' H'=>∃F' τ' R',Stp F H (tot R) F' H' (tot R')/\StR X.K F' H' σ' τ' R'/\DN mc u mm τ'=some out,⟨n,F,τ,R,Stp.refl S.fh,S,hn⟩,?_⟩
  rintro mm σ' H' ⟨F',τ',R',st,S',hgo⟩;cases mm with
  |zero=>cases hgo|succ mm=>
   refine⟨F',τ',R',S',?_⟩;unfold DN at hgo;cases hm:mc τ' with
   |none=>erw[hm]at hgo;cases hgo|some r=>
    erw[hm]at hgo;cases r with
    |x cc=>cases hgo;exact λF2 H2 e2=>q F2 H2 σ' R' (st.trans e2.stp0) (S'.ext e2)|v t bb=>
     cases t with
     |bl k=>
      intro F2 H2 e2;have S2:=S'.ext e2;have st2 :=st.trans e2.stp0;cases k with
      |false=>cases hgo;exact J9 (q F2 H2 σ' R' st2 S2)|true=>
       simp only at hgo;refine J8 ⟨λσ2 H2=>∃F2 τ2 R2,Stp F H (tot R) F2 H2 (tot R2)/\StR X.K F2 H2 σ2 τ2 R2/\DN mc u mm τ2=some out,λσ3 H3 n3=>⟨mm,ħ _,n3⟩,F2,τ',R',S2,?_⟩
       cases hu:u τ' with
       |none=>erw[hu]at hgo;cases hgo|some o=>
        erw[hu]at hgo;cases o with
        |nx τ2=>exact λF4 H4 σ4 R4 s4 S5=>⟨F4,τ2,R4,st2.trans s4,S5,hgo⟩|ct τ2=>exact λF4 H4 σ4 R4 s4 S5=>⟨F4,τ2,R4,st2.trans s4,S5,hgo⟩|bk τ2=>cases hgo;exact λF4 H4 σ4 R4 s4 S5=>q F4 H4 σ4 R4 (st2.trans s4) S5|rt v=>cases hgo;exact λF4 H4 x B s4 r=>q F4 H4 x B (st2.trans s4) r|xc cc τ2=>cases hgo;exact λF4 H4 σ4 R4 s4 S5=>q F4 H4 σ4 R4 (st2.trans s4) S5
     |_=>cases hgo
end
section
variable {K:k6}{F H:Hp}{l:kL}{xs:kK}{Rr:Nat->Rg}{p:Addr}{o:HO}
theorem Rp.own_inv(h:Rp K F H (.nd true k l) x A):∃p xs Rr,x=.ref p/\A=(λa=>a=p\/∃j,Rr j a)/\F p=none/\H p=some (.lst xs)/\RpO K F H l xs Rr/\(∀j,¬ Rr j p)/\KW k p:=by
 cases h with
 |own hk R f h e c d dp o=>exact⟨_,_,R,rfl,rfl,f,h,⟨e,c,d,o⟩,dp,hk⟩
theorem O7(hk:KW k p)(r:RpO K F H l xs Rr)(f:F p=none)(h:H p=some (.lst xs))(dp:∀j,¬ Rr j p):Rp K F H (.nd true k l) (.ref p) (λa=>a=p\/∃j,Rr j a):=.own hk Rr f h r.len r.rep r.dis dp r.out
theorem RpO.upd(r:RpO K F H l xs Rr)(dp:∀j,¬ Rr j p):RpO K F (L2.upd H p o) l xs Rr:=⟨r.len,λi t x h1 h2=>(r.rep i t x h1 h2).frame (.refl _) λa z=>⟨Ag (λe=>dp i (e▸z)),(r.dom z).1⟩,r.dis,r.out⟩
theorem Rp.upd(r:Rp K F H t x A)(dp:¬ A p):Rp K F (L2.upd H p o) t x A:=r.frame (.refl _) λa z=>⟨Ag (λe=>dp (e▸z)),(r.dom z).1⟩
theorem RpO.set(r:RpO K F H l xs Rr)(hj:j0<l.length)(rt:Rp K F H t y B)(d:∀j a,j≠j0->Rr j a->¬ B a):RpO K F H (l.set j0 t) (xs.set j0 y) (λj=>if j=j0 then B else Rr j):=by
 have hl:=r.len;refine⟨by simp[hl],λi t' x' h1 h2=>?_,λi k a hik z1 z2=>?_,λi a z=>?_⟩
 .by_cases hi:i=j0
  .grind
  .rw[ã (Ð hi)]at h1 h2
   simpa[hi] using r.rep i t' x' h1 h2
 .by_cases hi:i=j0
  .grind
  .erw[hi,É]at z1
   by_cases hk:k=j0
   .erw[hk,Î]at z2;exact d i a hi z1 z2
   .erw[hk,É]at z2;exact r.dis i k a hik z1 z2
 .by_cases hi:i=j0
  .simp[hi];omega
  .erw[hi,É]at z
   simpa using r.out i a z
variable {σ:L2.St}{τ:AK}{R:Nat->Rg}
theorem StR.upd(S:StR K F H σ τ R){A' B:Rg}(ht:τ[i]?=some (some t))(hx:σ[i]?=some (some x))(hp:R i p)(r':Rp K F (L2.upd H p o) t' x A')(hA:∀a,A' a->R i a\/B a)(hB:∀j a,R j a->¬ B a) :
  StR K F (L2.upd H p o) σ (τ.set i (some t')) (λj=>if j=i then A' else R j)/\Stp F H (λa=>Pu.tot R a\/B a) F (L2.upd H p o) (Pu.tot λj=>if j=i then A' else R j):=by
 have fp :=(S.dom hp).1;have hi :=(Õ.mp ht).1
 have fh':Af F (L2.upd H p o):=λb u e=>by
  rw[Ag (λz=>by rw[z,fp]at e;cases e)]
  exact S.fh b u e
 refine⟨⟨fh',by simpa using S.len,λj t1 e=>?_,λj a z=>?_,λj k a hjk z1 z2=>?_⟩,⟨.refl _,fh',λb u n e=>?_,λb ⟨j,z⟩=>?_,λb u e=>.inl e⟩⟩
 .by_cases hj:j=i
  .subst hj;rw[í hi]at e;cases e;exact⟨x,hx,by simpa using r'⟩
  .rw[ã (Ð hj)]at e;obtain⟨y,e1,r1⟩:=S.rep j t1 e;exact⟨y,e1,by simpa[hj] using r1.upd (λz=>S.dis j i p hj z hp)⟩
 .by_cases hj:j=i
  .subst hj;exact⟨t',í hi⟩
  .erw[hj,É]at z;obtain⟨t1,e⟩:=S.out j a z;exact⟨t1,by rw[ã (Ð hj)];exact e⟩
 .by_cases hj:j=i
  .erw[hj,Î]at z1;have hk:¬ k=i:=λz=>hjk (hj.trans z.symm)
   erw[hk,É]at z2
   rcases hA a z1 with w|w
   .exact S.dis i k a (Ð hk) w z2
   .exact hB k a z2 w
  .erw[hj,É]at z1
   by_cases hk:k=i
   .erw[hk,Î]at z2
    rcases hA a z2 with w|w
    .exact S.dis i j a (Ð hj) w z1
    .exact hB j a z1 w
   .erw[hk,É]at z2;exact S.dis j k a hjk z1 z2
 .rw[Ag (λz=>n (.inl (by rw[z];exact⟨i,hp⟩)))]
  exact e
 .by_cases hj:j=i
  .erw[hj,Î]at z
   rcases hA b z with w|w
   .exact .inl (.inl ⟨i,w⟩)
   .exact .inl (.inr w)
  .erw[hj,É]at z;exact .inl (.inl ⟨j,z⟩)
end
def Fl(τ:AK)(i:Nat):Option (Kd×kL):=match τ[i]? with
 |some (some (.nd true k l))=>some (k,l)|_=>none
theorem O8(h:Fl τ i=some (k,l)):τ[i]?=some (some (.nd true k l)):=by
 unfold Fl at h
 grind
def DA(i:Nat)(m:AI):AH:=λτ=>match Fl τ i with
 |some (kd,l)=>(match m τ with
  |some (.v t false)=>if l.length<Bh then some (.nx (τ.set i (some (.nd true kd (l++[t]))))) else none
  |some (.v _ true)=>none|some (.x c)=>some (.xc c τ)|none=>none)
 |none=>none
def FP(i:Nat)(m:AI):AH:=λτ=>match Fl τ i with
 |some (kd,l)=>(match m τ with
  |some (.v (.nd _ .lst r) false)=>if l.length+r.length<=Bh then some (.nx (τ.set i (some (.nd true kd (l++Bc r))))) else none
  |some (.v _ _)=>none|some (.x c)=>some (.xc c τ)|none=>none)
 |none=>none
def HL(i:Nat)(mk m:AI):AH:=λτ=>match m τ with
 |some (.v t false)=>(match Fl τ i with
  |some (kd,l)=>(match mk τ with
   |some (.v (.int k) _)=>(match Ce l.length k with
    |some j=>some (.nx (τ.set i (some (.nd true kd (l.set j t)))))|none=>none)
   |some (.v _ _)=>none|some (.x c)=>some (.xc c τ)|none=>none)
  |none=>none)
 |some (.v _ true)=>none|some (.x c)=>some (.xc c τ)|none=>none
section
variable {mu:Bool}{X:Cx}{E:L2.St->XK}{ca:Str->Value}{σ:L2.St}{H:Hp}{K:k6}{m mk mn:AI}{D:Ends}{e k n:Expr}{pos apos cpos p1 pos2 pos3:Pos}{i:Nat}{x:Str}
theorem zli(g:EF K F H R (.int j) b y B):y=.int j:=by
 cases b with
 |true=>obtain⟨_,A,_,r⟩:=g;exact r.int_inv
 |false=>exact(g).int_inv
theorem Tn{l:kL}{Rr:Nat->Rg}(h:∃j,(λj=>if j=l.length then B else Rr j) j a):(∃j,Rr j a)\/B a:=To h
theorem zjm{Rr:Nat->Rg}(h:∃j,(λj=>if j=j0 then B else Rr j) j a):(∃j,Rr j a)\/B a:=by
 grind
theorem s_app(hN:X.N[i]?=some x)(hv:EA X.env.scope x)(hd:(x == "__debug__")=false)(hcd:(x == "__classdict__")=false)(he:PE X e (tM X.K E ca m))(hs:starEach [e] X.env=[(false,eval e X.env)])(hline:(apos.endLine == cpos.line)=true) :
  PS X (.Expr (.Call (.Attribute (.Name x p1) "append" apos) [e] [] cpos) pos) (tS X.K E ca mu (DA i m)):=by
 refine PS.weak (O3 (JW ů PySem.F.slot_list_append PySem.F.type_list_append zf5 (GW hN hv hd hcd) (EZ he Es hs) rfl (by rw[hs];rfl) hline hs rfl) rfl) λD σ H h=>?_
 obtain⟨F,τ,R,S,q⟩:=h;unfold DA at q;cases ho:Fl τ i with
 |none=>erw[ho]at q<;>exact q.elim|some kl=>
  obtain⟨kd,l⟩:=kl;erw[ho]at q;have ht:=O8 ho;obtain⟨y,ey,ry⟩:=S.rep i _ ht;obtain⟨p,xs,Rr,rfl,hA,fp,hp,ro,dp,hOw⟩:=ry.own_inv;refine⟨_,ey,.inl ⟨rfl,xs,Am.of hp⟩,F,τ,R,S,?_⟩;cases hm:m τ with
  |none=>erw[hm]at q<;>exact q.elim|some r=>
   erw[hm]at q;cases r with
   |x c=>exact λF' H' e=>q F' H' σ R e.stp0 (S.ext e)|v t bb=>
    cases bb with
    |true=>exact q.elim|false=>
     intro F1 H1 y B e1 g1;have g1' :=g1
     by_cases hz:l.length<Bh
     .erw[hz,Î]at q;have S1:=S.ext e1;have ro1:=ro.ext e1;have hp1:=e1.hh _ _ hp;have pB:¬ B p:=λz=>by rw[e1.nb p z]at hp;cases hp
      have fp1 :=(ry.ext e1 |>.dom (by rw[hA];exact .inl rfl)).1
      refine⟨p,xs,y,rfl,rfl,hp1,by rw[<- ro.len,<- Ft];exact hz,?_⟩
      have ro2:RpO X.K F1 (upd H1 p (.lst (xs++[y]))) (l++[t]) (xs++[y]) _:=(ro1.upd dp).snoc (g1'.upd pB) λj a z1 z2=>ro.apart e1 z2 j z1
      have dp2:∀j,¬ (if j=l.length then B else Rr j) p:=λj z=>by
       by_cases hj:j=l.length
       .erw[hj,Î]at z;exact pB z
       .erw[hj,É]at z;exact dp j z
      have r2:=O7 hOw ro2 fp1 Bj dp2
      obtain⟨S3,st3⟩:=S1.upd ht ey (by rw[hA];exact .inl rfl) r2 (λa z=>by
       rw[hA]
       rcases z with z|z
       .exact .inl (.inl z)
       .rcases Tn z with w|w
        .exact .inl (.inr w)
        .exact .inr w) (λj a z1 z2=>S.apart e1 z2 j z1)
      exact q F1 _ σ _ (e1.stp.trans st3) S3
     .erw[hz,É]at q<;>exact q.elim
theorem s_ext(hN:X.N[i]?=some x)(hv:EA X.env.scope x)(hd:(x == "__debug__")=false)(hcd:(x == "__classdict__")=false)(he:PE X e (tM X.K E ca m))(hs:starEach [e] X.env=[(false,eval e X.env)])(hline:(apos.endLine == cpos.line)=true) :
  PS X (.Expr (.Call (.Attribute (.Name x p1) "extend" apos) [e] [] cpos) pos) (tS X.K E ca mu (FP i m)):=by
 refine PS.weak (O3 (JW ů PySem.F.slot_list_extend PySem.F.type_list_extend zf4 (GW hN hv hd hcd) (EZ he Es hs) rfl (by rw[hs];rfl) hline hs rfl) rfl) λD σ H h=>?_
 obtain⟨F,τ,R,S,q⟩:=h;unfold FP at q;cases ho:Fl τ i with
 |none=>erw[ho]at q<;>exact q.elim|some kl=>
  obtain⟨kd,l⟩:=kl;erw[ho]at q;have ht:=O8 ho;obtain⟨y,ey,ry⟩:=S.rep i _ ht;obtain⟨p,xs,Rr,rfl,hA,fp,hp,ro,dp,hOw⟩:=ry.own_inv;refine⟨_,ey,.inl ⟨rfl,xs,Am.of hp⟩,F,τ,R,S,?_⟩;cases hm:m τ with
  |none=>erw[hm]at q<;>exact q.elim|some r=>
   erw[hm]at q;cases r with
   |x c=>exact λF' H' e=>q F' H' σ R e.stp0 (S.ext e)|v t bb=>
    cases t with
    |nd o kd2 r=>
     cases kd2 with
     |lst=>
      cases bb with
      |true=>exact q.elim|false=>
       intro F1 H1 y B e1 g1;obtain⟨F2,e2,_,r2⟩:=EF.frz S e1 g1;have r2' :=r2;rw[T.share]at r2';obtain⟨p2,ys,rfl,_,nn,kid⟩:=EN r2'
       by_cases hz:l.length+r.length<=Bh
       .erw[hz,Î]at q;have S1:=S.ext e2;have ro1:=ro.ext e2;have hp1:=e2.hh _ _ hp;have fp1 :=(ry.ext e2 |>.dom (by rw[hA];exact .inl rfl)).1
        have hn2 :=nn;have lr :=by have:=kid.1;rw[DW,À]at this;exact this
        refine⟨p,p2,xs,ys,rfl,rfl,hp1,e2.fh _ _ hn2,by rw[<- ro.len,<- lr,<- Ft];exact hz,?_⟩
        have app:∀(l2 ) (ys2 ),Ar X.K F2 l2 ys2->∀(l ) (xs ) (H0 ),RpO X.K F2 H0 l xs Rr->RpO X.K F2 H0 (l++l2) (xs++ys2) Rr:=by
         intro l2
         induction l2 with
         |nil=>intro ys2 hk l xs H0 hro;rw[hk.inv0,ç,ç];exact hro|cons t l2 ih=>
          intro ys2 hk l xs H0 hro;obtain⟨y,ys',rfl,r1,rs1⟩:=hk.inv;have h2:=hro.snoc (r1.any) (λ_ _ _ z=>z)
          have e3:(λj=>if j=l.length then R0 else Rr j)=Rr:=funext λj=>by
           by_cases hj:j=l.length
           .erw[hj,Î];exact funext λa=>propext ⟨λz=>z.elim,λz=>absurd (hro.out _ a z) (î _)⟩
           .erw[hj,É]
          rw[e3]at h2;have h3:=ih ys' rs1 (l++[t]) (xs++[y]) H0 h2
          simpa using h3
        have ro2:=app _ _ kid l xs _ (ro1.upd (o:=.lst (xs++ys)) dp);have r3:=O7 hOw ro2 fp1 Bj dp;obtain⟨S3,st3⟩:=S1.upd ht ey (by rw[hA];exact .inl rfl) r3 (λa z=>.inl (by rw[hA];exact z)) (λj a z1 z2=>z2)
        exact q F2 _ σ _ ((e2.stp).trans st3) S3
       .erw[hz,É]at q<;>exact q.elim
     |_=>exact q.elim
    |_=>exact q.elim
theorem s_sto(hN:X.N[i]?=some x)(hv:EA X.env.scope x)(hd:(x == "__debug__")=false)(hcd:(x == "__classdict__")=false)(he:PE X e (tM X.K E ca m))(hk:PE X k (tM X.K E ca mk))(hs:swapsWithSole [.Subscript (.Name x p1) k pos2] e pos.line X.env=pure false)(hw:swappedStores [.Subscript (.Name x p1) k pos2] e X.env=pure none)
  (ha : ∀ v, assign (.Subscript (.Name x p1) k pos2) X.env v = (do
   let ov <- holding [v] (eval (.Name x p1) X.env);let iv <- holding [v,ov] (eval k X.env)
   standAt pos2
   holding [v,ov,iv] (setItem ov iv v)
   release [v,ov,iv] [])) :
  PS X (.Assign [.Subscript (.Name x p1) k pos2] e pos) (tS X.K E ca mu (HL i mk m)):=by
 refine PS.weak (O4 he (Vr (GW hN hv hd hcd) hk zgx ha) hs hw rfl) λD σ H h=>?_
 obtain⟨F,τ,R,S,q⟩:=h;refine⟨F,τ,R,S,?_⟩;unfold HL at q;cases hm:m τ with
 |none=>erw[hm]at q<;>exact q.elim|some r=>
  erw[hm]at q;cases r with
  |x c=>exact λF' H' e=>q F' H' σ R e.stp0 (S.ext e)|v t bb=>
   cases bb with
   |true=>exact q.elim|false=>
    intro F1 H1 y B e1 g1;have g1' :=g1;simp only at q;cases ho:Fl τ i with
    |none=>erw[ho]at q<;>exact q.elim|some kl=>
     obtain⟨kd,l⟩:=kl;erw[ho]at q;have S1:=S.ext e1;have ht:=O8 ho;obtain⟨y2,ey,ry⟩:=S1.rep i _ ht;refine⟨y2,ey,F1,τ,R,S1,?_⟩;cases hkk:mk τ with
     |none=>erw[hkk]at q<;>exact q.elim|some r=>
      erw[hkk]at q;cases r with
      |x c=>exact λF' H' e=>q F' H' σ R ((e1.stp0).trans e.stp0) (S1.ext e)|v tk bk=>
       cases tk with
       |int kk=>
        simp only at q;cases hj:Ce l.length kk with
        |none=>erw[hj]at q<;>exact q.elim|some j=>
         erw[hj]at q;intro F2 H2 z C e2 g2;have hz:=zli g2;subst hz;have S2:=S1.ext e2;have ry2:=ry.ext e2;obtain⟨p,xs,Rr,rfl,hA,fp,hp,ro,dp,hOw⟩:=ry2.own_inv;have hjl:=(QF hj).2.1;have g2':=g1'.ext e2
         have pB :=λz=>by
          have:R i p:=by rw[hA];exact .inl rfl
          exact S.apart e1 z i this
         refine⟨p,xs,kk,j,rfl,rfl,hp,by rw[<- ro.len];exact hj,?_⟩
         have ro2:RpO X.K F2 (upd H2 p (.lst (xs.set j y))) (l.set j t) (xs.set j y) _:=(ro.upd dp).set hjl (g2'.upd pB) λj' a _ z1 z2=>S.apart e1 z2 i (by rw[hA];exact .inr ⟨j',z1⟩)
         have dp2:∀j',¬ (if j'=j then B else Rr j') p:=λj' z=>by
          by_cases hj':j'=j
          .erw[hj',Î]at z;exact pB z
          .erw[hj',É]at z;exact dp j' z
         have r3:=O7 hOw ro2 fp Bj dp2
         obtain⟨S3,st3⟩:=S2.upd ht ey (by rw[hA];exact .inl rfl) r3 (λa z=>by
          rw[hA]
          rcases z with z|z
          .exact .inl (.inl z)
          .rcases zjm z with w|w
           .exact .inl (.inr w)
           .exact .inr w) (λj a z1 z2=>S.apart e1 z2 j z1)
         exact q F2 _ σ _ ((e1.stp.trans e2.stp0).trans st3) S3
       |_=>exact q.elim
noncomputable def JR(i j:Nat)(ms:BQ):AH:=λτ=>match ms τ with
 |some (.v ts false)=>(match ts with
  |[t,u]=>if i<τ.length/\j<τ.length then some (.nx ((τ.set i (some t)).set j (some u))) else none
  |_=>none)
 |some (.v _ true)=>none|some (.x c)=>some (.xc c τ)|none=>none
theorem s_par{px py pt}(hc:X.calm=true)(hN:X.N.Nodup)(hi:X.N[i]?=some x)(hj:X.N[j]?=some y)(hij:i≠j)
  (hx:X.env.scope.names.lookup x=some .local) (hy:X.env.scope.names.lookup y=some .local) (ha:PA X [a,b] (Bx X.K E ca ms))
  (hw:swappedStores [.Tuple [.Name x px,.Name y py] kt pt] (.Tuple [a,b] k2 pt2) X.env=pure (some [x,y]))
  (hs:swapsWithSole [.Tuple [.Name x px,.Name y py] kt pt] (.Tuple [a,b] k2 pt2) pos.line X.env=pure false) :
  PS X (.Assign [.Tuple [.Name x px,.Name y py] kt pt] (.Tuple [a,b] k2 pt2) pos) (tS X.K E ca mu (JR i j ms)):=by
 refine PS.weak (znn hc hN hi hj hij hx hy ha hw hs) λD σ H h=>?_
 obtain⟨F,τ,R,S,q⟩:=h;refine⟨F,τ,R,S,?_⟩;unfold JR at q;cases hm:ms τ with
 |none=>erw[hm]at q<;>exact q.elim|some r=>
  erw[hm]at q;cases r with
  |x c=>exact λF' H' e=>q F' H' σ R e.stp0 (S.ext e)|v ts bb=>
   cases bb with
   |true=>exact q.elim|false=>
    intro F1 H1 xs e1 rs;simp only at q
    match ts,q,rs with
    |[t,u],q,rs=>
     simp only at q
     by_cases hl:i<τ.length/\j<τ.length
     .erw[hl,Î]at q;obtain⟨x1,xs1,rfl,r1,rs1⟩:=rs.inv;obtain⟨x2,xs2,rfl,r2,rs2⟩:=rs1.inv;cases rs2.inv0;have S1:=S.ext e1;have S2:=S1.set ((r1).any) (λ_ _ _ _ z=>z.elim) hl.1
      have S3:=S2.set ((r2).any) (λ_ _ _ _ z=>z.elim) (by simpa using hl.2)
      refine⟨x1,x2,rfl,q F1 H1 _ _ (e1.stp0.mono ?_) S3⟩;rintro a ⟨k,z⟩
      by_cases hk:k=j
      .erw[hk,Î]at z;exact z.elim
      .erw[hk,É]at z
       by_cases hk2:k=i
       .erw[hk2,Î]at z;exact z.elim
       .erw[hk2,É]at z;exact⟨k,z⟩
     .erw[hl,É]at q<;>exact q.elim
    |[],q,rs=>exact q.elim|[_],q,rs=>exact q.elim|_::_::_::_,q,rs=>exact q.elim
end
section
variable {X:Cx}{E:L2.St->XK}{ca:Str->Value}{σ:L2.St}{H F:Hp}{K:k6}{m mk:AI}{ms:BQ}{D:Ends}{e:Expr}{es:kC}{pos apos cpos p1 p2:Pos}{i j:Nat}{x y:Str}{τ:AK}{R:Nat->Rg}{mu:Bool}
set_option genInjectivity true in
inductive Mo where
 |ok (v:T) (τ:AK)|exc (c:Str) (τ:AK)
def Fi(K:k6)(ca:Str->Value)(g:kL->Option Ru):Sp:=λvs H Q E=>∃F p l ts A vs',Af F H/\vs=.ref p::vs'/\Rp K F H (.nd true (.pin p) l) (.ref p) A/\Ar K F ts vs'/\match g (.nd true (.pin p) l::ts) with
 |some (.ok t)=>∀F' H' x B,Stp F H A F' H' B->Wr K true F' H' t x B->Q x H'|some (.exc c)=>∀F' H',Stp F H A F' H' R0->XE E ca c F' H'|none=>False
variable {mm:AK->Option Mo}
end
abbrev WH(A:Around):Around:={ A with handled:=none }
structure FnS(P:Program)(w:World)(K:k6)(mg:Str->Option Value)(base:Heap)(k:Nat)(f:Addr)(fd:FuncData)(p:Str)(sp:Sp):Prop where
 run:∀(A:Around) (outer:List Env) (s:Shared) (H:Hp) (args:Args) (a:Addr) (Q:VK),A.handled=some (.ref a)->(∃C,b9 H a C)->Room k (WH A)->Env0 P w K mg base A outer s H->BindsTo s fd args [(p,.ref a)]->sp [.ref a] H Q E0 ->
  codeAny (model P w) A (.call (.ref f) args) (CR K5 outer P w H s Q E0) s
structure DefS(P:Program)(w:World)(K:k6)(mg:Str->Option Value)(base:Heap)(k:Nat)(x p:Str)(sp:Sp) where
 f:Addr
 fd:FuncData
 ok:FnS P w K mg base k f fd p sp
 m:mg x=some (.ref f)
 kp:W.keepIn K (.ref f)=true
 b:Cr K fd [p] []
section
variable {X:Cx}{pz:List (Addr×Obj)}{σ:L2.St}{H:Hp}{s:Shared}{a:Addr}{kvs:List (Key×V)}
end
section
variable {X:Cx}
def tDicO:TE:=λ_ H Q=>∀p,H p=none->Q (.ref p) (upd H p (.dK []))
theorem zkc:PE X (.Dict [] [] pos) tDicO:=λpz s σ H Q I h=>by
 refine wpAny_Dict_empty ⟨.ref s.heap.objs.size,_,I.laid (λ_ _ q=>Ì _ q) (È _) (zik s.heap I.big),rfl,h _ (I.hok.fresh (È _))⟩
end
section
variable {X:Cx}{E:L2.St->XK}{ca:Str->Value}{m mk mv:AI}{e k:Expr}{pos p1 pos2:Pos}{mu:Bool}
end
section
variable {X:Cx}{E:L2.St->XK}{ca:Str->Value}{m mk:AI}{e k:Expr}{pos p1 pos2:Pos}{mu:Bool}{i:Nat}{x:Str}
end
theorem zoc(hu:X.A.units+64<cLine):As X (compareOp .NotEq) (By X.K Bz):=by
 intro pz s σ H x y v u Q I rx ry h;obtain⟨F,t1,t2,r,fh,r1,r2,e,q⟩:=h;unfold Bz at e;split at e
 .cases e;rename_i hc;unfold Hg ES at hc;rw[Ê,Ê,Ê,Ê,ö]at hc;obtain⟨a1,q1⟩:=GN I fh (r1.any) hc.1.1.1 rx;obtain⟨a2,q2⟩:=GN I fh (r2.any) hc.1.2.1 ry;exact SeqAt.compareNe_reads q1 q2 hc.1.1.2 hc.1.2.2 (aK hu hc.2) ⟨.bl _,H,I,rfl,q.bl fh⟩
 .cases e
theorem StR.frz{K }       (S:StR K F H σ τ R)(ht:τ[i]?=some (some t)):StR K (Pu.frz F H (R i)) H σ (τ.set i (some t.share)) (λj=>if j=i then R0 else R j):=by
 obtain⟨x,ex,r⟩:=S.rep i t ht;have hi:i<τ.length:=(Õ.mp ht).1;have n:∀a,R i a->F a=none:=λa z=>(r.dom z).1
 refine⟨Ia S.fh,by simpa using S.len,λj t' e=>?_,λj a z=>?_,λj k a hjk z1 z2=>?_⟩
 .by_cases hj:j=i
  .subst hj;rw[í hi]at e;cases e;exact⟨x,ex,by simpa using r.share (FA n) λa u z q=>by rw[Gh z];exact q⟩
  .rw[ã (Ð hj)]at e;obtain⟨y,e1,r1⟩:=S.rep j t' e;refine⟨y,e1,?_⟩;erw[hj,É]
   exact r1.frame (FA n) λa z=>⟨rfl,by
    rw[Fy (λz'=>S.dis j i a hj z z')]
    exact(r1.dom z).1⟩
 .by_cases hj:j=i
  .erw[hj,Î]at z;exact z.elim
  .erw[hj,É]at z;obtain⟨t',e⟩:=S.out j a z;exact⟨t',by rw[ã (Ð hj)];exact e⟩
 .by_cases hj:j=i
  .erw[hj,Î]at z1;exact z1.elim
  .by_cases hk:k=i
   .erw[hk,Î]at z2;exact z2.elim
   .erw[hj,É]at z1;erw[hk,É]at z2;exact S.dis j k a hjk z1 z2
section
variable {X:Cx}{E:L2.St->XK}{ca:Str->Value}{σ:L2.St}{H:Hp}{K:k6}{u w:AH}{D:Ends}
end
theorem YE{fs:kE}{xs}{f}:∀{j} {x:V},fs.findIdx? (· == f)=some j->xs[j]?=some x->(fs.zip xs).lookup f=some x:=by
 induction fs generalizing xs with
 |nil=>intro j x h;simp at h|cons g r ih=>
  intro j x h hx;rw[ź]at h;cases xs with
  |nil=>simp at hx|cons y ys=>
   rw[Ē,ĉ]
   by_cases hg:g=f
   .subst hg;erw[ÿ,Î,Θ]at h;subst h;simp at hx;rw[ÿ,hx]
   .have h1:=beq_eq_false_iff_ne.mpr hg;have h2:=beq_eq_false_iff_ne.mpr (Ð hg);rw[h1]at h;erw[Ő,É,à]at h;obtain⟨j',h3,rfl⟩:=h;rw[h2];exact ih h3 (by simpa using hx)
theorem zaq{fs:kE}{xs:kK}(h:fs.contains f=false):(fs.zip xs).lookup f=none:=by
 induction fs generalizing xs with
 |nil=>rfl|cons g r ih=>
  cases xs with
  |nil=>rfl|cons y ys=>rw[ŕ,ģ]at h;rw[Ē,ĉ,h.1];exact ih h.2
theorem Rp.obj_inv{K}(h:Rp K F H (.obj k l) x A):∃p xs,x=.ref p/\A=R0/\KY F k p xs/\l.length=xs.length/\∀(i:Nat) (t) (x),l[i]?=some t->xs[i]?=some x->Rp K F H t x R0:=by
 cases h with
 |obj h e c=>exact⟨_,_,rfl,rfl,h,e,c⟩
noncomputable def Bu(C:Addr)(fs:kE):T->Option (kL)
 |.obj (.ins C' fs') l=>if C'=C/\fs'=fs then some l else none
 |_=>none
theorem Y8(h:Bu C fs t=some l):t=.obj (.ins C fs) l:=by
 unfold Bu at h
 grind
def Bl(C:Addr)(fs:kE)(j:Nat)(m:AI):AI:=λτ=>match m τ with
 |some (.v t b)=>(match Bu C fs t with
  |some l=>(match l[j]? with
   |some u=>some (.v u (b && !u.sh))|none=>none)
  |none=>none)
 |some (.x c)=>some (.x c)|none=>none
def CZ(C:Addr)(fs:kE)(g:kL->Option Ru)(m:AI)(ms:BQ):AI:=λτ=>match m τ with
 |some (.v t _)=>(match Bu C fs t with
  |some _=>(match ms τ with
   |some (.v ts b)=>(match g (t.share::ts) with
    |some (.ok v)=>BP b v|some (.exc c)=>Jl true c|none=>none)
   |some (.x c)=>some (.x c)|none=>none)
  |none=>none)
 |some (.x c)=>some (.x c)|none=>none
def Cn(m n:AI):AI:=λτ=>match m τ with
 |some r=>some r|none=>n τ
section
variable {X:Cx}{E:L2.St->XK}{ca:Str->Value}{m n:AI}{ms:BQ}{e o:Expr}{es:kC}{pos p apos:Pos}{C:Addr}{fs:kE}{f:Str}{j:Nat}
theorem O0(h1:PE X e (tM X.K E ca m))(h2:PE X e (tM X.K E ca n)):PE X e (tM X.K E ca (Cn m n)):=λpz s σ H Q I h=>by
 obtain⟨F,τ,R,S,q⟩:=h;unfold Cn at q;cases hm:m τ with
 |none=>rw[hm]at q;exact h2 pz s σ H Q I ⟨F,τ,R,S,q⟩|some r=>rw[hm]at q;exact h1 pz s σ H Q I ⟨F,τ,R,S,by rw[hm];exact q⟩
theorem MN{K}(g:EF K F H R (.obj k l) b x B):Rp K F H (.obj k l) x R0/\B=R0:=by
 cases b with
 |true=>obtain⟨hB,A,_,r⟩:=g;obtain⟨p,xs,rfl,hA,_⟩:=r.obj_inv;exact⟨hA▸r,hB⟩
 |false=>have r:=g;obtain⟨p,xs,rfl,hA,_⟩:=r.obj_inv;exact⟨hA▸r,hA⟩
theorem r_fld(c:Cls X.K C)(hn:Cb X.K C f)(hj:fs.findIdx? (· == f)=some j)(ho:PE X o (tM X.K E ca m))(hb:attributeBase o f X.env (eval o X.env)=eval o X.env):PE X (.Attribute o f pos) (tM X.K E ca (Bl C fs j m)):=by
 refine PE.weak (Vw ho hb) λσ H Q h=>?_
 obtain⟨F,τ,R,S,q⟩:=h;refine⟨F,τ,R,S,?_⟩;unfold Bl at q;cases hm:m τ with
 |none=>erw[hm]at q<;>exact q.elim|some r=>
  erw[hm]at q;cases r with
  |x c=>exact q|v t b=>
   intro F1 H1 x B e1 g1;cases hi:Bu C fs t with
   |none=>erw[hi]at q<;>exact q.elim|some l=>
    erw[hi]at q;have ht:=Y8 hi;subst ht;cases hu:l[j]? with
    |none=>erw[hu]at q<;>exact q.elim|some u=>
     erw[hu]at q;obtain⟨r1,hB⟩:=MN g1;subst hB;obtain⟨a,xs,rfl,_,⟨dx,hF⟩,el,cc⟩:=r1.obj_inv;have hjl:=(Õ.mp hu).1;have hx:xs[j]?=some xs[j]:=Â (by omega)
     have hc:=cc j u _ hu hx;refine⟨a,_,dx,_,xs[j],rfl,e1.fh _ _ hF,c,hn,YE hj hx,?_⟩;refine q F1 H1 _ R0 e1 ?_;cases b with
     |false=>exact hc|true=>
      cases hs:u.sh with
      |true=>exact hc|false=>exact⟨rfl,R0,λ_ z=>z.elim,hc⟩
structure MetX(P:Program)(w:World)(K:k6)(mg:Str->Option Value)(base:Heap)(C:Addr)(m:Str)(k:Nat)(ps:kE)(sp:Sp) where
 f:Addr
 fd:FuncData
 c:Cls K C
 me:Meth K C m f
 ok:FnOk P w K mg base (Cc P w) k f fd ps sp
 b:Cr K fd ps []
def Nz(C:Addr)(m:Str)(sp:Sp)(E:L2.St->XK)(ta:TE)(t:TA):TE:=λσ H Q=>ta σ H λx H1=>∃a dx fs,x=.ref a/\H1 a=some (.ins C dx fs)/\fs.lookup m=none /\
 t σ H1 λvs H2=>sp (x::vs) H2 Q (E σ)
theorem pmx(D:MetX X.prog X.w X.K X.mg X.base C f k ps sp)(hr:Room j X.A)(hx:BW X E)(he:PE X o ta)(ha:PA X (e::es) t)(hk:k<=j)
  (hst:starEach (e::es) X.env=(false,eval e X.env)::starEach es X.env) (hpl:(backTo pos (starEach es X.env)).any (·.1)=false)
  (ht : eval (.Call (.Attribute o f apos) (e :: es) [] pos) X.env = (do
   let ov <- eval o X.env
   standAt apos.atName
   let (f,first) <- holding [ov] (getMethod ov f pl)
   callWith pos f first (backTo pos (starEach (e::es) X.env)) (backToKw pos (keywordEach [] X.env)))):PE X (.Call (.Attribute o f apos) (e::es) [] pos) (Nz C f sp E ta t):=by
 intro pz s σ H Q I h;refine W.methodCall_KW (AX (he pz s σ H _ I h) λu s1 zz=>?_) ht
 obtain⟨x,H1,I1,rx,a,dx,fs,ex,ea,l,q⟩:=zz;subst ex;obtain rfl:u=Value.ref a:=rx;refine Ym I1 ea D.c D.me l ?_;refine Ĺ I.ok.mod.kin D.me.kp (AX (ha pos pz s1 σ H1 _ I1 q) λus s2 zz=>?_) hst hpl;obtain⟨vs,H2,I2,r,q2⟩:=zz;refine⟨I2.kIn,?_⟩
 exact LQ (vs:=.ref a::vs) D.ok (hr.mono hk) D.b .nil hx I2 (.cons rfl r) (by grind)
theorem pmx0(D:MetX X.prog X.w X.K X.mg X.base C f k ps sp)(hr:Room j X.A)(hx:BW X E)(he:PE X o ta)(hk:k<=j)
  (ht : eval (.Call (.Attribute o f apos) [] [] pos) X.env = (do
   let ov <- eval o X.env
   standAt apos.atName
   let (f,first) <- holding [ov] (getMethod ov f pl)
   callWith pos f first (backTo pos (starEach [] X.env)) (backToKw pos (keywordEach [] X.env)))):PE X (.Call (.Attribute o f apos) [] [] pos) (Nz C f sp E ta TU):=by
 intro pz s σ H Q I h;refine W.methodCall_KW (AX (he pz s σ H _ I h) λu s1 zz=>?_) ht
 obtain⟨x,H1,I1,rx,a,dx,fs,ex,ea,l,q⟩:=zz;subst ex;obtain rfl:u=Value.ref a:=rx;refine Ym I1 ea D.c D.me l ?_;exact W.callWith_K0 I1.kIn D.me.kp (LQ (vs:=[.ref a]) D.ok (hr.mono hk) D.b .nil hx I1 (.cons rfl .nil) q)
theorem TX(hf:fs.contains f=false)(h:tM X.K E ca (CZ C fs g m ms) σ H Q):Nz C f (Br X.K ca g) E (tM X.K E ca m) (Bx X.K E ca ms) σ H Q:=by
 obtain⟨F,τ,R,S,q⟩:=h;refine⟨F,τ,R,S,?_⟩;unfold CZ at q;cases hm:m τ with
 |none=>erw[hm]at q<;>exact q.elim|some r=>
  erw[hm]at q;cases r with
  |x c=>exact q|v t b=>
   intro F1 H1 x B e1 g1;cases hi:Bu C fs t with
   |none=>erw[hi]at q<;>exact q.elim|some l=>
    erw[hi]at q;have ht:=Y8 hi;subst ht;obtain⟨r1,hB⟩:=MN g1;subst hB;have S1:=S.ext e1;obtain⟨a,xs,rfl,_,⟨dx,hF⟩,el,cc⟩:=r1.obj_inv;refine⟨a,dx,_,rfl,e1.fh _ _ hF,zaq hf,F1,τ,R,S1,?_⟩;cases hs:ms τ with
    |none=>erw[hs]at q<;>exact q.elim|some r=>
     erw[hs]at q;cases r with
     |x c=>exact λF' H' e=>q F' H' (e1.trans0 e)|v ts b'=>
      intro F2 H2 vs e2 rs;have S2:=S1.ext e2;simp only at q;have r2:Rp X.K (Gz b' F2 H2 R) H2 (T.obj (.ins C fs) l).share (.ref a) R0:=(r1.ext e2).share (MM S2) λ_ _ z=>z.elim
      refine⟨Gz b' F2 H2 R,_,QO S2,.cons r2 rs,?_⟩;have e12:=e1.trans0 e2;cases hg:g ((T.obj (.ins C fs) l).share::ts) with
      |none=>erw[hg]at q<;>exact q.elim|some r=>
       erw[hg]at q;cases r with
       |exc c=>
        erw[Jl]at q;cases hp:Ef c with
        |none=>rw[hp]at q;exact λF' H' e3=>(q F2 H' (e12.grow e3.hh)).any hp|some n=>rw[hp]at q;exact q.elim
       |ok v=>
        intro F3 H3 z C3 e3 r3;simp only at q;unfold BP at q;cases b' with
        |false=>exact q F3 H3 z C3 (e12.trans0 e3) r3|true=>
         cases hf:v.flat with
         |false=>rw[hf]at q;cases q|true=>rw[hf]at q;exact q F2 H3 z R0 (e12.grow e3.hh) (r3.flat_any hf)
theorem zn9(D:MetX X.prog X.w X.K X.mg X.base C f k ps (Br X.K ca g))(hf:fs.contains f=false)(hr:Room j X.A)(hx:BW X E)(he:PE X o (tM X.K E ca m))(ha:PA X (e::es) (Bx X.K E ca ms))(hk:k<=j)
  (hst:starEach (e::es) X.env=(false,eval e X.env)::starEach es X.env) (hpl:(backTo pos (starEach es X.env)).any (·.1)=false)
  (ht : eval (.Call (.Attribute o f apos) (e :: es) [] pos) X.env = (do
   let ov <- eval o X.env
   standAt apos.atName
   let (f,first) <- holding [ov] (getMethod ov f pl)
   callWith pos f first (backTo pos (starEach (e::es) X.env)) (backToKw pos (keywordEach [] X.env)))):PE X (.Call (.Attribute o f apos) (e::es) [] pos) (tM X.K E ca (CZ C fs g m ms)):=
 PE.weak (pmx D hr hx he ha hk hst hpl ht) λσ H Q h=>TX hf h
structure NewX(P:Program)(w:World)(K:k6)(mg:Str->Option Value)(base:Heap)(x:Str)(C:Addr)(k:Nat)(ps:kE)(sp:Sp) where
 f:Addr
 fd:FuncData
 m:mg x=some (.ref C)
 ma:Mk K C f
 ok:FnOk P w K mg base (Cc P w) k f fd ps sp
def zmh(C:Addr)(sp:Sp)(dvs:kK)(E:L2.St->XK)(t:TA):TE:=λσ H Q=>t σ H λvs H1=>∀x dx,H1 x=none->H1 dx=none->dx≠x ->
 sp (.ref x::(vs++dvs)) (upd (upd H1 dx (.own x)) x (.ins C dx [])) (λv H2=>v=.non/\Q (.ref x) H2) (E σ)
theorem pnx{t:TA}(D:NewX X.prog X.w X.K X.mg X.base x C k ps sp)(hb:Cr X.K D.fd ps ds)(hd:Al dvs ds)(hr:Room j X.A)(hx:BW X E)(ha:PA X (e::es) t)(hk:k+1<=j)(hg:Gl X x)(hdb:(x == ("__debug__":Str))=false)
  (he:starEach (e::es) X.env=(false,eval e X.env)::starEach es X.env) (hpl:(backTo pos (starEach es X.env)).any (·.1)=false):PE X (.Call (.Name x p) (e::es) [] pos) (zmh C sp dvs E t):=by
 intro pz s σ H Q I h;refine ğ (G5 I hg D.m ?_ hdb);refine Ĺ I.ok.mod.kin D.ma.kp (AX (ha pos pz s σ H _ I h) λus s1 zz=>?_) he hpl;obtain⟨vs,H1,I1,r,q⟩:=zz;refine⟨I1.kIn,?_⟩
 have hq:=q (s1.heap.objs.size+1) s1.heap.objs.size (I1.hok.fresh (Ą _)) (I1.hok.fresh (È _)) (Ö (ħ _));have I2:=Inv.made (C:=C) I1;have r2:Al (V.ref (s1.heap.objs.size+1)::(vs++dvs)) (Value.ref (s1.heap.objs.size+1)::(us++ds)):=.cons rfl (r.append hd)
 have hl :=by
  have e:=r2.length;rw[D.ok.len _ _ _ _ hq]at e;exact e.symm
 refine Ď (zhu I1.kIn D.ma.makes D.ma.init (beq_iff_eq.mp D.ma.fn) (ą (D.ok.run _ X.stack _ _ ⟨Value.ref (s1.heap.objs.size+1)::us,[]⟩ (Value.ref (s1.heap.objs.size+1)::(us++ds)) _ _ (E σ) ((hr.mono hk).make C us [])
  (I2.env0.make C us []) (hb _ (Value.ref (s1.heap.objs.size+1)::us) I2.kIn hl) r2 hq) λr s' hq'=>?_))
 cases r with
 |error v=>exact hx pz σ _ _ v s' I2 hq'|ok fl=>
  cases fl with
  |ret u=>obtain⟨v,H',I3,rv,ev,q3⟩:=I2.after hq';subst ev;exact⟨rv,⟨V.ref (s1.heap.objs.size+1),H',I3,rfl,q3⟩⟩
  |next=>exact False.elim hq'|brk=>exact False.elim hq'|cont=>exact False.elim hq'
def JP(K:k6)(ca:Str->Value)(C:Addr)(g:kL->Option Ru):Sp:=λvs H Q E=>∃F p dx ts vs',Af F H/\vs=.ref p::vs'/\F p=none/\H p=some (.ins C dx [])/\Ar K F ts vs'/\match g ts with
 |some (.ok t)=>∀F' H',Stp F H (λa=>a=p) F' H' R0->Rp K F' H' t (.ref p) R0->Q .non H'|some (.exc c)=>∀F' H',Stp F H (λa=>a=p) F' H' R0->XE E ca c F' H'|none=>False
noncomputable def G3(g:kL->Option Ru)(ds:kL)(ms:BQ):AI:=λτ=>match ms τ with
 |some (.v ts false)=>(match g (ts++ds) with
  |some (.ok t)=>some (.v t false)|some (.exc c)=>some (.x c)|none=>none)
 |some (.v _ true)=>none|some (.x c)=>some (.x c)|none=>none
theorem r_new{x:Str}(D:NewX X.prog X.w X.K X.mg X.base x C k ps (JP X.K ca C g))(hb:Cr X.K D.fd ps ds)(hd:Al dvs ds)(hdt:∀F:Hp,Ar X.K F dts dvs)(hr:Room j X.A)(hx:BW X E)(ha:PA X (e::es) (Bx X.K E ca ms))(hk:k+1<=j)(hg:Gl X x)(hdb:(x == ("__debug__":Str))=false)
  (he:starEach (e::es) X.env=(false,eval e X.env)::starEach es X.env) (hpl:(backTo pos (starEach es X.env)).any (·.1)=false):PE X (.Call (.Name x p) (e::es) [] pos) (tM X.K E ca (G3 g dts ms)):=by
 refine PE.weak (pnx D hb hd hr hx ha hk hg hdb he hpl) λσ H Q h=>?_
 obtain⟨F,τ,R,S,q⟩:=h;refine⟨F,τ,R,S,?_⟩;unfold G3 at q;cases hs:ms τ with
 |none=>erw[hs]at q<;>exact q.elim|some r=>
  erw[hs]at q;cases r with
  |x c=>exact q|v ts b=>
   cases b with
   |true=>exact λF1 H1 xs e1 rs=>q.elim|false=>
    intro F1 H1 xs e1 rs a dx ha hdx hne;simp only at q;have rs' :=rs
    have key:∀F' H',Stp F1 (upd (upd H1 dx (.own a)) a (.ins C dx [])) (λb=>b=a) F' H' R0->Ext F H F' H' R0:=λF' H' st=>by
     refine e1.trans0 ⟨λb u z=>?_,st.ff,st.fh,λ_ z=>z.elim,λb u z=>?_⟩
     .have h1 :=Bt z ha;have h2 :=Bt z hdx;exact st.kp b u h1 (by rw[Ag h1,Ag h2];exact z)
     .rcases st.nf b u z with w|w|w
      .exact .inl w
      .rw[w];exact .inr ha
      .by_cases h1:b=a
       .rw[h1];exact .inr ha
       .by_cases h2:b=dx
        .rw[h2];exact .inr hdx
        .rw[Ag h1,Ag h2]at w;exact .inr w
    have fh2:Af F1 (upd (upd H1 dx (.own a)) a (.ins C dx [])):=λb u z=>by
     have z':=e1.fh b u z;rw[Ag (Bt z' ha),Ag (Bt z' hdx)];exact z'
    refine⟨F1,a,dx,ts++dts,xs++dvs,fh2,rfl,GY e1.fh ha,Bj,LU rs' (hdt F1),?_⟩;cases hg:g (ts++dts) with
    |none=>erw[hg]at q<;>exact q.elim|some r=>
     erw[hg]at q;cases r with
     |exc c=>exact λF' H' st=>q F' H' (key F' H' st)|ok t=>exact λF' H' st r=>⟨rfl,q F' H' _ R0 (key F' H' st) r⟩
end
noncomputable def Fm(τ:AK)(i:Nat)(C:Addr)(fs:kE):Option (Addr×kL):=match τ[i]? with
 |some (some (.oob p C' fs' l))=>if C'=C/\fs'=fs then some (p,l) else none
 |_=>none
theorem O9(h:Fm τ i C fs=some (p,l)):τ[i]?=some (some (.oob p C fs l)):=by
 unfold Fm at h
 grind
def EI(C:Addr)(fs:kE)(j i:Nat)(m:AI):AH:=λτ=>match m τ with
 |some (.v t false)=>(match Fm τ i C fs with
  |some (p,l)=>if l.length=j then some (.nx (τ.set i (some (.oob p C fs (l++[t]))))) else none
  |none=>none)
 |some (.v _ true)=>none|some (.x c)=>some (.xc c τ)|none=>none
def JX:kH->Option (kE×kL)
 |some (.osd ks l)=>some (ks,l)|_=>none
theorem ze1(h:JX o=some (ks,l)):o=some (.osd ks l):=by
 unfold JX at h
 grind
open Classical in
def JT(C:Addr)(fs:kE)(j i:Nat)(mk m:AI):AH:=λτ=>match m τ with
 |some (.v t false)=>(match Fm τ i C fs with
  |some (p,l)=>(match JX l[j]? with
   |some (ks,lv)=>(match mk τ with
    |some (.v (.str k) _)=>if k∉ks/\ks.length<100000 then some (.nx (τ.set i (some (.oob p C fs (l.set j (.osd (ks++[k]) (lv++[t.share]))))))) else none
    |some (.v _ _)=>none|some (.x c)=>some (.xc c τ)|none=>none)
   |none=>none)
  |none=>none)
 |some (.v _ true)=>none|some (.x c)=>some (.xc c τ)|none=>none
def Lz:AI:=λ_=>some (.v (.osd [] []) false)
theorem Vi:∀{fs:kE} {xs:kK},fs[xs.length]?=some f->(fs.take xs.length).contains f=false->DX f y (fs.zip xs)=fs.zip (xs++[y])
 |[],xs,h,_=>by simp at h|g::r,[],h,_=>by
  simp at h;subst h;simp[DX]
 |g::r,x::xs,h,hn=>by
  rw[Ý,List.take_succ_cons,ŕ,ģ]at hn
  have hg:¬ g=f:=λz=>by
   grind
  have ih:=Vi (y:=y) (by simpa using h) hn.2
  rw[Ē,Œ,Ē];show(if g=f then _ else _)=_
  grind
section
variable {K:k6}{F H:Hp}{C:Addr}{fs:kE}{l:kL}
theorem Rp.oob_inv(h:Rp K F H (.oob p C fs l) x A):∃dx xs Rr,x=.ref p/\A=(λa=>a=p\/∃j,Rr j a)/\F p=none/\H p=some (.ins C dx (fs.zip xs))/\RpO K F H l xs Rr/\∀j,¬ Rr j p:=by
 cases h with
 |oob R f h e c d dp o=>exact⟨_,_,R,rfl,rfl,f,h,⟨e,c,d,o⟩,dp⟩
theorem WG(r:RpO K F H l xs Rr)(f:F p=none)(h:H p=some (.ins C dx (fs.zip xs)))(dp:∀j,¬ Rr j p):Rp K F H (.oob p C fs l) (.ref p) (λa=>a=p\/∃j,Rr j a):=.oob Rr f h r.len r.rep r.dis dp r.out
theorem Rp.osd_inv(h:Rp K F H (.osd ks l) x A):∃p xs Rs,x=.ref p/\A=(λa=>a=p\/∃j,Rs j a)/\F p=none/\H p=some (.dK (Cu ks xs))/\RpO K F H l xs Rs/\ks.length=xs.length/\∀j,¬ Rs j p:=by
 cases h with
 |osd R f h e ek c d dp o=>exact⟨_,_,R,rfl,rfl,f,h,⟨e,c,d,o⟩,ek,dp⟩
theorem zo4(r:RpO K F H l xs Rr)(ek:ks.length=xs.length)(f:F p=none)(h:H p=some (.dK (Cu ks xs)))(dp:∀j,¬ Rr j p):Rp K F H (.osd ks l) (.ref p) (λa=>a=p\/∃j,Rr j a):=.osd Rr f h r.len ek r.rep r.dis dp r.out
theorem zhl(r:RpO K F H l xs Rr)(ek:ks.length=xs.length)(f:F p=none)(dp:∀j,¬ Rr j p)(rt:Rp K F H t y B)(dB:∀j a,Rr j a->¬ B a)(pB:¬ B p):Rp K F (upd H p (.dK (Cu (ks++[k]) (xs++[y])))) (.osd (ks++[k]) (l++[t])) (.ref p) (λa=>a=p\/∃j,(if j=l.length then B else Rr j) a):=
 zo4 ((r.upd dp).snoc (rt.upd pB) dB) (by simp[ek]) f Bj λj z=>by
  by_cases hj:j=l.length
  .erw[hj,Î]at z;exact pB z
  .erw[hj,É]at z;exact dp j z
end
theorem zlb(h:ks.length=xs.length):(Cu ks xs).length=xs.length:=by
 unfold Cu
 grind
theorem zlc(h:kv∈Cu ks xs):∃k∈ks,kv.1=Sum.inr k:=by
 induction ks generalizing xs with
 |nil=>cases xs<;>cases h|cons a r ih=>
  cases xs with
  |nil=>cases h|cons b s=>
   rcases Ï.mp h with e|e
   .grind
   .obtain⟨k,hk,e⟩:=ih e
    grind
theorem zh8(h:ks.length=xs.length)(hk:k∉ks):EK (Cu ks xs) (Sum.inr k) y=Cu (ks++[k]) (xs++[y]):=by
 unfold EK;rw[if_neg]
 .unfold Cu;rw[List.zipWith_append h]
  rfl
 .intro c;obtain⟨kv,h1,h2⟩:=List.any_eq_true.mp c;obtain⟨k',h3,h4⟩:=zlc h1
  grind
section
variable {X:Cx}{E:L2.St->XK}{ca:Str->Value}{m mk:AI}{e k:Expr}{pos p1 pos2 pos3:Pos}{mu:Bool}{i j:Nat}{x f:Str}{C:Addr}{fs:kE}
theorem znc:PE X (.Dict [] [] pos) (tM X.K E ca Lz):=PE.weak zkc λσ H Q h p hp=>by
 obtain⟨F,τ,R,S,q⟩:=h;exact q F (upd H p (.dK [])) (.ref p) _ (Ext.newO S.fh hp) (Rp.osd0 (xs:=[]) (GY S.fh hp) Bj rfl rfl λi t x h=>by simp at h)
theorem zn0(c:Cls X.K C)(hn:Cb X.K C f)(hj:fs[j]?=some f)(hnf:(fs.take j).contains f=false)(hjl:j<900)(hN:X.N[i]?=some x)(hv:EA X.env.scope x)(hd:(x == "__debug__")=false)(hcd:(x == "__classdict__")=false)(he:PE X e (tM X.K E ca m))
  (hs:swapsWith e (some (.Attribute (.Name x p1) f pos2)) pos.line X.env=pure false):PS X (.Assign [.Attribute (.Name x p1) f pos2] e pos) (tS X.K E ca mu (EI C fs j i m)):=by
 refine PS.weak (znp (GW hN hv hd hcd) he hs) λD σ H h=>?_
 obtain⟨F,τ,R,S,q⟩:=h;refine⟨F,τ,R,S,?_⟩;unfold EI at q;cases hm:m τ with
 |none=>erw[hm]at q<;>exact q.elim|some r=>
  erw[hm]at q;cases r with
  |x c=>exact λF' H' e=>q F' H' σ R e.stp0 (S.ext e)|v t bb=>
   cases bb with
   |true=>exact λF1 H1 y B e1 g1=>q.elim|false=>
    intro F1 H1 y B e1 g1;have g1' :=g1;simp only at q;cases ho:Fm τ i C fs with
    |none=>erw[ho]at q<;>exact q.elim|some pl=>
     obtain⟨p,l⟩:=pl;erw[ho]at q
     by_cases hl:l.length=j
     .rw[if_pos hl]at q;have S1:=S.ext e1;have ht:=O9 ho;obtain⟨y2,ey,ry⟩:=S.rep i _ ht;obtain⟨dx,xs,Rr,rfl,hA,fp,hp,ro,dp⟩:=ry.oob_inv;have hxs:xs.length=j:=by rw[<- ro.len];exact hl
      have hp1:=e1.hh _ _ hp;have pB:¬ B p:=λz=>by rw[e1.nb p z]at hp;cases hp
      have fp1 :=(ry.ext e1 |>.dom (by rw[hA];exact .inl rfl)).1
      refine⟨_,ey,p,C,dx,fs.zip xs,rfl,hp1,c,hn,?_,?_⟩
      .rw[Ś]
       omega
      .rw[Vi (by rw[hxs];exact hj) (by rw[hxs];exact hnf)]
       have ro1:=ro.ext e1;have ro2:RpO X.K F1 (upd H1 p (.ins C dx (fs.zip (xs++[y])))) (l++[t]) (xs++[y]) _:=(ro1.upd dp).snoc (g1'.upd pB) λj a z1 z2=>ro.apart e1 z2 j z1
       have dp2:∀j,¬ (if j=l.length then B else Rr j) p:=λj z=>by
        by_cases hj:j=l.length
        .erw[hj,Î]at z;exact pB z
        .erw[hj,É]at z;exact dp j z
       have r2:=WG ro2 fp1 Bj dp2
       obtain⟨S3,st3⟩:=S1.upd ht ey (by rw[hA];exact .inl rfl) r2 (λa z=>by
        rw[hA]
        rcases z with z|z
        .exact .inl (.inl z)
        .rcases Tn z with w|w
         .exact .inl (.inr w)
         .exact .inr w) (λj a z1 z2=>S.apart e1 z2 j z1)
       exact q F1 _ σ _ (e1.stp.trans st3) S3
     .rw[if_neg hl]at q;exact q.elim
def rSetS:Rz:=λo i v H Q=>∃p kvs k,o=.ref p/\i=.str k/\H p=some (.dK kvs)/\kvs.length<sizeLine/\Q (upd H p (.dK (EK kvs (Sum.inr k) v)))
theorem zgy(hu:X.A.units+1<cLine):SI X rSetS:=by
 intro pz s σ H o i v ov iv u Q I ro ri rv h;obtain⟨p,kvs,k,rfl,rfl,hp,hl,q⟩:=h;cases ro;exact zfu hu I (NW.k (k:=Sum.inr k) hp hl) (ri) rv λs' I'=>⟨_,I',q⟩
theorem Ge{K}(g:EF K F H R (.str z) b y B):y=.str z:=by
 cases b with
 |true=>obtain⟨_,A,_,r⟩:=g;exact r.str_inv
 |false=>exact(g).str_inv
theorem s_dpf(hu:X.A.units+1<cLine)(c:Cls X.K C)(hn:Cb X.K C f)(hj:fs.findIdx? (· == f)=some j)(hN:X.N[i]?=some x)(hv:EA X.env.scope x)(hd:(x == ("__debug__":Str))=false)(hcd:(x == "__classdict__")=false)(he:PE X e (tM X.K E ca m))(hk:PE X k (tM X.K E ca mk))
  (hs:swapsWithSole [.Subscript (.Attribute (.Name x p1) f pos3) k pos2] e pos.line X.env=pure false) (hw:swappedStores [.Subscript (.Attribute (.Name x p1) f pos3) k pos2] e X.env=pure none)
  (ha : ∀ v, assign (.Subscript (.Attribute (.Name x p1) f pos3) k pos2) X.env v = (do
   let ov <- holding [v] (eval (.Attribute (.Name x p1) f pos3) X.env);let iv <- holding [v,ov] (eval k X.env)
   standAt pos2
   holding [v,ov,iv] (setItem ov iv v)
   release [v,ov,iv] [])) :
  PS X (.Assign [.Subscript (.Attribute (.Name x p1) f pos3) k pos2] e pos) (tS X.K E ca mu (JT C fs j i mk m)):=by
 refine PS.weak (O4 he (Vr (Vw (GW hN hv hd hcd) rfl) hk (zgy hu) ha) hs hw rfl) λD σ H h=>?_
 obtain⟨F,τ,R,S,q⟩:=h;refine⟨F,τ,R,S,?_⟩;unfold JT at q;cases hm:m τ with
 |none=>erw[hm]at q<;>exact q.elim|some r=>
  erw[hm]at q;cases r with
  |x c=>exact λF' H' e=>q F' H' σ R e.stp0 (S.ext e)|v t bb=>
   cases bb with
   |true=>exact λF1 H1 y B e1 g1=>q.elim|false=>
    intro F0 H1 y B e0 g0;simp only at q;obtain⟨F1,e1,_,g1⟩:=EF.frz S e0 g0;have g1':Rp X.K F1 H1 t.share y R0:=(g1).any;cases ho:Fm τ i C fs with
    |none=>erw[ho]at q<;>exact q.elim|some pl=>
     obtain⟨p,l⟩:=pl;erw[ho]at q;cases hos:JX l[j]? with
     |none=>erw[hos]at q<;>exact q.elim|some kl=>
      obtain⟨ks,lv⟩:=kl;erw[hos]at q;have hlj:=ze1 hos;have S1:=S.ext e1;have ht:=O9 ho;obtain⟨y2,ey,ry⟩:=S1.rep i _ ht;obtain⟨dx,xs,Rr,rfl,hA,fp,hp,ro,dp⟩:=ry.oob_inv;have hjl:=(Õ.mp hlj).1;have hjx:j<xs.length:=by rw[<- ro.len];exact hjl
      have hx :=Â hjx;refine⟨_,ey,p,C,dx,_,xs[j],rfl,hp,c,hn,YE hj hx,F1,τ,R,S1,?_⟩;cases hkk:mk τ with
      |none=>erw[hkk]at q<;>exact q.elim|some r=>
       erw[hkk]at q;cases r with
       |x c=>exact λF' H' e=>q F' H' σ R ((e1.stp0).trans e.stp0) (S1.ext e)|v tk bk=>
        cases tk with
        |str kk=>
         simp only at q
         by_cases hc:kk∉ks/\ks.length<100000
         .rw[if_pos hc]at q;intro F2 H2 z CC e2 g2;have hz:=Ge g2;subst hz;have e2':Ext F1 H1 F2 H2 R0:=e2.mono λ_ z=>z.elim
          have S2:=S1.ext e2;have ry2:=ry.ext e2;have ro2:=ro.ext e2;have fp2 :=(ry2.dom (by rw[hA];exact .inl rfl)).1
          have hp2:=e2.hh _ _ hp;have rk:=ro2.rep j _ _ hlj hx;obtain⟨pd,ys,Rs,exj,hAd,fpd,hpd,rs,ek,ds⟩:=rk.osd_inv;have g2' :=g1'.ext e2;have pdj:Rr j pd:=by rw[hAd];exact .inl rfl
          have pne:pd≠p:=λz=>dp j (z▸pdj)
          refine⟨pd,Cu ks ys,kk,exj,rfl,hpd,?_,?_⟩
          .rw[zlb ek,<- ek,č];exact ņ hc.2 (by decide)
          .rw[zh8 ek hc.1];have r3:=zhl (k:=kk) rs ek fpd ds (g2'.any (H':=H2)) (λ_ _ _ z=>z.elim) (λz=>z.elim)
           have hE:(λa=>a=pd\/∃j,(if j=lv.length then R0 else Rs j) a)=Rr j:=by
            rw[hAd]
            funext a
            apply propext;constructor
            .rintro(z|⟨j,z⟩)
             .exact .inl z
             .split at z
              .exact z.elim
              .exact .inr ⟨j,z⟩
            .rintro(z|⟨j,z⟩)
             .exact .inl z
             .exact .inr ⟨j,by rw[if_neg (Ö (rs.out j a z))];exact z⟩
           rw[hE]at r3;have oth :=λk hk z=>ro2.dis k j pd hk z pdj
           have ro3:RpO X.K F2 (upd H2 pd (.dK (Cu (ks++[kk]) (ys++[y])))) (l.set j (.osd (ks++[kk]) (lv++[t.share]))) xs Rr:=by
            refine⟨by rw[Ĉ];exact ro2.len,λk t' x' h1 h2=>?_,ro2.dis,λk a z=>by rw[Ĉ];exact ro2.out k a z⟩
            by_cases hk:k=j
            .subst hk;rw[í hjl]at h1;rw[hx]at h2;cases h1;cases h2;rw[exj];exact r3
            .rw[ã (Ð hk)]at h1;exact(ro2.rep k t' x' h1 h2).upd (oth k hk)
           have r4:=WG ro3 fp2 (by rw[Ag (Ð pne)];exact hp2) dp
           obtain⟨S3,st3⟩:=S2.upd ht ey (by rw[hA];exact .inr ⟨j,pdj⟩) r4 (λa z=>.inl (by rw[hA];exact z)) (λj a z1 z2=>z2)
           exact q F2 _ σ _ ((e1.stp.trans e2.stp0).trans st3) S3
         .rw[if_neg hc]at q;exact q.elim
        |_=>exact λF' H' z CC e2 g2=>q.elim
end
section
variable {X:Cx}{E:L2.St->XK}{ca:Str->Value}{ma mb mc:AI}{a b c:Expr}{pos:Pos}{x:Str}{t:T}
theorem r_con(hg:Gl X x)(hm:X.mg x=some u)(rv:Ab v u)(hd:(x == "__debug__")=false)(r:∀F ,Rp X.K F F t v R0):PE X (.Name x pos) (tM X.K E ca (mC t)):=
 PE.weak (Vv hg hm rv hd) λσ H Q h=>by
  obtain⟨F,τ,R,S,q⟩:=h;exact q F H v R0 (Ext.refl S.fh) (r F).any
def Ei(g g':T->T->kH)(ma mb mc:AI):AI:=λτ=>match ma τ,mb τ with
 |some (.v t _),some (.v u _)=>if t.flat && u.flat then (match g t u with
  |some (.bl true)=>(match mc τ with
   |some (.v w _)=>if w.flat then (match g' u w with
    |some (.bl k)=>some (.v (.bl k) false)|_=>none) else none
   |_=>none)
  |some (.bl false)=>some (.v (.bl false) false)|_=>none) else none
 |_,_=>none
theorem IY{K}{b}{x}(g:EF K F H R v b x B)(h:v.flat=true):Rp K F' H' v x R0:=by
 cases b with
 |true=>obtain⟨_,A,_,r⟩:=g;exact r.flat_any h
 |false=>exact(g).flat_any h
theorem T4(h:tM X.K E ca (Ei g g' ma mb mc) σ H Q):OC (By X.K g) (By X.K g') (tM X.K E ca ma) (tM X.K E ca mb) (tM X.K E ca mc) σ H Q:=by
 obtain⟨F,τ,R,S,q⟩:=h;refine⟨F,τ,R,S,?_⟩;unfold Ei at q;cases h1:ma τ with
 |none=>erw[h1]at q<;>exact q.elim|some r1=>
  cases r1 with
  |x c=>erw[h1]at q<;>exact q.elim|v t b1=>
   cases h2:mb τ with
   |none=>erw[h1,h2]at q<;>exact q.elim|some r2=>
    cases r2 with
    |x c=>erw[h1,h2]at q<;>exact q.elim|v u b2=>
     erw[h1,h2]at q
     by_cases hf:(t.flat && u.flat)=true
     .rw[if_pos hf]at q;rw[Ê]at hf;intro F1 H1 x B1 e1 g1;have S1:=S.ext e1;refine⟨F1,τ,R,S1,?_⟩;rw[h2];intro F2 H2 y B2 e2 g2;have S2:=S1.ext e2;have e12:Ext F H F2 H2 R0:=(e1.trans e2).mono λ_ z=>z.elim
      cases hg:g t u with
      |none=>erw[hg]at q<;>exact q.elim|some k=>
       cases k with
       |bl k=>
        cases k with
        |false=>
         erw[hg]at q;refine⟨F2,t,u,_,S2.fh,IY g1 hf.1,IY g2 hf.2,hg,λF3 H3 z C3 e3 r3=>⟨false,r3.bl_inv,?_⟩⟩
         rw[if_neg ó];exact q F3 H3 _ R0 (e12.trans0 (e3.mono λ_ z=>z.elim)) (.bl false)
        |true=>
         erw[hg]at q;refine⟨F2,t,u,_,S2.fh,IY g1 hf.1,IY g2 hf.2,hg,λF3 H3 z C3 e3 r3=>⟨true,r3.bl_inv,?_⟩⟩
         rw[if_pos rfl];have S3:=S2.ext e3;refine⟨F3,τ,R,S3,?_⟩;cases h3:mc τ with
         |none=>erw[h3]at q<;>exact q.elim|some r3=>
          cases r3 with
          |x c=>erw[h3]at q<;>exact q.elim|v w b3=>
           erw[h3]at q
           by_cases hw:w.flat=true
           .rw[if_pos hw]at q;intro F4 H4 z4 B4 e4 g4;have S4:=S3.ext e4;cases hg':g' u w with
            |none=>erw[hg']at q<;>exact q.elim|some k=>
             cases k with
             |bl k=>
              erw[hg']at q;refine⟨F4,u,w,_,S4.fh,IY g2 hf.2,IY g4 hw,hg',λF5 H5 z5 C5 e5 r5=>?_⟩
              rw[r5.bl_inv];exact q F5 H5 _ R0 (e12.trans0 (((e3.trans e4).trans e5).mono λ_ z=>z.elim)) (.bl k)
             |_=>erw[hg']at q<;>exact q.elim
           .rw[if_neg hw]at q;exact q.elim
       |_=>erw[hg]at q<;>exact q.elim
     .rw[if_neg hf]at q;exact q.elim
theorem r_chn(ho:As X (compareOp op) (By X.K g))(ho':As X (compareOp op') (By X.K g'))(ha:PE X a (tM X.K E ca ma))(hb:PE X b (tM X.K E ca mb))(hc:PE X c (tM X.K E ca mc))(hm:lastMarks [op,op'] [b,c]=false) :
  PE X (.Compare a [op,op'] [b,c] pos) (tM X.K E ca (Ei g g' ma mb mc)):=PE.weak (zhi ho ho' ha hb hc hm) λσ H Q h=>T4 h
theorem zn7(ho:As X (compareOp op) (By X.K g))(ho':As X (compareOp op') (By X.K g'))(ha:PE X a (tM X.K E ca ma))(hb:PE X b (tM X.K E ca mb))(hc:PE X c (tM X.K E ca mc))(hm:lastMarks [op,op'] [b,c]=false) :
  PT X (.Compare a [op,op'] [b,c] pos) (B5 X.K E ca (Ei g g' ma mb mc)):=PT.weak (zh9 ho ho' ha hb hc hm) λσ H Q h=>T4 (Kv h)
end
def NT(x:Str):It:=⟨λi _=>i<x.cps.size,λi H y H'=>H'=H/\∃c,x.cps[i]?=some c/\y=.str ⟨#[c]⟩,λi _=>x.cps.size<=i⟩
theorem zgn{K}(x)(t)(it):Turn P w K tg (NT x) [it] it (λi h=>h.IsStrIter it (strIterType x) x t i) where
 mem:=by simp
 obj:=λi h st b hb=>by
  have e :=by simpa using hb
  subst e;obtain⟨o,e,c,d⟩:=st;exact⟨o,e,λv z=>by rw[d]at z;cases z⟩
 keep:=λi h h' st k=>by
  obtain⟨o,e,c,d⟩:=st;exact⟨o,k it (by simp) o e,c,d⟩
 item:=by
  intro X hP hw hK hc i pz s σ H E I hf st hg;subst hP hw hK;have hi :=hg;obtain⟨f0,f1,f2,f3,f4,f5⟩:=hf it (by simp)
  have BP:∀(h' ),h'.IsStrIter it (strIterType x) x t (i+1)->Heap.SameBut it s.heap h'->∃u,some (Value.str ⟨#[x.cps[i]]⟩ s.toks)=some u /\
   wpAny (model X.prog X.w) X.A (letOwnedTupleGo tg (.ref it) u) (λ_ s2=>∃y H',Inv X pz σ H' s2/\Ab y u/\(NT x).yld i H y H'/\s2.heap.IsStrIter it (strIterType x) x t (i+1)/\∀b∈[it],H' b=none) E { s with heap:=h',toks:=s.toks+1 }:=λh' st' sb=>by
   have I1 :=I.turned (t':=s.toks+1) (λb o hb e=>(sb.2 b hb).trans e) f0 f1 f3 f4 f5
   obtain⟨o,e,c,d⟩:=id st';refine⟨_,rfl,MP e c d ?_ ⟨.str ⟨#[x.cps[i]]⟩,H,I1,⟨_,rfl⟩,⟨rfl,_,ı hi,rfl⟩,st',λb hb=>(hf b hb).1⟩⟩
   unfold strIterType;split<;>decide
  cases ha:(x.cps.all λx=>decide (x<128)) with
  |true=>
   have e:strIterType x="str_ascii_iterator":=by unfold strIterType;rw[ha];rfl
   rw[e]at st BP ⊢;exact wpAny_pyNext_ascii_item st (ı hi) BP
  |false=>
   have e:strIterType x="str_iterator":=by unfold strIterType;rw[ha];rfl
   rw[e]at st BP ⊢;exact wpAny_pyNext_wide_item st (ı hi) BP
 done:=by
  intro X hP hw hK hc i pz s σ H E I hf st hg;subst hP hw hK;have hi :=hg;obtain⟨f0,f1,f2,f3,f4,f5⟩:=hf it (by simp)
  have n :=Array.getElem?_eq_none hi;cases ha:(x.cps.all λx=>decide (x<128)) with
  |true=>
   have e:strIterType x="str_ascii_iterator":=by unfold strIterType;rw[ha];rfl
   rw[e]at st;exact wpAny_pyNext_ascii_end (I.ok.hd hc) st n λh' eb=>⟨rfl,I.turned (λb o hb e=>eb b o hb e) f0 f1 f3 f4 f5⟩
  |false=>
   have e:strIterType x="str_iterator":=by unfold strIterType;rw[ha];rfl
   rw[e]at st;exact wpAny_pyNext_wide_end (I.ok.hd hc) st n λh' eb=>⟨rfl,I.turned (λb o hb e=>eb b o hb e) f0 f1 f3 f4 f5⟩
 self:=λ_ i s Q E st h=>by
  cases ha:(x.cps.all λx=>decide (x<128)) with
  |true=>
   have e:strIterType x="str_ascii_iterator":=by unfold strIterType;rw[ha];rfl
   rw[e]at st;exact wpAny_pyIter_striter_ascii st h
  |false=>
   have e:strIterType x="str_iterator":=by unfold strIterType;rw[ha];rfl
   rw[e]at st;exact wpAny_pyIter_striter_wide st h
def iStrT(tl:TE):TI:=λσ H P=>tl σ H λx H1=>∃y,x=.str y/\P (NT y) H1
section
variable {X:Cx}{tg l e:Expr}{tl:TE}{E:L2.St->XK}{ca:Str->Value}{m:AI}
theorem znt(hl:PE X l tl):PI X tg l (iStrT tl):=by
 intro pz s σ H R I h;refine AX (hl pz s σ H _ I h) λv s1 zz=>?_
 obtain⟨x,H1,I1,r1,q1⟩:=zz;obtain⟨y,rfl,q⟩:=q1;obtain⟨t,rfl⟩:=(r1);refine wpAny_pyIter_strU ?_;refine⟨s1.heap.objs.size,[s1.heap.objs.size],_,_,H1,rfl,I1.kept λb o e=>Ì _ e,zgn y t _,⟨_,æ _ rfl,rfl,rfl⟩,λb hb=>?_,q⟩
 have e :=by simpa using hb
 subst e;exact I1.fpOk (È _) (I1.hok.fresh (È _))
def GJ(x:Str):kL:=x.cps.toList.map λc=>.str ⟨#[c]⟩
theorem zlf{K}:GC K (NT x) F (GJ x):=by
 intro i F' H' s1 s2;refine⟨λt ht=>?_,λe=>?_⟩
 .unfold GJ at ht;rw[Ä]at ht;obtain⟨c,e1,rfl⟩:=à.mp ht;have hi:=by simpa using (Õ.mp e1).1
  refine⟨hi,λy H'' z=>?_⟩
  obtain⟨rfl,c',hc,rfl⟩:=z;rw[Array.getElem?_toList,hc]at e1;cases e1;exact⟨F',Ext.refl s2,.str _⟩
 .show x.cps.size<=i;rw[e];simp[GJ]
def BE(m:AI):BQ:=λτ=>match m τ with
 |some (.v (.str x) _)=>some (.v (GJ x) false)|_=>IW m τ
theorem znb(ha:PE X e (tM X.K E ca m)):PI X tg e (tI X.K E ca (BE m)):=by
 refine PI.weak (PI.or (V8 ha) (znt ha)) λσ H P h=>?_
 obtain⟨F,τ,R,S,q⟩:=h
 by_cases hs:∃x b,m τ=some (.v (.str x) b)
 .obtain⟨x,b,hm⟩:=hs;have e:BE m τ=some (.v (GJ x) false):=by unfold BE;rw[hm]
  rw[e]at q;refine .inr ⟨F,τ,R,S,?_⟩;rw[hm];intro F1 H1 y B e1 g1;exact⟨x,Ge g1,q F1 H1 _ (e1.mono λ_ z=>z.elim) zlf⟩
 .have e:BE m τ=IW m τ:=by
   unfold BE
   grind
  rw[e]at q;exact .inl ⟨F,τ,R,S,q⟩
end
open Classical in
def met(val:Nat->Key):Nat->List Key
 |0=>[]|i+1=>if val i∈met val i then met val i else met val i++[val i]
open Classical in
theorem Xr(val:Nat->Key):∀i,(met val i).length<=i
 |0=>È 0|i+1=>by
  have:=Xr val i;unfold met;split
  .omega
  .rw[Ø,ñ]
   omega
section
variable {prog:Program}{w:World}{A:Around}{E:Value->Shared->Prop}
open Classical in
theorem YD{knd:PySem.KeyKind prog w Key}{R:Result->Shared->Prop}{I:Addr}{fp wr:List Addr}{G:Array GenState->Array GenState->Prop}{n:Nat}{P:Nat->Value->Prop}{St:Nat->Shared->Prop}(W:WalksS prog w A.in1 I fp wr G n P St)(S:Addr)(hS:S∉fp)(val:Nat->Key)
  (hP:∀i v,P i v->knd.is (val i) v=true/\v.scannable=true) (hn:n+1<scanBound):∀(k i:Nat) (s:Shared),n - i=k->i<=n->St i s->Heap.SetOf knd s.heap S (λk'=>decide (k'∈met val i)) (met val i).length ->
   (∀s':Shared,Moved (S::wr) G s s'->Heap.SetOf knd s'.heap S (λk'=>decide (k'∈met val n)) (met val n).length->R (Except.ok (Flow.ret Value.none)) s') ->
   codeAny (model prog w) A (Code.builtin "set.update.loop" { pos:=[Value.ref S,Value.ref I] }) R s
 |0,i,s,hk,hi,st,hset,h=>by
  have e:i=n:=by omega
  subst e;refine Ŧ F.entry_set_update_loop ?_;rw[Around.under_plainId Ű];unfold Builtin.«set.update.loop»;refine Á (W.done s _ _ st λs' mv=>?_)
  refine Ç ?_;refine h s' (mv.mono λb hb=>Å _ hb) ?_
  obtain⟨o,es,ep,t,h1,h2⟩:=hset;exact⟨o,es,ep,t,mv.heap S o (λz=>hS (W.sub S z)) h1,h2⟩
 |k+1,i,s,hk,hi,st,hset,h=>by
  have hi':i<n:=by omega
  refine Ŧ F.entry_set_update_loop ?_;rw[Around.under_plainId Ű];unfold Builtin.«set.update.loop»;refine Á (W.item i s _ _ hi' st λv s' pv st' mv=>?_)
  obtain⟨hk1,hk2⟩:=hP i v pv
  have hset':Heap.SetOf knd s'.heap S (λk'=>decide (k'∈met val i)) (met val i).length:=by
   obtain⟨o,es,ep,t,h1,h2⟩:=hset;exact⟨o,es,ep,t,mv.heap S o (λz=>hS (W.sub S z)) h1,h2⟩
  refine Á (ð ?_);unfold setAdd;refine ð (Á (knd.pyHash hk1 ?_));have hl:=Xr val i;refine wpAny_setAddHashed_of (s:={ s' with toks:=s'.toks+1 }) hk1 hk2 hset' (by omega) λh' sb hset2=>?_
  refine Ç ⟨plainId_quiet Ű _,?_⟩;have st2:=W.frame (i+1) s' h' (s'.toks+1) st' (Ą _) λb hb o e=>(sb.2 b (λz=>hS (z▸hb))).trans e
  have mv2:Moved (S::wr) G s { s' with heap:=h',toks:=s'.toks+1 }:=(mv.mono λb hb=>Å _ hb).then_heap (Ą _) λb o hb e=>(sb.2 b (λz=>hb (by rw[z];exact Ã ..))).trans e
  refine YD W S hS val hP hn k (i+1) _ (by omega) (by omega) st2 ?_ λs'' mv3 hs3=>h s'' (mv2.trans W.gtrans mv3) hs3
  have hS:(λk'=>(decide (k'∈met val i) || decide (k'=val i)))=λk'=>decide (k'∈met val (i+1)):=funext λk'=>by
   conv=>rhs;unfold met
   by_cases hm:val i∈met val i
   .rw[if_pos hm]
    by_cases e:k'=val i
    .rw[e,Ñ hm];rfl
    .rw[Ù e,Bool.or_false]
   .rw[if_neg hm,ś];erw[ĝ,ö,ë,Í]
  have hN:(if decide (val i∈met val i)=true then (met val i).length else (met val i).length+1)=(met val (i+1)).length:=by
   conv=>rhs;unfold met
   by_cases hm:val i∈met val i
   .rw[if_pos hm,if_pos (Ñ hm)]
   .rw[if_neg hm,if_neg (λz=>hm (Į z)),Ø,ñ]
  obtain⟨o,es,ep,t,h1,h2,h3,h4,h5,h6,h7,h8⟩:=hset2;refine⟨o,es,ep,t,h1,h2,h3,h4,λk'=>?_,h6,h7,h8.trans hN⟩
  rw[<- h5 k'];have e:=congrFun hS k';show decide (k'∈met val (i+1))=true ↔ _;rw[<- e]
end
open Classical in
theorem zc6{prog:Program}{w:World}{A:Around}{E:Value->Shared->Prop}{s:Shared}{l:Addr}{items:Array Value}{knd:PySem.KeyKind prog w Key}{val:Nat->Key}{Q:Value->Shared->Prop}(hh:A.handled=none)(hl:s.heap.IsList l items)
  (hP:∀(i:Nat) (v:Value),items[i]?=some v->knd.is (val i) v=true/\v.scannable=true) (hb:items.size+1<scanBound)
  (h:∀(h':Heap) (tk:Nat),Heap.SetOf knd h' s.heap.objs.size (λk'=>decide (k'∈met val items.size)) (met val items.size).length->(∀(b:Nat) (o:Obj),b<s.heap.objs.size->s.heap.get? b=some o->h'.get? b=some o)->Q (.ref s.heap.objs.size) { s with heap:=h',toks:=tk }) :
  wpAny (model prog w) A (call (Value.type "set") [Value.ref l]) Q E s:=by
 obtain⟨c,tl,hmro⟩:=Ĩ.mro;have hmade:=Ĩ.made;have hsub:=Ĩ.sub;refine Ď (codeAny_of_tree ?_);refine Ç ⟨Ŗ _ (by decide +kernel),Ŧ F.entry_type_call ?_⟩
 have hu:=Around.under_plain (A:=A) (weight_type_call_type "set" [Value.ref l] []) rfl;have h1:=Ĩ.notType;have h2:=Ĩ.canCreate;have hct:=F.typeCall_set_1 (Value.ref l);show wpAny (model prog w) (A.under (Code.builtin "type.__call__" { pos:=[Value.type "set",Value.ref l] })) _ _ _ s;rw[hu];unfold Builtin.«type.__call__»;refine Ć (by rw[h1];rfl) (Ć (by rw[h2];rfl) ?_)
 refine Á (ė hct (Á (ė hmro (Ć rfl (Á (ė hmade (Á (Ç (Á (ð (Ď (ą (code_set_new_1 (E:=λ_ _=>False) (Value.ref l) (Q₁:=λv s'=>∃led:Bool,v=.ref s.heap.objs.size/\s'={ s with heap:=s.heap.push { cls:=.type "set",data:=.set #[] 0 (SetTable.fresh 0 0 led) } }) λled=>⟨led,rfl,rfl⟩) λr s₁ hr=>?_))))))))))))
 cases r with
 |error e=>exact False.elim hr|ok fl=>
  cases fl with
  |next=>exact False.elim hr|brk=>exact False.elim hr|cont=>exact False.elim hr|ret v=>
   obtain⟨led,rfl,rfl⟩:=(show ∃led:Bool,v=.ref s.heap.objs.size/\s₁={ s with heap:=s.heap.push { cls:=.type "set",data:=.set #[] 0 (SetTable.fresh 0 0 led) } } from hr)
   have ho:(s.heap.push { cls:=.type "set",data:=.set #[] 0 (SetTable.fresh 0 0 led) }).get? s.heap.objs.size=some { cls:=.type "set",data:=.set #[] 0 (SetTable.fresh 0 0 led) }:=æ _ rfl;have hT:Shared.TypeIs { s with heap:=s.heap.push { cls:=.type "set",data:=.set #[] 0 (SetTable.fresh 0 0 led) } } (.ref s.heap.objs.size) "set":=⟨_,ho,rfl⟩
   have hin:=Ĩ.init;refine Á (Ζ hT hsub (Ć rfl (Á (ð ?_))));unfold callSpecial?;refine Á (wpAny_specialOf hT hin.lookup (ð (Á (ė (hin.bind _) (Á (Ď (ą (R:=wants (λv s'=>v=.none/\∃tk h',s'={ s with heap:=h',toks:=tk }/\Heap.SetOf knd h' s.heap.objs.size (λk'=>decide (k'∈met val items.size)) (met val items.size).length/\∀(b:Nat) (o:Obj),b<s.heap.objs.size->s.heap.get? b=some o->h'.get? b=some o) λ_ _=>False) (Ŋ hin.plain F.entry_set_init (check_set_init_1 hT ?_)) λr s₂ hr₂=>?_)))))))
   .unfold Builtin.«set.__init__» noKeywords;refine Á (wpAny_ite_true rfl (Ç ?_));unfold typeNameOfCut shownTypeOf;refine Á (Á (Á (wpAny_typeOf hT (Ć (by decide +kernel) (Ç ?_)))))
    refine ė (rfl:typeNameCut 200 (Value.type "set")=pure _) ?_;refine Á (ė (rfl:checkCount _ 0 1 1=pure ()) ?_);refine Á (Ç ?_);unfold setUsed setState;refine Á (Á (Á (wpAny_load ho (Ć rfl (Ç (Ç (Ć rfl ?_)))))));obtain⟨ol,hol,hcl,nl,hdl⟩:=id hl;have hol2:(s.heap.push { cls:=.type "set",data:=.set #[] 0 (SetTable.fresh 0 0 led) }).get? l=some ol:=Ì _ hol;have hTl:Shared.TypeIs { s with heap:=s.heap.push { cls:=.type "set",data:=.set #[] 0 (SetTable.fresh 0 0 led) } } (.ref l) "list":=⟨_,hol2,hcl⟩
    unfold Builtin.Frozenset.updateFrom Builtin.Frozenset.isAnySet;refine Á (Á (Á (Ζ hTl F.sub_list_set ?_)));have hl2:(s.heap.push { cls:=.type "set",data:=.set #[] 0 (SetTable.fresh 0 0 led) }).IsList l items:=⟨ol,hol2,hcl,nl,hdl⟩;refine Ζ hTl F.sub_list_frozenset (Ć rfl (Á (wpAny_typeOf hTl (Ć (by decide +kernel) (Á (Ī hl2 ?_))))))
    have lt:l<s.heap.objs.size:=Æ hol;have hsz:(s.heap.push { cls:=.type "set",data:=.set #[] 0 (SetTable.fresh 0 0 led) }).objs.size=s.heap.objs.size+1:=ċ _ _;generalize hhp:s.heap.push { cls:=.type "set",data:=.set #[] 0 (SetTable.fresh 0 0 led) }=hp at *
    have hS:s.heap.objs.size∉[hp.objs.size,l]:=by
     rw[hsz];intro z
     rcases Ï.mp z with e|e
     .exact absurd e (Ö (ħ _))
     .exact absurd (Í.mp e) (Ş lt)
    refine Á (wpAny_runValue ?_);refine YD (knd:=knd) (A:=A.in1.in1) (Walks.list (A:=A.in1.in1.in1) hh hp.objs.size l (by rw[hsz];exact Ö (ļ lt)) items).toS s.heap.objs.size hS val (λi v e=>hP i v e) hb items.size 0 _ (by omega) (õ _) ⟨?_,?_⟩ ?_ λs' mv hs'=>?_
    .exact⟨_,æ _ rfl,rfl,rfl⟩
    .exact⟨ol,Ì _ hol2,hcl,nl,hdl⟩
    .letI:BEq Key:=⟨λa b=>decide (a=b)⟩
     haveI:LawfulBEq Key:={ eq_of_beq:=λh=>Į h,rfl:=Ñ rfl }
     have e0:=(setObjOf_fresh (prog:=prog) (w:=w) (knd:=knd) led).setOf (h:=hp.push { cls:=.type "list_iterator",data:=.fields #[.ref l,.int 0 0] }) (a:=s.heap.objs.size) (Ì _ ho) (by decide)
     obtain⟨o,es,ep,t,g1,g2,g3,g4,g5,g6,g7,g8⟩:=e0;refine⟨o,es,ep,t,g1,g2,g3,g4,λk'=>?_,g6,g7,g8⟩
     rw[<- g5 k'];simp[met]
    .refine Ç (Ç ?_)
     have b2:∀(b:Nat) (o:Obj),b<s.heap.objs.size->s.heap.get? b=some o->s'.heap.get? b=some o:=λb o hb e=>by
      refine mv.heap b o (λz=>?_) (Ì _ (by rw[<- hhp];exact Ì _ e))
      rcases Ï.mp z with e|e
      .exact absurd e (Ö hb)
      .have e:=Í.mp e;rw[hsz]at e;exact absurd e (Ö (ļ hb))
     have m1:=mv.gens;have m2:=mv.drawn;have m3:=mv.os;obtain⟨hh',g',d',t',os'⟩:=s';refine⟨rfl,t',hh',?_,hs',b2⟩;simp only at m1 m2 m3;rw[m1,m2,m3]
   .cases r with
    |error e=>exact False.elim hr₂|ok fl=>
     cases fl with
     |next=>exact False.elim hr₂|brk=>exact False.elim hr₂|cont=>exact False.elim hr₂|ret v=>
      obtain⟨rfl,tk,h',rfl,hs,hk⟩:=(show v=.none/\∃tk h',s₂={ s with heap:=h',toks:=tk }/\Heap.SetOf knd h' s.heap.objs.size (λk'=>decide (k'∈met val items.size)) (met val items.size).length/\∀(b:Nat) (o:Obj),b<s.heap.objs.size->s.heap.get? b=some o->h'.get? b=some o from hr₂)
      refine Ç (Ć rfl (Ç ?_));exact h h' tk hs hk
def SD(P:Program)(w:World)(a:Addr)(ks:List Key):HO:=.ext λh=>Heap.SetOf (DZ P w) h a (λk=>@decide (k∈ks) (Classical.propDecidable _)) ks.length
section
variable {X:Cx}
theorem zg9(hc:X.calm=true):Cq X (.type "set") (λxs H Q=>∃(p:Addr) (ys:kE),xs=[.ref p]/\Am X.K H p (ys.map V.str)/\ys.length<1000/\∀a,H a=none->Q (.ref a) (upd H a (SD X.prog X.w a (met (λi=>Sum.inr (ys.getD i Str.empty)) ys.length)))):=by
 intro pz s σ H xs us Q I r h;obtain⟨p,ys,rfl,hq,hz,q⟩:=h;obtain⟨u,rfl,rx⟩:=FK r;cases rx;obtain⟨its,r',pl,_⟩:=I.list hq;have hlen:=r'.length;rw[À]at hlen;have hsz:its.toArray.size=ys.length:=by rw[ā];exact hlen.symm
 refine zc6 (knd:=DZ X.prog X.w) (val:=λi=>Sum.inr (ys.getD i Str.empty)) (I.ok.hd hc) pl.isList (λi v e=>?_) (by rw[hsz];exact á (Nat.succ_lt_succ hz) (by decide)) λh' tk hs kp=>?_
 .have e' :=by simpa using e
  have hi:i<ys.length:=by rw[hlen];exact(Õ.mp e').1
  have hx:(ys.map V.str)[i]?=some (.str ys[i]):=by rw[Ä,Â hi];rfl
  obtain⟨u,e2,ru⟩:=r'.get hx;rw[e']at e2;cases e2;obtain⟨t,rfl⟩:=(ru);refine⟨?_,rfl⟩;show G7 (Sum.inr (ys.getD i Str.empty)) (Value.str ys[i] t)=true;rw[Ô,Â hi];show(ys[i] == ys[i])=true;exact ÿ _
 .rw[hsz]at hs;refine⟨.ref s.heap.objs.size,_,I.laid (o:=SD X.prog X.w s.heap.objs.size (met (λi=>Sum.inr (ys.getD i Str.empty)) ys.length)) (λb o e=>kp b o (Æ e) e) (È _) ⟨?_,?_,?_⟩,rfl,q _ (I.hok.fresh (È _))⟩
  .exact hs
  .obtain⟨o,es,ep,t,g1,_⟩:=hs;exact⟨o,g1⟩
  .intro h1 h2 p1 k;obtain⟨o,es,ep,t,g1,g2⟩:=p1;exact⟨o,es,ep,t,k o g1,g2⟩
theorem zga:Cq X (.builtin "len") (λxs H Q=>∃a ks,xs=[.ref a]/\H a=some (SD X.prog X.w a ks)/\Q (.int ks.length) H):=by
 intro pz s σ H xs us Q I r h;obtain⟨a,ks,rfl,ha,q⟩:=h;obtain⟨u,rfl,rx⟩:=FK r;cases rx;obtain⟨⟨o,es,ep,t,g1,g2,g3,g4,g5,g6,g7,g8⟩,_⟩:=(I.hok a _ ha)
 have hb:(es.size:Int)<2 ^ 63:=by
  have:scanBound<=2 ^ 40:=by decide
  omega
 refine call_len_set g1 g2 g3 g7 hb ⟨.int es.size,H,I.tok _,⟨_,rfl⟩,?_⟩
 grind
end
def Eb:kL->Option (kE)
 |[]=>some []|.str x::r=>(match Eb r with
  |some l=>some (x::l)|none=>none)
 |_::_=>none
theorem OE{K}{F}:∀{l} {ys} {xs},Eb l=some ys->Ar K F l xs->xs=ys.map V.str
 |[],ys,xs,h,r=>by
  cases h;exact r.inv0
 |t::l,ys,xs,h,r=>by
  obtain⟨x,xs',rfl,r1,r2⟩:=r.inv;unfold Eb at h;split at h
  .grind
  .rename_i y r e;cases e;split at h
   .rename_i l' hl;cases h;rw[r1.str_inv,OE hl r2]
    rfl
   .cases h
  .cases h
def Ss(ys:kE):Nat:=(met (λi=>Sum.inr (ys.getD i Str.empty)) ys.length).length
def JI:T->kH
 |.nd _ .lst l=>(match Eb l with
  |some ys=>if ys.length<1000 then some (.int (Ss ys)) else none
  |none=>none)
 |_=>none
section
variable {X:Cx}{E:L2.St->XK}{ca:Str->Value}{m:AI}{e:Expr}{pos p p2 p3:Pos}
theorem r_unq(hc:X.calm=true)(hg:Gl X "len")(hm:X.mg "len"=none)(hg2:Gl X "set")(hm2:X.mg "set"=none)(ha:PE X e (tM X.K E ca m))(he:starEach [e] X.env=[(false,eval e X.env)]) :
  PE X (.Call (.Name "len" p) [.Call (.Name "set" p2) [e] [] p3] [] pos) (tM X.K E ca (Bm (g1 JI) (AB m AE))):=by
 have hset:=Vx (pos:=p3) (p:=p2) (zg9 hc) hg2 hm2 (rfl) (EZ ha Es he) (by decide) (by decide) he rfl
 refine PE.weak (LW (zga) hg hm PySem.boot_len (EZ hset Es rfl) (by decide) (by decide) rfl rfl) λσ H Q h=>?_
 refine(HB (HD h)).mono λx H1 h1=>?_
 obtain⟨F,ts,v,fh,rs,e,q⟩:=HA h1;unfold g1 at e;split at e
 .obtain⟨x1,xs1,e1,r1,rs1⟩:=rs.inv;cases e1;unfold JI at e;split at e
  .split at e
   .rename_i o l ys hy;split at e
    .rename_i hz;cases e;obtain⟨pp,zs,rfl,_,n,kd⟩:=EN r1;have hF :=n;refine⟨pp,ys,rfl,Am.of (by rw[<- OE hy kd];exact fh _ _ hF),hz,λa ha=>⟨a,_,rfl,Bj,?_⟩⟩
     exact q F _ _ R0 ((Ext.newO fh ha).mono λ_ z=>z.elim) (Rp.int _)
    .cases e
   .cases e
  .cases e
 .cases e
end
def Dw:T->T->kH
 |.int i,.int j=>some (.bl (decide (i<=j)))|.str x,.str y=>some (.bl (!(@decide (y.cps.toList<x.cps.toList) (Classical.propDecidable _))))|_,_=>none
section
variable {X:Cx}{E:L2.St->XK}{ca:Str->Value}{m mk:AI}{o k:Expr}{pos apos cpos:Pos}
theorem zkp:As X (compareOp .LtE) (By X.K Dw):=by
 intro pz s σ H x y v u Q I rx ry h;obtain⟨F,t1,t2,r,fh,r1,r2,e,q⟩:=h;unfold Dw at e;split at e
 .cases e;rw[r1.int_inv]at rx;rw[r2.int_inv]at ry;exact WC pz s σ H _ _ v u Q I rx ry ⟨_,_,rfl,rfl,q.bl fh⟩
 .rename_i a b;cases e;rw[r1.str_inv]at rx;rw[r2.str_inv]at ry;obtain⟨t,rfl⟩:=(rx);obtain⟨t',rfl⟩:=(ry);refine PySem.P.le_str ⟨.bl _,H,I,rfl,?_⟩;have q1:=q.bl fh
  grind
 .cases e
end
def CH(ys:kE)(y:Str):Option Nat:=ys.findIdx? λx=>@decide (x=y) (Classical.propDecidable _)
theorem zfd(h:CH ys y=some j):∃hj,ys[j]=y/\∀(m) (hm),m<j->ys[m]≠y:=by
 obtain⟨h1,h2,h3⟩:=Ġ.mp h
 grind
theorem aX{x y:Str}:(x.cps.toList == y.cps.toList)=true ↔ x=y:=by
 constructor
 .cases x
  simp_all
 grind
def znf(K:k6):V->kK->Hp->VK->Prop:=λx vs H Q=>∃(l:Addr) (ys:kE) (y:Str) (j:Nat),x=.ref l/\vs=[.str y]/\Am K H l (ys.map V.str)/\CH ys y=some j/\ys.length<1000000/\Q (.int j) H
section
variable {X:Cx}{E:L2.St->XK}{ca:Str->Value}{m mk:AI}{o k:Expr}{pos apos cpos:Pos}
theorem zht:K0 X "list.index" (znf X.K):=by
 intro pz s σ H x vs v us Q I rx rv h;obtain⟨l,ys,y,j,rfl,rfl,hH,hj,hz,q⟩:=h;cases rx;obtain⟨u,rfl,ru⟩:=rv.one;obtain⟨its,r,⟨ob,n,e,c1,c2,c3⟩,hz0⟩:=I.list hH;have hl:=r.length;obtain⟨cc,dd,da,sl⟩:=ob;simp only at c1 c2 c3;subst c1 c2 c3;obtain⟨t,rfl⟩:=(ru);obtain⟨hj1,hj2,hj3⟩:=zfd hj;rw[À]at hl
 have at_:∀(i ) (hi ),∃(t':Tok) (hi':i<ys.length),its.toArray[i]=Value.str ys[i] t':=λi hi=>by
  have hi0 :=by simpa using hi
  have hi':i<ys.length:=by omega
  have hx:(ys.map V.str)[i]?=some (.str ys[i]):=by rw[Ä,Â hi'];rfl
  obtain⟨u,e2,ru⟩:=r.get hx;obtain⟨t',rfl⟩:=(ru);rw[Â hi0]at e2;refine⟨t',hi',?_⟩
  simpa using e2
 let ev:Value->Bool:=λv=>match v with
  |.str x _=>x.cps.toList == y.cps.toList|_=>false
 have evs:∀(x ) (t' ),ev (.str x t')=(x.cps.toList == y.cps.toList):=λ_ _=>rfl
 have hjs:j<its.toArray.size:=by rw[ā];omega
 refine ŉ F.slot_list_index ⟨_,e,rfl⟩ F.entry_list_index (F.args_list_index_2 _ _) (SeqAt.list_indexAt l its.toArray n none sl (.str y t) ev j hjs (by omega) ?_ λm hm hmj=>?_) ⟨e,λy' hy'=>?_,.int j,H,I.tok _,⟨_,rfl⟩,q⟩
 rotate_left 2
 .obtain⟨i,hi,rfl⟩:=Array.mem_iff_getElem.mp hy';obtain⟨t',hi',e1⟩:=at_ i hi;rw[e1,evs _ t'];exact(SeqRoads2.EqGives.str _ _ _ _).at _ _
 .obtain⟨t',hi',e1⟩:=at_ j hjs;rw[e1,evs _ t'];exact aX.mpr hj2
 .obtain⟨t',hi',e1⟩:=at_ m hm;rw[e1,evs _ t',Bool.eq_false_iff];exact λz=>hj3 m hi' hmj (aX.mp z)
def J4:T->Option (kL)
 |.nd false .lst l=>some l|.nd false .rl l=>some l|_=>none
theorem zl4(h:J4 t=some l):∃k,t=.nd false k l/\IV t=true:=by
 unfold J4 at h;split at h
 .cases h;exact⟨_,rfl,rfl⟩
 .cases h;exact⟨_,rfl,rfl⟩
 .cases h
def HX(m mk:AI):AI:=λτ=>match m τ with
  |some (.v t false)=>(match J4 t with
   |some l=>(match Eb l with
    |some ys=>(match mk τ with
      |some (.v (.str y) _)=>(match CH ys y with
        |some j=>if ys.length<1000000 then some (.v (.int j) false) else none
        |none=>none)
      |_=>none)
    |none=>none)
   |none=>none)
  |_=>none
theorem zjs(ho:PE X o (tM X.K E ca m))(hk:PE X k (tM X.K E ca mk))(hbase:attributeBase o "index" X.env (eval o X.env)=eval o X.env)(hs:starEach [k] X.env=[(false,eval k X.env)])(hline:(apos.endLine == cpos.line)=true) :
    PE X (.Call (.Attribute o "index" apos) [k] [] cpos) (tM X.K E ca (HX m mk)):=by
  refine PE.weak (JW ů PySem.F.slot_list_index PySem.F.type_list_index zht ho (EZ hk Es hs) hbase (by rw[hs];rfl) hline hs rfl) λσ H Q h=>?_
  obtain⟨F,τ,R,S,q⟩:=h;refine⟨F,τ,R,S,?_⟩;unfold HX at q;cases hm:m τ with
  |none=>erw[hm]at q<;>exact q.elim|some r=>
    cases r with
    |x c=>erw[hm]at q<;>exact q.elim|v t b=>
      cases b with
      |true=>erw[hm]at q<;>exact q.elim|false=>
       erw[hm]at q;cases hls:J4 t with
       |none=>erw[hls]at q<;>exact q.elim|some l=>
        erw[hls]at q;obtain⟨kk,rfl,hL⟩:=zl4 hls;intro F1 H1 x B e1 g1;have g0:=g1;obtain⟨p,rfl⟩:=g0.ref_inv;obtain⟨xs0,hN,hr0⟩:=Ar.node g0;obtain⟨p1,xs,e0,sqq,hr⟩:=Jb hL (Ar.of_node hN hr0);injection e0 with e0
        subst e0;cases hy:Eb l with
        |none=>erw[hy]at q<;>exact q.elim|some ys=>
          erw[hy]at q;have hxs:=OE hy hr;refine⟨.inl ⟨rfl,xs,sqq F1 H1 (Af.refl _) e1.fh⟩,F1,τ,R,S.ext e1,?_⟩;cases hk2:mk τ with
          |none=>erw[hk2]at q<;>exact q.elim|some r=>
            cases r with
            |x c=>erw[hk2]at q<;>exact q.elim|v t2 b2=>
              cases t2 with
              |str y=>
                erw[hk2]at q;intro F2 H2 z B2 e2 g2;have hz:=Ge g2;subst hz;cases hj:CH ys y with
                |none=>erw[hj]at q<;>exact q.elim|some j=>
                  erw[hj]at q
                  by_cases hl:ys.length<1000000
                  . rw[if_pos hl]at q
                    refine⟨p,ys,y,j,rfl,rfl,by rw[<- hxs];exact sqq F2 H2 e2.ff e2.fh,hj,hl,?_⟩
                    exact q F2 H2 _ R0 ((e1.trans e2).mono λ_ z=>z.elim) (.int _)
                  . rw[if_neg hl]at q
                    exact q.elim
              |_=>erw[hk2]at q<;>exact q.elim
end
noncomputable def GL(i:Nat)(cs:List (Str×Addr))(u h:AH):AH:=λτ=>match u τ with
 |some (.xc c τ')=>(match cs.lookup (FT c) with
  |some C=>if i<τ'.length then (match h (τ'.set i (some (.obj (.exn C) (IL c)))) with
   |some (.nx τ2)=>some (.nx (τ2.set i none))|some (.rt t)=>some (.rt t)|_=>none) else none
  |none=>none)
 |r=>r
section
variable {X:Cx}{E:L2.St->XK}{ca:Str->Value}{mu:Bool}{i:Nat}{x n:Str}{np pos hpos:Pos}{body suite:kD}{b₀:Stmt}{u h:AH}{cs:List (Str×Addr)}
theorem StR.put{K}(S:StR K F H σ τ R)(hi:i<τ.length)(r:Rp K F H t v R0):StR K F H (σ.set i (some v)) (τ.set i (some t)) (λj=>if j=i then R0 else R j):=by
 refine⟨S.fh,by simpa using S.len,λj t' e=>?_,λj a z=>?_,λj k a hjk z1 z2=>?_⟩
 .by_cases hj:j=i
  .subst hj;rw[í hi]at e;cases e;exact⟨v,í (by rw[S.len];exact hi),by simpa using r⟩
  .rw[ã (Ð hj)]at e;obtain⟨y,e1,r1⟩:=S.rep j t' e;exact⟨y,by rw[ã (Ð hj)];exact e1,by simpa[hj] using r1⟩
 .by_cases hj:j=i
  .erw[hj,Î]at z;exact z.elim
  .erw[hj,É]at z;obtain⟨t',e⟩:=S.out j a z;exact⟨t',by rw[ã (Ð hj)];exact e⟩
 .by_cases hj:j=i
  .erw[hj,Î]at z1;exact z1.elim
  .by_cases hk:k=i
   .erw[hk,Î]at z2;exact z2.elim
   .erw[hj,É]at z1;erw[hk,É]at z2;exact S.dis j k a hjk z1 z2
theorem StR.gone{K}{i:Nat}(S:StR K F H σ τ R):StR K F H (σ.set i none) (τ.set i none) (λj=>if j=i then R0 else R j):=by
 refine⟨S.fh,by simpa using S.len,λj t' e=>?_,λj a z=>?_,λj k a hjk z1 z2=>?_⟩
 .by_cases hj:j=i
  .subst hj;rw[List.getElem?_set]at e;erw[Î]at e;split at e<;>cases e
  .rw[ã (Ð hj)]at e;obtain⟨y,e1,r1⟩:=S.rep j t' e;exact⟨y,by rw[ã (Ð hj)];exact e1,by simpa[hj] using r1⟩
 .by_cases hj:j=i
  .erw[hj,Î]at z;exact z.elim
  .erw[hj,É]at z;obtain⟨t',e⟩:=S.out j a z;exact⟨t',by rw[ã (Ð hj)];exact e⟩
 .by_cases hj:j=i
  .erw[hj,Î]at z1;exact z1.elim
  .by_cases hk:k=i
   .erw[hk,Î]at z2;exact z2.elim
   .erw[hj,É]at z1;erw[hk,É]at z2;exact S.dis j k a hjk z1 z2
theorem TB(h:tot (λj=>if j=i then R0 else R j) a):tot R a:=by
 obtain⟨j,z⟩:=h
 by_cases hj:j=i
 .erw[hj]at z;exact z.elim
 .erw[hj]at z;exact⟨j,z⟩
theorem zg8{K} (fa:F a=none)(hX:Hv (upd H a o) a C dx)(hp:KU F c dx):Rp K (upd F a o) (upd H a o) (.obj (.exn C) (IL c)) (.ref a) R0:=by
 refine .obj ⟨dx,hX.of λu z=>Bj.trans (Bj.symm.trans z),λv hv=>(hp v hv).of λb u e=>(Ag (Bt e fa)).trans e⟩ ?_ λi t x h1 h2=>?_
 .unfold IL IK;cases Ef c<;>rfl
 .unfold IL at h1;unfold IK at h2;cases hq:Ef c with
  |none=>rw[hq]at h1;cases h1|some n=>
   rw[hq]at h1 h2;cases i with
   |zero=>cases h1;cases h2;exact .int _|succ i=>cases h1
theorem s_try(T:ECls X.K X.mg x)(hcs:∀c C,cs.lookup c=some C->ca c=.ref C/\W.subIn X.K (.ref C) (.ref T.C)=some true)(hst:X.stack=X.env::X.outer)(hf:X.env.frame=some X.env.locals)(hN:X.N.Nodup)(hi:X.N[i]?=some n)(hloc:X.env.scope.names.lookup n=some .local)
  (hb:∀(E' ) pz xe,BW (DK X pz xe) E'->B3 (DK X pz xe) body (tS X.K E' ca mu u)) (hh:∀a,SH a i (GA X a) (b₀::suite) (tS X.K cB ca mu h)) (hg:Gl X x) (hdb:(x == "__debug__")=false) :
  PS X (.Try body [.ExceptHandler (some (.Name x np)) (some n) (b₀::suite) hpos] [] [] pos) (tS X.K E ca mu (GL i cs u h)):=by
 intro pz s σ H D I hq;obtain⟨F,τ,R,S,q⟩:=hq;let E' :=λσ1 cls dx H1=>∃c τ' F' R',u τ=some (.xc c τ')/\cls=ca (FT c)/\KU F' c dx/\Stp F H (tot R) F' H1 (tot R')/\StR X.K F' H1 σ1 τ' R'
 refine znk T hst hf hN hi hloc (λpz xe hp=>hb E' pz xe hp) hh hg hdb pz s σ H D I ⟨⟨F,τ,R,S,?_⟩,?_⟩
 .unfold GL at q;cases hu:u τ with
  |none=>rw[hu]at q;exact q|some o=>
   cases o with
   |nx τ'=>rw[hu]at q;exact q|rt t=>rw[hu]at q;exact q|bk τ'=>rw[hu]at q;exact q|ct τ'=>rw[hu]at q;exact q|xc c τ'=>exact λF' H' σ' R' st S' dx hp=>⟨c,τ',F',R',hu,rfl,hp,st,S'⟩
 .intro σ1 cls dx H1 zz;obtain⟨c,τ',F',R',hu,hcl,hp,st,S'⟩:=zz;unfold GL at q;erw[hu]at q;cases hl:cs.lookup (FT c) with
  |none=>erw[hl]at q<;>exact q.elim|some C=>
   erw[hl]at q;obtain⟨h1,h2⟩:=hcs _ C hl
   by_cases hlen:i<τ'.length
   case neg=>
    rw[if_neg hlen]at q;exact q.elim
   rw[if_pos hlen]at q;refine⟨C,hcl.trans h1,h2,λa o ha hX=>?_⟩
   have fa :=GY S'.fh ha;have e1:Ext F' H1 (upd F' a o) (upd H1 a o) R0:=Ext.new S'.fh ha;have S2:=S'.ext e1;have rx:=zg8 (K:=X.K) fa hX hp;have S3:=S2.put hlen rx;have st2:Stp F H (tot R) (upd F' a o) (upd H1 a o) (tot λj=>if j=i then R0 else R' j):=(st.trans e1.stp0).mono λb z=>TB z
   refine⟨_,_,_,S3,?_⟩;cases hh:h (τ'.set i (some (.obj (.exn C) (IL c)))) with
   |none=>erw[hh]at q<;>exact q.elim|some o=>
    erw[hh]at q;cases o with
    |nx τ2=>intro F4 H4 σ4 R4 st4 S4;exact q F4 H4 (σ4.set i none) _ ((st2.trans st4).mono λb z=>TB z) S4.gone|rt t=>exact λF4 H4 x B st4 r4=>q F4 H4 x B (st2.trans st4) r4|bk _=>exact q.elim|ct _=>exact q.elim|xc _ _=>exact q.elim
end
def isXT(tb:List (Addr×Bool)):T->kH
 |.obj (.exn C) _=>(match tb.lookup C with
  |some b=>some (.bl b)|none=>none)
 |_=>none
section
variable {X:Cx}{E:L2.St->XK}{ca:Str->Value}{m:AI}{e:Expr}{pos p p2:Pos}{c:Str}{v:V}{tb:List (Addr×Bool)}
end
section
variable {X:Cx}{E:L2.St->XK}{ca:Str->Value}{mu:Bool}{i j:Nat}{tg it c:Expr}{ret:kD}{mc:AI}{k:T}{ip pos:Pos}
end
section
variable {X:Cx}{E:L2.St->XK}{ca:Str->Value}{mu:Bool}{i j:Nat}{tg it e:Expr}{m:AI}{t:T}{p1 apos cpos pos bpos:Pos}{x:Str}
end
section
variable {X:Cx}{E:L2.St->XK}{ca:Str->Value}{m mk ma:AI}{o k e a:Expr}{pos apos cpos p p2:Pos}
def rSlS:V->kA->kA->Hp->VK->Prop:=λx lo hi H Q=>∃z:Str,x=.str z/\z.length<=Bh/\Q (.str (Txt.slice z lo hi)) H
theorem zmq:SA X rSlS:=by
 intro pz s σ H x v vl vu lo hi sl Q I rx hs pl pu q;obtain⟨z,rfl,hz,q⟩:=q;obtain⟨t,rfl⟩:=(rx);obtain⟨ob,ho,hc,hd⟩:=hs;rw[Ft]at hz;cases pl with
 |none=>
  cases pu with
  |none=>exact⟨"str",_,Ŏ.lookup,ī _ _ _,ŧ (l:=none) (u:=none) (st:=none) ⟨ob,ho,hc,hd⟩ rfl (Ũ ⟨Ó (ş z _ _) hz,λt' k=>⟨.str _,H,I.tok _,⟨_,rfl⟩,q⟩⟩)⟩|int j uj=>exact⟨"str",_,Ŏ.lookup,ī _ _ _,ŧ (l:=none) (u:=some (j,uj)) (st:=none) ⟨ob,ho,hc,hd⟩ rfl (Ũ ⟨Ó (ş z _ _) hz,λt' k=>⟨.str _,H,I.tok _,⟨_,rfl⟩,q⟩⟩)⟩
 |int i ui=>
  cases pu with
  |none=>exact⟨"str",_,Ŏ.lookup,ī _ _ _,ŧ (l:=some (i,ui)) (u:=none) (st:=none) ⟨ob,ho,hc,hd⟩ rfl (Ũ ⟨Ó (ş z _ _) hz,λt' k=>⟨.str _,H,I.tok _,⟨_,rfl⟩,q⟩⟩)⟩|int j uj=>exact⟨"str",_,Ŏ.lookup,ī _ _ _,ŧ (l:=some (i,ui)) (u:=some (j,uj)) (st:=none) ⟨ob,ho,hc,hd⟩ rfl (Ũ ⟨Ó (ş z _ _) hz,λt' k=>⟨.str _,H,I.tok _,⟨_,rfl⟩,q⟩⟩)⟩
def D0(ma:AI)(ml mh:Option (AI)):AI:=λτ=>match ma τ with
 |some (.v (.str z) _)=>(match Ey ml τ,Ey mh τ with
  |some lo,some hi=>if z.length<=Bh then some (.v (.str (Txt.slice z lo hi)) false) else none
  |_,_=>none)
 |_=>none
theorem zh6{lo hi}(ha:PE X a (tM X.K E ca ma))(hl:PO X lo (Gy X.K ml))(hh:PO X hi (Gy X.K mh)):PE X (.Subscript a (.Slice lo hi none p2) pos) (tM X.K E ca (D0 ma ml mh)):=by
 refine PE.weak (Vs zmq ha hl hh) λσ H Q h=>?_
 obtain⟨F,τ,R,S,q⟩:=h;refine⟨F,τ,R,S,?_⟩;unfold D0 at q;cases hm:ma τ with
 |none=>rw[hm]at q;exact q.elim|some r=>
  rw[hm]at q;cases r with
  |x c=>exact q.elim|v t bb=>
   cases t with
   |str z=>
    intro F1 H1 x B e1 g1;have hx:=Ge g1;subst hx;have e1':Ext F H F1 H1 R0:=e1.mono λ_ z=>z.elim
    have S1:=S.ext e1';cases h1:Ey ml τ with
    |none=>erw[h1]at q<;>exact q.elim|some lo'=>
     refine⟨F1,τ,R,lo',S1,h1,λF2 H2 e2=>?_⟩
     have S2:=S1.ext e2;cases h2:Ey mh τ with
     |none=>erw[h1,h2]at q<;>exact q.elim|some hi'=>
      erw[h1,h2]at q;refine⟨F2,τ,R,hi',S2,h2,λF3 H3 e3=>?_⟩
      by_cases hz:z.length<=Bh
      .rw[if_pos hz]at q;exact⟨z,rfl,hz,q F3 H3 _ R0 (e1'.trans0 (e2.trans0 e3)) (.str _)⟩
      .rw[if_neg hz]at q;exact q.elim
   |_=>exact q.elim
def rJoin:V->kK->Hp->VK->Prop:=λx vs H Q=>∃(sep:Str) (l:Addr) (ys:kE),x=.str sep/\vs=[.ref l]/\H l=some (.lst (ys.map V.str))/\(ys.map (·.length)).sum+ys.length * sep.length<=Bh/\Q (.str (Txt.join sep ys)) H
theorem Td:∀{ys} {its},Al (ys.map V.str) its->StrsAre its ys
 |[],its,r=>by
  cases r;exact .nil
 |y::ys,its,r=>by
  cases r with
  |cons h t=>obtain⟨tk,rfl⟩:=h;exact .cons _ _ (Td t)
theorem zkz:K0 X "str.join" rJoin:=by
 intro pz s σ H x vs v us Q I rx rv h;obtain⟨sep,l,ys,rfl,rfl,hH,hz,q⟩:=h;obtain⟨t,rfl⟩:=(rx);obtain⟨u,rfl,ru⟩:=rv.one;cases ru;obtain⟨its,r,pl,_⟩:=I.list (Am.of hH);refine join_list pl.isList (Td r) (by exact hz) λt' k=>⟨.str _,H,I.tok _,⟨_,rfl⟩,q⟩
def HW(m mk:AI):AI:=λτ=>match m τ with
 |some (.v (.str sep) _)=>(match mk τ with
  |some (.v (.nd _ .lst l) _)=>(match Eb l with
   |some ys=>if (ys.map (·.length)).sum+ys.length * sep.length<=Bh then some (.v (.str (Txt.join sep ys)) false) else none
   |none=>none)
  |_=>none)
 |_=>none
theorem zoo{K}{o}(s:Af F H)(h:Rp K F H (.nd o .lst l) x A):∃p xs,x=.ref p/\H p=some (.lst xs)/\l.length=xs.length/\∀(i:Nat) (t) (x),l[i]?=some t->xs[i]?=some x->∃B,Rp K F H t x B:=by
 cases h with
 |shr h e c=>exact⟨_,_,rfl,s _ _ h,e,λi t x h1 h2=>⟨_,c i t x h1 h2⟩⟩|own hk R f h e c d dp o=>exact⟨_,_,rfl,h,e,λi t x h1 h2=>⟨_,c i t x h1 h2⟩⟩
theorem Tc{K}{F H}:∀{l} {ys} {xs},Eb l=some ys->l.length=xs.length->(∀(i:Nat) (t) (x),l[i]?=some t->xs[i]?=some x->∃B,Rp K F H t x B)->xs=ys.map V.str
 |[],ys,xs,h,e,_=>by
  cases h
  grind
 |t::l,ys,[],h,e,_=>by simp at e|t::l,ys,x::xs,h,e,f=>by
  unfold Eb at h;split at h
  .grind
  .rename_i z r hh;cases hh;split at h
   .rename_i l' hl;cases h;obtain⟨B,r0⟩:=f 0 _ x rfl rfl;have ih :=Tc hl (by simpa using e) λi t x h1 h2=>f (i+1) t x (by grind) (by grind)
    rw[r0.str_inv,ih]
    rfl
   .cases h
  .cases h
theorem zna(ho:PE X o (tM X.K E ca m))(hk:PE X k (tM X.K E ca mk))(hbase:attributeBase o "join" X.env (eval o X.env)=eval o X.env)(hs:starEach [k] X.env=[(false,eval k X.env)])(hline:(apos.endLine == cpos.line)=true) :
  PE X (.Call (.Attribute o "join" apos) [k] [] cpos) (tM X.K E ca (HW m mk)):=by
 refine PE.weak (JW PySem.F.plainAttrs_str PySem.F.slot_str_join PySem.F.type_str_join zkz ho (EZ hk Es hs) hbase (by rw[hs];rfl) hline hs rfl) λσ H Q h=>?_
 obtain⟨F,τ,R,S,q⟩:=h;refine⟨F,τ,R,S,?_⟩;unfold HW at q;cases hm:m τ with
 |none=>rw[hm]at q;exact q.elim|some r=>
  rw[hm]at q;cases r with
  |x c=>exact q.elim|v t b=>
   cases t with
   |str sep=>
    simp only at q;intro F1 H1 x B e1 g1;have hx:=Ge g1;subst hx;have e1':Ext F H F1 H1 R0:=e1.mono λ_ z=>z.elim
    refine⟨rfl,F1,τ,R,S.ext e1',?_⟩;cases hk2:mk τ with
    |none=>rw[hk2]at q;exact q.elim|some r2=>
     rw[hk2]at q;cases r2 with
     |x c=>exact q.elim|v t2 b2=>
      cases t2 with
      |nd o2 k2 l=>
       cases k2 with
       |lst=>
        simp only at q;intro F2 H2 z B2 e2 g2
        have hr:∃A,Rp X.K F2 H2 (.nd o2 .lst l) z A:=by
         cases b2 with
         |true=>obtain⟨_,A,_,r⟩:=g2;exact⟨A,r⟩
         |false=>exact⟨_,g2⟩
        obtain⟨A,r⟩:=hr;obtain⟨p,xs,rfl,hH,el,kd⟩:=zoo e2.fh r;cases hy:Eb l with
        |none=>erw[hy]at q<;>exact q.elim|some ys=>
         erw[hy]at q;have hxs:=Tc hy el kd
         by_cases hz:(ys.map (·.length)).sum+ys.length * sep.length<=Bh
         .rw[if_pos hz]at q;exact⟨sep,p,ys,rfl,rfl,by rw[<- hxs];exact hH,hz,q F2 H2 _ R0 ((e1'.trans e2).mono λ_ z=>z.elim) (.str _)⟩
         .rw[if_neg hz]at q;exact q.elim
       |_=>exact q.elim
      |_=>exact q.elim
   |_=>exact q.elim
def rIxD:R2:=λx y H Q=>∃a kvs k v,x=.ref a/\y=.str k/\H a=some (.dK kvs)/\EH kvs (Sum.inr k)=some v/\Q v H
theorem zp7(hu:X.A.units+1<cLine):Fd X rIxD:=by
 intro value slice pz s σ H x y v u Q I rx ry h hs;obtain⟨a,kvs,k,w,rfl,rfl,hH,hv,q⟩:=h;cases rx;have g :=hv▸NX.k hH
 have hT:s.TypeIs (.ref a) "dict":=by
  obtain⟨_,_,vs,_,dd⟩:=aI I.hok hH;exact dd.typeIs
 refine Á ?_;refine Á (wpAny_specialOf hT PySem.F.slot_dict_getitem.lookup ?_)
 have BP:wpAny (model X.prog X.w) X.A (subscripted slice false (.ref a) u) (λr s₃=>wpAny (model X.prog X.w) X.A (letTemporaryGo value (.ref a) r >>= λ_=>pure r) (EP X pz σ Q) X.xe s₃) X.xe s:=by
  rw[hs];exact wpAny_operating (è (zfv hu I g (ry) λw' s3 I3 rw'=>⟨w,H,I3,rw',q⟩) (λr s₃ h₃=>Á (wpAny_letTemporaryGo (Ç h₃))) λ_ _ x=>x)
 first|exact Ç (Á BP)|rfl|rfl
def J3(m mk:AI):AI:=λτ=>match m τ with
 |some (.v (.obj (.sdc ks) l) _)=>(match mk τ with
  |some (.v (.str y) _)=>(match CH ks y with
   |some j=>(match l[j]? with
    |some u=>if u.sh then some (.v u false) else none
    |none=>none)
   |none=>none)
  |_=>none)
 |_=>none
theorem Sl:∀{ks} {xs} {y} {j} {v},CH ks y=some j->xs[j]?=some v->EH (Cu ks xs) (Sum.inr y)=some v
 |[],xs,y,j,v,h,_=>by simp[CH]at h|k::ks,[],y,j,v,_,h=>by simp at h|k::ks,x::xs,y,j,v,h,hx=>by
  show EH ((Sum.inr k,x)::Cu ks xs) (Sum.inr y)=some v;unfold CH at h;rw[ź]at h
  by_cases e:k=y
  .rw[@decide_eq_true _ (Classical.propDecidable _) e]at h;erw[Î,Θ]at h;subst h;rw[Ko (by rw[e])]
   simpa using hx
  .rw[@decide_eq_false _ (Classical.propDecidable _) e]at h;erw[Ő,É,à]at h;obtain⟨j',h1,rfl⟩:=h;rw[Kp (λz=>e (Sum.inr.inj z))]
   exact Sl (h1) (by simpa using hx)
theorem r_gt(hu:X.A.units+1<cLine)(ho:PE X o (tM X.K E ca m))(hk:PE X k (tM X.K E ca mk))(hs:NP k):PE X (.Subscript o k pos) (tM X.K E ca (J3 m mk)):=by
 refine PE.weak (Vu (zp7 hu) ho hk hs) λσ H Q h=>?_
 obtain⟨F,τ,R,S,q⟩:=h;refine⟨F,τ,R,S,?_⟩;unfold J3 at q;cases hm:m τ with
 |none=>rw[hm]at q;exact q.elim|some r=>
  rw[hm]at q;cases r with
  |x c=>exact q.elim|v t b=>
   cases t with
   |obj kd l=>
    cases kd with
    |sdc ks=>
     simp only at q;intro F1 H1 x B e1 g1;obtain⟨r1,hB⟩:=MN g1;subst hB;obtain⟨a,xs,rfl,_,⟨hl1,hF⟩,el,cc⟩:=r1.obj_inv;refine⟨F1,τ,R,S.ext e1,?_⟩;cases hk2:mk τ with
     |none=>rw[hk2]at q;exact q.elim|some r2=>
      rw[hk2]at q;cases r2 with
      |x c=>exact q.elim|v t2 b2=>
       cases t2 with
       |str y=>
        simp only at q;intro F2 H2 z B2 e2 g2;have hz:=Ge g2;subst hz;have e2':Ext F1 H1 F2 H2 R0:=e2.mono λ_ z=>z.elim
        cases hj:CH ks y with
        |none=>erw[hj]at q<;>exact q.elim|some j=>
         erw[hj]at q;cases hu2:l[j]? with
         |none=>erw[hu2]at q<;>exact q.elim|some u=>
          erw[hu2]at q
          by_cases hsh:u.sh=true
          .rw[if_pos hsh]at q;have hjl:=(Õ.mp hu2).1;have hx:xs[j]?=some xs[j]:=Â (by omega)
           have hc:=(cc j u _ hu2 hx).move (H':=H2) hsh e2'.ff;exact⟨a,_,y,_,rfl,rfl,e2'.hh _ _ (e1.fh _ _ hF),Sl hj hx,q F2 H2 _ R0 (e1.trans0 e2') hc⟩
          .rw[if_neg hsh]at q;exact q.elim
       |_=>exact q.elim
    |_=>exact q.elim
   |_=>exact q.elim
def tKys(to:TE):TE:=λσ H Q=>to σ H λx H1=>∃a ks xs,x=.ref a/\ks.length=xs.length/\H1 a=some (.dK (Cu ks xs))/\∀p,H1 p=none->Q (.ref p) (upd H1 p (.lst (ks.map V.str)))
theorem YR:∀{ks} {xs},ks.length=xs.length->(Cu ks xs).length=ks.length
 |[],[],_=>rfl|[],_::_,h=>by simp at h|_::_,[],h=>by simp at h|k::ks,x::xs,h=>by
  show(Cu ks xs).length+1=ks.length+1;rw[YR (by simpa using h)]
theorem YS:∀{ks} {xs} {vs},ks.length=xs.length->KV (Cu ks xs) vs->vs.map (·.1)=ks.map Sum.inr
 |[],[],vs,_,r=>by
  have r' :=(r);cases r'
  rfl
 |[],_::_,_,h,_=>by simp at h|_::_,[],_,h,_=>by simp at h|k::ks,x::xs,vs,h,r=>by
  have r' :=r;cases r' with
  |@cons _ q _ qs hd tl=>rw[Ò,Ò,<- hd.1,YS (by simpa using h) tl]
theorem zo1(hc:X.calm=true)(hg:Gl X "list")(hm:X.mg "list"=none)(ho:PE X o to)(hs:starEach [o] X.env=[(false,eval o X.env)]) :
  PE X (.Call (.Name "list" p) [o] [] p2) (tKys to):=by
 intro pz s σ H Q I h;refine ğ (G6 I hg hm ő ?_ (by decide) (by decide))
 refine į ?_ (by rw[hs];rfl) rfl
 rw[hs];show wpAny _ _ (spliced ((false,eval o X.env)::backTo p2 (starEach [] X.env))) _ _ s;refine Calls.spliced_cons (AX (ho pz s σ H _ I h) λv s1 zz=>?_)
 obtain⟨x,H1,I1,r1,q1⟩:=zz;obtain⟨a,ks,xs,rfl,el,hd,q⟩:=q1;cases r1;obtain⟨z,hsm,vs,rel,o',es,ep,ho',r⟩:=(I1.hok a _ hd);have hat:s1.heap.DictAt (DZ X.prog X.w) a vs ep:=⟨o',es,ho',r⟩;refine Calls.spliced_nil ?_;refine W.kdl_call (W.kdl_dict hsm) (I1.ok.hd hc) hat (by rw[<- zov rel];exact z) λh' tk acc' c' hk hD hacc=>?_
 have hkeys:=YS el rel;refine⟨.ref _,_,I1.laid hk (È _) ?_,rfl,q _ (I1.hok.fresh (È _))⟩;refine⟨by rw[À,<- YR el];exact z,acc'.toList,c',?_,by rw[hD]⟩
 have hlen:acc'.toList.length=ks.length:=by
  rw[Array.length_toList,hacc.1,<- À,hkeys,À]
 have key:∀(n ) (k ) (v ),ks[n]?=some k->acc'.toList[n]?=some v->∃t,v=Value.str k t:=λn k v h1 h2=>by
  obtain⟨k',x',e1,e2⟩:=hacc.2 n v (by rw[<- Array.getElem?_toList];exact h2)
  have e3:(vs.map (·.1))[n]?=some k':=by rw[Ä,e1];rfl
  rw[hkeys,Ä,h1]at e3;have e4 :=(ì e3).symm;subst e4
  rcases Ez (show G7 (Sum.inr k) v=true from e2) with ⟨i,t,e5,_⟩|⟨x,t,e5,e6⟩
  .cases e5
  .cases e5;exact⟨t,e6⟩
 clear hD hk hacc
 generalize acc'.toList=as at hlen key
 clear hd q hkeys
 have go:∀(ks:kE) (as ),as.length=ks.length->(∀(n:Nat) (k ) (v ),ks[n]?=some k->as[n]?=some v->∃t,v=Value.str k t)->Al (ks.map V.str) as:=by
  intro ks
  induction ks with
  |nil=>
   intro as hl _;cases as with
   |nil=>exact .nil|cons _ _=>simp at hl
  |cons k ks ih=>
   intro as hl key;cases as with
   |nil=>simp at hl|cons v as=>exact .cons (key 0 k v rfl rfl) (ih as (by simpa using hl) λn k v h1 h2=>key (n+1) k v (by simpa using h1) (by simpa using h2))
 exact go ks as hlen key
def G4(m:AI):AI:=λτ=>match m τ with
 |some (.v (.obj (.sdc ks) _) _)=>some (.v (.own (ks.map T.str)) false)|_=>none
theorem zh0{K}(ks:kE):Ar K F (ks.map T.str) (ks.map V.str):=⟨by simp,λi t x h1 h2=>by
 rw[Ä]at h1 h2;cases h:ks[i]? with
 |none=>grind|some k=>rw[h]at h1 h2;cases h1;cases h2;exact .str k⟩
theorem r_kys(hc:X.calm=true)(hg:Gl X "list")(hm:X.mg "list"=none)(ho:PE X o (tM X.K E ca m))(hs:starEach [o] X.env=[(false,eval o X.env)]):PE X (.Call (.Name "list" p) [o] [] p2) (tM X.K E ca (G4 m)):=by
 refine PE.weak (zo1 hc hg hm ho hs) λσ H Q h=>?_
 obtain⟨F,τ,R,S,q⟩:=h;refine⟨F,τ,R,S,?_⟩;unfold G4 at q;cases hm2:m τ with
 |none=>rw[hm2]at q;exact q.elim|some r=>
  rw[hm2]at q;cases r with
  |x c=>exact q.elim|v t b=>
   cases t with
   |obj kd l=>
    cases kd with
    |sdc ks=>
     intro F1 H1 x B e1 g1;obtain⟨r1,hB⟩:=MN g1;subst hB;obtain⟨a,xs,rfl,_,⟨hl1,hF⟩,el,cc⟩:=r1.obj_inv;refine⟨a,ks,xs,rfl,hl1,e1.fh _ _ hF,λp hp=>?_⟩
     have gg:Dg X.K F1 H1 (.own (ks.map T.str)) Q:=λF' H' z C e g=>q F' H' z C (e1.trans0 e) g
     exact gg.list e1.fh (zh0 ks) hp
    |_=>exact q.elim
   |_=>exact q.elim
structure ICls(K:k6)(C:Addr):Prop where
 c:Cls K C
 a:W.findIn K (.ref C) "__class__"=some (some (.builtin "object.__class__"))
 n:W.specialIn K (.builtin "object.__class__") "__get__"=some (some (.builtin "getset_descriptor.__get__"))
 k:W.takesIn K (.builtin "object.__class__")=some true
 m:W.mroIn K C (.type "object")=some true
def QI(tb:List (Addr×Bool)):Ob->kH
 |.ins C _=>(tb.lookup C).map .bl|_=>none
def Kr:List String:=["NoneType","bool","int","str","list","tuple","dict"]
def Ha(tb:List (Addr×Bool)):T->kH
 |.obj o _=>QI tb o|t=>(Ks t).map λ_=>.bl false
theorem ziw(hC:ICls X.K C)(hk:W.kitOne X.K (.ref C) (.ref D)=some b):Cq X (.builtin "isinstance") (λxs H Q=>∃a dx fs,xs=[.ref a,.ref D]/\H a=some (.ins C dx fs)/\Q (.bl b) H):=by
 intro pz s σ H xs us Q I r h;obtain⟨a,dx,fs,rfl,e,q⟩:=h;obtain⟨u,w',rfl,rx,ry⟩:=JH r;cases ry;exact QH I rx (.ins e hC.c hC.a hC.n hC.k hC.m) hk λtk=>⟨.bl b,H,I.tok _,rfl,q⟩
theorem r_isC(hC:(∀C b,tb.lookup C=some b->ICls X.K C/\W.kitOne X.K (.ref C) (.ref D)=some b)/\(Kr.all λa=>W.kitOne X.K (.type a) (.ref D) == some false)=true)(hg:Gl X "isinstance")(hm:X.mg "isinstance"=none)(hgc:Gl X c)(hmc:X.mg c=some (.ref D))(hd:(c == "__debug__")=false)(ha:PE X e (tM X.K E ca m))(he:starEach [e,.Name c p2] X.env=(false,eval e X.env)::starEach [.Name c p2] X.env) :
  PE X (.Call (.Name "isinstance" p) [e,.Name c p2] [] pos) (tM X.K E ca (Bm (g1 (Ha tb)) (AB m AE))):=by
 have hR:Cq X (.builtin "isinstance") (λxs H Q=>(∃C b a dx fs,tb.lookup C=some b/\xs=[.ref a,.ref D]/\H a=some (.ins C dx fs)/\Q (.bl b) H)\/∃x a,xs=[x,.ref D]/\a∈Kr/\(TyOf X.K H x (.type a)\/a="dict"/\∃p ob kvs,x=.ref p/\H p=some (.frz ob (.dK kvs)))/\Q (.bl false) H):=λpz s σ H xs us Q I r h=>by
  rcases h with ⟨C,b,a,dx,fs,hl,h⟩|⟨x,a,rfl,hm,ty,q⟩
  .exact ziw (hC.1 C b hl).1 (hC.1 C b hl).2 pz s σ H xs us Q I r ⟨a,dx,fs,h⟩
  .have hk :=eq_of_beq (Þ.mp hC.2 a hm);obtain⟨u,w',rfl,rx,ry⟩:=JH r;cases ry
   rcases ty with ty|⟨rfl,p,ob,kvs,rfl,hp⟩
   .exact QH I rx ty hk λtk=>⟨.bl false,H,I.tok _,rfl,q⟩
   .cases rx;exact Y5 I hp hk λtk=>⟨.bl false,H,I.tok _,rfl,q⟩
 refine PE.weak (LW hR hg hm PyProof.Rows.boot_isinstance (EZ ha (EZ (Vv (v:=.ref D) hgc hmc rfl hd) Es) he) (by decide) (by decide) he rfl) λσ H Q h=>?_
 refine(HB (HD h)).mono λx H1 h1=>?_
 obtain⟨F,ts,w,fh,rs,e,q⟩:=HA h1;unfold g1 at e;split at e
 .obtain⟨x1,xs1,e1,r1,rs1⟩:=rs.inv;cases e1;unfold Ha at e;split at e
  .unfold QI at e;split at e
   .obtain⟨b,hb,rfl⟩:=à.mp e;obtain⟨a,xs,rfl,_,⟨dx,hF⟩,_,_⟩:=r1.obj_inv;exact .inl ⟨_,b,a,dx,_,hb,rfl,fh _ _ hF,q.bl fh⟩
   .cases e
  .obtain⟨a,ha,rfl⟩:=à.mp e;obtain⟨ty,hm⟩:=Sv fh r1 ha;exact .inr ⟨_,a,rfl,hm,ty,q.bl fh⟩
 .cases e
end
section
variable {X:Cx}{E:L2.St->XK}{ca:Str->Value}{m mk:AI}{e k:Expr}{pos p1 pos2 pos3:Pos}{mu:Bool}{i j:Nat}{x f:Str}
end
end Pu
namespace Zx
open PySem PySem.Spec PyProof.Rows L2 Zw
section
variable {A:Around}{E:Value->Shared->Prop}{M:Model}
end
section
variable {X:Cx}{i1 i2:Nat}{x1 x2 n1 n2:Str}{np1 np2 pos hpos1 hpos2:Pos}{body suite1 suite2:kD}{b1 b2:Stmt}{tb th1 th2:TS}{E:L2.St->XK}
end
end Zx
namespace Pu
open PySem PySem.Spec PyProof.Rows L2 Zw Zx
section
variable {X:Cx}{E:L2.St->XK}{ca:Str->Value}{mu:Bool}{i1 i2:Nat}{x1 x2 n1 n2:Str}{np1 np2 pos hpos1 hpos2:Pos}{body suite1 suite2:kD}{b1 b2:Stmt}{u h1 h2:AH}{cs1 cs2:List (Str×Addr)}
end
section
variable {X:Cx}{E:L2.St->XK}{ca:Str->Value}{m:AI}{e:Expr}{pos p p2 p3 p4:Pos}{c1 c2:Str}{t1 t2:List (Addr×Bool)}{kt:Nat}
end
end Pu
namespace Zx
open PySem PySem.Spec PyProof.Rows L2 Zw
def tTry0(K:k6)(W:Addr)(E:L2.St->XK)(tb th:TS):TS:=λD σ H=>tb D σ H/\∀σ1 cls dx H1,E σ1 cls dx H1->∃C,cls=.ref C/\PySem.W.subIn K (.ref C) (.ref W)=some true/\th D σ1 H1
section
variable {X:Cx}{x:Str}{np pos hpos:Pos}{body suite:kD}{b₀:Stmt}{tb th:TS}{E:L2.St->XK}
theorem zk2(T:ECls X.K X.mg x)(hst:X.stack=X.env::X.outer)(hf:X.env.frame=some X.env.locals)(hb:∀pz xe,BW (DK X pz xe) E->B3 (DK X pz xe) body tb)(hh:∀a,B3 (GA X a) (b₀::suite) th)(hg:Gl X x)(hdb:(x == "__debug__")=false) :
  PS X (.Try body [.ExceptHandler (some (.Name x np)) none (b₀::suite) hpos] [] [] pos) (tTry0 X.K T.C E tb th):=by
 intro pz s σ H D I h;obtain⟨h1,h2⟩:=h
 refine wpAny_Try_except (è (hb pz (λe s₁=>wpAny (model X.prog X.w) X.A (noteFrame e X.env) (λ_ s₂=>wpAny (model X.prog X.w) X.A (setFlight e none) (λ_ s₃=>wpAny (model X.prog X.w) X.A (handleBy e X.env [.ExceptHandler (some (.Name x np)) none (b₀::suite) hpos]) (SP X pz D) X.xe s₃) X.xe s₂) X.xe s₁)
  ?pass [] s σ H D (Y9 I) h1) (λf s1 q=>?_) (λe s1 q=>q))
 case pass=>
  intro pins1 σ1 H1 s1 e s' I1t hcx;have I1 :=L5 (ok:=I.ok) I1t;obtain⟨a,cls,H',B,rfl,os,bare,un,hok,kB,tB,fl0,he⟩:=hcx;obtain⟨c0,dx⟩:=cls;obtain⟨C,hC0,hsub,kk⟩:=h2 σ1 c0 dx H' he;have hC0 :=hC0;subst hC0;have fl1 :=hst▸fl0
  have sl:∀h',s'.heap.UpToSlots h'->∀b o,s1.heap.get? b=some o->H1 b=none->b∈BO X.stack->∃z,h'.get? b=some { o with slots:=z }:=λh' sm b o e n hb=>by
   obtain⟨_,o2,ho2,hd⟩:=I1.stack.mem hb;rw[e]at ho2;cases ho2;obtain⟨z2,e2⟩:=un.slot b o e n hb (by simp)
   obtain⟨z3,e3⟩:=sm b { o with slots:=z2 } e2 hd
   exact⟨z3,e3⟩
  have inv5 :=λh' st sm=>
   I1.call' (s':={ s' with heap:=h' }) os ⟨λb o e n hb _=>st b o (kB b o e n hb),λb o e n hb _=>sl h' sm b o e n hb,un.free,λb o e _=>by
    by_cases hb:b∈BO X.stack
    .obtain⟨z,q⟩:=sl h' sm b o e (I1.stkFree b hb) hb;exact⟨_,q⟩
    .obtain⟨o',q⟩:=tB b o e hb;exact⟨o',st b o' q⟩,un.tups,un.frzs,un.tbls⟩ (hok.kept st) bare (λ_ z=>nomatch z)
  refine La (hst▸I.ok.frames) rfl hf fl1 λh4 held4 sm4=>?_
  refine ME held4 λh5 fl5 sm5=>?_
  have I5:=inv5 h5 fl5.1 (sm4.trans sm5);obtain⟨oe,he5,hc5⟩:=fl5.there;obtain⟨bm,N,nm,qn,bs,hd,sn,sub,ab,col,dd,k0,k1,k2,k3,k5,mN,hC,hNs,hni,TL⟩:=He I5.kIn T.k.q;refine wpAny_handleBy_cons (codeAny_handlers_test (G5 (ML I5) hg T.m ?_ hdb)) (by intro q;cases q)
  refine Zo hC he5 hc5 (TL.hasType ġ.hasBase) (W.looks_subIn I5.kIn hsub) ?_;refine codeAny_handlers_suite (b5 fl5 λh6 fl6 sm6=>?_)
  refine è (hh a pz _ σ1 H' D (ML (inv5 h6 fl6.1 ((sm4.trans sm5).trans sm6))) kk) (λf s8 q8=>?_) (λ_ _ z=>False.elim z)
  cases f with
  |next=>obtain⟨σ8,H8,I8,d8⟩:=q8;exact⟨σ8,H8,J0 I.ok I8,d8⟩
  |brk=>obtain⟨σ8,H8,I8,d8⟩:=q8;exact⟨σ8,H8,J0 I.ok I8,d8⟩
  |cont=>obtain⟨σ8,H8,I8,d8⟩:=q8;exact⟨σ8,H8,J0 I.ok I8,d8⟩
  |ret u=>obtain⟨v,σ8,H8,I8,r8,d8⟩:=q8;exact⟨v,σ8,H8,J0 I.ok I8,r8,d8⟩
 have back:∀{xe0 } {σ' } {H' },Inv (DK X pz xe0) [] σ' H' s1->Inv X pz σ' H' s1:=λJ=>L5 (ok:=I.ok) J
 cases f with
 |next=>obtain⟨σ',H',J,d⟩:=q;exact ĩ ⟨σ',H',back J,d⟩
 |brk=>obtain⟨σ',H',J,d⟩:=q;exact⟨σ',H',back J,d⟩
 |cont=>obtain⟨σ',H',J,d⟩:=q;exact⟨σ',H',back J,d⟩
 |ret u=>obtain⟨v,σ',H',J,r,d⟩:=q;exact⟨v,σ',H',back J,r,d⟩
end
end Zx
namespace Pu
open PySem PySem.Spec PyProof.Rows L2 Zw Zx
def II(cs:List (Str×Addr))(u h:AH):AH:=λτ=>match u τ with
 |some (.xc c τ')=>(match cs.lookup (FT c) with
  |some _=>(match h τ' with
   |some (.nx τ2)=>some (.nx τ2)|some (.rt t)=>some (.rt t)|_=>none)
  |none=>none)
 |r=>r
section
variable {X:Cx}{E:L2.St->XK}{ca:Str->Value}{mu:Bool}{x:Str}{np pos hpos:Pos}{body suite:kD}{b₀:Stmt}{u h:AH}{cs:List (Str×Addr)}
theorem zmv(T:ECls X.K X.mg x)(hcs:∀c C,cs.lookup c=some C->ca c=.ref C/\W.subIn X.K (.ref C) (.ref T.C)=some true)(hst:X.stack=X.env::X.outer)(hf:X.env.frame=some X.env.locals)
  (hb:∀(E' ) pz xe,BW (DK X pz xe) E'->B3 (DK X pz xe) body (tS X.K E' ca mu u)) (hh:∀a,B3 (GA X a) (b₀::suite) (tS X.K cB ca mu h)) (hg:Gl X x) (hdb:(x == "__debug__")=false) :
  PS X (.Try body [.ExceptHandler (some (.Name x np)) none (b₀::suite) hpos] [] [] pos) (tS X.K E ca mu (II cs u h)):=by
 intro pz s σ H D I hq;obtain⟨F,τ,R,S,q⟩:=hq;let E':L2.St->XK:=λσ1 cls _ H1=>∃c τ' F' R',u τ=some (.xc c τ')/\cls=ca (FT c)/\Stp F H (tot R) F' H1 (tot R')/\StR X.K F' H1 σ1 τ' R'
 refine zk2 T hst hf (λpz xe hp=>hb E' pz xe hp) hh hg hdb pz s σ H D I ⟨⟨F,τ,R,S,?_⟩,?_⟩
 .unfold II at q;cases hu:u τ with
  |none=>rw[hu]at q;exact q|some o=>
   cases o with
   |xc c τ'=>exact λF' H' σ' R' st S' _ _=>⟨c,τ',F',R',hu,rfl,st,S'⟩|_=>rw[hu]at q;exact q
 .intro σ1 cls _ H1 zz;obtain⟨c,τ',F',R',hu,hcl,st,S'⟩:=zz;unfold II at q;erw[hu]at q;cases hl:cs.lookup (FT c) with
  |none=>erw[hl]at q<;>exact q.elim|some C=>
   erw[hl]at q;obtain⟨h1,h2⟩:=hcs _ C hl;refine⟨C,hcl.trans h1,h2,F',τ',R',S',?_⟩;cases hh:h τ' with
   |none=>erw[hh]at q<;>exact q.elim|some o=>
    erw[hh]at q;cases o with
    |nx τ2=>exact λF4 H4 σ4 R4 st4 S4=>q F4 H4 σ4 R4 (st.trans st4) S4|rt t=>exact λF4 H4 x B st4 r4=>q F4 H4 x B (st.trans st4) r4|bk _=>exact q.elim|ct _=>exact q.elim|xc _ _=>exact q.elim
end
section
variable {X:Cx}{E:L2.St->XK}{ca:Str->Value}{m mk ma:AI}{o k e a:Expr}{pos apos cpos p p2:Pos}
end
section
variable {X:Cx}{E:L2.St->XK}{ca:Str->Value}{m mk:AI}{o k e:Expr}{pos pos' apos cpos:Pos}
theorem zok:K0 X "str.endswith" (λx vs H Q=>∃x1 y,x=.str x1/\vs=[.str y]/\Q (.bl (Txt.endswith x1 y)) H):=by
 intro pz s σ H x vs v us Q I rx rv h;obtain⟨x1,y,rfl,rfl,q⟩:=h;obtain⟨t,rfl⟩:=(rx);obtain⟨u,rfl,ru⟩:=rv.one;obtain⟨u1,rfl⟩:=(ru);exact SC.endswith ⟨.bl _,H,I,rfl,q⟩
noncomputable def FY(m mk:AI):AI:=λτ=>match m τ with
 |some (.v (.str x) _)=>(match mk τ with
  |some (.v (.str y) _)=>some (.v (.bl (Txt.endswith x y)) false)|_=>none)
 |_=>none
theorem r_enw(ho:PE X o (tM X.K E ca m))(hk:PE X k (tM X.K E ca mk))(hbase:attributeBase o "endswith" X.env (eval o X.env)=eval o X.env)(hs:starEach [k] X.env=[(false,eval k X.env)])(hline:(apos.endLine == cpos.line)=true) :
  PE X (.Call (.Attribute o "endswith" apos) [k] [] cpos) (tM X.K E ca (FY m mk)):=by
 refine PE.weak (JW PySem.F.plainAttrs_str PySem.F.slot_str_endswith PySem.F.type_str_endswith zok ho (EZ hk Es hs) hbase (by rw[hs];rfl) hline hs rfl) λσ H Q h=>?_
 obtain⟨F,τ,R,S,q⟩:=h;refine⟨F,τ,R,S,?_⟩;unfold FY at q;cases hm:m τ with
 |none=>rw[hm]at q;exact q.elim|some r=>
  rw[hm]at q;cases r with
  |x c=>exact q.elim|v t b=>
   cases t with
   |str x=>
    simp only at q;intro F1 H1 x' B e1 g1;have hx:=Ge g1;subst hx;have e1':Ext F H F1 H1 R0:=e1.mono λ_ z=>z.elim
    refine⟨rfl,F1,τ,R,S.ext e1',?_⟩;cases hk2:mk τ with
    |none=>rw[hk2]at q;exact q.elim|some r2=>
     rw[hk2]at q;cases r2 with
     |x c=>exact q.elim|v t2 b2=>
      cases t2 with
      |str y=>
       simp only at q;intro F2 H2 z B2 e2 g2;have hz:=Ge g2;subst hz;have e2':Ext F1 H1 F2 H2 R0:=e2.mono λ_ z=>z.elim
       exact⟨x,y,rfl,rfl,q F2 H2 _ R0 (e1'.trans0 e2') (.bl _)⟩
      |_=>exact q.elim
   |_=>exact q.elim
end
abbrev Yd(ms:BQ):BQ:=Cw ms
theorem r_enX{elts:kC}(hg:Gl X "enumerate")(hm:X.mg "enumerate"=none)(ha:PA X [a] (Bx X.K E ca ms))(hs:starEach [a] X.env=[(false,eval a X.env)]):PI X (.Tuple elts kk tpos) (.Call (.Name "enumerate" p) [a] [] pos) (tI X.K E ca (Yd ms)):=V9 hg hm ha hs
def clsO(C N:Addr)(o:Obj):Prop:=∃nm q bs hdct sn sub ab col dd k0 k1 k2 k3 k5 newId,o=excClassObj nm q C N bs [.type "object"] hdct sn sub ab col dd k0 k1 k2 k3 k5 newId
noncomputable def keyO(e:DictEntry):Bool:=match e.key with
 |.str n _=>!(n == ("__eq__":Str)) && !(n == ("__ne__":Str))|_=>false
def nsO(o:Obj):Bool:=match o.data with
 |.dict es _=>es.toList.all keyO|_=>false
structure TiOk(K:k6)(C:Addr):Prop where
 i:ICls K C
 k:(IB.all λc=>W.kitOne K (.ref C) (.type c) == some false)=true
 o:∃(oC oN:Obj) (N:Addr),K.lookup C=some oC/\clsO C N oC/\K.lookup N=some oN/\nsO oN=true
end Pu
namespace Zx
open PySem PySem.Spec PyProof.Rows L2 Zw
section
variable {M:Model}{prog:Program}{w:World}{A:Around}{E:Value->Shared->Prop}{env:Env}{nm q:Str}{C N:Addr}{bs bm:k9}{hdct:Bool}{sn:kE}{sub:k9}{ab:Bool}{col:Option Bool}{dd:Option Addr}{k0 k1 k2 k3 k5:Option Value}{newId:String}
def NewE(h:Heap)(e:Addr):Prop:=∃C d0 t sl nm q N bs bm hdct sn sub ab col dd k0 k1 k2 k3 k5 newId,List.contains bm (Value.type "BaseException")=true/\h.get? C=some (excClassObj nm q C N bs bm hdct sn sub ab col dd k0 k1 k2 k3 k5 newId) /\
 h.get? e=some ⟨.ref C,d0,.fields #[.ref t,.none,.none,.none,.bool false,.none],sl⟩
theorem zew    (hh:A.handled=none)(h:wpAny M A x (λv s₁=>∃e,v=.ref e/\NewE s₁.heap e/\E (.ref e) s₁) E s):wpAny M A (raiseStmt env (some x) none) Q E s:=by
 unfold raiseStmt;refine Á (è h (λv s₁ h₁=>?_) λ_ _ x=>x)
 obtain⟨e,rfl,⟨C,d0,t,sl,nm,q,N,bs,bm,hdct,sn,sub,ab,col,dd,k0,k1,k2,k3,k5,newId,hbase,hC,he⟩,hE⟩:=h₁
 have hcB:(Value.ref C::bm).contains (.type "BaseException")=true:=by
  grind
 obtain⟨hp,g,d,tk,os⟩:=s₁
 repeat (first|with_reducible refine ĭ he ?_|with_reducible refine ĭ hC ?_|(with_reducible refine Δ hC ?_;rw[hcB])|wp_step)
 exact(wpAny_raiseNew_none hh hE)
theorem zgl{h:Heap} {t:Nat}{os:OsState}{bmB:k9} {rest:k9}{fI:Addr}{oI:Obj} (F:ExcBaseFacts B newId initId bmB)(T:OwnTail h bmB bm)
  (hC:h.get? C=some (excClassObj nm q C N bs bm hdct sn sub ab col dd k0 k1 k2 k3 k5 newId)) (hn:h.Ns N mN) (hi:mN "__init__"=some (.ref fI)) (hfI:h.get? fI=some oI) (hfc:oI.cls=.type "function")
  (hq:∀h' e,Heap.MadeExcOf h h' e (.ref C) rest->wpAny (model prog w) A (call (.ref fI) (.ref e::rest)) (λr s'=>r=.none/\Q (.done (.ret (.ref e))) s') E ⟨h',g,d,t,os⟩) (hrest:rest.length<=sizeLine) :
  wpAny (model prog w) A (Builtin.«type.__call__» ⟨.ref C::rest,[]⟩) Q E ⟨h,g,d,t,os⟩:=by
 repeat (first|with_reducible refine ĭ hC ?_|with_reducible refine wpAny_madeBy_exc hC ?_|wp_step)
 refine codeAny_call_builtin_code (Ŗ _ F.quiet) (wpAny_check_new_subT F T hC ?_);refine codeAny_exc_new_subT F T hC ?_ hrest;show wpAny _ _ _ _ _ _;have hC₁:=Ì { cls:=.ref C,data:=.fields #[.ref h.objs.size,.none,.none,.none,.bool false,.none] } (Ì { cls:=.type "tuple",data:=.seq rest.toArray } hC);have hfI₁:=Ì { cls:=.ref C,data:=.fields #[.ref h.objs.size,.none,.none,.none,.bool false,.none] } (Ì { cls:=.type "tuple",data:=.seq rest.toArray } hfI);have T₁:=T.keeps (h':=(h.push { cls:=.type "tuple",data:=.seq rest.toArray }).push { cls:=.ref C,data:=.fields #[.ref h.objs.size,.none,.none,.none,.bool false,.none] }) λb o e=>Ì _ (Ì _ e)
 have hn₁:((h.push { cls:=.type "tuple",data:=.seq rest.toArray }).push { cls:=.ref C,data:=.fields #[.ref h.objs.size,.none,.none,.none,.bool false,.none] }).Ns N mN:=let ⟨o,es,ep,e,r⟩:=hn;⟨o,es,ep,Ì _ (Ì _ e),r⟩;have hget:((h.push { cls:=.type "tuple",data:=.seq rest.toArray }).push { cls:=.ref C,data:=.fields #[.ref h.objs.size,.none,.none,.none,.bool false,.none] }).get? (h.objs.size+1)=some { cls:=.ref C,data:=.fields #[.ref h.objs.size,.none,.none,.none,.bool false,.none] }:=by heap_get
 have hcC:(Value.ref C::bm).contains (.ref C)=true:=by simp
 unfold isInstance
 repeat (first|with_reducible refine ĭ hget ?_|(with_reducible refine Δ hC₁ ?_;rw[hcC])|wp_step)
 show wpAny _ _ (typeLookup (.ref C) _) _ _ _;refine wpAny_typeLookup_tail hC₁ hn₁ T₁ F.mroIs F.init.lookup ?_;rw[hi];refine ð (Á ?_);unfold bindSpecial;refine Á (wpAny_typeOf ⟨_,hfI₁,hfc⟩ ?_);rw[if_pos (by decide)]
 refine Ç (Á (è (hq _ (h.objs.size+1) ⟨λb o hb=>Ì _ (Ì _ hb),ŵ (Ą _),h.objs.size,hget,ŵ (È _),?_⟩) (λr s' hr=>?_) λ_ _ x=>x))
 .exact Ì _ (Heap.get?_push_at rfl rfl)
 .obtain⟨rfl,hQ⟩:=hr
  wp_walk
  exact hQ
theorem ziu{t:Nat}{os:OsState} {rest} (F:ExcBaseFacts B newId initId bmB)(T:OwnTail h bmB bm)
  (hC:h.get? C=some (excClassObj nm q C N bs bm hdct sn sub ab col dd k0 k1 k2 k3 k5 newId)) (hn:h.Ns N mN) (hi:mN "__init__"=some (.ref fI)) (hfI:h.get? fI=some oI) (hfc:oI.cls=.type "function")
  (hq:∀h' e,Heap.MadeExcOf h h' e (.ref C) rest->wpAny (model prog w) (A.under (.builtin "type.__call__" ⟨.ref C::rest,[]⟩)) (call (.ref fI) (.ref e::rest)) (λr s'=>r=.none/\Q (.ref e) s') E ⟨h',g,d,t,os⟩) (hrest:rest.length<=sizeLine) :
  wpAny (model prog w) A (call (.ref C) rest) Q E ⟨h,g,d,t,os⟩:=by
 have f1:=tc_lookup;have f2:=tc_bind (.ref C);refine Ď (codeAny_of_tree ?_)
 repeat (any_goals (first|assumption|rfl|wp_step))
 refine⟨rfl,?_⟩;refine codeAny_call_builtin_at (Ŗ _ (by decide +kernel)) entry_typeCall (wpAny_check_type_call_sub hC (zgl F T hC hn hi hfI hfc (λh' e hm=>?_) hrest))
 exact hq h' e hm
end
section
variable {K:k6}{prog:Program}{w:World}{A:Around}{E:Value->Shared->Prop}{s:Shared}{e C:Addr}{vs:Array Value}{sl:Array (Option Value)}{name:Str}{v:Value}
theorem zcx(T:OwnTail h Kn bm)(self):refuseLoop self "__setattr__" bm=pure ():=by
 induction T with
 |base=>exact PySem.F.store_ValueError.passes self|own _ _ _ _ ih=>rw[refuseLoop_ref];exact ih
open PySem.W PySem.Builtin PySem.Builtin.ObjectAttr in
theorem zlp{bm:k9}{cd:ClassData}{Q:Unit->Shared->Prop}(X:K.In s.heap)(he:s.heap.get? e=some ⟨.ref C,none,.fields vs,sl⟩)(hcl:clsIn K C=some cd)(hmro:cd.mro=.ref C::bm)(T:OwnTail s.heap Kn bm)(hd:cd.hasDict=true)
  (hs:findIn K (.ref C) "__setattr__"=some (some (.builtin "object.__setattr__"))) (hf:findIn K (.ref C) name=some none)
  (h:∀h' od,h'.get? e=some ⟨.ref C,some s.heap.objs.size,.fields vs,sl⟩->h'.get? s.heap.objs.size=some od->lookIn name od=some (some v)->(∀b o,b≠e->s.heap.get? b=some o->h'.get? b=some o)->Q () { s with heap:=h',toks:=s.toks+2 }) :
  wpAny (model prog w) A (setAttr (.ref e) name v) Q E s:=by
 have I:InstAt s.heap e ⟨.ref C,none,.fields vs,sl⟩ C none:=⟨he,rfl,rfl,trivial⟩;refine set_plain X I hs ?_;have SF:=PySem.F.store_object
 have ob:cd.mro.contains (.type "object")=true:=by
  rw[hmro,ŕ,T.hasType (X:="object") (b:=true) (by decide +kernel)]
  exact Bool.or_true _
 have sub:Looks (model prog w) s.heap (isInstance (.ref e) (.type "object")) true:=I.type.andThen (looks_mroIn X (by unfold mroIn;rw[hcl,Ŀ,if_neg (by rw[hmro];exact ó),ob]))
 refine Ŋ SF.slot.plain SF.entry (@check_slot (model prog w) _ _ { s with toks:=s.toks+1 } "object.__setattr__" "object" "__setattr__" (.ref e) [.str name s.toks,v] [] _ SF.kind SF.split sub (SF.args (.ref e) (.str name s.toks) v) ?_)
 have hm:Looks (model prog w) s.heap (mroOf (.ref C)) cd.mro:=(looks_clsIn X hcl).andThen .now;rw[osa_eq,refuse_eq];refine Á (Á (I.type.here (s:={ s with toks:=s.toks+1 }) (Á (hm.here (s:={ s with toks:=s.toks+1 }) ?_))))
 rw[hmro,refuseLoop_ref,zcx T];refine Ç (Á (I.type.here (s:={ s with toks:=s.toks+1 }) (Á ((ũ X hf).here (s:={ s with toks:=s.toks+1 }) (Á (Ç ?_))))))
 refine Á (Ç (Á (Á (wpAny_loadPart he (Á ((looks_clsIn X hcl).here (s:={ s with toks:=s.toks+1 }) ?_))))))
 rw[hd];show wpAny _ _ (alloc { cls:=.type "dict",data:=.dict #[] } >>= λd=>update e (λo=>{ cls:=o.cls,dict:=some d,data:=o.data,slots:=o.slots }) >>= λ_=>dictMade (.ref C) e d) _ _ _
 have he1:(s.heap.push { cls:=.type "dict",data:=.dict #[] }).get? e=some ⟨.ref C,none,.fields vs,sl⟩:=Ì _ he;have hes:e≠s.heap.objs.size:=Ö (Æ he);refine Á (wpAny_alloc' (Á (wpAny_update' he1 (Ç ?_))));have hgd:((s.heap.push { cls:=.type "dict",data:=.dict #[] }).update e λo=>{ cls:=o.cls,dict:=some s.heap.objs.size,data:=o.data,slots:=o.slots }).get? s.heap.objs.size=some { cls:=.type "dict",data:=.dict #[] }:=(Heap.get?_update_ne _ _ _ _ hes.symm).trans (Heap.get?_push_at rfl rfl)
 have hnd:((s.heap.push { cls:=.type "dict",data:=.dict #[] }).update e λo=>{ cls:=o.cls,dict:=some s.heap.objs.size,data:=o.data,slots:=o.slots }).Ns s.heap.objs.size (λ_=>none):=⟨_,#[],_,hgd,rfl,λe he=>absurd he (by simp),λ_=>rfl⟩
 show wpAny _ _ (storeInDict s.heap.objs.size (.str name s.toks) name v) _ _ _;unfold storeInDict newKeyGuard;refine Á (Ç (Á (wpAny_nsSet1 (Heap.Ns1.of_empty hnd) λh' hn' hs'=>?_)))
 obtain⟨oD,esD,epD,hoD,hdD,hcD⟩:=hn'.count (Within.cons name v Within.nil);refine Á (wpAny_lookBehind hoD (by rw[hdD];exact pastItsLine_dict (Ó hcD (by rw[Ý,å,č];omega))) (Ç ?_))
 obtain⟨od,ho,hl⟩:=YH hn';refine h h' od ((hs'.2 e hes).trans (Ĵ _ he1 rfl)) ho (by rw[hl];simp) λb o hb ho=>(hs'.2 b (Ö (Æ ho))).trans ((Heap.get?_update_ne _ _ _ _ hb).trans (Ì _ ho))
end
section
variable {K:k6}{prog:Program}{w:World}{A:Around}{E:Value->Shared->Prop}{s:Shared}{a C:Addr}{name:Str}{u:Value}
open PySem.W PySem.Builtin PySem.Builtin.ObjectAttr in
theorem zlq{cd:ClassData}{ox od:Obj}{expr:Bool}{Q:Value->Shared->Prop}(X:K.In s.heap)(k:ExcK K C)(I:InstAt s.heap a ox C (some od))(hcl:clsIn K C=some cd)(hd:cd.hasDict=true)(hf:findIn K (.ref C) name=some none)
  (hl:lookIn name od=some (some u)) (hu:handedOut u=pure u) (h:Q u { s with toks:=s.toks+1 }):wpAny (model prog w) A (getAttr (.ref a) name expr) Q E s:=by
 obtain⟨hp9,g,dr,t,os⟩:=s;have L0:Looks (model prog w) hp9 (typeOf (.ref a)) (.ref C):=I.type;have L1:=ũ (M:=model prog w) X k.ga;have L2:=ũ (M:=model prog w) X k.gt;have LI:Looks (model prog w) hp9 (isInstance (.ref a) (.type "BaseException")) true:=L0.andThen (looks_mroIn X k.be);have LO:Looks (model prog w) hp9 (inOwnDict name (.ref a)) (some u):=looks_own X I hcl (by unfold W.ownOf;rw[hd,if_pos rfl];exact hl)
 have LF:Looks (model prog w) hp9 (Builtin.ObjectAttr.find (.ref a) (.ref C) name) (.value u):=(ũ X hf).andThen ((show Looks (model prog w) hp9 (ownThenClass (.ref a) name none none) (.value u) from LO.andThen (Looks.tag .now)));unfold getAttr getAttrBy;refine Á (wpAny_mkText (ð (Á (L0.at (Á (L1.at ?_))))))
 have hx1:(onTheHeap (Value.ref C) && Value.builtin "BaseException.__getattribute__" == Value.builtin "object.__getattribute__")=false:=by
  rw[zgj]
  rfl
 dsimp only;rw[if_neg (by rw[hx1];exact ó)]
 unfold getAttrByItsOwn hookBefore;rw[if_pos (show onTheHeap (Value.ref C)=true from rfl)];refine Á (L2.at (Á (wpAny_attempt (ð ?_))));unfold callGetattribute boundAndCalled;rw[if_neg (by cases expr<;>exact ó)]
 refine Á (ė (PySem.F.excAttr_ValueError.ga.bind (.ref a)) ?_);show wpAny _ _ (call (.builtin "BaseException.__getattribute__") [.ref a,.str name t]) _ _ _;refine Ď (Ŋ PySem.F.excAttr_ValueError.ga.plain PySem.F.entry_bexc_ga ?_);have ha:=PySem.F.args_bexc_ga (.ref a) (.str name t);obtain⟨i,hi⟩:∃i,i="BaseException.__getattribute__":=⟨_,rfl⟩;have k1:=zj2;have k2:=zgi;rw[<- hi]at k1 k2 ha ⊢;refine W.check_slot k1 k2 LI ha ?_;refine Á (Ç (Á (Ç (Á (L0.at (Á (LF.at ?_)))))));refine Ç ?_;show wpAny _ _ (handedOut u) _ _ _;rw[hu];exact Ç h
end
def E9(a C t:Addr)(dx:Option Addr):Heap->Prop:=λh=>h.get? a=some ⟨.ref C,dx,.fields #[.ref t,.none,.none,.none,.bool false,.none],#[]⟩
theorem Zp(e:E9 a C t dx h):Cf P w H h a (.ext (E9 a C t dx)):=⟨e,⟨_,e⟩,λ_ _ p k=>k _ p⟩
structure StepK(K:k6)(C:Addr):Prop where
 k:ExcK K C
 hd:W.hasDictIn K C=true
 sa:W.findIn K (.ref C) "__setattr__"=some (some (.builtin "object.__setattr__"))
 st:W.findIn K (.ref C) "step"=some none
def Hc(od:Obj):HO:=.frz od (.own 0)
section
variable {X:Cx}{pz:List (Addr×Obj)}{σ:L2.St}{H:Hp}{s:Shared}{A:Around}{E:Value->Shared->Prop}{a C t:Addr}
theorem zjl(I:Inv X pz σ H s)(ea:H a=some (.ext (E9 a C t none)))(k:StepK X.K C)(ry:Ab y u)
  (h:∀d od s',H d=none->d≠a->W.lookIn "step" od=some (some u)->Inv X pz σ (upd (upd H d (Hc od)) a (.ext (E9 a C t (some d)))) s'->Q () s'):wpAny (model X.prog X.w) A (setAttr (.ref a) "step" u) Q E s:=by
 have he :=(I.hok a _ ea).1;obtain⟨bm,N,nm,qn,bs,hd,sn,sub,ab,col,dd,k0,k1,k2,k3,k5,mN,hC,hN,⟨cd,hcd,hcn,hmro,hcd2⟩,TL⟩:=He I.kIn k.k.q
 have hdd :=by
  have:=k.hd;unfold W.hasDictIn at this;rw[hcd]at this;exact this
 refine zlp I.kIn he hcd hmro TL hdd k.sa k.st λh' od e1 e2 hl kp=>?_
 have fd :=I.hok.fresh (È _);have na :=Ş (Æ he);have oth:∀{b } {o },H b=some o->b≠a->upd (upd H s.heap.objs.size (Hc od)) a (.ext (E9 a C t (some s.heap.objs.size))) b=some o:=fun  q n=>(Ag n).trans ((Ag (Bt q fd)).trans q)
 refine h _ od _ fd na hl (I.un ⟨λb o q n hb hx=>kp b o (λz=>by rw[z,ea]at n;cases n) q,λb o q n hb hx=>⟨o.slots,kp b o (λz=>by rw[z,ea]at n;cases n) q⟩,λb o q n hx=>?_,λb o q hx=>?_,λb xs q=>oth q (λz=>by rw[z,ea]at q;cases q),λb o u q=>oth q (λz=>by rw[z,ea]at q;cases q),λb ps q=>⟨#[],?_⟩⟩ λb o q=>?_)
 .rw[Ag (λz=>by rw[z,ea]at n;cases n),Ag (Ö (Æ q))]
  exact n
 .by_cases hb:b=a
  .rw[hb];exact⟨_,e1⟩
  .exact⟨o,kp b o hb q⟩
 .rw[Array.append_empty];exact oth q λz=>by rw[z,ea]at q;cases q
 .by_cases hb:b=a
  .subst hb;have q':=Bj.symm.trans q;cases q';exact Zp e1
  .by_cases hb2:b=s.heap.objs.size
   .rw[Ag hb,hb2,Bj]at q;cases q;rw[hb2];exact⟨e2,od,e2⟩
   .rw[Ag hb,Ag hb2]at q;refine(I.hok b o q).stay (λc v hc z=>kp c v (λy=>?_) z) (λc z=>oth z λy=>by rw[y,ea]at z;cases z) λc xs z=>oth z λy=>by rw[y,ea]at z;cases z
    rcases hc with hc|hc
    .exact hb (hc.symm.trans y)
    .rw[y,ea]at hc;cases hc
end
def sStp(K:k6)(ta tv:TE):TS:=λD σ H=>tv σ H λy H1=>ta σ H1 λx H2=>∃a C t,x=.ref a/\H2 a=some (.ext (E9 a C t none))/\StepK K C /\
 ∀d od u,H2 d=none->d≠a->Ab y u->W.lookIn "step" od=some (some u)->D.nx σ (upd (upd H2 d (Hc od)) a (.ext (E9 a C t (some d))))
theorem znl(ha:PE X o ta)(hv:PE X value tv)(hs:swapsWith value (some (.Attribute o "step" pos')) pos.line X.env=pure false):PS X (.Assign [.Attribute o "step" pos'] value pos) (sStp X.K ta tv):=by
 intro pz s σ H D I h;refine Κ (AX (hv pz s σ H _ I h) λu s1 zz=>?_) hs;obtain⟨y,H1,I1,ry,q⟩:=zz;refine AX (ha pz s1 σ H1 _ I1 q) λov s2 zz=>?_
 obtain⟨x,H2,I2,rx,a,C,t,ex,ea,k,q2⟩:=zz;subst ex;obtain rfl:ov=Value.ref a:=rx;exact zjl I2 ea k ry λd od s3 fd na hl I3=>⟨σ,_,I3,q2 d od u fd na ry hl⟩
def Tj(K:k6):Sp:=λvs H Q _=>∃a C t y,vs=[.ref a,y]/\H a=some (.ext (E9 a C t none))/\StepK K C /\
 ∀d od u,H d=none->d≠a->Ab y u->W.lookIn "step" od=some (some u)->Q .non (upd (upd H d (Hc od)) a (.ext (E9 a C t (some d))))
theorem zmn{K}{st}(F:FunD K x qual st f fd)(S:FnScope ["self","step"] ["self","step"] (DJ st))
  (hb:Fz st=[.Assign [.Attribute (.Name "self" p1) "step" p2] (.Name "step" p3) p4]) (h1:(DJ st).names.lookup ("self":Str)=some NameKind.local) (h2:(DJ st).names.lookup ("step":Str)=some NameKind.local):FnOk P w K mg base (Cc P w) (k+1) f fd ["self","step"] (Tj K):=by
 refine Oa F S (λvs H Q E h=>?_) λcdv A outer s H vs Q E hr h=>?_
 .obtain⟨a,C,t,y,rfl,_⟩:=h
  rfl
 .obtain⟨a,C,t,y,rfl,ea,kk,q⟩:=h;rw[hb];exact⟨_,Vj (znl (GW (i:=0) rfl (.inl h1)) (GW (i:=1) rfl (.inl h2)) rfl),y,rfl,.ref a,rfl,a,C,t,rfl,ea,kk,q⟩
structure StpX(P:Program)(w:World)(K:k6)(mg:Str->Option Value)(base:Heap)(x:Str)(C:Addr)(k:Nat) where
 f:Addr
 fd:FuncData
 m:mg x=some (.ref C)
 sk:StepK K C
 ini:DS K C=some (some (.ref f))
 fn:W.isFn K (.ref f)=true
 kp:W.keepIn K (.ref C)=true
 ok:FnOk P w K mg base (Cc P w) k f fd ["self","step"] (Tj K)
 b:Cr K fd ["self","step"] []
section
variable {X:Cx}{E:L2.St->XK}{C:Addr}{x:Str}{p pos:Pos}{e:Expr}{t:TA}{k j:Nat}
def zmi(X:Cx)(C:Addr)(t:TA):TE:=λσ H Q=>t σ H λvs H1=>∃y,vs=[y]/\∀a d od tt u,H1 a=none->H1 d=none->d≠a->(X.ex=[]->X.s₀.heap.get? a=none)->Ab y u->W.lookIn "step" od=some (some u)->Q (.ref a) (upd (upd H1 d (Hc od)) a (.ext (E9 a C tt (some d))))
theorem ze3{K}(Y:K.In h)(G:h.Ns N mN)(q:W.nsIn K N n=some (some v)):mN n=some v:=by
 obtain⟨o,es,ep,ho,hd,_,hf⟩:=G;unfold W.nsIn at q;split at q
 .rename_i z;have z:=Y _ _ z;rw[ho]at z;cases z;split at q
  .rw[<- hf];unfold nsFind findBy
   grind
  grind
 .cases q
theorem upd3{x y f}(n:d≠a):upd (upd (upd H a x) d f) a y=upd (upd H d f) a y:=funext λb=>by
 by_cases hb:b=a
 .rw[hb,Bj,Bj]
 .rw[Ag hb,Ag hb]
  by_cases hd:b=d
  .rw[hd,Bj,Bj]
  .rw[Ag hd,Ag hd,Ag hb]
theorem zi3{K}(Y:K.In h)(G:h.Ns N mN)(hc:W.clsIn K C=some cd)(hn:cd.ns=N)(q:DS K C=some (some (.ref f))):mN "__init__"=some (.ref f):=by
 unfold DS at q;rw[hc]at q;subst hn;exact ze3 Y G q
theorem zhg(D:StpX X.prog X.w X.K X.mg X.base x C k)(hr:Room j X.A)(hx:BW X E)(ha:PA X [e] t)(hk:k+1<=j)(hg:Gl X x)(hdb:(x == "__debug__")=false)
  (he:starEach [e] X.env=(false,eval e X.env)::starEach [] X.env):PE X (.Call (.Name x p) [e] [] pos) (zmi X C t):=by
 intro pz s σ H Q I h;refine ğ (G5 I hg D.m ?_ hdb);refine Ĺ I.ok.mod.kin D.kp (AX (ha pos pz s σ H _ I h) λus s1 zz=>?_) he rfl;obtain⟨vs,H1,I1,r,y,hy,q⟩:=zz;refine⟨I1.kIn,?_⟩
 subst hy
 obtain⟨u,rfl⟩:∃u,us=[u]:=by
  cases r with
  |cons r1 r2=>cases r2;exact⟨_,rfl⟩
 have ry :=by cases r with|cons r1 r2=>exact r1
 obtain⟨bm,N,nm,qn,bs,hd,sn,sub,ab,col,dd,k0,k1,k2,k3,k5,mN,hC,hN,⟨cd,hcd,hcn,_⟩,TL⟩:=He I1.kIn D.sk.k.q;obtain⟨oI,hoI,hfc⟩:∃oI,X.K.lookup D.f=some oI/\oI.cls=.type "function":=à.mp (beq_iff_eq.mp D.fn);obtain⟨hp,g,dr,tk,os⟩:=s1;refine ziu ġ TL hC hN (zi3 I1.kIn hN hcd hcn D.ini) (I1.kIn _ _ hoI) hfc (λh' a hm=>?_) (by rw[č];exact(by decide:1<=16777216))
 obtain⟨tt,ht,_,_⟩:=hm.there;have ha0 :=none_of I1.hok hm.new
 have hs0:X.ex=[]->X.s₀.heap.get? a=none:=λhex=>by
  cases z:X.s₀.heap.get? a with
  |none=>rfl|some o=>
   obtain⟨o',z'⟩:=I1.base.there a o z (by rw[hex];exact ï)
   have n:=hm.new;rw[z']at n;cases n
 have I2 :=I1.un (t':=tk) ⟨λb o q _ _ _=>hm.keeps b o q,λb o q _ _ _=>⟨o.slots,hm.keeps b o q⟩,λb o q n _=>(Ag (λz=>by rw[z,hm.new]at q;cases q)).trans n,λb o q _=>⟨o,hm.keeps b o q⟩,λb xs q=>(Ag (Bt q ha0)).trans q,λb o u q=>(Ag (Bt q ha0)).trans q,λb ps q=>⟨#[],by rw[Array.append_empty];exact(Ag (Bt q ha0)).trans q⟩⟩
  (b6 (I1.hok.kept hm.keeps) ha0 (Zp ht))
 refine Ď (ą (D.ok.run _ X.stack _ _ ⟨[.ref a,u],[]⟩ [.ref a,u] [.ref a,y] (λv H2=>v=.non/\Q (.ref a) H2) (E σ) ((hr.mono hk).make C [u] []) (I2.env0.make C [u] []) (D.b _ [.ref a,u] I2.kIn rfl) (.cons rfl (.cons ry .nil)) ⟨a,C,tt,y,rfl,Bj,D.sk,λd od u' fd na ry' hl=>⟨rfl,?_⟩⟩) λr s' hq'=>?_)
 .rw[upd3 na];exact q a d od tt u' ha0 ((Ag na).symm.trans fd) na hs0 ry' hl
 .cases r with
  |error v=>exact hx pz σ _ _ v s' I2 hq'|ok fl=>
   cases fl with
   |ret u=>obtain⟨v,H',I3,rv,ev,q3⟩:=I2.after hq';subst ev;exact⟨rv,V.ref a,H',I3,rfl,q3⟩
   |next=>exact False.elim hq'|brk=>exact False.elim hq'|cont=>exact False.elim hq'
end
def F8(H:Hp)(a:Addr):Hp:=λb=>if b=a then none else H b
theorem M5{H:Hp}{a b:Addr}(h:b≠a):F8 H a b=H b:=by unfold F8;rw[if_neg h]
theorem aL{H:Hp}{a:Addr}:F8 H a a=none:=by unfold F8;rw[if_pos rfl]
def K1(X:Cx)(E:L2.St->XK):Prop:=∀(pz:List (Addr×Obj)) (σ:L2.St) (H:Hp) (s:Shared) (a C t:Addr) (dx:Option Addr),Inv X pz σ H s->H a=some (.ext (E9 a C t dx))->(X.ex=[]->X.s₀.heap.get? a=none)->E σ (.ref C) dx (F8 H a)->X.xe (.ref a) s
section
variable {X:Cx}{pz:List (Addr×Obj)}{σ:L2.St}{H:Hp}{s:Shared}{a C t:Addr}{dx:Option Addr}
theorem zhv(hst:X.stack=X.env::X.outer)(hf:X.env.frame=some X.env.locals)(hex:X.ex=[])(I:Inv X pz σ H s)(ea:H a=some (.ext (E9 a C t dx)))(hs0:X.s₀.heap.get? a=none)(he:E (.ref C) dx (F8 H a)) :
  wpAny (model X.prog X.w) X.A (leaving X.env (.ref a)) (λ_ s2=>Cc X.prog X.w X.outer X.H₀ X.s₀ E (.ref a) s2) Ex s:=by
 have ho :=(I.hok a _ ea).1;have nex:∀b ,b∉X.ex:=λb z=>by rw[hex]at z;cases z
 have hfr :=hst▸I.ok.frames;have nfa:a∉BO X.stack:=λz=>by rw[I.stkFree a z]at ea;cases ea
 have hidA:∀{b } {o },s.heap.get? b=some o->b≠a->(W.hideAll s.heap [a]).get? b=some o:=λq n=>Đ _ q λz=>n (Í.mp z)
 have FF:(W.hideAll s.heap [a]).FunFrames (W.hideAll s.heap (a::BO X.stack)) (X.env::X.outer):=by
  rw[<- hst];refine(W.funFrames_hide I.stack λv hv b hb=>Å _ (Ħ.mpr ⟨v,hv,hb⟩)).of_keeps λb o q n=>⟨o,hidA q λz=>?_,rfl⟩
  rw[z,ho]at q;cases q;exact n _ rfl
 have hB:∀{b } {o },s.heap.get? b=some o->b≠a->b∉BO X.stack->(W.hideAll s.heap (a::BO X.stack)).get? b=some o:=λq n1 n2=>Đ _ q λz=>(Ï.mp z).elim n1 n2
 have hBa:∀{b } {o },(W.hideAll s.heap (a::BO X.stack)).get? b=some o->b≠a:=fun  q z=>by
  rw[z,Ķ (a::BO X.stack) (Ã ..)]at q;cases q
 refine Xw hfr hf (λb o q=>hidA (ě _ q) (hBa q)) FF ⟨λb o q=>ě _ q,Ķ [a] (Í.mpr rfl),_,t,ho,rfl,rfl⟩ λh2 fl sm=>?_
 have n0:∀{b } {o },X.s₀.heap.get? b=some o->b≠a:=fun  q z=>by rw[z,hs0]at q;cases q
 have kB :=λb o e n hb=>hB (I.base.keep b o e n hb (nex b)) (n0 e) (IP I e hb)
 have tB:∀b o,X.s₀.heap.get? b=some o->b∉BO X.outer->∃o',(W.hideAll s.heap (a::BO X.stack)).get? b=some o':=λb o e hb=>by
  obtain⟨o',e'⟩:=I.base.there b o e (nex b);exact⟨o',hB e' (n0 e) (IP I e hb)⟩
 have sl:∀b o,X.s₀.heap.get? b=some o->X.H₀ b=none->b∈BO X.outer->∃z,h2.get? b=some { o with slots:=z }:=λb o e n hb=>by
  obtain⟨z,e1⟩:=I.base.slot b o e n hb (nex b);obtain⟨_,o2,ho2,hd⟩:=I.funs.mem hb;rw[e1]at ho2;cases ho2;obtain⟨z3,e3⟩:=sm b { o with slots:=z } e1 hd
  exact⟨z3,e3⟩
 have dl:∀{b } {u },H b=some u->(∀φ,u≠.ext φ)->F8 H a b=some u:=fun  q n=>(M5 λz=>by rw[z,ea]at q;cases q;exact n _ rfl).trans q
 refine⟨a,(.ref C,dx),F8 H a,_,rfl,I.os,I.bare,⟨λb o e n hb _=>fl.1 b o (kB b o e n hb),λb o e n hb _=>sl b o e n hb,λb o e n _=>(M5 (n0 e)).trans (I.base.free b o e n (nex b)),λb o e _=>?_,λb xs e=>dl (I.base.tups b xs e) (λ_ z=>by cases z),λb o u e=>dl (I.base.frzs b o u e) (λ_ z=>by cases z),λb ps e=>?_⟩,λb u e=>?_,kB,tB,Qj fl,he⟩
 .by_cases hb:b∈BO X.outer
  .obtain⟨z,q⟩:=sl b o e (I.ok.frf b hb) hb;exact⟨_,q⟩
  .obtain⟨o',q⟩:=tB b o e hb;exact⟨o',fl.1 b o' q⟩
 .obtain⟨more,q⟩:=I.base.tbls b ps e;exact⟨more,dl q (λ_ z=>by cases z)⟩
 .have nb:b≠a:=λz=>by rw[z,aL]at e;cases e
  have e':=(M5 nb).symm.trans e;refine(I.hok b u e').stay (λc v hc q=>hB q (λz=>?_) λz=>?_) (λc q=>dl q (λ_ z=>by cases z)) λc xs q=>dl q (λ_ z=>by cases z)
  .rcases hc with y|y
   .exact nb (y.symm.trans z)
   .rw[z,ea]at y;cases y
  .have f:=I.stkFree c z
   rcases hc with y|y
   .rw[y,e']at f;cases f
   .rw[y]at f;cases f
end
theorem zom{K}:K1 (Em (Cc P w) P w K mg base N qual sc f cd A outer s H E) (λ_=>E):=
 λ_ _ _ _ _ _ _ _ I ea h0 he=>zhv rfl rfl rfl I ea (h0 rfl) he
section
variable {X:Cx}{E:L2.St->XK}{e:Expr}{pos:Pos}{te:TE}
def tRseN(K:k6)(X:Cx)(E:L2.St->XK)(te:TE):TS:=λ_ σ H=>te σ H λx H1=>∃a C t dx,x=.ref a/\H1 a=some (.ext (E9 a C t dx))/\ExcK K C/\(X.ex=[]->X.s₀.heap.get? a=none)/\E σ (.ref C) dx (F8 H1 a)
theorem zk3(hc:X.calm=true)(hx:K1 X E)(he:PE X e te):PS X (.Raise (some e) none pos) (tRseN X.K X E te):=by
 intro pz s σ H D I h;refine Á (ĕ (zew (I.ok.hd hc) (Á (è (he pz s σ H _ I h) (λv s₃ h₃=>Á (ĕ (Ç ?_))) λ_ _ x=>x))))
 obtain⟨x,H1,I1,rx,a,C,t,dx,ex,ea,k,h0,q⟩:=h₃;subst ex;obtain rfl:v=Value.ref a:=rx;obtain⟨bm,N,nm,qn,bs,hd,sn,sub,ab,col,dd,k0,k1,k2,k3,k5,mN,hC,hN,_,TL⟩:=He I1.kIn k.q;exact⟨a,rfl,⟨C,dx,t,_,nm,qn,N,bs,bm,hd,sn,sub,ab,col,dd,k0,k1,k2,k3,k5,_,TL.hasType ġ.hasBase,hC,(I1.hok a _ ea).1⟩,hx pz σ H1 s₃ a C t dx I1 ea h0 q⟩
end
end Zx
namespace Pu
open PySem PySem.Spec PyProof.Rows L2 Zw Zx
def HM(ms:BQ):AH:=λτ=>match ms τ with
 |some (.v [.int i] _)=>if 0<=i then some (.xc (Et i.toNat) τ) else none
 |some (.x c)=>some (.xc c τ)|_=>none
theorem zlt(n:d≠a)(h:H a=none):F8 (upd (upd H d f) a x) a=upd H d f:=funext λb=>by
 by_cases hb:b=a
 .rw[hb,aL,Ag (Ð n),h]
 .rw[M5 hb,Ag hb]
section
variable {X:Cx}{E:L2.St->XK}{ca:Str->Value}{mu:Bool}
theorem s_rsN(D:StpX X.prog X.w X.K X.mg X.base "NoRun" C k)(hca:ca "NoRun"=.ref C)(hr:Room j X.A)(hc:X.calm=true)(hx:BW X E)(hmd:K1 X E)(ha:PA X [e] (Bx X.K E ca ms))(hk:k+1<=j)(hg:Gl X "NoRun")
  (he:starEach [e] X.env=(false,eval e X.env)::starEach [] X.env):PS X (.Raise (some (.Call (.Name "NoRun" p) [e] [] cpos)) none pos) (tS X.K E ca mu (HM ms)):=by
 refine PS.weak (zk3 hc hmd (zhg D hr hx ha hk hg (by decide) he)) λD' σ H h=>?_
 obtain⟨F,τ,R,S,q⟩:=h;refine⟨F,τ,R,S,?_⟩;unfold HM at q;cases hm:ms τ with
 |none=>erw[hm]at q<;>exact q.elim|some r=>
  erw[hm]at q;cases r with
  |x c=>exact λF' H' e=>q F' H' σ R e.stp0 (S.ext e)|v ts b=>
   intro F' H' xs e1 rs;split at q
   .rename_i i bb z;cases z;split at q
    .rename_i hi;obtain⟨y,ys,e2,r1,r2⟩:=rs.inv;subst e2;have hy:=r1.int_inv;have hys:=r2.inv0;subst hy hys;refine⟨.int i,rfl,λa d od tt u fa fd na h0 ry hl=>⟨a,C,tt,some d,rfl,Bj,D.sk.k,h0,?_⟩⟩
     rw[zlt na fa];have e3:Ext F' H' (upd F' d (Hc od)) (upd H' d (Hc od)) R0:=Ext.new (S.ext e1).fh fd;have z:=q _ _ σ R (e1.trans0 e3).stp0 ((S.ext e1).ext e3) (some d) (λv hv=>?_)
     .have pb:FT (Et i.toNat)="NoRun":=rfl;rw[pb,hca]at z;exact z
     .obtain rfl:v=.int i.toNat:=Í.mp hv;refine⟨d,od,u,rfl,Bj,?_,hl⟩;rw[Int.toNat_of_nonneg hi];exact ry
    .exact q.elim
   .rename_i z;cases z
   .exact q.elim
noncomputable def J2(cs:List Addr)(m:AI):AI:=λτ=>match m τ with
 |some (.v (.obj (.exn C) [.int n]) false)=>if cs.contains C then some (.v (.int n) false) else none
 |some (.x c)=>some (.x c)|_=>none
theorem r_stp(hk:∀C∈cs,StepK X.K C)(ho:PE X o (tM X.K E ca m))(hb:attributeBase o "step" X.env (eval o X.env)=eval o X.env):PE X (.Attribute o "step" pos) (tM X.K E ca (J2 cs m)):=by
 intro pz s σ H Q I h;obtain⟨F,τ,R,S,q⟩:=h;unfold J2 at q;refine bV hb (AX (ho pz s σ H (λx H1=>∃a C n dx,x=.ref a/\Hv H1 a C dx/\StepK X.K C/\Ij H1 dx (.int n)/\Q (.int n) H1) I ⟨F,τ,R,S,?_⟩) λu s1 ⟨x,H1,I1,rx,a,C,n,dx,ex,hX,kk,hS,q1⟩=>?_)
 .cases hm:m τ with
  |none=>erw[hm]at q<;>exact q.elim|some r=>
   erw[hm]at q;cases r with
   |x c=>exact q|v t b=>
    split at q
    .rename_i C n z;cases z;split at q
     .rename_i hc;intro F1 H1 x B e1 g1;obtain⟨a,xs,rfl,rfl,⟨dx,h1,h2⟩,hl,hcc⟩:=Rp.obj_inv (g1);cases xs with
      |nil=>cases hl|cons y ys=>have hy:=(hcc 0 _ y rfl rfl).int_inv;subst hy;exact⟨a,C,n,dx,rfl,h1.of λu=>e1.fh a u,hk C (ù.mp hc),(h2 _ (Ã ..)).of λb u=>e1.fh b u,q F1 H1 _ R0 e1 (.int n)⟩
     .exact q.elim
    .rename_i z;cases z
    .exact q.elim
 .subst ex;obtain rfl:u=Value.ref a:=rx;obtain⟨ob,e1,e2,vs,e3,_⟩:=hX;obtain⟨d,od,uu,rfl,e4,ru,hl⟩:=hS;obtain⟨tok,rfl⟩:=(ru);obtain⟨bm,N,nm,qn,bs,hd,sn,sub,ab,col,dd,k0,k1,k2,k3,k5,mN,hC,hN,⟨cd,hcd,_⟩,TL⟩:=He I1.kIn kk.k.q
  have hdd :=by
   have:=kk.hd;unfold W.hasDictIn at this;rw[hcd]at this;exact this
  obtain⟨oc,odi,oda,osl⟩:=ob;cases e2;have g1:=(I1.hok a _ e1).1;have g2:=(I1.hok d _ e4).1;refine zlq I1.kIn kk.k ⟨g1,rfl,?_,g2⟩ hcd hdd kk.st hl rfl ⟨.int n,H1,I1.tok _,⟨tok,rfl⟩,q1⟩;cases e3
  rfl
end
def El(t u:T):kH:=match t,u with
 |.nd _ .lst (_::_),.nd _ .lst []=>some (.bl false)|_,_=>Be t u
theorem zkq(hu:X.A.units+64<cLine):As X (compareOp .Eq) (By X.K El):=by
 intro pz s σ H x y v u Q I rx ry h;obtain⟨F,t1,t2,r,fh,r1,r2,e,q⟩:=h;unfold El at e;split at e
 .cases e;obtain⟨p,xs,rfl,rfl,n1,k1⟩:=EN r1;obtain⟨p',ys,rfl,rfl,n2,k2⟩:=EN r2;cases rx;cases ry;obtain⟨its,rv,pl,_⟩:=I.list (Am.of (fh _ _ n1));obtain⟨its',rv',pl',_⟩:=I.list (Am.of (fh _ _ n2));refine SeqAt.RcAt.lists_lengths pl.isList pl'.isList ?_ (by omega) _ _ _ _ ⟨.bl false,H,I,rfl,q.bl fh⟩
  have l1:=k1.1;have l2:=k2.1;have l3:=rv.length;have l4:=rv'.length
  grind
 .exact WD hu pz s σ H x y v u Q I rx ry ⟨F,t1,t2,_,fh,r1,r2,e,q⟩
end Pu
noncomputable section
namespace Pu
open PySem PySem.Spec PyProof.Rows L2 Zw Zx
structure Fn where
 lv:Nat
 ps:kE
 g:kL->Option Ru
structure Gx where
 co:List (Str×T)
 cl:List (Str×Addr×kE)
 mt:List (Str×Addr×kE×Fn)
 nw:List (Str×Fn×List (Nat×kL))
 nr:Bool
 tx:Bool
 df:Bool
 sf:Option (Addr×kE)
 xs:List (Str×List (Str×Addr))
 sb:List (Str×List (Addr×Bool))
 sv:List (Str×List (Addr×Bool))
 no:Bool
 fo:kE
 ci:List (Str×List (Addr×Bool))
 x2:List (Str×Str×List (Str×Addr))
 gt:kE
 wd:List (Str×Fn)
 pn:kE
 ti:List Addr
 dn:List (Str×Fn×kL)
 rn:Option (Addr×Nat)
noncomputable abbrev Bn:Gx:=⟨[],[],[],[],false,true,true,none,[],[],[],true,[],[],[],[],[],[],[],[],none⟩
structure Gm where
 N:kE
 nm:List (Str×NameKind)
 ce:kE
 lv:Nat
 fns:List (Str×Fn)
 bl:kE
 ex:kE
 ow:kE
 pk:kE
 mu:Bool
 mus:List (Str×Fn)
 mv:kE
 dc:kE
 ox:Gx
noncomputable def Cm(x:Str):Bool:=!(x == ("__debug__":Str)) && !(x == ("__classdict__":Str)) && !(x == ("__name__":Str))
def Nq(nm:List (Str×NameKind))(x:Str):Bool:=nm.lookup x == some .local || nm.lookup x == some .cell || nm.lookup x == some .free
def C4(nm:List (Str×NameKind))(x:Str):Bool:=nm.lookup x == some .globalImplicit
noncomputable def Dx(N:kE)(x:Str):Option Nat:=N.findIdx? (· == x)
def Gm.var(Γ:Gm)(x:Str):Option Nat:=if Cm x && Nq Γ.nm x then Dx Γ.N x else none
def Gm.loc(Γ:Gm)(x:Str):Bool:=Cm x && (Γ.nm.lookup x == some .local || Γ.ce.contains x)
def EM:Expr->Bool
 |.Starred ..=>false|_=>true
def FU:Expr->Bool
 |.IfExp ..=>false|.NamedExpr ..=>false|_=>true
noncomputable def nmOf:Expr->Option (Str×Pos)
 |.Name x p=>some (x,p)|_=>none
def Nw:kC->kE
 |[]=>[]|e::es=>(match nmOf e with
  |some (x,_)=>x::Nw es|none=>Nw es)
def Dh:Expr->kE
 |.Name x _=>[x]|.Tuple es _ _=>Nw es|_=>[]
def zp9:Expr->Bool
 |.Tuple ..=>true|_=>false
def Ja:Expr->Bool
 |.Slice ..=>true|_=>false
def Dk(nm:List (Str×NameKind)):kE:=nm.filterMap λ(y,k)=>if k == .free then some y else none
def RF(nm:List (Str×NameKind)):kE:=nm.filterMap λ(y,k)=>if k == .cell then some y else none
noncomputable def JU(inner outer:List (Str×NameKind)):List (Str×NameKind):=inner.map λ(n,k)=>if (k == .free && outer.lookup n == some .cell) then (n,.cell) else (n,k)
def Js(N:kE):kE->Option (kG)
 |[]=>some []|y::r=>(match Dx N y with
  |some i=>(match Js N r with
   |some l=>some (i::l)|none=>none)
  |none=>none)
def Ju(Γ:Gm)(scope:Scope)(N':kE):Bool:=
 (scope.kind == .function) && scope.names.all (λx=>!(x.2 == .local) || scope.names.lookup x.1 == some .local) &&
 scope.names.all (λx=>!(x.2 == .free) || (scope.names.lookup x.1 == some .free && (Γ.nm.lookup x.1 == some .cell || Γ.nm.lookup x.1 == some .free) && !(scope.names.contains (x.1,NameKind.cell)))) &&
 decide N'.Nodup && (RF scope.names).all (λy=>(JU scope.names Γ.nm).lookup y == some .cell)
def Gm.blk(Γ:Gm)(scope:Scope)(N':kE):Gm:={ Γ with N:=N',nm:=JU scope.names Γ.nm,ce:=(RF scope.names).filter λy=>scope.names.lookup y == some .cell,ow:=[],ox:={ Γ.ox with df:=false,nr:=true } }
def Oe:Expr->Bool
 |.Set ..=>false|_=>true
def G8:Expr->Bool
 |.ListComp ..=>true|.SetComp ..=>true|.DictComp ..=>true|_=>false
noncomputable def Y7:Expr->Bool
 |.Attribute ..=>true|_=>false
def gtN(Γ:Gm):Expr->Bool
 |.Name x _=>Γ.ox.gt.contains x|_=>false
def GU:Expr->Bool
 |.Call _ es _ _=>!es.isEmpty|_=>true
theorem Jv(h:GU o=true):attributeBase o f env (eval o env)=eval o env:=by
 cases o with
 |Call g es ks c=>
  cases es with
  |nil=>cases h|cons e es=>cases g<;>rfl
 |_=>rfl
theorem zf6(h:GU o=true)(hf:((backTo pos (starEach es env)).all λx=>!x.1)=true)(hn:es.length<30)(hl:(ap.endLine == pos.line)=true):∃pl ,eval (.Call (.Attribute o f ap) es [] pos) env=(do
   let ov <- eval o env
   standAt ap.atName
   let (f,first) <- holding [ov] (getMethod ov f pl)
   callWith pos f first (backTo pos (starEach es env)) (backToKw pos (keywordEach [] env))):=by
 refine⟨do let b <- importBound o env;pure (b.getD true),?_⟩
 have e:methodCallForm (es.length+([]:List Keyword).length) (backTo pos (starEach es env)) (backToKw pos (keywordEach [] env))=true:=by
  unfold methodCallForm;rw[hf];show(true && true && decide (es.length+0+0<30))=true
  grind
 rw[arm_eval_Call,Jv h];unfold methodCall calleeOf methodCallPos;grind
structure GxOk(G:Gx)(lv:Nat)(P:Program)(w:World)(K:k6)(mg:Str->Option Value)(base:Heap)(ca:Str->Value):Prop where
 co:∀x t,G.co.lookup x=some t->∃u v,mg x=some u/\Ab v u/\∀F:Hp,Rp K F F t v R0
 cl:∀c∈G.cl,Cls K c.2.1/\∀f∈c.2.2,Cb K c.2.1 f
 mt:∀c∈G.mt,c.2.2.2.lv<=lv/\Nonempty (MetX P w K mg base c.2.1 c.1 c.2.2.2.lv c.2.2.2.ps (Br K ca c.2.2.2.g))
 nw:∀x F ds,G.nw.lookup x=some (F,ds)->F.lv+1<=lv/\∃(C:Addr) (D:NewX P w K mg base x C F.lv F.ps (JP K ca C F.g)),∀k dts,ds.lookup k=some dts->∃dvs us,Cr K D.fd F.ps us/\Al dvs us/\∀H:Hp,Ar K H dts dvs
 sf:∀C fs,G.sf=some (C,fs)->Cls K C/\∀f∈fs,Cb K C f
 xs:∀W cs,G.xs.lookup W=some cs->∃T:ECls K mg W,∀c C,cs.lookup c=some C->ca c=.ref C/\PySem.W.subIn K (.ref C) (.ref T.C)=some true
 sb:∀D tb,G.sb.lookup D=some tb->∃A:Addr,mg D=some (.ref A)/\∀C b,tb.lookup C=some b->ExcK K C/\PySem.W.kitOne K (.ref C) (.ref A)=some b
 sv:∀D tb,G.sv.lookup D=some tb->mg D=none/\∃t,bootBuiltins D=some (.type t)/\∀C b,tb.lookup C=some b->ExcK K C/\PySem.W.kitOne K (.ref C) (.type t)=some b
 ci:∀x tb,G.ci.lookup x=some tb->∃D:Addr,mg x=some (.ref D)/\(∀C b,tb.lookup C=some b->ICls K C/\PySem.W.kitOne K (.ref C) (.ref D)=some b)/\(Kr.all λa=>PySem.W.kitOne K (.type a) (.ref D) == some false)=true
 x2:∀W1 W2 cs,(W1,W2,cs)∈G.x2->∃(T1:ECls K mg W1) (T2:ECls K mg W2),∀c C,cs.lookup c=some C->ca c=.ref C/\PySem.W.subIn K (.ref C) (.ref T1.C)=some false/\PySem.W.subIn K (.ref C) (.ref T2.C)=some true
 wd:∀x F,G.wd.lookup x=some F->F.lv<=lv/\∃p,F.ps=[p]/\Nonempty (DefS P w K mg base F.lv x p (Br K ca F.g))
 ti:∀C∈G.ti,TiOk K C
 dn:∀x y,G.dn.lookup x=some y->y.1.lv<=lv/\∃(D:DefX P w K mg base y.1.lv x y.1.ps (Br K ca y.1.g)) (dvs:kK),DefsX K D.fd y.1.ps dvs/\∀H:Hp,Ar K H y.2 dvs
 rn:∀y,G.rn=some y->y.2+1<=lv/\Nonempty (StpX P w K mg base "NoRun" y.1 y.2)/\ca "NoRun"=.ref y.1
structure CxOk(Γ:Gm)(X:Cx)(E:L2.St->XK)(ca:Str->Value):Prop where
 N:X.N=Γ.N
 nd:Γ.N.Nodup
 nm:X.env.scope.names=Γ.nm
 kd:X.env.scope.kind=.function
 calm:X.calm=true
 room:Room Γ.lv X.A
 ce:∀x∈Γ.ce,X.fn x=true/\Γ.nm.lookup x=some .cell
 bl:∀b∈Γ.bl,X.mg b=none
 ps:BW X E
 po:Γ.ox.nr=false->PassesOwn (model X.prog X.w) X.A X.env X.xe
 md:Γ.ox.nr=false->SJ X E
 mn:Γ.ox.nr=false->K1 X E
 fs:∀f F,Γ.fns.lookup f=some F->F.lv<=Γ.lv/\Nonempty (DefX X.prog X.w X.K X.mg X.base F.lv f F.ps (Br X.K ca F.g))
 ex:∀c∈Γ.ex,∃T:ECls X.K X.mg c,ca c=.ref T.C/\DS X.K T.C=some none
 ms:∀f F,Γ.mus.lookup f=some F->F.lv<=Γ.lv/\Nonempty (DefX X.prog X.w X.K X.mg X.base F.lv f F.ps (Fi X.K ca F.g))
 gx:GxOk Γ.ox Γ.lv X.prog X.w X.K X.mg X.base ca
 tr:Γ.ox.df=true->X.stack=X.env::X.outer/\X.env.frame=some X.env.locals
 fr:Hw X
theorem Fw(h:Dx N x=some i):N[i]?=some x:=by
 obtain⟨h1,h2,_⟩:=Ġ.mp h
 grind
theorem DQ(h:Cm x=true):(x == "__debug__")=false/\(x == "__classdict__")=false/\x≠"__name__":=by
 unfold Cm at h
 grind
theorem Sj(h:Nq sc.names x=true):EA sc x:=by
 unfold Nq at h;erw[ĝ,Ĭ]at h
 rcases h with (h|h)|h
 .exact .inl h
 .exact .inr (.inl h)
 .exact .inr (.inr h)
theorem Cd(h:EM e=true):starEach (e::es) env=(false,eval e env)::starEach es env:=by
 cases e<;>first|rfl|cases h
theorem Fg:∀{es} {env} {pos},(∀e∈es,EM e=true)->(backTo pos (starEach es env)).any (·.1)=false
 |[],env,pos,_=>rfl|e::es,env,pos,h=>by
  rw[Cd (h e (Ã ..))];have ih:=Fg (env:=env) (pos:=pos) λx hx=>h x (Å _ hx)
  show(false || (backTo pos (starEach es env)).any (·.1))=false
  grind
section
variable {Γ:Gm}{X:Cx}{E:L2.St->XK}{ca:Str->Value}
theorem CxOk.var(C:CxOk Γ X E ca){pos:Pos}(h:Γ.var x=some i):X.N[i]?=some x/\EA X.env.scope x/\(x == "__debug__")=false/\(x == "__classdict__")=false:=by
 unfold Gm.var at h;split at h
 .rename_i hp;rw[Ê]at hp;obtain⟨p1,p2,p3⟩:=DQ hp.1;exact⟨by rw[C.N];exact Fw h,Sj (by rw[C.nm];exact hp.2),p1,p2⟩
 .cases h
theorem CxOk.gl(C:CxOk Γ X E ca)(h:C4 Γ.nm x=true):Gl X x:=by
 show X.env.scope.names.lookup x=some .globalImplicit;rw[C.nm];exact eq_of_beq h
theorem CxOk.loc(C:CxOk Γ X E ca)(h:Γ.loc x=true)(hi:Dx Γ.N x=some i):X.N[i]?=some x/\Gk X.env.scope x/\(X.fn x=true\/X.env.scope.names.lookup x=some .local):=by
 unfold Gm.loc at h;erw[Ê,ĝ,Ĭ]at h;refine⟨by rw[C.N];exact Fw hi,?_⟩
 rcases h.2 with h|h
 .exact⟨.inl (by rw[C.nm];exact h),.inr (by rw[C.nm];exact h)⟩
 .obtain⟨c1,c2⟩:=C.ce x (ù.mp h);exact⟨.inr (by rw[C.nm];exact c2),.inl c1⟩
theorem CxOk.nodup(C:CxOk Γ X E ca):X.N.Nodup:=by rw[C.N];exact C.nd
theorem YI(C:CxOk Γ X E ca)(h1:Γ.loc x=true)(h2:Dx Γ.N x=some i):PG X (.Name x pos) (EW X.K (AD i)):=by
 obtain⟨g1,g2,g3⟩:=C.loc h1 h2;exact g_nm C.nodup g1 g2 g3
theorem bD:∀{ys} {caps},Js N ys=some caps->ys.length=caps.length/\∀(k j:Nat),caps[k]?=some j->∃y,ys[k]?=some y/\N[j]?=some y
 |[],caps,h=>by cases h;simp|y::r,caps,h=>by
  unfold Js at h;split at h
  .rename_i i hi;split at h
   .rename_i l hl;cases h;obtain⟨h1,h2⟩:=bD hl;refine⟨by simp[h1],λk j e=>?_⟩
    cases k with
    |zero=>simp at e;subst e;exact⟨y,rfl,Fw hi⟩|succ k=>grind
   .cases h
  .cases h
theorem zfs(h:y∈Dk nm):(y,NameKind.free)∈nm:=by
 unfold Dk at h
 grind
theorem bL(C:CxOk Γ X E ca)(h:Ju Γ scope (Dh tg++Dk scope.names)=true)(hc:Js Γ.N (Dk scope.names)=some caps):BlkOk X scope (Dh tg++Dk scope.names) (Dh tg).length caps:=by
 unfold Ju at h;erw[Ê]at h;obtain⟨⟨⟨⟨h1,h2⟩,h3⟩,h4⟩,h5⟩:=h;obtain⟨l1,l2⟩:=bD hc
 have free:∀y∈scope.names,y.2=.free->scope.names.lookup y.1=some .free/\(Γ.nm.lookup y.1=some .cell\/Γ.nm.lookup y.1=some .free)/\(y.1,NameKind.cell)∉scope.names:=λy hy hf=>by
  grind
 refine⟨eq_of_beq h1,λy hy hl=>?_,by simp[l1],λk j e=>?_,λy hy hf=>?_⟩
 .grind
 .obtain⟨y,e1,e2⟩:=l2 k j e;have fm:=zfs (Ú e1);obtain⟨f1,_,f3⟩:=free _ fm rfl;refine⟨y,by rw[C.N];exact e2,?_,f1,f3⟩
  rw[ę (by omega)]
  simpa using e1
 .obtain⟨f1,f2,_⟩:=free y hy hf;refine⟨f1,?_⟩;rw[C.nm];exact f2
theorem zh2(hk:env.scope.kind=.function):(relabel scope env).names=JU scope.names env.scope.names:=by
 unfold relabel JU;have e:(env.scope.kind == ScopeKind.function)=true:=by rw[hk];rfl
 erw[e,Ż]
 rfl
theorem Xn{p:Prop}:true=false->p:=λz=>by cases z
theorem bN(C:CxOk Γ X E ca){scope:Scope}{N':kE}(h:Ju Γ scope N'=true)(cl)(A:Addr)(s₀:Shared)(H₀:Hp)(ex:List Addr)(xb)(hp:BW (BL X scope cl N' A s₀ H₀ ex xb) E'):CxOk (Γ.blk scope N') (BL X scope cl N' A s₀ H₀ ex xb) E' ca:=by
 unfold Ju at h;erw[Ê]at h;obtain⟨⟨⟨⟨h1,h2⟩,h3⟩,h4⟩,h5⟩:=h;refine⟨rfl,Į h4,?_,?_,C.calm,C.room,λx hx=>?_,C.bl,hp,λz=>(by cases z),λz=>(by cases z),Xn,C.fs,C.ex,C.ms,⟨C.gx.co,C.gx.cl,C.gx.mt,C.gx.nw,C.gx.sf,C.gx.xs,C.gx.sb,C.gx.sv,C.gx.ci,C.gx.x2,C.gx.wd,C.gx.ti,C.gx.dn,C.gx.rn⟩,λz=>(by cases z),C.fr⟩
 .show(relabel scope X.env).names=JU scope.names Γ.nm;rw[zh2 C.kd,C.nm]
 .exact eq_of_beq h1
 .have hx':x∈(RF scope.names).filter λy=>scope.names.lookup y == some .cell:=hx
  rw[ý]at hx';refine⟨Ñ (eq_of_beq hx'.2),?_⟩;exact eq_of_beq (Þ.mp h5 x hx'.1)
end
theorem QW(h:Oe e=true)(x):foldedSetIterable e env x=pure x:=by
 cases e<;>first|rfl|cases h
theorem Vo(h:Ja k=false):NP k:=λo i=>by
 cases k<;>first|rfl|cases h
theorem DY{b:Bool}(h:(!b)=true):b=false:=by cases b<;>first|rfl|cases h
noncomputable def gd{α:Type}:(b:Bool)->(b=true->Option α)->Option α
 |true,k=>k rfl|false,_=>none
noncomputable def oe{α β:Type}:(o:Option α)->((a:α)->o=some a->β)->β->β
 |some a,k,_=>k a rfl|none,_,d=>d
abbrev ob{α β:Type}(o:Option α)(k:(a:α)->o=some a->Option β):Option β:=oe o k none
structure ER(Γ:Gm)(e:Expr) where
 m:AI
 ok:∀{X:Cx} {E:L2.St->XK} {ca:Str->Value},CxOk Γ X E ca->PE X e (tM X.K E ca m)/\(FU e=true->PT X e (B5 X.K E ca m))
structure AR(Γ:Gm)(es:kC) where
 m:BQ
 ok:∀{X:Cx} {E:L2.St->XK} {ca:Str->Value},CxOk Γ X E ca->PA X es (Bx X.K E ca m)
 st:∀e∈es,EM e=true
 nl:es=[]->m=AE
structure OR(Γ:Gm)(es:kC) where
 m:BQ
 ok:∀{X:Cx} {E:L2.St->XK} {ca:Str->Value},CxOk Γ X E ca->PA X es (JM X.K E ca m)
structure BR(Γ:Gm)(op:BoolOp)(es:kC) where
 m:AI
 ok:∀{X:Cx} {E:L2.St->XK} {ca:Str->Value} {pos:Pos},CxOk Γ X E ca->PE X (.BoolOp op es pos) (tM X.K E ca m)/\PW X (.BoolOp op es pos) (B5 X.K E ca m)
structure PR(Γ:Gm)(o:Option Expr) where
 m:Option (AI)
 ok:∀{X:Cx} {E:L2.St->XK} {ca:Str->Value},CxOk Γ X E ca->PO X o (Gy X.K m)
structure LR(Γ:Gm)(elt tg iter:Expr)(ifs:kC)(scope:Scope) where
 m:AI
 ok:∀{X:Cx} {E:L2.St->XK} {ca:Str->Value},CxOk Γ X E ca->∃caps mi b mt me,m=BU (Dh tg).length caps mi b mt me/\BlkOk X scope (Dh tg++Dk scope.names) (Dh tg).length caps/\PI X tg iter (tI X.K E ca mi) /\
   (∀ cl A s₀ H₀ ex xb E', BW (BL X scope cl (Dh tg ++ Dk scope.names) A s₀ H₀ ex xb) E' -> PG (BL X scope cl (Dh tg ++ Dk scope.names) A s₀ H₀ ex xb) tg (EW X.K b) /\ Gj (BL X scope cl (Dh tg ++ Dk scope.names) A s₀ H₀ ex xb) ifs (B5 X.K E' ca mt) /\
    PE (BL X scope cl (Dh tg++Dk scope.names) A s₀ H₀ ex xb) elt (tM X.K E' ca me))/\∀x,foldedSetIterable iter X.env x=pure x
structure IR(Γ:Gm)(tg e:Expr) where
 m:BQ
 ok:∀{X:Cx} {E:L2.St->XK} {ca:Str->Value},CxOk Γ X E ca->PI X tg e (tI X.K E ca m)
 ns:Oe e=true
structure GR(Γ:Gm)(tg:Expr) where
 m:T->AK->Option AK
 ok:∀{X:Cx} {E:L2.St->XK} {ca:Str->Value},CxOk Γ X E ca->PG X tg (EW X.K m)
structure GsR(Γ:Gm)(es:kC) where
 m:kL->AK->Option AK
 ok:∀{X:Cx} {E:L2.St->XK} {ca:Str->Value},CxOk Γ X E ca->ED X es (HE X.K m)/\(assignEach es X.env).length=es.length/\(assignEach es X.env).findIdx? (·.1)=none
structure SR(Γ:Gm)(s:Stmt) where
 m:AH
 ok:∀{X:Cx} {E:L2.St->XK} {ca:Str->Value},CxOk Γ X E ca->PS X s (tS X.K E ca Γ.mu m)
structure QR(Γ:Gm)(ss:kD) where
 m:AH
 ok:∀{X:Cx} {E:L2.St->XK} {ca:Str->Value},CxOk Γ X E ca->B3 X ss (tS X.K E ca Γ.mu m)
structure Dc where
 e:(Γ:Gm)->(e:Expr)->Option (ER Γ e)
 a:(Γ:Gm)->(es:kC)->Option (AR Γ es)
 o:(Γ:Gm)->(es:kC)->Option (OR Γ es)
 b:(Γ:Gm)->(op:BoolOp)->(es:kC)->Option (BR Γ op es)
 s:(Γ:Gm)->(s:Stmt)->Option (SR Γ s)
 q:(Γ:Gm)->(ss:kD)->Option (QR Γ ss)
theorem ER.t(r:ER Γ e)(h:FU e=true)(C:CxOk Γ X E ca):PT X e (B5 X.K E ca r.m):=(r.ok C).2 h
def Kt:Expr->Prop
 |.UnaryOp ..=>False|.BoolOp ..=>False|.IfExp ..=>False|.Compare ..=>False|_=>True
theorem Sx(h:Kt e)(whole):isTrue e env whole=(do let v <- whole;standAt e.pos;holding [v] (truthy v)):=by
 cases e<;>first|rfl|exact False.elim h
noncomputable def vl{Γ:Gm}{e:Expr}(m:AI)(h:∀{X:Cx} {E:L2.St->XK} {ca:Str->Value},CxOk Γ X E ca->PE X e (tM X.K E ca m))(t:Kt e:=by trivial):Option (ER Γ e):=some ⟨m,λC=>⟨h C,λ_=>OZ (h C) (Sx t)⟩⟩
structure OG(op:Operator) where
 g:T->T->kH
 ok:∀{X:Cx},As X (binaryOp op) (By X.K g)
def opF:(op:Operator)->Option (OG op)
 |.Add=>some ⟨Bb,zkr⟩|.Sub=>some ⟨IE,zkl⟩|.Mult=>some ⟨Bg,zkn⟩|.Mod=>some ⟨B0,zko⟩|.FloorDiv=>some ⟨C9,zhn⟩|.Pow=>some ⟨GQ,zkm⟩|_=>none
structure CG(op:CmpOp) where
 g:T->T->kH
 ok:∀{Γ:Gm} {X:Cx} {E:L2.St->XK} {ca:Str->Value},CxOk Γ X E ca->As X (compareOp op) (By X.K g)
def a9:(op:CmpOp)->Option (CG op)
 |.Eq=>some ⟨Be,λC=>WD C.room.units⟩|.NotEq=>some ⟨Bz,λC=>zoc C.room.units⟩|.Lt=>some ⟨CI λi j=>decide (i<j),λ_=>L3 op_lt⟩|.LtE=>some ⟨CI λi j=>decide (i<=j),λ_=>L3 WC⟩|.Gt=>some ⟨CI λi j=>decide (j<i),λ_=>L3 op_gt⟩|.GtE=>some ⟨CI λi j=>decide (j<=i),λ_=>L3 op_ge⟩|.Is=>some ⟨Dd false,λ_=>zod⟩|.IsNot=>some ⟨Dd true,λ_=>zf1⟩|.In=>some ⟨CM,λC=>zoe C.room.units⟩|.NotIn=>some ⟨HR,λC=>zf0 C.room.units⟩
def bA:(op:CmpOp)->Option (CG op)
 |.LtE=>some ⟨Dw,λ_=>zkp⟩|op=>a9 op
def eCst(Γ:Gm)(c:Const)(k:Nat)(pos:Pos):Option (ER Γ (.Constant c k pos)):=match c with
 |.int i=>vl (mC (.int i)) λ_=>JV Ω λ_ _=>.int i|.bool b=>vl (mC (.bl b)) λ_=>JV pe_bl λ_ _=>.bl b|.none=>vl (mC .non) λ_=>JV Vt λ_ _=>.non|.str x=>vl (mC (.str x)) λ_=>JV znx λ_ _=>.str x|_=>none
theorem CxOk.v(C:CxOk Γ X E ca)(h:Γ.var x=some i):PE X (.Name x pos) (tM X.K E ca (AA i)):=
 let ⟨h1,h2,h3,h4⟩:=C.var (pos:=pos) h
 OY h1 h2 h3 h4
def eNam(Γ:Gm)(x:Str)(pos:Pos):Option (ER Γ (.Name x pos)):=oe (Γ.var x) (λi hi=>vl (AA i) λC=>C.v hi) (gd (Cm x && C4 Γ.nm x) λhp=>ob (Γ.ox.co.lookup x) λt ht=>vl (mC t) λC=>by
 rw[Ê]at hp;obtain⟨u,v,k1,k2,k3⟩:=C.gx.co x t ht;exact r_con (C.gl hp.2) k1 k2 (DQ hp.1).1 k3)
def aD{Γ:Gm}{e:Expr}(t:Kt e)(a:Option (ER Γ e))(b:Option (ER Γ e)):Option (ER Γ e):=a.bind λa=>match b with
 |some b=>vl (Cn a.m b.m) (λC=>O0 (a.ok C).1 (b.ok C).1) t|none=>some a
def Qw{Γ:Gm}{o:Expr}{f:Str}{pos:Pos}(r:ER Γ o)(hp:GU o=true):(L:List (Str×Addr×kE))->(∀c∈L,c∈Γ.ox.cl)->Option (ER Γ (.Attribute o f pos))
 |[],_=>none|c::L,hL=>oe (c.2.2.findIdx? (· == f)) (λj hj=>aD trivial (vl (Bl c.2.1 c.2.2 j r.m) λC=>by
   obtain⟨h1,h2⟩:=C.gx.cl _ (hL _ (Ã ..))
   have hf:f∈c.2.2:=by
    obtain⟨q1,q2,_⟩:=Ġ.mp hj;rw[<- eq_of_beq q2];exact ê q1
   exact r_fld h1 (h2 f hf) hj (r.ok C).1 (Jv hp)) (Qw r hp L λc h=>hL c (Å _ h))) (Qw r hp L λc h=>hL c (Å _ h))
theorem zl1(r:ER Γ o)(a:AR Γ es)(hpo:GU o=true)(hln:(ap.endLine == pos.line)=true)(hlen:es.length<30)(hm:(f,g)∈Γ.ox.mt)(hnf:g.2.1.contains f=false) (C:CxOk Γ X E ca) :
  PE X (.Call (.Attribute o f ap) es [] pos) (tM X.K E ca (CZ g.1 g.2.1 g.2.2.g r.m a.m)):=by
 obtain⟨hlv,⟨D⟩⟩:=C.gx.mt _ hm;have ho:=(r.ok C).1;have ha:=a.ok C;have hst:=a.st;have hnil:=a.nl;generalize a.m=ms at ha hnil
 clear a
 obtain⟨pl,ht⟩:=zf6 (env:=X.env) hpo (by
  have:=Fg (env:=X.env) (pos:=pos) hst
  grind) hlen hln
 cases es with
 |cons e es=>exact zn9 D hnf C.room C.ps ho ha hlv (Cd (hst e (Ã ..))) (Fg λx hx=>hst x (Å e hx)) ht|nil=>
  refine PE.weak (pmx0 D C.room C.ps ho hlv ht) λσ H Q h=>?_
  obtain⟨F,τ,R,S,q⟩:=TX hnf h;refine⟨F,τ,R,S,?_⟩;cases hm:r.m τ with
  |none=>rw[hm]at q;exact q|some r=>
   rw[hm]at q;cases r with
   |x c=>exact q|v t b=>intro F1 H1 x B e1 g1;obtain⟨a,dx,fs',h1,h2,h3,h4⟩:=q F1 H1 x B e1 g1;refine⟨a,dx,fs',h1,h2,h3,?_⟩;rw[hnil rfl]at h4;exact HA h4
def Qv{Γ:Gm}{o:Expr}{f:Str}{ap pos:Pos}{es:kC}(r:ER Γ o)(a:AR Γ es)(hpo:GU o=true)(hln:(ap.endLine == pos.line)=true)(hlen:es.length<30):(L:List (Str×Addr×kE×Fn))->(∀c∈L,c∈Γ.ox.mt)->Option (ER Γ (.Call (.Attribute o f ap) es [] pos))
 |[],_=>none|c::L,hL=>if h:c.1=f/\c.2.2.1.contains f=false then aD trivial (vl (CZ c.2.1 c.2.2.1 c.2.2.2.g r.m a.m) λC=>zl1 r a hpo hln hlen (g:=c.2) (h.1▸hL c (Ã ..)) h.2 C) (Qv r a hpo hln hlen L λc h=>hL c (Å _ h)) else Qv r a hpo hln hlen L λc h=>hL c (Å _ h)
def eAtt(D:Dc)(Γ:Gm)(o:Expr)(f:Str)(ap:Pos)(es:kC)(ks:List Keyword)(c:Pos):Option (ER Γ (.Call (.Attribute o f ap) es ks c)):=match ks with
 |[]=>gd (GU o && (ap.endLine == c.line) && decide (es.length<30)) λhc=>(D.e Γ o).bind λr=>(D.a Γ es).bind λa=>
  have hc:(GU o=true/\(ap.endLine == c.line)=true)/\es.length<30:=by
   rw[Ê,Ê,ö]at hc;exact hc
  if hf:f="endswith" then (match es,a with
   |[k],a=>(D.e Γ k).bind λmk=>vl (FY r.m mk.m) λC=>by
    subst hf;exact r_enw (r.ok C).1 (mk.ok C).1 (Jv hc.1.1) (Cd (es:=[]) (a.st k (Ã ..))) hc.1.2
   |_,_=>none) else
  if hf:f="index" then (match es,a with
   |[k],a=>(D.e Γ k).bind λmk=>vl (HX r.m mk.m) λC=>by
    subst hf;exact zjs (r.ok C).1 (mk.ok C).1 (Jv hc.1.1) (Cd (es:=[]) (a.st k (Ã ..))) hc.1.2
   |_,_=>none) else
  if hf:f="join" then (match es,a with
   |[k],a=>(D.e Γ k).bind λmk=>vl (HW r.m mk.m) λC=>by
    subst hf;exact zna (r.ok C).1 (mk.ok C).1 (Jv hc.1.1) (Cd (es:=[]) (a.st k (Ã ..))) hc.1.2
   |_,_=>none) else
  Qv r a hc.1.1 hc.1.2 hc.2 Γ.ox.mt λ_ h=>h
 |_=>none
def cmpB(op:CmpOp)(b:Expr):Option (CG op):=
 match op,b with
 |.Eq,.List [] _=>some ⟨El,λC=>zkq C.room.units⟩|op,_=>
 a9 op
def eCmp(D:Dc)(Γ:Gm)(a:Expr)(ops:List CmpOp)(bs:kC)(pos:Pos):Option (ER Γ (.Compare a ops bs pos)):=match ops,bs with
 |[op],[b]=>gd (!(behindInMarks op b)) λhm=>(cmpB op b).bind λg=>(D.e Γ a).bind λra=>(D.e Γ b).bind λrb=>some ⟨Bm (g2 g.g) (AB ra.m (AB rb.m AE)),λC=>
  have hm:=DY hm
  ⟨r_cmp (g.ok C) (ra.ok C).1 (rb.ok C).1 hm,λ_=>zn6 (g.ok C) (ra.ok C).1 (rb.ok C).1 hm⟩⟩
 |[op,op'],[b,c]=>gd (!(lastMarks [op,op'] [b,c])) λhm=>(bA op).bind λg=>(bA op').bind λg'=>(D.e Γ a).bind λra=>(D.e Γ b).bind λrb=>(D.e Γ c).bind λrc=>some ⟨Ei g.g g'.g ra.m rb.m rc.m,λC=>
  have hm:=DY hm
  ⟨r_chn (g.ok C) (g'.ok C) (ra.ok C).1 (rb.ok C).1 (rc.ok C).1 hm,λ_=>zn7 (g.ok C) (g'.ok C) (ra.ok C).1 (rb.ok C).1 (rc.ok C).1 hm⟩⟩
 |_,_=>none
def eUn(D:Dc)(Γ:Gm)(op:UnaryOp)(a:Expr)(pos:Pos):Option (ER Γ (.UnaryOp op a pos)):=match op with
 |.USub=>(D.e Γ a).bind λr=>some ⟨Bm (g1 Ds) (AB r.m AE),λC=>
  have hp:=r_un (pos:=pos) zj5 (r.ok C).1
  ⟨hp,λ_=>OZ hp λ_=>rfl⟩⟩
 |.Not=>gd (FU a) λh=>(D.e Γ a).bind λr=>some ⟨BD r.m,λC=>⟨r_not (r.ok C).1,λ_=>zn5 (r.t h C)⟩⟩|_=>none
def dP(D:Dc)(Γ:Gm):(o:Option Expr)->Option (PR Γ o)
 |none=>some ⟨none,λ_=>r_po0⟩|some e=>(D.e Γ e).bind λr=>some ⟨some r.m,λC=>r_po1 (r.ok C).1⟩
def eIx(D:Dc)(Γ:Gm)(a k:Expr)(pos:Pos):Option (ER Γ (.Subscript a k pos)):=gd (!(Ja k)) λhs=>(D.e Γ a).bind λr=>(D.e Γ k).bind λrk=>
 if Y7 a || gtN Γ a then vl (J3 r.m rk.m) λC=>r_gt (by have:=C.room.units;omega) (r.ok C).1 (rk.ok C).1 (Vo (DY hs)) else
 vl (AL r.m rk.m) λC=>r_ix (r.ok C).1 (rk.ok C).1 (Vo (DY hs))
def eSub(D:Dc)(Γ:Gm)(a k:Expr)(pos:Pos):Option (ER Γ (.Subscript a k pos)):=match k with
 |.Slice lo hi st p=>(match st with
  |none=>(D.e Γ a).bind λr=>(dP D Γ lo).bind λrl=>(dP D Γ hi).bind λrh=>if Γ.ox.tx then vl (Cn (Du r.m rl.m rh.m) (D0 r.m rl.m rh.m)) λC=>O0 (V6 (r.ok C).1 (rl.ok C) (rh.ok C)) (zh6 (r.ok C).1 (rl.ok C) (rh.ok C)) else vl (Du r.m rl.m rh.m) λC=>V6 (r.ok C).1 (rl.ok C) (rh.ok C)
  |_=>none)
 |k=>eIx D Γ a k pos
theorem JS(h:EM e=true):starEach [e] env=[(false,eval e env)]:=Cd h
section
variable {Γ:Gm}{f:Str}{p:Pos}{e:Expr}{es:kC}{pos:Pos}{X:Cx}{E:L2.St->XK}{ca:Str->Value}
theorem bF(a:AR Γ (e::es))(hp:Cm f=true)(hg:C4 Γ.nm f=true)(hb:Γ.bl.contains f=true)(C:CxOk Γ X E ca){id}(hc:Cq X (.builtin id) (EX X.K g))(hv:bootBuiltins f=some (.builtin id)):PE X (.Call (.Name f p) (e::es) [] pos) (tM X.K E ca (Bm g a.m)):=
 zne hc (C.gl hg) (C.bl f (ù.mp hb)) hv (a.ok C) (DQ hp).2.2 (DQ hp).1 (Cd (a.st e (Ã ..))) (Fg λx hx=>a.st x (Å e hx))
theorem bS(a:AR Γ (e::es))(hp:Cm f=true)(hg:C4 Γ.nm f=true)(hb:Γ.bl.contains f=true)(C:CxOk Γ X E ca){id}(hc:Cq X (.type id) (EX X.K g))(hv:bootBuiltins f=some (.type id)):PE X (.Call (.Name f p) (e::es) [] pos) (tM X.K E ca (Bm g a.m)):=
 Vb hc (C.gl hg) (C.bl f (ù.mp hb)) hv (a.ok C) (DQ hp).2.2 (DQ hp).1 (Cd (a.st e (Ã ..))) (Fg λx hx=>a.st x (Å e hx))
def M3(a:AR Γ (e::es))(hp:Cm f=true)(hg:C4 Γ.nm f=true)(hb:Γ.bl.contains f=true):Option (ER Γ (.Call (.Name f p) (e::es) [] pos)):=
 if hf:f="len" then vl (Bm (g1 B9) a.m) λC=>by subst hf;exact bF a hp hg hb C zgb PySem.boot_len else
 if hf:f="list" then vl (Bm (g1 CQ) a.m) λC=>by subst hf;exact bS a hp hg hb C bI ő else
 if hf:f="abs" then vl (Bm (g1 Hl) a.m) λC=>by subst hf;exact bF a hp hg hb C zgf PyProof.Rows.boot_abs else
 if hf:f="int" then vl (Bm (g1 Jc) a.m) λC=>by subst hf;exact bS a hp hg hb C zgd PyProof.Rows.boot_int else
 if hf:f="all" then vl (Bm (g1 ET) a.m) λC=>by subst hf;exact bF a hp hg hb C (zge C.calm) PyProof.Rows.boot_all else
 none
end
structure TyR(c:Str) where
 t:String
 ok:bootBuiltins c=some (.type t)
noncomputable def tyF(c:Str):Option (TyR c):=
 if h:c="int" then some ⟨"int",by subst h;exact PyProof.Rows.boot_int⟩ else if h:c="bool" then some ⟨"bool",by subst h;exact PyProof.Rows.boot_bool⟩ else if h:c="str" then some ⟨"str",by subst h;exact PyProof.Rows.boot_str⟩ else
 if h:c="list" then some ⟨"list",by subst h;exact ő⟩ else if h:c="tuple" then some ⟨"tuple",by subst h;exact PyProof.Rows.boot_tuple⟩ else none
def eIs(D:Dc)(Γ:Gm)(p:Pos)(e:Expr)(es:kC)(pos:Pos)(hg:C4 Γ.nm "isinstance"=true)(hb:Γ.bl.contains "isinstance"=true):Option (ER Γ (.Call (.Name "isinstance" p) (e::es) [] pos)):=match es with
 |[.Name c p2]=>gd (C4 Γ.nm c && Cm c && EM e) λhc=>(D.e Γ e).bind λr=>
  have hc:(C4 Γ.nm c=true/\Cm c=true)/\EM e=true:=by
   rw[Ê,Ê]at hc;exact hc
  if hm:Γ.bl.contains c=true then (tyF c).bind λt=>vl (Bm (g1 (DH t.t)) (AB r.m AE)) λC=>
   r_isT t.ok (C.gl hg) (C.bl _ (ù.mp hb)) (C.gl hc.1.1) (C.bl _ (ù.mp hm)) (DQ hc.1.2).2.2 (DQ hc.1.2).1 (r.ok C).1 (Cd hc.2)
  else ob (Γ.ox.ci.lookup c) λtb ht=>vl (Bm (g1 (Ha tb)) (AB r.m AE)) λC=>by
   obtain⟨_,k1,k2⟩:=C.gx.ci c tb ht;exact r_isC k2 (C.gl hg) (C.bl _ (ù.mp hb)) (C.gl hc.1.1) k1 (DQ hc.1.2).1 (r.ok C).1 (Cd hc.2)
 |_=>none
def eSet(D:Dc)(Γ:Gm)(p:Pos)(e:Expr)(pos:Pos)(hg:C4 Γ.nm "len"=true)(hb:Γ.bl.contains "len"=true):Option (ER Γ (.Call (.Name "len" p) [e] [] pos)):=match e with
 |.Call (.Name x p2) [a] [] p3=>if h:x="set" then gd (C4 Γ.nm "set" && Γ.bl.contains "set" && EM a) λhc=>(D.e Γ a).bind λr=>vl (Bm (g1 JI) (AB r.m AE)) λC=>by
   rw[Ê,Ê]at hc;subst h;exact r_unq C.calm (C.gl hg) (C.bl _ (ù.mp hb)) (C.gl hc.1.1) (C.bl _ (ù.mp hc.1.2)) (r.ok C).1 (JS hc.2)
  else none
 |_=>none
def eKys(D:Dc)(Γ:Gm)(p:Pos)(e:Expr)(pos:Pos)(hp:Cm "list"=true)(hg:C4 Γ.nm "list"=true)(hb:Γ.bl.contains "list"=true):Option (ER Γ (.Call (.Name "list" p) [e] [] pos)):=if h:Y7 e=true then (D.e Γ e).bind λr=>vl (Cn (Bm (g1 CQ) (AB r.m AE)) (G4 r.m)) λC=>by
  have hns:EM e=true:=by cases e<;>first|rfl|cases h
  have hst:=λenv=>JS (env:=env) hns
  have b:=ù.mp hb;exact O0 (Vb bI (C.gl hg) (C.bl _ b) ő (Va (r.ok C).1 V7 (hst _)) (DQ hp).2.2 (DQ hp).1 (hst _) rfl) (r_kys C.calm (C.gl hg) (C.bl _ b) (r.ok C).1 (hst _))
 else none
def aC(Γ:Gm)(f:Str)(p:Pos)(e:Expr)(es:kC)(pos:Pos)(a:AR Γ (e::es))(hp:Cm f=true)(hg:C4 Γ.nm f=true):Option (ER Γ (.Call (.Name f p) (e::es) [] pos)):=
 ob (Γ.fns.lookup f) λF hF=>vl (AS F.g a.m) λC=>by
  obtain⟨hl,⟨D⟩⟩:=C.fs f F hF;exact znd D C.room C.ps (a.ok C) hl (C.gl hg) (DQ hp).1 (Cd (a.st e (Ã ..))) (Fg λx hx=>a.st x (Å e hx))
def eFn(Γ:Gm)(f:Str)(p:Pos)(e:Expr)(es:kC)(pos:Pos)(a:AR Γ (e::es))(hp:Cm f=true)(hg:C4 Γ.nm f=true):Option (ER Γ (.Call (.Name f p) (e::es) [] pos)):=
 oe (Γ.ox.nw.lookup f) (λF hF=>ob (F.2.lookup (e::es).length) λdts hd=>vl (G3 F.1.g dts a.m) λC=>by
   obtain⟨hl,CC,D,hD⟩:=C.gx.nw f F.1 F.2 hF;obtain⟨dvs,us,k1,k2,k3⟩:=hD _ _ hd;exact r_new D k1 k2 k3 C.room C.ps (a.ok C) hl (C.gl hg) (DQ hp).1 (Cd (a.st e (Ã ..))) (Fg λx hx=>a.st x (Å e hx))) <|
 oe (Γ.ox.dn.lookup f) (λy hy=>if es.length+1+y.2.length=y.1.ps.length then vl (AS (gD y.2 y.1.g) a.m) λC=>by
   obtain⟨hl,D,dvs,k1,k2⟩:=C.gx.dn f y hy;exact zju D k1 k2 C.room C.ps (a.ok C) hl (C.gl hg) (DQ hp).1 (Cd (a.st e (Ã ..))) (Fg λx hx=>a.st x (Å e hx))
  else aC Γ f p e es pos a hp hg) <|
 aC Γ f p e es pos a hp hg
def eCal(D:Dc)(Γ:Gm)(f:Str)(p:Pos)(es:kC)(ks:List Keyword)(pos:Pos):Option (ER Γ (.Call (.Name f p) es ks pos)):=match es,ks with
 |e::es,[]=>gd (Cm f && C4 Γ.nm f) λhc=>
  have hc:Cm f=true/\C4 Γ.nm f=true:=by
   rw[Ê]at hc;exact hc
  if hb:Γ.bl.contains f=true then
   (if hf : f = "isinstance" then (match f, hf, hc, hb with
    |_,rfl,hc,hb=>eIs D Γ p e es pos hc.2 hb) else
   match es with
   |[]=>
    (if hf : f = "len" then (match f, hf, hc, hb with
     |_,rfl,hc,hb=>(eSet D Γ p e pos hc.2 hb).orElse λ_=>(D.a Γ [e]).bind λa=>M3 a hc.1 hc.2 hb) else
    if hf:f="list" then (match f,hf,hc,hb with
     |_,rfl,hc,hb=>(eKys D Γ p e pos hc.1 hc.2 hb).orElse λ_=>(D.a Γ [e]).bind λa=>M3 a hc.1 hc.2 hb) else
    (D.a Γ [e]).bind λa=>M3 a hc.1 hc.2 hb)
   |_=>(D.a Γ _).bind λa=>M3 a hc.1 hc.2 hb)
  else (D.a Γ (e::es)).bind λa=>eFn Γ f p e es pos a hc.1 hc.2
 |_,_=>none
def aR(Γ:Gm):(es:kC)->Option (GsR Γ es)
 |[]=>some ⟨Az,λ_=>⟨g_nil,rfl,rfl⟩⟩|e::es=>(match e with
  |.Name x p=>gd (Γ.loc x) λhl=>ob (Dx Γ.N x) λi hi=>(aR Γ es).bind λr=>some ⟨AM (AD i) r.m,λ{X} {E} {ca} C=>by
   obtain⟨q1,q2,q3⟩:=r.ok C;refine⟨zph (YI C hl hi) q1 rfl,?_,?_⟩
   .show(assignEach es X.env).length+1=es.length+1;rw[q2]
   .show List.findIdx? (·.1) ((false,assign (.Name x p) X.env)::assignEach es X.env)=none
    rw[ź,q3]
    rfl⟩
  |_=>none)
def dG(Γ:Gm):(tg:Expr)->Option (GR Γ tg)
 |.Name x _=>gd (Γ.loc x) λhl=>ob (Dx Γ.N x) λi hi=>some ⟨AD i,λC=>YI C hl hi⟩|.Tuple es _ _=>(aR Γ es).bind λr=>some ⟨Ax es.length r.m,λC=>g_tup C.calm (r.ok C).1 (r.ok C).2.1 (r.ok C).2.2⟩|_=>none
def iV(D:Dc)(Γ:Gm)(tg e:Expr):Option (IR Γ tg e):=gd (Oe e) λh=>(D.e Γ e).bind λr=>if Γ.ox.tx then some ⟨BE r.m,λC=>znb (r.ok C).1,h⟩ else some ⟨IW r.m,λC=>V8 (r.ok C).1,h⟩
theorem FZ(C:CxOk Γ X E ca)(h:(C4 Γ.nm f && Γ.bl.contains f)=true):Gl X f/\X.mg f=none:=by
 rw[Ê]at h;exact⟨C.gl h.1,C.bl f (ù.mp h.2)⟩
def iRg(D:Dc)(Γ:Gm)(tg a:Expr)(p c:Pos):Option (IR Γ tg (.Call (.Name "range" p) [a] [] c)):=gd (C4 Γ.nm "range" && Γ.bl.contains "range") λh=>(D.a Γ [a]).bind λr=>some ⟨C8 r.m,λC=>zh7 (FZ C h).1 (FZ C h).2 (r.ok C) (Cd (r.st a (Ã ..))),rfl⟩
def iEn(D:Dc)(Γ:Gm)(tg a:Expr)(p c:Pos):Option (IR Γ tg (.Call (.Name "enumerate" p) [a] [] c)):=match tg with
 |.Tuple ..=>gd (C4 Γ.nm "enumerate" && Γ.bl.contains "enumerate") λh=>(D.a Γ [a]).bind λr=>if Γ.ox.tx then some ⟨Yd r.m,λC=>r_enX (FZ C h).1 (FZ C h).2 (r.ok C) (Cd (r.st a (Ã ..))),rfl⟩ else
  some ⟨Cw r.m,λC=>V9 (FZ C h).1 (FZ C h).2 (r.ok C) (Cd (r.st a (Ã ..))),rfl⟩
 |_=>none
def iZp(D:Dc)(Γ:Gm)(tg a b:Expr)(p c:Pos):Option (IR Γ tg (.Call (.Name "zip" p) [a,b] [] c)):=match tg with
 |.Tuple ..=>gd (C4 Γ.nm "zip" && Γ.bl.contains "zip") λh=>(D.a Γ [a,b]).bind λr=>some ⟨Ga r.m,λC=>
   have s2:=λenv=>JS (env:=env) (r.st b (Å _ (Ã ..)))
   r_zip (FZ C h).1 (FZ C h).2 (r.ok C) (by rw[Cd (r.st a (Ã ..)),s2]) (s2 _),rfl⟩
 |_=>none
def iE1(D:Dc)(Γ:Gm)(tg a:Expr)(p c:Pos)(k:Keyword):Option (IR Γ tg (.Call (.Name "enumerate" p) [a] [k] c)):=match tg,k with
 |.Tuple ..,⟨some y,.Constant (.int i) ko vp,kp⟩=>if hy:y="start"/\i=1 then gd (C4 Γ.nm "enumerate" && Γ.bl.contains "enumerate") λh=>(D.a Γ [a]).bind λr=>some ⟨Gb r.m,λC=>by
   obtain⟨rfl,rfl⟩:=hy;exact r_en1 (FZ C h).1 (FZ C h).2 (r.ok C) (Cd (r.st a (Ã ..))),rfl⟩ else none
 |_,_=>none
def dI(D:Dc)(Γ:Gm)(tg e:Expr):Option (IR Γ tg e):=match e with
 |.Call (.Name f p) es ks c=>(match es,ks with
  |[a],[]=>if h:f="range" then (match f,h with|_,rfl=>iRg D Γ tg a p c) else
   if h:f="enumerate" then (match f,h with|_,rfl=>iEn D Γ tg a p c) else
   iV D Γ tg _
  |[a,b],[]=>
   if h:f="zip" then (match f,h with|_,rfl=>iZp D Γ tg a b p c) else
   iV D Γ tg _
  |[a],[k]=>if h:f="enumerate" then (match f,h with|_,rfl=>iE1 D Γ tg a p c k) else none
  |_,_=>iV D Γ tg _)
 |e=>iV D Γ tg e
def dC(D:Dc)(Γ:Gm)(elt tg iter:Expr)(ifs:kC)(scope:Scope):Option (LR Γ elt tg iter ifs scope):=
 gd (Ju Γ scope (Dh tg++Dk scope.names)) λhb=>ob (Js Γ.N (Dk scope.names)) λcaps hc=>(dI D Γ tg iter).bind λri=>(dG (Γ.blk scope (Dh tg++Dk scope.names)) tg).bind λrg=>(D.e (Γ.blk scope (Dh tg++Dk scope.names)) elt).bind λre=>match ifs with
  |[]=>some ⟨BU (Dh tg).length caps ri.m rg.m (mC (.bl true)) re.m,λ{X} {E} {ca} C=>⟨caps,ri.m,rg.m,_,re.m,rfl,bL C hb hc,ri.ok C,λcl A s₀ H₀ ex xb E' hp=>
    have C':=bN C hb cl A s₀ H₀ ex xb (E':=E') hp
    ⟨rg.ok C',λpz s σ H Q I q=>zjz pz s σ H Q I (OB (K:=X.K) (E:=E') (ca:=ca) q),(re.ok C').1⟩,QW ri.ns⟩⟩
  |[c]=>gd (FU c) λhk=>(D.e (Γ.blk scope (Dh tg++Dk scope.names)) c).bind λrt=>some ⟨BU (Dh tg).length caps ri.m rg.m rt.m re.m,λ{X} {E} {ca} C=>⟨caps,ri.m,rg.m,rt.m,re.m,rfl,bL C hb hc,ri.ok C,λcl A s₀ H₀ ex xb E' hp=>
    have C':=bN C hb cl A s₀ H₀ ex xb (E':=E') hp
    ⟨rg.ok C',zjy (rt.t hk C'),(re.ok C').1⟩,QW ri.ns⟩⟩
  |_=>none
def eLC(D:Dc)(Γ:Gm)(elt:Expr)(gens:List Comprehension)(scope:Scope)(pos:Pos):Option (ER Γ (.ListComp elt gens scope pos)):=match gens with
 |[⟨tg,iter,ifs,0⟩]=>(dC D Γ elt tg iter ifs scope).bind λr=>vl r.m λC=>by
  obtain⟨caps,mi,b,mt,me,h,B,hi,hg,hs⟩:=r.ok C;rw[h];exact r_lcV B (cq:=λX=>X.calm=true) (λ_ _ _ _ _ _ _ _ _=>C.calm) (Vq hi) C.ps C.fr (λcl A s H ex xb E' hp=>(hg cl A s H ex xb E' hp).1) (λcl A s H ex xb E' hp=>(hg cl A s H ex xb E' hp).2.1) (λcl A s H ex xb E' hp=>(hg cl A s H ex xb E' hp).2.2) hs
 |_=>none
def eIf(D:Dc)(Γ:Gm)(c a b:Expr)(pos:Pos):Option (ER Γ (.IfExp c a b pos)):=gd (FU c) λh=>(D.e Γ c).bind λrc=>(D.e Γ a).bind λra=>(D.e Γ b).bind λrb=>some ⟨Dv rc.m ra.m rb.m,λC=>⟨r_ife (rc.t h C) (ra.ok C).1 (rb.ok C).1,λz=>by cases z⟩⟩
def dEs(D:Dc)(Γ:Gm):(e:Expr)->Option (ER Γ e)
 |.Constant c k pos=>eCst Γ c k pos|.Name x pos=>eNam Γ x pos|.Attribute o f pos=>gd (GU o) λh=>(D.e Γ o).bind λr=>Qw r h Γ.ox.cl λ_ h=>h|.Call f es ks c=>(match f with
  |.Attribute o f ap=>eAtt D Γ o f ap es ks c|.Name f p=>eCal D Γ f p es ks c|_=>none)
 |.Compare a ops bs pos=>eCmp D Γ a ops bs pos|.BinOp a op b pos=>(opF op).bind λg=>(D.e Γ a).bind λra=>(D.e Γ b).bind λrb=>vl (Bm (g2 g.g) (AB ra.m (AB rb.m AE))) λC=>r_bin g.ok (ra.ok C).1 (rb.ok C).1|.UnaryOp op a pos=>eUn D Γ op a pos|.BoolOp op vs pos=>(D.b Γ op vs).bind λr=>some ⟨r.m,λC=>⟨(r.ok C).1,λ_=>(r.ok C).2.pt⟩⟩|.IfExp c a b pos=>eIf D Γ c a b pos|.List es pos=>(D.o Γ es).bind λr=>vl (BN r.m) λC=>r_lst (r.ok C)|.Tuple es k pos=>(D.a Γ es).bind λr=>vl (B7 r.m) λC=>r_tup (r.ok C)|.Subscript a k pos=>eSub D Γ a k pos|.ListComp elt gens scope pos=>eLC D Γ elt gens scope pos|_=>none
def dAs(D:Dc)(Γ:Gm):(es:kC)->Option (AR Γ es)
 |[]=>some ⟨AE,λ_=>V7,λ_ h=>(by cases h),λ_=>rfl⟩|e::es=>gd (EM e) λh=>(D.e Γ e).bind λr=>(D.a Γ es).bind λa=>some ⟨AB r.m a.m,λC=>Va (r.ok C).1 (a.ok C) (Cd h),λx hx=>(Ï.mp hx).elim (λz=>z▸h) (a.st x),λz=>by cases z⟩
def dOs(D:Dc)(Γ:Gm):(es:kC)->Option (OR Γ es)
 |[]=>some ⟨AE,λ_=>zn8⟩|e::es=>gd (EM e) λh=>(D.e Γ e).bind λr=>(D.o Γ es).bind λa=>some ⟨BK r.m a.m,λC=>zjt (r.ok C).1 (a.ok C) (Cd h)⟩
def dBs(D:Dc)(Γ:Gm)(op:BoolOp):(es:kC)->Option (BR Γ op es)
 |[]=>none|[a]=>gd (FU a) λh=>(D.e Γ a).bind λr=>some ⟨r.m,λC=>⟨r_one (r.ok C).1,by
   cases op with
   |And=>exact zjr (r.t h C)|Or=>exact zjq (r.t h C)⟩⟩
 |a::b::es=>gd (FU a) λh=>(D.e Γ a).bind λr=>(D.b Γ op (b::es)).bind λrb=>match op,rb with
  |.And,rb=>some ⟨CA r.m rb.m,λC=>⟨r_and (r.ok C).1 (rb.ok C).1,zn4 (r.t h C) (rb.ok C).2⟩⟩|.Or,rb=>some ⟨Bk r.m rb.m,λC=>⟨r_or (r.ok C).1 (rb.ok C).1,r_wor (r.t h C) (rb.ok C).2⟩⟩
noncomputable def pkB:kE:=["len","isinstance","all","any","abs","min","max","int"]
def isLC:Expr->Bool
 |.ListComp ..=>true|_=>false
def Bv:Nat->kE->Expr->kE
 |0,_,_=>[]|n+1,pk,e=>
  let peek:=λ(x:Expr)=>match x with
   |.Name _ _=>[]|x=>Bv n pk x
  match e with
  |.Name x _=>[x]|.BinOp a _ b _=>Bv n pk a++Bv n pk b|.UnaryOp _ a _=>Bv n pk a|.BoolOp _ vs _=>vs.flatMap (Bv n pk)|.Compare a _ bs _=>peek a++bs.flatMap peek|.IfExp c a b _=>Bv n pk c++Bv n pk a++Bv n pk b|.Call (.Name f _) args [] _=>if pkB.contains f || pk.contains f then args.flatMap peek else args.flatMap (Bv n pk)
  |.Call (.Attribute _ _ _) args [] _=>args.flatMap λa=>if isLC a then Bv n pk a else []
  |.Subscript a k _=>(match k with
   |.Slice lo hi _ _=>Bv n pk a++(match lo with|some e=>Bv n pk e|none=>[])++(match hi with|some e=>Bv n pk e|none=>[])
   |_=>peek a++Bv n pk k)
  |.List es _=>es.flatMap (Bv n pk)|.Tuple es _ _=>es.flatMap (Bv n pk)|.ListComp _ [⟨_,iter,_,_⟩] scope _=>Bv n pk iter++Dk scope.names|_=>[]
def Sq(pk:kE):Stmt->kE
 |.Expr (.Call (.Attribute (.Name _ _) _ _) [e] [] _) _=>Bv 40 pk e|.Expr e _=>Bv 40 pk e|.Return (some (.Name _ _)) _=>[]|.Return (some e) _=>Bv 40 pk e|.Assign [.Subscript (.Subscript _ k _) j _] e _=>Bv 40 pk k++Bv 40 pk j++Bv 40 pk e|.Assign [.Subscript _ k _] e _=>Bv 40 pk k++Bv 40 pk e|.Assign [_] e _=>Bv 40 pk e|.If c _ _ _=>Bv 40 pk c|.For _ it _ _ _=>Bv 40 pk it|.While c _ _ _=>Bv 40 pk c|_=>[]
def isIf:Stmt->Bool
 |.If ..=>true|_=>false
def frzs(Γ:Gm)(s:Stmt):kG:=((if isIf s then Γ.ox.gt++Sq Γ.pk s else Sq Γ.pk s).filter (Γ.ow.contains ·)).eraseDups.filterMap (Dx Γ.N)
def QU(l:kG)(m:AH):AH:=l.foldr (λi m=>AG (Dn i) m) m
def Kz(Γ:Gm)(x:Str)(px:Pos):Expr->Bool
 |.ListComp _ _ scope p=>Γ.nm.lookup x == some .local && px.line == p.line && !(scope.names.any λ(n,k)=>n == x && (k == .local || k == .cell))|_=>false
def T8(Γ:Gm)(x:Str):Bool:=Γ.nm.lookup x == some .cell
def IJ(Γ:Gm)(x:Str)(i:Nat)(m:AI):AH:=if Γ.ow.contains x then CW i m else AW m (AD i)
def CO(c:Str)(ms:BQ):AH:=λτ=>match ms τ with
 |some (.v ts _)=>if ts.length<=Bh then some (.xc c τ) else none
 |some (.x c)=>some (.xc c τ)|none=>none
def LX(Γ:Gm)(x y:Str)(px py:Pos)(a b:Expr):Bool:=
 Γ.nm.lookup x == some .local && Γ.nm.lookup y == some .local && px.line == py.line && !(x == y) && EM a && EM b && !(foldedForSure 8 a && foldedForSure 8 b) && !(constantsAlone 8 a && constantsAlone 8 b) && Cm x && Cm y
section
variable {X:Cx}{E:L2.St->XK}{ca:Str->Value}{Γ:Gm}{mu:Bool}
theorem ON(h:B3 X rest (tS X.K E ca mu w)):∀l ,B3 X rest (tS X.K E ca mu (QU l w))
 |[]=>h|i::r=>s_frz (ON h r)
theorem LA(h:G8 e=false):swapsWith e t l env=pure false:=by
 cases e<;>first|rfl|cases h
theorem bK{env:Env}(h:env.scope.kind=.function):env.blockKind=.function:=by
 unfold Env.blockKind;rw[h]
 rfl
theorem zgr(C:CxOk Γ X E ca){p px:Pos}{x:Str}(h:Kz Γ x px (.ListComp elt gens scope p)=true):swapsWith (.ListComp elt gens scope p) (some (.Name x px)) l X.env=pure true:=by
 have e:swapsWith (.ListComp elt gens scope p) (some (.Name x px)) l X.env=pure (X.env.blockKind == .function && X.env.kindOf x == some .local && px.line == p.line && !(scope.names.any λ(n,k)=>n == x && (k == .local || k == .cell))):=rfl
 rw[e];unfold Kz at h
 erw[Ê]at h;have k:X.env.kindOf x=some .local:=by
  show X.env.scope.names.lookup x=some .local;rw[C.nm]
  grind
 rw[bK C.kd,k,h.1.2,h.2]
 rfl
theorem zja(C:CxOk Γ X E ca){px}(h:T8 Γ x=true):swapsWith e (some (.Name x px)) l X.env=pure false:=by
 have k:X.env.kindOf x=some .cell:=by
  show X.env.scope.names.lookup x=some .cell;rw[C.nm];exact eq_of_beq h
 have c:(some NameKind.cell == some NameKind.local)=false:=rfl;cases e<;>first|rfl|(unfold swapsWith;grind)
theorem zdy(C:CxOk Γ X E ca){px py pt p2}(h:LX Γ x y px py a b=true):swappedStores [.Tuple [.Name x px,.Name y py] kt pt] (.Tuple [a,b] k2 p2) X.env=pure (some [x,y]):=by
 unfold LX at h;erw[Ê,Ļ,Ĭ]at h;obtain⟨⟨⟨⟨⟨⟨⟨⟨⟨h1,h2⟩,h3⟩,h4⟩,h5⟩,h6⟩,h7⟩,h8⟩,_⟩,_⟩:=h
 have kx:X.env.kindOf x=some .local:=by
  show X.env.scope.names.lookup x=some .local;rw[C.nm];exact h1
 have ky:X.env.kindOf y=some .local:=by
  show X.env.scope.names.lookup y=some .local;rw[C.nm];exact h2
 have ed:[x,y].eraseDups=[x,y]:=by
  have:(y == x)=false:=by
   rw[ŋ]at h4 ⊢;exact Ð h4
  simp[List.eraseDups_cons,this,h4]
 have f1:(if (X.env.kindOf x == some NameKind.local && px.line == px.line)=true then some x else none)=some x:=by rw[kx,ÿ,ÿ];rfl
 have f2:(if (X.env.kindOf y == some NameKind.local && py.line == px.line)=true then some y else none)=some y:=by rw[ky,ÿ,<- h3,ÿ];rfl
 unfold swappedStores;dsimp only[List.length,List.any,List.all,List.filterMap,List.head?,Option.map,Option.getD,Expr.pos];erw[f1,f2,ed];refine(if_neg ?_).trans ((if_neg ?_).trans ((if_neg ?_).trans ((if_neg ?_).trans (if_neg ?_))))
 .rw[bK C.kd]
  decide
 .intro z;rw[Bool.or_false,ĝ]at z
  rcases z with z|z
  .cases a<;>first|(cases h5;done)|(cases z;done)
  .cases b<;>first|(cases h6;done)|(cases z;done)
 .show ¬ ((2 != 2 || 2 != 2)=true)
  decide
 .rw[Ż,h7];exact ó
 .rw[Ż,h8];exact ó
theorem OI(h:G8 e=false):swapsWithSole [t] e l env=pure false:=LA h
theorem Ta(h:Ja k=false)(v):assign (.Subscript o k pos) env v=(do
   let ov <- holding [v] (eval o env);let iv <- holding [v,ov] (eval k env)
   standAt pos
   holding [v,ov,iv] (setItem ov iv v)
   release [v,ov,iv] []):=by
 cases k<;>first|rfl|cases h
theorem s_rse(C:CxOk Γ X E ca)(hnr:Γ.ox.nr=false)(hpn:Ef c=none)(hc:c∈Γ.ex)(hg:C4 Γ.nm c=true)(hp:Cm c=true)(ha:PA X (e::es) (Bx X.K E ca ms))(hs:∀x∈e::es,EM x=true) :
  PS X (.Raise (some (.Call (.Name c p) (e::es) [] cpos)) none pos) (tS X.K E ca mu (CO c ms)):=by
 obtain⟨T,hT,hni⟩:=C.ex c hc;obtain⟨p1,p2,p3⟩:=DQ hp;refine PS.weak (zhc T hni C.calm (C.md hnr) ha (C.gl hg) p1 (Cd (hs e (Ã ..))) (Fg hs)) λD σ H h=>?_
 obtain⟨F,τ,R,S,q⟩:=h;refine⟨F,τ,R,S,?_⟩;unfold CO at q;cases hm:ms τ with
 |none=>erw[hm]at q<;>exact q.elim|some r=>
  erw[hm]at q;cases r with
  |x c=>exact λF' H' e=>q F' H' σ R e.stp0 (S.ext e)|v ts b=>
   intro F' H' xs e1 rs
   by_cases hz:ts.length<=Bh
   .erw[hz,Î]at q;refine⟨by rw[<- rs.1,<- Ft];exact hz,?_⟩
    have:=(q F' H' σ R e1.stp0 (S.ext e1)).plain hpn;rw[hT]at this;exact this
   .erw[hz,É]at q<;>exact q.elim
end
theorem bX{px pos}(hl:Γ.loc x=true)(hi:Dx Γ.N x=some i)(C:CxOk Γ X E ca)(he:PE X e (tM X.K E ca m))(sw:∀l,swapsWith e (some (.Name x px)) l X.env=pure false) :
  PS X (.Assign [.Name x px] e pos) (tS X.K E ca mu (IJ Γ x i m)):=by
 obtain⟨g1,g2,g3⟩:=C.loc hl hi;unfold IJ;split
 .exact zmz C.nodup g1 g2 he (sw _) g3
 .exact UP C.nodup g1 g2 he (sw _) g3
def aLC(D:Dc)(Γ:Gm)(x:Str)(i:Nat)(px pos:Pos)(hi:Dx Γ.N x=some i):(e:Expr)->Option (SR Γ (.Assign [.Name x px] e pos))
 |.ListComp elt gens scope p=>gd (Kz Γ x px (.ListComp elt gens scope p)) λhw=>(match gens,hw with
  |[⟨tg,iter,ifs,0⟩],hw=>(dC D Γ elt tg iter ifs scope).bind λr=>some ⟨IJ Γ x i r.m,λ{X} {E} {ca} C=>by
   have lx:X.env.scope.names.lookup x=some .local:=by
    unfold Kz at hw;erw[Ê]at hw;rw[C.nm];exact eq_of_beq hw.1.1
   have hN:X.N[i]?=some x:=by rw[C.N];exact Fw hi
   obtain⟨caps,mi,b,mt,me,h,B,hi',hg,hs⟩:=r.ok C;rw[h];have main:=r_lcS (pos2:=pos) B C.calm hi' C.ps C.fr (λcl A s H ex xb E' hp=>(hg cl A s H ex xb E' hp).1) (λcl A s H ex xb E' hp=>(hg cl A s H ex xb E' hp).2.1) (λcl A s H ex xb E' hp=>(hg cl A s H ex xb E' hp).2.2) hs C.nodup hN lx (zgr C hw)
   unfold IJ;split
   .exact PS.weak main λD σ H h=>TN h
   .exact PS.weak main λD σ H h=>Ny (g:=Ji i) (λ_ _ _ _ z=>Yn z) h⟩
  |_,_=>none)
 |_=>none
def aNm(D:Dc)(Γ:Gm)(x:Str)(px:Pos)(e:Expr)(pos:Pos):Option (SR Γ (.Assign [.Name x px] e pos)):=gd (Γ.loc x) λhl=>ob (Dx Γ.N x) λi hi=>
 if hc:G8 e=false then (D.e Γ e).bind λr=>some ⟨IJ Γ x i r.m,λC=>bX hl hi C (r.ok C).1 λ_=>LA hc⟩
 else if hn:T8 Γ x=true then (D.e Γ e).bind λr=>some ⟨IJ Γ x i r.m,λC=>bX hl hi C (r.ok C).1 λ_=>zja C hn⟩
 else aLC D Γ x i px pos hi e
def aPar(D:Dc)(Γ:Gm)(x y:Str)(px py:Pos)(kt:Nat)(pt:Pos)(a b:Expr)(k2:Nat)(p2 pos:Pos):Option (SR Γ (.Assign [.Tuple [.Name x px,.Name y py] kt pt] (.Tuple [a,b] k2 p2) pos)):=gd (LX Γ x y px py a b) λhp=>ob (Dx Γ.N x) λi h1=>ob (Dx Γ.N y) λj h2=>(D.a Γ [a,b]).bind λr=>some ⟨JR i j r.m,λ{X} {E} {ca} C=>by
 have hp':=hp;unfold LX at hp';erw[Ê,Ļ,Ĭ]at hp';obtain⟨⟨⟨⟨⟨⟨⟨⟨⟨g1,g2⟩,g3⟩,g4⟩,_⟩,_⟩,_⟩,_⟩,_⟩,_⟩:=hp';have e1:X.N[i]?=some x:=by rw[C.N];exact Fw h1
 have e2:X.N[j]?=some y:=by rw[C.N];exact Fw h2
 have hij:i≠j:=λz=>by
  subst z;rw[e1]at e2;cases e2;simp at g4
 exact s_par C.calm C.nodup e1 e2 hij (by rw[C.nm];exact g1) (by rw[C.nm];exact g2) (r.ok C) (zdy C hp) rfl⟩
def aTup(D:Dc)(Γ:Gm)(ts:kC)(kt:Nat)(pt:Pos)(e:Expr)(pos:Pos):Option (SR Γ (.Assign [.Tuple ts kt pt] e pos)):=gd (!(zp9 e || G8 e)) λhc=>(dG Γ (.Tuple ts kt pt)).bind λrg=>(D.e Γ e).bind λr=>some ⟨AW r.m rg.m,λC=>by
 have hc':=DY hc;rw[ģ]at hc';refine zmw (r.ok C).1 (rg.ok C) (OI hc'.2) ?_ rfl;have ht:=hc'.1;cases e<;>first|rfl|cases ht⟩
def aTp(D:Dc)(Γ:Gm)(ts:kC)(kt:Nat)(pt:Pos)(e:Expr)(pos:Pos):Option (SR Γ (.Assign [.Tuple ts kt pt] e pos)):=
 match ts,e with
 |[.Name x px,.Name y py],.Tuple [a,b] k2 p2=>aPar D Γ x y px py kt pt a b k2 p2 pos|ts,e=>
 aTup D Γ ts kt pt e pos
def aSto(D:Dc)(Γ:Gm)(x:Str)(p1:Pos)(j:Expr)(p3:Pos)(e:Expr)(pos:Pos):Option (SR Γ (.Assign [.Subscript (.Name x p1) j p3] e pos)):=gd (!(Ja j || G8 e)) λhc=>ob (Γ.var x) λi hi=>(D.e Γ j).bind λrk=>(D.e Γ e).bind λr=>some ⟨HL i rk.m r.m,λC=>by
 have hc':=DY hc;rw[ģ]at hc';obtain⟨v1,v2,v3,v4⟩:=C.var (pos:=p1) hi;refine s_sto v1 v2 v3 v4 (r.ok C).1 (rk.ok C).1 (OI hc'.2) ?_ (Ta hc'.1);cases e<;>rfl⟩
theorem QE{fs:kE}(h:fs.findIdx? (· == f)=some j):f∈fs/\fs[j]?=some f:=by
 obtain⟨q1,q2,_⟩:=Ġ.mp h
 grind
def aDpf(D:Dc)(Γ:Gm)(x f:Str)(p1 p2:Pos)(j:Expr)(p3:Pos)(e:Expr)(pos:Pos):Option (SR Γ (.Assign [.Subscript (.Attribute (.Name x p1) f p2) j p3] e pos)):=gd (!(Ja j || G8 e)) λhc=>ob Γ.ox.sf λc hs=>ob (Γ.var x) λi hi=>ob (c.2.findIdx? (· == f)) λjj hj=>(D.e Γ j).bind λrk=>(D.e Γ e).bind λr=>some ⟨JT c.1 c.2 jj i rk.m r.m,λC=>by
 have hc':=DY hc;rw[ģ]at hc';obtain⟨v1,v2,v3,v4⟩:=C.var (pos:=p1) hi;obtain⟨k1,k2⟩:=C.gx.sf c.1 c.2 hs;refine s_dpf (by have:=C.room.units;omega) k1 (k2 f (QE hj).1) hj v1 v2 v3 v4 (r.ok C).1 (rk.ok C).1 (OI hc'.2) ?_ (Ta hc'.1)
 cases e<;>rfl⟩
theorem Zg(hs:Γ.ox.sf=some c)(hi:Γ.var x=some i)(hj:c.2.findIdx? (· == f)=some jj)(hc:(!((c.2.take jj).contains f || !(decide (jj<900))))=true)(C:CxOk Γ X E ca)(he:PE X e (tM X.K E ca m)) :
  PS X (.Assign [.Attribute (.Name x p1) f p2] e pos) (tS X.K E ca Γ.mu (EI c.1 c.2 jj i m)):=by
 have hc':=DY hc;rw[ģ,Bool.not_eq_false',ö]at hc';obtain⟨c1,c2⟩:=hc';obtain⟨v1,v2,v3,v4⟩:=C.var (pos:=p1) hi;obtain⟨k1,k2⟩:=C.gx.sf c.1 c.2 hs;exact zn0 k1 (k2 f (QE hj).1) (QE hj).2 c1 c2 v1 v2 v3 v4 he (by cases e<;>rfl)
def aFl(D:Dc)(Γ:Gm)(x f:Str)(p1 p2:Pos)(e:Expr)(pos:Pos):Option (SR Γ (.Assign [.Attribute (.Name x p1) f p2] e pos)):=ob Γ.ox.sf λc hs=>ob (Γ.var x) λi hi=>ob (c.2.findIdx? (· == f)) λjj hj=>gd (!((c.2.take jj).contains f || !(decide (jj<900)))) λhc=>match e,hc with
 |.Dict [] [] p,hc=>some ⟨EI c.1 c.2 jj i Lz,λC=>Zg hs hi hj hc C znc⟩|e,hc=>(D.e Γ e).bind λr=>some ⟨EI c.1 c.2 jj i r.m,λC=>Zg hs hi hj hc C (r.ok C).1⟩
def aSub(D:Dc)(Γ:Gm)(a j:Expr)(p3:Pos)(e:Expr)(pos:Pos):Option (SR Γ (.Assign [.Subscript a j p3] e pos)):=match a with
 |.Name x p1=>aSto D Γ x p1 j p3 e pos|.Attribute (.Name x p1) f p2=>aDpf D Γ x f p1 p2 j p3 e pos|_=>none
def dAsg(D:Dc)(Γ:Gm)(ts:kC)(e:Expr)(pos:Pos):Option (SR Γ (.Assign ts e pos)):=match ts with
 |[t]=>(match t with
  |.Name x px=>aNm D Γ x px e pos|.Tuple ts kt pt=>aTp D Γ ts kt pt e pos|.Subscript a j p3=>aSub D Γ a j p3 e pos|.Attribute o f p2=>(match o with
   |.Name x p1=>aFl D Γ x f p1 p2 e pos|_=>none)
  |_=>none)
 |_=>none
def xApp(D:Dc)(Γ:Gm)(x:Str)(p:Pos)(f:Str)(apos:Pos)(a:Expr)(cpos pos:Pos):Option (SR Γ (.Expr (.Call (.Attribute (.Name x p) f apos) [a] [] cpos) pos)):=gd (EM a) λh1=>gd (apos.endLine == cpos.line) λh2=>ob (Γ.var x) λi hi=>(D.e Γ a).bind λr=>
 if hf:f="append" then some ⟨DA i r.m,λC=>by
  subst hf;obtain⟨v1,v2,v3,v4⟩:=C.var (pos:=p) hi;exact s_app v1 v2 v3 v4 (r.ok C).1 (JS h1) h2⟩ else
 if hf:f="extend" then some ⟨FP i r.m,λC=>by
  subst hf;obtain⟨v1,v2,v3,v4⟩:=C.var (pos:=p) hi;exact s_ext v1 v2 v3 v4 (r.ok C).1 (JS h1) h2⟩ else
 none
def xExp(D:Dc)(Γ:Gm)(e:Expr)(pos:Pos):Option (SR Γ (.Expr e pos)):=gd (!(G8 e)) λhc=>(D.e Γ e).bind λr=>some ⟨Fj r.m,λC=>s_exp (r.ok C).1 (LA (DY hc))⟩
def dX(D:Dc)(Γ:Gm)(e:Expr)(pos:Pos):Option (SR Γ (.Expr e pos)):=match e with
 |.Call (.Attribute (.Name x p) f apos) [a] [] cpos=>xApp D Γ x p f apos a cpos pos|e=>xExp D Γ e pos
def xRet(D:Dc)(Γ:Gm)(o:Option Expr)(pos:Pos):Option (SR Γ (.Return o pos)):=
 gd (!Γ.mu) λhmu=>match o with
 |none=>some ⟨OP,λC=>by rw[DY hmu];exact zmx⟩|some e=>(D.e Γ e).bind λr=>some ⟨AU r.m,λC=>by rw[DY hmu];exact UQ (r.ok C).1⟩
def xRse(D:Dc)(Γ:Gm)(a b:Option Expr)(pos:Pos):Option (SR Γ (.Raise a b pos)):=match a,b with
 |some (.Call (.Name c p) (e::es) [] cp),none=>
  if hn:c="NoRun" then (match es with
   |[]=>gd (!(Γ.ox.nr)) λh1=>gd (C4 Γ.nm "NoRun") λh3=>ob Γ.ox.rn λy hy=>(D.a Γ [e]).bind λr=>some ⟨HM r.m,λC=>by
    subst hn;obtain⟨hk,⟨N⟩,hca⟩:=C.gx.rn y hy;exact s_rsN N hca C.room C.calm C.ps (C.mn (DY h1)) (r.ok C) hk (C.gl h3) (Cd (r.st e (Ã ..)))⟩
   |_=>none) else
  gd (!(Γ.ox.nr)) λh1=>gd ((Ef c).isNone) λh0=>gd (Γ.ex.contains c) λh2=>gd (C4 Γ.nm c) λh3=>gd (Cm c) λh4=>(D.a Γ (e::es)).bind λr=>some ⟨CO c r.m,λC=>s_rse C (DY h1) (Option.isNone_iff_eq_none.mp h0) (ù.mp h2) h3 h4 (r.ok C) r.st⟩
 |_,_=>none
def xFor(D:Dc)(Γ:Gm)(tg it:Expr)(body els:kD)(pos:Pos):Option (SR Γ (.For tg it body els pos)):=match els with
 |[]=>gd (!(Γ.ox.nr)) λh=>(dI D Γ tg it).bind λri=>(dG Γ tg).bind λrg=>(D.q Γ body).bind λr=>some ⟨BZ ri.m rg.m r.m,λC=>s_for (C.po (DY h)) C.calm (ri.ok C) (rg.ok C) (r.ok C) (QW ri.ns)⟩|_=>none
def xWh(D:Dc)(Γ:Gm)(c:Expr)(body els:kD)(pos:Pos):Option (SR Γ (.While c body els pos)):=match els with
 |[]=>gd (!(Γ.ox.nr)) λh=>gd (FU c) λhk=>(D.e Γ c).bind λrc=>(D.q Γ body).bind λr=>some ⟨FO rc.m r.m,λC=>s_wh (C.po (DY h)) (rc.t hk C) (r.ok C)⟩|_=>none
def xIf(D:Dc)(Γ:Gm)(c:Expr)(a b:kD)(pos:Pos):Option (SR Γ (.If c a b pos)):=
 gd (FU c) λh=>(D.e Γ c).bind λrc=>(D.q Γ a).bind λra=>(D.q Γ b).bind λrb=>some ⟨Aj rc.m ra.m rb.m,λC=>s_if (rc.t h C) (ra.ok C) (rb.ok C)⟩
structure CxS(Γ:Gm)(X:Cx)(ca:Str->Value):Prop where
 N:X.N=Γ.N
 nd:Γ.N.Nodup
 nm:X.env.scope.names=Γ.nm
 rm:Room Γ.lv (WH X.A)
 bl:∀b∈Γ.bl,X.mg b=none
 gx:GxOk Γ.ox Γ.lv X.prog X.w X.K X.mg X.base ca
theorem CxS.var(C:CxS Γ X ca)(h:Γ.var x=some i):X.N[i]?=some x/\EA X.env.scope x/\(x == "__debug__")=false/\(x == "__classdict__")=false:=by
 unfold Gm.var at h;split at h
 .rename_i hp;rw[Ê]at hp;obtain⟨p1,p2,p3⟩:=DQ hp.1;exact⟨by rw[C.N];exact Fw h,Sj (by rw[C.nm];exact hp.2),p1,p2⟩
 .cases h
structure XR(Γ:Gm)(e:Expr) where
 m:AI
 ok:∀{X:Cx} {E:L2.St->XK} {ca:Str->Value},CxS Γ X ca->PE X e (tM X.K E ca m)/\(FU e=true->PT X e (B5 X.K E ca m))
structure XQ(Γ:Gm)(ss:kD) where
 m:AH
 ok:∀{X:Cx} {E:L2.St->XK} {ca:Str->Value},CxS Γ X ca->B3 X ss (tS X.K E ca false m)
def xv{Γ:Gm}{e:Expr}(m:AI)(h:∀{X:Cx} {E:L2.St->XK} {ca:Str->Value},CxS Γ X ca->PE X e (tM X.K E ca m))(t:Kt e:=by trivial):Option (XR Γ e):=some ⟨m,λC=>⟨h C,λ_=>OZ (h C) (Sx t)⟩⟩
def xE(Γ:Gm):Nat->(e:Expr)->Option (XR Γ e)
 |0,_=>none|n+1,e=>match e with
  |.Name x p=>ob (Γ.var x) λi hi=>xv (AA i) λC=>by
   obtain⟨h1,h2,h3,h4⟩:=C.var hi;exact OY h1 h2 h3 h4
  |.Constant c k p=>(match c with
   |.none=>xv (mC .non) λ_=>JV Vt λ_ _=>.non|_=>none)
  |.Attribute (.Name x p) f q=>if hf:f="step" then ob (Γ.var x) λi hi=>ob Γ.ox.rn λy hy=>xv (J2 [y.1] (AA i)) λC=>by
   subst hf;obtain⟨h1,h2,h3,h4⟩:=C.var hi;obtain⟨_,⟨N⟩,_⟩:=C.gx.rn y hy;exact r_stp (λD hD=>by rw[Í.mp hD];exact N.sk) (OY h1 h2 h3 h4) rfl else none
  |_=>none
def xS(Γ:Gm):Nat->(ss:kD)->Option (XQ Γ ss)
 |0,_=>none|n+1,ss=>match ss with
  |[]=>some ⟨Ah,λ_=>UX⟩|s::r=>(match s with
   |.Return (some e) p=>(match r with
    |[]=>(xE Γ 50 e).bind λq=>some ⟨AU q.m,λC=>OL (UQ (q.ok C).1)⟩|_=>none)
   |.Assign [.Name x q] e p=>gd (Γ.loc x) λh1=>gd (Γ.nm.lookup x == some .local) λh2=>gd (!(G8 e)) λh3=>ob (Dx Γ.N x) λi hi=>(xE Γ 50 e).bind λre=>(xS Γ n r).bind λrs=>some ⟨AG (AW re.m (AD i)) rs.m,λ{X} {E} {ca} C=>by
    have hl:X.env.scope.names.lookup x=some .local:=by rw[C.nm];exact eq_of_beq h2
    exact OO (UP (by rw[C.N];exact C.nd) (by rw[C.N];exact Fw hi) (.inl hl) (re.ok C).1 (LA (DY h3)) (.inr hl)) (rs.ok C)⟩
   |_=>none)
theorem aT{Γ:Gm}{X:Cx}(C:CxOk Γ X E ca)(hp:BW (DK X pz xe) E'):CxOk { Γ with ox:={ Γ.ox with nr:=true}} (DK X pz xe) E' ca:=
 ⟨C.N,C.nd,C.nm,C.kd,C.calm,C.room,C.ce,C.bl,hp,λz=>(by cases z),λz=>(by cases z),Xn,C.fs,C.ex,C.ms,⟨C.gx.co,C.gx.cl,C.gx.mt,C.gx.nw,C.gx.sf,C.gx.xs,C.gx.sb,C.gx.sv,C.gx.ci,C.gx.x2,C.gx.wd,C.gx.ti,C.gx.dn,C.gx.rn⟩,C.tr,C.fr⟩
def xTr0(D:Dc)(Γ:Gm)(body:kD)(W:Str)(np:Pos)(b0:Stmt)(suite:kD)(hpos pos:Pos):Option (SR Γ (.Try body [.ExceptHandler (some (.Name W np)) none (b0::suite) hpos] [] [] pos)):=gd (Γ.ox.df && !(Γ.ox.nr) && !(Γ.mu) && C4 Γ.nm W && Cm W) λhc=>ob (Γ.ox.xs.lookup W) λcs h2=>(D.q { Γ with ox:={ Γ.ox with nr:=true } } body).bind λu=>(xS Γ 50 (b0::suite)).bind λh=>some ⟨II cs u.m h.m,λ{X} {E} {ca} C=>by
 erw[Ê,Ļ]at hc;obtain⟨⟨⟨⟨c1,c2⟩,c3⟩,c5⟩,c6⟩:=hc;obtain⟨T,hT⟩:=C.gx.xs W cs h2;obtain⟨t1,t2⟩:=C.tr c1;have g:∀(E':L2.St->XK) pz xe,BW (DK X pz xe) E'->B3 (DK X pz xe) body (tS X.K E' ca Γ.mu u.m):=λE' pz xe hp=>u.ok (aT C hp)
 generalize u.m=um at g ⊢;rw[c3]at g ⊢;exact zmv T hT t1 t2 g (λa=>h.ok ⟨C.N,C.nd,C.nm,⟨rfl,C.room.dp,C.room.un⟩,C.bl,C.gx⟩) (C.gl c5) (DQ c6).1⟩
def xTr1(D:Dc)(Γ:Gm)(body:kD)(W:Str)(np:Pos)(x:Str)(b0:Stmt)(suite:kD)(hpos pos:Pos):Option (SR Γ (.Try body [.ExceptHandler (some (.Name W np)) (some x) (b0::suite) hpos] [] [] pos)):=gd (Γ.ox.df && !(Γ.ox.nr) && !(Γ.mu) && (Γ.nm.lookup x == some .local) && C4 Γ.nm W && Cm W) λhc=>ob (Dx Γ.N x) λi hi=>ob (Γ.ox.xs.lookup W) λcs h2=>(D.q { Γ with ox:={ Γ.ox with nr:=true } } body).bind λu=>(xS Γ 50 (b0::suite)).bind λh=>some ⟨GL i cs u.m h.m,λ{X} {E} {ca} C=>by
 erw[Ê,Ļ]at hc;obtain⟨⟨⟨⟨⟨c1,c2⟩,c3⟩,c4⟩,c5⟩,c6⟩:=hc;obtain⟨T,hT⟩:=C.gx.xs W cs h2;obtain⟨t1,t2⟩:=C.tr c1;have g:∀(E':L2.St->XK) pz xe,BW (DK X pz xe) E'->B3 (DK X pz xe) body (tS X.K E' ca Γ.mu u.m):=λE' pz xe hp=>u.ok (aT C hp)
 generalize u.m=um at g ⊢;rw[c3]at g ⊢;exact s_try T hT t1 t2 C.nodup (by rw[C.N];exact Fw hi) (by rw[C.nm];exact eq_of_beq c4) g (λa=>pss_e (h.ok ⟨C.N,C.nd,C.nm,⟨rfl,C.room.dp,C.room.un⟩,C.bl,C.gx⟩)) (C.gl c5) (DQ c6).1⟩
def xTry(D:Dc)(Γ:Gm)(body:kD)(hs:List ExceptHandler)(els BP:kD)(pos:Pos):Option (SR Γ (.Try body hs els BP pos)):=match hs,els,BP with
 |[.ExceptHandler (some (.Name W np)) (some x) (b0::suite) hpos],[],[]=>xTr1 D Γ body W np x b0 suite hpos pos|[.ExceptHandler (some (.Name W np)) none (b0::suite) hpos],[],[]=>xTr0 D Γ body W np b0 suite hpos pos|_,_,_=>none
def dSt(D:Dc)(Γ:Gm):(s:Stmt)->Option (SR Γ s)
 |.Pass _=>some ⟨Ah,λ_=>zmy⟩|.Return o pos=>xRet D Γ o pos|.Expr e pos=>dX D Γ e pos|.Assign ts e pos=>dAsg D Γ ts e pos|.If c a b pos=>xIf D Γ c a b pos|.For tg it body els pos=>xFor D Γ tg it body els pos|.While c body els pos=>xWh D Γ c body els pos|.Raise a b pos=>xRse D Γ a b pos|.Try body hs els BP pos=>xTry D Γ body hs els BP pos|_=>none
def dSq(D:Dc)(Γ:Gm):(ss:kD)->Option (QR Γ ss)
 |[]=>some ⟨Ah,λ_=>UX⟩|[s]=>(match D.s Γ s with
  |some r=>some ⟨QU (frzs Γ s) r.m,λC=>ON (OL (r.ok C)) _⟩|none=>if Γ.ox.no then some ⟨LP,λ_=>OL UW⟩ else none)
 |s::s2::r=>(D.q Γ (s2::r)).bind λrs=>match D.s Γ s with
  |some q=>some ⟨QU (frzs Γ s) (AG q.m rs.m),λC=>ON (OO (q.ok C) (rs.ok C)) _⟩|none=>if Γ.ox.no then some ⟨AG LP rs.m,λC=>OO UW (rs.ok C)⟩ else none
def Hi:Nat->Dc
 |0=>⟨λ_ _=>none,λ_ _=>none,λ_ _=>none,λ_ _ _=>none,λ_ _=>none,λ_ _=>none⟩|n+1=>⟨dEs (Hi n),dAs (Hi n),dOs (Hi n),dBs (Hi n),dSt (Hi n),dSq (Hi n)⟩
def M8(n:Nat)(Γ:Gm)(ss:kD):Option (AH):=((Hi n).q Γ ss).map QR.m
structure GoodS(ca:Str->Value)(n:Nat):Prop where
 ss:∀{Γ:Gm} {X:Cx} {E:L2.St->XK} {st:kD} {m:AH},CxOk Γ X E ca->M8 n Γ st=some m->B3 X st (tS X.K E ca Γ.mu m)
theorem Yj(ca)(n):GoodS ca n:=⟨λC h=>by
 obtain⟨r,_,rfl⟩:=à.mp h;exact r.ok C⟩
end Pu
end
namespace Pu
open PySem PySem.Spec PyProof.Rows L2 Zw Zx
theorem Xm{K}:b=false->K1 (Em (Cc P w) P w K mg base N qual sc f cd A outer s H E) (λ_=>E):=λ_=>zom
noncomputable def OV(n:Nat)(u:AH)(ts:kL):Option Ru:=match u (ts.map some++List.replicate (n - ts.length) none) with
 |some (.rt t)=>some (.ok t)|some (.nx _)=>some (.ok .non)|some (.xc c _)=>some (.exc c)|_=>none
def Aa(k n:Nat)(u:AH)(ts:kL):Option Ru:=if ts.length=k then OV n u ts else none
theorem OF(hR:∀i a,¬ R i a)(s:Stp F H (tot R) F' H' O'):Ext F H F' H' O' where
 hh:=λb u e=>s.kp b u (λ⟨i,z⟩=>hR i b z) e
 ff:=s.ff
 fh:=s.fh
 nb:=λb z=>(s.nw b z).elim (λ⟨i,w⟩=>absurd w (hR i b)) id
 nf:=λb u e=>(s.nf b u e).elim .inl λz=>z.elim (λ⟨i,w⟩=>absurd w (hR i b)) .inr
theorem zgu{K}(fh:Af F H)(r:Ar K F ts vs):StR K F H (start N vs) (ts.map some++List.replicate (N.length - ts.length) none) (λ_=>R0):=by
 have hl:=r.1;refine⟨fh,by simp[L2.start,hl],λi t e=>?_,λ_ _ z=>z.elim,λ_ _ _ _ z=>z.elim⟩
 unfold L2.start
 by_cases hi:i<ts.length
 .rw[ć (by simpa using hi),Ä]at e
  obtain⟨t',e1,e2⟩:=à.mp e;cases e2;have hv:i<vs.length:=by omega
  refine⟨vs[i],?_,(r.2 i t vs[i] e1 (Â hv)).any⟩
  grind
 grind
theorem zn3{K}{N ps:kE}(h:Br K ca (Aa ps.length N.length u) vs H Q E):tS K (λ_=>E) ca false u { nx:=λ_ H'=>Q .non H',rt:=Q} (start N vs) H:=by
 obtain⟨F',ts,fh,r,q⟩:=h;refine⟨F',_,_,zgu fh r,?_⟩;unfold Aa at q
 by_cases hl:ts.length=ps.length
 .erw[hl]at q;unfold OV at q;cases ho:u (ts.map some++List.replicate (N.length - ts.length) none) with
  |none=>grind|some o=>
   erw[ho]at q;cases o with
   |nx τ=>exact λF1 H1 σ1 R1 s1 S1=>q F1 H1 .non R0 ((OF (λ_ _ z=>z) s1).mono λ_ z=>z.elim) .non|rt t=>exact λF1 H1 x B s1 r1=>q F1 H1 x B (OF (λ_ _ z=>z) s1) r1|bk τ=>exact q.elim|ct τ=>exact q.elim|xc c τ=>exact λF1 H1 σ1 R1 s1 S1=>q F1 H1 ((OF (λ_ _ z=>z) s1).mono λ_ z=>z.elim)
 grind
theorem ZM{K}{st:Stmt}{Γ:Gm}(F:FunD K x qual st f fd)(S:FnScope N ps (DJ st))
  (hΓ:Γ.N=N) (hnm:Γ.nm=(DJ st).names) (hce:∀x∈Γ.ce,Γ.nm.lookup x=some .cell) (hlv:Γ.lv=k) (hbl:∀b∈Γ.bl,mg b=none)
  (hfs:∀f F,Γ.fns.lookup f=some F->F.lv<=k/\Nonempty (DefX P w K mg base F.lv f F.ps (Br K ca F.g))) (hex:∀c∈Γ.ex,∃T:ECls K mg c,ca c=.ref T.C/\DS K T.C=some none)
  (hms:∀f F,Γ.mus.lookup f=some F->F.lv<=k/\Nonempty (DefX P w K mg base F.lv f F.ps (Fi K ca F.g))) (hmu:Γ.mu=false) (hgx:GxOk Γ.ox k P w K mg base ca) (hu:M8 n Γ (Fz st)=some u):FnOk P w K mg base (Cc P w) (k+1) f fd ps (Br K ca (Aa ps.length N.length u)):=by
 refine Oa F S (λvs H Q E h=>?_) λcdv A outer s H vs Q E hr h=>?_
 .obtain⟨F',ts,_,r,q⟩:=h;unfold Aa at q
  by_cases hl:ts.length=ps.length
  .rw[<- r.1,hl]
  grind
 .have C:CxOk Γ (Em (Cc P w) P w K mg base N qual (DJ st) f cdv A outer s H E) (λ_=>E) ca:=by
   refine⟨hΓ.symm,by rw[hΓ];exact S.nd,hnm.symm,S.kind,rfl,by rw[hlv];exact hr,λy hy=>⟨rfl,hce y hy⟩,hbl,Vz,λ_=>PassesOwn.leaving,λ_=>Xx,Xm,λf F e=>by rw[hlv];exact hfs f F e,hex,λf F e=>by rw[hlv];exact hms f F e,by rw[hlv];exact hgx,λ_=>⟨rfl,rfl⟩,⟨_,_,rfl,rfl⟩⟩
  have G:=(Yj ca n).ss C hu;rw[hmu]at G;refine⟨_,G,?_⟩;exact zn3 h
theorem zer{K}(fh:Af F H)(r0:Rp K F H t0 x0 A)(r:Ar K F ts vs):StR K F H (start N (x0::vs)) ((t0::ts).map some++List.replicate (N.length - (t0::ts).length) none) (λi=>if i=0 then A else R0):=by
 have hl:=r.1;refine⟨fh,by simp[L2.start,hl],λi t e=>?_,λi a z=>?_,λi j a hij z1 z2=>?_⟩
 .unfold L2.start
  by_cases hi:i<(t0::ts).length
  .rw[ć (by simpa using hi),Ä]at e
   obtain⟨t',e1,e2⟩:=à.mp e;cases e2;cases i with
   |zero=>cases e1;exact⟨x0,by simp,r0⟩|succ i=>
    have hi' :=by simpa using hi
    have hv:i<vs.length:=by omega
    refine⟨vs[i],?_,(r.2 i t vs[i] (by simpa using e1) (Â hv)).any⟩
    rw[ć (by simpa using hv),Ä,Ū,Â hv]
    rfl
  grind
 .by_cases hi:i=0
  .subst hi;exact⟨t0,rfl⟩
  .erw[hi,É]at z;exact z.elim
 .by_cases hi:i=0
  .have hj:¬ j=0:=λz=>hij (hi.trans z.symm)
   erw[hj,É]at z2;exact z2
  .erw[hi,É]at z1;exact z1
theorem zj6:tot (λi=>if i=0 then A else R0)=A:=funext λa=>propext ⟨λzz=>by
 obtain⟨i,z⟩:=zz;by_cases hi:i=0
 .grind
 .erw[hi]at z;exact z.elim,λz=>⟨0,by simpa using z⟩⟩
theorem BX{α:Type}{P:α->Prop}:∀x∈([]:List α),P x:=λ_ h=>by cases h
theorem BM{α:Type}{P:α->Prop}{a}{l}(h:P a)(r:∀x∈l,P x):∀x∈a::l,P x:=λx hx=>by
 obtain rfl|hx:=Ï.mp hx
 .exact h
 .exact r x hx
theorem IA{P:k9->Prop}(h:P []):∀us,us.length=0->P us:=λus e=>by
 cases us with
 |nil=>exact h|cons a r=>cases e
theorem Cj{P:k9->Prop}(h:∀a us,us.length=k->P (a::us)):∀us,us.length=k+1->P us:=λus e=>by
 cases us with
 |nil=>cases e|cons a r=>exact h a r (Nat.succ.inj e)
theorem Sr{P:k9->Prop}(h:∀a,P [a]):∀us:k9,us.length=1->P us:=Cj λa=>IA (h a)
theorem Gu{P:k9->Prop}(h:∀a b,P [a,b]):∀us:k9,us.length=2->P us:=Cj λa=>Cj λb=>IA (h a b)
theorem Kq{P:k9->Prop}(h:∀a b c,P [a,b,c]):∀us,us.length=3->P us:=Cj λa=>Cj λb=>Cj λc=>IA (h a b c)
theorem Nu{P:k9->Prop}(h:∀a b c d,P [a,b,c,d]):∀us,us.length=4->P us:=Cj λa=>Cj λb=>Cj λc=>Cj λd=>IA (h a b c d)
theorem Nt{P:k9->Prop}(h:∀a b c d e,P [a,b,c,d,e]):∀us,us.length=5->P us:=Cj λa=>Cj λb=>Cj λc=>Cj λd=>Cj λe=>IA (h a b c d e)
theorem Nr{P:k9->Prop}(h:∀a b c d e f,P [a,b,c,d,e,f]):∀us,us.length=6->P us:=Cj λa=>Cj λb=>Cj λc=>Cj λd=>Cj λe=>Cj λf=>IA (h a b c d e f)
section
variable {P:Program}{w:World}{K:k6}{mg:Str->Option Value}{base:Heap}{ca:Str->Value}{k:Nat}
theorem Ao:∀f F,([]:List (Str×Fn)).lookup f=some F->F.lv<=k/\Nonempty (DefX P w K mg base F.lv f F.ps (Br K ca F.g)):=λ_ _ h=>by cases h
theorem zif{F0:Fn}(hk:F0.lv<=k)(D:DefX P w K mg base F0.lv x F0.ps (Br K ca F0.g))(r:∀f F,l.lookup f=some F->F.lv<=k/\Nonempty (DefX P w K mg base F.lv f F.ps (Br K ca F.g))) :
  ∀f F,((x,F0)::l).lookup f=some F->F.lv<=k/\Nonempty (DefX P w K mg base F.lv f F.ps (Br K ca F.g)):=λf F h=>by
 rw[ĉ]at h;cases hf:f == x with
 |true=>rw[hf]at h;cases h;rw[eq_of_beq hf];exact⟨hk,⟨D⟩⟩|false=>rw[hf]at h;exact r f F h
theorem Oo:∀f F,([]:List (Str×Fn)).lookup f=some F->F.lv<=k/\Nonempty (DefX P w K mg base F.lv f F.ps (Fi K ca F.g)):=λ_ _ h=>by cases h
def LH(K:k6):Sp:=λvs H Q _=>∃(a:Addr) (ns:kF),vs=[.ref a]/\Hn K H a (ns.map V.int)/\ns.length<=63/\∀H',Q (.bl true) H'
theorem Hn.of(hO:NQ H)(h:Am K H a xs):Hn K H a xs:=by
 rcases h with (h|h)|h
 .rcases hO a with z|⟨o,ys,z⟩<;>rw[h]at z<;>cases z
 .exact .inl h
 .exact .inr h
def Cs(ns:kF):T:=.nd false .rl (ns.map T.int)
theorem VZ:∀ns:kF,Ar K F (ns.map T.int) (ns.map V.int)
 |[]=>.nil|n::r=>.cons (H:=F) (.int n) (VZ r)
theorem zou(F:FnOk P w K mg base (Cc P w) k f fd ["_law_script"] (Br K ca R))(h:∀ns,ns.length<=63->R [Cs ns]=some (.ok (.bl true))):FnOk P w K mg base K5 k f fd ["_law_script"] (LH K):=by
 refine⟨λvs H Q E hs=>?_,λA outer s H args us vs Q E hr e0 hb hv hs=>?_⟩
 .obtain⟨a,ns,rfl,_⟩:=hs
  rfl
 .obtain⟨a,ns,rfl,hq,h63,q⟩:=hs;refine ą (F.run A outer s H args us _ Q E0 hr e0 hb hv ⟨H,[Cs ns],.refl _,.cons (H:=H) (Ar.of_node hq (VZ ns)) .nil,?_⟩) λr s' hx=>?_
  .rw[h ns h63];intro F' H' z C e r;rw[r.bl_inv];exact q H'
  .cases r with
   |error v=>obtain⟨_,_,_,_,_,_,_,_,_,_,_,_,z⟩:=hx;exact z.elim
   |ok fl=>cases fl<;>exact hx
end
def Fk(C:Addr)(fs:kE)(k n:Nat)(u:AH)(p:Addr)(ts:kL):Option Ru:=if ts.length+1=k then (match u ((T.oob p C fs []::ts).map some++List.replicate (n - (ts.length+1)) none) with
 |some (.nx τ)=>(match Fm τ 0 C fs with
  |some (q,l)=>if q=p then some (.ok (.obj (.ins C fs) (Bc l))) else none
  |none=>none)
 |some (.xc c _)=>some (.exc c)|_=>none) else none
open Classical in
def Ed(C:Addr)(fs:kE)(k n:Nat)(u:AH)(ts:kL):Option Ru:=if h:∃r,∀p,Fk C fs k n u p ts=some r then some h.choose else none
theorem OU(h:∀p,Fk C fs k n u p ts=some r):Ed C fs k n u ts=some r:=by
 have hx:∃r,∀p,Fk C fs k n u p ts=some r:=⟨r,h⟩;unfold Ed;rw[dif_pos hx];have e:=(hx.choose_spec 0).symm.trans (h 0);exact e
theorem VX(h:Ed C fs k n u ts=some r)(p):Fk C fs k n u p ts=some r:=by
 unfold Ed at h;split at h
 .rename_i hx;cases h;exact hx.choose_spec p
 .cases h
theorem zpi{P:Program}{w:World}{K:k6}{base:Heap}{x qual:Str}{st:Stmt}{f:Addr}{N ps:kE}{k n:Nat}{Γ:Gm}{u:AH}{C:Addr}{fs:kE}(F:FunD K x qual st f fd)(S:FnScope N ps (DJ st))
  (hΓ:Γ.N=N) (hnm:Γ.nm=(DJ st).names) (hce:∀x∈Γ.ce,Γ.nm.lookup x=some .cell) (hlv:Γ.lv=k) (hbl:∀b∈Γ.bl,mg b=none)
  (hfs:∀f F,Γ.fns.lookup f=some F->F.lv<=k/\Nonempty (DefX P w K mg base F.lv f F.ps (Br K ca F.g))) (hex:∀c∈Γ.ex,∃T:ECls K mg c,ca c=.ref T.C/\DS K T.C=some none)
  (hms:∀f F,Γ.mus.lookup f=some F->F.lv<=k/\Nonempty (DefX P w K mg base F.lv f F.ps (Fi K ca F.g))) (hmu:Γ.mu=false) (hgx:GxOk Γ.ox k P w K mg base ca) (hu:M8 n Γ (Fz st)=some u):FnOk P w K mg base (Cc P w) (k+1) f fd ps (JP K ca C (Ed C fs ps.length N.length u)):=by
 refine Oa F S (λvs H Q E h=>?_) λcdv A outer s H vs Q E hr h=>?_
 .obtain⟨F',p,dx,ts,vs',_,rfl,_,_,r,q⟩:=h;cases hg:Ed C fs ps.length N.length u ts with
  |none=>rw[hg]at q;exact q.elim|some rr=>
   have h0:=VX hg 0;unfold Fk at h0
   by_cases hl:ts.length+1=ps.length
   .rw[Ý,<- r.1,hl]
   .rw[if_neg hl]at h0;cases h0
 .have CC:CxOk Γ (Em (Cc P w) P w K mg base N qual (DJ st) f cdv A outer s H E) (λ_=>E) ca:=by
   refine⟨hΓ.symm,by rw[hΓ];exact S.nd,hnm.symm,S.kind,rfl,by rw[hlv];exact hr,λy hy=>⟨rfl,hce y hy⟩,hbl,Vz,λ_=>PassesOwn.leaving,λ_=>Xx,Xm,λf F e=>by rw[hlv];exact hfs f F e,hex,λf F e=>by rw[hlv];exact hms f F e,by rw[hlv];exact hgx,λ_=>⟨rfl,rfl⟩,⟨_,_,rfl,rfl⟩⟩
  have G:=(Yj ca n).ss CC hu;rw[hmu]at G;refine⟨_,G,?_⟩;obtain⟨F',p,dx,ts,vs',fh,rfl,fp,hp,r,q⟩:=h;have r0:Rp K F' H (.oob p C fs []) (.ref p) (λa=>a=p\/∃j:Nat,R0 a):=.oob (xs:=[]) (λ_=>R0) fp (by rw[List.zip_nil_right];exact hp) rfl (λi t x h=>by simp at h) (λ_ _ _ _ z=>z.elim) (λ_ z=>z) (λ_ _ z=>z.elim)
  have hA:(λa=>a=p\/∃j:Nat,R0 a)=λa=>a=p:=funext λa=>propext ⟨λz=>z.elim id λ⟨_,w⟩=>w.elim,λz=>.inl z⟩
  refine⟨F',_,_,zer fh r0 r,?_⟩;unfold pS;rw[zj6,hA];cases hg:Ed C fs ps.length N.length u ts with
  |none=>rw[hg]at q;exact q.elim|some rr=>
   rw[hg]at q;have h0:=VX hg p;unfold Fk at h0
   by_cases hl:ts.length+1=ps.length
   .rw[if_pos hl]at h0;have el:(T.oob p C fs []::ts).length=ts.length+1:=rfl;rw[el];cases ho:u ((T.oob p C fs []::ts).map some++List.replicate (N.length - (ts.length+1)) none) with
    |none=>rw[ho]at h0;cases h0|some o=>
     rw[ho]at h0;cases o with
     |nx τ=>
      simp only at h0;intro F1 H1 σ1 R1 s1 S1;cases hoo:Fm τ 0 C fs with
      |none=>rw[hoo]at h0;cases h0|some ql=>
       obtain⟨q0,l⟩:=ql;rw[hoo]at h0;simp only at h0
       by_cases hq:q0=p
       .rw[if_pos hq]at h0;subst hq;cases h0;have h00:=O9 hoo;have S2:=S1.frz h00;obtain⟨y,ey,ry⟩:=S1.rep 0 _ h00;obtain⟨dx2,xs2,Rr,rfl,hA2,fp2,hp2,ro,dp⟩:=ry.oob_inv;have n1:∀a,R1 0 a->F1 a=none:=λa z=>(S1.dom z).1
        have r2:=ry.share (H':=H1) (FA (H:=H1) n1) λa u z q=>by rw[Gh z];exact q
        simp only at q;refine q (frz F1 H1 (R1 0)) H1 ⟨s1.ff.trans (FA n1),Ia S1.fh,s1.kp,λb z=>z.elim,λb u e=>?_⟩ r2
        by_cases hb:R1 0 b
        .exact(s1.nw b ⟨0,hb⟩).elim (λz=>.inr (.inl z)) λz=>.inr (.inr z)
        .rw[Fy hb]at e;exact s1.nf b u e
       .rw[if_neg hq]at h0;cases h0
     |rt t=>cases h0|bk τ=>cases h0|ct τ=>cases h0|xc c τ=>cases h0;simp only at q;exact λF1 H1 σ1 R1 s1 S1=>q F1 H1 (s1.mono λ_ z=>z.elim)
   .rw[if_neg hl]at h0;cases h0
theorem CJ{κ α:Type} [BEq κ]{P:κ->α->Prop}:∀y b,[].lookup y=some b->P y b:=λ_ _ h=>by cases h
theorem C0{κ α:Type} [BEq κ] [LawfulBEq κ]{P:κ->α->Prop}{x}{a}{l}(h:P x a)(r:∀y b,l.lookup y=some b->P y b):∀y b,((x,a)::l).lookup y=some b->P y b:=λy b e=>by
 rw[ĉ]at e;cases hf:y == x with
 |true=>rw[hf]at e;cases e;rw[eq_of_beq hf];exact h|false=>rw[hf]at e;exact r y b e
theorem OW{K}:∀ys:kE,Ar K F (ys.map T.str) (ys.map V.str)
 |[]=>.nil|y::r=>.cons (H:=F) (.str y) (OW r)
theorem L8{P:Str->Fn->List (Nat×kL)->Prop}:∀x F ds,[].lookup x=some (F,ds)->P x F ds:=λ_ _ _ h=>by cases h
theorem L9{P:Str->Fn->List (Nat×kL)->Prop}(h:P x0 F0 d0)(r:∀x F ds,l.lookup x=some (F,ds)->P x F ds):∀x F ds,((x0,F0,d0)::l).lookup x=some (F,ds)->P x F ds:=λx F ds e=>by
 rw[ĉ]at e;cases hf:x == x0 with
 |true=>rw[hf]at e;cases e;rw[eq_of_beq hf];exact h|false=>rw[hf]at e;exact r x F ds e
def aB(K:k6)(C:Addr):=(M1 K C,W.subIn K (.ref C) (.ref C),(W.clsIn K C).isSome,W.typeIn K (.ref C),W.findIn K (.ref C) "__getattribute__",W.findIn K (.ref C) "__getattr__",W.findIn K (.ref C) "__class__",W.mroIn K C (.type "object"),W.mroIn K C (.type "BaseException"))
def Jo{K:k6}{mg:Str->Option Value}{x:Str}(g:W.specialIn K (.builtin "object.__class__") "__get__"=some (some (.builtin "getset_descriptor.__get__"))/\W.takesIn K (.builtin "object.__class__")=some true)(C:Addr)(m:mg x=some (.ref C))(h:aB K C=(true,some true,true,some (.type "type"),some (some (.builtin "BaseException.__getattribute__")),some none,some (some (.builtin "object.__class__")),some true,some true)):ECls K mg x:=⟨C,m,by
 unfold aB at h;erw[Prod.mk.injEq,ŭ]at h;obtain⟨h1,h2,h3,h4,h5,h6,h7,h8,h9⟩:=h;exact⟨h1,h2,h3,h4,h5,h6,h7,h8,h9,g.1,g.2⟩⟩
theorem Sa{K:k6}{W:Str}{ca:Str->Value}{cs:List (Str×Addr)}(T:ECls K mg W)(h:(cs.all λe=>(match ca e.1 with|.ref a=>a == e.2|_=>false) && PySem.W.subIn K (.ref e.2) (.ref T.C) == some true)=true):∃T:ECls K mg W,∀c C,cs.lookup c=some C->ca c=.ref C/\PySem.W.subIn K (.ref C) (.ref T.C)=some true:=⟨T,λc C hl=>by
 have h:=Þ.mp h _ (đ hl);rw[Ê]at h;refine⟨?_,eq_of_beq h.2⟩;have h:=h.1;cases e:ca c with
 |ref a=>erw[e]at h;rw[eq_of_beq h]|_=>erw[e]at h;cases h⟩
theorem An{G:Gx}{lv:Nat}{P:Program}{w:World}{K:k6}{base:Heap}{ca}
  (co:∀x t,G.co.lookup x=some t->∃u v,mg x=some u/\Ab v u/\∀F:Hp,Rp K F F t v R0:=by exact CJ)
  (cl:∀c∈G.cl,Cls K c.2.1/\∀f∈c.2.2,Cb K c.2.1 f:=by exact BX)
  (mt:∀c∈G.mt,c.2.2.2.lv<=lv/\Nonempty (MetX P w K mg base c.2.1 c.1 c.2.2.2.lv c.2.2.2.ps (Br K ca c.2.2.2.g)):=by exact BX)
  (nw:∀x F ds,G.nw.lookup x=some (F,ds)->F.lv+1<=lv/\∃(C:Addr) (D:NewX P w K mg base x C F.lv F.ps (JP K ca C F.g)),∀k dts,ds.lookup k=some dts->∃dvs us,Cr K D.fd F.ps us/\Al dvs us/\∀H:Hp,Ar K H dts dvs:=by exact L8)
  (sf:∀C fs,G.sf=some (C,fs)->Cls K C/\∀f∈fs,Cb K C f:=by exact(λ_ _ h=>by cases h))
  (xs:∀W cs,G.xs.lookup W=some cs->∃T:ECls K mg W,∀c C,cs.lookup c=some C->ca c=.ref C/\PySem.W.subIn K (.ref C) (.ref T.C)=some true:=by exact CJ)
  (sb:∀D tb,G.sb.lookup D=some tb->∃A:Addr,mg D=some (.ref A)/\∀C b,tb.lookup C=some b->ExcK K C/\PySem.W.kitOne K (.ref C) (.ref A)=some b:=by exact CJ)
  (sv:∀D tb,G.sv.lookup D=some tb->mg D=none/\∃t,bootBuiltins D=some (.type t)/\∀C b,tb.lookup C=some b->ExcK K C/\PySem.W.kitOne K (.ref C) (.type t)=some b:=by exact CJ)
  (ci:∀x tb,G.ci.lookup x=some tb->∃D:Addr,mg x=some (.ref D)/\(∀C b,tb.lookup C=some b->ICls K C/\PySem.W.kitOne K (.ref C) (.ref D)=some b)/\(Kr.all λa=>PySem.W.kitOne K (.type a) (.ref D) == some false)=true:=by exact CJ)
  (x2:∀W1 W2 cs,(W1,W2,cs)∈G.x2->∃(T1:ECls K mg W1) (T2:ECls K mg W2),∀c C,cs.lookup c=some C->ca c=.ref C/\PySem.W.subIn K (.ref C) (.ref T1.C)=some false/\PySem.W.subIn K (.ref C) (.ref T2.C)=some true:=by exact(λ_ _ _ h=>by cases h))
  (wd:∀x F,G.wd.lookup x=some F->F.lv<=lv/\∃p,F.ps=[p]/\Nonempty (DefS P w K mg base F.lv x p (Br K ca F.g)):=by exact CJ)
  (ti:∀C∈G.ti,TiOk K C:=by exact BX)
  (dn:∀x y,G.dn.lookup x=some y->y.1.lv<=lv/\∃(D:DefX P w K mg base y.1.lv x y.1.ps (Br K ca y.1.g)) (dvs:kK),DefsX K D.fd y.1.ps dvs/\∀H:Hp,Ar K H y.2 dvs:=by exact CJ)
  (rn:∀y,G.rn=some y->y.2+1<=lv/\Nonempty (StpX P w K mg base "NoRun" y.1 y.2)/\ca "NoRun"=.ref y.1:=by exact(λ_ h=>by cases h))
  : GxOk G lv P w K mg base ca:=⟨co,cl,mt,nw,sf,xs,sb,sv,ci,x2,wd,ti,dn,rn⟩
theorem Tw{N ps:kE}(h:(sc.kind=.function/\sc.isCoroutine=false/\sc.isGenerator=false)/\N.Nodup/\N.take ps.length=ps/\(∀x∈ps,sc.names.lookup x=some .local\/sc.names.lookup x=some .cell)/\∀y∈sc.names,y.2≠.free):FnScope N ps sc:=⟨h.1.1,h.1.2.1,h.1.2.2,h.2.1,h.2.2.1,h.2.2.2.1,h.2.2.2.2⟩
class Qx (P:outParam Program) (w:outParam World) (K:outParam k6) (mg:outParam (Str->Option Value)) (base:outParam Heap) (ca:outParam (Str->Value)):Prop where
  c:∀(x:Str) (u:Value),W.nsIn K mainGlobals x=some (some u)->mg x=some u
  n:∀x:Str,W.nsIn K mainGlobals x=some none->mg x=none
structure Ck(Γ:Gm)(f:Fn)(st:Stmt)(u:AH):Prop where
 s:FnScope Γ.N f.ps (DJ st):=by exact Tw (by decide +kernel)
 k:M8 200 Γ (Fz st)=some u:=by ext
 n:Γ.nm=(DJ st).names:=by rfl
theorem A2{K:k6}{k:Nat}{x:Str}{F0:Fn}(D:DefX P w K mg base F0.lv x F0.ps (Br K ca F0.g))(r:∀f F,l.lookup f=some F->F.lv<=k/\Nonempty (DefX P w K mg base F.lv f F.ps (Br K ca F.g)))(hk:F0.lv<=k:=by decide) :
  ∀f F,((x,F0)::l).lookup f=some F->F.lv<=k/\Nonempty (DefX P w K mg base F.lv f F.ps (Br K ca F.g)):=zif hk D r
abbrev gF(x qual:Str)(s:Stmt)(d:Value)(m:Str)(t c:Nat)(y:Value):FuncData:=W.fnOf x qual (M6 s) (Fz s) (DJ s) d .none .none (.str m t) none (.ref c) y
def fO(a b:Str)(s:Stmt)(d:Value)(m:Str)(t c:Nat)(y:Value):Obj:=⟨(.type "function"),none,(.func (gF a b s d m t c y)),Array.mk []⟩
def gO(a:Str)(s:Stmt)(m:Str)(t c:Nat):Obj:=fO a a s .none m t c .none
noncomputable def Xb(K:k6)(b:Str):Bool:=match W.nsIn K mainGlobals b with
 |some none=>true|_=>false
def GO(K:k6)(x:Str)(a:Addr):Bool:=match W.nsIn K mainGlobals x with
 |some (some (.ref b))=>b == a|_=>false
def Ig(K:k6)(qual:Str)(a c:Nat)(Γ:Gm)(f:Fn):Bool:=W.codeIn K (.ref c) qual && W.keepIn K (.ref a) && Γ.bl.all (Xb K) && Γ.ce.all (λx=>Γ.nm.lookup x == some .cell) && !Γ.mu && (Γ.lv+1 == f.lv)
structure Chk(K:k6)(mg:Str->Option Value)(qual:Str)(a c:Nat)(Γ:Gm)(f:Fn):Prop where
 c:W.codeIn K (.ref c) qual=true
 k:W.keepIn K (.ref a)=true
 b:∀b∈Γ.bl,mg b=none
 e:∀x∈Γ.ce,Γ.nm.lookup x=some .cell
 m:Γ.mu=false
 l:Γ.lv+1=f.lv
theorem zpr{K} [q:Qx P w K mg base ca](h:Ig K qual a c Γ f=true):Chk K mg qual a c Γ f:=by
 unfold Ig at h;erw[Ê,Þ]at h;obtain⟨⟨⟨⟨⟨h1,h2⟩,h3⟩,h4⟩,h5⟩,h6⟩:=h;refine⟨h1,h2,λb hb=>q.n b ?_,λx hx=>eq_of_beq (h4 x hx),DY h5,eq_of_beq h6⟩
 have:=h3 b hb;unfold Xb at this;split at this
 .assumption
 .cases this
theorem ref_ok{K} [q:Qx P w K mg base ca](h:GO K x a=true):mg x=some (.ref a):=by
 unfold GO at h;split at h
 .rename_i b e;rw[<- eq_of_beq h];exact q.c _ _ e
 .cases h
structure AY(P:Program)(w:World)(K:k6)(mg:Str->Option Value)(base:Heap)(ca:Str->Value)(x qual:Str)(st:Stmt)(d:Value)(mo:Str)(t c:Nat)(y:Value)(Γ:Gm)(f:Fn)(V:Params->Obj)(a:Addr):Prop where
 fs:∀g F,Γ.fns.lookup g=some F->F.lv<=Γ.lv/\Nonempty (DefX P w K mg base F.lv g F.ps (Br K ca F.g))
 gx:GxOk Γ.ox Γ.lv P w K mg base ca
 ex:∀c∈Γ.ex,∃T:ECls K mg c,ca c=.ref T.C/\DS K T.C=some none
 ms:∀g F,Γ.mus.lookup g=some F->F.lv<=Γ.lv/\Nonempty (DefX P w K mg base F.lv g F.ps (Fi K ca F.g))
 h:Chk K mg qual a c Γ f
 F:FunD K x qual st a (gF x qual st d mo t c y)
section
variable {P:Program}{w:World}{K:k6}{mg:Str->Option Value}{base:Heap}{ca:Str->Value} [q:Qx P w K mg base ca]{x mo qual:Str}{st:Stmt}{t c:Nat}{d y:Value}{Γ:Gm}{f:Fn}{u:AH}{V:Params->Obj}{a C:Addr}{fs:kE}
theorem Rv(hfs:∀g F,Γ.fns.lookup g=some F->F.lv<=Γ.lv/\Nonempty (DefX P w K mg base F.lv g F.ps (Br K ca F.g)))(hgx:GxOk Γ.ox Γ.lv P w K mg base ca)(hex:∀c∈Γ.ex,∃T:ECls K mg c,ca c=.ref T.C/\DS K T.C=some none)(hms:∀g F,Γ.mus.lookup g=some F->F.lv<=Γ.lv/\Nonempty (DefX P w K mg base F.lv g F.ps (Fi K ca F.g)))
  (ho:V w.params=fO x qual st d mo t c y) (l:K.lookup a=some (V w.params)) (h:Ig K qual a c Γ f=true):AY P w K mg base ca x qual st d mo t c y Γ f V a:=
 have h:=zpr h
 ⟨hfs,hgx,hex,hms,h,Yo (l.trans (congrArg some ho)) h.c h.k⟩
theorem Aw(hfs:∀g F,Γ.fns.lookup g=some F->F.lv<=Γ.lv/\Nonempty (DefX P w K mg base F.lv g F.ps (Br K ca F.g)))(hgx:GxOk Γ.ox Γ.lv P w K mg base ca)(hex:∀c∈Γ.ex,∃T:ECls K mg c,ca c=.ref T.C/\DS K T.C=some none:=by exact BX)(hms:∀g F,Γ.mus.lookup g=some F->F.lv<=Γ.lv/\Nonempty (DefX P w K mg base F.lv g F.ps (Fi K ca F.g)):=by exact Oo)
  (ho:V w.params=fO x x st d mo t c y:=by exact rfl) (l:K.lookup a=some (V w.params):=by ext) (h:Ig K x a c Γ f=true:=by ext) (m:GO K x a=true:=by ext) (hg:f.g=Aa f.ps.length Γ.N.length u:=by rfl)
  (b:Cr K (gF x x st d mo t c y) f.ps []:=by first|exact .all (Sr λ_=>rfl)|exact .all (Gu λ_ _=>rfl)|exact .all (Kq λ_ _ _=>rfl)|exact .all (Nu λ_ _ _ _=>rfl)|exact .all (Nt λ_ _ _ _ _=>rfl)|exact .all (Nr λ_ _ _ _ _ _=>rfl)):AY P w K mg base ca x x st d mo t c y Γ f V a/\GO K x a=true/\f.g=Aa f.ps.length Γ.N.length u/\Cr K (gF x x st d mo t c y) f.ps []:=⟨Rv hfs hgx hex hms ho l h,m,hg,b⟩
theorem Hj(hfs:∀g F,Γ.fns.lookup g=some F->F.lv<=Γ.lv/\Nonempty (DefX P w K mg base F.lv g F.ps (Br K ca F.g)))(hgx:GxOk Γ.ox Γ.lv P w K mg base ca)(hex:∀c∈Γ.ex,∃T:ECls K mg c,ca c=.ref T.C/\DS K T.C=some none:=by exact BX)(hms:∀g F,Γ.mus.lookup g=some F->F.lv<=Γ.lv/\Nonempty (DefX P w K mg base F.lv g F.ps (Fi K ca F.g)):=by exact Oo)
  (ho:V w.params=fO x qual st d mo t c y:=by exact rfl) (l:K.lookup a=some (V w.params):=by ext) (h:Ig K qual a c Γ f=true:=by ext) (me:Meth K C x a:=by exact⟨by ext,by ext,by ext⟩) (hg:f.g=Aa f.ps.length Γ.N.length u:=by rfl)
  (b:Cr K (gF x qual st d mo t c y) f.ps []:=by first|exact .all (Sr λ_=>rfl)|exact .all (Gu λ_ _=>rfl)|exact .all (Kq λ_ _ _=>rfl)|exact .all (Nu λ_ _ _ _=>rfl)|exact .all (Nt λ_ _ _ _ _=>rfl)|exact .all (Nr λ_ _ _ _ _ _=>rfl)):AY P w K mg base ca x qual st d mo t c y Γ f V a/\Meth K C x a/\f.g=Aa f.ps.length Γ.N.length u/\Cr K (gF x qual st d mo t c y) f.ps []:=⟨Rv hfs hgx hex hms ho l h,me,hg,b⟩
theorem bT{z}(hfs:∀g F,Γ.fns.lookup g=some F->F.lv<=Γ.lv/\Nonempty (DefX P w K mg base F.lv g F.ps (Br K ca F.g)))(hgx:GxOk Γ.ox Γ.lv P w K mg base ca)(hex:∀c∈Γ.ex,∃T:ECls K mg c,ca c=.ref T.C/\DS K T.C=some none:=by exact BX)(hms:∀g F,Γ.mus.lookup g=some F->F.lv<=Γ.lv/\Nonempty (DefX P w K mg base F.lv g F.ps (Fi K ca F.g)):=by exact Oo)
  (ho:V w.params=fO x qual st d mo t c y:=by exact rfl) (l:K.lookup a=some (V w.params):=by ext) (h:Ig K qual a c Γ f=true:=by ext) (m:GO K z C=true:=by ext) (ma:Mk K C a:=by exact⟨by ext,by ext,by ext,by ext⟩) (hg:f.g=Ed C fs f.ps.length Γ.N.length u:=by rfl):AY P w K mg base ca x qual st d mo t c y Γ f V a/\GO K z C=true/\Mk K C a/\f.g=Ed C fs f.ps.length Γ.N.length u:=⟨Rv hfs hgx hex hms ho l h,m,ma,hg⟩
def Av(V:Params->Obj)(a:Addr)(S:Ck Γ f st u)(A:AY P w K mg base ca x x st d mo t c y Γ f V a/\GO K x a=true/\f.g=Aa f.ps.length Γ.N.length u/\Cr K (gF x x st d mo t c y) f.ps []):DefX P w K mg base f.lv x f.ps (Br K ca f.g):=
 ⟨a,_,by rw[A.2.2.1,<- A.1.h.l];exact ZM A.1.F S.s rfl S.n A.1.h.e rfl A.1.h.b A.1.fs A.1.ex A.1.ms A.1.h.m A.1.gx S.k,ref_ok A.2.1,A.1.h.k,A.2.2.2⟩
def Hh(V:Params->Obj)(a:Addr)(S:Ck Γ f st u)(cl:Cls K C)(A:AY P w K mg base ca x qual st d mo t c y Γ f V a/\Meth K C x a/\f.g=Aa f.ps.length Γ.N.length u/\Cr K (gF x qual st d mo t c y) f.ps []):MetX P w K mg base C x f.lv f.ps (Br K ca f.g):=
 ⟨a,_,cl,A.2.1,by rw[A.2.2.1,<- A.1.h.l];exact ZM A.1.F S.s rfl S.n A.1.h.e rfl A.1.h.b A.1.fs A.1.ex A.1.ms A.1.h.m A.1.gx S.k,A.2.2.2⟩
def aJ(z:Str)(C:Addr)(fs:kE)(V:Params->Obj)(a:Addr)(S:Ck Γ f st u)(A:AY P w K mg base ca x qual st d mo t c y Γ f V a/\GO K z C=true/\Mk K C a/\f.g=Ed C fs f.ps.length Γ.N.length u):NewX P w K mg base z C f.lv f.ps (JP K ca C f.g):=
 ⟨a,gF x qual st d mo t c y,ref_ok A.2.1,A.2.2.1,by rw[A.2.2.2,<- A.1.h.l];exact zpi A.1.F S.s rfl S.n A.1.h.e rfl A.1.h.b A.1.fs A.1.ex A.1.ms A.1.h.m A.1.gx S.k⟩
end
theorem Rx:A5 (x::l) 0=some x:=by
 have:A5 (x::l) 0=some x:=CB rfl;exact this
theorem Ih:A5 (x::y::l) 1=some y:=by
 have:A5 (x::y::l) 1=some y:=CB rfl;exact this
theorem at2:A5 (x::y::z::l) 2=some z:=by
 have:A5 (x::y::z::l) 2=some z:=CB rfl;exact this
abbrev fr(a b:Int):T:=.tup [.int a,.int b]
section
variable {b:T->AK->Option AK}{body:AH}{mc:AI}
theorem FD   (I:Nat->AK->Prop)(h0:I 0 τ)(hs:∀i t τ,ts[i]?=some t->I i τ->∃τ1,b t τ=some τ1/\∃τ2,body τ1=some (.nx τ2)/\I (i+1) τ2):∃τ',BV b body ts τ=some (.nx τ')/\I ts.length τ':=by
 have key:∀(l ) (k ) (τ ),ts.drop k=l->k<=ts.length->I k τ->∃τ',BV b body l τ=some (.nx τ')/\I ts.length τ':=by
  intro l
  induction l with
  |nil=>
   intro k τ hd hk hI
   have:k=ts.length:=by
    have:=congrArg List.length hd;simp at this
    omega
   subst this;exact⟨τ,rfl,hI⟩
  |cons t l ih=>
   intro k τ hd hk hI
   have hlt:k<ts.length:=by
    grind
   rw[Ō hlt]at hd;injection hd with h1 h2
   obtain⟨τ1,e1,τ2,e2,hI2⟩:=hs k t τ (by rw[Â hlt,h1]) hI
   obtain⟨τ',e3,h3⟩:=ih (k+1) τ2 h2 hlt hI2;exact⟨τ',by unfold BV;erw[e1,e2];exact e3,h3⟩
 grind
theorem VR  (I:AK->Prop)(μ:AK->Nat)(h0:I τ)(hs:∀τ,I τ->(∃bb,mc τ=some (.v (.bl true) bb)/\∃τ2,body τ=some (.nx τ2)/\I τ2/\μ τ2<μ τ)\/∃bb,mc τ=some (.v (.bl false) bb)) :
  ∃τ',FO mc body τ=some (.nx τ')/\I τ'/\∃bb,mc τ'=some (.v (.bl false) bb):=by
 have key:∀(n ) (τ ),μ τ<n->I τ->∃τ',DN mc body n τ=some (.nx τ')/\I τ'/\∃bb,mc τ'=some (.v (.bl false) bb):=by
  intro n
  induction n with
  |zero=>simp|succ n ih=>
   intro τ hn hI
   rcases hs τ hI with ⟨bb,e1,τ2,e2,hI2,hm⟩|⟨bb,e1⟩
   .obtain⟨τ',e3,h3⟩:=ih τ2 (by omega) hI2
    exact⟨τ',by unfold DN;grind,h3⟩
   .exact⟨τ,by unfold DN;erw[e1],hI,bb,e1⟩
 obtain⟨τ',e,h⟩:=key (μ τ+1) τ (ħ _) h0;exact⟨τ',zn1 e,h⟩
theorem Px    (I:Nat->AK->Prop)(f )(h0:I 0 τ)(hs:∀i t τ,ts[i]?=some t->I i τ->∃τ1,b t τ=some τ1/\me τ1=some (.v (f i) false)/\I (i+1) τ1) :
  Ba b (mC (.bl true)) me ts τ=some ((List.range ts.length).map f):=by
 have key:∀(l ) (k ) (τ ),ts.drop k=l->k<=ts.length->I k τ->Ba b (mC (.bl true)) me l τ=some ((List.range' k l.length).map f):=by
  intro l
  induction l with
  |nil=>intro k τ _ _ _;rfl|cons t l ih=>
   intro k τ hd hk hI
   have hlt:k<ts.length:=by
    grind
   rw[Ō hlt]at hd;injection hd with h1 h2
   obtain⟨τ1,e1,e2,hI2⟩:=hs k t τ (by grind) hI
   have e3:=ih (k+1) τ1 h2 hlt hI2;unfold Ba;erw[e1,mC,e2,e3]
   rfl
 have:=key ts 0 τ rfl (õ _) h0;rw[this,<- List.range_eq_range']
end
theorem Fp{i j:Int}(h:Ec j=true):CY i j=true:=by unfold CY;grind
theorem Ew{i j:Int}(h:Ec i=true):CY i j=true:=by unfold CY;grind
theorem zky(h1:C7 i=true)(h2:C7 j=true):CY i j=true:=by unfold CY;grind
theorem DC(h1:-(2 ^ 64)<i)(h2:i<2 ^ 64):Ec i=true:=@decide_eq_true _ (Classical.propDecidable _) ⟨h1,h2⟩
theorem DB(h1:-(10 ^ 70)<i)(h2:i<10 ^ 70):C7 i=true:=@decide_eq_true _ (Classical.propDecidable _) ⟨h1,h2⟩
theorem fm{i j:Int}(h:0<j):i.fmod j=i % j:=Int.fmod_eq_emod_of_nonneg i (by omega)
theorem Hf{i j:Int}:Be (.int i) (.int j)=some (.bl (i == j)):=by
 rfl
theorem Dt{i j:Int}:Bz (.int i) (.int j)=some (.bl (!(i == j))):=by
 rfl
mutual
def Dj:PyData->Bool
 |.bool _=>false|.dict _=>false|.list xs=>GZ xs|.tuple xs=>GZ xs|_=>true
def GZ:List PyData->Bool
 |[]=>true|x::xs=>Dj x && GZ xs
end
mutual
theorem Zq:∀d d':PyData,Dj d=true->Dj d'=true->(PyData.eqv d d'=true ↔ d=d')
 |.none,d',_,h'=>by cases d'<;>simp[PyData.eqv,Dj]at h' ⊢|.int i,d',_,h'=>by cases d'<;>simp[PyData.eqv,Dj]at h' ⊢|.str x,d',_,h'=>by cases d'<;>simp[PyData.eqv,Dj]at h' ⊢|.bool _,_,h,_=>by simp[Dj]at h|.dict _,_,h,_=>by simp[Dj]at h|.list xs,d',h,h'=>by
  cases d' with
  |list ys=>
   have:=Qm xs ys (by simpa[Dj] using h) (by simpa[Dj] using h')
   erw[PyData.eqv];rw[this];simp
  |_=>simp[PyData.eqv,Dj]at h' ⊢
 |.tuple xs,d',h,h'=>by
  cases d' with
  |tuple ys=>
   have:=Qm xs ys (by simpa[Dj] using h) (by simpa[Dj] using h')
   erw[PyData.eqv];rw[this];simp
  |_=>simp[PyData.eqv,Dj]at h' ⊢
theorem Qm:∀xs ys:List PyData,GZ xs=true->GZ ys=true->(PyData.eqvAll xs ys=true ↔ xs=ys)
 |[],[],_,_=>by simp[PyData.eqvAll]|[],_::_,_,_=>by simp[PyData.eqvAll]|_::_,[],_,_=>by simp[PyData.eqvAll]|x::xs,y::ys,hx,hy=>by
  erw[GZ,Ê]at hx hy;have h1:=Zq x y hx.1 hy.1;have h2:=Qm xs ys hx.2 hy.2;erw[PyData.eqvAll,Ê,h1,h2,List.cons.injEq]
end
structure Fit(t:T)(n:Nat):Prop where
 fit:ES t=true
 nb:Dj t.data=true
 dep:t.data.depth<=n
theorem Fit.int(i)(n):Fit (.int i) n:=⟨rfl,rfl,by simp[T.data,PyData.depth]⟩
theorem Zh:∀{l} {n},(∀t∈l,Fit t n)->(EY l=true/\PyData.canLayAll0 (Bi l)=true)/\GZ (Bi l)=true/\PyData.depthAll (Bi l)<=n
 |[],n,_=>⟨⟨rfl,rfl⟩,rfl,õ _⟩|t::r,n,h=>by
  obtain⟨h1,h2,h3⟩:=h t (Ã ..);obtain⟨⟨g0,g1⟩,g2,g3⟩:=Zh λx hx=>h x (Å _ hx)
  unfold ES at h1;rw[Ê]at h1;refine⟨⟨by rw[EY,h1.1,g0];rfl,by rw[Bi,PyData.canLayAll0,h1.2,g1];rfl⟩,by rw[Bi,GZ,h2,g2];rfl,?_⟩
  rw[Bi,PyData.depthAll]
  omega
theorem Fit.nd(h:∀t∈l,Fit t n):Fit (.nd o k l) (n+1):=by
 obtain⟨g1,g2,g3⟩:=Zh h;cases k<;>exact⟨by simpa[ES,T.data,T.pln,PyData.canLay0] using g1,by simpa[T.data,Dj] using g2,by simpa[T.data,PyData.depth] using g3⟩
theorem Fit.tup{l:kL}{n:Nat}(h:∀t∈l,Fit t n):Fit (.tup l) (n+1):=Fit.nd h
theorem Fit.fr(a b):Fit (Pu.fr a b) 1:=Fit.tup λt ht=>by
 erw[Ï,ï,þ]at ht
 rcases ht with rfl|rfl<;>exact Fit.int _ _
open Classical in
theorem Qo{t u:T}{n m:Nat}(h:Fit t n)(h':Fit u m)(hn:n<=60):Be t u=some (.bl (decide (t.data=u.data)))/\Bz t u=some (.bl (!decide (t.data=u.data))):=by
 have ok:Hg t u=true:=by
  unfold Hg;rw[h.fit,h'.fit,Ñ (by have:=h.dep;omega)]
  rfl
 have e:Jm t u=decide (t.data=u.data):=by
  unfold Jm;rw[ś,Zq _ _ h.nb h'.nb];simp
 unfold Be Bz;rw[if_pos ok,if_pos ok,e];exact⟨rfl,rfl⟩
theorem Zr(h:Fit t n)(hn:n<=60)(e:t.data=u.data)(h':Fit u n):Be t u=some (.bl true)/\Bz t u=some (.bl false):=by
 have:=Qo h h' hn
 grind
theorem LJ:∀ns:kF,Bc (ns.map T.int)=ns.map T.int
 |[]=>rfl|n::r=>by rw[Ò,Bc,LJ r];rfl
theorem LK:∀ns:kF,Aq (ns.map T.int)=true
 |[]=>rfl|n::r=>by rw[Ò,Aq,LK r];rfl
theorem Ts(ns):(Cs ns).share=Cs ns:=by unfold Cs;rw[T.share,LJ]
theorem Tt(ns):(Cs ns).sh=true:=by unfold Cs;rw[T.sh,LK];rfl
theorem Me{x:α}(h0:0<=k)(h:l[k.toNat]?=some x):A5 l k=some x:=by
 have :=CB h
 grind
theorem Jp(f:α->β)(l)(lo hi):CT (l.map f) lo hi=(CT l lo hi).map f:=by
 unfold CT;simp
theorem zlu(l:List α)(lo hi):(CT l lo hi).length<=l.length:=by
 unfold CT
 grind
end Pu
namespace Zm
end Zm
namespace Db
open PySem
end Db
namespace Pu
open PySem PySem.Spec PyProof.Rows L2 Zw Zx
def mT(n:Nat)(g:Nat->T):kL:=(List.range n).map g
theorem nl0:((0:Nat):Int)=0:=rfl
theorem nl1:((1:Nat):Int)=1:=rfl
theorem nl2:((2:Nat):Int)=2:=rfl
theorem nl3:((3:Nat):Int)=3:=rfl
theorem nl4:((4:Nat):Int)=4:=rfl
theorem nl5:((5:Nat):Int)=5:=rfl
theorem nl6:((6:Nat):Int)=6:=rfl
theorem nl7:((7:Nat):Int)=7:=rfl
theorem nl8:((8:Nat):Int)=8:=rfl
theorem nl9:((9:Nat):Int)=9:=rfl
theorem zoq{k:Nat}(h:k<=100000):(k<=Bh)=True:=eq_true (by unfold Bh;omega)
theorem zop{k:Nat}(h:k<100000):(k<Bh)=True:=eq_true (by unfold Bh;omega)
section
variable {n:Nat}{g h:Nat->T}
theorem DG:(mT n g).length=n:=by simp[mT]
theorem HV{i:Nat}(hi:i<n):(mT n g)[i]?=some (g i):=by simp[mT,hi]
theorem G1(e:(mT n g)[i]?=some t):i<n/\t=g i:=by
 have hi:i<n:=by
  rcases Nat.lt_or_ge i n with q|q
  .exact q
  .rw[ò (by rw[DG];exact q)]at e
   cases e
 rw[HV hi]at e
 grind
theorem G2(hl:l.length=n)(h:∀i,i<n->l[i]?=some (g i)):l=mT n g:=by
 refine ē λi=>?_
 rcases Nat.lt_or_ge i n with q|q
 .rw[h i q,HV q]
 .rw[ò (by omega),ò (by rw[DG];exact q)]
theorem zhw(e:∀i,i<n->g i=h i):mT n g=mT n h:=G2 DG λi hi=>by rw[HV hi,e i hi]
theorem Fq{k:Nat}(h1:k<n):A5 (mT n g) (k:Int)=some (g k):=CB (HV h1)
theorem zon(ht:t∈mT n g):∃i,i<n/\t=g i:=by
 obtain⟨i,hi,e⟩:=Ë.mp ht
 grind
theorem zet:Bc (mT n g)=mT n λi=>(g i).share:=by
 rw[DW];unfold mT;rw[Ü]
 rfl
theorem Tu(e:∀i,(g i).sh=true):Aq (mT n g)=true:=by
 rw[Di,Þ];intro t ht;obtain⟨i,-,rfl⟩:=zon ht;exact e i
theorem zji(xs:Nat->Int):Aq (mT n λi=>.int (xs i))=true:=Tu λ_=>rfl
theorem YC:mT n g++[g n]=mT (n+1) g:=by
 unfold mT;rw[List.range_succ,ß]
 rfl
theorem YB{α:Type}(t:α->T)(xs:Nat->α)(r):mT n (λj=>t (xs j))++[t r]=mT (n+1) λj=>t (if j=n then r else xs j):=by
 rw[<- YC,if_pos rfl,zhw (g:=λj=>t (if j=n then r else xs j)) (h:=λj=>t (xs j)) λj hj=>by grind]
theorem Zy:∀(l) (k i:Nat) (t),l[i]?=some t->(Co k l)[i]?=some (.tup [.int (k+i:Nat),t])
 |[],_,_,_,e=>by simp at e|x::r,k,0,t,e=>by
  simp at e;subst e
  rfl
 |x::r,k,i+1,t,e=>by
  rw[Co];have:=Zy r (k+1) i t (by simpa using e)
  grind
theorem Zv:∀(l) (k),(Co k l).length=l.length
 |[],_=>rfl|x::r,k=>by rw[Co,Ý,Ý,Zv r]
theorem zls:Co 0 (mT n g)=mT n λi=>.tup [.int i,g i]:=by
 refine G2 (by rw[Zv,DG]) λi hi=>?_
 rw[Zy _ _ _ _ (HV hi),Nat.zero_add]
theorem zh4(lo:Int):DO lo n=mT n λi=>.int (lo+(i:Int)):=rfl
theorem EJ:DO 0 n=mT n λi=>.int (i:Int):=by
 rw[zh4];simp
theorem mT_of(l)(d):l=mT l.length λi=>l.getD i d:=G2 rfl λi hi=>by
 grind
variable {b:T->AK->Option AK}{body:AH}{me:AI}{τ:AK}
theorem Yr(I:Nat->AK->Prop)(h0:I 0 τ)(hs:∀i τ,i<n->I i τ->∃τ1,b (g i) τ=some τ1/\∃τ2,body τ1=some (.nx τ2)/\I (i+1) τ2):∃τ',BV b body (mT n g) τ=some (.nx τ')/\I n τ':=by
 have:=FD I h0 λi t τ e hI=>by
  obtain⟨hi,rfl⟩:=G1 e;exact hs i τ hi hI
 rwa[DG]at this
theorem EO   {cs:AK}(hs:∀i,i<n->me (some (g i)::cs)=some (.v (f i) false)):Ba (AD 0) (mC (.bl true)) me (mT n g) (x::cs)=some (mT n f):=by
 have:=Px (b:=AD 0) (ts:=mT n g) (λ_ τ=>∃y,τ=y::cs) f ⟨x,rfl⟩ λi t τ e hI=>by
  obtain⟨hi,rfl⟩:=G1 e;obtain⟨y,rfl⟩:=hI;exact⟨some (g i)::cs,by simp[AD],hs i hi,_,rfl⟩
 rw[this,DG]
 rfl
end
theorem Jt(p):En (mT n λi=>.bl (p i))=some ((List.range n).map p):=by
 unfold mT;generalize List.range n=l
 induction l with
 |nil=>rfl|cons x r ih=>erw[Ò,En,ih]
theorem EL{n:Nat}(h:n<=100000):DE n=true:=@decide_eq_true _ (Classical.propDecidable _) ⟨by omega,by omega⟩
theorem IF:∀ys ,Eb (ys.map T.str)=some ys
 |[]=>rfl|y::r=>by
  show(match Eb (r.map T.str) with|some l=>some (y::l)|none=>none)=_
  rw[IF r]
theorem Ae:∀ys:kE,Bc (ys.map T.str)=ys.map T.str
 |[]=>rfl|y::r=>by
  show T.str y::Bc (r.map T.str)=_;rw[Ae r]
  rfl
theorem AV:∀ys:kE,Aq (ys.map T.str)=true
 |[]=>rfl|y::r=>by
  show(true && Aq (r.map T.str))=true;rw[AV r]
  rfl
def CU(ys:kE):Prop:=∀y∈ys,PyData.strOk y=true
theorem Vn:∀ys:kE,EY (ys.map T.str)=true
 |[]=>rfl|y::r=>by
  show(true && EY (r.map T.str))=true;rw[Vn r]
  rfl
theorem YO:∀{ys},CU ys->PyData.canLayAll0 (Bi (ys.map T.str))=true/\PyData.depthAll (Bi (ys.map T.str))=0
 |[],_=>⟨rfl,rfl⟩|y::r,h=>by
  obtain⟨h1,h2⟩:=YO λx hx=>h x (Å _ hx)
  have h3:=h y (Ã ..);rw[Ò,Bi,PyData.canLayAll0,PyData.depthAll,h1,h2,T.data,PyData.canLay0,h3,PyData.depth];simp
theorem E5(hx:PyData.strOk x=true)(hy:PyData.strOk y=true):Be (.str x) (.str y)=some (.bl (decide (x=y))):=by
 have e:(x == y)=decide (x=y):=by rfl
 unfold Be Hg ES Jm;erw[T.data,T.pln,PyData.canLay0,PyData.depth,PyData.eqv,hx,hy,e];simp
theorem Fit.str(h:PyData.strOk x=true)(n):Fit (.str x) n:=⟨by unfold ES;rw[T.data,PyData.canLay0,h];rfl,rfl,by simp[T.data,PyData.depth]⟩
theorem bZ(x):∀ys:kE,((Bi (ys.map T.str)).any λy=>PyData.eqv y (.str x))=decide (x∈ys)
 |[]=>by rfl|y::r=>by
  have e:(y == x)=decide (x=y):=by grind
  rw[Ò,Bi,List.any_cons,bZ x r,T.data,PyData.eqv,e,ś,ĝ,ö,ö,ö,Ï]
theorem Jd     (h:CU ys)(hx:PyData.strOk x=true):CM (.str x) (.nd o k (ys.map T.str))=some (.bl (decide (x∈ys))):=by
 have ok:G9 (.str x) (ys.map T.str)=true:=by
  obtain⟨h1,h2⟩:=YO h;unfold G9 ES;rw[Vn,h1,h2,T.data,PyData.canLay0,hx]
  rfl
 unfold CM;simp only;rw[if_pos ok];unfold Je;rw[T.data,bZ]
end Pu
namespace Tx
open PySem PySem.NumText
abbrev cs(x:Str):kG:=x.cps.toList
theorem cs_app(x y:Str):cs (x++y)=cs x++cs y:=Array.toList_append
theorem cs_ext{x y:Str}(h:cs x=cs y):x=y:=by
 cases x
 simp_all
theorem cs_len(x:Str):x.length=(cs x).length:=rfl
def joinL(c:Nat):List (kG)->kG
 |[]=>[]|[x]=>x|x::r=>x++c::joinL c r
theorem cs_join(c):∀l ,cs (Str.join ⟨#[c]⟩ l)=joinL c (l.map cs)
 |[]=>rfl|[x]=>rfl|x::y::r=>by
  show cs (x++⟨#[c]⟩++Str.join ⟨#[c]⟩ (y::r))=cs x++c::joinL c ((y::r).map cs);rw[cs_app,cs_app,cs_join c (y::r),Ĕ]
  rfl
theorem aU{c:Nat}:∀{a b u v},a++c::u=b++c::v->c∉a->c∉b->a=b/\u=v
 |[],[],u,v,h,_,_=>⟨rfl,(Ń h).2⟩|[],y::b,u,v,h,_,hb=>absurd (by rw[(Ń h).1];exact Ã ..) hb|x::a,[],u,v,h,ha,_=>absurd (by rw[<- (Ń h).1];exact Ã ..) ha|x::a,y::b,u,v,h,ha,hb=>by
  obtain⟨e1,e2⟩:=Ń h;obtain⟨e3,e4⟩:=aU e2 (λz=>ha (Å _ z)) (λz=>hb (Å _ z))
  exact⟨by rw[e1,e3],e4⟩
theorem joinL_inj:∀{l m},l≠[]->m≠[]->(∀p∈l,c∉p)->(∀p∈m,c∉p)->joinL c l=joinL c m->l=m
 |[],_,h,_,_,_,_=>absurd rfl h|_,[],_,h,_,_,_=>absurd rfl h|[a],[b],_,_,_,_,e=>by rw[show a=b from e]|[a],b::b2::r,_,_,ha,_,e=>absurd (by rw[show a=b++c::joinL c (b2::r) from e];simp) (ha a (Ã ..))|a::a2::r,[b],_,_,_,hb,e=>absurd (by rw[<- show a++c::joinL c (a2::r)=b from e];simp) (hb b (Ã ..))|a::a2::r,b::b2::q,_,_,ha,hb,e=>by
  obtain⟨e1,e2⟩:=aU (e) (ha a (Ã ..)) (hb b (Ã ..));rw[e1,joinL_inj (ſ _ _) (ſ _ _) (λp hp=>ha p (Å _ hp)) (λp hp=>hb p (Å _ hp)) e2]
theorem map_cs_inj:∀{l m:kE},l.map cs=m.map cs->l=m
 |[],[],_=>rfl|[],_::_,h=>by cases h|_::_,[],h=>by cases h|a::l,b::m,h=>by
  obtain⟨e1,e2⟩:=Ń h;rw[cs_ext e1,map_cs_inj e2]
section
variable {x y:Str}{c:Nat}(hA:∀k,(cs x)[k]?=some c->StrLaws.At x y x.length k)
include hA
end
theorem sl_to(h:a<=(cs x).length):cs (Txt.slice x none (some a))=(cs x).take a:=by
 have e:Txt.slice x none (some a)=StrLaws.sliceText x none (some a):=rfl;rw[e,StrLaws.sliceText_to ⟨Int.natCast_nonneg a,Int.ofNat_le.mpr h⟩,List.drop_zero,Int.sub_zero,Ι]
end Tx
namespace Hd
open PySem PySem.W PySem.Calls PyProof.Rows
def Jg(st:SharedT->Thread->Option (SharedT×Thread))(ok:Thread->Bool):Nat->SharedT->Thread->Option SharedT
 |0=>λ_ _=>none|n+1=>λs t=>bif through t then some s else bif ok t then (st s t).elim none λx=>Jg st ok n x.1 x.2 else none
theorem zlk(n):∀(s) (t) (r),
  Jg (stepT (denote tb) p w) (stepOk m ann) n s t=some r->topRun tb p w m ann n s.abs t=some r.abs:=by
 induction n with
 |zero=>intro s t r h;exact nomatch h
 |succ n ih=>
  intro s t r h;rw[Jg]at h;dsimp only at h;rw[topRun];cases a:through t with
  |true=>grind|false=>
   rw[a]at h;cases b:stepOk m ann t with
   |false=>grind|true=>
    rw[b]at h;cases c:stepT (denote tb) p w s t with
    |none=>grind|some x=>rw[c]at h;rw[stepT_spec c];grind
noncomputable def LM(p q:Program)(loose:kE)(Xt:Shared->Bool){α:Type}(Yf:Shared->α)(h:Heap)(s:Shared):=
 ((staticsOk (importedModules p.main.body) h s.heap && namesBound p s.heap && gensDone s && laidKept h s.heap),openSeen q loose (importedModules p.main.body) Xt true s,Yf s)
theorem zl8{Ya:World->α}{N M m:Nat}{bt:Params->BT}{lf:Params->Life}{st:World->SharedT->Thread->Option (SharedT×Thread)}(hst:∀w,stepT (denote treeTable) p w=st w)(hok:stepOk m ann=ok)
  (e:opening p=plainProg p.main.scope.names) (hN:Nat.ble 600 N=true) (f:∀s,fenceModules? p s=some s) (hM:Nat.ble M N=true)
  (hb:∀P,absHeap (bt P) m (lf P)=boot_heap P) (hs:∀P,(boot_heap P).isNs mainGlobals=true) (hz:∀P,(boot_heap P).objs.size=m) (ha:∀P,(boot_heap P).nsMap mainGlobals "__annotations__"=ann)
  (h:∀(w ) (os ),(Jg (st w) ok M ⟨bt w.params,m,lf w.params,Array.mk [],boot_drawn,boot_toks,os⟩ (topStub p)).map (λs=>LM p q loose Xt Yf (boot_heap w.params) s.abs)=some (true,openGood q loose,Ya w)) :
  LeftO p q loose Xt Yf Ya N true:=λw=>by
 obtain⟨⟨h0,g0,d0,k0,os⟩,hs0,hv⟩:=à.mp (boot_open e hN f w);erw[Prod.mk.injEq]at hv;obtain⟨rfl,rfl,rfl,rfl⟩:=hv;obtain⟨T,hT,hx⟩:=à.mp (h w os);rw[<- hst,<- hok]at hT;have r:=topRun_mono (N - M) _ _ _ _ (zlk _ _ _ _ hT);rw[Nat.add_sub_cancel' (Nat.le_of_ble_eq_true hM)]at r;have hx1:=congrArg Prod.fst hx;have hx2:=congrArg Prod.snd hx;erw[LM]at hx1 hx2;erw[SharedT.abs,hb]at r hx1 hx2
 have k:topFrom treeTable p w N ⟨boot_heap w.params,Array.mk [],boot_drawn,boot_toks,os⟩=some T.abs:=by
  erw[topFrom,hs,hz,ha,r];erw[Ŀ];rw[hx1]
  rfl
 show((fencedOpening treeTable p w N).bind (topFrom treeTable p w N)).map _=_;rw[hs0];show(topFrom treeTable p w N _).map _=_;rw[k];exact congrArg some hx2
def en(P:Params)(x:String)(k:Nat)(v:Value):DictEntry:=⟨PyData.keyHash P (Str.ofString x),.str (Str.ofString x) k,v⟩
def bt(P:Params):BT:=((boot_heap P).objs.toList.foldl (λ(x:BT×Nat) o=>(x.1.ins x.2 o,x.2+1)) (BT.nil,0)).1
theorem bt_ok(P:Params):absHeap (bt P) 11 (boot_heap P).life=boot_heap P:=by ext
theorem zpv(P):(boot_heap P).nsMap mainGlobals "__annotations__"=some (.ref 6):=by ext
theorem ns_ok(P:Params):(boot_heap P).isNs mainGlobals=true:=by ext
theorem sz_ok(P:Params):(boot_heap P).objs.size=11:=by ext
abbrev go(p:Program)(M:Nat)(w:World)(os:OsState):Option SharedT:=
 Jg (Fast.tw10156331382660048174 (Fast.tw11892475500146522536 Fast.tw14364793385576792824) p w) (Fast.tw6613529449190102663 11 (some (.ref 6))) M ⟨bt w.params,11,(boot_heap w.params).life,Array.mk [],boot_drawn,boot_toks,os⟩ (topStub p)
abbrev xt(r:RowW)(q:Program)(s:Shared):Bool:=xlAt q [] s && recOk r.records s
theorem zl9{Ya:World->α}(N M:Nat)
  (e:opening p=plainProg p.main.scope.names) (hN:Nat.ble 600 N=true) (f:∀s,fenceModules? p s=some s) (hM:Nat.ble M N=true)
  (h:∀(w ) (os ),(go p M w os).map (λs=>LM p q loose (xt r q) Yf (boot_heap w.params) s.abs)=some (true,openGood q loose,Ya w)):LeftO p q loose (xt r q) Yf Ya N true:=
 zl8
  (λw=>by rw[Fast.te10156331382660048174,Fast.te11892475500146522536,Fast.te14364793385576792824]) (by rw[Fast.te6613529449190102663]) e hN f hM bt_ok ns_ok sz_ok zpv h
theorem zjo(h:Fast.tw9446332074065402090 l=true):l.wellSaid=true:=(congrFun Fast.te9446332074065402090 l).trans h
end Hd
set_option maxHeartbeats 4200000
namespace Zl
open PySem L2 Zw Zx Pu
noncomputable section
local macro_rules
  |`(tactic| simp![$as,*])=>do let y<-"Aa OV Jl El AG AW CW Dn Aj AU OP Fj Ah BZ DA FP HL JR CO Fl AA mC AE AB BK Bm m1 m2 AS Dv BD CA Bk AL Du Ey BN B7 BU BP g1 g2 AD Az AM Ax blk Ma IW C8 Cw Gb gD Ga Mh Hk Mg IV Bb IE Bg B0 C9 GQ CI Ds Dd T.isN T.isB B9 CQ Hl Ă Jc ET DH Ks Sw IB LB T.share Bc T.sh Aq T.flat Rx Ih at2 Ò Ŝ Ý å List.replicate ç ú Œ List.getElem?_cons_zero Ū List.getElem?_nil List.set_cons_zero Η Ĉ nl0 nl1 nl2 nl3 nl4 nl5 nl6 nl7 nl8 nl9 Int.reduceBEq Nat.reduceBEq Nat.reduceAdd Nat.reduceSub Nat.reduceLT Nat.reduceLeDiff if_true if_false ite_true ite_false reduceIte Bool.not_true Bool.not_false Ż Bool.true_and Bool.and_false Bool.false_and Bool.or_true Bool.true_or Bool.or_false Bool.false_or Bool.false_xor Bool.true_xor Ő Θ decide_true decide_false Ï ï or_false or_true true_or and_true true_and and_self String.reduceEq String.reduceBEq beq_self_eq_true ne_eq not_false_eq_true not_true_eq_false zoq zop DG zet Int.reduceLT Int.reduceAdd Ι zji Tu implies_true forall_const Int.reduceEq Int.reduceNe QI Bu Bl CZ Cn G3 EI Fm JT JX Lz Ei Dw BE HX J4 GL II isXT LP".splitOn.mapM (λx=>do`(Lean.Parser.Tactic.simpLemma|$(Lean.mkCIdent (<-Lean.Macro.resolveGlobalName x.toName).head!.1):ident));`(tactic| simp only[$(⟨(Lean.Syntax.SepArray.ofElems (sep:=",") (y.toArray.map (·.raw)++as.elemsAndSeps.getSepElems)).elemsAndSeps⟩),*])
noncomputable def AN(i:Nat):Stmt:=PySem.Challenge.pw_zonewalk_k34_whole_runs_put_together.main.body.getD i (.Pass ⟨0,0,0,0⟩)
def zpp(s:Stmt)(j:Nat):Stmt:=match s with
 |.ClassDef _ _ _ body _ _ _ _ _ _ _=>body.getD j (.Pass ⟨0,0,0,0⟩)|_=>.Pass ⟨0,0,0,0⟩
def Ct(i j:Nat):Stmt:=zpp (AN i) j
abbrev BC:Addr:=228
noncomputable def BH:kE:=["start","end","guard","noughts","sign"]
abbrev Au:Addr:=282
noncomputable def Ay:kE:=["watch_names","stays","door_list"]
def IU:T:=(.nd false .rt [(.str "<"),(.str "<="),(.str ">"),(.str ">="),(.str "=")])
def MH:T:=(.nd false .rt [(.str "<"),(.str "<=")])
noncomputable def HZ:T:=(.int 7)
def H9:T:=(.int 64)
def Fv:T:=(.int 200)
def MI:T:=(.int 6)
def RA:List (Addr×Bool):=[(228,true),(282,false)]
def Qz:List (Addr×Bool):=[(228,false),(282,true)]
abbrev Hx:Addr:=80
def N0:List (Str×Addr):=[("TooMany",61)]
def N1:List (Str×Addr):=[("NoRun",80)]
abbrev VL:Stmt:=AN 64
def Pn:AH:=
 (AG (Aj (m2 (CI λi j=>decide (i<j)) (AA 1) (m1 B9 (AA 0))) (AU (AL (AA 0) (AA 1))) Ah)
 (AU (mC (.int 0))))
def FI:kL->Option Ru:=Aa 2 2 Pn
abbrev Qg:Fn:=⟨1,["_law_script","_law_k"],FI⟩
abbrev gA(N:kE)(s:Stmt)(k:Nat)(fs:List (Str×Fn))(bl:kE)(ow:kE:=[])(ce:kE:=[])(ex:kE:=[])(ox:Gx:=Bn):Gm:=⟨N,(DJ s).names,ce,k,fs,bl,ex,ow,[],false,[],[],[],ox⟩
abbrev zdh:Gm:=gA ["_law_script","_law_k"] VL 0 [] ["len"]
theorem zdu:Ck zdh Qg VL Pn:={}
theorem Jr(ns)(h0:0<=k):FI [Cs ns,.int k]=some (.ok (.int (ns.getD k.toNat 0))):=by
 unfold FI Pn
 by_cases h:k<ns.length
 .have e:ns[k.toNat]?=some (ns.getD k.toNat 0):=by
   simp_all
  have ea:A5 (ns.map T.int) k=some (.int (ns.getD k.toNat 0)):=Me h0 (by simp_all)
  have el:decide (k<(ns.map T.int).length)=true:=by simpa using h
  simp![Cs,LJ,LK,el,ea]
 .have el:decide (k<(ns.map T.int).length)=false:=by simpa using h
  have e:ns.getD k.toNat 0=0:=by
   simp_all
  simp![Cs,LJ,LK,el,e]
abbrev Uu:Stmt:=AN 65
def Ng:AH:=
 (AG (DA 2 (m2 B0 (AA 5) (mC (.int 2147483647))))
 (AW (m2 C9 (AA 5) (mC (.int 2147483647))) (AD 5)))
def Nf:AH:=
 (AG (AW (m2 B0 (m2 Bb (m2 Bb (m2 Bg (AA 3) (AA 3)) (m2 Bg (mC (.int 48271)) (AA 3))) (AA 4)) (mC (.int 2147483647))) (AD 3))
 (DA 2 (AA 3)))
def Lo:AH:=
 (AG (CW 2 (BN AE))
 (AG (Aj (m2 (CI λi j=>decide (j<=i)) (AA 0) (m2 GQ (mC (.int 10)) (mC (.int 30)))) (AG (AW (m2 IE (AA 0) (m2 GQ (mC (.int 10)) (mC (.int 30)))) (AD 5))
 (AG (BZ (C8 (AB (AA 1) AE)) (AD 4) Ng)
 (AU (AA 2)))) Ah)
 (AG (AW (m2 Bb (m2 B0 (AA 0) (mC (.int 2147483647))) (mC (.int 48271))) (AD 3))
 (AG (BZ (C8 (AB (m2 Bb (AA 1) (mC (.int 2))) AE)) (AD 4) Nf)
 (AG (Dn 2) (AU (Cn (Du (AA 2) (some (mC (.int 2))) none) (D0 (AA 2) (some (mC (.int 2))) none))))))))
def FH:kL->Option Ru:=Aa 2 6 Lo
abbrev MZ:Fn:=⟨1,["_law_cell","_law_many"],FH⟩
abbrev zec:Gm:=gA ["_law_cell","_law_many","_law_found","_law_number","_law_k","_law_rest"] Uu 0 [] ["range"] ["_law_found"]
theorem zel:Ck zec MZ Uu Lo:={}
theorem LG(c:Int){m:Nat}(hm:m<=1000):∃xs:Nat->Int,FH [.int c,.int m]=some (.ok (.own (mT m λi=>.int (xs i)))):=by
 have p30:(0:Int)<=30/\(30:Int)<=1000000/\Ec 10=true:=⟨by decide,by decide,DC (by decide) (by decide)⟩
 have s45:C7 2147483647=true:=DB (by decide) (by decide)
 have r30:(30:Int).toNat=30:=rfl
 by_cases h:(10:Int) ^ 30<=c
 .have loop:=Yr (b:=AD 4) (body:=Ng) (n:=m) (τ:=[some (.int c),some (.int m),some (.own []),none,none,some (.int (c - 10 ^ 30))])
   (λi τ=>∃(xs:Nat->Int) (x:kH) (r:Int),τ=[some (.int c),some (.int m),some (.own (mT i λi=>.int (xs i))),none,x,some (.int r)])
   ⟨λ_=>0,none,_,rfl⟩ (by
    rintro i τ hi ⟨xs,x,r,rfl⟩;refine⟨_,by simp![];rfl,?_⟩
    have l1:i<100000:=by omega
    refine⟨_,by unfold Ng;simp![s45,l1];rfl,λj=>if j=i then r.fmod 2147483647 else xs j,some (.int (i:Int)),r.fdiv 2147483647,?_⟩
    rw[YB T.int])
  obtain⟨τ',e1,xs,x,r,rfl⟩:=loop;refine⟨xs,?_⟩;have o1 :=EL (by omega)
  unfold FH Lo
  simp![p30,r30,h,o1,EJ,e1]
 .have loop:=Yr (b:=AD 4) (body:=Nf) (n:=m+2) (g:=λi=>.int (i:Int)) (τ:=[some (.int c),some (.int m),some (.own []),some (.int (c.fmod 2147483647+48271)),none,none])
   (λi τ=>∃(xs:Nat->Int) (x:kH) (r:Int),0<=r/\r<4294967296/\τ=[some (.int c),some (.int m),some (.own (mT i λi=>.int (xs i))),some (.int r),x,none])
   ⟨λ_=>0,none,_,by rw[fm (by decide)];omega,by rw[fm (by decide)];omega,rfl⟩ (by
    rintro i τ hi ⟨xs,x,r,r0,r1,rfl⟩;refine⟨_,by simp![];rfl,?_⟩
    have l1:i<100000:=by omega
    have m1 :=zky (DB (by omega) (by omega)) (DB (by omega) (by omega))
    have m2:CY 48271 r=true:=Ew (DC (by decide) (by decide))
    refine⟨_,by unfold Nf;simp![l1,m1,m2];rfl,λj=>if j=i then (r * r+48271 * r+i).fmod 2147483647 else xs j,some (.int (i:Int)),(r * r+48271 * r+i).fmod 2147483647,by rw[fm (by decide)];omega,by rw[fm (by decide)];omega,?_⟩
    rw[YB T.int])
  obtain⟨τ',e1,xs,x,r,-,-,rfl⟩:=loop;refine⟨λi=>xs (i+2),?_⟩
  have o1:DE ((m:Int)+2)=true:=EL (by omega)
  have o2:((m:Int)+2).toNat=m+2:=by omega
  have ct:CT (mT (m+2) λi=>.int (xs i)) (some 2) none=mT m λi=>.int (xs (i+2)):=by
   unfold CT;have e2:HT.sIx (mT (m+2) λi=>T.int (xs i)).length 0 (some 2)=2:=by rw[DG];simp[HT.sIx]
   have e3:HT.sIx (mT (m+2) λi=>T.int (xs i)).length (mT (m+2) λi=>T.int (xs i)).length none=m+2:=by rw[DG];rfl
   rw[e2,e3];refine G2 (by simp[DG]) λi hi=>?_
   rw[ō (by omega),ĺ,HV (by omega),Š]
  unfold FH Lo
  simp![p30,r30,h,o1,o2,EJ,e1,ct]
abbrev VH:Stmt:=AN 66
def Lw:AH:=
 (AG (Aj (m2 (CI λi j=>decide (j<=i)) (AA 0) (m2 GQ (mC (.int 10)) (mC (.int 30)))) (AU (Cn (Du (AS FH (AB (AA 0) (AB (m2 Bg (AA 2) (m2 Bb (AA 1) (mC (.int 1)))) AE))) (some (m2 Bg (AA 2) (AA 1))) none) (D0 (AS FH (AB (AA 0) (AB (m2 Bg (AA 2) (m2 Bb (AA 1) (mC (.int 1)))) AE))) (some (m2 Bg (AA 2) (AA 1))) none))) Ah)
 (AU (AS FH (AB (m2 Bb (AA 0) (m2 Bg (mC (.int 7919)) (AA 1))) (AB (AA 2) AE)))))
def JD:kL->Option Ru:=Aa 3 3 Lw
abbrev Za:Fn:=⟨2,["_law_cell","_law_k","_law_many"],JD⟩
abbrev zfq:Gm:=gA ["_law_cell","_law_k","_law_many"] VH 1 [("_law_stream",MZ)] []
theorem zg5:Ck zfq Za VH Lw:={}
theorem bY(h:∀c∈Tx.cs x,c<128):PyData.strOk x=true:=by
 unfold PyData.strOk;rw[<- Array.all_toList,Þ];intro c hc;have:=h c hc
 omega
theorem zim:CT (mT (n+a) g) (some a) none=mT n λi=>g (i+a):=by
 unfold CT;have e2:HT.sIx (mT (n+a) g).length 0 (some a)=a:=by rw[DG];simp[HT.sIx];omega
 have e3:HT.sIx (mT (n+a) g).length (mT (n+a) g).length none=n+a:=by rw[DG];rfl
 rw[e2,e3];refine G2 (by simp[DG]) λi hi=>?_
 rw[ō (by omega),ĺ,HV (by omega),Š]
theorem zii(c:Int){k m:Nat}(hm:m * (k+1)<=1000)(hk:k<=1000)(h1:m<=1000):∃xs:Nat->Int,JD [.int c,.int (k:Int),.int (m:Int)]=some (.ok (.own (mT m λi=>.int (xs i)))):=by
 have p30:(0:Int)<=30/\(30:Int)<=1000000/\Ec 10=true:=⟨by decide,by decide,DC (by decide) (by decide)⟩
 have r30:(30:Int).toNat=30:=rfl;have m1:∀x:Int,CY m x=true:=λx=>Ew (DC (by omega) (by omega))
 by_cases h:10 ^ 30<=c
 .obtain⟨xs,e⟩:=LG c hm;have em:m * (k+1)=((m * (k+1):Nat):Int):=by rw[Int.natCast_mul];rfl
  have ek:m * (k:Int)=(m * k:Nat):=by rw[Int.natCast_mul]
  have ct:CT (mT (m * (k+1)) λi=>.int (xs i)) (some ((m * k:Nat):Int)) none=mT m λi=>.int (xs (i+m * k)):=by
   rw[show m * (k+1)=m+m * k by rw[Nat.mul_add,Nat.mul_one,Š]]
   exact zim
  refine⟨λi=>xs (i+m * k),?_⟩
  unfold JD Lw
  simp![p30,r30,h,m1,em,ek,e,ct]
 .have m2:CY 7919 (k:Int)=true:=Ew (DC (by decide) (by decide))
  obtain⟨xs,e⟩:=LG (c+7919 * (k:Int)) h1;refine⟨xs,?_⟩;unfold JD Lw
  simp![p30,r30,h,m2,e]
abbrev VA:Stmt:=AN 67
def Ni:AH:=
 (AG (AW (m2 Bb (m2 Bb (m2 C9 (AA 0) (mC (.int 6720))) (m2 Bg (AA 8) (m2 Bb (mC (.int 1)) (m2 B0 (AA 0) (mC (.int 25)))))) (m2 Bg (AA 6) (m1 Jc (m2 Be (AA 8) (AA 4))))) (AD 9))
 (AW (m2 Bb (AA 7) (AL (AA 2) (m2 B0 (AA 9) (mC (.int 26))))) (AD 7)))
def Nj:AH:=
 (AG (AW (mC (.str "")) (AD 7))
 (AG (BZ (C8 (AB (AA 3) AE)) (AD 8) Ni)
 (DA 5 (AA 7))))
def Ph:AH:=
 (AG (AW (mC (.str "abcdefghijklmnopqrstuvwxyz")) (AD 2))
 (AG (AW (m2 Bb (mC (.int 1)) (m2 B0 (AA 0) (mC (.int 8)))) (AD 3))
 (AG (AW (m2 B0 (m2 B0 (m2 C9 (AA 0) (mC (.int 8))) (mC (.int 840))) (AA 3)) (AD 4))
 (AG (CW 5 (BN AE))
 (AG (BZ (C8 (AB (AA 1) AE)) (AD 6) Nj)
 (AU (AA 5)))))))
def KJ:kL->Option Ru:=Aa 2 10 Ph
abbrev Z5:Fn:=⟨1,["_law_cell","_law_many"],KJ⟩
abbrev zfn:Gm:=gA ["_law_cell","_law_many","_law_letters","_law_size","_law_at","_law_names_here","_law_k","_law_name","_law_j","_law_sign"] VA 0 [] ["range","int"] ["_law_names_here"]
theorem zg2:Ck zfn Z5 VA Ph:={}
noncomputable def HJ(c:Int)(k j:Nat):Int:=(c.fdiv 6720+(j:Int) * (1+c.fmod 25)+(k:Int) * (if ((j:Int) == ((c.fdiv 8).fmod 840).fmod (1+c.fmod 8))=true then 1 else 0)).fmod 26
def FL(c:Int)(k j:Nat):Nat:=97+(HJ c k j).toNat
def FV(c:Int)(k n:Nat):Str:=⟨((List.range n).map (FL c k)).toArray⟩
def Eu(c:Int):Nat:=(1+c.fmod 8).toNat
theorem Lc(c:Int):1<=Eu c/\Eu c<=8/\(1+c.fmod 8)=(Eu c:Int):=by
 unfold Eu
 omega
theorem JQ(c:Int)(k j:Nat):0<=HJ c k j/\HJ c k j<26:=by
 unfold HJ
 omega
theorem abc:(Str.ofString "abcdefghijklmnopqrstuvwxyz").cps.toList=(List.range 26).map (97 + ·):=by rfl
theorem zpw(h0:0<=i)(h1:i<26):A5 (Str.ofString "abcdefghijklmnopqrstuvwxyz").cps.toList i=some (97+i.toNat):=by
 rw[abc];refine Me h0 ?_;rw[Ä,Ĥ (by omega)]
 rfl
theorem zm1:(Str.ofString "abcdefghijklmnopqrstuvwxyz").length<=100000:=by decide +kernel
theorem zkv(c)(k n):FV c k n++⟨#[FL c k n]⟩=FV c k (n+1):=by
 show Str.mk (((List.range n).map (FL c k)).toArray++#[FL c k n])=Str.mk _;rw[List.range_succ];simp
theorem zku(c)(k n):(FV c k n).length=n:=by
 show((List.range n).map (FL c k)).toArray.size=n;simp
theorem w7_ok{k i m:Nat}(hi:i<8)(hk:k<30):∃y9,Ni [some (.int c),some (.int m),some (.str "abcdefghijklmnopqrstuvwxyz"),some (.int (1+c.fmod 8)),some (.int (((c.fdiv 8).fmod 840).fmod (1+c.fmod 8))),o,some (.int k),some (.str (FV c k i)),some (.int i),x9]
  = some (.nx [some (.int c),some (.int m),some (.str "abcdefghijklmnopqrstuvwxyz"),some (.int (1+c.fmod 8)),some (.int (((c.fdiv 8).fmod 840).fmod (1+c.fmod 8))),o,some (.int k),some (.str (FV c k (i+1))),some (.int i),y9]):=by
 have m1:CY i (1+c.fmod 25)=true:=Ew (DC (by omega) (by omega))
 have m2:∀x ,CY k x=true:=λx=>Ew (DC (by omega) (by omega))
 have s1:C7 6720=true:=DB (by decide) (by decide)
 have ea:A5 (Str.ofString "abcdefghijklmnopqrstuvwxyz").cps.toList ((c.fdiv 6720+i * (1+c.fmod 25)+k * (if (i == ((c.fdiv 8).fmod 840).fmod (1+c.fmod 8))=true then 1 else 0)).fmod 26)=some (FL c k i):=zpw (JQ c k i).1 (JQ c k i).2
 have el:(FV c k i).length+(Str.mk #[FL c k i]).length<=100000:=by
  rw[zku]
  omega
 unfold Ni;refine⟨some (.int (c.fdiv 6720+i * (1+c.fmod 25)+k * (if (i == ((c.fdiv 8).fmod 840).fmod (1+c.fmod 8))=true then 1 else 0))),?_⟩
 simp![Hf,m1,m2,s1,ea,zm1,el,zkv]
theorem w5_ok{k m:Nat}(hk:k<30){l:kL}(hl:l.length<1000):∃y7 y8 y9,Nj [some (.int c),some (.int (m:Int)),some (.str "abcdefghijklmnopqrstuvwxyz"),some (.int (1+c.fmod 8)),some (.int (((c.fdiv 8).fmod 840).fmod (1+c.fmod 8))),some (.own l),some (.int k),x7,x8,x9]
  = some (.nx [some (.int c),some (.int m),some (.str "abcdefghijklmnopqrstuvwxyz"),some (.int (1+c.fmod 8)),some (.int (((c.fdiv 8).fmod 840).fmod (1+c.fmod 8))),some (.own (l++[.str (FV c k (Eu c))])),some (.int k),y7,y8,y9]):=by
 obtain⟨n1,n8,ne⟩:=Lc c
 obtain⟨τ,e,z8,z9,rfl⟩:=FD (b:=AD 8) (ts:=mT (Eu c) λi=>.int i) (τ:=[some (.int c),some (.int m),some (.str "abcdefghijklmnopqrstuvwxyz"),some (.int (1+c.fmod 8)),some (.int (((c.fdiv 8).fmod 840).fmod (1+c.fmod 8))),some (.own l),some (.int k),some (.str ""),x8,x9])
  (λi τ=>∃x8 x9,τ=[some (.int c),some (.int m),some (.str "abcdefghijklmnopqrstuvwxyz"),some (.int (1+c.fmod 8)),some (.int (((c.fdiv 8).fmod 840).fmod (1+c.fmod 8))),some (.own l),some (.int k),some (.str (FV c k i)),x8,x9]) ⟨x8,x9,by rfl⟩ λi t τ h1 h2=>by
   obtain⟨hi,rfl⟩:=G1 h1;obtain⟨x8,x9,rfl⟩:=h2;obtain⟨y9,ew⟩:=w7_ok (i:=i) (by omega) hk (x9:=x9)
   exact⟨_,by simp![],_,ew,_,_,rfl⟩
 rw[DG]at e;have ok:DE (1+c.fmod 8)=true:=@decide_eq_true _ (Classical.propDecidable _) ⟨by omega,by omega⟩
 have er:DO 0 (1+c.fmod 8).toNat=mT (Eu c) λi=>.int i:=EJ
 have ll:l.length<100000:=by omega
 unfold Nj;refine⟨some (.str (FV c k (Eu c))),z8,z9,?_⟩
 simp![ok,er,e,ll]
abbrev CP(c:Int)(k:Nat):Str:=FV c k (Eu c)
theorem zhs(c){m:Nat}(hm:m<30):KJ [.int c,.int m]=some (.ok (.own (mT m λk=>.str (CP c k)))):=by
 obtain⟨τ,e,z6,z7,z8,z9,rfl⟩:=FD (b:=AD 6) (ts:=mT m λi=>.int i) (τ:=[some (.int c),some (.int m),some (.str "abcdefghijklmnopqrstuvwxyz"),some (.int (1+c.fmod 8)),some (.int (((c.fdiv 8).fmod 840).fmod (1+c.fmod 8))),some (.own []),none,none,none,none])
  (λi τ=>∃x6 x7 x8 x9,τ=[some (.int c),some (.int m),some (.str "abcdefghijklmnopqrstuvwxyz"),some (.int (1+c.fmod 8)),some (.int (((c.fdiv 8).fmod 840).fmod (1+c.fmod 8))),some (.own (mT i λk=>.str (CP c k))),x6,x7,x8,x9]) ⟨_,_,_,_,by rfl⟩ λi t τ h1 h2=>by
   obtain⟨hi,rfl⟩:=G1 h1;obtain⟨x6,x7,x8,x9,rfl⟩:=h2;obtain⟨y7,y8,y9,ew⟩:=w5_ok (k:=i) (by omega) (l:=mT i λk=>.str (CP c k)) (by rw[DG];omega) (x7:=x7) (x8:=x8) (x9:=x9)
   rw[YC]at ew;exact⟨_,by simp![],_,ew,_,_,_,_,rfl⟩
 have ok:DE m=true:=@decide_eq_true _ (Classical.propDecidable _) ⟨by omega,by omega⟩
 have er:DO 0 m=mT m λi=>.int i:=EJ
 have h0:(1+c.fmod 8≠0)=True:=eq_true (by omega)
 have s1:C7 8=true:=DB (by decide) (by decide)
 unfold KJ Ph
 simp![ok,er,e,h0,s1]
theorem Oi(c:Int)(k:Nat):Tx.cs (CP c k)=(List.range (Eu c)).map (FL c k):=rfl
theorem zoi(c)(k):∀s∈Tx.cs (CP c k),97<=s/\s<=122:=λs hs=>by
 obtain⟨j,_,rfl⟩:=Ë.mp hs;have:=JQ c k j;unfold FL
 omega
theorem zkw(c:Int)(k:Nat):(Tx.cs (CP c k)).length<=8:=by
 rw[Oi,À,ô];exact(Lc c).2.1
theorem zoh(c:Int)(k:Nat):1<=(Tx.cs (CP c k)).length:=by
 rw[Oi,À,ô];exact(Lc c).1
theorem zhr(hj:j<26)(hk:k<26)(h:CP c j=CP c k):j=k:=by
 obtain⟨n1,n8,ne⟩:=Lc c
 have ha:0<=((c.fdiv 8).fmod 840).fmod (1+c.fmod 8)/\((c.fdiv 8).fmod 840).fmod (1+c.fmod 8)<1+c.fmod 8:=by
  rw[fm (by omega)]
  exact⟨Int.emod_nonneg _ (by omega),Int.emod_lt_of_pos _ (by omega)⟩
 obtain⟨a,ea⟩:=ĳ ha.1;have hn:a<Eu c:=by omega
 have e :=by
  have e1:=congrArg (λl =>l[a]?) (congrArg Tx.cs h)
  erw[Oi,Ä,Ĥ hn]at e1;exact ì e1
 have s1:=JQ c j a;have s2:=JQ c k a;unfold FL at e;have e2:HJ c j a=HJ c k a:=by omega
 unfold HJ at e2
 omega
abbrev U0:Stmt:=AN 24
def PH:AH:=
 (AU (Ei Dw Dw (mC (.str "a")) (AA 0) (mC (.str "z"))))
def KC:kL->Option Ru:=Aa 1 1 PH
abbrev Q4:Fn:=⟨1,["sign"],KC⟩
abbrev za6:Gm:=gA ["sign"] U0 0 [] []
theorem za9:Ck za6 Q4 U0 PH:={}
theorem Tq(h1:97<=c)(h2:c<=122):KC [.str ⟨#[c]⟩]=some (.ok (.bl true)):=by
 have a1:((Str.ofString "a").cps.toList)=[97]:=by rfl
 have a2:((Str.ofString "z").cps.toList)=[122]:=by rfl
 have b1:@decide (#[c].toList<(Str.ofString "a").cps.toList) (Classical.propDecidable _)=false:=@decide_eq_false _ (Classical.propDecidable _) (by
  rw[a1];rw[List.cons_lt_cons_iff]
  simp_all)
 have b2:@decide ((Str.ofString "z").cps.toList < #[c].toList) (Classical.propDecidable _)=false:=@decide_eq_false _ (Classical.propDecidable _) (by
  rw[a2];rw[List.cons_lt_cons_iff]
  simp_all)
 unfold KC PH
 simp![b1,b2]
abbrev U4:Stmt:=AN 25
def RW:AI:=
 (AS KC (AB (AA 0) AE))
def PL:AH:=
 (AU (CA (Ei Dw Dw (mC (.int 1)) (m1 B9 (AA 0)) (mC (.int 8))) (m1 ET (BU 1 [] (BE (AA 0)) (AD 0) (mC (.bl true)) RW))))
def KE:kL->Option Ru:=Aa 1 1 PL
abbrev Q6:Fn:=⟨2,["text"],KE⟩
abbrev ze9:Gm:=gA ["text"] U4 1 [("is_small_letter",Q4)] ["len","all"]
theorem zei:Ck ze9 Q6 U4 PL:={}
def Fb(x:Str):Prop:=∀i,i<x.cps.size->97<=x.cps.getD i 0/\x.cps.getD i 0<=122
theorem Tv(x):GJ x=mT x.cps.size λi=>.str ⟨#[x.cps.getD i 0]⟩:=by
 refine G2 (by simp[GJ]) λi hi=>?_
 unfold GJ
 simp_all
theorem Xc(h:Fb x)(h1:1<=x.cps.size)(h8:x.cps.size<=8):KE [.str x]=some (.ok (.bl true)):=by
 have l1:x.cps.size<=100000:=by omega
 have lc:=EO (n:=x.cps.size) (me:=RW) (x:=none) (cs:=[]) (g:=λi=>.str ⟨#[x.cps.getD i 0]⟩) (f:=λ_=>.bl true) λi hi=>by
  unfold RW
  simp![Tq (h i hi).1 (h i hi).2]
 have e1:decide (1<=(x.length:Int))=true:=Ñ (by show 1<=(x.cps.size:Int);omega)
 have e2:decide ((x.length:Int)<=8)=true:=Ñ (by show(x.cps.size:Int)<=8;omega)
 have ll:x.length<=Bh:=by
  omega
 have ba:((List.range x.cps.size).map λ_=>true).all id=true:=by simp
 unfold KE PL
 simp![Tv,lc,l1,e1,e2,ll,Jt,ba]
abbrev UZ:Stmt:=AN 26
def PF:AH:=
 (AU (CA (m1 (DH "str") (AA 0)) (Bk (m2 Be (AA 0) (mC (.str "/"))) (AS KE (AB (AA 0) AE)))))
def KA:kL->Option Ru:=Aa 1 1 PF
abbrev Q3:Fn:=⟨3,["thing"],KA⟩
abbrev zah:Gm:=gA ["thing"] UZ 2 [("is_name",Q6)] ["isinstance","str"]
theorem zam:Ck zah Q3 UZ PF:={}
theorem zmp(h:Fb x):PyData.strOk x=true:=by
 unfold PyData.strOk;rw[Array.all_eq_true];intro i hi;have:=(h i hi).2;rw[Array.getD_eq_getD_getElem?,ı hi]at this;rw[ö]
 omega
def Hm(x:Str):Prop:=x=Str.ofString "/"\/(Fb x/\1<=x.cps.size/\x.cps.size<=8)
theorem OJ:PyData.strOk (Str.ofString "/")=true:=by decide +kernel
theorem Hz{x:Str}(h:Hm x):PyData.strOk x=true:=by
 rcases h with rfl|h
 .exact OJ
 .exact zmp h.1
theorem Sd(h:Hm x):KA [.str x]=some (.ok (.bl true)):=by
 have e:=E5 (Hz h) OJ;unfold KA PF
 by_cases q:x=Str.ofString "/"
 .rw[Ñ q]at e
  simp![e]
 .rw[Ù q]at e;have en:=Xc (h.resolve_left q).1 (h.resolve_left q).2.1 (h.resolve_left q).2.2
  simp![e,en]
abbrev U2:Stmt:=AN 27
def Mb:AI:=
 (Bk (m2 Be (AA 0) (mC (.str "/"))) (AS KC (AB (AA 0) AE)))
def PK:AH:=
 (AG (Aj (Bk (BD (m1 (DH "str") (AA 0))) (BD (Ei Dw Dw (mC (.int 1)) (m1 B9 (AA 0)) (mC (.int 60))))) (AU (mC (.bl false))) Ah)
 (AU (m1 ET (BU 1 [] (BE (AA 0)) (AD 0) (mC (.bl true)) Mb))))
def KD:kL->Option Ru:=Aa 1 1 PK
abbrev Q5:Fn:=⟨2,["thing"],KD⟩
abbrev zax:Gm:=gA ["thing"] U2 1 [("is_small_letter",Q4)] ["isinstance","str","len","all"]
theorem zb2:Ck zax Q5 U2 PK:={}
def Ik(x:Str):Prop:=∀i,i<x.cps.size->x.cps.getD i 0=47\/(97<=x.cps.getD i 0/\x.cps.getD i 0<=122)
theorem V2(h:Ik x):PyData.strOk x=true:=by
 unfold PyData.strOk;rw[Array.all_eq_true];intro i hi;have:=h i hi;rw[Array.getD_eq_getD_getElem?,ı hi]at this;erw[ü]at this
 omega
theorem V1{x:Str}(h:Ik x)(h1:1<=x.cps.size)(h8:x.cps.size<=60):KD [.str x]=some (.ok (.bl true)):=by
 have l1:x.cps.size<=100000:=by omega
 have lc:=EO (me:=Mb) (x:=none) (cs:=[]) (g:=λi=>.str ⟨#[x.cps.getD i 0]⟩) (f:=λ_=>.bl true) λi hi=>by
  have o1:PyData.strOk (Str.mk #[x.cps.getD i 0])=true:=V2 λj hj=>by
   have hj':j<1:=hj;have e:j=0:=by omega
   subst e;exact h i hi
  have e:=E5 o1 OJ
  by_cases q:x.cps.getD i 0=47
  .have n:Str.mk #[x.cps.getD i 0]=Str.ofString "/":=by
    rw[q];exact Tx.cs_ext (by decide +kernel)
   rw[Ñ n]at e;unfold Mb
   simp![e]
  .have n:¬ (Str.mk #[x.cps.getD i 0]=Str.ofString "/"):=λq1=>by
    have e1:(Str.ofString "/").cps=#[47]:=by decide +kernel
    omega
   rw[Ù n]at e;have hh:=(h i hi).resolve_left q;unfold Mb
   simp![e,Tq hh.1 hh.2]
 have e1:decide ((1:Int)<=x.length)=true:=Ñ (by show 1<=(x.cps.size:Int);omega)
 have e2:decide ((x.length:Int)<=60)=true:=Ñ (by show(x.cps.size:Int)<=60;omega)
 have ll:x.length<=100000:=l1;have ba:((List.range x.cps.size).map λ_=>true).all id=true:=by simp
 unfold KD PK
 simp![Tv,lc,l1,e1,e2,ll,Jt,ba]
abbrev UY:Stmt:=AN 8
def Xy:AH:=
 (AU (CA (m1 (DH "int") (AA 0)) (BD (m1 (DH "bool") (AA 0)))))
def Jz:kL->Option Ru:=Aa 1 1 Xy
abbrev Q2:Fn:=⟨1,["thing"],Jz⟩
abbrev zd9:Gm:=gA ["thing"] UY 0 [] ["isinstance","int","bool"]
theorem zdm:Ck zd9 Q2 UY Xy:={}
theorem zep(i:Int):Jz [.int i]=some (.ok (.bl true)):=by rfl
abbrev U3:Stmt:=AN 17
def Xz:AH:=
 (AU (CA (AS Jz (AB (AA 0) AE)) (m2 (CI λi j=>decide (j<=i)) (AA 0) (mC (.int 0)))))
def SG:kL->Option Ru:=Aa 1 1 Xz
abbrev ZP:Fn:=⟨2,["thing"],SG⟩
abbrev zci:Gm:=gA ["thing"] U3 1 [("is_whole",Q2)] []
theorem zcq:Ck zci ZP U3 Xz:={}
theorem zkt(i:Int):SG [.int i]=some (.ok (.bl (decide (0<=i)))):=by
 rfl
abbrev U6:Stmt:=AN 16
def PM:AH:=
 (AG (Aj (Bk (BD (m1 (DH "tuple") (AA 0))) (m2 Bz (m1 B9 (AA 0)) (mC (.int 3)))) (AU (mC (.bl false))) Ah)
 (AU (CA (m2 CM (AL (AA 0) (mC (.int 0))) (AA 1)) (CA (m2 CM (AL (AA 0) (mC (.int 1))) (AA 2)) (AS SG (AB (AL (AA 0) (mC (.int 2))) AE))))))
def Mx:kL->Option Ru:=Aa 3 3 PM
abbrev ZQ:Fn:=⟨3,["thing","watches","words"],Mx⟩
abbrev zea:Gm:=gA ["thing","watches","words"] U6 2 [("is_number",ZP)] ["isinstance","tuple","len"]
theorem zej:Ck zea ZQ U6 PM:={}
def Dl:kE:=["<","<=",">",">=","="]
theorem Kf:CU Dl:=by unfold CU;decide +kernel
abbrev U8:Stmt:=AN 18
def RX:AI:=
 (AS Mx (AB (AA 0) (AB (AA 1) (AB (AA 2) AE))))
def PQ:AH:=
 (AU (CA (m1 (DH "list") (AA 0)) (m1 ET (BU 1 [1,2] (BE (AA 0)) (AD 0) (mC (.bl true)) RX))))
def Iv:kL->Option Ru:=Aa 3 3 PQ
abbrev MW:Fn:=⟨4,["thing","watches","words"],Iv⟩
abbrev zdb:Gm:=gA ["thing","watches","words"] U8 3 [("is_look",ZQ)] ["isinstance","list","all"] [] ["watches","words"]
theorem zdo:Ck zdb MW U8 PQ:={}
abbrev Ui:Stmt:=AN 33
def P5:AH:=
 (AU (m2 Be (m1 JI (AA 0)) (m1 B9 (AA 0))))
def Gi:kL->Option Ru:=Aa 1 1 P5
abbrev Ic:Fn:=⟨1,["texts"],Gi⟩
abbrev zby:Gm:=gA ["texts"] Ui 0 [] ["len","set"]
theorem zc5:Ck zby Ic Ui P5:={}
theorem Xp(h:∀i j,i<n->j<n->val i=val j->i=j):∀k,k<=n->(met val k).length=k/\∀x∈met val k,∃i,i<k/\x=val i
 |0,_=>⟨rfl,λx hx=>by cases hx⟩|k+1,hk=>by
  obtain⟨h1,h2⟩:=Xp h k (by omega)
  have hn:val k∉met val k:=λz=>by
   obtain⟨i,hi,e⟩:=h2 _ z;have:=h k i (by omega) (by omega) e
   omega
  have e:met val (k+1)=met val k++[val k]:=by
   conv=>lhs;unfold met
   omega
  rw[e];refine⟨by simp_all,λx hx=>?_⟩
  rcases ë.mp hx with q|q
  .obtain⟨i,hi,e⟩:=h2 x q;exact⟨i,by omega,e⟩
  .exact⟨k,by omega,Í.mp q⟩
theorem zm6(h:ys.Nodup):Ss ys=ys.length:=by
 refine(Xp (λi j hi hj e=>?_) ys.length (È _)).1
 have e':=Sum.inr.inj e;rw[Ô,Ô,Â hi,Â hj]at e';exact(Ř h).mp e'
theorem JJ{ys:kE}(h:ys.Nodup)(hl:ys.length<1000):Gi [.lst (ys.map T.str)]=some (.ok (.bl true)):=by
 have e:(ys.length == ys.length)=true:=ÿ _;unfold Gi P5
 simp![JI,Ae,IF,hl,zm6 h,Hf,e,À]
abbrev Ud:Stmt:=AN 32
def R6:AI:=
 (AS KA (AB (AA 0) AE))
def PZ:AH:=
 (AG (Aj (Bk (BD (m1 (DH "list") (AA 0))) (m2 (CI λi j=>decide (j<i)) (m1 B9 (AA 0)) (mC HZ))) (CO "BadMachine" (AB (mC (.str "a machine's watches are a list of at most seven")) AE)) Ah)
 (Aj (Bk (BD (m1 ET (BU 1 [] (BE (AA 0)) (AD 0) (mC (.bl true)) R6))) (BD (AS Gi (AB (AA 0) AE)))) (CO "BadMachine" (AB (mC (.str "a machine's watches are unlike names")) AE)) Ah))
def NA:kL->Option Ru:=Aa 1 1 PZ
abbrev ZT:Fn:=⟨4,["watches"],NA⟩
abbrev zad:Gx:={ Bn with co:=[("MOST_WATCHES",HZ)] }
abbrev zai:Gm:=gA ["watches"] Ud 3 [("is_watch_name",Q3),("are_unlike",Ic)] ["isinstance","list","len","all"] (ex:=["BadMachine"]) (ox:=zad)
theorem zan:Ck zai ZT Ud PZ:={}
theorem LC(ws:kE):ws.map T.str=mT ws.length λi=>.str (ws.getD i Str.empty):=G2 (by simp_all) λi hi=>by
 simp_all
theorem cw_ok{ws:kE}(h:∀x∈ws,Hm x)(hd:ws.Nodup)(hl:ws.length<=7):NA [.lst (ws.map T.str)]=some (.ok .non):=by
 have lc:=EO (n:=ws.length) (me:=R6) (x:=none) (cs:=[]) (g:=λi=>.str (ws.getD i Str.empty)) (f:=λ_=>.bl true) λi hi=>by
  have hm:ws.getD i Str.empty∈ws:=by
   simp_all
  unfold R6
  simp![Sd (h _ hm)]
 rw[<- LC]at lc;have l1:ws.length<=100000:=by omega
 have e1:decide (7<(ws.length:Int))=false:=Ù (by omega)
 have ba:((List.range ws.length).map λ_=>true).all id=true:=by simp
 have un:=JJ hd (by omega)
 unfold NA PZ HZ
 simp![Ae,AV,À,lc,l1,e1,Jt,ba,un]
abbrev Ue:Stmt:=AN 34
def N8:AH:=
 (AG (Aj (Bk (BD (m1 (DH "tuple") (AA 2))) (m2 Bz (m1 B9 (AA 2)) (mC (.int 2)))) (CO "BadMachine" (AB (mC (.str "a room is a tuple of a name and a stay")) AE)) Ah)
 (Aj (Bk (BD (AS KD (AB (AL (AA 2) (mC (.int 0))) AE))) (BD (AS Iv (AB (AL (AA 2) (mC (.int 1))) (AB (AA 1) (AB (mC MH) AE)))))) (CO "BadMachine" (AB (mC (.str "a room has a name, and a stay of the machine's watches")) AE)) Ah))
def R7:AI:=
 (AL (AA 0) (mC (.int 0)))
def P0:AH:=
 (AG (Aj (Bk (BD (m1 (DH "list") (AA 0))) (m2 Be (m1 B9 (AA 0)) (mC (.int 0)))) (CO "BadMachine" (AB (mC (.str "a machine's rooms are a list of one or more")) AE)) Ah)
 (AG (BZ (BE (AA 0)) (AD 2) N8)
 (Aj (BD (AS Gi (AB (BU 1 [] (BE (AA 0)) (AD 0) (mC (.bl true)) R7) AE))) (CO "BadMachine" (AB (mC (.str "no two rooms have one name")) AE)) Ah)))
def NB:kL->Option Ru:=Aa 2 3 P0
abbrev ZU:Fn:=⟨5,["rooms","watches"],NB⟩
abbrev zb6:Gx:={ Bn with co:=[("STAY_WORDS",MH)] }
abbrev zbc:Gm:=gA ["rooms","watches","room"] Ue 4 [("is_room_name",Q5),("is_guard",MW),("are_unlike",Ic)] ["isinstance","list","len","tuple"] (ex:=["BadMachine"]) (ox:=zb6)
theorem zbj:Ck zbc ZU Ue P0:={}
def Cg(ws wd:kE)(l:kL):Prop:=∀t∈l,∃x y n,t=.tup [.str x,.str y,.int n]/\x∈ws/\y∈wd/\0<=n
theorem Cg.sh(h:Cg ws wd l):Aq l=true:=by
 rw[Di,Þ];intro t ht;obtain⟨x,y,n,rfl,_⟩:=h t ht
 rfl
theorem Cg.more(h:Cg ws wd l)(hs:∀x∈ws,x∈vs):Cg vs wd l:=λt ht=>by
 obtain⟨x,y,n,e,h1,h2,h3⟩:=h t ht;exact⟨x,y,n,e,hs x h1,h2,h3⟩
abbrev J7(wd:kE):T:=.nd false .rt (wd.map T.str)
theorem zl5(h:CU ws)(hd:CU wd)(ht:∃x y n,t=.tup [.str x,.str y,.int n]/\x∈ws/\y∈wd/\0<=n):Mx [t,.lst (ws.map T.str),J7 wd]=some (.ok (.bl true)):=by
 obtain⟨x,y,n,rfl,h1,h2,h3⟩:=ht;have e1:=Jd (o:=false) (k:=.lst) h (h x h1);have e2:=Jd (o:=false) (k:=.rt) hd (hd y h2);have e3:=zkt n;rw[Ñ h1]at e1;rw[Ñ h2]at e2;rw[Ñ h3]at e3;unfold Mx PM
 simp![Dt,Ae,AV,e1,e2,e3]
theorem QP(h:CU ws)(hd:CU wd)(hl:l.length<=1000)(hk:Cg ws wd l):Iv [.lst l,.lst (ws.map T.str),J7 wd]=some (.ok (.bl true)):=by
 have hs:=hk.sh;have es:=AF l hs;have em:=mT_of l .non
 have sg:∀i,(l.getD i .non).sh=true:=λi=>by
  by_cases hi:i<l.length
  .rw[Ô,Â hi];rw[Di,Þ]at hs;exact hs _ (ê hi)
  .rw[Ô,ò (by omega)]
   rfl
 have lc:=EO (me:=RX) (x:=none) (cs:=[some (.lst (ws.map T.str)),some (J7 wd)]) (g:=λi=>l.getD i .non) (f:=λ_=>.bl true) λi hi=>by
  have hm:l.getD i .non∈l:=by
   rw[Ô,Â hi];exact ê hi
  have e:=zl5 h hd (hk _ hm);unfold RX
  simp![Ae,AV,e,Ap _ (sg i),sg i]
 rw[<- em]at lc;have l1:l.length<=100000:=by omega
 have ba:((List.range l.length).map λ_=>true).all id=true:=by simp
 unfold Iv PQ
 simp![Ae,AV,hs,es,l1,lc,Jt,ba]
def HG:kE:=["<","<="]
theorem zp1:MH=J7 HG:=rfl
theorem YV:IU=J7 Dl:=rfl
theorem st_tx:CU HG:=by unfold CU;decide +kernel
structure RsOk(ws:kE)(rs:List (Str×kL)):Prop where
 l1:1<=rs.length
 l64:rs.length<=64
 nm:∀r∈rs,Ik r.1/\1<=r.1.cps.size/\r.1.cps.size<=60
 nd:(rs.map (·.1)).Nodup
 lk:∀r∈rs,Cg ws HG r.2/\r.2.length<=1000
abbrev BS(r:Str×kL):T:=.tup [.str r.1,.lst r.2]
abbrev Bf(rs:List (Str×kL)):T:=.lst (rs.map BS)
theorem Ee(h:RsOk ws rs):Aq (rs.map BS)=true:=by
 rw[Di,Þ];intro t ht;obtain⟨r,hr,rfl⟩:=Ë.mp ht;have:=(h.lk r hr).1.sh;show((!false) && (true && (((!false) && Aq r.2) && true)))=true
 omega
theorem zlw(hw:CU ws)(h:RsOk ws rs):NB [Bf rs,.lst (ws.map T.str)]=some (.ok .non):=by
 have sr:=Ee h;have er:=AF _ sr;have hl1:=h.l1;have hl2:=h.l64;have en:(((rs.map BS).length:Int) == 0)=false:=by rw[ŋ,À];omega
 obtain⟨τ,e,y,rfl⟩:=FD (b:=AD 2) (body:=N8) (ts:=rs.map BS) (τ:=[some (Bf rs),some (.lst (ws.map T.str)),none]) (λi τ=>∃y,τ=[some (Bf rs),some (.lst (ws.map T.str)),y]) ⟨_,rfl⟩ λi t τ h1 h2=>by
  obtain⟨y,rfl⟩:=h2;obtain⟨r,hr,rfl⟩:=Ë.mp (Ú h1);obtain⟨n1,n2,n3⟩:=h.nm r hr;obtain⟨k1,k2⟩:=h.lk r hr;have e1:=V1 n1 n2 n3;have e2:=QP hw st_tx k2 k1;have e3:=k1.sh;refine⟨[some (Bf rs),some (.lst (ws.map T.str)),some (BS r)],by simp![],[some (Bf rs),some (.lst (ws.map T.str)),some (BS r)],?_,_,rfl⟩
  unfold N8
  simp![zp1,Dt,Ae,AV,e1,e2,e3,AF _ e3]
 have lc:=Px (b:=AD 0) (me:=R7) (ts:=rs.map BS) (λ_ τ=>∃y,τ=[y]) (λi=>.str ((rs.map (·.1)).getD i Str.empty)) ⟨none,rfl⟩ λi t τ h1 h2=>by
  obtain⟨y,rfl⟩:=h2;have hi :=by simpa using (Õ.mp h1).1
  rw[Ä,Â hi]at h1;have et :=(ì h1).symm;subst et;have k1:=(h.lk rs[i] (ê hi)).1.sh;have eg:(rs.map (·.1)).getD i Str.empty=rs[i].1:=by simp[hi]
  refine⟨[some (BS rs[i])],by simp![],?_,_,rfl⟩
  rw[eg];unfold R7
  simp![k1]
 have em:(List.range (rs.map BS).length).map (λi=>T.str ((rs.map (·.1)).getD i Str.empty))=(rs.map (·.1)).map T.str:=by
  rw[LC (rs.map (·.1)),À,À]
  rfl
 rw[em]at lc;have un:=JJ h.nd (by rw[À];omega)
 have ll:(rs.map BS).length<=100000:=by rw[À];omega
 unfold NB P0
 simp![Hf,Ae,AV,sr,er,en,e,lc,un,ll]
abbrev Uj:Stmt:=AN 36
def Ra:AI:=
 (AS KA (AB (AA 0) AE))
def R9:AI:=
 (m2 CM (AA 0) (AA 1))
def P6:AH:=
 (AG (Aj (Bk (BD (m1 (DH "list") (AA 0))) (BD (m1 ET (BU 1 [] (BE (AA 0)) (AD 0) (mC (.bl true)) Ra)))) (AU (mC (.bl false))) Ah)
 (AU (CA (AS Gi (AB (AA 0) AE)) (m1 ET (BU 1 [1] (BE (AA 0)) (AD 0) (mC (.bl true)) R9)))))
def NF:kL->Option Ru:=Aa 2 2 P6
abbrev ZX:Fn:=⟨4,["thing","watches"],NF⟩
abbrev zbf:Gm:=gA ["thing","watches"] Uj 3 [("is_watch_name",Q3),("are_unlike",Ic)] ["isinstance","list","all"] [] ["watches"]
theorem zbm:Ck zbf ZX Uj P6:={}
theorem zog{ws ns:kE}(hw:∀x∈ws,Hm x)(hn:∀x∈ns,x∈ws)(hd:ns.Nodup)(hl:ns.length<=100):NF [.lst (ns.map T.str),.lst (ws.map T.str)]=some (.ok (.bl true)):=by
 have tw :=λx hx=>Hz (hw x hx)
 have mem:∀i,i<ns.length->ns.getD i Str.empty∈ns:=λi hi=>by
  simp_all
 have lc:=EO (n:=ns.length) (me:=Ra) (x:=none) (cs:=[]) (g:=λi=>.str (ns.getD i Str.empty)) (f:=λ_=>.bl true) λi hi=>by
  unfold Ra
  simp![Sd (hw _ (hn _ (mem i hi)))]
 have lc2:=EO (me:=R9) (x:=none) (cs:=[some (.lst (ws.map T.str))]) (g:=λi=>.str (ns.getD i Str.empty)) (f:=λ_=>.bl true) λi hi=>by
  have e:=Jd (o:=false) (k:=.lst) tw (tw _ (hn _ (mem i hi)));rw[Ñ (hn _ (mem i hi))]at e;unfold R9
  simp![Ae,AV,e]
 rw[<- LC]at lc lc2;have l1:ns.length<=100000:=by omega
 have ba:((List.range ns.length).map λ_=>true).all id=true:=by simp
 have un:=JJ hd (by omega)
 unfold NF P6
 simp![Ae,AV,À,lc,lc2,l1,Jt,ba,un]
abbrev U1:Stmt:=AN 28
def Lm:AH:=
 (AG (Aj (BD (m1 (DH "str") (AA 0))) (AU (mC (.bl false))) Ah)
 (AU (Bk (m2 Be (AA 0) (mC (.str ""))) (CA (m2 CM (AL (AA 0) (m1 Ds (mC (.int 1)))) (B7 (AB (mC (.str "!")) (AB (mC (.str "?")) AE)))) (AS KE (AB (Cn (Du (AA 0) none (some (m1 Ds (mC (.int 1))))) (D0 (AA 0) none (some (m1 Ds (mC (.int 1)))))) AE))))))
def Ir:kL->Option Ru:=Aa 1 1 Lm
abbrev ZO:Fn:=⟨3,["thing"],Ir⟩
abbrev ze8:Gm:=gA ["thing"] U1 2 [("is_name",Q6)] ["isinstance","str"]
theorem zeh:Ck ze8 ZO U1 Lm:={}
def EU(z:Str):Prop:=z=Str.ofString ""\/∃(y:Str) (c:Nat),Fb y/\1<=y.cps.size/\y.cps.size<=8/\(c=33\/c=63)/\Tx.cs z=Tx.cs y++[c]
theorem IG(h:Fb y):∀c∈Tx.cs y,97<=c/\c<=122:=λc hc=>by
 obtain⟨i,hi⟩:=ķ hc;have hl :=by simpa using (Õ.mp hi).1
 have:=h i hl
 simp_all
theorem zjk(h:EU z):∀c∈Tx.cs z,c<128/\c≠32/\c≠10/\c≠58:=λc hc=>by
 rcases h with rfl|⟨y,d,h1,_,_,hd,e⟩
 .cases hc
 .rw[e]at hc
  rcases ë.mp hc with hc|hc
  .have:=IG h1 c hc
   omega
  .rw[Í.mp hc]
   omega
theorem IH{z:Str}(h:EU z):PyData.strOk z=true:=bY λc hc=>(zjk h c hc).1
theorem zmt(h:EU z):Ir [.str z]=some (.ok (.bl true)):=by
 have o0:PyData.strOk (Str.ofString "")=true:=by decide +kernel
 have tl:∀c,(c=33\/c=63)->CM (.str (Str.mk #[c])) (.tup [.str (Str.ofString "!"),.str (Str.ofString "?")])=some (.bl true):=λc hc=>by
  rcases hc with rfl|rfl<;>ext
 have key:∀z y:Str,PyData.strOk z=true->z≠Str.ofString ""->z.length<=100000->∀c,(c=33\/c=63)->A5 z.cps.toList (-1)=some c->Txt.slice z none (some (-1))=y->Fb y->1<=y.cps.size->y.cps.size<=8->Ir [.str z]=some (.ok (.bl true)):=by
  intro z y hz hne hl c hc ha hs h1 h2 h3;have e:=E5 hz o0;rw[Ù hne]at e;have en:=Xc h1 h2 h3;unfold Ir Lm
  simp![e,hl,ha,tl c hc,D0,hs,en,show(-1)=-1 from rfl]
 rcases id h with rfl|⟨y,c,h1,h2,h3,hc,e⟩
 .have e:=E5 o0 o0;rw[Ñ rfl]at e;unfold Ir Lm
  simp![e]
 .have hl:(Tx.cs z).length=(Tx.cs y).length+1:=by rw[e,Ø];rfl
  have h3':(Tx.cs y).length<=8:=h3;refine key z y (IH h) (λq=>?_) (by rw[Tx.cs_len];omega) c hc ?_ ?_ h1 h2 h3
  .rw[q,show Tx.cs (Str.ofString "")=[] by decide +kernel]at hl
   exact absurd hl (by rw[å];omega)
  .show A5 (Tx.cs z) (-1)=some c;rw[e];unfold A5 Ce;rw[Ø,ñ,if_neg (by decide),if_pos (by omega)]
   show(Tx.cs y++[c])[((-1:Int)+((Tx.cs y).length+1:Nat)).toNat]?=some c;rw[show((-1:Int)+((Tx.cs y).length+1:Nat)).toNat=(Tx.cs y).length by omega,ę (È _),Nat.sub_self]
   rfl
  .have e2:Txt.slice z none (some (-1))=StrLaws.sliceText z none (some (-1)):=rfl;rw[e2,StrLaws.sliceText_neg_hi z none (by decide) (by rw[Tx.cs_len,hl];omega)]
   have e3:(-1+z.length)=((Tx.cs y).length:Int):=by rw[Tx.cs_len,hl];omega
   rw[e3];refine Tx.cs_ext ?_;show Tx.cs (Txt.slice z none (some (((Tx.cs y).length:Nat):Int)))=Tx.cs y;rw[Tx.sl_to (by omega),e,List.take_left' rfl]
abbrev UT:Stmt:=AN 29
def PC:AH:=
 (AU (Dv (m1 (DH "list") (AA 0)) (m1 CQ (AA 0)) (AA 0)))
def Jy:kL->Option Ru:=Aa 1 1 PC
abbrev ZL:Fn:=⟨1,["thing"],Jy⟩
abbrev zd8:Gm:=gA ["thing"] UT 0 [] ["isinstance","list"]
theorem zdl:Ck zd8 ZL UT PC:={}
theorem L6(l:kL)(h:Aq l=true):Jy [.lst l]=some (.ok (.own l)):=by
 unfold Jy PC
 simp![h,AF _ h]
abbrev Uh:Stmt:=AN 35
def N9:AH:=
 (AG (Aj (BD (m1 (Ha RA) (AA 3))) (CO "BadMachine" (AB (mC (.str "a machine's doors are doors")) AE)) Ah)
 (AG (Aj (Bk (m2 HR (Bl BC BH 0 (AA 3)) (AA 1)) (m2 HR (Bl BC BH 1 (AA 3)) (AA 1))) (CO "BadMachine" (AB (mC (.str "a door leads from one room of the machine to another")) AE)) Ah)
 (AG (Aj (BD (AS Iv (AB (Bl BC BH 2 (AA 3)) (AB (AA 2) (AB (mC IU) AE))))) (CO "BadMachine" (AB (mC (.str "a door's guard is one of the machine's watches")) AE)) Ah)
 (Aj (Bk (BD (AS NF (AB (Bl BC BH 3 (AA 3)) (AB (AA 2) AE)))) (BD (AS Ir (AB (Bl BC BH 4 (AA 3)) AE)))) (CO "BadMachine" (AB (mC (.str "a door sets watches of the machine, each once, and has at most one sign")) AE)) Ah))))
def P4:AH:=
 (AG (Aj (BD (m1 (DH "list") (AA 0))) (CO "BadMachine" (AB (mC (.str "a machine's doors are a list")) AE)) Ah)
 (BZ (BE (AA 0)) (AD 3) N9))
def ND:kL->Option Ru:=Aa 3 4 P4
abbrev ZW:Fn:=⟨5,["doors","names","watches"],ND⟩
abbrev zb8:Gx:={ Bn with co:=[("WORDS",IU)],cl:=[("Door",BC,BH)],ci:=[("Door",RA)] }
abbrev zbe:Gm:=gA ["doors","names","watches","door"] Uh 4 [("is_guard",MW),("are_noughts",ZX),("is_sign",ZO)] ["isinstance","list"] (ex:=["BadMachine"]) (ox:=zb8)
theorem zbl:Ck zbe ZW Uh P4:={}
structure Dr where
 s:Str
 e:Str
 g:kL
 n:kE
 z:Str
abbrev kI:=List Dr
abbrev AO(d:Dr):T:=.obj (.ins BC BH) [.str d.s,.str d.e,.lst d.g,.lst (d.n.map T.str),.str d.z]
structure DrOk(ws ns:kE)(d:Dr):Prop where
 s:d.s∈ns
 e:d.e∈ns
 g:Cg ws Dl d.g
 gl:d.g.length<=1000
 n:∀x∈d.n,x∈ws
 nd:d.n.Nodup
 nl:d.n.length<=100
 z:EU d.z
theorem Qy{ws ns:kE}{d:Dr}(h:DrOk ws ns d):(AO d).sh=true:=by
 have:=h.g.sh
 simp![this,AV]
theorem X9(h:CU ys)(hx:PyData.strOk x=true):HR (.str x) (.nd o k (ys.map T.str))=some (.bl (!decide (x∈ys))):=by
 have e:=Jd (o:=o) (k:=k) h hx;unfold CM at e;unfold HR
 omega
theorem zlz(hw:∀x∈ws,Hm x)(hn:CU ns){ds:kI}(h:∀d∈ds,DrOk ws ns d):ND [.lst (ds.map AO),.lst (ns.map T.str),.lst (ws.map T.str)]=some (.ok .non):=by
 have tw :=λx hx=>Hz (hw x hx)
 have sd:Aq (ds.map AO)=true:=by
  rw[Di,Þ];intro t ht;obtain⟨d,hd,rfl⟩:=Ë.mp ht;exact Qy (h d hd)
 have ed:=AF _ sd
 obtain⟨τ,e,y,rfl⟩:=FD (b:=AD 3) (body:=N9) (ts:=ds.map AO) (τ:=[some (.lst (ds.map AO)),some (.lst (ns.map T.str)),some (.lst (ws.map T.str)),none]) (λi τ=>∃y,τ=[some (.lst (ds.map AO)),some (.lst (ns.map T.str)),some (.lst (ws.map T.str)),y]) ⟨_,rfl⟩ λi t τ h1 h2=>by
  obtain⟨y,rfl⟩:=h2;obtain⟨d,hd,rfl⟩:=Ë.mp (Ú h1);have k:=h d hd;have e1:=X9 (o:=false) (k:=.lst) hn (hn _ k.s);have e2:=X9 (o:=false) (k:=.lst) hn (hn _ k.e);rw[Ñ k.s]at e1;rw[Ñ k.e]at e2;have e3:=QP tw Kf k.gl k.g;have e4:=zog hw k.n k.nd k.nl;have e5:=zmt k.z;have e6:=k.g.sh;have ci:List.lookup BC RA=some true:=rfl;refine⟨[some (.lst (ds.map AO)),some (.lst (ns.map T.str)),some (.lst (ws.map T.str)),some (AO d)],by simp![],[some (.lst (ds.map AO)),some (.lst (ns.map T.str)),some (.lst (ws.map T.str)),some (AO d)],?_,_,rfl⟩
  unfold N9
  simp![YV,Ha,ci,Ae,AV,e1,e2,e3,e4,e5,e6,AF _ e6]
 unfold ND P4
 simp![Ae,AV,sd,ed,e]
abbrev VO:Stmt:=Ct 30 0
def Ly:AH:=
 (AG (EI BC BH 0 0 (AA 1))
 (AG (EI BC BH 1 0 (AA 2))
 (AG (EI BC BH 2 0 (AS Jy (AB (AA 3) AE)))
 (AG (EI BC BH 3 0 (AS Jy (AB (AA 4) AE)))
 (EI BC BH 4 0 (AA 5))))))
def KR:kL->Option Ru:=Ed BC BH 6 6 Ly
abbrev M0:Fn:=⟨2,["self","start","end","guard","noughts","sign"],KR⟩
abbrev zce:Gx:={ Bn with sf:=some (BC,BH) }
abbrev zcm:Gm:=gA ["self","start","end","guard","noughts","sign"] VO 1 [("own_copy",ZL)] [] (ox:=zce)
theorem zcu:Ck zcm M0 VO Ly:={}
theorem di_ok(h:DrOk ws ns d):KR [.str d.s,.str d.e,.lst d.g,.lst (d.n.map T.str),.str d.z]=some (.ok (AO d)):=by
 have hg:=h.g.sh;have e1:=L6 d.g hg;have e2:=L6 (d.n.map T.str) (AV _);refine OU λp=>?_
 unfold Fk Ly
 simp![e1,e2,hg,AF _ hg,Ae,AV]
abbrev Ur:Stmt:=Ct 31 0
def Rc:AI:=
 (AA 0)
def Nd:AH:=
 (JT Au Ay 1 0 (AA 4) (m1 CQ (AA 5)))
def Pd:AH:=
 (AG (Fj (AS NA (AB (AA 1) AE)))
 (AG (Fj (AS NB (AB (AA 2) (AB (AA 1) AE))))
 (AG (Fj (AS ND (AB (AA 3) (AB (BU 2 [] (BE (AA 2)) (Ax 2 (AM (AD 0) (AM (AD 1) Az))) (mC (.bl true)) Rc) (AB (AA 1) AE)))))
 (AG (Aj (Bk (m2 (CI λi j=>decide (j<i)) (m1 B9 (AA 2)) (mC H9)) (m2 (CI λi j=>decide (j<i)) (m1 B9 (AA 3)) (mC Fv))) (CO "TooMany" (AB (mC (.str "a machine has at most 64 rooms and at most 200 doors")) AE)) Ah)
 (AG (EI Au Ay 0 0 (m1 CQ (AA 1)))
 (AG (EI Au Ay 1 0 Lz)
 (AG (BZ (BE (AA 2)) (Ax 2 (AM (AD 4) (AM (AD 5) Az))) Nd)
 (EI Au Ay 2 0 (m1 CQ (AA 3))))))))))
def JB:kL->Option Ru:=Ed Au Ay 4 6 Pd
abbrev MY:Fn:=⟨6,["self","watches","rooms","doors"],JB⟩
abbrev zau:Gx:={ Bn with co:=[("MOST_ROOMS",H9),("MOST_DOORS",Fv)],sf:=some (Au,Ay) }
abbrev zaz:Gm:=gA ["self","watches","rooms","doors","name","stay"] Ur 5 [("check_watches",ZT),("check_rooms",ZU),("check_doors",ZW)] ["len","list"] (ex:=["TooMany"]) (ox:=zau)
theorem zb4:Ck zaz MY Ur Pd:={}
structure Mc where
 ws:kE
 rs:List (Str×kL)
 ds:kI
abbrev kJ:=List Mc
abbrev E3(M:Mc):T:=.obj (.ins Au Ay) [.lst (M.ws.map T.str),.obj (.sdc (M.rs.map (·.1))) (M.rs.map λr=>.lst r.2),.lst (M.ds.map AO)]
structure McOk(M:Mc):Prop where
 w:∀x∈M.ws,Hm x
 wd:M.ws.Nodup
 wl:M.ws.length<=7
 r:RsOk M.ws M.rs
 d:∀d∈M.ds,DrOk M.ws (M.rs.map (·.1)) d
 dl:M.ds.length<=200
theorem McOk.tw{M:Mc}(h:McOk M):CU M.ws:=λx hx=>Hz (h.w x hx)
theorem McOk.tn(h:McOk M):CU (M.rs.map (·.1)):=λx hx=>by
 obtain⟨r,hr,rfl⟩:=Ë.mp hx;exact V2 (h.r.nm r hr).1
theorem McOk.sd(h:McOk M):Aq (M.ds.map AO)=true:=by
 rw[Di,Þ];intro t ht;obtain⟨d,hd,rfl⟩:=Ë.mp ht;exact Qy (h.d d hd)
theorem McOk.ss(h:McOk M):Aq (M.rs.map λr=>T.lst r.2)=true:=by
 rw[Di,Þ];intro t ht;obtain⟨r,hr,rfl⟩:=Ë.mp ht;show((!false) && Aq r.2)=true;rw[(h.r.lk r hr).1.sh]
 rfl
theorem McOk.sh{M:Mc}(h:McOk M):(E3 M).sh=true:=by
 simp![AV,h.ss,h.sd]
theorem Xo{M:Mc}(h:McOk M):JB [.lst (M.ws.map T.str),Bf M.rs,.lst (M.ds.map AO)]=some (.ok (E3 M)):=by
 have cw:=cw_ok h.w h.wd h.wl;have cr:=zlw h.tw h.r;have cd:=zlz h.w h.tn h.d;have sr:=Ee h.r;have er:=AF _ sr;have sd:=h.sd;have ed:=AF _ sd;have h1:=h.r.l1;have h64:=h.r.l64;have h200:=h.dl
 have lc:=Px (b:=Ax 2 (AM (AD 0) (AM (AD 1) Az))) (me:=Rc) (ts:=M.rs.map BS) (λ_ τ=>∃x y,τ=[x,y]) (λi=>.str ((M.rs.map (·.1)).getD i Str.empty)) ⟨none,none,rfl⟩ λi t τ h1 h2=>by
  obtain⟨x,y,rfl⟩:=h2;have hi:=by simpa using (Õ.mp h1).1
  rw[Ä,Â hi]at h1;have et :=(ì h1).symm;subst et;have eg:(M.rs.map (·.1)).getD i Str.empty=M.rs[i].1:=by simp[hi]
  refine⟨[some (.str M.rs[i].1),some (.lst M.rs[i].2)],by simp![],?_,_,_,rfl⟩
  rw[eg];unfold Rc
  simp![]
 have em:(List.range (M.rs.map BS).length).map (λi=>T.str ((M.rs.map (·.1)).getD i Str.empty))=(M.rs.map (·.1)).map T.str:=by
  rw[LC (M.rs.map (·.1)),À,À]
  rfl
 rw[em]at lc;have ll:(M.rs.map BS).length<=100000:=by rw[À];omega
 have g1:decide ((64:Int)<((M.rs.map BS).length:Int))=false:=Ù (by rw[À];omega)
 have g2:decide ((200:Int)<((M.ds.map AO).length:Int))=false:=Ù (by rw[À];omega)
 refine OU λp=>?_
 obtain⟨τ,e,x,y,rfl⟩:=FD (b:=Ax 2 (AM (AD 4) (AM (AD 5) Az))) (body:=Nd) (ts:=M.rs.map BS) (τ:=[some (.oob p Au Ay [.own (M.ws.map T.str),.osd [] []]),some (.lst (M.ws.map T.str)),some (Bf M.rs),some (.lst (M.ds.map AO)),none,none])
  (λi τ=>∃x y,τ=[some (.oob p Au Ay [.own (M.ws.map T.str),.osd ((M.rs.take i).map (·.1)) ((M.rs.take i).map λr=>.lst r.2)]),some (.lst (M.ws.map T.str)),some (Bf M.rs),some (.lst (M.ds.map AO)),x,y]) ⟨none,none,by rw[List.take_zero];rfl⟩ λi t τ h1 h2=>by
  obtain⟨x,y,rfl⟩:=h2;have hi:=by simpa using (Õ.mp h1).1
  rw[Ä,Â hi]at h1;have et :=(ì h1).symm;subst et;have k1:=(h.r.lk _ (ê hi)).1.sh
  have hno:M.rs[i].1∉(M.rs.take i).map (·.1):=λhm=>by
   rw[List.map_take]at hm;obtain⟨j,hj,ej⟩:=List.mem_iff_getElem.mp hm;rw[ă,À]at hj;have hnd:=h.r.nd;rw[List.getElem_take]at ej;have e2:(M.rs.map (·.1))[j]'(by rw[À];omega)=(M.rs.map (·.1))[i]'(by rw[À];exact hi):=by rw[ej,List.getElem_map]
   have:=(Ř hnd).mp e2
   omega
  have hlen:((M.rs.take i).map (·.1)).length<100000:=by
   rw[À,ă]
   omega
  have et2:M.rs.take (i+1)=M.rs.take i++[M.rs[i]]:=by rw[List.take_append_getElem]
  refine⟨[some (.oob p Au Ay [.own (M.ws.map T.str),.osd ((M.rs.take i).map (·.1)) ((M.rs.take i).map λr=>.lst r.2)]),some (.lst (M.ws.map T.str)),some (Bf M.rs),some (.lst (M.ds.map AO)),some (.str M.rs[i].1),some (.lst M.rs[i].2)],by simp![],[some (.oob p Au Ay [.own (M.ws.map T.str),.osd ((M.rs.take (i+1)).map (·.1)) ((M.rs.take (i+1)).map λr=>.lst r.2)]),some (.lst (M.ws.map T.str)),some (Bf M.rs),some (.lst (M.ds.map AO)),some (.str M.rs[i].1),some (.lst M.rs[i].2)],?_,_,_,rfl⟩
  rw[et2,ß,ß];unfold Nd
  simp![k1,AF _ k1,hno,hlen]
 rw[À,Ĝ]at e;have es:=AF _ h.ss;unfold Fk Pd H9 Fv
 simp![Ae,AV,cw,cr,cd,sr,er,sd,ed,lc,ll,g1,g2,e,es]
abbrev Um:Stmt:=Ct 31 1
def Pa:AH:=
 (AU (Cn (m1 CQ (Bl Au Ay 0 (AA 0))) (G4 (Bl Au Ay 0 (AA 0)))))
def Hs:kL->Option Ru:=Aa 1 1 Pa
abbrev MX:Fn:=⟨1,["self"],Hs⟩
abbrev za5:Gx:={ Bn with cl:=[("Machine",Au,Ay)] }
abbrev za8:Gm:=gA ["self"] Um 0 [] ["list"] (ox:=za5)
theorem zab:Ck za8 MX Um Pa:={}
theorem Xj(h:McOk M):Hs [E3 M]=some (.ok (.own (M.ws.map T.str))):=by
 unfold Hs Pa
 simp![Ae,AV,h.ss,h.sd,AF _ h.ss,AF _ h.sd]
abbrev Uq:Stmt:=Ct 31 2
def YA:AH:=
 (AU (Cn (m1 CQ (Bl Au Ay 1 (AA 0))) (G4 (Bl Au Ay 1 (AA 0)))))
def JA:kL->Option Ru:=Aa 1 1 YA
abbrev Qc:Fn:=⟨1,["self"],JA⟩
abbrev zae:Gx:={ Bn with cl:=[("Machine",Au,Ay)] }
abbrev zaj:Gm:=gA ["self"] Uq 0 [] ["list"] (ox:=zae)
theorem zao:Ck zaj Qc Uq YA:={}
theorem Xk{M:Mc}(h:McOk M):JA [E3 M]=some (.ok (.own ((M.rs.map (·.1)).map T.str))):=by
 rfl
abbrev Us:Stmt:=Ct 31 3
def Pe:AH:=
 (AU (Cn (m1 CQ (Bl Au Ay 2 (AA 0))) (G4 (Bl Au Ay 2 (AA 0)))))
def E8:kL->Option Ru:=Aa 1 1 Pe
abbrev Ie:Fn:=⟨1,["self"],E8⟩
abbrev zaf:Gx:={ Bn with cl:=[("Machine",Au,Ay)] }
abbrev zak:Gm:=gA ["self"] Us 0 [] ["list"] (ox:=zaf)
theorem zap:Ck zak Ie Us Pe:={}
theorem Xs(h:McOk M):E8 [E3 M]=some (.ok (.own (M.ds.map AO))):=by
 unfold E8 Pe
 simp![Ae,AV,h.ss,h.sd,AF _ h.ss,AF _ h.sd]
abbrev Up:Stmt:=Ct 31 4
def Pc:AH:=
 (AU (m1 CQ (J3 (Bl Au Ay 1 (AA 0)) (AA 1))))
def Iz:kL->Option Ru:=Aa 2 2 Pc
abbrev Qb:Fn:=⟨1,["self","room"],Iz⟩
abbrev zat:Gx:={ Bn with cl:=[("Machine",Au,Ay)] }
abbrev zay:Gm:=gA ["self","room"] Up 0 [] ["list"] (ox:=zat)
theorem zb3:Ck zay Qb Up Pc:={}
theorem Yc(hd:ws.Nodup)(hi):CH ws ws[i]=some i:=by
 unfold CH;rw[Ġ];refine⟨hi,@decide_eq_true _ (Classical.propDecidable _) rfl,λj hj q=>?_⟩
 have:=@of_decide_eq_true _ (Classical.propDecidable _) q;have:=(Ř hd).mp this
 omega
theorem zl0(h:McOk M){i:Nat}(hi):Iz [E3 M,.str M.rs[i].1]=some (.ok (.own M.rs[i].2)):=by
 have e:=Yc h.r.nd (i:=i) (by simp_all)
 rw[List.getElem_map]at e;have e2:(M.rs.map λr=>T.lst r.2)[i]?=some (.lst M.rs[i].2):=by simp_all
 have k:=(h.r.lk _ (ê hi)).1.sh;unfold Iz Pc
 simp![J3,Ae,AV,h.ss,h.sd,AF _ h.ss,AF _ h.sd,e,e2,k,AF _ k]
abbrev VQ:Stmt:=Ct 30 1
def Pp:AH:=
 (AU (Cn (m1 CQ (Bl BC BH 2 (AA 0))) (G4 (Bl BC BH 2 (AA 0)))))
def KS:kL->Option Ru:=Aa 1 1 Pp
abbrev Qi:Fn:=⟨1,["self"],KS⟩
abbrev zcf:Gx:={ Bn with cl:=[("Door",BC,BH)] }
abbrev zcn:Gm:=gA ["self"] VQ 0 [] ["list"] (ox:=zcf)
theorem zcv:Ck zcn Qi VQ Pp:={}
theorem aP(h:Aq d.g=true):KS [AO d]=some (.ok (.own d.g)):=by
 unfold KS Pp
 simp![Ae,AV,h,AF _ h]
abbrev VN:Stmt:=Ct 30 2
def Po:AH:=
 (AU (Cn (m1 CQ (Bl BC BH 3 (AA 0))) (G4 (Bl BC BH 3 (AA 0)))))
def KQ:kL->Option Ru:=Aa 1 1 Po
abbrev Qh:Fn:=⟨1,["self"],KQ⟩
abbrev zcd:Gx:={ Bn with cl:=[("Door",BC,BH)] }
abbrev zcl:Gm:=gA ["self"] VN 0 [] ["list"] (ox:=zcd)
theorem zct:Ck zcl Qh VN Po:={}
theorem aF(h:Aq d.g=true):KQ [AO d]=some (.ok (.own (d.n.map T.str))):=by
 unfold KQ Po
 simp![Ae,AV,h,AF _ h]
abbrev Uk:Stmt:=AN 55
def Na:AH:=
 (FP 1 (CZ Au Ay Hs (AA 2) AE))
def P7:AH:=
 (AG (CW 1 (BN AE))
 (AG (BZ (BE (AA 0)) (AD 2) Na)
 (AU (AA 1))))
def Iw:kL->Option Ru:=Aa 1 3 P7
abbrev Q9:Fn:=⟨2,["machines"],Iw⟩
abbrev zb9:Gx:={ Bn with mt:=[("watches",Au,Ay,MX)] }
abbrev zbg:Gm:=gA ["machines","watches","machine"] Uk 1 [] [] ["watches"] (ox:=zb9)
theorem zbn:Ck zbg Q9 Uk P7:={}
theorem FC{α A:Type}{b}{body:AH}(f:α->T)(S:List A->AK->Prop)(g)(N:Nat):∀(L:List α) (a) (τ:AK),S a τ->a.length+(L.flatMap g).length<=N->(∀x∈L,∀a τ,S a τ->a.length+(g x).length<=N->∃τ1,b (f x) τ=some τ1/\∃τ2,body τ1=some (.nx τ2)/\S (a++g x) τ2)->∃τ',BV b body (L.map f) τ=some (.nx τ')/\S (a++L.flatMap g) τ'
 |[],a,τ,h,_,_=>⟨τ,rfl,by simp_all⟩|x::L,a,τ,h,hN,hs=>by
  rw[ä,Ø]at hN;obtain⟨τ1,e1,τ2,e2,h2⟩:=hs x (Ã ..) a τ h (by omega)
  obtain⟨τ',e,h'⟩:=FC f S g N L (a++g x) τ2 h2 (by rw[Ø];omega) λy hy=>hs y (Å _ hy)
  refine⟨τ',?_,by simp_all⟩
  rw[Ò];unfold BV
  omega
theorem MT{α A:Type}{b}{body:AH}(f:α->T)(S:List A->AK->Prop)(g)(N:Nat)(c:Str):∀(L:List α) (a:List A) (τ:AK),S a τ->a.length<=N ->
  (∀x∈L,∀a τ,S a τ->a.length<=N->∃τ1,b (f x) τ=some τ1/\((a.length+(g x).length<=N/\∃τ2,body τ1=some (.nx τ2)/\S (a++g x) τ2)\/(N<a.length+(g x).length/\∃τ2,body τ1=some (.xc c τ2)))) ->
  (a.length+(L.flatMap g).length<=N/\∃τ',BV b body (L.map f) τ=some (.nx τ')/\S (a++L.flatMap g) τ')\/(N<a.length+(L.flatMap g).length/\∃τ',BV b body (L.map f) τ=some (.xc c τ'))
 |[],a,τ,h,hN,_=>.inl ⟨by rw[ŀ];exact hN,τ,rfl,by simp_all⟩|x::L,a,τ,h,hN,hs=>by
  rw[ä,Ø,<- Ĕ,Ò];obtain⟨τ1,e1,⟨k,τ2,e2,h2⟩|⟨k,τ2,e2⟩⟩:=hs x (Ã ..) a τ h hN
  .rcases MT f S g N c L (a++g x) τ2 h2 (by rw[Ø];exact k) λy hy=>hs y (Å _ hy) with ⟨k2,τ',e,h'⟩|⟨k2,τ',e⟩
   .rw[Ø]at k2;refine .inl ⟨by omega,τ',?_,h'⟩
    unfold BV
    omega
   .rw[Ø]at k2;refine .inr ⟨by omega,τ',?_⟩
    unfold BV;erw[e1,e2];exact e
  .refine .inr ⟨by omega,τ2,?_⟩
   unfold BV;erw[e1,e2]
theorem C1{α:Type}{b}{me}(f g)(I:AK->Prop):∀(L:List α) (τ),I τ->(∀x∈L,∀τ,I τ->∃τ1,b (f x) τ=some τ1/\me τ1=some (.v (g x) false)/\I τ1)->Ba b (mC (.bl true)) me (L.map f) τ=some (L.map g)
 |[],_,_,_=>rfl|x::L,τ,h,hs=>by
  obtain⟨τ1,e1,e2,h1⟩:=hs x (Ã ..) τ h;have k:=C1 f g I L τ1 h1 λu hu=>hs u (Å _ hu)
  have f1:mC (.bl true) τ1=some (.v (.bl true) false):=rfl;rw[Ò,Ò];unfold Ba;erw[e1,f1,e2,k]
theorem CD{α:Type}{f}{L:List α}(h:∀x∈L,(f x).sh=true):Aq (L.map f)=true:=by
 rw[Di,Þ];intro t ht;obtain⟨x,hx,rfl⟩:=Ë.mp ht;exact h x hx
theorem sq(h:f τ=some (.nx τ'))(h2:g τ'=r):AG f g τ=r:=by
 unfold AG;rw[h];exact h2
theorem C6{f g:AH}{τ:AK}{r:Option Out}(h:f τ=some (.nx τ))(h2:g τ=r):AG f g τ=r:=sq h h2
theorem sr{f g:AH}{τ:AK}{t:T}(h:f τ=some (.rt t)):AG f g τ=some (.rt t):=by
 unfold AG;rw[h]
def AQ(M:Mc):T:=E3 M
theorem E2(M):Bu Au Ay (AQ M)=some [.lst (M.ws.map T.str),.obj (.sdc (M.rs.map (·.1))) (M.rs.map λr=>.lst r.2),.lst (M.ds.map AO)]:=(show Bu Au Ay (E3 M)=(if Au=Au/\Ay=Ay then some [.lst (M.ws.map T.str),.obj (.sdc (M.rs.map (·.1))) (M.rs.map λr=>.lst r.2),.lst (M.ds.map AO)] else none) from rfl).trans (if_pos ⟨rfl,rfl⟩)
theorem Xu{M:Mc}(h:McOk M):Hs [AQ M]=some (.ok (.own (M.ws.map T.str))):=Xj h
theorem DF{M:Mc}(h:McOk M):(AQ M).sh=true:=h.sh
theorem FX{Ms:kJ}(h:∀M∈Ms,McOk M):Aq (Ms.map AQ)=true:=CD λM hM=>(h M hM).sh
theorem bU{Ms:kJ}(h:∀M∈Ms,McOk M)(hl:(Ms.flatMap Mc.ws).length<=1000):Iw [.lst (Ms.map AQ)]=some (.ok (.own ((Ms.flatMap Mc.ws).map T.str))):=by
 have hs:=FX h
 obtain⟨τ,e,y,rfl⟩:=FC (b:=AD 2) (body:=Na) AQ (λa τ=>∃y,τ=[some (.lst (Ms.map AQ)),some (.own (a.map T.str)),y]) Mc.ws 1000 Ms [] _ ⟨none,rfl⟩ (by simpa using hl) λM hM a τ hS hN=>by
  obtain⟨y,rfl⟩:=hS;have k:=h M hM;have k1:=DF k;have k2:=Xu k;have l1:a.length+M.ws.length<=100000:=by omega
  refine⟨[some (.lst (Ms.map AQ)),some (.own (a.map T.str)),some (AQ M)],by rfl,_,?_,some (AQ M),rfl⟩
  unfold Na
  simp![-Bu,E2,k1,Ap _ k1,k2,Ae,À,l1,ß]
 rw[Ŝ]at e;unfold Iw P7
 simp![hs,AF _ hs,e]
abbrev Ug:Stmt:=AN 54
def R8:AI:=
 (m1 (Ha Qz) (AA 0))
def P1:AH:=
 (AG (Aj (Bk (BD (m1 (DH "list") (AA 0))) (BD (Ei Dw Dw (mC (.int 1)) (m1 B9 (AA 0)) (mC MI)))) (CO "BadMachine" (AB (mC (.str "one to six machines are put together")) AE)) Ah)
 (AG (Aj (BD (m1 ET (BU 1 [] (BE (AA 0)) (AD 0) (mC (.bl true)) R8))) (CO "BadMachine" (AB (mC (.str "only machines are put together")) AE)) Ah)
 (AG (AW (AS Iw (AB (AA 0) AE)) (AD 1))
 (Aj (Bk (m2 (CI λi j=>decide (j<i)) (m1 B9 (AA 1)) (mC HZ)) (BD (AS Gi (AB (AA 1) AE)))) (CO "BadMachine" (AB (mC (.str "machines put together have at most seven watches, all unlike")) AE)) Ah))))
def NC:kL->Option Ru:=Aa 1 2 P1
abbrev ZV:Fn:=⟨3,["machines"],NC⟩
abbrev zb7:Gx:={ Bn with co:=[("MOST_PARTS",MI),("MOST_WATCHES",HZ)],ci:=[("Machine",Qz)] }
abbrev zbd:Gm:=gA ["machines","watches"] Ug 2 [("all_watches",Q9),("are_unlike",Ic)] ["isinstance","list","len","all"] (ex:=["BadMachine"]) (ox:=zb7)
theorem zbk:Ck zbd ZV Ug P1:={}
structure MsOk(Ms:kJ):Prop where
 l1:1<=Ms.length
 l6:Ms.length<=6
 m:∀M∈Ms,McOk M
 wl:(Ms.flatMap Mc.ws).length<=7
 wd:(Ms.flatMap Mc.ws).Nodup
theorem Ro{α:Type}:∀L:List α,En (L.map λ_=>T.bl true)=some (L.map λ_=>true)
 |[]=>rfl|a::r=>by
  rw[Ò,Ò];unfold En;rw[Ro r]
theorem cp_ok(h:MsOk Ms):NC [.lst (Ms.map AQ)]=some (.ok .non):=by
 have hs:=FX h.m;have aw:=bU h.m (by have:=h.wl;omega)
 have un:=JJ h.wd (by have:=h.wl;omega)
 have l1:=h.l1;have l6:=h.l6
 have lc:Ba (AD 0) (mC (.bl true)) R8 (Ms.map AQ) [none]=some (Ms.map λ_=>T.bl true):=C1 AQ (λ_=>T.bl true) (λτ=>∃a,τ=[a]) Ms _ ⟨none,rfl⟩ λM hM τ hI=>by
  obtain⟨a,rfl⟩:=hI;have k:=DF (h.m M hM);have ci:Ha Qz (AQ M)=some (.bl true):=rfl;exact⟨[some (AQ M)],by simp![],by unfold R8;simp![k,Ap _ k,ci],_,rfl⟩
 have ba:=Ro Ms;have sb:=AF _ (CD (f:=λ_=>T.bl true) (L:=Ms) λ_ _=>rfl)
 have al:(Ms.map λ_=>true).all id=true:=by simp
 have e1:decide (1<=(Ms.length:Int))=true:=Ñ (by omega)
 have e2:decide ((Ms.length:Int)<=6)=true:=Ñ (by omega)
 have e3:decide (7<((Ms.flatMap Mc.ws).length:Int))=false:=Ù (by have:=h.wl;omega)
 have ll:Ms.length<=100000:=by omega
 unfold NC P1 MI HZ
 simp![hs,AF _ hs,À,e1,e2,ll,lc,sb,ba,al,aw,Ae,AV,e3,un]
abbrev Ul:Stmt:=AN 56
def Rb:AI:=
 (m2 Bb (AA 1) (BN (BK (AA 0) AE)))
def Nb:AH:=
 (FP 3 (BU 1 [4] (BE (CZ Au Ay JA (AA 2) AE)) (AD 0) (mC (.bl true)) Rb))
def Nc:AH:=
 (AG (CW 3 (BN AE))
 (AG (BZ (BE (AA 1)) (AD 4) Nb)
 (AG (Aj (m2 (CI λi j=>decide (j<i)) (m1 B9 (AA 3)) (mC H9)) (CO "TooMany" (AB (mC (.str "the whole would have more than 64 rooms")) AE)) Ah)
 (AG (Dn 3) (AW (AA 3) (AD 1))))))
def P9:AH:=
 (AG (AW (BN (BK (BN AE) AE)) (AD 1))
 (AG (BZ (BE (AA 0)) (AD 2) Nc)
 (AU (AA 1))))
def NG:kL->Option Ru:=Aa 1 5 P9
abbrev ZY:Fn:=⟨2,["machines"],NG⟩
abbrev zba:Gx:={ Bn with co:=[("MOST_ROOMS",H9)],mt:=[("rooms",Au,Ay,Qc)] }
abbrev zbh:Gm:=gA ["machines","takings","machine","longer","taking"] Ul 1 [] ["len"] ["longer"] ["taking"] (ex:=["TooMany"]) (ox:=zba)
theorem zbo:Ck zbh ZY Ul P9:={}
abbrev BF(t:kE):T:=.lst (t.map T.str)
def Bw(ts:List (kE))(rs:kE):List (kE):=ts.flatMap λt=>rs.map λr=>t++[r]
def tak(rss:List (kE)):List (kE):=rss.foldl Bw [[]]
theorem zgp(rss)(rs):tak (rss++[rs])=Bw (tak rss) rs:=by
 unfold tak;rw[List.foldl_append]
 rfl
theorem Yw:∀(rss ts:List (kE)) (t),t∈rss.foldl Bw ts->∃u∈ts,∃v,t=u++v/\v.length=rss.length/\∀(i:Nat) (r),v[i]?=some r->∃rs,rss[i]?=some rs/\r∈rs
 |[],ts,t,h=>⟨t,h,[],(ç t).symm,rfl,λi r z=>by simp at z⟩|rs::rss,ts,t,h=>by
  obtain⟨u,hu,v,rfl,hl,hv⟩:=Yw rss (Bw ts rs) t h;obtain⟨w,hw,hu⟩:=Û.mp hu;obtain⟨r,hr,rfl⟩:=Ë.mp hu;refine⟨w,hw,r::v,by rw[Ĕ];rfl,by rw[Ý,Ý,hl],λi x z=>?_⟩
  cases i with
  |zero=>simp at z;subst z;exact⟨rs,rfl,hr⟩|succ i=>simpa using hv i x (by simpa using z)
theorem Nx(h:t∈tak rss):t.length=rss.length/\∀(i:Nat) (r),t[i]?=some r->∃rs,rss[i]?=some rs/\r∈rs:=by
 obtain⟨u,hu,v,rfl,hl,hv⟩:=Yw rss [[]] t h;rw[Í.mp hu,ú];exact⟨hl,hv⟩
def Mc.nm(M:Mc):kE:=M.rs.map (·.1)
theorem mcT_r{M:Mc}(h:McOk M):JA [AQ M]=some (.ok (.own (M.nm.map T.str))):=Xk h
theorem Gw(ts:List (kE)):Aq (ts.map BF)=true:=CD λt _=>by
 show((!false) && Aq (t.map T.str))=true;rw[AV]
 rfl
theorem zmb(t:kE):(BF t).sh=true:=by
 show((!false) && Aq (t.map T.str))=true;rw[AV]
 rfl
theorem take_succ{α:Type}{L:List α}{i:Nat}(hi):L.take (i+1)=L.take i++[L[i]]:=by rw[List.take_append_getElem]
theorem at_ok(h:MsOk Ms)(hk:∀i,i<=Ms.length->(tak ((Ms.take i).map Mc.nm)).length<=64):NG [.lst (Ms.map AQ)]=some (.ok (.lst ((tak (Ms.map Mc.nm)).map BF))):=by
 have hs:=FX h.m
 obtain⟨τ,e,y2,y3,y4,rfl⟩:=FD (b:=AD 2) (body:=Nc) (ts:=Ms.map AQ) (τ:=[some (.lst (Ms.map AQ)),some (.lst [.lst []]),none,none,none]) (λi τ=>∃y2 y3 y4,τ=[some (.lst (Ms.map AQ)),some (.lst ((tak ((Ms.take i).map Mc.nm)).map BF)),y2,y3,y4]) ⟨_,_,_,rfl⟩ λi t τ h1 h2=>by
  obtain⟨y2,y3,y4,rfl⟩:=h2;have hi :=by simpa using (Õ.mp h1).1
  rw[Ä,Â hi]at h1;have et :=(ì h1).symm;subst et;have k:=h.m _ (ê hi);have k1:=DF k;have k2:=mcT_r k;have hl:=hk (i+1) (by omega)
  have en:tak ((Ms.take (i+1)).map Mc.nm)=Bw (tak ((Ms.take i).map Mc.nm)) Ms[i].nm:=by rw[take_succ hi,ß,Ò,Ŝ,zgp]
  rw[en]at hl ⊢;have hnl:Ms[i].nm.length<=64:=by unfold Mc.nm;rw[À];exact k.r.l64
  have tl:∀t∈tak ((Ms.take i).map Mc.nm),t.length<=6:=λt ht=>by
   have:=(Nx ht).1;rw[À,ă]at this;have:=h.l6
   omega
  generalize hts:tak ((Ms.take i).map Mc.nm)=ts at *;have sts:=Gw ts
  obtain⟨τ2,e2,z4,rfl⟩:=FC (b:=AD 4) (body:=Nb) BF (λa τ=>∃z,τ=[some (.lst (Ms.map AQ)),some (.lst (ts.map BF)),some (AQ Ms[i]),some (.own (a.map BF)),z]) (λt=>Ms[i].nm.map λr=>t++[r]) 64 ts [] [some (.lst (Ms.map AQ)),some (.lst (ts.map BF)),some (AQ Ms[i]),some (.own []),y4] ⟨y4,rfl⟩ (by rw[å,Nat.zero_add];exact hl) λt ht a τ hS hN=>by
   obtain⟨z,rfl⟩:=hS;rw[À]at hN;have t6:=tl t ht;have ts1:=zmb t;have a1:t.length+1<=100000:=by omega
   have a2:a.length+Ms[i].nm.length<=100000:=by omega
   have a3:Ms[i].nm.length<=100000:=by omega
   have lc:Ba (AD 0) (mC (.bl true)) Rb (Ms[i].nm.map T.str) [none,some (BF t)]=some (Ms[i].nm.map λr=>T.own ((t++[r]).map T.str)):=C1 T.str (λr=>T.own ((t++[r]).map T.str)) (λτ=>∃a,τ=[a,some (BF t)]) _ _ ⟨none,rfl⟩ λr _ τ hI=>by
    obtain⟨x,rfl⟩:=hI;exact⟨[some (.str r),some (BF t)],by simp![],by unfold Rb;simp![Ae,AV,À,a1,ß],_,rfl⟩
   have so:Bc (Ms[i].nm.map λr=>T.own ((t++[r]).map T.str))=(Ms[i].nm.map λr=>t++[r]).map BF:=by
    rw[DW,Ü,Ü];refine ĥ λr _=>?_
    show T.nd false .lst (Bc ((t++[r]).map T.str))=_;rw[Ae]
    rfl
   refine⟨[some (.lst (Ms.map AQ)),some (.lst (ts.map BF)),some (AQ Ms[i]),some (.own (a.map BF)),some (BF t)],by simp![],[some (.lst (Ms.map AQ)),some (.lst (ts.map BF)),some (AQ Ms[i]),some (.own ((a++Ms[i].nm.map λr=>t++[r]).map BF)),some (BF t)],?_,_,rfl⟩
   rw[ß];unfold Nb
   simp![-Bu,E2,k1,Ap _ k1,k2,AV,Ae,À,a2,a3,lc,so]
  rw[ú]at e2;have eb:ts.flatMap (λt=>Ms[i].nm.map λr=>t++[r])=Bw ts Ms[i].nm:=rfl
  rw[eb]at e2;have g64:decide (64<((Bw ts Ms[i].nm).length:Int))=false:=Ù (by omega)
  refine⟨[some (.lst (Ms.map AQ)),some (.lst (ts.map BF)),some (AQ Ms[i]),y3,y4],by simp![],[some (.lst (Ms.map AQ)),some (.lst ((Bw ts Ms[i].nm).map BF)),some (AQ Ms[i]),some (.lst ((Bw ts Ms[i].nm).map BF)),z4],?_,_,_,_,rfl⟩
  have st2:=Gw (Bw ts Ms[i].nm);unfold Nc H9
  simp![sts,AF _ sts,e2,À,g64,AF _ st2,st2]
 rw[À,Ĝ]at e;have st:=Gw (tak (Ms.map Mc.nm));unfold NG P9
 simp![hs,AF _ hs,e,AF _ st]
abbrev UB:Stmt:=AN 57
def Ot:AH:=
 (AU (HW (mC (.str "/")) (AA 0)))
def Hq:kL->Option Ru:=Aa 1 1 Ot
abbrev MU:Fn:=⟨1,["taking"],Hq⟩
abbrev zbw:Gm:=gA ["taking"] UB 0 [] []
theorem zc3:Ck zbw MU UB Ot:={}
noncomputable def BB(t:kE):Str:=Txt.join "/" t
theorem T9{α:Type}{f:α->Str}:∀{l:List α},(∀a∈l,(f a).length<=m)->((l.map f).map (·.length)).sum<=l.length * m
 |[],_=>õ _|a::l,h=>by
  have h1:=h a (Ã ..);have h2:=T9 λb hb=>h b (Å _ hb)
  rw[Ò,Ò,List.sum_cons,Ý]
  omega
theorem Y0{t:kE}(hl:t.length<=6)(hs:∀r∈t,r.length<=60):(t.map (·.length)).sum+t.length * (Str.ofString "/").length<=Bh:=by
 have h1:=T9 (f:=id) hs;rw[List.map_id]at h1;have h2:(Str.ofString "/").length=1:=by rfl
 unfold Bh
 omega
theorem Kc(hl:t.length<=6)(hs:∀r∈t,r.length<=60):Hq [.nd o .lst (t.map T.str)]=some (.ok (.str (BB t))):=by
 have h1:=Y0 hl hs;unfold Hq Ot;cases o<;>simp![HW,IF,h1,BB]
abbrev Uc:Stmt:=AN 53
def R5:AI:=
 (AS Hq (AB (AA 0) AE))
def RZ:AI:=
 (AS KD (AB (AA 0) AE))
def PY:AH:=
 (AG (Fj (AS NC (AB (AA 0) AE)))
 (AG (AW (AS NG (AB (AA 0) AE)) (AD 1))
 (AG (AW (BU 1 [] (BE (AA 1)) (AD 0) (mC (.bl true)) R5) (AD 2))
 (AG (Aj (Bk (BD (AS Gi (AB (AA 2) AE))) (BD (m1 ET (BU 1 [] (BE (AA 2)) (AD 0) (mC (.bl true)) RZ)))) (CO "BadMachine" (AB (mC (.str "a room of the whole would have a name twice, or a name of more than sixty signs")) AE)) Ah)
 (AU (AA 1))))))
def KH:kL->Option Ru:=Aa 1 3 PY
abbrev Q8:Fn:=⟨4,["machines"],KH⟩
abbrev za7:Gm:=gA ["machines","takings","names"] Uc 3 [("check_parts",ZV),("all_takings",ZY),("whole_name",MU),("are_unlike",Ic),("is_room_name",Q5)] ["all"] (ex:=["BadMachine"])
theorem zaa:Ck za7 Q8 Uc PY:={}
structure RmOk(Ms:kJ):Prop where
 k:∀i,i<=Ms.length->(tak ((Ms.take i).map Mc.nm)).length<=64
 s:∀M∈Ms,∀r∈M.nm,r.length<=60
 n:∀t∈tak (Ms.map Mc.nm),Ik (BB t)/\1<=(BB t).cps.size/\(BB t).cps.size<=60
 d:((tak (Ms.map Mc.nm)).map BB).Nodup
abbrev AZ(Ms:kJ):List (kE):=tak (Ms.map Mc.nm)
theorem RmOk.t(h:RmOk Ms)(hm:MsOk Ms){t:kE}(ht:t∈AZ Ms):t.length=Ms.length/\t.length<=6/\(∀r∈t,r.length<=60)/\∀(i:Nat) (r:Str),t[i]?=some r->∃M,Ms[i]?=some M/\r∈M.nm:=by
 obtain⟨h1,h2⟩:=Nx ht;rw[À]at h1
 have h3:∀(i:Nat) (r),t[i]?=some r->∃M,Ms[i]?=some M/\r∈M.nm:=λi r e=>by
  obtain⟨rs,e1,e2⟩:=h2 i r e;rw[Ä]at e1;obtain⟨M,e3,rfl⟩:=à.mp e1;exact⟨M,e3,e2⟩
 refine⟨h1,by rw[h1];exact hm.l6,λr hr=>?_,h3⟩
 obtain⟨i,e⟩:=ĵ.mp hr;obtain⟨M,e1,e2⟩:=h3 i r e;exact h.s M (Ú e1) r e2
theorem aW(h:MsOk Ms)(hr:RmOk Ms):KH [.lst (Ms.map AQ)]=some (.ok (.lst ((AZ Ms).map BF))):=by
 have hs:=FX h.m;have cp:=cp_ok h;have at':=at_ok h hr.k;have st:=Gw (AZ Ms);have l64 :=by have:=hr.k Ms.length (È _);rwa[Ĝ]at this
 have ll:(AZ Ms).length<=100000:=by omega
 have lc:Ba (AD 0) (mC (.bl true)) R5 ((AZ Ms).map BF) [none]=some (((AZ Ms).map BB).map T.str):=by
  rw[Ü]
  exact C1 BF (λt=>T.str (BB t)) (λτ=>∃a,τ=[a]) _ _ ⟨none,rfl⟩ λt ht τ hI=>by
   obtain⟨x,rfl⟩:=hI;obtain⟨_,k1,k2,_⟩:=hr.t h ht;exact⟨[some (BF t)],by simp![],by unfold R5;simp![AV,Ae,Kc k1 k2],_,rfl⟩
 have lc2:Ba (AD 0) (mC (.bl true)) RZ (((AZ Ms).map BB).map T.str) [none]=some ((AZ Ms).map λ_=>T.bl true):=by
  rw[Ü]
  exact C1 (λt=>T.str (BB t)) (λ_=>T.bl true) (λτ=>∃a,τ=[a]) _ _ ⟨none,rfl⟩ λt ht τ hI=>by
   obtain⟨x,rfl⟩:=hI;obtain⟨n1,n2,n3⟩:=hr.n t ht;exact⟨[some (.str (BB t))],by simp![],by unfold RZ;simp![V1 n1 n2 n3],_,rfl⟩
 have un:=JJ hr.d (by rw[À];omega)
 have ba:=Ro (AZ Ms);have al:((AZ Ms).map λ_=>true).all id=true:=by simp
 have sb:=AF _ (CD (f:=λ_=>T.bl true) (L:=AZ Ms) λ_ _=>rfl)
 unfold KH PY
 simp![hs,AF _ hs,cp,at',st,AF _ st,À,ll,lc,lc2,Ae,AV,un,sb,ba,al]
abbrev UA:Stmt:=AN 58
def N5:AH:=
 (FP 2 (CZ Au Ay Iz (AA 3) (AB (AA 4) AE)))
def Oq:AH:=
 (AG (CW 2 (BN AE))
 (AG (BZ (Ga (AB (AA 0) (AB (AA 1) AE))) (Ax 2 (AM (AD 3) (AM (AD 4) Az))) N5)
 (AU (AA 2))))
def Mm:kL->Option Ru:=Aa 2 5 Oq
abbrev Yz:Fn:=⟨2,["machines","taking"],Mm⟩
abbrev zbs:Gx:={ Bn with mt:=[("stay",Au,Ay,Qb)] }
abbrev zbv:Gm:=gA ["machines","taking","stay","machine","room"] UA 1 [] ["zip"] ["stay"] (ox:=zbs)
theorem zc2:Ck zbv Yz UA Oq:={}
def Ca(M:Mc)(r:Str):kL:=((M.rs.find? λx=>decide (x.1=r)).map (·.2)).getD []
theorem HF(h:McOk M)(hr:r∈M.nm):Iz [AQ M,.str r]=some (.ok (.own (Ca M r)))/\Aq (Ca M r)=true/\(Ca M r).length<=1000/\Cg M.ws HG (Ca M r):=by
 obtain⟨x,hx,rfl⟩:=Ë.mp (hr)
 obtain⟨y,hy⟩:∃y,M.rs.find? (λz=>decide (z.1=x.1))=some y:=by
  cases hf:M.rs.find? (λz=>decide (z.1=x.1)) with
  |some y=>omega|none=>exact absurd (List.find?_eq_none.mp hf x hx) (by simp)
 have hy1 :=by simpa using List.find?_some hy
 have hym:=Ŭ hy;have es:Ca M x.1=y.2:=by unfold Ca;rw[hy];rfl
 obtain⟨i,hi,rfl⟩:=List.getElem_of_mem hym;obtain⟨k1,k2⟩:=h.r.lk _ hym;rw[es,<- hy1];exact⟨zl0 h hi,k1.sh,k2,k1⟩
def Ea(Ms:kJ)(t:kE):kL:=(Ms.zip t).flatMap λx=>Ca x.1 x.2
theorem NY{α β:Type}(f)(g:β->T):∀(a:List α) (b),JE (a.map f) (b.map g)=(a.zip b).map λx=>T.tup [f x.1,g x.2]
 |[],b=>by rfl|x::a,[]=>rfl|x::a,y::b=>by
  rw[Ò,Ò,Ē,Ò,<- NY f g a b]
  rfl
theorem FE{α β:Type}{g:α->List β}:∀{L:List α},(∀x∈L,(g x).length<=m)->(L.flatMap g).length<=L.length * m
 |[],_=>õ _|a::L,h=>by
  have h1:=h a (Ã ..);have h2:=FE λb hb=>h b (Å _ hb)
  rw[ä,Ø,Ý]
  omega
theorem NZ(h:MsOk Ms)(hr:RmOk Ms)(ht:t∈AZ Ms)(hx:x∈Ms.zip t):x.1∈Ms/\x.2∈x.1.nm:=by
 obtain⟨_,_,_,k⟩:=hr.t h ht;obtain⟨i,e⟩:=ĵ.mp hx;rw[Ĳ]at e;obtain⟨M,e1,e2⟩:=k i _ e.2;rw[e.1]at e1;cases e1;exact⟨Ú e.1,e2⟩
theorem zm3(h:MsOk Ms)(hr:RmOk Ms)(ht:t∈AZ Ms):Mm [.lst (Ms.map AQ),BF t]=some (.ok (.own (Ea Ms t))):=by
 have hs:=FX h.m;have key:=λx hx=>(NZ h hr ht (x:=x) hx)
 have zl:(Ms.zip t).length<=6:=by rw[Ś];have:=h.l6;omega
 have wl:([]:kL).length+((Ms.zip t).flatMap λx=>Ca x.1 x.2).length<=6000:=by
  have:=FE λx hx=>(HF (h.m _ (key x hx).1) (key x hx).2).2.2.1
  rw[å]
  omega
 obtain⟨τ,e,y,z,rfl⟩:=FC (b:=Ax 2 (AM (AD 3) (AM (AD 4) Az))) (body:=N5) (λx:Mc×Str=>T.tup [AQ x.1,.str x.2]) (λa τ=>∃y z,τ=[some (.lst (Ms.map AQ)),some (BF t),some (.own a),y,z]) (λx=>Ca x.1 x.2) 6000 (Ms.zip t) [] [some (.lst (Ms.map AQ)),some (BF t),some (.own []),none,none] ⟨none,none,rfl⟩ wl λx hx a τ hS hN=>by
  obtain⟨y,z,rfl⟩:=hS;obtain⟨k1,k2⟩:=key x hx;have k3:=DF (h.m _ k1);obtain⟨g1,g2,_,_⟩:=HF (h.m _ k1) k2;have l1:a.length+(Ca x.1 x.2).length<=100000:=by omega
  refine⟨[some (.lst (Ms.map AQ)),some (BF t),some (.own a),some (AQ x.1),some (.str x.2)],by simp![],[some (.lst (Ms.map AQ)),some (BF t),some (.own (a++Ca x.1 x.2)),some (AQ x.1),some (.str x.2)],?_,_,_,rfl⟩
  unfold N5
  simp![-Bu,E2,k3,Ap _ k3,g1,g2,AF _ g2,l1]
 rw[ú]at e;unfold Mm Oq
 simp![hs,AF _ hs,AV,Ae,NY,e]
 rfl
abbrev UC:Stmt:=AN 62
def Kh:AH:=
 (AG (AW (AL (CZ Au Ay E8 (AL (AA 0) (AA 6)) AE) (AA 7)) (AD 8))
 (AG (HL 3 (AA 6) (Bl BC BH 1 (AA 8)))
 (AG (FP 4 (CZ BC BH KS (AA 8) AE))
 (FP 5 (CZ BC BH KQ (AA 8) AE)))))
def Ou:AH:=
 (AG (CW 3 (m1 CQ (AA 2)))
 (AG (CW 4 (BN AE))
 (AG (CW 5 (BN AE))
 (AG (BZ (BE (AA 1)) (Ax 2 (AM (AD 6) (AM (AD 7) Az))) Kh)
 (AG (Dn 3) (AG (Dn 4) (AG (Dn 5) (AU (G3 KR [(.str "")] (AB (AS Hq (AB (AA 2) AE)) (AB (AS Hq (AB (AA 3) AE)) (AB (AA 4) (AB (AA 5) AE)))))))))))))
def Mn:kL->Option Ru:=Aa 3 9 Ou
abbrev ZA:Fn:=⟨4,["machines","share","taking"],Mn⟩
abbrev zbt:Gx:={ Bn with cl:=[("Door",BC,BH)],mt:=[("doors",Au,Ay,Ie),("asks",BC,BH,Qi),("sets",BC,BH,Qh)],nw:=[("Door",M0,[(4,[(.str "")])])] }
abbrev zbx:Gm:=gA ["machines","share","taking","ends","guard","noughts","at","number","door"] UC 3 [("whole_name",MU)] ["list"] ["ends","guard","noughts"] (ox:=zbt)
theorem zc4:Ck zbx ZA UC Ou:={}
noncomputable def d0:Dr:=⟨"","",[],[],""⟩
def Ac(D:List (kI))(i k:Nat):Dr:=(D.getD i []).getD k d0
abbrev Dp(p:Nat×Nat):T:=.tup [.int (p.1:Int),.int (p.2:Int)]
abbrev BA(s:k8):T:=.lst (s.map Dp)
theorem DP(s:k8):Aq (s.map Dp)=true:=CD λ_ _=>rfl
theorem HP(s:k8):Bc (s.map Dp)=s.map Dp:=AF _ (DP s)
def FG(D:List (kI))(s:k8):Prop:=∀p∈s,p.1<D.length/\p.2<(D.getD p.1 []).length
abbrev AJ(Ms:kJ):List (kI):=Ms.map Mc.ds
theorem aS(h1:i<(AJ Ms).length)(h2:k<((AJ Ms).getD i []).length):∃M,Ms[i]?=some M/\M.ds[k]?=some (Ac (AJ Ms) i k):=by
 rw[À]at h1;refine⟨Ms[i],Â h1,?_⟩;unfold Ac
 simp_all
theorem zp8{n i:Nat}(h:i<n):Ce n (i:Int)=some i:=by unfold Ce;simp;omega
theorem Ld{M:Mc}(h:McOk M):E8 [AQ M]=some (.ok (.own (M.ds.map AO))):=Xs h
theorem M9(h:∀M∈Ms,McOk M)(hs:FG (AJ Ms) s)(hp:p∈s):∃M∈Ms,Ms[p.1]?=some M/\M.ds[p.2]?=some (Ac (AJ Ms) p.1 p.2)/\DrOk M.ws M.nm (Ac (AJ Ms) p.1 p.2):=by
 obtain⟨h1,h2⟩:=hs p hp;obtain⟨M,e1,e2⟩:=aS h1 h2;have hM:=Ú e1;exact⟨M,hM,e1,e2,(h M hM).d _ (Ú e2)⟩
def F6(D:List (kI))(s:k8)(t:kE):kE:=s.foldl (λe p=>e.set p.1 (Ac D p.1 p.2).e) t
def Fx(D:List (kI))(s:k8):kL:=s.flatMap λp=>(Ac D p.1 p.2).g
def Eg(D:List (kI))(s:k8):kE:=s.flatMap λp=>(Ac D p.1 p.2).n
def Bs(D:List (kI))(w:k8×kE):Dr:=⟨BB w.2,BB (F6 D w.1 w.2),Fx D w.1,Eg D w.1,""⟩
theorem Qt(D):∀(s) (t),(F6 D s t).length=t.length
 |[],_=>rfl|p::s,t=>by
  show(F6 D s (t.set p.1 _)).length=_;rw[Qt D s,Ĉ]
theorem Qs(D):∀(s) (t) (i) (r),(F6 D s t)[i]?=some r->t[i]?=some r\/∃p∈s,p.1=i/\r=(Ac D p.1 p.2).e
 |[],_,i,r,h=>.inl h|p::s,t,i,r,h=>by
  rcases Qs D s (t.set p.1 (Ac D p.1 p.2).e) i r h with h|⟨q,h1,h2⟩
  .by_cases hi:p.1=i
   .by_cases hl:i<t.length
    .simp_all
    simp_all
   simp_all
  .exact .inr ⟨q,Å _ h1,h2⟩
theorem Sh(h:∀M∈Ms,McOk M){x1 x2:kH}:∀(s:k8) (e:kE) (g:kL) (n:kE) (y6 y7 y8:kH),FG (AJ Ms) s->e.length=Ms.length->g.length+s.length * 1000<=100000->n.length+s.length * 1000<=100000->∃z6 z7 z8,
  BV (Ax 2 (AM (AD 6) (AM (AD 7) Az))) Kh (s.map Dp) [some (.lst (Ms.map AQ)),x1,x2,some (.own (e.map T.str)),some (.own g),some (.own (n.map T.str)),y6,y7,y8]=some (.nx [some (.lst (Ms.map AQ)),x1,x2,some (.own ((F6 (AJ Ms) s e).map T.str)),some (.own (g++Fx (AJ Ms) s)),some (.own ((n++Eg (AJ Ms) s).map T.str)),z6,z7,z8])
 |[],e,g,n,y6,y7,y8,_,_,_,_=>⟨y6,y7,y8,by unfold Fx Eg;rw[ŀ,ŀ,ç,ç];rfl⟩|p::s,e,g,n,y6,y7,y8,hs,he,hg,hn=>by
  rw[Ý,Nat.add_mul,Nat.one_mul]at hg hn;obtain⟨M,hM,e1,e2,k⟩:=M9 h hs (Ã ..);generalize hd:Ac (AJ Ms) p.1 p.2=d at *;have sm:=FX h;have k1:=DF (h M hM);have kd:=Ld (h M hM);have a1:A5 (Ms.map AQ) (p.1:Int)=some (AQ M):=CB (by rw[Ä,e1];rfl)
  have a2:A5 (M.ds.map AO) (p.2:Int)=some (AO d):=CB (by rw[Ä,e2];rfl)
  have a3:Ce e.length (p.1:Int)=some p.1:=zp8 (by rw[he];exact(Õ.mp e1).1)
  have sg:=k.g.sh;have sd:=Qy k;have f1:=aP sg;have f2:=aF sg;have gl:=k.gl;have nl:=k.nl;have l1:g.length+d.g.length<=100000:=by omega
  have l2:n.length+d.n.length<=100000:=by omega
  obtain⟨z6,z7,z8,ih⟩:=Sh h s (e.set p.1 d.e) (g++d.g) (n++d.n) (some (.int (p.1:Int))) (some (.int (p.2:Int))) (some (AO d)) (λq hq=>hs q (Å _ hq)) (by rw[Ĉ];exact he) (by rw[Ø];omega) (by rw[Ø];omega)
  have body:Kh [some (.lst (Ms.map AQ)),x1,x2,some (.own (e.map T.str)),some (.own g),some (.own (n.map T.str)),some (.int p.1),some (.int (p.2:Int)),y8]=some (.nx [some (.lst (Ms.map AQ)),x1,x2,some (.own ((e.set p.1 d.e).map T.str)),some (.own (g++d.g)),some (.own ((n++d.n).map T.str)),some (.int (p.1:Int)),some (.int (p.2:Int)),some (AO d)]):=by
   have q1:(e.set p.1 d.e).map T.str=(e.map T.str).set p.1 (.str d.e):=š;rw[q1,ß];unfold Kh;refine sq (τ':=[some (.lst (Ms.map AQ)),x1,x2,some (.own (e.map T.str)),some (.own g),some (.own (n.map T.str)),some (.int (p.1:Int)),some (.int (p.2:Int)),some (AO d)]) ?_ ?_
   .simp![-Bu,sm,E2,k1,Ap _ k1,a1,kd,a2,sg,AF _ sg,AV,Ae]
   .simp![sg,AF _ sg,AV,Ae,À,a3,f1,f2,l1,l2]
  refine⟨z6,z7,z8,?_⟩;have bind:Ax 2 (AM (AD 6) (AM (AD 7) Az)) (Dp p) [some (.lst (Ms.map AQ)),x1,x2,some (.own (e.map T.str)),some (.own g),some (.own (n.map T.str)),y6,y7,y8]=some [some (.lst (Ms.map AQ)),x1,x2,some (.own (e.map T.str)),some (.own g),some (.own (n.map T.str)),some (.int (p.1:Int)),some (.int (p.2:Int)),y8]:=by simp![]
  rw[Ò];unfold BV;erw[bind,body];rw[ih];unfold Fx Eg F6;rw[ä,ä,List.foldl_cons,hd,Ĕ,Ĕ]
theorem wd_ok(h:MsOk Ms)(hr:RmOk Ms){t:kE}(ht:t∈AZ Ms)(hs:FG (AJ Ms) s)(hl:s.length<=2):Mn [.lst (Ms.map AQ),BA s,BF t]=some (.ok (AO (Bs (AJ Ms) (s,t)))):=by
 obtain⟨t1,t2,t3,t4⟩:=hr.t h ht;obtain⟨z6,z7,z8,e⟩:=Sh h.m (x1:=some (BA s)) (x2:=some (BF t)) s t [] [] none none none hs t1 (by rw[å];omega) (by rw[å];omega)
 rw[ú,ú,Ŝ]at e;have sm:=FX h.m;have n1:=Kc (o:=false) t2 t3
 have n2:=Kc (t:=F6 (AJ Ms) s t) (o:=false) (by rw[Qt];exact t2) λr hr'=>by
  obtain⟨i,q⟩:=ĵ.mp hr'
  rcases Qs _ s t i r q with q|⟨p,hp,_,rfl⟩
  .exact t3 r (Ú q)
  .obtain⟨M,hM,_,_,k⟩:=M9 h.m hs hp;exact hr.s M hM _ k.e
 have sg:Aq (Fx (AJ Ms) s)=true:=by
  rw[Di,Þ];intro u hu;obtain⟨p,hp,hu⟩:=Û.mp hu;obtain⟨M,hM,_,_,k⟩:=M9 h.m hs hp;have:=k.g.sh;rw[Di,Þ]at this;exact this u hu
 have oc1:=L6 _ sg;have oc2:=L6 ((Eg (AJ Ms) s).map T.str) (AV _)
 have di:KR [.str (BB t),.str (BB (F6 (AJ Ms) s t)),.lst (Fx (AJ Ms) s),.lst ((Eg (AJ Ms) s).map T.str),.str ""]=some (.ok (AO (Bs (AJ Ms) (s,t)))):=by
  refine OU λp=>?_
  unfold Fk Ly Bs
  simp![oc1,oc2,sg,AF _ sg,Ae,AV]
 unfold Mn Ou
 simp![sm,AF _ sm,AV,Ae,DP,HP,e,sg,AF _ sg,n1,n2,di]
abbrev UN:Stmt:=AN 60
def JF:AH:=
 (Aj (CA (m2 Bz (AA 6) (AA 1)) (m2 Be (Bl BC BH 4 (AA 9)) (AA 4))) (DA 5 (BN (BK (B7 (AB (AA 1) (AB (AA 2) AE))) (BK (B7 (AB (AA 6) (AB (AA 8) AE))) AE)))) Ah)
def N6:AH:=
 (BZ (Cw (AB (AA 7) AE)) (Ax 2 (AM (AD 8) (AM (AD 9) Az))) JF)
def IS:AH:=
 (AG (AW (Bl BC BH 4 (AL (AL (AA 0) (AA 1)) (AA 2))) (AD 3))
 (AG (Aj (m2 Be (AA 3) (mC (.str ""))) (AU (BN (BK (BN (BK (B7 (AB (AA 1) (AB (AA 2) AE))) AE)) AE))) Ah)
 (AG (Aj (FY (AA 3) (mC (.str "?"))) (AU (BN AE)) Ah)
 (AG (AW (m2 Bb (Cn (Du (AA 3) none (some (m1 Ds (mC (.int 1))))) (D0 (AA 3) none (some (m1 Ds (mC (.int 1)))))) (mC (.str "?"))) (AD 4))
 (AG (CW 5 (BN AE))
 (AG (BZ (Cw (AB (AA 0) AE)) (Ax 2 (AM (AD 6) (AM (AD 7) Az))) N6)
 (AU (AA 5))))))))
def Ip:kL->Option Ru:=Aa 3 10 IS
abbrev ZI:Fn:=⟨1,["lists","at","number"],Ip⟩
abbrev zcc:Gx:={ Bn with cl:=[("Door",BC,BH)] }
abbrev zch:Gm:=gA ["lists","at","number","sign","answer","told","other_at","doors","other_number","door"] UN 0 [] ["enumerate"] ["told"] (ox:=zcc)
theorem zcp:Ck zch ZI UN IS:={}
theorem Zs(hc:c∈Tx.cs y)(hx:c∉Tx.cs x):Txt.endswith x y=false:=by
 unfold Txt.endswith;rw[Bool.and_eq_false_iff];right;rw[StrLaws.subAt_eq,ŋ];intro z;have hc':c∈y.cps.toList:=hc;rw[<- z]at hc';exact hx (List.mem_of_mem_drop (œ hc'))
theorem Zu(h:Tx.cs z=Tx.cs x++Tx.cs y):Txt.endswith z y=true:=by
 have hl:(Tx.cs z).length=(Tx.cs x).length+(Tx.cs y).length:=by simp_all
 unfold Txt.endswith;rw[Ê];refine⟨Ñ ?_,?_⟩
 .rw[Tx.cs_len,Tx.cs_len]
  omega
 .rw[StrLaws.subAt_eq,Ĭ];show((Tx.cs z).drop (z.length - y.length)).take y.length=Tx.cs y;rw[Tx.cs_len,Tx.cs_len,hl,ŗ,h,List.drop_left' rfl];exact Ĝ
theorem Vh:Tx.cs (Str.ofString "?")=[63]:=by decide +kernel
def De(z:Str):Str:=Txt.slice z none (some (-1))++"?"
def CN(D:List (kI))(i k:Nat):List (k8):=if (Ac D i k).z="" then [[(i,k)]] else if Txt.endswith (Ac D i k).z "?"=true then [] else
 (List.range D.length).flatMap λj=>(List.range (D.getD j []).length).flatMap λm=>if j≠i/\(Ac D j m).z=De (Ac D i k).z then [[(i,k),(j,m)]] else []
theorem Jf(h1:i<D.length)(h2:k<(D.getD i []).length)(hs:s∈CN D i k):FG D s/\s.length<=2/\(s=[(i,k)]\/∃j m,j≠i/\s=[(i,k),(j,m)]):=by
 unfold CN at hs;split at hs
 .rw[Í.mp hs];exact⟨λp hp=>by simp_all,Ą 1,.inl rfl⟩
 .split at hs
  .cases hs
  .obtain⟨j,hj,hs⟩:=Û.mp hs;obtain⟨m,hm,hs⟩:=Û.mp hs;split at hs
   .rename_i hc;rw[Í.mp hs];refine⟨λp hp=>?_,È _,.inr ⟨j,m,hc.1,rfl⟩⟩
    rcases Ï.mp hp with rfl|hp
    .omega
    simp_all
   .cases hs
def Bp(D:List (kI)):T:=.lst (D.map λl=>.lst (l.map AO))
structure DsOk(D:List (kI)):Prop where
 l:D.length<=100
 k:∀l∈D,l.length<=200
 g:∀l∈D,∀d∈l,Aq d.g=true
 z:∀l∈D,∀d∈l,EU d.z
theorem DsOk.sl(h:DsOk D){l}(hl:l∈D):Aq (l.map AO)=true:=CD λd hd=>by
 have:=h.g l hl d hd
 simp![this,AV]
theorem DsOk.sh(h:DsOk D):Aq (D.map λl=>T.lst (l.map AO))=true:=CD λl hl=>by
 show((!false) && Aq (l.map AO))=true;rw[h.sl hl]
 rfl
theorem M4{D:List (kI)}{i:Nat}(h1:i<D.length):∃l∈D,D.getD i []=l/\A5 (D.map λl=>T.lst (l.map AO)) (i:Int)=some (.lst (l.map AO)):=
 ⟨D[i],ê h1,by simp_all,CB (by simp_all)⟩
theorem aO(h1:i<D.length)(h2:k<(D.getD i []).length):∃l∈D,D.getD i []=l/\Ac D i k∈l/\A5 (D.map λl=>T.lst (l.map AO)) i=some (.lst (l.map AO))/\A5 (l.map AO) k=some (AO (Ac D i k)):=by
 obtain⟨l,hl,e,a⟩:=M4 h1;rw[e]at h2;have ed:Ac D i k=l[k]:=by unfold Ac;simp_all
 exact⟨l,hl,e,by simp_all,a,CB (by simp_all)⟩
theorem LL(h:EU z)(hz:z≠""):∃(y:Str) (c:Nat),Fb y/\y.cps.size<=8/\(c=33\/c=63)/\Tx.cs z=Tx.cs y++[c]/\Txt.slice z none (some (-1))=y/\Txt.endswith z "?"=decide (c=63)/\z.length<=9/\A5 z.cps.toList (-1)=some c:=by
 rcases h with h|⟨y,c,h1,h2,h3,hc,e⟩
 .exact absurd h hz
 .have hl:(Tx.cs z).length=(Tx.cs y).length+1:=by rw[e,Ø];rfl
  have h3':(Tx.cs y).length<=8:=h3;refine⟨y,c,h1,h3,hc,e,?_,?_,by rw[Tx.cs_len];omega,?_⟩
  .have e2:Txt.slice z none (some (-1))=StrLaws.sliceText z none (some (-1)):=rfl;rw[e2,StrLaws.sliceText_neg_hi z none (by decide) (by rw[Tx.cs_len,hl];omega)]
   have e3:((-1:Int)+z.length)=(Tx.cs y).length:=by rw[Tx.cs_len,hl];omega
   rw[e3];refine Tx.cs_ext ?_;show Tx.cs (Txt.slice z none (some (Tx.cs y).length))=Tx.cs y;rw[Tx.sl_to (by omega),e,List.take_left' rfl]
  .rcases hc with rfl|rfl
   .refine Zs (c:=63) (by rw[Vh];decide) λq=>?_
    rw[e]at q
    rcases ë.mp q with q|q
    .have:=IG h1 63 q
     omega
    .cases Í.mp q
   .exact Zu (x:=y) (by rw[e,Vh])
  .show A5 (Tx.cs z) (-1)=some c;rw[e];unfold A5 Ce;rw[Ø,ñ,if_neg (by decide),if_pos (by omega)]
   show(Tx.cs y++[c])[((-1:Int)+((Tx.cs y).length+1:Nat)).toNat]?=some c;rw[show(-1+(((Tx.cs y).length+1:Nat):Int)).toNat=(Tx.cs y).length by omega,ę (È _),Nat.sub_self]
   rfl
theorem Qp{α:Type}(f)(d:α)(L:List α):Co 0 (L.map f)=(List.range L.length).map λ(j:Nat)=>T.tup [.int j,f (L.getD j d)]:=by
 have e:L.map f=mT L.length λj=>f (L.getD j d):=G2 (by simp) λj hj=>by
  simp_all
 rw[e,zls]
 rfl
theorem Qu:PyData.strOk (Str.ofString "")=true:=by decide +kernel
theorem b4(h:EU z)(hz:z≠""):PyData.strOk (De z)=true:=by
 obtain⟨y,c,h1,_,_,_,e,_⟩:=LL h hz;refine bY λx hx=>?_
 unfold De at hx;rw[e,Tx.cs_app]at hx
 rcases ë.mp hx with hx|hx
 .have:=IG h1 x hx
  omega
 .rw[Í.mp hx]
  decide
abbrev Dm(s:k8):T:=.own (s.map Dp)
abbrev sO(D:List (kI))(i k:Nat)(z:Str)(a:List (k8))(x6 x7 x8 x9:kH):AK:=[some (Bp D),some (.int (i:Int)),some (.int (k:Int)),some (.str z),some (.str (De z)),some (.own (a.map Dm)),x6,x7,x8,x9]
theorem so_ok{D:List (kI)}(h:DsOk D){i k:Nat}(h1:i<D.length)(h2:k<(D.getD i []).length):Ip [Bp D,.int (i:Int),.int (k:Int)]=some (.ok (.own ((CN D i k).map Dm))):=by
 have hs:=h.sh;obtain⟨l,hl,_,hd,a1,a2⟩:=aO h1 h2;have sl:=h.sl hl;have sg:=h.g l hl _ hd;have hz:=h.z l hl _ hd;generalize hdd:Ac D i k=d at *;have q0:=E5 (IH hz) Qu
 suffices key:IS [some (Bp D),some (.int (i:Int)),some (.int (k:Int)),none,none,none,none,none,none,none]=some (.rt (.own ((CN D i k).map Dm))) by
  unfold Ip;have sD:(Bp D).share=Bp D:=by unfold Bp;simp![hs,AF _ hs]
  simp![key]
 unfold IS;refine sq (τ':=[some (Bp D),some (.int (i:Int)),some (.int (k:Int)),some (.str d.z),none,none,none,none,none,none]) (by unfold Bp;simp![hs,AF _ hs,a1,a2,sl,sg,AF _ sg,AV]) ?_
 unfold CN;rw[hdd]
 by_cases z0:d.z=""
 .rw[Ñ (show d.z=Str.ofString "" from z0)]at q0;rw[if_pos z0]
  exact sr (by simp![q0];rfl)
 .rw[Ù (show ¬ d.z=Str.ofString "" from z0)]at q0;obtain⟨y,c,y1,y2,hc,ez,es,ee,zl,_⟩:=LL hz z0;rw[if_neg z0];refine C6 (by simp![q0]) ?_
  by_cases c63:c=63
  .rw[Ñ c63]at ee;rw[if_pos ee]
   exact sr (by simp![FY,ee])
  .rw[Ù c63]at ee;rw[if_neg (by rw[ee];exact ó)]
   have an:=b4 hz z0;obtain⟨g,hg⟩:∃g:Nat->Nat->List k8,∀j m,(if j≠i/\(Ac D j m).z=De d.z then [[(i,k),(j,m)]] else [])=g j m:=⟨_,λ_ _=>rfl⟩;simp only[hg]
   have il:∀j,j<D.length->((List.range (D.getD j []).length).flatMap λm=>g j m).length<=200:=λj hj=>by
    obtain⟨lj,hlj,ej,_⟩:=M4 hj
    have:=FE (g:=λm=>g j m) (m:=1) (L:=List.range (D.getD j []).length) λm _=>by
     rw[<- hg];split
     .exact È 1
     .exact õ 1
    rw[ô,ej,Nat.mul_one]at this;rw[ej];exact Ó this (h.k lj hlj)
   have tl:=FE (g:=λj=>(List.range (D.getD j []).length).flatMap λm=>g j m) (m:=200) (L:=List.range D.length) λj hj=>il j (â.mp hj)
   rw[ô]at tl;have hlD:=h.l
   obtain⟨τ,e,y6,y7,y8,y9,rfl⟩:=FC (b:=Ax 2 (AM (AD 6) (AM (AD 7) Az))) (body:=N6) (λ(j:Nat)=>T.tup [.int (j:Int),.lst ((D.getD j []).map AO)]) (λ(a:List (k8)) τ=>∃y6 y7 y8 y9,τ=(sO D i k d.z a y6 y7 y8 y9)) (λj=>(List.range (D.getD j []).length).flatMap λm=>g j m) 20000 (List.range D.length) [] [some (Bp D),some (.int (i:Int)),some (.int (k:Int)),some (.str d.z),some (.str (De d.z)),some (.own []),none,none,none,none] ⟨none,none,none,none,rfl⟩ (by rw[å];omega) λj hj a τ hS hN=>by
    obtain⟨y6,y7,y8,y9,rfl⟩:=hS;have hj:=â.mp hj;obtain⟨lj,hlj,ej,_⟩:=M4 hj;have slj:=h.sl hlj;rw[ej]at hN ⊢
    obtain⟨τ2,e2,z8,z9,rfl⟩:=FC (b:=Ax 2 (AM (AD 8) (AM (AD 9) Az))) (body:=JF) (λ(m:Nat)=>T.tup [.int (m:Int),AO (lj.getD m d0)]) (λ(a:List (k8)) τ=>∃y8 y9,τ=(sO D i k d.z a (some (.int (j:Int))) (some (.lst (lj.map AO))) y8 y9)) (λm=>g j m) 20000 (List.range lj.length) a (sO D i k d.z a (some (.int (j:Int))) (some (.lst (lj.map AO))) y8 y9) ⟨y8,y9,rfl⟩ hN λm hm a τ hS hN=>by
     obtain⟨y8,y9,rfl⟩:=hS;have hm:=â.mp hm;have em:lj.getD m d0=Ac D j m:=by unfold Ac;rw[ej]
     have hdm:Ac D j m∈lj:=by rw[<- em,Ô,Â hm];exact ê hm
     have hg:=hg j m
     rw[em];have sgm:=h.g lj hlj _ hdm;have q1:=E5 (IH (h.z lj hlj _ hdm)) an;generalize Ac D j m=dm at *;refine⟨(sO D i k d.z a (some (.int (j:Int))) (some (.lst (lj.map AO))) (some (.int (m:Int))) (some (AO dm))),by simp![],_,?_,some (.int (m:Int)),some (AO dm),rfl⟩
     rw[<- hg]at hN ⊢
     by_cases hji:j=i
     .rw[if_neg (λz=>z.1 hji),ç]
      have n1:((j:Int) == (i:Int))=true:=by rw[hji];exact ÿ _
      unfold JF
      simp![Dt,n1]
     .have n1:((j:Int) == (i:Int))=false:=by rw[ŋ];exact λz=>hji (ń z)
      by_cases hzz:dm.z=De d.z
      .rw[Ñ hzz]at q1;rw[if_pos ⟨hji,hzz⟩]at hN ⊢;have ll:a.length<100000:=by rw[ñ]at hN;omega
       unfold sO;rw[ß];unfold JF
       simp![Dt,n1,sgm,AF _ sgm,AV,q1,À,ll]
       rfl
      .rw[Ù hzz]at q1;rw[if_neg (λz=>hzz z.2),ç]
       unfold JF
       simp![Dt,n1,sgm,AF _ sgm,AV,q1]
    refine⟨(sO D i k d.z a (some (.int (j:Int))) (some (.lst (lj.map AO))) y8 y9),by simp![],_,?_,some (.int (j:Int)),some (.lst (lj.map AO)),z8,z9,rfl⟩
    unfold N6
    simp![Cw,slj,AF _ slj,Qp AO d0,e2]
   rw[ú]at e;have sy:Txt.slice d.z none (some (-1))++Str.ofString "?"=De d.z:=rfl;have ls:d.z.length<=100000:=by omega
   have l9:(Txt.slice d.z none (some (-1))).length+(Str.ofString "?").length<=100000:=by
    rw[es,Tx.cs_len,show(Str.ofString "?").length=1 by decide +kernel]
    have:(Tx.cs y).length<=8:=y2
    omega
   have en:Co 0 (D.map λl=>T.lst (l.map AO))=(List.range D.length).map λ(j:Nat)=>T.tup [.int (j:Int),.lst ((D.getD j []).map AO)]:=Qp (λl:kI=>T.lst (l.map AO)) [] D
   refine C6 (by simp![FY,ee]) ?_
   refine sq (by simp![D0,ls,show(-(1:Int))=-1 from rfl,l9,sy];rfl) ?_
   refine sq (by simp![];rfl) ?_
   refine sq (τ':=_) (by rw[<- e];unfold Bp;simp![Cw,hs,AF _ hs,en]) ?_
   simp![]
abbrev UH:Stmt:=AN 61
def RL:AI:=
 (m2 Be (Bl BC BH 0 (AL (AL (AA 2) (AA 0)) (AA 1))) (AL (AA 3) (AA 0)))
def Ox:AH:=
 (AU (m1 ET (BU 2 [0,2] (BE (AA 1)) (Ax 2 (AM (AD 0) (AM (AD 1) Az))) (mC (.bl true)) RL)))
def Mp:kL->Option Ru:=Aa 3 3 Ox
abbrev ZD:Fn:=⟨1,["lists","share","taking"],Mp⟩
abbrev zb5:Gx:={ Bn with cl:=[("Door",BC,BH)] }
abbrev zbb:Gm:=gA ["lists","share","taking"] UH 0 [] ["all"] [] ["lists","taking"] (ox:=zb5)
theorem zbi:Ck zbb ZD UH Ox:={}
def GI(D:List (kI))(s:k8)(t:kE):Bool:=s.all λp=>decide ((Ac D p.1 p.2).s=t.getD p.1 "")
theorem Rq{α:Type}(f):∀L:List α,En (L.map λx=>T.bl (f x))=some (L.map f)
 |[]=>rfl|a::r=>by
  rw[Ò,Ò];unfold En;rw[Rq f r]
theorem aG(h:DsOk D):(Bp D).share=Bp D/\(Bp D).sh=true:=by
 have hs:=h.sh;unfold Bp;constructor<;>simp![hs,AF _ hs]
theorem sf_ok(h:DsOk D)(ht:∀l∈D,∀d∈l,PyData.strOk d.s=true){s:k8}(hs:FG D s)(hl:s.length<=2)(tl:t.length=D.length)(tx:CU t):Mp [Bp D,BA s,BF t]=some (.ok (.bl (GI D s t))):=by
 obtain⟨d1,d2⟩:=aG h;have hD:=h.sh
 have lc:Ba (Ax 2 (AM (AD 0) (AM (AD 1) Az))) (mC (.bl true)) RL (s.map Dp) [none,none,some (Bp D),some (BF t)]=some (s.map λp=>T.bl (decide ((Ac D p.1 p.2).s=t.getD p.1 ""))):=C1 Dp (λp=>T.bl (decide ((Ac D p.1 p.2).s=t.getD p.1 ""))) (λτ=>∃a b,τ=[a,b,some (Bp D),some (BF t)]) _ _ ⟨none,none,rfl⟩ λp hp τ hI=>by
  obtain⟨a,b,rfl⟩:=hI;obtain⟨k1,k2⟩:=hs p hp;obtain⟨l,hl,_,hd,a1,a2⟩:=aO k1 k2;have sl:=h.sl hl;have sg:=h.g l hl _ hd;have it:p.1<t.length:=by omega
  have a3:A5 (t.map T.str) p.1=some (.str (t.getD p.1 "")):=CB (by rw[Ä,Â it,Ô,Â it];rfl)
  have q:=E5 (ht l hl _ hd) (tx (t.getD p.1 "") (by rw[Ô,Â it];exact ê it))
  generalize Ac D p.1 p.2=d at *;refine⟨[some (.int p.1),some (.int p.2),some (Bp D),some (BF t)],by simp![],?_,_,_,rfl⟩
  unfold RL Bp
  simp![hD,a1,a2,sl,sg,AV,a3,q]
 have ba:=Rq (λp =>decide ((Ac D p.1 p.2).s=t.getD p.1 "")) s
 have sb:=AF _ (CD (f:=λp =>T.bl (decide ((Ac D p.1 p.2).s=t.getD p.1 ""))) (L:=s) λ_ _=>rfl)
 have al:(s.map λp=>decide ((Ac D p.1 p.2).s=t.getD p.1 "")).all id=GI D s t:=by unfold GI;rw[List.all_map];rfl
 have ll:s.length<=100000:=by omega
 unfold Mp Ox
 simp![d1,d2,AV,Ae,DP,HP,À,ll,lc,sb,ba,al]
abbrev Tz:Stmt:=AN 59
def RI:AI:=
 (CZ Au Ay E8 (AA 0) AE)
def QJ:AI:=
 (AS Mp (AB (AA 1) (AB (AA 2) (AB (AA 0) AE))))
def RH:AI:=
 (B7 (AB (AA 2) (AB (AA 0) AE)))
def Gn:AH:=
 (AG (FP 3 (BU 1 [2,7] (BE (AA 1)) (AD 0) QJ RH))
 (Aj (m2 (CI λi j=>decide (j<i)) (m1 B9 (AA 3)) (mC Fv)) (CO "TooMany" (AB (mC (.str "the whole would have more than 200 doors")) AE)) Ah))
def Gp:AH:=
 (BZ (BE (AS Ip (AB (AA 2) (AB (AA 4) (AB (AA 6) AE))))) (AD 7) Gn)
def Gq:AH:=
 (BZ (C8 (AB (m1 B9 (AA 5)) AE)) (AD 6) Gp)
def Le:AH:=
 (AG (AW (BU 1 [] (BE (AA 0)) (AD 0) (mC (.bl true)) RI) (AD 2))
 (AG (CW 3 (BN AE))
 (AG (BZ (Cw (AB (AA 2) AE)) (Ax 2 (AM (AD 4) (AM (AD 5) Az))) Gq)
 (AU (AA 3)))))
def Ho:kL->Option Ru:=Aa 2 8 Le
abbrev QX:Fn:=⟨2,["machines","takings"],Ho⟩
abbrev zbr:Gx:={ Bn with co:=[("MOST_DOORS",Fv)],mt:=[("doors",Au,Ay,Ie)] }
abbrev zbu:Gm:=gA ["machines","takings","lists","ways","at","doors","number","share"] Tz 1 [("shares_of",ZI),("starts_from",ZD)] ["enumerate","range","len"] ["ways"] ["lists","share"] (ex:=["TooMany"]) (ox:=zbr)
theorem zc1:Ck zbu QX Tz Le:={}
theorem IT{α:Type}{b}{mt me:AI}(f g)(p)(I:AK->Prop):∀(L:List α) (τ:AK),I τ->(∀x∈L,∀τ,I τ->∃τ1 bb,b (f x) τ=some τ1/\mt τ1=some (.v (.bl (p x)) bb)/\(p x=true->me τ1=some (.v (g x) false))/\I τ1)->Ba b mt me (L.map f) τ=some ((L.filter p).map g)
 |[],_,_,_=>rfl|x::L,τ,h,hs=>by
  obtain⟨τ1,bb,e1,e2,e3,h1⟩:=hs x (Ã ..) τ h;have k:=IT f g p I L τ1 h1 λu hu=>hs u (Å _ hu)
  rw[Ò,List.filter_cons];unfold Ba;cases hp:p x with
  |true=>simp_all|false=>omega
abbrev EG(w:k8×kE):T:=.tup [BA w.1,BF w.2]
def DM(D:List (kI))(ts:List (kE))(s:k8):List (k8×kE):=(ts.filter (GI D s)).map λt=>(s,t)
def GD(D:List (kI))(ts:List (kE))(i k:Nat):List (k8×kE):=(CN D i k).flatMap (DM D ts)
def Ka(D:List (kI))(ts:List (kE))(i:Nat):List (k8×kE):=(List.range (D.getD i []).length).flatMap (GD D ts i)
def BJ(D:List (kI))(ts:List (kE)):List (k8×kE):=(List.range D.length).flatMap (Ka D ts)
theorem K8(h:w∈BJ D ts):w.2∈ts/\∃i k,i<D.length/\k<(D.getD i []).length/\w.1∈CN D i k/\GI D w.1 w.2=true:=by
 obtain⟨i,hi,h⟩:=Û.mp h;obtain⟨k,hk,h⟩:=Û.mp h;obtain⟨s,hs,h⟩:=Û.mp h;obtain⟨t,ht,rfl⟩:=Ë.mp h;obtain⟨h1,h2⟩:=ý.mp ht;exact⟨h1,i,k,â.mp hi,â.mp hk,hs,h2⟩
theorem K9(w:k8×kE):(EG w).sh=true:=by simp![DP,AV]
theorem ds_of{Ms:kJ}(h:MsOk Ms):DsOk (AJ Ms)/\∀l∈AJ Ms,∀d∈l,PyData.strOk d.s=true:=by
 have key:∀l∈AJ Ms,∃M∈Ms,M.ds=l:=λl hl=>by
  simp_all
 refine⟨⟨by rw[À];have:=h.l6;omega,λl hl=>?_,λl hl d hd=>?_,λl hl d hd=>?_⟩,λl hl d hd=>?_⟩<;>obtain⟨M,hM,rfl⟩:=key l hl
 .exact(h.m M hM).dl
 .exact((h.m M hM).d d hd).g.sh
 .exact((h.m M hM).d d hd).z
 .exact(h.m M hM).tn _ ((h.m M hM).d d hd).s
abbrev sW(Ms:kJ)(ts:List (kE))(D:List (kI))(a:List (k8×kE))(x4 x5 x6 x7:kH):AK:=[some (.lst (Ms.map AQ)),some (.lst (ts.map BF)),some (Bp D),some (.own (a.map EG)),x4,x5,x6,x7]
theorem Sb{Ms:kJ}(h:MsOk Ms)(hr:RmOk Ms):((BJ (AJ Ms) (AZ Ms)).length<=200/\Ho [.lst (Ms.map AQ),.lst ((AZ Ms).map BF)]=some (.ok (.own ((BJ (AJ Ms) (AZ Ms)).map EG))))\/(200<(BJ (AJ Ms) (AZ Ms)).length/\Ho [.lst (Ms.map AQ),.lst ((AZ Ms).map BF)]=some (.exc "TooMany")):=by
 obtain⟨hD,hD2⟩:=ds_of h;obtain⟨d1,d2⟩:=aG hD;have sD:=hD.sh;have sm:=FX h.m;have st:=Gw (AZ Ms);have l64:(AZ Ms).length<=64:=by have:=hr.k Ms.length (È _);rwa[Ĝ]at this
 have tl:∀t∈AZ Ms,t.length=(AJ Ms).length/\CU t:=λt ht=>by
  obtain⟨k1,_,_,k4⟩:=hr.t h ht;refine⟨by rw[À];exact k1,λx hx=>?_⟩
  obtain⟨i,e⟩:=ĵ.mp hx;obtain⟨M,e1,e2⟩:=k4 i x e;exact(h.m M (Ú e1)).tn x e2
 generalize hts:AZ Ms=ts at *;have eD:(AJ Ms).length=Ms.length:=À _;generalize hDD:AJ Ms=D at *
 have EO:Ba (AD 0) (mC (.bl true)) RI (Ms.map AQ) [none]=some (Ms.map λM=>T.own (M.ds.map AO)):=C1 AQ (λM=>T.own (M.ds.map AO)) (λτ=>∃a,τ=[a]) Ms _ ⟨none,rfl⟩ λM hM τ hI=>by
  obtain⟨a,rfl⟩:=hI;have k1:=DF (h.m M hM);exact⟨[some (AQ M)],by simp![],by unfold RI;simp![-Bu,E2,k1,Ap _ k1,Ld (h.m M hM)],_,rfl⟩
 have so:T.lst (Bc (Ms.map λM=>T.own (M.ds.map AO)))=Bp D:=by
  rw[<- hDD];unfold Bp;rw[DW,Ü,Ü];refine congrArg T.lst (ĥ λM hM=>?_)
  show T.nd false .lst (Bc (M.ds.map AO))=T.lst (M.ds.map AO);rw[AF _ (h.m M hM).sd]
 have one:∀(i k:Nat) (l:kI) (s:k8),FG D s->s.length<=2->∀a:List (k8×kE),a.length<=200 ->
   let τ:=λ(a:List (k8×kE))=>(sW Ms ts D a (some (.int (i:Int))) (some (.lst (l.map AO))) (some (.int (k:Int))) (some (BA s)))
   (a.length+(DM D ts s).length<=200/\Gn (τ a)=some (.nx (τ (a++DM D ts s))))\/(200<a.length+(DM D ts s).length/\Gn (τ a)=some (.xc "TooMany" (τ (a++DM D ts s)))):=λi k l s hs hl a ha=>by
  have lc:Ba (AD 0) QJ RH (ts.map BF) [none,some (Bp D),some (BA s)]=some ((ts.filter (GI D s)).map λt=>EG (s,t)):=IT BF (λt=>EG (s,t)) (GI D s) (λτ=>∃a,τ=[a,some (Bp D),some (BA s)]) ts _ ⟨none,rfl⟩ λt ht τ hI=>by
   obtain⟨x,rfl⟩:=hI;obtain⟨k1,k2⟩:=tl t ht;have sf:=sf_ok hD hD2 hs hl k1 k2;refine⟨[some (BF t),some (Bp D),some (BA s)],false,by simp![],?_,λ_=>?_,_,rfl⟩
   .unfold QJ
    simp![d1,d2,DP,HP,AV,Ae,sf]
   .unfold RH
    simp![DP,HP,AV,Ae]
  have e1:(ts.filter (GI D s)).map (λt=>EG (s,t))=(DM D ts s).map EG:=by unfold DM;rw[Ü];rfl
  have fl:(DM D ts s).length<=64:=by unfold DM;rw[À];exact Ó (List.length_filter_le _ _) l64
  have sw:=CD (f:=EG) (L:=DM D ts s) λw _=>K9 w
  have l1:ts.length<=100000:=by omega
  have l2:a.length+(DM D ts s).length<=100000:=by omega
  rw[e1]at lc
  have dc:decide ((200:Int)<((((a++DM D ts s).map EG).length:Nat):Int))=decide (200<a.length+(DM D ts s).length):=by
   rw[À,Ø];exact decide_eq_decide.mpr (by omega)
  have ext:Gn (sW Ms ts D a (some (.int (i:Int))) (some (.lst (l.map AO))) (some (.int (k:Int))) (some (BA s)))=Aj (Bm (g2 (CI λi j=>decide (j<i))) (AB (Bm (g1 B9) (AB (AA 3) AE)) (AB (mC Fv) AE))) (CO "TooMany" (AB (mC (.str "the whole would have more than 200 doors")) AE)) Ah (sW Ms ts D (a++DM D ts s) (some (.int (i:Int))) (some (.lst (l.map AO))) (some (.int (k:Int))) (some (BA s))):=by
   unfold Gn;refine sq ?_ rfl;unfold sW;rw[ß]
   simp![d2,st,AF _ st,DP,À,l1,lc,l2,sw,AF _ sw]
  have swa:=AF _ (CD (f:=EG) (L:=a++DM D ts s) λw _=>K9 w)
  by_cases hc:200<a.length+(DM D ts s).length
  .rw[Ñ hc]at dc;refine .inr ⟨hc,ext.trans ?_⟩;unfold Fv
   simp![swa,dc]
  .rw[Ù hc]at dc;refine .inl ⟨by omega,ext.trans ?_⟩
   unfold Fv
   simp![swa,dc]
 have two:∀(i k:Nat) (l:kI),i<D.length->D.getD i []=l->k<l.length->∀(a:List (k8×kE)) (y:kH),a.length<=200 ->
   (a.length+(GD D ts i k).length<=200/\∃z,Gp (sW Ms ts D a (some (.int (i:Int))) (some (.lst (l.map AO))) (some (.int (k:Int))) y)=some (.nx (sW Ms ts D (a++GD D ts i k) (some (.int (i:Int))) (some (.lst (l.map AO))) (some (.int (k:Int))) z)))\/(200<a.length+(GD D ts i k).length/\∃τ,Gp (sW Ms ts D a (some (.int (i:Int))) (some (.lst (l.map AO))) (some (.int (k:Int))) y)=some (.xc "TooMany" τ)):=λi k l hi hl hk a y ha=>by
  have so':=so_ok hD hi (k:=k) (by rw[hl];exact hk)
  have ss:Bc ((CN D i k).map Dm)=(CN D i k).map BA:=by
   rw[DW,Ü];refine ĥ λs _=>?_
   show T.nd false .lst (Bc (s.map Dp))=_;rw[HP]
  have fc:=MT (b:=AD 7) (body:=Gn) BA (λ(a:List (k8×kE)) τ=>∃z,τ=(sW Ms ts D a (some (.int (i:Int))) (some (.lst (l.map AO))) (some (.int (k:Int))) z)) (DM D ts) 200 "TooMany" (CN D i k) a (sW Ms ts D a (some (.int (i:Int))) (some (.lst (l.map AO))) (some (.int (k:Int))) y) ⟨y,rfl⟩ ha λs hs a τ hS ha=>by
   obtain⟨z,rfl⟩:=hS;obtain⟨g1,g2,_⟩:=Jf hi (by rw[hl];exact hk) hs
   refine⟨(sW Ms ts D a (some (.int (i:Int))) (some (.lst (l.map AO))) (some (.int (k:Int))) (some (BA s))),by simp![],?_⟩
   rcases one i k l s g1 g2 a ha with ⟨o1,o2⟩|⟨o1,o2⟩
   .exact .inl ⟨o1,_,o2,_,rfl⟩
   .exact .inr ⟨o1,_,o2⟩
  have e4:Gp (sW Ms ts D a (some (.int (i:Int))) (some (.lst (l.map AO))) (some (.int (k:Int))) y)=BV (AD 7) Gn ((CN D i k).map BA) (sW Ms ts D a (some (.int (i:Int))) (some (.lst (l.map AO))) (some (.int (k:Int))) y):=by
   unfold Gp
   simp![d1,d2,so',ss]
  rw[e4]
  rcases fc with ⟨o1,τ,o2,z,rfl⟩|⟨o1,τ,o2⟩
  .exact .inl ⟨o1,z,o2⟩
  .exact .inr ⟨o1,τ,o2⟩
 have fc:=MT (b:=Ax 2 (AM (AD 4) (AM (AD 5) Az))) (body:=Gq) (λ(j:Nat)=>T.tup [.int (j:Int),.lst ((D.getD j []).map AO)]) (λ(a:List (k8×kE)) τ=>∃y4 y5 y6 y7,τ=(sW Ms ts D a y4 y5 y6 y7)) (Ka D ts) 200 "TooMany" (List.range D.length) [] [some (.lst (Ms.map AQ)),some (.lst (ts.map BF)),some (Bp D),some (.own []),none,none,none,none] ⟨none,none,none,none,rfl⟩ (õ _) λi hi a τ hS ha=>by
  obtain⟨y4,y5,y6,y7,rfl⟩:=hS;have hi:=â.mp hi;obtain⟨l,hl,el,_⟩:=M4 hi;have sl:=hD.sl hl;have lk:=hD.k l hl;refine⟨(sW Ms ts D a (some (.int (i:Int))) (some (.lst (l.map AO))) y6 y7),by rw[el];simp![],?_⟩
  have fc:=MT (b:=AD 6) (body:=Gp) (λ(k:Nat)=>T.int (k:Int)) (λ(a:List (k8×kE)) τ=>∃y6 y7,τ=(sW Ms ts D a (some (.int (i:Int))) (some (.lst (l.map AO))) y6 y7)) (GD D ts i) 200 "TooMany" (List.range l.length) a (sW Ms ts D a (some (.int (i:Int))) (some (.lst (l.map AO))) y6 y7) ⟨y6,y7,rfl⟩ ha λk hk a τ hS ha=>by
   obtain⟨y6,y7,rfl⟩:=hS;refine⟨(sW Ms ts D a (some (.int (i:Int))) (some (.lst (l.map AO))) (some (.int (k:Int))) y7),by simp![],?_⟩
   rcases two i k l hi el (â.mp hk) a y7 ha with ⟨o1,z,o2⟩|⟨o1,τ,o2⟩
   .exact .inl ⟨o1,_,o2,_,_,rfl⟩
   .exact .inr ⟨o1,τ,o2⟩
  have ok:DE (l.length:Int)=true:=EL (by omega)
  have er:DO 0 l.length=(List.range l.length).map λ(k:Nat)=>T.int (k:Int):=EJ
  have e3:Gq (sW Ms ts D a (some (.int (i:Int))) (some (.lst (l.map AO))) y6 y7)=BV (AD 6) Gp ((List.range l.length).map λ(k:Nat)=>T.int (k:Int)) (sW Ms ts D a (some (.int (i:Int))) (some (.lst (l.map AO))) y6 y7):=by
   unfold Gq
   simp![sl,AF _ sl,À,ok,er]
  rw[e3,show Ka D ts i=(List.range l.length).flatMap (GD D ts i) by unfold Ka;rw[el]]
  rcases fc with ⟨o1,τ,o2,z6,z7,rfl⟩|⟨o1,τ,o2⟩
  .exact .inl ⟨o1,_,o2,_,_,_,_,rfl⟩
  .exact .inr ⟨o1,τ,o2⟩
 have en:=Qp (λl:kI=>T.lst (l.map AO)) [] D
 have lM:Ms.length<=100000:=by have:=h.l6;omega
 have key:Le [some (.lst (Ms.map AQ)),some (.lst (ts.map BF)),none,none,none,none,none,none]=AG (λ_=>BV (Ax 2 (AM (AD 4) (AM (AD 5) Az))) Gq ((List.range D.length).map λ(j:Nat)=>T.tup [.int (j:Int),.lst ((D.getD j []).map AO)]) [some (.lst (Ms.map AQ)),some (.lst (ts.map BF)),some (Bp D),some (.own []),none,none,none,none]) (AU (AA 3)) []:=by
  unfold Le;refine sq (by simp![sm,AF _ sm,À,lM,EO,so];rfl) ?_
  refine sq (by simp![];rfl) ?_
  unfold AG
  have:BZ (Cw (AB (AA 2) AE)) (Ax 2 (AM (AD 4) (AM (AD 5) Az))) Gq [some (.lst (Ms.map AQ)),some (.lst (ts.map BF)),some (Bp D),some (.own []),none,none,none,none]=BV (Ax 2 (AM (AD 4) (AM (AD 5) Az))) Gq ((List.range D.length).map λ(j:Nat)=>T.tup [.int (j:Int),.lst ((D.getD j []).map AO)]) [some (.lst (Ms.map AQ)),some (.lst (ts.map BF)),some (Bp D),some (.own []),none,none,none,none]:=by
   unfold Bp
   simp![Cw,sD,AF _ sD,en]
  rw[this]
 rw[å,Nat.zero_add]at fc
 rcases fc with ⟨o1,τ,o2,y4,y5,y6,y7,rfl⟩|⟨o1,τ,o2⟩
 .refine .inl ⟨o1,?_⟩;rw[ú]at o2;unfold Ho
  simp![key,o2]
  rfl
 .refine .inr ⟨o1,?_⟩;unfold Ho
  simp![key,o2]
abbrev UG:Stmt:=AN 51
def RK:AI:=
 (B7 (AB (AS Hq (AB (AA 0) AE)) (AB (AS Mm (AB (AA 1) (AB (AA 0) AE))) AE)))
def RJ:AI:=
 (AS Mn (AB (AA 2) (AB (AA 0) (AB (AA 1) AE))))
def Lf:AH:=
 (AG (AW (AS KH (AB (AA 0) AE)) (AD 1))
 (AG (AW (BU 1 [0] (BE (AA 1)) (AD 0) (mC (.bl true)) RK) (AD 2))
 (AG (AW (BU 2 [0] (BE (AS Ho (AB (AA 0) (AB (AA 1) AE)))) (Ax 2 (AM (AD 0) (AM (AD 1) Az))) (mC (.bl true)) RJ) (AD 3))
 (AU (G3 JB [] (AB (AS Iw (AB (AA 0) AE)) (AB (AA 2) (AB (AA 3) AE))))))))
def Im:kL->Option Ru:=Aa 1 4 Lf
abbrev ZC:Fn:=⟨8,["machines"],Im⟩
abbrev zd3:Gx:={ Bn with nw:=[("Machine",MY,[(3,[])])] }
abbrev zd7:Gm:=gA ["machines","takings","rooms","doors"] UG 7 [("checked_takings",Q8),("whole_name",MU),("whole_stay",Yz),("whole_ways",QX),("whole_door",ZA),("all_watches",Q9)] [] [] ["machines"] (ox:=zd3)
theorem zdk:Ck zd7 ZC UG Lf:={}
theorem TF:∀(rss ts:List (kE)) (u v),u∈ts->v.length=rss.length->(∀(i:Nat) (r),v[i]?=some r->∃rs,rss[i]?=some rs/\r∈rs)->u++v∈rss.foldl Bw ts
 |[],ts,u,[],hu,_,_=>by simp_all|[],_,_,_::_,_,h,_=>by cases h|_::_,_,_,[],_,h,_=>by cases h|rs::rss,ts,u,r::v,hu,hl,hv=>by
  obtain⟨rs',e,hr⟩:=hv 0 r rfl;cases e;have:=TF rss (Bw ts rs) (u++[r]) v (Û.mpr ⟨u,hu,Ë.mpr ⟨r,hr,rfl⟩⟩) (by simpa using hl) λi x e=>by simpa using hv (i+1) x (by simpa using e)
  simp_all
theorem zmc(hl:t.length=rss.length)(h:∀(i:Nat) (r),t[i]?=some r->∃rs,rss[i]?=some rs/\r∈rs):t∈tak rss:=TF rss [[]] [] t (Í.mpr rfl) hl h
theorem TC:∀(rss ts:List (kE)),ts≠[]->(∀rs∈rss,rs≠[])->rss.foldl Bw ts≠[]
 |[],_,h,_=>h|rs::rss,ts,h,hr=>by
  refine TC rss (Bw ts rs) (λz=>?_) λx hx=>hr x (Å _ hx)
  obtain⟨t,ht⟩:=List.exists_mem_of_ne_nil ts h;obtain⟨r,hr'⟩:=List.exists_mem_of_ne_nil rs (hr rs (Ã ..));have:t++[r]∈Bw ts rs:=Û.mpr ⟨t,ht,Ë.mpr ⟨r,hr',rfl⟩⟩
  simp_all
def Ai(Ms:kJ):Mc:=⟨Ms.flatMap Mc.ws,(AZ Ms).map λt=>(BB t,Ea Ms t),(BJ (AJ Ms) (AZ Ms)).map (Bs (AJ Ms))⟩
structure FwOk(Ms:kJ):Prop where
 y:∀M∈Ms,∀r∈M.rs,r.2.length<=100
 g:∀M∈Ms,∀d∈M.ds,d.g.length<=100
 n:∀M∈Ms,∀d∈M.ds,d.n.length<=40
theorem zjc(hy:∀r∈M.rs,r.2.length<=100)(r):(Ca M r).length<=100:=by
 unfold Ca;cases hf:M.rs.find? (λx=>decide (x.1=r)) with
 |none=>simp_all|some x=>exact hy x (Ŭ hf)
theorem zm4{Ms:kJ}(hd:(Ms.flatMap Mc.ws).Nodup){i j:Nat}(h1:Ms[i]?=some M)(h2:Ms[j]?=some N)(hij:i≠j)(hx:x∈M.ws)(hy:y∈N.ws):x≠y:=by
 have:=(Ě.mp hd).2;obtain⟨i1,rfl⟩:=Õ.mp h1;obtain⟨j1,rfl⟩:=Õ.mp h2
 rcases Nat.lt_or_gt_of_ne hij with h|h
 .exact List.pairwise_iff_getElem.mp this i j i1 j1 h x hx y hy
 .exact λz=>List.pairwise_iff_getElem.mp this j i j1 i1 h y hy x hx z.symm
theorem Sf{Ms:kJ}(h:MsOk Ms)(hr:RmOk Ms)(hf:FwOk Ms)(hw:(BJ (AJ Ms) (AZ Ms)).length<=200):McOk (Ai Ms):=by
 have hin:∀M∈Ms,∀x∈M.ws,x∈Ms.flatMap Mc.ws:=λM hM x hx=>Û.mpr ⟨M,hM,hx⟩
 have en:(Ai Ms).rs.map (·.1)=(AZ Ms).map BB:=by unfold Ai;rw[Ü];rfl
 refine⟨λx hx=>?_,h.wd,h.wl,⟨?_,?_,λr hr'=>?_,by rw[en];exact hr.d,λr hr'=>?_⟩,λd hd=>?_,by unfold Ai;rw[À];exact hw⟩
 .obtain⟨M,hM,hx⟩:=Û.mp hx;exact(h.m M hM).w x hx
 .show 1<=((AZ Ms).map _).length;rw[À];refine ĸ.mpr (TC _ _ (by simp) λrs hrs=>?_)
  obtain⟨M,hM,rfl⟩:=Ë.mp hrs;have:=(h.m M hM).r.l1;exact λz=>by unfold Mc.nm at z;rw[List.map_eq_nil_iff]at z;rw[z]at this;exact absurd this (by decide)
 .show((AZ Ms).map _).length<=64;rw[À];have:=hr.k Ms.length (È _)
  rwa[Ĝ]at this
 .obtain⟨t,ht,rfl⟩:=Ë.mp hr';exact hr.n t ht
 .obtain⟨t,ht,rfl⟩:=Ë.mp hr';have key:=λx hx=>(NZ h hr ht (x:=x) hx)
  refine⟨λu hu=>?_,?_⟩
  .obtain⟨x,hx,hu⟩:=Û.mp hu;obtain⟨k1,k2⟩:=key x hx;exact(HF (h.m _ k1) k2).2.2.2.more (hin _ k1) u hu
  .have:=FE (g:=λx =>Ca x.1 x.2) λx hx=>zjc (hf.y _ (key x hx).1) _
   have zl:(Ms.zip t).length<=6:=by rw[Ś];have:=h.l6;omega
   show((Ms.zip t).flatMap λx=>Ca x.1 x.2).length<=1000
   omega
 .obtain⟨w,hwm,rfl⟩:=Ë.mp hd;obtain⟨ht,i,k,hi,hk,hs,_⟩:=K8 hwm;obtain⟨g1,g2,g3⟩:=Jf hi hk hs;obtain⟨t1,t2,t3,t4⟩:=hr.t h ht;have at':=λp hp=>M9 h.m g1 (p:=p) hp
  rw[en];refine⟨Ë.mpr ⟨_,ht,rfl⟩,Ë.mpr ⟨_,zmc ?_ λi r e=>?_,rfl⟩,λu hu=>?_,?_,λx hx=>?_,?_,?_,.inl rfl⟩
  .rw[Qt,t1,À]
  .rcases Qs _ _ _ i r e with e|⟨p,hp,rfl,rfl⟩
   .obtain⟨M,e1,e2⟩:=t4 i r e;exact⟨M.nm,by rw[Ä,e1];rfl,e2⟩
   .obtain⟨M,hM,e1,_,kk⟩:=at' p hp;exact⟨M.nm,by rw[Ä,e1];rfl,kk.e⟩
  .obtain⟨p,hp,hu⟩:=Û.mp hu;obtain⟨M,hM,_,_,kk⟩:=at' p hp;exact kk.g.more (hin M hM) u hu
  .have:=FE λp hp=>by
    obtain⟨M,hM,_,e2,_⟩:=at' p hp;exact hf.g M hM _ (Ú e2)
   show(Fx (AJ Ms) w.1).length<=1000;unfold Fx
   omega
  .obtain⟨p,hp,hx⟩:=Û.mp hx;obtain⟨M,hM,_,_,kk⟩:=at' p hp;exact hin M hM x (kk.n x hx)
  .show(Eg (AJ Ms) w.1).Nodup;unfold Eg
   rcases g3 with e|⟨j,m,hj,e⟩
   .rw[e]at at' ⊢;obtain⟨M,hM,_,_,kk⟩:=at' (i,k) (Í.mpr rfl)
    simpa using kk.nd
   .rw[e]at at' ⊢;obtain⟨M,hM,e1,_,kk⟩:=at' (i,k) (Ã ..);obtain⟨N,hN,e2,_,kk2⟩:=at' (j,m) (Å _ (Í.mpr rfl));rw[ä,ä,ŀ,ç];exact Ľ.mpr ⟨kk.nd,kk2.nd,λx hx y hy=>zm4 h.wd e1 e2 (Ð hj) (kk.n x hx) (kk2.n y hy)⟩
  .have:=FE λp hp=>by
    obtain⟨M,hM,_,e2,_⟩:=at' p hp;exact hf.n M hM _ (Ú e2)
   show(Eg (AJ Ms) w.1).length<=100;unfold Eg
   omega
theorem zm9(h:MsOk Ms)(hr:RmOk Ms)(hf:FwOk Ms):((BJ (AJ Ms) (AZ Ms)).length<=200/\Im [.lst (Ms.map AQ)]=some (.ok (AQ (Ai Ms))))\/(200<(BJ (AJ Ms) (AZ Ms)).length/\Im [.lst (Ms.map AQ)]=some (.exc "TooMany")):=by
 have sm:=FX h.m;have ct:=aW h hr;have st:=Gw (AZ Ms);have l64 :=by have:=hr.k Ms.length (È _);rwa[Ĝ]at this
 have ll:(AZ Ms).length<=100000:=by omega
 have ss:∀t∈AZ Ms,Aq (Ea Ms t)=true:=λt ht=>by
  rw[Di,Þ];intro u hu;obtain⟨x,hx,hu⟩:=Û.mp hu;obtain⟨k1,k2⟩:=NZ h hr ht hx;have:=(HF (h.m _ k1) k2).2.1;rw[Di,Þ]at this;exact this u hu
 have EO:Ba (AD 0) (mC (.bl true)) RK ((AZ Ms).map BF) [none,some (.lst (Ms.map AQ))]=some ((AZ Ms).map λt=>BS (BB t,Ea Ms t)):=C1 BF (λt=>BS (BB t,Ea Ms t)) (λτ=>∃a,τ=[a,some (.lst (Ms.map AQ))]) _ _ ⟨none,rfl⟩ λt ht τ hI=>by
  obtain⟨a,rfl⟩:=hI;obtain⟨_,k1,k2,_⟩:=hr.t h ht;have w1:=Kc (o:=false) k1 k2;have w2:=zm3 h hr ht;exact⟨[some (BF t),some (.lst (Ms.map AQ))],by simp![],by unfold RK;simp![sm,AF _ sm,AV,Ae,w1,w2,AF _ (ss t ht)],_,rfl⟩
 have er:(AZ Ms).map (λt=>BS (BB t,Ea Ms t))=(Ai Ms).rs.map BS:=by unfold Ai;rw[Ü];rfl
 rw[er]at EO
 have sr:Aq ((Ai Ms).rs.map BS)=true:=CD λr hr'=>by
  obtain⟨t,ht,rfl⟩:=Ë.mp hr'
  simp![ss t ht]
 rcases Sb h hr with ⟨w1,w2⟩|⟨w1,w2⟩
 .have ok:=Sf h hr hf w1;have mi:JB [.lst ((Ai Ms).ws.map T.str),Bf (Ai Ms).rs,.lst ((Ai Ms).ds.map AO)]=some (.ok (AQ (Ai Ms))):=Xo ok;have aw:Iw [.lst (Ms.map AQ)]=some (.ok (.own ((Ai Ms).ws.map T.str))):=bU h.m (by have:=h.wl;omega)
  have sw:=CD (L:=BJ (AJ Ms) (AZ Ms)) λw _=>K9 w
  have lc2:Ba (Ax 2 (AM (AD 0) (AM (AD 1) Az))) (mC (.bl true)) RJ ((BJ (AJ Ms) (AZ Ms)).map EG) [none,none,some (.lst (Ms.map AQ))]=some ((Ai Ms).ds.map AO):=by
   have e0:(Ai Ms).ds.map AO=(BJ (AJ Ms) (AZ Ms)).map λw=>AO (Bs (AJ Ms) w):=by unfold Ai;rw[Ü];rfl
   rw[e0]
   exact C1 EG (λw=>AO (Bs (AJ Ms) w)) (λτ=>∃a b,τ=[a,b,some (.lst (Ms.map AQ))]) _ _ ⟨none,none,rfl⟩ λw hw τ hI=>by
    obtain⟨a,b,rfl⟩:=hI;obtain⟨ht,i,k,hi,hk,hs,_⟩:=K8 hw;obtain⟨g1,g2,_⟩:=Jf hi hk hs;have wd:=wd_ok h hr ht g1 g2;exact⟨[some (BA w.1),some (BF w.2),some (.lst (Ms.map AQ))],by simp![],by unfold RJ;simp![sm,AF _ sm,AV,Ae,DP,HP,wd],_,_,rfl⟩
  have l2:(BJ (AJ Ms) (AZ Ms)).length<=100000:=by omega
  have sd:=ok.sd;refine .inl ⟨w1,?_⟩;unfold Im Lf
  simp![sm,AF _ sm,ct,st,AF _ st,À,ll,EO,sr,AF _ sr,w2,sw,AF _ sw,l2,lc2,sd,AF _ sd,aw,Ae,AV,mi]
 .refine .inr ⟨w1,?_⟩;unfold Im Lf
  simp![sm,AF _ sm,ct,st,AF _ st,À,ll,EO,sr,AF _ sr,w2]
abbrev UO:Stmt:=AN 52
def RP:AI:=
 (m1 CQ (AA 0))
def Lk:AH:=
 (AG (AW (AS KH (AB (AA 0) AE)) (AD 1))
 (AU (BU 2 [] (BE (AS Ho (AB (AA 0) (AB (AA 1) AE)))) (Ax 2 (AM (AD 0) (AM (AD 1) Az))) (mC (.bl true)) RP)))
def Hr:kL->Option Ru:=Aa 1 2 Lk
abbrev ZJ:Fn:=⟨5,["machines"],Hr⟩
abbrev zfk:Gm:=gA ["machines","takings"] UO 4 [("checked_takings",Q8),("whole_ways",QX)] ["list"]
theorem zfz:Ck zfk ZJ UO Lk:={}
theorem zms(h:MsOk Ms)(hr:RmOk Ms):((BJ (AJ Ms) (AZ Ms)).length<=200/\Hr [.lst (Ms.map AQ)]=some (.ok (.own ((BJ (AJ Ms) (AZ Ms)).map λw=>Dm w.1))))\/(200<(BJ (AJ Ms) (AZ Ms)).length/\Hr [.lst (Ms.map AQ)]=some (.exc "TooMany")):=by
 have sm:=FX h.m;have ct:=aW h hr;have st:=Gw (AZ Ms)
 rcases Sb h hr with ⟨w1,w2⟩|⟨w1,w2⟩
 .have sw:=CD (L:=BJ (AJ Ms) (AZ Ms)) λw _=>K9 w
  have l2:(BJ (AJ Ms) (AZ Ms)).length<=100000:=by omega
  have lc:Ba (Ax 2 (AM (AD 0) (AM (AD 1) Az))) (mC (.bl true)) RP ((BJ (AJ Ms) (AZ Ms)).map EG) [none,none]=some ((BJ (AJ Ms) (AZ Ms)).map λw=>Dm w.1):=C1 EG (λw=>Dm w.1) (λτ=>∃a b,τ=[a,b]) _ _ ⟨none,none,rfl⟩ λw hw τ hI=>by
   obtain⟨a,b,rfl⟩:=hI;exact⟨[some (BA w.1),some (BF w.2)],by rfl,by unfold RP;simp![DP,HP],_,_,rfl⟩
  refine .inl ⟨w1,?_⟩;unfold Hr Lk
  simp![sm,AF _ sm,ct,st,AF _ st,À,w2,sw,AF _ sw,l2,lc]
 .refine .inr ⟨w1,?_⟩;unfold Hr Lk
  simp![sm,AF _ sm,ct,st,AF _ st,w2]
abbrev Ua:Stmt:=AN 9
def IC:AI:=
 (m2 Bz (AA 3) (mC (.int 0)))
def N7:AH:=
 (AG (AW (m2 B0 (AA 2) (AA 3)) (AD 4))
 (AG (AW (AA 3) (AD 2))
 (AW (AA 4) (AD 3))))
def PV:AH:=
 (AG (AW (m1 Hl (AA 0)) (AD 2))
 (AG (AW (m1 Hl (AA 1)) (AD 3))
 (AG (FO IC N7)
 (AU (AA 2)))))
def My:kL->Option Ru:=Aa 2 5 PV
abbrev ZR:Fn:=⟨1,["one","other"],My⟩
abbrev za3:Gm:=gA ["one","other","greater","lesser","rest"] Ua 0 [] ["abs"]
theorem za4:Ck za3 ZR Ua PV:={}
theorem gd_ok(a b):My [.int a,.int b]=some (.ok (.int (Zm.gd a b))):=by
 have loop:=VR (mc:=IC) (body:=N7)
  (λτ=>∃(g l:Int) (r:kH),τ=[some (.int a),some (.int b),some (.int g),some (.int l),r]/\0<=g/\0<=l/\Zm.gd g l=Zm.gd a b)
  (λτ=>match τ with|[_,_,_,some (.int l),_]=>l.natAbs|_=>0)
  ⟨_,_,none,rfl,by split<;>omega,by split<;>omega,Zm.gd_abs a b⟩ (by
   rintro τ ⟨g,l,r,rfl,hg,hl,e⟩
   by_cases h0:l=0
   .right;exact⟨false,by unfold IC;simp![Dt,h0]⟩
   .left;refine⟨false,by unfold IC;simp![Dt];simp[h0],[some (.int a),some (.int b),some (.int l),some (.int (g.fmod l)),some (.int (g.fmod l))],by unfold N7;simp![h0],⟨_,_,_,rfl,hl,?_,?_⟩,?_⟩
    .exact ø g (by omega)
    .exact Zm.gd_turn e
    .exact Zm.fmod_less g h0)
 obtain⟨τ',e1,⟨g,l,r,rfl,hg,hl,e⟩,bb,e2⟩:=loop
 have hl0 :=by
  have e3:IC [some (.int a),some (.int b),some (.int g),some (.int l),r]=some (.v (.bl (!(l == 0))) false):=by unfold IC;simp![Dt]
  rw[e3]at e2;exact(by simpa using e2:l=0/\bb=false).1
 have hgd:g=Zm.gd a b:=by
  rw[<- e,hl0];unfold Zm.gd;rw[Int.gcd_zero_right]
  omega
 unfold My PV
 simp![e1]
 rw[hgd]
abbrev Ub:Stmt:=AN 10
def PX:AH:=
 (AG (Aj (Bk (BD (AS Jz (AB (AA 0) AE))) (BD (AS Jz (AB (AA 1) AE)))) (CO "NoNumber" (AB (mC (.str "a fraction is made of two whole numbers")) AE)) Ah)
 (AG (Aj (m2 Be (AA 1) (mC (.int 0))) (CO "NoNumber" (AB (mC (.str "the bottom of a fraction is not 0")) AE)) Ah)
 (AG (AW (AS My (AB (AA 0) (AB (AA 1) AE))) (AD 2))
 (AG (Aj (m2 (CI λi j=>decide (i<j)) (AA 1) (mC (.int 0))) (AW (m1 Ds (AA 2)) (AD 2)) Ah)
 (AU (B7 (AB (m2 C9 (AA 0) (AA 2)) (AB (m2 C9 (AA 1) (AA 2)) AE))))))))
def Mz:kL->Option Ru:=Aa 2 3 PX
abbrev ZS:Fn:=⟨2,["top","bottom"],Mz⟩
abbrev zdc:Gm:=gA ["top","bottom","divisor"] Ub 1 [("is_whole",Q2),("greatest_divisor",ZR)] [] (ex:=["NoNumber"])
theorem zdp:Ck zdc ZS Ub PX:={}
theorem fr_ok(hb:0<b)(hs:b<10 ^ 70):Mz [.int t,.int b]=some (.ok (fr (Zm.lt t b) (Zm.lb t b))):=by
 have g0:0<Zm.gd t b:=Zm.gd_pos (by omega)
 have g1:Zm.gd t b<=b:=Zm.gd_le hb;have gs :=DB (by omega) (by omega (config:={}))
 have n0:(b == 0)=false:=by omega
 have n1:decide (b<0)=false:=by omega
 have n2:(Zm.gd t b≠0)=True:=by omega
 unfold Mz PX
 simp![zep,gd_ok,Hf,n0,n1,gs,n2]
 rfl
abbrev UR:Stmt:=AN 11
def Oz:AH:=
 (AU (AS Mz (AB (m2 Bb (m2 Bg (AL (AA 0) (mC (.int 0))) (AL (AA 1) (mC (.int 1)))) (m2 Bg (AL (AA 1) (mC (.int 0))) (AL (AA 0) (mC (.int 1))))) (AB (m2 Bg (AL (AA 0) (mC (.int 1))) (AL (AA 1) (mC (.int 1)))) AE))))
def Mv:kL->Option Ru:=Aa 2 2 Oz
abbrev ZK:Fn:=⟨3,["one","other"],Mv⟩
abbrev zlm:Gm:=gA ["one","other"] UR 2 [("fraction",ZS)] []
theorem zlx:Ck zlm ZK UR Oz:={}
theorem zhx(hb:0<b)(hc:0<c)(h:t * c=u * b):Zm.lt t b=Zm.lt u c/\Zm.lb t b=Zm.lb u c:=by
 have b0:b≠0:=by omega
 have c0:c≠0:=by omega
 have g1:=Zm.gd_low (t:=t) b0;have g2:=Zm.gd_low (t:=u) c0;have p1:=Zm.lb_pos (t:=t) hb;have p2:=Zm.lb_pos (t:=u) hc;have k1:=Zm.gd_pos (a:=t) b0;have k2:=Zm.gd_pos (a:=u) c0;have e1:=Zm.lt_mul (t:=t) b0;have e2:=Zm.lb_mul (t:=t) b0;have e3:=Zm.lt_mul (t:=u) c0;have e4:=Zm.lb_mul (t:=u) c0;generalize Zm.lt t b=x at *;generalize Zm.lb t b=y at *;generalize Zm.lt u c=z at *;generalize Zm.lb u c=w at *;generalize Zm.gd t b=g at *;generalize Zm.gd u c=k at *
 have e :=by
  have q :=by
   rw[<- e1,<- e2,<- e3,<- e4]at h
   calc (x * w) * (g * k)=x * g * (w * k):=by erw[Ņ,Int.mul_left_comm,ň]
    _=z * k * (y * g):=h
    _=(z * y) * (g * k):=by erw[Ņ,Int.mul_left_comm,ň]
  exact Int.eq_of_mul_eq_mul_right (Int.ne_of_gt (Int.mul_pos k1 k2)) q
 unfold Zm.gd at g1 g2;have g1:Int.gcd x y=1:=by omega
 have g2:Int.gcd z w=1:=by omega
 have d1 :=by
  have:y ∣ x * w:=⟨z,by rw[e,ň]⟩
  have:=Int.dvd_gcd_mul_iff_dvd_mul.mpr this;rw[Int.gcd_comm,g1]at this
  simpa using this
 have d2 :=by
  have:w ∣ z * y:=⟨x,by rw[<- e,ň]⟩
  have:=Int.dvd_gcd_mul_iff_dvd_mul.mpr this;rw[Int.gcd_comm,g2]at this
  simpa using this
 have yw:y=w:=by
  have:=Int.le_of_dvd p2 d1;have:=Int.le_of_dvd p1 d2
  omega
 subst yw;exact⟨Int.eq_of_mul_eq_mul_right (by omega) e,rfl⟩
abbrev Bo(P v:Int):T:=fr (Zm.lt v P) (Zm.lb v P)
theorem MD(h1:0<P)(h2:P<=100):0<Zm.lb v P/\Zm.lb v P<=100/\Ec (Zm.lb v P)=true:=by
 have a:=Zm.lb_pos (t:=v) h1;have b:=Zm.lb_le (t:=v) h1;exact⟨a,by omega,DC (by omega) (by omega)⟩
theorem plP(h1:0<P)(h2:P<=100):Mv [Bo P v,Bo P w]=some (.ok (Bo P (v+w))):=by
 obtain⟨a1,a2,a3⟩:=MD h1 h2;obtain⟨b1,b2,b3⟩:=MD h1 h2;have p0:P≠0:=by omega
 have e1:=Zm.lt_mul (t:=v) p0;have e2:=Zm.lb_mul (t:=v) p0;have e3:=Zm.lt_mul (t:=w) p0;have e4:=Zm.lb_mul (t:=w) p0;have k1:=Zm.gd_pos (a:=v) p0;have k2:=Zm.gd_pos (a:=w) p0;have hp:=Int.mul_pos a1 b1
 have hs:Zm.lb v P * Zm.lb w P<10 ^ 70:=by
  have:=Int.mul_le_mul a2 b2 (by omega) (by omega)
  omega
 have key :=by
  have q1 :=Zm.cross k1 e1 e2;have q2 :=Zm.cross k2 e3 e4
  calc (Zm.lt v P * Zm.lb w P+Zm.lt w P * Zm.lb v P) * P=Zm.lt v P * P * Zm.lb w P+Zm.lt w P * P * Zm.lb v P:=by omega
   _=v * Zm.lb v P * Zm.lb w P+w * Zm.lb w P * Zm.lb v P:=by rw[q1,q2]
   _=(v+w) * (Zm.lb v P * Zm.lb w P):=by omega
 obtain⟨s1,s2⟩:=zhx hp h1 key;have m1:=Fp (i:=Zm.lt v P) b3;have m2:=Fp (i:=Zm.lt w P) a3;have m3:=Fp (i:=Zm.lb v P) b3;have f:=fr_ok (t:=Zm.lt v P * Zm.lb w P+Zm.lt w P * Zm.lb v P) hp hs;rw[s1,s2]at f;unfold Mv Oz
 simp![m1,m2,m3,f]
abbrev UE:Stmt:=AN 12
def Ow:AH:=
 (AU (m2 (CI λi j=>decide (i<j)) (m2 Bg (AL (AA 0) (mC (.int 0))) (AL (AA 1) (mC (.int 1)))) (m2 Bg (AL (AA 1) (mC (.int 0))) (AL (AA 0) (mC (.int 1))))))
def Il:kL->Option Ru:=Aa 2 2 Ow
abbrev QZ:Fn:=⟨1,["one","other"],Il⟩
abbrev zi8:Gm:=gA ["one","other"] UE 0 [] []
theorem zio:Ck zi8 QZ UE Ow:={}
theorem Nv(h1:CY a d=true)(h2:CY c b=true):Il [fr a b,fr c d]=some (.ok (.bl (decide (a * d<c * b)))):=by
 unfold Il Ow
 simp![h1,h2]
abbrev UJ:Stmt:=AN 19
def Lg:AH:=
 (AG (AW (B7 (AB (AA 2) (AB (mC (.int 1)) AE))) (AD 3))
 (AG (AW (AS Il (AB (AA 0) (AB (AA 3) AE))) (AD 4))
 (AG (AW (AS Il (AB (AA 3) (AB (AA 0) AE))) (AD 5))
 (AG (Aj (m2 Be (AA 1) (mC (.str "<"))) (AU (AA 4)) Ah)
 (AG (Aj (m2 Be (AA 1) (mC (.str "<="))) (AU (BD (AA 5))) Ah)
 (AG (Aj (m2 Be (AA 1) (mC (.str ">"))) (AU (AA 5)) Ah)
 (AG (Aj (m2 Be (AA 1) (mC (.str ">="))) (AU (BD (AA 4))) Ah)
 (AU (CA (BD (AA 4)) (BD (AA 5)))))))))))
def Mr:kL->Option Ru:=Aa 3 6 Lg
abbrev ZF:Fn:=⟨2,["value","word","number"],Mr⟩
abbrev zcg:Gm:=gA ["value","word","number","edge","less","more"] UJ 1 [("under",QZ)] []
theorem zco:Ck zcg ZF UJ Lg:={}
noncomputable def DV(y:Str)(n t b:Int):Bool:=
 if y=Str.ofString "<" then decide (t<n * b) else if y=Str.ofString "<=" then !decide (n * b<t) else if y=Str.ofString ">" then decide (n * b<t) else if y=Str.ofString ">=" then !decide (t<n * b) else !decide (t<n * b) && !decide (n * b<t)
theorem Kg:∀x∈Dl,∀y∈Dl,Be (.str x) (.str y)=some (.bl (decide (x=y))):=λx hx y hy=>E5 (Kf x hx) (Kf y hy)
theorem so42(hy:y∈Dl)(hb:Ec b=true):Mr [fr t b,.str y,.int n]=some (.ok (.bl (DV y n t b))):=by
 have m1:CY t 1=true:=Fp (DC (by decide) (by decide))
 have m2:CY n b=true:=Fp hb;have u1:=Nv m1 m2;have u3:=Nv m2 m1;rw[Int.mul_one]at u1 u3;have e1:=Kg y hy (Str.ofString "<") (by decide +kernel)
 have e2:=Kg y hy (Str.ofString "<=") (by decide +kernel)
 have e3:=Kg y hy (Str.ofString ">") (by decide +kernel)
 have e4:=Kg y hy (Str.ofString ">=") (by decide +kernel)
 unfold Mr
 suffices key:Lg [some (fr t b),some (.str y),some (.int n),none,none,none]=some (.rt (.bl (DV y n t b))) by simp![key]
 unfold DV Lg;generalize decide (t<n * b)=A at *;generalize decide (n * b<t)=B at *;refine sq (by simp![];rfl) ?_
 refine sq (by simp![u1];rfl) ?_
 refine sq (by simp![u3];rfl) ?_
 clear u1 u3 m1 m2
 by_cases q1:y=Str.ofString "<"
 .simp![e1,eq_true q1]
 .refine C6 (by simp![e1,q1]) ?_
  by_cases q2:y=Str.ofString "<="
  .simp![e2,q1,eq_true q2]
  .refine C6 (by simp![e2,q2]) ?_
   by_cases q3:y=Str.ofString ">"
   .simp![e3,q1,q2,eq_true q3]
   .refine C6 (by simp![e3,q3]) ?_
    by_cases q4:y=Str.ofString ">="
    .simp![e4,q1,q2,q3,eq_true q4]
    .refine C6 (by simp![e4,q4]) ?_
     cases A<;>cases B<;>simp![q1,q2,q3,q4]
theorem soP(h1:0<P)(y)(n):DV y n (Zm.lt v P) (Zm.lb v P)=DV y n v P:=by
 have p0:P≠0:=by omega
 have e1:=Zm.lt_mul (t:=v) p0;have e2:=Zm.lb_mul (t:=v) p0;have k1:=Zm.gd_pos (a:=v) p0
 have a:(Zm.lt v P<n * Zm.lb v P) ↔ (v<n * P):=by
  rw[<- Int.mul_lt_mul_right k1,Ņ,e1,e2]
 have b:(n * Zm.lb v P<Zm.lt v P) ↔ (n * P<v):=by
  rw[<- Int.mul_lt_mul_right k1,Ņ,e1,e2]
 unfold DV
 omega
abbrev Uo:Stmt:=Ct 31 5
def Pb:AH:=
 (AU (m2 Bb (HX (Bl Au Ay 0 (AA 0)) (AA 1)) (mC (.int 1))))
def Iy:kL->Option Ru:=Aa 2 2 Pb
abbrev Qa:Fn:=⟨1,["self","name"],Iy⟩
abbrev za0:Gx:={ Bn with cl:=[("Machine",Au,Ay)] }
abbrev za1:Gm:=gA ["self","name"] Uo 0 [] [] (ox:=za0)
theorem za2:Ck za1 Qa Uo Pb:={}
theorem Xl(h:McOk M)(e:CH M.ws x=some j):Iy [E3 M,.str x]=some (.ok (.int (j+1))):=by
 have l1:M.ws.length<1000000:=by have:=h.wl;omega
 unfold Iy Pb
 simp![Ae,AV,IF,h.ss,h.sd,AF _ h.ss,AF _ h.sd,e,l1]
abbrev US:Stmt:=AN 37
def RQ:AI:=
 (B7 (AB (CZ Au Ay Iy (AA 3) (AB (AA 0) AE)) (AB (AA 1) (AB (AA 2) AE))))
def PB:AH:=
 (AG (AW (CZ Au Ay Hs (AA 0) AE) (AD 2))
 (AG (Aj (BD (AS Iv (AB (AA 1) (AB (AA 2) (AB (mC IU) AE))))) (CO "NoMark" (AB (mC (.str "a guard is a list of looks at the machine's watches")) AE)) Ah)
 (AU (BU 3 [0] (BE (AA 1)) (Ax 3 (AM (AD 0) (AM (AD 1) (AM (AD 2) Az)))) (mC (.bl true)) RQ))))
def Iq:kL->Option Ru:=Aa 2 3 PB
abbrev Q1:Fn:=⟨5,["machine","guard"],Iq⟩
abbrev zfh:Gx:={ Bn with co:=[("WORDS",IU)],mt:=[("watches",Au,Ay,MX),("watch_number",Au,Ay,Qa)] }
abbrev zfl:Gm:=gA ["machine","guard","watches"] US 4 [("is_guard",MW)] [] [] ["machine"] (ex:=["NoMark"]) (ox:=zfh)
theorem zg0:Ck zfl Q1 US PB:={}
def Fs:T->Str
 |.nd _ _ (.str x::_)=>x|_=>Str.empty
def HY:T->Str
 |.nd _ _ (_::.str y::_)=>y|_=>Str.empty
def DR:T->Int
 |.nd _ _ (_::_::.int n::_)=>n|_=>0
theorem YK{ws wd:kE}(h:∃x y n,t=.tup [.str x,.str y,.int n]/\x∈ws/\y∈wd/\0<=n):t=.tup [.str (Fs t),.str (HY t),.int (DR t)]/\Fs t∈ws/\HY t∈wd/\0<=DR t:=by
 obtain⟨x,y,n,rfl,h1,h2,h3⟩:=h;exact⟨rfl,h1,h2,h3⟩
def GV(ws:kE)(t:T):T:=.tup [.int (((CH ws (Fs t)).getD 0:Int)+1),.str (HY t),.int (DR t)]
theorem Hb(h:x∈ws):∃j,CH ws x=some j/\∃hj,ws[j]=x:=by
 unfold CH;cases e:List.findIdx? (λy=>@decide (y=x) (Classical.propDecidable _)) ws with
 |none=>have:=List.findIdx?_eq_none_iff.mp e x h;simp at this|some j=>
  obtain⟨h1,h2,_⟩:=Ġ.mp e
  omega
theorem zcy(h:McOk M)(hl:Cg M.ws wd l)(hw:∀y∈wd,y∈Dl)(hn:l.length<=1000):Iq [E3 M,.lst l]=some (.ok (.own (l.map (GV M.ws)))):=by
 have hl':Cg M.ws Dl l:=λt ht=>by
  obtain⟨x,y,n,e,h1,h2,h3⟩:=hl t ht;exact⟨x,y,n,e,h1,hw y h2,h3⟩
 have hg:=QP h.tw Kf hn hl';have hs:=hl.sh;have es:=AF _ hs
 have lc:=C1 (b:=Ax 3 (AM (AD 0) (AM (AD 1) (AM (AD 2) Az)))) (me:=RQ) (λt =>t) (GV M.ws) (λτ=>∃x y z,τ=[x,y,z,some (E3 M)]) l [none,none,none,some (E3 M)] ⟨none,none,none,rfl⟩ λt ht τ hI=>by
  obtain⟨x,y,z,rfl⟩:=hI;obtain⟨k1,k2,k3,k4⟩:=YK (hl' t ht);obtain⟨j,ej,_⟩:=Hb k2;have en:=Xl h ej;refine⟨[some (.str (Fs t)),some (.str (HY t)),some (.int (DR t)),some (E3 M)],by rw[k1];simp![Fs,HY,DR],?_,_,_,_,rfl⟩
  unfold RQ GV;rw[ej]
  simp![Ae,AV,h.ss,h.sd,AF _ h.ss,AF _ h.sd,en,ü]
 rw[Ţ]at lc;have mw:=Xj h;have l1:l.length<=100000:=by omega
 unfold Iq PB
 simp![YV,Ae,AV,h.ss,h.sd,AF _ h.ss,AF _ h.sd,mw,hs,es,hg,l1,lc]
theorem O6(ws)(l:kL):Aq (l.map (GV ws))=true:=by
 rw[Di,Þ];intro t ht;obtain⟨u,_,rfl⟩:=Ë.mp ht
 rfl
theorem Vp(h:McOk M)(hl:Cg M.ws wd l)(hw:∀y∈wd,y∈Dl)(hn:l.length<=1000):Iq [AQ M,.lst l]=some (.ok (.own (l.map (GV M.ws)))):=zcy h hl hw hn
abbrev U9:Stmt:=AN 39
def RY:AI:=
 (AS Mr (AB (AL (AA 3) (m2 IE (AA 0) (mC (.int 1)))) (AB (AA 1) (AB (AA 2) AE))))
def PU:AH:=
 (AU (m1 ET (BU 3 [1] (BE (AA 0)) (Ax 3 (AM (AD 0) (AM (AD 1) (AM (AD 2) Az)))) (mC (.bl true)) RY)))
def KG:kL->Option Ru:=Aa 2 2 PU
abbrev Q7:Fn:=⟨3,["looks","values"],KG⟩
abbrev zia:Gm:=gA ["looks","values"] U9 2 [("stands_so",ZF)] ["all"] [] ["values"]
theorem zir:Ck zia Q7 U9 PU:={}
theorem zgg{α:Type}(p:α->Bool)(l:List α):Bc (l.map λk=>T.bl (p k))=l.map λk=>T.bl (p k):=by
 rw[DW,Ü]
 rfl
abbrev Bq(P:Int)(vs:kF):kL:=vs.map (Bo P)
theorem EV(P:Int)(vs:kF):Aq (Bq P vs)=true:=CD λ_ _=>rfl
def DT(ws:kE)(vs:kF)(x:Str):Int:=vs.getD ((CH ws x).getD 0) 0
def CK(P:Int)(ws:kE)(vs:kF)(t:T):Bool:=DV (HY t) (DR t) (DT ws vs (Fs t)) P
theorem va_at(h:vs.length=ws.length)(P)(hx:x∈ws):∃j,CH ws x=some j/\j<ws.length/\A5 (Bq P vs) j=some (Bo P (DT ws vs x)):=by
 obtain⟨j,ej,hj,_⟩:=Hb hx;refine⟨j,ej,hj,CB ?_⟩;unfold DT
 simp_all
theorem Gd(p1:0<P)(p2:P<=100)(h:vs.length=ws.length){l:kL}(hl:Cg ws Dl l)(hn:l.length<=1000):KG [.lst (l.map (GV ws)),.lst (Bq P vs)]=some (.ok (.bl (l.all (CK P ws vs)))):=by
 have vsh:=EV P vs
 have lc:=C1 (b:=Ax 3 (AM (AD 0) (AM (AD 1) (AM (AD 2) Az)))) (me:=RY) (GV ws) (λt=>.bl (CK P ws vs t)) (λτ=>∃x y z,τ=[x,y,z,some (.lst (Bq P vs))]) l [none,none,none,some (.lst (Bq P vs))] ⟨none,none,none,rfl⟩ λt ht τ hI=>by
  obtain⟨x,y,z,rfl⟩:=hI;obtain⟨k1,k2,k3,k4⟩:=YK (hl t ht);obtain⟨j,ej,hj,av⟩:=va_at h P k2;have so:=so42 k3 (n:=DR t) (t:=Zm.lt (DT ws vs (Fs t)) P) (MD (v:=DT ws vs (Fs t)) p1 p2).2.2;rw[soP p1]at so;have ax:((j:Int)+1 - 1)=j:=by omega
  refine⟨[some (.int (j+1)),some (.str (HY t)),some (.int (DR t)),some (.lst (Bq P vs))],by unfold GV;rw[ej];simp![ü],?_,_,_,_,rfl⟩
  unfold RY CK;generalize Bq P vs=L at *
  simp![ax,av,so,vsh]
 have l1:l.length<=100000:=by omega
 have ps:=O6 ws l;have ba:=Rq (CK P ws vs) l;have ea:(l.map (CK P ws vs)).all id=l.all (CK P ws vs):=by rw[List.all_map];rfl
 generalize Bq P vs=L at *;unfold KG PU
 simp![ps,AF _ ps,vsh,AF _ vsh,À,l1,lc,zgg,ba,ea]
abbrev UU:Stmt:=AN 41
def RR:AI:=
 (CZ Au Ay Iy (AA 1) (AB (AA 0) AE))
def PD:AH:=
 (AU (BU 1 [0] (BE (CZ BC BH KQ (AA 1) AE)) (AD 0) (mC (.bl true)) RR))
def Mw:kL->Option Ru:=Aa 2 2 PD
abbrev ZN:Fn:=⟨2,["machine","door"],Mw⟩
abbrev zac:Gx:={ Bn with mt:=[("sets",BC,BH,Qh),("watch_number",Au,Ay,Qa)] }
abbrev zag:Gm:=gA ["machine","door"] UU 1 [] [] [] ["machine"] (ox:=zac)
theorem zal:Ck zag ZN UU PD:={}
theorem in_ok(i:Nat):∀ps:kG,G9 (.int i) (ps.map λ(p:Nat)=>T.int p)=true:=λps=>by
 unfold G9 ES
 have h1:PyData.canLayAll0 (Bi (ps.map λ(p:Nat)=>T.int p))=true:=by
  induction ps with
  |nil=>rfl|cons a r ih=>omega
 have h2:EY (ps.map λ(p:Nat)=>T.int p)=true:=by
  induction ps with
  |nil=>rfl|cons a r ih=>exact ih (by omega)
 rw[h1];simp[T.data,PyData.canLay0,PyData.depth,h2]
 rfl
theorem Ye(i:Nat):∀ps:kG,Je (.int i) (ps.map λ(p:Nat)=>T.int p)=decide (i∈ps)
 |[]=>by rfl|a::r=>by
  have ih:=Ye i r;unfold Je at ih ⊢;erw[Ò,Bi,List.any_cons,ih];erw[T.data,PyData.eqv]
  by_cases e:i=a
  .simp[e]
  .simp[e,show ¬ a=(i:Int) by omega]
def E1(ws ns:kE):kG:=ns.map λx=>(CH ws x).getD 0+1
abbrev FW(l:kG):kL:=l.map λp:Nat=>T.int (p:Int)
theorem Xh(l:kG):Aq (FW l)=true:=CD λ_ _=>rfl
theorem zpa(ps)(i:Nat):CM (.int i) (.lst (FW ps))=some (.bl (decide (i∈ps))):=by
 unfold CM FW;erw[in_ok i ps,Ye i ps,Î]
theorem np_ok(h:McOk M)(hd:d∈M.ds):Mw [AQ M,AO d]=some (.ok (.own (FW (E1 M.ws d.n)))):=by
 have D:=h.d d hd;have sg:=D.g.sh;have sm:=DF h;have sets:=aF sg
 have lc:=C1 (b:=AD 0) (me:=RR) T.str (λx=>.int ((CH M.ws x).getD 0+1:Nat)) (λτ=>∃x,τ=[x,some (AQ M)]) d.n [none,some (AQ M)] ⟨none,rfl⟩ λx hx τ hI=>by
  obtain⟨y,rfl⟩:=hI;obtain⟨j,ej,_⟩:=Hb (D.n x hx);have en:Iy [AQ M,.str x]=some (.ok (.int (j+1))):=Xl h ej;refine⟨[some (.str x),some (AQ M)],by simp![],?_,_,rfl⟩
  unfold RR;rw[ej]
  simp![-Bu,E2,sm,Ap _ sm,en,ü,Int.natCast_add]
 have e1:FW (E1 M.ws d.n)=d.n.map λx=>.int ((CH M.ws x).getD 0+1:Nat):=by
  unfold FW E1
  simp_all
 have nl:d.n.length<=100000:=by have:=D.nl;omega
 rw[e1];unfold Mw PD
 simp![sm,Ap _ sm,sets,sg,AF _ sg,AV,Ae,À,nl,lc]
abbrev UI:Stmt:=AN 43
def RM:AI:=
 (B7 (AB (mC (.int 0)) (AB (mC (.int 1)) AE)))
def Oy:AH:=
 (AU (B7 (AB (AL (CZ Au Ay JA (AA 0) AE) (mC (.int 0))) (AB (BU 1 [] (BE (CZ Au Ay Hs (AA 0) AE)) (AD 0) (mC (.bl true)) RM) AE))))
def Mq:kL->Option Ru:=Aa 1 1 Oy
abbrev ZE:Fn:=⟨2,["machine"],Mq⟩
abbrev zi6:Gx:={ Bn with mt:=[("rooms",Au,Ay,Qc),("watches",Au,Ay,MX)] }
abbrev zi9:Gm:=gA ["machine"] UI 1 [] [] (ox:=zi6)
theorem ziq:Ck zi9 ZE UI Oy:={}
theorem MA(h:0<P):Zm.lt 0 P=0/\Zm.lb 0 P=1:=by
 have p0:P≠0:=by omega
 have h0:Zm.lt 0 P=0:=by
  rfl
 have g:=Zm.gd_low (t:=0) p0;have b:=Zm.lb_pos (t:=0) h;rw[h0]at g;unfold Zm.gd at g;rw[Int.gcd_zero_left]at g
 omega
abbrev Ak(P:Int)(s:Str×kF):T:=.tup [.str s.1,.lst (Bq P s.2)]
def Ad(M:Mc):Str×kF:=(M.nm.headD "",M.ws.map λ_=>0)
theorem zgv(p1:0<P)(h:McOk M):Mq [AQ M]=some (.ok (Ak P (Ad M))):=by
 have sm:=DF h;have rm:JA [AQ M]=some (.ok (.own (M.nm.map T.str))):=Xk h;have ww:=Xu h
 have lc:=C1 (b:=AD 0) (me:=RM) T.str (λ_=>fr 0 1) (λτ=>∃x,τ=[x]) M.ws [none] ⟨none,rfl⟩ λx hx τ hI=>by
  obtain⟨y,rfl⟩:=hI;exact⟨[some (.str x)],by simp![],by unfold RM;simp![],_,rfl⟩
 have l7:M.ws.length<=100000:=by have:=h.wl;omega
 obtain⟨a,ha⟩:∃a,A5 (M.nm.map T.str) 0=some (.str a)/\M.nm.headD ""=a:=by
  have:=h.r.l1;cases e:M.nm with
  |nil=>
   have q:=congrArg List.length e;rw[show M.nm.length=M.rs.length from À _,å]at q
   omega
  |cons a r=>exact⟨a,CB rfl,rfl⟩
 have e2:Bq P (Ad M).2=M.ws.map λ_=>fr 0 1:=by
  show(M.ws.map λ_=>0).map (Bo P)=_
  rw[Ü];refine ĥ λx _=>?_
  show Bo P 0=fr 0 1;unfold Bo;rw[(MA p1).1,(MA p1).2]
 have e1:(Ad M).1=a:=ha.2;have s1:Aq (M.ws.map λ_=>fr 0 1)=true:=CD λ_ _=>rfl
 unfold Ak;rw[e1,e2];unfold Mq Oy
 simp![-Bu,E2,sm,Ap _ sm,rm,ww,ha.1,AV,Ae,À,l7,lc,s1,AF _ s1]
abbrev U7:Stmt:=AN 46
def PN:AH:=
 (AU (AS KG (AB (AS Iq (AB (AA 0) (AB (CZ Au Ay Iz (AA 0) (AB (AA 1) AE)) AE))) (AB (AA 2) AE))))
def Iu:kL->Option Ru:=Aa 3 3 PN
abbrev MV:Fn:=⟨6,["machine","room","values"],Iu⟩
abbrev zd4:Gx:={ Bn with mt:=[("stay",Au,Ay,Qb)] }
abbrev zda:Gm:=gA ["machine","room","values"] U7 5 [("holds",Q7),("placed",Q1)] [] (ox:=zd4)
theorem zdn:Ck zda MV U7 PN:={}
def Bd(P:Int)(M:Mc)(r:Str)(vs:kF):Bool:=(Ca M r).all (CK P M.ws vs)
theorem OH:∀y∈HG,y∈Dl:=by decide +kernel
theorem Cg.wide(h:Cg ws wd l)(hw:∀y∈wd,y∈wd'):Cg ws wd' l:=λt ht=>by
 obtain⟨x,y,n,e,h1,h2,h3⟩:=h t ht;exact⟨x,y,n,e,h1,hw y h2,h3⟩
theorem Pt(p1:0<P)(p2:P<=100)(h:McOk M)(hr:r∈M.nm)(hv:vs.length=M.ws.length):Iu [AQ M,.str r,.lst (Bq P vs)]=some (.ok (.bl (Bd P M r vs))):=by
 have sm:=DF h;obtain⟨g1,g2,g3,g4⟩:=HF h hr;have pl:=Vp h g4 OH g3;have hd:=Gd p1 p2 hv (g4.wide OH) g3;have vsh:=EV P vs;have ps:=O6 M.ws (Ca M r);unfold Bd;unfold Iu PN
 simp![-Bu,E2,sm,Ap _ sm,g1,g2,AF _ g2,pl,hd,vsh,AF _ vsh,ps,AF _ ps]
abbrev UL:Stmt:=AN 48
def RN:AI:=
 (Dv (m2 CM (AA 0) (AA 2)) (B7 (AB (mC (.int 0)) (AB (mC (.int 1)) AE))) (AA 1))
def Li:AH:=
 (AG (AW (CZ Au Ay E8 (AA 0) AE) (AD 5))
 (AG (Aj (BD (Ei Dw (CI λi j=>decide (i<j)) (mC (.int 0)) (AA 3) (m1 B9 (AA 5)))) (AU (mC .non)) Ah)
 (AG (AW (AL (AA 5) (AA 3)) (AD 6))
 (AG (Aj (Bk (m2 Bz (Bl BC BH 0 (AA 6)) (AA 1)) (CA (AA 4) (m2 Bz (Bl BC BH 4 (AA 6)) (mC (.str ""))))) (AU (mC .non)) Ah)
 (AG (Aj (BD (AS KG (AB (AS Iq (AB (AA 0) (AB (CZ BC BH KS (AA 6) AE) AE))) (AB (AA 2) AE)))) (AU (mC .non)) Ah)
 (AG (AW (AS Mw (AB (AA 0) (AB (AA 6) AE))) (AD 7))
 (AG (AW (BU 2 [7] (Gb (AB (AA 2) AE)) (Ax 2 (AM (AD 0) (AM (AD 1) Az))) (mC (.bl true)) RN) (AD 8))
 (AG (Aj (BD (AS Iu (AB (AA 0) (AB (Bl BC BH 1 (AA 6)) (AB (AA 8) AE))))) (AU (mC .non)) Ah)
 (AU (B7 (AB (Bl BC BH 1 (AA 6)) (AB (AA 8) AE))))))))))))
def Mt:kL->Option Ru:=Aa 5 9 Li
abbrev ZG:Fn:=⟨7,["machine","room","values","number","alone"],Mt⟩
abbrev zas:Gx:={ Bn with cl:=[("Door",BC,BH)],mt:=[("doors",Au,Ay,Ie),("asks",BC,BH,Qi)] }
abbrev zav:Gm:=gA ["machine","room","values","number","alone","doors","door","noughts","after"] UL 6 [("holds",Q7),("placed",Q1),("nought_places",ZN),("is_legal",MV)] ["len","enumerate"] [] ["noughts"] (ox:=zas)
theorem zb0:Ck zav ZG UL Li:={}
def Ci(M:Mc)(d:Dr)(vs:kF):kF:=(M.ws.zip vs).map λx=>if x.1∈d.n then 0 else x.2
theorem K7(hv:vs.length=M.ws.length):(Ci M d vs).length=M.ws.length:=by
 unfold Ci
 simp_all
abbrev IM(P:Int):Option (Str×kF)->T
 |none=>.non|some s=>Ak P s
def GB(P:Int)(M:Mc)(r:Str)(vs:kF)(k:Int)(al:Bool):Option (Str×kF):=
 if 0<=k/\k<(M.ds.length:Int) then (if (M.ds.getD k.toNat d0).s=r/\(al=true->(M.ds.getD k.toNat d0).z="")/\(M.ds.getD k.toNat d0).g.all (CK P M.ws vs)=true/\Bd P M (M.ds.getD k.toNat d0).e (Ci M (M.ds.getD k.toNat d0) vs)=true then some ((M.ds.getD k.toNat d0).e,Ci M (M.ds.getD k.toNat d0) vs) else none) else none
theorem zol(h:McOk M)(hd:d∈M.ds)(hi):(1+i∈E1 M.ws d.n) ↔ M.ws[i]∈d.n:=by
 have D:=h.d d hd;unfold E1;rw[Ë];constructor
 .rintro⟨x,hx,e⟩;obtain⟨j,ej,hj,ex⟩:=Hb (D.n x hx);rw[ej,ü]at e
  omega
 .intro hx;exact⟨_,hx,by rw[Yc h.wd hi,ü];omega⟩
theorem zr_lc(p1:0<P){M:Mc}(h:McOk M)(hd:d∈M.ds)(hv:vs.length=M.ws.length):Ba (Ax 2 (AM (AD 0) (AM (AD 1) Az))) (mC (.bl true)) RN (Co 1 (Bq P vs)) [none,none,some (.lst (FW (E1 M.ws d.n)))]=some (Bq P (Ci M d vs)):=by
 have e1:Co 1 (Bq P vs)=(List.range vs.length).map λi=>T.tup [.int (1+i:Nat),Bo P (vs.getD i 0)]:=by
  refine ē λi=>?_
  rw[Qq,Ä,Ä]
  by_cases hi:i<vs.length
  .have e:vs.getD i 0=vs[i]:=by rw[Ô,Â hi];rfl
   rw[Ĥ hi,Â hi,Ă,Ă,Ă,e]
  .rw[ò (by omega),ò (by rw[ô];omega)]
   rfl
 have e2:Bq P (Ci M d vs)=(List.range vs.length).map λi=>Bo P (if M.ws.getD i ""∈d.n then 0 else vs.getD i 0):=by
  unfold Ci;refine ē λi=>?_
  rw[Ä,Ä,Ä,List.zip,List.getElem?_zipWith]
  by_cases hi:i<vs.length
  .have hw:i<M.ws.length:=by omega
   have e:vs.getD i 0=vs[i]:=by rw[Ô,Â hi];rfl
   have w:M.ws.getD i ""=M.ws[i]:=by rw[Ô,Â hw];rfl
   rw[Ĥ hi,Â hi,Â hw,Ă,Ă,Ă,e,w]
  .rw[ò (by omega),ò (by omega),ò (by rw[ô];omega)]
   rfl
 rw[e1,e2];refine C1 _ _ (λτ=>∃x y,τ=[x,y,some (.lst (FW (E1 M.ws d.n)))]) _ _ ⟨none,none,rfl⟩ λi hi τ hI=>?_
 obtain⟨x,y,rfl⟩:=hI;have hi:=â.mp hi;have hw:i<M.ws.length:=by omega
 have q:=zpa (E1 M.ws d.n) (1+i);rw[show decide (1+i∈E1 M.ws d.n)=decide (M.ws[i]∈d.n) from decide_eq_decide.mpr (zol h hd hw)]at q;have wi:M.ws.getD i ""=M.ws[i]:=by rw[Ô,Â hw];rfl
 have sn:=Xh (E1 M.ws d.n);refine⟨[some (.int (1+i:Nat)),some (Bo P (vs.getD i 0)),some (.lst (FW (E1 M.ws d.n)))],by simp![],?_,_,_,rfl⟩
 rw[wi];unfold RN;generalize FW (E1 M.ws d.n)=L at *
 by_cases hm:M.ws[i]∈d.n
 .rw[if_pos hm];rw[Ñ hm]at q;have f0:Bo P 0=fr 0 1:=by unfold Bo;rw[(MA p1).1,(MA p1).2]
  rw[f0]
  simp![sn,AF _ sn,q]
 .rw[if_neg hm];rw[Ù hm]at q
  simp![sn,AF _ sn,q]
theorem Ol(hx:PyData.strOk x=true)(hy:PyData.strOk y=true):Bz (.str x) (.str y)=some (.bl (!decide (x=y))):=by
 have e:=E5 hx hy;unfold Be at e;unfold Bz
 omega
abbrev sB(P:Int)(M:Mc)(r:Str)(vs:kF)(k:Int)(al:Bool)(x5 x6 x7 x8:kH):AK:=[some (AQ M),some (.str r),some (.lst (Bq P vs)),some (.int k),some (.bl al),x5,x6,x7,x8]
theorem sb_ok{P:Int}(p1:0<P)(p2:P<=100){M:Mc}(h:McOk M){r:Str}(hr:r∈M.nm){vs:kF}(hv:vs.length=M.ws.length)(k:Int)(al:Bool):Mt [AQ M,.str r,.lst (Bq P vs),.int k,.bl al]=some (.ok (IM P (GB P M r vs k al))):=by
 have sm:=DF h;have md:E8 [AQ M]=some (.ok (.own (M.ds.map AO))):=Xs h;have sd:=h.sd;have vsh:=EV P vs
 suffices key:Li (sB P M r vs k al none none none none)=some (.rt (IM P (GB P M r vs k al))) by
  unfold Mt;unfold sB at key;generalize Bq P vs=L at *
  simp![sm,Ap _ sm,vsh,AF _ vsh,key]
 unfold Li;refine sq (by simp![-Bu,E2,sm,Ap _ sm,md,AF _ sd];rfl) ?_
 by_cases hk:0<=k/\k<(M.ds.length:Int)
 .have hb:GB P M r vs k al=_:=if_pos hk;rw[hb];have hi:k.toNat<M.ds.length:=by omega
  have ek:M.ds.getD k.toNat d0=M.ds[k.toNat]:=by rw[Ô,Â hi];rfl
  have hd:M.ds.getD k.toNat d0∈M.ds:=by rw[ek];exact ê hi
  have av:A5 (M.ds.map AO) k=some (AO (M.ds.getD k.toNat d0)):=Me hk.1 (by rw[Ä,Â hi,ek];rfl)
  have k1:=Ñ hk.1;have k2:=Ñ hk.2;refine C6 (by simp![k1,k2,AF _ sd,À]) ?_
  generalize M.ds.getD k.toNat d0=d at *;have D:=h.d d hd;have sg:=D.g.sh;refine sq (by simp![sd,av,sg,AF _ sg,AV,Ae];rfl) ?_
  have er:=Ol (h.tn _ D.s) (h.tn r hr);have ez:=Ol (IH D.z) Qu;have dsh:(AO d).sh=true:=by simp![sg,AV]
  have ask:=aP (d:=d) sg;have pl:=Vp h D.g (λ_ q=>q) D.gl
  have Gd:=Gd p1 p2 hv D.g D.gl;have ps:=O6 M.ws d.g
  by_cases c1:d.s=r/\(al=true->d.z="")
  .have st1:Aj (Bk (m2 Bz (Bl BC BH 0 (AA 6)) (AA 1)) (CA (AA 4) (m2 Bz (Bl BC BH 4 (AA 6)) (mC (.str ""))))) (AU (mC .non)) Ah (sB P M r vs k al (some (.lst (M.ds.map AO))) (some (AO d)) none none)=some (.nx (sB P M r vs k al (some (.lst (M.ds.map AO))) (some (AO d)) none none)):=by
    have q1:=Ñ c1.1;cases al with
    |false=>simp![sg,AV,er,q1]|true=>
     have q2:=Ñ (c1.2 rfl)
     simp![sg,AV,er,q1,ez,q2]
   refine C6 st1 ?_
   clear st1 er ez
   cases c2:d.g.all (CK P M.ws vs) with
   |false=>
    rw[c2]at Gd;have hb:(if d.s=r/\(al=true->d.z="")/\false=true/\Bd P M d.e (Ci M d vs)=true then some (d.e,Ci M d vs) else none)=none:=if_neg λz=>by cases z.2.2.1
    rw[hb];refine sr ?_
    simp![-Bu,E2,sm,Ap _ sm,sg,AF _ sg,AV,Ae,ask,pl,Gd,vsh,AF _ vsh,ps,AF _ ps]
   |true=>
    rw[c2]at Gd;refine C6 (by simp![-Bu,E2,sm,Ap _ sm,sg,AF _ sg,AV,Ae,ask,pl,Gd,vsh,AF _ vsh,ps,AF _ ps]) ?_
    clear Gd pl ask ps
    have np:=np_ok h hd;have ns:=Xh (E1 M.ws d.n);refine sq (by simp![sm,Ap _ sm,sg,AF _ sg,AV,Ae,np,ns,AF _ ns];rfl) ?_
    have zl:=zr_lc p1 h hd hv;have zs:=EV P (Ci M d vs);have vl:vs.length<=100000:=by have:=h.wl;omega
    refine sq (by simp![vsh,AF _ vsh,ns,AF _ ns,zl,zs,AF _ zs,Zz,À,vl];rfl) ?_
    have lg:=Pt p1 p2 h (r:=d.e) D.e (K7 (d:=d) hv);cases c3:Bd P M d.e (Ci M d vs) with
    |false=>
     rw[c3]at lg;rw[if_neg λz=>by cases z.2.2.2]
     exact sr (by simp![sm,Ap _ sm,sg,AV,zs,AF _ zs,lg])
    |true=>rw[c3]at lg;rw[if_pos ⟨c1.1,c1.2,rfl,rfl⟩];exact C6 (by simp![sm,Ap _ sm,sg,AV,zs,AF _ zs,lg]) (by simp![sg,AV,zs,AF _ zs])
  .rw[if_neg λz=>c1 ⟨z.1,z.2.1⟩]
   refine sr ?_
   by_cases q:d.s=r
   .have q1:=Ñ q;cases al with
    |false=>exact absurd ⟨q,λz=>by cases z⟩ c1|true=>
     have q2:=Ù (λz=>c1 ⟨q,λ_=>z⟩)
     simp![sg,AV,er,q1,ez,q2]
   .have q1:=Ù q
    simp![sg,AV,er,q1]
 .have hb:GB P M r vs k al=none:=if_neg hk;rw[hb];refine sr ?_
  by_cases k1:0<=k
  .have k2:=Ù (λz=>hk ⟨k1,z⟩)
   have k1:=Ñ k1
   simp![k1,k2,AF _ sd,À]
  .have k1:=Ù k1
   simp![k1,AF _ sd,À]
abbrev UM:Stmt:=AN 47
def RO:AI:=
 (AS Mv (AB (AA 0) (AB (AA 1) AE)))
def Lj:AH:=
 (AG (AW (AL (AA 1) (mC (.int 0))) (AD 4))
 (AG (AW (AL (AA 2) (mC (.int 0))) (AD 5))
 (AG (Aj (AS Il (AB (AA 5) (AB (B7 (AB (mC (.int 0)) (AB (mC (.int 1)) AE))) AE))) (AU (mC .non)) Ah)
 (AG (AW (BU 1 [5] (BE (AL (AA 1) (mC (.int 1)))) (AD 0) (mC (.bl true)) RO) (AD 6))
 (AG (Aj (BD (AS Iu (AB (AA 0) (AB (AA 4) (AB (AA 6) AE))))) (AU (mC .non)) Ah)
 (AG (Aj (m2 (Dd false) (AL (AA 2) (mC (.int 1))) (mC .non)) (AU (B7 (AB (AA 4) (AB (AA 6) AE)))) Ah)
 (AU (AS Mt (AB (AA 0) (AB (AA 4) (AB (AA 6) (AB (AL (AA 2) (mC (.int 1))) (AB (AA 3) AE)))))))))))))
def Mu:kL->Option Ru:=Aa 4 7 Lj
abbrev ZH:Fn:=⟨8,["machine","stand","step","alone"],Mu⟩
abbrev zaw:Gm:=gA ["machine","stand","step","alone","room","wait","values"] UM 7 [("under",QZ),("plus",ZK),("is_legal",MV),("stand_beyond",ZG)] [] [] ["wait"]
theorem zb1:Ck zaw ZH UM Lj:={}
abbrev Lb:kA->T
 |none=>.non|some k=>.int k
abbrev BY(P:Int)(s:Int×kA):T:=.tup [Bo P s.1,Lb s.2]
def Cz(P:Int)(M:Mc)(s:Str×kF)(w:Int×kA)(al:Bool):Option (Str×kF):=
 if 0<=w.1/\Bd P M s.1 (s.2.map (·+w.1))=true then (match w.2 with
  |none=>some (s.1,s.2.map (·+w.1))|some k=>GB P M s.1 (s.2.map (·+w.1)) k al) else none
abbrev sH(P:Int)(M:Mc)(s:Str×kF)(w:Int×kA)(al:Bool)(x4 x5 x6:kH):AK:=[some (AQ M),some (Ak P s),some (BY P w),some (.bl al),x4,x5,x6]
theorem Og(o:kA):(Lb o).sh=true:=by cases o<;>rfl
theorem zf3(o:kA):(Lb o).share=Lb o:=by cases o<;>rfl
theorem hb_ok{P:Int}(p1:0<P)(p2:P<=100){M:Mc}(h:McOk M){s:Str×kF}(hr:s.1∈M.nm)(hv:s.2.length=M.ws.length)(w:Int×kA)(al:Bool):Mu [AQ M,Ak P s,BY P w,.bl al]=some (.ok (IM P (Cz P M s w al))):=by
 obtain⟨r,vs⟩:=s;obtain⟨wt,k⟩:=w;have sm:=DF h;have vsh:=EV P vs;have ks:=Og k;have kq:=zf3 k
 suffices key:Lj (sH P M (r,vs) (wt,k) al none none none)=some (.rt (IM P (Cz P M (r,vs) (wt,k) al))) by
  unfold Mu;unfold sH at key
  simp![sm,Ap _ sm,vsh,AF _ vsh,ks,kq,key]
 unfold Lj;refine sq (by simp![vsh];rfl) ?_
 refine sq (by simp![ks];rfl) ?_
 have un:=Nv (a:=Zm.lt wt P) (c:=0) (d:=1) (Fp (DC (by decide) (by decide))) (Fp (MD (v:=wt) p1 p2).2.2)
 rw[Int.mul_one,Int.zero_mul]at un
 have lz:(Zm.lt wt P<0) ↔ wt<0:=by
  have e:=Zm.lt_mul (t:=wt) (show P≠0 by omega)
  have g:=Zm.gd_pos (a:=wt) (show P≠0 by omega)
  constructor
  .intro z;have:=Int.mul_neg_of_neg_of_pos z g
   omega
  .intro z
   rcases Int.lt_or_le (Zm.lt wt P) 0 with q|q
   .exact q
   .have:=ł q (Int.le_of_lt g)
    omega
 rw[decide_eq_decide.mpr lz]at un
 by_cases w0:0<=wt
 .have d0:=Ù (show ¬ wt<0 by omega)
  rw[d0]at un;refine C6 (by simp![un]) ?_
  have lc:=C1 (b:=AD 0) (me:=RO) (Bo P) (λv=>Bo P (v+wt)) (λτ=>∃x,τ=[x,some (Bo P wt)]) vs [none,some (Bo P wt)] ⟨none,rfl⟩ λv hv τ hI=>by
   obtain⟨y,rfl⟩:=hI;have pl:=plP (v:=v) (w:=wt) p1 p2;refine⟨[some (Bo P v),some (Bo P wt)],by simp![],?_,_,rfl⟩
   unfold RO
   simp![pl]
  have e1:(vs.map λv=>Bo P (v+wt))=Bq P (vs.map (·+wt)):=by
   unfold Bq;rw[Ü]
   rfl
  rw[e1]at lc;have s1:=EV P (vs.map (·+wt));have vl:vs.length<=100000:=by have:=h.wl;have:=hv;omega
  have hv1:(vs.map (·+wt)).length=M.ws.length:=by rw[À];exact hv
  refine sq (by simp![vsh,AF _ vsh,lc,s1,AF _ s1,À,vl];rfl) ?_
  have lg:=Pt p1 p2 h hr hv1;cases c1:Bd P M r (vs.map (·+wt)) with
  |false=>
   rw[c1]at lg;have hb:Cz P M (r,vs) (wt,k) al=none:=if_neg λz=>by rw[c1]at z;cases z.2
   rw[hb];exact sr (by simp![sm,Ap _ sm,s1,AF _ s1,lg])
  |true=>
   rw[c1]at lg;have hb:Cz P M (r,vs) (wt,k) al=_:=if_pos ⟨w0,c1⟩;rw[hb];refine C6 (by simp![sm,Ap _ sm,s1,AF _ s1,lg]) ?_
   cases k with
   |none=>exact sr (by simp![s1,AF _ s1])|some k=>
    have sb:=sb_ok p1 p2 h hr hv1 k al;refine C6 (by simp![]) ?_
    simp![sm,Ap _ sm,s1,AF _ s1,sb]
 .have d0:=Ñ (show wt<0 by omega)
  rw[d0]at un;have hb:Cz P M (r,vs) (wt,k) al=none:=if_neg λz=>w0 z.1
  rw[hb];exact sr (by simp![un])
abbrev UK:Stmt:=AN 45
def GF:AH:=
 (AG (AW (AS Mu (AB (AA 0) (AB (AA 3) (AB (AA 6) (AB (AA 2) AE))))) (AD 3))
 (AG (Aj (m2 (Dd false) (AA 3) (mC .non)) (HM (AB (AA 5) AE)) Ah)
 (DA 4 (AA 3))))
def Lh:AH:=
 (AG (AW (AS Mq (AB (AA 0) AE)) (AD 3))
 (AG (Aj (BD (AS Iu (AB (AA 0) (AB (AL (AA 3) (mC (.int 0))) (AB (AL (AA 3) (mC (.int 1))) AE))))) (HM (AB (mC (.int 0)) AE)) Ah)
 (AG (CW 4 (BN (BK (AA 3) AE)))
 (AG (BZ (Cw (AB (AA 1) AE)) (Ax 2 (AM (AD 5) (AM (AD 6) Az))) GF)
 (AU (AA 4))))))
def Io:kL->Option Ru:=Aa 3 7 Lh
abbrev Q0:Fn:=⟨9,["machine","run","alone"],Io⟩
abbrev zfg:Gx:={ Bn with rn:=some (Hx,1) }
abbrev zfj:Gm:=gA ["machine","run","alone","here","told","number","step"] UK 8 [("start",ZE),("is_legal",MV),("stand_behind",ZH)] ["enumerate"] ["told"] (ox:=zfg)
theorem zfy:Ck zfj Q0 UK Lh:={}
theorem zpt(h:McOk M)(hv:vs.length=M.ws.length)(e:GB P M r vs k al=some s):s.1∈M.nm/\s.2.length=M.ws.length:=by
 unfold GB at e;split at e
 .split at e
  .cases e;have hd:M.ds.getD k.toNat d0∈M.ds:=by simp_all
   exact⟨(h.d _ hd).e,K7 hv⟩
  .cases e
 .cases e
theorem zpu(h:McOk M)(hr:s.1∈M.nm)(hv:s.2.length=M.ws.length)(e:Cz P M s w al=some s1):s1.1∈M.nm/\s1.2.length=M.ws.length:=by
 have hv1:(s.2.map (·+w.1)).length=M.ws.length:=by simp_all
 unfold Cz at e;split at e
 .split at e
  .omega
  .exact zpt h hv1 e
 .cases e
def CF(P:Int)(M:Mc)(al:Bool):Nat->Str×kF->List (Int×kA)->k7 ⊕ Nat
 |_,_,[]=>.inl []|i,s,w::r=>(match Cz P M s w al with
  |none=>.inr i|some s1=>(match CF P M al (i+1) s1 r with
   |.inl l=>.inl (s1::l)|.inr k=>.inr k))
abbrev sN(P:Int)(M:Mc)(ws:List (Int×kA))(al:Bool)(x3 x4 x5 x6:kH):AK:=[some (AQ M),some (.lst (ws.map (BY P))),some (.bl al),x3,x4,x5,x6]
theorem HH(P)(ws:List (Int×kA)):Aq (ws.map (BY P))=true:=CD λw _=>by
 have:=Og w.2
 simp![this]
theorem Fh(P:Int)(s:Str×kF):(Ak P s).sh=true:=by
 have:=EV P s.2
 simp![this]
theorem Xi(h:McOk M):(Ad M).1∈M.nm:=by
 have:=h.r.l1;unfold Ad;cases q:M.nm with
 |nil=>
  have q:=congrArg List.length q;rw[show M.nm.length=M.rs.length from À _,å]at q
  omega
 |cons a r=>simp_all
def endX(P:Int)(M:Mc)(WS:List (Int×kA))(al:Bool)(acc:k7)(o:Option Out):k7 ⊕ Nat->Prop
 |.inl l=>∃x3 y5 y6,o=some (.nx (sN P M WS al x3 (some (.own ((acc++l).map (Ak P)))) y5 y6))|.inr k=>∃τ,o=some (.xc (Et k) τ)
theorem Yq{P:Int}(p1:0<P)(p2:P<=100){M:Mc}(h:McOk M){al:Bool}{WS}:∀(ws) (i:Nat) (s:Str×kF) (acc:k7) (y5 y6:kH),s.1∈M.nm->s.2.length=M.ws.length->acc.length+ws.length<=2000 ->
  endX P M WS al acc (BV (Ax 2 (AM (AD 5) (AM (AD 6) Az))) GF (Co i (ws.map (BY P))) (sN P M WS al (some (Ak P s)) (some (.own (acc.map (Ak P)))) y5 y6)) (CF P M al i s ws)
 |[],i,s,acc,y5,y6,_,_,_=>⟨_,y5,y6,by rw[ç];rfl⟩|w::ws,i,s,acc,y5,y6,h1,h2,hl=>by
  have sm:=DF h;have hb:=hb_ok p1 p2 h h1 h2 w al;have sa:=Fh P s;have sw:(BY P w).sh=true:=by have:=Og w.2;simp![this]
  have bd:Ax 2 (AM (AD 5) (AM (AD 6) Az)) (.tup [.int (i:Int),BY P w]) (sN P M WS al (some (Ak P s)) (some (.own (acc.map (Ak P)))) y5 y6)=some (sN P M WS al (some (Ak P s)) (some (.own (acc.map (Ak P)))) (some (.int (i:Int))) (some (BY P w))):=by simp![]
  have en:Co i ((w::ws).map (BY P))=.tup [.int (i:Int),BY P w]::Co (i+1) (ws.map (BY P)):=rfl;rw[en];unfold BV CF;erw[bd];cases q:Cz P M s w al with
  |none=>
   rw[q]at hb;have ob:IM P none=T.non:=rfl;rw[ob]at hb
   have e:GF (sN P M WS al (some (Ak P s)) (some (.own (acc.map (Ak P)))) (some (.int (i:Int))) (some (BY P w)))=some (.xc (Et i) (sN P M WS al (some .non) (some (.own (acc.map (Ak P)))) (some (.int (i:Int))) (some (BY P w)))):=by
    unfold GF;have ti:((i:Int)).toNat=i:=rfl;have i0:=Int.natCast_nonneg i;generalize BY P w=W at *;generalize Ak P s=A at *;refine sq (by simp![sm,Ap _ sm,sa,Ap _ sa,sw,Ap _ sw,hb];rfl) ?_
    simp![HM,i0,ti]
   rw[e];exact⟨_,rfl⟩
  |some s1=>
   rw[q]at hb;obtain⟨k1,k2⟩:=zpu h h1 h2 q;have ob:IM P (some s1)=Ak P s1:=rfl;rw[ob]at hb;have sb:=Fh P s1;have nn:Dd false (Ak P s1) .non=some (.bl false):=rfl;have tl:acc.length<100000:=by rw[Ý]at hl;omega
   have e:GF (sN P M WS al (some (Ak P s)) (some (.own (acc.map (Ak P)))) (some (.int (i:Int))) (some (BY P w)))=some (.nx (sN P M WS al (some (Ak P s1)) (some (.own ((acc++[s1]).map (Ak P)))) (some (.int (i:Int))) (some (BY P w)))):=by
    rw[ß];unfold GF;show _=some (Out.nx (sN P M WS al (some (Ak P s1)) (some (.own (acc.map (Ak P)++[Ak P s1]))) (some (.int (i:Int))) (some (BY P w))));generalize BY P w=W at *;generalize Ak P s=A at *;generalize Ak P s1=B at *;refine sq (by simp![sm,Ap _ sm,sa,Ap _ sa,sw,Ap _ sw,hb,sb,Ap _ sb];rfl) ?_
    refine C6 (by simp![-Dd,sb,Ap _ sb,nn]) ?_
    simp![sb,Ap _ sb,À,tl]
   rw[e];have ih:=Yq p1 p2 h (WS:=WS) (al:=al) ws (i+1) s1 (acc++[s1]) (some (.int (i:Int))) (some (BY P w)) k1 k2 (by rw[Ø,ñ];rw[Ý]at hl;omega)
   dsimp only;cases r:CF P M al (i+1) s1 ws with
   |inl l=>rw[r]at ih;obtain⟨x3,z5,z6,ih⟩:=ih;exact⟨x3,z5,z6,by rw[ih,Ĕ];rfl⟩
   |inr k=>rw[r]at ih;exact ih
def DU(P:Int)(M:Mc)(al:Bool)(ws:List (Int×kA)):k7 ⊕ Nat:=if Bd P M (Ad M).1 (Ad M).2=true then (match CF P M al 0 (Ad M) ws with
 |.inl l=>.inl (Ad M::l)|.inr k=>.inr k) else .inr 0
def LD(P:Int):k7 ⊕ Nat->Ru
 |.inl l=>.ok (.own (l.map (Ak P)))|.inr k=>.exc (Et k)
theorem Th(p1:0<P)(p2:P<=100){M:Mc}(h:McOk M)(hw:ws.length<=1000):Io [AQ M,.lst (ws.map (BY P)),.bl al]=some (LD P (DU P M al ws)):=by
 have sm:=DF h;have n0:=Xi h;have v0:(Ad M).2.length=M.ws.length:=À _;have ss:=HH P ws;have st:=zgv p1 h;have lg:=Pt p1 p2 h n0 v0;have fr:=Yq p1 p2 h (WS:=ws) (al:=al) ws 0 (Ad M) [Ad M] none none n0 v0 (by rw[ñ];omega)
 unfold DU;generalize Ad M=s0 at *;have vs0:=EV P s0.2
 have go:∀{o},(AG (BZ (Cw (AB (AA 1) AE)) (Ax 2 (AM (AD 5) (AM (AD 6) Az))) GF) (AU (AA 4))) (sN P M ws al (some (Ak P s0)) (some (.own [Ak P s0])) none none)=o->Lh (sN P M ws al none none none none)=(if Bd P M s0.1 s0.2=true then o else some (.xc (Et 0) (sN P M ws al (some (Ak P s0)) none none none))):=λ{o} ho=>by
  unfold Lh;refine sq (by simp![sm,Ap _ sm,st,vs0,AF _ vs0];rfl) ?_
  cases q:Bd P M s0.1 s0.2 with
  |true=>
   rw[q]at lg;refine C6 (by simp![sm,Ap _ sm,vs0,AF _ vs0,lg]) ?_
   refine sq (by simp![vs0,AF _ vs0];rfl) ?_
   rw[if_pos rfl];exact ho
  |false=>
   rw[q]at lg;have t0:((0:Int)).toNat=0:=rfl
   simp![HM,sm,Ap _ sm,vs0,AF _ vs0,lg,Int.le_refl,t0]
 cases r:CF P M al 0 s0 ws with
 |inl l=>
  rw[r]at fr;obtain⟨x3,y5,y6,ef⟩:=fr
  have key:=go (o:=some (.rt (.own ((s0::l).map (Ak P))))) (by
   refine sq (by rw[<- ef];simp![Cw,ss,AF _ ss]) ?_
   simp![])
  unfold Io;unfold sN at key;cases q:Bd P M s0.1 s0.2 with
  |true=>
   rw[q,if_pos rfl]at key
   simp![sm,Ap _ sm,ss,AF _ ss,key]
   rfl
  |false=>
   rw[q]at key
   simp![sm,Ap _ sm,ss,AF _ ss,key]
   rfl
 |inr k=>
  rw[r]at fr;obtain⟨τ,ef⟩:=fr
  have key:=go (by
   unfold AG
   have e:(BZ (Cw (AB (AA 1) AE)) (Ax 2 (AM (AD 5) (AM (AD 6) Az))) GF) (sN P M ws al (some (Ak P s0)) (some (.own [Ak P s0])) none none)=some (.xc (Et k) τ):=by
    rw[<- ef]
    simp![Cw,ss,AF _ ss]
   rw[e])
  unfold Io;unfold sN at key;cases q:Bd P M s0.1 s0.2 with
  |true=>
   rw[q,if_pos rfl]at key
   simp![sm,Ap _ sm,ss,AF _ ss,key]
   rfl
  |false=>
   rw[q]at key
   simp![sm,Ap _ sm,ss,AF _ ss,key]
   rfl
abbrev UD:Stmt:=AN 44
def Ov:AH:=
 (AU (AL (AS Io (AB (AA 0) (AB (AA 1) (AB (AA 2) AE)))) (m1 Ds (mC (.int 1)))))
def Jx:kL->Option Ru:=Aa 3 3 Ov
abbrev QY:Fn:=⟨10,["machine","run","alone"],Jx⟩
abbrev zfi:Gm:=gA ["machine","run","alone"] UD 9 [("stands",Q0)] []
theorem zfx:Ck zfi QY UD Ov:={}
theorem bW{l}(h:l≠[])(d:α):A5 l (-1)=some (l.getD (l.length - 1) d):=by
 have hl :=ĸ.mpr h
 have e:A5 l (-1)=l[(l.length - 1)]?:=by
  have ix:Ce l.length (-1)=some (l.length - 1):=by
   unfold Ce;simp
   omega
  unfold A5;rw[ix]
  rfl
 rw[e,Ô,Â (by omega)]
 rfl
theorem zmo(e:DU P M al ws=.inl l):l≠[]:=by
 unfold DU at e
 omega
def Ke(P:Int):k7 ⊕ Nat->Ru
 |.inl l=>.ok (Ak P (l.getD (l.length - 1) ("",[])))|.inr k=>.exc (Et k)
theorem Se(p1:0<P)(p2:P<=100)(h:McOk M)(hw:ws.length<=1000):Jx [AQ M,.lst (ws.map (BY P)),.bl al]=some (Ke P (DU P M al ws)):=by
 have sm:=DF h;have ss:=HH P ws;have st:=Th p1 p2 h hw (al:=al);unfold Jx Ov;cases r:DU P M al ws with
 |inl l=>
  rw[r]at st;have ne:=zmo r;have a:=bW (l:=l.map (Ak P)) (by intro z;exact ne (List.map_eq_nil_iff.mp z)) (Ak P ("",[]))
  have g:(l.map (Ak P)).getD ((l.map (Ak P)).length - 1) (Ak P ("",[]))=Ak P (l.getD (l.length - 1) ("",[])):=by
   simp_all
  rw[g]at a;have sl:=Fh P (l.getD (l.length - 1) ("",[]));show _=some (Ru.ok (Ak P (l.getD (l.length - 1) ("",[]))));unfold LD at st
  simp![sm,Ap _ sm,ss,AF _ ss,st,a,sl]
 |inr k=>
  rw[r]at st;unfold LD at st
  simp![sm,Ap _ sm,ss,AF _ ss,st]
  rfl
abbrev Ux:Stmt:=AN 81
def Pg:AH:=
 (AG (AW (m1 B9 (AA 1)) (AD 2))
 (AG (GL 3 N1 (Fj (AS (gD [(.bl true)] Jx) (AB (AA 0) (AB (AA 1) AE)))) (AG (AW (J2 [Hx] (AA 3)) (AD 2)) Ah))
 (AU (AA 2))))
def KI:kL->Option Ru:=Aa 2 4 Pg
abbrev Z2:Fn:=⟨11,["_law_whole","_law_run"],KI⟩
abbrev zd5:Gx:={ Bn with xs:=[("NoRun",N1)],dn:=[("walked",QY,[(.bl true)])],rn:=some (Hx,1) }
abbrev zde:Gm:=gA ["_law_whole","_law_run","_law_found","e"] Ux 10 [] ["len"] (ox:=zd5)
theorem zdr:Ck zde Z2 Ux Pg:={}
def FQ(P:Int)(M:Mc)(ws:List (Int×kA)):Nat:=match DU P M true ws with
 |.inl _=>ws.length|.inr k=>k
theorem ref_ok(p1:0<P)(p2:P<=100)(h:McOk M)(hw:ws.length<=1000):KI [AQ M,.lst (ws.map (BY P))]=some (.ok (.int (FQ P M ws))):=by
 have sm:=DF h;have ss:=HH P ws;have wk:=Se p1 p2 h hw (al:=true);have lw:ws.length<=100000:=by omega
 unfold KI Pg FQ;cases r:DU P M true ws with
 |inl l=>
  rw[r]at wk;unfold Ke at wk;dsimp only at wk ⊢
  simp![sm,Ap _ sm,ss,AF _ ss,À,lw,wk,GL]
 |inr k=>
  rw[r]at wk;unfold Ke at wk;dsimp only at wk ⊢;have pb:FT (Et k)="NoRun":=rfl;have pl:IL (Et k)=[.int k]:=rfl;have lk:N1.lookup ("NoRun":Str)=some Hx:=rfl;have ct:[Hx].contains Hx=true:=rfl
  simp![sm,Ap _ sm,ss,AF _ ss,À,lw,wk,GL,pb,pl,lk,J2,ct]
abbrev Ut:Stmt:=AN 82
def Ln:AH:=
 (AG (Aj (Bk (m2 El (AA 1) (BN AE)) (m2 El (CZ Au Ay E8 (AA 0) AE) (BN AE))) (AU (mC (.bl true))) Ah)
 (AG (AW (m2 B0 (AA 2) (m1 B9 (AA 1))) (AD 3))
 (AG (CW 4 (m1 CQ (AA 1)))
 (AG (HL 4 (AA 3) (B7 (AB (AL (AL (AA 1) (AA 3)) (mC (.int 0))) (AB (m2 B0 (m2 C9 (AA 2) (mC (.int 16))) (m1 B9 (CZ Au Ay E8 (AA 0) AE))) AE))))
 (AG (Dn 4) (AU (CA (Ei Dw Dw (AA 3) (AS KI (AB (AA 0) (AB (AA 4) AE))) (m1 B9 (AA 1))) (m2 Be (AS KI (AB (AA 0) (AB (Cn (Du (AA 1) none (some (AA 3))) (D0 (AA 1) none (some (AA 3)))) AE))) (AA 3)))))))))
def NH:kL->Option Ru:=Aa 3 5 Ln
abbrev Z0:Fn:=⟨12,["_law_whole","_law_run","_law_cell"],NH⟩
abbrev ze7:Gx:={ Bn with mt:=[("doors",Au,Ay,Ie)] }
abbrev zeb:Gm:=gA ["_law_whole","_law_run","_law_cell","_law_at","_law_other"] Ut 11 [("_law_refused",Z2)] ["len","list"] ["_law_other"] (ox:=ze7)
theorem zek:Ck zeb Z0 Ut Ln:={}
theorem VW:∀(ws) (i) (s),(∃l,CF P M al i s ws=.inl l)\/∃k,CF P M al i s ws=.inr k/\i<=k/\k<i+ws.length
 |[],i,s=>.inl ⟨[],rfl⟩|w::ws,i,s=>by
  unfold CF;cases q:Cz P M s w al with
  |none=>simp_all|some s1=>
   rcases VW (P:=P) (M:=M) (al:=al) ws (i+1) s1 with ⟨l,e⟩|⟨k,e,h1,h2⟩
   .simp_all
   .exact .inr ⟨k,by erw[e],by omega,by rw[Ý];omega⟩
theorem VT:∀(ws) (i) (s) (l) (a),CF P M al i s ws=.inl l->∃l',CF P M al i s (ws.take a)=.inl l'
 |[],i,s,l,a,e=>⟨[],by rw[List.take_nil];rfl⟩|w::ws,i,s,l,0,e=>⟨[],rfl⟩|w::ws,i,s,l,a+1,e=>by
  unfold CF at e;rw[List.take_succ_cons];unfold CF;cases q:Cz P M s w al with
  |none=>omega|some s1=>
   rw[q]at e;dsimp only at e ⊢;cases r:CF P M al (i+1) s1 ws with
   |inr k=>omega|inl l1=>
    obtain⟨l',e'⟩:=VT ws (i+1) s1 l1 a r
    simp_all
theorem VV(w'):∀(ws) (i) (s) (l) (a),CF P M al i s ws=.inl l->a<ws.length->(∃l',CF P M al i s (ws.set a w')=.inl l')\/∃k,CF P M al i s (ws.set a w')=.inr k/\i+a<=k/\k<i+ws.length
 |[],i,s,l,a,e,h=>absurd h (Nat.not_lt_zero _)|w::ws,i,s,l,0,e,h=>by
  rcases VW (w'::ws) i s with h|⟨k,e,h1,h2⟩
  .exact .inl h
  simp_all
 |w::ws,i,s,l,a+1,e,h=>by
  unfold CF at e;rw[Η];unfold CF;cases q:Cz P M s w al with
  |none=>omega|some s1=>
   rw[q]at e;dsimp only at e ⊢;cases r:CF P M al (i+1) s1 ws with
   |inr k=>omega|inl l1=>
    rw[Ý]at h
    rcases VV w' ws (i+1) s1 l1 a r (by omega) with ⟨l',e'⟩|⟨k,e',h1,h2⟩
    .simp_all
    .exact .inr ⟨k,by rw[e'],by omega,by rw[Ý];omega⟩
theorem Tg(e:DU P M al ws=.inl l):Bd P M (Ad M).1 (Ad M).2=true/\∃l',CF P M al 0 (Ad M) ws=.inl l':=by
 unfold DU at e;split at e
 .split at e
  .simp_all
  .cases e
 .cases e
theorem zh3(e:DU P M true ws=.inl l)(ha:a<=ws.length):FQ P M (ws.take a)=a:=by
 obtain⟨h1,l',h2⟩:=Tg e;obtain⟨l2,h3⟩:=VT ws 0 _ l' a h2;unfold FQ DU
 simp_all
theorem zjp(e:DU P M true ws=.inl l)(ha:a<ws.length)(w'):a<=FQ P M (ws.set a w')/\FQ P M (ws.set a w')<=ws.length:=by
 obtain⟨h1,l',h2⟩:=Tg e;unfold FQ DU
 rcases VV w' ws 0 _ l' a h2 ha with ⟨l2,h3⟩|⟨k,h3,h4,h5⟩
 .rw[Ĉ]
  omega
 omega
theorem zpn(l:List α)(k:Nat):CT l none (some k)=l.take k:=by
 unfold CT;rw[HT.sIx_none,HT.sIx_nat]
 simp_all
theorem Y1{n a:Nat}(h:a<n):Ce n (a:Int)=some a:=by
 unfold Ce
 simp_all
theorem Ze(c:Int){n:Nat}(h:0<n):∃a:Nat,c.fmod n=a/\a<n:=by
 have h1:=ø c (show 0<(n:Int) by omega)
 have h2:=Ā c (show(0:Int)<n by omega)
 exact⟨(c.fmod n).toNat,by omega,by omega⟩
theorem tu_ok{P:Int}(p1:0<P)(p2:P<=100){M:Mc}(h:McOk M){ws:List (Int×kA)}(hw:ws.length<=1000){l:k7}(e:DU P M true ws=.inl l)(c:Int):NH [AQ M,.lst (ws.map (BY P)),.int c]=some (.ok (.bl true)):=by
 have sm:=DF h;have ss:=HH P ws;have md:=Ld h;have ii:=E2 M;have dl:=h.dl;have sd:=h.sd;have z0:El (.lst []) (.lst [])=some (.bl true):=rfl
 have key:Ln [some (AQ M),some (.lst (ws.map (BY P))),some (.int c),none,none]=some (.rt (.bl true)):=by
  unfold Ln
  by_cases hn:ws=[]
  .subst hn
   simp![-El,z0]
  have z1:El (.lst (ws.map (BY P))) (.lst [])=some (.bl false):=by
   cases ws with
   |nil=>exact absurd rfl hn|cons a r=>rfl
  by_cases hd:M.ds=[]
  .rw[hd]at md;have md':=md;generalize AQ M=X at *
   simp![-Bu,-El,ii,z0,z1,md',sm,Ap _ sm,ss,AF _ ss]
  have z2:El (.lst (M.ds.map AO)) (.lst [])=some (.bl false):=by
   cases q:M.ds with
   |nil=>exact absurd q hd|cons a r=>rfl
  obtain⟨a,ea,ha⟩:=Ze c (n:=ws.length) (ĸ.mpr hn);obtain⟨k,ek,hk⟩:=Ze (c.fdiv 16) (n:=M.ds.length) (ĸ.mpr hd);have Ih:A5 (ws.map (BY P)) (a:Int)=some (BY P ws[a]):=CB (by rw[Ä,Â ha];rfl)
  have ix:=Y1 ha
  have w1:(ws.map (BY P)).set a (.tup [Bo P ws[a].1,.int (k:Int)])=(ws.set a (ws[a].1,some (k:Int))).map (BY P):=by
   rw[š]
  have w2:=zpn (ws.map (BY P)) a;rw[<- List.map_take]at w2;have r1:=ref_ok p1 p2 h (ws:=ws.set a (ws[a].1,some (k:Int))) (by rw[Ĉ];exact hw)
  have r2:=ref_ok p1 p2 h (ws:=ws.take a) (by rw[ă];omega)
  rw[zh3 e (Ň ha)]at r2;obtain⟨b1,b2⟩:=zjp e ha (ws[a].1,some (k:Int));have s1:=HH P (ws.set a (ws[a].1,some (k:Int)));have s2:=HH P (ws.take a);have lw:ws.length<=100000:=by omega
  have ld:M.ds.length<=100000:=by omega
  have n1:¬ ((ws.length:Int)=0):=by omega
  have n2:¬ ((M.ds.length:Int)=0):=by omega
  have k16:C7 16=true:=DB (by decide) (by decide)
  have f0:(Bo P ws[a].1).sh=true:=rfl;have g1:decide ((a:Int)<=(FQ P M (ws.set a (ws[a].1,some (k:Int))):Int))=true:=Ñ (by omega)
  have g2:decide ((FQ P M (ws.set a (ws[a].1,some (k:Int))):Int)<=(ws.length:Int))=true:=Ñ (by omega)
  have g3:((a:Int) == (a:Int))=true:=ÿ _;generalize hX:AQ M=X at *;refine C6 (by simp![-Bu,-El,ii,z1,z2,md,sm,Ap _ sm,ss,AF _ ss,sd,AF _ sd]) ?_
  refine sq (by simp![ss,AF _ ss,À,lw,n1,ea];rfl) ?_
  refine sq (by simp![ss,AF _ ss,À,lw];rfl) ?_
  refine sq (τ':=[some X,some (.lst (ws.map (BY P))),some (.int c),some (.int (a:Int)),some (.own ((ws.set a (ws[a].1,some (k:Int))).map (BY P)))]) (by
   rw[<- w1]
   simp![-Bu,ii,ss,AF _ ss,À,lw,ld,Ih,md,sm,Ap _ sm,sd,AF _ sd,n2,k16,ek,ix]) ?_
  refine sq (by simp![s1,AF _ s1];rfl) ?_
  generalize FQ P M (ws.set a (ws[a].1,some (k:Int)))=R at *;generalize (ws.set a (ws[a].1,some (k:Int))).map (BY P)=V at *
  simp![sm,Ap _ sm,s1,AF _ s1,r1,ss,AF _ ss,À,lw,g1,g2,w2,s2,AF _ s2,r2,Hf,g3]
 unfold NH
 simp![sm,Ap _ sm,ss,AF _ ss,key]
abbrev VJ:Stmt:=AN 78
def JL:AI:=
 (m2 Bz (AA 1) (mC (.int 0)))
def Nn:AH:=
 (JR 0 1 (AB (AA 1) (AB (m2 B0 (AA 0) (AA 1)) AE)))
def Pm:AH:=
 (AG (FO JL Nn)
 (AU (m1 Hl (AA 0))))
def NO:kL->Option Ru:=Aa 2 2 Pm
abbrev Zc:Fn:=⟨1,["_law_one","_law_other"],NO⟩
abbrev zdg:Gm:=gA ["_law_one","_law_other"] VJ 0 [] ["abs"]
theorem zdt:Ck zdg Zc VJ Pm:={}
theorem zla(a b):NO [.int a,.int b]=some (.ok (.int (Zm.gd a b))):=by
 have loop:=VR (mc:=JL) (body:=Nn)
  (λτ=>∃(g l:Int),τ=[some (.int g),some (.int l)]/\Zm.gd g l=Zm.gd a b)
  (λτ=>match τ with|[_,some (.int l)]=>l.natAbs|_=>0)
  ⟨_,_,rfl,rfl⟩ (by
   rintro τ ⟨g,l,rfl,e⟩
   by_cases h0:l=0
   .right;exact⟨false,by unfold JL;simp![Dt,h0]⟩
   .left;exact⟨false,by unfold JL;simp![Dt];simp[h0],[some (.int l),some (.int (g.fmod l))],by unfold Nn;simp![h0],⟨_,_,rfl,Zm.gd_turn e⟩,Zm.fmod_less g h0⟩)
 obtain⟨τ',e1,⟨g,l,rfl,e⟩,bb,e2⟩:=loop
 have hl0:l=0:=by
  have e3:JL [some (.int g),some (.int l)]=some (.v (.bl (!(l == 0))) false):=by rfl
  omega
 unfold NO Pm
 simp![e1]
 rw[Zm.gd_end e hl0]
abbrev VG:Stmt:=AN 79
def Pl:AH:=
 (AG (AW (AS NO (AB (AA 0) (AB (AA 1) AE))) (AD 2))
 (AU (B7 (AB (m2 C9 (AA 0) (AA 2)) (AB (m2 C9 (AA 1) (AA 2)) AE)))))
def KN:kL->Option Ru:=Aa 2 3 Pl
abbrev Qf:Fn:=⟨2,["_law_number","_law_parts_here"],KN⟩
abbrev zck:Gm:=gA ["_law_number","_law_parts_here","_law_share"] VG 1 [("_law_divisor",Zc)] []
theorem zcs:Ck zck Qf VG Pl:={}
theorem Pw(p1:0<P)(p2:P<=100)(v):KN [.int v,.int P]=some (.ok (Bo P v)):=by
 have ld:=zla v P;have k:=Zm.gd_pos (a:=v) (by omega)
 have k2:=Zm.gd_le (a:=v) p1;have n0 :=eq_false (by omega)
 have s0 :=DB (Int.lt_trans (by omega) k) (Ÿ (Int.le_trans k2 p2) (by omega))
 unfold Bo Zm.lt Zm.lb;unfold KN Pl
 simp![ld,n0,s0]
abbrev VD:Stmt:=AN 68
def Kl:AH:=
 (Aj (m2 Bz (AA 1) (BN AE)) (AG (AW (m2 B0 (m2 C9 (AA 0) (m2 Bb (mC (.int 5)) (m2 Bg (mC (.int 3)) (AA 5)))) (mC (.int 1000003))) (AD 6))
 (DA 4 (B7 (AB (AL (AA 1) (m2 B0 (AA 6) (m1 B9 (AA 1)))) (AB (AL (AA 2) (m2 B0 (m2 C9 (AA 6) (mC (.int 7))) (m1 B9 (AA 2)))) (AB (m2 Bg (m2 B0 (m2 C9 (AA 6) (mC (.int 35))) (mC (.int 4))) (AA 3)) AE)))))) Ah)
def Pk:AH:=
 (AG (CW 4 (BN AE))
 (AG (BZ (C8 (AB (AL (BN (BK (mC (.int 0)) (BK (mC (.int 0)) (BK (mC (.int 1)) (BK (mC (.int 1)) (BK (mC (.int 2)) AE)))))) (m2 B0 (AA 0) (mC (.int 5)))) AE)) (AD 5) Kl)
 (AU (AA 4))))
def Ht:kL->Option Ru:=Aa 4 7 Pk
abbrev Z7:Fn:=⟨1,["_law_number","_law_watches","_law_words","_law_unit"],Ht⟩
abbrev zfo:Gm:=gA ["_law_number","_law_watches","_law_words","_law_unit","_law_looks_here","_law_k","_law_one"] VD 0 [] ["range","len"] ["_law_looks_here"]
theorem zg3:Ck zfo Z7 VD Pk:={}
theorem Eh(l:List α)(hl:l≠[])(i:Int):∃x∈l,A5 l (i.fmod l.length)=some x:=by
 have hp :=ĸ.mpr hl;have h0:=ø i (show 0<(l.length:Int) by omega)
 have h1:=Ā i (show 0<(l.length:Int) by omega)
 have h2:(i.fmod l.length).toNat<l.length:=by omega
 exact⟨l[(i.fmod l.length).toNat],ê h2,Me h0 (Â h2)⟩
theorem Ep(f:α->T)(h:A5 l i=some x):A5 (l.map f) i=some (f x):=by
 unfold A5 at h ⊢;cases hi:Ce l.length i with
 |none=>simp_all|some j=>simp_all
theorem MB{α:Type}{l:List α}(h:l≠[]):(l.length:Int)≠0:=λz=>h (List.length_eq_zero_iff.mp (ń z))
theorem VS(h1:0<=a)(h2:a<=100)(h3:0<=b)(h4:b<=100):C7 (a+b)=true:=DB (Int.lt_of_lt_of_le (by omega) (Int.add_nonneg h1 h3)) (Ÿ (Int.add_le_add h2 h4) (by omega))
theorem zig(h:CU l):Fit (.lst (l.map T.str)) 1:=Fit.nd λt ht=>by
 obtain⟨x,hx,rfl⟩:=Ë.mp ht;exact Fit.str (h x hx) 0
theorem zoj(h:CU l):Bz (.lst (l.map T.str)) (.lst [])=some (.bl (!decide (l=[]))):=by
 cases l with
 |nil=>rfl|cons a r=>
  rw[(Qo (zig h) (Fit.nd (n:=0) λ_ z=>by cases z) (by decide)).2]
  have e:¬ ((T.lst ((a::r).map T.str)).data=(T.lst []).data):=λz=>by
   have z' :=z;cases z'
  omega
abbrev sL(x:Int)(ws wd:kE)(u:Int)(x4 x5 x6:kH):AK:=[some (.int x),some (.lst (ws.map T.str)),some (.lst (wd.map T.str)),some (.int u),x4,x5,x6]
theorem YG{ws wd:kE}(tw:CU ws)(hd:wd≠[])(x:Int){u:Int}(hu:0<=u):∃g:kL,Cg ws wd g/\g.length<=2/\Ht [.int x,.lst (ws.map T.str),.lst (wd.map T.str),.int u]=some (.ok (.own g)):=by
 have hne:=zoj tw;obtain⟨q,hq,eq⟩:=Eh [0,0,1,1,2] (by decide) x
 have hq2:q<=2:=(show ∀q∈[0,0,1,1,2],q<=2 by decide) q hq
 have eq:A5 [T.int 0,T.int 0,T.int 1,T.int 1,T.int 2] (x.fmod 5)=some (.int (q:Int)):=Ep (λn:Nat=>T.int (n:Int)) eq
 obtain⟨τ,e,g,hl,hg,y5,y6,rfl⟩:=FD (b:=AD 5) (body:=Kl) (ts:=mT q λi=>.int (i:Int))
  (λi τ=>∃g:kL,g.length<=i/\Cg ws wd g/\∃y5 y6,τ=sL x ws wd u (some (.own g)) y5 y6) ⟨[],È 0,λ_ z=>(by cases z),none,none,rfl⟩ λi t τ h1 h2=>by
   obtain⟨hi,rfl⟩:=G1 h1;obtain⟨g,hl,hg,y5,y6,rfl⟩:=h2
   by_cases h0:ws=[]
   .refine⟨sL x ws wd u (some (.own g)) (some (.int (i:Int))) y6,(by simp![]),sL x ws wd u (some (.own g)) (some (.int (i:Int))) y6,?_,g,Nat.le_succ_of_le hl,hg,_,_,rfl⟩
    rw[Ñ h0]at hne;unfold Kl
    simp![Ae,AV,hne]
   .rw[Ù h0]at hne;have m4:CY 3 (i:Int)=true:=Ew (DC (by decide) (by decide))
    have n0:(5+3 * (i:Int)=0)=False:=eq_false (by omega)
    have s0:C7 (5+3 * (i:Int))=true:=VS (by decide) (by decide) (by lia) (by lia)
    obtain⟨b,hb⟩:∃b,(x.fdiv (5+3 * (i:Int))).fmod 1000003=b:=⟨_,rfl⟩;obtain⟨w,hw,ew⟩:=Eh ws h0 b;obtain⟨o,ho,eo⟩:=Eh wd hd (b.fdiv 7);have ew':=Ep T.str ew;have eo':=Ep T.str eo;have l0:=MB h0;have l1:=MB hd;have s7:C7 7=true:=DB (by decide) (by decide)
    have s35:C7 35=true:=DB (by decide) (by decide)
    have r0:=ø (b.fdiv 35) (show(0:Int)<4 by decide)
    have r1:=Ā (b.fdiv 35) (show(0:Int)<4 by decide)
    have m5:CY ((b.fdiv 35).fmod 4) u=true:=Ew (DC (by omega) (by omega))
    have nn :=ł r0 hu;have ll:g.length<100000:=by omega
    refine⟨sL x ws wd u (some (.own g)) (some (.int (i:Int))) y6,(by simp![]),sL x ws wd u (some (.own (g++[.tup [.str w,.str o,.int ((b.fdiv 35).fmod 4 * u)]]))) (some (.int (i:Int))) (some (.int b)),?_,_,(by rw[Ø,ñ];exact ž hl),λt ht=>?_,_,_,rfl⟩
    .unfold Kl
     simp![Ae,AV,hne,m4,n0,s0,hb,À,l0,l1,s7,s35,ew',eo',m5,ll]
    .rcases ë.mp ht with ht|ht
     .exact hg t ht
     .rw[Í.mp ht];exact⟨w,o,_,rfl,hw,ho,nn⟩
 rw[DG]at hl;have ok:DE (q:Int)=true:=EL (by omega)
 have er:DO 0 q=mT q λi=>.int (i:Int):=EJ
 refine⟨g,hg,by omega,?_⟩
 unfold Ht Pk
 simp![eq,ok,er,e,Ae,AV]
abbrev Uz:Stmt:=AN 69
def QN:AI:=
 (m2 (CI λi j=>decide (j<i)) (AL (AA 0) (mC (.int 2))) (mC (.int 0)))
def Rj:AI:=
 (AA 0)
def Kj:AH:=
 (DA 6 (B7 (AB (AL (AA 1) (AA 7)) (AB (BU 1 [] (BE (AS Ht (AB (AL (AA 5) (AA 7)) (AB (AA 2) (AB (BN (BK (mC (.str "<")) (BK (mC (.str "<=")) AE))) (AB (AA 4) AE)))))) (AD 0) QN Rj) AE))))
def QM:AI:=
 (m2 Be (m2 B0 (m2 C9 (AL (AA 2) (mC (.int 2))) (m2 Bb (mC (.int 3)) (AA 0))) (mC (.int 2))) (mC (.int 1)))
def Ri:AI:=
 (AL (AA 1) (AA 0))
def Ki:AH:=
 (AG (AW (AS JD (AB (m2 C9 (AA 0) (mC (.int 18))) (AB (AA 7) (AB (mC (.int 6)) AE)))) (AD 9))
 (AG (AW (BU 1 [2,9] (C8 (AB (m1 B9 (AA 2)) AE)) (AD 0) QM Ri) (AD 10))
 (AG (AW (AL (BN (BK (mC (.str "")) (BK (m2 Bb (AL (AA 3) (m2 B0 (m2 C9 (AL (AA 9) (mC (.int 4))) (mC (.int 4))) (mC (.int 2)))) (mC (.str "!"))) (BK (m2 Bb (AL (AA 3) (m2 B0 (m2 C9 (AL (AA 9) (mC (.int 4))) (mC (.int 4))) (mC (.int 2)))) (mC (.str "?"))) (BK (mC (.str "")) AE))))) (m2 B0 (AL (AA 9) (mC (.int 4))) (mC (.int 4)))) (AD 11))
 (AG (AW (AS Ht (AB (AL (AA 9) (mC (.int 3))) (AB (AA 2) (AB (BN (BK (mC (.str "<=")) (BK (mC (.str ">=")) (BK (mC (.str ">")) (BK (mC (.str "=")) (BK (mC (.str "<")) AE)))))) (AB (AA 4) AE))))) (AD 12))
 (DA 8 (B7 (AB (AL (AL (AA 6) (m2 B0 (AL (AA 9) (mC (.int 0))) (m1 B9 (AA 6)))) (mC (.int 0))) (AB (AL (AL (AA 6) (m2 B0 (AL (AA 9) (mC (.int 1))) (m1 B9 (AA 6)))) (mC (.int 0))) (AB (AA 12) (AB (AA 10) (AB (AA 11) AE)))))))))))
def Lr:AH:=
 (AG (AW (AS FH (AB (AA 0) (AB (mC (.int 3)) AE))) (AD 5))
 (AG (CW 6 (BN AE))
 (AG (BZ (C8 (AB (m2 Bb (mC (.int 1)) (m2 B0 (AA 0) (mC (.int 3)))) AE)) (AD 7) Kj)
 (AG (CW 8 (BN AE))
 (AG (BZ (C8 (AB (m2 B0 (m2 C9 (AA 0) (mC (.int 3))) (mC (.int 6))) AE)) (AD 7) Ki)
 (AG (Dn 6) (AG (Dn 8) (AU (B7 (AB (AA 2) (AB (AA 6) (AB (AA 8) AE))))))))))))
def NK:kL->Option Ru:=Aa 5 13 Lr
abbrev Z4:Fn:=⟨3,["_law_cell","_law_names_here","_law_watches","_law_signs","_law_unit"],NK⟩
abbrev zib:Gm:=gA ["_law_cell","_law_names_here","_law_watches","_law_signs","_law_unit","_law_xs","_law_rooms","_law_k","_law_doors","_law_ys","_law_noughts","_law_sign","_law_guard"] Uz 2 [("_law_stream",MZ),("_law_looks",Z7),("_law_draws",Za)] ["range","len"] ["_law_rooms","_law_doors"] ["_law_watches","_law_ys"]
theorem zis:Ck zib Z4 Uz Lr:={}
def Df(x:Str):Prop:=Fb x/\1<=x.cps.size/\x.cps.size<=8
theorem OK{x:Str}(h:Df x):Hm x:=.inr h
theorem zjf{x:Str}(h:Fb x):Ik x:=λi hi=>.inr (h i hi)
theorem zh1(ws:kE):(List.range ws.length).map (λj=>ws.getD j "")=ws:=by
 refine ē λi=>?_
 by_cases hi:i<ws.length
 .simp_all
 simp_all
theorem zmu{y z:Str}(h:Fb y)(h1:1<=y.cps.size)(h8:y.cps.size<=8)(hz:z=""\/z=y++"!"\/z=y++"?"):EU z:=by
 rcases hz with rfl|rfl|rfl
 .exact .inl rfl
 .exact .inr ⟨y,33,h,h1,h8,.inl rfl,by rw[Tx.cs_app,show Tx.cs (Str.ofString "!")=[33] by rfl]⟩
 .exact .inr ⟨y,63,h,h1,h8,.inr rfl,by rw[Tx.cs_app,show Tx.cs (Str.ofString "?")=[63] by rfl]⟩
abbrev sQ(c:Int)(nms ws:kE)(n1 n2:Str)(u:Int)(x5 x6 x7 x8 x9 x10 x11 x12:kH):AK:=[some (.int c),some (.lst (nms.map T.str)),some (.lst (ws.map T.str)),some (.lst [.str n1,.str n2]),some (.int u),x5,x6,x7,x8,x9,x10,x11,x12]
def Ml(ws:kE)(r:Str×kL):Prop:=Cg ws HG r.2/\r.2.length<=2/\∀t∈r.2,0<DR t
theorem ze0(tw:CU ws)(nl:3<=nms.length)(c:Int){u:Int}(hu:0<=u)(xs:Nat->Int){i:Nat}(hi:i<3)(h1:rs.map (·.1)=nms.take i)(h2:∀r∈rs,Ml ws r):∃r:Str×kL,(rs++[r]).map (·.1)=nms.take (i+1)/\Ml ws r/\Kj (sQ c nms ws n1 n2 u (some (.lst (mT 3 λi=>.int (xs i)))) (some (.own (rs.map BS))) (some (.int (i:Int))) none none none none none)=some (.nx (sQ c nms ws n1 n2 u (some (.lst (mT 3 λi=>.int (xs i)))) (some (.own ((rs++[r]).map BS))) (some (.int (i:Int))) none none none none none)):=by
 obtain⟨g,hg,gl,eg⟩:=YG tw (wd:=HG) (by decide) (xs i) hu
 have eg:Ht [.int (xs i),.lst (ws.map T.str),.lst [.str "<",.str "<="],.int u]=some (.ok (.own g)):=eg;have hn:i<nms.length:=by omega
 have ax:A5 (mT 3 λi=>T.int (xs i)) i=some (.int (xs i)):=Fq hi
 have an:A5 (nms.map T.str) i=some (.str nms[i]):=CB (by rw[Ä,Â hn];rfl)
 have sg:=hg.sh
 have lc:=IT (b:=AD 0) (mt:=QN) (me:=Rj) (λt =>t) (λt=>t) (λt=>decide (0<DR t)) (λτ=>∃a,τ=[a]) g [none] ⟨none,rfl⟩ λt ht τ hI=>by
  obtain⟨a,rfl⟩:=hI;obtain⟨x,y,n,rfl,_⟩:=hg t ht;refine⟨[some (.tup [.str x,.str y,.int n])],false,by simp![],?_,λ_=>?_,_,rfl⟩
  .unfold QN
   simp![DR]
   rfl
  .unfold Rj
   simp![]
 rw[Ţ,Ţ]at lc
 have gs:Aq (g.filter λt=>decide (0<DR t))=true:=by
  rw[Di,Þ]at sg ⊢;exact λt ht=>sg t (ý.mp ht).1
 have gl2:=List.length_filter_le (λt=>decide (0<DR t)) g
 have l1:g.length<=100000:=by omega
 have rl:rs.length<100000:=by
  have:=congrArg List.length h1;rw[À,ă]at this
  omega
 refine⟨(nms[i],g.filter λt=>decide (0<DR t)),?_,⟨λt ht=>hg t (ý.mp ht).1,by show(g.filter _).length<=2;omega,λt ht=>Į (ý.mp ht).2⟩,?_⟩
 .rw[ß,h1,List.take_succ,Â hn]
  rfl
 .rw[ß];unfold Kj
  simp![Ae,AV,an,ax,eg,sg,AF _ sg,lc,gs,AF _ gs,l1,À,rl]
abbrev Dz(d:Dr):T:=.tup [.str d.s,.str d.e,.lst d.g,.lst (d.n.map T.str),.str d.z]
abbrev BI(M:Mc):T:=.tup [.lst (M.ws.map T.str),Bf M.rs,.lst (M.ds.map Dz)]
theorem F7(h:McOk M):Aq (M.ds.map Dz)=true:=CD λd hd=>by
 have:=(h.d d hd).g.sh
 simp![this,AV]
theorem zft{nms ws rn:kE}(hw:∀x∈ws,Df x)(wd:ws.Nodup)(wl:ws.length<=2){rs:List (Str×kL)}(er:rs.map (·.1)=rn)(r0:rs≠[])(rl:rs.length<=3)(hr:∀r∈rs,Ml ws r){n1 n2:Str}(s1:Df n1)(s2:Df n2)(c:Int){u:Int}(hu:0<=u){k:Nat}(hk:k<6){ds:kI}(dl:ds.length<100000)(x5:kH){y9 y10 y11 y12:kH}:∃d:Dr,DrOk ws rn d/\d.g.length<=2/\d.n.length<=2/\∃z9 z10 z11 z12,Ki (sQ c nms ws n1 n2 u x5 (some (.own (rs.map BS))) (some (.int (k:Int))) (some (.own (ds.map Dz))) y9 y10 y11 y12)=some (.nx (sQ c nms ws n1 n2 u x5 (some (.own (rs.map BS))) (some (.int (k:Int))) (some (.own ((ds++[d]).map Dz))) z9 z10 z11 z12)):=by
 have tw:CU ws:=λy hy=>Hz (OK (hw y hy))
 obtain⟨ys,ed⟩:=zii (c.fdiv 18) (k:=k) (m:=6) (by omega) (by omega) (by decide)
 have ed:JD [.int (c.fdiv 18),.int (k:Int),.int 6]=some (.ok (.own (mT 6 λi=>.int (ys i)))):=ed
 have a0:A5 (mT 6 λi=>T.int (ys i)) 0=some (.int (ys 0)):=Fq (k:=0) (by decide)
 have a1:A5 (mT 6 λi=>T.int (ys i)) 1=some (.int (ys 1)):=Fq (k:=1) (by decide)
 have a2:A5 (mT 6 λi=>T.int (ys i)) 2=some (.int (ys 2)):=Fq (k:=2) (by decide)
 have a3:A5 (mT 6 λi=>T.int (ys i)) 3=some (.int (ys 3)):=Fq (k:=3) (by decide)
 have a4:A5 (mT 6 λi=>T.int (ys i)) 4=some (.int (ys 4)):=Fq (k:=4) (by decide)
 obtain⟨y,hy,ey⟩:=Eh [n1,n2] (by simp) ((ys 4).fdiv 4)
 have ey':A5 [T.str n1,T.str n2] (((ys 4).fdiv 4).fmod 2)=some (.str y):=Ep T.str ey
 have sy:Df y:=by
  rcases Ï.mp hy with rfl|hy
  .exact s1
  .rw[Í.mp hy];exact s2
 obtain⟨z,hz,ez⟩:=Eh [(Str.ofString ""),y++"!",y++"?",""] (by simp) (ys 4)
 have ez':A5 [T.str (Str.ofString ""),T.str (y++Str.ofString "!"),T.str (y++Str.ofString "?"),T.str (Str.ofString "")] ((ys 4).fmod 4)=some (.str z):=Ep T.str ez
 have sz:EU z:=zmu sy.1 sy.2.1 sy.2.2 (by
  erw[Ï,ï,þ]at hz
  rcases hz with h|h|h|h
  .exact .inl h
  .exact .inr (.inl h)
  .exact .inr (.inr h)
  .exact .inl h)
 have yl:y.length<=8:=sy.2.2;have q1:y.length+(Str.ofString "!").length<=100000:=by rw[show(Str.ofString "!").length=1 by decide +kernel];omega
 have q2:y.length+(Str.ofString "?").length<=100000:=by rw[show(Str.ofString "?").length=1 by decide +kernel];omega
 obtain⟨b,hb,eb⟩:=Eh rs r0 (ys 0);obtain⟨e,he,ee⟩:=Eh rs r0 (ys 1);have eb':=Ep BS eb;have ee':=Ep BS ee;have l0:=MB r0;obtain⟨g,hg,gl,eg⟩:=YG tw (wd:=[Str.ofString "<=",Str.ofString ">=",Str.ofString ">",Str.ofString "=",Str.ofString "<"]) (by decide) (ys 3) hu
 have eg:Ht [.int (ys 3),.lst (ws.map T.str),.lst [.str "<=",.str ">=",.str ">",.str "=",.str "<"],.int u]=some (.ok (.own g)):=eg;have hg:Cg ws Dl g:=hg.wide (by decide +kernel)
 have s4:C7 4=true:=DB (by decide) (by decide)
 have s18:C7 18=true:=DB (by decide) (by decide)
 have ok:DE (ws.length:Int)=true:=EL (by omega)
 have er0:DO 0 ws.length=(List.range ws.length).map λ(k:Nat)=>T.int (k:Int):=EJ
 have lc:Ba (AD 0) QM Ri ((List.range ws.length).map λ(k:Nat)=>T.int (k:Int)) [none,some (.lst (ws.map T.str)),some (.lst (mT 6 λi=>T.int (ys i)))]=some (((List.range ws.length).filter λ(j:Nat)=>((ys 2).fdiv (3+(j:Int))).fmod 2 == 1).map λj=>T.str (ws.getD j "")):=IT (λ(k:Nat)=>T.int (k:Int)) (λj=>T.str (ws.getD j "")) (λ(j:Nat)=>((ys 2).fdiv (3+(j:Int))).fmod 2 == 1) (λτ=>∃a,τ=[a,some (.lst (ws.map T.str)),some (.lst (mT 6 λi=>T.int (ys i)))]) _ _ ⟨none,rfl⟩ λj hj τ hI=>by
  obtain⟨a,rfl⟩:=hI;have hj:=â.mp hj;have n0:(3+(j:Int)=0)=False:=eq_false (by omega)
  have s0:C7 (3+(j:Int))=true:=VS (by decide) (by decide) (by lia) (by lia)
  have aj:A5 (ws.map T.str) (j:Int)=some (.str (ws.getD j "")):=CB (by rw[Ä,Â hj,Ô,Â hj];rfl)
  refine⟨[some (.int (j:Int)),some (.lst (ws.map T.str)),some (.lst (mT 6 λi=>T.int (ys i)))],false,by simp![],?_,λ_=>?_,_,rfl⟩
  .unfold QM
   simp![a2,n0,s0,Hf]
  .unfold Ri
   simp![AV,aj]
 obtain⟨ns,hns⟩:∃ns,((List.range ws.length).filter λ(j:Nat)=>((ys 2).fdiv (3+(j:Int))).fmod 2 == 1).map (λj=>ws.getD j "")=ns:=⟨_,rfl⟩
 have sub:ns.Sublist ws:=by
  rw[<- hns]
  conv=>rhs;rw[<- zh1 ws]
  exact List.Sublist.map _ List.filter_sublist
 have en:((List.range ws.length).filter λ(j:Nat)=>((ys 2).fdiv (3+(j:Int))).fmod 2 == 1).map (λj=>T.str (ws.getD j ""))=ns.map T.str:=by rw[<- hns,Ü];rfl
 rw[en]at lc;have wl1:ws.length<=100000:=by omega
 have nl:ns.length<=2:=Ó sub.length_le wl;have sg:=hg.sh;have hin:∀r∈rs,r.1∈rn:=λr hr=>by rw[<- er];exact Ë.mpr ⟨r,hr,rfl⟩
 have D:DrOk ws rn ⟨b.1,e.1,g,ns,z⟩:=⟨hin b hb,hin e he,hg,Ó gl (by decide),λx hx=>sub.subset hx,wd.sublist sub,Ó nl (by decide),sz⟩
 have sb:=(hr b hb).1.sh;have se:=(hr e he).1.sh
 have srs:Aq (rs.map BS)=true:=CD λr hr'=>by
  have:=(hr r hr').1.sh
  simp![this]
 refine⟨_,D,gl,nl,some (.lst (mT 6 λi=>T.int (ys i))),some (.lst (ns.map T.str)),some (.str z),some (.lst g),?_⟩
 rw[ß];unfold Ki;refine sq (by simp![s18,ed];rfl) ?_
 refine sq (by simp![AV,Ae,À,ô,ok,er0,lc,wl1];rfl) ?_
 refine sq (by simp![a4,s4,ey',q1,q2,ez'];rfl) ?_
 refine sq (by simp![a3,eg,AV,Ae,sg,AF _ sg];rfl) ?_
 simp![a0,a1,l0,eb',ee',AV,Ae,sg,AF _ sg,srs,AF _ srs,sb,se,À,dl]
structure PtD(ws nms:kE)(M:Mc):Prop where
 m:McOk M
 w:M.ws=ws
 n:∃b,b<3/\M.nm=nms.take (1+b)
 r:∀r∈M.rs,r.2.length<=2/\∀t∈r.2,0<DR t
 d:∀d∈M.ds,d.g.length<=2/\d.n.length<=2
 k:M.ds.length<=5
theorem zkg{nms ws:kE}(hw:∀x∈ws,Df x)(wd:ws.Nodup)(wl:ws.length<=2)(hn:∀x∈nms.take 3,Df x)(nd:(nms.take 3).Nodup)(nl:3<=nms.length){n1 n2:Str}(s1:Df n1)(s2:Df n2)(c:Int){u:Int}(hu:0<=u):∃M:Mc,PtD ws nms M/\NK [.int c,.lst (nms.map T.str),.lst (ws.map T.str),.lst [.str n1,.str n2],.int u]=some (.ok (BI M)):=by
 have tw:CU ws:=λy hy=>Hz (OK (hw y hy))
 obtain⟨xs,ex⟩:=LG c (m:=3) (by decide)
 have ex:FH [.int c,.int 3]=some (.ok (.own (mT 3 λi=>.int (xs i)))):=ex
 obtain⟨b,hb⟩:=ĳ (ø c (show(0:Int)<3 by decide))
 have b3:=Ā c (show(0:Int)<3 by decide)
 rw[hb]at b3;obtain⟨p,hp⟩:=ĳ (ø (c.fdiv 3) (show(0:Int)<6 by decide))
 have p6:=Ā (c.fdiv 3) (show(0:Int)<6 by decide)
 rw[hp]at p6
 obtain⟨τ,e,rs,q1,q2,y7,rfl⟩:=FD (b:=AD 7) (body:=Kj) (ts:=mT (1+b) λi=>.int (i:Int)) (τ:=sQ c nms ws n1 n2 u (some (.lst (mT 3 λi=>.int (xs i)))) (some (.own [])) none none none none none none)
  (λi τ=>∃rs:List (Str×kL),rs.map (·.1)=nms.take i/\(∀r∈rs,Ml ws r)/\∃y7,τ=sQ c nms ws n1 n2 u (some (.lst (mT 3 λi=>.int (xs i)))) (some (.own (rs.map BS))) y7 none none none none none) ⟨[],rfl,λ_ z=>(by cases z),none,rfl⟩ λi t τ h1 h2=>by
   obtain⟨hi,rfl⟩:=G1 h1;obtain⟨rs,k1,k2,y7,rfl⟩:=h2;obtain⟨r,r1,r2,er⟩:=ze0 (n1:=n1) (n2:=n2) tw nl c hu xs (i:=i) (by omega) k1 k2
   refine⟨sQ c nms ws n1 n2 u (some (.lst (mT 3 λi=>.int (xs i)))) (some (.own (rs.map BS))) (some (.int (i:Int))) none none none none none,by simp![],_,er,rs++[r],r1,λx hx=>?_,some (.int (i:Int)),rfl⟩
   rcases ë.mp hx with hx|hx
   .exact k2 x hx
   .rw[Í.mp hx];exact r2
 rw[DG]at q1
 have rl:rs.length=1+b:=by
  have:=congrArg List.length q1;rw[À,ă]at this
  omega
 have r0:rs≠[]:=λz=>by rw[z,å]at rl;omega
 obtain⟨τ2,e2,ds,d1,d2,z7,z9,z10,z11,z12,rfl⟩:=FD (b:=AD 7) (body:=Ki) (ts:=mT p λi=>.int (i:Int)) (τ:=sQ c nms ws n1 n2 u (some (.lst (mT 3 λi=>.int (xs i)))) (some (.own (rs.map BS))) y7 (some (.own [])) none none none none)
  (λi τ=>∃ds:kI,(∀d∈ds,DrOk ws (nms.take (1+b)) d/\d.g.length<=2/\d.n.length<=2)/\ds.length=i/\∃z7 z9 z10 z11 z12,τ=sQ c nms ws n1 n2 u (some (.lst (mT 3 λi=>.int (xs i)))) (some (.own (rs.map BS))) z7 (some (.own (ds.map Dz))) z9 z10 z11 z12) ⟨[],λ_ z=>(by cases z),rfl,y7,none,none,none,none,rfl⟩ λi t τ h1 h2=>by
   obtain⟨hi,rfl⟩:=G1 h1;obtain⟨ds,k1,k2,z7,z9,z10,z11,z12,rfl⟩:=h2;obtain⟨d,g1,g2,g3,w9,w10,w11,w12,ed⟩:=zft (nms:=nms) hw wd wl q1 r0 (by omega) q2 s1 s2 c hu (k:=i) (by omega) (ds:=ds) (by omega) (some (.lst (mT 3 λi=>.int (xs i)))) (y9:=z9) (y10:=z10) (y11:=z11) (y12:=z12)
   refine⟨sQ c nms ws n1 n2 u (some (.lst (mT 3 λi=>.int (xs i)))) (some (.own (rs.map BS))) (some (.int (i:Int))) (some (.own (ds.map Dz))) z9 z10 z11 z12,by simp![],sQ c nms ws n1 n2 u (some (.lst (mT 3 λi=>.int (xs i)))) (some (.own (rs.map BS))) (some (.int (i:Int))) (some (.own ((ds++[d]).map Dz))) w9 w10 w11 w12,ed,ds++[d],λx hx=>?_,by rw[Ø,k2];rfl,some (.int (i:Int)),w9,w10,w11,w12,rfl⟩
   rcases ë.mp hx with hx|hx
   .exact k1 x hx
   .rw[Í.mp hx];exact⟨g1,g2,g3⟩
 rw[DG]at d2;have sub:∀x∈nms.take (1+b),x∈nms.take 3:=λx hx=>(List.take_subset_take_left nms (show 1+b<=3 by omega)) hx
 obtain⟨N,e1,e2',e3⟩:∃N:Mc,N.ws=ws/\N.rs=rs/\N.ds=ds:=⟨⟨ws,rs,ds⟩,rfl,rfl,rfl⟩
 have M:McOk N:=by
  refine⟨by rw[e1];exact λx hx=>OK (hw x hx),by rw[e1];exact wd,by rw[e1];exact Ó wl (by decide),?_,by rw[e1,e2',e3,q1];exact λd hd=>(d1 d hd).1,by rw[e3];omega⟩
  rw[e1,e2'];refine⟨by omega,by omega,λr hr=>?_,by rw[q1];exact nd.sublist (List.take_sublist_take_left (show 1+b<=3 by omega)),λr hr=>⟨(q2 r hr).1,Ó (q2 r hr).2.1 (by decide)⟩⟩
  have:r.1∈nms.take (1+b):=by rw[<- q1];exact Ë.mpr ⟨r,hr,rfl⟩
  obtain⟨k1,k2,k3⟩:=hn _ (sub _ this);exact⟨zjf k1,k2,Ó k3 (by decide)⟩
 refine⟨N,⟨M,e1,⟨b,by omega,by show N.rs.map (·.1)=_;rw[e2'];exact q1⟩,by rw[e2'];exact λr hr=>(q2 r hr).2,by rw[e3];exact λd hd=>(d1 d hd).2,by rw[e3];omega⟩,?_⟩
 have srs:=Ee M.r;have sds:=F7 M;rw[e2']at srs;rw[e3]at sds;have s3:C7 3=true:=DB (by decide) (by decide)
 have ok1:DE (1+(b:Int))=true:=EL (n:=1+b) (by omega)
 have t1:(1+(b:Int)).toNat=1+b:=by omega
 have er1:DO 0 (1+b)=mT (1+b) λi=>.int (i:Int):=EJ
 have ok2:DE (p:Int)=true:=EL (by omega)
 have er2:DO 0 p=mT p λi=>.int (i:Int):=EJ
 have run:Lr (sQ c nms ws n1 n2 u none none none none none none none none)=some (.rt (BI N)):=by
  unfold Lr;refine sq (by simp![ex];rfl) ?_
  refine sq (by simp![];rfl) ?_
  refine sq (by simp![hb,ok1,t1,er1,e];rfl) ?_
  refine sq (by simp![];rfl) ?_
  refine sq (by simp![s3,hp,ok2,er2,e2];rfl) ?_
  simp![AV,Ae,srs,AF _ srs,sds,AF _ sds,BI,Bf,e1,e2',e3]
 unfold NK;unfold sQ at run
 simp![AV,Ae,run]
abbrev Uy:Stmt:=AN 70
def Nh:AH:=
 (AG (AW (AS FI (AB (AA 0) (AB (m2 Bb (mC (.int 3)) (AA 4)) AE))) (AD 5))
 (AG (AW (Cn (Du (AA 2) (some (m2 Bb (mC (.int 12)) (m2 Bg (mC (.int 2)) (AA 4)))) (some (m2 Bb (m2 Bb (mC (.int 12)) (m2 Bg (mC (.int 2)) (AA 4))) (m2 B0 (AA 5) (mC (.int 3)))))) (D0 (AA 2) (some (m2 Bb (mC (.int 12)) (m2 Bg (mC (.int 2)) (AA 4)))) (some (m2 Bb (m2 Bb (mC (.int 12)) (m2 Bg (mC (.int 2)) (AA 4))) (m2 B0 (AA 5) (mC (.int 3))))))) (AD 6))
 (AG (AW (AL (BN (BK (mC (.int 0)) (BK (m2 Bg (mC (.int 3)) (AA 4)) AE))) (m2 B0 (m2 C9 (AS FI (AB (AA 0) (AB (mC (.int 1)) AE))) (mC (.int 3))) (mC (.int 2)))) (AD 7))
 (DA 3 (AS NK (AB (m2 C9 (AA 5) (mC (.int 3))) (AB (Cn (Du (AA 2) (some (AA 7)) none) (D0 (AA 2) (some (AA 7)) none)) (AB (AA 6) (AB (Cn (Du (AA 2) (some (mC (.int 20))) (some (mC (.int 22)))) (D0 (AA 2) (some (mC (.int 20))) (some (mC (.int 22))))) (AB (AA 1) AE))))))))))
def Lq:AH:=
 (AG (AW (AS KJ (AB (AS FI (AB (AA 0) (AB (mC (.int 0)) AE))) (AB (mC (.int 26)) AE))) (AD 2))
 (AG (CW 3 (BN AE))
 (AG (BZ (C8 (AB (m2 Bb (mC (.int 1)) (m2 B0 (AS FI (AB (AA 0) (AB (mC (.int 1)) AE))) (mC (.int 3)))) AE)) (AD 4) Nh)
 (AU (AA 3)))))
def NJ:kL->Option Ru:=Aa 2 8 Lq
abbrev Z3:Fn:=⟨4,["_law_script","_law_unit"],NJ⟩
abbrev zfm:Gm:=gA ["_law_script","_law_unit","_law_names_here","_law_parts_here","_law_i","_law_cell","_law_watches","_law_first"] Uy 3 [("_law_names",Z5),("_law_cell_at",Qg),("_law_part",Z4)] ["range"] ["_law_parts_here"]
theorem zg1:Ck zfm Z3 Uy Lq:={}
def Dq(c:Int)(a n:Nat):kE:=(List.range' a n).map (CP c)
theorem Oh(c)(k):Df (CP c k):=by
 refine⟨λi hi=>?_,zoh c k,zkw c k⟩
 refine zoi c k _ ?_
 simp_all
theorem Oj(h:x∈Dq c a n):Df x:=by
 obtain⟨k,_,rfl⟩:=Ë.mp h;exact Oh c k
theorem Xv{l:kG}(h:l.Nodup)(hl:∀k∈l,k<26):(l.map (CP c)).Nodup:=by
 refine ľ.mpr (h.imp_of_mem λ{a b} ha hb hab e=>hab (zhr (hl a ha) (hl b hb) e))
theorem V0(a n:Nat):(List.range' a n).Nodup:=List.nodup_range'
theorem Xe(h:a+n<=26):(Dq c a n).Nodup:=Xv (V0 a n) λk hk=>by
 have:=(Ž.mp hk)
 omega
theorem Xf(c:Int)(a n:Nat):(Dq c a n).length=n:=by unfold Dq;simp_all
theorem aV(c){a n:Nat}(h:a+n<=26):CT (((List.range 26).map (CP c)).map T.str) (some a) (some (a+n))=(Dq c a n).map T.str:=by
 rw[Jp,Jp]
 congr 2
 unfold CT;have e1:HT.sIx (List.range 26).length 0 (some a)=a:=by simp[HT.sIx];omega
 have e2:HT.sIx (List.range 26).length (List.range 26).length (some (a+n))=a+n:=by simp[HT.sIx];omega
 rw[e1,e2];refine ē λi=>?_
 by_cases hi:i<n
 .rw[ō (by omega),ĺ,Ĥ (by omega),List.getElem?_range' hi]
  simp
 .rw[ò (by rw[ă];omega),ò (by simp_all)]
theorem zgq(ts)(rs):(Bw ts rs).length=ts.length * rs.length:=by
 unfold Bw
 induction ts with
 |nil=>simp_all|cons t ts ih=>rw[ä,Ø,ih,À,Ý,Nat.add_mul,Nat.one_mul,Š]
theorem zhq(c:Int):(mT 26 λk=>T.str (CP c k))=((List.range 26).map (CP c)).map T.str:=by rfl
theorem zlv(c){a:Nat}(h:a<=26):CT (((List.range 26).map (CP c)).map T.str) (some a) none=(Dq c a (26 - a)).map T.str:=by
 rw[Jp,Jp]
 congr 2
 unfold CT;have e1:HT.sIx (List.range 26).length 0 (some a)=a:=by simp[HT.sIx];omega
 have e2:HT.sIx (List.range 26).length (List.range 26).length none=26:=rfl;refine ē λi=>?_
 by_cases hi:i<26 - a
 .simp_all
 simp_all
structure PsJ(c:Int)(i:Nat)(Ms:kJ):Prop where
 l:Ms.length=i
 m:∀M∈Ms,McOk M
 s:∀M∈Ms,M.nm.length<=3/\∀x∈M.nm,Df x
 r:∀M∈Ms,∀r∈M.rs,r.2.length<=2/\∀t∈r.2,0<DR t
 d:∀M∈Ms,∀d∈M.ds,d.g.length<=2/\d.n.length<=2
 k:∀M∈Ms,M.ds.length<=5
 w:∃ks:kG,Ms.flatMap Mc.ws=ks.map (CP c)/\ks.Nodup/\(∀k∈ks,12<=k/\k<12+2 * i)/\ks.length<=2 * i
theorem zhd(hi:i<3)(ha:a<3)(h:PsJ c i Ms)(hM:PtD (Dq c (12+2 * i) a) (Dq c f (26 - f)) M):PsJ c (i+1) (Ms++[M]):=by
 obtain⟨ks,e,k1,k2,k3⟩:=h.w;obtain⟨b,b3,en⟩:=hM.n;have spl:∀{Q:Mc->Prop},(∀M∈Ms,Q M)->Q M->∀N∈Ms++[M],Q N:=λh1 h2 N hN=>(ë.mp hN).elim (h1 N) λz=>by rw[Í.mp z];exact h2
 refine⟨by rw[Ø,h.l];rfl,spl h.m hM.m,spl h.s ⟨by rw[en,ă];omega,λx hx=>?_⟩,spl h.r hM.r,spl h.d hM.d,spl h.k hM.k,ks++List.range' (12+2 * i) a,?_,?_,λk hk=>?_,?_⟩
 .rw[en]at hx;exact Oj (œ hx)
 .rw[List.flatMap_append,e,ß,ä,ŀ,ç,hM.w]
  rfl
 .refine Ľ.mpr ⟨k1,V0 _ _,λx hx y hy=>?_⟩
  have h1:=k2 x hx;have h2:=Ž.mp hy
  omega
 .rcases ë.mp hk with hk|hk
  .have:=k2 k hk
   omega
  .have:=Ž.mp hk
   omega
 .rw[Ø,List.length_range']
  omega
theorem HN{M:Mc}(h:McOk M):(BI M).sh=true:=by
 have h1:=Ee h.r;have h2:=F7 h
 simp![h1,h2,AV,Bf]
abbrev sP(ns:kF)(c u:Int)(Ms:kJ)(x4 x5 x6 x7:kH):AK:=[some (Cs ns),some (.int u),some (.lst (((List.range 26).map (CP c)).map T.str)),some (.own (Ms.map BI)),x4,x5,x6,x7]
theorem zhk{ns:kF}{u:Int}(u0:0<=u):∃(c:Int) (n:Nat) (Ms:kJ),1<=n/\n<=3/\PsJ c n Ms/\NJ [Cs ns,.int u]=some (.ok (.own (Ms.map BI))):=by
 obtain⟨c,hc⟩:∃c,ns.getD 0 0=c:=⟨_,rfl⟩;obtain⟨c1v,hc1⟩:∃c,ns.getD 1 0=c:=⟨_,rfl⟩;have c0:=Jr ns (k:=0) (by decide)
 have c1:=Jr ns (k:=1) (by decide)
 rw[show(0:Int).toNat=0 from rfl,hc]at c0;rw[show(1:Int).toNat=1 from rfl,hc1]at c1;have nm:=zhs c (m:=26) (by decide)
 have nm:KJ [.int c,.int 26]=some (.ok (.own (mT 26 λk=>.str (CP c k)))):=nm
 rw[zhq]at nm;obtain⟨q,hq⟩:=ĳ (ø c1v (show(0:Int)<3 by decide))
 have hq3:=Ā c1v (show(0:Int)<3 by decide)
 rw[hq]at hq3;have F:=Tt ns;have F2:=Ts ns;have tn:Bc (((List.range 26).map (CP c)).map T.str)=((List.range 26).map (CP c)).map T.str:=Ae _;have sn:=AV ((List.range 26).map (CP c));have s3:C7 3=true:=DB (by decide) (by decide)
 obtain⟨τ,e,Ms,hM,y4,y5,y6,y7,rfl⟩:=FD (b:=AD 4) (body:=Nh) (ts:=mT (1+q) λi=>.int (i:Int))
  (λi τ=>∃Ms:kJ,PsJ c i Ms/\∃y4 y5 y6 y7,τ=sP ns c u Ms y4 y5 y6 y7) ⟨[],⟨rfl,λ_ z=>(by cases z),λ_ z=>(by cases z),λ_ z=>(by cases z),λ_ z=>(by cases z),λ_ z=>(by cases z),[],rfl,List.nodup_nil,λ_ z=>(by cases z),õ _⟩,none,none,none,none,rfl⟩ λi t τ h1 h2=>by
   obtain⟨hi,rfl⟩:=G1 h1;obtain⟨Ms,hM,y4,y5,y6,y7,rfl⟩:=h2;have i3:i<3:=by omega
   have ci:=Jr ns (k:=3+(i:Int)) (by omega)
   obtain⟨x,hx⟩:∃x,ns.getD (3+(i:Int)).toNat 0=x:=⟨_,rfl⟩;rw[hx]at ci;obtain⟨a,ea⟩:=ĳ (ø x (show(0:Int)<3 by decide))
   have ha:=Ā x (show(0:Int)<3 by decide)
   rw[ea]at ha;obtain⟨f,hf,ef⟩:=Eh [0,3 * i] (by simp) (c1v.fdiv 3)
   have f6:f<=6:=by
    erw[Ï,ï,þ]at hf
    omega
   have ef:A5 [T.int 0,T.int (3 * (i:Int))] ((c1v.fdiv 3).fmod 2)=some (.int (f:Int)):=by
    have:=Ep (λn:Nat=>T.int (n:Int)) ef
    rw[Ò,Ò,Ŝ,show((3 * i:Nat):Int)=3 * (i:Int) by omega]at this
    exact this
   have k1:=aV c (a:=12+2 * i) (n:=a) (by omega)
   rw[show((12+2 * i:Nat):Int)=12+2 * (i:Int) by omega]at k1
   have k2:=zlv c (a:=f) (by omega)
   have k3:=aV c (a:=20) (n:=2) (by omega)
   have k3:CT (((List.range 26).map (CP c)).map T.str) (some 20) (some 22)=[.str (CP c 20),.str (CP c 21)]:=k3;have m2:CY 2 (i:Int)=true:=Ew (DC (by decide) (by decide))
   have m3:CY 3 (i:Int)=true:=Ew (DC (by decide) (by decide))
   have nd3:((Dq c f (26 - f)).take 3).Nodup:=(Xe (c:=c) (a:=f) (n:=26 - f) (by omega)).sublist (List.take_sublist _ _)
   obtain⟨M,dM,em⟩:=zkg (nms:=Dq c f (26 - f)) (ws:=Dq c (12+2 * i) a) (λx hx=>Oj hx) (Xe (by omega)) (by rw[Xf];omega) (λx hx=>Oj (œ hx)) nd3 (by rw[Xf];omega) (Oh c 20) (Oh c 21) (x.fdiv 3) u0
   have sm:=HN dM.m;have ll:Ms.length<100000:=by rw[hM.l];omega
   refine⟨sP ns c u Ms (some (.int (i:Int))) y5 y6 y7,by simp![],sP ns c u (Ms++[M]) (some (.int (i:Int))) (some (.int x)) (some (.lst ((Dq c (12+2 * i) a).map T.str))) (some (.int (f:Int))),?_,Ms++[M],zhd i3 (by omega) hM dM,some (.int (i:Int)),some (.int x),some (.lst ((Dq c (12+2 * i) a).map T.str)),some (.int (f:Int)),rfl⟩
   unfold sP;rw[ß];unfold Nh;refine sq (τ':=sP ns c u Ms (some (.int (i:Int))) (some (.int x)) y6 y7) (by simp![F,F2,ci]) ?_
   refine sq (τ':=sP ns c u Ms (some (.int (i:Int))) (some (.int x)) (some (.lst ((Dq c (12+2 * i) a).map T.str))) y7) (by simp![sn,tn,m2,ea,k1,Ae]) ?_
   refine sq (τ':=sP ns c u Ms (some (.int (i:Int))) (some (.int x)) (some (.lst ((Dq c (12+2 * i) a).map T.str))) (some (.int (f:Int)))) (by simp![F,F2,c1,m3,s3,ef]) ?_
   simp![sn,tn,s3,k2,k3,AV,Ae,em,sm,Ap _ sm,À,ll]
 rw[DG]at hM;have ok:DE (1+(q:Int))=true:=EL (n:=1+q) (by omega)
 have tq:(1+(q:Int)).toNat=1+q:=by omega
 have er:DO 0 (1+q)=mT (1+q) λi=>.int (i:Int):=EJ
 refine⟨c,1+q,Ms,by omega,by omega,hM,?_⟩
 have run:Lq [some (Cs ns),some (.int u),none,none,none,none,none,none]=some (.rt (.own (Ms.map BI))):=by
  unfold Lq;refine sq (τ':=[some (Cs ns),some (.int u),some (.lst (((List.range 26).map (CP c)).map T.str)),none,none,none,none,none]) (by simp![F,F2,c0,nm,Ae]) ?_
  refine sq (τ':=sP ns c u [] none none none none) (by simp![];rfl) ?_
  refine sq (by simp![F,F2,c1,hq,ok,tq,er,e];rfl) ?_
  simp![]
 unfold NJ
 simp![F,F2,run]
theorem zj7(h1:ts.Nodup)(h2:rs.Nodup):(Bw ts rs).Nodup:=by
 refine Ě.mpr ⟨λt _=>ľ.mpr (h2.imp λ hab e=>hab ?_),h1.imp λ hab x hx y hy e=>hab ?_⟩
 .simp_all
 .obtain⟨r,_,rfl⟩:=Ë.mp hx;obtain⟨r',_,rfl⟩:=Ë.mp hy;exact(List.append_inj' e rfl).1
theorem Yv:∀(rss ts:List (kE)),ts.Nodup->(∀rs∈rss,rs.Nodup)->(rss.foldl Bw ts).Nodup
 |[],_,h,_=>h|rs::rss,ts,h,hr=>Yv rss (Bw ts rs) (zj7 h (hr rs (Ã ..))) λx hx=>hr x (Å _ hx)
theorem MJ(t):Tx.cs (BB t)=Tx.joinL 47 (t.map Tx.cs):=by
 have e:(Str.ofString "/")=⟨#[47]⟩:=Tx.cs_ext (by rfl)
 have j:BB t=Str.join (Str.ofString "/") t:=eq_of_beq (PyProof.Rows.join_plain_closes _ _);rw[j,e,Tx.cs_join]
theorem YY:∀{l},x∈Tx.joinL c l->x=c\/∃p∈l,x∈p
 |[],h=>by cases h|[a],h=>.inr ⟨a,Í.mpr rfl,h⟩|a::b::r,h=>by
  have h' :=h
  rcases ë.mp h' with h'|h'
  .simp_all
  .rcases Ï.mp h' with h'|h'
   .exact .inl h'
   .rcases YY h' with h'|⟨p,hp,h'⟩
    .exact .inl h'
    .exact .inr ⟨p,Å _ hp,h'⟩
theorem YZ:∀{l},(∀p∈l,p.length<=m)->(Tx.joinL c l).length<=l.length * (m+1)
 |[],_=>õ _|[a],h=>by
  have:=h a (Í.mpr rfl);show a.length<=1 * (m+1)
  omega
 |a::b::r,h=>by
  have h1:=h a (Ã ..);have h2:=YZ (c:=c) λp hp=>h p (Å _ hp)
  show(a++c::Tx.joinL c (b::r)).length<=_;rw[Ø,Ý,Ý]
  omega
theorem Tr{x:Str}(h:Df x):∀c∈Tx.cs x,c≠47:=λc hc z=>by
 have:=IG h.1 c hc
 omega
theorem jn_ok{t:kE}(h0:t≠[])(hl:t.length<=6)(h:∀r∈t,Df r):Ik (BB t)/\1<=(BB t).cps.size/\(BB t).cps.size<=60:=by
 have sz:(BB t).cps.size=(Tx.joinL 47 (t.map Tx.cs)).length:=by rw[<- MJ];rfl
 refine⟨λi hi=>?_,?_,?_⟩
 .have hm:(BB t).cps.getD i 0∈Tx.cs (BB t):=by
   simp_all
  rw[MJ]at hm
  rcases YY hm with hm|⟨p,hp,hm⟩
  .exact .inl hm
  .obtain⟨r,hr,rfl⟩:=Ë.mp hp;exact .inr (IG (h r hr).1 _ hm)
 .rw[sz];cases t with
  |nil=>omega|cons a r=>
   have ha :=(h a (Ã ..)).2.1;cases r with
   |nil=>exact ha|cons b r=>
    show 1<=(Tx.cs a++47::Tx.joinL 47 ((b::r).map Tx.cs)).length;rw[Ø]
    omega
 .have:=YZ (c:=47) λp hp=>by
   obtain⟨r,hr,rfl⟩:=Ë.mp hp;exact(h r hr).2.2
  rw[À]at this
  omega
theorem zp3{t u:kE}(ht:t≠[])(hu:u≠[])(h1:∀r∈t,Df r)(h2:∀r∈u,Df r)(e:BB t=BB u):t=u:=by
 have e':=congrArg Tx.cs e;rw[MJ,MJ]at e';refine Tx.map_cs_inj (Tx.joinL_inj (by simpa using ht) (by simpa using hu) (λp hp z=>?_) (λp hp z=>?_) e')
 .obtain⟨r,hr,rfl⟩:=Ë.mp hp;exact Tr (h1 r hr) 47 z rfl
 .obtain⟨r,hr,rfl⟩:=Ë.mp hp;exact Tr (h2 r hr) 47 z rfl
theorem Yy:∀(rss ts:List (kE)),(∀rs∈rss,rs.length<=3)->(rss.foldl Bw ts).length<=ts.length * 3 ^ rss.length
 |[],ts,_=>by simp|rs::rss,ts,h=>by
  have q:=Yy rss (Bw ts rs) λx hx=>h x (Å _ hx)
  rw[List.foldl_cons,Ý,Nat.pow_succ];rw[zgq]at q;have:=Nat.mul_le_mul_left ts.length (h rs (Ã ..));have:=Nat.mul_le_mul_right (3 ^ rss.length) this
  omega
section
variable {c:Int}{n:Nat}{Ms:kJ}(h1:1<=n)(h3:n<=3)(h:PsJ c n Ms)
include h1 h3 h
theorem ms_ok:MsOk Ms:=by
 obtain⟨ks,e,k1,k2,k4⟩:=h.w;exact⟨by rw[h.l];exact h1,by rw[h.l];omega,h.m,by rw[e,À];omega,by rw[e];exact Xv k1 λk hk=>by have:=k2 k hk;omega⟩
theorem zma:∀t∈tak (Ms.map Mc.nm),t≠[]/\t.length<=6/\∀r∈t,Df r:=λt ht=>by
 obtain⟨k1,k2⟩:=Nx ht;rw[À,h.l]at k1;refine⟨λz=>by rw[z,å]at k1;omega,by omega,λr hr=>?_⟩
 obtain⟨i,e⟩:=ĵ.mp hr;obtain⟨rs,e1,e2⟩:=k2 i r e;rw[Ä]at e1;obtain⟨M,e3,rfl⟩:=à.mp e1;exact(h.s M (Ú e3)).2 r e2
theorem rm_ok:RmOk Ms:=by
 have key:=zma h1 h3 h;refine⟨λi hi=>?_,λM hM r hr=>Ó ((h.s M hM).2 r hr).2.2 (by decide),λt ht=>?_,?_⟩
 .have q:=Yy ((Ms.take i).map Mc.nm) [[]] λrs hrs=>by
   obtain⟨M,hM,rfl⟩:=Ë.mp hrs;exact(h.s M (œ hM)).1
  have l:=h.l;have:3 ^ ((Ms.take i).map Mc.nm).length<=3 ^ 3:=Nat.pow_le_pow_right (by decide) (by rw[À,ă];omega)
  unfold tak;rw[ñ]at q
  omega
 .obtain⟨k1,k2,k3⟩:=key t ht;exact jn_ok k1 k2 k3
 .have nd:(tak (Ms.map Mc.nm)).Nodup:=Yv _ _ (by simp) λrs hrs=>by
   obtain⟨M,hM,rfl⟩:=Ë.mp hrs;exact(h.m M hM).r.nd
  exact ľ.mpr (nd.imp_of_mem λ{a b} ha hb hab e=>hab (zp3 (key a ha).1 (key b hb).1 (key a ha).2.2 (key b hb).2.2 e))
theorem fw_ok:FwOk Ms:=⟨λM hM r hr=>Ó (h.r M hM r hr).1 (by decide),λM hM d hd=>Ó (h.d M hM d hd).1 (by decide),λM hM d hd=>Ó (h.d M hM d hd).2 (by decide)⟩
end
abbrev VC:Stmt:=AN 71
def Rl:AI:=
 (G3 KR [] (AB (AL (AA 0) (mC (.int 0))) (AB (AL (AA 0) (mC (.int 1))) (AB (m1 CQ (AL (AA 0) (mC (.int 2)))) (AB (m1 CQ (AL (AA 0) (mC (.int 3)))) (AB (AL (AA 0) (mC (.int 4))) AE))))))
def Rk:AI:=
 (B7 (AB (AA 0) (AB (m1 CQ (AA 1)) AE)))
def Pj:AH:=
 (AG (AW (BU 1 [] (BE (AL (AA 0) (mC (.int 2)))) (AD 0) (mC (.bl true)) Rl) (AD 1))
 (AU (G3 JB [] (AB (m1 CQ (AL (AA 0) (mC (.int 0)))) (AB (BU 2 [] (BE (AL (AA 0) (mC (.int 1)))) (Ax 2 (AM (AD 0) (AM (AD 1) Az))) (mC (.bl true)) Rk) (AB (AA 1) AE))))))
def NL:kL->Option Ru:=Aa 1 2 Pj
abbrev Z6:Fn:=⟨8,["_law_part_here"],NL⟩
abbrev zd6:Gx:={ Bn with nw:=[("Door",M0,[(5,[])]),("Machine",MY,[(3,[])])] }
abbrev zdf:Gm:=gA ["_law_part_here","_law_made"] VC 7 [] ["list"] (ox:=zd6)
theorem zds:Ck zdf Z6 VC Pj:={}
theorem at3{α:Type}{a b c d:α}{l:List α}:A5 (a::b::c::d::l) (3:Int)=some d:=CB rfl
theorem Mf{α:Type}{a b c d e:α}{l:List α}:A5 (a::b::c::d::e::l) (4:Int)=some e:=CB rfl
theorem zl3(h:McOk M):NL [BI M]=some (.ok (AQ M)):=by
 have mi:JB [.lst (M.ws.map T.str),Bf M.rs,.lst (M.ds.map AO)]=some (.ok (AQ M)):=Xo h;have sd:=F7 h;have sr :=Ee h.r;have rl:=h.r.l64;have dl:=h.dl;have l1:M.ds.length<=100000:=by omega
 have l2:M.rs.length<=100000:=by omega
 have EO:Ba (AD 0) (mC (.bl true)) Rl (M.ds.map Dz) [none]=some (M.ds.map AO):=C1 Dz AO (λτ=>∃a,τ=[a]) _ _ ⟨none,rfl⟩ λd hd τ hI=>by
  obtain⟨a,rfl⟩:=hI;have k:=h.d d hd;have sg:=k.g.sh;have di:=di_ok k;exact⟨[some (Dz d)],by simp![],by unfold Rl;simp![sg,AF _ sg,AV,Ae,at3,Mf,di],_,rfl⟩
 have lc2:Ba (Ax 2 (AM (AD 0) (AM (AD 1) Az))) (mC (.bl true)) Rk (M.rs.map BS) [none,none]=some (M.rs.map BS):=C1 BS BS (λτ=>∃a b,τ=[a,b]) _ _ ⟨none,none,rfl⟩ λr hr τ hI=>by
  obtain⟨a,b,rfl⟩:=hI;have sg:=(h.r.lk r hr).1.sh;exact⟨[some (.str r.1),some (.lst r.2)],by simp![],by unfold Rk;simp![sg,AF _ sg],_,_,rfl⟩
 have s1 :=h.sd;unfold NL Pj
 simp![sd,AF _ sd,sr,AF _ sr,AV,Ae,À,l1,l2,EO,lc2,s1,AF _ s1,mi,Bf]
abbrev VB:Stmt:=AN 72
def Kk:AH:=
 (AG (AW (AL (AA 2) (HX (AA 1) (AA 4))) (AD 7))
 (AG (AW (m2 Bg (AA 6) (AA 3)) (AD 8))
 (Aj (BD (Bk (CA (m2 (CI λi j=>decide (i<j)) (AA 7) (AA 8)) (m2 CM (mC (.str "<")) (AA 5))) (Bk (CA (m2 (CI λi j=>decide (j<i)) (AA 7) (AA 8)) (m2 CM (mC (.str ">")) (AA 5))) (CA (m2 Be (AA 7) (AA 8)) (m2 CM (mC (.str "=")) (AA 5)))))) (AU (mC (.bl false))) Ah)))
def Ls:AH:=
 (AG (BZ (BE (AA 0)) (Ax 3 (AM (AD 4) (AM (AD 5) (AM (AD 6) Az)))) Kk)
 (AU (mC (.bl true))))
def KL:kL->Option Ru:=Aa 4 9 Ls
abbrev Qe:Fn:=⟨1,["_law_looks_here","_law_watches","_law_values","_law_parts_here"],KL⟩
abbrev zln:Gm:=gA ["_law_looks_here","_law_watches","_law_values","_law_parts_here","_law_watch","_law_word","_law_number","_law_value","_law_far"] VB 0 [] []
theorem zly:Ck zln Qe VB Ls:={}
theorem Mi(h:m τ=some (.v (.bl x) b))(h':m' τ=some (.v (.bl y) false)):CA m m' τ=some (.v (.bl (x && y)) false):=by
 unfold CA Dv;rw[h];cases x
 .rfl
 .exact h'
theorem WA(h:m τ=some (.v (.bl x) b))(h':m' τ=some (.v (.bl y) false)):Bk m m' τ=some (.v (.bl (x || y)) false):=by
 unfold Bk Dv;rw[h];cases x
 .exact h'
 .rfl
theorem Ys{α:Type}{b}{body:AH}(f)(p)(t0:T)(I:AK->Prop):∀(L:List α) (τ:AK),I τ->(∀x∈L,∀τ,I τ->∃τ1,b (f x) τ=some τ1/\(p x=true->∃τ2,body τ1=some (.nx τ2)/\I τ2)/\(p x=false->body τ1=some (.rt t0)))->(L.all p=true->∃τ',BV b body (L.map f) τ=some (.nx τ')/\I τ')/\(L.all p=false->BV b body (L.map f) τ=some (.rt t0))
 |[],τ,h,_=>⟨λ_=>⟨τ,rfl,h⟩,λz=>by cases z⟩|x::L,τ,h,hs=>by
  obtain⟨τ1,e1,h1,h2⟩:=hs x (Ã ..) τ h;rw[Ò,List.all_cons];unfold BV;rw[e1];cases hp:p x with
  |false=>omega|true=>obtain⟨τ2,e2,i2⟩:=h1 hp;erw[e2];exact Ys f p t0 I L τ2 i2 λy hy=>hs y (Å _ hy)
abbrev BG(s:Str×kF):T:=.tup [.str s.1,.lst (s.2.map T.int)]
abbrev LZ:Option (Str×kF)->T
 |none=>.non|some s=>BG s
theorem Dy(vs:kF):Aq (vs.map T.int)=true:=CD λ_ _=>rfl
theorem ifn(h:m τ=some (.v (.bl b) x)):(b=true->Aj (BD m) (AU (mC t)) Ah τ=some (.nx τ))/\(b=false->Aj (BD m) (AU (mC t)) Ah τ=some (.rt t)):=by
 cases b
 .exact⟨λz=>(by cases z),λ_=>by simp![h]⟩
 .exact⟨λ_=>(by simp![h]),λz=>by cases z⟩
theorem zje(hy:y∈Dl)(n v P):∃a b c,CM (.str "<") (.str y)=some (.bl a)/\CM (.str ">") (.str y)=some (.bl b)/\CM (.str "=") (.str y)=some (.bl c)/\((decide (v<n * P) && a) || ((decide (n * P<v) && b) || ((v == n * P) && c)))=DV y n v P:=by
 have eb:(v == n * P)=(!decide (v<n * P) && !decide (n * P<v)):=by
  omega
 have no:decide (v<n * P)=true->decide (n * P<v)=false:=λh=>Ù (by have:=Į h;omega)
 have c5 :=by
  simpa[Dl] using hy
 rw[eb]
 rcases c5 with rfl|rfl|rfl|rfl|rfl
 .refine⟨true,false,false,by ext,by ext,by ext,?_⟩
  rw[show DV (Str.ofString "<") n v P=decide (v<n * P) from rfl];cases decide (v<n * P)<;>cases decide (n * P<v)<;>rfl
 .refine⟨true,false,true,by ext,by ext,by ext,?_⟩
  rw[show DV (Str.ofString "<=") n v P=!decide (n * P<v) from rfl]
  omega
 .refine⟨false,true,false,by ext,by ext,by ext,?_⟩
  rw[show DV (Str.ofString ">") n v P=decide (n * P<v) from rfl];cases decide (v<n * P)<;>cases decide (n * P<v)<;>rfl
 .refine⟨false,true,true,by ext,by ext,by ext,?_⟩
  rw[show DV (Str.ofString ">=") n v P=!decide (v<n * P) from rfl];cases h:decide (v<n * P)<;>cases h2:decide (n * P<v)<;>first|rfl|(have:=no h;rw[h2]at this;cases this)
 .refine⟨false,false,true,by ext,by ext,by ext,?_⟩
  rw[show DV (Str.ofString "=") n v P=(!decide (v<n * P) && !decide (n * P<v)) from rfl];cases decide (v<n * P)<;>cases decide (n * P<v)<;>rfl
abbrev sM(g:kL)(ws:kE)(vs:kF)(P:Int)(x4 x5 x6 x7 x8:kH):AK:=[some (.lst g),some (.lst (ws.map T.str)),some (.lst (vs.map T.int)),some (.int P),x4,x5,x6,x7,x8]
theorem Xq{P:Int}(p1:0<P)(p2:P<=100){ws:kE}(wl:ws.length<=7){vs:kF}(hv:vs.length=ws.length){g:kL}(hg:Cg ws Dl g):KL [.lst g,.lst (ws.map T.str),.lst (vs.map T.int),.int P]=some (.ok (.bl (g.all (CK P ws vs)))):=by
 have l1:ws.length<1000000:=by omega
 have si:=Dy vs;have sg:=hg.sh
 obtain⟨fa,fb⟩:=Ys (b:=Ax 3 (AM (AD 4) (AM (AD 5) (AM (AD 6) Az)))) (body:=Kk) (λt:T=>t) (CK P ws vs) (.bl false) (λτ=>∃y4 y5 y6 y7 y8,τ=sM g ws vs P y4 y5 y6 y7 y8) g (sM g ws vs P none none none none none) ⟨_,_,_,_,_,rfl⟩ λt ht τ hI=>by
  obtain⟨y4,y5,y6,y7,y8,rfl⟩:=hI;obtain⟨x,y,n,rfl,hx,hy,hn⟩:=hg t ht;obtain⟨j,ej,hj,_⟩:=Hb hx;have hv':j<vs.length:=by omega
  have av:A5 (vs.map T.int) (j:Int)=some (.int vs[j]):=CB (by rw[Ä,Â hv'];rfl)
  have ev:CK P ws vs (.tup [.str x,.str y,.int n])=DV y n vs[j] P:=by
   unfold CK DT;show DV y n (vs.getD ((CH ws x).getD 0) 0) P=_;rw[ej,ü,Ô,Â hv']
   rfl
  have m1:CY n P=true:=Fp (DC (by omega) (by omega))
  rw[ev];generalize vs[j]=v at *;obtain⟨a,b,c,i1,i2,i3,es⟩:=zje hy n v P;rw[<- es]
  have r1:∀r,Aj (BD (Bk (CA (m2 (CI λi j=>decide (i<j)) (AA 7) (AA 8)) (m2 CM (mC (.str "<")) (AA 5))) (Bk (CA (m2 (CI λi j=>decide (j<i)) (AA 7) (AA 8)) (m2 CM (mC (.str ">")) (AA 5))) (CA (m2 Be (AA 7) (AA 8)) (m2 CM (mC (.str "=")) (AA 5)))))) (AU (mC (.bl false))) Ah (sM g ws vs P (some (.str x)) (some (.str y)) (some (.int n)) (some (.int v)) (some (.int (n * P))))=r->Kk (sM g ws vs P (some (.str x)) (some (.str y)) (some (.int n)) y7 y8)=r:=λr hr=>by
   unfold Kk;refine sq (by simp![HX,IF,AV,ej,l1,av,si];rfl) ?_
   exact sq (by simp![m1]) hr
  have q:=ifn (t:=.bl false) (WA (τ:=sM g ws vs P (some (.str x)) (some (.str y)) (some (.int n)) (some (.int v)) (some (.int (n * P)))) (b:=false) (Mi (m:=m2 (CI λi j=>decide (i<j)) (AA 7) (AA 8)) (m':=m2 CM (mC (.str "<")) (AA 5)) (b:=false) (x:=decide (v<n * P)) (y:=a) (by simp![]) (by simp![i1])) (WA (Mi (m:=m2 (CI λi j=>decide (j<i)) (AA 7) (AA 8)) (m':=m2 CM (mC (.str ">")) (AA 5)) (b:=false) (x:=decide (n * P<v)) (y:=b) (by simp![]) (by simp![i2])) (Mi (m:=m2 Be (AA 7) (AA 8)) (m':=m2 CM (mC (.str "=")) (AA 5)) (b:=false) (x:=v == n * P) (y:=c) (by simp![Hf]) (by simp![i3]))))
  refine⟨sM g ws vs P (some (.str x)) (some (.str y)) (some (.int n)) y7 y8,by simp![],λhp=>⟨_,r1 _ (q.1 hp),_,_,_,_,_,rfl⟩,λhp=>r1 _ (q.2 hp)⟩
 rw[Ţ]at fa fb
 suffices key:Ls (sM g ws vs P none none none none none)=some (.rt (.bl (g.all (CK P ws vs)))) by
  unfold KL;unfold sM at key
  simp![sg,AF _ sg,AV,Ae,si,AF _ si,key]
 unfold Ls;cases c2:g.all (CK P ws vs) with
 |false=>have fb:=fb c2;exact sr (by simp![sg,AF _ sg,fb])|true=>
  obtain⟨τ',ef,y4,y5,y6,y7,y8,rfl⟩:=fa c2;refine sq (by rw[<- ef];simp![sg,AF _ sg]) ?_
  simp![]
abbrev Uw:Stmt:=AN 73
def QL:AI:=
 (m2 Be (AA 0) (AA 2))
def Rh:AI:=
 (AA 1)
def Pf:AH:=
 (AU (AS KL (AB (AL (BU 2 [1] (BE (AL (AA 0) (mC (.int 1)))) (Ax 2 (AM (AD 0) (AM (AD 1) Az))) QL Rh) (mC (.int 0))) (AB (AL (AA 0) (mC (.int 0))) (AB (AA 2) (AB (AA 3) AE))))))
def JC:kL->Option Ru:=Aa 4 4 Pf
abbrev Qd:Fn:=⟨2,["_law_part_here","_law_room","_law_values","_law_parts_here"],JC⟩
abbrev zcj:Gm:=gA ["_law_part_here","_law_room","_law_values","_law_parts_here"] Uw 1 [("_law_met",Qe)] [] [] ["_law_room"]
theorem zcr:Ck zcj Qd Uw Pf:={}
theorem Tp(p1:0<P)(p2:P<=100)(h:McOk M)(hr:r∈M.nm)(hv:vs.length=M.ws.length):JC [BI M,.str r,.lst (vs.map T.int),.int P]=some (.ok (.bl (Bd P M r vs))):=by
 have sd:=F7 h;have sr :=Ee h.r;have si:=Dy vs;have rl:=h.r.l64;have l2:M.rs.length<=100000:=by omega
 obtain⟨_,g2,g3,g4⟩:=HF h hr;have me:=Xq p1 p2 h.wl hv (g4.wide OH)
 have lc:Ba (Ax 2 (AM (AD 0) (AM (AD 1) Az))) QL Rh (M.rs.map BS) [none,none,some (.str r)]=some ((M.rs.filter λx=>decide (x.1=r)).map λx=>T.lst x.2):=IT BS (λx=>T.lst x.2) (λx=>decide (x.1=r)) (λτ=>∃a b,τ=[a,b,some (.str r)]) _ _ ⟨none,none,rfl⟩ λx hx τ hI=>by
  obtain⟨a,b,rfl⟩:=hI;have sg:=(h.r.lk x hx).1.sh;have q:=E5 (h.tn _ (Ë.mpr ⟨x,hx,rfl⟩)) (h.tn r hr);exact⟨[some (.str x.1),some (.lst x.2),some (.str r)],false,by simp![],by unfold QL;simp![q],λ_=>(by unfold Rh;simp![sg,AF _ sg]),_,_,rfl⟩
 have Rx:A5 ((M.rs.filter λx=>decide (x.1=r)).map λx=>T.lst x.2) 0=some (.lst (Ca M r)):=by
  refine CB ?_;obtain⟨x,hx,e⟩:=Ë.mp (hr);rw[Ä,<- List.head?_eq_getElem?,List.head?_filter];unfold Ca;cases hf:M.rs.find? (λz=>decide (z.1=r)) with
  |some y=>rfl|none=>exact absurd (List.find?_eq_none.mp hf x hx) (by simp[e])
 have sf:Aq ((M.rs.filter λx=>decide (x.1=r)).map λx=>T.lst x.2)=true:=CD λx hx=>by
  have:=(h.r.lk x (ý.mp hx).1).1.sh
  simp![this]
 unfold JC Pf
 simp![sd,AF _ sd,sr,AF _ sr,AV,Ae,si,AF _ si,À,l2,lc,Rx,sf,AF _ sf,g2,AF _ g2,me,Bf,Bd]
abbrev VE:Stmt:=AN 74
def Rm:AI:=
 (Dv (m2 CM (AL (AL (AA 2) (mC (.int 0))) (AA 0)) (AA 1)) (mC (.int 0)) (AL (AL (AA 3) (mC (.int 1))) (AA 0)))
def Lu:AH:=
 (AG (AW (AL (AL (AA 0) (mC (.int 2))) (AA 2)) (Ax 5 (AM (AD 5) (AM (AD 6) (AM (AD 7) (AM (AD 8) (AM (AD 9) Az)))))))
 (AG (Aj (Bk (m2 Bz (AA 5) (AL (AA 1) (mC (.int 0)))) (BD (AS KL (AB (AA 7) (AB (AL (AA 0) (mC (.int 0))) (AB (AL (AA 1) (mC (.int 1))) (AB (AA 3) AE))))))) (AU (mC .non)) Ah)
 (AG (AW (BU 1 [8,0,1] (C8 (AB (m1 B9 (AL (AA 0) (mC (.int 0)))) AE)) (AD 0) (mC (.bl true)) Rm) (AD 4))
 (AG (Aj (BD (AS JC (AB (AA 0) (AB (AA 6) (AB (AA 4) (AB (AA 3) AE)))))) (AU (mC .non)) Ah)
 (AU (B7 (AB (AA 6) (AB (AA 4) AE))))))))
def NM:kL->Option Ru:=Aa 4 10 Lu
abbrev Z8:Fn:=⟨3,["_law_part_here","_law_stand","_law_number","_law_parts_here"],NM⟩
abbrev zic:Gm:=gA ["_law_part_here","_law_stand","_law_number","_law_parts_here","_law_values","_law_begin","_law_end","_law_guard","_law_noughts","_law_sign"] VE 2 [("_law_met",Qe),("_law_stay_met",Qd)] ["range","len"] [] ["_law_part_here","_law_stand","_law_noughts"]
theorem zit:Ck zic Z8 VE Lu:={}
theorem zj1(hv1:vs.length=M.ws.length):(Ci M d vs).map T.int=(List.range M.ws.length).map λi=>T.int (if M.ws.getD i ""∈d.n then 0 else vs.getD i 0):=by
 unfold Ci;refine ē λi=>?_
 by_cases hi:i<M.ws.length
 .simp_all
 simp_all
def E4(P:Int)(M:Mc)(s:Str×kF)(d:Dr):Option (Str×kF):=
 if d.s=s.1/\d.g.all (CK P M.ws s.2)=true/\Bd P M d.e (Ci M d s.2)=true then some (d.e,Ci M d s.2) else none
abbrev sG(P:Int)(M:Mc)(s:Str×kF)(k:Nat)(x4 x5 x6 x7 x8 x9:kH):AK:=[some (BI M),some (BG s),some (.int (k:Int)),some (.int P),x4,x5,x6,x7,x8,x9]
theorem zpf{P:Int}(p1:0<P)(p2:P<=100){M:Mc}(h:McOk M){s:Str×kF}(hr:s.1∈M.nm)(hv:s.2.length=M.ws.length){k:Nat}{d:Dr}(hk:M.ds[k]?=some d):NM [BI M,BG s,.int (k:Int),.int P]=some (.ok (LZ (E4 P M s d))):=by
 obtain⟨r,vs⟩:=s;have hv:=hv;have hr:r∈M.nm:=hr;have hd:=Ú hk;have D:=h.d d hd;have sp:=HN h;have sd:=F7 h;have sr':=Ee h.r;have sg:=D.g.sh;have vi:=Dy vs;have wl:=h.wl;have ad:A5 (M.ds.map Dz) (k:Int)=some (Dz d):=CB (by rw[Ä,hk];rfl)
 suffices key:Lu (sG P M (r,vs) k none none none none none none)=some (.rt (LZ (E4 P M (r,vs) d))) by
  unfold NM;unfold sG at key
  simp![sp,Ap _ sp,vi,AF _ vi,sd,AF _ sd,sr',AF _ sr',AV,Ae,Bf,key]
 unfold Lu;refine sq (by simp![sd,AF _ sd,sr',AV,Bf,ad,sg];rfl) ?_
 have er:=Ol (h.tn _ D.s) (h.tn r hr);have me:=Xq p1 p2 wl hv D.g
 by_cases c1:d.s=r
 .rw[Ñ c1]at er;cases c2:d.g.all (CK P M.ws vs) with
  |false=>
   rw[c2]at me;have hb:E4 P M (r,vs) d=none:=if_neg λz=>by rw[c2]at z;cases z.2.1
   rw[hb];exact sr (by simp![sd,sr',vi,AF _ vi,AV,Ae,sg,AF _ sg,Bf,er,me])
  |true=>
   rw[c2]at me;refine C6 (by simp![sd,sr',vi,AF _ vi,AV,Ae,sg,AF _ sg,Bf,er,me]) ?_
   have zl:=K7 (d:=d) hv;have zi:=Dy (Ci M d vs)
   have lc2:Ba (AD 0) (mC (.bl true)) Rm ((List.range M.ws.length).map λ(k:Nat)=>T.int (k:Int)) [none,some (.lst (d.n.map T.str)),some (BI M),some (BG (r,vs))]=some ((Ci M d vs).map T.int):=by
    rw[zj1 hv];refine C1 _ _ (λτ=>∃x,τ=[x,some (.lst (d.n.map T.str)),some (BI M),some (BG (r,vs))]) _ _ ⟨none,rfl⟩ λi hi τ hI=>?_
    obtain⟨y,rfl⟩:=hI;have hi:=â.mp hi;have hw:i<vs.length:=by omega
    have ai:A5 (M.ws.map T.str) (i:Int)=some (.str (M.ws.getD i "")):=CB (by rw[Ä,Â hi,Ô,Â hi];rfl)
    have bi:A5 (vs.map T.int) (i:Int)=some (.int (vs.getD i 0)):=CB (by rw[Ä,Â hw,Ô,Â hw];rfl)
    have wm:M.ws.getD i ""∈M.ws:=by rw[Ô,Â hi];exact ê hi
    have q:=Jd (o:=false) (k:=.lst) (ys:=d.n) (λx hx=>h.tw x (D.n x hx)) (h.tw _ wm)
    refine⟨[some (.int (i:Int)),some (.lst (d.n.map T.str)),some (BI M),some (BG (r,vs))],by simp![],?_,_,rfl⟩
    unfold Rm
    by_cases hm:M.ws.getD i ""∈d.n
    .rw[if_pos hm];rw[Ñ hm]at q
     simp![AV,Ae,sd,sr',Bf,ai,q]
    .rw[if_neg hm];rw[Ù hm]at q
     simp![AV,Ae,sd,sr',Bf,ai,q,vi,bi]
   have ok:=EL (by omega)
   have er0:DO 0 M.ws.length=(List.range M.ws.length).map λ(k:Nat)=>T.int (k:Int):=EJ
   have wl1:M.ws.length<=100000:=by omega
   refine sq (by simp![sd,AF _ sd,sr',AF _ sr',vi,AF _ vi,AV,Ae,Bf,À,ô,ok,er0,wl1,lc2,zi,AF _ zi];rfl) ?_
   have st:=Tp p1 p2 h (r:=d.e) D.e zl;cases c3:Bd P M d.e (Ci M d vs) with
   |false=>
    rw[c3]at st;have hb:E4 P M (r,vs) d=none:=if_neg λz=>by rw[c3]at z;cases z.2.2
    rw[hb];exact sr (by simp![sp,Ap _ sp,sd,AF _ sd,sr',AF _ sr',AV,Ae,Bf,zi,AF _ zi,st])
   |true=>
    rw[c3]at st;have hb:E4 P M (r,vs) d=some (d.e,Ci M d vs):=if_pos ⟨c1,c2,c3⟩;rw[hb];refine C6 (by simp![sp,Ap _ sp,sd,AF _ sd,sr',AF _ sr',AV,Ae,Bf,zi,AF _ zi,st]) ?_
    simp![zi,AF _ zi]
 .rw[Ù c1]at er;have hb:E4 P M (r,vs) d=none:=if_neg λz=>c1 z.1
  rw[hb];exact sr (by simp![sd,sr',vi,AF _ vi,AV,Ae,sg,AF _ sg,Bf,er])
abbrev VF:Stmt:=AN 75
def Gs:AH:=
 (Aj (CA (m2 Bz (AA 2) (AA 5)) (CA (FY (AA 4) (mC (.str "!"))) (m2 Be (AL (AL (AL (AL (AA 0) (AA 5)) (mC (.int 2))) (AA 6)) (mC (.int 4))) (m2 Bb (Cn (Du (AA 4) none (some (m1 Ds (mC (.int 1))))) (D0 (AA 4) none (some (m1 Ds (mC (.int 1)))))) (mC (.str "?")))))) (DA 1 (BN (BK (B7 (AB (AA 2) (AB (AA 3) AE))) (BK (B7 (AB (AA 5) (AB (AA 6) AE))) AE)))) Ah)
def Nk:AH:=
 (BZ (C8 (AB (m1 B9 (AL (AL (AA 0) (AA 5)) (mC (.int 2)))) AE)) (AD 6) Gs)
def Nl:AH:=
 (AG (AW (AL (AL (AL (AL (AA 0) (AA 2)) (mC (.int 2))) (AA 3)) (mC (.int 4))) (AD 4))
 (AG (Aj (m2 Be (AA 4) (mC (.str ""))) (DA 1 (BN (BK (B7 (AB (AA 2) (AB (AA 3) AE))) AE))) Ah)
 (BZ (C8 (AB (m1 B9 (AA 0)) AE)) (AD 5) Nk)))
def Nm:AH:=
 (BZ (C8 (AB (m1 B9 (AL (AL (AA 0) (AA 2)) (mC (.int 2)))) AE)) (AD 3) Nl)
def Lv:AH:=
 (AG (CW 1 (BN AE))
 (AG (BZ (C8 (AB (m1 B9 (AA 0)) AE)) (AD 2) Nm)
 (AU (AA 1))))
def NN:kL->Option Ru:=Aa 1 7 Lv
abbrev Z9:Fn:=⟨1,["_law_plans"],NN⟩
abbrev zfp:Gm:=gA ["_law_plans","_law_ways","_law_i","_law_k","_law_sign","_law_j","_law_m"] VF 0 [] ["range","len"] ["_law_ways"]
theorem zg4:Ck zfp Z9 VF Lv:={}
theorem ex_cs:Tx.cs (Str.ofString "!")=[33]:=by decide +kernel
theorem Zt(h:EU z):(z=""->Txt.endswith z (Str.ofString "!")=false)/\(z≠""->Txt.endswith z (Str.ofString "!")=!Txt.endswith z "?"):=by
 refine⟨λe=>by rw[e];rfl,λhz=>?_⟩
 obtain⟨y,c,h1,_,hc,e,_,ee,_⟩:=LL h hz;rw[ee]
 rcases hc with rfl|rfl
 .exact Zu (x:=y) (by rw[e,ex_cs])
 .refine Zs (c:=33) (by decide) λq=>?_
  rw[e]at q
  rcases ë.mp q with q|q
  .have:=IG h1 33 q
   omega
  simp_all
def DI(D:List (kI)):List (k8):=(List.range D.length).flatMap λi=>(List.range (D.getD i []).length).flatMap (CN D i)
def Gg(D:List (kI))(i k j m:Nat):List (k8):=if i≠j/\Txt.endswith (Ac D i k).z (Str.ofString "!")=true/\(Ac D j m).z=De (Ac D i k).z then [[(i,k),(j,m)]] else []
def Jh(D:List (kI))(i k j:Nat):List (k8):=(List.range (D.getD j []).length).flatMap (Gg D i k j)
def IZ(D:List (kI))(i k:Nat):List (k8):=(List.range D.length).flatMap (Jh D i k)
theorem Qk{α β:Type}{g:α->List β}:∀{L:List α},(∀x∈L,g x=[])->L.flatMap g=[]
 |[],_=>rfl|a::L,h=>by rw[ä,h a (Ã ..),Qk λx hx=>h x (Å _ hx)];rfl
theorem Ql{α β:Type}{f g:α->List β}:∀{L:List α},(∀x∈L,f x=g x)->L.flatMap f=L.flatMap g
 |[],_=>rfl|a::L,h=>by rw[ä,ä,h a (Ã ..),Ql λx hx=>h x (Å _ hx)]
theorem QS(h:EU (Ac D i k).z):CN D i k=(if (Ac D i k).z="" then [[(i,k)]] else [])++IZ D i k:=by
 obtain⟨h1,h2⟩:=Zt h;have no:Txt.endswith (Ac D i k).z (Str.ofString "!")=false->IZ D i k=[]:=λq=>Qk λj _=>Qk λm _=>if_neg λz=>by omega
 unfold CN
 by_cases z0:(Ac D i k).z=""
 .simp_all
 .rw[if_neg z0,if_neg z0,ú];cases q:Txt.endswith (Ac D i k).z "?" with
  |true=>omega|false=>
   refine Ql λj _=>Ql λm _=>?_
   unfold Gg
   omega
theorem zll(D)(i k j m):(Gg D i k j m).length<=1:=by
 unfold Gg;split
 .omega
 simp_all
theorem zlj(hl:D.length<=3)(h5:∀j,(D.getD j []).length<=5)(h:EU (Ac D i k).z):(CN D i k).length<=16:=by
 rw[QS h,Ø]
 have q:=FE (g:=Jh D i k) (m:=5) (L:=List.range D.length) λj _=>by
  have:=FE (L:=List.range (D.getD j []).length) λm _=>zll D i k j m
  rw[ô]at this;have:=h5 j;unfold Jh
  omega
 rw[ô]at q
 have:(if (Ac D i k).z="" then [[(i,k)]] else []).length<=1:=by
  split
  .omega
  simp_all
 unfold IZ
 omega
theorem zlh(hl:D.length<=3)(h5:∀j,(D.getD j []).length<=5)(h:∀i k,EU (Ac D i k).z):(DI D).length<=240:=by
 have q:=FE (g:=λi=>(List.range (D.getD i []).length).flatMap (CN D i)) (m:=80) (L:=List.range D.length) λi _=>by
  have:=FE (L:=List.range (D.getD i []).length) λk _=>zlj hl h5 (h i k)
  rw[ô]at this;have:=h5 i
  omega
 rw[ô]at q;unfold DI
 omega
theorem O5(hi:i<Ms.length):∃M∈Ms,(AJ Ms).getD i []=M.ds/\A5 (Ms.map BI) i=some (BI M):=
 ⟨Ms[i],ê hi,by simp_all,CB (by simp_all)⟩
theorem Vy{M:Mc}(e:(AJ Ms).getD i []=M.ds)(hk:k<M.ds.length):Ac (AJ Ms) i k∈M.ds/\A5 (M.ds.map Dz) k=some (Dz (Ac (AJ Ms) i k)):=by
 have ed:Ac (AJ Ms) i k=M.ds[k]:=by unfold Ac;rw[e,Ô,Â hk];rfl
 exact⟨by simp_all,CB (by simp_all)⟩
theorem GP{Ms:kJ}(h:∀M∈Ms,McOk M):Aq (Ms.map BI)=true:=CD λM hM=>HN (h M hM)
theorem M7(h:∀M∈Ms,McOk M)(i k):EU (Ac (AJ Ms) i k).z:=by
 unfold Ac
 by_cases hi:i<Ms.length
 .obtain⟨M,hM,e,_⟩:=O5 hi;rw[e]
  by_cases hk:k<M.ds.length
  .rw[Ô,Â hk];exact((h M hM).d _ (ê hk)).z
  .rw[Ô,ò (by omega)]
   exact .inl rfl
 .rw[Ô,ò (by simp_all)]
  exact .inl rfl
abbrev sE(Ms:kJ)(a:List (k8))(x2 x3 x4 x5 x6:kH):AK:=[some (.lst (Ms.map BI)),some (.own (a.map Dm)),x2,x3,x4,x5,x6]
theorem go_8{Ms:kJ}(h:∀M∈Ms,McOk M){N:Mc}(hN:N∈Ms)(ej:(AJ Ms).getD j []=N.ds)(aj:A5 (Ms.map BI) (j:Int)=some (BI N))(hm:m<N.ds.length){a:List (k8)}(al:a.length+(Gg (AJ Ms) i k j m).length<=9999):Gs (sE Ms a (some (.int (i:Int))) (some (.int (k:Int))) (some (.str (Ac (AJ Ms) i k).z)) (some (.int (j:Int))) (some (.int (m:Int))))=some (.nx (sE Ms (a++Gg (AJ Ms) i k j m) (some (.int (i:Int))) (some (.int (k:Int))) (some (.str (Ac (AJ Ms) i k).z)) (some (.int (j:Int))) (some (.int (m:Int))))):=by
 have sp:=GP h;have sd:=F7 (h N hN);have sr' :=Ee (h N hN).r;obtain⟨hdm,am⟩:=Vy ej hm;have sgm:=((h N hN).d _ hdm).g.sh;have hz:=M7 h i k;have hz2:=M7 h j m;unfold Gg at al ⊢;generalize Ac (AJ Ms) i k=d at *;generalize Ac (AJ Ms) j m=dm at *
 by_cases hij:i=j
 .rw[if_neg (λz=>z.1 hij),ç]
  have n1:(i == (j:Int))=true:=by rw[hij];exact ÿ _
  unfold Gs
  simp![Dt,n1]
 .have n1:(i == (j:Int))=false:=by rw[ŋ];exact λz=>hij (ń z)
  cases c2:Txt.endswith d.z (Str.ofString "!") with
  |false=>
   rw[if_neg (λz=>by cases z.2.1),ç]
   unfold Gs
   simp![Dt,n1,FY,c2]
  |true=>
   have z0:d.z≠"":=λz=>by rw[(Zt hz).1 z]at c2;cases c2
   obtain⟨y,c,y1,y2,hc,ez,es,ee,zl,_⟩:=LL hz z0;have sy:Txt.slice d.z none (some (-1))++Str.ofString "?"=De d.z:=rfl;have ls:d.z.length<=100000:=by omega
   have l9:(Txt.slice d.z none (some (-1))).length+(Str.ofString "?").length<=100000:=by
    rw[es,Tx.cs_len,show(Str.ofString "?").length=1 by decide +kernel]
    have :=y2
    omega
   have q1:=E5 (IH hz2) (b4 hz z0)
   by_cases hzz:dm.z=De d.z
   .rw[Ñ hzz]at q1;rw[c2,if_pos ⟨hij,rfl,hzz⟩]at al;rw[if_pos ⟨hij,rfl,hzz⟩];have ll:a.length<100000:=by rw[ñ]at al;omega
    unfold sE;rw[ß];unfold Gs
    simp![Dt,n1,FY,c2,sp,sd,sr',Bf,aj,am,Mf,sgm,AV,D0,ls,show(-1)=-1 from rfl,l9,sy,q1,À,ll]
    rfl
   .rw[Ù hzz]at q1;rw[if_neg (λz=>hzz z.2.2),ç]
    unfold Gs
    simp![Dt,n1,FY,c2,sp,sd,sr',Bf,aj,am,Mf,sgm,AV,D0,ls,show(-1)=-1 from rfl,l9,sy,q1]
theorem Yh(h:∀M∈Ms,McOk M)(hl:Ms.length<=3)(h5:∀M∈Ms,M.ds.length<=5):(DI (AJ Ms)).length<=240:=by
 have eD:(AJ Ms).length=Ms.length:=À _
 have g5:∀j,((AJ Ms).getD j []).length<=5:=λj=>by
  by_cases hj:j<Ms.length
  .simp_all
  simp_all
 exact zlh (by omega) g5 (M7 h)
theorem zi7{Ms:kJ}(h:∀M∈Ms,McOk M)(hl:Ms.length<=3)(h5:∀M∈Ms,M.ds.length<=5):NN [.lst (Ms.map BI)]=some (.ok (.own ((DI (AJ Ms)).map Dm))):=by
 have sp:=GP h;have eD:(AJ Ms).length=Ms.length:=À _;have tl:=Yh h hl h5;have ok:DE (Ms.length:Int)=true:=EL (by omega)
 have er0:∀n,DO 0 n=(List.range n).map λ(k:Nat)=>T.int (k:Int):=λn=>EJ
 have tn:(Ms.length:Int).toNat=Ms.length:=rfl
 obtain⟨τ,e,y2,y3,y4,y5,y6,rfl⟩:=FC (b:=AD 2) (body:=Nm) (λ(i:Nat)=>T.int (i:Int)) (λ(a:List (k8)) τ=>∃y2 y3 y4 y5 y6,τ=sE Ms a y2 y3 y4 y5 y6) (λi=>(List.range ((AJ Ms).getD i []).length).flatMap (CN (AJ Ms) i)) 9999 (List.range Ms.length) [] (sE Ms [] none none none none none) ⟨_,_,_,_,_,rfl⟩ (by unfold DI at tl;rw[eD]at tl;rw[å];omega) λi hi a τ hS hN=>by
  obtain⟨y2,y3,y4,y5,y6,rfl⟩:=hS;have hi:=â.mp hi;obtain⟨M,hM,ei,ai⟩:=O5 hi;have sd:=F7 (h M hM);have sr':=Ee (h M hM).r;rw[ei]at hN;have m5:=h5 M hM
  obtain⟨τ2,e2,z3,z4,z5,z6,rfl⟩:=FC (b:=AD 3) (body:=Nl) (λ(k:Nat)=>T.int (k:Int)) (λ(a:List (k8)) τ=>∃y3 y4 y5 y6,τ=sE Ms a (some (.int (i:Int))) y3 y4 y5 y6) (CN (AJ Ms) i) 9999 (List.range M.ds.length) a (sE Ms a (some (.int (i:Int))) y3 y4 y5 y6) ⟨_,_,_,_,rfl⟩ hN λk hk a τ hS hN=>by
   obtain⟨y3,y4,y5,y6,rfl⟩:=hS;have hk:=â.mp hk;obtain⟨hd,ak⟩:=Vy ei hk;have sg:=((h M hM).d _ hd).g.sh;have hz:=M7 h i k;rw[QS hz,Ø]at hN;rw[QS hz,<- Ĕ];have q0:=E5 (IH hz) Qu;obtain⟨a',ea⟩:∃a',a++(if (Ac (AJ Ms) i k).z="" then [[(i,k)]] else [])=a':=⟨_,rfl⟩
   have l':a'.length+(IZ (AJ Ms) i k).length<=9999:=by rw[<- ea,Ø];omega
   obtain⟨τ3,e3,z5,z6,rfl⟩:=FC (b:=AD 5) (body:=Nk) (λ(j:Nat)=>T.int (j:Int)) (λ(a:List (k8)) τ=>∃y5 y6,τ=sE Ms a (some (.int (i:Int))) (some (.int (k:Int))) (some (.str (Ac (AJ Ms) i k).z)) y5 y6) (Jh (AJ Ms) i k) 9999 (List.range Ms.length) a' (sE Ms a' (some (.int (i:Int))) (some (.int (k:Int))) (some (.str (Ac (AJ Ms) i k).z)) y5 y6) ⟨_,_,rfl⟩ (by unfold IZ at l';rw[eD]at l';exact l') λj hj a τ hS hN=>by
    obtain⟨y5,y6,rfl⟩:=hS;have hj:=â.mp hj;obtain⟨N,hN',ej,aj⟩:=O5 hj;have sd:=F7 (h N hN');have sr':=Ee (h N hN').r;unfold Jh at hN ⊢;rw[ej]at hN ⊢;have n5:=h5 N hN'
    obtain⟨τ4,e4,z6,rfl⟩:=FC (b:=AD 6) (body:=Gs) (λ(m:Nat)=>T.int (m:Int)) (λ(a:List (k8)) τ=>∃y6,τ=sE Ms a (some (.int (i:Int))) (some (.int (k:Int))) (some (.str (Ac (AJ Ms) i k).z)) (some (.int (j:Int))) y6) (Gg (AJ Ms) i k j) 9999 (List.range N.ds.length) a (sE Ms a (some (.int (i:Int))) (some (.int (k:Int))) (some (.str (Ac (AJ Ms) i k).z)) (some (.int (j:Int))) y6) ⟨_,rfl⟩ hN λm hm a τ hS hN=>by
     obtain⟨y6,rfl⟩:=hS;exact⟨sE Ms a (some (.int (i:Int))) (some (.int (k:Int))) (some (.str (Ac (AJ Ms) i k).z)) (some (.int (j:Int))) (some (.int (m:Int))),by simp![],_,go_8 h hN' ej aj (â.mp hm) hN,_,rfl⟩
    have okj:=EL (by omega)
    refine⟨sE Ms a (some (.int (i:Int))) (some (.int (k:Int))) (some (.str (Ac (AJ Ms) i k).z)) (some (.int (j:Int))) y6,by simp![],_,?_,some (.int (j:Int)),z6,rfl⟩
    unfold Nk;rw[<- e4]
    simp![sp,sd,AF _ sd,sr',Bf,AV,aj,À,okj,er0]
   refine⟨sE Ms a (some (.int (i:Int))) (some (.int (k:Int))) y4 y5 y6,by simp![],_,?_,some (.int (k:Int)),some (.str (Ac (AJ Ms) i k).z),z5,z6,rfl⟩
   unfold Nl;refine sq (by simp![sp,sd,sr',Bf,AV,ai,ak,Mf,sg];rfl) ?_
   refine sq (τ':=sE Ms a' (some (.int (i:Int))) (some (.int (k:Int))) (some (.str (Ac (AJ Ms) i k).z)) y5 y6) ?_ ?_
   .rw[<- ea]
    by_cases z0:(Ac (AJ Ms) i k).z=""
    .rw[Ñ (z0)]at q0;rw[if_pos z0]at hN ⊢;have ll:a.length<100000:=by omega
     unfold sE;rw[ß]
     simp![q0,À,ll]
     rfl
    .rw[Ù (z0)]at q0;rw[if_neg z0,ç]
     simp![q0]
   .unfold IZ;rw[ea,eD,<- e3]
    simp![sp,AF _ sp,À,ok,er0]
  have oki:=EL (by omega)
  rw[ei];refine⟨sE Ms a (some (.int (i:Int))) y3 y4 y5 y6,by simp![],_,?_,some (.int (i:Int)),z3,z4,z5,z6,rfl⟩
  unfold Nm;rw[<- e2]
  simp![sp,sd,AF _ sd,sr',Bf,AV,ai,À,oki,er0]
 rw[ú]at e
 have key:Lv [some (.lst (Ms.map BI)),none,none,none,none,none,none]=some (.rt (.own ((DI (AJ Ms)).map Dm))):=by
  unfold Lv;refine sq (by simp![];rfl) ?_
  refine sq (by rw[<- e];simp![sp,AF _ sp,À,ok,er0];rfl) ?_
  unfold DI;rw[eD]
  simp![]
 unfold NN
 simp![sp,AF _ sp,key]
abbrev Uv:Stmt:=AN 76
def Rf:AI:=
 (m2 Bb (AA 0) (AA 1))
def JG:AH:=
 (AG (AW (BU 1 [2] (BE (AL (AA 7) (mC (.int 1)))) (AD 0) (mC (.bl true)) Rf) (AD 8))
 (AG (Aj (BD (AS JC (AB (AA 6) (AB (AL (AA 7) (mC (.int 0))) (AB (AA 8) (AB (AA 4) AE)))))) (AU (mC .non)) Ah)
 (DA 5 (B7 (AB (AL (AA 7) (mC (.int 0))) (AB (AA 8) AE))))))
def Gr:AH:=
 (AG (AW (AS NM (AB (AL (AA 0) (AA 9)) (AB (AL (AA 5) (AA 9)) (AB (AA 10) (AB (AA 4) AE))))) (AD 11))
 (AG (Aj (m2 (Dd false) (AA 11) (mC .non)) (AU (mC .non)) Ah)
 (HL 5 (AA 9) (AA 11))))
def Lp:AH:=
 (AG (CW 5 (BN AE))
 (AG (BZ (Ga (AB (AA 0) (AB (AA 1) AE))) (Ax 2 (AM (AD 6) (AM (AD 7) Az))) JG)
 (AG (BZ (BE (AA 3)) (Ax 2 (AM (AD 9) (AM (AD 10) Az))) Gr)
 (AU (AA 5)))))
def NI:kL->Option Ru:=Aa 5 12 Lp
abbrev Z1:Fn:=⟨4,["_law_plans","_law_places","_law_wait","_law_way","_law_parts_here"],NI⟩
abbrev zdd:Gm:=gA ["_law_plans","_law_places","_law_wait","_law_way","_law_parts_here","_law_found","_law_part_here","_law_stand","_law_values","_law_i","_law_k","_law_after"] Uv 3 [("_law_stay_met",Qd),("_law_gone",Z8)] ["zip"] ["_law_found"] ["_law_wait"]
theorem zdq:Ck zdd Z1 Uv Lp:={}
theorem Yt{α A:Type}{b}{body:AH}(f:α->T)(p)(g:α->A)(t0:T)(N:Nat)(I:List A->AK->Prop):∀(L:List α) (a) (τ:AK),I a τ->a.length+L.length<=N->(∀x∈L,∀a τ,I a τ->a.length<N->∃τ1,b (f x) τ=some τ1/\(p x=true->∃τ2,body τ1=some (.nx τ2)/\I (a++[g x]) τ2)/\(p x=false->body τ1=some (.rt t0)))->(L.all p=true->∃τ',BV b body (L.map f) τ=some (.nx τ')/\I (a++L.map g) τ')/\(L.all p=false->BV b body (L.map f) τ=some (.rt t0))
 |[],a,τ,h,_,_=>⟨λ_=>⟨τ,rfl,by simp_all⟩,λz=>by cases z⟩|x::L,a,τ,h,hN,hs=>by
  rw[Ý]at hN;obtain⟨τ1,e1,h1,h2⟩:=hs x (Ã ..) a τ h (by omega)
  rw[Ò,List.all_cons];unfold BV;rw[e1];cases hp:p x with
  |false=>omega|true=>
   obtain⟨τ2,e2,i2⟩:=h1 hp;erw[e2];have k:=Yt f p g t0 N I L (a++[g x]) τ2 i2 (by rw[Ø,ñ];omega) λy hy=>hs y (Å _ hy)
   rw[Ĕ]at k;exact k
def b7(Ms:kJ)(S:k7):Prop:=S.length=Ms.length/\∀x∈Ms.zip S,x.2.1∈x.1.nm/\x.2.2.length=x.1.ws.length
abbrev F9(w:Int)(s:Str×kF):Str×kF:=(s.1,s.2.map (·+w))
abbrev sS(P:Int)(Ms:kJ)(S:k7)(w:Int)(y:k8)(F:k7)(x6 x7 x8 x9 x10 x11:kH):AK:=[some (.lst (Ms.map BI)),some (.lst (S.map BG)),some (.int w),some (BA y),some (.int P),some (.own (F.map BG)),x6,x7,x8,x9,x10,x11]
theorem zgs(p1:0<P)(p2:P<=100)(h:∀M∈Ms,McOk M)(hl:Ms.length<=3)(hS:b7 Ms S)(w:Int)(y:k8):((Ms.zip S).all (λx=>Bd P x.1 x.2.1 (x.2.2.map (·+w)))=true->∃y6 y7 y8,BV (Ax 2 (AM (AD 6) (AM (AD 7) Az))) JG ((Ms.zip S).map λx=>T.tup [BI x.1,BG x.2]) (sS P Ms S w y [] none none none none none none)=some (.nx (sS P Ms S w y (S.map (F9 w)) y6 y7 y8 none none none)))/\((Ms.zip S).all (λx=>Bd P x.1 x.2.1 (x.2.2.map (·+w)))=false->BV (Ax 2 (AM (AD 6) (AM (AD 7) Az))) JG ((Ms.zip S).map λx=>T.tup [BI x.1,BG x.2]) (sS P Ms S w y [] none none none none none none)=some (.rt .non)):=by
 have k:=Yt (b:=Ax 2 (AM (AD 6) (AM (AD 7) Az))) (λx =>T.tup [BI x.1,BG x.2]) (λx=>Bd P x.1 x.2.1 (x.2.2.map (·+w))) (λx=>F9 w x.2) .non 10 (λF τ=>∃y6 y7 y8,τ=sS P Ms S w y F y6 y7 y8 none none none) (Ms.zip S) [] (sS P Ms S w y [] none none none none none none) ⟨_,_,_,rfl⟩ (by rw[å,Ś];omega) λx hx F τ hI hF=>by
  obtain⟨y6,y7,y8,rfl⟩:=hI;obtain⟨M,r,vs⟩:=x;have hM:=h M (ř hx).1;obtain⟨hr,hv⟩:=hS.2 _ hx;have hr :=hr;have hv :=hv;have wl:=hM.wl;have sp:=HN hM;have sd:=F7 hM;have sr' :=Ee hM.r;have vi:=Dy vs;have v1:=Dy (vs.map (·+w));have hv1:(vs.map (·+w)).length=M.ws.length:=by rw[À];exact hv
  have st:=Tp p1 p2 hM hr hv1
  have lc:=C1 (b:=AD 0) (me:=Rf) T.int (λv=>T.int (v+w)) (λτ=>∃x,τ=[x,some (.int w)]) vs [none,some (.int w)] ⟨none,rfl⟩ λv _ τ hI=>by
   obtain⟨y,rfl⟩:=hI;exact⟨[some (.int v),some (.int w)],by simp![],by unfold Rf;simp![],_,rfl⟩
  have e1:(vs.map λv=>T.int (v+w))=(vs.map (·+w)).map T.int:=by rw[Ü];rfl
  rw[e1]at lc;have vl:vs.length<=100000:=by omega
  have fl:F.length<100000:=by omega
  have r1:∀q,(AG (Aj (BD (AS JC (AB (AA 6) (AB (AL (AA 7) (mC (.int 0))) (AB (AA 8) (AB (AA 4) AE)))))) (AU (mC .non)) Ah) (DA 5 (B7 (AB (AL (AA 7) (mC (.int 0))) (AB (AA 8) AE))))) (sS P Ms S w y F (some (BI M)) (some (BG (r,vs))) (some (.lst ((vs.map (·+w)).map T.int))) none none none)=q->JG (sS P Ms S w y F (some (BI M)) (some (BG (r,vs))) y8 none none none)=q:=λq hq=>by
   unfold JG;exact sq (by simp![vi,AF _ vi,lc,v1,AF _ v1,À,vl]) hq
  refine⟨sS P Ms S w y F (some (BI M)) (some (BG (r,vs))) y8 none none none,by simp![],λhp=>⟨sS P Ms S w y (F++[F9 w (r,vs)]) (some (BI M)) (some (BG (r,vs))) (some (.lst ((vs.map (·+w)).map T.int))) none none none,r1 _ ?_,_,_,_,rfl⟩,λhp=>r1 _ ?_⟩
  .have hp :=hp;rw[hp]at st;refine C6 (by simp![sp,Ap _ sp,sd,AF _ sd,sr',AF _ sr',AV,Ae,Bf,vi,v1,AF _ v1,st]) ?_
   unfold sS;rw[ß]
   simp![vi,v1,AF _ v1,À,fl]
  .have hp :=hp;rw[hp]at st;exact sr (by simp![sp,Ap _ sp,sd,AF _ sd,sr',AF _ sr',AV,Ae,Bf,vi,v1,AF _ v1,st])
 refine⟨λq=>?_,k.2⟩
 obtain⟨τ,e,y6,y7,y8,rfl⟩:=k.1 q
 have ez:(Ms.zip S).map (λx=>F9 w x.2)=S.map (F9 w):=by
  have:(Ms.zip S).map (·.2)=S:=List.map_snd_zip (by rw[hS.1];exact È _)
  conv=>rhs;rw[<- this,Ü]
  rfl
 rw[ú,ez]at e;exact⟨y6,y7,y8,e⟩
def EC(Ms:kJ)(S:k7):Prop:=S.length=Ms.length/\∀(i:Nat) (M:Mc) (s:Str×kF),Ms[i]?=some M->S[i]?=some s->s.1∈M.nm/\s.2.length=M.ws.length
theorem EC.ok(h:EC Ms S):b7 Ms S:=⟨h.1,λx hx=>by
 obtain⟨i,hi⟩:=ķ hx;rw[Ĳ]at hi;exact h.2 i _ _ hi.1 hi.2⟩
def Gf(P:Int)(Ms:kJ):k8->k7->Option (k7)
 |[],F=>some F|p::y,F=>(Ms[p.1]?.bind λM=>F[p.1]?.bind λs=>M.ds[p.2]?.bind λd=>E4 P M s d).bind λs=>Gf P Ms y (F.set p.1 s)
theorem Yl(h:∀M∈Ms,McOk M)(hF:EC Ms F){i:Nat}{M:Mc}{s s':Str×kF}{d:Dr}(e1:Ms[i]?=some M)(e2:F[i]?=some s)(hd:d∈M.ds)(e:E4 P M s d=some s'):EC Ms (F.set i s'):=by
 unfold E4 at e;split at e
 .cases e;refine⟨by rw[Ĉ];exact hF.1,λj N v f1 f2=>?_⟩
  by_cases q:i=j
  .subst q;cases e1.symm.trans f1;obtain⟨il,-⟩:=Õ.mp e2;rw[í il]at f2;cases f2;exact⟨((h M (Ú e1)).d d hd).e,K7 (hF.2 i M s e1 e2).2⟩
  .rw[ã q]at f2;exact hF.2 j N v f1 f2
 .cases e
theorem Te(p1:0<P)(p2:P<=100){Ms:kJ}(h:∀M∈Ms,McOk M){S:k7}(w:Int)(y:k8)(x6 x7 x8:kH):∀(z:k8) (F:k7) (x9 x10 x11:kH),EC Ms F->FG (AJ Ms) z->(∀F',Gf P Ms z F=some F'->EC Ms F'/\∃y9 y10 y11,BV (Ax 2 (AM (AD 9) (AM (AD 10) Az))) Gr (z.map Dp) (sS P Ms S w y F x6 x7 x8 x9 x10 x11)=some (.nx (sS P Ms S w y F' x6 x7 x8 y9 y10 y11)))/\(Gf P Ms z F=none->BV (Ax 2 (AM (AD 9) (AM (AD 10) Az))) Gr (z.map Dp) (sS P Ms S w y F x6 x7 x8 x9 x10 x11)=some (.rt .non))
 |[],F,x9,x10,x11,hF,_=>⟨λF' e=>by cases e;exact⟨hF,x9,x10,x11,rfl⟩,λe=>by cases e⟩|p::z,F,x9,x10,x11,hF,hz=>by
  obtain⟨i,k⟩:=p;obtain⟨M,eM,eD⟩:=aS (hz _ (Ã ..)).1 (hz _ (Ã ..)).2;have eM:=eM;obtain⟨d,eD⟩:∃d,M.ds[k]?=some d:=⟨_,eD⟩;obtain⟨il,-⟩:=Õ.mp eM;obtain⟨s,es⟩:∃s,F[i]?=some s:=⟨F[i]'(by rw[hF.1];exact il),Â _⟩
  have hM:=h M (Ú eM);obtain⟨f1,f2⟩:=hF.2 i M s eM es;have g:=zpf p1 p2 hM f1 f2 eD;have sp:=GP h;have sm:=HN hM;have ss:=Dy s.2
  have eg:Gf P Ms ((i,k)::z) F=(E4 P M s d).bind λs=>Gf P Ms z (F.set i s):=by
   show(Option.bind (Ms[i]?.bind λM=>F[i]?.bind λs=>M.ds[k]?.bind λd=>E4 P M s d) _)=_
   rw[eM,Ŀ,es,Ŀ,eD,Ŀ]
  have a1:A5 (Ms.map BI) (i:Int)=some (BI M):=CB (by rw[Ä,eM];rfl)
  have a2:A5 (F.map BG) (i:Int)=some (BG s):=CB (by rw[Ä,es];rfl)
  have bd:Ax 2 (AM (AD 9) (AM (AD 10) Az)) (Dp (i,k)) (sS P Ms S w y F x6 x7 x8 x9 x10 x11)=some (sS P Ms S w y F x6 x7 x8 (some (.int i)) (some (.int k)) x11):=by simp![]
  rw[eg,Ò];unfold BV;erw[bd];cases q:E4 P M s d with
  |none=>
   rw[q]at g
   have e:Gr (sS P Ms S w y F x6 x7 x8 (some (.int (i:Int))) (some (.int (k:Int))) x11)=some (.rt .non):=by
    unfold Gr;generalize hX:BI M=X at *;refine sq (by simp![sp,AF _ sp,a1,a2,ss,AF _ ss,sm,Ap _ sm,g,LZ];rfl) ?_
    exact sr (by simp![])
   rw[e];exact⟨λF' z=>(by cases z),λ_=>rfl⟩
  |some s'=>
   rw[q]at g;have ss':=Dy s'.2;have il2:i<F.length:=by rw[hF.1];exact il
   have ix:=Y1 il2
   have e:Gr (sS P Ms S w y F x6 x7 x8 (some (.int (i:Int))) (some (.int (k:Int))) x11)=some (.nx (sS P Ms S w y (F.set i s') x6 x7 x8 (some (.int (i:Int))) (some (.int (k:Int))) (some (BG s')))):=by
    unfold Gr;generalize hX:BI M=X at *;refine sq (by simp![sp,AF _ sp,a1,a2,ss,AF _ ss,ss',AF _ ss',sm,Ap _ sm,g,LZ];rfl) ?_
    refine C6 (by simp![ss',AF _ ss']) ?_
    unfold sS;rw[š]
    simp![ss',AF _ ss',À,ix]
   rw[e];exact Te p1 p2 h w y x6 x7 x8 z (F.set i s') _ _ _ (Yl h hF eM es (Ú eD) q) λp hp=>hz p (Å _ hp)
def Ff(P:Int)(Ms:kJ)(S:k7)(w:Int)(y:k8):Option (k7):=if (Ms.zip S).all (λx=>Bd P x.1 x.2.1 (x.2.2.map (·+w)))=true then Gf P Ms y (S.map (F9 w)) else none
def GX:Option (k7)->T
 |none=>.non|some F=>.own (F.map BG)
theorem EC.add(h:EC Ms S)(w):EC Ms (S.map (F9 w)):=⟨by rw[À];exact h.1,λi M s e1 e2=>by
 rw[Ä]at e2;obtain⟨v,ev,rfl⟩:=à.mp e2;have:=h.2 i M v e1 ev
 simp_all⟩
theorem zmm(p1:0<P)(p2:P<=100)(h:∀M∈Ms,McOk M)(hl:Ms.length<=3){S:k7}(hS:EC Ms S)(w:Int){y:k8}(hy:FG (AJ Ms) y):NI [.lst (Ms.map BI),.lst (S.map BG),.int w,BA y,.int P]=some (.ok (GX (Ff P Ms S w y))):=by
 obtain⟨a1,a2⟩:=zgs p1 p2 h hl hS.ok w y;have sp:=GP h
 have ss:Aq (S.map BG)=true:=CD λs _=>by
  have:=Dy s.2
  simp![this]
 have sy:=DP y;have zp:=NY BI BG Ms S
 suffices key:Lp [some (.lst (Ms.map BI)),some (.lst (S.map BG)),some (.int w),some (BA y),some (.int P),none,none,none,none,none,none,none]=some (.rt (GX (Ff P Ms S w y))) by
  unfold NI
  simp![sp,AF _ sp,ss,AF _ ss,sy,AF _ sy,key]
 unfold Lp;refine sq (by simp![];rfl) ?_
 unfold Ff;cases c:(Ms.zip S).all (λx=>Bd P x.1 x.2.1 (x.2.2.map (·+w))) with
 |false=>
  rw[if_neg ó];refine sr (t:=.non) ?_;rw[<- a2 c]
  simp![sp,AF _ sp,ss,AF _ ss,zp]
  rfl
 |true=>
  rw[if_pos rfl];obtain⟨y6,y7,y8,e⟩:=a1 c;refine sq (by rw[<- e];simp![sp,AF _ sp,ss,AF _ ss,zp];rfl) ?_
  obtain⟨b1,b2⟩:=Te p1 p2 h (S:=S) w y y6 y7 y8 y (S.map (F9 w)) none none none (hS.add w) hy;cases q:Gf P Ms y (S.map (F9 w)) with
  |none=>
   refine sr (t:=.non) ?_;rw[<- b2 q]
   simp![sy,AF _ sy]
  |some F'=>
   obtain⟨-,z9,z10,z11,e2⟩:=b1 F' q;refine sq (by rw[<- e2];simp![sy,AF _ sy]) ?_
   simp![GX]
abbrev VI:Stmt:=AN 77
def Km:AH:=
 (AG (AW (AL (AA 1) (m2 B0 (m2 Bb (AL (AA 6) (mC (.int 2))) (AA 9)) (m1 B9 (AA 1)))) (AD 10))
 (AG (AW (AS NI (AB (AA 0) (AB (AA 2) (AB (AA 8) (AB (AA 10) (AB (AA 5) AE)))))) (AD 11))
 (Aj (m2 (Dd true) (AA 11) (mC .non)) (AU (B7 (AB (AA 8) (AB (AA 10) (AB (AA 11) AE))))) Ah)))
def GH:AH:=
 (BZ (C8 (AB (m1 B9 (AA 1)) AE)) (AD 9) Km)
def J1:AH:=
 (AG (AW (AS FH (AB (AA 3) (AB (mC (.int 3)) AE))) (AD 6))
 (AG (AW (AL (BN (BK (mC (.int 0)) (BK (m2 Bg (AA 4) (AA 5)) (BK (m2 B0 (AL (AA 6) (mC (.int 0))) (m2 Bb (m2 Bg (AA 4) (AA 5)) (mC (.int 1)))) (BK (m2 Bg (m2 Bg (mC (.int 2)) (AA 4)) (AA 5)) AE))))) (m2 B0 (AL (AA 6) (mC (.int 1))) (mC (.int 4)))) (AD 7))
 (AG (BZ (BE (BN (BK (AA 7) (BK (m2 Bg (m2 Bg (m2 B0 (AL (AA 6) (mC (.int 0))) (mC (.int 4))) (AA 4)) (AA 5)) (BK (mC (.int 0)) AE))))) (AD 8) GH)
 (AU (B7 (AB (mC (.int 0)) (AB (BN AE) (AB (AA 2) AE))))))))
def KO:kL->Option Ru:=Aa 6 12 J1
abbrev Zb:Fn:=⟨5,["_law_plans","_law_ways","_law_places","_law_cell","_law_unit","_law_parts_here"],KO⟩
abbrev zfr:Gm:=gA ["_law_plans","_law_ways","_law_places","_law_cell","_law_unit","_law_parts_here","_law_xs","_law_far","_law_wait","_law_k","_law_way","_law_after"] VI 4 [("_law_stream",MZ),("_law_stepped",Z1)] ["range","len"]
theorem zg6:Ck zfr Zb VI J1:={}
theorem QV{α:Type}{b}{body}(f)(Q:T->Prop)(I:AK->Prop):∀(L:List α) (τ),I τ->(∀x∈L,∀τ,I τ->∃τ1,b (f x) τ=some τ1/\((∃τ2,body τ1=some (.nx τ2)/\I τ2)\/∃t,body τ1=some (.rt t)/\Q t))->(∃τ',BV b body (L.map f) τ=some (.nx τ')/\I τ')\/∃t,BV b body (L.map f) τ=some (.rt t)/\Q t
 |[],τ,h,_=>.inl ⟨τ,rfl,h⟩|x::L,τ,h,hs=>by
  obtain⟨τ1,e1,h1⟩:=hs x (Ã ..) τ h;rw[Ò];unfold BV;rw[e1]
  rcases h1 with ⟨τ2,e2,i2⟩|⟨t,e2,q⟩
  .erw[e2];exact QV f Q I L τ2 i2 λy hy=>hs y (Å _ hy)
  simp_all
def NV(P:Int)(Ms:kJ)(S:k7)(Y:List (k8))(t:T):Prop:=∃w y F,0<=w/\y∈Y/\Ff P Ms S w y=some F/\t=.tup [.int w,BA y,.lst (F.map BG)]
theorem HI(Y:List (k8)):Aq (Y.map BA)=true:=CD λy _=>by
 have:=DP y
 omega
theorem GS(S:k7):Aq (S.map BG)=true:=CD λs _=>by
 have:=Dy s.2
 simp![this]
abbrev sD(P u c:Int)(Ms:kJ)(S:k7)(Y:List (k8))(x6 x7 x8 x9 x10 x11:kH):AK:=[some (.lst (Ms.map BI)),some (.lst (Y.map BA)),some (.lst (S.map BG)),some (.int c),some (.int u),some (.int P),x6,x7,x8,x9,x10,x11]
theorem zpk(p1:0<P)(p2:P<=100){Ms:kJ}(h:∀M∈Ms,McOk M)(hl:Ms.length<=3){S:k7}(hS:EC Ms S)(hY:∀y∈Y,FG (AJ Ms) y)(yl:Y.length<=1000){xs:Nat->Int}(w0:0<=w)(x7 y9 y10 y11:kH):(∃z9 z10 z11,GH (sD P u c Ms S Y (some (.lst (mT 3 λi=>.int (xs i)))) x7 (some (.int w)) y9 y10 y11)=some (.nx (sD P u c Ms S Y (some (.lst (mT 3 λi=>.int (xs i)))) x7 (some (.int w)) z9 z10 z11)))\/∃t,GH (sD P u c Ms S Y (some (.lst (mT 3 λi=>.int (xs i)))) x7 (some (.int w)) y9 y10 y11)=some (.rt t)/\NV P Ms S Y t:=by
 have sp:=GP h;have sy:=HI Y;have ss:=GS S
 have k:=QV (b:=AD 9) (λ(i:Nat)=>T.int (i:Int)) (NV P Ms S Y) (λτ=>∃z9 z10 z11,τ=sD P u c Ms S Y (some (.lst (mT 3 λi=>.int (xs i)))) x7 (some (.int w)) z9 z10 z11) (List.range Y.length) (sD P u c Ms S Y (some (.lst (mT 3 λi=>.int (xs i)))) x7 (some (.int w)) y9 y10 y11) ⟨_,_,_,rfl⟩ λi hi τ hI=>by
  obtain⟨z9,z10,z11,rfl⟩:=hI;have hi:=â.mp hi;have y0:Y≠[]:=λz=>by rw[z]at hi;cases hi
  obtain⟨y,hy,ey⟩:=Eh Y y0 (xs 2+(i:Int));have ey':=Ep BA ey;have l0:=MB y0;have a2:A5 (mT 3 λi=>T.int (xs i)) 2=some (.int (xs 2)):=Fq (k:=2) (by decide)
  have st:=zmm p1 p2 h hl hS w (hY y hy);have py:=DP y;refine⟨sD P u c Ms S Y (some (.lst (mT 3 λi=>.int (xs i)))) x7 (some (.int w)) (some (.int (i:Int))) z10 z11,by simp![],?_⟩
  have r1:∀q,(Aj (m2 (Dd true) (AA 11) (mC .non)) (AU (B7 (AB (AA 8) (AB (AA 10) (AB (AA 11) AE))))) Ah) (sD P u c Ms S Y (some (.lst (mT 3 λi=>.int (xs i)))) x7 (some (.int w)) (some (.int (i:Int))) (some (BA y)) (some (GX (Ff P Ms S w y)).share))=q->Km (sD P u c Ms S Y (some (.lst (mT 3 λi=>.int (xs i)))) x7 (some (.int w)) (some (.int (i:Int))) z10 z11)=q:=λq hq=>by
   unfold Km;refine sq (by simp![a2,sy,AF _ sy,À,l0,ey',py,AF _ py];rfl) ?_
   refine sq ?_ hq
   generalize GX (Ff P Ms S w y)=Z at *
   simp![sp,AF _ sp,ss,AF _ ss,py,AF _ py,st]
  cases q:Ff P Ms S w y with
  |none=>rw[q]at r1;exact .inl ⟨_,r1 _ (by simp![GX];rfl),_,_,_,rfl⟩|some F=>
   rw[q]at r1;have sF:=GS F;refine .inr ⟨.tup [.int w,BA y,.lst (F.map BG)],r1 _ ?_,w,y,F,w0,hy,q,rfl⟩
   simp![GX,AF _ sF,sF,py,AF _ py]
 have o1:=EL (by omega)
 have er0:∀n,DO 0 n=(List.range n).map λ(k:Nat)=>T.int (k:Int):=λn=>EJ
 rcases k with ⟨τ,e,z9,z10,z11,rfl⟩|⟨t,e,q⟩
 .refine .inl ⟨z9,z10,z11,?_⟩;rw[<- e];unfold GH
  simp![sy,AF _ sy,À,o1,er0]
 .refine .inr ⟨t,?_,q⟩;rw[<- e];unfold GH
  simp![sy,AF _ sy,À,o1,er0]
theorem zij{P u:Int}(p1:0<P)(p2:P<=100)(u0:0<=u)(c:Int){Ms:kJ}(h:∀M∈Ms,McOk M)(hl:Ms.length<=3){S:k7}(hS:EC Ms S)(hY:∀y∈Y,FG (AJ Ms) y)(yl:Y.length<=1000):∃t,KO [.lst (Ms.map BI),.lst (Y.map BA),.lst (S.map BG),.int c,.int u,.int P]=some (.ok t)/\(t=.tup [.int 0,.lst [],.lst (S.map BG)]\/NV P Ms S Y t):=by
 have sp:=GP h;have sy:=HI Y;have ss:=GS S;obtain⟨xs,ex⟩:∃xs:Nat->Int,FH [.int c,.int 3]=some (.ok (.own (mT 3 λi=>.int (xs i)))):=LG c (m:=3) (by decide)
 have up:0<=u * P:=ł u0 (by omega)
 have a0:A5 (mT 3 λi=>T.int (xs i)) 0=some (.int (xs 0)):=Fq (k:=0) (by decide)
 have a1:A5 (mT 3 λi=>T.int (xs i)) 1=some (.int (xs 1)):=Fq (k:=1) (by decide)
 have mp:∀i,CY i P=true:=λi=>Fp (DC (by omega) (by omega))
 have mm2:CY 2 u=true:=Ew (DC (by decide) (by decide))
 have f0:=ø (xs 0) (show(0:Int)<4 by decide)
 have f1:=Ā (xs 0) (show(0:Int)<4 by decide)
 have m4:CY ((xs 0).fmod 4) u=true:=Ew (DC (by omega) (by omega))
 have n0:u * P+1≠0:=by omega
 obtain⟨wt,hw,ew⟩:=Eh [0,u * P,(xs 0).fmod (u * P+1),2 * u * P] (by simp) (xs 1)
 have w0:0<=wt:=by
  erw[Ï,ï,þ]at hw
  rcases hw with rfl|rfl|rfl|rfl
  .omega
  .exact up
  .exact ø _ (by omega)
  .rw[Ņ];omega
 have ew':A5 [T.int 0,T.int (u * P),T.int ((xs 0).fmod (u * P+1)),T.int (2 * u * P)] ((xs 1).fmod 4)=some (.int wt):=Ep T.int ew;have w1:0<=(xs 0).fmod 4 * u * P:=ł (ł f0 u0) (by omega)
 have k:=QV (b:=AD 8) (body:=GH) T.int (NV P Ms S Y) (λτ=>∃z8 z9 z10 z11,τ=sD P u c Ms S Y (some (.lst (mT 3 λi=>.int (xs i)))) (some (.int wt)) z8 z9 z10 z11) [wt,(xs 0).fmod 4 * u * P,0] (sD P u c Ms S Y (some (.lst (mT 3 λi=>.int (xs i)))) (some (.int wt)) none none none none) ⟨_,_,_,_,rfl⟩ λw hw τ hI=>by
  obtain⟨z8,z9,z10,z11,rfl⟩:=hI
  have wp:0<=w:=by
   erw[Ï,ï,þ]at hw
   rcases hw with rfl|rfl|rfl
   .exact w0
   .exact w1
   .omega
  refine⟨sD P u c Ms S Y (some (.lst (mT 3 λi=>.int (xs i)))) (some (.int wt)) (some (.int w)) z9 z10 z11,by simp![],?_⟩
  rcases zpk (u:=u) (c:=c) p1 p2 h hl hS hY yl (xs:=xs) wp (some (.int wt)) z9 z10 z11 with ⟨v9,v10,v11,e⟩|⟨t,e,q⟩
  .exact .inl ⟨_,e,_,_,_,_,rfl⟩
  .exact .inr ⟨t,e,q⟩
 have step:∀(r:Option Out),(BV (AD 8) GH [T.int wt,T.int ((xs 0).fmod 4 * u * P),T.int 0] (sD P u c Ms S Y (some (.lst (mT 3 λi=>.int (xs i)))) (some (.int wt)) none none none none)=r)->J1 (sD P u c Ms S Y none none none none none none)=AG (λ_=>r) (AU (B7 (AB (mC (.int 0)) (AB (BN AE) (AB (AA 2) AE))))) (sD P u c Ms S Y (some (.lst (mT 3 λi=>.int (xs i)))) (some (.int wt)) none none none none):=λr hr=>by
  unfold J1;refine sq (by simp![ex];rfl) ?_
  refine sq (by simp![a0,a1,mp,mm2,n0,ew'];rfl) ?_
  have e1:BZ (BE (BN (BK (AA 7) (BK (m2 Bg (m2 Bg (m2 B0 (AL (AA 6) (mC (.int 0))) (mC (.int 4))) (AA 4)) (AA 5)) (BK (mC (.int 0)) AE))))) (AD 8) GH (sD P u c Ms S Y (some (.lst (mT 3 λi=>.int (xs i)))) (some (.int wt)) none none none none)=r:=by
   rw[<- hr]
   simp![a0,mp,m4]
  unfold AG;rw[e1]
 have BP:∀t,J1 (sD P u c Ms S Y none none none none none none)=some (.rt t)->t.sh=true->KO [.lst (Ms.map BI),.lst (Y.map BA),.lst (S.map BG),.int c,.int u,.int P]=some (.ok t):=λt e ht=>by
  unfold sD at e;unfold KO
  simp![sp,AF _ sp,sy,AF _ sy,ss,AF _ ss,e]
 rcases k with ⟨τ,e,z8,z9,z10,z11,rfl⟩|⟨t,e,q⟩
 .refine⟨.tup [.int 0,.lst [],.lst (S.map BG)],BP _ ?_ (by simp![ss]),.inl rfl⟩
  rw[step _ e];refine sq rfl ?_
  simp![ss,AF _ ss]
 .obtain⟨w,y,F,g1,g2,g3,rfl⟩:=q;refine⟨_,BP _ ?_ (by simp![GS,DP]),.inr ⟨w,y,F,g1,g2,g3,rfl⟩⟩
  rw[step _ e]
  rfl
abbrev VM:Stmt:=AN 80
def Rn:AI:=
 (AS KN (AB (AA 0) (AB (AA 1) AE)))
def Np:AH:=
 (AW (m2 Bb (AA 2) (BU 1 [1] (BE (AA 4)) (AD 0) (mC (.bl true)) Rn)) (AD 2))
def Md:AI:=
 (AA 0)
def Lx:AH:=
 (AG (AW (BN AE) (AD 2))
 (AG (BZ (BE (AA 0)) (Ax 2 (AM (AD 3) (AM (AD 4) Az))) Np)
 (AU (B7 (AB (HW (mC (.str "/")) (BU 2 [] (BE (AA 0)) (Ax 2 (AM (AD 0) (AM (AD 1) Az))) (mC (.bl true)) Md)) (AB (AA 2) AE))))))
def Hu:kL->Option Ru:=Aa 2 5 Lx
abbrev Zd:Fn:=⟨3,["_law_places","_law_parts_here"],Hu⟩
abbrev zed:Gm:=gA ["_law_places","_law_parts_here","_law_values","_law_room","_law_some"] VM 2 [("_law_fraction",Qf)] [] [] ["_law_parts_here"]
theorem zem:Ck zed Zd VM Lx:={}
theorem ao_ok{P:Int}(p1:0<P)(p2:P<=100){S:k7}(hl:S.length<=6)(hn:∀s∈S,s.1.length<=60)(hv:(S.flatMap (·.2)).length<=1000):Hu [.lst (S.map BG),.int P]=some (.ok (Ak P (BB (S.map (·.1)),S.flatMap (·.2)))):=by
 have ss:=GS S
 have lc:Ba (Ax 2 (AM (AD 0) (AM (AD 1) Az))) (mC (.bl true)) Md (S.map BG) [none,none]=some ((S.map (·.1)).map T.str):=by
  have q:=C1 (b:=Ax 2 (AM (AD 0) (AM (AD 1) Az))) (me:=Md) BG (λs=>T.str s.1) (λτ=>∃x y,τ=[x,y]) S [none,none] ⟨none,none,rfl⟩ λs h τ hI=>by
   obtain⟨x,y,rfl⟩:=hI;exact⟨[some (.str s.1),some (.lst (s.2.map T.int))],by simp![],by unfold Md;simp![],_,_,rfl⟩
  rw[q,Ü]
  rfl
 obtain⟨τ,e,y3,y4,rfl⟩:=FC (b:=Ax 2 (AM (AD 3) (AM (AD 4) Az))) (body:=Np) BG (λ(b:kF) τ=>∃y3 y4,τ=[some (.lst (S.map BG)),some (.int P),some (.lst (Bq P b)),y3,y4]) (λs:Str×kF=>s.2) 1000 S [] [some (.lst (S.map BG)),some (.int P),some (.lst []),none,none] ⟨none,none,rfl⟩ (by rw[å];omega) λs h b τ hS hN=>by
  obtain⟨y3,y4,rfl⟩:=hS;have si:=Dy s.2;have v:=EV P s.2;have vb:=EV P b;have vc:=EV P (b++s.2);have ll:b.length+s.2.length<=100000:=by omega
  have l2:s.2.length<=100000:=by omega
  have em:Bq P b++Bq P s.2=Bq P (b++s.2):=by unfold Bq;rw[ß]
  have lc3:Ba (AD 0) (mC (.bl true)) Rn (s.2.map T.int) [none,some (.int P)]=some (Bq P s.2):=C1 T.int (Bo P) (λτ=>∃x,τ=[x,some (.int P)]) s.2 _ ⟨none,rfl⟩ λw _ τ hI=>by
   obtain⟨x,rfl⟩:=hI;have q:=Pw p1 p2 w;exact⟨[some (.int w),some (.int P)],by simp![],by unfold Rn;simp![q],_,rfl⟩
  refine⟨[some (.lst (S.map BG)),some (.int P),some (.lst (Bq P b)),some (.str s.1),some (.lst (s.2.map T.int))],by simp![],[some (.lst (S.map BG)),some (.int P),some (.lst (Bq P (b++s.2))),some (.str s.1),some (.lst (s.2.map T.int))],?_,some (.str s.1),some (.lst (s.2.map T.int)),rfl⟩
  unfold Np
  simp![si,AF _ si,lc3,v,AF _ v,vb,AF _ vb,À,ll,l2]
  rw[em]
  simp![vc,AF _ vc]
 rw[ú]at e;have vz:=EV P (S.flatMap (·.2))
 have jf:=Y0 (t:=S.map (·.1)) (by rw[À];exact hl) λr hr=>by
  obtain⟨l,h,rfl⟩:=Ë.mp hr;exact hn l h
 erw[À]at jf;have l1:S.length<=100000:=by omega
 have run:Lx [some (.lst (S.map BG)),some (.int P),none,none,none]=some (.rt (Ak P (BB (S.map (·.1)),S.flatMap (·.2)))):=by
  unfold Lx;refine sq (by simp![];rfl) ?_
  refine sq (τ':=_) (by rw[<- e];simp![ss,AF _ ss]) ?_
  simp![ss,AF _ ss,lc,À,l1,HW,IF,jf,BB,vz,AF _ vz]
 unfold Hu
 simp![ss,AF _ ss,run]
theorem zml(h:t∈Ca M r):∃x∈M.rs,t∈x.2:=by
 unfold Ca at h;cases q:M.rs.find? λx=>decide (x.1=r) with
 |none=>simp_all|some x=>rw[q]at h;exact⟨x,Ŭ q,h⟩
theorem leg0(p1:0<P)(h:McOk M)(hn:∀r∈M.rs,∀t∈r.2,0<DR t)(r):Bd P M r (M.ws.map λ_=>0)=true:=by
 unfold Bd;rw[Þ];intro t ht;obtain⟨x,hx,hxt⟩:=zml ht;obtain⟨a,y,n,rfl,-,hy,-⟩:=(h.r.lk x hx).1 t hxt;have n0:0<n:=hn x hx _ hxt
 have v0:DT M.ws (M.ws.map λ_=>0) a=0:=by
  unfold DT;rw[Ô,Ä];cases M.ws[(CH M.ws a).getD 0]?<;>rfl
 show DV y n (DT M.ws (M.ws.map λ_=>0) a) P=true
 have nb :=Int.mul_pos n0 p1;unfold DV
 rcases Ï.mp hy with rfl|hy
 .omega
 .rw[Í.mp hy]
  omega
theorem Zi{α:Type}{f:α->Str}{g:α->kL}:∀{L:List α},(L.map f).Nodup->∀{a},a∈L->(((L.map λa=>(f a,g a)).find? λx=>decide (x.1=f a)).map (·.2)).getD []=g a
 |[],_,_,h=>by cases h|b::L,hn,a,h=>by
  rw[Ò,Ċ]at hn;rw[Ò,List.find?_cons]
  by_cases q:f b=f a
  .have:b=a:=by
    rcases Ï.mp h with e|e
    .exact e.symm
    .exact absurd (q▸List.mem_map_of_mem e) hn.1
   simp_all
  .rw[Ù q]
   rcases Ï.mp h with rfl|e
   .omega
   .exact Zi hn.2 e
theorem zjb{Ms:kJ}(h:RmOk Ms){t:kE}(ht:t∈AZ Ms):Ca (Ai Ms) (BB t)=Ea Ms t:=Zi h.d ht
theorem zj3(hx:x∈a)(hl:u.length=a.length):DT (a++b) (u++v) x=DT a u x:=by
 obtain⟨j,ej,hj,-⟩:=Hb hx
 have e2:CH (a++b) x=some j:=by
  unfold CH at ej ⊢
  simp_all
 unfold DT;rw[ej,e2,ü,Ô,Ô,ć (by omega)]
theorem zgk(ha:x∉a)(hx:x∈b)(hl:u.length=a.length):DT (a++b) (u++v) x=DT b v x:=by
 obtain⟨j,ej,hj,-⟩:=Hb hx
 have e1:CH a x=none:=by
  refine List.findIdx?_eq_none_iff.mpr λy hy=>?_
  omega
 have e2:CH (a++b) x=some (j+a.length):=by
  unfold CH at ej e1 ⊢;rw[List.findIdx?_append,ej,e1]
  rfl
 unfold DT;rw[ej,e2,ü,ü,Ô,Ô,ę (by omega),hl,ŗ]
def Jn:kJ->k7->Prop
 |[],[]=>True|M::Ms,s::L=>s.1∈M.nm/\s.2.length=M.ws.length/\Jn Ms L|_,_=>False
theorem Jn.len:∀{Ms} {L},Jn Ms L->Ms.length=L.length
 |[],[],_=>rfl|_::Ms,_::L,h=>congrArg (·+1) (Jn.len h.2.2)|[],_::_,h=>h.elim|_::_,[],h=>h.elim
theorem Jn.at:∀{Ms} {L},Jn Ms L->∀{i:Nat} {M} {s:Str×kF},Ms[i]?=some M->L[i]?=some s->s.1∈M.nm/\s.2.length=M.ws.length
 |[],[],_,_,_,_,h,_=>by cases h|N::Ms,v::L,h,0,M,s,e1,e2=>by
  cases e1;cases e2;exact⟨h.1,h.2.1⟩
 |N::Ms,v::L,h,i+1,M,s,e1,e2=>Jn.at h.2.2 e1 e2|[],_::_,h,_,_,_,_,_=>h.elim|_::_,[],h,_,_,_,_,_=>h.elim
theorem Jn.vlen:∀{Ms} {L},Jn Ms L->(L.flatMap (·.2)).length=(Ms.flatMap Mc.ws).length
 |[],[],_=>rfl|M::Ms,s::L,h=>by rw[ä,ä,Ø,Ø,h.2.1,Jn.vlen h.2.2]|[],_::_,h=>h.elim|_::_,[],h=>h.elim
theorem So:∀{Ms} {L},Jn Ms L->(Ms.flatMap Mc.ws).Nodup->∀{i:Nat} {M} {s:Str×kF},Ms[i]?=some M->L[i]?=some s->∀{x},x∈M.ws->DT (Ms.flatMap Mc.ws) (L.flatMap (·.2)) x=DT M.ws s.2 x
 |[],[],_,_,_,_,_,h,_,_,_=>by cases h|N::Ms,v::L,h,hn,0,M,s,e1,e2,x,hx=>by
  cases e1;cases e2;exact zj3 hx h.2.1
 |N::Ms,v::L,h,hn,i+1,M,s,e1,e2,x,hx=>by
  obtain⟨-,n2,n3⟩:=Ľ.mp hn;have hm :=Û.mpr ⟨M,Ú (i:=i) e1,hx⟩;rw[ä,ä,zgk (λq=>n3 x q x hm rfl) hm h.2.1]
  exact So h.2.2 n2 e1 e2 hx
 |[],_::_,h,_,_,_,_,_,_,_,_=>h.elim|_::_,[],h,_,_,_,_,_,_,_,_=>h.elim
theorem YJ{L:k7}(h:Jn Ms L)(hn:(Ms.flatMap Mc.ws).Nodup){i:Nat}{s:Str×kF}(e1:Ms[i]?=some M)(e2:L[i]?=some s){l:kL}(hl:Cg M.ws wd l):l.all (CK P (Ms.flatMap Mc.ws) (L.flatMap (·.2)))=l.all (CK P M.ws s.2):=by
 rw[ś]
 have q:∀t∈l,CK P (Ms.flatMap Mc.ws) (L.flatMap (·.2)) t=CK P M.ws s.2 t:=λt ht=>by
  obtain⟨x,y,n,rfl,hx,-,-⟩:=hl t ht;unfold CK;rw[So h hn e1 e2 (x:=Fs (.tup [.str x,.str y,.int n])) hx]
 simp_all
noncomputable abbrev Hy(w:Int)(L:k7):k7:=L.map λs=>(s.1,s.2.map (·+w))
theorem Jn.wait(w):∀{Ms} {L},Jn Ms L->Jn Ms (Hy w L)
 |[],[],_=>trivial|_::Ms,_::L,h=>⟨h.1,by rw[À];exact h.2.1,Jn.wait w h.2.2⟩|[],_::_,h=>h.elim|_::_,[],h=>h.elim
theorem N3(w)(L):(Hy w L).flatMap (·.2)=(L.flatMap (·.2)).map (·+w):=by
 rw[List.map_flatMap,List.flatMap_map]
theorem N2(w:Int)(L:k7):(Hy w L).map (·.1)=L.map (·.1):=by
 rw[Ü]
 rfl
theorem Jn.fold:∀{Ms} {L},Jn Ms L->∀{ts} {u},u∈ts->u++L.map (·.1)∈(Ms.map Mc.nm).foldl Bw ts
 |[],[],_,ts,u,hu=>by
  simp_all
 |M::Ms,s::L,h,ts,u,hu=>by
  have q:=Jn.fold h.2.2 (ts:=Bw ts M.nm) (Û.mpr ⟨u,hu,Ë.mpr ⟨s.1,h.1,rfl⟩⟩)
  simp_all
 |[],_::_,h,_,_,_=>h.elim|_::_,[],h,_,_,_=>h.elim
theorem Jn.tak{Ms:kJ}{L:k7}(h:Jn Ms L):L.map (·.1)∈AZ Ms:=h.fold (Í.mpr rfl)
theorem Xg{α β:Type}{f:α->β}:∀{l:List α},(l.map f).Nodup->∀{a b},a∈l->b∈l->f a=f b->a=b
 |[],_,_,_,h,_,_=>by cases h|c::l,hn,a,b,ha,hb,e=>by
  rw[Ò,Ċ]at hn
  rcases Ï.mp ha with qa|qa
  .rcases Ï.mp hb with qb|qb
   .rw[qa,qb]
   .exact absurd (qa▸e▸List.mem_map_of_mem qb) hn.1
  .rcases Ï.mp hb with qb|qb
   .simp_all
   .exact Xg hn.2 qa qb e
def DL(P:Int):kJ->k7->Prop
 |M::Ms,s::L=>Bd P M s.1 s.2=true/\DL P Ms L|_,_=>True
theorem DL.at:∀{Ms} {L},DL P Ms L->∀{i:Nat} {M} {s:Str×kF},Ms[i]?=some M->L[i]?=some s->Bd P M s.1 s.2=true
 |[],_,_,_,_,_,h,_=>by cases h|_::_,[],_,_,_,_,_,h=>by cases h|N::Ms,v::L,h,0,M,s,e1,e2=>by
  cases e1;cases e2;exact h.1
 |N::Ms,v::L,h,i+1,M,s,e1,e2=>DL.at h.2 e1 e2
theorem DL.of:∀{Ms} {L:k7},(∀(i:Nat) (M) (s:Str×kF),Ms[i]?=some M->L[i]?=some s->Bd P M s.1 s.2=true)->DL P Ms L
 |[],_,_=>trivial|_::_,[],_=>trivial|N::Ms,v::L,h=>⟨h 0 N v rfl rfl,DL.of λi M s e1 e2=>h (i+1) M s e1 e2⟩
theorem MC(hm:MsOk Ms)(hr:RmOk Ms)(h:Jn Ms L):Bd P (Ai Ms) (BB (L.map (·.1))) (L.flatMap (·.2))=true ↔ DL P Ms L:=by
 have key:∀(i:Nat) (M) (s),Ms[i]?=some M->L[i]?=some s->(Ca M s.1).all (CK P (Ms.flatMap Mc.ws) (L.flatMap (·.2)))=Bd P M s.1 s.2:=λi M s e1 e2=>
  YJ h hm.wd e1 e2 (HF (hm.m M (Ú e1)) (h.at e1 e2).1).2.2.2
 unfold Bd;rw[zjb hr h.tak];show(Ea Ms (L.map (·.1))).all (CK P (Ms.flatMap Mc.ws) (L.flatMap (·.2)))=true ↔ _
 unfold Ea;rw[List.all_flatMap,Þ];constructor
 .intro k;refine DL.of λi M s e1 e2=>?_
  have q:=k (M,s.1) (Ú (i:=i) (by rw[Ĳ];simp_all))
  rw[<- key i M s e1 e2];exact q
 .intro k x hx;obtain⟨i,hi⟩:=ķ hx;rw[Ĳ,Ä]at hi;obtain⟨e1,e2⟩:=hi;cases e3:L[i]? with
  |none=>simp_all|some s=>rw[e3]at e2;have e4 :=ì e2;rw[<- e4];rw[key i x.1 s e1 e3];exact k.at e1 e3
theorem Jn.of:∀{Ms} {L:k7},Ms.length=L.length->(∀(i:Nat) (M) (s:Str×kF),Ms[i]?=some M->L[i]?=some s->s.1∈M.nm/\s.2.length=M.ws.length)->Jn Ms L
 |[],[],_,_=>trivial|M::Ms,s::L,h,k=>⟨(k 0 M s rfl rfl).1,(k 0 M s rfl rfl).2,Jn.of (Nat.succ.inj h) λi N u e1 e2=>k (i+1) N u e1 e2⟩|[],_::_,h,_=>by cases h|_::_,[],h,_=>by cases h
theorem EC.jn{Ms:kJ}{L:k7}(h:EC Ms L):Jn Ms L:=Jn.of h.1.symm h.2
theorem Jn.pl{Ms:kJ}{L:k7}(h:Jn Ms L):EC Ms L:=⟨h.len.symm,λ_ _ _ e1 e2=>h.at e1 e2⟩
abbrev Cv(L:k7):Str×kF:=(BB (L.map (·.1)),L.flatMap (·.2))
theorem K6{n:kE}:∀{ws:kE} {vs:kF},vs.length=ws.length->(∀x∈ws,x∉n)->((ws.zip vs).map λx=>if x.1∈n then 0 else x.2)=vs
 |[],[],_,_=>rfl|[],_::_,h,_=>by cases h|_::_,[],h,_=>by cases h|w::ws,v::vs,h,k=>by
  rw[Ē,Ò,K6 (Nat.succ.inj h) λx hx=>k x (Å _ hx)]
  simp_all
theorem S9{n:kE}{e}:∀{Ms} {L},Jn Ms L->(Ms.flatMap Mc.ws).Nodup->∀{i:Nat} {M} {v:Str×kF},Ms[i]?=some M->L[i]?=some v->(∀x∈n,x∈M.ws)->(((Ms.flatMap Mc.ws).zip (L.flatMap (·.2))).map λx=>if x.1∈n then 0 else x.2)=(L.set i (e,(M.ws.zip v.2).map λx=>if x.1∈n then 0 else x.2)).flatMap (·.2)
 |[],[],_,_,_,_,_,h,_,_=>by cases h|N::Ms,u::L,h,hn,0,M,v,e1,e2,hx=>by
  cases e1;cases e2;obtain⟨-,-,n3⟩:=Ľ.mp hn;rw[ä,ä,List.zip_append h.2.1.symm,ß,List.set_cons_zero,ä,K6 h.2.2.vlen λx hm q=>n3 x (hx x q) x hm rfl]
 |N::Ms,u::L,h,hn,i+1,M,v,e1,e2,hx=>by
  obtain⟨-,n2,n3⟩:=Ľ.mp hn;rw[ä,ä,List.zip_append h.2.1.symm,ß,Η,ä,S9 h.2.2 n2 e1 e2 hx,K6 h.2.1 λx hm q=>n3 x hm x (Û.mpr ⟨M,Ú e1,hx x q⟩) rfl]
 |[],_::_,h,_,_,_,_,_,_,_=>h.elim|_::_,[],h,_,_,_,_,_,_,_=>h.elim
theorem S8{a b:kE}:∀{ws:kE} {vs:kF},((ws.zip ((ws.zip vs).map λx=>if x.1∈a then 0 else x.2)).map λx=>if x.1∈b then 0 else x.2)=(ws.zip vs).map λx=>if x.1∈a++b then 0 else x.2
 |[],_=>rfl|_::_,[]=>rfl|w::ws,v::vs=>by
  rw[Ē,Ò,Ē,Ò,S8]
  by_cases h1:w∈a
  .simp_all
  simp_all
theorem zil(e:Ms[i]?=some M)(hd:M.ds[k]?=some d):Ac (AJ Ms) i k=d:=by
 unfold Ac
 simp_all
structure WyOk(P:Int)(Ms:kJ)(y:k8)(L L':k7):Prop where
 j:Jn Ms L'
 n:L'.map (·.1)=F6 (AJ Ms) y (L.map (·.1))
 v:L'.flatMap (·.2)=((Ms.flatMap Mc.ws).zip (L.flatMap (·.2))).map λx=>if x.1∈Eg (AJ Ms) y then 0 else x.2
 l:DL P Ms L->DL P Ms L'
 g:∀p∈y,∃M v,Ms[p.1]?=some M/\L[p.1]?=some v/\Ac (AJ Ms) p.1 p.2∈M.ds/\(Ac (AJ Ms) p.1 p.2).s=v.1/\(Ac (AJ Ms) p.1 p.2).g.all (CK P M.ws v.2)=true
theorem Si{Ms:kJ}(hm:MsOk Ms):∀{y} {L L':k7},(y.map (·.1)).Nodup->Jn Ms L->Gf P Ms y L=some L'->WyOk P Ms y L L'
 |[],L,L',_,hj,e=>by
  cases e;exact⟨hj,rfl,(K6 hj.vlen λ_ _ q=>by cases q).symm,id,λ_ q=>by cases q⟩
 |(i,k)::y,L,L',hn,hj,e=>by
  rw[Ò,Ċ]at hn;obtain⟨n1,n2⟩:=hn;obtain⟨s',e0,e⟩:=ŏ.mp e;obtain⟨M,eM,e0⟩:=ŏ.mp e0;obtain⟨v,ev,e0⟩:=ŏ.mp e0;obtain⟨d,ed,e0⟩:=ŏ.mp e0;have hd:=Ú ed;have ea:=zil eM ed;have j1:=(Yl hm.m hj.pl eM ev hd e0).jn;have D:=(hm.m M (Ú eM)).d d hd;obtain⟨il,-⟩:=Õ.mp ev;have W:=Si hm n2 j1 e;unfold E4 at e0;split at e0
  .rename_i c;cases e0;have pv:=S9 (e:=d.e) hj hm.wd eM ev D.n;refine⟨W.j,?_,?_,λhl=>W.l (DL.of λj N u f1 f2=>?_),λp hp=>?_⟩
   .rw[W.n,š];show _=F6 (AJ Ms) y ((L.map (·.1)).set i (Ac (AJ Ms) i k).e);rw[ea]
   .rw[W.v];unfold Ci;rw[<- pv,S8];show _=List.map (λx:Str×Int=>if x.1∈(Ac (AJ Ms) i k).n++Eg (AJ Ms) y then 0 else x.2) _
    rw[ea]
   .by_cases q:i=j
    .subst q;cases eM.symm.trans f1;rw[í il]at f2;cases f2;exact c.2.2
    .rw[ã q]at f2;exact hl.at f1 f2
   .rcases Ï.mp hp with rfl|hp
    .exact⟨M,v,eM,ev,by rw[ea];exact hd,by rw[ea];exact c.1,by rw[ea];exact c.2.1⟩
    .obtain⟨N,u,g1,g2,g3⟩:=W.g p hp;rw[ã (λq=>n1 (Ë.mpr ⟨p,hp,q.symm⟩))]at g2
     exact⟨N,u,g1,g2,g3⟩
  .cases e0
theorem Yi(h:y∈DI D):∃i k,i<D.length/\k<(D.getD i []).length/\y∈CN D i k:=by
 obtain⟨i,hi,h⟩:=Û.mp h;obtain⟨k,hk,h⟩:=Û.mp h;exact⟨i,k,â.mp hi,â.mp hk,h⟩
theorem Yg(h:y∈DI D):FG D y/\(y.map (·.1)).Nodup/\y≠[]:=by
 obtain⟨i,k,h1,h2,h3⟩:=Yi h;obtain⟨hs,-,sh⟩:=Jf h1 h2 h3;refine⟨hs,?_⟩
 rcases sh with rfl|⟨j,m,ne,rfl⟩
 .simp_all
 .exact⟨Ċ.mpr ⟨λq=>ne (Í.mp q).symm,Ċ.mpr ⟨ï,List.nodup_nil⟩⟩,ſ _ _⟩
theorem zpe:(CN D i k).Nodup:=by
 unfold CN;split
 .simp_all
 .split
  .simp_all
  .refine Ě.mpr ⟨λj _=>Ě.mpr ⟨λm _=>?_,Ł.imp λ hab x hx y hy e=>hab ?_⟩,Ł.imp λ hab x hx y hy e=>hab ?_⟩
   .split
    .simp_all
    simp_all
   .simp_all
   .obtain⟨m,-,hx⟩:=Û.mp hx
    simp_all
theorem MO(h1:i<D.length)(h2:k<(D.getD i []).length)(h:y∈CN D i k):y.head?=some (i,k):=by
 rcases(Jf h1 h2 h).2.2 with rfl|⟨j,m,-,rfl⟩<;>rfl
theorem HS{n:Nat}:∀k∈List.range n,k<n:=λ_ h=>â.mp h
theorem Om{α:Type}{R S}:∀{l:List α},l.Pairwise R->(∀a∈l,∀b∈l,R a b->S a b)->l.Pairwise S
 |[],_,_=>.nil|a::l,h,k=>by
  obtain⟨h1,h2⟩:=List.pairwise_cons.mp h;exact List.pairwise_cons.mpr ⟨λb hb=>k a (Ã ..) b (Å _ hb) (h1 b hb),Om h2 λx hx y hy=>k x (Å _ hx) y (Å _ hy)⟩
theorem Kb(h:x∈GD D ts i k):x.1∈CN D i k:=by
 obtain⟨s,hs,h⟩:=Û.mp h;obtain⟨t,-,rfl⟩:=Ë.mp h;exact hs
theorem zm2(ht:ts.Nodup):(BJ D ts).Nodup:=by
 have a1:∀s,(DM D ts s).Nodup:=λs=>ľ.mpr ((ht.filter _).imp λ hab e=>hab (Prod.mk.inj e).2)
 have a2:∀i k,(GD D ts i k).Nodup:=λi k=>Ě.mpr ⟨λs _=>a1 s,zpe.imp λ hab x hx y hy e=>hab (by
  obtain⟨t,-,rfl⟩:=Ë.mp hx;obtain⟨t',-,rfl⟩:=Ë.mp hy
  omega)⟩
 have a3 :=λi hi=>Ě.mpr ⟨λk _=>a2 i k,Om Ł λa ha b hb hab x hx y hy e=>hab (by
  have g1:=MO hi (HS _ ha) (Kb hx);have g2:=MO hi (HS _ hb) (Kb hy)
  omega)⟩
 exact Ě.mpr ⟨λi hi=>a3 i (HS _ hi),Om Ł λa ha b hb hab x hx y hy e=>hab (by
  obtain⟨k,hk,hx⟩:=Û.mp hx;obtain⟨k',hk',hy⟩:=Û.mp hy;have g1:=MO (HS _ ha) (HS _ hk) (Kb hx);have g2:=MO (HS _ hb) (HS _ hk') (Kb hy)
  omega)⟩
theorem zih{α:Type}{W:List α}{x}(hn:W.Nodup)(hx:x∈W)(hp:∀k a,W[k]?=some a->(p k=true ↔ a=x)):∃n,W[n]?=some x/\(List.range W.length).filter p=[n]:=by
 obtain⟨n,en⟩:=ķ hx;obtain⟨nl,-⟩:=Õ.mp en;refine⟨n,en,?_⟩
 have all:∀k∈(List.range W.length).filter p,k=n:=λk hk=>by
  obtain⟨h1,h2⟩:=ý.mp hk;have kl:=â.mp h1;have ek:=Â kl;rw[(hp k _ ek).mp h2]at ek;exact(List.getElem?_inj kl hn).mp (ek.trans en.symm)
 have mem :=ý.mpr ⟨â.mpr nl,(hp n x en).mpr rfl⟩;have nd:((List.range W.length).filter p).Nodup:=Ł.filter _;generalize (List.range W.length).filter p=l at *
 match l,all,mem,nd with
 |[a],all,_,_=>simp_all|a::b::l,all,_,nd=>simp_all
theorem zgt{P:Int}(hm:MsOk Ms)(hr:RmOk Ms)(h:Jn Ms L)(w0:0<=w){y:k8}(hy:y∈DI (AJ Ms))(lw:DL P Ms (Hy w L))(W:WyOk P Ms y (Hy w L) L'):(y,L.map (·.1))∈BJ (AJ Ms) (AZ Ms)/\∀n:Nat,(BJ (AJ Ms) (AZ Ms))[n]?=some (y,L.map (·.1))->Cz P (Ai Ms) (Cv L) (w,some (n:Int)) true=some (Cv L'):=by
 have hw:=h.wait w
 have gs:∀p∈y,(Ac (AJ Ms) p.1 p.2).s=(L.map (·.1)).getD p.1 ("":Str):=λp hp=>by
  obtain⟨M,v,-,e2,-,e4,-⟩:=W.g p hp;rw[e4,<- N2 w L,Ô,Ä,e2]
  rfl
 constructor
 .obtain⟨i,k,h1,h2,h3⟩:=Yi hy;refine Û.mpr ⟨i,â.mpr h1,Û.mpr ⟨k,â.mpr h2,Û.mpr ⟨y,h3,Ë.mpr ⟨_,ý.mpr ⟨h.tak,Þ.mpr λp hp=>Ñ (gs p hp)⟩,rfl⟩⟩⟩⟩
 .intro n en
  have ed:(Ai Ms).ds[n]?=some (Bs (AJ Ms) (y,L.map (·.1))):=by
   rw[show(Ai Ms).ds=(BJ (AJ Ms) (AZ Ms)).map (Bs (AJ Ms)) from rfl,Ä,en]
   rfl
  obtain⟨nl,-⟩:=Õ.mp ed;have ee:(Ai Ms).ds.getD n d0=Bs (AJ Ms) (y,L.map (·.1)):=by rw[Ô,ed];rfl
  have l1:=(MC hm hr hw).mpr lw;rw[N2,N3]at l1;have nn:=W.n;rw[N2]at nn;have nv:=W.v;rw[N3]at nv;have l2:=(MC hm hr W.j).mpr (W.l lw);rw[nn,nv]at l2
  have gd:(Fx (AJ Ms) y).all (CK P (Ms.flatMap Mc.ws) ((L.flatMap (·.2)).map (·+w)))=true:=by
   rw[Þ];intro t ht;obtain⟨p,hp,ht⟩:=Û.mp ht;obtain⟨M,v,e1,e2,e3,-,e5⟩:=W.g p hp;have D:=(hm.m M (Ú e1)).d _ e3;rw[<- YJ hw hm.wd e1 e2 D.g,N3,Þ]at e5;exact e5 t ht
  unfold Cz;rw[if_pos ⟨w0,l1⟩];show GB P (Ai Ms) (BB (L.map (·.1))) ((L.flatMap (·.2)).map (·+w)) n true=_
  unfold GB;rw[if_pos ⟨by omega,by omega⟩,Ι,ee,if_pos ⟨rfl,λ_=>rfl,gd,l2⟩]
  unfold Cv;rw[nn,nv]
  rfl
theorem ziz(h:Bd P M v.1 v.2=true):Cz P M v (0,none) al=some v:=by
 have q:v.2.map (·+0)=v.2:=by
  simp_all
 unfold Cz
 omega
theorem VU:∀{ws} {i} {s} {l},CF P M al i s ws=.inl l->Cz P M (l.getLastD s) w al=some s'->CF P M al i s (ws++[w])=.inl (l++[s'])
 |[],i,s,l,e,hb=>by
  cases e;show CF P M al i s [w]=.inl [s'];unfold CF;rw[show Cz P M s w al=some s' from hb]
  rfl
 |x::ws,i,s,l,e,hb=>by
  rw[Œ];unfold CF at e ⊢;cases q:Cz P M s x al with
  |none=>omega|some s1=>
   rw[q]at e;dsimp only at e ⊢;cases r:CF P M al (i+1) s1 ws with
   |inr k=>omega|inl l1=>
    rw[r]at e;cases e;rw[VU r (by rw[List.getLastD_cons]at hb;exact hb)]
    rfl
theorem Yx:∀{Ms:kJ},(∀M∈Ms,M.nm≠[])->∀(u) (ts),∃r,(Ms.map Mc.nm).foldl Bw (u::ts)=(u++Ms.map λM=>M.nm.headD "")::r
 |[],_,u,ts=>⟨ts,by simp_all⟩|M::Ms,h,u,ts=>by
  obtain⟨a,rs,e⟩:=ū (h M (Ã ..))
  have q:Bw (u::ts) M.nm=(u++[a])::(rs.map (λr=>u++[r])++Bw ts M.nm):=by
   unfold Bw
   simp_all
  obtain⟨r,er⟩:=Yx (λN hN=>h N (Å _ hN)) (u++[a]) (rs.map (λr=>u++[r])++Bw ts M.nm)
  simp_all
theorem Xd(h:McOk M):M.nm≠[]:=λz=>by
 have:=h.r.l1;have q:=congrArg List.length z;rw[show M.nm.length=M.rs.length from À _,å]at q
 omega
theorem zgw(hm:MsOk Ms):Ad (Ai Ms)=Cv (Ms.map Ad):=by
 obtain⟨r,e⟩:=Yx (λM hM=>Xd (hm.m M hM)) [] []
 have e2:(Ai Ms).nm=(AZ Ms).map BB:=by
  show((AZ Ms).map λt=>(BB t,Ea Ms t)).map (·.1)=_
  simp_all
 have e3:AZ Ms=(Ms.map λM=>M.nm.headD "")::r:=e
 unfold Ad;rw[e2,e3];refine Prod.ext ?_ ?_
 .show BB (Ms.map λM=>M.nm.headD "")=BB ((Ms.map Ad).map (·.1))
  rw[Ü]
  rfl
 .show(Ms.flatMap Mc.ws).map (λ_=>0)=(Ms.map Ad).flatMap (·.2)
  rw[List.map_flatMap,List.flatMap_map]
  rfl
theorem zp2(hm:∀M∈Ms,McOk M):Jn Ms (Ms.map Ad):=Jn.of (by simp_all) λi M v e1 e2=>by
 rw[Ä,e1]at e2;cases e2;obtain⟨a,rs,e⟩:=ū (Xd (hm M (Ú e1)));refine⟨?_,À ..⟩;show M.nm.headD ""∈M.nm
 simp_all
theorem zor(p1:0<P)(hm:∀M∈Ms,McOk M)(hn:∀M∈Ms,∀r∈M.rs,∀t∈r.2,0<DR t):DL P Ms (Ms.map Ad):=DL.of λi M v e1 e2=>by
 rw[Ä,e1]at e2;cases e2;have q:=Ú e1;exact leg0 p1 (hm M q) (hn M q) _
abbrev OM:Stmt:=AN 83
def RS:AI:=
 (AS NL (AB (AA 0) AE))
def RV:AI:=
 (mC (.int 0))
def RU:AI:=
 (B7 (AB (AL (AL (AL (AA 0) (mC (.int 1))) (mC (.int 0))) (mC (.int 0))) (AB (BU 1 [] (BE (AL (AA 0) (mC (.int 0)))) (AD 0) (mC (.bl true)) RV) AE)))
def QK:AI:=
 (CA (m2 Be (Bl BC BH 0 (AL (AA 1) (AA 0))) (AA 2)) (m2 Be (AL (AA 3) (AA 0)) (AA 4)))
def RT:AI:=
 (AA 0)
def GG:AH:=
 (AG (AW (AS KO (AB (AA 3) (AB (AA 9) (AB (AA 8) (AB (AA 12) (AB (AA 1) (AB (AA 2) AE))))))) (Ax 3 (AM (AD 14) (AM (AD 15) (AM (AD 16) Az)))))
 (AG (AW (mC .non) (AD 13))
 (AG (Aj (m2 Bz (AA 15) (BN AE)) (AG (AW (AL (AL (AA 11) (m1 Ds (mC (.int 1)))) (mC (.int 0))) (AD 17))
 (AG (AW (BU 1 [7,17,6,15] (C8 (AB (m1 B9 (AA 7)) AE)) (AD 0) QK RT) (AD 18))
 (AG (Aj (m2 Bz (m1 B9 (AA 18)) (mC (.int 1))) (AU (mC (.bl false))) Ah)
 (AW (AL (AA 18) (mC (.int 0))) (AD 13))))) Ah)
 (AG (AW (AA 16) (AD 8))
 (AG (DA 10 (B7 (AB (AS KN (AB (AA 14) (AB (AA 2) AE))) (AB (AA 13) AE))))
 (DA 11 (AS Hu (AB (AA 8) (AB (AA 2) AE)))))))))
def Ll:AH:=
 (AG (AW (AL (BN (BK (mC (.int 1)) (BK (m2 Bb (mC (.int 1)) (m2 B0 (m2 C9 (AS FI (AB (AA 0) (AB (mC (.int 2)) AE))) (mC (.int 3))) (m2 GQ (mC (.int 10)) (mC (.int 40))))) AE))) (m2 B0 (AS FI (AB (AA 0) (AB (mC (.int 2)) AE))) (mC (.int 2)))) (AD 1))
 (AG (AW (AL (BN (BK (mC (.int 1)) (BK (mC (.int 12)) (BK (mC (.int 7)) (BK (mC (.int 30)) AE))))) (m2 B0 (m2 C9 (AS FI (AB (AA 0) (AB (mC (.int 2)) AE))) (mC (.int 2))) (mC (.int 4)))) (AD 2))
 (AG (AW (AS NJ (AB (AA 0) (AB (AA 1) AE))) (AD 3))
 (AG (AW (BU 1 [] (BE (AA 3)) (AD 0) (mC (.bl true)) RS) (AD 4))
 (AG (AW (mC .non) (AD 5))
 (AG (II N0 (AW (AS Im (AB (m1 CQ (AA 4)) AE)) (AD 5)) (AG (AW (mC .non) (AD 5)) Ah))
 (AG (Aj (m2 (Dd false) (AA 5) (mC .non)) (AU (mC (.bl true))) Ah)
 (AG (AW (AS Hr (AB (m1 CQ (AA 4)) AE)) (AD 6))
 (AG (AW (CZ Au Ay E8 (AA 5) AE) (AD 7))
 (AG (AW (BU 1 [] (BE (AA 3)) (AD 0) (mC (.bl true)) RU) (AD 8))
 (AG (AW (AS NN (AB (AA 3) AE)) (AD 9))
 (AG (CW 10 (BN AE))
 (AG (CW 11 (BN (BK (AS Hu (AB (AA 8) (AB (AA 2) AE))) AE)))
 (AG (BZ (BE (Cn (Du (AA 0) (some (mC (.int 6))) (some (mC (.int 18)))) (D0 (AA 0) (some (mC (.int 6))) (some (mC (.int 18)))))) (AD 12) GG)
 (AG (Dn 10) (AG (Aj (Bk (m2 Bz (AS (gD [(.bl true)] Io) (AB (AA 5) (AB (m1 CQ (AA 10)) AE))) (AA 11)) (m2 Bz (AS (gD [(.bl true)] Jx) (AB (AA 5) (AB (m1 CQ (AA 10)) AE))) (AL (AA 11) (m1 Ds (mC (.int 1)))))) (AU (mC (.bl false))) Ah)
 (AG (Dn 10) (AU (AS NH (AB (AA 5) (AB (AA 10) (AB (AS FI (AB (AA 0) (AB (mC (.int 18)) AE))) AE))))))))))))))))))))))
def SE:kL->Option Ru:=Aa 1 19 Ll
abbrev zpj:Fn:=⟨13,["_law_script"],SE⟩
abbrev zpd:Gx:={ Bn with cl:=[("Door",BC,BH)],mt:=[("doors",Au,Ay,Ie)],xs:=[("TooMany",N0)],dn:=[("stands",Q0,[(.bl true)]),("walked",QY,[(.bl true)])] }
abbrev zpg:Gm:=gA ["_law_script","_law_unit","_law_parts_here","_law_plans","_law_machines","_law_whole","_law_told","_law_doors","_law_places","_law_ways","_law_run","_law_due","_law_cell","_law_number","_law_wait","_law_way","_law_after","_law_room","_law_fits"] OM 12 [("_law_cell_at",Qg),("_law_parts",Z3),("_law_machine",Z6),("together",ZC),("shares",ZJ),("_law_goers",Z9),("_law_as_one",Zd),("_law_drawn",Zb),("_law_fraction",Qf),("_law_turned",Z0)] ["list","range","len"] ["_law_run","_law_due"] ["_law_told","_law_doors","_law_way","_law_room"] (ox:=zpd)
theorem zpq:Ck zpg zpj OM Ll:={}
theorem zj4(c:Int):∃u,0<=u/\A5 [T.int 1,T.int (1+(c.fdiv 3).fmod (10 ^ 40))] (c.fmod 2)=some (.int u):=by
 obtain⟨u,hu,e⟩:=Eh [1,1+(c.fdiv 3).fmod (10 ^ 40)] (by simp) c
 refine⟨u,?_,Ep T.int e⟩;erw[Ï,ï]at hu
 omega
theorem zhj(c:Int):∃P,0<P/\P<=100/\A5 [T.int 1,T.int 12,T.int 7,T.int 30] (c.fmod 4)=some (.int P):=by
 obtain⟨P,hP,e⟩:=Eh [(1:Int),12,7,30] (by simp) c
 refine⟨P,?_,?_,Ep T.int e⟩ <;>
 .erw[Ï,ï]at hP
  omega
theorem Ti(P)(hn:CU ns)(h:s.1∈ns):Fit (Ak P s) 3:=Fit.tup λt ht=>by
 erw[Ï,ï,þ]at ht
 rcases ht with rfl|rfl
 .exact Fit.str (hn _ h) _
 .refine Fit.nd λu hu=>?_
  obtain⟨v,-,rfl⟩:=Ë.mp hu;exact Fit.fr _ _
theorem zjd(P){l:k7}(hn:CU ns)(h:∀s∈l,s.1∈ns):Fit (.nd o .lst (l.map (Ak P))) 4:=Fit.nd λt ht=>by
 obtain⟨s,hs,rfl⟩:=Ë.mp ht;exact Ti P hn (h s hs)
theorem zmr(W:List (k8×kE)):Bc (W.map λw=>Dm w.1)=(W.map (·.1)).map BA:=by
 rw[DW,Ü,Ü];refine ĥ λw _=>?_
 have:=DP w.1;show T.share (Dm w.1)=BA w.1
 simp![AF _ this]
theorem zjh(Y:List (k8)):Bc (Y.map Dm)=Y.map BA:=by
 rw[DW,Ü];refine ĥ λy _=>?_
 have:=DP y;show T.share (Dm y)=BA y
 simp![AF _ this]
theorem Vl(s):Fit (BA s) 2:=Fit.nd λt ht=>by
 obtain⟨p,-,rfl⟩:=Ë.mp ht
 exact Fit.tup λu hu=>by
  erw[Ï,ï,þ]at hu
  rcases hu with rfl|rfl<;>exact Fit.int _ _
theorem Vm:∀{s y:k8},Bi (s.map Dp)=Bi (y.map Dp)->s=y
 |[],[],_=>rfl|[],_::_,h=>by cases h|_::_,[],h=>by cases h|(a,b)::s,(c,d)::y,h=>by
  injection h with h1 h2
  have h1:PyData.tuple [.int a,.int b]=PyData.tuple [.int c,.int d]:=h1;injection h1 with h1
  injection h1 with e1 h1
  injection h1 with e2 h1
  injection e1 with e1
  injection e2 with e2
  rw[Vm h2,ń e1,ń e2]
theorem Qn(s y):Be (BA s) (BA y)=some (.bl (decide (s=y)))/\Bz (BA s) (BA y)=some (.bl (!decide (s=y))):=by
 obtain⟨h1,h2⟩:=Qo (Vl s) (Vl y) (by decide)
 by_cases e:s=y
 .omega
 .have ne:¬ (BA s).data=(BA y).data:=λq=>e (Vm (by
   injection q))
  omega
theorem Py{α:Type}:∀(l) (a:α),(a::l)[l.length]?=some (l.getLastD a)
 |[],_=>rfl|b::l,a=>by rw[Ý,Ū,Py l b,List.getLastD_cons]
theorem YQ{α:Type}(f:α->T)(l)(a):A5 ((a::l).map f) (-1)=some (f (l.getLastD a)):=by
 rw[bW (by simp_all) (f a),À,Ý,ŗ,Ô,Ä,Py l a]
 rfl
theorem zi1(d):Bu BC BH (AO d)=some [.str d.s,.str d.e,.lst d.g,.lst (d.n.map T.str),.str d.z]:=(show Bu BC BH (AO d)=(if BC=BC/\BH=BH then some [.str d.s,.str d.e,.lst d.g,.lst (d.n.map T.str),.str d.z] else none) from rfl).trans (if_pos ⟨rfl,rfl⟩)
def Jj(r:Str)(y:k8)(W:List (k8×kE))(k:Nat):Bool:=decide (BB (W.getD k ([],[])).2=r) && decide ((W.getD k ([],[])).1=y)
theorem lc23(hn:CU ns)(hW:∀x∈W,BB x.2∈ns)(hr:r∈ns)(y:k8)(sd:Aq ((W.map (Bs D)).map AO)=true):Ba (AD 0) QK RT ((List.range W.length).map λ(k:Nat)=>T.int k) [none,some (.lst ((W.map (Bs D)).map AO)),some (.str r),some (.lst ((W.map (·.1)).map BA)),some (BA y)]=some (((List.range W.length).filter (Jj r y W)).map λ(k:Nat)=>T.int k):=
 IT (λ(k:Nat)=>T.int k) (λk=>T.int k) (Jj r y W) (λτ=>∃x,τ=[x,some (.lst ((W.map (Bs D)).map AO)),some (.str r),some (.lst ((W.map (·.1)).map BA)),some (BA y)]) (List.range W.length) _ ⟨none,rfl⟩ λk hk τ hI=>by
  obtain⟨x,rfl⟩:=hI;have kl:=â.mp hk;have eg:W.getD k ([],[])=W[k]:=by rw[Ô,Â kl];rfl
  have a1:A5 ((W.map (Bs D)).map AO) k=some (AO (Bs D W[k])):=CB (by simp_all)
  have a2:A5 ((W.map (·.1)).map BA) k=some (BA W[k].1):=CB (by simp_all)
  have ii:Bu BC BH (AO (Bs D W[k]))=some [.str (BB W[k].2),.str (Bs D W[k]).e,.lst (Bs D W[k]).g,.lst ((Bs D W[k]).n.map T.str),.str (Bs D W[k]).z]:=zi1 _;have q:=E5 (hn _ (hW _ (ê kl))) (hn r hr);obtain⟨q2,-⟩:=Qn W[k].1 y;have ss:=HI (W.map (·.1));have py:=DP y;have pw:=DP W[k].1;have dsh:=zjj sd (show((W.map (Bs D)).map AO)[k]?=some (AO (Bs D W[k])) by simp_all)
  refine⟨[some (.int k),some (.lst ((W.map (Bs D)).map AO)),some (.str r),some (.lst ((W.map (·.1)).map BA)),some (BA y)],false,by simp![],?_,λ_=>(by unfold RT;simp![]),_,rfl⟩
  unfold QK Jj;rw[eg];generalize AO (Bs D W[k])=X at *;exact Mi (b:=false) (by simp![-Bu,sd,AF _ sd,a1,ii,q,dsh,Ap _ dsh]) (by simp![ss,AF _ ss,a2,py,AF _ py,pw,AF _ pw,q2])
abbrev sX(ns:kF)(u P:Int)(Ms:kJ)(WW:T)(W:List (k8×kE))(L:k7)(ws:List (Int×kA))(l:k7)(x12 x13 x14 x15 x16 x17 x18:kH):AK:=[some (Cs ns),some (.int u),some (.int P),some (.lst (Ms.map BI)),some (.lst (Ms.map AQ)),some WW,some (.lst ((W.map (·.1)).map BA)),some (.lst ((W.map (Bs (AJ Ms))).map AO)),some (.lst (L.map BG)),some (.lst ((DI (AJ Ms)).map BA)),some (.own (ws.map (BY P))),some (.own (l.map (Ak P))),x12,x13,x14,x15,x16,x17,x18]
structure RnOk(P:Int)(Ms:kJ)(L:k7)(ws:List (Int×kA))(l:k7):Prop where
 j:Jn Ms L
 g:DL P Ms L
 r:CF P (Ai Ms) true 0 (Ad (Ai Ms)) ws=.inl l
 e:l.getLastD (Ad (Ai Ms))=Cv L
 n:∀s∈Ad (Ai Ms)::l,s.1∈(Ai Ms).nm
theorem QD(h:Jn Ms L):BB (L.map (·.1))∈(Ai Ms).nm:=by
 show BB (L.map (·.1))∈((AZ Ms).map λt=>(BB t,Ea Ms t)).map (·.1)
 rw[Ü];exact Ë.mpr ⟨_,h.tak,rfl⟩
theorem RnOk.snoc{P:Int}{Ms:kJ}{l:k7}(h:RnOk P Ms L ws l)(hj:Jn Ms L')(hg:DL P Ms L')(hb:Cz P (Ai Ms) (Cv L) w true=some (Cv L')):RnOk P Ms L' (ws++[w]) (l++[Cv L']):=⟨hj,hg,VU h.r (by rw[h.e];exact hb),by simp_all,λs hs=>by
 rcases Ï.mp hs with rfl|hs
 .exact h.n _ (Ã ..)
 .rcases ë.mp hs with hs|hs
  .exact h.n s (Å _ hs)
  .rw[Í.mp hs];exact QD hj⟩
theorem zl6(h:(Ms.zip L).all (λx=>Bd P x.1 x.2.1 (x.2.2.map (·+w)))=true):DL P Ms (Hy w L):=DL.of λi M s e1 e2=>by
 rw[Ä]at e2;obtain⟨v,ev,rfl⟩:=à.mp e2;exact Þ.mp h (M,v) (Ú (Ĳ.mpr ⟨e1,ev⟩))
theorem sif_t(h:c τ=some (.v (.bl true) x))(h2:a τ=r):Aj c a b τ=r:=by
 unfold Aj
 omega
theorem Ry(p1:0<P)(p2:P<=100)(hm:MsOk Ms)(hr:RmOk Ms){L:k7}(j:Jn Ms L):Hu [.lst (L.map BG),.int P]=some (.ok (Ak P (Cv L))):=ao_ok p1 p2 (by rw[<- j.len];exact hm.l6) (λs hs=>by
  obtain⟨i,ei⟩:=ķ hs;obtain⟨il,-⟩:=Õ.mp ei;have im:i<Ms.length:=by rw[j.len];exact il
  exact hr.s _ (ê im) _ (j.at (Â im) ei).1) (by have:=j.vlen;have:=hm.wl;omega)
def za:AH :=
 (Aj (m2 Bz (AA 15) (BN AE)) (AG (AW (AL (AL (AA 11) (m1 Ds (mC (.int 1)))) (mC (.int 0))) (AD 17)) (AG (AW (BU 1 [7,17,6,15] (C8 (AB (m1 B9 (AA 7)) AE)) (AD 0) QK RT) (AD 18)) (AG (Aj (m2 Bz (m1 B9 (AA 18)) (mC (.int 1))) (AU (mC (.bl false))) Ah) (AW (AL (AA 18) (mC (.int 0))) (AD 13))))) Ah)
theorem zd{x0 x1 x2 x3 x4 x5 x6 x7 x8 x9 x10 x11 x12 x13 x14 x16 x17 x18:kH}:za [x0,x1,x2,x3,x4,x5,x6,x7,x8,x9,x10,x11,x12,x13,x14,some (.lst []),x16,x17,x18]=some (.nx [x0,x1,x2,x3,x4,x5,x6,x7,x8,x9,x10,x11,x12,x13,x14,some (.lst []),x16,x17,x18]):=by
 have n0:Bz (.lst []) (.lst [])=some (.bl false):=(Qn [] []).2
 unfold za;simp![n0]
theorem zb{G G0 N:T}{u P c w:Int}{A3 A8 A9 A10 A11 B8 B10 B11 Y:kL}{x0 x4 x5 x6 x7 y13 y14 y15 y16 y17 y18 z17 z18:kH}(sp:Aq A3=true)(sy:Aq A9=true)(ss:Aq A8=true)(sF:Aq B8=true)(py:Aq Y=true)(f0:G0.sh=true)(f1:N.sh=true)(sa:G.sh=true)(ll2:A11.length<100000)(wl2:A10.length<100000)(e2:B11=A11++[G])(et:KO [.lst A3,.lst A9,.lst A8,.int c,.int u,.int P]=some (.ok (.tup [.int w,.lst Y,.lst B8])))(lf:KN [.int w,.int P]=some (.ok G0))(ao:Hu [.lst B8,.int P]=some (.ok G))(e1:B10=A10++[.tup [G0,N]])(hi:za [x0,some (.int u),some (.int P),some (.lst A3),x4,x5,x6,x7,some (.lst A8),some (.lst A9),some (.own A10),some (.own A11),some (.int c),some .non,some (.int w),some (.lst Y),some (.lst B8),y17,y18]=some (.nx [x0,some (.int u),some (.int P),some (.lst A3),x4,x5,x6,x7,some (.lst A8),some (.lst A9),some (.own A10),some (.own A11),some (.int c),some N,some (.int w),some (.lst Y),some (.lst B8),z17,z18])):GG [x0,some (.int u),some (.int P),some (.lst A3),x4,x5,x6,x7,some (.lst A8),some (.lst A9),some (.own A10),some (.own A11),some (.int c),y13,y14,y15,y16,y17,y18]=some (.nx [x0,some (.int u),some (.int P),some (.lst A3),x4,x5,x6,x7,some (.lst B8),some (.lst A9),some (.own B10),some (.own B11),some (.int c),some N,some (.int w),some (.lst Y),some (.lst B8),z17,z18]):=by
 subst e1 e2;unfold GG
 refine sq (by simp![sp,AF _ sp,sy,AF _ sy,ss,AF _ ss,et,sF,AF _ sF,py,AF _ py];rfl) ?_
 refine sq (by simp![];rfl) ?_
 refine sq hi ?_
 refine sq (by simp![sF,AF _ sF];rfl) ?_
 refine sq (by simp![lf,f0,Ap _ f0,f1,Ap _ f1,wl2];rfl) ?_
 simp![ao,sa,Ap _ sa,sF,AF _ sF,ll2]
theorem zc{A6 A7 A11 VP Y:kL}{JN:Str}{WN n:Nat}{x0 x1 x2 x3 x4 x5 x8 x9 x10 x12 x14 x16 x17 x18:kH}(py:Aq Y=true)(n1:Bz (.lst Y) (.lst [])=some (.bl true))(sd:Aq A7=true)(s6:Aq A6=true)(sv:Aq VP=true)(la:A5 A11 (-1)=some (.tup [.str JN,.lst VP]))(o1:DE ((WN:Nat):Int)=true)(wl3:WN<=100000)(l7:A7.length=WN)(lc:Ba (AD 0) QK RT ((List.range WN).map λ(k:Nat)=>T.int (k:Int)) [none,some (.lst A7),some (.str JN),some (.lst A6),some (.lst Y)]=some ([n].map λ(k:Nat)=>T.int (k:Int))):za [x0,x1,x2,x3,x4,x5,some (.lst A6),some (.lst A7),x8,x9,x10,some (.own A11),x12,some .non,x14,some (.lst Y),x16,x17,x18]=some (.nx [x0,x1,x2,x3,x4,x5,some (.lst A6),some (.lst A7),x8,x9,x10,some (.own A11),x12,some (.int (n:Int)),x14,some (.lst Y),x16,some (.str JN),some (.lst [.int (n:Int)])]):=by
 have er0:∀n,DO 0 n=(List.range n).map λ(k:Nat)=>T.int (k:Int):=λn=>EJ
 have neg:(-(1:Int))=-1:=rfl
 unfold za;refine sif_t (x:=false) (by simp![py,AF _ py,n1]) ?_
 refine sq (by simp![neg,la,sv];rfl) ?_
 refine sq (by simp![sd,AF _ sd,l7,o1,er0,À,ô,wl3,s6,AF _ s6,py,AF _ py,lc];rfl) ?_
 refine C6 (by simp![Dt]) ?_
 simp![]
theorem zg7{P u:Int}(p1:0<P)(p2:P<=100)(u0:0<=u){Ms:kJ}(hm:MsOk Ms)(hr:RmOk Ms)(hl:Ms.length<=3)(h5:(DI (AJ Ms)).length<=1000)(ht:(AZ Ms).Nodup)(hw:(BJ (AJ Ms) (AZ Ms)).length<=200)(hk:McOk (Ai Ms)){ns:kF}{WW:T}{L:k7}{ws:List (Int×kA)}{l:k7}(h:RnOk P Ms L ws l)(wl:ws.length<1000)(ll:l.length<1000)(c:Int)(y13 y14 y15 y16 y17 y18:kH):∃L' w l' z13 z14 z15 z16 z17 z18,RnOk P Ms L' (ws++[w]) (l++[l'])/\GG (sX ns u P Ms WW (BJ (AJ Ms) (AZ Ms)) L ws (Ad (Ai Ms)::l) (some (.int c)) y13 y14 y15 y16 y17 y18)=some (.nx (sX ns u P Ms WW (BJ (AJ Ms) (AZ Ms)) L' (ws++[w]) (Ad (Ai Ms)::(l++[l'])) (some (.int c)) z13 z14 z15 z16 z17 z18)):=by
 have sp:=GP hm.m;have sy:=HI (DI (AJ Ms));have ss:=GS L;obtain⟨t,et,hd⟩:=zij p1 p2 u0 c hm.m hl h.j.pl (λy hy=>(Yg hy).1) h5
 have wl2:(ws.map (BY P)).length<100000:=by rw[À];omega
 have ll2:((Ad (Ai Ms)::l).map (Ak P)).length<100000:=by rw[À];omega
 have e3 F:(Ad (Ai Ms)::(l++[Cv F])).map (Ak P)=(Ad (Ai Ms)::l).map (Ak P)++[Ak P (Cv F)]:=by rw[<- Œ,ß];rfl
 rcases hd with rfl|⟨w,y,F,w0,hy,es,rfl⟩
 .exact⟨L,(0,none),Cv L,some .non,some (.int 0),some (.lst []),some (.lst (L.map BG)),y17,y18,h.snoc h.j h.g (ziz (v:=Cv L) (al:=true) ((MC (P:=P) hm hr h.j).mpr h.g)),zb sp sy ss ss rfl rfl rfl (Fh P (Cv L)) ll2 wl2 (e3 L) et (Pw p1 p2 0) (Ry p1 p2 hm hr h.j) ß zd⟩
 .unfold Ff at es;split at es
  .rename_i lw;have lw:=zl6 lw;obtain⟨g1,g2,g3⟩:=Yg hy;have W:=Si hm g2 (h.j.wait w) es;obtain⟨m1,m2⟩:=zgt hm hr h.j w0 hy lw W
   obtain⟨n,en,ef⟩:=zih (p:=Jj (BB (L.map (·.1))) y (BJ (AJ Ms) (AZ Ms))) (zm2 ht) m1 λk a ek=>by
    unfold Jj;rw[Ô,ek,ü,Ê,ö,ö];constructor
    .intro q;exact Prod.ext q.2 (Xg hr.d (K8 (Ú ek)).1 h.j.tak q.1)
    .intro q;rw[q];exact⟨rfl,rfl⟩
   have lc:=lc23 (D:=AJ Ms) hk.tn (W:=BJ (AJ Ms) (AZ Ms)) (λx hx=>by
    show BB x.2∈((AZ Ms).map λt=>(BB t,Ea Ms t)).map (·.1)
    rw[Ü];exact Ë.mpr ⟨_,(K8 hx).1,rfl⟩) (QD h.j) y hk.sd
   rw[ef]at lc;have n1:=(Qn y []).2;rw[Ù g3]at n1;have la:=YQ (Ak P) l (Ad (Ai Ms));rw[h.e]at la
   exact⟨F,(w,some (n:Int)),Cv F,some (.int (n:Int)),some (.int w),some (BA y),some (.lst (F.map BG)),some (.str (BB (L.map (·.1)))),some (.lst [.int (n:Int)]),h.snoc W.j (W.l lw) (m2 n en),zb sp sy ss (GS F) (DP y) rfl rfl (Fh P (Cv F)) ll2 wl2 (e3 F) et (Pw p1 p2 w) (Ry p1 p2 hm hr W.j) ß (zc (DP y) n1 hk.sd (HI _) (EV P (L.flatMap (·.2))) la (EL (by omega)) (by omega) (by rw[À,À]) lc)⟩
  .cases es
theorem cells(p1:0<P)(p2:P<=100)(u0:0<=u){Ms:kJ}(hm:MsOk Ms)(hr:RmOk Ms)(hl:Ms.length<=3)(h5:(DI (AJ Ms)).length<=1000)(ht:(AZ Ms).Nodup)(hw:(BJ (AJ Ms) (AZ Ms)).length<=200)(hk:McOk (Ai Ms)){ns:kF}{WW:T}:∀(cs:kF) {L:k7} {ws} {l:k7},RnOk P Ms L ws l->ws.length+cs.length<=900->l.length+cs.length<=900->∀(y12 y13 y14 y15 y16 y17 y18:kH),∃L' ws' l' z12 z13 z14 z15 z16 z17 z18,RnOk P Ms L' ws' l'/\ws'.length<=900/\BV (AD 12) GG (cs.map T.int) (sX ns u P Ms WW (BJ (AJ Ms) (AZ Ms)) L ws (Ad (Ai Ms)::l) y12 y13 y14 y15 y16 y17 y18)=some (.nx (sX ns u P Ms WW (BJ (AJ Ms) (AZ Ms)) L' ws' (Ad (Ai Ms)::l') z12 z13 z14 z15 z16 z17 z18))
 |[],L,ws,l,h,a,b,y12,y13,y14,y15,y16,y17,y18=>⟨L,ws,l,y12,y13,y14,y15,y16,y17,y18,h,a,rfl⟩|c::cs,L,ws,l,h,a,b,y12,y13,y14,y15,y16,y17,y18=>by
  rw[Ý]at a b;obtain⟨L',w,l',z13,z14,z15,z16,z17,z18,h',e⟩:=zg7 p1 p2 u0 hm hr hl h5 ht hw hk h (by omega) (by omega) c y13 y14 y15 y16 y17 y18
  obtain⟨L2,ws2,l2,v12,v13,v14,v15,v16,v17,v18,h2,a2,e2⟩:=cells p1 p2 u0 hm hr hl h5 ht hw hk cs h' (by rw[Ø,ñ];omega) (by rw[Ø,ñ];omega) (some (.int c)) z13 z14 z15 z16 z17 z18
  refine⟨L2,ws2,l2,v12,v13,v14,v15,v16,v17,v18,h2,a2,?_⟩;rw[<- e2]
  show(match GG (sX ns u P Ms WW (BJ (AJ Ms) (AZ Ms)) L ws (Ad (Ai Ms)::l) (some (.int c)) y13 y14 y15 y16 y17 y18) with
   |some (.nx τ2)=>BV (AD 12) GG (cs.map T.int) τ2|some (.ct τ2)=>BV (AD 12) GG (cs.map T.int) τ2|some (.bk τ2)=>some (.nx τ2)|r=>r)=_
  rw[e]
theorem law_true(ns:kF)(hns:ns.length<=63):SE [Cs ns]=some (.ok (.bl true)):=by
 have F:=Tt ns;have F2:=Ts ns;have c2:=Jr ns (k:=2) (by decide)
 have c18:=Jr ns (k:=18) (by decide)
 generalize ns.getD (2:Int).toNat 0=c at *;generalize ns.getD (18:Int).toNat 0=c' at *;obtain⟨u,u0,eu⟩:=zj4 c;obtain⟨P,p1,p2,eP⟩:=zhj (c.fdiv 2);obtain⟨cc,n,Ms,h1,h3,hJ,ep⟩:=zhk (ns:=ns) u0;have hm:=ms_ok h1 h3 hJ;have hr:=rm_ok h1 h3 hJ;have hf:=fw_ok h1 h3 hJ;have hl:Ms.length<=3:=by rw[hJ.l];exact h3
 have sM:Aq (Ms.map AQ)=true:=CD λM hM=>DF (hm.m M hM)
 have sp:=GP hm.m;have p40:(0:Int)<=40/\(40:Int)<=1000000/\Ec 10=true:=⟨by decide,by decide,DC (by decide) (by decide)⟩
 have r40:(40:Int).toNat=40:=rfl;have n40:¬ (10:Int) ^ 40=0:=by decide
 have lk:∃v,List.lookup (Str.ofString "TooMany") N0=some v:=⟨_,rfl⟩;obtain⟨lv,lk⟩:=lk;have k2:C7 2=true:=DB (by decide) (by decide)
 have k3:C7 3=true:=DB (by decide) (by decide)
 have k4:C7 4=true:=DB (by decide) (by decide)
 have k40:C7 (10 ^ 40)=true:=DB (by decide) (by decide)
 have lM:Ms.length<=100000:=by omega
 have lc4:Ba (AD 0) (mC (.bl true)) RS (Ms.map BI) [none]=some (Ms.map AQ):=C1 BI AQ (λτ=>∃x,τ=[x]) Ms [none] ⟨none,rfl⟩ λM hM τ hI=>by
  obtain⟨x,rfl⟩:=hI;have e:=zl3 (hm.m M hM);have sm:=DF (hm.m M hM);have st:=HN (hm.m M hM);refine⟨[some (BI M)],by simp![],?_,_,rfl⟩
  unfold RS;generalize BI M=A at *;generalize AQ M=B at *
  simp![st,Ap _ st,e]
 have lc14:Ba (AD 0) (mC (.bl true)) RU (Ms.map BI) [none]=some ((Ms.map Ad).map BG):=by
  rw[Ü];refine C1 BI (BG ∘ Ad) (λτ=>∃x,τ=[x]) Ms [none] ⟨none,rfl⟩ λM hM τ hI=>?_
  obtain⟨x,rfl⟩:=hI;have hM:=hm.m M hM;have st:=HN hM;have sr':Aq (M.rs.map BS)=true:=Ee hM.r;have sd:=F7 hM
  have lz:Ba (AD 0) (mC (.bl true)) RV (M.ws.map T.str) [none]=some ((M.ws.map λ_=>(0:Int)).map T.int):=by
   rw[Ü];refine C1 T.str _ (λτ=>∃x,τ=[x]) M.ws [none] ⟨none,rfl⟩ λw _ τ hI=>?_
   obtain⟨x,rfl⟩:=hI;exact⟨[some (.str w)],by simp![],by unfold RV;simp![];rfl,_,rfl⟩
  have wl:M.ws.length<=100000:=by have:=hM.wl;omega
  have sz:=Dy (M.ws.map λ_=>(0:Int))
  obtain⟨r,rs,er⟩:=ū (show M.rs≠[] from λz=>by have:=hM.r.l1;rw[z]at this;cases this)
  have a0:A5 (M.rs.map BS) 0=some (BS r):=CB (j:=0) (by rw[er];rfl)
  have sg:Aq r.2=true:=(hM.r.lk r (by rw[er];exact Ã ..)).1.sh
  have e0:(BG ∘ Ad) M=.tup [.str r.1,.lst ((M.ws.map λ_=>(0:Int)).map T.int)]:=by
   show BG (Ad M)=_;unfold Ad Mc.nm;rw[er]
   rfl
  rw[e0];refine⟨[some (BI M)],by simp![],?_,_,rfl⟩
  unfold RU;generalize (M.ws.map λ_=>(0:Int)).map T.int=Z at *
  simp![sr',sd,AV,Ae,Bf,a0,sg,À,wl,lz,sz,AF _ sz]
 have key:Ll [some (Cs ns),none,none,none,none,none,none,none,none,none,none,none,none,none,none,none,none,none,none]=some (.rt (.bl true)):=by
  unfold Ll;refine sq (by simp![F,F2,k2,k3,k4,k40,n40,c2,p40,r40,eu];rfl) ?_
  refine sq (by simp![F,F2,k2,k3,k4,k40,n40,c2,eP];rfl) ?_
  refine sq (by simp![F,F2,ep,AF _ sp];rfl) ?_
  refine sq (by simp![sp,AF _ sp,À,lM,lc4,AF _ sM];rfl) ?_
  refine sq (by simp![];rfl) ?_
  rcases zm9 hm hr hf with ⟨hw,et⟩|⟨hw,et⟩
  .have ok:=Sf hm hr hf hw;have es2:=(zms hm hr).elim (·.2) λz=>absurd z.1 (by omega)
   have mi:=E2 (Ai Ms);have ms:=DF ok;have md:E8 [AQ (Ai Ms)]=some (.ok (.own (((BJ (AJ Ms) (AZ Ms)).map (Bs (AJ Ms))).map AO))):=Ld ok;have sd:Aq (((BJ (AJ Ms) (AZ Ms)).map (Bs (AJ Ms))).map AO)=true:=ok.sd;have q1:=zmr (BJ (AJ Ms) (AZ Ms));have q2:=zjh (DI (AJ Ms));have go:=zi7 hm.m hl hJ.k;have h5:(DI (AJ Ms)).length<=1000:=Ó (Yh hm.m hl hJ.k) (by decide)
   have tn:(AZ Ms).Nodup:=(ľ.mp hr.d).imp λh e=>h (congrArg _ e)
   have j0:=zp2 hm.m;have g0:=zor p1 hm.m λM hM r hR=>(hJ.r M hM r hR).2
   have ez:=zgw hm;have rn:RnOk P Ms (Ms.map Ad) [] []:=⟨j0,g0,rfl,ez,λs hs=>by rw[Í.mp hs];exact Xi ok⟩
   have ao:Hu [.lst ((Ms.map Ad).map BG),.int P]=some (.ok (Ak P (Ad (Ai Ms)))):=by
    rw[ez];exact Ry p1 p2 hm hr j0
   have cl:(CT ns (some 6) (some 18)).length<=63:=Ó (zlu ns (some 6) (some 18)) hns;obtain⟨L,ws,l,z12,z13,z14,z15,z16,z17,z18,hR,wl,ef⟩:=cells p1 p2 u0 hm hr hl h5 tn hw ok (ns:=ns) (WW:=AQ (Ai Ms)) (CT ns (some 6) (some 18)) rn (by rw[å];omega) (by rw[å];omega) none none none none none none none
   have sR:DU P (Ai Ms) true ws=.inl (Ad (Ai Ms)::l):=by
    have lg:Bd P (Ai Ms) (Ad (Ai Ms)).1 (Ad (Ai Ms)).2=true:=by rw[ez];exact(MC (P:=P) hm hr j0).mpr g0
    unfold DU;rw[if_pos lg,hR.r]
   have st:=Th p1 p2 ok (ws:=ws) (al:=true) (by omega)
   have wk:=Se p1 p2 ok (ws:=ws) (al:=true) (by omega)
   have tu:=tu_ok p1 p2 ok (by omega) sR c'
   rw[sR]at st wk;have fi:=zjd P (o:=false) ok.tn hR.n;have eq1:=(Zr fi (by decide) rfl fi).2
   have la:=YQ (Ak P) l (Ad (Ai Ms))
   have ge:(Ad (Ai Ms)::l).getD ((Ad (Ai Ms)::l).length - 1) ("",[])=l.getLastD (Ad (Ai Ms)):=by
    rw[Ý,ŗ,Ô,Py]
    rfl
   have fl:=Ti P ok.tn (s:=l.getLastD (Ad (Ai Ms))) (by rw[hR.e];exact QD hR.j)
   have eq2:=(Zr fl (by decide) rfl fl).2
   unfold LD at st;unfold Ke at wk;dsimp only at st wk;rw[ge]at wk;obtain⟨K,eK⟩:∃K,K=Ad (Ai Ms)::l:=⟨_,rfl⟩;rw[<- eK]at st eq1 la ef;have cm:=Jp T.int ns (some 6) (some 18);have nn:Dd false (AQ (Ai Ms)) .non=some (.bl false):=rfl;have sa:=Fh P (l.getLastD (Ad (Ai Ms)));have s0:=Fh P (Ad (Ai Ms));have sz:=GS (Ms.map Ad);have sK:Aq (K.map (Ak P))=true:=CD λs _=>Fh P s
   have sW:=HH P ws;have sy:=HI (DI (AJ Ms));have s6:=HI ((BJ (AJ Ms) (AZ Ms)).map (·.1));generalize AQ (Ai Ms)=WW at *;generalize BJ (AJ Ms) (AZ Ms)=WS at *
   clear hR rn fi fl
   generalize l.getLastD (Ad (Ai Ms))=Z at *;generalize Ak P Z=ZZ at *;refine sq (by simp![-Bu,mi,sM,AF _ sM,À,lM,et,lk,ms,Ap _ ms];rfl) ?_
   refine C6 (by simp![-Bu,-Dd,nn,mi,ms,Ap _ ms]) ?_
   refine sq (by simp![sM,AF _ sM,À,lM,es2,q1];rfl) ?_
   refine sq (by simp![-Bu,mi,ms,Ap _ ms,md,sd,AF _ sd];rfl) ?_
   refine sq (by simp![sp,AF _ sp,À,lM,lc14,sz,AF _ sz];rfl) ?_
   refine sq (by simp![sp,AF _ sp,go,q2];rfl) ?_
   refine sq (by simp![];rfl) ?_
   refine sq (τ':=sX ns u P Ms WW WS (Ms.map Ad) [] [Ad (Ai Ms)] none none none none none none none) ?_ ?_
   .show _=some (Out.nx [_,_,_,_,_,_,_,_,_,_,_,some (.own [Ak P (Ad (Ai Ms))]),_,_,_,_,_,_,_]);generalize Ak P (Ad (Ai Ms))=G at *
    simp![sz,AF _ sz,ao,s0,Ap _ s0]
   refine sq (τ':=sX ns u P Ms WW WS L ws K z12 z13 z14 z15 z16 z17 z18) ?_ ?_
   .rw[<- ef]
    simp![F,F2,Cs,cm,Dy,AF _ (Dy ns),AF _ (Dy (CT ns (some 6) (some 18)))]
   refine sq (by simp![AF _ sW];rfl) ?_
   have lw:(ws.map (BY P)).length<=100000:=by rw[À];omega
   have neg:(-(1:Int))=-1:=rfl;generalize ws.map (BY P)=WP at *;generalize K.map (Ak P)=KP at *;refine C6 (by simp![sW,AF _ sW,lw,ms,Ap _ ms,st,sK,AF _ sK,eq1,wk,neg,la,sa,Ap _ sa,eq2]) ?_
   refine C6 (by simp![AF _ sW]) ?_
   simp![F,F2,sW,AF _ sW,ms,Ap _ ms,c18,tu]
  .refine sq (by simp![sM,AF _ sM,À,lM,et,lk];rfl) ?_
   simp![]
 unfold SE
 simp![F,F2,key]
end
end Zl
namespace Zl
open PySem PySem.W L2 Zw Zx Pu Hd
abbrev pw:Program:=PySem.Challenge.pw_zonewalk_k34_whole_runs_put_together
abbrev OT:OpenLaw:=PySem.Challenge.rw_zonewalk_k34_whole_runs_put_together
abbrev md:String:="__module__"
abbrev fl:String:="__firstlineno__"
abbrev sa:String:="__static_attributes__"
abbrev dc:String:="__doc__"
noncomputable abbrev cf:Str:="/claim/cut.py"
noncomputable def tO(l:k9):Obj:=⟨(.type "tuple"),none,(.seq (Array.mk l) 0),Array.mk []⟩
noncomputable def dO(l:List DictEntry)(n:Nat):Obj:=⟨(.type "dict"),none,(.dict (Array.mk l) n),Array.mk []⟩
def eb:k9:=[(.type "ValueError"),(.type "Exception"),(.type "BaseException"),(.type "object")]
noncomputable def yO(a:Str)(b c:k9)(n:Addr)(d:k9)(r ta tb:Nat)(w:String):Obj:=⟨(.type "type"),none,(.cls ⟨a,b,c,n,a,true,[],d,false,none,false⟩),Array.mk [(some (.ref r)),none,(some (.str a ta)),(some (.str a tb)),(some (.builtin w)),(some (.bool true))]⟩
def cP(a:Str)(ta:Nat)(b:Str)(tb tf:Nat)(r n k:Int)(r1:Nat)(z:Int)(v1 v2 v3 v4 v5:Value)(x y:Int)(tg:Nat):Obj:=⟨(.type "code"),none,(.fields (Array.mk [(.str a ta),(.str b tb),(.str cf tf),(.int r 0),(.int n 0),(.int 0 0),(.int 0 0),(.int k 0),(.ref r1),(.bool true),(.int z 0),v1,v2,v3,v4,v5,(.int x 0),(.int y 0),(.str cf tg)])),Array.mk []⟩
noncomputable def cO(a:Str)(ta tb tf:Nat)(r n k:Int)(r1:Nat)(z:Int)(r2 r3 r4 r5:Nat)(x y:Int)(tg:Nat):Obj:=cP a ta a tb tf r n k r1 z (.ref r2) .none (.ref r3) (.ref r4) (.ref r5) x y tg
def o2(P:Params):Obj:=⟨.none,none,(.dict (Array.mk []) 0),Array.mk []⟩
def o3(P:Params):Obj:=dO [en P "__name__" 165 (.str "law_zonewalk_k34_whole_runs_put_together" 765),en P "__doc__" 166 .none,en P "__package__" 167 .none,en P "__loader__" 168 (.builtin "__main__.__loader__#opaque"),en P "__spec__" 169 .none,en P "__annotations__" 170 (.ref 6),en P "__builtins__" 171 (.ref 4),en P "__file__" 173 (.str "/claim/cut.py" 172),en P "__cached__" 174 .none,en P "WalkError" 206 (.ref 24),en P "NoNumber" 222 (.ref 37),en P "BadMachine" 238 (.ref 49),en P "TooMany" 254 (.ref 61),en P "NoRun" 279 (.ref 80),en P "NoMark" 295 (.ref 92),en P "is_whole" 304 (.ref 101),en P "greatest_divisor" 315 (.ref 108),en P "fraction" 325 (.ref 116),en P "plus" 333 (.ref 123),en P "under" 341 (.ref 130),en P "WORDS" 349 (.ref 131),en P "STAY_WORDS" 352 (.ref 132),en P "is_look" 361 (.ref 139),en P "is_number" 368 (.ref 146),en P "is_guard" 374 (.ref 151),en P "stands_so" 386 (.ref 158),en P "MOST_WATCHES" 390 (.int 7 389),en P "MOST_ROOMS" 392 (.int 64 391),en P "MOST_DOORS" 394 (.int 200 393),en P "is_small_letter" 401 (.ref 165),en P "is_name" 407 (.ref 170),en P "is_watch_name" 414 (.ref 177),en P "is_room_name" 420 (.ref 182),en P "is_sign" 427 (.ref 189),en P "own_copy" 434 (.ref 196),en P "Door" 486 (.ref 228),en P "Machine" 552 (.ref 282),en P "check_watches" 558 (.ref 291),en P "are_unlike" 565 (.ref 298),en P "check_rooms" 571 (.ref 303),en P "check_doors" 581 (.ref 310),en P "are_noughts" 587 (.ref 315),en P "placed" 593 (.ref 320),en P "holds" 601 (.ref 325),en P "nought_places" 609 (.ref 330),en P "start" 617 (.ref 335),en P "walked" 626 (.ref 343),en P "stands" 639 (.ref 351),en P "is_legal" 648 (.ref 358),en P "stand_behind" 654 (.ref 363),en P "stand_beyond" 660 (.ref 368),en P "MOST_PARTS" 664 (.int 6 663),en P "together" 670 (.ref 373),en P "shares" 676 (.ref 378),en P "checked_takings" 682 (.ref 383),en P "check_parts" 688 (.ref 388),en P "all_watches" 697 (.ref 395),en P "all_takings" 703 (.ref 400),en P "whole_name" 710 (.ref 407),en P "whole_stay" 721 (.ref 414),en P "whole_ways" 727 (.ref 419),en P "shares_of" 743 (.ref 426),en P "starts_from" 749 (.ref 431),en P "whole_door" 764 (.ref 438),en P "_law_cell_at" 774 (.ref 445),en P "_law_stream" 786 (.ref 452),en P "_law_draws" 795 (.ref 459),en P "_law_names" 811 (.ref 466),en P "_law_looks" 824 (.ref 473),en P "_law_part" 830 (.ref 478),en P "_law_parts" 844 (.ref 485),en P "_law_machine" 850 (.ref 490),en P "_law_met" 865 (.ref 497),en P "_law_stay_met" 871 (.ref 502),en P "_law_gone" 877 (.ref 507),en P "_law_goers" 890 (.ref 514),en P "_law_stepped" 896 (.ref 519),en P "_law_drawn" 914 (.ref 526),en P "_law_divisor" 922 (.ref 533),en P "_law_fraction" 931 (.ref 540),en P "_law_as_one" 937 (.ref 545),en P "_law_refused" 947 (.ref 552),en P "_law_turned" 958 (.ref 559),en P "law" 964 (.ref 564)] 84
def o15(P:Params):Obj:=tO [(.type "ValueError")]
def o22(P:Params):Obj:=tO []
def o23(P:Params):Obj:=dO [en P md 196 (.str "zonewalk.errors" 187),en P fl 200 (.int 2 199),en P sa 201 (.ref 22),en P "__weakref__" 203 (.ref 25),en P dc 204 .none] 3
def o24(P:Params):Obj:=yO "WalkError" [(.type "ValueError")] ([(.ref 24)]++eb) 23 [(.ref 37),(.ref 49),(.ref 61),(.ref 80),(.ref 92)] 15 189 197 "ValueError.__new__"
def o25(P:Params):Obj:=⟨(.type "getset_descriptor"),none,(.fields (Array.mk [(.str "__weakref__" 202),(.ref 24),(.builtin "ExceptionGroup.__weakref__"),.none])),Array.mk []⟩
def o28(P:Params):Obj:=tO [(.ref 24)]
def o35(P:Params):Obj:=tO []
def o36(P:Params):Obj:=dO [en P md 214 (.str "zonewalk.errors" 187),en P fl 218 (.int 4 217),en P sa 219 (.ref 35),en P dc 220 .none] 2
def o37(P:Params):Obj:=yO "NoNumber" [(.ref 24)] ([(.ref 37),(.ref 24)]++eb) 36 [] 28 207 215 "ValueError.__new__"
def o40(P:Params):Obj:=tO [(.ref 24)]
def o47(P:Params):Obj:=tO []
def o48(P:Params):Obj:=dO [en P md 230 (.str "zonewalk.errors" 187),en P fl 234 (.int 6 233),en P sa 235 (.ref 47),en P dc 236 .none] 2
def o49(P:Params):Obj:=yO "BadMachine" [(.ref 24)] ([(.ref 49),(.ref 24)]++eb) 48 [] 40 223 231 "ValueError.__new__"
def o52(P:Params):Obj:=tO [(.ref 24)]
def o59(P:Params):Obj:=tO []
def o60(P:Params):Obj:=dO [en P md 246 (.str "zonewalk.errors" 187),en P fl 250 (.int 8 249),en P sa 251 (.ref 59),en P dc 252 .none] 2
def o61(P:Params):Obj:=yO "TooMany" [(.ref 24)] ([(.ref 61),(.ref 24)]++eb) 60 [] 52 239 247 "ValueError.__new__"
def o64(P:Params):Obj:=tO [(.ref 24)]
def o76(P:Params):Obj:=cP "__init__" 267 "NoRun.__init__" 268 269 12 2 3 71 181 (.ref 72) .none (.ref 73) (.ref 74) (.ref 75) 272 12 273
def WJ(_:Params):=fO "__init__" "NoRun.__init__" (Ct 5 0) .none "zonewalk.errors" 187 76 .none
def o78(P:Params):Obj:=tO [(.str "step" 275)]
def o79(P:Params):Obj:=dO [en P md 262 (.str "zonewalk.errors" 187),en P fl 266 (.int 10 265),en P "__init__" 274 (.ref 77),en P sa 276 (.ref 78),en P dc 277 .none] 2
def o80(P:Params):Obj:=yO "NoRun" [(.ref 24)] ([(.ref 80),(.ref 24)]++eb) 79 [] 64 255 263 "ValueError.__new__"
def o83(P:Params):Obj:=tO [(.ref 24)]
def o90(P:Params):Obj:=tO []
def o91(P:Params):Obj:=dO [en P md 287 (.str "zonewalk.errors" 187),en P fl 291 (.int 14 290),en P sa 292 (.ref 90),en P dc 293 .none] 2
def o92(P:Params):Obj:=yO "NoMark" [(.ref 24)] ([(.ref 92),(.ref 24)]++eb) 91 [] 83 280 288 "ValueError.__new__"
def o100(_:Params):=cO "is_whole" 298 299 300 17 1 3 95 181 96 97 98 99 302 17 303
def MS(a:Str)(s:Stmt)(c:Nat):=gO a s "zonewalk.fractions" 296 c
def X8(_:Params):=MS "is_whole" (AN 8) 100
def o107(_:Params):=cO "greatest_divisor" 305 306 307 19 2 3 102 181 103 104 105 106 313 19 314
def X7(_:Params):=MS "greatest_divisor" (AN 9) 107
def X6(P:Params):Obj:=tO [(.int 1 316)]
def o115(_:Params):=cO "fraction" 317 318 319 27 2 3 110 181 111 112 113 114 323 27 324
def X5(_:Params):=fO "fraction" "fraction" (AN 10) (.ref 109) "zonewalk.fractions" 296 115 .none
def o122(_:Params):=cO "plus" 326 327 328 36 2 3 117 181 118 119 120 121 331 36 332
def X4(_:Params):=MS "plus" (AN 11) 122
def o129(_:Params):=cO "under" 334 335 336 38 2 3 124 181 125 126 127 128 339 38 340
def X3(_:Params):=MS "under" (AN 12) 129
def X2(P:Params):Obj:=tO [(.str "<" 344),(.str "<=" 345),(.str ">" 346),(.str ">=" 347),(.str "=" 348)]
def X1(P:Params):Obj:=tO [(.str "<" 350),(.str "<=" 351)]
def o138(_:Params):=cO "is_look" 353 354 355 43 3 3 133 181 134 135 136 137 359 43 360
def MR(a:Str)(s:Stmt)(c:Nat):=gO a s "zonewalk.looks" 342 c
def X0(_:Params):=MR "is_look" (AN 16) 138
def o145(_:Params):=cO "is_number" 362 363 364 47 1 3 140 181 141 142 143 144 366 47 367
def XZ(_:Params):=MR "is_number" (AN 17) 145
def o150(P:Params):Obj:=cP "is_guard" 369 "is_guard" 370 371 49 3 3 147 181 (.ref 148) .none .none .none (.ref 149) 372 49 373
def XY(_:Params):=MR "is_guard" (AN 18) 150
def o157(_:Params):=cO "stands_so" 375 376 377 51 3 3 152 181 153 154 155 156 384 51 385
def XX(_:Params):=MR "stands_so" (AN 19) 157
def o164(_:Params):=cO "is_small_letter" 395 396 397 68 1 3 159 181 160 161 162 163 399 68 400
def Ek(a:Str)(s:Stmt)(c:Nat):=gO a s "zonewalk.machines" 387 c
def XW(_:Params):=Ek "is_small_letter" (AN 24) 164
def o169(P:Params):Obj:=cP "is_name" 402 "is_name" 403 404 70 1 3 166 181 (.ref 167) .none .none .none (.ref 168) 405 70 406
def XU(_:Params):=Ek "is_name" (AN 25) 169
def o176(_:Params):=cO "is_watch_name" 408 409 410 72 1 3 171 181 172 173 174 175 412 72 413
def XT(_:Params):=Ek "is_watch_name" (AN 26) 176
def o181(P:Params):Obj:=cP "is_room_name" 415 "is_room_name" 416 417 74 1 3 178 181 (.ref 179) .none .none .none (.ref 180) 418 74 419
def XS(_:Params):=Ek "is_room_name" (AN 27) 181
def o188(_:Params):=cO "is_sign" 421 422 423 78 1 3 183 181 184 185 186 187 425 78 426
def XO(_:Params):=Ek "is_sign" (AN 28) 188
def o195(_:Params):=cO "own_copy" 428 429 430 82 1 3 190 181 191 192 193 194 432 82 433
def XN(_:Params):=Ek "own_copy" (AN 29) 195
def Od(P:Params):Obj:=tO [(.str "" 447)]
def o210(P:Params):Obj:=cP "__init__" 448 "Door.__init__" 449 450 86 6 3 205 181 (.ref 206) .none (.ref 207) (.ref 208) (.ref 209) 457 86 458
def XM(_:Params):=fO "__init__" "Door.__init__" (Ct 30 0) (.ref 204) "zonewalk.machines" 387 210 .none
def o217(P:Params):Obj:=cP "asks" 460 "Door.asks" 461 462 93 1 3 212 181 (.ref 213) .none (.ref 214) (.ref 215) (.ref 216) 464 93 465
def XJ(_:Params):=fO "asks" "Door.asks" (Ct 30 1) .none "zonewalk.machines" 387 217 .none
def o224(P:Params):Obj:=cP "sets" 467 "Door.sets" 468 469 96 1 3 219 181 (.ref 220) .none (.ref 221) (.ref 222) (.ref 223) 471 96 472
def XI(_:Params):=fO "sets" "Door.sets" (Ct 30 2) .none "zonewalk.machines" 387 224 .none
def o226(P:Params):Obj:=tO [(.str "end" 474),(.str "guard" 475),(.str "noughts" 476),(.str "sign" 477),(.str "start" 478)]
def o227(P:Params):Obj:=dO [en P md 442 (.str "zonewalk.machines" 387),en P fl 446 (.int 84 445),en P "__init__" 459 (.ref 211),en P "asks" 466 (.ref 218),en P "sets" 473 (.ref 225),en P sa 479 (.ref 226),en P "__dict__" 481 (.ref 229),en P "__weakref__" 483 (.ref 230),en P dc 484 .none] 4
noncomputable def o228(P:Params):Obj:=⟨(.type "type"),none,(.cls ⟨"Door",[(.type "object")],[(.ref 228),(.type "object")],227,"Door",true,[],[],false,none,false⟩),Array.mk [none,none,(some (.str "Door" 435)),(some (.str "Door" 443)),(some (.builtin "object.__new__")),(some (.bool true))]⟩
def o229(P:Params):Obj:=⟨(.type "getset_descriptor"),none,(.fields (Array.mk [(.str "__dict__" 480),(.ref 228),(.builtin "function.__dict__"),(.builtin "function.__dict__#set")])),Array.mk []⟩
def o230(P:Params):Obj:=⟨(.type "getset_descriptor"),none,(.fields (Array.mk [(.str "__weakref__" 482),(.ref 228),(.builtin "ExceptionGroup.__weakref__"),.none])),Array.mk []⟩
def o243(P:Params):Obj:=cP "__init__" 499 "Machine.__init__" 500 501 100 4 3 240 181 (.ref 241) .none .none .none (.ref 242) 502 100 503
def XH(_:Params):=fO "__init__" "Machine.__init__" (Ct 31 0) .none "zonewalk.machines" 387 243 .none
def o250(P:Params):Obj:=cP "watches" 505 "Machine.watches" 506 507 112 1 3 245 181 (.ref 246) .none (.ref 247) (.ref 248) (.ref 249) 509 112 510
def XG(_:Params):=fO "watches" "Machine.watches" (Ct 31 1) .none "zonewalk.machines" 387 250 .none
def o257(P:Params):Obj:=cP "rooms" 512 "Machine.rooms" 513 514 115 1 3 252 181 (.ref 253) .none (.ref 254) (.ref 255) (.ref 256) 516 115 517
def XF(_:Params):=fO "rooms" "Machine.rooms" (Ct 31 2) .none "zonewalk.machines" 387 257 .none
def o264(P:Params):Obj:=cP "doors" 519 "Machine.doors" 520 521 118 1 3 259 181 (.ref 260) .none (.ref 261) (.ref 262) (.ref 263) 523 118 524
def XD(_:Params):=fO "doors" "Machine.doors" (Ct 31 3) .none "zonewalk.machines" 387 264 .none
def o271(P:Params):Obj:=cP "stay" 526 "Machine.stay" 527 528 121 2 3 266 181 (.ref 267) .none (.ref 268) (.ref 269) (.ref 270) 531 121 532
def XC(_:Params):=fO "stay" "Machine.stay" (Ct 31 4) .none "zonewalk.machines" 387 271 .none
def o278(P:Params):Obj:=cP "watch_number" 534 "Machine.watch_number" 535 536 124 2 3 273 181 (.ref 274) .none (.ref 275) (.ref 276) (.ref 277) 539 124 540
def XB(_:Params):=fO "watch_number" "Machine.watch_number" (Ct 31 5) .none "zonewalk.machines" 387 278 .none
def o280(P:Params):Obj:=tO [(.str "door_list" 542),(.str "stays" 543),(.str "watch_names" 544)]
def o281(P:Params):Obj:=dO [en P md 494 (.str "zonewalk.machines" 387),en P fl 498 (.int 98 497),en P "__init__" 504 (.ref 244),en P "watches" 511 (.ref 251),en P "rooms" 518 (.ref 258),en P "doors" 525 (.ref 265),en P "stay" 533 (.ref 272),en P "watch_number" 541 (.ref 279),en P sa 545 (.ref 280),en P "__dict__" 547 (.ref 283),en P "__weakref__" 549 (.ref 284),en P dc 550 .none] 4
noncomputable def o282(P:Params):Obj:=⟨(.type "type"),none,(.cls ⟨"Machine",[(.type "object")],[(.ref 282),(.type "object")],281,"Machine",true,[],[],false,none,false⟩),Array.mk [none,none,(some (.str "Machine" 487)),(some (.str "Machine" 495)),(some (.builtin "object.__new__")),(some (.bool true))]⟩
def o283(P:Params):Obj:=⟨(.type "getset_descriptor"),none,(.fields (Array.mk [(.str "__dict__" 546),(.ref 282),(.builtin "function.__dict__"),(.builtin "function.__dict__#set")])),Array.mk []⟩
def o284(P:Params):Obj:=⟨(.type "getset_descriptor"),none,(.fields (Array.mk [(.str "__weakref__" 548),(.ref 282),(.builtin "ExceptionGroup.__weakref__"),.none])),Array.mk []⟩
def o290(P:Params):Obj:=cP "check_watches" 553 "check_watches" 554 555 126 1 3 287 181 (.ref 288) .none .none .none (.ref 289) 556 126 557
def XA(_:Params):=Ek "check_watches" (AN 32) 290
def o297(_:Params):=cO "are_unlike" 559 560 561 131 1 3 292 181 293 294 295 296 563 131 564
def Wz(_:Params):=Ek "are_unlike" (AN 33) 297
def o302(P:Params):Obj:=cP "check_rooms" 566 "check_rooms" 567 568 133 2 3 299 181 (.ref 300) .none .none .none (.ref 301) 569 133 570
def Wy(_:Params):=Ek "check_rooms" (AN 34) 302
def o309(_:Params):=cO "check_doors" 572 573 574 143 3 3 304 181 305 306 307 308 579 143 580
def Wx(_:Params):=Ek "check_doors" (AN 35) 309
def o314(P:Params):Obj:=cP "are_noughts" 582 "are_noughts" 583 584 155 2 3 311 181 (.ref 312) .none .none .none (.ref 313) 585 155 586
def Ww(_:Params):=Ek "are_noughts" (AN 36) 314
def o319(P:Params):Obj:=cP "placed" 588 "placed" 589 590 159 2 3 316 181 (.ref 317) .none .none .none (.ref 318) 591 159 592
def Wv(_:Params):=Ek "placed" (AN 37) 319
def o324(P:Params):Obj:=cP "holds" 596 "holds" 597 598 165 2 3 321 181 (.ref 322) .none .none .none (.ref 323) 599 165 600
def gO4(a:Str)(s:Stmt)(c:Nat):=gO a s "zonewalk.moves" 594 c
def Wu(_:Params):=gO4 "holds" (AN 39) 324
def o329(P:Params):Obj:=cP "nought_places" 604 "nought_places" 605 606 168 2 3 326 181 (.ref 327) .none .none .none (.ref 328) 607 168 608
def gO5(a:Str)(s:Stmt)(c:Nat):=gO a s "zonewalk.plans" 602 c
def Wt(_:Params):=gO5 "nought_places" (AN 41) 329
def o334(P:Params):Obj:=cP "start" 612 "start" 613 614 171 1 3 331 181 (.ref 332) .none .none .none (.ref 333) 615 171 616
def MQ(a:Str)(s:Stmt)(c:Nat):=gO a s "zonewalk.runner" 610 c
def Ws(_:Params):=MQ "start" (AN 43) 334
def L7(P:Params):Obj:=tO [(.bool true)]
def o342(_:Params):=cO "walked" 618 619 620 173 3 3 337 181 338 339 340 341 624 173 625
def Wq(_:Params):=fO "walked" "walked" (AN 44) (.ref 336) "zonewalk.runner" 610 342 .none
def Oc(P:Params):Obj:=tO [(.bool true)]
def o350(_:Params):=cO "stands" 627 628 629 175 3 3 345 181 346 347 348 349 637 175 638
noncomputable def Wp(_:Params):=fO "stands" "stands" (AN 45) (.ref 344) "zonewalk.runner" 610 350 .none
def o357(_:Params):=cO "is_legal" 640 641 642 186 3 3 352 181 353 354 355 356 646 186 647
def Wo(_:Params):=MQ "is_legal" (AN 46) 357
def o362(P:Params):Obj:=cP "stand_behind" 649 "stand_behind" 650 651 188 4 3 359 181 (.ref 360) .none .none .none (.ref 361) 652 188 653
def Wn(_:Params):=MQ "stand_behind" (AN 47) 362
def o367(P:Params):Obj:=cP "stand_beyond" 655 "stand_beyond" 656 657 199 5 3 364 181 (.ref 365) .none .none .none (.ref 366) 658 199 659
def Wm(_:Params):=MQ "stand_beyond" (AN 48) 367
def o372(P:Params):Obj:=cP "together" 665 "together" 666 667 215 1 3 369 181 (.ref 370) .none .none .none (.ref 371) 668 215 669
def Ej(a:Str)(s:Stmt)(c:Nat):=gO a s "zonewalk.together" 661 c
def Wl(_:Params):=Ej "together" (AN 51) 372
def o377(P:Params):Obj:=cP "shares" 671 "shares" 672 673 220 1 3 374 181 (.ref 375) .none .none .none (.ref 376) 674 220 675
def Wk(_:Params):=Ej "shares" (AN 52) 377
def o382(P:Params):Obj:=cP "checked_takings" 677 "checked_takings" 678 679 223 1 3 379 181 (.ref 380) .none .none .none (.ref 381) 680 223 681
def Wj(_:Params):=Ej "checked_takings" (AN 53) 382
def o387(P:Params):Obj:=cP "check_parts" 683 "check_parts" 684 685 230 1 3 384 181 (.ref 385) .none .none .none (.ref 386) 686 230 687
def Wi(_:Params):=Ej "check_parts" (AN 54) 387
def o394(_:Params):=cO "all_watches" 689 690 691 238 1 3 389 181 390 391 392 393 695 238 696
def Wh(_:Params):=Ej "all_watches" (AN 55) 394
def o399(P:Params):Obj:=cP "all_takings" 698 "all_takings" 699 700 243 1 3 396 181 (.ref 397) .none .none .none (.ref 398) 701 243 702
def Wg(_:Params):=Ej "all_takings" (AN 56) 399
def o406(_:Params):=cO "whole_name" 704 705 706 253 1 3 401 181 402 403 404 405 708 253 709
def Wf(_:Params):=Ej "whole_name" (AN 57) 406
def o413(_:Params):=cO "whole_stay" 711 712 713 255 2 3 408 181 409 410 411 412 719 255 720
def We(_:Params):=Ej "whole_stay" (AN 58) 413
def o418(P:Params):Obj:=cP "whole_ways" 722 "whole_ways" 723 724 260 2 3 415 181 (.ref 416) .none .none .none (.ref 417) 725 260 726
def Wd(_:Params):=Ej "whole_ways" (AN 59) 418
def o425(_:Params):=cO "shares_of" 728 729 730 270 3 3 420 181 421 422 423 424 741 270 742
def Wc(_:Params):=Ej "shares_of" (AN 60) 425
def o430(P:Params):Obj:=cP "starts_from" 744 "starts_from" 745 746 283 3 3 427 181 (.ref 428) .none .none .none (.ref 429) 747 283 748
def Wb(_:Params):=Ej "starts_from" (AN 61) 430
def o437(_:Params):=cO "whole_door" 750 751 752 285 3 3 432 181 433 434 435 436 762 285 763
def Wa(_:Params):=Ej "whole_door" (AN 62) 437
def o444(_:Params):=cO "_law_cell_at" 767 768 769 296 2 3 439 181 440 441 442 443 772 296 773
def Cy(a:Str)(s:Stmt)(c:Nat):=gO a s "law_zonewalk_k34_whole_runs_put_together" 765 c
def W9(_:Params):=Cy "_law_cell_at" (AN 64) 444
def o451(_:Params):=cO "_law_stream" 775 776 777 300 2 3 446 181 447 448 449 450 784 300 785
def W8(_:Params):=Cy "_law_stream" (AN 65) 451
def o458(_:Params):=cO "_law_draws" 787 788 789 313 3 3 453 181 454 455 456 457 793 313 794
def W7(_:Params):=Cy "_law_draws" (AN 66) 458
def o465(_:Params):=cO "_law_names" 796 797 798 317 2 3 460 181 461 462 463 464 809 317 810
def W6(_:Params):=Cy "_law_names" (AN 67) 465
def o472(_:Params):=cO "_law_looks" 812 813 814 329 4 3 467 181 468 469 470 471 822 329 823
def W5(_:Params):=Cy "_law_looks" (AN 68) 472
def o477(P:Params):Obj:=cP "_law_part" 825 "_law_part" 826 827 336 5 3 474 181 (.ref 475) .none .none .none (.ref 476) 828 336 829
def W4(_:Params):=Cy "_law_part" (AN 69) 477
def o484(_:Params):=cO "_law_parts" 831 832 833 349 2 3 479 181 480 481 482 483 842 349 843
def W3(_:Params):=Cy "_law_parts" (AN 70) 484
def o489(P:Params):Obj:=cP "_law_machine" 845 "_law_machine" 846 847 358 1 3 486 181 (.ref 487) .none .none .none (.ref 488) 848 358 849
def W0(_:Params):=Cy "_law_machine" (AN 71) 489
def o496(_:Params):=cO "_law_met" 851 852 853 361 4 3 491 181 492 493 494 495 863 361 864
def WZ(_:Params):=Cy "_law_met" (AN 72) 496
def o501(P:Params):Obj:=cP "_law_stay_met" 866 "_law_stay_met" 867 868 368 4 3 498 181 (.ref 499) .none .none .none (.ref 500) 869 368 870
def WY(_:Params):=Cy "_law_stay_met" (AN 73) 501
def o506(P:Params):Obj:=cP "_law_gone" 872 "_law_gone" 873 874 370 4 3 503 181 (.ref 504) .none .none .none (.ref 505) 875 370 876
def WX(_:Params):=Cy "_law_gone" (AN 74) 506
def o513(_:Params):=cO "_law_goers" 878 879 880 378 1 3 508 181 509 510 511 512 888 378 889
def WV(_:Params):=Cy "_law_goers" (AN 75) 513
def o518(P:Params):Obj:=cP "_law_stepped" 891 "_law_stepped" 892 893 390 5 3 515 181 (.ref 516) .none .none .none (.ref 517) 894 390 895
def WU(_:Params):=Cy "_law_stepped" (AN 76) 518
def o525(_:Params):=cO "_law_drawn" 897 898 899 403 6 3 520 181 521 522 523 524 912 403 913
def WT(_:Params):=Cy "_law_drawn" (AN 77) 525
def o532(_:Params):=cO "_law_divisor" 915 916 917 413 2 3 527 181 528 529 530 531 920 413 921
def WR(_:Params):=Cy "_law_divisor" (AN 78) 532
def o539(_:Params):=cO "_law_fraction" 923 924 925 417 2 3 534 181 535 536 537 538 929 417 930
def WQ(_:Params):=Cy "_law_fraction" (AN 79) 539
def o544(P:Params):Obj:=cP "_law_as_one" 932 "_law_as_one" 933 934 420 2 3 541 181 (.ref 542) .none .none .none (.ref 543) 935 420 936
def WO(_:Params):=Cy "_law_as_one" (AN 80) 544
def o551(_:Params):=cO "_law_refused" 938 939 940 425 2 3 546 181 547 548 549 550 945 425 946
def WM(_:Params):=Cy "_law_refused" (AN 81) 551
def o558(_:Params):=cO "_law_turned" 948 949 950 432 3 3 553 181 554 555 556 557 956 432 957
def WL(_:Params):=Cy "_law_turned" (AN 82) 558
def o563(P:Params):Obj:=cP "law" 959 "law" 960 961 439 1 3 560 181 (.ref 561) .none .none .none (.ref 562) 962 439 963
def WK(_:Params):=Cy "law" (AN 83) 563
noncomputable def Zn:List Addr:=[2,3,15,22,23,24,25,28,35,36,37,40,47,48,49,52,59,60,61,64,76,77,78,79,80,83,90,91,92,100,101,107,108,109,115,116,122,123,129,130,131,132,138,139,145,146,150,151,157,158,164,165,169,170,176,177,181,182,188,189,195,196,204,210,211,217,218,224,225,226,227,228,229,230,243,244,250,251,257,258,264,265,271,272,278,279,280,281,282,283,284,290,291,297,298,302,303,309,310,314,315,319,320,324,325,329,330,334,335,336,342,343,344,350,351,357,358,362,363,367,368,372,373,377,378,382,383,387,388,394,395,399,400,406,407,413,414,418,419,425,426,430,431,437,438,444,445,451,452,458,459,465,466,472,473,477,478,484,485,489,490,496,497,501,502,506,507,513,514,518,519,525,526,532,533,539,540,544,545,551,552,558,559,563,564]
def Ib(P:Params):Frag:=Zn.zipWith (λa o=>(a,o P)) [o2,o3,o15,o22,o23,o24,o25,o28,o35,o36,o37,o40,o47,o48,o49,o52,o59,o60,o61,o64,o76,WJ,o78,o79,o80,o83,o90,o91,o92,o100,X8,o107,X7,X6,o115,X5,o122,X4,o129,X3,X2,X1,o138,X0,o145,XZ,o150,XY,o157,XX,o164,XW,o169,XU,o176,XT,o181,XS,o188,XO,o195,XN,Od,o210,XM,o217,XJ,o224,XI,o226,o227,o228,o229,o230,o243,XH,o250,XG,o257,XF,o264,XD,o271,XC,o278,XB,o280,o281,o282,o283,o284,o290,XA,o297,Wz,o302,Wy,o309,Wx,o314,Ww,o319,Wv,o324,Wu,o329,Wt,o334,Ws,L7,o342,Wq,Oc,o350,Wp,o357,Wo,o362,Wn,o367,Wm,o372,Wl,o377,Wk,o382,Wj,o387,Wi,o394,Wh,o399,Wg,o406,Wf,o413,We,o418,Wd,o425,Wc,o430,Wb,o437,Wa,o444,W9,o451,W8,o458,W7,o465,W6,o472,W5,o477,W4,o484,W3,o489,W0,o496,WZ,o501,WY,o506,WX,o513,WV,o518,WU,o525,WT,o532,WR,o539,WQ,o544,WO,o551,WM,o558,WL,o563,WK]
def vq:Program:={ pw with main:={ (pw).main with body:=[AN 83] } }
noncomputable def loo:kE:=["WalkError","NoNumber","BadMachine","TooMany","NoRun","NoMark","is_whole","greatest_divisor","fraction","plus","under","WORDS","STAY_WORDS","is_look","is_number","is_guard","stands_so","MOST_WATCHES","MOST_ROOMS","MOST_DOORS","is_small_letter","is_name","is_watch_name","is_room_name","is_sign","own_copy","Door","Machine","check_watches","are_unlike","check_rooms","check_doors","are_noughts","placed","holds","nought_places","start","walked","stands","is_legal","stand_behind","stand_beyond","MOST_PARTS","together","shares","checked_takings","check_parts","all_watches","all_takings","whole_name","whole_stay","whole_ways","shares_of","starts_from","whole_door","_law_cell_at","_law_stream","_law_draws","_law_names","_law_looks","_law_part","_law_parts","_law_machine","_law_met","_law_stay_met","_law_gone","_law_goers","_law_stepped","_law_drawn","_law_divisor","_law_fraction","_law_as_one","_law_refused","_law_turned"].map Str.ofString
abbrev hk:Hook:=kHook Ib Zn (λ_=>by ext)
theorem zn2(w)(os):(go pw 3982 w os).map (λs=>LM pw vq loo (xt OT.row.toRowW vq) hk.obs (boot_heap w.params) s.abs)=some (true,openGood vq loo,hk.val w):=by ext
theorem left:LeftO pw vq loo (xt OT.row.toRowW vq) hk.obs hk.val 8544 true:=zl9 8544 3982 (by ext) (by decide) (λs=>by ext) (by decide) zn2
theorem said:OT.wellSaid=true:=zjo (by ext)
abbrev fr(w:World):Frag:=Ib w.params
noncomputable def ca:Str->Value:=λc=>if c="BadMachine" then .ref 49 else if c="TooMany" then .ref 61 else if c="NoNumber" then .ref 37 else if c="NoMark" then .ref 92 else if c="WalkError" then .ref 24 else if c="NoRun" then .ref 80 else .none
section
variable {w:World}{mg:Str->Option Value}{base:Heap} [q:Qx pw w (fr w) mg base ca]
theorem E7:Cls (fr w) BC:=⟨by ext,by ext,by ext,by ext⟩
theorem Fo:∀f∈BH,Cb (fr w) BC f:=(BM (by unfold Cb;ext) (BM (by unfold Cb;ext) (BM (by unfold Cb;ext) (BM (by unfold Cb;ext) (BM (by unfold Cb;ext) BX)))))
theorem E6:Cls (fr w) Au:=⟨by ext,by ext,by ext,by ext⟩
theorem IQ:∀f∈Ay,Cb (fr w) Au f:=(BM (by unfold Cb;ext) (BM (by unfold Cb;ext) (BM (by unfold Cb;ext) BX)))
theorem yg:specialIn (fr w) (.builtin "object.__class__") "__get__"=some (some (.builtin "getset_descriptor.__get__"))/\takesIn (fr w) (.builtin "object.__class__")=some true:=⟨by ext,by ext⟩
include q
def zc7:ECls (fr w) mg "BadMachine":=Jo yg 49 (q.c _ _ (by ext)) (by ext)
theorem K2:∃T:ECls (fr w) mg "BadMachine",ca "BadMachine"=.ref T.C/\DS (fr w) T.C=some none:=⟨zc7,by rfl,by ext⟩
def cU:ECls (fr w) mg "TooMany":=Jo yg 61 (q.c _ _ (by ext)) (by ext)
theorem SS:∃T:ECls (fr w) mg "TooMany",ca "TooMany"=.ref T.C/\DS (fr w) T.C=some none:=⟨cU,by rfl,by ext⟩
def zdv:ECls (fr w) mg "NoNumber":=Jo yg 37 (q.c _ _ (by ext)) (by ext)
theorem zeo:∃T:ECls (fr w) mg "NoNumber",ca "NoNumber"=.ref T.C/\DS (fr w) T.C=some none:=⟨zdv,by rfl,by ext⟩
def zgh:ECls (fr w) mg "NoMark":=Jo yg 92 (q.c _ _ (by ext)) (by ext)
theorem zj0:∃T:ECls (fr w) mg "NoMark",ca "NoMark"=.ref T.C/\DS (fr w) T.C=some none:=⟨zgh,by rfl,by ext⟩
def cV:ECls (fr w) mg "NoRun":=Jo yg 80 (q.c _ _ (by ext)) (by ext)
def SN:StpX pw w (fr w) mg base "NoRun" Hx 1:=have FN:=Yo (st:=Ct 5 0) (show(fr w).lookup 77=some (WJ w.params) by ext) (show codeIn (fr w) (.ref 76) "NoRun.__init__"=true by ext) (by ext);⟨_,_,q.c _ _ (by ext),⟨cV.k,by ext,by ext,by ext⟩,by ext,by ext,by ext,zmn FN (Tw (by decide +kernel)) rfl rfl rfl,.all (Gu λ_ _=>rfl)⟩
def D1:=Av W9 445 zdu (Aw Ao An)
def D2:=Av W8 452 zel (Aw Ao An)
def D3:=Av W7 459 zg5 (Aw (A2 D2 Ao) An)
def D4:=Av W6 466 zg2 (Aw Ao An)
def D5:=Av XW 165 za9 (Aw Ao An)
def D6:=Av XU 170 zei (Aw (A2 D5 Ao) An)
def D7:=Av XT 177 zam (Aw (A2 D6 Ao) An)
def D8:=Av XS 182 zb2 (Aw (A2 D5 Ao) An)
def D9:=Av X8 101 zdm (Aw Ao An)
def D10:=Av XZ 146 zcq (Aw (A2 D9 Ao) An)
def D11:=Av X0 139 zej (Aw (A2 D10 Ao) An)
def S6:=Av XY 151 zdo (Aw (A2 D11 Ao) An)
def K4:=Av Wz 298 zc5 (Aw Ao An)
theorem aZ:∃u v,mg "MOST_WATCHES"=some u/\Ab v u/\∀F,Rp (fr w) F F HZ v R0:=⟨(.int (7) 389),(.int 7),q.c _ _ (by ext),⟨_,rfl⟩,λF=>.int _⟩
def D14:=Av XA 291 zan (Aw (A2 D7 (A2 K4 Ao)) (An (co:=(C0 aZ CJ))) (hex:=(BM K2 BX)))
theorem zbz:∃u v,mg "STAY_WORDS"=some u/\Ab v u/\∀F,Rp (fr w) F F MH v R0:=⟨_,.ref 132,q.c _ (.ref 132) (by ext),rfl,λF=>Ar.of_node (xs:=[.str "<",.str "<="]) (.inr ⟨X1 w.params,_,_,by ext,rfl,rfl,by decide,(.cons ⟨_,rfl⟩ (.cons ⟨_,rfl⟩ .nil))⟩) (OW ["<","<="])⟩
def D15:=Av Wy 303 zbj (Aw (A2 D8 (A2 S6 (A2 K4 Ao))) (An (co:=(C0 zbz CJ))) (hex:=(BM K2 BX)))
def D16:=Av Ww 315 zbm (Aw (A2 D7 (A2 K4 Ao)) An)
def D17:=Av XO 189 zeh (Aw (A2 D6 Ao) An)
def D18:=Av XN 196 zdl (Aw Ao An)
theorem aY:∃u v,mg "WORDS"=some u/\Ab v u/\∀F,Rp (fr w) F F IU v R0:=⟨_,.ref 131,q.c _ (.ref 131) (by ext),rfl,λF=>Ar.of_node (xs:=[.str "<",.str "<=",.str ">",.str ">=",.str "="]) (.inr ⟨X2 w.params,_,_,by ext,rfl,rfl,by decide,(.cons ⟨_,rfl⟩ (.cons ⟨_,rfl⟩ (.cons ⟨_,rfl⟩ (.cons ⟨_,rfl⟩ (.cons ⟨_,rfl⟩ .nil)))))⟩) (OW ["<","<=",">",">=","="])⟩
def D19:=Av Wx 310 zbl (Aw (A2 S6 (A2 D16 (A2 D17 Ao))) (An (co:=(C0 aY CJ)) (cl:=(BM ⟨E7,Fo⟩ BX)) (ci:=(C0 ⟨228,q.c _ _ (by ext),(C0 ⟨⟨E7,by ext,by ext,by ext,by ext⟩,by ext⟩ (C0 ⟨⟨E6,by ext,by ext,by ext,by ext⟩,by ext⟩ CJ)),by ext⟩ CJ))) (hex:=(BM K2 BX)))
def SY:=aJ "Door" BC BH XM 211 zcu (bT (A2 D18 Ao) (An (sf:=(λC fs h=>by cases h;exact⟨E7,Fo⟩))))
theorem E20:Cr (fr w) (SY).fd M0.ps []:=λs us X hl=>Nr (P:=λus=>BindsTo s _ ⟨us,[]⟩ (List.zip _ (us++_))) (λ_ _ _ _ _ _=>Ę X rfl (show(fr w).lookup 204=some (Od w.params) by ext) rfl rfl rfl) us (by simpa using hl)
theorem a7:∃u v,mg "MOST_ROOMS"=some u/\Ab v u/\∀F,Rp (fr w) F F H9 v R0:=⟨(.int (64) 391),(.int 64),q.c _ _ (by ext),⟨_,rfl⟩,λF=>.int _⟩
theorem a8:∃u v,mg "MOST_DOORS"=some u/\Ab v u/\∀F,Rp (fr w) F F Fv v R0:=⟨(.int (200) 393),(.int 200),q.c _ _ (by ext),⟨_,rfl⟩,λF=>.int _⟩
def SX:=aJ "Machine" Au Ay XH 244 zb4 (bT (A2 D14 (A2 D15 (A2 D19 Ao))) (An (co:=(C0 a7 (C0 a8 CJ))) (sf:=(λC fs h=>by cases h;exact⟨E6,IQ⟩))) (hex:=(BM SS BX)))
theorem cA:Cr (fr w) (SX (w:=w) (mg:=mg) (base:=base)).fd MY.ps []:=.all (Nu λ_ _ _ _=>rfl)
def SW:=Hh XG 251 zab E6 (Hj Ao (An (cl:=(BM ⟨E6,IQ⟩ BX))))
def cT:=Hh XF 258 zao E6 (Hj Ao (An (cl:=(BM ⟨E6,IQ⟩ BX))))
def K3:=Hh XD 265 zap E6 (Hj Ao (An (cl:=(BM ⟨E6,IQ⟩ BX))))
def cS:=Hh XC 272 zb3 E6 (Hj Ao (An (cl:=(BM ⟨E6,IQ⟩ BX))))
def cR:=Hh XJ 218 zcv E7 (Hj Ao (An (cl:=(BM ⟨E7,Fo⟩ BX))))
def cQ:=Hh XI 225 zct E7 (Hj Ao (An (cl:=(BM ⟨E7,Fo⟩ BX))))
def cN:=Av Wh 395 zbn (Aw Ao (An (mt:=(BM ⟨by decide,⟨SW⟩⟩ BX))))
theorem zc0:∃u v,mg "MOST_PARTS"=some u/\Ab v u/\∀F,Rp (fr w) F F MI v R0:=⟨(.int (6) 663),(.int 6),q.c _ _ (by ext),⟨_,rfl⟩,λF=>.int _⟩
def D29:=Av Wi 388 zbk (Aw (A2 cN (A2 K4 Ao)) (An (co:=(C0 zc0 (C0 aZ CJ))) (ci:=(C0 ⟨282,q.c _ _ (by ext),(C0 ⟨⟨E7,by ext,by ext,by ext,by ext⟩,by ext⟩ (C0 ⟨⟨E6,by ext,by ext,by ext,by ext⟩,by ext⟩ CJ)),by ext⟩ CJ))) (hex:=(BM K2 BX)))
def D30:=Av Wg 400 zbo (Aw Ao (An (co:=(C0 a7 CJ)) (mt:=(BM ⟨by decide,⟨cT⟩⟩ BX))) (hex:=(BM SS BX)))
def SV:=Av Wf 407 zc3 (Aw Ao An)
def cM:=Av Wj 383 zaa (Aw (A2 D29 (A2 D30 (A2 SV (A2 K4 (A2 D8 Ao))))) An (hex:=(BM K2 BX)))
def D33:=Av We 414 zc2 (Aw Ao (An (mt:=(BM ⟨by decide,⟨cS⟩⟩ BX))))
def D34:=Av Wa 438 zc4 (Aw (A2 SV Ao) (An (cl:=(BM ⟨E7,Fo⟩ BX)) (mt:=(BM ⟨by decide,⟨K3⟩⟩ (BM ⟨by decide,⟨cR⟩⟩ (BM ⟨by decide,⟨cQ⟩⟩ BX)))) (nw:=(L9 ⟨by decide,BC,SY,(C0 ⟨[.str ""],[.str (Str.ofString "") 447],(λs us X hl=>Nt (P:=λus=>BindsTo s _ ⟨us,[]⟩ (List.zip _ (us++_))) (λ_ _ _ _ _=>Ę X rfl (show(fr w).lookup 204=some (Od w.params) by ext) rfl rfl rfl) us (by simpa using hl)),.cons ⟨_,rfl⟩ .nil,λF=>.cons (H:=F) (.str _) .nil⟩ CJ)⟩ L8))))
def D35:=Av Wc 426 zcp (Aw Ao (An (cl:=(BM ⟨E7,Fo⟩ BX))))
def D36:=Av Wb 431 zbi (Aw Ao (An (cl:=(BM ⟨E7,Fo⟩ BX))))
def cL:=Av Wd 419 zc1 (Aw (A2 D35 (A2 D36 Ao)) (An (co:=(C0 a8 CJ)) (mt:=(BM ⟨by decide,⟨K3⟩⟩ BX))) (hex:=(BM SS BX)))
def D38:=Av Wl 373 zdk (Aw (A2 cM (A2 SV (A2 D33 (A2 cL (A2 D34 (A2 cN Ao)))))) (An (nw:=(L9 ⟨by decide,Au,SX,(C0 ⟨[],[],cA,.nil,λ_=>.nil⟩ CJ)⟩ L8))))
def D39:=Av Wk 378 zfz (Aw (A2 cM (A2 cL Ao)) An)
def D40:=Av X7 108 za4 (Aw Ao An)
def D41:=Av X5 116 zdp (Aw (A2 D9 (A2 D40 Ao)) An (hex:=(BM zeo BX)) (b:=λs us X hl=>Gu (P:=λus=>BindsTo s _ ⟨us,[]⟩ (List.zip _ (us++_))) (λ_ _=>Ę X rfl (show(fr w).lookup 109=some (X6 w.params) by ext) rfl rfl rfl) us (by simpa using hl)))
def D42:=Av X4 123 zlx (Aw (A2 D41 Ao) An)
def cK:=Av X3 130 zio (Aw Ao An)
def D44:=Av XX 158 zco (Aw (A2 cK Ao) An)
def cJ:=Hh XB 279 za2 E6 (Hj Ao (An (cl:=(BM ⟨E6,IQ⟩ BX))))
def cI:=Av Wv 320 zg0 (Aw (A2 S6 Ao) (An (co:=(C0 aY CJ)) (mt:=(BM ⟨by decide,⟨SW⟩⟩ (BM ⟨by decide,⟨cJ⟩⟩ BX)))) (hex:=(BM zj0 BX)))
def cH:=Av Wu 325 zir (Aw (A2 D44 Ao) An)
def D48:=Av Wt 330 zal (Aw Ao (An (mt:=(BM ⟨by decide,⟨cQ⟩⟩ (BM ⟨by decide,⟨cJ⟩⟩ BX)))))
def D49:=Av Ws 335 ziq (Aw Ao (An (mt:=(BM ⟨by decide,⟨cT⟩⟩ (BM ⟨by decide,⟨SW⟩⟩ BX)))))
def SU:=Av Wo 358 zdn (Aw (A2 cH (A2 cI Ao)) (An (mt:=(BM ⟨by decide,⟨cS⟩⟩ BX))))
def D51:=Av Wm 368 zb0 (Aw (A2 cH (A2 cI (A2 D48 (A2 SU Ao)))) (An (cl:=(BM ⟨E7,Fo⟩ BX)) (mt:=(BM ⟨by decide,⟨K3⟩⟩ (BM ⟨by decide,⟨cR⟩⟩ BX)))))
def D52:=Av Wn 363 zb1 (Aw (A2 cK (A2 D42 (A2 SU (A2 D51 Ao)))) An)
def cG:=Av Wp 351 zfy (Aw (A2 D49 (A2 SU (A2 D52 Ao))) (An (rn:=(λy h=>by cases h;exact⟨by decide,⟨SN⟩,by rfl⟩))) (b:=λs us X hl=>Kq (P:=λus=>BindsTo s _ ⟨us,[]⟩ (List.zip _ (us++_))) (λ_ _ _=>Ę X rfl (show(fr w).lookup 344=some (Oc w.params) by ext) rfl rfl rfl) us (by simpa using hl)))
def cF:=Av Wq 343 zfx (Aw (A2 cG Ao) An (b:=λs us X hl=>Kq (P:=λus=>BindsTo s _ ⟨us,[]⟩ (List.zip _ (us++_))) (λ_ _ _=>Ę X rfl (show(fr w).lookup 336=some (L7 w.params) by ext) rfl rfl rfl) us (by simpa using hl)))
def D55:=Av WM 552 zdr (Aw Ao (An (xs:=(C0 (Sa cV (by ext)) CJ)) (dn:=(C0 ⟨by decide,cF,[.bl true],⟨[.bool true],λs us X hl=>Gu (P:=λus=>BindsTo s _ ⟨us,[]⟩ (List.zip _ (us++_))) (λ_ _=>Ę X rfl (show(fr w).lookup 336=some (L7 w.params) by ext) rfl rfl rfl) us (by simpa using hl),(.cons rfl .nil)⟩,λF=>(.cons (H:=F) (.bl _) .nil)⟩ CJ)) (rn:=(λy h=>by cases h;exact⟨by decide,⟨SN⟩,by rfl⟩))))
def D56:=Av WL 559 zek (Aw (A2 D55 Ao) (An (mt:=(BM ⟨by decide,⟨K3⟩⟩ BX))))
def D57:=Av WR 533 zdt (Aw Ao An)
def cE:=Av WQ 540 zcs (Aw (A2 D57 Ao) An)
def D59:=Av W5 473 zg3 (Aw Ao An)
def D60:=Av W4 478 zis (Aw (A2 D2 (A2 D59 (A2 D3 Ao))) An)
def D61:=Av W3 485 zg1 (Aw (A2 D4 (A2 D1 (A2 D60 Ao))) An)
def D62:=Av W0 490 zds (Aw Ao (An (nw:=(L9 ⟨by decide,BC,SY,(C0 ⟨[],[],E20,.nil,λ_=>.nil⟩ CJ)⟩ (L9 ⟨by decide,Au,SX,(C0 ⟨[],[],cA,.nil,λ_=>.nil⟩ CJ)⟩ L8)))))
def cD:=Av WZ 497 zly (Aw Ao An)
def cC:=Av WY 502 zcr (Aw (A2 cD Ao) An)
def D65:=Av WX 507 zit (Aw (A2 cD (A2 cC Ao)) An)
def D66:=Av WV 514 zg4 (Aw Ao An)
def D67:=Av WU 519 zdq (Aw (A2 cC (A2 D65 Ao)) An)
def D68:=Av WT 526 zg6 (Aw (A2 D2 (A2 D67 Ao)) An)
def D69:=Av WO 545 zem (Aw (A2 cE Ao) An)
def D70:=Av WK 564 zpq (Aw (A2 D1 (A2 D61 (A2 D62 (A2 D38 (A2 D39 (A2 D66 (A2 D69 (A2 D68 (A2 cE (A2 D56 Ao)))))))))) (An (cl:=(BM ⟨E7,Fo⟩ BX)) (mt:=(BM ⟨by decide,⟨K3⟩⟩ BX)) (xs:=(C0 (Sa cU (by ext)) CJ)) (dn:=(C0 ⟨by decide,cG,[.bl true],⟨[.bool true],λs us X hl=>Gu (P:=λus=>BindsTo s _ ⟨us,[]⟩ (List.zip _ (us++_))) (λ_ _=>Ę X rfl (show(fr w).lookup 344=some (Oc w.params) by ext) rfl rfl rfl) us (by simpa using hl),(.cons rfl .nil)⟩,λF=>(.cons (H:=F) (.bl _) .nil)⟩ (C0 ⟨by decide,cF,[.bl true],⟨[.bool true],λs us X hl=>Gu (P:=λus=>BindsTo s _ ⟨us,[]⟩ (List.zip _ (us++_))) (λ_ _=>Ę X rfl (show(fr w).lookup 336=some (L7 w.params) by ext) rfl rfl rfl) us (by simpa using hl),(.cons rfl .nil)⟩,λF=>(.cons (H:=F) (.bl _) .nil)⟩ CJ)))))
end
theorem all_mk(X:(Ib w.params).In h)(G:h.Ns mainGlobals mg)(hfa:mg "law"=some (.ref fa))
  : ∃fd,(∀(s) (v:Value),BindsTo s fd ⟨[v],[]⟩ [("_law_script",v)])/\∀base:Heap,(Ib w.params).In base->base.Ns mainGlobals mg->FnOk pw w (Ib w.params) mg base K5 13 fa fd ["_law_script"] (LH (Ib w.params)):=by
 have e:=hfa.symm.trans (mg_of X G (show nsIn (fr w) mainGlobals "law"=some (some (.ref 564)) by ext))
 cases e;refine⟨gF "law" "law" OM .none "law_zonewalk_k34_whole_runs_put_together" 765 563 .none,λs v=>.of_eq rfl,λbase _ _=>?_⟩
 have q:Qx pw w (fr w) mg base ca:=⟨λ_ _ e=>mg_of X G e,λ_ e=>mg_none_of X G e⟩
 exact zou (D70).ok λns h=>law_true ns h
theorem walk{l:PySem.W.OpenLaw}{q:Program}{loose:kE}{d:DefRec}{K:Params->k6}(hn:l.most=some 63)(hdf:d.params.defaults=[])
  (hY:∀(w:World) (h:Heap),YP w h->(K w.params).In h)
  (F : ∀ (w : World) (mg) (fa : Addr) (h : Heap), (K w.params).In h -> h.Ns mainGlobals mg -> mg d.name = some (.ref fa) ->
   ∃fd:FuncData,(∀(s:Shared) (u:Value),BindsTo s fd ⟨[u],[]⟩ [("_law_script",u)])/\∀base:Heap,(K w.params).In base->base.Ns mainGlobals mg->FnOk l.prog w (K w.params) mg base K5 13 fa fd ["_law_script"] (LH (K w.params))) :
  PySem.W.WalkO q loose XP YP l.row.toRowW d [] (λf vs=>PySem.call f vs):=
 L2.walk_of (n:=63) (k:=13) (CX:=λ_=>K5) hn (by decide) hdf ⟨rfl,by decide,by decide⟩ hY F (λ_ _ a ns hl hO hS=>⟨a,ns,rfl,Hn.of hO hS,hl,λ_=>rfl⟩) λ_ _ _ _ _ z=>z
end Zl
open PySem PySem.W PyProof.Rows
set_option maxRecDepth 100000 in
set_option maxHeartbeats 0 in
theorem PySem.Challenge.cw_zonewalk_k34_whole_runs_put_together_holds : PySem.Challenge.rw_zonewalk_k34_whole_runs_put_together.Holds := by
 refine holds_law Zl.said λs=>?_
 refine holds_open (q:=Zl.vq) (loose:=Zl.loo) (Xt:=Hd.xt PySem.Challenge.rw_zonewalk_k34_whole_runs_put_together.row.toRowW Zl.vq) (XP:=XL Zl.vq []) (Yf:=Zl.hk.obs) (Ya:=Zl.hk.val) (YP:=Zl.hk.says) Zl.left Zl.hk.of Zl.hk.keeps (λs e=>xl_of s (Bool.and_eq_true_iff.mp e).1) XL.keeps (by rfl) (by rfl) (by rfl) (λs e=>recFacts_of (Bool.and_eq_true_iff.mp e).2) (by rfl) s (by decide +kernel) ⟨rfl,rfl,rfl,rfl,rfl,by decide +kernel⟩ ?hw ?hc
 case hw=>w_witness2
 case hc=>exact Zl.walk (l:=PySem.Challenge.rw_zonewalk_k34_whole_runs_put_together) rfl rfl (λw h Y=>kIn_of Y) λw mg fa h X G e=>Zl.all_mk X G e
end
