import PyProof.Rows.All
import Wide.All
import OpenK.AllK
import Wide.FinOn
import Lean
import PyProof.EqAt
import PyProof.EqKinds
import PyProof.TupleCall
import PySem.Challenge.RW_zonewalk_k31_runs_walked
set_option compiler.extract_closed false
set_option bootstrap.genMatcherCode false
set_option linter.all false
def ya0:=@List.getElem?_eq_getElem
def ya1:=@List.length_map
def ya2:=@PySem.Heap.get?_push_of_some
def ya3:=@List.getElem?_map
def ya4:=@Bool.and_eq_true
def ya5:=@List.mem_cons_self
def ya6:=@List.getD_eq_getElem?_getD
def ya7:=@PySem.Heap.lt_size
def ya8:=@List.mem_cons_of_mem
def ya9:=@List.getElem?_eq_some_iff
def yaa:=@Option.map_eq_some_iff
def yab:=@List.mem_singleton
def yac:=@Nat.le_refl
def yad:=@Nat.lt_of_lt_of_le
def yae:=@List.mem_cons
def yaf:=@Nat.ne_of_lt
def yag:=@List.mem_append_right
def yah:=@Nat.le_trans
def yai:=@PySem.Heap.get?_push_size
def yaj:=@Int.fmod_nonneg_of_pos
def yak:=@Option.some.inj
def yal:=@List.map_cons
def yam:=@List.contains_iff_mem
def yan:=@List.getElem?_eq_none
def yao:=@List.mem_map
def yap:=@List.getElem?_set_ne
def yaq:=@List.map_map
def yar:=@Ne.symm
def yas:=@List.getElem?_set_self
def yat:=@List.length_cons
def yau:=@List.all_eq_true
def yav:=@Bool.false_ne_true
def yaw:=@List.getElem?_append_left
def yax:=@Option.map_some
def yay:=@List.not_mem_nil
def yaz:=@List.length_append
def yb0:=@List.findIdx?_eq_some_iff_getElem
def yb1:=@PySem.W.kia_one
def yb2:=@List.map_congr_left
def yb3:=@Nat.lt_irrefl
def yb4:=@List.getElem?_append_right
def yb5:=@Int.fmod_lt_of_pos
def yb6:=@PySem.Heap.get?_update_other
def yb7:=@List.getElem_mem
def yb8:=@List.size_toArray
def yb9:=@PySem.W.hideAll_get
def yba:=@PySem.mem_of_lookup
def ybb:=@List.mem_append
def ybc:=@Array.getElem?_eq_getElem
def ybd:=@List.lookup_cons
def ybe:=@Bool.or_eq_false_iff
def ybf:=@List.length_range
def ybg:=@PyProof.Rows.callWith_type1
def ybh:=@Array.getElem?_eq_some_iff
def ybi:=@PySem.F.excBase_ValueError
def ybj:=@PySem.W.of_hideAll
def ybk:=@PySem.Heap.size_push
def ybl:=@List.length_singleton
def ybm:=@List.mem_append_left
def ybn:=@List.length_nil
def ybo:=@List.ext_getElem?
def ybp:=@List.getElem?_range
def ybq:=@List.mem_range
def ybr:=@List.cons_append
def ybs:=@Option.getD_some
def ybt:=@List.mem_filterMap
def ybu:=@List.append_nil
def ybv:=@PySem.Heap.get?_update_self
def ybw:=@Bool.or_eq_true
def ybx:=@List.map_append
def yby:=@PySem.F.excAttr_ValueError
def ybz:=@PySem.W.hideAll_none
def yc0:=@List.drop_eq_getElem_cons
def yc1:=@Nat.lt_succ_self
def yc2:=@List.getElem?_take_of_lt
def yc3:=@PySem.F.slot_str_getitem
def yc4:=@List.getElem?_cons_succ
def yc5:=@Int.eq_ofNat_of_zero_le
def yc6:=@Bool.and_true
def yc7:=@List.mem_filter
def yc8:=@PySem.W.callWith_K
def yc9:=@PySem.Code.quiet_builtin
def yca:=@Bool.false_eq_true
def ycb:=@List.zip_cons_cons
def ycc:=@Nat.le_succ
def ycd:=@PyProof.Rows.boot_list
def yce:=@Nat.lt_succ_of_lt
def ycf:=@PyProof.Rows.boot_isinstance
def ycg:=@Array.getD_eq_getD_getElem?
def ych:=@List.length_take
def yci:=@List.mem_of_getElem?
def ycj:=@Nat.zero_le
def yck:=@List.length_set
def ycl:=@Option.isSome_iff_exists
def ycm:=@PySem.Obj.data_mapFields
def ycn:=@List.contains_cons
def yco:=@List.getElem?_drop
def ycp:=@PySem.F.called_set
def ycq:=@List.getLastD_cons
def ycr:=@PySem.F.plainAttrs_list
def ycs:=@PyProof.Rows.F.plain_set_update_loop
def yct:=@Bool.not_eq_true'
def ycu:=@PyProof.V.reads_dictOf
def ycv:=@PySem.SeqAt.notIn_list_reads
def ycw:=@List.getElem_inj
def ycx:=@List.length_replicate
def ycy:=@PySem.Obj.isFreed_of_fields
def ycz:=@List.getElem?_zipWith
def yd0:=@Nat.lt_trans
def yd1:=@PySem.Heap.get?_none_of_le
def yd2:=@List.nodup_cons
def yd3:=@List.of_mem_zip
def yd4:=@Int.mul_comm
def yd5:=@List.map_id'
def yd6:=@PySem.W.plainGet_of
def yd7:=@PySem.SeqAt.in_list_reads
def yd8:=@Int.lt_of_le_of_lt
def yd9:=@PySem.F.called_enumerate
def yda:=@List.findIdx?_cons
def ydb:=@PySem.Paired.length
def ydc:=@Bool.true_and
def ydd:=@Int.mul_assoc
def yde:=@PySem.W.kitx_dict
def ydf:=@List.take_sublist
def ydg:=@PySem.PassesOwn.leaving
def ydh:=@Nat.succ_le_succ
def ydi:=@Nat.le_of_lt
def ydj:=@Nat.ne_of_gt
def ydk:=@PySem.Txt.slice_le
def ydl:=@decide_eq_false
def ydm:=@PySem.wpAny_mono
def ydn:=@PySem.wpAny_truthy_bool
def ydo:=@PySem.wpAny_execs_nil
def ydp:=@PyProof.Rows.assignInOrder_cons
def ydq:=@PySem.wpAny_bind
def ydr:=@PySem.wpAny_holding
def yds:=@PySem.wpAny_standAt
def ydt:=@PySem.wpAny_pure
def ydu:=@PySem.wpAny_newObj_type
def ydv:=@PySem.wpAny_passesOwn
def ydw:=@PySem.wpAny_pyIter_list
def ydx:=@PySem.sizeLine_eq
def ydy:=@PySem.plainObj_wpAny_Assign_Attribute
def ydz:=@PySem.wpAny_Call_Name_kw
def ye0:=@PySem.typeIs_str
def ye1:=@if_true
def ye2:=@PySem.codeAny_mono
def ye3:=@decide_eq_true
def ye4:=@PySem.wpAny_setField
def ye5:=@PySem.wpAny_field
def ye6:=@PySem.wpAny_call
def ye7:=@beq_iff_eq
def ye8:=@PySem.codeAny_call_builtin
def ye9:=@PySem.codeAny_builtin
def yea:=@PySem.W.looks_findIn
def yeb:=@PySem.wpAny_of_eq
def yec:=@PySem.wpAny_loadPart_at
def yed:=@PySem.wpAny_isSubtype_exc
def yee:=@decide_eq_true_eq
def yef:=@PySem.wpAny_pyIter_enum
def yeg:=@or_false
def yeh:=@PySem.pushCells_keeps
def yei:=@of_decide_eq_true
def yej:=@if_false
def yek:=@PySem.wpAny_loadPart'
def yel:=@PySem.wpAny_ite_false
def yem:=@PySem.wpAny_isInstance
def yen:=@beq_self_eq_true
def yeo:=@PySem.wpAny_getItem_str_slice
def yep:=@PySem.post_val_or_str
noncomputable section
local macro_rules|`(tactic|ext)=>`(tactic|kernel_rfl)
abbrev k7:=PySem.W.Frag
set_option Elab.async false
set_option linter.all false
set_option maxRecDepth 100000
set_option genSizeOf false
local macro_rules
  |`(tactic| omega)=>`(tactic| first
    |assumption
    |exact yah (by assumption) (by decide +kernel)
    |exact yad (by assumption) (by decide +kernel)
    |exact Nat.lt_of_le_of_lt (by assumption) (by decide +kernel)
    |exact Nat.succ_pos _
    |exact yad (by assumption) (ydh (yah (by assumption) (by decide +kernel)))
    |exact ydh (yah (by assumption) (by decide +kernel))
    |exact yd0 (by assumption) (by assumption)
    |exact yad (by assumption) (by assumption)
    |exact Int.lt_trans (b:=0) (by decide +kernel) (by assumption)
    |exact Int.lt_of_lt_of_le (b:=0) (by decide +kernel) (by assumption)
    |exact yd8 (by assumption) (by decide +kernel)
    |exact Int.le_trans (by assumption) (by decide +kernel)
    |exact Int.le_of_lt (by assumption)
    |exact Int.ne_of_gt (by assumption)
    |lia
    |fail)
namespace L2
open PySem PySem.Spec PyProof.Rows
abbrev Key:=Sum Int Str
noncomputable def Ft:Key->Value->Bool
 |.inl k,v=>Value.isInt k v
 |.inr x,v=>Value.isStrOf x v
def keyH(w:World):Key->Int
 |.inl k=>hashInt k
 |.inr x=>hashStr w x
theorem ET:∀{k} {v},Ft k v=true->(∃i t,k=Sum.inl i/\v=Value.int i t)\/(∃x t,k=Sum.inr x/\v=Value.str x t)
 |.inl i,v,h=>by
  obtain⟨t,e⟩:=Value.isInt_shape h
  grind
 |.inr x,v,h=>by
  obtain⟨t,e⟩:=Value.isStrOf_shape h
  grind
theorem zdl(i)(t):Ft (.inl i) (.int i t)=true:=by simp[Ft,Value.isInt]
theorem zdk(x)(t):Ft (.inr x) (.str x t)=true:=by simp[Ft,Value.isStrOf]
theorem zm4(a b:Int):decide ((Sum.inl a:Key)=Sum.inl b)=(a == b):=by
 grind
theorem zm1(a b:Str):decide ((Sum.inr a:Key)=Sum.inr b)=decide (a=b):=by
 simp
theorem zm3(a:Int)(b:Str):decide (Sum.inl a=Sum.inr b)=false:=ydl (λq=>nomatch q)
theorem zm2(a:Str)(b:Int):decide (Sum.inr a=Sum.inl b)=false:=ydl (λq=>nomatch q)
def Cc(prog:Program)(w:World):PySem.KeyKind prog w Key where
 is:=Ft
 hash:=keyH w
 inj:=λv a b ha hb=>by
  rcases ET ha with ⟨i,t,rfl,rfl⟩|⟨x,t,rfl,rfl⟩
  .rcases ET hb with ⟨j,u,rfl,e⟩|⟨y,u,rfl,e⟩
   .injection e with e1 _;rw[e1]
   .exact nomatch e
  .rcases ET hb with ⟨j,u,rfl,e⟩|⟨y,u,rfl,e⟩
   .exact nomatch e
   .injection e with e1 _;rw[e1]
 byValue:=λk v h=>by
  rcases ET h with ⟨i,t,rfl,rfl⟩|⟨x,t,rfl,rfl⟩<;>rfl
 pyHash:=λhv h=>by
  rcases ET hv with ⟨i,t,rfl,rfl⟩|⟨x,t,rfl,rfl⟩
  .exact wpAny_pyHash_int h
  .exact wpAny_pyHash_str h
 eqBool:=λhu hv h=>by
  rcases ET hu with ⟨i,t,rfl,rfl⟩|⟨x,t,rfl,rfl⟩
  .rcases ET hv with ⟨j,u,rfl,rfl⟩|⟨y,u,rfl,rfl⟩
   .rw[zm4]at h;exact wpAny_eqBool_int h
   .rw[zm3]at h;exact SeqAt.EqAt.int_str i t y u _ _ _ _ h
  .rcases ET hv with ⟨j,u,rfl,rfl⟩|⟨y,u,rfl,rfl⟩
   .rw[zm2]at h;exact SeqAt.EqAt.str_int x t j u _ _ _ _ h
   .rw[zm1]at h;exact wpAny_eqBool_str h
 «strs»:=λk x t v h=>by
  rcases ET h with ⟨i,u,rfl,e⟩|⟨y,u,rfl,e⟩
  .exact nomatch e
  .injection e with e1 _
   subst e1;cases v<;>rfl
theorem zbm(prog)(w)(i)(t):(Cc prog w).is (.inl i) (.int i t)=true:=zdl i t
theorem zbl(prog)(w)(x)(t):(Cc prog w).is (.inr x) (.str x t)=true:=zdk x t
inductive V where
 |non|bl (b:Bool)|int (i:Int)|str (x:Str)|byt (b:Array UInt8)|flt (b:UInt64)|ref (a:Addr)|ty (n:String)
 deriving DecidableEq
def A5:V->Value->Prop
 |.non,u=>u=Value.none
 |.bl b,u=>u=Value.bool b
 |.int i,u=>∃t,u=Value.int i t
 |.str x,u=>∃t,u=Value.str x t
 |.byt b,u=>∃t,u=Value.bytes b t
 |.flt b,u=>∃t,u=Value.float b t
 |.ref a,u=>u=Value.ref a
 |.ty n,u=>u=Value.type n
abbrev A9:List V->List Value->Prop:=Paired A5
theorem A9.length(r:A9 xs us):xs.length=us.length:=ydb r
theorem A9.get:∀{xs} {us} {i:Nat} {x},A9 xs us->xs[i]?=some x->∃u,us[i]?=some u/\A5 x u
 |_,_,_,_,.nil,e=>by simp at e
 |_,_,0,_,.cons r _,e=>by grind
 |_,_,i+1,x,.cons _ t,e=>by
  obtain⟨u,h1,h2⟩:=A9.get t (by simpa using e)
  grind
theorem A9.set(r:A5 x u):∀{xs} {us} (i),A9 xs us->A9 (xs.set i x) (us.set i u)
 |_,_,_,.nil=>.nil
 |_,_,0,.cons _ t=>.cons r t
 |_,_,i+1,.cons q t=>.cons q (A9.set r i t)
theorem A9.append:∀{xs ys} {us ws},A9 xs us->A9 ys ws->A9 (xs++ys) (us++ws)
 |_,_,_,_,.nil,s=>s
 |_,_,_,_,.cons r t,s=>.cons r (A9.append t s)
theorem A9.take:∀{xs} {us} (n),A9 xs us->A9 (xs.take n) (us.take n)
 |_,_,0,_=>.nil
 |_,_,_+1,.nil=>.nil
 |_,_,n+1,.cons r t=>.cons r (A9.take n t)
theorem A9.drop:∀{xs} {us} (n),A9 xs us->A9 (xs.drop n) (us.drop n)
 |_,_,0,r=>r
 |_,_,_+1,.nil=>.nil
 |_,_,n+1,.cons _ t=>A9.drop n t
theorem A9.none_of:∀{i:Nat},A9 xs us->xs[i]?=none->us[i]?=none:=λr e=>by
 have h1:=r.length
 grind
def DN:Option V->Option Value->Prop
 |some v,some u=>A5 v u
 |none,none=>True
 |_,_=>False
def KV{κ:Type}:List (κ×V)->List (κ×Value)->Prop:=Paired λ(p:κ×V) (q:κ×Value)=>p.1=q.1/\A5 p.2 q.2
def kV:Key->V
 |.inl i=>.int i
 |.inr x=>.str x
inductive HO where
 |lst (xs:List V)
 |tup (xs:List V)
 |dK (kvs:List (Key×V))|dT (kvs:List (List Key×V))
 |set (S:Int->Bool) (n:Nat)
 |ins (C dx:Addr) (fs:List (Str×V))
 |own (x:Addr)
 |xd (fs:List (Str×V))
 |met (f x:Addr)
 |rng (lo hi:Int)
 |frz (o:Obj) (u:HO)
 |tbl (ps:Array Value)
 |ext (φ:Heap->Prop)
abbrev Hp:=Addr->Option HO
noncomputable def upd(H:Hp)(a:Addr)(o:HO):Hp:=λb=>if b=a then some o else H b
theorem BQ{H:Hp}{a:Addr}{o:HO}:upd H a o a=some o:=by unfold upd;simp
theorem A3(h:b≠a):upd H a o b=H b:=by unfold upd;rw[if_neg h]
theorem ne_of{H:Hp}   (h:H a=some o)(h':H b=some u)(d:o≠u):a≠b:=by
 grind
theorem B0{H:Hp}(h:H a=some o)(h':H b=none):a≠b:=by
 grind
section
variable (P:Program)(w:World)
def CI(H:Hp)(h:Heap)(a:Addr):HO->Prop
 |.lst xs=>xs.length<=sizeLine/\∃(its:List Value) (n:Nat),A9 xs its/\h.get? a=some { cls:=.type "list",data:=.seq its.toArray n }
 |.tup xs=>xs.length<=sizeLine/\∃its:List Value,A9 xs its/\IsTup h a its.toArray
 |.dK kvs=>kvs.length<=sizeLine/\(a == sysModules)=false/\∃vs,KV kvs vs/\h.DictOf (Cc P w) a vs
 |.dT kvs=>kvs.length<=sizeLine/\(a == sysModules)=false/\∃xs:List (List Key×Addr×Value),
   Paired (λ(p:List Key×V) (q:List Key×Addr×Value)=>p.1=q.1/\H q.2.1=some (.tup (p.1.map kV))/\A5 p.2 q.2.2) kvs xs /\
   ∃o es ep,h.get? a=some o/\o.ExactDict/\o.data=.dict es ep/\es.toList=xs.map (entryOfKey (tupleKind (Cc P w)))/\(xs.map (·.1)).Nodup
 |.set S n=>h.SetOf (intKind P w) a S n
 |.ins C dx fs=>H dx=some (.own a)/\fs.length<=1000/\dx≠a/\h.get? a=some (PySem.W.instObj C dx) /\
   ∃mA,h.Ns1 dx mA/\(∀f,DN (fs.lookup f) (mA f))/\PySem.Within mA (fs.map (·.1))
 |.own _=>∃o,h.get? a=some o
 |.xd fs=>∃mA,h.Ns1 a mA/\∀f,DN (fs.lookup f) (mA f)
 |.rng lo hi=>∃t u v,h.get? a=some { cls:=.type "range",data:=.fields #[.int lo t,.int hi u,.int 1 v] }
 |.frz o u=>h.get? a=some o/\CI H h a u
 |.tbl ps=>h.get? a=some { cls:=.none,data:=.fields ps }
 |.met f x=>h.get? a=some (PySem.W.methodObj (.ref f) (.ref x))
 |.ext φ=>φ h/\(∃o,h.get? a=some o)/\∀h1 h2:Heap,φ h1->(∀o,h1.get? a=some o->h2.get? a=some o)->φ h2
def HOk(H:Hp)(h:Heap):Prop:=∀a o,H a=some o->CI P w H h a o
end
section
variable {P:Program}{w:World}{H H':Hp}{h h':Heap}{a:Addr}{o:HO}
theorem CI.lt(x:CI P w H h a o):a<h.objs.size:=by
 cases o with
 |lst xs=>obtain⟨_,_,_,_,e⟩:=x;exact ya7 e
 |tup xs=>obtain⟨_,_,_,p⟩:=x;exact p.lt
 |dK kvs=>obtain⟨_,_,_,_,o,_,_,e,_⟩:=x;exact ya7 e
 |dT kvs=>obtain⟨_,_,_,_,o,_,_,e,_⟩:=x;exact ya7 e
 |set S n=>obtain⟨o,_,_,_,e,_⟩:=x;exact ya7 e
 |ins C dx fs=>obtain⟨_,_,_,e,_⟩:=x;exact ya7 e
 |own y=>obtain⟨_,e⟩:=x;exact ya7 e
 |xd fs=>obtain⟨_,⟨_,_,_,e,_⟩,_⟩:=x;exact ya7 e
 |rng lo hi=>obtain⟨_,_,_,e⟩:=x;exact ya7 e
 |frz ob u=>obtain⟨e,_⟩:=x;exact ya7 e
 |tbl ps=>exact ya7 (x)
 |met f y=>exact ya7 (x)
 |ext φ=>obtain⟨_,⟨_,e⟩,_⟩:=x;exact ya7 e
theorem Paired.mapP:∀{l₁:List α} {l₂:List β},Paired F l₁ l₂->(∀a b,F a b->G a b)->Paired G l₁ l₂
 |_,_,.nil,_=>.nil
 |_,_,.cons r t,f=>.cons (f _ _ r) (Paired.mapP t f)
theorem CI.stay(x:CI P w H h a o)(k:∀b u,(b=a\/H b=some (.own a))->h.get? b=some u->h'.get? b=some u)
  (ho:∀b,H b=some (.own a)->H' b=some (.own a)) (ht:∀b xs,H b=some (.tup xs)->H' b=some (.tup xs)):CI P w H' h' a o:=by
 induction o with
 |lst xs=>obtain⟨z,its,n,r,e⟩:=x;exact⟨z,its,n,r,k _ _ (.inl rfl) e⟩
 |tup xs=>obtain⟨z,its,r,ob,e,c⟩:=x;exact⟨z,its,r,ob,k _ _ (.inl rfl) e,c⟩
 |dK kvs=>obtain⟨z,y,vs,r,ob,es,ep,e,c⟩:=x;exact⟨z,y,vs,r,ob,es,ep,k _ _ (.inl rfl) e,c⟩
 |dT kvs =>
  obtain⟨z,y,xs,r,ob,es,ep,e,c⟩:=x;exact⟨z,y,xs,Paired.mapP r λp q z=>⟨z.1,ht _ _ z.2.1,z.2.2⟩,ob,es,ep,k _ _ (.inl rfl) e,c⟩
 |set S n=>obtain⟨ob,es,ep,t,e,c⟩:=x;exact⟨ob,es,ep,t,k _ _ (.inl rfl) e,c⟩
 |ins C dx fs =>
  obtain⟨d,z,ne,e,mA,⟨od,es,ep,e2,c⟩,r⟩:=x;exact⟨ho _ d,z,ne,k _ _ (.inl rfl) e,mA,⟨od,es,ep,k _ _ (.inr d) e2,c⟩,r⟩
 |own y=>obtain⟨ob,e⟩:=x;exact⟨ob,k _ _ (.inl rfl) e⟩
 |xd fs=>obtain⟨mA,⟨od,es,ep,e,c⟩,r⟩:=x;exact⟨mA,⟨od,es,ep,k _ _ (.inl rfl) e,c⟩,r⟩
 |rng lo hi=>obtain⟨t,u,v,e⟩:=x;exact⟨t,u,v,k _ _ (.inl rfl) e⟩
 |frz ob u ih=>obtain⟨e,q⟩:=x;exact⟨k _ _ (.inl rfl) e,ih q⟩
 |tbl ps =>
  have e :=x;exact k a _ (.inl rfl) e
 |met f y =>
  have e :=x;exact k a _ (.inl rfl) e
 |ext φ=>obtain⟨p,⟨o,e⟩,st⟩:=x;exact⟨st _ _ p λo q=>k _ _ (.inl rfl) q,⟨o,k _ _ (.inl rfl) e⟩,st⟩
theorem HOk.lt(x:HOk P w H h)(e:H a=some o):a<h.objs.size:=(x a o e).lt
theorem HOk.fresh(x:HOk P w H h)(e:h.objs.size<=a):H a=none:=by
 cases q:H a with
 |none=>rfl
 |some u=>exact absurd (yad (x.lt q) e) (yb3 _)
theorem HOk.kept(x:HOk P w H h)(k:∀b u,h.get? b=some u->h'.get? b=some u):HOk P w H h':=λa o e =>
 (x a o e).stay (λb u _ q=>k b u q) (λ_ q=>q) λ_ _ q=>q
theorem HOk.laid(x:HOk P w H h)(k:∀b u,h.get? b=some u->h'.get? b=some u)(hp:h.objs.size<=a)(new:CI P w (upd H a o) h' a o):HOk P w (upd H a o) h':=λb u e=>by
 have hn:=x.fresh hp
 by_cases hb:b=a
 .subst hb;rw[BQ]at e;grind
 .rw[A3 hb]at e;exact(x b u e).stay (λc v _ q=>k c v q) (λc q=>by rw[A3 (B0 q hn)];exact q) λc xs q=>by rw[A3 (B0 q hn)];exact q
end
def Rd(H:Hp)(a:Addr)(u:HO):Prop:=H a=some u\/∃o,H a=some (.frz o u)
theorem Rd.ok(r:Rd H a u)(x:HOk P w H h):CI P w H h a u:=by
 rcases r with r|⟨o,r⟩
 .exact x a u r
 .obtain⟨_,q⟩:=x a _ r;exact q
def J3:Option HO->Prop
 |some (.lst _)=>True
 |some (.dK _)=>True
 |some (.dT _)=>True
 |some (.set _ _)=>True
 |some (.ins _ _ _)=>True
 |some (.ext _)=>True
 |_=>False
section
variable {P:Program}{w:World}{H:Hp}{h h':Heap}{x e:Addr}{o':HO}
theorem HOk.write(ok:HOk P w H h)(mu:J3 (H x))(he:e=x\/H e=some (.own x))(k:∀b u,b≠e->h.get? b=some u->h'.get? b=some u)(heo:∃u,h'.get? e=some u)
  (new:CI P w (upd H x o') h' x o'):HOk P w (upd H x o') h':=λb u q=>by
 have nown:∀c y,H c=some (.own y)->c≠x:=λc y r z=>by subst z;rw[r]at mu;exact mu
 have ntup:∀c xs,H c=some (.tup xs)->c≠x:=λc xs r z=>by subst z;rw[r]at mu;exact mu
 by_cases hb:b=x
 .subst hb;rw[BQ]at q;cases q;exact new
 .rw[A3 hb]at q
  by_cases hbe:b=e
  .have q':H b=some (.own x):=by
    grind
   rw[q]at q';cases q';obtain⟨v,hv⟩:=heo;exact⟨v,by rw[hbe];exact hv⟩
  .refine(ok b u q).stay (λc v hc r=>k c v ?_ r) (λc r=>by rw[A3 (nown c b r)];exact r) λc xs r=>by rw[A3 (ntup c xs r)];exact r
   grind
end
structure Un(fs ex:List Addr)(H H':Hp)(h h':Heap):Prop where
 keep:∀b o,h.get? b=some o->H b=none->b∉fs->b∉ex->h'.get? b=some o
 slot:∀b o,h.get? b=some o->H b=none->b∈fs->b∉ex->∃sl,h'.get? b=some { o with slots:=sl }
 free:∀b o,h.get? b=some o->H b=none->b∉ex->H' b=none
 there:∀b o,h.get? b=some o->b∉ex->∃o',h'.get? b=some o'
 tups:∀b xs,H b=some (.tup xs)->H' b=some (.tup xs)
 frzs:∀b o u,H b=some (.frz o u)->H' b=some (.frz o u)
 tbls:∀b ps,H b=some (.tbl ps)->∃more,H' b=some (.tbl (ps++more))
section
variable {fs fs' ex ex':List Addr}{H H1 H2:Hp}{h h1 h2 h':Heap}{a x e:Addr}{o:HO}
theorem Un.any(u:Un fs ex H H1 h h1)(q:h.get? b=some ob)(n:H b=none)(hx:b∉ex):∃sl,h1.get? b=some { ob with slots:=sl}:=by
 by_cases hb:b∈fs
 .exact u.slot b ob q n hb hx
 .exact⟨ob.slots,u.keep b ob q n hb hx⟩
theorem Un.kept(k:∀b u,h.get? b=some u->h'.get? b=some u):Un fs ex H H h h' :=
 ⟨λb ob q _ _ _=>k b ob q,λb ob q _ _ _=>⟨ob.slots,k b ob q⟩,λ_ _ _ n _=>n,λb ob q _=>⟨ob,k b ob q⟩,λ_ _ q=>q,λ_ _ _ q=>q,λ_ ps q=>⟨#[],by rw[q];simp⟩⟩
theorem Un.refl:Un fs ex H H h h:=Un.kept λ_ _ q=>q
theorem Un.laid(k:∀b u,h.get? b=some u->h'.get? b=some u)(hp:h.objs.size<=a)(hn:H a=none):Un fs ex H (upd H a o) h h' where
 keep:=λb u q _ _ _=>k b u q
 slot:=λb u q _ _ _=>⟨u.slots,k b u q⟩
 free:=λb u q n _=>by rw[A3 (yaf (yad (ya7 q) hp))];exact n
 there:=λb u q _=>⟨u,k b u q⟩
 tups:=λb xs q=>by rw[A3 (B0 q hn)];exact q
 frzs:=λb u xs q=>by rw[A3 (B0 q hn)];exact q
 tbls:=λb ps q=>⟨#[],by rw[A3 (B0 q hn),q];simp⟩
theorem Un.write(mu:J3 (H x))(he:e=x\/H e=some (.own x))(k:∀b u,b≠e->h.get? b=some u->h'.get? b=some u)(heo:∃u,h'.get? e=some u):Un fs ex H (upd H x o) h h':=by
 have hx:∀b,H b=none->b≠x:=λb n z=>by subst z;rw[n]at mu;exact mu
 have hb:∀b,H b=none->b≠e:=λb n z=>by
  grind
 have hm:∀b u,H b=some u->¬ J3 (some u)->b≠x:=λb u q nm z=>by grind
 refine⟨λb u q n _ _=>k b u (hb b n) q,λb u q n _ _=>⟨u.slots,k b u (hb b n) q⟩,λb u q n _=>by rw[A3 (hx b n)];exact n,λb u q _=>?_,
  λb xs q=>by rw[A3 (hm b _ q λz=>z)];exact q,λb u xs q=>by rw[A3 (hm b _ q λz=>z)];exact q,λb ps q=>⟨#[],by rw[A3 (hm b _ q λz=>z),q];simp⟩⟩
 grind
end
def Jj(h:Heap)(H:Hp):List Addr:=(List.range h.objs.size).filter λa=>(H a).isSome
def Fv(h:Heap)(H:Hp):Heap:=PySem.W.hideAll h (Jj h H)
theorem zdp(h)(H):(Fv h H).objs.size=h.objs.size:=PySem.W.hideAll_size _ _
theorem zft(e:h.get? b=some o)(n:H b=none):(Fv h H).get? b=some o :=
 yb9 _ e λhm=>by
  have q :=(yc7.mp hm).2
  grind
theorem zi0(e:(Fv h H).get? b=some o):h.get? b=some o/\H b=none:=by
 have e' :=ybj (Jj h H) e;refine⟨e',?_⟩;cases q:H b with
 |none=>rfl
 |some x =>
  have hm:b∈Jj h H:=yc7.mpr ⟨ybq.mpr (ya7 e'),by simp[q]⟩
  have z:(Fv h H).get? b=none:=ybz (Jj h H) hm
  grind
structure Mod(K:k7)(mg:Str->Option Value)(base:Heap):Prop where
 kin:K.In base
 glob:base.Ns mainGlobals mg
 blt:∃mb,base.Ns builtinsNs mb/\∀x:Str,x≠"__name__"->mb x=bootBuiltins x
 nolimit:base.NoLimit
set_option genInjectivity false in
structure Cx where
 prog:Program
 w:World
 K:k7
 mg:Str->Option Value
 base:Heap
 A:Around
 N:List Str
 s₀:Shared
 H₀:Hp
 env:Env
 outer:List Env
 stack:List Env
 ex:List Addr
 fn:Str->Bool
 calm:Bool
 pn:List (Addr×Obj)
 xe:Value->Shared->Prop
def Aw(l:List Env):List Addr:=l.filterMap (·.frame)
abbrev Cx.fs(X:Cx):List Addr:=Aw X.outer
def DX(sc:Scope)(x:Str):Prop:=sc.names.lookup x=some .local\/sc.names.lookup x=some .cell\/sc.names.lookup x=some .free
def GI(sc:Scope)(x:Str):Prop:=sc.names.lookup x=some .local\/sc.names.lookup x=some .cell
def Look(env:Env)(h:Heap)(m:Str->Option Value)(x:Str)(u:Value):Prop :=
 (env.kindOf x=some .local/\m x=some u)\/((env.kindOf x=some .cell\/env.kindOf x=some .free)/\∃c,env.cells.lookup x=some c/\h.IsCell c (some u))
structure Cx.Ok(X:Cx):Prop where
 mod:Mod X.K X.mg X.base
 kind:X.env.scope.kind=.function
 glob:X.env.globals=mainGlobals
 blt:X.env.builtins=builtinsNs
 above:X.s₀.heap.objs.size<=X.env.locals
 inj:∀x y c,X.env.cells.lookup x=some c->X.env.cells.lookup y=some c->x=y
 has:∀x,(X.env.kindOf x=some .cell\/X.env.kindOf x=some .free)->∃c,X.env.cells.lookup x=some c
 cab:∀x c,X.fn x=true->X.env.cells.lookup x=some c->X.s₀.heap.objs.size<=c
 hd:X.calm=true->X.A.handled=none
 frames:X.A.frames=some X.stack
 stk:X.stack=X.outer\/(X.stack=X.env::X.outer/\X.env.frame=some X.env.locals)
 exf:∀b∈X.ex,b≠X.env.locals/\∀x c,X.env.cells.lookup x=some c->c≠b
 bs:∀b o,X.base.get? b=some o->X.s₀.heap.get? b=some o/\X.H₀ b=none
 bsz:X.base.objs.size<=X.s₀.heap.objs.size
 noex:∀b o,X.base.get? b=some o->b∉X.ex
 exfs:∀b∈X.ex,b∉X.fs
 funs:X.s₀.heap.FunFrames X.base X.outer
 frf:∀b∈X.fs,X.H₀ b=none
structure Inv(X:Cx)(pins:List (Addr×Obj))(σ:List (Option V))(H:Hp)(s:Shared):Prop where
 ok:X.Ok
 os:s.os=X.s₀.os
 bare:AllBare s.gens
 base:Un X.fs X.ex X.H₀ H X.s₀.heap s.heap
 loc:∃m,s.heap.Ns X.env.locals m/\∀(i:Nat) (x:Str) (v:V),X.N[i]?=some x->σ[i]?=some (some v)->DX X.env.scope x->∃u,A5 v u/\Look X.env s.heap m x u
 cell:∀x c,X.env.cells.lookup x=some c->∃v,s.heap.IsCell c v
 free:H X.env.locals=none
 freeC:∀x c,X.env.cells.lookup x=some c->H c=none
 pin:∀p∈X.pn++pins,s.heap.get? p.1=some p.2/\H p.1=none/\p.1≠X.env.locals/\p.1∉X.fs/\∀v,p.2.data≠.cell v
 hok:HOk X.prog X.w H s.heap
 len:σ.length=X.N.length
section
variable {X:Cx}{pins:List (Addr×Obj)}{σ:List (Option V)}{H H':Hp}{s:Shared}{h':Heap}
theorem Cx.Ok.nofr(ok:X.Ok)(e:X.base.get? b=some o):b∉X.fs:=λhb=>by
 have:=(ok.funs.mem hb).1
 grind
theorem Inv.bs(I:Inv X pins σ H s):∀b o,X.base.get? b=some o->s.heap.get? b=some o/\H b=none:=λb o e =>
 ⟨I.base.keep b o (I.ok.bs b o e).1 (I.ok.bs b o e).2 (I.ok.nofr e) (I.ok.noex b o e),I.base.free b o (I.ok.bs b o e).1 (I.ok.bs b o e).2 (I.ok.noex b o e)⟩
theorem Inv.bk(I:Inv X pins σ H s):∀b o,X.base.get? b=some o->s.heap.get? b=some o:=λb o e=>(I.bs b o e).1
theorem Inv.mod(I:Inv X pins σ H s):Mod X.K X.mg X.base:=I.ok.mod
theorem Inv.kIn(I:Inv X pins σ H s):X.K.In s.heap:=I.ok.mod.kin.keeps I.bk
theorem Inv.lt(I:Inv X pins σ H s):X.env.locals<s.heap.objs.size:=let ⟨_,hn,_⟩:=I.loc;hn.lt
theorem Inv.sz(I:Inv X pins σ H s):X.s₀.heap.objs.size<=s.heap.objs.size:=yah I.ok.above (ydi I.lt)
theorem Inv.nofs(I:Inv X pins σ H s){a:Addr}(h:s.heap.objs.size<=a):a∉X.fs:=λhb=>by
 obtain⟨_,o,ho,_⟩:=I.ok.funs.mem hb;exact absurd (yad (ya7 ho) (yah I.sz h)) (yb3 _)
theorem Inv.cne(I:Inv X pins σ H s):∀x c,X.env.cells.lookup x=some c->c≠X.env.locals:=λx c e z=>by
 obtain⟨v,o,ho,hd⟩:=I.cell x c e;obtain⟨m,⟨o',es,ep,ho',hd',_⟩,_⟩:=I.loc
 grind
theorem Inv.funs(I:Inv X pins σ H s):s.heap.FunFrames X.base X.outer:=by
 have all:∀(l ),(∀b∈Aw l,b∈X.fs)->X.s₀.heap.FunFrames X.base l->s.heap.FunFrames X.base l:=by
  intro l
  induction l with
  |nil=>intro _ _;trivial
  |cons env r ih =>
   intro hs hl;obtain⟨hk,⟨L,o,hf,hn,ho,hd⟩,hr⟩:=hl;have hL :=hs L (by unfold Aw;grind)
   obtain⟨sl,e⟩:=I.base.slot L o ho (I.ok.frf L hL) hL λz=>I.ok.exfs L z hL
   exact⟨hk,⟨L,_,hf,hn,e,hd⟩,ih (λb hb=>hs b (by unfold Aw;rw[List.filterMap_cons,hf];exact ya8 _ hb)) hr⟩
 exact all X.outer (λ_ hb=>hb) I.ok.funs
theorem Inv.stack(I:Inv X pins σ H s):s.heap.FunFrames X.base X.stack:=by
 rcases I.ok.stk with e|⟨e,hf⟩
 .rw[e];exact I.funs
 .rw[e];obtain⟨m,hn,_⟩:=I.loc;refine .cons (by rw[I.ok.kind];decide) hf hn ?_ I.funs
  exact yd1 (yah I.ok.bsz I.ok.above)
theorem Inv.stkSub(I:Inv X pins σ H s):∀b∈Aw X.stack,b∈X.env.locals::X.fs:=λb hb=>by
 rcases I.ok.stk with e|⟨e,hf⟩
 .grind
 .rw[e]at hb;unfold Aw at hb;rw[List.filterMap_cons,hf]at hb;exact hb
theorem Inv.stkFree(I:Inv X pins σ H s):∀b∈Aw X.stack,H b=none:=λb hb=>by
 rcases yae.mp (I.stkSub b hb) with e|hb
 .rw[e];exact I.free
 .obtain⟨_,o,ho,_⟩:=I.ok.funs.mem hb;exact I.base.free b o ho (I.ok.frf b hb) λz=>I.ok.exfs b z hb
theorem Inv.step  {t':Nat}{d':Drawn}{ch:List Addr}(I:Inv X pins σ H s)
  (hch:∀b∈ch,(b∈X.ex\/X.s₀.heap.objs.size<=b)/\b≠X.env.locals/\(∀x c,X.env.cells.lookup x=some c->c≠b)/\∀p∈X.pn++pins,p.1≠b)
  (keep:∀b o,b≠X.env.locals->b∉X.fs->b∉ch->s.heap.get? b=some o->H b=none->h'.get? b=some o)
  (slot:∀b o,b≠X.env.locals->b∈X.fs->b∉ch->s.heap.get? b=some o->H b=none->∃sl,h'.get? b=some { o with slots:=sl }) (free:∀b o,b∉ch->s.heap.get? b=some o->H b=none->H' b=none)
  (there:∀b o,b∉ch->s.heap.get? b=some o->∃o',h'.get? b=some o')
  (tups:∀b xs,H b=some (.tup xs)->H' b=some (.tup xs)) (frzs:∀b o u,H b=some (.frz o u)->H' b=some (.frz o u)) (tbls:∀b ps,H b=some (.tbl ps)->∃more,H' b=some (.tbl (ps++more)))
  (ns:∀m,s.heap.Ns X.env.locals m->h'.Ns X.env.locals m) (hok:HOk X.prog X.w H' h') (hg:AllBare g') :
  Inv X pins σ H' { s with heap:=h',gens:=g',drawn:=d',toks:=t' }:=by
 have neL:∀b o,X.s₀.heap.get? b=some o->b≠X.env.locals:=λb o e=>yaf (yad (ya7 e) I.ok.above)
 have neC:∀b o,X.s₀.heap.get? b=some o->b∉X.ex->b∉ch:=λb o e hx hb=>by
  rcases(hch b hb).1 with z|z
  .exact hx z
  .exact absurd (yad (ya7 e) z) (yb3 _)
 have cellK:∀x c,X.env.cells.lookup x=some c->∀v,s.heap.IsCell c v->h'.IsCell c v:=λx c e v ⟨o,ho,hd⟩=>by
  have nch :=λz=>(hch c z).2.2.1 x c e rfl
  by_cases hc:c∈X.fs
  .obtain⟨sl,q⟩:=slot c o (I.cne x c e) hc nch ho (I.freeC x c e);exact⟨_,q,hd⟩
  .exact⟨o,keep c o (I.cne x c e) hc nch ho (I.freeC x c e),hd⟩
 refine⟨I.ok,I.os,hg,⟨λb o e n hb hx=>?_,λb o e n hb hx=>?_,λb o e n hx=>?_,λb o e hx=>?_,λb xs e=>tups b xs (I.base.tups b xs e),λb o xs e=>frzs b o xs (I.base.frzs b o xs e),λb ps e=>?_⟩,?_,λx c e=>?_,?_,λx c e=>?_,λp hp=>?_,hok,I.len⟩
 .exact keep b o (neL b o e) hb (neC b o e hx) (I.base.keep b o e n hb hx) (I.base.free b o e n hx)
 .obtain⟨sl,e1⟩:=I.base.slot b o e n hb hx;obtain⟨sl',e2⟩:=slot b _ (neL b o e) hb (neC b o e hx) e1 (I.base.free b o e n hx);exact⟨sl',e2⟩
 .obtain⟨o',e1⟩:=I.base.there b o e hx;exact free b o' (neC b o e hx) e1 (I.base.free b o e n hx)
 .obtain⟨o',e1⟩:=I.base.there b o e hx;exact there b o' (neC b o e hx) e1
 .obtain⟨m1,e1⟩:=I.base.tbls b ps e;obtain⟨m2,e2⟩:=tbls b _ e1;exact⟨m1++m2,by rw[e2,Array.append_assoc]⟩
 .obtain⟨m,hn,hl⟩:=I.loc;refine⟨m,ns m hn,λi x v e1 e2 e3=>?_⟩
  obtain⟨u,r,l⟩:=hl i x v e1 e2 e3;refine⟨u,r,?_⟩
  rcases l with l|⟨k,c,e,z⟩
  .exact .inl l
  .exact .inr ⟨k,c,e,cellK x c e _ z⟩
 .obtain⟨v,z⟩:=I.cell x c e;exact⟨v,cellK x c e v z⟩
 .obtain⟨m,⟨o,_,_,ho,_⟩,_⟩:=I.loc;exact free _ o (λz=>(hch _ z).2.1 rfl) ho I.free
 .obtain⟨v,o,ho,hd⟩:=I.cell x c e;exact free c o (λz=>(hch c z).2.2.1 x c e rfl) ho (I.freeC x c e)
 .obtain⟨e,n,ne,nf,d⟩:=I.pin p hp;have nch :=λz=>(hch p.1 z).2.2.2 p hp rfl
  exact⟨keep p.1 p.2 ne nf nch e n,free p.1 p.2 nch e n,ne,nf,d⟩
theorem Inv.un  (I:Inv X pins σ H s)(u:Un X.fs [] H H' s.heap h')(hok:HOk X.prog X.w H' h'):Inv X pins σ H' { s with heap:=h',toks:=t' }:=by
 obtain⟨m,⟨o,es,ep,ho,r⟩,_⟩:=id I.loc;obtain⟨sl,hL⟩:=u.any ho I.free (by simp)
 exact I.step (ch:=[]) (λ_ z=>nomatch z) (λb o _ hb _ e n=>u.keep b o e n hb (by simp)) (λb o _ hb _ e n=>u.slot b o e n hb (by simp)) (λb o _ e n=>u.free b o e n (by simp)) (λb o _ e=>u.there b o e (by simp)) u.tups u.frzs u.tbls (λm' hm=>by
  obtain⟨o',es',ep',ho',r'⟩:=hm;rw[ho]at ho';cases ho';exact⟨_,es',ep',hL,r'⟩) hok I.bare
theorem Inv.call     (I:Inv X pins σ H s)(u:Un (Aw X.stack) ch H H' s.heap h')(hok:HOk X.prog X.w H' h')(hg:AllBare g')
  (hch:∀b∈ch,(b∈X.ex\/X.s₀.heap.objs.size<=b)/\b≠X.env.locals/\(∀x c,X.env.cells.lookup x=some c->c≠b)/\∀p∈X.pn++pins,p.1≠b) :
  Inv X pins σ H' { s with heap:=h',gens:=g',drawn:=d',toks:=t' }:=by
 obtain⟨m,⟨o,es,ep,ho,r⟩,_⟩:=id I.loc;obtain⟨sl,hL⟩:=u.any ho I.free λz=>(hch _ z).2.1 rfl
 exact I.step hch (λb o hL hb hc e n=>u.keep b o e n (λz=>(yae.mp (I.stkSub b z)).elim hL hb) hc) (λb o _ _ hc e n=>u.any e n hc) (λb o hc e n=>u.free b o e n hc) (λb o hc e=>u.there b o e hc) u.tups u.frzs u.tbls (λm' hm=>by
  obtain⟨o',es',ep',ho',r'⟩:=hm;rw[ho]at ho';cases ho';exact⟨_,es',ep',hL,r'⟩) hok hg
theorem Inv.turned   (I:Inv X pins σ H s)(k:∀b o,b≠it->s.heap.get? b=some o->h'.get? b=some o)(hn:H it=none)(hL:it≠X.env.locals)
  (h1:it∈X.ex\/X.s₀.heap.objs.size<=it) (h2:∀x c,X.env.cells.lookup x=some c->c≠it) (h3:∀p∈X.pn++pins,p.1≠it):Inv X pins σ H { s with heap:=h',toks:=t' }:=by
 refine I.step (ch:=[it]) (λb hb=>?_) (λb o _ _ hc e _=>k b o (λz=>hc (by simp[z])) e) (λb o _ _ hc e _=>⟨o.slots,k b o (λz=>hc (by simp[z])) e⟩) (λ_ _ _ _ n=>n)
  (λb o hc e=>⟨o,k b o (λz=>hc (by simp[z])) e⟩) (λ_ _ e=>e) (λ_ _ _ e=>e) (λb ps e=>⟨#[],by rw[e];simp⟩) (λm hm=>?_) (λb u e=>?_) I.bare
 .grind
 .obtain⟨o,es,ep,ho,r⟩:=hm;exact⟨o,es,ep,k _ o (yar hL) ho,r⟩
 .refine(I.hok b u e).stay (λc v hc q=>k c v ?_ q) (λ_ q=>q) λ_ _ q=>q
  grind
theorem Inv.tok(I:Inv X pins σ H s)(t):Inv X pins σ H { s with toks:=t}:=I.un Un.refl I.hok
theorem Inv.kept  (I:Inv X pins σ H s)(k:∀b u,s.heap.get? b=some u->h'.get? b=some u):Inv X pins σ H { s with heap:=h',toks:=t' }:=I.un (Un.kept k) (I.hok.kept k)
theorem Inv.laid{a:Addr}   (I:Inv X pins σ H s)(k:∀b u,s.heap.get? b=some u->h'.get? b=some u)(hp:s.heap.objs.size<=a)(new:CI X.prog X.w (upd H a o) h' a o) :
  Inv X pins σ (upd H a o) { s with heap:=h',toks:=t' }:=I.un (Un.laid k hp (I.hok.fresh hp)) (I.hok.laid k hp new)
theorem Inv.write    (I:Inv X pins σ H s)(mu:J3 (H x))(he:e=x\/H e=some (.own x))(k:∀b u,b≠e->s.heap.get? b=some u->h'.get? b=some u)(heo:∃u,h'.get? e=some u)
  (new:CI X.prog X.w (upd H x o) h' x o):Inv X pins σ (upd H x o) { s with heap:=h',toks:=t' }:=I.un (Un.write mu he k heo) (I.hok.write mu he k heo new)
theorem Inv.pins_of(I:Inv X pins σ H s)(h:∀p∈pins',s.heap.get? p.1=some p.2/\H p.1=none/\p.1≠X.env.locals/\p.1∉X.fs/\∀v,p.2.data≠.cell v):Inv X pins' σ H s :=
 ⟨I.ok,I.os,I.bare,I.base,I.loc,I.cell,I.free,I.freeC,λp hp=>(ybb.mp hp).elim (λz=>I.pin p (ybm _ z)) (h p),I.hok,I.len⟩
theorem Mr{N:List Str}(hN:N.Nodup){i j:Nat}(a:N[i]?=some x)(b:N[j]?=some x):i=j:=by
 obtain⟨h1,e1⟩:=ya9.mp a;obtain⟨h2,e2⟩:=ya9.mp b;exact(ycw hN).mp (e1.trans e2.symm)
theorem Q8         (I:Inv X pins σ H s)(hN:X.N.Nodup)(hi:X.N[i]?=some x)(hx:GI X.env.scope x)(r:A5 v u)
  (h:∀s',Inv X pins (σ.set i (some v)) H s'->(∃a,Heap.SameBut a s.heap s'.heap/\(a=X.env.locals\/X.env.cells.lookup x=some a))->Q () s') (hf:X.fn x=true\/X.env.scope.names.lookup x=some .local:=by first|exact .inl rfl|exact .inr rfl|assumption):wpAny M A (storeName X.env x u) Q E s:=by
 obtain⟨m,hn,hl⟩:=id I.loc;have hcls:(X.env.scope.kind == .class || (X.env.scope.kind == .module && X.env.locals != X.env.globals))=false:=by rw[I.ok.kind];rfl
 have hiσ:i<σ.length:=by rw[I.len];exact(ya9.mp hi).1
 have cne:=I.cne
 have tracked:∀{a } {h' },(∃o,s.heap.get? a=some o/\H a=none)->Heap.SameBut a s.heap h'->HOk X.prog X.w H h':=fun  ha hs b ob e=>by
  obtain⟨_,_,hfree⟩:=ha;refine(I.hok b ob e).stay (λc w' hc q=>(hs.2 c ?_).trans q) (λ_ q=>q) λ_ _ q=>q
  rintro rfl
  rcases hc with rfl|hc
  .rw[hfree]at e;cases e
  .rw[hfree]at hc;cases hc
 rcases hx with hk|hk
 .refine wpAny_storeName_local hk hn (λh' hn' hs=>?_) hcls
  obtain⟨oL,_,_,hoL,_⟩:=id hn;refine h _ ⟨I.ok,I.os,I.bare,⟨λb o e n hb hx=>?_,λb o e n hb hx=>?_,I.base.free,λb o e hx=>?_,I.base.tups,I.base.frzs,I.base.tbls⟩,⟨_,hn',λj y v' e1 e2 e3=>?_⟩,λy c e=>?_,I.free,I.freeC,λp hp=>?_,tracked ⟨oL,hoL,I.free⟩ hs,by simpa using I.len⟩ ⟨_,hs,.inl rfl⟩
  .exact(hs.2 b (yaf (yad (ya7 e) I.ok.above))).trans (I.base.keep b o e n hb hx)
  .obtain⟨sl,e1⟩:=I.base.slot b o e n hb hx;exact⟨sl,(hs.2 b (yaf (yad (ya7 e) I.ok.above))).trans e1⟩
  .obtain⟨o',e1⟩:=I.base.there b o e hx;exact⟨o',(hs.2 b (yaf (yad (ya7 e) I.ok.above))).trans e1⟩
  .by_cases hj:j=i
   .subst hj;rw[hi]at e1;cases e1;rw[yas hiσ]at e2;cases e2;exact⟨u,r,.inl ⟨hk,by simp⟩⟩
   .rw[yap (yar hj)]at e2;obtain⟨u',r',q⟩:=hl j y v' e1 e2 e3;refine⟨u',r',?_⟩
    rcases q with ⟨k,e⟩|⟨k,c,e,z⟩
    .refine .inl ⟨k,?_⟩;have:y≠x:=λe=>hj (Mr hN e1 (e▸hi))
     simp[this,e]
    .exact .inr ⟨k,c,e,z.sameBut hs (cne y c e)⟩
  .obtain⟨w',z⟩:=I.cell y c e;exact⟨w',z.sameBut hs (cne y c e)⟩
  .obtain⟨e,n,ne,nf,d⟩:=I.pin p hp;exact⟨(hs.2 p.1 ne).trans e,n,ne,nf,d⟩
 .have hfn:X.fn x=true:=by
   rcases hf with z|z
   .exact z
   .rw[z]at hk;cases hk
  obtain⟨c,hc⟩:=I.ok.has x (.inl hk);obtain⟨w',z⟩:=I.cell x c hc;refine wpAny_storeName_cell I.ok.kind hk hc z (λh' hc' hs=>?_)
  obtain⟨oc,hoc,hocd⟩:=id z;refine h { s with heap:=h' } ⟨I.ok,I.os,I.bare,⟨λb o e n hb hx=>?_,λb o e n hb hx=>?_,I.base.free,λb o e hx=>?_,I.base.tups,I.base.frzs,I.base.tbls⟩,⟨m,hn.sameBut hs (yar (cne x c hc)),λj y v' e1 e2 e3=>?_⟩,λy c' e=>?_,I.free,I.freeC,λp hp=>?_,tracked ⟨oc,hoc,I.freeC x c hc⟩ hs,by simpa using I.len⟩ ⟨c,hs,.inr hc⟩
  .exact(hs.2 b (yaf (yad (ya7 e) (I.ok.cab x c hfn hc)))).trans (I.base.keep b o e n hb hx)
  .obtain⟨sl,e1⟩:=I.base.slot b o e n hb hx;exact⟨sl,(hs.2 b (yaf (yad (ya7 e) (I.ok.cab x c hfn hc)))).trans e1⟩
  .obtain⟨o',e1⟩:=I.base.there b o e hx;exact⟨o',(hs.2 b (yaf (yad (ya7 e) (I.ok.cab x c hfn hc)))).trans e1⟩
  .by_cases hj:j=i
   .subst hj;rw[hi]at e1;cases e1;rw[yas hiσ]at e2;cases e2;exact⟨u,r,.inr ⟨.inl hk,c,hc,hc'⟩⟩
   .rw[yap (yar hj)]at e2;obtain⟨u',r',q⟩:=hl j y v' e1 e2 e3;refine⟨u',r',?_⟩
    rcases q with q|⟨k,c',e,z'⟩
    .exact .inl q
    .refine .inr ⟨k,c',e,z'.sameBut hs ?_⟩;rintro rfl;exact hj (Mr hN e1 (I.ok.inj _ _ _ e hc▸hi))
  .by_cases hcc:c'=c
   .subst hcc;exact⟨_,hc'⟩
   .obtain⟨w2,z2⟩:=I.cell y c' e;exact⟨w2,z2.sameBut hs hcc⟩
  .obtain⟨e,n,ne,nf,d⟩:=I.pin p hp;refine⟨(hs.2 p.1 ?_).trans e,n,ne,nf,d⟩;intro q;rw[q,hoc]at e;have q' :=yak e;exact d w' (by rw[<- q'];exact hocd)
theorem IH(I:Inv X pins σ H s)(hN:X.N.Nodup)(hi:X.N[i]?=some x)(hx:GI X.env.scope x)(r:A5 v u)
  (h:∀s',Inv X pins (σ.set i (some v)) H s'->Q () s') (hf:X.fn x=true\/X.env.scope.names.lookup x=some .local:=by rfl):wpAny M A (storeName X.env x u) Q E s :=
 Q8 I hN hi hx r (λs' I' _=>h s' I') hf
theorem Inv.call'   (I:Inv X pins σ H s)(ho:s'.os=s.os)(u:Un (Aw X.stack) ch H H' s.heap s'.heap)(hok:HOk X.prog X.w H' s'.heap)(hg:AllBare s'.gens)
  (hch:∀b∈ch,(b∈X.ex\/X.s₀.heap.objs.size<=b)/\b≠X.env.locals/\(∀x c,X.env.cells.lookup x=some c->c≠b)/\∀p∈X.pn++pins,p.1≠b):Inv X pins σ H' s':=by
 obtain⟨h',g',d',t',o'⟩:=s';have e :=ho;subst e;exact I.call u hok hg hch
end
abbrev XK:=Value->Option Addr->Hp->Prop
abbrev St:=List (Option V)
abbrev VK:=V->Hp->Prop
abbrev TE:=St->Hp->VK->Prop
abbrev TT:=St->Hp->(Bool->Hp->Prop)->Prop
abbrev TA:=St->Hp->(List V->Hp->Prop)->Prop
structure Ends where
 nx:St->Hp->Prop
 rt:VK
 bk:St->Hp->Prop:=λ_ _=>False
 ct:St->Hp->Prop:=λ_ _=>False
abbrev TS:=Ends->St->Hp->Prop
def EP(X:Cx)(pins:List (Addr×Obj))(σ:St)(Q:VK)(u:Value)(s':Shared):Prop:=∃v H',Inv X pins σ H' s'/\A5 v u/\Q v H'
def TP(X:Cx)(pins:List (Addr×Obj))(σ:St)(Q:Bool->Hp->Prop)(b:Bool)(s':Shared):Prop:=∃H',Inv X pins σ H' s'/\Q b H'
def AP(X:Cx)(pins:List (Addr×Obj))(σ:St)(Q:List V->Hp->Prop)(us:List Value)(s':Shared):Prop:=∃vs H',Inv X pins σ H' s'/\A9 vs us/\Q vs H'
def SP(X:Cx)(pins:List (Addr×Obj))(D:Ends)(f:Flow)(s':Shared):Prop :=
 match f with
 |.next=>∃σ' H',Inv X pins σ' H' s'/\D.nx σ' H'
 |.brk=>∃σ' H',Inv X pins σ' H' s'/\D.bk σ' H'
 |.cont=>∃σ' H',Inv X pins σ' H' s'/\D.ct σ' H'
 |.ret u=>∃v σ' H',Inv X pins σ' H' s'/\A5 v u/\D.rt v H'
def PE(X:Cx)(e:Expr)(t:TE):Prop :=
 ∀(pins:List (Addr×Obj)) (s:Shared) (σ:St) (H:Hp) (Q:VK),Inv X pins σ H s->t σ H Q->wpAny (model X.prog X.w) X.A (eval e X.env) (EP X pins σ Q) X.xe s
def PT(X:Cx)(e:Expr)(t:TT):Prop :=
 ∀(pins:List (Addr×Obj)) (s:Shared) (σ:St) (H:Hp) (Q:Bool->Hp->Prop),Inv X pins σ H s->t σ H Q->wpAny (model X.prog X.w) X.A (isTrue e X.env (eval e X.env)) (TP X pins σ Q) X.xe s
def PW(X:Cx)(e:Expr)(t:TT):Prop :=
 ∀(whole:Sem Value) (pins:List (Addr×Obj)) (s:Shared) (σ:St) (H:Hp) (Q:Bool->Hp->Prop),Inv X pins σ H s->t σ H Q->wpAny (model X.prog X.w) X.A (isTrue e X.env whole) (TP X pins σ Q) X.xe s
theorem PW.pt{X:Cx}{e:Expr}{t:TT}(h:PW X e t):PT X e t:=h _
def PA(X:Cx)(es:List Expr)(t:TA):Prop :=
 ∀(pos:Pos) (pins:List (Addr×Obj)) (s:Shared) (σ:St) (H:Hp) (Q:List V->Hp->Prop),Inv X pins σ H s->t σ H Q->wpAny (model X.prog X.w) X.A (spliced (backTo pos (starEach es X.env))) (AP X pins σ Q) X.xe s
def PS(X:Cx)(st:Stmt)(t:TS):Prop :=
 ∀(pins:List (Addr×Obj)) (s:Shared) (σ:St) (H:Hp) (D:Ends),Inv X pins σ H s->t D σ H->wpAny (model X.prog X.w) X.A (exec st X.env) (SP X pins D) X.xe s
def Av(X:Cx)(st:List Stmt)(t:TS):Prop :=
 ∀(pins:List (Addr×Obj)) (s:Shared) (σ:St) (H:Hp) (D:Ends),Inv X pins σ H s->t D σ H->wpAny (model X.prog X.w) X.A (execs st X.env) (SP X pins D) X.xe s
theorem AS  {t:Sem α}      (h:wpAny M A t Q E s)(hQ:∀a s,Q a s->Q' a s):wpAny M A t Q' E s:=ydm h hQ λ_ _ x=>x
section
variable {X:Cx}
def QO(i:Nat):TE:=λσ H Q=>∃v,σ[i]?=some (some v)/\Q v H
def tC(v:V):TE:=λ_ H Q=>Q v H
theorem GY{pos}(hN:X.N[i]?=some x)(hv:DX X.env.scope x)(hd:(x == "__debug__")=false:=by decide)(hcd:(x == "__classdict__")=false:=by decide):PE X (.Name x pos) (QO i):=by
 intro pins s σ H Q I h;obtain⟨v,e,h⟩:=h;obtain⟨m,hn,hl⟩:=I.loc;obtain⟨u,r,l⟩:=hl i x v hN e hv;have Ax:EP X pins σ Q u s:=⟨v,H,I,r,h⟩
 rcases l with ⟨hk,hm⟩|⟨hk,c,hc,hcell⟩
 .exact wpAny_Name (wpAny_loadName_local I.ok.kind hk hn hm Ax) hd
 .rcases hk with hk|hk
  .exact wpAny_Name (wpAny_loadName_cell I.ok.kind hk hc hcell Ax) hd
  .exact wpAny_Name (wpAny_loadName_free I.ok.kind hk hc hcell Ax hcd) hd
theorem So:PE X (.Constant (.int i) j pos) (tC (.int i)):=λ_ _ _ H _ I h=>wpAny_Constant_int ⟨.int i,H,I.tok _,⟨_,rfl⟩,h⟩
theorem Su:PE X (.Constant (.bool b) j pos) (tC (.bl b)):=λ_ _ _ H _ I h=>Constant_bool ⟨.bl b,H,I,rfl,h⟩
theorem Sl:PE X (.Constant .none j pos) (tC .non):=λ_ _ _ H _ I h=>Constant_none ⟨.non,H,I,rfl,h⟩
theorem zl1:PE X (.Constant (.str x) j pos) (tC (.str x)):=λ_ _ _ H _ I h=>Calls.Constant_str ⟨.str x,H,I.tok _,⟨_,rfl⟩,h⟩
def Gl(X:Cx)(x:Str):Prop:=X.env.kindOf x=some .globalImplicit
theorem G5{σ:St}(I:Inv X pins σ H s)(hg:Gl X x)(hm:X.mg x=some u)(h:Q u s)
  (hd:(x == "__debug__")=false:=by decide):wpAny (model X.prog X.w) X.A (eval (.Name x pos) X.env) Q E s :=
 Calls.Name_function_global I.ok.kind hg (Calls.loadGlobal_global (by rw[I.ok.glob];exact I.mod.glob.keeps I.bk) hm h) hd
theorem Fq{E}{σ:St}{pos}(I:Inv X pins σ H s)(hg:Gl X x)(hm:X.mg x=none)(hv:bootBuiltins x=some u)(h:Q u s)
  (hn:x≠"__name__":=by decide) (hd:(x == "__debug__")=false:=by decide):wpAny (model X.prog X.w) X.A (eval (.Name x pos) X.env) Q E s:=by
 obtain⟨mb,h1,h2⟩:=I.mod.blt;exact Calls.Name_function_global I.ok.kind hg (Calls.loadGlobal_builtin (by rw[I.ok.glob];exact I.mod.glob.keeps I.bk) hm (by rw[I.ok.blt];exact h1.keeps I.bk) ((h2 x hn).trans hv) h) hd
theorem Mf     (hg:Gl X x)(hm:X.mg x=some u)(r:A5 v u)(hd:(x == "__debug__")=false:=by decide):PE X (.Name x pos) (tC v) :=
 λ_ _ _ H _ I h=>G5 I hg hm ⟨v,H,I,r,h⟩ hd
theorem Ss{x:Str}{v:V}{u:Value}{pos:Pos}(hg:Gl X x)(hm:X.mg x=none)(hv:bootBuiltins x=some u)(r:A5 v u)(hn:x≠"__name__":=by decide)(hd:(x == ("__debug__":Str))=false:=by decide):PE X (.Name x pos) (tC v) :=
 λ_ _ _ H _ I h=>Fq I hg hm hv ⟨v,H,I,r,h⟩ hn hd
variable {a b:Expr}{ta tb:TE}{pos:Pos}
def tB(t:TE):TT:=λσ H Q=>t σ H λx H1=>∃c,x=.bl c/\Q c H1
theorem zkm   (h:PE X e t)(he:∀whole,isTrue e X.env whole=(do let v <- whole;standAt e.pos;holding [v] (truthy v)):=by rfl):PT X e (tB t):=by
 intro pins s σ H Q I hw;refine isTrue_plain (AS (h pins s σ H _ I hw) λv s1 ⟨x,H1,I1,r1,q1⟩=>?_) (he _)
 obtain⟨d,rfl,q⟩:=q1;cases r1;exact ydn ⟨H1,I1,q⟩
variable {tA tB':TT}{rest:List Expr}
def tAnd(t u:TT):TT:=λσ H Q=>t σ H λc H1=>if c=true then u σ H1 Q else Q false H1
def tOr(t u:TT):TT:=λσ H Q=>t σ H λc H1=>if c=true then Q true H1 else u σ H1 Q
def QV(t:TT):TT:=λσ H Q=>t σ H λc H1=>Q (!c) H1
theorem zha(ha:PT X a tA):PW X (.BoolOp .And [a] pos) tA:=by
 intro wh pins s σ H Q I h;refine isTrue_and (AS (ha pins s σ H Q I h) λc s1 e=>?_)
 cases c with
 |true=>exact isTrue_and_nil e
 |false=>exact e
theorem zkk(ha:PT X a tA):PW X (.BoolOp .Or [a] pos) tA:=by
 intro wh pins s σ H Q I h;refine isTrue_or (AS (ha pins s σ H Q I h) λc s1 e=>?_)
 cases c with
 |false=>exact isTrue_or_nil e
 |true=>exact e
theorem zkl(ha:PT X a tA)(hb:PW X (.BoolOp .And (b::rest) pos) tB'):PW X (.BoolOp .And (a::b::rest) pos) (tAnd tA tB'):=by
 intro wh pins s σ H Q I h;refine isTrue_and (AS (ha pins s σ H _ I h) λc s1 ⟨H1,I1,q1⟩=>?_)
 cases c with
 |true=>exact hb wh pins s1 σ H1 Q I1 q1
 |false=>exact⟨H1,I1,q1⟩
theorem pw_or(ha:PT X a tA)(hb:PW X (.BoolOp .Or (b::rest) pos) tB'):PW X (.BoolOp .Or (a::b::rest) pos) (tOr tA tB'):=by
 intro wh pins s σ H Q I h;refine isTrue_or (AS (ha pins s σ H _ I h) λc s1 ⟨H1,I1,q1⟩=>?_)
 cases c with
 |true=>exact⟨H1,I1,q1⟩
 |false=>exact hb wh pins s1 σ H1 Q I1 q1
theorem zkn(ha:PT X a tA):PT X (.UnaryOp .Not a pos) (QV tA):=by
 intro pins s σ H Q I h;exact isTrue_not (ha pins s σ H (λc H1=>Q (!c) H1) I h)
def tAndV(ta tb:TE):TE:=λσ H Q=>ta σ H λx H1=>∃c,x=.bl c/\if c=true then tb σ H1 Q else Q (.bl false) H1
def tOrV(ta tb:TE):TE:=λσ H Q=>ta σ H λx H1=>∃c,x=.bl c/\if c=true then Q (.bl true) H1 else tb σ H1 Q
def QU(ta:TE):TE:=λσ H Q=>ta σ H λx H1=>∃c,x=.bl c/\Q (.bl (!c)) H1
theorem zl2(h:PE X a t):PE X (.BoolOp op [a] pos) t:=λpins s σ H Q I hw=>BoolOp_one (h pins s σ H Q I hw)
theorem zl6(ha:PE X a ta)(hb:PE X (.BoolOp .And (b::rest) pos) tb):PE X (.BoolOp .And (a::b::rest) pos) (tAndV ta tb):=by
 intro pins s σ H Q I h;refine BoolOp_and (AS (ha pins s σ H _ I h) λv s1 ⟨x,H1,I1,r1,q1⟩=>?_)
 obtain⟨c,rfl,q1⟩:=q1;cases r1;refine ydn ?_;cases c with
 |true=>exact hb pins s1 σ H1 Q I1 q1
 |false=>exact⟨.bl false,H1,I1,rfl,q1⟩
theorem pe_or(ha:PE X a ta)(hb:PE X (.BoolOp .Or (b::rest) pos) tb):PE X (.BoolOp .Or (a::b::rest) pos) (tOrV ta tb):=by
 intro pins s σ H Q I h;refine BoolOp_or (AS (ha pins s σ H _ I h) λv s1 ⟨x,H1,I1,r1,q1⟩=>?_)
 obtain⟨c,rfl,q1⟩:=q1;cases r1;refine ydn ?_;cases c with
 |false=>exact hb pins s1 σ H1 Q I1 q1
 |true=>exact⟨.bl true,H1,I1,rfl,q1⟩
theorem zl3(ha:PE X a ta):PE X (.UnaryOp .Not a pos) (QU ta):=by
 intro pins s σ H Q I h;refine UnaryOp_ (AS (ha pins s σ H _ I h) λv s1 ⟨x,H1,I1,r1,q1⟩=>?_)
 obtain⟨c,rfl,q1⟩:=q1;cases r1;exact not_of (ydn ⟨.bl (!c),H1,I1,rfl,q1⟩)
def tIf(t:TT)(ta tb:TE):TE:=λσ H Q=>t σ H λc H1=>if c=true then ta σ H1 Q else tb σ H1 Q
theorem zf5(hc:PT X c tA)(ha:PE X a ta)(hb:PE X b tb):PE X (.IfExp c a b pos) (tIf tA ta tb):=by
 intro pins s σ H Q I h;refine wpAny_IfExp (AS (hc pins s σ H _ I h) λd s1 ⟨H1,I1,q1⟩=>?_)
 cases d with
 |true=>exact ha pins s1 σ H1 Q I1 q1
 |false=>exact hb pins s1 σ H1 Q I1 q1
end
def Ad(K:k7)(H:Hp)(a:Addr)(xs:List V):Prop :=
 Rd H a (.lst xs) \/
  ∃(o:Obj) (its:Array Value) (n:Nat),K.lookup a=some o/\o.cls=.type "list"/\o.dict=none/\o.data=.seq its n/\its.size<=sizeLine/\A9 xs its.toList
def Bp(K:k7)(H:Hp)(a:Addr)(xs:List V):Prop :=
 Rd H a (.tup xs) \/
  ∃(o:Obj) (its:Array Value) (n:Nat),K.lookup a=some o/\o.cls=.type "tuple"/\o.data=.seq its n/\its.size<=sizeLine/\A9 xs its.toList
noncomputable def absV:Value->Option V
 |.none=>some .non
 |.bool b=>some (.bl b)
 |.int i _=>some (.int i)
 |.str x _=>some (.str x)
 |.bytes b _=>some (.byt b)
 |.float b _=>some (.flt b)
 |.ref a=>some (.ref a)
 |.type n=>some (.ty n)
 |_=>none
theorem A5.abs(r:A5 x u):absV u=some x:=by
 cases x with
 |non=>cases r;rfl
 |bl _=>cases r;rfl
 |int _=>obtain⟨t,rfl⟩:=r;rfl
 |str _=>obtain⟨t,rfl⟩:=r;rfl
 |byt _=>obtain⟨t,rfl⟩:=r;rfl
 |flt _=>obtain⟨t,rfl⟩:=r;rfl
 |ref _=>cases r;rfl
 |ty _=>cases r;rfl
theorem A5.inj(r:A5 x u)(q:A5 y u):x=y:=yak (r.abs.symm.trans q.abs)
theorem A9.inj:∀{xs ys} {us},A9 xs us->A9 ys us->xs=ys
 |_,_,_,.nil,.nil=>rfl
 |_,_,_,.cons r t,.cons r' t'=>by rw[r.inj r',A9.inj t t']
section
variable {X:Cx}{pins:List (Addr×Obj)}{σ:St}{H:Hp}{s:Shared}{a:Addr}{xs ys:List V}
theorem Ad.of{K:k7}(h:H a=some (.lst xs)):Ad K H a xs:=.inl (.inl h)
theorem Bp.of{K:k7}(h:H a=some (.tup xs)):Bp K H a xs:=.inl (.inl h)
theorem Inv.list(I:Inv X pins σ H s)(h:Ad X.K H a xs):∃its ,A9 xs its/\PlainL s.heap a its.toArray/\xs.length<=sizeLine:=by
 rcases h with h|⟨o,its,n,hk,hc,hd,hs,hz,r⟩
 .obtain⟨z,its,n,r,e⟩:=h.ok I.hok;exact⟨its,r,⟨_,n,e,rfl,rfl,rfl⟩,z⟩
 .refine⟨its.toList,r,⟨o,n,I.kIn a o hk,hc,hd,by omega⟩,?_⟩
  have e:=r.length
  grind
theorem Inv.tuple(I:Inv X pins σ H s)(h:Bp X.K H a xs):∃its ,A9 xs its/\IsTup s.heap a its.toArray/\xs.length<=sizeLine:=by
 rcases h with h|⟨o,its,n,hk,hc,hs,hz,r⟩
 .obtain⟨z,its,r,p⟩:=h.ok I.hok
  grind
 .refine⟨its.toList,r,⟨o,I.kIn a o hk,hc,n,by omega⟩,?_⟩
  have e:=r.length
  grind
theorem Inv.list_inj(I:Inv X pins σ H s)(h:Ad X.K H a xs)(h':Ad X.K H a ys):xs=ys:=by
 obtain⟨its,r,⟨o,n,e,_,_,d⟩,_⟩:=I.list h;obtain⟨its',r',⟨o',n',e',_,_,d'⟩,_⟩:=I.list h';have:its=its':=by grind
 subst this;exact r.inj r'
theorem Inv.tuple_inj(I:Inv X pins σ H s)(h:Bp X.K H a xs)(h':Bp X.K H a ys):xs=ys:=by
 obtain⟨its,r,⟨o,e,_,n,d⟩,_⟩:=I.tuple h;obtain⟨its',r',⟨o',e',_,n',d'⟩,_⟩:=I.tuple h';have:its=its':=by grind
 subst this;exact r.inj r'
end
section
variable {X:Cx}{pins:List (Addr×Obj)}{σ:St}{H:Hp}{s:Shared}{E:Value->Shared->Prop}
end
section
variable {X:Cx}{st:Stmt}{rest:List Stmt}{t u:TS}{e:Expr}{te:TE}{pos:Pos}
def QX:TS:=λD σ H=>D.nx σ H
def Lz(t u:TS):TS:=λD σ H=>t { D with nx:=u D } σ H
theorem Sb:Av X [] QX:=λ_ _ σ H _ I h=>ydo ⟨σ,H,I,h⟩
theorem KP(h1:PS X st t)(h2:Av X rest u):Av X (st::rest) (Lz t u):=by
 intro pins s σ H D I h;refine wpAny_execs_cons (AS (h1 pins s σ H { D with nx:=u D } I h) λf s1 q=>?_)
 cases f with
 |next =>
  obtain⟨σ',H',I',q⟩:=q;exact h2 pins s1 σ' H' D I' q
 |ret v=>exact q
 |brk=>exact q
 |cont=>exact q
theorem Sa(h1:PS X st t):Av X [st] t:=by
 intro pins s σ H D I h;refine wpAny_execs_cons (AS (h1 pins s σ H D I h) λf s1 q=>?_)
 cases f with
 |next=>exact ydo q
 |ret v=>exact q
 |brk=>exact q
 |cont=>exact q
theorem zhg:PS X (.Pass pos) QX:=λ_ _ σ H _ I h=>wpAny_Pass ⟨σ,H,I,h⟩
theorem Inv.quiet  {σ:St}   (I:Inv X pins σ H s):interactive X.env=false:=by simp[interactive,I.ok.kind]
def tDrop(te:TE):TS:=λD σ H=>te σ H λ_ H1=>D.nx σ H1
theorem Mb(he:PE X e te)(hs:swapsWith e none pos.line X.env=pure false:=by rfl):PS X (.Expr e pos) (tDrop te):=by
 intro pins s σ H D I h;exact wpAny_Expr_any (AS (he pins s σ H _ I h) λv s1 ⟨x,H1,I1,r1,q1⟩=>⟨σ,H1,I1,q1⟩) I.quiet hs
def tRet(te:TE):TS:=λD σ H=>te σ H D.rt
theorem Se(he:PE X e te):PS X (.Return (some e) pos) (tRet te):=by
 intro pins s σ H D I h;exact wpAny_Return_some (AS (he pins s σ H _ I h) λv s1 ⟨x,H1,I1,r1,q1⟩=>⟨x,σ,H1,I1,r1,q1⟩)
def tRetN:TS:=λD _ H=>D.rt .non H
theorem zhf:PS X (.Return none pos) tRetN:=λ_ _ σ H _ I h=>wpAny_Return_none ⟨.non,σ,H,I,rfl,h⟩
def tIfS(c:TT)(t u:TS):TS:=λD σ H=>c σ H λb H1=>if b=true then t D σ H1 else u D σ H1
theorem ps_if(hc:PT X c tc)(ha:Av X a t)(hb:Av X b u):PS X (.If c a b pos) (tIfS tc t u):=by
 intro pins s σ H D I h;refine wpAny_If (AS (hc pins s σ H _ I h) λd s1 ⟨H1,I1,q1⟩=>?_)
 cases d with
 |true=>exact ha pins s1 σ H1 D I1 q1
 |false=>exact hb pins s1 σ H1 D I1 q1
end
abbrev TG:=V->St->Hp->(St->Hp->Prop)->Prop
abbrev Hi:=List V->St->Hp->(St->Hp->Prop)->Prop
def PG(X:Cx)(target:Expr)(t:TG):Prop :=
 ∀(pins:List (Addr×Obj)) (s:Shared) (σ:St) (H:Hp) (v:V) (u:Value) (Q:St->Hp->Prop),Inv X pins σ H s->A5 v u->t v σ H Q ->
  wpAny (model X.prog X.w) X.A (assign target X.env u) (λ_ s'=>∃σ' H',Inv X pins σ' H' s'/\Q σ' H') X.xe s
def DP(X:Cx)(ts:List Expr)(t:Hi):Prop :=
 ∀(pins:List (Addr×Obj)) (s:Shared) (σ:St) (H:Hp) (vs:List V) (us:List Value) (Q:St->Hp->Prop),Inv X pins σ H s->A9 vs us->t vs σ H Q ->
  wpAny (model X.prog X.w) X.A (assignInOrder ((assignEach ts X.env).map (·.2)) us) (λ_ s'=>∃σ' H',Inv X pins σ' H' s'/\Q σ' H') X.xe s
abbrev P4:=V->V->V->Hp->(Hp->Prop)->Prop
def Pb(X:Cx)(t:P4):Prop :=
 ∀(pins:List (Addr×Obj)) (s:Shared) (σ:St) (H:Hp) (o i v:V) (ov iv u:Value) (Q:Hp->Prop),Inv X pins σ H s->A5 o ov->A5 i iv->A5 v u->t o i v H Q ->
  wpAny (model X.prog X.w) X.A (setItem ov iv u) (λ_ s'=>∃H',Inv X pins σ H' s'/\Q H') X.xe s
section
variable {X:Cx}{pos:Pos}
def Iz(i:Nat):TG:=λv σ H Q=>Q (σ.set i (some v)) H
theorem zhm{i:Nat}{x:Str}(hN:X.N.Nodup)(hi:X.N[i]?=some x)(hx:GI X.env.scope x)(hf:X.fn x=true\/X.env.scope.names.lookup x=some .local:=by rfl):PG X (.Name x pos) (Iz i):=by
 intro pins s σ H v u Q I r h;exact wpAny_assign_Name (IH I hN hi hx r (λs' I'=>⟨_,H,I',h⟩) hf)
def gNil:Hi:=λvs σ H Q=>vs=[]/\Q σ H
def gCons(t:TG)(u:Hi):Hi:=λvs σ H Q=>∃v r,vs=v::r/\t v σ H λσ' H'=>u r σ' H' Q
theorem zhl:DP X [] gNil:=by
 intro pins s σ H vs us Q I r h;obtain⟨e,h⟩:=h;exact assignInOrder_nil ⟨σ,H,I,h⟩
theorem zf3(h1:PG X e t)(h2:DP X es u)
  (hs:(assignEach (e::es) X.env).map (·.2)=assign e X.env::(assignEach es X.env).map (·.2):=by rfl):DP X (e::es) (gCons t u):=by
 intro pins s σ H vs us Q I r h;obtain⟨v,vr,e1,h⟩:=h;subst e1;cases r with
 |cons r rr =>
  rw[hs];refine ydp (AS (h1 pins s σ H _ _ _ I r h) λ_ s1 ⟨σ1,H1,I1,q1⟩=>?_)
  exact h2 pins s1 σ1 H1 _ _ Q I1 rr q1
def Nz(K:k7)(n:Nat)(t:Hi):TG:=λv σ H Q=>∃a xs,v=.ref a/\Bp K H a xs/\xs.length=n/\t xs σ H Q
theorem zky{k}(hc:X.calm=true)(h:DP X es t)
  (hn:(assignEach es X.env).length=n:=by rfl) (hst:(assignEach es X.env).findIdx? (·.1)=none:=by rfl):PG X (.Tuple es k pos) (Nz X.K n t):=by
 intro pins s σ H v u Q I r hw;obtain⟨a,xs,e1,hq,hl,hw⟩:=hw;subst e1;cases r;obtain⟨its,rv,ht,hz⟩:=I.tuple hq;refine assign_Tuple_tuple (I.ok.hd hc) ht (by simp[hn,<- hl,rv.length]) hst λh' hx=>?_
 have I1 :=I.kept (t':=s.toks) λb o e=>hx b o (yaf (ya7 e)) e
 exact h pins _ σ H xs _ Q I1 (by omega) hw
def gSub(to ti:TE)(t:P4):TG:=λv σ H Q=>to σ H λo H1=>ti σ H1 λi H2=>t o i v H2 λH3=>Q σ H3
theorem Sj(ho:PE X o to)(hi:PE X i ti)(hs:Pb X t)
  (ha : ∀ v, assign (.Subscript o i pos) X.env v = (do
   let ov <- holding [v] (eval o X.env);let iv <- holding [v,ov] (eval i X.env)
   standAt pos
   holding [v,ov,iv] (setItem ov iv v)
   release [v,ov,iv] []):=by rfl):PG X (.Subscript o i pos) (gSub to ti t):=by
 intro pins s σ H v u Q I r h;refine ydq (ydr (AS (ho pins s σ H _ I h) λov s1 ⟨x,H1,I1,r1,q1⟩=>?_))
 refine ydq (ydr (AS (hi pins s1 σ H1 _ I1 q1) λiv s2 ⟨y,H2,I2,r2,q2⟩=>?_))
 refine ydq (yds (ydq (ydr (AS (hs pins s2 σ H2 x y v ov iv u _ I2 r1 r2 r q2) λ_ s3 ⟨H3,I3,q3⟩=>?_))))
 exact wpAny_release ⟨σ,H3,I3,q3⟩
def Jn(te:TE)(g:TG):TS:=λD σ H=>te σ H λx H1=>g x σ H1 D.nx
theorem Md{tg e:Expr}{te:TE}{g:TG}(he:PE X e te)(hg:PG X tg g)(hs:swapsWithSole [tg] e pos.line X.env=pure false:=by rfl)(hw:swappedStores [tg] e X.env=pure none:=by rfl)
  (h1:(assignEach [tg] X.env).map (·.2)=[assign tg X.env]:=by rfl):PS X (.Assign [tg] e pos) (Jn te g):=by
 intro pins s σ H D I h;refine wpAny_Assign_stores (AS (he pins s σ H _ I h) λv s1 ⟨x,H1,I1,r1,q1⟩=>?_) hs hw
 rw[h1];exact AS (hg pins s1 σ H1 x v _ I1 r1 q1) λ_ s2 q=>q
theorem Sd      (hN:X.N.Nodup)(hi:X.N[i]?=some x)(hx:GI X.env.scope x)(he:PE X e te)(hs:swapsWith e (some (.Name x pos')) pos.line X.env=pure false:=by rfl)(hf:X.fn x=true\/X.env.scope.names.lookup x=some .local:=by rfl) :
  PS X (.Assign [.Name x pos'] e pos) (Jn te (Iz i)):=by
 intro pins s σ H D I h;refine wpAny_Assign_Name (AS (he pins s σ H _ I h) λv s1 ⟨y,H1,I1,r1,q1⟩=>?_) hs
 exact IH I1 hN hi hx r1 (λs2 I2=>⟨_,H1,I2,q1⟩) hf
def tPar(i j:Nat)(ta:TA):TS:=λD σ H=>ta σ H λvs H1=>∃v w,vs=[v,w]/\D.nx ((σ.set i (some v)).set j (some w)) H1
theorem zkr(hc:X.calm=true)(hN:X.N.Nodup)(hi:X.N[i]?=some x)(hj:X.N[j]?=some y)(hij:i≠j)
  (hx:X.env.scope.names.lookup x=some .local) (hy:X.env.scope.names.lookup y=some .local) (ha:PA X [a,b] ta)
  (hw:swappedStores [.Tuple [.Name x px,.Name y py] kt pt] (.Tuple [a,b] k2 pt2) X.env=pure (some [x,y]))
  (hs:swapsWithSole [.Tuple [.Name x px,.Name y py] kt pt] (.Tuple [a,b] k2 pt2) pos.line X.env=pure false:=by rfl) :
  PS X (.Assign [.Tuple [.Name x px,.Name y py] kt pt] (.Tuple [a,b] k2 pt2) pos) (tPar i j ta):=by
 intro pins s σ H D I h;rw[exec_Assign_arm];refine ydq (yds ?_);rw[hs];refine ydq (ydt ?_);rw[if_neg (by decide)]
 refine ydq (Tuple_ (AS (ha _ pins s σ H _ I h) λus s1 ⟨vs,H1,I1,r1,q1⟩=>?_))
 obtain⟨v,w,e1,q1⟩:=q1;subst e1
 obtain⟨u1,u2,rfl,rv,rw'⟩:∃u1 u2,us=[u1,u2]/\A5 v u1/\A5 w u2:=by
  cases r1 with
  |cons p q =>
   cases q with
   |cons p' q' =>
    cases q';exact⟨_,_,rfl,p,p'⟩
 refine ydu ?_ (by show 2<=sizeLine;decide)
 have I2:Inv X pins σ H1 { s1 with heap:=s1.heap.push { cls:=.type "tuple",data:=.seq [u1,u2].toArray } }:=I1.kept λb o e=>ya2 _ e
 rw[hw];refine ydq (ydt ?_);show wpAny (model X.prog X.w) X.A (do rule "assign.swapped-stores";let items <- unpackItems (.ref s1.heap.objs.size) 2 none;assignInOrder [λv=>bindName X.env y v,λv=>bindName X.env x v] items.reverse;pure Flow.next) _ _ _
 refine ydq (wpAny_rule (ydq (unpackItems_tuple (items:=#[u1,u2]) (I.ok.hd hc) (IsTup.new s1.heap _) λh' hx'=>?_)))
 have I3:=I2.kept (t':=s1.toks) λb o e=>hx' b o (yaf (ya7 e)) e
 show wpAny _ _ (assignInOrder [λv=>bindName X.env y v,λv=>bindName X.env x v] [u2,u1] >>= λ_=>pure Flow.next) _ _ _
 refine ydq (ydp (wpAny_bindName (IH I3 hN hj (.inl hy) rw' (λs2 I4=>?_) (.inr hy))))
 refine ydp (wpAny_bindName (IH I4 hN hi (.inl hx) rv (λs3 I5=>assignInOrder_nil (ydt ?_)) (.inr hx)))
 rw[List.set_comm _ _ (yar hij)]at I5;exact⟨_,H1,I5,q1⟩
end
section
variable {X:Cx}{pos:Pos}
def zjl(c:TT)(tb:TS):TS:=λD σ H=>∃W:Nat->St->Hp->Prop,(∃m,W m σ H)/\∀m σ H,W m σ H ->
 c σ H λb H1=>if b=true then ∃N:St->Hp->Prop,(∀σ' H',N σ' H'->∃m',m'<m/\W m' σ' H')/\tb { D with nx:=N,ct:=N,bk:=D.nx } σ H1 else D.nx σ H1
theorem zf0(hp:PassesOwn (model X.prog X.w) X.A X.env X.xe)(hc:PT X c tc)(hb:Av X body tb):PS X (.While c body [] pos) (zjl tc tb):=by
 intro pins s σ H D I h;obtain⟨W,⟨m0,w0⟩,turn⟩:=h;refine wpAny_While (codeAny_whileLoop (λn s'=>∃σ' H',Inv X pins σ' H' s'/\W n σ' H') ?_ m0 ⟨σ,H,I,w0⟩)
 rintro n s1 ⟨σ1,H1,I1,w1⟩;refine ydv hp (AS (hc pins s1 σ1 H1 _ I1 (turn n σ1 H1 w1)) λb s2 ⟨H2,I2,q2⟩=>?_)
 cases b with
 |true =>
  obtain⟨N,hN,q2⟩:=q2;rw[if_pos rfl];refine ydv hp (AS (hb pins s2 σ1 H2 _ I2 q2) λf s3 q3=>?_)
  cases f with
  |next =>
   obtain⟨σ3,H3,I3,n3⟩:=q3
   grind
  |cont =>
   obtain⟨σ3,H3,I3,n3⟩:=q3
   grind
  |brk=>exact q3
  |ret v=>exact q3
 |false =>
  rw[if_neg yav];exact ydo ⟨σ1,H2,I2,q2⟩
end
structure It where
 go:Nat->Hp->Prop
 yld:Nat->Hp->V->Hp->Prop
 stop:Nat->Hp->Prop
def CQ(X:Cx)(pins:List (Addr×Obj))(H:Hp)(b:Addr):Prop :=
 H b=none/\b≠X.env.locals/\b∉X.fs/\(b∈X.ex\/X.s₀.heap.objs.size<=b)/\(∀x c,X.env.cells.lookup x=some c->c≠b)/\∀p∈X.pn++pins,p.1≠b
theorem Inv.fpOk{X:Cx}{σ:St}{b:Addr}(I:Inv X pins σ H s)(hb:s.heap.objs.size<=b)(hn:H' b=none):CQ X pins H' b:=by
 refine⟨hn,ydj (yad I.lt hb),I.nofs hb,.inr (yah I.sz hb),λx c e z=>?_,λp hp z=>?_⟩
 .obtain⟨v,q⟩:=I.cell x c e;exact absurd (yad q.lt (by grind)) (yb3 _)
 .exact absurd (yad (ya7 (I.pin p hp).1) (by grind)) (yb3 _)
structure Turn(P:Program)(w:World)(K:k7)(tg:Expr)(J:It)(fp:List Addr)(it:Addr)(tn:Nat->Heap->Prop):Prop where
 mem:it∈fp
 obj:∀i h,tn i h->∀b∈fp,∃o,h.get? b=some o/\∀v,o.data≠.cell v
 keep:∀i h h',tn i h->(∀b∈fp,∀o,h.get? b=some o->h'.get? b=some o)->tn i h'
 item:∀(X:Cx),X.prog=P->X.w=w->X.K=K->X.calm=true->∀(i:Nat) (pins:List (Addr×Obj)) (s:Shared) (σ:St) (H:Hp) (E:Value->Shared->Prop),Inv X pins σ H s->(∀b∈fp,CQ X pins H b)->tn i s.heap->J.go i H ->
  wpAny (model P w) X.A (pyNext (.ref it)) (λr s1=>∃u,r=some u /\
   wpAny (model P w) X.A (letOwnedTupleGo tg (.ref it) u) (λ_ s2=>∃x H',Inv X pins σ H' s2/\A5 x u/\J.yld i H x H'/\tn (i+1) s2.heap/\∀b∈fp,H' b=none) E s1) E s
 done:∀(X:Cx),X.prog=P->X.w=w->X.K=K->X.calm=true->∀(i:Nat) (pins:List (Addr×Obj)) (s:Shared) (σ:St) (H:Hp) (E:Value->Shared->Prop),Inv X pins σ H s->(∀b∈fp,CQ X pins H b)->tn i s.heap->J.stop i H ->
  wpAny (model P w) X.A (pyNext (.ref it)) (λr s1=>r=none/\Inv X pins σ H s1) E s
 self:∀(A:Around) (i:Nat) (s:Shared) (Q:Value->Shared->Prop) (E:Value->Shared->Prop),tn i s.heap->Q (.ref it) s->wpAny (model P w) A (pyIter (.ref it)) Q E s
abbrev TI:=St->Hp->(It->Hp->Prop)->Prop
def X0(X:Cx)(pins:List (Addr×Obj))(σ:St)(tg:Expr)(R:It->Hp->Prop)(itv:Value)(s2:Shared):Prop :=
 ∃(it:Addr) (fp:List Addr) (tn:Nat->Heap->Prop) (J:It) (H':Hp),itv=.ref it/\Inv X pins σ H' s2/\Turn X.prog X.w X.K tg J fp it tn/\tn 0 s2.heap/\(∀b∈fp,CQ X pins H' b)/\R J H'
def PI(X:Cx)(tg iter:Expr)(wi:TI):Prop :=
 ∀(pins:List (Addr×Obj)) (s:Shared) (σ:St) (H:Hp) (R:It->Hp->Prop),Inv X pins σ H s->wi σ H R ->
  wpAny (model X.prog X.w) X.A (eval iter X.env) (λv s1=>wpAny (model X.prog X.w) X.A (pyIter v) (X0 X pins σ tg R) X.xe s1) X.xe s
theorem Kq            (ho:s.heap.get? it=some o)(hc:o.cls=.type n)(hd:o.data=.fields vs)
    (hn:["enumerate","zip","dict_itemiterator","dict_reverseitemiterator","odict_iterator","itertools.zip_longest","itertools.pairwise"].contains n=false) (hQ:Q () s):wpAny M A (letOwnedTupleGo tg (.ref it) u) Q E s:=by
  unfold letOwnedTupleGo
  cases tg<;>first
    |exact ydt hQ
    |(cases u<;>first
        |exact ydt hQ
        | (refine ydq (wpAny_load ho ?_)
           rw[hc,hd];show wpAny M A (if (["enumerate","zip","dict_itemiterator","dict_reverseitemiterator","odict_iterator","itertools.zip_longest","itertools.pairwise"].contains n && vs[0]? == some (rawInt _))=true then _ else _) Q E s
           rw[if_neg (by intro h;rw[hn,Bool.false_and]at h;cases h)]
           exact ydt hQ))
def Pf(K:k7)(a:Addr):It :=
 ⟨λi H=>∃xs x,Ad K H a xs/\xs[i]?=some x,λi H x H'=>H'=H/\∀xs,Ad K H a xs->xs[i]?=some x,λi H=>∃xs,Ad K H a xs/\xs.length<=i⟩
def Pe(K:k7)(a:Addr):It :=
 ⟨λi H=>∃xs x,Bp K H a xs/\xs[i]?=some x,λi H x H'=>H'=H/\∀xs,Bp K H a xs->xs[i]?=some x,λi H=>∃xs,Bp K H a xs/\xs.length<=i⟩
def Lb(lo:Int)(n:Nat):It:=⟨λi _=>i<n,λi H x H'=>H'=H/\x=.int (lo+i),λi _=>n<=i⟩
theorem zd1{K}(a it):Turn P w K tg (Pf K a) [it] it (λi h=>h.IsListIter it a i) where
 mem:=by simp
 obj:=λi h st b hb=>by
  have e :=by simpa using hb
  subst e;obtain⟨o,e,c,d⟩:=st;exact⟨o,e,λv z=>by rw[d]at z;cases z⟩
 keep:=λi h h' st k=>st.at λo e=>k it (by simp) o e
 item:=by
  intro X hP hw hK hc i pins s σ H E I hf st hg;subst hP hw hK;obtain⟨xs,x,hq,hx⟩:=hg;obtain⟨its,rv,p,hz⟩:=I.list hq;obtain⟨u,hu,ru⟩:=rv.get hx;obtain⟨f0,f1,f2,f3,f4,f5⟩:=hf it (by simp)
  refine wpAny_pyNext_list_item st p.isList (by simpa using hu) λh' st' sb=>?_
  have I1 :=I.turned (t':=s.toks) (λb o hb e=>(sb.2 b hb).trans e) f0 f1 f3 f4 f5
  obtain⟨o,e,c,d⟩:=id st';exact⟨u,rfl,Kq e c d (by decide) ⟨x,H,I1,ru,⟨rfl,λys hy=>by rw[I.list_inj hy hq];exact hx⟩,st',λb hb=>(hf b hb).1⟩⟩
 done:=by
  intro X hP hw hK hc i pins s σ H E I hf st hg;subst hP hw hK;obtain⟨xs,hq,hx⟩:=hg;obtain⟨its,rv,p,hz⟩:=I.list hq;obtain⟨f0,f1,f2,f3,f4,f5⟩:=hf it (by simp)
  have hl:=rv.length;exact wpAny_pyNext_list_end (I.ok.hd hc) st p.isList (by simp;omega) λh' eb=>⟨rfl,I.turned (λb o hb e=>eb b o hb e) f0 f1 f3 f4 f5⟩
 self:=λ_ _ _ _ _ st h=>wpAny_pyIter_listiter st h
theorem zc9{K}(a it):Turn P w K tg (Pe K a) [it] it (λi h=>h.IsTupleIter it a i) where
 mem:=by simp
 obj:=λi h st b hb=>by
  have e :=by simpa using hb
  subst e;obtain⟨o,e,c,d⟩:=st;exact⟨o,e,λv z=>by rw[d]at z;cases z⟩
 keep:=λi h h' st k=>st.at λo e=>k it (by simp) o e
 item:=by
  intro X hP hw hK hc i pins s σ H E I hf st hg;subst hP hw hK;obtain⟨xs,x,hq,hx⟩:=hg;obtain⟨its,rv,p,hz⟩:=I.tuple hq;obtain⟨u,hu,ru⟩:=rv.get hx;obtain⟨f0,f1,f2,f3,f4,f5⟩:=hf it (by simp)
  refine wpAny_pyNext_tuple_item st (p) (by simpa using hu) λh' st' sb=>?_
  have I1 :=I.turned (t':=s.toks) (λb o hb e=>(sb.2 b hb).trans e) f0 f1 f3 f4 f5
  obtain⟨o,e,c,d⟩:=id st';exact⟨u,rfl,Kq e c d (by decide) ⟨x,H,I1,ru,⟨rfl,λys hy=>by rw[I.tuple_inj hy hq];exact hx⟩,st',λb hb=>(hf b hb).1⟩⟩
 done:=by
  intro X hP hw hK hc i pins s σ H E I hf st hg;subst hP hw hK;obtain⟨xs,hq,hx⟩:=hg;obtain⟨its,rv,p,hz⟩:=I.tuple hq;obtain⟨f0,f1,f2,f3,f4,f5⟩:=hf it (by simp)
  have hl:=rv.length;exact wpAny_pyNext_tuple_end (I.ok.hd hc) st (p) (by simp;omega) λh' eb=>⟨rfl,I.turned (λb o hb e=>eb b o hb e) f0 f1 f3 f4 f5⟩
 self:=λ_ _ _ _ _ st h=>wpAny_pyIter_tupleiter st h
theorem zca{K}(it)(lo)(n):Turn P w K tg (Lb lo n) [it] it (λi h=>IsRangeIter h it (lo+i * 1) (n - i) 1) where
 mem:=by simp
 obj:=λi h st b hb=>by
  have e :=by simpa using hb
  subst e
  exact⟨_,st,λv z=>by
   have z' :=z;cases z'⟩
 keep:=λi h h' st k=>k it (by simp) _ st
 item:=by
  intro X hP hw hK hc i pins s σ H E I hf st hg;subst hP hw hK;obtain⟨f0,f1,f2,f3,f4,f5⟩:=hf it (by simp)
  have W:=Walks.range (prog:=X.prog) (w:=X.w) (I.ok.hd hc) it lo 1 n;refine W.item i s _ _ hg st λv h' tk hv st' kk=>?_
  obtain⟨t,rfl⟩:=hv;have I1:Inv X pins σ H { s with heap:=h',toks:=tk }:=I.turned (λb o hb e=>kk b o (by simpa using hb) e) f0 f1 f3 f4 f5
  refine⟨_,rfl,Kq st' rfl rfl (by decide) ⟨.int (lo+i),H,I1,⟨t,?_⟩,⟨rfl,rfl⟩,st',λb hb=>(hf b hb).1⟩⟩
  rw[Int.mul_one]
 done:=by
  intro X hP hw hK hc i pins s σ H E I hf st hg;subst hP hw hK;obtain⟨f0,f1,f2,f3,f4,f5⟩:=hf it (by simp)
  exact wpAny_pyNext_range_end (I.ok.hd hc) st (by have:n<=i:=hg;omega) λh' eb=>⟨rfl,I.turned (λb o hb e=>eb b o hb e) f0 f1 f3 f4 f5⟩
 self:=λ_ _ _ _ _ st h=>wpAny_pyIter_rangeiter st h
section
variable {X:Cx}{tg:Expr}
def iList(K:k7)(tl:TE):TI:=λσ H R=>tl σ H λx H1=>∃a,x=.ref a/\(∃xs,Ad K H1 a xs)/\R (Pf K a) H1
def iTup(K:k7)(tl:TE):TI:=λσ H R=>tl σ H λx H1=>∃a,x=.ref a/\(∃xs,Bp K H1 a xs)/\R (Pe K a) H1
theorem zhj(hl:PE X l tl):PI X tg l (iList X.K tl):=by
 intro pins s σ H R I h;refine AS (hl pins s σ H _ I h) λv s1 ⟨x,H1,I1,r1,q1⟩=>?_
 obtain⟨a,e,⟨xs,hq⟩,q⟩:=q1;subst e;cases r1;obtain⟨its,rv,p,hz⟩:=I1.list hq;refine ydw p.isList ?_;refine⟨s1.heap.objs.size,[s1.heap.objs.size],_,_,H1,rfl,I1.kept λb o e=>ya2 _ e,zd1 a _,⟨_,yai _ rfl,rfl,rfl⟩,λb hb=>?_,q⟩
 have e:b=s1.heap.objs.size:=by grind
 subst e;exact I1.fpOk (yac _) (I1.hok.fresh (yac _))
theorem zkw(hl:PE X l tl):PI X tg l (iTup X.K tl):=by
 intro pins s σ H R I h;refine AS (hl pins s σ H _ I h) λv s1 ⟨x,H1,I1,r1,q1⟩=>?_
 obtain⟨a,e,⟨xs,hq⟩,q⟩:=q1;subst e;cases r1;obtain⟨its,rv,p,hz⟩:=I1.tuple hq;refine wpAny_pyIter_tuple (p) ?_;refine⟨s1.heap.objs.size,[s1.heap.objs.size],_,_,H1,rfl,I1.kept λb o e=>ya2 _ e,zc9 a _,⟨_,yai _ rfl,rfl,rfl⟩,λb hb=>?_,q⟩
 have e:b=s1.heap.objs.size:=by grind
 subst e;exact I1.fpOk (yac _) (I1.hok.fresh (yac _))
theorem zev  {σ:St}{H:Hp}    {lo hi:Int}   (I:Inv X pins σ H s)(h1:-(2 ^ 62)<=lo)(h2:lo<2 ^ 62)(h3:-(2 ^ 62)<=hi)(h4:hi<2 ^ 62)
  (q:R (Lb lo (hi - lo).toNat) H):wpAny (model X.prog X.w) X.A (pyIter (.ref s.heap.objs.size)) (X0 X pins σ tg R) E { s with heap:=s.heap.push { cls:=.type "range",data:=.fields #[.int lo t,.int hi u,.int 1 v] },toks:=tk }:=by
 refine wpAny_pyIter_range (IsRange.new ..) (small_one h1 h2 h3 h4) ?_;have I1:Inv X pins σ H { s with heap:=s.heap.push { cls:=.type "range",data:=.fields #[.int lo t,.int hi u,.int 1 v] },toks:=tk }:=I.kept λb o e=>ya2 _ e
 refine⟨(s.heap.push { cls:=.type "range",data:=.fields #[.int lo t,.int hi u,.int 1 v] }).objs.size,[(s.heap.push { cls:=.type "range",data:=.fields #[.int lo t,.int hi u,.int 1 v] }).objs.size],_,_,H,rfl,
  I1.kept λb o e=>ya2 _ e,zca _ lo (hi - lo).toNat,?_,λb hb=>?_,q⟩
 .have e1:lo+(0:Nat) * 1=lo:=by simp
  have e2:(hi - lo).toNat - (0:Nat)=Builtin.Range.rangeSize lo hi 1:=by rw[rangeSize_one];grind
  rw[e1,e2];exact yai _ rfl
 .have e:b=(s.heap.push { cls:=.type "range",data:=.fields #[.int lo t,.int hi u,.int 1 v] }).objs.size:=by grind
  subst e;exact I1.fpOk (yac _) (I1.hok.fresh (yac _))
def iRng1(ta:TA):TI:=λσ H R=>ta σ H λvs H1=>∃j:Int,vs=[.int j]/\-(2 ^ 62)<=j/\j<2 ^ 62/\R (Lb 0 j.toNat) H1
theorem zdc(hg:Gl X "range")(hm:X.mg "range"=none)(ha:PA X [a] ta)(hs:starEach [a] X.env=[(false,eval a X.env)]:=by rfl):PI X tg (.Call (.Name "range" p) [a] [] pos) (iRng1 ta):=by
 intro pins s σ H R I h;refine Call_ (Fq I hg hm boot_range (ybg (AS (ha pos pins s σ H _ I h) λus s1 ⟨vs,H1,I1,r1,q1⟩=>?_) hs rfl))
 obtain⟨j,e,q1,q2,q⟩:=q1;subst e;cases r1 with
 |cons r rr =>
  cases rr;obtain⟨t,rfl⟩:=r;exact call_range_1 (zev I1 (by omega) (by omega) q1 q2 (by simpa using q))
def tFor(wi:TI)(g:TG)(tb:TS):TS:=λD σ H=>wi σ H λJ H1=>∃W:Nat->Nat->St->Hp->Prop,(∃m,W 0 m σ H1)/\∀i m σ H,W i m σ H ->
 (J.stop i H/\D.nx σ H)\/(J.go i H/\∃N:St->Hp->Prop,(∀σ' H',N σ' H'->∃m',m'<m/\W (i+1) m' σ' H')/\∀x H',J.yld i H x H'->g x σ H' λσ2 H2=>tb { D with nx:=N,ct:=N,bk:=D.nx } σ2 H2)
def GX(fp:List Addr)(h:Heap):List (Addr×Obj):=fp.filterMap λb=>(h.get? b).map λo=>(b,o)
theorem G2(hb:b∈fp)(e:h.get? b=some o):(b,o)∈GX fp h:=ybt.mpr ⟨b,hb,by rw[e];rfl⟩
theorem TH(hp:p∈GX fp h):p.1∈fp/\h.get? p.1=some p.2:=by
 obtain⟨b,hb,e⟩:=ybt.mp hp;cases q:h.get? b with
 |none=>grind
 |some o =>
  grind
theorem Inv.pinned{σ:St}(I:Inv X pins σ H s)(hf:∀b∈fp,CQ X pins H b)(ho:∀b∈fp,∃o,s.heap.get? b=some o/\∀v,o.data≠.cell v):Inv X (pins++GX fp s.heap) σ H s :=
 I.pins_of λp hp=>(ybb.mp hp).elim (λz=>I.pin p (yag _ z)) λz=>by
  obtain⟨hb,e⟩:=TH z;obtain⟨f0,f1,f2,_⟩:=hf p.1 hb
  grind
theorem Inv.unpinned{σ:St}(I:Inv X (pins++pl) σ H s):Inv X pins σ H s:=I.pins_of λp hp=>I.pin p (yag _ (ybm _ hp))
theorem zks(hp:PassesOwn (model X.prog X.w) X.A X.env X.xe)(hc:X.calm=true)(hi:PI X tg iter wi)(hg:PG X tg g)(hb:Av X body tb)
  (hs:∀x,foldedSetIterable iter X.env x=pure x:=by intro _;rfl):PS X (.For tg iter body [] pos) (tFor wi g tb):=by
 intro pins s σ H D I h;refine wpAny_For (AS (hi pins s σ H _ I h) λv s1 h1=>AS h1 λitv s2 h2=>?_) hs
 obtain⟨it,fp,tn,J,H2,e,I2,T,st2,f2,W,⟨m0,w0⟩,turn⟩:=h2;subst e;have stat:∀{H' },(∀b∈fp,H' b=none)->∀b∈fp,CQ X pins H' b:=λhn b hb=>⟨hn b hb,(f2 b hb).2⟩
 refine codeAny_forLoop_any (λn s'=>∃i σ' H',Inv X pins σ' H' s'/\tn i s'.heap/\(∀b∈fp,H' b=none)/\W i n σ' H') ?_ m0 ⟨0,σ,H2,I2,st2,λb hb=>(f2 b hb).1,w0⟩
 rintro n s3 ⟨i,σ3,H3,I3,st3,fr3,w3⟩
 rcases turn i n σ3 H3 w3 with ⟨stop,qn⟩|⟨go,N,hN,step⟩
 .refine ydv hp (AS (T.done X rfl rfl rfl hc i pins s3 σ3 H3 X.xe I3 (stat fr3) st3 stop) λr s4 ⟨hr,I4⟩=>?_)
  subst hr;exact ydo ⟨σ3,H3,I4,qn⟩
 .refine ydv hp (AS (T.item X rfl rfl rfl hc i pins s3 σ3 H3 X.xe I3 (stat fr3) st3 go) λr s4 ⟨u,hr,h4⟩=>?_)
  subst hr;refine ydv hp (AS h4 λ_ s5 ⟨x,H5,I5,r5,y5,st5,fr5⟩=>?_)
  have I5':=I5.pinned (stat fr5) (T.obj _ _ st5);refine ydv hp (AS (hg _ s5 σ3 H5 x u _ I5' r5 (step x H5 y5)) λ_ s6 ⟨σ6,H6,I6,q6⟩=>?_)
  refine ydv hp (AS (hb _ s6 σ6 H6 _ I6 q6) λf s7 q7=>?_)
  have again:∀{σ7 } {H7 },Inv X (pins++GX fp s5.heap) σ7 H7 s7->N σ7 H7->∃m,m<n/\∃i σ' H',Inv X pins σ' H' s7/\tn i s7.heap/\(∀b∈fp,H' b=none)/\W i m σ' H':=λ{σ7 H7} I7 n7=>by
   obtain⟨m',hm,w7⟩:=hN σ7 H7 n7;refine⟨m',hm,i+1,σ7,H7,I7.unpinned,T.keep _ _ _ st5 λb hb o e=>(I7.pin (b,o) (yag _ (yag _ (G2 hb e)))).1,λb hb=>?_,w7⟩
   obtain⟨o,e,d⟩:=T.obj _ _ st5 b hb;exact(I7.pin (b,o) (yag _ (yag _ (G2 hb e)))).2.1
  cases f with
  |next=>obtain⟨σ7,H7,I7,n7⟩:=q7;exact again I7 n7
  |cont=>obtain⟨σ7,H7,I7,n7⟩:=q7;exact again I7 n7
  |brk=>obtain⟨σ7,H7,I7,q7⟩:=q7;exact⟨σ7,H7,I7.unpinned,q7⟩
  |ret v=>obtain⟨x7,σ7,H7,I7,r7,q7⟩:=q7;exact⟨x7,σ7,H7,I7.unpinned,r7,q7⟩
end
abbrev R2:=V->V->Hp->VK->Prop
def Af(X:Cx)(f:Value->Value->Sem Value)(r:R2):Prop :=
 ∀(pins:List (Addr×Obj)) (s:Shared) (σ:St) (H:Hp) (x y:V) (v u:Value) (Q:VK),Inv X pins σ H s->A5 x v->A5 y u->r x y H Q ->
  wpAny (model X.prog X.w) X.A (f v u) (EP X pins σ Q) X.xe s
def JM(X:Cx)(f:Value->Sem Value)(r:V->Hp->VK->Prop):Prop :=
 ∀(pins:List (Addr×Obj)) (s:Shared) (σ:St) (H:Hp) (x:V) (v:Value) (Q:VK),Inv X pins σ H s->A5 x v->r x H Q ->
  wpAny (model X.prog X.w) X.A (f v) (EP X pins σ Q) X.xe s
def CJ(X:Cx)(f:Value)(r:List V->Hp->VK->Prop):Prop :=
 ∀(pins:List (Addr×Obj)) (s:Shared) (σ:St) (H:Hp) (xs:List V) (us:List Value) (Q:VK),Inv X pins σ H s->A9 xs us->r xs H Q ->
  wpAny (model X.prog X.w) X.A (call f us) (EP X pins σ Q) X.xe s
def Gy(r:R2)(ta tb:TE):TE:=λσ H Q=>ta σ H λx H1=>tb σ H1 λy H2=>r x y H2 Q
def QP(r:V->Hp->VK->Prop)(ta:TE):TE:=λσ H Q=>ta σ H λx H1=>r x H1 Q
def rI(C:Int->Int->Prop)(g:Int->Int->V):R2:=λx y H Q=>∃i j,x=.int i/\y=.int j/\C i j/\Q (g i j) H
def Eb(g:Int->Int->V):R2:=λx y H Q=>∃i j,x=.int i/\y=.int j/\Q (g i j) H
def rU(g:Int->V):V->Hp->VK->Prop:=λx H Q=>∃i,x=.int i/\Q (g i) H
section
variable {X:Cx}{a b c:Expr}{ta tb tc:TE}{pos:Pos}
theorem PM(ha:PE X a ta)(hb:PE X b tb){σ:St}{R:V->V->Hp->Prop}(I:Inv X pins σ H s)
  (h:ta σ H λx H1=>tb σ H1 λy H2=>R x y H2)  {f:Value->Value->Sem Value}
  (hf:∀v u s2 x y H2,Inv X pins σ H2 s2->A5 x v->A5 y u->R x y H2->wpAny (model X.prog X.w) X.A (f v u) Q X.xe s2) :
  wpAny (model X.prog X.w) X.A (eval a X.env) (λv s₁=>wpAny (model X.prog X.w) X.A (eval b X.env) (λu s₂=>wpAny (model X.prog X.w) X.A (f v u) Q X.xe s₂) X.xe s₁) X.xe s:=by
 refine AS (ha pins s σ H _ I h) λv s1 ⟨x,H1,I1,r1,q1⟩=>?_
 refine AS (hb pins s1 σ H1 _ I1 q1) λu s2 ⟨y,H2,I2,r2,q2⟩=>?_
 grind
theorem pe_op(ho:Af X (binaryOp op) r)(ha:PE X a ta)(hb:PE X b tb):PE X (.BinOp a op b pos) (Gy r ta tb):=by
 intro pins s σ H Q I h;exact wpAny_BinOp (PM ha hb I h λv u s2 x y H2 I2 rx ry q=>ho pins s2 σ H2 x y v u Q I2 rx ry q)
theorem pe_un(ho:JM X (unaryOp op) r)(ha:PE X a ta):PE X (.UnaryOp op a pos) (QP r ta):=by
 intro pins s σ H Q I h;exact UnaryOp_ (AS (ha pins s σ H _ I h) λv s1 ⟨x,H1,I1,r1,q1⟩=>ho pins s1 σ H1 x v Q I1 r1 q1)
theorem IY{g:Int->Int->Int}
  (rule:∀(i j ) (t u ) (s ) (Q ) (E ),C i j->Q (.int (g i j) s.toks) { s with toks:=s.toks+1 }->wpAny (model X.prog X.w) X.A (f (.int i t) (.int j u)) Q E s) :
  Af X f (rI C λi j=>.int (g i j)):=by
 intro pins s σ H x y v u Q I rx ry h;obtain⟨i,j,rfl,rfl,hc,q⟩:=h;obtain⟨t,rfl⟩:=rx;obtain⟨t',rfl⟩:=ry;exact rule i j t t' s _ _ hc ⟨.int (g i j),H,I.tok _,⟨_,rfl⟩,q⟩
theorem Sz{g:Int->Int->Int}
  (rule:∀(i j ) (t u ) (s ) (Q ) (E ),Q (.int (g i j) s.toks) { s with toks:=s.toks+1 }->wpAny (model X.prog X.w) X.A (f (.int i t) (.int j u)) Q E s) :
  Af X f (Eb λi j=>.int (g i j)):=by
 intro pins s σ H x y v u Q I rx ry h;obtain⟨i,j,rfl,rfl,q⟩:=h;obtain⟨t,rfl⟩:=rx;obtain⟨t',rfl⟩:=ry;exact rule i j t t' s _ _ ⟨.int (g i j),H,I.tok _,⟨_,rfl⟩,q⟩
theorem KW{g:Int->Int->Bool}
  (rule:∀(i j ) (t u ) (s ) (Q ) (E ),Q (.bool (g i j)) s->wpAny (model X.prog X.w) X.A (f (.int i t) (.int j u)) Q E s) :
  Af X f (Eb λi j=>.bl (g i j)):=by
 intro pins s σ H x y v u Q I rx ry h;obtain⟨i,j,rfl,rfl,q⟩:=h;obtain⟨t,rfl⟩:=rx;obtain⟨t',rfl⟩:=ry;exact rule i j t t' s _ _ ⟨.bl (g i j),H,I,rfl,q⟩
def CPow(i j:Int):Prop:=0<=j/\j<=1000000/\i.natAbs<2 ^ 64
def Pj(i j:Int):Prop:=(-(2 ^ 64)<i/\i<2 ^ 64)\/(-(2 ^ 64)<j/\j<2 ^ 64)
theorem Pj.ok(h:Pj i j):IntMulOk i j:=by
 rcases h with ⟨h1,h2⟩|⟨h1,h2⟩
 .exact .of_left (intBits_le_64 h1 h2)
 .exact .of_right (intBits_le_64 h1 h2)
theorem zld:Af X (binaryOp .Add) (Eb λi j=>.int (i+j)):=Sz λ_ _ _ _ _ _ _ q=>add_int q
theorem zl7:Af X (binaryOp .Sub) (Eb λi j=>.int (i - j)):=Sz λ_ _ _ _ _ _ _ q=>sub_int q
theorem Sx:Af X (binaryOp .Mult) (rI Pj λi j=>.int (i * j)):=IY λ_ _ _ _ _ _ _ hc q=>mul_int q hc.ok
theorem zht:Af X (binaryOp .Mod) (rI (λ_ j=>j≠0) λi j=>.int (i.fmod j)):=IY λ_ _ _ _ _ _ _ hc q=>mod_int' hc q
theorem zl9:Af X (binaryOp .Pow) (rI CPow λi j=>.int (i ^ j.toNat)):=IY λ_ _ _ _ _ _ _ hc q=>pow_int_small hc.1 hc.2.1 hc.2.2 q
theorem unI{g:Int->Int}
  (rule:∀(i ) (t ) (s ) (Q ) (E ),Q (.int (g i) s.toks) { s with toks:=s.toks+1 }->wpAny (model X.prog X.w) X.A (f (.int i t)) Q E s) :
  JM X f (rU λi=>.int (g i)):=by
 intro pins s σ H x v Q I rx h;obtain⟨i,rfl,q⟩:=h;obtain⟨t,rfl⟩:=rx;exact rule i t s _ _ ⟨.int (g i),H,I.tok _,⟨_,rfl⟩,q⟩
theorem zjj:JM X (unaryOp .USub) (rU λi=>.int (-i)):=unI λ_ _ _ _ _ q=>neg_int q
end
section
variable {X:Cx}{a b c:Expr}{ta tb tc:TE}{pos:Pos}
theorem JC{σ:St}(I:Inv X pins σ H s)(q:Q (.bl k) H)(e:k=k'):EP X pins σ Q (.bool k') s:=by
 subst e;exact⟨.bl k,H,I,rfl,q⟩
theorem op_lt:Af X (compareOp .Lt) (Eb λi j=>.bl (decide (i<j))):=KW λ_ _ _ _ _ _ _ q=>lt_int q
theorem Sy:Af X (compareOp .LtE) (Eb λi j=>.bl (decide (i<=j))):=KW λ_ _ _ _ _ _ _ q=>le_int q
theorem op_gt:Af X (compareOp .Gt) (Eb λi j=>.bl (decide (j<i))):=KW λ_ _ _ _ _ _ _ q=>gt_int q
theorem op_ge:Af X (compareOp .GtE) (Eb λi j=>.bl (decide (j<=i))):=KW λ_ _ _ _ _ _ _ q=>ge_int q
theorem zdd:Af X (compareOp .In) (λx y H Q=>∃i j,x=.str i/\y=.str j/\Q (.bl (!(Builtin.Str.occurrences j i 0 j.length 1).isEmpty)) H):=by
 intro pins s σ H x y v u Q I rx ry h;obtain⟨i,j,rfl,rfl,q⟩:=h;obtain⟨t,rfl⟩:=rx;obtain⟨t',rfl⟩:=ry;exact in_str (JC I q rfl)
theorem zla:Af X (compareOp .Is) (λx y H Q=>y=.non/\Q (.bl (decide (x=.non))) H):=by
 intro pins s σ H x y v u Q I rx ry h;obtain⟨rfl,q⟩:=h;cases ry;refine is_none_gen (JC I q ?_)
 cases x<;>first
  |rfl
  |(obtain⟨t,rfl⟩:=rx;rfl)
theorem zhq:Af X (compareOp .IsNot) (λx y H Q=>y=.non/\Q (.bl (!decide (x=.non))) H):=by
 intro pins s σ H x y v u Q I rx ry h;obtain⟨rfl,q⟩:=h;cases ry;refine isnot_none_gen (JC I q ?_)
 cases x<;>first
  |rfl
  |(obtain⟨t,rfl⟩:=rx;rfl)
theorem zho   (ho:Af X (compareOp op) r)(ha:PE X a ta)(hb:PE X b tb)(hm:behindInMarks op b=false):PE X (.Compare a [op] [b] pos) (Gy r ta tb):=by
 intro pins s σ H Q I h;exact wpAny_Compare1 (PM ha hb I h λv u s2 x y H2 I2 rx ry q=>ho pins s2 σ H2 x y v u Q I2 rx ry q) hm
def QS(t:TE):TT:=λσ H Q=>t σ H λx H'=>∃k,x=.bl k/\Q k H'
theorem zhd(ho:Af X (compareOp op) r)(ha:PE X a ta)(hb:PE X b tb)(hm:behindInMarks op b=false):PT X (.Compare a [op] [b] pos) (QS (Gy r ta tb)):=by
 intro pins s σ H Q I h
 refine wpAny_isTrue_Compare1 (AS (ha pins s σ H _ I h) λv s1 ⟨x,H1,I1,r1,q1⟩=>AS (hb pins s1 σ H1 _ I1 q1) λu s2 ⟨y,H2,I2,r2,q2⟩ =>
  AS (ho pins s2 σ H2 x y v u _ I2 r1 r2 q2) λc s3 ⟨z,H3,I3,r3,k,e,q3⟩=>?_) hm
 subst e;cases r3;exact ydn ⟨H3,I3,q3⟩
def ME(r r':R2)(ta tb tc:TE):TE:=λσ H Q=>ta σ H λx H1=>tb σ H1 λy H2=>r x y H2 λz H3=>∃k,z=.bl k /\
 (if k=true then tc σ H3 λw' H4=>r' y w' H4 Q else Q (.bl false) H3)
theorem zf6(ho:Af X (compareOp op) r)(ho':Af X (compareOp op') r')(ha:PE X a ta)(hb:PE X b tb)(hc:PE X c tc)
  (hm:lastMarks [op,op'] [b,c]=false:=by rfl):PE X (.Compare a [op,op'] [b,c] pos) (ME r r' ta tb tc):=by
 intro pins s σ H Q I h
 refine Compare_chain (AS (ha pins s σ H _ I h) λv s1 ⟨x,H1,I1,r1,q1⟩=>chain_link (AS (hb pins s1 σ H1 _ I1 q1) λu s2 ⟨y,H2,I2,r2,q2⟩ =>
  AS (ho pins s2 σ H2 x y v u _ I2 r1 r2 q2) λd s3 ⟨z,H3,I3,r3,k,e,q3⟩=>?_)) hm
 subst e;cases r3;refine ydn ?_;cases k with
 |false=>exact ite_ff ⟨.bl false,H3,I3,rfl,q3⟩
 |true=>exact ite_tt (chain_last (AS (hc pins s3 σ H3 _ I3 q3) λw' s4 ⟨z',H4,I4,r4,q4⟩=>ho' pins s4 σ H4 y z' u w' Q I4 r2 r4 q4))
theorem zez(ho:Af X (compareOp op) r)(ho':Af X (compareOp op') r')(ha:PE X a ta)(hb:PE X b tb)(hc:PE X c tc)
  (hm:lastMarks [op,op'] [b,c]=false:=by rfl):PT X (.Compare a [op,op'] [b,c] pos) (QS (ME r r' ta tb tc)):=by
 intro pins s σ H Q I h
 refine isTrue_chain (AS (ha pins s σ H _ I h) λv s1 ⟨x,H1,I1,r1,q1⟩=>test_link (AS (hb pins s1 σ H1 _ I1 q1) λu s2 ⟨y,H2,I2,r2,q2⟩ =>
  AS (ho pins s2 σ H2 x y v u _ I2 r1 r2 q2) λd s3 ⟨z,H3,I3,r3,k,e,q3⟩=>?_)) hm
 subst e;cases r3;refine ydn ?_;cases k with
 |false =>
  obtain⟨k',e',q'⟩:=q3;cases e';exact ite_ff ⟨H3,I3,q'⟩
 |true =>
  refine ite_tt (test_last (AS (hc pins s3 σ H3 _ I3 q3) λw' s4 ⟨z',H4,I4,r4,q4⟩=>AS (ho' pins s4 σ H4 y z' u w' _ I4 r2 r4 q4) λd' s5 ⟨z2,H5,I5,r5,k2,e2,q5⟩=>?_))
  subst e2;cases r5;exact ydn ⟨H5,I5,q5⟩
theorem Ih:(sizeLine:Nat)<2 ^ 63:=by rw[ydx];decide
theorem zcf:Af X (binaryOp .Add) (λx y H Q=>∃i j,x=.str i/\y=.str j/\i.length+j.length<=sizeLine/\Q (.str (i++j)) H):=by
 intro pins s σ H x y v u Q I rx ry h;obtain⟨i,j,rfl,rfl,hz,q⟩:=h;obtain⟨t,rfl⟩:=rx;obtain⟨t',rfl⟩:=ry;exact add_str (λt' tk=>⟨.str (i++j),H,I.tok _,⟨_,rfl⟩,q⟩) hz
theorem E2(r:A9 [x] us):∃u,us=[u]/\A5 x u:=by
 cases r with
 |cons r1 r2=>cases r2;grind
theorem Gq(r:A9 [x,y] us):∃u w',us=[u,w']/\A5 x u/\A5 y w':=by
 cases r with
 |cons r1 r2 =>
  cases r2 with
  |cons r3 r4=>cases r4;grind
theorem zgl:CJ X (.builtin "abs") (λxs H Q=>∃i,xs=[.int i]/\Q (.int (if i<0 then -i else i)) H):=by
 intro pins s σ H xs us Q I r h;obtain⟨i,rfl,q⟩:=h;obtain⟨u,rfl,t,rfl⟩:=E2 r;exact call_abs_int λu tk=>⟨.int (if i<0 then -i else i),H,I.tok _,⟨_,rfl⟩,q⟩
theorem Wz:CJ X (.type "int") (λxs H Q=>(∃i,xs=[.int i]/\Q (.int i) H)\/∃k,xs=[.bl k]/\Q (.int (if k then 1 else 0)) H):=by
 intro pins s σ H xs us Q I r h
 rcases h with ⟨i,rfl,q⟩|⟨k,rfl,q⟩
 .obtain⟨u,rfl,t,rfl⟩:=E2 r;exact call_int_int ⟨.int i,H,I,⟨_,rfl⟩,q⟩
 .obtain⟨u,rfl,r1⟩:=E2 r;cases r1;exact call_int_bool ⟨.int (if k then 1 else 0),H,I.tok _,⟨_,rfl⟩,q⟩
def LenV(K:k7)(x:V)(H:Hp)(n:Nat):Prop :=
 match x with
 |.str y=>y.length<=sizeLine/\n=y.length
 |.byt y=>y.size<=sizeLine/\n=y.size
 |.ref p=>(∃xs,Ad K H p xs/\n=xs.length)\/∃xs,Bp K H p xs/\n=xs.length
 |_=>False
theorem Wy:CJ X (.builtin "len") (λxs H Q=>∃x n,xs=[x]/\LenV X.K x H n/\Q (.int n) H):=by
 intro pins s σ H xs us Q I r h;obtain⟨x,n,rfl,e,q⟩:=h;obtain⟨u,rfl,rx⟩:=E2 r;have hl:=Ih;have hs :=ydx;cases x with
 |str y =>
  obtain⟨t,rfl⟩:=rx;obtain⟨hy,e'⟩:y.length<=sizeLine/\n=y.length:=e;subst e';exact len_str (by omega) ⟨.int _,H,I.tok _,⟨_,rfl⟩,q⟩
 |byt y =>
  obtain⟨t,rfl⟩:=rx;obtain⟨hy,e'⟩:y.size<=sizeLine/\n=y.size:=e;subst e';exact PySem.W.len_bytes (by omega) ⟨.int _,H,I.tok _,⟨_,rfl⟩,q⟩
 |ref p =>
  cases rx;have e' :=e
  rcases e' with ⟨xs,hx,e'⟩|⟨xs,hx,e'⟩
  .subst e';obtain⟨its,r',pl,hz⟩:=I.list hx;have hlen:=r'.length;exact Calls.call_len_list pl.isList (by simp only[yb8];omega) ⟨.int xs.length,H,I.tok _,⟨_,by simp only[yb8];rw[hlen]⟩,q⟩
  .subst e';obtain⟨its,r',pl,hz⟩:=I.tuple hx;have hlen:=r'.length;exact len_tuple pl (by grind) ⟨.int xs.length,H,I.tok _,⟨_,by simp only[yb8];rw[hlen]⟩,q⟩
 |_=>exact(e).elim
end
structure ObjM(h:Heap)(x dx C:Addr)(mA:Str->Option Value):Prop where
 obj:h.get? x=some (PySem.W.instObj C dx)
 ns:h.Ns1 dx mA
 ne:dx≠x
theorem Uk{h:Heap}(n:h.Ns1 dx mA):∃od,h.get? dx=some od/\∀name,PySem.W.lookIn name od=some (mA name):=by
 obtain⟨o,es,ep,ho,hd,hk,_,hm⟩:=n;refine⟨o,ho,λname=>?_⟩
 have e:=hm name;unfold nsFind findBy at e;rw[<- Array.find?_toList]at e;unfold PySem.W.lookIn;rw[hd];dsimp only;split
 .grind
 .have a:es.toList.any (·.refKey)=false:=by
   rw[List.any_eq_false];intro y hy;obtain⟨z,t,hkey⟩:=hk y (Array.mem_toList_iff.mp hy);simp[DictEntry.refKey,hkey]
  grind
theorem ObjM.look(I:ObjM h x dx C mA):∃od,PySem.W.InstAt h x (PySem.W.instObj C dx) C (some od)/\∀name,PySem.W.lookIn name od=some (mA name) :=
 let ⟨od,ho,hl⟩:=Uk I.ns
 ⟨od,⟨I.obj,rfl,rfl,ho⟩,hl⟩
section
variable {prog:Program}{w:World}{A:Around}{E:Value->Shared->Prop}{s:Shared}{K:k7}{x dx C f:Addr}{mA:Str->Option Value}{name:Str}{v:Value}
theorem zix(X:K.In s.heap)(I:ObjM s.heap x dx C mA)(hg:PySem.W.plainGet K C name=true)(hh:PySem.W.hasDictIn K C=true)
  (ha:PySem.W.findIn K (.ref C) name=some none) (hv:mA name=some v) (hv':PySem.W.handedIn v=true) (h:Q v { s with toks:=s.toks+1 }) :
  wpAny (model prog w) A (getAttr (.ref x) name expr) Q E s:=by
 obtain⟨od,J,hl⟩:=I.look;exact PySem.W.get_value X J (yd6 hg).1 (PySem.W.findObj_own hh ha rfl (by rw[hl,hv])) hv' h
theorem zg1(X:K.In s.heap)(I:ObjM s.heap x dx C mA)(hg:PySem.W.plainGet K C name=true)
  (hf:PySem.W.findIn K (.ref C) name=some (some (.ref f))) (ht:PySem.W.isFn K (.ref f)=true) (hv:mA name=none) (h:Q (.ref f,[.ref x]) s) :
  wpAny (model prog w) A (getMethod (.ref x) name pl) Q E s:=by
 obtain⟨od,J,hl⟩:=I.look;exact PySem.W.method_fn X J (yd6 hg).1 (yd6 hg).2 hf (beq_iff_eq.mp ht) (by show(PySem.W.lookIn name od).map (·.isSome)=some false;grind) h
theorem zh4(X:K.In s.heap)(I:ObjM s.heap x dx C mA)
  (hs:PySem.W.findIn K (.ref C) "__setattr__"=some (some (.builtin "object.__setattr__"))) (hp:PySem.W.plainOver K C=true) (ht:PySem.W.takerIn K C name=some none) (hh:PySem.W.hasDictIn K C=true)
  (hw:PySem.Within mA ns) (hsz:ns.length<=sizeLine)
  (h:∀h',ObjM h' x dx C (λy=>if y=name then some v else mA y)->Heap.SameBut dx s.heap h'->Q () { s with heap:=h',toks:=s.toks+2 }) :
  wpAny (model prog w) A (setAttr (.ref x) name v) Q E s:=by
 obtain⟨od,J,hl⟩:=I.look;refine PySem.W.set_plain X J hs (PySem.W.osa_open X J hp ht λb=>?_)
 obtain⟨cd,hc,hd'⟩:=PySem.W.any_some hh;have hx :=I.obj;refine ydq (ydt (ydq (ydq (wpAny_loadPart hx (ydq (PySem.W.Looks.here (PySem.W.looks_clsIn X hc) ?_))))));rw[hd'];refine ydt (ydq (ydt (ydq ?_)));refine wpAny_nsSet1 I.ns λh' hn2 hs2=>?_
 obtain⟨oD,esD,epD,hoD,hdD,hcD⟩:=hn2.count (PySem.Within.cons name v hw);refine ydq (wpAny_lookBehind hoD (by rw[hdD];exact pastItsLine_dict (yah hcD (by grind))) ?_)
 exact ydt (h _ ⟨(hs2.2 _ (yar I.ne)).trans I.obj,hn2,I.ne⟩ hs2)
theorem zfi    (X:K.In s.heap)(hm:PySem.W.makesIn K C=true)
  (hi:PySem.W.findIn K (.ref C) "__init__"=some (some (.ref f))) (hf:PySem.W.typeIn K (.ref f)=some (.type "function"))
  (h : codeAny (model prog w) (A.under (.builtin "type.__call__" ⟨.ref C :: vs, kw⟩)) (.call (.ref f) ⟨.ref (s.heap.objs.size + 1) :: vs, kw⟩) (PySem.W.InitBack (s.heap.objs.size + 1) R)
   { s with heap:=(s.heap.push PySem.W.emptyDict).push (PySem.W.instObj C s.heap.objs.size) }) :
  codeAny (model prog w) A (.call (.ref C) ⟨vs,kw⟩) R s:=by
 exact PySem.W.make_core (PySem.W.makes_of X hm) (PySem.W.looks_findIn X hi) (λself=>PySem.W.bind_fn X self hf) (.inl rfl) h
end
def Ca(f:Str)(v:V):List (Str×V)->List (Str×V)
 |[]=>[(f,v)]
 |(g,x)::r=>if g=f then (g,v)::r else (g,x)::Ca f v r
theorem Ui(f g)(v):∀fs ,(Ca f v fs).lookup g=if g=f then some v else fs.lookup g
 |[]=>by
  show List.lookup g [(f,v)]=_
  grind
 |(k,x)::r=>by
  have ih:=Ui f g v r;rw[show Ca f v ((k,x)::r)=(if k=f then (k,v)::r else (k,x)::Ca f v r) from rfl]
  grind
theorem Ng(f)(v):∀fs ,f∈(Ca f v fs).map (·.1)/\∀g,g∈fs.map (·.1)->g∈(Ca f v fs).map (·.1)
 |[]=>⟨by simp[Ca],λg h=>by simp at h⟩
 |(k,x)::r=>by
  obtain⟨i1,i2⟩:=Ng f v r;rw[show Ca f v ((k,x)::r)=(if k=f then (k,v)::r else (k,x)::Ca f v r) from rfl]
  grind
theorem Uq(f)(v):∀fs ,(Ca f v fs).length<=fs.length+1
 |[]=>by simp[Ca]
 |(k,x)::r=>by
  have ih:=Uq f v r;rw[show Ca f v ((k,x)::r)=(if k=f then (k,v)::r else (k,x)::Ca f v r) from rfl]
  grind
theorem DN.some_of(r:DN (some v) o):∃u,o=some u/\A5 v u:=by
 cases o with
 |none=>exact(r).elim
 |some u=>exact⟨u,rfl,r⟩
theorem DN.none_of(r:DN none o):o=none:=by
 cases o with
 |none=>rfl
 |some u=>exact(r).elim
theorem zdq(r:A5 v u):PySem.W.handedIn u=true:=by
 cases v with
 |non=>cases (r);rfl
 |bl b=>cases (r);rfl
 |int i=>obtain⟨t,e⟩:=(r);cases e;rfl
 |str x=>obtain⟨t,e⟩:=(r);cases e;rfl
 |byt b=>obtain⟨t,e⟩:=(r);cases e;rfl
 |flt b=>obtain⟨t,e⟩:=(r);cases e;rfl
 |ref a=>cases (r);rfl
 |ty n=>cases (r);rfl
section
variable {P:Program}{w:World}{H H':Hp}{h h':Heap}{a C dx:Addr}{fs fs':List (Str×V)}
theorem Km(hok:HOk P w H h)(e:H a=some (.ins C dx fs)):∃mA,ObjM h a dx C mA/\(∀f,DN (fs.lookup f) (mA f))/\PySem.Within mA (fs.map (·.1))/\fs.length<=1000/\H dx=some (.own a):=by
 obtain⟨d,z,ne,ob,mA,n,r,q⟩:=(hok a _ e);exact⟨mA,⟨ob,n,ne⟩,r,q,z,d⟩
end
structure Cls(K:k7)(C:Addr):Prop where
 pg:PySem.W.plainGet K C Str.empty=true
 hd:PySem.W.hasDictIn K C=true
 po:PySem.W.plainOver K C=true
 sa:PySem.W.findIn K (.ref C) "__setattr__"=some (some (.builtin "object.__setattr__"))
theorem Cls.get{K}(c:Cls K C)(f):PySem.W.plainGet K C f=true:=c.pg
def Bz(K:k7)(C:Addr)(f:Str):Prop:=PySem.W.findIn K (.ref C) f=some none
theorem Bz.taker{K}(n:Bz K C f):PySem.W.takerIn K C f=some none:=by
 unfold PySem.W.takerIn;rw[n]
 rfl
structure Meth(K:k7)(C:Addr)(m:Str)(f:Addr):Prop where
 at_:PySem.W.findIn K (.ref C) m=some (some (.ref f))
 fn:PySem.W.isFn K (.ref f)=true
 kp:PySem.W.keepIn K (.ref f)=true
section
variable {X:Cx}{pins:List (Addr×Obj)}{σ:St}{H:Hp}{s:Shared}{a C dx:Addr}{fs:List (Str×V)}{f:Str}{v:V}{A:Around}{E:Value->Shared->Prop}
theorem zcr(I:Inv X pins σ H s)(e:H a=some (.ins C dx fs))(c:Cls X.K C)(n:Bz X.K C f)(l:fs.lookup f=some v)
  (h:∀u s',Inv X pins σ H s'->A5 v u->Q u s'):wpAny (model X.prog X.w) A (getAttr (.ref a) f b) Q E s:=by
 obtain⟨mA,O,r,_,_,_⟩:=Km I.hok e;obtain⟨u,hu,ru⟩:=DN.some_of (v:=v) (o:=mA f) (by grind)
 exact zix I.kIn O (c.get f) c.hd n hu (zdq ru) (h u _ (I.tok _) ru)
theorem V6(I:Inv X pins σ H s)(e:H a=some (.ins C dx fs))(c:Cls X.K C)(k:Meth X.K C m g)(l:fs.lookup m=none)
  (h:Q (.ref g,[.ref a]) s):wpAny (model X.prog X.w) A (getMethod (.ref a) m pl) Q E s:=by
 obtain⟨mA,O,r,_,_,_⟩:=Km I.hok e;have hn:mA m=none:=DN.none_of (by grind)
 exact zg1 I.kIn O (c.get m) k.at_ k.fn hn h
theorem zcc(I:Inv X pins σ H s)(e:H a=some (.ins C dx fs))(c:Cls X.K C)(n:Bz X.K C f)(hl:fs.length<1000)(ry:A5 y u)
  (h:∀s',Inv X pins σ (upd H a (.ins C dx (Ca f y fs))) s'->Q () s'):wpAny (model X.prog X.w) A (setAttr (.ref a) f u) Q E s:=by
 obtain⟨mA,O,r,wi,_,ho⟩:=Km I.hok e;have hz:(fs.map (·.1)).length<=sizeLine:=by rw[ya1,ydx];omega
 refine zh4 I.kIn O c.sa c.po n.taker c.hd wi hz λh' O' sb=>h _ ?_
 have hd:∃o,h'.get? dx=some o:=let ⟨o,_,_,e',_⟩:=O'.ns;⟨o,e'⟩;refine I.write (by rw[e];exact True.intro) (.inr ho) (λb q hb z=>(sb.2 b hb).trans z) hd ?_
 refine⟨by rw[A3 O.ne];exact ho,?_,O.ne,O'.obj,_,O'.ns,λg=>?_,λg hg=>?_⟩
 .have:=Uq f y fs;omega
 .rw[Ui]
  by_cases q:g=f
  .rw[if_pos q,if_pos q];exact ry
  .rw[if_neg q,if_neg q];exact r g
 .by_cases q:g=f
  .rw[q];exact(Ng f y fs).1
  .refine(Ng f y fs).2 g (wi g λz=>hg ?_)
   grind
theorem Inv.made(I:Inv X pins σ H s):Inv X pins σ (upd (upd H s.heap.objs.size (.own (s.heap.objs.size+1))) (s.heap.objs.size+1) (.ins C s.heap.objs.size []))
  { s with heap:=(s.heap.push PySem.W.emptyDict).push (PySem.W.instObj C s.heap.objs.size) }:=by
 have e1:(s.heap.push PySem.W.emptyDict).get? s.heap.objs.size=some PySem.W.emptyDict:=yai s.heap rfl
 have e2:((s.heap.push PySem.W.emptyDict).push (PySem.W.instObj C s.heap.objs.size)).get? (s.heap.objs.size+1)=some (PySem.W.instObj C s.heap.objs.size):=by
  have:=yai (s.heap.push PySem.W.emptyDict) (o:=PySem.W.instObj C s.heap.objs.size) rfl
  simp_all
 have e3:(s.heap.push PySem.W.emptyDict).Ns s.heap.objs.size (λ_=>none):=⟨PySem.W.emptyDict,#[],_,e1,rfl,(λe he=>absurd he (by simp)),λ_=>rfl⟩
 have I1:=I.laid (o:=.own (s.heap.objs.size+1)) (t':=s.toks) (λb u q=>ya2 _ q) (yac _) ⟨_,e1⟩
 refine I1.laid (λb u q=>ya2 _ q) (Nat.le_of_eq (ybk _ _)) ?_
 have ne:s.heap.objs.size≠s.heap.objs.size+1:=yaf (yc1 _);refine⟨by rw[A3 ne,BQ],ycj _,ne,e2,λ_=>none,(Heap.Ns1.of_empty e3).at λo q=>ya2 _ q,λ_=>True.intro,λy hy=>absurd rfl hy⟩
theorem XU         (hb:attributeBase e f env (eval e env)=eval e env)
  (h:wpAny (model prog w) A (eval e env) (λo s₁=>wpAny (model prog w) A (getAttr o f true) Q E s₁) E s):wpAny (model prog w) A (eval (.Attribute e f pos) env) Q E s :=
 Attribute_any_ h (by rw[arm_eval_Attribute,hb])
end
def tFld(K:k7)(ta:TE)(f:Str):TE:=λσ H Q=>ta σ H λx H1=>∃a C dx fs v,x=.ref a/\H1 a=some (.ins C dx fs)/\Cls K C/\Bz K C f/\fs.lookup f=some v/\Q v H1
def sFld(K:k7)(ta tv:TE)(f:Str):TS:=λD σ H=>tv σ H λy H1=>ta σ H1 λx H2=>∃a C dx fs,x=.ref a/\H2 a=some (.ins C dx fs)/\Cls K C/\Bz K C f/\fs.length<1000 /\
 D.nx σ (upd H2 a (.ins C dx (Ca f y fs)))
section
variable {X:Cx}{o e value:Expr}{f:Str}{pos pos' tpos:Pos}{ta tv:TE}
theorem Sq(he:PE X e ta)(hb:attributeBase e f X.env (eval e X.env)=eval e X.env):PE X (.Attribute e f pos) (tFld X.K ta f):=by
 intro pins s σ H Q I h;refine XU hb (AS (he pins s σ H _ I h) λu s1 ⟨x,H1,I1,rx,a,C,dx,fs,v,ex,ea,c,n,l,q⟩=>?_)
 subst ex;obtain rfl:u=Value.ref a:=rx;exact zcr I1 ea c n l λu' s2 I2 ru=>⟨v,H1,I2,ru,q⟩
theorem zkt(ha:PE X o ta)(hv:PE X value tv)(hs:swapsWith value (some (.Attribute o f pos')) pos.line X.env=pure false):PS X (.Assign [.Attribute o f pos'] value pos) (sFld X.K ta tv f):=by
 intro pins s σ H D I h;refine ydy (AS (hv pins s σ H _ I h) λu s1 ⟨y,H1,I1,ry,q⟩=>AS (ha pins s1 σ H1 _ I1 q) λov s2 ⟨x,H2,I2,rx,a,C,dx,fs,ex,ea,c,n,l,q2⟩=>?_) hs
 subst ex;obtain rfl:ov=Value.ref a:=rx;exact zcc I2 ea c n l ry λs3 I3=>⟨σ,_,I3,q2⟩
end
section
variable {X:Cx}{pins:List (Addr×Obj)}{σ:St}{H:Hp}{s:Shared}{A:Around}{E:Value->Shared->Prop}{Q:Value->Shared->Prop}{c:Value}{b:Bool}
inductive TyOf(K:k7)(H:Hp):V->Value->Prop where
 |non:TyOf K H .non (.type "NoneType")
 |bl (x:Bool):TyOf K H (.bl x) (.type "bool")
 |int (i:Int):TyOf K H (.int i) (.type "int")
 |str (x:Str):TyOf K H (.str x) (.type "str")
 |flt (x:UInt64):TyOf K H (.flt x) (.type "float")
 |lst {a:Addr} {xs:List V} (e:H a=some (.lst xs)):TyOf K H (.ref a) (.type "list")
 |frz {a:Addr} {o:Obj} {xs:List V} (e:H a=some (.frz o (.lst xs))):TyOf K H (.ref a) (.type "list")
 |tup {a:Addr} {xs:List V} (e:H a=some (.tup xs)):TyOf K H (.ref a) (.type "tuple")
 |dK {a:Addr} {kvs:List (Key×V)} (e:H a=some (.dK kvs)):TyOf K H (.ref a) (.type "dict")
 |dT {a:Addr} {kvs:List (List Key×V)} (e:H a=some (.dT kvs)):TyOf K H (.ref a) (.type "dict")
 |ins {a C dx:Addr} {fs:List (Str×V)} (e:H a=some (.ins C dx fs)) (cl:Cls K C) (ha:PySem.W.findIn K (.ref C) "__class__"=some (some (.builtin "object.__class__")))
   (hn:PySem.W.specialIn K (.builtin "object.__class__") "__get__"=some (some (.builtin "getset_descriptor.__get__"))) (htk:PySem.W.takesIn K (.builtin "object.__class__")=some true)
   (hm:PySem.W.mroIn K C (.type "object")=some true):TyOf K H (.ref a) (.ref C)
theorem Nu{x:V}  (I:Inv X pins σ H s)(rx:A5 x u)(ty:TyOf X.K H x t)(e:PySem.W.kitOne X.K t c=some b)(h:∀tk,Q (.bool b) { s with toks:=tk }) :
  wpAny (model X.prog X.w) A (call (.builtin "isinstance") [u,c]) Q E s:=by
 cases ty with
 |non=>cases (rx);exact yb1 PySem.W.kitx_none I.kIn True.intro e (λz=>nomatch z) h
 |bl y=>cases (rx);exact yb1 PySem.W.kitx_bool I.kIn True.intro e (λz=>nomatch z) h
 |int i=>obtain⟨t,q⟩:=(rx);cases q;exact yb1 PySem.W.kitx_int I.kIn True.intro e (λz=>nomatch z) h
 |str y=>obtain⟨t,q⟩:=(rx);cases q;exact yb1 PySem.W.kitx_str I.kIn True.intro e (λz=>nomatch z) h
 |flt y=>obtain⟨t,q⟩:=(rx);cases q;exact yb1 PySem.W.kitx_float I.kIn True.intro e (λz=>nomatch z) h
 |@lst a xs ea =>
  cases (rx);obtain⟨_,_,n,_,h1⟩:=(I.hok a _ ea);exact yb1 PySem.W.kitx_list I.kIn ⟨_,h1,rfl⟩ e (λz=>nomatch z) h
 |@frz a ob xs ea =>
  cases (rx);obtain⟨_,_,_,n,_,h1⟩:=(I.hok a _ ea);exact yb1 PySem.W.kitx_list I.kIn ⟨_,h1,rfl⟩ e (λz=>nomatch z) h
 |@tup a xs ea =>
  cases (rx);obtain⟨_,_,_,p⟩:=(I.hok a _ ea);obtain⟨o,h1,h2,_⟩:=p;exact yb1 PySem.W.kitx_tuple I.kIn ⟨o,h1,h2⟩ e (λz=>nomatch z) h
 |@dK a kvs ea =>
  cases (rx);obtain⟨_,_,vs,_,p⟩:=(I.hok a _ ea);obtain⟨o,es,ep,h1,h2,_⟩:=p;exact yb1 yde I.kIn ⟨o,h1,h2.1⟩ e (λz=>nomatch z) h
 |@dT a kvs ea =>
  cases (rx);obtain⟨_,_,xs,_,o,es,ep,h1,h2,_⟩:=(I.hok a _ ea);exact yb1 yde I.kIn ⟨o,h1,h2.1⟩ e (λz=>nomatch z) h
 |@ins a C dx fs ea cl ha hn htk hm =>
  cases (rx);obtain⟨mA,O,_⟩:=Km I.hok ea;obtain⟨od,J,_⟩:=O.look;exact yb1 (PySem.W.kitx_own (cl.get _) cl.hd ha hn htk hm) I.kIn J e (λz=>nomatch z) h
end
structure Room(k:Nat)(A:Around):Prop where
 hd:A.handled=none
 dp:A.depth+3 * k+5<recursionLimit
 un:A.units+16 * k+200<cLine
theorem Room.mono(r:Room k A)(h:j<=k):Room j A:=⟨r.hd,by have:=r.dp;omega,by have:=r.un;omega⟩
theorem Room.deeper(r:Room (k+1) A)(env):Room k (A.deeper env) :=
 ⟨r.hd,by have:=r.dp;show A.depth+1+3 * k+5<_;omega,by have:=r.un;show A.units+3+16 * k+200<_;omega⟩
theorem zcj{A:Around}:(A.under (.builtin "type.__call__" ⟨.ref C::us,kw⟩)).depth=A.depth+1:=by
 rfl
theorem zci{A:Around}:(A.under (.builtin "type.__call__" ⟨.ref C::us,kw⟩)).units=A.units+1:=by
 rfl
theorem Room.make(r:Room (k+1) A)(C)(us)(kw):Room k (A.under (.builtin "type.__call__" ⟨.ref C::us,kw⟩)) :=
 ⟨r.hd,by have:=r.dp;rw[zcj];omega,by have:=r.un;rw[zci];omega⟩
theorem Room.depth(r:Room k A):A.depth<recursionLimit:=by have:=r.dp;omega
theorem Room.units(r:Room k A):A.units+64<cLine:=by have:=r.un;omega
def QW:TA:=λ_ H Q=>Q [] H
def tCons(ta:TE)(tr:TA):TA:=λσ H Q=>ta σ H λx H1=>tr σ H1 λxs H2=>Q (x::xs) H2
section
variable {X:Cx}{e:Expr}{es:List Expr}{te:TE}{t:TA}{pos:Pos}
theorem Ec:PA X [] QW:=λ_ _ _ _ H Q I h=>Calls.spliced_nil ⟨[],H,I,.nil,h⟩
theorem Dk(ha:PE X e te)(hr:PA X es t)(hs:starEach (e::es) X.env=(false,eval e X.env)::starEach es X.env:=by rfl):PA X (e::es) (tCons te t):=by
 intro pos pins s σ H Q I h;rw[hs];refine Calls.spliced_cons (AS (ha pins s σ H _ I h) λu s1 ⟨x,H1,I1,r1,q1⟩=>?_)
 exact AS (hr pos pins s1 σ H1 _ I1 q1) λus s2 ⟨xs,H2,I2,r2,q2⟩=>⟨x::xs,H2,I2,.cons r1 r2,q2⟩
def tTup(t:TA):TE:=λσ H Q=>t σ H λxs H1=>xs.length<=sizeLine/\∀p,H1 p=none->Q (.ref p) (upd H1 p (.tup xs))
def tLst(t:TA):TE:=λσ H Q=>t σ H λxs H1=>xs.length<=sizeLine/\∀p,H1 p=none->Q (.ref p) (upd H1 p (.lst xs))
theorem zl0(h:PA X es t):PE X (.Tuple es x1 pos) (tTup t):=by
 intro pins s σ H Q I hq;refine wpAny_Tuple_spliced (AS (h pos pins s σ H _ I hq) λus s1 ⟨xs,H1,I1,r,z,q⟩=>⟨by rw[<- r.length];exact z,?_⟩)
 have hf :=I1.hok.fresh (yac _);refine⟨.ref s1.heap.objs.size,upd H1 s1.heap.objs.size (.tup xs),I1.laid (λb u e=>ya2 _ e) (yac _) ?_,rfl,q _ hf⟩
 exact⟨z,us,r,⟨_,yai _ rfl,rfl,_,rfl⟩⟩
theorem zl4(h:PA X es t):PE X (.List es pos) (tLst t):=by
 intro pins s σ H Q I hq;refine wpAny_List_spliced (AS (h pos pins s σ H _ I hq) λus s1 ⟨xs,H1,I1,r,z,q⟩=>⟨by rw[<- r.length];exact z,?_⟩)
 have hf :=I1.hok.fresh (yac _);refine⟨.ref s1.heap.objs.size,upd H1 s1.heap.objs.size (.lst xs),I1.laid (λb u e=>ya2 _ e) (yac _) ?_,rfl,q _ hf⟩
 exact⟨z,us,0,r,yai _ rfl⟩
end
abbrev Sp:=List V->Hp->VK->XK->Prop
abbrev Ep:=List Env->Hp->Shared->XK->Value->Shared->Prop
structure Env0(P:Program)(w:World)(K:k7)(mg:Str->Option Value)(base:Heap)(A:Around)(outer:List Env)(s:Shared)(H:Hp):Prop where
 frames:A.frames=some outer
 mod:Mod K mg base
 bs:∀b o,base.get? b=some o->s.heap.get? b=some o/\H b=none
 bsz:base.objs.size<=s.heap.objs.size
 funs:s.heap.FunFrames base outer
 frf:∀b∈Aw outer,H b=none
 hok:HOk P w H s.heap
 bare:AllBare s.gens
def CE(outer:List Env)(P:Program)(w:World)(H:Hp)(s:Shared)(Q:VK)(u:Value)(s':Shared):Prop :=
 ∃v H',s'.os=s.os/\AllBare s'.gens/\Un (Aw outer) [] H H' s.heap s'.heap/\HOk P w H' s'.heap/\A5 v u/\Q v H'
def CR(CX:Ep)(outer:List Env)(P:Program)(w:World)(H:Hp)(s:Shared)(Q:VK)(E:XK)(r:Result)(s':Shared):Prop :=
 match r with
 |.ok (.ret u)=>CE outer P w H s Q u s'
 |.ok _=>False
 |.error e=>CX outer H s E e s'
structure FnOk(P:Program)(w:World)(K:k7)(mg:Str->Option Value)(base:Heap)(CX:Ep)(k:Nat)(f:Addr)(fd:FuncData)(ps:List Str)(sp:Sp):Prop where
 len:∀vs H Q E,sp vs H Q E->vs.length=ps.length
 run:∀(A:Around) (outer:List Env) (s:Shared) (H:Hp) (args:Args) (us:List Value) (vs:List V) (Q:VK) (E:XK),Room k A->Env0 P w K mg base A outer s H->BindsTo s fd args (ps.zip us)->A9 vs us->sp vs H Q E ->
  codeAny (model P w) A (.call (.ref f) args) (CR CX outer P w H s Q E) s
theorem Env0.make{w:World}{K}{s:Shared}{H:Hp}(e:Env0 P w K mg base A outer s H)(C:Addr)(us)(kw) :
  Env0 P w K mg base (A.under (.builtin "type.__call__" ⟨.ref C::us,kw⟩)) outer s H:=⟨by first|exact e.frames|rfl,e.mod,e.bs,e.bsz,e.funs,e.frf,e.hok,e.bare⟩
section
variable {X:Cx}{pins:List (Addr×Obj)}{σ:St}{H:Hp}{s s':Shared}
theorem Inv.env0(I:Inv X pins σ H s):Env0 X.prog X.w X.K X.mg X.base X.A X.stack s H :=
 ⟨I.ok.frames,I.ok.mod,I.bs,yah I.ok.bsz I.sz,I.stack,I.stkFree,I.hok,I.bare⟩
theorem Inv.after   (I:Inv X pins σ H s)(h:CE X.stack X.prog X.w H s Q u s'):EP X pins σ Q u s':=by
 obtain⟨v,H',os,bare,un,hok,r,q⟩:=h;obtain⟨hh,g,d,t,os'⟩:=s';obtain rfl:os'=s.os:=os;exact⟨v,H',I.call un hok bare (λb z=>absurd z (by simp)),r,q⟩
end
def Ci(K:k7)(fd:FuncData)(ps:List Str)(ds:List Value):Prop :=
 ∀(s:Shared) (us:List Value),K.In s.heap->(us++ds).length=ps.length->BindsTo s fd ⟨us,[]⟩ (ps.zip (us++ds))
theorem Ci.all{K }   (h:∀us ,us.length=ps.length->bindArgs fd ⟨us,[]⟩=pure (ps.zip us)):Ci K fd ps []:=λs us _ hl=>by
 rw[ybu]at hl ⊢;exact .of_eq (h us hl)
section
variable {X:Cx}{CX:Ep}{k:Nat}{f C:Addr}{fd:FuncData}{ps:List Str}{sp:Sp}{dvs:List V}{ds:List Value}{E:XK}{x m:Str}{p pos apos:Pos}{e o:Expr}{es:List Expr}{ta:TE}{t:TA}
structure Mk(K:k7)(C f:Addr):Prop where
 makes:PySem.W.makesIn K C=true
 init:PySem.W.findIn K (.ref C) "__init__"=some (some (.ref f))
 fn:PySem.W.isFn K (.ref f)=true
 kp:PySem.W.keepIn K (.ref C)=true
end
section
variable {X:Cx}{CX:Ep}{k:Nat}{f C:Addr}{fd:FuncData}{ps ks:List Str}{sp:Sp}{E:XK}{x m:Str}{p pos apos kpos:Pos}{e o:Expr}{es:List Expr}{kws:List Keyword}{te ta:TE}{t tk:TA}{nm:Option Str}
variable {g:List Value->List Value->List Value}{gV:List V->List V->List V}
end
structure FnScope(N P:List Str)(sc:Scope):Prop where
 kind:sc.kind=.function
 co:sc.isCoroutine=false
 gen:sc.isGenerator=false
 nd:N.Nodup
 pre:N.take P.length=P
 par:∀x∈P,sc.names.lookup x=some .local\/sc.names.lookup x=some .cell
 nofree:∀y∈sc.names,y.2≠.free
theorem XI{kindOf}:∀{binds} {m},(∀v,(x,v)∉binds)->bindL kindOf binds m x=m x
 |[],_,_=>rfl
 |(n,v)::r,m,h=>by
  unfold bindL;rw[XI λw hw=>h w (ya8 _ hw)]
  split
  .grind
  .rfl
theorem XM{kindOf}:∀{binds} {m},(∀v,(x,v)∉binds)->bindC kindOf binds m x=m x
 |[],_,_=>rfl
 |(n,v)::r,m,h=>by
  unfold bindC;rw[XM λw hw=>h w (ya8 _ hw)]
  split
  .rfl
  grind
theorem XJ{kindOf}{x:Str}{v}:∀{P:List Str} {vs} {i:Nat} {m},P.Nodup->P[i]?=some x->vs[i]?=some v->kindOf x=some .local ->
  bindL kindOf (P.zip vs) m x=some v
 |[],_,_,_,_,h,_,_=>by simp at h
 |_::_,[],_,_,_,_,h,_=>by simp at h
 |p::P,w::vs,0,m,nd,h1,h2,hk=>by
  simp at h1 h2;subst h1;subst h2;show bindL kindOf ((p,w)::P.zip vs) m p=_;unfold bindL;rw[XI λv hv=>(yd2.mp nd).1 (yd3 hv).1,if_pos hk]
  simp
 |p::P,w::vs,i+1,m,nd,h1,h2,hk=>by
  unfold bindL;exact XJ (i:=i) (yd2.mp nd).2 (by grind) (by grind) hk
theorem XN{kindOf}{x:Str}{v}:∀{P:List Str} {vs} {i:Nat} {m},P.Nodup->P[i]?=some x->vs[i]?=some v->kindOf x≠some .local ->
  bindC kindOf (P.zip vs) m x=some v
 |[],_,_,_,_,h,_,_=>by simp at h
 |_::_,[],_,_,_,_,h,_=>by simp at h
 |p::P,w::vs,0,m,nd,h1,h2,hk=>by
  simp at h1 h2;subst h1;subst h2;show bindC kindOf ((p,w)::P.zip vs) m p=_;unfold bindC;rw[XM λv hv=>(yd2.mp nd).1 (yd3 hv).1,if_neg hk]
  simp
 |p::P,w::vs,i+1,m,nd,h1,h2,hk=>by
  unfold bindC;exact XN (i:=i) (yd2.mp nd).2 (by grind) (by grind) hk
def start(N:List Str)(vs:List V):St:=vs.map some++List.replicate (N.length - vs.length) none
noncomputable def Ds(CX:Ep)(P:Program)(w:World)(K:k7)(mg:Str->Option Value)(base:Heap)(N:List Str)(qual:Str)(scope:Scope)(f:Addr)(cd:Value)(A:Around)(outer:List Env)(s:Shared)(H:Hp)(E:XK):Cx where
 prog:=P
 w:=w
 K:=K
 mg:=mg
 base:=base
 A:=A.deeper (envOfC qual scope s.heap.objs.size f cd)
 N:=N
 s₀:=s
 H₀:=H
 env:=envOfC qual scope s.heap.objs.size f cd
 outer:=outer
 stack:=envOfC qual scope s.heap.objs.size f cd::outer
 ex:=[]
 calm:=true
 fn:=λ_=>true
 pn:=[]
 xe:=λe s'=>wpAny (model P w) (A.deeper (envOfC qual scope s.heap.objs.size f cd)) (leaving (envOfC qual scope s.heap.objs.size f cd) e) (λ_ s''=>CX outer H s E e s'') (λe' s''=>CX outer H s E e' s'') s'
theorem Wv{sc:Scope}(h:sc.names.lookup x=some .cell):∃c,(cellsFrom n sc.names []).lookup x=some c:=by
 have q:=PySem.W.cellsFrom_some sc.names n [] (.inl h);exact ycl.mp q
theorem zdn{CX:Ep}{P:Program}{w:World}{K:k7}{base:Heap}{N ps:List Str}{qual:Str}{scope:Scope}{f:Addr}{cd:Value}{A:Around}{s s1:Shared}{H:Hp}{E:XK}{vs:List V}
  (S:FnScope N ps scope) (hd:A.handled=none) (e0:Env0 P w K mg base A outer s H) (hl:vs.length=ps.length) (r:A9 vs us)
  (x:InCallC s s.heap.objs.size (bindL (envOfC qual scope s.heap.objs.size f cd).kindOf (ps.zip us) λ_=>none) (cellsFrom (s.heap.objs.size+1) scope.names []) (bindC (envOfC qual scope s.heap.objs.size f cd).kindOf (ps.zip us) λ_=>none) s1) :
  Inv (Ds CX P w K mg base N qual scope f cd A outer s H E) [] (start N vs) H s1:=by
 have hpl :=by have:=congrArg List.length S.pre;rw[ych]at this;omega
 obtain⟨h1,tk,rfl,hk⟩:=x.done;have noA:∀b ,b∉(Ds CX P w K mg base N qual scope f cd A outer s H E).ex:=λb z=>absurd (show b∈[] from z) (by simp)
 refine⟨⟨e0.mod,S.kind,rfl,rfl,yac _,λy z c h1 h2=>?_,λy hy=>?_,λy c _ h=>?_,λ_=>hd,Around.frames_deeper e0.frames,.inr ⟨rfl,rfl⟩,λb z=>absurd z (noA b),e0.bs,e0.bsz,λb _ _=>noA b,λb z=>absurd z (noA b),e0.funs,e0.frf⟩,
  rfl,e0.bare,Un.kept hk,⟨_,x.toInCall.ns,λi y v h1 h2 h3=>?_⟩,λy c h=>⟨_,x.cell y c h⟩,e0.hok.fresh (yac _),λy c h=>?_,λp hp=>absurd (show p∈[] from hp) (by simp),e0.hok.kept hk,?_⟩
 .exact name_of_addr x.apart (yba h1) (yba h2)
 .have hy :=hy
  rcases hy with hy|hy
  .exact Wv hy
  .exact absurd rfl (S.nofree _ (yba hy))
 .exact ydi (x.above y c (yba h))
 .have hi:i<vs.length:=by
   unfold start at h2
   by_cases hi:i<vs.length
   .exact hi
   .rw[yb4 (by simpa using hi)]at h2
    rw[List.getElem?_replicate]at h2;split at h2<;>cases h2
  have ha:vs[i]?=some v:=by
   unfold start at h2;rw[yaw (by simpa using hi),ya3]at h2
   cases e:vs[i]? with
   |none=>rw[e]at h2;cases h2
   |some a=>rw[e]at h2;cases h2;rfl
  obtain⟨u,hu,rv⟩:=r.get ha
  have hp:ps[i]?=some y:=by
   rw[<- S.pre,yc2 (by omega)];exact h1
  have ndP:ps.Nodup:=by rw[<- S.pre];exact S.nd.sublist (ydf _ _)
  refine⟨u,rv,?_⟩
  rcases S.par y (yci hp) with k|k
  .exact .inl ⟨k,XJ ndP hp hu k⟩
  .obtain⟨c,e⟩:=Wv k;refine .inr ⟨.inl k,c,e,?_⟩;have q:=x.cell y c e;rw[XN ndP hp hu (by show scope.names.lookup y≠_;rw[k];decide)]at q
   exact q
 .exact e0.hok.fresh (ydi (x.above y c (yba h)))
 .unfold start;show _=N.length;rw[yaz,ya1,ycx]
  omega
theorem fn_of{CX:Ep}   {K }   {k:Nat}{f:Addr}     {dV kV doc pm cdv ct oc:Value}
   {sp:Sp} (lk:K.lookup f=some ⟨oc,od,.func (PySem.W.fnOf name qual params body scope dV kV doc pm an cdv ct),osl⟩) (hcd:PySem.W.codeIn K cdv qual=true) (S:FnScope N ps scope)
  (len:∀vs H Q E,sp vs H Q E->vs.length=ps.length)
  (hbody : ∀ (A : Around) (outer ) (s : Shared) (H : Hp) (vs : List V) (Q : VK) (E : XK), Room k (A.deeper (envOfC qual scope s.heap.objs.size f cdv)) -> sp vs H Q E ->
   ∃t,Av (Ds CX P w K mg base N qual scope f cdv A outer s H E) body t/\t { nx:=λ_ H'=>Q .non H',rt:=Q } (start N vs) H) :
  FnOk P w K mg base CX (k+1) f (PySem.W.fnOf name qual params body scope dV kV doc pm an cdv ct) ps sp:=by
 refine⟨len,λA outer s H args us vs Q E hr e0 hb r hsp=>?_⟩
 have hl:=len _ _ _ _ hsp;have KX :=e0.mod.kin.keeps λb o e=>(e0.bs b o e).1
 have BO :=e0.mod.nolimit.keeps λb o e=>(e0.bs b o e).1
 have hkind:∀y∈ps.zip us,scope.names.lookup y.1=some .local\/(scope.names.lookup y.1=some .cell/\((cellsFrom (s.heap.objs.size+1) scope.names []).lookup y.1).isSome=true):=λ⟨n,v⟩ hy=>by
  rcases S.par n (yd3 hy).1 with q|q
  .exact .inl q
  .exact .inr ⟨q,PySem.W.cellsFrom_some _ _ _ (.inl q)⟩
 refine codeAny_call_function hr.depth (KX _ _ lk) rfl S.co S.gen rfl (PySem.W.codeRec_of KX hcd) (hb _ _ _ _ ?_);refine wpAny_newFunctionEnv_cells S.kind hkind λenv he s1 x=>?_
 subst he;refine⟨BO.keeps x.toInCall.keep,codeAny_func ?_⟩;obtain⟨t,ht,hq⟩:=hbody A outer s H vs Q E (hr.deeper _) hsp;have I:Inv (Ds CX P w K mg base N qual scope f cdv A outer s H E) [] (start N vs) H s1:=zdn S hr.hd e0 hl r x;refine ydm (ht [] s1 (start N vs) H _ I hq) (λfl s' hs=>?_) λe s' hs=>hs
 have Ax:∀{σ' } {H' } {v } {u },Inv (Ds CX P w K mg base N qual scope f cdv A outer s H E) [] σ' H' s'->A5 v u->Q v H'->CE outer P w H s Q u s' :=
  λ{σ' H' v u} J rv q=>⟨v,H',J.os,J.bare,J.base,J.hok,rv,q⟩
 cases fl with
 |ret u =>
  obtain⟨v,σ',H',J,rv,q⟩:=hs;exact Ax J rv q
 |next =>
  obtain⟨σ',H',J,q⟩:=hs;exact Ax (v:=V.non) J rfl q
 |brk =>
  obtain⟨_,_,_,q⟩:=hs;exact False.elim q
 |cont =>
  obtain⟨_,_,_,q⟩:=hs;exact False.elim q
section
variable {X:Cx}{x:Str}{p pos:Pos}{e:Expr}{es:List Expr}{t:TA}{id T:String}{r:List V->Hp->VK->Prop}
def Q5(r:List V->Hp->VK->Prop)(t:TA):TE:=λσ H Q=>t σ H λvs H1=>r vs H1 Q
theorem IT(hc:CJ X (.builtin id) r)(hg:Gl X x)(hm:X.mg x=none)(hv:bootBuiltins x=some (.builtin id))(ha:PA X (e::es) t)(hn:x≠"__name__":=by decide)(hdb:(x == "__debug__")=false:=by decide)
  (he:starEach (e::es) X.env=(false,eval e X.env)::starEach es X.env:=by rfl) (hpl:(backTo pos (starEach es X.env)).any (·.1)=false:=by rfl):PE X (.Call (.Name x p) (e::es) [] pos) (Q5 r t):=by
 intro pins s σ H Q I h;refine ydz (Fq I hg hm hv ?_ hn hdb);exact PyProof.Rows.callWith_builtin1 (AS (ha pos pins s σ H _ I h) λus s1 ⟨vs,H1,I1,r1,q1⟩=>hc pins s1 σ H1 vs us Q I1 r1 q1) he hpl
theorem Sr(hc:CJ X (.type T) r)(hg:Gl X x)(hm:X.mg x=none)(hv:bootBuiltins x=some (.type T))(ha:PA X (e::es) t)(hn:x≠"__name__":=by decide)(hdb:(x == "__debug__")=false:=by decide)
  (he:starEach (e::es) X.env=(false,eval e X.env)::starEach es X.env:=by rfl) (hpl:(backTo pos (starEach es X.env)).any (·.1)=false:=by rfl):PE X (.Call (.Name x p) (e::es) [] pos) (Q5 r t):=by
 intro pins s σ H Q I h;refine ydz (Fq I hg hm hv ?_ hn hdb);exact ybg (AS (ha pos pins s σ H _ I h) λus s1 ⟨vs,H1,I1,r1,q1⟩=>hc pins s1 σ H1 vs us Q I1 r1 q1) he hpl
end
end L2
namespace HT
open PySem PyProof.Rows
section
open PySem.SeqAt
open PySem.AutoSeq1 (wpAny_loadPart')
open PySem.MeetsSeq PySem.MeetsSeq2 PySem.MeetsSeq3
end
section
variable {prog:Program}{w:World}{A:Around}{E:Value->Shared->Prop}{s:Shared}
noncomputable def sIx(n d:Nat):Option Int->Nat
 |none=>d
 |some v=>if v<0 then (v+(n:Int)).toNat else min v.toNat n
end
end HT
namespace L2
open PySem PySem.Spec PyProof.Rows
abbrev TO:=St->Hp->(Option Int->Hp->Prop)->Prop
def PO(X:Cx)(e:Option Expr)(t:TO):Prop :=
 ∀(pins:List (Addr×Obj)) (s:Shared) (σ:St) (H:Hp) (Q:Option Int->Hp->Prop),Inv X pins σ H s->t σ H Q ->
  wpAny (model X.prog X.w) X.A (evalPart e X.env) (λu s'=>∃o H',Inv X pins σ H' s'/\IsPart u o/\Q o H') X.xe s
def zgs:TO:=λ_ H Q=>Q none H
def tPart(t:TE):TO:=λσ H Q=>t σ H λx H1=>∃i,x=.int i/\Q (some i) H1
section
variable {X:Cx}{e:Expr}{te:TE}{lo hi:Option Expr}{tl th:TO}{pos p2:Pos}
theorem zhi:PO X none zgs:=by
 intro pins s σ H Q I h;exact ydt ⟨none,H,I,.none,h⟩
theorem zhh(h:PE X e te):PO X (some e) (tPart te):=by
 intro pins s σ H Q I hw;refine AS (h pins s σ H _ I hw) λu s1 ⟨x,H1,I1,r1,q1⟩=>?_
 obtain⟨i,rfl,q⟩:=q1;obtain⟨t,rfl⟩:=r1;exact⟨some i,H1,I1,.int i t,q⟩
def P5(X:Cx)(r:V->Option Int->Option Int->Hp->VK->Prop):Prop :=
 ∀(pins:List (Addr×Obj)) (s:Shared) (σ:St) (H:Hp) (x:V) (v vl vu:Value) (lo hi:Option Int) (sl:Addr) (Q:VK),Inv X pins σ H s->A5 x v->s.heap.IsSliceOf sl vl vu .none->IsPart vl lo->IsPart vu hi->r x lo hi H Q ->
  ∃T id,typeLookup (.type T) "__getitem__"=pure (some (.builtin id))/\s.TypeIs v T/\wpAny (model X.prog X.w) X.A (getItem v (.ref sl)) (EP X pins σ Q) X.xe s
def tSl(r:V->Option Int->Option Int->Hp->VK->Prop)(te:TE)(tl th:TO):TE:=λσ H Q=>te σ H λx H1=>tl σ H1 λl H2=>th σ H2 λu H3=>r x l u H3 Q
theorem Sk  (hr:P5 X r)(he:PE X e te)(hl:PO X lo tl)(hu:PO X hi th):PE X (.Subscript e (.Slice lo hi none p2) pos) (tSl r te tl th):=by
 intro pins s σ H Q I h;refine Subscript_ (AS (he pins s σ H _ I h) λv s1 ⟨x,H1,I1,r1,q1⟩=>?_)
 refine wpAny_Slice (AS (hl pins s1 σ H1 _ I1 q1) λvl s2 ⟨l,H2,I2,pl,q2⟩=>AS (hu pins s2 σ H2 _ I2 q2) λvu s3 ⟨u,H3,I3,pu,q3⟩=>?_)
 refine ydt ?_;have I4:Inv X pins σ H3 { s3 with heap:=s3.heap.push { cls:=.type "slice",data:=.fields #[vl,vu,.none] } }:=I3.kept λb ob q=>ya2 _ q
 obtain⟨T,id,hT,ht,hg⟩:=hr pins { s3 with heap:=s3.heap.push { cls:=.type "slice",data:=.fields #[vl,vu,.none] } } σ H3 x v vl vu l u s3.heap.objs.size Q I4 r1 (Heap.IsSliceOf.new ..) pl pu q3
 exact tail_any ht hT hg (by rfl)
def JF(xs:List V)(lo hi:Option Int):List V:=(xs.drop (HT.sIx xs.length 0 lo)).take (HT.sIx xs.length xs.length hi - HT.sIx xs.length 0 lo)
theorem zbz(xs)(lo hi):(JF xs lo hi).length<=xs.length:=by
 unfold JF
 grind
end
noncomputable def Cu(n:Nat)(i:Int):Option Nat:=if 0<=i then (if i<n then some i.toNat else none) else if -(n:Int)<=i then some (i+n).toNat else none
def A6{α:Type}(xs:List α)(i:Int):Option α:=(Cu xs.length i).bind λj=>xs[j]?
theorem Nr(h:Cu n i=some j):seqIndex? i n=some j/\j<n/\-n<=i/\i<n:=by
 unfold Cu at h
 by_cases h0:0<=i
 .rw[if_pos h0]at h
  by_cases h1:i<n
  .rw[if_pos h1]at h;have e :=yak h;exact⟨by rw[seqIndex_of h0 h1,e],by omega,by omega,h1⟩
  grind
 .rw[if_neg h0]at h
  by_cases h1:-n<=i
  .rw[if_pos h1]at h;have e :=yak h;exact⟨by rw[seqIndex_neg (by omega) h1,e],by omega,h1,by omega⟩
  grind
theorem PZ(h:A6 xs i=some v):∃j,seqIndex? i xs.length=some j/\xs[j]?=some v/\j<xs.length/\-xs.length<=i/\i<xs.length:=by
 unfold A6 at h;cases e:Cu xs.length i with
 |none=>grind
 |some j =>
  obtain⟨h1,h2,h3,h4⟩:=Nr e
  grind
theorem CH{j:Nat}{v}(h:xs[j]?=some v):A6 xs j=some v:=by
 have hj :=(ya9.mp h).1
 have e:Cu xs.length j=some j:=by
  unfold Cu
  grind
 unfold A6;grind
def L9(b:Expr):Prop:=∀o i,subscripted b false o i=operate [o,i] (getItem o i)
def Eo(X:Cx)(r:R2):Prop :=
 ∀(value slice:Expr) (pins:List (Addr×Obj)) (s:Shared) (σ:St) (H:Hp) (x y:V) (v u:Value) (Q:VK),Inv X pins σ H s->A5 x v->A5 y u->r x y H Q ->
  subscripted slice false v u=operate [v,u] (getItem v u)->wpAny (model X.prog X.w) X.A (subscriptTail value slice v u) (EP X pins σ Q) X.xe s
def MtR(X:Cx)(id:String)(r:V->List V->Hp->VK->Prop):Prop :=
 ∀(pins:List (Addr×Obj)) (s:Shared) (σ:St) (H:Hp) (x:V) (xs:List V) (v:Value) (us:List Value) (Q:VK),Inv X pins σ H s->A5 x v->A9 xs us->r x xs H Q ->
  wpAny (model X.prog X.w) X.A (call (.builtin id) (v::us)) (EP X pins σ Q) X.xe s
section
variable {X:Cx}{a b:Expr}{ta tb:TE}{pos:Pos}
theorem Eo.or(h:Eo X r)(h':Eo X r'):Eo X (λx y H Q=>r x y H Q\/r' x y H Q):=by
 intro value slice pins s σ H x y v u Q I rx ry q hs
 rcases q with q|q
 .exact h value slice pins s σ H x y v u Q I rx ry q hs
 .exact h' value slice pins s σ H x y v u Q I rx ry q hs
theorem Sn  (hr:Eo X r)(ha:PE X a ta)(hb:PE X b tb)(hs:L9 b):PE X (.Subscript a b pos) (Gy r ta tb):=by
 intro pins s σ H Q I h;exact Subscript_ (PM ha hb I h λv u s2 x y H2 I2 rx ry q=>hr a b pins s2 σ H2 x y v u Q I2 rx ry q (hs _ _))
def S7(K:k7):R2:=λx y H Q=>∃p xs i v,x=.ref p/\y=.int i/\Ad K H p xs/\A6 xs i=some v/\Q v H
def SY(K:k7):R2:=λx y H Q=>∃p xs i v,x=.ref p/\y=.int i/\Bp K H p xs/\A6 xs i=some v/\Q v H
def S6:R2:=λx y H Q=>∃z i c,x=.str z/\y=.int i/\z.length<=sizeLine/\A6 z.cps.toList i=some c/\Q (.str ⟨#[c]⟩) H
theorem zin:Eo X (S7 X.K):=by
 intro value slice pins s σ H x y v u Q I rx ry h hs;obtain⟨p,xs,i,z,rfl,rfl,hq,he,q⟩:=h;cases rx;obtain⟨t,rfl⟩:=ry;obtain⟨its,r,pl,hz⟩:=I.list hq;obtain⟨j,h1,h2,h3,h4,h5⟩:=PZ he;obtain⟨w,ew,rw'⟩:=r.get h2;have hl:=r.length;have hn:=Ih;have Ax:EP X pins σ Q w s:=⟨z,H,I,rw',q⟩
 by_cases h0:0<=i
 .have hj :=by
   rw[seqIndex_of h0 h5]at h1;exact yak h1
  exact item_listR pl.isList h0 (by omega) (by rw[hj];simpa using ew) Ax hs
 .have hj:(i+its.toArray.size).toNat=j:=by
   rw[seqIndex_neg (by omega) h4]at h1
   grind
  exact subscriptTail_builtinR pl.isList.typeIs slot_list_getitem.lookup
   (wpAny_getItem_list_neg pl.isList (by omega) (by rw[yb8]<;>omega) (by omega) (by rw[hj];simpa using ew) ⟨rfl,Ax⟩) hs
theorem zm6:Eo X (SY X.K):=by
 intro value slice pins s σ H x y v u Q I rx ry h hs;obtain⟨p,xs,i,z,rfl,rfl,hq,he,q⟩:=h;cases rx;obtain⟨t,rfl⟩:=ry;obtain⟨its,r,pl,hz⟩:=I.tuple hq;obtain⟨j,h1,h2,h3,h4,h5⟩:=PZ he;obtain⟨w,ew,rw'⟩:=r.get h2;have hl:=r.length;have hn:=Ih;have Ax:EP X pins σ Q w s:=⟨z,H,I,rw',q⟩
 exact subscriptTail_builtinR pl.typeIs slot_tuple_getitem.lookup
  (getItem_tuple (j:=j) pl (by omega) (by omega) (by grind) (by grind) ⟨rfl,Ax⟩) hs
theorem zm7:Eo X S6:=by
 intro value slice pins s σ H x y v u Q I rx ry h hs;obtain⟨z,i,c,rfl,rfl,hz,he,q⟩:=h;obtain⟨t,rfl⟩:=rx;obtain⟨t',rfl⟩:=ry;obtain⟨j,h1,h2,h3,h4,h5⟩:=PZ he;have hl:z.cps.toList.length=z.length:=by simp[Str.length]
 rw[hl]at h1 h4 h5;have hn:=Ih
 exact tail_any (ye0 s z t) slot_str_getitem.lookup (getItem_str (by
  grind) (by grind) ⟨.str ⟨#[c]⟩,H,I.tok _,⟨_,rfl⟩,q⟩) hs
def S8(K:k7):R2:=λx y H Q=>S7 K x y H Q\/SY K x y H Q\/S6 x y H Q
theorem zm8:Eo X (S8 X.K):=zin.or (zm6.or zm7)
theorem zch(its:List Value)(n j )(u ):Obj.mapSeq (·.setIfInBounds j u) { cls:=.type "list",data:=.seq its.toArray n }={ cls:=.type "list",data:=.seq (its.set j u).toArray n }:=by
 simp[Obj.mapSeq]
theorem Inv.lst{pins:List (Addr×Obj)}{σ:St}{H:Hp}{s:Shared}{p:Addr}{xs:List V}(I:Inv X pins σ H s)(h:H p=some (.lst xs)) :
  ∃(its:List Value) (n:Nat),A9 xs its/\s.heap.get? p=some { cls:=.type "list",data:=.seq its.toArray n }/\xs.length<=sizeLine:=by
 obtain⟨z,its,n,r,e⟩:=I.hok p _ h
 grind
theorem Inv.lstUpd  {σ:St}     {its its':List Value}   (I:Inv X pins σ H s)(h:H p=some (.lst xs))
  (ho:s.heap.get? p=some { cls:=.type "list",data:=.seq its.toArray n }) (hf:f { cls:=.type "list",data:=.seq its.toArray n }={ cls:=.type "list",data:=.seq its'.toArray n' }) (r:A9 ys its') (hz:ys.length<=sizeLine) (t:Nat) :
  Inv X pins σ (upd H p (.lst ys)) { s with heap:=s.heap.update p f,toks:=t }:=by
 have e:(s.heap.update p f).get? p=some { cls:=.type "list",data:=.seq its'.toArray n' }:=by
  rw[ybv f ho (by rw[hf]<;>rfl),hf]
 refine I.write (by rw[h];trivial) (.inl rfl) (λb u hb q=>(yb6 _ _ (yar hb)).trans q) ⟨_,e⟩ ?_
 exact⟨hz,its',n',r,e⟩
def rSetL:V->V->V->Hp->(Hp->Prop)->Prop:=λo i v H Q=>∃p xs k j,o=.ref p/\i=.int k/\H p=some (.lst xs)/\Cu xs.length k=some j/\Q (upd H p (.lst (xs.set j v)))
theorem zen:Pb X rSetL:=by
 intro pins s σ H o i v ov iv u Q I ro ri rv h;obtain⟨p,xs,k,j,rfl,rfl,hp,hj,q⟩:=h;cases ro;obtain⟨t,rfl⟩:=ri;obtain⟨its,n,r,ho,hz⟩:=I.lst hp;obtain⟨h1,h2,h3,h4⟩:=Nr hj;have hl:=r.length;have hn:=Ih
 have I'  :=
  I.lstUpd hp ho (zch its n j u) (r.set rv j) (by rw[yck];exact hz) s.toks
 by_cases h0:0<=k
 .have hk :=by
   rw[seqIndex_of h0 h4]at h1;exact yak h1
  exact PySem.W.ki_setAt ho h0 (by omega) (by grind) (by rw[hk];exact⟨_,I',q⟩)
 .have hk:(k+its.toArray.size).toNat=j:=by
   rw[seqIndex_neg (by omega) h3]at h1
   grind
  exact PySem.W.ki_setBack ho (by omega) (by grind) (by omega) (by rw[hk];exact⟨_,I',q⟩)
theorem zb4(lo hi)(n):(sliceBounds lo hi none n).1=HT.sIx n 0 lo/\(sliceBounds lo hi none n).2.1=HT.sIx n n hi/\(sliceBounds lo hi none n).2.2=1:=by
 refine⟨?_,?_,rfl⟩
 .cases lo with
  |none=>simp[sliceBounds,HT.sIx]
  |some i =>
   simp only[sliceBounds,HT.sIx,Option.getD_none,ye1]
   grind
 .cases hi with
  |none=>simp[sliceBounds,HT.sIx]
  |some i =>
   simp only[sliceBounds,HT.sIx,Option.getD_none,ye1]
   grind
theorem zaz(its:List Value)(lo hi):slicePick its.toArray lo hi none=((its.drop (HT.sIx its.length 0 lo)).take (HT.sIx its.length its.length hi - HT.sIx its.length 0 lo)).toArray:=by
 obtain⟨h1,h2,h3⟩:=zb4 lo hi its.toArray.size;unfold slicePick;rw[h1,h2,h3];simp only[sliceRange_one,pick_run]<;>rfl
def SX(K:k7):V->Option Int->Option Int->Hp->VK->Prop:=λx lo hi H Q=>∃a xs,x=.ref a/\Ad K H a xs/\∀p,H p=none->Q (.ref p) (upd H p (.lst (JF xs lo hi)))
theorem zgz:P5 X (SX X.K):=by
 intro pins s σ H x v vl vu lo hi sl Q I rx hs pl pu h;obtain⟨a,xs,rfl,hx,q⟩:=h;cases rx;obtain⟨its,r,ht,hz⟩:=I.list hx;have hlen:=r.length;refine⟨"list",_,slot_list_getitem.lookup,ht.isList.typeIs,?_⟩;refine wpAny_getItem_list_slice ht.isList hs pl pu .none (by simp) ?_ (by grind)
 rw[zaz,<- hlen];refine⟨.ref s.heap.objs.size,_,I.laid (λb ob q=>ya2 _ q) (yac _) ?_,rfl,q _ (I.hok.fresh (yac _))⟩
 exact⟨yah (zbz xs lo hi) hz,_,0,(r.drop (HT.sIx xs.length 0 lo)).take (HT.sIx xs.length xs.length hi - HT.sIx xs.length 0 lo),yai _ rfl⟩
theorem zbi:CJ X (.type "list") (λxs H Q=>∃p ys,xs=[.ref p]/\(Ad X.K H p ys\/Bp X.K H p ys)/\∀l,H l=none->Q (.ref l) (upd H l (.lst ys))):=by
 intro pins s σ H xs us Q I r h;obtain⟨p,ys,rfl,hq,q⟩:=h;obtain⟨u,rfl,rx⟩:=E2 r;cases rx
 have Ax:∀(its ),A9 ys its->ys.length<=sizeLine->∀(h' ) (c' ),(∀b o',s.heap.get? b=some o'->h'.get? b=some o') ->
   h'.get? s.heap.objs.size=some { cls:=.type "list",dict:=none,data:=.seq its.toArray c',slots:=#[] }->EP X pins σ Q (.ref s.heap.objs.size) { s with heap:=h' }:=λits r' hz h' c' kp e =>
  ⟨.ref s.heap.objs.size,_,I.laid kp (yac _) (show CI X.prog X.w _ h' _ (.lst ys) from⟨hz,its,c',r',e⟩),rfl,q _ (I.hok.fresh (yac _))⟩
 rcases hq with hq|hq
 .obtain⟨its,r',pl,hz⟩:=I.list hq;have hlen:=r'.length;obtain⟨o,ho,hc,n,hd⟩:=pl.isList;exact call_list_seq p (.inl rfl) ho hc hd (λh' c' kp e=>Ax its r' hz h' c' kp e) (by grind)
 .obtain⟨its,r',pl,hz⟩:=I.tuple hq;have hlen:=r'.length;obtain⟨o,ho,hc,n,hd⟩:=pl;exact call_list_seq p (.inr rfl) ho hc hd (λh' c' kp e=>Ax its r' hz h' c' kp e) (by grind)
def QI(K:k7)(T:String)(x:V)(H:Hp):Prop:=match x with
 |.str _=>T="str"
 |.int _=>T="int"
 |.ref p=>(T="list"/\∃xs,Ad K H p xs)\/(T="tuple"/\∃o,K.lookup p=some o/\o.cls=.type "tuple"/\o.dict=none) \/
   (T="dict"/\((∃kvs,H p=some (.dK kvs))\/∃kvs,H p=some (.dT kvs)))\/(T="set"/\∃S n,H p=some (.set S n))
 |_=>False
theorem zjk{σ:St}{x:V}(I:Inv X pins σ H s)(r:A5 x v)(ty:QI X.K T x H) :
  s.TypeIs v T/\∀a,v=.ref a->∃ob,s.heap.get? a=some ob/\ob.dict=none:=by
 cases x with
 |str z =>
  obtain⟨t,rfl⟩:=r;cases (ty);exact⟨ye0 s z t,λ_ e=>nomatch e⟩
 |int i =>
  obtain⟨t,rfl⟩:=r;cases (ty);exact⟨typeIs_int s i t,λ_ e=>nomatch e⟩
 |ref p =>
  cases r
  rcases ty with ⟨rfl,xs,hq⟩|⟨rfl,o,hk,hc,hd⟩|⟨rfl,hk⟩|⟨rfl,S,n,hk⟩
  .obtain⟨its,_,pl,_⟩:=I.list hq;refine⟨pl.isList.typeIs,λa e=>?_⟩
   cases e;obtain⟨o,n,e,c,hd,_⟩:=pl;exact⟨o,e,hd⟩
  .refine⟨⟨o,I.kIn p o hk,hc⟩,λa e=>?_⟩
   cases e;exact⟨o,I.kIn _ o hk,hd⟩
  .have z:∃o,s.heap.get? p=some o/\o.ExactDict:=by
    rcases hk with ⟨kvs,hk⟩|⟨kvs,hk⟩
    .obtain⟨_,_,_,_,o,_,_,e,ex,_⟩:=I.hok p _ hk;exact⟨o,e,ex⟩
    .obtain⟨_,_,_,_,o,_,_,e,ex,_⟩:=I.hok p _ hk;exact⟨o,e,ex⟩
   obtain⟨o,e,ex⟩:=z;refine⟨⟨o,e,ex.1⟩,λa e2=>?_⟩
   cases e2;exact⟨o,e,ex.2.1⟩
  .obtain⟨o,_,_,_,e,ex,_⟩:=I.hok p _ hk;refine⟨⟨o,e,ex.1⟩,λa e2=>?_⟩
   cases e2;exact⟨o,e,ex.2.1⟩
 |_=>exact False.elim ty
def tBM(K:k7)(T:String)(r:V->List V->Hp->VK->Prop)(to:TE)(t:TA):TE:=λσ H Q=>to σ H λx H1=>QI K T x H1/\t σ H1 λxs H2=>r x xs H2 Q
variable {o e:Expr}{es:List Expr}{to:TE}{t:TA}{name:Str}{apos cpos:Pos}{T id:String}{r:V->List V->Hp->VK->Prop}
theorem Mg(pa:PlainAttrs T)(slot:Slot T name id)(hty:typeOf (.builtin id)=pure (.type "method_descriptor"))(hm:MtR X id r)(ho:PE X o to)(ha:PA X (e::es) t)
  (hbase:attributeBase o name X.env (eval o X.env)=eval o X.env:=by rfl)
  (hfew : ((backTo cpos (starEach (e :: es) X.env)).all (fun x => !x.1) && (backToKw cpos (keywordEach [] X.env)).all (fun x => x.1.isSome)
   && decide ((e::es).length+([]:List Keyword).length+(if ([]:List Keyword).isEmpty then 0 else 1)<30))=true:=by rfl)
  (hline:(apos.endLine == cpos.line)=true:=by rfl) (hs:starEach (e::es) X.env=(false,eval e X.env)::starEach es X.env:=by rfl) (hplain:(backTo cpos (starEach es X.env)).any (·.1)=false:=by rfl) :
  PE X (.Call (.Attribute o name apos) (e::es) [] cpos) (tBM X.K T r to t):=by
 intro pins s σ H Q I h;refine wpAny_Call_method_late hbase hfew hline rfl (AS (ho pins s σ H _ I h) λv s1 ⟨x,H1,I1,r1,ty,q1⟩=>?_)
 obtain⟨h1,h2⟩:=zjk I1 r1 ty;refine⟨T,id,pa,slot,hty,h1,h2,?_⟩;have hA:=ha cpos pins s1 σ H1 _ I1 q1;rw[hs]at hA ⊢;refine Calls.callWith_builtin (by grind) (Calls.evalArgs_plain ?_)
 exact AS hA λus s2 ⟨vs,H2,I2,r2,q2⟩=>hm pins s2 σ H2 x vs v us Q I2 r1 r2 q2
end
def X3(X:Cx)(id:String)(r:V->List V->Hp->VK->Prop):Prop :=
 ∀(pins:List (Addr×Obj)) (s:Shared) (σ:St) (H:Hp) (x:V) (xs:List V) (v:Value) (us:List Value) (Q:VK),Inv X pins σ H s->A5 x v->A9 xs us->r x xs H Q ->
  wpAny (model X.prog X.w) X.A (call (.builtin id) (v::us)) (EP X pins σ Q) X.xe s
theorem A9.one:∀{x} {us},A9 [x] us->∃u,us=[u]/\A5 x u
 |_,_,.cons r .nil=>⟨_,rfl,r⟩
theorem A9.rep(h:A9 xs us):∀k ,A9 (List.replicate k xs).flatten (List.replicate k us).flatten
 |0=>.nil
 |k+1=>by
  exact A9.append h (A9.rep h k)
theorem Vb(its):∀(k) (acc:List Value),
  List.foldl (λx1 x2=>x1++x2) acc.toArray (List.replicate k its.toArray)=(acc++(List.replicate k its).flatten).toArray
 |0,acc=>by simp
 |k+1,acc=>by
  have e:acc.toArray++its.toArray=(acc++its).toArray:=by simp
  have e2:(acc++its)++(List.replicate k its).flatten=acc++(List.replicate (k+1) its).flatten:=by
   grind
  rw[<- e2,<- Vb its k (acc++its),<- e,List.replicate_succ,List.foldl_cons]
section
variable {X:Cx}{pins:List (Addr×Obj)}{σ:St}{H:Hp}{s:Shared}{l b:Addr}{xs ys zs:List V}
theorem Inv.lset{its its':List Value}(I:Inv X pins σ H s)(hH:H l=some (.lst xs))
  (e:s.heap.get? l=some { cls:=.type "list",data:=.seq its.toArray n }) (hf:f its.toArray=its'.toArray) (hv:A9 ys its') (hz:ys.length<=sizeLine) :
  Inv X pins σ (upd H l (.lst ys)) { s with heap:=s.heap.update l (Obj.mapSeq f),toks:=t' }:=by
 have q:=PySem.IsL.update e f;rw[hf]at q;refine I.write (by rw[hH];exact trivial) (.inl rfl) (λb' u hb hu=>(yb6 s.heap (Obj.mapSeq f) (yar hb)).trans hu) ⟨_,q⟩ ?_
 exact⟨hz,its',_,hv,q⟩
theorem Inv.lnew(I:Inv X pins σ H s)(hv:A9 ys its)(hz:ys.length<=sizeLine) :
  Inv X pins σ (upd H s.heap.objs.size (.lst ys)) { s with heap:=s.heap.push { cls:=.type "list",data:=.seq its.toArray },toks:=t' } :=
 I.laid (λ_ _ q=>ya2 _ q) (yac _) ⟨hz,its,0,hv,yai _ rfl⟩
theorem Inv.fresh(I:Inv X pins σ H s):H s.heap.objs.size=none:=I.hok.fresh (yac _)
theorem Inv.lstM(I:Inv X pins σ H s)(hH:H l=some (.lst xs)):xs.length<=sizeLine/\∃(its:List Value) (n:Nat),A9 xs its/\xs.length=its.length/\s.heap.get? l=some { cls:=.type "list",data:=.seq its.toArray n }:=by
 obtain⟨z,its,n,r,e⟩:=I.hok l _ hH;exact⟨z,its,n,r,r.length,e⟩
theorem zfe(h:n<=sizeLine):Builtin.List.listTooLong n=false:=by
 exact ydl (by omega)
end
section
variable {X:Cx}
def zh9:V->List V->Hp->VK->Prop:=λx vs H Q=>∃l xs y,x=.ref l/\vs=[y]/\H l=some (.lst xs)/\xs.length<sizeLine/\Q .non (upd H l (.lst (xs++[y])))
theorem U3:X3 X "list.append" zh9:=by
 intro pins s σ H x vs v us Q I rx rv h;obtain⟨l,xs,y,rfl,rfl,hH,hz,q⟩:=h;cases rx;obtain⟨u,rfl,ru⟩:=rv.one;obtain⟨z,its,n,r,hl,e⟩:=I.lstM hH;refine call_meets F.slot_list_append ⟨_,e,rfl⟩ F.entry_list_append (F.args_list_append_2 _ _) (PySem.list_append l its.toArray n u (by grind)) ⟨e,?_⟩
 refine⟨.non,_,I.lset hH e (by simp) (r.append (.cons ru .nil)) ?_,rfl,q⟩
 grind
def rCat:R2:=λx y H Q=>∃l b xs zs,x=.ref l/\y=.ref b/\H l=some (.lst xs)/\H b=some (.lst zs)/\xs.length+zs.length<=sizeLine/\∀p,H p=none->Q (.ref p) (upd H p (.lst (xs++zs)))
theorem zlc:Af X (binaryOp .Add) rCat:=by
 intro pins s σ H x y v u Q I rx ry h;obtain⟨l,b,xs,zs,rfl,rfl,hH,hB,hz,q⟩:=h;cases rx;cases ry;obtain⟨z,its,n,r,hl,e⟩:=I.lstM hH;obtain⟨z2,its2,n2,r2,hl2,e2⟩:=I.lstM hB;refine PySem.P.add_list e e2 ?_ (by grind)
 have ea:its.toArray++its2.toArray=(its++its2).toArray:=by simp
 rw[ea];exact⟨.ref _,_,I.lnew (r.append r2) (by grind),rfl,q _ I.fresh⟩
def rRep:R2:=λx y H Q=>∃l k xs,x=.ref l/\y=.int k/\H l=some (.lst xs)/\-(2 ^ 63)<=k/\k<2 ^ 63/\xs.length * k.toNat<=sizeLine /\
 ∀p,H p=none->Q (.ref p) (upd H p (.lst (List.replicate k.toNat xs).flatten))
theorem zig{α:Type}(xs:List α)(k):(List.replicate k xs).flatten.length=k * xs.length:=by
 simp
theorem zl8:Af X (binaryOp .Mult) rRep:=by
 intro pins s σ H x y v u Q I rx ry h;obtain⟨l,k,xs,rfl,rfl,hH,h1,h2,hz,q⟩:=h;cases rx;obtain⟨t,rfl⟩:=ry;obtain⟨z,its,n,r,hl,e⟩:=I.lstM hH;have hlen:its.toArray.size * k.toNat<=sizeLine:=by rw[yb8,<- hl];exact hz
 have hcap:¬ its.toArray.size * k.toNat > (2 ^ 63 - 1) / 8:=by
  have:sizeLine<=(2 ^ 63 - 1) / 8:=by decide
  omega
 have hfit:¬ (!Builtin.List.listFitsIndex k)=true:=by
  rw[fitsIndex_both h1 h2];exact yav
 have hlong:¬ Builtin.List.listTooLong (its.toArray.size * k.toNat)=true:=by
  rw[zfe hlen];exact yav
 have hnew:List.foldl (λx1 x2=>x1++x2) #[] (List.replicate (if its.toArray.isEmpty=true then 0 else k.toNat) its.toArray)=(List.replicate k.toNat its).flatten.toArray:=by
  have f0 :=λm=>by
   have:=Vb its m [];rw[List.nil_append]at this;exact this
  rw[f0];cases its with
  |nil=>simp
  |cons a r'=>rw[if_neg (by simp)]
 refine wpAny_binaryOp_repeat_ref (by decide) ⟨_,e,rfl⟩ (λs'=>typeIs_int s' k t) noFill_list_mul F.fills_int_mul F.slot_int_rmul repeat_list F.slot_int_index.lookup
  (call_meets F.slot_int_rmul (typeIs_int s k t) F.entry_int_rmul (F.args_int_rmul_2 _ _) (int___rmul___int_list k t l its.toArray n)
   ⟨e,rfl,⟨_,e,rfl⟩,call_meets F.slot_list_mul ⟨_,e,rfl⟩ F.entry_list_mul (F.args_list_mul_2 _ _) (AutoListH.list___mul___list_int_3 l its.toArray n k t hfit hcap hlong) ⟨e,?_⟩⟩)
 rw[hnew];exact⟨.ref _,_,I.lnew (r.rep k.toNat) (by rw[zig,Nat.mul_comm];exact hz),rfl,q _ I.fresh⟩
end
section
variable {prog:Program}{w:World}{A:Around}{E:Value->Shared->Prop}{s:Shared}
end
section
variable {X:Cx}
end
end L2
namespace Att
open PySem PySem.W PySem.Calls PyProof.Rows
theorem zah:∀(ns) (vs),WellAll P h vs (ns.map WData.int)->IntsAre vs ns:=by
 intro ns
 induction ns with
 |nil =>
  intro vs w;cases w;exact .nil
 |cons n ns ih =>
  intro vs w;cases w with
  |cons a b =>
   cases a;exact .cons _ _ (ih _ b)
theorem zd6{l:OpenLaw}(hn:l.most=some n)
  (hpre:l.row.toRowW.claim.pre args=true) (hwl:WellAll P h vals args) :
  ∃a vs ns,vals=[Value.ref a]/\args=[WData.list (ns.map WData.int)]/\h.get? a=some { cls:=.type "list",data:=.seq vs.toArray }/\IntsAre vs ns/\ns.length<=n:=by
 have hsh :=(pre_splitW hpre).1;have hc:l.pre.holds [] { args:=args }=true:=(pre_splitW hpre).2;obtain⟨d,r,rfl,h1,h2⟩:=hasAllW_cons hsh;obtain rfl:=hasAllW_nil h2;obtain⟨xs,rfl,h3⟩:=hasW_list h1;obtain⟨ns,rfl⟩:=items_int h3
 have hlen:ns.length<=n:=by
  have h4:(WTm.not (.lt (.lit (.int n)) (.len (.arg 0)))).holds [] { args:=[.list (ns.map .int)] }=true:=by
   have h4:=(holds_andW hc).1
   grind
  have h5:=condW_of h4 (w_not (w_lt w_lit (w_len_list (w_arg rfl))))
  grind
 cases hwl with
 |cons w1 w2 =>
  cases w2;cases w1 with
  |list ho hall=>exact⟨_,_,ns,rfl,rfl,ho,zah ns _ hall,hlen⟩
theorem zdb(l:OpenLaw)(args):l.row.toRowW.claim.post args (.bool true) args=true :=
 postW_of
  (by rfl)
  (w_eq_bool (w_res rfl) w_lit) rfl
theorem attach_call{l:OpenLaw}
  (hn:l.most=some n) (hdf:d.params.defaults=[])
  (call : ∀ (w ) (s₀ s₁ ) (mg mb ) (fa ) (o ) (pm cd doc ) (a ) (vs ) (ns ),
   Ground q loose [] XP w s₀ mg mb s₁.heap->YP w s₁.heap ->
   s₁.heap.get? fa=some o->o.data=.func (docDef d.name d.params d.body d.scope pm cd doc)->s₁.heap.CodeRec cd d.name->mg d.name=some (.ref fa) ->
   s₁.heap.get? a=some { cls:=.type "list",data:=.seq vs.toArray }->IntsAre vs ns->ns.length<=n->s₁.gens=#[] ->
   codeAny (model l.prog w) callerA (.call (.ref fa) ⟨[.ref a],[]⟩) (λr s'=>r=.ok (.ret (.bool true))/\OldK s₁.heap s'.heap/\s'.os=s₁.os/\AllBare s'.gens) s₁) :
  WalkO q loose XP YP l.row.toRowW d [] (λf vs=>PySem.call f vs):=by
 intro w s₀ s₁ mg mb G Y fa o pm cd doc dV kV ho hd hcd hD hmg hg args vals as hpre hlay hrd hwl hlo;obtain rfl:dV=.none:=Dflts.none hD hdf;obtain rfl:kV=.none:=Dflts.noKw hD;obtain⟨a,vs,ns,rfl,rfl,hobj,hints,hlen⟩:=zd6 hn hpre hwl;refine enter_call (ye2 (call w s₀ s₁ mg mb fa o pm cd doc a vs ns G Y ho (fd_plain hd) hcd hmg hobj hints hlen hg) λr s' hq=>?_)
 obtain⟨rfl,h2,h3,h4⟩:=hq;exact⟨.inl ⟨.bool true,.bool true,[],rfl,λ_=>rfl,.bool true,zdb l _,λ_=>⟨List.Pairwise.nil,λ_ hm=>(nomatch hm)⟩⟩,h2,h3,h4⟩
section
variable {prog:Program}{w:World}{A:Around}{E:Value->Shared->Prop}{s:Shared}{K:Frag}
end
end Att
namespace L2
open PySem PySem.Spec PyProof.Rows
theorem Pz:∀{vs} {ns},IntsAre vs ns->A9 (ns.map V.int) vs
 |_,_,.nil=>.nil
 |_,_,.cons n t h=>.cons ⟨t,rfl⟩ (Pz h)
def La(H:Hp):Prop:=∀b,H b=none\/∃o xs,H b=some (.frz o (.lst xs))
theorem zfn   {K }   {k:Nat}   {x:Str}{sp:Sp}
  (KX:K.In s₁.heap) (hns:s₁.heap.Ns mainGlobals mg) (hb:s₁.heap.Ns builtinsNs mb) (hbb:∀x:Str,x≠"__name__"->mb x=bootBuiltins x) (hlim:s₁.heap.NoLimit) (hg:s₁.gens=#[])
  (ha:s₁.heap.get? a=some { cls:=.type "list",data:=.seq vs.toArray }) (hi:IntsAre vs ns) (hl:ns.length<=sizeLine) (hr:Room k callerA)
  (F:∀base:Heap,K.In base->base.Ns mainGlobals mg->FnOk P w K mg base CX k fa fd [x] sp) (hbind:∀(s:Shared) (u:Value),BindsTo s fd ⟨[u],[]⟩ [(x,u)])
  (hsp:∀H:Hp,La H->Ad K H a (ns.map V.int)->sp [.ref a] H (λv _=>v=.bl true) λ_ _ _=>False)
  (hCX:∀H e s',CX [] H s₁ (λ_ _ _=>False) e s'->False) :
  codeAny (model P w) callerA (.call (.ref fa) ⟨[.ref a],[]⟩) (λr s'=>r=.ok (.ret (.bool true))/\OldK s₁.heap s'.heap/\s'.os=s₁.os/\AllBare s'.gens) s₁:=by
 have rv:=Pz hi;have lenV:=hi.length
 have core:∀H ,La H->Ad K H a (ns.map V.int)->HOk P w H s₁.heap->(∀b,H b≠none->b=a)->(H a≠none->K.lookup a=none) ->
   codeAny (model P w) callerA (.call (.ref fa) ⟨[.ref a],[]⟩) (λr s'=>r=.ok (.ret (.bool true))/\OldK s₁.heap s'.heap/\s'.os=s₁.os/\AllBare s'.gens) s₁:=by
  intro H hO hS hok hA hK;have base_of:∀{b } {o },s₁.heap.get? b=some o->H b=none->(Fv s₁.heap H).get? b=some o:=λe n=>zft e n
  have noA:∀{b } {o } {es } {ep },s₁.heap.get? b=some o->o.data=.dict es ep->H b=none:=λ{b o es ep} e d=>by
   cases q:H b with
   |none=>rfl
   |some u =>
    have e' :=hA b (by rw[q];simp)
    subst e';rw[ha]at e;cases e;have d' :=d;cases d'
  have nsK:∀{b } {m },s₁.heap.Ns b m->(Fv s₁.heap H).Ns b m:=λ{b m} ⟨o,es,ep,e,d,r⟩=>⟨o,es,ep,base_of e (noA e d),d,r⟩
  have hKb :=λb o e=>base_of (KX b o e) (by
   cases q:H b with
   |none=>rfl
   |some u =>
    have e' :=hA b (by rw[q];simp)
    subst e';rw[hK (by rw[q];simp)]at e;cases e)
  have hM:Mod K mg (Fv s₁.heap H):=⟨hKb,nsK hns,⟨mb,nsK hb,hbb⟩,let ⟨mc,h1,h2⟩:=hlim;⟨mc,nsK h1,h2⟩⟩;have e0:Env0 P w K mg (Fv s₁.heap H) callerA [] s₁ H:=⟨rfl,hM,λb o e=>zi0 e,Nat.le_of_eq (zdp _ _),trivial,λb hb=>absurd (show b∈[] from hb) (by simp),hok,.of_eq hg⟩
  refine ye2 ((F _ hKb (nsK hns)).run callerA [] s₁ H ⟨[.ref a],[]⟩ [.ref a] [.ref a] _ _ hr e0 (hbind s₁ (.ref a)) (.cons rfl .nil) (hsp H hO hS)) λr s' h=>?_
  cases r with
  |error e=>exact(hCX H e s' h).elim
  |ok fl =>
   cases fl with
   |next=>exact False.elim h
   |brk=>exact False.elim h
   |cont=>exact False.elim h
   |ret u =>
    obtain⟨v,H',os,bare,un,hok',r',q⟩:=h;have q' :=q;subst q';obtain rfl:u=Value.bool true:=r';refine⟨rfl,OldK.of_keep λb o e=>?_,os,bare⟩
    cases q:H b with
    |none=>exact un.keep b o e q (by intro z;exact absurd (show b∈[] from z) (by simp)) (by simp)
    |some u =>
     rcases hO b with z|⟨ob,xs,z⟩
     .rw[q]at z;cases z
     .have z2:=un.frzs b ob _ z;obtain⟨e1,_⟩:=hok b _ z;obtain⟨e2,_⟩:=hok' b _ z2;rw[e]at e1;cases e1;exact e2
 cases hk:K.lookup a with
 |some o =>
  have e:=KX a o hk;rw[ha]at e;cases e;refine core (λ_=>none) (λ_=>.inl rfl) (.inr ⟨_,vs.toArray,_,hk,rfl,rfl,rfl,by rw[yb8,lenV];exact hl,by simpa using rv⟩) (λb u z=>by have z' :=z;cases z') (λb z=>absurd rfl z) λz=>absurd rfl z
 |none =>
  refine core (λb=>if b=a then some (.frz { cls:=.type "list",data:=.seq vs.toArray } (.lst (ns.map V.int))) else none) (λb=>?_) (.inl (.inr ⟨{ cls:=.type "list",data:=.seq vs.toArray },if_pos rfl⟩)) (λb u z=>?_) (λb z=>?_) λ_=>hk
  .by_cases hb:b=a
   .exact .inr ⟨_,_,if_pos hb⟩
   .exact .inl (if_neg hb)
  .by_cases hb:b=a
   .have z':=(if_pos hb).symm.trans z;cases z';subst hb;exact⟨ha,by rw[ya1];exact hl,vs,_,rv,ha⟩
   .have z':=(if_neg hb).symm.trans z;cases z'
  .by_cases hb:b=a
   .exact hb
   .exact absurd (if_neg hb) z
theorem walk_of{l:PySem.W.OpenLaw}{n k:Nat}     {d:DefRec}{K:Params->k7}{CX:World->Ep}{sp:World->Sp}{x:Str}
  (hn:l.most=some n) (hn2:n<=sizeLine) (hdf:d.params.defaults=[]) (hr:Room k callerA)
  (hY:∀(w:World) (h:Heap),YP w h->(K w.params).In h)
  (F : ∀ (w : World) (mg ) (fa : Addr) (h : Heap), (K w.params).In h -> h.Ns mainGlobals mg -> mg d.name = some (.ref fa) ->
   ∃fd:FuncData,(∀(s:Shared) (u:Value),BindsTo s fd ⟨[u],[]⟩ [(x,u)]) /\
    ∀base:Heap,(K w.params).In base->base.Ns mainGlobals mg->FnOk l.prog w (K w.params) mg base (CX w) k fa fd [x] (sp w))
  (hsp:∀(w:World) (H:Hp) (a:Addr) (ns:List Int),ns.length<=n->La H->Ad (K w.params) H a (ns.map V.int)->sp w [.ref a] H (λv _=>v=.bl true) λ_ _ _=>False)
  (hCX:∀(w:World) (H:Hp) (s:Shared) (e:Value) (s':Shared),CX w [] H s (λ_ _ _=>False) e s'->False) :
  PySem.W.WalkO q loose XP YP l.row.toRowW d [] (λf vs=>PySem.call f vs):=by
 refine Att.attach_call hn hdf λw s₀ s₁ mg mb fa o pm cd doc a vs ns G Y ho hd hcd hmg hobj hints hlen hg=>?_
 have KX:=hY w _ Y;obtain⟨fd,hb,hF⟩:=F w mg fa _ KX G.T.g hmg;exact zfn KX G.T.g G.T.b G.T.builtins G.T.nolimit hg hobj hints (yah hlen hn2) hr hF hb (λH hO hS=>hsp w H a ns hlen hO hS) λH e s'=>hCX w H s₁ e s'
def Fz(s:Stmt):Arguments:=match s with
 |.FunctionDef _ a _ _ _ _ _ _ _ _=>a
 |_=>{ posonlyargs:=[],args:=[],vararg:=none,kwonlyargs:=[],kw_defaults:=[],kwarg:=none,defaults:=[] }
def DM(s:Stmt):List Stmt:=match s with
 |.FunctionDef _ _ b _ _ _ _ _ _ _=>b
 |_=>[]
noncomputable def Bf(s:Stmt):Scope:=match s with
 |.FunctionDef _ _ _ _ _ _ sc _ _ _=>sc
 |_=>{ kind:=.function,names:=[],isGenerator:=false,isCoroutine:=false }
abbrev J6:Ep:=λ_ _ _ _ _ _=>False
abbrev E0:XK:=λ_ _ _=>False
section
variable {P:Program}{w:World}{K:k7}{mg:Str->Option Value}{base:Heap}
end
section
variable {X:Cx}
end
theorem Il{A B:Prop}(h:B):if false=true then A else B:=by
 grind
theorem Ik{A B:Prop}(h:A):if true=true then A else B:=by
 rw[if_pos rfl];exact h
def AY(H H':Hp):Prop:=∀b o,H b=some o->H' b=some o
theorem AY.refl(H:Hp):AY H H:=λ_ _ h=>h
theorem AY.trans(a:AY H H1)(b:AY H1 H2):AY H H2:=λc o h=>b c o (a c o h)
theorem AY.seq{K}(e:AY H H')(h:Ad K H a xs):Ad K H' a xs:=by
 rcases h with (h|⟨o,h⟩)|h
 .exact .inl (.inl (e _ _ h))
 .exact .inl (.inr ⟨o,e _ _ h⟩)
 .exact .inr h
section
variable {κ:Type} [DecidableEq κ]
noncomputable def DQ(kvs:List (κ×V))(k:κ):Option V:=(kvs.find? λkv=>decide (kv.1=k)).map (·.2)
noncomputable def DU(kvs:List (κ×V))(k:κ)(v:V):List (κ×V) :=
 if (kvs.any λkv=>decide (kv.1=k))=true then kvs.map (λkv=>if kv.1=k then (kv.1,v) else kv) else kvs++[(k,v)]
theorem Jf{k:κ}(e:p.1=k):DQ (p::r) k=some p.2:=by simp[DQ,e]
theorem Jg{k:κ}(e:¬ p.1=k):DQ (p::r) k=DQ r k:=by simp[DQ,e]
theorem QB(k:κ):∀kvs ,(kvs.any λkv=>decide (kv.1=k))=(DQ kvs k).isSome
 |[]=>rfl
 |p::r=>by
  rw[List.any_cons]
  by_cases e:p.1=k
  .simp only[Jf e,ye3 e,Bool.true_or,Option.isSome_some]
  .rw[Jg e,ydl e];exact QB k r
theorem Up(kvs)(k:κ)(v):(DU kvs k v).length<=kvs.length+1:=by
 unfold DU
 grind
theorem DN.isSome_eq(r:DN o u):o.isSome=u.isSome:=by
 cases o with
 |none=>cases u with
  |none=>rfl
  |some _=>exact(r).elim
 |some _=>cases u with
  |none=>exact(r).elim
  |some _=>rfl
theorem KV.val   (r:KV kvs vs)(k:κ):DN (DQ kvs k) (valueAt vs k):=by
 induction r with
 |nil=>exact True.intro
 |@cons p q ps qs h t ih =>
  obtain⟨h1,h2⟩:=h
  by_cases e:p.1=k
  .have e' :=h1.symm.trans e;have b:valueAt (q::qs) k=some q.2:=by simp[valueAt,e']
   rw[Jf e,b];exact h2
  .have e':¬ q.1=k:=λz=>e (h1.trans z)
   have b:valueAt (q::qs) k=valueAt qs k:=by simp[valueAt,e']
   rw[Jg e,b];exact ih
theorem KV.any(r:KV kvs vs)(k:κ):(kvs.any λkv=>decide (kv.1=k))=vs.any λkv=>decide (kv.1=k):=by
 induction r with
 |nil=>rfl
 |cons h t ih=>grind
theorem KV.repl(r:KV kvs vs)(k:κ)(ry:A5 y u) :
  KV (kvs.map λkv=>if kv.1=k then (kv.1,y) else kv) (vs.map λkv=>if kv.1=k then (kv.1,u) else kv):=by
 induction r with
 |nil=>exact .nil
 |@cons p q ps qs h t ih =>
  refine .cons ?_ ih
  grind
theorem KV.put(r:KV kvs vs)(k:κ)(ry:A5 y u):KV (DU kvs k y) (stored vs k u):=by
 unfold DU stored;rw[r.any k]
 by_cases e:(vs.any λkv=>decide (kv.1=k))=true
 .rw[if_pos e,if_pos e];exact r.repl k ry
 .rw[if_neg e,if_neg e];exact Paired.snoc r ⟨rfl,ry⟩
theorem KV.length{kvs:List (κ×V)}(r:KV kvs vs):kvs.length=vs.length:=ydb r
end
theorem Np(r:A5 (kV k) u):(Cc P w).is k u=true:=by
 cases k with
 |inl i=>obtain⟨t,e⟩:=(r);subst e;exact zbm P w i t
 |inr x=>obtain⟨t,e⟩:=(r);subst e;exact zbl P w x t
theorem VF:∀{ks} {us},A9 (ks.map kV) us->ItemsAre (Cc P w) ks us
 |[],_,r=>by cases r;exact .nil
 |k::ks,_,r=>by
  cases r with
  |cons h t=>exact .cons (Np h) (VF t)
abbrev KT(H:Hp):List (List Key×V)->List (List Key×Addr×Value)->Prop:=Paired λp q=>p.1=q.1/\H q.2.1=some (.tup (p.1.map kV))/\A5 p.2 q.2.2
theorem KT.val(r:KT H kvs xs)(k):DN (DQ kvs k) ((atKey xs k).map (·.2)):=by
 induction r with
 |nil=>exact True.intro
 |@cons p q ps qs h t ih =>
  obtain⟨h1,_,h2⟩:=h
  by_cases e:p.1=k
  .have e' :=h1.symm.trans e;have b:atKey (q::qs) k=some q.2:=by simp[atKey,e']
   rw[Jf e,b];exact h2
  .have e':¬ q.1=k:=λz=>e (h1.trans z)
   have b:atKey (q::qs) k=atKey qs k:=by simp[atKey,e']
   rw[Jg e,b];exact ih
theorem KT.repl(r:KT H kvs xs)(k)(ry:A5 y u) :
  KT H (kvs.map λkv=>if kv.1=k then (kv.1,y) else kv) (xs.map (putAt k u)):=by
 induction r with
 |nil=>exact .nil
 |@cons p q ps qs h t ih =>
  refine .cons ?_ ih;unfold putAt
  grind
theorem KT.put{H:Hp}(r:KT H kvs xs)(k:List Key){y:V}(hb:H b=some (.tup (k.map kV)))(ry:A5 y u) :
  KT H (DU kvs k y) (storedH xs k b u):=by
 have e:(kvs.any λkv=>decide (kv.1=k))=(atKey xs k).isSome:=by
  rw[QB,(r.val k).isSome_eq,Option.isSome_map]
 unfold DU storedH;rw[e]
 by_cases q:(atKey xs k).isSome=true
 .rw[if_pos q,if_pos q];exact r.repl k ry
 .rw[if_neg q,if_neg q];exact Paired.snoc r ⟨rfl,hb,ry⟩
theorem KT.keeps(r:KT H kvs xs)(ht:∀b ys,H b=some (.tup ys)->H' b=some (.tup ys)):KT H' kvs xs :=
 Paired.mapP r λ_ _ z=>⟨z.1,ht _ _ z.2.1,z.2.2⟩
section
variable {P:Program}{w:World}{H:Hp}{h:Heap}{a:Addr}
theorem Ro{u:HO}(ok:HOk P w H h)(e:Rd H a u):CI P w H h a u:=e.ok ok
theorem W4(ok:HOk P w H h)(e:Rd H a (.dK kvs)):kvs.length<=sizeLine/\(a == sysModules)=false/\∃vs,KV kvs vs/\h.DictOf (Cc P w) a vs :=
 Ro ok e
theorem W5(ok:HOk P w H h)(e:H a=some (.dK kvs)):kvs.length<=sizeLine/\(a == sysModules)=false/\∃vs,KV kvs vs/\h.DictOf (Cc P w) a vs:=W4 ok (.inl e)
theorem Ni  (ok:HOk P w H h)(e:H a=some (.tup (ks.map kV))):(tupleKind (Cc P w)).is h ks a:=by
 obtain⟨_,its,r,o,h1,h2,n,h3⟩:=(ok a _ e);exact⟨o,its.toArray,n,h1,h2,h3,by simpa using VF r⟩
theorem W0(ok:HOk P w H h)(e:Rd H a (.dT kvs)):kvs.length<=sizeLine/\(a == sysModules)=false /\
  ∃xs,KT H kvs xs/\h.DictOfH (tupleKind (Cc P w)) a xs:=by
 obtain⟨z,y,xs,r,o,es,ep,h1,h2,h3,h4,h5⟩:=(Ro ok e);refine⟨z,y,xs,r,o,es,ep,h1,h2,h3,h4,λx hx=>?_,h5⟩
 have all:∀{l } {m },KT H l m->∀x∈m,(tupleKind (Cc P w)).is h x.1 x.2.1:=by
  intro l m q
  induction q with
  |nil=>simp
  |@cons p q ps qs hq t ih =>
   intro x hx
   rcases(yae.mp hx) with e|hx
   .exact Ni ok (by grind)
   grind
 grind
theorem dt_of(ok:HOk P w H h)(e:H a=some (.dT kvs)):kvs.length<=sizeLine/\(a == sysModules)=false /\
  ∃xs,KT H kvs xs/\h.DictOfH (tupleKind (Cc P w)) a xs:=W0 ok (.inl e)
end
def Lg(H:Hp)(a:Addr)(y:V)(r:Option V):Prop :=
 (∃kvs k,Rd H a (.dK kvs)/\y=kV k/\r=DQ kvs k)\/∃kvs k b,Rd H a (.dT kvs)/\y=.ref b/\H b=some (.tup (k.map kV))/\r=DQ kvs k
def Lf(H:Hp)(a:Addr)(y v:V)(H':Hp):Prop :=
 (∃kvs k,H a=some (.dK kvs)/\y=kV k/\kvs.length<sizeLine/\H'=upd H a (.dK (DU kvs k v))) \/
 ∃kvs k b,H a=some (.dT kvs)/\y=.ref b/\H b=some (.tup (k.map kV))/\kvs.length<sizeLine/\H'=upd H a (.dT (DU kvs k v))
theorem Lg.k{k}(e:H a=some (.dK kvs)):Lg H a (kV k) (DQ kvs k):=.inl ⟨kvs,k,.inl e,rfl,rfl⟩
theorem Lf.k{k}(e:H a=some (.dK kvs))(hl:kvs.length<sizeLine):Lf H a (kV k) v (upd H a (.dK (DU kvs k v))):=.inl ⟨kvs,k,e,rfl,hl,rfl⟩
section
variable {X:Cx}{pins:List (Addr×Obj)}{σ:St}{H:Hp}{s:Shared}{a:Addr}{y v:V}{u r:Value}{o:Option V}{A:Around}{E:Value->Shared->Prop}
theorem Inv.big(I:Inv X pins σ H s):sysModules<s.heap.objs.size:=by
 have h :=(I.mod.glob.keeps I.bk).lt;exact yd0 (by decide) h
theorem ze1  (hu:A.units+1<cLine)(I:Inv X pins σ H s)(g:Lg H a y (some v))(ry:A5 y u)(h:∀w' s',Inv X pins σ H s'->A5 v w'->Q w' s') :
  wpAny (model X.prog X.w) A (getItem (.ref a) u) Q E s:=by
 rcases g with ⟨kvs,k,e,ey,l⟩|⟨kvs,k,b,e,ey,eb,l⟩
 .subst ey;obtain⟨z,hd,vs,rel,dd⟩:=W4 I.hok e;obtain⟨w',hw,rw'⟩:=DN.some_of (by rw[l];exact rel.val k)
  exact wpAny_getItem_of (Np ry) dd.mapOf hw (h w' _ (I.tok _) rw')
 .subst ey;cases (ry);obtain⟨z,hd,xs,rel,dd⟩:=W0 I.hok e;obtain⟨w',hw,rw'⟩:=DN.some_of (by rw[l];exact rel.val k)
  obtain⟨p,hp,hp2⟩:=yaa.mp hw;refine wpAny_getItem_heap (tupleKind_room_in1 hu) (Ni I.hok eb) dd hp ?_;rw[hp2];exact h w' _ (I.tok _) rw'
theorem Wa    (I:Inv X pins σ H s)(mu:J3 (H a))(hs:Heap.SameBut a s.heap h')(he:∃q,h'.get? a=some q)(new:CI X.prog X.w (upd H a ob) h' a ob) :
  Inv X pins σ (upd H a ob) { s with heap:=h',toks:=t' } :=
 I.write mu (.inl rfl) (λb q hb z=>(hs.2 b hb).trans z) he new
theorem zmk(z:kvs.length<=sizeLine)(hd:(a == sysModules)=false)(rel:KV kvs vs)(dd:h'.DictOf (Cc P w) a vs) :
  CI P w H' h' a (.dK kvs):=⟨z,hd,vs,rel,dd⟩
theorem ze0   (hu:A.units+1<cLine)(I:Inv X pins σ H s)(g:Lf H a y v H')(ry:A5 y u)(rv:A5 v r)(h:∀s',Inv X pins σ H' s'->Q () s') :
  wpAny (model X.prog X.w) A (setItem (.ref a) u r) Q E s:=by
 rcases g with ⟨kvs,k,e,ey,l,eH⟩|⟨kvs,k,b,e,ey,eb,l,eH⟩
 .subst ey eH;obtain⟨z,hd,vs,rel,dd⟩:=W5 I.hok e;have hz:vs.length<=sizeLine:=by rw[<- rel.length];exact z
  have hl:(DU kvs k v).length<=sizeLine:=by have:=Up kvs k v;omega
  refine wpAny_setItem_pairs (Np ry) dd λh' dd' hs=>h _ ?_
  have he:∃q,h'.get? a=some q:=let ⟨q,_,_,hq,_⟩:=dd';⟨q,hq⟩;exact Wa I (by rw[e];exact True.intro) hs he (zmk hl hd (rel.put k rv) dd')
 .subst ey eH;cases (ry);obtain⟨z,hd,xs,rel,dd⟩:=dt_of I.hok e;have hz:xs.length<=sizeLine:=by rw[<- ydb rel];exact z
  have hl:(DU kvs k v).length<=sizeLine:=by have:=Up kvs k v;omega
  refine wpAny_setItem_heap (tupleKind_room_in1 hu) (Ni I.hok eb) dd λh' dd' hs=>h _ ?_
  obtain⟨q,es,ep,hq,h2,h3,h4,_,h5⟩:=dd';refine Wa I (by rw[e];exact True.intro) hs ⟨q,hq⟩ ⟨hl,hd,_,(rel.put k eb rv).keeps λc ys ec=>?_,q,es,ep,hq,h2,h3,h4,h5⟩
  rw[A3 (ne_of ec e (λz=>nomatch z))]
  exact ec
end
section
variable {X:Cx}{pins:List (Addr×Obj)}{σ:St}{H:Hp}{s:Shared}{a:Addr}{kvs:List (Key×V)}{k:Key}{u:Value}{A:Around}{E:Value->Shared->Prop}
end
section
variable {X:Cx}{o i e value:Expr}{pos pos' tpos:Pos}{td ty tv:TE}
end
theorem zg7(h:Heap)(hb:sysModules<h.objs.size):CI P w H (h.push { cls:=.type "dict",data:=.dict #[]}) h.objs.size (.dK []) :=
 ⟨ycj _,beq_eq_false_iff_ne.mpr (yar (yaf hb)),[],.nil,Heap.DictOf.new h⟩
section
variable {X:Cx}{pos:Pos}
end
section
variable {X:Cx}{pins:List (Addr×Obj)}{σ:St}{H:Hp}{s:Shared}{a:Addr}{y d:V}{u r:Value}{o:Option V}{A:Around}{E:Value->Shared->Prop}
end
section
variable {X:Cx}{o e f:Expr}{apos cpos:Pos}{td ty tx:TE}
end
section
variable {X:Cx}{pins:List (Addr×Obj)}{σ:St}{H:Hp}{s:Shared}{a:Addr}{kvs:List (Key×V)}{A:Around}{E:Value->Shared->Prop}
end
section
variable {X:Cx}{pins:List (Addr×Obj)}{σ:St}{H:Hp}{s:Shared}{a:Addr}{y:V}{u:Value}{A:Around}{E:Value->Shared->Prop}
end
end L2
namespace Zm
theorem zg2(a b):Int.gcd b (a.fmod b)=Int.gcd a b:=by
 rw[Int.fmod_def,Int.gcd_comm a b];simp
theorem fmod_less(a:Int)(h:b≠0):(a.fmod b).natAbs<b.natAbs:=by
 rcases Int.lt_or_gt_of_ne h with hb|hb
 .have e:a.fmod b=-((-a).fmod (-b)):=by simp
  have h1:=yaj (-a) (show 0 < -b by omega)
  have h2:=yb5 (-a) (show 0 < -b by omega)
  omega
 .have h1:=yaj a hb;have h2:=yb5 a hb
  omega
noncomputable def gd(a b:Int):Int:=(Int.gcd a b:Nat)
theorem gd_end(hg:gd a b=gd a0 b0)(hb:b=0):(if a<0 then -a else a)=gd a0 b0:=by
 subst hb;rw[<- hg];unfold gd;rw[Int.gcd_zero_right]
 omega
theorem gd_turn(hg:gd a b=gd a0 b0):gd b (a.fmod b)=gd a0 b0:=by
 rw[<- hg];unfold gd;rw[zg2]
theorem gd_abs(a b):gd (if a<0 then -a else a) (if b<0 then -b else b)=gd a b:=by
 unfold gd
 have e1:Int.gcd (if a<0 then -a else a) (if b<0 then -b else b)=Int.gcd a b:=by
  split<;>split<;>simp[Int.gcd_neg]
 rw[e1]
theorem gd_pos{a b:Int}(h:b≠0):0<gd a b:=by
 unfold gd
 simp_all
theorem gd_le(h:0<b):gd a b<=b:=by
 exact Int.le_of_dvd h (Int.gcd_dvd_right a b)
def lt(t b:Int):Int:=t.fdiv (gd t b)
def lb(t b:Int):Int:=b.fdiv (gd t b)
theorem WO{x g:Int}(hg:g≠0)(h:g ∣ x):x.fdiv g * g=x:=by
 rw[yd4];exact Int.mul_fdiv_cancel' h
theorem lt_mul(h:b≠0):lt t b * gd t b=t:=by
 exact WO (by have:=gd_pos (a:=t) h;omega) (Int.gcd_dvd_left t b)
theorem lb_mul(h:b≠0):lb t b * gd t b=b:=by
 exact WO (by have:=gd_pos (a:=t) h;omega) (Int.gcd_dvd_right t b)
theorem lb_pos(h:0<b):0<lb t b:=by
 have h1:=lb_mul (t:=t) (show b≠0 by omega)
 have h2:=gd_pos (a:=t) (show b≠0 by omega)
 rcases Int.lt_or_le 0 (lb t b) with q|q
 .exact q
 .have:=Int.mul_nonpos_of_nonpos_of_nonneg q (Int.le_of_lt h2)
  omega
theorem zcz{x g:Int}(h:0<g):x.natAbs<=(x * g).natAbs:=by
 rw[Int.natAbs_mul];exact Nat.le_mul_of_pos_right _ (by omega)
theorem lb_le(h:0<b):lb t b<=b:=by
 have h1:=lb_mul (t:=t) (show b≠0 by omega)
 have h2:=zcz (x:=lb t b) (gd_pos (a:=t) (show b≠0 by omega))
 grind
theorem gd_low(h:b≠0):gd (lt t b) (lb t b)=1:=by
 have hp:=gd_pos (a:=t) h;unfold lt lb gd;have hp':0<Int.gcd t b:=by simp_all
 have e:=Int.gcd_ediv_gcd_ediv_gcd hp'
 grind
theorem cross{t b g T B:Int}(hg:0<g)(ht:T * g=t)(hb:B * g=b):T * b=t * B:=by
 grind
end Zm
namespace Zw
open PySem PySem.Spec PyProof.Rows L2
def Sm(i:Int):Prop:=-(10 ^ 70)<i/\i<10 ^ 70
theorem Sm.nat{i:Int}(h:Sm i):i.natAbs<10 ^ 70:=by
 unfold Sm at h
 omega
theorem zku:10 ^ 70<=2 ^ 300:=by decide +kernel
theorem Sm.log(h:Sm i):i.natAbs.log2<300:=by
 by_cases z:i.natAbs=0
 .simp_all
 .exact(Nat.log2_lt z).mpr (yad h.nat zku)
theorem Sm.bits(h:Sm i):Builtin.Int.intBits i<=2 ^ 20:=by
 have q:=h.log;unfold Builtin.Int.intBits
 grind
section
variable {X:Cx}
theorem zhs:Af X (binaryOp .Mult) (rI (λi j=>Sm i/\Sm j) λi j=>.int (i * j)):=IY λ_ _ _ _ _ _ _ hc q=>mul_int q (.of_bits hc.1.bits hc.2.bits)
theorem zf8:Af X (binaryOp .FloorDiv) (rI (λ_ j=>j≠0/\Sm j) λi j=>.int (i.fdiv j)) :=
 IY λ_ _ _ _ _ _ _ hc q=>floordiv_int hc.1 q (.inl (PyProof.noPylong_of_log2 (yd0 hc.2.log (by decide))))
theorem VH(r:A5 x v):PySem.plainIs v (.bool b)=true/\(v == Value.bool b)=decide (x=V.bl b):=by
 cases x with
 |non=>cases r;exact⟨rfl,by simp⟩
 |bl c=>cases r;exact⟨rfl,by grind⟩
 |int i=>obtain⟨t,rfl⟩:=r;exact⟨rfl,by simp⟩
 |str i=>obtain⟨t,rfl⟩:=r;exact⟨rfl,by simp⟩
 |byt i=>obtain⟨t,rfl⟩:=r;exact⟨rfl,by simp⟩
 |flt i=>obtain⟨t,rfl⟩:=r;exact⟨rfl,by simp⟩
 |ref i=>cases r;exact⟨rfl,by simp⟩
 |ty i=>cases r;exact⟨rfl,by simp⟩
theorem zlb:Af X (compareOp .Is) (λx y H Q=>∃b,y=.bl b/\Q (.bl (decide (x=.bl b))) H):=by
 intro pins s σ H x y v u Q I rx ry h;obtain⟨b,rfl,q⟩:=h;cases ry;obtain⟨e1,e2⟩:=VH rx;exact wpAny_is_plain e1 (JC I q e2.symm)
theorem zhr:Af X (compareOp .IsNot) (λx y H Q=>∃b,y=.bl b/\Q (.bl (!decide (x=.bl b))) H):=by
 intro pins s σ H x y v u Q I rx ry h;obtain⟨b,rfl,q⟩:=h;cases ry;obtain⟨e1,e2⟩:=VH rx;exact wpAny_isNot_plain e1 (JC I q (by rw[e2]))
theorem zgi :CJ X (.builtin "isinstance") (λxs H Q=>∃x t b,xs=[x,.ty c]/\TyOf X.K H x t/\PySem.W.kitOne X.K t (.type c)=some b/\Q (.bl b) H):=by
 intro pins s σ H xs us Q I r h;obtain⟨x,t,b,rfl,ty,e,q⟩:=h;obtain⟨u,w',rfl,rx,ry⟩:=Gq r;cases ry;exact Nu I rx ty e λtk=>⟨.bl b,H,I.tok _,rfl,q⟩
end
section
variable {X:Cx}
end
section
variable {X:Cx}{pos:Pos}
end
section
variable {X:Cx}
end
theorem zbo:PySem.W.kitMeta "int"=true:=by decide +kernel
theorem zb8:PySem.W.kitMeta "bool"=true:=by decide +kernel
theorem zb0:PySem.W.kitMeta "tuple"=true:=by decide +kernel
theorem zfp(K)(c):PySem.W.kitOne K (.type c) (.type c)=some true:=by
 unfold PySem.W.kitOne;simp
theorem zm0(K){l:List Value}(h:t≠c)(hm:PySem.W.kitMeta c=true)(hl:(fastBuiltinMro t).map (·.contains (Value.type c))=some b):PySem.W.kitOne K (.type t) (.type c)=some b:=by
 unfold PySem.W.kitOne;rw[if_neg (by simpa using h)]
 show(if PySem.W.kitMeta c=true then PySem.W.subIn K (.type t) (.type c) else none)=some b
 rw[if_pos hm];exact hl
set_option genInjectivity false in
structure FunD(K:k7)(x qual:Str)(st:Stmt)(f:Addr)(fd:FuncData):Prop where
 ex:∃(oc:Value) (od:Option Addr) (dV kV doc pm:Value) (an:Option Addr) (cdv ct:Value) (osl:Array (Option Value)),
  fd=PySem.W.fnOf x qual (Fz st) (DM st) (Bf st) dV kV doc pm an cdv ct/\K.lookup f=some ⟨oc,od,.func fd,osl⟩/\PySem.W.codeIn K cdv qual=true
 kp:PySem.W.keepIn K (.ref f)=true
theorem Cz{K}{st}{dV kV doc pm cdv ct}(l:K.lookup f=some ⟨oc,od,.func (PySem.W.fnOf x qual (Fz st) (DM st) (Bf st) dV kV doc pm an cdv ct),osl⟩)
  (c:PySem.W.codeIn K cdv qual=true) (k:PySem.W.keepIn K (.ref f)=true):FunD K x qual st f (PySem.W.fnOf x qual (Fz st) (DM st) (Bf st) dV kV doc pm an cdv ct):=⟨⟨oc,od,dV,kV,doc,pm,an,cdv,ct,osl,rfl,l,c⟩,k⟩
set_option genInjectivity false in
structure Tx(K:k7)(mg:Str->Option Value)(x:Str)(st:Stmt)(ps:List Str) where
 f:Addr
 fd:FuncData
 F:FunD K x x st f fd
 m:mg x=some (.ref f)
 b:Ci K fd ps []
section
variable {X:Cx}{k j:Nat}{x:Str}{ps:List Str}{sp:Sp}{p pos:Pos}{e:Expr}{es:List Expr}{t:TA}
end
theorem Jw(h:H p=none)(o):AY H (upd H p o):=λb u q=>by
 rw[A3 (B0 q h)];exact q
noncomputable def zmo(X:Cx)(scope:Scope)(cl:List (Str×Addr))(N':List Str)(C:Addr)(s₀:Shared)(H₀:Hp)(ex:List Addr):Cx :=
 { X with N:=N',s₀:=s₀,H₀:=H₀,env:=compEnvC scope cl C X.env,outer:=X.stack,ex:=ex,fn:=λ_=>false,xe:=λ_ _=>False }
theorem HOk.adopt(x:HOk P w H h)(hn:H a=none)(new:CI P w (upd H a o) h a o):HOk P w (upd H a o) h:=λb u e=>by
 by_cases hb:b=a
 .subst hb;rw[BQ]at e
  grind
 .rw[A3 hb]at e;exact(x b u e).stay (λc v _ q=>q) (λc q=>by rw[A3 (B0 q hn)];exact q) λc xs q=>by rw[A3 (B0 q hn)];exact q
section
variable {X:Cx}{elt iter tg:Expr}{scope:Scope}{pos:Pos}{cl:List (Str×Addr)}{N':List Str}{wi:TI}{g:TG}{te:TE}
end
end Zw
namespace Zx
open PySem PySem.Spec PyProof.Rows L2 Zw
def LJ(h B:Heap)(a:Addr)(cls:Value×Option Addr)(fl:Value):Prop :=
 ∃oe vs T oT ts,h.get? a=some oe/\((oe.cls,oe.dict)=cls/\vs[2]?=some .none)/\oe.data=.fields vs/\vs[1]?=some (.ref T)/\B.get? T=none/\T≠a/\h.get? T=some oT/\oT.data=.fields ts/\ts[3]?=some fl
def E1(B:Heap)(l:List Env)(a:Addr)(cls:Value×Option Addr)(h:Heap):Prop:=B.StaysIn h/\B.get? a=none/\h.FunFrames B l/\LJ h B a cls .none
def Ph(B:Heap)(l:List Env)(a:Addr)(cls:Value×Option Addr)(L:Addr)(h:Heap):Prop:=B.StaysIn h/\B.get? a=none/\h.FunFrames B l/\LJ h B a cls (rawInt L)
theorem E1.first(x:E1 B l a cls h):∃oe vs,h.get? a=some oe/\(oe.cls,oe.dict)=cls/\oe.data=.fields vs/\vs[2]?=some .none :=
 let ⟨_,_,_,oe,vs,_,_,_,he,hc,hd,_⟩:=x;⟨oe,vs,he,hc.1,hd,hc.2⟩
theorem E1.there(x:E1 B l a cls h):∃ob,h.get? a=some ob/\ob.cls=cls.1 :=
 let ⟨oe,_,he,hc,_⟩:=x.first;⟨oe,he,congrArg Prod.fst hc⟩
theorem zdi(f)(o):((Obj.mapFields f o).cls,(Obj.mapFields f o).dict)=(o.cls,o.dict):=by
 unfold Obj.mapFields;split<;>rfl
section
variable {M:Model}{A:Around}{E:Value->Shared->Prop}{s:Shared}{B:Heap}{env v:Env}{l:List Env}{L a:Addr}{cls:Value×Option Addr}{Q:Unit->Shared->Prop}
theorem WV     (hfr:A.frames=some (v::l))(hl:s.heap.FunFrames B (v::l))(hL:v.frame=some L)(he:s.heap.get? a=some oe)(hk:B.StaysIn s.heap)(ha:B.get? a=none)
  (hd:oe.data=.fields vs) (hsz:1<vs.size) (h2:vs[2]?=some .none) (h:∀h',Ph B (v::l) a (oe.cls,oe.dict) L h'->s.heap.UpToSlots h'->Q () { s with heap:=h' }) :
  wpAny M A (do let f <- frameOf v;let pl <- entryPlaceOf L hn;let b <- EntryCells.newEntry head f .none (rawInt L) .none pl;setField (.ref a) 1 b) Q E s:=by
 have nof:a∉(v::l).filterMap (·.frame):=λz=>by
  obtain⟨_,o,ho,n⟩:=hl.mem z;rw[he]at ho;cases ho;exact n vs hd
 refine ydq (wpAny_frameOf_fun hfr hl hL λh1 k1=>?_)
 refine ydq (wpAny_entryPlaceOf λpl hpl=>?_)
 unfold EntryCells.newEntry newFields;refine ydq (ydu ?_ (hpl.sizeOk5 _ _ _ _ _));have e1 :=(k1.2.1 a nof).trans he;have b1:B.StaysIn h1:=λb o q=>(k1.2.1 b λz=>by rw[(hl.mem z).1]at q;cases q).trans (hk b o q)
 have ne :=ydj (ya7 e1);refine ye4 (ya2 _ e1) hd hsz ?_;have hd3:=ycm hd (·.setIfInBounds 1 (Value.ref h1.objs.size));have kp:∀nw b o,b≠a->h1.get? b=some o->((h1.push nw).update a (Obj.mapFields (·.setIfInBounds 1 (Value.ref h1.objs.size)))).get? b=some o:=λnw b o n q=>(yb6 _ _ (yar n)).trans (ya2 _ q)
 have nr:∀b o,s.heap.get? b=some o->(∀ws,o.data≠.fields ws)->b≠a:=λb o q n z=>by
  rw[z,he]at q;cases q;exact n vs hd
 have sm:∀nw,s.heap.UpToSlots ((h1.push nw).update a (Obj.mapFields (·.setIfInBounds 1 (Value.ref h1.objs.size)))):=λnw b o q n=>by
  obtain⟨sl,q1⟩:=k1.2.2 b o q;exact⟨sl,kp nw b _ (nr b o q n) q1⟩
 refine h _ ⟨λb o q=>kp _ b o (λz=>by rw[z,ha]at q;cases q) (b1 b o q),ha,hl.of_keeps λb o q n=>?_,_,_,h1.objs.size,_,_,ybv _ (ya2 _ e1) (ycy hd3),⟨by rw[zdi],?_⟩,hd3,by simp[hsz],b1.fresh,ne,
  (yb6 _ _ (yar ne)).trans (yai h1 rfl),rfl,?_⟩ (sm _)
 .obtain⟨sl,q1⟩:=sm _ b o q n;exact⟨_,q1,rfl⟩
 .rw[Array.getElem?_setIfInBounds_ne (by decide)]
  exact h2
 .first|(simp;done)|(rcases hpl with rfl|⟨_,_,_,_,_,_,_,rfl⟩<;>simp)
theorem WK  (hk:B.StaysIn s.heap)(ha:B.get? a=none)(hl:s.heap.FunFrames B l)(ht:LJ s.heap B a cls fl)(h:∀h',E1 B l a cls h'->s.heap.UpToSlots h'->Q () { s with heap:=h' }):wpAny M A (setFlight (.ref a) none) Q E s:=by
 obtain⟨oe,vs,T,oT,ts,he,hc,hd,g1,nT,Tne,hT,dT,g3⟩:=ht;have s3 :=(ybh.mp g3).1;have oth:∀b,b≠T->(s.heap.update T (Obj.mapFields (·.setIfInBounds 3 (none.elim Value.none λf=>rawInt f)))).get? b=s.heap.get? b:=λb hb=>yb6 _ _ (yar hb)
 have nr:∀b o,s.heap.get? b=some o->(∀ws,o.data≠.fields ws)->b≠T:=λb o q n z=>by
  grind
 refine ydq (ye5 he hd g1 ?_)
 exact ye4 hT dT s3 (h _ ⟨λb o q=>(oth b λz=>by grind).trans (hk b o q),ha,hl.of_keeps λb o q n=>⟨o,(oth b (nr b o q n)).trans q,rfl⟩,
  oe,vs,T,_,_,(oth a (yar Tne)).trans he,hc,hd,g1,nT,Tne,ybv _ hT (ycy (ycm dT _)),ycm dT _,by simp[s3]⟩ λb o q n=>⟨o.slots,(oth b (nr b o q n)).trans q⟩)
theorem Nf(hh:Ph B l a cls L s.heap)(hQ:∀h',E1 B l a cls h'->s.heap.UpToSlots h'->Q () { s with heap:=h' }):wpAny M A (setFlight (.ref a) none) Q E s :=
 WK hh.1 hh.2.1 hh.2.2.1 hh.2.2.2 hQ
theorem zmv(hh:E1 B l a cls s.heap)(hQ:∀h',E1 B l a cls h'->s.heap.UpToSlots h'->Q () { s with heap:=h' }):wpAny M A (setFlight (.ref a) none) Q E s :=
 WK hh.1 hh.2.1 hh.2.2.1 hh.2.2.2 hQ
structure MadeO(h h':Heap)(a:Addr)(cls:Value×Option Addr):Prop where
 keeps:∀b o,h.get? b=some o->h'.get? b=some o
 new:h.get? a=none
 there:∃oe t,h'.get? a=some oe/\(oe.cls,oe.dict)=cls/\oe.data=.fields #[.ref t,.none,.none,.none,.bool false,.none]
theorem madeO(hx:Heap.MadeExcOf h h' a c args):MadeO h h' a (c,none) :=
 ⟨hx.keeps,hx.new,let ⟨t,he,_,_⟩:=hx.there;⟨_,t,he,rfl,rfl⟩⟩
theorem U9  (hfr:A.frames=some (v::l))(hL:v.frame=some L)(hk:B.StaysIn h)(hl:h.FunFrames B (v::l))(hx:MadeO h s.heap a cls)
  (hQ:∀h',E1 B l a cls h'->s.heap.UpToSlots h'->Q () { s with heap:=h' }):wpAny M A (leaving v (.ref a)) Q E s:=by
 obtain⟨oe,t,he,rfl,hd⟩:=hx.there
 have fr:B.get? a=none:=by
  cases q:B.get? a with
  |none=>rfl
  |some o =>
   have:=hk a o q;rw[hx.new]at this;cases this
 unfold leaving noteFrame;simp only[hL];refine ydq (ydq (ye5 he hd rfl ?_));refine WV hfr (hl.of_keeps λb o q _=>⟨o,hx.keeps b o q,rfl⟩) hL he (λb o q=>hx.keeps b o (hk b o q)) fr hd (by simp) rfl λh1 k1 sm=>Nf k1 λh2 k2 sm2=>?_
 obtain⟨k1,k2,⟨_,_,k3⟩,k4⟩:=k2;exact hQ h2 ⟨k1,k2,k3,k4⟩ (sm.trans sm2)
end
def Le(B:Heap)(l:List Env)(a:Addr)(cls:Value×Option Addr)(h:Heap):Prop:=∃fl,B.StaysIn h/\B.get? a=none/\h.FunFrames B l/\LJ h B a cls fl
theorem OV(x:E1 B l a cls h):Le B l a cls h:=⟨.none,x⟩
section
variable {M:Model}{A:Around}{E:Value->Shared->Prop}{s:Shared}{B:Heap}{env v:Env}{l:List Env}{L a:Addr}{cls:Value×Option Addr}{Q:Unit->Shared->Prop}
theorem Mp(hfr:A.frames=some (v::l))(hv:env.frame=v.frame)(hL:v.frame=some L)(hx:Le B (v::l) a cls s.heap)(hQ:∀h',Ph B (v::l) a cls L h'->s.heap.UpToSlots h'->Q () { s with heap:=h' }):wpAny M A (noteFrame (.ref a) env) Q E s:=by
 have en:noteFrame (.ref a) env=noteFrame (.ref a) v:=by
  unfold noteFrame PySem.frameOf;rw[hv]
 rw[en];obtain⟨fl,f1,f2,f3,f4⟩:=hx
 by_cases hfl:fl=rawInt L
 .subst hfl;obtain⟨oe,ws,Tb,oT,ts,ha,_,hd,g1,_,_,hT,dT,g3⟩:=id f4;unfold noteFrame;simp only[hL];refine ydq (ye5 ha hd g1 ?_);rw[if_pos (by simp)]
  refine ydq (ye5 hT dT g3 ?_);rw[if_pos (by simp)]
  exact ydt (hQ _ ⟨f1,f2,f3,f4⟩ (.refl _))
 .obtain⟨oe,ws,Tb,oT,ts,ha,⟨rfl,g0⟩,hd,g1,nT,Tne,hT,dT,g3⟩:=f4;have g3s:=(ybh.mp g3).1;have oth:∀b,b≠Tb->(s.heap.update Tb (Obj.mapFields (·.setIfInBounds 3 Value.none))).get? b=s.heap.get? b:=λb hb=>yb6 _ _ (yar hb)
  have nr:∀b o,s.heap.get? b=some o->(∀us,o.data≠.fields us)->b≠Tb:=λb o hb hn z=>by
   rw[z,hT]at hb;cases hb;exact hn ts dT
  unfold noteFrame;simp only[hL];refine ydq (ye5 ha hd g1 ?_);rw[if_pos (by simp)]
  refine ydq (ye5 hT dT g3 ?_);rw[if_neg (λz=>hfl (beq_iff_eq.mp z))]
  refine ydq (ye4 hT dT g3s ?_);refine WV hfr (f3.of_keeps λb o hb hn=>⟨o,(oth b (nr b o hb hn)).trans hb,rfl⟩) hL ((oth a (yar Tne)).trans ha) (λb o hb=>(oth b λz=>by rw[z,nT]at hb;cases hb).trans (f1 b o hb)) f2 hd (ybh.mp g1).1 g0 λh' k k4=>?_
  exact hQ h' k λb o hb hn=>k4 b o ((oth b (nr b o hb hn)).trans hb) hn
theorem leavX(hfr:A.frames=some (v::l))(hL:v.frame=some L)(hx:Le B (v::l) a cls s.heap)(hQ:∀h',E1 B l a cls h'->s.heap.UpToSlots h'->Q () { s with heap:=h' }):wpAny M A (leaving v (.ref a)) Q E s:=by
 refine ydq (Mp hfr rfl hL hx λh1 hh sm1=>Nf hh λh2 hf sm2=>?_)
 obtain⟨k1,k2,⟨_,_,k3⟩,k4⟩:=hf;exact hQ h2 ⟨k1,k2,k3,k4⟩ (sm1.trans sm2)
end
def BH(P:Program)(w:World):Ep:=λouter H s E e s'=>∃(a:Addr) (cls:Value×Option Addr) (H':Hp) (B:Heap),
 e=.ref a/\s'.os=s.os/\AllBare s'.gens/\Un (Aw outer) [] H H' s.heap s'.heap/\HOk P w H' B/\(∀b o,s.heap.get? b=some o->H b=none->b∉Aw outer->B.get? b=some o) /\
 (∀b o,s.heap.get? b=some o->b∉Aw outer->∃o',B.get? b=some o')/\Le B outer a cls s'.heap/\E cls.1 cls.2 H'
theorem zel       (x:CI P w H h a o):∃ob,h.get? a=some ob:=by
 cases o with
 |lst xs=>obtain⟨_,_,_,_,e⟩:=x;grind
 |tup xs=>obtain⟨_,_,_,o',e,_⟩:=x;grind
 |dK kvs=>obtain⟨_,_,_,_,o',_,_,e,_⟩:=x;grind
 |dT kvs=>obtain⟨_,_,_,_,o',_,_,e,_⟩:=x;grind
 |set S n=>obtain⟨o',_,_,_,e,_⟩:=x;grind
 |ins C dx fs=>obtain⟨_,_,_,e,_⟩:=x;grind
 |own y=>exact x
 |xd fs=>obtain⟨_,⟨o',_,_,e,_⟩,_⟩:=x;grind
 |rng lo hi=>obtain⟨_,_,_,e⟩:=x;grind
 |frz ob u=>obtain⟨e,_⟩:=x;exact⟨_,e⟩
 |tbl ps=>exact⟨_,(x)⟩
 |met f y=>exact⟨_,(x)⟩
 |ext φ=>obtain⟨_,e,_⟩:=x;exact e
theorem none_of(x:HOk P w H h)(e:h.get? a=none):H a=none:=by
 cases q:H a with
 |none=>rfl
 |some u =>
  obtain⟨ob,z⟩:=zel (x a u q)
  grind
theorem XZ       (x:HOk P w H h)(hn:H a=none)(new:CI P w (upd H a o) h a o):HOk P w (upd H a o) h:=λb u e=>by
 by_cases hb:b=a
 .subst hb;have e':=BQ.symm.trans e
  grind
 .have e':=(A3 hb).symm.trans e;exact(x b u e').stay (λc v _ q=>q) (λc q=>(A3 (B0 q hn)).trans q) λc xs q=>(A3 (B0 q hn)).trans q
def BB(X:Cx)(E:L2.St->XK):Prop:=∀(pins:List (Addr×Obj)) (σ:L2.St) (H:Hp) (s:Shared) (e:Value) (s':Shared),Inv X pins σ H s->BH X.prog X.w X.stack H s (E σ) e s'->X.xe e s'
def Pc(X:Cx)(E:L2.St->XK):Prop:=∀(pins:List (Addr×Obj)) (σ:L2.St) (H:Hp) (s:Shared) (a:Addr) (cls:Value) (vs:List Value) (h':Heap),Inv X pins σ H s->Heap.MadeExcOf s.heap h' a cls vs->E σ cls none H->X.xe (.ref a) { s with heap:=h' }
section
variable {X:Cx}{pins:List (Addr×Obj)}{σ:L2.St}{H:Hp}{s:Shared}
theorem HL(I:Inv X pins σ H s)(e:X.s₀.heap.get? b=some o)(hb:b∉Aw X.outer):b∉Aw X.stack:=λz=>by
 rcases yae.mp (I.stkSub b z) with q|q
 .exact absurd (yad (ya7 e) I.ok.above) (by grind)
 .exact hb q
theorem zd3(hst:X.stack=X.env::X.outer)(hb:b∈Aw X.outer):b∈Aw X.stack:=by
 rw[hst];obtain⟨v,h1,h2⟩:=ybt.mp hb;exact ybt.mpr ⟨v,ya8 _ h1,h2⟩
theorem zme(I:Inv X pins σ H s):HOk X.prog X.w H (PySem.W.hideAll s.heap (Aw X.stack)):=λb u e=>(I.hok b u e).stay (λc v hc q=>yb9 _ q λz=>by
  have f:=I.stkFree c z
  grind) (λ_ q=>q) λ_ _ q=>q
theorem zib(hst:X.stack=X.env::X.outer)(hf:X.env.frame=some X.env.locals)(hex:X.ex=[])       (I:Inv X pins σ H s)(hx:Heap.MadeExcOf s.heap h' a cls vs)(he:E cls none H) :
  wpAny (model X.prog X.w) X.A (leaving X.env (.ref a)) (λ_ s2=>BH X.prog X.w X.outer X.H₀ X.s₀ E (.ref a) s2) Ex { s with heap:=h' }:=by
 have nex:∀b ,b∉X.ex:=λb z=>by grind
 have hfr :=hst▸I.ok.frames
 have FF:s.heap.FunFrames (PySem.W.hideAll s.heap (Aw X.stack)) (X.env::X.outer):=by
  rw[<- hst];exact PySem.W.funFrames_hide I.stack λv hv b hb=>ybt.mpr ⟨v,hv,hb⟩
 refine U9 hfr hf (λb o q=>ybj _ q) FF (madeO hx) λh2 fl sm=>?_
 have kB :=λb o e n hb=>yb9 _ (I.base.keep b o e n hb (nex b)) (HL I e hb)
 have tB:∀b o,X.s₀.heap.get? b=some o->b∉Aw X.outer->∃o',(PySem.W.hideAll s.heap (Aw X.stack)).get? b=some o':=λb o e hb=>by
  obtain⟨o',e'⟩:=I.base.there b o e (nex b);exact⟨o',yb9 _ e' (HL I e hb)⟩
 have sl:∀b o,X.s₀.heap.get? b=some o->X.H₀ b=none->b∈Aw X.outer->∃z,h2.get? b=some { o with slots:=z }:=λb o e n hb=>by
  obtain⟨z,e1⟩:=I.base.slot b o e n hb (nex b);obtain⟨_,o2,ho2,hd⟩:=I.funs.mem hb;rw[e1]at ho2;cases ho2;obtain⟨z3,e3⟩:=sm b { o with slots:=z } (hx.keeps b _ e1) hd
  exact⟨z3,e3⟩
 refine⟨a,(cls,none),H,_,rfl,I.os,I.bare,⟨λb o e n hb _=>fl.1 b o (kB b o e n hb),λb o e n hb _=>sl b o e n hb,λb o e n _=>I.base.free b o e n (nex b),λb o e _=>?_,I.base.tups,I.base.frzs,I.base.tbls⟩,zme I,kB,tB,OV fl,he⟩
 by_cases hb:b∈Aw X.outer
 .obtain⟨z,q⟩:=sl b o e (I.ok.frf b hb) hb;exact⟨_,q⟩
 .obtain⟨o',q⟩:=tB b o e hb;exact⟨o',fl.1 b o' q⟩
theorem zhp(hst:X.stack=X.env::X.outer)(hf:X.env.frame=some X.env.locals)(hex:X.ex=[])     (I:Inv X pins σ H s)(h:BH X.prog X.w X.stack H s E e s') :
  wpAny (model X.prog X.w) X.A (leaving X.env e) (λ_ s2=>BH X.prog X.w X.outer X.H₀ X.s₀ E e s2) Ex s':=by
 obtain⟨a,cls,H',B,rfl,os,bare,un,hok,kB0,tB0,fl0,he⟩:=h;have nex:∀b ,b∉X.ex:=λb z=>by rw[hex]at z;cases z
 have hfr :=hst▸I.ok.frames;have fl1 :=hst▸fl0;refine leavX hfr hf fl1 λh2 fl sm=>?_
 have kB :=λb o e n hb=>kB0 b o (I.base.keep b o e n hb (nex b)) (I.base.free b o e n (nex b)) (HL I e hb)
 have tB:∀b o,X.s₀.heap.get? b=some o->b∉Aw X.outer->∃o',B.get? b=some o':=λb o e hb=>by
  obtain⟨o',e'⟩:=I.base.there b o e (nex b);exact tB0 b o' e' (HL I e hb)
 have sl:∀b o,X.s₀.heap.get? b=some o->X.H₀ b=none->b∈Aw X.outer->∃z,h2.get? b=some { o with slots:=z }:=λb o e n hb=>by
  obtain⟨z,e1⟩:=I.base.slot b o e n hb (nex b);obtain⟨_,o2,ho2,hd⟩:=I.funs.mem hb;rw[e1]at ho2;cases ho2;obtain⟨z2,e2⟩:=un.slot b { o with slots:=z } e1 (I.base.free b o e n (nex b)) (zd3 hst hb) (by simp)
  obtain⟨z3,e3⟩:=sm b { o with slots:=z2 } e2 hd
  exact⟨z3,e3⟩
 refine⟨a,cls,H',B,rfl,os.trans I.os,bare,⟨λb o e n hb _=>fl.1 b o (kB b o e n hb),λb o e n hb _=>sl b o e n hb,λb o e n _=>?_,λb o e _=>?_,λb xs e=>un.tups b xs (I.base.tups b xs e),λb o u e=>un.frzs b o u (I.base.frzs b o u e),λb ps e=>?_⟩,hok,kB,tB,OV fl,he⟩
 .obtain⟨o',e'⟩:=I.base.there b o e (nex b);exact un.free b o' e' (I.base.free b o e n (nex b)) (by simp)
 .by_cases hb:b∈Aw X.outer
  .obtain⟨z,q⟩:=sl b o e (I.ok.frf b hb) hb;exact⟨_,q⟩
  .obtain⟨o',q⟩:=tB b o e hb;exact⟨o',fl.1 b o' q⟩
 .obtain⟨m1,e1⟩:=I.base.tbls b ps e;obtain⟨m2,e2⟩:=un.tbls b _ e1;exact⟨m1++m2,e2.trans (by rw[Array.append_assoc])⟩
end
section
variable {P:Program}{w:World}{K:k7}{mg:Str->Option Value}{base:Heap}
theorem Mh:BB (Ds (BH P w) P w K mg base N qual sc f cd A outer s H E) (λ_=>E) :=
 λ_ _ _ _ _ _ I h=>zhp rfl rfl rfl I h
theorem Mw:Pc (Ds (BH P w) P w K mg base N qual sc f cd A outer s H E) (λ_=>E) :=
 λ_ _ _ _ _ _ _ _ I hx he=>zib rfl rfl rfl I hx he
theorem KY  {st }      (F:FunD K x qual st f fd)(S:FnScope N ps (Bf st))(len:∀vs H Q E,sp vs H Q E->vs.length=ps.length)
  (hbody : ∀ (cdv ) (A ) (outer ) (s ) (H ) (vs ) (Q ) (E ), Room k (A.deeper (envOfC qual (Bf st) s.heap.objs.size f cdv)) -> sp vs H Q E ->
   ∃t,Av (Ds (BH P w) P w K mg base N qual (Bf st) f cdv A outer s H E) (DM st) t/\t { nx:=λ_ H'=>Q .non H',rt:=Q } (start N vs) H):FnOk P w K mg base (BH P w) (k+1) f fd ps sp:=by
 obtain⟨oc,od,dV,kV,doc,pm,an,cdv,ct,osl,rfl,lk,hcd⟩:=F.ex;exact fn_of lk hcd S len λA outer s H vs Q E hr hsp=>hbody cdv A outer s H vs Q E hr hsp
end
set_option genInjectivity false in
structure DefX(P:Program)(w:World)(K:k7)(mg:Str->Option Value)(base:Heap)(k:Nat)(x:Str)(ps:List Str)(sp:Sp) where
 f:Addr
 fd:FuncData
 ok:FnOk P w K mg base (BH P w) k f fd ps sp
 m:mg x=some (.ref f)
 kp:PySem.W.keepIn K (.ref f)=true
 b:Ci K fd ps []
structure DefsX(K:k7)(fd:FuncData)(ps:List Str)(dvs:List V):Prop where
 ex:∃ds,Ci K fd ps ds/\A9 dvs ds
section
variable {X:Cx}{k j:Nat}{f:Addr}{fd:FuncData}{x:Str}{ps:List Str}{sp:Sp}{p pos:Pos}{e:Expr}{es:List Expr}{t:TA}{E:L2.St->XK}{dvs:List V}
theorem KG  {σ:L2.St}      (F:FnOk X.prog X.w X.K X.mg X.base (BH X.prog X.w) k f fd ps sp)(hr:Room k X.A)(hb:Ci X.K fd ps ds)(hd:A9 dvs ds)(hx:BB X E)
  (I:Inv X pins σ H s) (r:A9 vs us) (h:sp (vs++dvs) H Q (E σ)):wpAny (model X.prog X.w) X.A (call (.ref f) us) (EP X pins σ Q) X.xe s:=by
 have r2 :=r.append hd;have hl :=r2.length.symm.trans (F.len _ _ _ _ h);refine ye6 (ye2 (F.run X.A X.stack s H ⟨us,[]⟩ (us++ds) (vs++dvs) Q (E σ) hr I.env0 (hb s us I.kIn hl) r2 h) λr s' hq=>?_)
 cases r with
 |error v=>exact hx pins σ H s v s' I hq
 |ok fl =>
  cases fl with
  |ret u=>exact I.after hq
  |_=>exact False.elim hq
def MF(sp:Sp)(dvs:List V)(E:L2.St->XK)(t:TA):TE:=λσ H Q=>t σ H λvs H1=>sp (vs++dvs) H1 Q (E σ)
theorem px(D:DefX X.prog X.w X.K X.mg X.base k x ps sp)(hr:Room j X.A)(hx:BB X E)(ha:PA X (e::es) t)(hk:k<=j:=by decide)(hg:Gl X x:=by rfl)(hdb:(x == "__debug__")=false:=by decide)
  (he:starEach (e::es) X.env=(false,eval e X.env)::starEach es X.env:=by rfl) (hpl:(backTo pos (starEach es X.env)).any (·.1)=false:=by rfl):PE X (.Call (.Name x p) (e::es) [] pos) (MF sp [] E t):=by
 intro pins s σ H Q I h;refine ydz (G5 I hg D.m ?_ hdb);refine yc8 I.ok.mod.kin D.kp (AS (ha pos pins s σ H _ I h) λus s1 ⟨vs,H1,I1,r,q⟩=>⟨I1.kIn,?_⟩) he hpl
 exact KG D.ok (hr.mono hk) D.b .nil hx I1 r q
theorem pxd(D:DefX X.prog X.w X.K X.mg X.base k x ps sp)(DD:DefsX X.K D.fd ps dvs)(hr:Room j X.A)(hx:BB X E)(ha:PA X (e::es) t)(hk:k<=j:=by decide)(hg:Gl X x:=by rfl)(hdb:(x == "__debug__")=false:=by decide)
  (he:starEach (e::es) X.env=(false,eval e X.env)::starEach es X.env:=by rfl) (hpl:(backTo pos (starEach es X.env)).any (·.1)=false:=by rfl):PE X (.Call (.Name x p) (e::es) [] pos) (MF sp dvs E t):=by
 intro pins s σ H Q I h;obtain⟨ds,hb,hd⟩:=DD.ex;refine ydz (G5 I hg D.m ?_ hdb);refine yc8 I.ok.mod.kin D.kp (AS (ha pos pins s σ H _ I h) λus s1 ⟨vs,H1,I1,r,q⟩=>⟨I1.kIn,?_⟩) he hpl
 exact KG D.ok (hr.mono hk) hb hd hx I1 r q
end
noncomputable abbrev Je:List Value:=[.type "ValueError",.type "Exception",.type "BaseException",.type "object"]
def Kw(K:k7)(C:Addr):Bool:=match K.lookup C with
 |some ⟨.type "type",_,.cls k,l⟩=>(match k.mro,l.toList with|.ref D::r,[_,_,_,_,some (.builtin n),_]=>D == C && n == "ValueError.__new__" && !k.hasDel && PySem.W.tailIn K Je r && PySem.W.nsOkIn K k.ns|_,_=>false)
 |_=>false
def Cw(K:k7)(C:Addr):Option (Option Value):=(PySem.W.clsIn K C).bind λk=>PySem.W.nsIn K k.ns "__init__"
structure ExcK(K:k7)(C:Addr):Prop where
 q:Kw K C=true
 self:PySem.W.subIn K (.ref C) (.ref C)=some true
 cd:∃cd,PySem.W.clsIn K C=some cd
 ty:PySem.W.typeIn K (.ref C)=some (.type "type")
 ga:PySem.W.findIn K (.ref C) "__getattribute__"=some (some (.builtin "BaseException.__getattribute__"))
 gt:PySem.W.findIn K (.ref C) "__getattr__"=some none
 ca:PySem.W.findIn K (.ref C) "__class__"=some (some (.builtin "object.__class__"))
 ob:PySem.W.mroIn K C (.type "object")=some true
 be:PySem.W.mroIn K C (.type "BaseException")=some true
 gs:PySem.W.specialIn K (.builtin "object.__class__") "__get__"=some (some (.builtin "getset_descriptor.__get__"))
 tk:PySem.W.takesIn K (.builtin "object.__class__")=some true
structure ECls(K:k7)(mg:Str->Option Value)(x:Str) where
 C:Addr
 m:mg x=some (.ref C)
 k:ExcK K C
theorem Hb{K}(X:K.In h)(q:Kw K C=true):∃bm N nm qn bs hd sn sub ab col dd k0 k1 k2 k3 k5 mN,
  h.get? C=some (excClassObj nm qn C N bs bm hd sn sub ab col dd k0 k1 k2 k3 k5 "ValueError.__new__")/\h.Ns N mN/\(∃cd,PySem.W.clsIn K C=some cd/\cd.ns=N/\cd.mro=.ref C::bm/\cd.hasDict=hd)/\OwnTail h Je bm:=by
 unfold Kw at q;split at q
 .rename_i dd cd sl ho;have hcl:PySem.W.clsIn K C=some cd:=by unfold PySem.W.clsIn;rw[ho]
  split at q
  .rename_i C2 bm k0 k1 k2 k3 nid k5 hm hs;simp only[yct,ya4,ye7]at q;obtain⟨⟨⟨⟨z1,z2⟩,hdel⟩,ht⟩,hok⟩:=q;subst z1;subst z2;obtain⟨nm,bs,mro,nsp,qn,hd,sn,sub,ab,col,dl⟩:=cd;dsimp only at hm hok hdel;subst hm;subst hdel
   have hsl:sl=#[k0,k1,k2,k3,some (.builtin "ValueError.__new__"),k5]:=by
    obtain⟨l⟩:=sl;have hs':l=[k0,k1,k2,k3,some (.builtin "ValueError.__new__"),k5]:=hs;rw[hs']
   subst hsl;exact⟨bm,nsp,nm,qn,bs,hd,sn,sub,ab,col,dd,k0,k1,k2,k3,k5,_,X _ _ ho,.of_isNs (PySem.W.isNs_of_in X hok),⟨_,hcl,rfl,rfl,rfl⟩,PySem.W.tail_of_in X ht⟩
  .exact absurd q yav
 .exact absurd q yav
theorem zfs{K}(X:K.In h)(G:h.Ns N mN)(hc:PySem.W.clsIn K C=some cd)(hn:cd.ns=N)(q:Cw K C=some none):mN "__init__"=none:=by
 unfold Cw at q;rw[hc]at q;subst hn;exact PySem.W.ns_none_of X G q
section
variable {X:Cx}{x:Str}{p cpos pos:Pos}{e:Expr}{es:List Expr}{t:TA}{E:L2.St->XK}
def zjo(C:Addr)(E:L2.St->XK)(t:TA):TS:=λ_ σ H=>t σ H λvs H1=>vs.length<=sizeLine/\E σ (.ref C) none H1
theorem zf1(T:ECls X.K X.mg x)(hini:Cw X.K T.C=some none)(hc:X.calm=true)(hx:Pc X E)(ha:PA X (e::es) t)(hg:Gl X x:=by rfl)(hdb:(x == ("__debug__":Str))=false:=by decide)
  (he:starEach (e::es) X.env=(false,eval e X.env)::starEach es X.env:=by rfl) (hpl:(backTo cpos (starEach (e::es) X.env)).any (·.1)=false:=by rfl) :
  PS X (.Raise (some (.Call (.Name x p) (e::es) [] cpos)) none pos) (zjo T.C E t):=by
 intro pins s σ H D I h;obtain⟨bm,N,nm,qn,bs,hd,sn,sub,ab,col,dd,k0,k1,k2,k3,k5,mN,hC,hN,⟨cd,hcd,hcn,_⟩,TL⟩:=Hb I.mod.kin T.k.q;have hni:=zfs I.mod.kin hN hcd hcn hini
 refine wpAny_Raise_call_subT (nm:=nm) (q:=qn) (N:=N) (bs:=bs) (hdct:=hd) (sn:=sn) (sub:=sub) (ab:=ab) (col:=col) (dd:=dd) (k0:=k0) (k1:=k1) (k2:=k2) (k3:=k3) (k5:=k5)
  ybi (TL.hasType ybi.hasBase) (I.ok.hd hc) hpl hni (G5 I hg T.m ⟨rfl,?_⟩ hdb)
 have h2:=ha cpos pins s σ H _ I h;rw[he]at h2 ⊢;exact Calls.evalArgs_plain (AS h2 λus s1 ⟨vs,H1,I1,r,z,q1⟩=>⟨rfl,r.length▸z,I1.bk _ _ hC,hN.keeps I1.bk,TL.keeps I1.bk,λh' a hm=>hx pins σ H1 s1 a _ us h' I1 hm q1⟩)
end
def Gk(H:Hp)(a C:Addr):Prop:=∃ob,H a=some (.frz ob (.own 0))/\ob.cls=.ref C/\∃vs,ob.data=.fields vs/\vs[2]?=some .none
def FV(H:Hp)(a C:Addr)(dx:Option Addr):Prop:=∃ob,H a=some (.frz ob (.own 0))/\(ob.cls,ob.dict)=(.ref C,dx)/\∃vs,ob.data=.fields vs/\vs[2]?=some .none
theorem FV.x(h:FV H a C dx):Gk H a C:=let ⟨ob,e,k,r⟩:=h;⟨ob,e,congrArg Prod.fst k,r⟩
theorem FV.of(x:FV H a C dx)(e:∀u,H a=some u->F a=some u):FV F a C dx :=
 let ⟨ob,y,r⟩:=x;⟨ob,e _ y,r⟩
theorem Gk.of(x:Gk H a C)(e:∀u,H a=some u->F a=some u):Gk F a C :=
 let ⟨ob,y,r⟩:=x;⟨ob,e _ y,r⟩
section
variable {K:k7}{a C:Addr}
open PySem.W PySem.Builtin PySem.Builtin.ObjectAttr PySem.Builtin.Getset_descriptor in
theorem zjf{prog:Program}{w:World}{A:Around}{R:Result->Shared->Prop}{s:Shared}{tp:Value}(X:K.In s.heap)(k:ExcK K C)(h0:∃o,s.heap.get? a=some o/\o.cls=.ref C)
  (h:R (.ok (.ret (.ref C))) s):codeAny (model prog w) A (.call (.builtin "getset_descriptor.__get__") ⟨[.builtin "object.__class__",.ref a,tp],[]⟩) R s:=by
 obtain⟨o,ho,hc⟩:=h0;obtain⟨hp9,g,dr,t,os⟩:=s;have L0:Looks (model prog w) hp9 (typeOf (.ref a)) (.ref C):=hc▸(Looks.ld ho).andThen .now;have L1:=looks_mroIn (M:=model prog w) X k.ob;refine(ye8 KF.slot_gs.plain KF.entry_gs (KF.slot_gs.check _ _ _ _ _ _ _ _ KF.type_class (KF.args_gs _ _ _) ?_));unfold Builtin.«getset_descriptor.__get__» descrGet;rw[dga_obj];refine ydq (ydt ?_);unfold descrGetter descrCheckInstance descrNameAndClass isInstance;simp only[KF.owner_class]
 repeat lk
 refine⟨(yc9 _ (by decide +kernel)),(ye9 KF.entry_class ?_)⟩
 (unfold Builtin.«object.__class__» shownTypeOf)
 repeat lk
 exact h
open PySem.W PySem.Builtin PySem.Builtin.ObjectAttr in
theorem zgn{M:Model}{h:Heap}(X:K.In h)(k:ExcK K C):Looks M h (Builtin.ObjectAttr.find (.ref a) (.ref C) "__class__") (.bind (.builtin "getset_descriptor.__get__") (.builtin "object.__class__")):=by
 have L1:=yea (M:=M) X k.ca;have L2:Looks M h (getOf (some (.builtin "object.__class__"))) (some (.builtin "getset_descriptor.__get__")):=looks_specialIn X k.gs;have L3:=looks_takesIn (M:=M) X k.tk;exact L1.andThen (L2.andThen ((show Looks M h (dataDescriptor? (some (.builtin "object.__class__")) (some (.builtin "getset_descriptor.__get__"))) (some (.builtin "getset_descriptor.__get__",.builtin "object.__class__")) from L3.andThen .now).andThen (Looks.tag .now)))
theorem Pn:(Value.builtin "BaseException.__getattribute__" == Value.builtin "object.__getattribute__")=false:=by rfl
theorem Pm:builtinKind "BaseException.__getattribute__"=some .slot:=by decide +kernel
theorem Pl:splitId "BaseException.__getattribute__"=some ("BaseException","__getattribute__"):=by rfl
open PySem.W in
theorem zgo{prog:Program}{w:World}{A:Around}{E:Value->Shared->Prop}{Q:Option Value->Shared->Prop}{s:Shared}(X:K.In s.heap)(k:ExcK K C)(h0:∃o,s.heap.get? a=some o/\o.cls=.ref C)
  (h:Q (some (.ref C)) { s with toks:=s.toks+1 }):wpAny (model prog w) A (getAttr? (.ref a) "__class__") Q E s:=by
 obtain⟨o,ho,hc⟩:=id h0;obtain⟨hp9,g,dr,t,os⟩:=s;have L0:Looks (model prog w) hp9 (typeOf (.ref a)) (.ref C):=hc▸(Looks.ld ho).andThen .now;have L1:=yea (M:=model prog w) X k.ga;have L2:=yea (M:=model prog w) X k.gt;have LI:Looks (model prog w) hp9 (isInstance (.ref a) (.type "BaseException")) true:=L0.andThen (looks_mroIn X k.be);have LF:=zgn (M:=model prog w) (a:=a) X k
 (unfold getAttr? getAttrBy? getAttrBy)
 refine ydq (wpAny_mkText (ydq (wpAny_attempt (ydr (ydq (L0.at (ydq (L1.at ?ga))))))))
 case ga =>
  have hx1:(onTheHeap (Value.ref C) && Value.builtin "BaseException.__getattribute__" == Value.builtin "object.__getattribute__")=false:=by
   rw[Pn]
   rfl
  dsimp only;rw[if_neg (by rw[hx1];exact yav)]
  unfold getAttrByItsOwn hookBefore;rw[if_pos (show onTheHeap (Value.ref C)=true from rfl)];refine ydq (L2.at (ydq (wpAny_attempt (ydr ?_))));unfold callGetattribute boundAndCalled;rw[if_neg (by exact yav)]
  refine ydq (yeb (yby.ga.bind (.ref a)) ?_);show wpAny _ _ (call (.builtin "BaseException.__getattribute__") [.ref a,.str "__class__" t]) _ _ _;refine ye6 (ye8 yby.ga.plain PySem.F.entry_bexc_ga ?_);have ha:=PySem.F.args_bexc_ga (.ref a) (.str (Str.ofString "__class__") t);obtain⟨i,hi⟩:∃i,i="BaseException.__getattribute__":=⟨_,rfl⟩;have k1:=Pm;have k2:=Pl;rw[<- hi]at k1 k2 ha ⊢;refine PySem.W.check_slot k1 k2 LI ha ?_;refine ydq (ydt (ydq (ydt (ydq (L0.at (ydq (LF.at ?_)))))));show wpAny _ _ (holding [.builtin "object.__class__"] (call (.builtin "getset_descriptor.__get__") [.builtin "object.__class__",.ref a,.ref C]) >>= ret) _ _ _;refine ydq (ydr (ye6 (zjf X k h0 ?_)));exact ydt (handed_on rfl (ydt h))
open PySem.W in
theorem zfo(k:ExcK K C):KitX K (.ref a) (.ref C) (λh=>∃o,h.get? a=some o/\o.cls=.ref C) where
 ty:=λ_ _ _ p=>by
  obtain⟨o,ho,hc⟩:=p;exact hc▸(Looks.ld ho).andThen .now
 it:=λ_ _ X _=>by
  obtain⟨cd,hcd⟩:=k.cd;unfold clsIn at hcd;split at hcd
  .rename_i c' d' cd' sl' ho;intro A' Q' E' s' kk q;unfold isType loadHead;exact(ydq (wpAny_loadPart (kk _ _ (X _ _ ho)) (ydt q)))
  .cases hcd
 ne:=λh tp dd its n sl X hq0=>by
  obtain⟨cd,hcd⟩:=k.cd;refine(Bool.eq_false_iff.mpr λq=>?_)
  have e:C=tp:=Value.ref.inj (beq_iff_eq.mp q);subst e;unfold clsIn at hcd;split at hcd
  .rename_i c' d' cd' sl' ho;have z:=(X _ _ ho).symm.trans hq0;cases z
  .cases hcd
 ca:=λX p kk=>zgo X k p kk
end
def O5:V->Value
 |.ref C=>.ref C
 |.ty T=>.type T
 |_=>.none
section
variable {X:Cx}
theorem zgh:CJ X (.builtin "isinstance") (λxs H Q=>∃a C c b,xs=[.ref a,c]/\Gk H a C/\ExcK X.K C/\(∃D,c=.ref D\/∃T,c=.ty T)/\PySem.W.kitOne X.K (.ref C) (O5 c)=some b/\Q (.bl b) H):=by
 intro pins s σ H xs us Q I r h;obtain⟨a,C,c,b,rfl,ho,k,hc,e,q⟩:=h;obtain⟨u,w',rfl,rx,ry⟩:=Gq r;cases rx
 have hv:w'=O5 c:=by
  obtain⟨D,hc|⟨T,hc⟩⟩:=hc
  .subst hc;exact ry
  .subst hc;exact ry
 subst hv
 have p0:∃o,s.heap.get? a=some o/\o.cls=.ref C:=by
  obtain⟨ob,y,r,_⟩:=ho;exact⟨ob,(I.hok a _ y).1,r⟩
 exact yb1 (zfo k) I.kIn p0 e (λz=>nomatch z) λtk=>⟨.bl b,H,I.tok _,rfl,q⟩
end
noncomputable abbrev Dz(X:Cx)(pins:List (Addr×Obj))(xe:Value->Shared->Prop):Cx:={ X with pn:=X.pn++pins,xe:=xe }
abbrev Gb(X:Cx)(a:Addr):Cx:={ X with A:=X.A.mark (some (.ref a)),calm:=false,xe:=λ_ _=>False }
section
variable {X:Cx}{pins:List (Addr×Obj)}{σ:L2.St}{H:Hp}{s:Shared}{xe:Value->Shared->Prop}
theorem zlh(ok:X.Ok):(Dz X pins xe).Ok:=⟨ok.mod,ok.kind,ok.glob,ok.blt,ok.above,ok.inj,ok.has,ok.cab,ok.hd,ok.frames,ok.stk,ok.exf,ok.bs,ok.bsz,ok.noex,ok.exfs,ok.funs,ok.frf⟩
theorem zfa(ok:X.Ok):(Gb X a).Ok:=⟨ok.mod,ok.kind,ok.glob,ok.blt,ok.above,ok.inj,ok.has,ok.cab,λz=>Bool.noConfusion z,ok.frames,ok.stk,ok.exf,ok.bs,ok.bsz,ok.noex,ok.exfs,ok.funs,ok.frf⟩
theorem zmb(I:Inv X pins σ H s):Inv (Dz X pins xe) [] σ H s:=⟨zlh I.ok,I.os,I.bare,I.base,I.loc,I.cell,I.free,I.freeC,λp hp=>I.pin p (by grind),I.hok,I.len⟩
theorem TF{ok:X.Ok}(I:Inv (Dz X pins xe) pn2 σ H s):Inv X pins σ H s:=⟨ok,I.os,I.bare,I.base,I.loc,I.cell,I.free,I.freeC,λp hp=>I.pin p (ybm _ hp),I.hok,I.len⟩
theorem VM{a:Addr}(I:Inv X pins σ H s):Inv (Gb X a) pins σ H s:=⟨zfa I.ok,I.os,I.bare,I.base,I.loc,I.cell,I.free,I.freeC,I.pin,I.hok,I.len⟩
theorem zfc(ok:X.Ok)(I:Inv (Gb X a) pins σ H s):Inv X pins σ H s:=⟨ok,I.os,I.bare,I.base,I.loc,I.cell,I.free,I.freeC,I.pin,I.hok,I.len⟩
theorem gone      (I:Inv X pins σ H s)(hN:X.N.Nodup)(hi:X.N[i]?=some n)(hm:s.heap.Ns X.env.locals m)(hn:h'.Ns X.env.locals (λx=>if x=n then v else m x))
  (hs:Heap.SameBut X.env.locals s.heap h'):Inv X pins (σ.set i none) H { s with heap:=h',toks:=t }:=by
 have neL:∀b o,X.s₀.heap.get? b=some o->b≠X.env.locals:=λb o e=>yaf (yad (ya7 e) I.ok.above)
 have hok :=λb u e=>(I.hok b u e).stay (λc x hc q=>(hs.2 c (λz=>by
   have f:=I.free
   rcases hc with y|y
   .rw[<- z,y,e]at f;cases f
   .rw[<- z,y]at f;cases f)).trans q) (λ_ q=>q) λ_ _ q=>q
 refine⟨I.ok,I.os,I.bare,⟨λb o e n hb hx=>(hs.2 b (neL b o e)).trans (I.base.keep b o e n hb hx),λb o e n hb hx=>?_,I.base.free,λb o e hx=>?_,I.base.tups,I.base.frzs,I.base.tbls⟩,⟨_,hn,λj y v' e1 e2 e3=>?_⟩,λy c e=>?_,I.free,I.freeC,λp hp=>?_,hok,by rw[yck];exact I.len⟩
 .obtain⟨z,e1⟩:=I.base.slot b o e n hb hx;exact⟨z,(hs.2 b (neL b o e)).trans e1⟩
 .obtain⟨o',e1⟩:=I.base.there b o e hx;exact⟨o',(hs.2 b (neL b o e)).trans e1⟩
 .have hj:j≠i:=λz=>by
   grind
  rw[yap (yar hj)]at e2;obtain⟨m2,hn2,hl2⟩:=I.loc;obtain⟨u,r,q⟩:=hl2 j y v' e1 e2 e3;refine⟨u,r,?_⟩
  rcases q with ⟨kk,e⟩|⟨kk,c,e,z⟩
  .refine .inl ⟨kk,?_⟩;have hy:y≠n:=λz=>hj (Mr hN e1 (z▸hi))
   have em:m2 y=m y:=by
    obtain⟨o1,es1,ep1,a1,b1,_,c1⟩:=hn2;obtain⟨o2,es2,ep2,a2,b2,_,c2⟩:=hm;rw[a1]at a2;cases a2;rw[b1]at b2;cases b2;rw[<- c1,<- c2]
   show(if y=n then v else m y)=some u
   rw[if_neg hy,<- em];exact e
  .exact .inr ⟨kk,c,e,z.sameBut hs (I.cne y c e)⟩
 .obtain⟨w',z⟩:=I.cell y c e;exact⟨w',z.sameBut hs (I.cne y c e)⟩
 .obtain⟨e,n,ne,nf,d⟩:=I.pin p hp;exact⟨(hs.2 p.1 ne).trans e,n,ne,nf,d⟩
end
def Pa(a:Addr)(i:Nat)(X:Cx)(st:List Stmt)(t:TS):Prop:=∀(pins:List (Addr×Obj)) (s:Shared) (σ:L2.St) (H:Hp) (D:Ends),Inv X pins σ H s->σ[i]?=some (some (.ref a))->(∃C,Gk H a C)->t D σ H->wpAny (model X.prog X.w) X.A (execs st X.env) (SP X pins D) X.xe s
theorem pss_e{st}(h:Av X st t):Pa a i X st t:=λpins s σ H D I _ _ q=>h pins s σ H D I q
def VS(i:Nat)(D:Ends):Ends:={ nx:=λσ H=>D.nx (σ.set i none) H,rt:=D.rt,bk:=λσ H=>D.bk (σ.set i none) H,ct:=λσ H=>D.ct (σ.set i none) H }
def tTry(K:k7)(W:Addr)(i:Nat)(E:L2.St->XK)(tb th:TS):TS:=λD σ H=>tb D σ H/\∀σ1 cls dx H1,E σ1 cls dx H1->∃C,cls=.ref C/\PySem.W.subIn K (.ref C) (.ref W)=some true /\
 ∀a o,H1 a=none->FV (upd H1 a o) a C dx->th (VS i D) (σ1.set i (some (.ref a))) (upd H1 a o)
section
variable {A:Around}{E:Value->Shared->Prop}{M:Model}
theorem exm{h:Heap}{d:Drawn}{t:Nat}{os:OsState}{a C W N:Addr}{oe:Obj}{nm q:Str}{hdct:Bool}{sn:List Str}{ab:Bool}
     {newId:String} (hW:h.get? W=some (excClassObj nm q W N bs bm hdct sn sub ab col dd k0 k1 k2 k3 k5 newId)) (he:h.get? a=some oe) (hcls:oe.cls=.ref C) (hb:bm.contains (.type "BaseException")=true)
    (LS:PySem.W.Looks M h (isSubtype (.ref C) (.ref W)) true) (hq:Q true ⟨h,g,d,t,os⟩):wpAny M A (excMatches (.ref a) (.ref W)) Q E ⟨h,g,d,t,os⟩:=by
  have hcB:(Value.ref W::bm).contains (.type "BaseException")=true:=by
    rw[ycn,hb];exact Bool.or_true _
  have f:=tc_notTuple;unfold excMatches
  repeat (first|(with_reducible refine yec he ?_;rw[hcls])|with_reducible refine yec hW ?_|(with_reducible refine yed hW ?_;rw[hcB])|with_reducible refine PySem.W.Looks.at LS ?_|wp_step)
  exact hq
end
section
variable {X:Cx}{i:Nat}{x n:Str}{np pos hpos:Pos}{body suite:List Stmt}{b₀:Stmt}{tb th:TS}{E:L2.St->XK}
theorem zkp(T:ECls X.K X.mg x)(hst:X.stack=X.env::X.outer)(hf:X.env.frame=some X.env.locals)(hN:X.N.Nodup)(hi:X.N[i]?=some n)(hloc:X.env.scope.names.lookup n=some .local)
  (hb:∀pins xe,BB (Dz X pins xe) E->Av (Dz X pins xe) body tb) (hh:∀a,Pa a i (Gb X a) (b₀::suite) th) (hg:Gl X x:=by rfl) (hdb:(x == ("__debug__":Str))=false:=by decide) :
  PS X (.Try body [.ExceptHandler (some (.Name x np)) (some n) (b₀::suite) hpos] [] [] pos) (tTry X.K T.C i E tb th):=by
 intro pins s σ H D I h;obtain⟨h1,h2⟩:=h
 have hkind:(X.env.scope.kind == .class || (X.env.scope.kind == .module && X.env.locals != X.env.globals))=false:=by
  rw[I.ok.kind]
  rfl
 refine wpAny_Try_except (ydm (hb pins (λe s₁=>wpAny (model X.prog X.w) X.A (noteFrame e X.env) (λ_ s₂=>wpAny (model X.prog X.w) X.A (setFlight e none) (λ_ s₃=>wpAny (model X.prog X.w) X.A (handleBy e X.env [.ExceptHandler (some (.Name x np)) (some n) (b₀::suite) hpos]) (SP X pins D) X.xe s₃) X.xe s₂) X.xe s₁)
  ?pass [] s σ H D (zmb I) h1) (λf s1 q=>?_) (λe s1 q=>q))
 case pass =>
  intro pins1 σ1 H1 s1 e s' I1t hcx;have I1 :=TF (ok:=I.ok) I1t;obtain⟨a,cls,H',B,rfl,os,bare,un,hok,kB,tB,fl0,he⟩:=hcx;obtain⟨c0,dx⟩:=cls;obtain⟨C,hC0,hsub,kk⟩:=h2 σ1 c0 dx H' he;have hC0 :=hC0;subst hC0;have fl1 :=hst▸fl0;have hfr :=hst▸I.ok.frames;have ha :=none_of hok fl1.choose_spec.2.1
  have sl:∀h',s'.heap.UpToSlots h'->∀b o,s1.heap.get? b=some o->H1 b=none->b∈Aw X.stack->∃z,h'.get? b=some { o with slots:=z }:=λh' sm b o e n hb=>by
   obtain⟨_,o2,ho2,hd⟩:=I1.stack.mem hb;rw[e]at ho2;cases ho2;obtain⟨z2,e2⟩:=un.slot b o e n hb (by simp)
   obtain⟨z3,e3⟩:=sm b { o with slots:=z2 } e2 hd
   exact⟨z3,e3⟩
  have th':∀h',B.StaysIn h'->s'.heap.UpToSlots h'->∀b o,s1.heap.get? b=some o->∃o',h'.get? b=some o':=λh' st sm b o e=>by
   by_cases hb:b∈Aw X.stack
   .obtain⟨z,q⟩:=sl h' sm b o e (I1.stkFree b hb) hb;exact⟨_,q⟩
   .obtain⟨o',q⟩:=tB b o e hb;exact⟨o',st b o' q⟩
  have inv5 :=λh' st sm =>
   I1.call' (s':={ s' with heap:=h' }) os ⟨λb o e n hb _=>st b o (kB b o e n hb),λb o e n hb _=>sl h' sm b o e n hb,un.free,λb o e _=>th' h' st sm b o e,un.tups,un.frzs,un.tbls⟩ (hok.kept st) bare (λ_ z=>nomatch z)
  refine Mp hfr rfl hf fl1 λh4 held4 sm4=>?_
  refine Nf held4 λh5 fl5 sm5=>?_
  have sm45:=sm4.trans sm5;have I5:=inv5 h5 fl5.1 sm45;obtain⟨oe,he5,hc5⟩:=fl5.there;obtain⟨bm,N,nm,qn,bs,hd,sn,sub,ab,col,dd,k0,k1,k2,k3,k5,mN,hC,hNs,hni,TL⟩:=Hb I5.kIn T.k.q;refine wpAny_handleBy_cons (codeAny_handlers_test (G5 (VM I5) hg T.m ?_ hdb)) (by intro q;cases q)
  refine exm hC he5 hc5 (TL.hasType ybi.hasBase) (PySem.W.looks_subIn I5.kIn hsub) ?_;refine codeAny_handlers_suite_as (zmv fl5 λh6 fl6 sm6=>?_)
  have sm456:=sm45.trans sm6;obtain⟨oe6,ws6,he6,hc6,hd6,hz6⟩:=fl6.first
  have nea:∀b o,s1.heap.get? b=some o->H1 b=none->b≠a:=λb o e n z=>by
   by_cases hb:b∈Aw X.stack
   .obtain⟨_,o2,ho2,hd⟩:=I1.stack.mem hb;rw[e]at ho2;cases ho2;obtain⟨y,e2⟩:=sl h6 sm456 b o e n hb;rw[z,he6]at e2;cases e2;exact hd _ hd6
   .have e2:=kB b o e n hb;rw[z,fl6.2.1]at e2;cases e2
  have I6:Inv X pins σ1 (upd H' a (.frz oe6 (.own 0))) { s' with heap:=h6 }:=by
   refine I1.call' (ch:=[]) os ⟨λb o e n hb _=>fl6.1 b o (kB b o e n hb),λb o e n hb _=>sl h6 sm456 b o e n hb,λb o e n hx=>(A3 (nea b o e n)).trans (un.free b o e n hx),λb o e _=>th' h6 fl6.1 sm456 b o e,λb xs e=>?_,λb o u e=>?_,λb ps e=>?_⟩
    (XZ (hok.kept fl6.1) ha ⟨he6,oe6,he6⟩) bare (λ_ z=>nomatch z)
   .have q:=un.tups b xs e;exact(A3 (B0 q ha)).trans q
   .have q:=un.frzs b o u e;exact(A3 (B0 q ha)).trans q
   .obtain⟨more,q⟩:=un.tbls b ps e;exact⟨more,(A3 (B0 q ha)).trans q⟩
  refine IH (X:=Gb X a) (v:=.ref a) (VM I6) hN hi (.inl hloc) rfl (λs7 I7=>?_) (.inr hloc)
  refine ydm (hh a pins s7 (σ1.set i (some (.ref a))) _ (VS i D) I7 (yas (by rw[I1.len];exact(ya9.mp hi).1)) ⟨C,oe6,BQ,congrArg Prod.fst hc6,ws6,hd6,hz6⟩ (kk a _ ha ⟨oe6,BQ,hc6,ws6,hd6,hz6⟩)) (λf s8 q8=>?_) (λ_ _ z=>False.elim z)
  have Ax:∀σ8 H8,Inv (Gb X a) pins σ8 H8 s8->∀(G ),(∀s9,Inv X pins (σ8.set i none) H8 s9->G () s9)->wpAny (model X.prog X.w) X.A (do bindName X.env n .none;unbindBehindTheSuite X.env n hpos) G X.xe s8:=λσ8 H8 I8 G hG=>by
   have J:=zfc I.ok I8;obtain⟨m,hm,_⟩:=id J.loc;exact wpAny_nameGoes_keeps hloc hm hkind λh' v hn hs=>hG _ (gone J hN hi hm hn hs)
  cases f with
  |next =>
   obtain⟨σ8,H8,I8,d8⟩:=q8;exact Ax σ8 H8 I8 _ λs9 I9=>⟨_,H8,I9,d8⟩
  |brk =>
   obtain⟨σ8,H8,I8,d8⟩:=q8;exact Ax σ8 H8 I8 _ λs9 I9=>⟨_,H8,I9,d8⟩
  |cont =>
   obtain⟨σ8,H8,I8,d8⟩:=q8;exact Ax σ8 H8 I8 _ λs9 I9=>⟨_,H8,I9,d8⟩
  |ret u =>
   obtain⟨v,σ8,H8,I8,r8,d8⟩:=q8;exact Ax σ8 H8 I8 _ λs9 I9=>⟨v,_,H8,I9,r8,d8⟩
 have back:∀{xe0 } {σ':L2.St} {H':Hp},Inv (Dz X pins xe0) [] σ' H' s1->Inv X pins σ' H' s1:=λJ=>TF (ok:=I.ok) J
 cases f with
 |next =>
  obtain⟨σ',H',J,d⟩:=q;exact ydo ⟨σ',H',back J,d⟩
 |brk =>
  obtain⟨σ',H',J,d⟩:=q;exact⟨σ',H',back J,d⟩
 |cont =>
  obtain⟨σ',H',J,d⟩:=q;exact⟨σ',H',back J,d⟩
 |ret u =>
  obtain⟨v,σ',H',J,r,d⟩:=q;exact⟨v,σ',H',back J,r,d⟩
end
end Zx
namespace Pu
open PySem PySem.Spec PyProof.Rows L2 Zw Zx
abbrev Rg:=Addr->Prop
def R0:Rg:=λ_=>False
inductive Kd where
 |lst|rl|tup|rt|pin (p:Addr)
inductive Ob where
 |ins (C:Addr) (fs:List Str)|exn (C:Addr)|sdc (ks:List Str)|lab (p:Addr)
inductive T where
 |non|bl (b:Bool)|int (i:Int)|str (x:Str)|nd (o:Bool) (k:Kd) (l:List T)|dic (ks:List Int) (l:List T)|pdc (ks:List Int) (l:List T)|odc (ks:List Int) (l:List T)
 |obj (k:Ob) (l:List T)|oob (p C:Addr) (fs:List Str) (l:List T)|osd (ks:List Str) (l:List T)
noncomputable abbrev T.lst(l:List T):T:=.nd false .lst l
noncomputable abbrev T.own(l:List T):T:=.nd true .lst l
noncomputable abbrev T.tup(l:List T):T:=.nd false .tup l
mutual
def T.share:T->T
 |.nd _ k l=>.nd false k (Bh l)
 |.dic ks l=>.dic ks (Bh l)
 |.pdc ks l=>.pdc ks (Bh l)
 |.odc ks l=>.pdc ks (Bh l)
 |.obj k l=>.obj k (Bh l)
 |.oob _ C fs l=>.obj (.ins C fs) (Bh l)
 |.osd ks l=>.obj (.sdc ks) (Bh l)
 |.non=>.non
 |.bl b=>.bl b
 |.int i=>.int i
 |.str x=>.str x
def Bh:List T->List T
 |[]=>[]
 |t::r=>t.share::Bh r
end
mutual
def T.sh:T->Bool
 |.nd o _ l=>!o && An l
 |.dic _ l=>An l
 |.pdc _ l=>An l
 |.odc _ _=>false
 |.obj _ l=>An l
 |.oob _ _ _ _=>false
 |.osd _ _=>false
 |.non=>true
 |.bl _=>true
 |.int _=>true
 |.str _=>true
def An:List T->Bool
 |[]=>true
 |t::r=>t.sh && An r
end
noncomputable def T.flat:T->Bool
 |.nd _ _ _=>false
 |.dic _ _=>false
 |.pdc _ _=>false
 |.odc _ _=>false
 |.obj _ _=>false
 |.oob _ _ _ _=>false
 |.osd _ _=>false
 |_=>true
theorem EG:∀l ,Bh l=l.map T.share
 |[]=>rfl
 |t::r=>by rw[Bh,EG r];rfl
theorem EH:∀l ,An l=l.all T.sh
 |[]=>rfl
 |t::r=>by rw[An,EH r];rfl
mutual
theorem AX:∀t:T,t.sh=true->t.share=t
 |.nd o k l,h=>by
  rw[T.sh,ya4]at h;have ho:o=false:=by simpa using h.1
  subst ho;rw[T.share,AE l h.2]
 |.dic ks l,h=>by
  rw[T.sh]at h;rw[T.share,AE l h]
 |.pdc ks l,h=>by
  rw[T.sh]at h;rw[T.share,AE l h]
 |.odc ks l,h=>by
  rw[T.sh]at h;cases h
 |.obj k l,h=>by
  rw[T.sh]at h;rw[T.share,AE l h]
 |.oob p C fs l,h=>by
  rw[T.sh]at h;cases h
 |.osd ks l,h=>by
  rw[T.sh]at h;cases h
 |.non,_=>rfl
 |.bl _,_=>rfl
 |.int _,_=>rfl
 |.str _,_=>rfl
theorem AE:∀l:List T,An l=true->Bh l=l
 |[],_=>rfl
 |t::r,h=>by
  rw[An,ya4]at h;rw[Bh,AX t h.1,AE r h.2]
end
def Gf(K:k7)(F:Hp)(p:Addr)(xs:List V):Prop:=(∃o,F p=some (.frz o (.lst xs)))\/∃(o:Obj) (its:Array Value) (n:Nat),K.lookup p=some o/\o.cls=.type "list"/\o.dict=none/\o.data=.seq its n/\its.size<=sizeLine/\A9 xs its.toList
theorem Gf.l{K}(h:Gf K F p xs):Ad K F p xs:=h.elim (λz=>.inl (.inr z)) .inr
def En(K:k7)(F:Hp)(k:Kd)(p:Addr)(xs:List V):Prop:=match k with
 |.lst=>F p=some (.lst xs)
 |.rl=>Gf K F p xs
 |.tup=>F p=some (.tup xs)
 |.rt=>Bp K F p xs
 |.pin _=>F p=some (.lst xs)
theorem Fd{K}(s:AY F F')(h:Bp K F p xs):Bp K F' p xs:=by
 rcases h with (h|⟨o,h⟩)|h
 .exact .inl (.inl (s _ _ h))
 .exact .inl (.inr ⟨o,s _ _ h⟩)
 .exact .inr h
theorem En.same{K}(h:En K F k p xs)(s:AY F F'):En K F' k p xs:=by
 cases k with
 |lst=>exact s _ _ h
 |rl=>exact h.elim (λ⟨o,z⟩=>.inl ⟨o,s _ _ z⟩) .inr
 |tup=>exact s _ _ h
 |rt=>exact Fd s h
 |pin q=>exact s _ _ h
def J1(k:Kd)(p:Addr):Prop:=match k with
 |.lst=>True
 |.pin q=>q=p
 |_=>False
theorem J1.node{K}(hk:J1 k p)(h:F p=some (.lst xs)):En K F k p xs:=by
 cases k with
 |lst=>exact h
 |pin q=>exact h
 |_=>exact hk.elim
def Kl(ks:List Int)(xs:List V):List (Key×V):=List.zipWith (λk x=>(Sum.inl k,x)) ks xs
def C8(ks:List Str)(xs:List V):List (Key×V):=List.zipWith (λk x=>(Sum.inr k,x)) ks xs
def Hj(F:Hp)(dx:Option Addr)(v:V):Prop:=∃d od u,dx=some d/\F d=some (.frz od (.own 0))/\A5 v u/\PySem.W.lookIn "step" od=some (some u)
theorem Hj.of(h:Hj F dx v)(s:∀a u,F a=some u->F' a=some u):Hj F' dx v :=
 let ⟨d,od,u,e,h1,r⟩:=h;⟨d,od,u,e,s _ _ h1,r⟩
def J2(F:Hp)(k:Ob)(p:Addr)(xs:List V):Prop:=match k with
 |.ins C fs=>∃dx,F p=some (.ins C dx (fs.zip xs))
 |.exn C=>∃dx,FV F p C dx/\∀v∈xs,Hj F dx v
 |.sdc ks=>ks.length=xs.length/\F p=some (.dK (C8 ks xs))
 |.lab q=>q=p/\xs=[.ref p]
theorem J2.same(h:J2 F k p xs)(s:AY F F'):J2 F' k p xs:=by
 cases k with
 |ins C fs=>exact h.elim λdx e=>⟨dx,s _ _ e⟩
 |exn C=>exact h.elim λdx e=>⟨dx,e.1.of λu=>s p u,λv hv=>(e.2 v hv).of s⟩
 |sdc ks=>exact⟨h.1,s _ _ h.2⟩
 |lab q=>exact h
inductive Rp(K:k7)(F H:Hp):T->V->Rg->Prop where
 |non:Rp K F H .non .non R0
 |bl (b:Bool):Rp K F H (.bl b) (.bl b) R0
 |int (i:Int):Rp K F H (.int i) (.int i) R0
 |str (x:Str):Rp K F H (.str x) (.str x) R0
 |shr {k:Kd} {p:Addr} {xs:List V} {l:List T} (h:En K F k p xs) (e:l.length=xs.length) (c:∀(i:Nat) (t:T) (x:V),l[i]?=some t->xs[i]?=some x->Rp K F H t x R0):Rp K F H (.nd false k l) (.ref p) R0
 |dic {p:Addr} {ob:Obj} {ks:List Int} {xs:List V} {l:List T} (h:F p=some (.frz ob (.dK (Kl ks xs)))) (e:l.length=xs.length) (ek:ks.length=xs.length) (c:∀(i:Nat) (t:T) (x:V),l[i]?=some t->xs[i]?=some x->Rp K F H t x R0):Rp K F H (.dic ks l) (.ref p) R0
 |pdc {p:Addr} {ks:List Int} {xs:List V} {l:List T} (h:F p=some (.dK (Kl ks xs))) (e:l.length=xs.length) (ek:ks.length=xs.length) (c:∀(i:Nat) (t:T) (x:V),l[i]?=some t->xs[i]?=some x->Rp K F H t x R0):Rp K F H (.pdc ks l) (.ref p) R0
 |odc {p:Addr} {ks:List Int} {xs:List V} {l:List T} (f:F p=none) (h:H p=some (.dK (Kl ks xs))) (e:l.length=xs.length) (ek:ks.length=xs.length) (c:∀(i:Nat) (t:T) (x:V),l[i]?=some t->xs[i]?=some x->Rp K F H t x R0):Rp K F H (.odc ks l) (.ref p) (λa=>a=p)
 |obj {k:Ob} {p:Addr} {xs:List V} {l:List T} (h:J2 F k p xs) (e:l.length=xs.length) (c:∀(i:Nat) (t:T) (x:V),l[i]?=some t->xs[i]?=some x->Rp K F H t x R0):Rp K F H (.obj k l) (.ref p) R0
 |oob {C p dx:Addr} {fs:List Str} {xs:List V} {l:List T} (R:Nat->Rg) (f:F p=none) (h:H p=some (.ins C dx (fs.zip xs))) (e:l.length=xs.length) (c:∀(i:Nat) (t:T) (x:V),l[i]?=some t->xs[i]?=some x->Rp K F H t x (R i))
   (d:∀i j a,i≠j->R i a->¬ R j a) (dp:∀i,¬ R i p) (o:∀i a,R i a->i<l.length):Rp K F H (.oob p C fs l) (.ref p) (λa=>a=p\/∃i,R i a)
 |osd {p:Addr} {ks:List Str} {xs:List V} {l:List T} (f:F p=none) (h:H p=some (.dK (C8 ks xs))) (e:l.length=xs.length) (ek:ks.length=xs.length) (c:∀(i:Nat) (t:T) (x:V),l[i]?=some t->xs[i]?=some x->Rp K F H t x R0):Rp K F H (.osd ks l) (.ref p) (λa=>a=p)
 |own {k:Kd} {p:Addr} {xs:List V} {l:List T} (hk:J1 k p) (R:Nat->Rg) (f:F p=none) (h:H p=some (.lst xs)) (e:l.length=xs.length) (c:∀(i:Nat) (t:T) (x:V),l[i]?=some t->xs[i]?=some x->Rp K F H t x (R i))
   (d:∀i j a,i≠j->R i a->¬ R j a) (dp:∀i,¬ R i p) (o:∀i a,R i a->i<l.length):Rp K F H (.nd true k l) (.ref p) (λa=>a=p\/∃i,R i a)
section
variable {K:k7}{F F' H H':Hp}{t:T}{x:V}{A:Rg}
theorem Rp.frame(h:Rp K F H t x A)(s:AY F F')(k:∀a,A a->H' a=H a/\F' a=none):Rp K F' H' t x A:=by
 induction h with
 |non=>exact .non
 |bl b=>exact .bl b
 |int i=>exact .int i
 |str y=>exact .str y
 |shr h e c ih=>exact .shr (h.same s) e λi t x h1 h2=>ih i t x h1 h2 λa z=>z.elim
 |dic h e ek c ih=>exact .dic (s _ _ h) e ek λi t x h1 h2=>ih i t x h1 h2 λa z=>z.elim
 |pdc h e ek c ih=>exact .pdc (s _ _ h) e ek λi t x h1 h2=>ih i t x h1 h2 λa z=>z.elim
 |odc f h e ek c ih =>
  have q:=k _ rfl;exact .odc q.2 (q.1.trans h) e ek λi t x h1 h2=>ih i t x h1 h2 λa z=>z.elim
 |obj h e c ih=>exact .obj (h.same s) e λi t x h1 h2=>ih i t x h1 h2 λa z=>z.elim
 |oob R f h e c d dp o ih =>
  have q:=k _ (.inl rfl);exact .oob R q.2 (q.1.trans h) e (λi t x h1 h2=>ih i t x h1 h2 λa z=>k a (.inr ⟨i,z⟩)) d dp o
 |osd f h e ek c ih =>
  have q:=k _ rfl;exact .osd q.2 (q.1.trans h) e ek λi t x h1 h2=>ih i t x h1 h2 λa z=>z.elim
 |own hk R f h e c d dp o ih =>
  have q:=k _ (.inl rfl);exact .own hk R q.2 (q.1.trans h) e (λi t x h1 h2=>ih i t x h1 h2 λa z=>k a (.inr ⟨i,z⟩)) d dp o
theorem Rp.dom(h:Rp K F H t x A)(ha:A a):F a=none/\∃u,H a=some u:=by
 induction h with
 |non=>exact ha.elim
 |bl b=>exact ha.elim
 |int i=>exact ha.elim
 |str y=>exact ha.elim
 |shr h e c ih=>exact ha.elim
 |dic h e ek c ih=>exact ha.elim
 |pdc h e ek c ih=>exact ha.elim
 |odc f h e ek c ih =>
  grind
 |obj h e c ih=>exact ha.elim
 |osd f h e ek c ih =>
  grind
 |@oob C p dx fs xs l R f h e c d dp o ih =>
  rcases ha with rfl|⟨i,z⟩
  .grind
  .have hi:=o i a z;have hx:i<xs.length:=by omega
   exact ih i _ _ (ya0 hi) (ya0 hx) z
 |@own k0 p xs l hk R f h e c d dp o ih =>
  rcases ha with rfl|⟨i,z⟩
  .grind
  .have hi:=o i a z;have hx:i<xs.length:=by omega
   exact ih i _ _ (ya0 hi) (ya0 hx) z
theorem Rp.share(h:Rp K F H t x A)(s:AY F F')(k:∀a u,A a->H a=some u->F' a=some u):Rp K F' H' t.share x R0:=by
 induction h with
 |non=>exact .non
 |bl b=>exact .bl b
 |int i=>exact .int i
 |str y=>exact .str y
 |@shr k0 p xs l h e c ih =>
  rw[T.share,EG];refine .shr (h.same s) (by rw[ya1];exact e) λi t x h1 h2=>?_
  rw[ya3]at h1;obtain⟨t0,e0,rfl⟩:=yaa.mp h1;exact ih i t0 x e0 h2 λa u z=>z.elim
 |@dic p ob ks xs l h e ek c ih =>
  rw[T.share,EG];refine .dic (s _ _ h) (by rw[ya1];exact e) ek λi t x h1 h2=>?_
  rw[ya3]at h1;obtain⟨t0,e0,rfl⟩:=yaa.mp h1;exact ih i t0 x e0 h2 λa u z=>z.elim
 |@pdc p ks xs l h e ek c ih =>
  rw[T.share,EG];refine .pdc (s _ _ h) (by rw[ya1];exact e) ek λi t x h1 h2=>?_
  rw[ya3]at h1;obtain⟨t0,e0,rfl⟩:=yaa.mp h1;exact ih i t0 x e0 h2 λa u z=>z.elim
 |@odc p ks xs l f h e ek c ih =>
  rw[T.share,EG];refine .pdc (k _ _ rfl h) (by rw[ya1];exact e) ek λi t x h1 h2=>?_
  rw[ya3]at h1;obtain⟨t0,e0,rfl⟩:=yaa.mp h1;exact ih i t0 x e0 h2 λa u z=>z.elim
 |@obj k0 p xs l h e c ih =>
  rw[T.share,EG];refine .obj (h.same s) (by rw[ya1];exact e) λi t x h1 h2=>?_
  rw[ya3]at h1;obtain⟨t0,e0,rfl⟩:=yaa.mp h1;exact ih i t0 x e0 h2 λa u z=>z.elim
 |@oob C p dx fs xs l R f h e c d dp o ih =>
  rw[T.share,EG];refine .obj ⟨dx,k _ _ (.inl rfl) h⟩ (by rw[ya1];exact e) λi t x h1 h2=>?_
  grind
 |@osd p ks xs l f h e ek c ih =>
  rw[T.share,EG];refine .obj ⟨ek,k _ _ rfl h⟩ (by rw[ya1];exact e) λi t x h1 h2=>?_
  rw[ya3]at h1;obtain⟨t0,e0,rfl⟩:=yaa.mp h1;exact ih i t0 x e0 h2 λa u z=>z.elim
 |@own k0 p xs l hk R f h e c d dp o ih =>
  rw[T.share,EG];refine .shr (hk.node (k _ _ (.inl rfl) h)) (by rw[ya1];exact e) λi t x h1 h2=>?_
  grind
theorem Rp.r0(h:Rp K F H t x A)(s:t.sh=true):A=R0:=by
 cases h with
 |own hk R f h e c d dp o =>
  cases s
 |odc f h e ek c =>
  cases s
 |oob R f h e c d dp o =>
  cases s
 |osd f h e ek c =>
  cases s
 |_=>rfl
theorem Rp.move(h:Rp K F H t x A)(s:t.sh=true)(q:AY F F'):Rp K F' H' t x R0:=by
 have e:=h.r0 s;subst e;exact h.frame q λa z=>z.elim
theorem Rp.flat_any(h:Rp K F H t x A)(s:t.flat=true):Rp K F' H' t x R0:=by
 cases h with
 |non=>exact .non
 |bl b=>exact .bl b
 |int i=>exact .int i
 |str y=>exact .str y
 |shr h e c=>cases s
 |dic h e ek c=>cases s
 |pdc h e ek c=>cases s
 |odc f h e ek c=>cases s
 |obj h e c=>cases s
 |oob R f h e c d dp o=>cases s
 |osd f h e ek c=>cases s
 |own hk R f h e c d dp o=>cases s
theorem Rp.int_inv{i:Int}(h:Rp K F H (.int i) x A):x=.int i:=by cases h;rfl
theorem Rp.bl_inv{b:Bool}(h:Rp K F H (.bl b) x A):x=.bl b:=by cases h;rfl
theorem Rp.non_inv(h:Rp K F H .non x A):x=.non:=by cases h;rfl
theorem Rp.str_inv{y:Str}(h:Rp K F H (.str y) x A):x=.str y:=by cases h;rfl
end
def Aa(K:k7)(F:Hp)(ts:List T)(xs:List V):Prop:=ts.length=xs.length/\∀(i:Nat) (t:T) (x:V),ts[i]?=some t->xs[i]?=some x->Rp K F F t x R0
theorem Aa.nil{K}:Aa K F [] []:=⟨rfl,λi t x h=>by simp at h⟩
theorem Rp.any{K}(h:Rp K F H t x R0):Rp K F H' t x R0:=h.frame (AY.refl F) λa z=>z.elim
theorem Aa.cons{K:k7}{F H:Hp}{t:T}{x:V}{ts:List T}{xs:List V}(h:Rp K F H t x R0)(r:Aa K F ts xs):Aa K F (t::ts) (x::xs):=by
 refine⟨by simp[r.1],λi t' x' h1 h2=>?_⟩
 cases i with
 |zero =>
  simp at h1 h2;subst h1;subst h2;exact h.any
 |succ j=>exact r.2 j t' x' (by grind) (by grind)
theorem Aa.inv{K}(r:Aa K F (t::ts) xs):∃x xs',xs=x::xs'/\Rp K F F t x R0/\Aa K F ts xs':=by
 obtain⟨e,h⟩:=r;cases xs with
 |nil=>simp at e
 |cons x xs'=>exact⟨x,xs',rfl,h 0 t x rfl rfl,by simpa using e,λi t' x' h1 h2=>h (i+1) t' x' (by grind) (by grind)⟩
theorem Aa.inv0{K}(r:Aa K F [] xs):xs=[]:=by
 obtain⟨e,h⟩:=r
 grind
theorem Aa.same{K}(r:Aa K F ts xs)(s:AY F F'):Aa K F' ts xs:=⟨r.1,λi t x h1 h2=>((r.2 i t x h1 h2).frame s λa z=>z.elim)⟩
theorem Aa.node{K}(h:Rp K F H (.nd false k l) (.ref p) A):∃xs,En K F k p xs/\Aa K F l xs:=by
 cases h with
 |shr h e c=>exact⟨_,h,e,λi t x h1 h2=>(c i t x h1 h2).any⟩
theorem Rp.ref_inv{K}(h:Rp K F H (.nd o k l) x A):∃p,x=.ref p:=by
 cases h with
 |shr h e c=>simp
 |own hk R f h e c d dp o=>simp
theorem Aa.of_node{K}(h:En K F k p xs)(r:Aa K F l xs):Rp K F H (.nd false k l) (.ref p) R0:=.shr h r.1 λi t x h1 h2=>(r.2 i t x h1 h2).any
structure Ext(F H F' H':Hp)(B:Rg):Prop where
 hh:AY H H'
 ff:AY F F'
 fh:AY F' H'
 nb:∀b,B b->H b=none
 nf:∀b u,F' b=some u->F b=some u\/H b=none
theorem Fk(s:AY H H')(h:H' b=none):H b=none:=by
 cases e:H b with
 |none=>rfl
 |some u=>rw[s b u e]at h;cases h
section
variable {F H F1 H1 F2 H2:Hp}{B C:Rg}
theorem Ext.refl(s:AY F H):Ext F H F H R0:=⟨.refl _,.refl _,s,λ_ z=>z.elim,λ_ _ e=>.inl e⟩
theorem Ext.trans(a:Ext F H F1 H1 B)(b:Ext F1 H1 F2 H2 C):Ext F H F2 H2 (λx=>B x\/C x) where
 hh:=a.hh.trans b.hh
 ff:=a.ff.trans b.ff
 fh:=b.fh
 nb:=λx z=>z.elim (a.nb x) λz=>Fk a.hh (b.nb x z)
 nf:=λx u e=>(b.nf x u e).elim (a.nf x u) λz=>.inr (Fk a.hh z)
theorem Ext.mono(a:Ext F H F1 H1 B)(h:∀x,C x->B x):Ext F H F1 H1 C:=⟨a.hh,a.ff,a.fh,λx z=>a.nb x (h x z),a.nf⟩
theorem Ext.trans0(a:Ext F H F1 H1 R0)(b:Ext F1 H1 F2 H2 C):Ext F H F2 H2 C:=(a.trans b).mono λx z=>.inr z
open Classical in
def frz(F H:Hp)(A:Rg):Hp:=λb=>if A b then H b else F b
theorem Fx{A:Rg}{b:Addr}(h:A b):frz F H A b=H b:=by unfold frz;rw[if_pos h]
theorem FL{A:Rg}{b:Addr}(h:¬ A b):frz F H A b=F b:=by unfold frz;rw[if_neg h]
theorem EU(n:∀a,A a->F a=none):AY F (frz F H A):=λb u e=>by
 by_cases h:A b
 .grind
 .rw[FL h];exact e
theorem H9(s:AY F H):AY (frz F H A) H:=λb u e=>by
 by_cases h:A b
 .rw[Fx h]at e;exact e
 .rw[FL h]at e;exact s b u e
theorem Ext.frz(a:Ext F H F1 H1 B)(n:∀b,B b->F1 b=none):Ext F H (frz F1 H1 B) H1 R0 where
 hh:=a.hh
 ff:=a.ff.trans (EU n)
 fh:=H9 a.fh
 nb:=λ_ z=>z.elim
 nf:=λb u e=>by
  by_cases h:B b
  .exact .inr (a.nb b h)
  .rw[FL h]at e;exact a.nf b u e
theorem Rp.ext{K }    (h:Rp K F H t x A)(a:Ext F H F1 H1 B):Rp K F1 H1 t x A:=h.frame a.ff λb z=>by
 obtain⟨f,u,e⟩:=h.dom z;refine⟨(a.hh b u e).trans e.symm,?_⟩;cases q:F1 b with
 |none=>rfl
 |some u' =>
  rcases a.nf b u' q with z|z
  .grind
  grind
theorem Rp.apart{K}(h:Rp K F H t x A)(a:Ext F H F1 H1 B)(hb:B b):¬ A b:=λz=>by
 obtain⟨f,u,e⟩:=h.dom z;rw[a.nb b hb]at e;cases e
theorem Ext.new   (s:AY F H)(h:H p=none):Ext F H (upd F p o) (upd H p o) R0 where
 hh:=Jw h o
 ff:=Jw (Fk s h) o
 fh:=λb u e=>by
  by_cases hb:b=p
  .subst hb;rw[BQ]at e ⊢;exact e
  .rw[A3 hb]at e ⊢;exact s b u e
 nb:=λ_ z=>z.elim
 nf:=λb u e=>by
  by_cases hb:b=p
  .grind
  .rw[A3 hb]at e;exact .inl e
theorem Ext.newO   (s:AY F H)(h:H p=none):Ext F H F (upd H p o) (λa=>a=p) where
 hh:=Jw h o
 ff:=.refl _
 fh:=λb u e=>Jw h o b u (s b u e)
 nb:=λb z=>by grind
 nf:=λb u e=>.inl e
end
abbrev AM:=List (Option T)
structure StR(K:k7)(F H:Hp)(σ:L2.St)(τ:AM)(R:Nat->Rg):Prop where
 fh:AY F H
 len:σ.length=τ.length
 rep:∀i t,τ[i]?=some (some t)->∃x,σ[i]?=some (some x)/\Rp K F H t x (R i)
 out:∀i a,R i a->∃t,τ[i]?=some (some t)
 dis:∀i j a,i≠j->R i a->¬ R j a
section
variable {K:k7}{F H F1 H1:Hp}{σ:L2.St}{τ:AM}{R:Nat->Rg}{B:Rg}
theorem StR.dom(h:StR K F H σ τ R)(ha:R i a):F a=none/\∃u,H a=some u:=by
 obtain⟨t,e⟩:=h.out i a ha;obtain⟨x,_,r⟩:=h.rep i t e;exact r.dom ha
theorem StR.ext(h:StR K F H σ τ R)(a:Ext F H F1 H1 B):StR K F1 H1 σ τ R where
 fh:=a.fh
 len:=h.len
 rep:=λi t e=>by
  obtain⟨x,e1,r⟩:=h.rep i t e;exact⟨x,e1,r.ext a⟩
 out:=h.out
 dis:=h.dis
theorem StR.apart(h:StR K F H σ τ R)(a:Ext F H F1 H1 B)(hb:B b)(i):¬ R i b:=λz=>by
 obtain⟨f,u,e⟩:=h.dom z;rw[a.nb b hb]at e;cases e
end
def Uz:Key->PyData
 |.inl i=>.int i
 |.inr x=>.str x
mutual
def T.data:T->PyData
 |.non=>.none
 |.bl b=>.bool b
 |.int i=>.int i
 |.str x=>.str x
 |.nd _ .lst l=>.list (BV l)
 |.nd _ .rl l=>.list (BV l)
 |.nd _ .tup l=>.tuple (BV l)
 |.nd _ .rt l=>.tuple (BV l)
 |.nd _ (.pin _) l=>.list (BV l)
 |.dic ks l=>.dict ((ks.map PyData.int).zip (BV l))
 |.pdc ks l=>.dict ((ks.map PyData.int).zip (BV l))
 |.odc ks l=>.dict ((ks.map PyData.int).zip (BV l))
 |.obj _ _=>.none
 |.oob _ _ _ _=>.none
 |.osd _ _=>.none
def BV:List T->List PyData
 |[]=>[]
 |t::r=>t.data::BV r
end
mutual
def T.pln:T->Bool
 |.nd _ _ l=>Dj l
 |.dic _ l=>Dj l
 |.pdc _ l=>Dj l
 |.odc _ l=>Dj l
 |.obj _ _=>false
 |.oob _ _ _ _=>false
 |.osd _ _=>false
 |.non=>true
 |.bl _=>true
 |.int _=>true
 |.str _=>true
def Dj:List T->Bool
 |[]=>true
 |t::r=>t.pln && Dj r
end
theorem EJ:∀{l},Dj l=true->∀{i:Nat} {t},l[i]?=some t->t.pln=true
 |[],_,i,t,e=>by simp at e
 |a::r,h,i,t,e=>by
  rw[Dj,ya4]at h;cases i with
  |zero =>
   grind
  |succ i=>exact EJ h.2 (by simpa using e)
theorem Rn:∀{l} {us},l.length=us.length->(∀(i:Nat) (t) (u),l[i]?=some t->us[i]?=some u->∃as,Reads h u t.data as)->∃as,ReadsAll h us (BV l) as
 |[],[],_,_=>⟨_,.nil⟩
 |[],_::_,e,_=>by simp at e
 |_::_,[],e,_=>by simp at e
 |t::l,u::us,e,f=>by
  obtain⟨a1,r1⟩:=f 0 t u rfl rfl;obtain⟨a2,r2⟩:=Rn (by simpa using e) λi t' u' h1 h2=>f (i+1) t' u' (by grind) (by grind)
  exact⟨_,.cons r1 r2⟩
theorem Nh(e:(Cc P w).is k v=true):Reads h v (Uz k) []:=by
 rcases ET (e) with ⟨i,t,rfl,rfl⟩|⟨x,t,rfl,rfl⟩
 .exact .int i t
 .exact .str x t
theorem KS:∀(ks) (xs) (l) (vs),KV (Kl ks xs) vs->l.length=xs.length->ks.length=xs.length->(∀(i:Nat) (t) (x),l[i]?=some t->xs[i]?=some x->∀{u},A5 x u->∃as,Reads h u t.data as) ->
  ∃bs,PyProof.V.PairsRead h Uz vs ((ks.map PyData.int).zip (BV l)) bs
 |[],xs,l,vs,r,_,_,_=>by
  have r' :=(r);cases r';exact⟨_,.nil⟩
 |k::ks,[],l,vs,r,_,ek,_=>by simp at ek
 |k::ks,x::xs,[],vs,r,e,_,_=>by simp at e
 |k::ks,x::xs,t::l,vs,r,e,ek,f=>by
  have r' :=r;cases r' with
  |@cons _ q _ qs hd tl =>
   obtain⟨a1,r1⟩:=f 0 t x rfl rfl hd.2;obtain⟨a2,r2⟩:=KS ks xs l qs tl (by simpa using e) (by grind) λi t' x' h1 h2=>f (i+1) t' x' (by grind) (by grind)
   obtain⟨q1,q2⟩:=q;cases (hd.1);exact⟨_,.cons r1 r2⟩
section
variable {X:Cx}{pins:List (Addr×Obj)}{σ:L2.St}{F H:Hp}{s:Shared}
theorem Fg(I:Inv X pins σ H s)(fh:AY F H)(h:Rp X.K F H t x A)(hpl:t.pln=true):∀{u},A5 x u->∃as,Reads s.heap u t.data as:=by
 have kids:∀{l } {xs } {its },A9 xs its->l.length=xs.length->(∀(i:Nat) (t ) (x ),l[i]?=some t->xs[i]?=some x->∀{u },A5 x u->∃as,Reads s.heap u t.data as)->∃as,ReadsAll s.heap its (BV l) as:=by
  intro l xs its r e ih;refine Rn (e.trans r.length) λi t u h1 h2=>?_
  have hi:i<xs.length:=by
   have:=(ya9.mp h1).1
   omega
  obtain⟨u',e1,r1⟩:=r.get (ya0 hi);rw[h2]at e1;cases e1;exact ih i t _ h1 (ya0 hi) r1
 have lsts:∀{p } {l } {xs },Ad X.K H p xs->l.length=xs.length->(∀(i:Nat) (t ) (x ),l[i]?=some t->xs[i]?=some x->∀{u },A5 x u->∃as,Reads s.heap u t.data as)->∃as,Reads s.heap (.ref p) (.list (BV l)) as:=by
  intro p l xs hq e ih;obtain⟨its,r,⟨o,n,e1,e2,e3,e4⟩,_⟩:=I.list hq;obtain⟨as,ra⟩:=kids r e ih;exact⟨_,.list e1 e2 e4 (by simpa using ra)⟩
 have tups:∀{p } {l } {xs },Bp X.K H p xs->l.length=xs.length->(∀(i:Nat) (t ) (x ),l[i]?=some t->xs[i]?=some x->∀{u },A5 x u->∃as,Reads s.heap u t.data as)->∃as,Reads s.heap (.ref p) (.tuple (BV l)) as:=by
  intro p l xs hq e ih;obtain⟨its,r,⟨o,e1,e2,n,e4⟩,_⟩:=I.tuple hq;obtain⟨as,ra⟩:=kids r e ih;exact⟨_,.tuple e1 e2 e4 (by simpa using ra)⟩
 induction h with
 |non=>intro u r;cases r;exact⟨_,.none⟩
 |bl b=>intro u r;cases r;exact⟨_,.bool b⟩
 |int i=>intro u r;obtain⟨t,rfl⟩:=r;exact⟨_,.int i t⟩
 |str y=>intro u r;obtain⟨t,rfl⟩:=r;exact⟨_,.str y t⟩
 |@shr k p xs l h e c ih =>
  intro u r;cases r;cases k with
  |lst=>exact lsts (Ad.of (fh _ _ h)) e λi t x h1 h2=>ih i t x h1 h2 (EJ hpl h1)
  |rl=>exact lsts (fh.seq h.l) e λi t x h1 h2=>ih i t x h1 h2 (EJ hpl h1)
  |tup=>exact tups (Bp.of (fh _ _ h)) e λi t x h1 h2=>ih i t x h1 h2 (EJ hpl h1)
  |rt=>exact tups (Fd fh h) e λi t x h1 h2=>ih i t x h1 h2 (EJ hpl h1)
  |pin q=>exact lsts (Ad.of (fh _ _ h)) e λi t x h1 h2=>ih i t x h1 h2 (EJ hpl h1)
 |@dic p ob ks xs l h e ek c ih =>
  intro u r;cases r;obtain⟨ho,z,hd,vs,rel,dd⟩:=(I.hok p _ (fh _ _ h));obtain⟨bs,pr⟩:=KS ks xs l vs rel e ek λi t x h1 h2=>ih i t x h1 h2 (EJ hpl h1)
  exact⟨_,ycu (λk v q=>Nh q) dd pr⟩
 |@pdc p ks xs l h e ek c ih =>
  intro u r;cases r;obtain⟨z,hd,vs,rel,dd⟩:=(I.hok p _ (fh _ _ h));obtain⟨bs,pr⟩:=KS ks xs l vs rel e ek λi t x h1 h2=>ih i t x h1 h2 (EJ hpl h1)
  exact⟨_,ycu (λk v q=>Nh q) dd pr⟩
 |@odc p ks xs l f h e ek c ih =>
  intro u r;cases r;obtain⟨z,hd,vs,rel,dd⟩:=(I.hok p _ h);obtain⟨bs,pr⟩:=KS ks xs l vs rel e ek λi t x h1 h2=>ih i t x h1 h2 (EJ hpl h1)
  exact⟨_,ycu (λk v q=>Nh q) dd pr⟩
 |obj h e c ih=>cases hpl
 |oob R f h e c d dp o ih=>cases hpl
 |osd f h e ek c ih=>cases hpl
 |@own k0 p xs l hk R f h e c d dp o ih =>
  intro u r;cases r;cases k0 with
  |lst=>exact lsts (Ad.of h) e λi t x h1 h2=>ih i t x h1 h2 (EJ hpl h1)
  |pin q=>exact lsts (Ad.of h) e λi t x h1 h2=>ih i t x h1 h2 (EJ hpl h1)
  |_=>exact hk.elim
end
noncomputable def DW(t:T):Bool:=t.pln && t.data.canLay0
def JE(t u:T):Bool:=PyData.eqv t.data u.data
def Ga(t u:T):Bool:=DW t && DW u && decide (min t.data.depth u.data.depth<=60)
def BJ(t u:T):Option T:=if Ga t u then some (.bl (JE t u)) else none
def BL(t u:T):Option T:=if Ga t u then some (.bl (!JE t u)) else none
def Fu(t:T)(l:List T):Bool:=DW t && (Dj l && PyData.canLayAll0 (BV l)) && decide (min (PyData.depthAll (BV l)) t.data.depth<=60)
def Iv(t:T)(l:List T):Bool:=(BV l).any λy=>PyData.eqv y t.data
def VN(t:T)(y:Str):Option T:=match t with
 |.str x=>some (.bl (!(Builtin.Str.occurrences y x 0 y.length 1).isEmpty))
 |_=>none
def Bj(t c:T):Option T:=match c with
 |.nd _ _ l=>if Fu t l then some (.bl (Iv t l)) else none
 |.str y=>VN t y
 |_=>none
def G1(t c:T):Option T:=match c with
 |.nd _ _ l=>if Fu t l then some (.bl (!Iv t l)) else none
 |_=>none
def Cg(K:k7)(F H:Hp)(v:T)(Q:VK):Prop:=∀F' H' z C,Ext F H F' H' C->Rp K F' H' v z C->Q z H'
def Bb(K:k7)(g:T->T->Option T):R2:=λx y H Q=>∃F t u v,AY F H/\Rp K F F t x R0/\Rp K F F u y R0/\g t u=some v/\Cg K F H v Q
def KO(K:k7)(g:T->Option T):V->Hp->VK->Prop:=λx H Q=>∃F t v,AY F H/\Rp K F F t x R0/\g t=some v/\Cg K F H v Q
def Di(K:k7)(g:List T->Option T):List V->Hp->VK->Prop:=λxs H Q=>∃F ts v,AY F H/\Aa K F ts xs/\g ts=some v/\Cg K F H v Q
section
variable {K:k7}{F H:Hp}{Q:VK}
theorem Cg.int(q:Cg K F H (.int i) Q)(s:AY F H):Q (.int i) H:=q F H _ _ (Ext.refl s) (.int i)
theorem Cg.bl(q:Cg K F H (.bl b) Q)(s:AY F H):Q (.bl b) H:=q F H _ _ (Ext.refl s) (.bl b)
theorem Cg.str(q:Cg K F H (.str x) Q)(s:AY F H):Q (.str x) H:=q F H _ _ (Ext.refl s) (.str x)
theorem Cg.list   (q:Cg K F H (.own l) Q)(s:AY F H)(r:Aa K F l xs)  (hp:H p=none):Q (.ref p) (upd H p (.lst xs)):=by
 refine q F (upd H p (.lst xs)) (.ref p) _ ((Ext.newO s hp).mono ?_) (.own (k:=.lst) trivial (λ_=>R0) (Fk s hp) BQ r.1 (λi t x h1 h2=>?_) (λ_ _ _ _ z=>z.elim) (λ_ z=>z) (λ_ _ z=>z.elim))
 .rintro a (z|⟨i,z⟩)
  .exact z
  .exact z.elim
 .exact(r.2 i t x h1 h2).any
theorem Cg.tuple(q:Cg K F H (.tup l) Q)(s:AY F H)(r:Aa K F l xs)(hp:H p=none):Q (.ref p) (upd H p (.tup xs)):=by
 have e:=Ext.new (o:=.tup xs) s hp;exact q _ _ _ _ e (Aa.of_node BQ (r.same e.ff))
end
def Dg(i:Int):Bool:=@decide (-(2 ^ 64)<i/\i<2 ^ 64) (Classical.propDecidable _)
def BZ(i:Int):Bool:=@decide (-(10 ^ 70)<i/\i<10 ^ 70) (Classical.propDecidable _)
def VC(k:Int):Bool:=@decide (k<2 ^ 63/\-(2 ^ 63)<=k) (Classical.propDecidable _)
def Bw(i j:Int):Bool:=Dg i || Dg j || (BZ i && BZ j)
noncomputable def BO:Nat:=16777216
def BK:T->T->Option T
 |.int i,.int j=>some (.int (i+j))
 |.str x,.str y=>if x.length+y.length<=BO then some (.str (x++y)) else none
 |.nd _ .lst l,.nd _ .lst m=>if l.length+m.length<=BO then some (.own (l++m)) else none
 |_,_=>none
def Dv:T->T->Option T
 |.int i,.int j=>some (.int (i - j))
 |_,_=>none
def B9:T->T->Option T
 |.int i,.int j=>if Bw i j then some (.int (i * j)) else none
 |.nd _ .lst l,.int k=>if VC k=true/\l.length * k.toNat<=BO then some (.own (List.replicate k.toNat l).flatten) else none
 |.str x,.int k=>if 0<=k/\k<=1000000/\x.length<=16 then some (.str (Txt.mul x k)) else none
 |_,_=>none
def Ap:T->T->Option T
 |.int i,.int j=>if j≠0 then some (.int (i.fmod j)) else none
 |_,_=>none
def B3:T->T->Option T
 |.int i,.int j=>if j≠0/\BZ j then some (.int (i.fdiv j)) else none
 |_,_=>none
def Ez:T->T->Option T
 |.int i,.int j=>if 0<=j/\j<=1000000/\Dg i then some (.int (i ^ j.toNat)) else none
 |_,_=>none
def Bg(f:Int->Int->Bool):T->T->Option T
 |.int i,.int j=>some (.bl (f i j))
 |_,_=>none
def Cp:T->Option T
 |.int i=>some (.int (-i))
 |_=>none
theorem M6(h:Dg i=true):-(2 ^ 64)<i/\i<2 ^ 64:=@of_decide_eq_true _ (Classical.propDecidable _) h
theorem M5(h:BZ i=true):Sm i:=@of_decide_eq_true _ (Classical.propDecidable _) h
theorem VB(h:VC k=true):k<2 ^ 63/\-(2 ^ 63)<=k:=@of_decide_eq_true _ (Classical.propDecidable _) h
theorem FI:BO=sizeLine:=by rw[ydx];rfl
theorem KI{K}{F}:∀{l m} {xs ys},Aa K F l xs->Aa K F m ys->Aa K F (l++m) (xs++ys)
 |[],m,xs,ys,r,q=>by rw[r.inv0];exact q
 |t::l,m,xs,ys,r,q=>by
  obtain⟨x,xs',rfl,r1,r2⟩:=r.inv;exact .cons r1 (KI r2 q)
theorem Rj{K}(r:Aa K F l xs):∀n ,Aa K F (List.replicate n l).flatten (List.replicate n xs).flatten
 |0=>.nil
 |n+1=>by
  exact KI r (Rj r n)
section
variable {X:Cx}
theorem EL{K}(h:Rp K F H (.nd o k l) x R0):∃p xs,x=.ref p/\o=false/\En K F k p xs/\Aa K F l xs:=by
 generalize hA:R0=A at h;cases h with
 |shr h e c=>exact⟨_,_,rfl,rfl,h,e,λi t x h1 h2=>(hA▸c i t x h1 h2).any⟩
 |@own k0 p xs l hk R f h e c d dp o =>
  exfalso
  have:R0 p:=by grind
  exact this
theorem zhz:Af X (binaryOp .Add) (Bb X.K BK):=by
 intro pins s σ H x y v u Q I rx ry h;obtain⟨F,t1,t2,r,fh,r1,r2,e,q⟩:=h;unfold BK at e;split at e
 .cases e;rw[r1.int_inv]at rx;rw[r2.int_inv]at ry;exact zld pins s σ H _ _ v u Q I rx ry ⟨_,_,rfl,rfl,q.int fh⟩
 .split at e
  .cases e;rename_i hz;rw[r1.str_inv]at rx;rw[r2.str_inv]at ry;exact zcf pins s σ H _ _ v u Q I rx ry ⟨_,_,rfl,rfl,by rw[<- FI];exact hz,q.str fh⟩
  .cases e
 .split at e
  .cases e;rename_i hz;obtain⟨p,xs,rfl,rfl,n1,k1⟩:=EL r1;obtain⟨p2,ys,rfl,rfl,n2,k2⟩:=EL r2;refine zlc pins s σ H _ _ v u Q I rx ry ⟨p,p2,xs,ys,rfl,rfl,fh _ _ n1,fh _ _ n2,?_,λa ha=>q.list fh (KI k1 k2) ha⟩
   rw[<- k1.1,<- k2.1,<- FI];exact hz
  .cases e
 .cases e
theorem IW(ho:Af X f (rI C g))(hg:∀t u v,gT t u=some v->∃i j,t=.int i/\u=.int j/\C i j/\((∃k,v=.int k/\g i j=.int k)\/∃k,v=.bl k/\g i j=.bl k)):Af X f (Bb X.K gT):=by
 intro pins s σ H x y v u Q I rx ry h;obtain⟨F,t1,t2,r,fh,r1,r2,e,q⟩:=h;obtain⟨i,j,rfl,rfl,hc,hv⟩:=hg _ _ _ e;rw[r1.int_inv]at rx;rw[r2.int_inv]at ry;refine ho pins s σ H _ _ v u Q I rx ry ⟨i,j,rfl,rfl,hc,?_⟩
 rcases hv with ⟨k,rfl,ek⟩|⟨k,rfl,ek⟩
 .rw[ek];exact q.int fh
 .rw[ek];exact q.bl fh
theorem Af.weak(h:Af X f r)(w:∀x y H Q,r' x y H Q->r x y H Q):Af X f r':=λpins s σ H x y v u Q I rx ry q=>h pins s σ H x y v u Q I rx ry (w x y H Q q)
theorem Rm(h:Af X f (Eb g)):Af X f (rI (λ_ _=>True) g):=Af.weak h λx y H Q ⟨i,j,a,b,_,q⟩=>⟨i,j,a,b,q⟩
theorem zhu:Af X (binaryOp .Sub) (Bb X.K Dv):=IW (Rm zl7) λt u v h=>by
 unfold Dv at h
 grind
theorem zhx:Af X (binaryOp .Mod) (Bb X.K Ap):=IW zht λt u v h=>by
 unfold Ap at h
 grind
theorem zf9:Af X (binaryOp .FloorDiv) (Bb X.K B3):=IW zf8 λt u v h=>by
 unfold B3 at h;split at h
 .split at h
  .cases h;rename_i hc;exact⟨_,_,rfl,rfl,⟨hc.1,M5 hc.2⟩,.inl ⟨_,rfl,rfl⟩⟩
  .cases h
 .cases h
theorem zhv:Af X (binaryOp .Pow) (Bb X.K Ez):=IW zl9 λt u v h=>by
 unfold Ez at h;split at h
 .split at h
  .cases h;rename_i hc;have q:=M6 hc.2.2;exact⟨_,_,rfl,rfl,⟨hc.1,hc.2.1,by omega⟩,.inl ⟨_,rfl,rfl⟩⟩
  .cases h
 .cases h
theorem KU(ho:Af X (compareOp op) (Eb λi j=>.bl (g i j))):Af X (compareOp op) (Bb X.K (Bg g)):=IW (Rm ho) λt u v h=>by
 unfold Bg at h
 grind
theorem zhw:Af X (binaryOp .Mult) (Bb X.K B9):=by
 intro pins s σ H x y v u Q I rx ry h;obtain⟨F,t1,t2,r,fh,r1,r2,e,q⟩:=h;unfold B9 at e;split at e
 .rename_i i j;split at e
  .cases e;rename_i hc;rw[r1.int_inv]at rx;rw[r2.int_inv]at ry;unfold Bw at hc;rw[ybw,ybw,ya4]at hc
   rcases hc with (hc|hc)|hc
   .exact Sx pins s σ H _ _ v u Q I rx ry ⟨i,j,rfl,rfl,.inl (M6 hc),q.int fh⟩
   .exact Sx pins s σ H _ _ v u Q I rx ry ⟨i,j,rfl,rfl,.inr (M6 hc),q.int fh⟩
   .exact zhs pins s σ H _ _ v u Q I rx ry ⟨i,j,rfl,rfl,⟨M5 hc.1,M5 hc.2⟩,q.int fh⟩
  .cases e
 .split at e
  .cases e;rename_i hc;obtain⟨p,xs,rfl,rfl,n1,k1⟩:=EL r1;rw[r2.int_inv]at ry;refine zl8 pins s σ H _ _ v u Q I rx ry ⟨p,_,xs,rfl,rfl,fh _ _ n1,(VB hc.1).2,(VB hc.1).1,?_,λa ha=>q.list fh (Rj k1 _) ha⟩
   rw[<- k1.1,<- FI];exact hc.2
  .cases e
 .split at e
  .cases e;rename_i hc;rw[r1.str_inv]at rx;rw[r2.int_inv]at ry;obtain⟨t1,rfl⟩:=rx;obtain⟨t2,rfl⟩:=ry;exact SB.mul (mulOk_of 16 1048576 hc.2.2 (by omega) (by omega) (by decide) (by decide)) λt' k=>⟨.str _,H,I.tok _,⟨_,rfl⟩,q.str fh⟩
  .cases e
 .cases e
theorem QH:JM X (unaryOp .USub) (KO X.K Cp):=by
 intro pins s σ H x v Q I rx h;obtain⟨F,t,r,fh,r1,e,q⟩:=h;unfold Cp at e;split at e
 .cases e;rw[r1.int_inv]at rx;exact zjj pins s σ H _ v Q I rx ⟨_,rfl,q.int fh⟩
 .cases e
theorem W6{A:Around}(hu:A.units+64<cLine)(h:n<=60):A.units+n<cLine:=by omega
theorem zlg(hu:X.A.units+64<cLine):Af X (compareOp .Eq) (Bb X.K BJ):=by
 intro pins s σ H x y v u Q I rx ry h;obtain⟨F,t1,t2,r,fh,r1,r2,e,q⟩:=h;unfold BJ at e;split at e
 .cases e;rename_i hc;unfold Ga DW at hc;rw[ya4,ya4,ya4,ya4,yee]at hc;obtain⟨a1,q1⟩:=Fg I fh (r1.any) hc.1.1.1 rx;obtain⟨a2,q2⟩:=Fg I fh (r2.any) hc.1.2.1 ry;exact SeqAt.compareEq_reads q1 q2 hc.1.1.2 hc.1.2.2 (W6 hu hc.2) ⟨.bl _,H,I,rfl,q.bl fh⟩
 .cases e
theorem Mi(hu:X.A.units+64<cLine):Af X (compareOp .In) (Bb X.K Bj):=by
 intro pins s σ H x y v u Q I rx ry h;obtain⟨F,t1,t2,r,fh,r1,r2,e,q⟩:=h;unfold Bj at e;split at e
 .rename_i o k l;split at e
  .cases e;rename_i hc;unfold Fu DW at hc;rw[ya4,ya4,ya4,ya4,yee]at hc;obtain⟨a1,q1⟩:=Fg I fh (r1.any) hc.1.1.1 rx;obtain⟨a2,q2⟩:=Fg I fh (r2.any) (hc.1.2.1) ry;have hd:X.A.units+1+min (PyData.depthAll (BV l)) t1.data.depth<cLine:=by omega
   cases k with
   |lst=>exact yd7 q2 q1 hc.1.2.2 hc.1.1.2 hd ⟨.bl _,H,I,rfl,q.bl fh⟩
   |rl=>exact yd7 q2 q1 hc.1.2.2 hc.1.1.2 hd ⟨.bl _,H,I,rfl,q.bl fh⟩
   |tup=>exact SeqAt.in_tuple_reads q2 q1 hc.1.2.2 hc.1.1.2 hd ⟨.bl _,H,I,rfl,q.bl fh⟩
   |rt=>exact SeqAt.in_tuple_reads q2 q1 hc.1.2.2 hc.1.1.2 hd ⟨.bl _,H,I,rfl,q.bl fh⟩
   |pin _=>exact yd7 q2 q1 hc.1.2.2 hc.1.1.2 hd ⟨.bl _,H,I,rfl,q.bl fh⟩
  .cases e
 .unfold VN at e;split at e
  .cases e;rw[r1.str_inv]at rx;rw[r2.str_inv]at ry;exact zdd pins s σ H _ _ v u Q I rx ry ⟨_,_,rfl,rfl,q.bl fh⟩
  .cases e
 .cases e
theorem zde(hu:X.A.units+64<cLine):Af X (compareOp .NotIn) (Bb X.K G1):=by
 intro pins s σ H x y v u Q I rx ry h;obtain⟨F,t1,t2,r,fh,r1,r2,e,q⟩:=h;unfold G1 at e;split at e
 .rename_i o k l;split at e
  .cases e;rename_i hc;unfold Fu DW at hc;rw[ya4,ya4,ya4,ya4,yee]at hc;obtain⟨a1,q1⟩:=Fg I fh (r1.any) hc.1.1.1 rx;obtain⟨a2,q2⟩:=Fg I fh (r2.any) (hc.1.2.1) ry;have hd:X.A.units+1+min (PyData.depthAll (BV l)) t1.data.depth<cLine:=by omega
   cases k with
   |lst=>exact ycv q2 q1 hc.1.2.2 hc.1.1.2 hd ⟨.bl _,H,I,rfl,q.bl fh⟩
   |rl=>exact ycv q2 q1 hc.1.2.2 hc.1.1.2 hd ⟨.bl _,H,I,rfl,q.bl fh⟩
   |tup=>exact SeqAt.notIn_tuple_reads q2 q1 hc.1.2.2 hc.1.1.2 hd ⟨.bl _,H,I,rfl,q.bl fh⟩
   |rt=>exact SeqAt.notIn_tuple_reads q2 q1 hc.1.2.2 hc.1.1.2 hd ⟨.bl _,H,I,rfl,q.bl fh⟩
   |pin _=>exact ycv q2 q1 hc.1.2.2 hc.1.1.2 hd ⟨.bl _,H,I,rfl,q.bl fh⟩
  .cases e
 .cases e
end
inductive Rs where
 |v (t:T) (b:Bool)|x (c:Str)
abbrev AI:=AM->Option Rs
inductive RsL where
 |v (ts:List T) (b:Bool)|x (c:Str)
abbrev Ao:=AM->Option RsL
def tot(R:Nat->Rg):Rg:=λa=>∃i,R i a
def DY(K:k7)(F H:Hp)(R:Nat->Rg)(v:T)(b:Bool)(x:V)(B:Rg):Prop:=match b with
 |true=>B=R0/\∃A,(∀a,A a->tot R a)/\Rp K F H v x A
 |false=>Rp K F H v x B
def Gz(b:Bool)(F H:Hp)(R:Nat->Rg):Hp:=match b with
 |true=>frz F H (tot R)
 |false=>F
section
variable {K:k7}{F H F1 H1:Hp}{σ:L2.St}{τ:AM}{R:Nat->Rg}{B:Rg}{b c:Bool}{v:T}{x:V}
theorem StR.tot(S:StR K F H σ τ R)(h:tot R a):F a=none/\∃u,H a=some u:=by
 obtain⟨i,z⟩:=h;exact S.dom z
theorem Ko(S:StR K F H σ τ R):AY F (Gz b F H R):=by
 cases b with
 |true=>exact EU λa z=>(S.tot z).1
 |false=>exact .refl _
theorem Kn(S:StR K F H σ τ R):AY (Gz b F H R) H:=by
 cases b with
 |true=>exact H9 S.fh
 |false=>exact S.fh
theorem zis(S:StR K F H σ τ R)(e:Ext F H F1 H1 B)(h:b=true->c=true):AY (Gz b F H R) (Gz c F1 H1 R):=by
 have S1:=S.ext e;cases b with
 |false=>exact e.ff.trans (Ko S1)
 |true =>
  rw[h rfl];intro a u q;show frz F1 H1 (Pu.tot R) a=some u
  by_cases z:Pu.tot R a
  .rw[Fx z];have q':frz F H (Pu.tot R) a=some u:=q;rw[Fx z]at q';exact e.hh _ _ q'
  .rw[FL z];have q':frz F H (Pu.tot R) a=some u:=q;rw[FL z]at q';exact e.ff _ _ q'
theorem DY.frz(S:StR K F H σ τ R)(e:Ext F H F1 H1 B)(g:DY K F1 H1 R v b x B):∃F2,Ext F H F2 H1 R0/\AY F1 F2/\Rp K (Gz b F2 H1 R) (Gz b F2 H1 R) v.share x R0:=by
 have S1:=S.ext e;cases b with
 |true =>
  obtain⟨rfl,A,hA,r⟩:=g
  exact⟨F1,e,.refl _,r.share (Ko S1) λa u z q=>by
   show Pu.frz F1 H1 (Pu.tot R) a=some u;rw[Fx (hA a z)];exact q⟩
 |false =>
  have g' :=g;have n:∀a,B a->F1 a=none:=λa z=>(g'.dom z).1
  exact⟨_,e.frz n,EU n,g'.share (EU n) λa u z q=>by
   show Pu.frz F1 H1 B a=some u;rw[Fx z];exact q⟩
theorem Ext.grow(e:Ext F H F1 H1 R0)(s:AY H1 H2):Ext F H F1 H2 R0:=⟨e.hh.trans s,e.ff,e.fh.trans s,λ_ z=>z.elim,e.nf⟩
end
noncomputable def EK(c:Str):Option Nat:=match c.cps.toList with
 |[78,111,82,117,110,n]=>some n
 |_=>none
noncomputable def Dm(n:Nat):Str:=⟨#[78,111,82,117,110,n]⟩
def GZ(c:Str):Str:=match EK c with
 |some _=>"NoRun"
 |none=>c
def IU(c:Str):List V:=match EK c with
 |some n=>[.int n]
 |none=>[]
def HG(c:Str):List T:=match EK c with
 |some n=>[.int n]
 |none=>[]
def J0(F:Hp)(c:Str)(dx:Option Addr):Prop:=∀v∈IU c,Hj F dx v
def XE(E:XK)(ca:Str->Value)(c:Str)(F H:Hp):Prop:=∀dx,J0 F c dx->E (ca (GZ c)) dx H
theorem XE.plain(h:XE E ca c F H)(hc:EK c=none):E (ca c) none H:=by
 have:=h none (by unfold J0 IU;grind)
 unfold GZ at this
 grind
theorem XE.any(h:XE E ca c F H)(hc:EK c=none):XE E ca c F' H:=λdx _=>h dx (by unfold J0 IU;grind)
def pM(K:k7)(E:L2.St->XK)(ca:Str->Value)(σ:L2.St)(Q:VK)(F H:Hp)(R:Nat->Rg):Option Rs->Prop
 |some (.v v b)=>∀F' H' x B,Ext F H F' H' B->DY K F' H' R v b x B->Q x H'
 |some (.x c)=>∀F' H',Ext F H F' H' R0->XE (E σ) ca c F' H'
 |none=>False
def tM(K:k7)(E:L2.St->XK)(ca:Str->Value)(m:AI):TE:=λσ H Q=>∃F τ R,StR K F H σ τ R/\pM K E ca σ Q F H R (m τ)
def pMs(K:k7)(E:L2.St->XK)(ca:Str->Value)(σ:L2.St)(Q:List V->Hp->Prop)(F H:Hp)(R:Nat->Rg):Option RsL->Prop
 |some (.v ts b)=>∀F' H' xs,Ext F H F' H' R0->Aa K (Gz b F' H' R) ts xs->Q xs H'
 |some (.x c)=>∀F' H',Ext F H F' H' R0->XE (E σ) ca c F' H'
 |none=>False
def BY(K:k7)(E:L2.St->XK)(ca:Str->Value)(m:Ao):TA:=λσ H Q=>∃F τ R,StR K F H σ τ R/\pMs K E ca σ Q F H R (m τ)
def pMB(K:k7)(E:L2.St->XK)(ca:Str->Value)(σ:L2.St)(Q:Bool->Hp->Prop)(F H:Hp):Option Rs->Prop
 |some (.v (.bl c) _)=>∀F' H',Ext F H F' H' R0->Q c H'
 |some (.v _ _)=>False
 |some (.x c)=>∀F' H',Ext F H F' H' R0->XE (E σ) ca c F' H'
 |none=>False
def BD(K:k7)(E:L2.St->XK)(ca:Str->Value)(m:AI):TT:=λσ H Q=>∃F τ R,StR K F H σ τ R/\pMB K E ca σ Q F H (m τ)
noncomputable def AA(i:Nat):AI:=λτ=>match τ[i]? with
 |some (some t)=>some (.v t (!t.sh))
 |_=>none
noncomputable def mC(t:T):AI:=λ_=>some (.v t false)
def AD:Ao:=λ_=>some (.v [] false)
noncomputable def AB(m:AI)(ms:Ao):Ao:=λτ=>match m τ with
 |some (.v t b)=>(match ms τ with
  |some (.v ts b')=>some (.v (t.share::ts) (b || b'))
  |r=>r)
 |some (.x c)=>some (.x c)
 |none=>none
def Ax(b:Bool)(v:T):Option Rs:=if b && !v.flat then none else some (.v v false)
def BM(g:List T->Option T)(ms:Ao):AI:=λτ=>match ms τ with
 |some (.v ts b)=>(match g ts with
  |some v=>Ax b v
  |none=>none)
 |some (.x c)=>some (.x c)
 |none=>none
def g2(g:T->T->Option T):List T->Option T
 |[t,u]=>g t u
 |_=>none
def g1(g:T->Option T):List T->Option T
 |[t]=>g t
 |_=>none
abbrev m1(g:T->Option T)(a:AI):AI:=BM (g1 g) (AB a AD)
abbrev m2(g:T->T->Option T)(a b:AI):AI:=BM (g2 g) (AB a (AB b AD))
def DH(c:AI)(a b:AI):AI:=λτ=>match c τ with
 |some (.v (.bl true) _)=>a τ
 |some (.v (.bl false) _)=>b τ
 |some (.x c)=>some (.x c)
 |_=>none
def Ai(c:AI):AI:=λτ=>match c τ with
 |some (.v (.bl b) _)=>some (.v (.bl (!b)) false)
 |some (.x c)=>some (.x c)
 |_=>none
def Ba(a b:AI):AI:=DH a b (mC (.bl false))
def BA(a b:AI):AI:=DH a (mC (.bl true)) b
section
variable {X:Cx}{E:L2.St->XK}{ca:Str->Value}{σ:L2.St}{H:Hp}{m ma mb mc:AI}{ms:Ao}{K:k7}{a b c e:Expr}{es:List Expr}{pos:Pos}
theorem PE.weak(h:PE X e t)(w:∀σ H Q,t' σ H Q->t σ H Q):PE X e t':=λpins s σ H Q I q=>h pins s σ H Q I (w σ H Q q)
theorem PT.weak(h:PT X e t)(w:∀σ H Q,t' σ H Q->t σ H Q):PT X e t':=λpins s σ H Q I q=>h pins s σ H Q I (w σ H Q q)
theorem PA.weak(h:PA X es t)(w:∀σ H Q,t' σ H Q->t σ H Q):PA X es t':=λpos pins s σ H Q I q=>h pos pins s σ H Q I (w σ H Q q)
theorem tM.mono(h:tM K E ca m σ H Q)(w:∀x H',Q x H'->Q' x H'):tM K E ca m σ H Q':=by
 obtain⟨F,τ,R,S,q⟩:=h;refine⟨F,τ,R,S,?_⟩;cases hm:m τ with
 |none=>rw[hm]at q;exact q
 |some r =>
  rw[hm]at q;cases r with
  |v v b=>exact λF' H' x B e g=>w _ _ (q F' H' x B e g)
  |x c=>exact q
theorem BY.mono(h:BY K E ca ms σ H Q)(w:∀x H',Q x H'->Q' x H'):BY K E ca ms σ H Q':=by
 obtain⟨F,τ,R,S,q⟩:=h;refine⟨F,τ,R,S,?_⟩;cases hm:ms τ with
 |none=>rw[hm]at q;exact q
 |some r =>
  rw[hm]at q;cases r with
  |v v b=>exact λF' H' x e g=>w _ _ (q F' H' x e g)
  |x c=>exact q
theorem FZ(h:BY K E ca AD σ H Q):Q [] H:=by
 obtain⟨F,τ,R,S,q⟩:=h;exact q F H [] (Ext.refl S.fh) .nil
theorem F6(h:BY K E ca (AB m ms) σ H Q):tM K E ca m σ H λx H1=>BY K E ca ms σ H1 λxs H2=>Q (x::xs) H2:=by
 obtain⟨F,τ,R,S,q⟩:=h;refine⟨F,τ,R,S,?_⟩;unfold AB at q;cases hm:m τ with
 |none=>rw[hm]at q;exact q
 |some r =>
  rw[hm]at q;cases r with
  |x c=>exact q
  |v t b =>
   intro F' H' x B e g;obtain⟨F2,e2,_,r2⟩:=DY.frz S e g;have S2:=S.ext e2;refine⟨F2,τ,R,S2,?_⟩;cases hs:ms τ with
   |none=>rw[hs]at q;exact q.elim
   |some r =>
    simp only[hs]at q;cases r with
    |x c=>exact λF3 H3 e3=>q F3 H3 (e2.trans0 e3)
    |v ts b' =>
     intro F3 H3 xs e3 rs;refine q F3 H3 (x::xs) (e2.trans0 e3) ?_;refine .cons (H:=H3) ((r2.frame (zis S2 e3 (by grind)) λa z=>z.elim)) ?_
     cases b' with
     |true=>grind
     |false =>
      cases b with
      |false=>exact rs
      |true=>exact rs.same (Ko (S2.ext e3))
theorem F7(h:tM K E ca (BM g ms) σ H Q):BY K E ca ms σ H λxs H1=>Di K g xs H1 Q:=by
 obtain⟨F,τ,R,S,q⟩:=h;refine⟨F,τ,R,S,?_⟩;unfold BM at q;cases hs:ms τ with
 |none=>rw[hs]at q;exact q.elim
 |some r =>
  simp only[hs]at q;cases r with
  |x c=>exact q
  |v ts b =>
   intro F1 H1 xs e1 rs;have S1:=S.ext e1;cases hg:g ts with
   |none=>simp only[hg]at q;exact q.elim
   |some v =>
    simp only[hg]at q;refine⟨Gz b F1 H1 R,ts,v,Kn S1,rs,hg,λF2 H2 z C e2 r2=>?_⟩
    unfold Ax at q;cases b with
    |false=>exact q F2 H2 z C (e1.trans0 e2) r2
    |true =>
     cases hf:v.flat with
     |false =>
      rw[hf]at q;exact False.elim q
     |true =>
      rw[hf]at q;exact q F1 H2 z R0 (e1.grow e2.hh) (r2.flat_any hf)
theorem rTn2(h:Di K (g2 g) [x,y] H Q):Bb K g x y H Q:=by
 obtain⟨F,ts,v,fh,rs,e,q⟩:=h;unfold g2 at e;split at e
 .obtain⟨x1,xs1,e1,r1,rs1⟩:=rs.inv;obtain⟨x2,xs2,e2,r2,rs2⟩:=rs1.inv;cases e1;cases e2;exact⟨F,_,_,v,fh,r1,r2,e,q⟩
 .cases e
theorem rTn1(h:Di K (g1 g) [x] H Q):KO K g x H Q:=by
 obtain⟨F,ts,v,fh,rs,e,q⟩:=h;unfold g1 at e;split at e
 .obtain⟨x1,xs1,e1,r1,rs1⟩:=rs.inv;cases e1;exact⟨F,_,v,fh,r1,e,q⟩
 .cases e
theorem MC(h:tM K E ca (BM (g2 g) (AB ma (AB mb AD))) σ H Q):Gy (Bb K g) (tM K E ca ma) (tM K E ca mb) σ H Q :=
 (F6 (F7 h)).mono λx H1 h1=>(F6 h1).mono λy H2 h2=>rTn2 (FZ h2)
theorem zjr(h:tM K E ca (BM (g1 g) (AB ma AD)) σ H Q):QP (KO K g) (tM K E ca ma) σ H Q :=
 (F6 (F7 h)).mono λx H1 h1=>rTn1 (FZ h1)
theorem zjh(h:tM K E ca (AA i) σ H Q):QO i σ H Q:=by
 obtain⟨F,τ,R,S,q⟩:=h;unfold AA at q;split at q
 .rename_i t ht;obtain⟨x,e,r⟩:=S.rep i t ht;refine⟨x,e,q F H x R0 (Ext.refl S.fh) ?_⟩;cases hs:t.sh with
  |true=>exact r.move hs (.refl _)
  |false=>exact⟨rfl,R i,λa z=>⟨i,z⟩,r⟩
 .exact False.elim q
theorem M9(hN:X.N[i]?=some x)(hv:DX X.env.scope x)(hd:(x == "__debug__")=false)(hcd:(x == "__classdict__")=false):PE X (.Name x pos) (tM X.K E ca (AA i)):=PE.weak (GY hN hv hd hcd) λ_ _ _ h=>zjh h
theorem GW(h:PE X e (tC v))(r:∀F H,Rp X.K F H t v R0):PE X e (tM X.K E ca (mC t)):=PE.weak h λσ H Q h=>by
 obtain⟨F,τ,R,S,q⟩:=h;exact q F H v R0 (Ext.refl S.fh) (r _ _)
theorem SI:PA X [] (BY X.K E ca AD):=PA.weak Ec λσ H Q h=>FZ h
theorem SS(ha:PE X e (tM X.K E ca m))(hr:PA X es (BY X.K E ca ms))(hs:starEach (e::es) X.env=(false,eval e X.env)::starEach es X.env):PA X (e::es) (BY X.K E ca (AB m ms)) :=
 PA.weak (Dk ha hr hs) λσ H Q h=>F6 h
theorem r_bin(ho:Af X (binaryOp op) (Bb X.K g))(ha:PE X a (tM X.K E ca ma))(hb:PE X b (tM X.K E ca mb)):PE X (.BinOp a op b pos) (tM X.K E ca (BM (g2 g) (AB ma (AB mb AD)))) :=
 PE.weak (pe_op ho ha hb) λσ H Q h=>MC h
theorem Rx(ho:JM X (unaryOp op) (KO X.K g))(ha:PE X a (tM X.K E ca ma)):PE X (.UnaryOp op a pos) (tM X.K E ca (BM (g1 g) (AB ma AD))) :=
 PE.weak (pe_un ho ha) λσ H Q h=>zjr h
theorem SU(ho:Af X (compareOp op) (Bb X.K g))(ha:PE X a (tM X.K E ca ma))(hb:PE X b (tM X.K E ca mb))(hm:behindInMarks op b=false):PE X (.Compare a [op] [b] pos) (tM X.K E ca (BM (g2 g) (AB ma (AB mb AD)))) :=
 PE.weak (zho ho ha hb hm) λσ H Q h=>MC h
theorem Jk  (h:BD K E ca m σ H Q):tM K E ca m σ H λx H1=>∃k,x=.bl k/\Q k H1:=by
 obtain⟨F,τ,R,S,q⟩:=h;refine⟨F,τ,R,S,?_⟩;cases hm:m τ with
 |none=>rw[hm]at q;exact q
 |some r =>
  rw[hm]at q;cases r with
  |x c=>exact q
  |v v b =>
   cases v with
   |bl k =>
    intro F' H' x B e g
    have hx:x=.bl k:=by
     cases b with
     |true=>obtain⟨_,A,_,r⟩:=g;exact r.bl_inv
     |false=>exact(g).bl_inv
    exact⟨k,hx,q F' H' (e.mono λ_ z=>z.elim)⟩
   |_=>exact q.elim
theorem Rz(ho:Af X (compareOp op) (Bb X.K g))(ha:PE X a (tM X.K E ca ma))(hb:PE X b (tM X.K E ca mb))(hm:behindInMarks op b=false):PT X (.Compare a [op] [b] pos) (BD X.K E ca (BM (g2 g) (AB ma (AB mb AD)))) :=
 PT.weak (zhd ho ha hb hm) λσ H Q h=>MC (Jk h)
theorem KN(h:PE X e (tM X.K E ca m))(he:∀whole,isTrue e X.env whole=(do let v <- whole;standAt e.pos;holding [v] (truthy v))):PT X e (BD X.K E ca m):=PT.weak (zkm h he) λσ H Q h=>Jk h
theorem Q4  (h:BD K E ca (DH mc ma mb) σ H Q):BD K E ca mc σ H λk H1=>if k=true then BD K E ca ma σ H1 Q else BD K E ca mb σ H1 Q:=by
 obtain⟨F,τ,R,S,q⟩:=h;refine⟨F,τ,R,S,?_⟩;unfold DH at q;cases hm:mc τ with
 |none=>rw[hm]at q;exact q.elim
 |some r =>
  simp only[hm]at q;cases r with
  |x c=>exact q
  |v v b =>
   cases v with
   |bl k =>
    intro F1 H1 e1;have S1:=S.ext e1
    have key:∀{mm },(match mm τ with
      |some (.v (.bl c) _)=>∀F' H',Ext F H F' H' R0->Q c H'
      |some (.v _ _)=>False
      |some (.x c)=>∀F' H',Ext F H F' H' R0->XE (E σ) ca c F' H'
      |none=>False)->BD K E ca mm σ H1 Q:=λ{mm} q=>by
     refine⟨F1,τ,R,S1,?_⟩;cases hr:mm τ with
     |none=>grind
     |some r =>
      simp only[hr]at q;cases r with
      |x c=>exact λF' H' e=>q F' H' (e1.trans0 e)
      |v v b =>
       cases v with
       |bl k=>exact λF' H' e=>q F' H' (e1.trans0 e)
       |_=>exact q.elim
    cases k with
    |true=>exact Ik (key q)
    |false=>exact Il (key q)
   |_=>exact q.elim
theorem Q1(h:tM K E ca (DH mc ma mb) σ H Q):BD K E ca mc σ H λk H1=>if k=true then tM K E ca ma σ H1 Q else tM K E ca mb σ H1 Q:=by
 obtain⟨F,τ,R,S,q⟩:=h;refine⟨F,τ,R,S,?_⟩;unfold DH at q;cases hm:mc τ with
 |none=>rw[hm]at q;exact q.elim
 |some r =>
  simp only[hm]at q;cases r with
  |x c=>exact q
  |v v b =>
   cases v with
   |bl k =>
    intro F1 H1 e1;have S1:=S.ext e1
    have key:∀{mm },(match mm τ with
      |some (.v v b)=>∀F' H' x B,Ext F H F' H' B->DY K F' H' R v b x B->Q x H'
      |some (.x c)=>∀F' H',Ext F H F' H' R0->XE (E σ) ca c F' H'
      |none=>False)->tM K E ca mm σ H1 Q:=λ{mm} q=>by
     refine⟨F1,τ,R,S1,?_⟩;cases hr:mm τ with
     |none=>grind
     |some r =>
      simp only[hr]at q;cases r with
      |x c=>exact λF' H' e=>q F' H' (e1.trans0 e)
      |v v b=>exact λF' H' x B e g=>q F' H' x B (e1.trans0 e) g
    cases k with
    |true=>exact Ik (key q)
    |false=>exact Il (key q)
   |_=>exact q.elim
theorem r_ife(hc:PT X c (BD X.K E ca mc))(ha:PE X a (tM X.K E ca ma))(hb:PE X b (tM X.K E ca mb)):PE X (.IfExp c a b pos) (tM X.K E ca (DH mc ma mb)):=PE.weak (zf5 hc ha hb) λσ H Q h=>Q1 h
theorem zgt(h:BD K E ca (Ai mc) σ H Q):QV (BD K E ca mc) σ H Q:=by
 obtain⟨F,τ,R,S,q⟩:=h;refine⟨F,τ,R,S,?_⟩;unfold Ai at q;cases hm:mc τ with
 |none=>rw[hm]at q;exact q.elim
 |some r =>
  simp only[hm]at q;cases r with
  |x c=>exact q
  |v v b =>
   cases v with
   |bl k=>exact q
   |_=>exact q.elim
theorem Ry(hc:PT X c (BD X.K E ca mc)):PT X (.UnaryOp .Not c pos) (BD X.K E ca (Ai mc)):=PT.weak (zkn hc) λσ H Q h=>zgt h
theorem zjs(h:tM K E ca (Ai mc) σ H Q):QU (tM K E ca mc) σ H Q:=by
 obtain⟨F,τ,R,S,q⟩:=h;refine⟨F,τ,R,S,?_⟩;unfold Ai at q;cases hm:mc τ with
 |none=>rw[hm]at q;exact q.elim
 |some r =>
  simp only[hm]at q;cases r with
  |x c=>exact q
  |v v b =>
   cases v with
   |bl k =>
    intro F' H' x B e g
    have hx:x=.bl k:=by
     cases b with
     |true=>obtain⟨_,A,_,r⟩:=g;exact r.bl_inv
     |false=>exact(g).bl_inv
    exact⟨k,hx,q F' H' _ R0 (e.mono λ_ z=>z.elim) (.bl _)⟩
   |_=>exact q.elim
theorem SG(ha:PE X a (tM X.K E ca ma)):PE X (.UnaryOp .Not a pos) (tM X.K E ca (Ai ma)):=PE.weak (zl3 ha) λσ H Q h=>zjs h
theorem Q0(h:tM K E ca (DH mc ma mb) σ H Q):tM K E ca mc σ H λx H1=>∃k,x=.bl k/\if k=true then tM K E ca ma σ H1 Q else tM K E ca mb σ H1 Q:=Jk (Q1 h)
theorem Q3(r:∀F H,Rp K F H t v R0)(h:tM K E ca (mC t) σ H Q):Q v H:=by
 obtain⟨F,τ,R,S,q⟩:=h;exact q F H v R0 (Ext.refl S.fh) (r _ _)
theorem SW{rest}(ha:PE X a (tM X.K E ca ma))(hb:PE X (.BoolOp .And (b::rest) pos) (tM X.K E ca mb)):PE X (.BoolOp .And (a::b::rest) pos) (tM X.K E ca (Ba ma mb)) :=
 PE.weak (zl6 ha hb) λσ H Q h=>(Q0 h).mono λx H1 ⟨k,e,q⟩=>⟨k,e,by
  cases k with
  |true=>exact q
  |false=>exact Q3 (λ_ _=>.bl _) q⟩
theorem SD{rest}(ha:PE X a (tM X.K E ca ma))(hb:PE X (.BoolOp .Or (b::rest) pos) (tM X.K E ca mb)):PE X (.BoolOp .Or (a::b::rest) pos) (tM X.K E ca (BA ma mb)) :=
 PE.weak (pe_or ha hb) λσ H Q h=>(Q0 h).mono λx H1 ⟨k,e,q⟩=>⟨k,e,by
  cases k with
  |true=>exact Q3 (λ_ _=>.bl _) q
  |false=>exact q⟩
theorem SE(ha:PE X a (tM X.K E ca ma)):PE X (.BoolOp op [a] pos) (tM X.K E ca ma):=zl2 ha
theorem BD.mono(h:BD K E ca m σ H Q)(w:∀x H',Q x H'->Q' x H'):BD K E ca m σ H Q':=by
 obtain⟨F,τ,R,S,q⟩:=h;refine⟨F,τ,R,S,?_⟩;cases hm:m τ with
 |none=>rw[hm]at q;exact q
 |some r =>
  rw[hm]at q;cases r with
  |v v b =>
   cases v with
   |bl k=>exact λF' H' e=>w _ _ (q F' H' e)
   |_=>exact q.elim
  |x c=>exact q
theorem MD(h:BD K E ca (mC (.bl k)) σ H Q):Q k H:=by
 obtain⟨F,τ,R,S,q⟩:=h;exact q F H (Ext.refl S.fh)
theorem PW.weak(h:PW X e t)(w:∀σ H Q,t' σ H Q->t σ H Q):PW X e t':=λwh pins s σ H Q I q=>h wh pins s σ H Q I (w σ H Q q)
theorem Rw{rest}(ha:PT X a (BD X.K E ca ma))(hb:PW X (.BoolOp .And (b::rest) pos) (BD X.K E ca mb)):PW X (.BoolOp .And (a::b::rest) pos) (BD X.K E ca (Ba ma mb)) :=
 PW.weak (zkl ha hb) λσ H Q h=>(Q4 h).mono λk H1 q=>by
  cases k with
  |true=>exact q
  |false=>exact MD q
theorem Rq{rest}(ha:PT X a (BD X.K E ca ma))(hb:PW X (.BoolOp .Or (b::rest) pos) (BD X.K E ca mb)):PW X (.BoolOp .Or (a::b::rest) pos) (BD X.K E ca (BA ma mb)) :=
 PW.weak (pw_or ha hb) λσ H Q h=>(Q4 h).mono λk H1 q=>by
  cases k with
  |true=>exact MD q
  |false=>exact q
theorem Rv(ha:PT X a (BD X.K E ca ma)):PW X (.BoolOp .And [a] pos) (BD X.K E ca ma):=zha ha
theorem Rt(ha:PT X a (BD X.K E ca ma)):PW X (.BoolOp .Or [a] pos) (BD X.K E ca ma):=zkk ha
end
section
variable {X:Cx}{pins:List (Addr×Obj)}{σ:L2.St}{H:Hp}{s:Shared}{h':Heap}
theorem GK{ch:List Addr}(I:Inv X pins σ H s)(k:∀b o,b∉ch->s.heap.get? b=some o->h'.get? b=some o)(f:∀b∈ch,CQ X pins H b):Inv X pins σ H { s with heap:=h',toks:=t'}:=by
 have nit:∀b u,H b=some u->b∉ch:=λb u e z=>by rw[(f b z).1]at e;cases e
 refine I.step (λb hb=>?_) (λb o _ _ hc e _=>k b o hc e) (λb o _ _ hc e _=>⟨o.slots,k b o hc e⟩) (λ_ _ _ _ n=>n)
  (λb o hc e=>⟨o,k b o hc e⟩) (λ_ _ e=>e) (λ_ _ _ e=>e) (λb ps e=>⟨#[],by rw[e];simp⟩) (λm hm=>?_) (λb u e=>?_) I.bare
 .obtain⟨_,f1,f2,f3,f4,f5⟩:=f b hb
  grind
 .obtain⟨o,es,ep,ho,r⟩:=hm;exact⟨o,es,ep,k _ o (λz=>(f _ z).2.1 rfl) ho,r⟩
 .refine(I.hok b u e).stay (λc v hc q=>k c v ?_ q) (λ_ q=>q) λ_ _ q=>q
  grind
theorem QL{ch:List Addr}{p:Addr}(I:Inv X pins σ H s)(k:∀b o,b∉ch->s.heap.get? b=some o->h'.get? b=some o)(f:∀b∈ch,CQ X pins H b)(hp:s.heap.objs.size<=p)(new:CI X.prog X.w (upd H p o) h' p o) :
  Inv X pins σ (upd H p o) { s with heap:=h',toks:=t' }:=by
 have hn :=I.hok.fresh hp;have nit:∀b u,H b=some u->b∉ch:=λb u e z=>by rw[(f b z).1]at e;cases e
 have old:∀b ob,s.heap.get? b=some ob->b≠p:=λb ob e z=>by
  subst z;exact absurd (ya7 e) (Nat.not_lt.mpr hp)
 refine I.step (λb hb=>?_) (λb o _ _ hc e _=>k b o hc e) (λb o _ _ hc e _=>⟨o.slots,k b o hc e⟩) (λb ob hc e n=>by rw[A3 (old b ob e)];exact n)
  (λb o hc e=>⟨o,k b o hc e⟩) (λb xs e=>by rw[A3 (B0 e hn)];exact e) (λb o u e=>by rw[A3 (B0 e hn)];exact e) (λb ps e=>⟨#[],by rw[A3 (B0 e hn),e];simp⟩) (λm hm=>?_) (λb u e=>?_) I.bare
 .obtain⟨_,f1,f2,f3,f4,f5⟩:=f b hb;exact⟨f3,f1,f4,f5⟩
 .obtain⟨o,es,ep,ho,r⟩:=hm;exact⟨o,es,ep,k _ o (λz=>(f _ z).2.1 rfl) ho,r⟩
 .by_cases hb:b=p
  .subst hb;rw[BQ]at e;cases e;exact new
  .rw[A3 hb]at e;refine(I.hok b u e).stay (λc v hc q=>k c v ?_ q) (λc q=>by rw[A3 (B0 q hn)];exact q) λc xs q=>by rw[A3 (B0 q hn)];exact q
   grind
theorem V8(f:CQ X pins H b)(h:b≠p):CQ X pins (upd H p o) b:=⟨by rw[A3 h];exact f.1,f.2⟩
end
def Lc(K:k7)(k:Nat)(l:Addr):It :=
 ⟨λi H=>∃xs x,Ad K H l xs/\xs[i]?=some x,λi H x H'=>∃p y,x=.ref p/\H p=none/\H'=upd H p (.tup [.int ((k+i:Nat):Int),y])/\∀xs,Ad K H l xs->xs[i]?=some y,λi H=>∃xs,Ad K H l xs/\xs.length<=i⟩
theorem drw  {w:World}    {n:Nat}  {St }(D:Draws P w A it fp n Q St)(k:Nat):Draws P w A it fp (k+n) (λj x=>∃i,j=k+i/\Q i x) (λj h=>∃i,j=k+i/\St i h) where
 live:=λ_ h ⟨i,_,st⟩=>D.live i h st
 frame:=λ_ h h' ⟨i,e,st⟩ c=>⟨i,e,D.frame i h h' st c⟩
 item:=λj s R E hj ⟨i,e,st⟩ hQ=>D.item i s R E (by omega) st λx h' tk q st' sb=>hQ x h' tk ⟨i,e,q⟩ ⟨i+1,by omega,st'⟩ sb
 done:=λs R E ⟨i,e,st⟩ hE=>D.done s R E (by grind) hE
theorem zj0(he:IsEnum h e it i old)(hi:h.IsListIter it l j)(hl:h.IsList l its):l≠it/\l≠e:=by
 obtain⟨o,h1,c1,_⟩:=hl;obtain⟨o2,h2,c2,_⟩:=hi
 grind
theorem drw0       (hh:A.handled=none)(hi:its[i]?=none):Draws P w A it [it,l] i (λ_ _=>True) (λj h=>j=i/\h.IsListIter it l i/\h.IsList l its) where
 live:=λ_ _ ⟨_,⟨o,ho,_⟩,_⟩=>⟨o,ho⟩
 frame:=λ_ _ _ ⟨e,a,b⟩ c=>⟨e,a.at λo q=>c it (by simp) o q,b.at λo q=>c l (by simp) o q⟩
 item:=λj _ _ _ hj ⟨e,_⟩=>absurd hj (by omega)
 done:=λ_ _ _ ⟨_,a,b⟩ hE=>wpAny_nextOf_list_end hh a b hi hE
theorem QM{K}(k:Nat)(l e it:Addr)(hei:e≠it) :
  Turn P w K (.Tuple elts kk tpos) (Lc K k l) [e,it] e (λi h=>(∃old,IsEnum h e it (k+i:Nat) old)/\h.IsListIter it l i) where
 mem:=by simp
 obj:=λi h st b hb=>by
  obtain⟨⟨old,he⟩,o,hi,hc,hd⟩:=st;obtain rfl|hb:=yae.mp hb
  .exact⟨_,he,λv z=>by
    have z' :=z;cases z'⟩
  .have q :=by simpa using hb
   subst q;exact⟨o,hi,λv z=>by rw[hd]at z;cases z⟩
 keep:=λi h h' st k=>by
  obtain⟨⟨old,he⟩,hi⟩:=st;exact⟨⟨old,k e (by simp) _ he⟩,hi.at λo q=>k it (by simp) o q⟩
 item:=by
  intro X hP hw hK hc i pins s σ H E I hf st hg;subst hP hw hK;obtain⟨⟨old,he⟩,hit⟩:=st;obtain⟨xs,x,hq,hx⟩:=hg;obtain⟨its,rv,p,hz⟩:=I.list hq;obtain⟨u,hu,ru⟩:=rv.get hx;have elt :=ya7 he;have ilt:it<s.heap.objs.size:=by obtain⟨o,q,_⟩:=hit;exact ya7 q
  have hn :=I.hok.fresh (yac _);obtain⟨n1,n2⟩:=zj0 he hit p.isList;have hlt:i<its.toArray.size:=by simpa using (ya9.mp hu).1
  refine wpAny_pyNext_enum_itemD (drw (Draws.list (A:=X.A.in1) (I.ok.hd hc) it l n1 _) k) he ⟨i,rfl,hit,p.isList⟩ (by omega) hei (by simp[hei,yar n2]) λx' h' tk hx' ho hit' hT hsz hk=>?_
  obtain⟨i',e1,hx'⟩:=hx';have e1:i'=i:=by omega
  subst e1
  have e2 :=by
   rw[List.getElem?_toArray,hu]at hx';exact(yak hx').symm
  subst e2;obtain⟨i2,e2,hit',_⟩:=hit';have e2:i2=i'+1:=by omega
  subst e2
  have I1:Inv X pins σ (upd H s.heap.objs.size (.tup [.int (k+i'),x])) { s with heap:=h',toks:=tk+1 }:=by
   refine QL I (λb o hb q=>hk b o (λz=>hb (by simp[z])) (λz=>hb (by simp[z])) q) hf (yac _) ?_
   exact⟨by simp only[yat,ybn];rw[ydx];decide,[.int (k+i') tk,x'],.cons ⟨_,rfl⟩ (.cons ru .nil),_,hT,rfl,0,rfl⟩
  have f1:∀b∈[e,it],CQ X pins (upd H s.heap.objs.size (.tup [.int (k+i':Nat),x])) b:=λb hb=>V8 (hf b hb) (by
   obtain rfl|hb:=yae.mp hb
   .exact yaf elt
   .have q :=by simpa using hb
    subst q;exact yaf ilt)
  refine⟨.ref s.heap.objs.size,rfl,wpAny_letOwnedTupleGo_enum ho λh2 he2 hs2=>?_⟩
  refine⟨.ref s.heap.objs.size,_,GK (ch:=[e]) I1 (λb o hb q=>hs2.extBut b o (λz=>hb (by simp[z])) q) (λb hb=>f1 b (by simp at hb;simp[hb])),rfl,⟨_,x,rfl,hn,rfl,λys hy=>by rw[I.list_inj hy hq];exact hx⟩,⟨⟨_,by simpa[Int.add_assoc] using he2⟩,hit'.extBut hs2.extBut hei.symm⟩,λb hb=>(f1 b hb).1⟩
 done:=by
  intro X hP hw hK hc i pins s σ H E I hf st hg;subst hP hw hK;obtain⟨⟨old,he⟩,hit⟩:=st;obtain⟨xs,hq,hx⟩:=hg;obtain⟨its,rv,p,hz⟩:=I.list hq;have hl:=rv.length;exact wpAny_pyNext_enum_endD (drw0 (I.ok.hd hc) (by simp;omega)) he ⟨rfl,hit,p.isList⟩ λh' eb=>⟨rfl,GK (ch:=[it]) I (λb o hb q=>eb b o (λz=>hb (by simp[z])) q) (λb hb=>hf b (by simp at hb;simp[hb]))⟩
 self:=λ_ _ _ _ _ st h=>yef st.1.choose_spec h
def Pd(K:k7)(l1 l2:Addr):It :=
  ⟨λi H=>∃xs x ys y,Ad K H l1 xs/\xs[i]?=some x/\Ad K H l2 ys/\ys[i]?=some y,
   λi H x H'=>∃p y z,x=.ref p/\H p=none/\H'=upd H p (.tup [y,z])/\(∀xs,Ad K H l1 xs->xs[i]?=some y)/\∀xs,Ad K H l2 xs->xs[i]?=some z,
   λi H=>∃xs ys,Ad K H l1 xs/\Ad K H l2 ys/\(xs.length<=i\/ys.length<=i)⟩
theorem zej{K}(z TI TO i1 i2 l1 l2)(D:ZipApart z TI TO i1 i2 l1 l2) :
  Turn P w K (.Tuple elts kk tpos) (Pd K l1 l2) [z,TI,TO,i1,i2] z (λi h=>IsZip h z TI TO .none/\IsPair h TI (.ref i1) (.ref i2)/\(∃a b,IsPair h TO a b)/\h.IsListIter i1 l1 i/\h.IsListIter i2 l2 i) where
 mem:=by simp
 obj:=λi h st b hb=>by
  obtain⟨hz,hTI,⟨a,c,hTO⟩,⟨o1,e1,_,d1⟩,⟨o2,e2,_,d2⟩⟩:=st;simp only[yae,yay,yeg]at hb;rcases hb with rfl|rfl|rfl|rfl|rfl
  .exact⟨_,hz,λv z=>by
    have z' :=z;cases z'⟩
  .exact⟨_,hTI,λv z=>by
    have z' :=z;cases z'⟩
  .exact⟨_,hTO,λv z=>by
    have z' :=z;cases z'⟩
  .exact⟨o1,e1,λv z=>by rw[d1]at z;cases z⟩
  .exact⟨o2,e2,λv z=>by rw[d2]at z;cases z⟩
 keep:=λi h h' st k=>by
  obtain⟨hz,hTI,⟨a,c,hTO⟩,h1,h2⟩:=st;exact⟨k z (by simp) _ hz,k TI (by simp) _ hTI,⟨a,c,k TO (by simp) _ hTO⟩,h1.at λo q=>k i1 (by simp) o q,h2.at λo q=>k i2 (by simp) o q⟩
 item:=by
  intro X hP hw hK hc i pins s σ H E I hf st hg;subst hP hw hK;obtain⟨hz,hTI,⟨a,c,hTO⟩,h1,h2⟩:=st;obtain⟨xs,x,ys,y,hq,hx,hq2,hy⟩:=hg;obtain⟨its,rv,p,hzz⟩:=I.list hq;obtain⟨its2,rv2,p2,hzz2⟩:=I.list hq2;obtain⟨u,hu,ru⟩:=rv.get hx;obtain⟨u2,hu2,ru2⟩:=rv2.get hy;have hn :=I.hok.fresh (yac _)
  have lt:∀b∈[z,TI,TO,i1,i2],b≠s.heap.objs.size:=λb hb=>by
   simp only[yae,yay,yeg]at hb;rcases hb with rfl|rfl|rfl|rfl|rfl
   .exact yaf (ya7 hz)
   .exact yaf (ya7 hTI)
   .exact yaf (ya7 hTO)
   .obtain⟨o,q,_⟩:=h1;exact yaf (ya7 q)
   .obtain⟨o,q,_⟩:=h2;exact yaf (ya7 q)
  refine wpAny_pyNext_zip_item D hz hTI hTO h1 h2 p.isList p2.isList (by simpa using hu) (by simpa using hu2) λh' a1 a2 a3 a4 a5 a6 hk=>?_
  have I1:Inv X pins σ (upd H s.heap.objs.size (.tup [x,y])) { s with heap:=h',toks:=s.toks }:=by
   refine QL I (λb o hb q=>hk b o (λz=>hb (by simp[z])) (λz=>hb (by simp[z])) (λz=>hb (by simp[z])) (λz=>hb (by simp[z])) q) hf (yac _) ?_
   exact⟨by simp only[yat,ybn];rw[ydx];decide,[u,u2],.cons ru (.cons ru2 .nil),_,a5,rfl,0,rfl⟩
  have f1:∀b∈[z,TI,TO,i1,i2],CQ X pins (upd H s.heap.objs.size (.tup [x,y])) b:=λb hb=>V8 (hf b hb) (lt b hb)
  refine⟨.ref s.heap.objs.size,rfl,wpAny_letOwnedTupleGo_zip a1 λh3 hz3 hs3=>?_⟩
  refine⟨.ref s.heap.objs.size,_,GK (ch:=[z]) I1 (λb o hb q=>hs3.extBut b o (λz=>hb (by simp[z])) q) (λb hb=>f1 b (by simp at hb;simp[hb])),rfl,⟨_,x,y,rfl,hn,rfl,(λzs hy'=>by rw[I.list_inj hy' hq];exact hx),λzs hy'=>by rw[I.list_inj hy' hq2];exact hy⟩,?_,λb hb=>(f1 b hb).1⟩
  exact⟨hz3,hs3.extBut _ _ D.TIz (hk _ _ D.TIz D.TITO D.TIi1 D.TIi2 hTI),⟨_,_,hs3.extBut _ _ D.TOz a2⟩,a3.extBut hs3.extBut D.i1z,a4.extBut hs3.extBut D.i2z⟩
 done:=by
  intro X hP hw hK hc i pins s σ H E I hf st hg;subst hP hw hK;obtain⟨hz,hTI,⟨a,c,hTO⟩,h1,h2⟩:=st;obtain⟨xs,ys,hq,hq2,hx⟩:=hg;obtain⟨its,rv,p,hzz⟩:=I.list hq;obtain⟨its2,rv2,p2,hzz2⟩:=I.list hq2;have hl:=rv.length;have hl2:=rv2.length;refine wpAny_pyNext_zip_end (I.ok.hd hc) D hz hTI hTO h1 h2 p.isList p2.isList ?_ λh' hk=>⟨rfl,GK I (λb o hb q=>hk b o (λz=>hb (by simp[z])) (λz=>hb (by simp[z])) (λz=>hb (by simp[z])) (λz=>hb (by simp[z])) q) hf⟩
  rcases hx with hx|hx
  .exact .inl (by simp;omega)
  .exact .inr (by simp;omega)
 self:=λ_ _ _ _ _ st h=>wpAny_pyIter_zip st.1 h
section
variable {X:Cx}{elts:List Expr}{kk:Nat}{tpos:Pos}
def iEnum(K:k7)(ta:TA):TI:=λσ H R=>ta σ H λvs H1=>∃a,vs=[.ref a]/\(∃xs,Ad K H1 a xs)/\R (Lc K 0 a) H1
theorem zhk(hg:Gl X "enumerate")(hm:X.mg "enumerate"=none)(ha:PA X [a] ta)(hs:starEach [a] X.env=[(false,eval a X.env)]):PI X (.Tuple elts kk tpos) (.Call (.Name "enumerate" p) [a] [] pos) (iEnum X.K ta):=by
 intro pins s σ H R I h;refine Call_ (Fq I hg hm boot_enumerate (ybg (AS (ha pos pins s σ H _ I h) λus s1 ⟨vs,H1,I1,r1,q1⟩=>?_) hs rfl))
 obtain⟨l,e,⟨xs,hq⟩,q⟩:=q1;subst e;obtain⟨u,rfl,ru⟩:=E2 r1;cases ru;obtain⟨its,rv,pl,hz⟩:=I1.list hq;refine call_enumerate_list pl.isList λh' he hit hsz hk=>?_
 have I2:Inv X pins σ H1 { s1 with heap:=h',toks:=s1.toks }:=I1.kept hk
 refine yef he ⟨s1.heap.objs.size+1,[s1.heap.objs.size+1,s1.heap.objs.size],_,_,H1,rfl,I2,QM 0 l _ _ (by simp),⟨⟨_,by simpa using he⟩,hit⟩,λb hb=>?_,q⟩
 have hb':s1.heap.objs.size<=b:=by
  grind
 exact I1.fpOk hb' (I1.hok.fresh hb')
def iZip(K:k7)(ta:TA):TI:=λσ H R=>ta σ H λvs H1=>∃a b,vs=[.ref a,.ref b]/\(∃xs,Ad K H1 a xs)/\(∃xs,Ad K H1 b xs)/\R (Pd K a b) H1
theorem zkv(hg:Gl X "zip")(hm:X.mg "zip"=none)(ha:PA X [a,b] ta)(hs:starEach [a,b] X.env=[(false,eval a X.env),(false,eval b X.env)])(hs2:starEach [b] X.env=[(false,eval b X.env)]):PI X (.Tuple elts kk tpos) (.Call (.Name "zip" p) [a,b] [] pos) (iZip X.K ta):=by
 intro pins s σ H R I h;refine Call_ (Fq I hg hm boot_zip (ybg (AS (ha pos pins s σ H _ I h) λus s1 ⟨vs,H1,I1,r1,q1⟩=>?_) (by rw[hs,hs2]) (by rw[hs2];rfl)))
 obtain⟨l1,l2,e,⟨xs,hq⟩,⟨ys,hq2⟩,q⟩:=q1;subst e;obtain⟨u,u2,rfl,ru,ru2⟩:=Gq r1;cases ru;cases ru2;obtain⟨its,rv,pl,hz⟩:=I1.list hq;obtain⟨its2,rv2,pl2,hz2⟩:=I1.list hq2;have llt:l1<s1.heap.objs.size:=by obtain⟨o,n,e,_⟩:=pl;exact ya7 e
 have llt2:l2<s1.heap.objs.size:=by obtain⟨o,n,e,_⟩:=pl2;exact ya7 e
 refine call_zip_2 pl.isList pl2.isList λh' a1 a2 a3 a4 a5 a6 hk=>?_
 have I2:Inv X pins σ H1 { s1 with heap:=h',toks:=s1.toks }:=I1.kept hk
 have D:ZipApart (s1.heap.objs.size+4) (s1.heap.objs.size+2) (s1.heap.objs.size+3) s1.heap.objs.size (s1.heap.objs.size+1) l1 l2:=by
  have n1:∀k ,l1≠s1.heap.objs.size+k:=λk z=>yb3 _ (yad llt (z▸Nat.le_add_right _ _))
  have n2:∀k ,l2≠s1.heap.objs.size+k:=λk z=>yb3 _ (yad llt2 (z▸Nat.le_add_right _ _))
  refine⟨?_,?_,?_,?_,?_,?_,?_,?_,?_,?_,n1 4,n1 3,n1 0,n1 1,n2 4,n2 3,n2 0,n2 1⟩<;>intro z<;>simp at z
 refine wpAny_pyIter_zip a1 ⟨_,[s1.heap.objs.size+4,s1.heap.objs.size+2,s1.heap.objs.size+3,s1.heap.objs.size,s1.heap.objs.size+1],_,_,H1,rfl,I2,zej _ _ _ _ _ l1 l2 D,⟨a1,a2,⟨_,_,a3⟩,a4,a5⟩,λb hb=>?_,q⟩
 have hb':s1.heap.objs.size<=b:=by
  grind
 exact I1.fpOk hb' (I1.hok.fresh hb')
end
section
variable {X:Cx}{pins:List (Addr×Obj)}{σ:L2.St}{H:Hp}{s:Shared}{a:Addr}{o:Obj}{kvs:List (Key×V)}
theorem zlz(r:KV kvs vs):kvs.length=vs.length:=ydb (r)
end
section
variable {X:Cx}{o:Expr}{to:TE}{ap cp:Pos}{elts:List Expr}{kk:Nat}{tpos:Pos}
end
def IC(ifs:List Expr)(env:Env):Sem Bool:=forIn ifs true λc r=>if r=true then do let ok <- isTrue c env (eval c env);pure (ForInStep.yield ok) else pure (ForInStep.yield r)
def GH(X:Cx)(ifs:List Expr)(t:TT):Prop :=
 ∀(pins:List (Addr×Obj)) (s:Shared) (σ:L2.St) (H:Hp) (Q:Bool->Hp->Prop),Inv X pins σ H s->t σ H Q->wpAny (model X.prog X.w) X.A (IC ifs X.env) (TP X pins σ Q) X.xe s
theorem zhc:GH X [] (λ_ H Q=>Q true H):=λpins s σ H Q I h=>ydt ⟨H,I,h⟩
theorem zhb(h:PT X c t):GH X [c] t:=λpins s σ H Q I q=>by
 have e:IC [c] X.env=(isTrue c X.env (eval c X.env) >>= λok=>pure ok):=by
  unfold IC;simp
 rw[e];exact ydq (ydm (h pins s σ H Q I q) (λb s1 h1=>ydt h1) λ_ _ z=>z)
theorem zcs:compTurn (.ListComp elt [⟨target,iter,ifs,0⟩] scope pos) 0 it acc env=(standAt iter.pos >>= λ_=>pyNext it >>= λr=>match r with
  |none=>pure (.done .next)
  |some u=>letOwnedTupleGo target it u >>= λ_=>assign target env u >>= λ_=>IC ifs env >>= λok =>
   if ok=true then ((eval elt env >>= λx=>call (.builtin "list.append") [acc,x] >>= λ_=>pure ()) >>= λ_=>again (.compLoop (.ListComp elt [⟨target,iter,ifs,0⟩] scope pos) 0 it acc env))
   else again (.compLoop (.ListComp elt [⟨target,iter,ifs,0⟩] scope pos) 0 it acc env)):=by rfl
theorem zct(hN:NE=notedBy (model prog w) A env λe s'=>R (.error e) s')(I:Nat->Shared->Prop)
  (hturn : ∀ n s, I n s -> wpAny (model prog w) A (pyNext it) (fun r s₁ => match r with
   |none=>R (.ok .next) s₁
   |some v=>wpAny (model prog w) A (letOwnedTupleGo target it v) (λ_ s₁'=>wpAny (model prog w) A (assign target env v) (λ_ s₂=>wpAny (model prog w) A (IC ifs env) (λok s₂'=>if ok=true then wpAny (model prog w) A (eval elt env) (λx s₃ =>
     wpAny (model prog w) A (call (.builtin "list.append") [acc,x]) (λ_ s₄=>∃m,m<n/\I m s₄) NE s₃)
     NE s₂' else ∃m,m<n/\I m s₂') NE s₂) NE s₁') NE s₁) NE s)
  (k ) (hk:I k s):codeAny (model prog w) A (.compLoop (.ListComp elt [⟨target,iter,ifs,0⟩] scope pos) 0 it acc env) R s:=by
 subst hN;refine codeAny_loop rfl I (λn s hI=>?_) k hk
 refine wpAny_noted ?_;rw[zcs];refine ydq (yds (ydq (ydm (hturn n s hI) (λr s₁ h₁=>?_) λ_ _ z=>z)))
 cases r with
 |none=>exact ydt h₁
 |some v =>
  refine ydq (ydm h₁ (λ_ s₁' h₁'=>?_) λ_ _ z=>z)
  refine ydq (ydm h₁' (λ_ s₂ h₂=>ydq (ydm h₂ (λok s₂' h₂'=>?_) λ_ _ z=>z)) λ_ _ z=>z)
  cases ok with
  |false =>
   rw[if_neg (by decide)]at h₂' ⊢
   exact ydt ⟨rfl,h₂'⟩
  |true =>
   rw[if_pos rfl]at h₂' ⊢;exact ydq (ydq (ydm h₂' (λx s₃ h₃=>ydq (ydm h₃ (λ_ s₄ h₄=>ydt (ydt ⟨rfl,h₄⟩)) λ_ _ z=>z)) λ_ _ z=>z))
theorem O6(env ):∀(names:List (Str×NameKind)),(∀y∈names,y.2=.free->∃c,env.cells.lookup y.1=some c)->∀acc ,∃cl ,
  (forIn names acc λ(x:Str×NameKind) r=>if (x.2 == NameKind.free)=true then do let a <- cellOf env x.1;pure (ForInStep.yield ((x.1,a)::r)) else pure (ForInStep.yield r))=pure cl /\
  (∀y c,cl.lookup y=some c->acc.lookup y=some c\/env.cells.lookup y=some c)/\(∀y∈names,y.2=.free->∃c,cl.lookup y.1=some c)/\∀y c,acc.lookup y=some c->∃c',cl.lookup y=some c'
 |[],_,acc=>⟨acc,rfl,λ_ _ e=>.inl e,(λ_ z=>by cases z),λ_ c e=>⟨c,e⟩⟩
 |(n,k)::r,h,acc=>by
  rw[List.forIn_cons]
  by_cases hk:k=.free
  .subst hk;obtain⟨c,hc⟩:=h (n,.free) (ya5 ..) rfl;have e1:cellOf env n=pure c:=by unfold cellOf;rw[hc]
   obtain⟨cl,e,h1,h2,h3⟩:=O6 env r (λy hy=>h y (ya8 _ hy)) ((n,c)::acc)
   grind
  .have hk' :=beq_eq_false_iff_ne.mpr hk;obtain⟨cl,e,h1,h2,h3⟩:=O6 env r (λy hy=>h y (ya8 _ hy)) acc
   grind
theorem zc0(scope)(env)(h:∀y∈scope.names,y.2=.free->∃c,env.cells.lookup y.1=some c):∃cl,closureFor scope env=pure cl/\(∀y c,cl.lookup y=some c->env.cells.lookup y=some c)/\∀y∈scope.names,y.2=.free->∃c,cl.lookup y.1=some c:=by
 obtain⟨cl,e,h1,h2,_⟩:=O6 env scope.names h [];refine⟨cl,?_,λy c q=>?_,h2⟩
 .have e2:closureFor scope env=(forIn scope.names [] λx r=>if (x.2 == NameKind.free)=true then do let a <- cellOf env x.1;pure (ForInStep.yield ((x.1,a)::r)) else pure (ForInStep.yield r)) >>= pure:=rfl
  grind
 grind
theorem O8:∀(names ) (h:Heap) (acc ) (y ) (c ),(cellsFrom h.objs.size names acc).lookup y=some c->acc.lookup y=some c\/(h.objs.size<=c/\(pushCells h names).IsCell c none/\(y,NameKind.cell)∈names)
 |[],h,acc,y,c,e=>.inl e
 |(n,k)::r,h,acc,y,c,e=>by
  unfold cellsFrom at e;unfold pushCells;split at e
  .rename_i hk;rw[if_pos hk];have ez:(h.push { cls:=.type "cell",data:=.cell none }).objs.size=h.objs.size+1:=ybk ..;rw[<- ez]at e
   rcases O8 r _ _ y c e with q|⟨q1,q2,q3⟩
   .rw[ybd]at q;cases hy:y == n with
    |true =>
     rw[hy]at q;cases q;have e1 :=eq_of_beq hy;subst e1;exact .inr ⟨yac _,⟨_,yeh _ _ _ _ (yai _ rfl),rfl⟩,by grind⟩
    |false=>rw[hy]at q;exact .inl q
   grind
  .rename_i hk;rw[if_neg hk]
   rcases O8 r h acc y c e with q|⟨q1,q2,q3⟩
   .exact .inl q
   grind
theorem O9:∀(names) (h:Heap) (acc:List (Str×Addr)),(∀y z c,acc.lookup y=some c->acc.lookup z=some c->y=z)->(∀y c,acc.lookup y=some c->c<h.objs.size) ->
  ∀y z c,(cellsFrom h.objs.size names acc).lookup y=some c->(cellsFrom h.objs.size names acc).lookup z=some c->y=z
 |[],h,acc,hi,_=>hi
 |(n,k)::r,h,acc,hi,hl=>by
  unfold cellsFrom;split
  .have ez:(h.push { cls:=.type "cell",data:=.cell none }).objs.size=h.objs.size+1:=ybk ..;rw[<- ez];refine O9 r _ _ (λy z c h1 h2=>?_) (λy c h1=>?_)
   .grind
   grind
  .exact O9 r h acc hi hl
theorem O7:∀(names) (n lo:Nat) (acc:List (Str×Addr)) (y) (c),lo<=n->((y,NameKind.cell)∈names\/∃c0,acc.lookup y=some c0/\lo<=c0)->(cellsFrom n names acc).lookup y=some c->lo<=c
 |[],n,lo,acc,y,c,hn,h,e=>by
  rcases h with h|⟨c0,h1,h2⟩
  .cases h
  .have e':acc.lookup y=some c:=e
   grind
 |(m,k)::r,n,lo,acc,y,c,hn,h,e=>by
  unfold cellsFrom at e;split at e
  .refine O7 r (n+1) lo _ y c (Nat.le_succ_of_le hn) ?_ e
   grind
  .rename_i hk;refine O7 r n lo acc y c hn ?_ e
   grind
theorem zb6{code}
  (hQ:Q (newEnv scope s.heap.objs.size globals (cellsFrom (s.heap.objs.size+1) scope.names cl) qual func code (some outer) builtins) { s with heap:=pushCells (s.heap.push { cls:=.type "dict",data:=.dict #[] }) scope.names }) :
  wpAny M A (newFunctionEnv scope globals cl [] qual func code (some outer) builtins) Q E s:=by
 simp only[newFunctionEnv,Option.isSome_some,ye1];refine ydq (wpAny_alloc ?_);refine ydq (wpAny_layCells _ (λname kind cells=>by rfl) _ _ _ _ ?_);rw[ybk ..]
 exact ydq (ydt (ydt hQ))
abbrev Aq(X:Cx)(scope:Scope)(cl:List (Str×Addr))(N':List Str)(C:Addr)(s₀:Shared)(H₀:Hp)(ex:List Addr)(xb:Value->Shared->Prop):Cx:={ zmo X scope cl N' C s₀ H₀ ex with fn:=λx=>decide (scope.names.lookup x=some .cell),xe:=xb }
theorem WN{h h' B B':Heap}(k:∀b o,B.get? b=none->h.get? b=some o->(∀us,o.data≠.fields us)->B'.get? b=none/\∃o',h'.get? b=some o'/\∀us,o'.data≠.fields us):∀{l},h.FunFrames B l->h'.FunFrames B' l
 |[],_=>trivial
 |_::_,⟨x,⟨L,o,y1,y2,y3,y4⟩,r⟩=>by
  obtain⟨z1,o',z2,z3⟩:=k L o y2 y3 y4;exact⟨x,⟨L,o',y1,z1,z2,z3⟩,WN k r⟩
def Gn(X:Cx):Prop:=∃v l,X.stack=v::l/\X.env.frame=v.frame
theorem ze2{X:Cx}   {σ:L2.St}{H:Hp}        (hx:BB X E)(hst:Gn X)(I:Inv X pins σ H s)(fC:CQ X pins H C)(hC:∃m,s.heap.Ns C m)(nC:C∉Aw X.stack)
  (hb:benv.frame=X.env.frame) (h:BH X.prog X.w X.stack H s (E σ) e s'):wpAny (model X.prog X.w) X.A (noteFrame e benv) (λ_ s2=>compPost (model X.prog X.w) X.A X.xe use QQ acc C (.error e) s2) EE s':=by
 obtain⟨v,l,st,hv⟩:=hst;obtain⟨a,cls,H',B,rfl,os,bare,un,hok,kB,tB,fl0,he⟩:=h;have fl1 :=st▸fl0
 obtain⟨L,hL⟩:∃L,v.frame=some L:=by
  obtain⟨_,_,_,⟨_,⟨L,_,y,_⟩,_⟩,_⟩:=fl1;exact⟨L,y⟩
 refine Mp (st▸I.ok.frames) (hb.trans hv) hL fl1 λh4 held sm=>?_
 obtain⟨m,oC,es,ep,hCo,dC,rC⟩:=hC;have bC :=kB C oC hCo fC.1 nC;obtain⟨f1,f2,f3,oe,ws,Tb,oT,ts,ha,hcl,hd,g1,nT,Tne,hT,dT,g3⟩:=held
 have hne:∀{b },B.get? b=none->b≠C:=λz w=>by
  rw[w,bC]at z;cases z
 have key:∃m,h4.Ns C m/\∀h',Heap.SameBut C h4 h'->∀cenv ,cenv.locals=C->wpAny (model X.prog X.w) X.A (PySem.passOn "comprehension.variables-let-go" (.ref a) cenv:Sem Value) (λ_ _=>False) X.xe { s' with heap:=h' }:=by
  refine⟨m,⟨oC,es,ep,f1 C oC bC,dC,rC⟩,λh5 sb cenv _=>?_⟩
  have ha5 :=(sb.2 a (hne f2)).trans ha;have hT5 :=(sb.2 Tb (hne nT)).trans hT;unfold PySem.passOn;refine ydq (ye5 ha5 hd g1 ?_);rw[if_neg (by simp)]
  refine ydq ?_;unfold setFlight;refine ydq (ye5 ha5 hd g1 ?_);rw[if_pos (by simp)]
  refine ye4 hT5 dT (ybh.mp g3).1 (wpAny_throw ?_);generalize hfl:(cenv.frame.elim Value.none λf=>rawInt f)=fl
  have dT6:=ycm dT (·.setIfInBounds 3 fl);have hT6:=ybv (Obj.mapFields (·.setIfInBounds 3 fl)) hT5 (ycy dT6);generalize hh6:h5.update Tb (Obj.mapFields (·.setIfInBounds 3 fl))=h6 at hT6 ⊢
  have to6:∀b o,b≠C->b≠Tb->h4.get? b=some o->h6.get? b=some o:=λb o n1 n2 e=>by
   rw[<- hh6,yb6 _ _ (yar n2)];exact(sb.2 b n1).trans e
  have B6 :=λb o n e=>to6 b o n (λz=>by rw[z,nT]at e;cases e) (f1 b o e)
  have hid:∀{b } {o },(PySem.W.hideAll s.heap [C]).get? b=some o->s.heap.get? b=some o/\b≠C:=λ{b o} e=>⟨ybj _ e,λz=>by
   rw[z,ybz [C] (yab.mpr rfl)]at e;cases e⟩
  have hidB:∀{b } {o },b≠C->B.get? b=some o->(PySem.W.hideAll B [C]).get? b=some o:=λ{b o} n e=>yb9 _ e (λz=>n (yab.mp z))
  have hidN:∀{b },B.get? b=none->(PySem.W.hideAll B [C]).get? b=none:=λ{b} e=>by
   cases q:(PySem.W.hideAll B [C]).get? b with
   |none=>rfl
   |some o =>
    rw[ybj _ q]at e;cases e
  have IX :=GK (t':=s.toks) I (λb o n e=>yb9 _ e n) λb z=>by
   rw[yab.mp z];exact fC
  have slot:∀b o,s.heap.get? b=some o->H b=none->b∈Aw X.stack->∃z,h6.get? b=some { o with slots:=z }:=λb o e n z=>by
   obtain⟨_,o2,ho2,d2⟩:=I.stack.mem z;rw[e]at ho2;cases ho2;obtain⟨z2,e2⟩:=un.slot b o e n z (by simp)
   obtain⟨z3,e3⟩:=sm b _ e2 d2;refine⟨z3,to6 b _ (λw=>nC (w▸z)) (λw=>?_) e3⟩
   rw[w,hT]at e3;cases e3;exact d2 _ dT
  have HC :=un.free C oC hCo fC.1 (by simp)
  refine hx pins σ H _ _ _ IX ⟨a,cls,H',PySem.W.hideAll B [C],rfl,os,bare,⟨λb o e n z _=>?_,λb o e n z _=>slot b o (hid e).1 n z,λb o e n z=>un.free b o (hid e).1 n z,λb o e _=>?_,un.tups,un.frzs,un.tbls⟩,?_,λb o e n z=>hidB (hid e).2 (kB b o (hid e).1 n z),λb o e z=>?_,⟨fl,λb o e=>?_,hidN f2,?_,?_⟩,he⟩
  .exact B6 b o (hid e).2 (kB b o (hid e).1 n z)
  .by_cases z:b∈Aw X.stack
   .obtain⟨w,q⟩:=slot b o (hid e).1 (I.stkFree b z) z;exact⟨_,q⟩
   .obtain⟨o',q⟩:=tB b o (hid e).1 z;exact⟨o',B6 b o' (hid e).2 q⟩
  .intro b u e;refine(hok b u e).stay (λc x hc q=>hidB (λw=>?_) q) (λ_ q=>q) λ_ _ q=>q
   rcases hc with y|y
   .rw[<- y,w,HC]at e;cases e
   .rw[w,HC]at y;cases y
  .obtain⟨o',q⟩:=tB b o (hid e).1 z;exact⟨o',hidB (hid e).2 q⟩
  .have e':=ybj _ e;refine B6 b o (λw=>?_) e'
   rw[w,ybz [C] (yab.mpr rfl)]at e;cases e
  .rw[st];refine WN (λb o n e d=>⟨hidN n,o,to6 b o (hne n) (λw=>?_) e,d⟩) f3
   rw[w,hT]at e;cases e;exact d _ dT
  .refine⟨oe,ws,Tb,_,_,?_,hcl,hd,g1,hidN nT,Tne,hT6,dT6,?_⟩
   .rw[<- hh6,yb6 _ _ Tne];exact ha5
   .simp[Array.getElem?_setIfInBounds,(ybh.mp g3).1]
 cases use<;>exact key
structure TurnG(cq:Cx->Prop)(P:Program)(w:World)(K:k7)(tg:Expr)(J:It)(fp:List Addr)(it:Addr)(tn:Nat->Heap->Prop):Prop where
 obj:∀i h,tn i h->∀b∈fp,∃o,h.get? b=some o/\∀v,o.data≠.cell v
 keep:∀i h h',tn i h->(∀b∈fp,∀o,h.get? b=some o->h'.get? b=some o)->tn i h'
 item:∀(X:Cx),X.prog=P->X.w=w->X.K=K->cq X->∀(i:Nat) (pins:List (Addr×Obj)) (s:Shared) (σ:L2.St) (H:Hp) (E:Value->Shared->Prop),Inv X pins σ H s->(∀b∈fp,CQ X pins H b)->tn i s.heap->J.go i H ->
  wpAny (model P w) X.A (pyNext (.ref it)) (λr s1=>∃u,r=some u/\wpAny (model P w) X.A (letOwnedTupleGo tg (.ref it) u) (λ_ s2=>∃x H',Inv X pins σ H' s2/\A5 x u/\J.yld i H x H'/\tn (i+1) s2.heap/\∀b∈fp,H' b=none) E s1) E s
 done:∀(X:Cx),X.prog=P->X.w=w->X.K=K->cq X->∀(i:Nat) (pins:List (Addr×Obj)) (s:Shared) (σ:L2.St) (H:Hp) (E:Value->Shared->Prop),Inv X pins σ H s->(∀b∈fp,CQ X pins H b)->tn i s.heap->J.stop i H ->
  wpAny (model P w) X.A (pyNext (.ref it)) (λr s1=>r=none/\Inv X pins σ H s1) E s
 self:∀(A:Around) (i:Nat) (s:Shared) (Q:Value->Shared->Prop) (E:Value->Shared->Prop),tn i s.heap->Q (.ref it) s->wpAny (model P w) A (pyIter (.ref it)) Q E s
def PJ(cq:Cx->Prop)(X:Cx)(tg iter:Expr)(wi:TI):Prop :=
 ∀(pins:List (Addr×Obj)) (s:Shared) (σ:L2.St) (H:Hp) (R:It->Hp->Prop),Inv X pins σ H s->wi σ H R ->
  wpAny (model X.prog X.w) X.A (eval iter X.env) (λv s1=>wpAny (model X.prog X.w) X.A (pyIter v) (λitv s2=>∃(it:Addr) (fp:List Addr) (tn:Nat->Heap->Prop) (J:It) (H':Hp),itv=.ref it/\Inv X pins σ H' s2/\TurnG cq X.prog X.w X.K tg J fp it tn/\tn 0 s2.heap/\(∀b∈fp,CQ X pins H' b)/\R J H') X.xe s1) X.xe s
theorem Si(h:PI X tg iter wi):PJ (λX=>X.calm=true) X tg iter wi:=λpins s σ H R I q =>
 AS (h pins s σ H R I q) λ_ _ h1=>AS h1 λ_ _ ⟨it,fp,tn,J,H',e,I2,T,r⟩=>⟨it,fp,tn,J,H',e,I2,⟨T.obj,T.keep,T.item,T.done,T.self⟩,r⟩
section
variable {X:Cx}{elt iter tg:Expr}{ifs:List Expr}{scope:Scope}{pos pos2:Pos}{cl:List (Str×Addr)}{N':List Str}{wi:TI}{g:TG}{tt:TT}{te:TE}
def Jl(σ':L2.St->L2.St)(wi:TI)(g:TG)(tt:TT)(te:TE):TE:=λσ H Q=>wi σ H λJ H1=>∃(W:Nat->List V->L2.St->Hp->Prop) (n:Nat),n<=sizeLine/\W 0 [] (σ' σ) H1/\∀i ys τ H,W i ys τ H->ys.length<=i/\i<=n /\
 ((J.stop i H/\∀p,H p=none->Q (.ref p) (upd H p (.lst ys)))\/(i<n/\J.go i H/\∀x H',J.yld i H x H'->g x τ H' λτ2 H2=>tt τ2 H2 λk H3=>if k=true then te τ2 H3 λy H4=>W (i+1) (ys++[y]) τ2 H4 else W (i+1) ys τ2 H3))
theorem Ur(σ':L2.St->L2.St)(hclos:closureFor scope X.env=pure cl)(hkind:scope.kind=.function)(hnames:∀y∈scope.names,y.2=.local->scope.names.lookup y.1=some .local)
  (hcl:∀y c,cl.lookup y=some c->X.env.cells.lookup y=some c) (hhas:∀y,(relabel scope X.env).names.lookup y=some .cell\/(relabel scope X.env).names.lookup y=some .free->(y,NameKind.cell)∈scope.names\/∃c,cl.lookup y=some c) (hcap:∀(σ:L2.St) (i:Nat) (y:Str) (v:V),N'[i]?=some y->(σ' σ)[i]?=some (some v)->(y,NameKind.cell)∉scope.names)
  (hσ:∀σ:L2.St,σ.length=X.N.length->(σ' σ).length=N'.length)
  (hvis:∀(σ:L2.St) (i:Nat) (y:Str) (v:V),N'[i]?=some y->(σ' σ)[i]?=some (some v)->((relabel scope X.env).names.lookup y=some .cell\/(relabel scope X.env).names.lookup y=some .free)/\∃j:Nat,X.N[j]?=some y/\σ[j]?=some (some v)/\DX X.env.scope y/\X.env.kindOf y≠some .local)
  {cq:Cx->Prop} (hc:∀pins σ H s cl C ex xb,Inv X pins σ H s->cq (Aq X scope cl N' C s H ex xb)) (hi:PJ cq X tg iter wi) {E:L2.St->XK} (hps:BB X E) (hst:Gn X) {σ:L2.St} (hg:∀cl C s₀ H₀ ex xb,BB (Aq X scope cl N' C s₀ H₀ ex xb) (λ_=>E σ)->PG (Aq X scope cl N' C s₀ H₀ ex xb) tg g) (ht:∀cl C s₀ H₀ ex xb,BB (Aq X scope cl N' C s₀ H₀ ex xb) (λ_=>E σ)->GH (Aq X scope cl N' C s₀ H₀ ex xb) ifs tt) (he:∀cl C s₀ H₀ ex xb,BB (Aq X scope cl N' C s₀ H₀ ex xb) (λ_=>E σ)->PE (Aq X scope cl N' C s₀ H₀ ex xb) elt te)
  (hs:∀x,foldedSetIterable iter X.env x=pure x) {use:Option (Value->Sem Unit)} {pins:List (Addr×Obj)} {s:Shared} {H:Hp} {Q:VK} {QQ:Value->Shared->Prop} (I:Inv X pins σ H s) (h:Jl σ' wi g tt te σ H Q)
  (hend:∀(D C:Addr) (s5:Shared) (H5:Hp),Inv X pins σ H5 s5->Q (.ref D) H5->(∃m,s5.heap.Ns C m)->CQ X pins H5 C->compPost (model X.prog X.w) X.A X.xe use QQ (.ref D) C (.ok .next) s5) :
  wpAny (model X.prog X.w) X.A (comprehension (.ListComp elt [⟨tg,iter,ifs,0⟩] scope pos) scope X.env pos2 (newList []) false (eval iter X.env) use) QQ X.xe s:=by
 refine wpAny_comprehension_free (use:=use) rfl hs hclos hkind hnames (AS (hi pins s σ H _ I h) λv s1 h1=>AS h1 λitv s2 h2=>?_)
 obtain⟨it,fp,tn,J,H2,e,I2,T,st2,f2,W,n,hn,w0,turn⟩:=h2;subst e;refine ydu (zb6 ?_);dsimp only;generalize hHp:s2.heap.push { cls:=.type "list",dict:=none,data:=.seq ([]:List Value).toArray }=P2;generalize hcl':cellsFrom (P2.objs.size+1) scope.names cl=cl';generalize hh1:pushCells (P2.push { cls:=.type "dict",data:=.dict #[] }) scope.names=h₁;have hC:P2.objs.size=s2.heap.objs.size+1:=by rw[<- hHp,ybk]
 have hP3:(P2.push { cls:=.type "dict",data:=.dict #[] }).objs.size=P2.objs.size+1:=ybk ..;have hDC:s2.heap.objs.size≠P2.objs.size:=by rw[hC];exact yaf (yc1 _)
 have below:∀b,b<s2.heap.objs.size->b≠P2.objs.size/\b≠s2.heap.objs.size:=λb hb=>⟨by rw[hC];exact yaf (yce hb),yaf hb⟩
 have old:∀b o,s2.heap.get? b=some o->h₁.get? b=some o:=λb o e=>by
  rw[<- hh1];exact yeh _ _ _ _ (ya2 _ (hHp▸ya2 _ e))
 have hacc:h₁.PlainList s2.heap.objs.size #[]:=⟨_,by
  rw[<- hh1];exact yeh _ _ _ _ (ya2 _ (hHp▸yai _ rfl))⟩
 have hns₁:h₁.Ns P2.objs.size (λ_=>none):=by
  rw[<- hh1];exact(Heap.Ns.new P2 (.type "dict")).keeps (yeh _ _)
 have cells:∀y c,cl'.lookup y=some c->X.env.cells.lookup y=some c\/(P2.objs.size<c/\h₁.IsCell c none/\(y,NameKind.cell)∈scope.names):=λy c e=>by
  rw[<- hcl',<- hP3]at e
  rcases O8 _ _ _ y c e with q|⟨q1,q2,q3⟩
  .exact .inl (hcl y c q)
  .rw[hP3]at q1;rw[hh1]at q2;exact .inr ⟨q1,q2,q3⟩
 have has':∀y,(y,NameKind.cell)∈scope.names\/(∃c,cl.lookup y=some c)->∃c,cl'.lookup y=some c:=λy hy=>by
  rw[<- hcl']
  have go:∀(names:List (Str×NameKind)) (n:Nat) (acc:List (Str×Addr)),((y,NameKind.cell)∈names\/∃c,acc.lookup y=some c)->∃c,(cellsFrom n names acc).lookup y=some c:=by
   intro names
   induction names with
   |nil =>
    intro n acc h
    rcases h with h|h
    .cases h
    .exact h
   |cons x r ih =>
    obtain⟨m,k⟩:=x;intro n acc h;unfold cellsFrom;split
    .refine ih _ _ ?_
     by_cases hm:y=m
     .subst hm;exact .inr ⟨n,by simp⟩
     .rcases h with h|⟨c,h⟩
      .rcases yae.mp h with z|z
       .cases z;exact absurd rfl hm
       .exact .inl z
      .exact .inr ⟨c,by rw[ybd,beq_eq_false_iff_ne.mpr hm];exact h⟩
    .rename_i hk;refine ih _ _ ?_
     rcases h with h|h
     .rcases yae.mp h with z|z
      .cases z;exact absurd rfl hk
      .exact .inl z
     .exact .inr h
  exact go _ _ _ hy
 have fsub:∀b∈Aw X.stack,b∈X.env.locals::X.fs:=I2.stkSub
 have fpfs:∀b∈fp,b∉Aw X.stack:=λb hb z=>by
  obtain⟨_,h2,h3,_⟩:=f2 b hb
  rcases yae.mp (fsub b z) with q|q
  .exact h2 q
  .exact h3 q
 have fpold:∀b∈fp,b<s2.heap.objs.size:=λb hb=>by
  obtain⟨o,e,_⟩:=T.obj 0 _ st2 b hb;exact ya7 e
 have cold:∀y c,cl'.lookup y=some c->c<s2.heap.objs.size\/P2.objs.size<c:=λy c e=>by
  rcases cells y c e with q|q
  .obtain⟨v,z⟩:=I2.cell y c q;exact .inl z.lt
  .exact .inr q.1
 have cneD:∀y c,cl'.lookup y=some c->c≠s2.heap.objs.size:=λy c e z=>by
  rcases cold y c e with q|q
  .rw[z]at q;exact yb3 _ q
  .rw[z,hC]at q;exact absurd q (Nat.not_lt.mpr (ycc _))
 have cneF:∀b,b<s2.heap.objs.size->(∀y c,X.env.cells.lookup y=some c->c≠b)->∀y c,cl'.lookup y=some c->c≠b:=λb hb hx y c e z=>by
  rcases cells y c e with q|q
  .exact hx y c q z
  .have:=q.1;rw[z,hC]at this;exact absurd (yd0 hb (Nat.lt_of_succ_lt this)) (yb3 _)
 have fresh2:∀b,s2.heap.objs.size<=b->H2 b=none:=λb hb=>I2.hok.fresh hb
 have CS:s2.heap.objs.size<=P2.objs.size:=by rw[hC];exact ycc _
 obtain⟨xb,hxb⟩:∃xb,xb=notedBy (model X.prog X.w) X.A (compEnvC scope cl' P2.objs.size X.env) λe s'=>compPost (model X.prog X.w) X.A X.xe use QQ (.ref s2.heap.objs.size) P2.objs.size (.error e) s':=⟨_,rfl⟩
 have hpb:BB (Aq X scope cl' N' P2.objs.size s2 H2 fp xb) (λ_=>E σ):=by
  subst hxb;intro pins4 σ4 H4 s4 e s' I4 hcx
  have IX:Inv X pins σ H4 s4:=I2.call' (s':=s4) (ch:=fp) I4.os I4.base I4.hok I4.bare λb hb=>by
   obtain⟨g1,g2,g3,g4,g5,g6⟩:=f2 b hb;exact⟨g4,g2,g5,g6⟩
  obtain⟨m4,hm4,_⟩:=I4.loc
  exact ze2 hps hst IX ⟨I4.free,(I2.fpOk (H':=H2) CS (fresh2 _ CS)).2⟩ ⟨m4,hm4⟩ (λz=>by
   obtain⟨o,ho,_⟩:=(I2.stack.mem z).2;exact absurd (ya7 ho) (Nat.not_lt.mpr CS)) rfl hcx
 have ok':(Aq X scope cl' N' P2.objs.size s2 H2 fp xb).Ok:=by
  refine⟨I2.ok.mod,hkind,I2.ok.glob,I2.ok.blt,CS,?inj,λy hy=>has' y (hhas y hy),?cab,I2.ok.hd,I2.ok.frames,.inl rfl,λb hb=>⟨(below b (fpold b hb)).1,cneF b (fpold b hb) λy c e=>(f2 b hb).2.2.2.2.1 y c e⟩,
   λb o e=>I2.bs b o e,yah I2.ok.bsz I2.sz,λb o e hb=>?_,λb hb=>fpfs b hb,I2.stack,I2.stkFree⟩
  case inj =>
   intro y z c h1 h2;have h1':(cellsFrom (P2.push { cls:=.type "dict",data:=.dict #[] }).objs.size scope.names cl).lookup y=some c:=by rw[hP3,hcl'];exact h1
   have h2':(cellsFrom (P2.push { cls:=.type "dict",data:=.dict #[] }).objs.size scope.names cl).lookup z=some c:=by rw[hP3,hcl'];exact h2
   refine O9 scope.names _ cl (λy z c g1 g2=>I2.ok.inj y z c (hcl y c g1) (hcl z c g2)) (λy c g=>?_) y z c h1' h2'
   obtain⟨v,q⟩:=I2.cell y c (hcl y c g);rw[hP3,hC];exact yce (yce q.lt)
  case cab =>
   intro y c hy e;have hy':scope.names.lookup y=some .cell:=yei hy;have e':(cellsFrom (P2.objs.size+1) scope.names cl).lookup y=some c:=by rw[hcl'];exact e
   exact yah CS (yah (ycc _) (O7 scope.names _ (P2.objs.size+1) cl y c (yac _) (.inl (yba hy')) e'))
  .obtain⟨_,_,_,q,_⟩:=f2 b hb
   rcases q with q|q
   .exact I2.ok.noex b o e q
   .exact absurd (yad (ya7 e) (yah I2.ok.bsz q)) (yb3 _)
 have I':Inv (Aq X scope cl' N' P2.objs.size s2 H2 fp xb) pins (σ' σ) H2 { s2 with heap:=h₁ }:=by
  refine⟨ok',rfl,I2.bare,Un.kept old,⟨_,hns₁,λi y v h1 h2 h3=>?_⟩,λy c e=>?_,fresh2 _ CS,?fc,λp hp=>?_,I2.hok.kept old,hσ σ I2.len⟩
  case fc =>
   intro y c e
   rcases cells y c e with q|q
   .exact I2.freeC y c q
   .exact fresh2 c (yah CS (ydi q.1))
  .obtain⟨hk,j,h4,h5,h6,h7⟩:=hvis σ i y v h1 h2;have hno:=hcap σ i y v h1 h2;obtain⟨m,hn',hl⟩:=I2.loc;obtain⟨u,r,l⟩:=hl j y v h4 h5 h6;obtain⟨c,hcc⟩:=has' y (hhas y hk);refine⟨u,r,.inr ⟨hk,c,hcc,?_⟩⟩
   rcases l with ⟨k1,_⟩|⟨_,c',e',z⟩
   .exact absurd k1 h7
   .rcases cells y c hcc with w|w
    .rw[w]at e';cases e';obtain⟨o,ho,hd⟩:=z;exact⟨o,old _ _ ho,hd⟩
    .exact absurd w.2.2 hno
  .rcases cells y c e with w|w
   .obtain⟨v,o,ho,hd⟩:=I2.cell y c w;exact⟨v,o,old _ _ ho,hd⟩
   .exact⟨none,w.2.1⟩
  .obtain⟨e1,e2,e3,e4,e5⟩:=I2.pin p hp;refine⟨old _ _ e1,e2,(below _ (ya7 e1)).1,λz=>?_,e5⟩
   rcases yae.mp (fsub _ z) with q|q
   .exact e3 q
   .exact e4 q
 have stat:∀{H':Hp},(∀b∈fp,H' b=none)->∀b∈fp,CQ (Aq X scope cl' N' P2.objs.size s2 H2 fp xb) pins H' b:=λhn' b hb =>
  ⟨hn' b hb,(below b (fpold b hb)).1,fpfs b hb,.inl hb,cneF b (fpold b hb) λy c e=>(f2 b hb).2.2.2.2.1 y c e,(f2 b hb).2.2.2.2.2⟩
 have Dok:∀{H':Hp},H' s2.heap.objs.size=none->CQ (Aq X scope cl' N' P2.objs.size s2 H2 fp xb) pins H' s2.heap.objs.size:=λhn' =>
  ⟨hn',hDC,(λz=>by
   obtain⟨o,ho,_⟩:=(I2.stack.mem z).2;exact absurd (ya7 ho) (yb3 _)),.inr (yac _),cneD,λp hp z=>absurd (ya7 (I2.pin p hp).1) (by rw[z];exact yb3 _)⟩
 have loop:∀s3:Shared,s3={ s2 with heap:=h₁ } ->
   codeAny (model X.prog X.w) X.A (.compLoop (.ListComp elt [⟨tg,iter,ifs,0⟩] scope pos) 0 (.ref it) (.ref s2.heap.objs.size) (compEnvC scope cl' P2.objs.size X.env))
    (compPost (model X.prog X.w) X.A X.xe use QQ (.ref s2.heap.objs.size) P2.objs.size) s3:=by
  rintro s3 rfl
  refine zct hxb (λm s'=>∃i ys τ H',m=n - i/\Inv (Aq X scope cl' N' P2.objs.size s2 H2 fp xb) pins τ H' s'/\tn i s'.heap/\(∀b∈fp,H' b=none)/\H' s2.heap.objs.size=none/\(∃its:List Value,A9 ys its/\s'.heap.PlainList s2.heap.objs.size its.toArray)/\W i ys τ H')
   ?_ n ⟨0,[],σ' σ,H2,rfl,I',T.keep _ _ _ st2 λb _ o e=>old b o e,λb hb=>(f2 b hb).1,fresh2 _ (yac _),⟨[],.nil,hacc⟩,w0⟩
  rintro m s4 ⟨i,ys,τ,H4,rfl,I4,st4,fr4,hD4,⟨its,rv,hpl⟩,w4⟩;obtain⟨hly,hin,c⟩:=turn i ys τ H4 w4
  have statp:∀{H':Hp},(∀b∈fp,H' b=none)->∀b∈fp,CQ (Aq X scope cl' N' P2.objs.size s2 H2 fp xb) (pins++GX [s2.heap.objs.size] s4.heap) H' b:=λ{H'} fr' b hb=>by
    obtain⟨g1,g2,g3,g4,g5,g6⟩:=stat fr' b hb;refine⟨g1,g2,g3,g4,g5,λp hp z=>?_⟩
    rcases ybb.mp hp with y|y
    .exact g6 p (ybm _ y) z
    .rcases ybb.mp y with y|y
     .exact g6 p (yag _ y) z
     .obtain⟨hb',_⟩:=TH y;rw[z,yab]at hb';exact absurd (fpold b hb) (by rw[hb'];exact yb3 _)
  rcases c with ⟨stop,q⟩|⟨hlt,go,step⟩
  .obtain⟨k,hDo⟩:=hpl;have I4p:=I4.pinned (fp:=[s2.heap.objs.size]) (λb hb=>by rw[yab.mp hb];exact Dok hD4) (λb hb=>by rw[yab.mp hb];exact⟨_,hDo,λv z=>(by cases z)⟩)
   refine AS (T.done (Aq X scope cl' N' P2.objs.size s2 H2 fp xb) rfl rfl rfl (hc _ _ _ _ _ _ _ _ I2) i _ s4 τ H4 _ I4p (statp fr4) st4 stop) λr s5 ⟨hr,I5⟩=>?_
   subst hr;have hD5 :=(I5.pin (s2.heap.objs.size,_) (yag _ (yag _ (G2 (yab.mpr rfl) hDo)))).1;obtain⟨m5,hn5,_⟩:=I5.loc;have fC:H4 P2.objs.size=none:=I5.free
   have U5:Un (Aw X.stack) fp H2 (upd H4 s2.heap.objs.size (.lst ys)) s2.heap s5.heap:=by
    have B:=I5.base;refine⟨λb o e1 e2 e3 e4=>B.keep b o e1 e2 e3 e4,λb o e1 e2 e3 e4=>B.slot b o e1 e2 e3 e4,λb o e1 e2 e4=>?_,λb o e1 e4=>B.there b o e1 e4,λb xs e1=>?_,λb o u e1=>?_,λb ps e1=>?_⟩
    .rw[A3 (below b (ya7 e1)).2];exact B.free b o e1 e2 e4
    .have q':=B.tups b xs e1;rw[A3 (B0 q' hD4)];exact q'
    .have q':=B.frzs b o u e1;rw[A3 (B0 q' hD4)];exact q'
    .obtain⟨more,q'⟩:=B.tbls b ps e1;exact⟨more,by rw[A3 (B0 q' hD4)];exact q'⟩
   have hzy:ys.length<=sizeLine:=yah hly (yah hin hn);have HK:HOk X.prog X.w (upd H4 s2.heap.objs.size (.lst ys)) s5.heap:=Zw.HOk.adopt I5.hok hD4 ⟨hzy,its,k,rv,hD5⟩;have os5:s5.os=s2.os:=I5.os
   have IX:Inv X pins σ (upd H4 s2.heap.objs.size (.lst ys)) s5:=I2.call' (s':=s5) (ch:=fp) os5 U5 HK I5.bare (λb hb=>by
    obtain⟨g1,g2,g3,g4,g5,g6⟩:=f2 b hb;exact⟨g4,g2,g5,g6⟩)
   refine hend s2.heap.objs.size P2.objs.size s5 _ IX (q _ hD4) ⟨m5,hn5⟩ ?_;have CL:s2.heap.objs.size<=P2.objs.size:=CS;have fp0:CQ X pins H2 P2.objs.size:=I2.fpOk CS (fresh2 _ CS);exact⟨by rw[A3 (yar hDC)];exact fC,fp0.2⟩
  .obtain⟨k,hDo⟩:=hpl;have I4p:=I4.pinned (fp:=[s2.heap.objs.size]) (λb hb=>by rw[yab.mp hb];exact Dok hD4) (λb hb=>by rw[yab.mp hb];exact⟨_,hDo,λv z=>(by cases z)⟩)
   refine AS (T.item (Aq X scope cl' N' P2.objs.size s2 H2 fp xb) rfl rfl rfl (hc _ _ _ _ _ _ _ _ I2) i _ s4 τ H4 _ I4p (statp fr4) st4 go) λr s5 ⟨u,hr,h5⟩=>?_
   subst hr;refine AS h5 λ_ s6 ⟨x,H6,I6,r6,y6,st6,fr6⟩=>?_
   have I6':=I6.pinned (statp fr6) (T.obj _ _ st6);refine AS (hg _ _ _ _ _ _ hpb _ s6 τ H6 x u _ I6' r6 (step x H6 y6)) λ_ s7 ⟨τ7,H7,I7,q7⟩=>?_
   refine AS (ht _ _ _ _ _ _ hpb _ s7 τ7 H7 _ I7 q7) λok s7b ⟨H7b,I7b,q7b⟩=>?_
   have Ax:∀{H8:Hp} {s8:Shared} {τ8:L2.St},Inv (Aq X scope cl' N' P2.objs.size s2 H2 fp xb) (pins++GX [s2.heap.objs.size] s4.heap++GX fp s6.heap) τ8 H8 s8->∀h9:Heap,(∀b o,b≠s2.heap.objs.size->s8.heap.get? b=some o->h9.get? b=some o)->tn (i+1) h9/\∀b∈fp,H8 b=none:=λ{H8 s8 τ8} I8 h9 sb=>by
    refine⟨T.keep _ _ _ st6 λb hb o e=>?_,λb hb=>?_⟩
    .exact sb b o (below b (fpold b hb)).2 (I8.pin (b,o) (yag _ (yag _ (G2 hb e)))).1
    .obtain⟨o,e,d⟩:=T.obj _ _ st6 b hb;exact(I8.pin (b,o) (yag _ (yag _ (G2 hb e)))).2.1
   cases ok with
   |false =>
    rw[if_neg (by decide)]at q7b ⊢
    have hD8:=I7b.pin (s2.heap.objs.size,_) (yag _ (ybm _ (yag _ (G2 (yab.mpr rfl) hDo))));obtain⟨t9,f9⟩:=Ax I7b s7b.heap λb o _ e=>e
    exact⟨n - (i+1),by omega,i+1,ys,τ7,H7b,rfl,I7b.unpinned.unpinned,t9,f9,hD8.2.1,⟨its,rv,k,hD8.1⟩,q7b⟩
   |true =>
    rw[if_pos rfl]at q7b ⊢;refine AS (he _ _ _ _ _ _ hpb _ s7b τ7 H7b _ I7b q7b) λuy s8 ⟨y,H8,I8,ry,w8⟩=>?_
    have hD8:=I8.pin (s2.heap.objs.size,_) (yag _ (ybm _ (yag _ (G2 (yab.mpr rfl) hDo))));have P8:s8.heap.PlainList s2.heap.objs.size its.toArray:=⟨k,hD8.1⟩;have hlen:=rv.length;refine wpAny_list_append_plain P8 (λh' pl' sb=>?_) (by rw[yb8,<- hlen];omega)
    have I8u :=I8.unpinned.unpinned;obtain⟨d1,d2,d3,d4,d5,d6⟩:=Dok hD8.2.1;have I9 :=I8u.turned (t':=s8.toks) (λb o hb e=>(sb.2 b hb).trans e) d1 d2 d4 d5 d6
    obtain⟨t9,f9⟩:=Ax I8 h' λb o hb e=>(sb.2 b hb).trans e
    exact⟨n - (i+1),by omega,i+1,ys++[y],τ7,H8,rfl,I9,t9,f9,hD8.2.1,⟨its++[uy],rv.append (.cons ry .nil),by simpa using pl'⟩,w8⟩
 refine codeAny_compStart_list (loop _ rfl) (T.self _ 0 _ _ _ (T.keep _ _ _ st2 λb _ o e=>old b o e) (loop _ rfl))
theorem zlv(σ' )(hclos:closureFor scope X.env=pure cl)(hkind:scope.kind=.function)(hnames:∀y∈scope.names,y.2=.local->scope.names.lookup y.1=some .local)
    (hcl:∀y c,cl.lookup y=some c->X.env.cells.lookup y=some c) (hhas:∀y,(relabel scope X.env).names.lookup y=some .cell\/(relabel scope X.env).names.lookup y=some .free->(y,NameKind.cell)∈scope.names\/∃c,cl.lookup y=some c) (hcap:∀(σ:L2.St) (i:Nat) (y:Str) (v:V),N'[i]?=some y->(σ' σ)[i]?=some (some v)->(y,NameKind.cell)∉scope.names)
    (hσ:∀σ:L2.St,σ.length=X.N.length->(σ' σ).length=N'.length)
    (hvis:∀(σ:L2.St) (i:Nat) (y:Str) (v:V),N'[i]?=some y->(σ' σ)[i]?=some (some v)->((relabel scope X.env).names.lookup y=some .cell\/(relabel scope X.env).names.lookup y=some .free)/\∃j:Nat,X.N[j]?=some y/\σ[j]?=some (some v)/\DX X.env.scope y/\X.env.kindOf y≠some .local)
     (hc:∀pins σ H s cl C ex xb,Inv X pins σ H s->cq (Aq X scope cl N' C s H ex xb)) (hi:PJ cq X tg iter wi)  (hps:BB X E) (hst:Gn X) {σ:L2.St} (hg:∀cl C s₀ H₀ ex xb,BB (Aq X scope cl N' C s₀ H₀ ex xb) (λ_=>E σ)->PG (Aq X scope cl N' C s₀ H₀ ex xb) tg g) (ht:∀cl C s₀ H₀ ex xb,BB (Aq X scope cl N' C s₀ H₀ ex xb) (λ_=>E σ)->GH (Aq X scope cl N' C s₀ H₀ ex xb) ifs tt) (he:∀cl C s₀ H₀ ex xb,BB (Aq X scope cl N' C s₀ H₀ ex xb) (λ_=>E σ)->PE (Aq X scope cl N' C s₀ H₀ ex xb) elt te)
    (hs:∀x,foldedSetIterable iter X.env x=pure x)   {H:Hp} {Q:VK} (I:Inv X pins σ H s) (h:Jl σ' wi g tt te σ H Q) :
    wpAny (model X.prog X.w) X.A (eval (.ListComp elt [⟨tg,iter,ifs,0⟩] scope pos) X.env) (EP X pins σ Q) X.xe s:=by
  refine Ur σ' hclos hkind hnames hcl hhas hcap hσ hvis hc hi hps hst hg ht he hs I h λD C s5 H5 I5 q5 ⟨m,hm⟩ f=>⟨m,hm,λh' sb=>?_⟩
  exact⟨.ref D,H5,GK (ch:=[C]) I5 (λb o hb e=>(sb.2 b (λz=>hb (by simp[z]))).trans e) (λb hb=>by grind),rfl,q5⟩
theorem zlw(σ' )(hclos:closureFor scope X.env=pure cl)(hkind:scope.kind=.function)(hnames:∀y∈scope.names,y.2=.local->scope.names.lookup y.1=some .local)
  (hcl:∀y c,cl.lookup y=some c->X.env.cells.lookup y=some c) (hhas:∀y,(relabel scope X.env).names.lookup y=some .cell\/(relabel scope X.env).names.lookup y=some .free->(y,NameKind.cell)∈scope.names\/∃c,cl.lookup y=some c) (hcap:∀(σ:L2.St) (i:Nat) (y:Str) (v:V),N'[i]?=some y->(σ' σ)[i]?=some (some v)->(y,NameKind.cell)∉scope.names)
  (hσ:∀σ:L2.St,σ.length=X.N.length->(σ' σ).length=N'.length)
  (hvis:∀(σ:L2.St) (i:Nat) (y:Str) (v:V),N'[i]?=some y->(σ' σ)[i]?=some (some v)->((relabel scope X.env).names.lookup y=some .cell\/(relabel scope X.env).names.lookup y=some .free)/\∃j:Nat,X.N[j]?=some y/\σ[j]?=some (some v)/\DX X.env.scope y/\X.env.kindOf y≠some .local)
  (hc:X.calm=true) (hi:PI X tg iter wi)  (hps:BB X E) (hst:Gn X)  (hg:∀cl C s₀ H₀ ex xb,BB (Aq X scope cl N' C s₀ H₀ ex xb) (λ_=>E σ)->PG (Aq X scope cl N' C s₀ H₀ ex xb) tg g) (ht:∀cl C s₀ H₀ ex xb,BB (Aq X scope cl N' C s₀ H₀ ex xb) (λ_=>E σ)->GH (Aq X scope cl N' C s₀ H₀ ex xb) ifs tt) (he:∀cl C s₀ H₀ ex xb,BB (Aq X scope cl N' C s₀ H₀ ex xb) (λ_=>E σ)->PE (Aq X scope cl N' C s₀ H₀ ex xb) elt te)
  (hs:∀x,foldedSetIterable iter X.env x=pure x)   {H:Hp} {D:Ends} {i:Nat} {x:Str}  (hN:X.N.Nodup) (hix:X.N[i]?=some x) (hx:X.env.scope.names.lookup x=some .local)
  (hsw:swapsWith (.ListComp elt [⟨tg,iter,ifs,0⟩] scope pos) (some (.Name x pos')) pos2.line X.env=pure true)
  (I:Inv X pins σ H s) (h:Jl σ' wi g tt te σ H λv H1=>D.nx (σ.set i (some v)) H1) :
  wpAny (model X.prog X.w) X.A (exec (.Assign [.Name x pos'] (.ListComp elt [⟨tg,iter,ifs,0⟩] scope pos) pos2) X.env) (SP X pins D) X.xe s:=by
 rw[exec_Assign_Name_used _ _ _ _ hsw];refine ydq (yds (ydq ?_));refine ydq (ydm (Ur σ' hclos hkind hnames hcl hhas hcap hσ hvis (λ_ _ _ _ _ _ _ _ _=>hc) (Si hi) hps hst hg ht he hs I h λA C s5 H5 I5 q5 ⟨m,hm⟩ f=>?_) (λ_ s' hq=>ydt (ydt hq)) λ_ _ e=>e)
 show wpAny _ X.A (assign (.Name x pos') X.env (.ref A)) _ _ _;refine wpAny_assign_Name (Q8 I5 hN hix (.inl hx) (v:=.ref A) rfl (λs6 I6 ⟨a,sb,ha⟩=>?_) (.inr hx))
 have hCa:C≠a:=by
  rcases ha with rfl|ha
  .exact f.2.1
  .exact λz=>f.2.2.2.2.1 x a ha z.symm
 refine⟨m,hm.sameBut sb hCa,λh' sb2=>⟨_,H5,GK (ch:=[C]) I6 (λb o hb e=>(sb2.2 b (λz=>hb (by simp[z]))).trans e) (λb hb=>by rw[yab.mp hb];exact f),q5⟩⟩
end
structure RpO(K:k7)(F H:Hp)(l:List T)(xs:List V)(R:Nat->Rg):Prop where
 len:l.length=xs.length
 rep:∀(i:Nat) (t:T) (x:V),l[i]?=some t->xs[i]?=some x->Rp K F H t x (R i)
 dis:∀i j a,i≠j->R i a->¬ R j a
 out:∀i a,R i a->i<l.length
section
variable {K:k7}{F H F1 H1:Hp}{l:List T}{xs:List V}{R:Nat->Rg}{B:Rg}
theorem RpO.nil:RpO K F H [] [] (λ_=>R0):=⟨rfl,λi t x h=>by simp at h,λ_ _ _ _ z=>z.elim,λ_ _ z=>z.elim⟩
theorem RpO.dom(h:RpO K F H l xs R)(z:R i a):F a=none/\∃u,H a=some u:=by
 have hi:=h.out i a z;have hx:i<xs.length:=by have:=h.len;omega
 exact(h.rep i _ _ (ya0 hi) (ya0 hx)).dom z
theorem RpO.ext(h:RpO K F H l xs R)(e:Ext F H F1 H1 B):RpO K F1 H1 l xs R:=⟨h.len,λi t x h1 h2=>(h.rep i t x h1 h2).ext e,h.dis,h.out⟩
theorem RpO.apart(h:RpO K F H l xs R)(e:Ext F H F1 H1 B)(hb:B b)(i):¬ R i b:=λz=>by
 obtain⟨f,u,q⟩:=h.dom z;rw[e.nb b hb]at q;cases q
theorem RpO.snoc(h:RpO K F H l xs R)   (r:Rp K F H t x B)(d:∀i a,R i a->¬ B a):RpO K F H (l++[t]) (xs++[x]) (λj=>if j=l.length then B else R j):=by
 have hl:=h.len;refine⟨by simp[hl],λi t' x' h1 h2=>?_,λi j a hij z1 z2=>?_,λi a z=>?_⟩
 .by_cases hi:i=l.length
  .grind
  .rw[if_neg hi]
   have hlt:i<l.length:=by
    have:=(ya9.mp h1).1;simp at this
    omega
   rw[yaw hlt]at h1;rw[yaw (by omega)]at h2
   exact h.rep i t' x' h1 h2
 .by_cases hi:i=l.length
  .grind
  .simp only[hi,yej]at z1
   by_cases hj:j=l.length
   .simp only[hj,ye1]at z2;exact d i a z1 z2
   .simp only[hj,yej]at z2;exact h.dis i j a hij z1 z2
 .by_cases hi:i=l.length
  .simp[hi]
  .simp only[hi,yej]at z;have:=h.out i a z;simp
   omega
theorem RpO.cons(h:RpO K F H l xs R)   (r:Rp K F H t x B)(d:∀i a,R i a->¬ B a):RpO K F H (t::l) (x::xs) (λj=>match j with|0=>B|j+1=>R j):=by
 refine⟨by simp[h.len],λi t' x' h1 h2=>?_,λi j a hij z1 z2=>?_,λi a z=>?_⟩
 .cases i with
  |zero =>
   grind
  |succ i=>exact h.rep i t' x' (by grind) (by grind)
 .cases i with
  |zero =>
   cases j with
   |zero=>exact hij rfl
   |succ j=>grind
  |succ i =>
   cases j with
   |zero=>grind
   |succ j=>exact h.dis i j a (λz=>hij (by rw[z])) z1 z2
 .cases i with
  |zero=>simp
  |succ i=>have:=h.out i a z;simp;omega
theorem RpO.list(h:RpO K F H l xs R)(s:AY F H)  (hp:H p=none):Rp K F (upd H p (.lst xs)) (.own l) (.ref p) (λa=>a=p\/∃i,R i a)/\Ext F H F (upd H p (.lst xs)) (λa=>a=p):=by
 have e:=Ext.newO (o:=.lst xs) s hp;have h':=h.ext e;exact⟨.own (k:=.lst) trivial R (Fk s hp) BQ h.len h'.rep h.dis (λi z=>h.apart e rfl i z) h.out,e⟩
end
def AK(ma mk:AI):AI:=λτ=>match ma τ with
 |some (.v t b)=>(match mk τ with
  |some (.v (.int i) _)=>(match t with
   |.nd _ _ l=>(match A6 l i with
    |some c=>some (.v c (b && !c.sh))
    |none=>none)
   |.str z=>if z.length<=BO then (match A6 z.cps.toList i with
    |some c=>some (.v (.str ⟨#[c]⟩) false)
    |none=>none) else none
   |_=>none)
  |some (.v _ _)=>none
  |r=>r)
 |r=>r
theorem zja{c:α}(e:l.length=m.length)(h:A6 l i=some c):∃(j:Nat) (d:β),l[j]?=some c/\m[j]?=some d/\A6 m i=some d:=by
 unfold A6 at h ⊢;rw[<- e];cases q:Cu l.length i with
 |none=>grind
 |some j =>
  rw[q]at h;have h' :=h
  have hj:j<m.length:=by
   grind
  exact⟨j,m[j],h',ya0 hj,ya0 hj⟩
section
variable {K:k7}{F H:Hp}
theorem Rp.seq      (s:AY F H)(h:Rp K F H (.nd o k l) x A):∃p xs,x=.ref p/\(Ad K H p xs\/Bp K H p xs)/\l.length=xs.length/\∀(i:Nat) (t ) (x ),l[i]?=some t->xs[i]?=some x->∃B,(∀a,B a->A a)/\Rp K F H t x B:=by
 cases h with
 |@shr k p xs l h e c =>
  refine⟨p,xs,rfl,?_,e,λi t x h1 h2=>⟨R0,λ_ z=>z.elim,c i t x h1 h2⟩⟩
  cases k with
  |lst=>exact .inl (Ad.of (s _ _ h))
  |rl=>exact .inl (s.seq h.l)
  |tup=>exact .inr (Bp.of (s _ _ h))
  |rt=>exact .inr (Fd s h)
  |pin q=>exact .inl (Ad.of (s _ _ h))
 |@own k0 p xs l hk R f h e c d dp o=>exact⟨p,xs,rfl,.inl (Ad.of h),e,λi t x h1 h2=>⟨R i,λa z=>.inr ⟨i,z⟩,c i t x h1 h2⟩⟩
end
section
variable {X:Cx}{E:L2.St->XK}{ca:Str->Value}{σ:L2.St}{H:Hp}{m ma mb mc:AI}{ms:Ao}{K:k7}{a b c e:Expr}{es:List Expr}{pos:Pos}
theorem tM_ix(h:tM K E ca (AK ma mb) σ H Q):Gy (S8 K) (tM K E ca ma) (tM K E ca mb) σ H Q:=by
 obtain⟨F,τ,R,S,q⟩:=h;refine⟨F,τ,R,S,?_⟩;unfold AK at q;cases hm:ma τ with
 |none=>simp only[hm]at q<;>exact q.elim
 |some r =>
  simp only[hm]at q;cases r with
  |x c=>exact q
  |v t bb =>
   intro F1 H1 x B e1 g1;have S1:=S.ext e1;refine⟨F1,τ,R,S1,?_⟩;cases hk:mb τ with
   |none=>simp only[hk]at q<;>exact q.elim
   |some r =>
    simp only[hk]at q;cases r with
    |x c=>exact λF' H' e=>q F' H' ((e1.trans e).mono λ_ z=>z.elim)
    |v tk bk =>
     cases tk with
     |int i =>
      intro F2 H2 y C e2 g2
      have hy:y=.int i:=by
       cases bk with
       |true=>obtain⟨_,A,_,r⟩:=g2;exact r.int_inv
       |false=>exact(g2).int_inv
      subst hy;have e02 :=(e1.trans e2).mono λ_ z=>.inl z
      have S2:=S1.ext e2;cases t with
      |nd o k l =>
       simp only at q;cases hc:A6 l i with
       |none=>simp only[hc]at q<;>exact q.elim
       |some cc =>
        simp only[hc]at q
        have node:∃A0,(bb=true->∀a,A0 a->tot R a)/\(bb=false->∀a,A0 a->B a)/\Rp K F2 H2 (.nd o k l) x A0:=by
         cases bb with
         |true =>
          obtain⟨_,A,hA,r⟩:=g1;exact⟨A,λ_=>hA,(λz=>by cases z),r.ext e2⟩
         |false=>exact⟨B,(λz=>by cases z),λ_ _ z=>z,(g1).ext e2⟩
        obtain⟨A0,hA1,hA2,rn⟩:=node;obtain⟨p,xs,rfl,hq,hl,kids⟩:=Rp.seq S2.fh rn;obtain⟨j,d,h1,h2,h3⟩:=zja hl hc;obtain⟨A1,hA,rk⟩:=kids j cc d h1 h2
        have qq :=by
         cases bb with
         |false=>exact q F2 H2 d A1 (e02.mono λa z=>hA2 rfl a (hA a z)) rk
         |true =>
          cases hs:cc.sh with
          |true =>
           rw[hs]at q;exact q F2 H2 d R0 (e02.mono λ_ z=>z.elim) (rk.move hs (.refl _))
          |false =>
           rw[hs]at q;exact q F2 H2 d R0 (e02.mono λ_ z=>z.elim) ⟨rfl,A1,λa z=>hA1 rfl a (hA a z),rk⟩
        rcases hq with hq|hq
        .exact .inl ⟨p,xs,i,d,rfl,rfl,hq,h3,qq⟩
        .exact .inr (.inl ⟨p,xs,i,d,rfl,rfl,hq,h3,qq⟩)
      |str z =>
       by_cases hz:z.length<=BO
       .simp only[hz,ye1]at q;cases hc:A6 z.cps.toList i with
        |none=>simp only[hc]at q<;>exact q.elim
        |some cc =>
         simp only[hc]at q
         have hx:x=.str z:=by
          cases bb with
          |true=>obtain⟨_,A,_,r⟩:=g1;exact r.str_inv
          |false=>exact(g1).str_inv
         subst hx;exact .inr (.inr ⟨z,i,cc,rfl,rfl,by rw[<- FI];exact hz,hc,q F2 H2 _ R0 (e02.mono λ_ z=>z.elim) (.str _)⟩)
       .simp only[hz,yej]at q<;>exact q.elim
      |_=>exact q.elim
     |_=>exact q.elim
theorem r_ix(ha:PE X a (tM X.K E ca ma))(hb:PE X b (tM X.K E ca mb))(hs:L9 b):PE X (.Subscript a b pos) (tM X.K E ca (AK ma mb)):=PE.weak (Sn zm8 ha hb hs) λσ H Q h=>tM_ix h
def CY{α:Type}(l:List α)(lo hi:Option Int):List α:=(l.drop (HT.sIx l.length 0 lo)).take (HT.sIx l.length l.length hi - HT.sIx l.length 0 lo)
noncomputable def EO(m:Option (AI)):AM->Option (Option Int):=λτ=>match m with
 |none=>some none
 |some m=>match m τ with
  |some (.v (.int i) _)=>some (some i)
  |_=>none
def Eh(ma:AI)(ml mh:Option (AI)):AI:=λτ=>match ma τ with
 |some (.v t false)=>(match EO ml τ with
  |some lo=>(match EO mh τ with
   |some hi=>(match t with
    |.nd _ .lst l=>some (.v (.own (CY (Bh l) lo hi)) false)
    |.nd _ .rl l=>some (.v (.own (CY (Bh l) lo hi)) false)
    |_=>none)
   |none=>none)
  |none=>none)
 |some (.v _ true)=>none
 |r=>r
def GL(K:k7)(m:Option (AI)):TO:=λσ H Q=>∃F τ R o,StR K F H σ τ R/\EO m τ=some o/\∀F' H',Ext F H F' H' R0->Q o H'
theorem r_po0:PO X none (GL X.K none):=λpins s σ H Q I h=>by
 obtain⟨F,τ,R,o,S,e,q⟩:=h;cases e;exact zhi pins s σ H Q I (q F H (Ext.refl S.fh))
theorem r_po1(ha:PE X e (tM X.K E ca m)):PO X (some e) (GL X.K (some m)):=λpins s σ H Q I h=>by
 obtain⟨F,τ,R,o,S,e',q⟩:=h;refine zhh ha pins s σ H Q I ⟨F,τ,R,S,?_⟩;unfold EO at e';simp only at e';cases hm:m τ with
 |none=>grind
 |some r =>
  rw[hm]at e';cases r with
  |x c=>cases e'
  |v v b =>
   cases v with
   |int i =>
    cases e';intro F' H' x B e g
    have hx:x=.int i:=by
     cases b with
     |true=>obtain⟨_,A,_,r⟩:=g;exact r.int_inv
     |false=>exact(g).int_inv
    exact⟨i,hx,q F' H' (e.mono λ_ z=>z.elim)⟩
   |_=>cases e'
theorem zg9(r:Aa K F l xs)(lo hi):Aa K F (CY l lo hi) (JF xs lo hi):=by
 have hl:=r.1;unfold CY JF;rw[hl];refine⟨by simp[hl],λi t x h1 h2=>?_⟩
 rw[List.getElem?_take]at h1 h2;split at h1
 .rename_i hi';rw[if_pos hi',yco]at h2;rw[yco]at h1;exact r.2 _ t x h1 h2
 .cases h1
theorem SA{lo hi}(ha:PE X a (tM X.K E ca ma))(hl:PO X lo (GL X.K ml))(hh:PO X hi (GL X.K mh)):PE X (.Subscript a (.Slice lo hi none p2) pos) (tM X.K E ca (Eh ma ml mh)):=by
 refine PE.weak (Sk zgz ha hl hh) λσ H Q h=>?_
 obtain⟨F,τ,R,S,q⟩:=h;refine⟨F,τ,R,S,?_⟩;unfold Eh at q;cases hm:ma τ with
 |none=>simp only[hm]at q<;>exact q.elim
 |some r =>
  simp only[hm]at q;cases r with
  |x c=>exact q
  |v t bb =>
   cases bb with
   |true=>exact q.elim
   |false =>
    intro F1 H1 x B e1 g1;obtain⟨F1',e1',_,r1⟩:=DY.frz S e1 g1;have S1:=S.ext e1';simp only at q;cases h1:EO ml τ with
    |none=>simp only[h1]at q<;>exact q.elim
    |some lo' =>
     simp only[h1]at q;refine⟨F1',τ,R,lo',S1,h1,λF2 H2 e2=>?_⟩
     have S2:=S1.ext e2;cases h2:EO mh τ with
     |none=>simp only[h2]at q<;>exact q.elim
     |some hi' =>
      simp only[h2]at q;refine⟨F2,τ,R,hi',S2,h2,λF3 H3 e3=>?_⟩
      have S3:=S2.ext e3;have e03:=e1'.trans0 (e2.trans0 e3);have r3:Rp X.K F3 F3 t.share x R0:=(r1).frame (e2.ff.trans e3.ff) λ_ z=>z.elim
      have key:∀{o } {k } {l },t=.nd o k l->(k=.lst\/k=.rl)->(∀F' H' x B,Ext F H F' H' B->Rp X.K F' H' (.own (CY (Bh l) lo' hi')) x B->Q x H')->SX X.K x lo' hi' H3 Q:=by
       intro o k l et hk qq;subst et;rw[T.share]at r3;obtain⟨p,xs,rfl,_,n3,k3⟩:=EL r3
       have sq:Ad X.K H3 p xs:=by
        rcases hk with rfl|rfl
        .exact Ad.of (S3.fh _ _ n3)
        .exact S3.fh.seq n3.l
       refine⟨p,xs,rfl,sq,λp' hp'=>?_⟩
       have gg:Cg X.K F3 H3 (.own (CY (Bh l) lo' hi')) Q:=λF' H' z C e g=>qq F' H' z C (e03.trans0 e) g
       exact gg.list S3.fh (zg9 k3 lo' hi') hp'
      cases t with
      |nd o k l =>
       cases k with
       |lst=>exact key rfl (.inl rfl) q
       |rl=>exact key rfl (.inr rfl) q
       |tup=>exact q.elim
       |rt=>exact q.elim
       |pin _=>exact q.elim
      |_=>exact q.elim
def pMo(K:k7)(E:L2.St->XK)(ca:Str->Value)(σ:L2.St)(Q:List V->Hp->Prop)(F H:Hp):Option RsL->Prop
 |some (.v ts _)=>∀F' H' xs (Rr:Nat->Rg),Ext F H F' H' (tot Rr)->RpO K F' H' ts xs Rr->Q xs H'
 |some (.x c)=>∀F' H',Ext F H F' H' R0->XE (E σ) ca c F' H'
 |none=>False
def HA(K:k7)(E:L2.St->XK)(ca:Str->Value)(m:Ao):TA:=λσ H Q=>∃F τ R,StR K F H σ τ R/\pMo K E ca σ Q F H (m τ)
noncomputable def As(m:AI)(ms:Ao):Ao:=λτ=>match m τ with
 |some (.v t false)=>(match ms τ with
  |some (.v ts _)=>some (.v (t::ts) false)
  |r=>r)
 |some (.v _ true)=>none
 |some (.x c)=>some (.x c)
 |none=>none
theorem SH:PA X [] (HA X.K E ca AD):=PA.weak Ec λσ H Q h=>by
 obtain⟨F,τ,R,S,q⟩:=h;exact q F H [] (λ_=>R0) ((Ext.refl S.fh).mono λa ⟨i,z⟩=>z.elim) .nil
theorem SQ(ha:PE X e (tM X.K E ca m))(hr:PA X es (HA X.K E ca ms))(hs:starEach (e::es) X.env=(false,eval e X.env)::starEach es X.env):PA X (e::es) (HA X.K E ca (As m ms)):=by
 refine PA.weak (Dk ha hr hs) λσ H Q h=>?_
 obtain⟨F,τ,R,S,q⟩:=h;refine⟨F,τ,R,S,?_⟩;unfold As at q;cases hm:m τ with
 |none=>simp only[hm]at q<;>exact q.elim
 |some r =>
  simp only[hm]at q;cases r with
  |x c=>exact q
  |v t bb =>
   cases bb with
   |true=>exact q.elim
   |false =>
    intro F1 H1 x B e1 g1;have S1:=S.ext e1;refine⟨F1,τ,R,S1,?_⟩;cases hs:ms τ with
    |none=>simp only[hs]at q<;>exact q.elim
    |some r =>
     simp only[hs]at q;cases r with
     |x c=>exact λF' H' e=>q F' H' ((e1.trans e).mono λ_ z=>z.elim)
     |v ts b' =>
      intro F2 H2 xs Rr e2 ro;have g1' :=g1;refine q F2 H2 (x::xs) _ ((e1.trans e2).mono ?_) (ro.cons (g1'.ext e2) λi a z=>?_)
      .rintro a ⟨j,z⟩;cases j with
       |zero=>exact .inl z
       |succ j=>exact .inr ⟨j,z⟩
      .exact g1'.apart e2 ⟨i,z⟩
def Bm(ms:Ao):AI:=λτ=>match ms τ with
 |some (.v ts _)=>if ts.length<=BO then some (.v (.own ts) false) else none
 |some (.x c)=>some (.x c)
 |none=>none
theorem SJ(h:PA X es (HA X.K E ca ms)):PE X (.List es pos) (tM X.K E ca (Bm ms)):=by
 refine PE.weak (zl4 h) λσ H Q h=>?_
 obtain⟨F,τ,R,S,q⟩:=h;refine⟨F,τ,R,S,?_⟩;unfold Bm at q;cases hm:ms τ with
 |none=>simp only[hm]at q<;>exact q.elim
 |some r =>
  simp only[hm]at q;cases r with
  |x c=>exact q
  |v ts b =>
   intro F1 H1 xs Rr e1 ro
   by_cases hz:ts.length<=BO
   .simp only[hz]at q;refine⟨by rw[<- ro.len];exact hz,λp hp=>?_⟩
    obtain⟨r,e2⟩:=ro.list e1.fh hp;refine q F1 _ _ _ ((e1.trans e2).mono ?_) r;rintro a (z|⟨i,z⟩)
    .exact .inr z
    .exact .inl ⟨i,z⟩
   .simp only[hz]at q<;>exact q.elim
def BG(ms:Ao):AI:=λτ=>match ms τ with
 |some (.v ts false)=>if ts.length<=BO then some (.v (.tup ts) false) else none
 |some (.v _ true)=>none
 |some (.x c)=>some (.x c)
 |none=>none
theorem r_tup(h:PA X es (BY X.K E ca ms)):PE X (.Tuple es k pos) (tM X.K E ca (BG ms)):=by
 refine PE.weak (zl0 h) λσ H Q h=>?_
 obtain⟨F,τ,R,S,q⟩:=h;refine⟨F,τ,R,S,?_⟩;unfold BG at q;cases hm:ms τ with
 |none=>simp only[hm]at q<;>exact q.elim
 |some r =>
  simp only[hm]at q;cases r with
  |x c=>exact q
  |v ts b =>
   cases b with
   |true=>exact q.elim
   |false =>
    intro F1 H1 xs e1 rs
    by_cases hz:ts.length<=BO
    .simp only[hz]at q;refine⟨by rw[<- rs.1];exact hz,λp hp=>?_⟩
     have gg:Cg X.K F1 H1 (.tup ts) Q:=λF' H' z C e g=>q F' H' z C (e1.trans0 e) g
     exact gg.tuple e1.fh rs hp
    .simp only[hz]at q<;>exact q.elim
theorem zki{id}(hc:CJ X (.builtin id) (Di X.K g))(hg:Gl X x)(hm:X.mg x=none)(hv:bootBuiltins x=some (.builtin id))(ha:PA X (e::es) (BY X.K E ca ms))(hn:x≠"__name__")(hdb:(x == "__debug__")=false)
  (he:starEach (e::es) X.env=(false,eval e X.env)::starEach es X.env) (hpl:(backTo pos (starEach es X.env)).any (·.1)=false):PE X (.Call (.Name x p) (e::es) [] pos) (tM X.K E ca (BM g ms)) :=
 PE.weak (IT hc hg hm hv ha hn hdb he hpl) λσ H Q h=>F7 h
theorem SV(hc:CJ X (.type T') (Di X.K g))(hg:Gl X x)(hm:X.mg x=none)(hv:bootBuiltins x=some (.type T'))(ha:PA X (e::es) (BY X.K E ca ms))(hn:x≠"__name__")(hdb:(x == "__debug__")=false)
  (he:starEach (e::es) X.env=(false,eval e X.env)::starEach es X.env) (hpl:(backTo pos (starEach es X.env)).any (·.1)=false):PE X (.Call (.Name x p) (e::es) [] pos) (tM X.K E ca (BM g ms)) :=
 PE.weak (Sr hc hg hm hv ha hn hdb he hpl) λσ H Q h=>F7 h
end
def BW:T->Option T
 |.nd _ _ l=>some (.int l.length)
 |.str z=>if z.length<=BO then some (.int z.length) else none
 |_=>none
def CO:T->Option T
 |.nd _ _ l=>some (.own l)
 |_=>none
def Gd:T->Option T
 |.int i=>some (.int (if i<0 then -i else i))
 |_=>none
noncomputable def HY:T->Option T
 |.int i=>some (.int i)
 |.bl k=>some (.int (if k then 1 else 0))
 |.str x=>if x.length<=640 then (intText? x).map T.int else none
 |_=>none
noncomputable def EW:List T->Option (List Bool)
 |[]=>some []
 |.bl b::r=>(match EW r with
  |some l=>some (b::l)
  |none=>none)
 |_::_=>none
def EB:T->Option T
 |.nd _ .lst l=>(match EW l with
  |some bs=>some (.bl (bs.all id))
  |none=>none)
 |_=>none
noncomputable def Gu:T->Option String
 |.non=>some "NoneType"
 |.bl _=>some "bool"
 |.int _=>some "int"
 |.str _=>some "str"
 |.nd _ .lst _=>some "list"
 |.nd _ .tup _=>some "tuple"
 |.dic _ _=>some "dict"
 |.pdc _ _=>some "dict"
 |_=>none
def Gv:List String:=["int","bool","str","list","tuple"]
def Jp(a c:String):Bool:=a == c || (a == "bool" && c == "int")
def Bn(c:String)(t:T):Option T:=match Gu t with
 |some a=>if c∈Gv then some (.bl (Jp a c)) else none
 |none=>none
theorem zbn:PySem.W.kitMeta "str"=true:=by decide +kernel
theorem zb7:PySem.W.kitMeta "list"=true:=by decide +kernel
theorem Uy(K)(ha:a∈["NoneType","bool","int","str","list","tuple","dict"])(hc:c∈Gv):PySem.W.kitOne K (.type a) (.type c)=some (Jp a c):=by
 have km:PySem.W.kitMeta c=true:=by
  simp only[Gv,yae,yay,yeg]at hc
  rcases hc with rfl|rfl|rfl|rfl|rfl
  .exact zbo
  .exact zb8
  .exact zbn
  .exact zb7
  .exact zb0
 by_cases h:a=c
 .subst h;rw[zfp];simp[Jp]
 .refine zm0 K (l:=[]) h km ?_;simp only[Gv,yae,yay,yeg]at hc ha
  rcases ha with rfl|rfl|rfl|rfl|rfl|rfl|rfl<;>rcases hc with rfl|rfl|rfl|rfl|rfl<;>first|exact absurd rfl h|decide +kernel
section
variable {X:Cx}
theorem zeb:CJ X (.builtin "len") (Di X.K (g1 BW)):=by
 intro pins s σ H xs us Q I r h;obtain⟨F,ts,v,fh,rs,e,q⟩:=h;unfold g1 at e;split at e
 .obtain⟨x1,xs1,rfl,r1,rs1⟩:=rs.inv;cases rs1.inv0;unfold BW at e;split at e
  .cases e;obtain⟨p,ys,rfl,hq,hl,_⟩:=Rp.seq fh (r1.any);refine Wy pins s σ H _ us Q I r ⟨_,ys.length,rfl,?_,by rw[<- hl];exact q.int fh⟩
   rcases hq with hq|hq
   .exact .inl ⟨ys,hq,rfl⟩
   .exact .inr ⟨ys,hq,rfl⟩
  .split at e
   .cases e;rename_i hz;rw[r1.str_inv]at r;exact Wy pins s σ H _ us Q I r ⟨_,_,rfl,⟨by exact hz,rfl⟩,q.int fh⟩
   .cases e
  .cases e
 .cases e
theorem zdg{K}(s:AY F H)(h:En K F k p xs):Ad K H p xs\/Bp K H p xs:=by
 cases k with
 |lst=>exact .inl (Ad.of (s _ _ h))
 |rl=>exact .inl (s.seq h.l)
 |tup=>exact .inr (Bp.of (s _ _ h))
 |rt=>exact .inr (Fd s h)
 |pin q=>exact .inl (Ad.of (s _ _ h))
theorem XA:CJ X (.type "list") (Di X.K (g1 CO)):=by
 intro pins s σ H xs us Q I r h;obtain⟨F,ts,v,fh,rs,e,q⟩:=h;unfold g1 at e;split at e
 .obtain⟨x1,xs1,rfl,r1,rs1⟩:=rs.inv;cases rs1.inv0;unfold CO at e;split at e
  .cases e;obtain⟨p,ys,rfl,rfl,n1,k1⟩:=EL r1;have hq :=zdg fh n1;exact zbi pins s σ H _ us Q I r ⟨p,ys,rfl,hq,λl hl=>q.list fh k1 hl⟩
  .cases e
 .cases e
theorem zef:CJ X (.builtin "abs") (Di X.K (g1 Gd)):=by
 intro pins s σ H xs us Q I r h;obtain⟨F,ts,v,fh,rs,e,q⟩:=h;unfold g1 at e;split at e
 .obtain⟨x1,xs1,rfl,r1,rs1⟩:=rs.inv;cases rs1.inv0;unfold Gd at e;split at e
  .cases e;rw[r1.int_inv]at r;exact zgl pins s σ H _ us Q I r ⟨_,rfl,q.int fh⟩
  .cases e
 .cases e
theorem zed:CJ X (.type "int") (Di X.K (g1 HY)):=by
 intro pins s σ H xs us Q I r h;obtain⟨F,ts,v,fh,rs,e,q⟩:=h;unfold g1 at e;split at e
 .obtain⟨x1,xs1,rfl,r1,rs1⟩:=rs.inv;cases rs1.inv0;unfold HY at e;split at e
  .cases e;rw[r1.int_inv]at r;exact Wz pins s σ H _ us Q I r (.inl ⟨_,rfl,q.int fh⟩)
  .cases e;rw[r1.bl_inv]at r;exact Wz pins s σ H _ us Q I r (.inr ⟨_,rfl,q.int fh⟩)
  .split at e
   .obtain⟨n,hn,rfl⟩:=yaa.mp e;rw[r1.str_inv]at r;obtain⟨u,rfl,ru⟩:=r.one;obtain⟨t,rfl⟩:=ru;exact PySem.W.KIN.call_text hn ‹_› ⟨.int n,H,I.tok _,⟨_,rfl⟩,q.int fh⟩
   .cases e
  .cases e
 .cases e
theorem XC:∀{l} {bs},EW l=some bs->l.length=bs.length/\∀(i:Nat) (t),l[i]?=some t->∃b,bs[i]?=some b/\t=.bl b
 |[],bs,h=>by cases h;simp
 |t::r,bs,h=>by
  unfold EW at h;cases t with
  |bl b =>
   cases hr:EW r with
   |none=>grind
   |some l =>
    obtain⟨h1,h2⟩:=XC hr
    grind
  |_=>cases h
theorem zd9{bs:List Bool}(h:∀(i:Nat) (b:Bool),bs[i]?=some b->tr i=b):(List.range bs.length).all tr=bs.all id/\(List.range bs.length).any tr=bs.any id:=by
 have e:(List.range bs.length).map tr=bs:=by
  apply ybo
  grind
 constructor
 .have:(List.range bs.length).all tr=((List.range bs.length).map tr).all id:=by simp
  rw[this,e]
 .have:(List.range bs.length).any tr=((List.range bs.length).map tr).any id:=by simp
  rw[this,e]
theorem walkB(hc:X.calm=true)   {σ:L2.St}{H:Hp}{F:Hp}       (I:Inv X pins σ H s)(fh:AY F H)(r1:Rp X.K F F (.nd o .lst l) (.ref p) R0)(hb:EW l=some bs)
  (hP : ∀ (I0 : Addr) (wr fp ) (St ) (PP ) (tr ) (s2 : Shared), Walks X.prog X.w X.A.in1 I0 fp wr bs.length PP St -> St 0 s2.heap -> TruthOf X.prog X.w X.A.in1 PP tr -> (∀ (i : Nat) (b : Bool), bs[i]? = some b -> tr i = b) ->
   (∀h' tk,(∀b o,b∉wr->s2.heap.get? b=some o->h'.get? b=some o)->Inv X pins σ H { s2 with heap:=h',toks:=tk })->P (.ref I0) s2):wpAny (model X.prog X.w) X.A.in1 (pyIter (.ref p)) P E' s:=by
 obtain⟨p',ys,e',rfl,n1,k1⟩:=EL r1;cases e';obtain⟨hlen,hget⟩:=XC hb;obtain⟨its,rv,pl,hz⟩:=I.list (Ad.of (fh _ _ n1));have hl:=rv.length
 have hne :=yaf (by
  obtain⟨o,n,e,_⟩:=pl;exact ya7 e)
 have hh:X.A.in1.handled=none:=I.ok.hd hc
 have val:∀(i:Nat) (v ),its[i]?=some v->∃b,bs[i]?=some b/\v=.bool b:=λi v hv=>by
  have hi:i<ys.length:=by
   have:=(ya9.mp hv).1
   omega
  have hi2:i<l.length:=by rw[k1.1];exact hi
  obtain⟨b,h1,h2⟩:=hget i _ (ya0 hi2);have rr:=k1.2 i _ _ (ya0 hi2) (ya0 hi);rw[h2]at rr;obtain⟨u,e1,ru⟩:=rv.get (ya0 hi);rw[hv]at e1;cases e1;rw[rr.bl_inv]at ru;exact⟨b,h1,ru⟩
 have hbl:its.toArray.size=bs.length:=by rw[yb8,<- hl,<- k1.1,hlen]
 refine ydw pl.isList ?_;have W:=Walks.list (prog:=X.prog) (w:=X.w) hh s.heap.objs.size p hne its.toArray;rw[hbl]at W;refine hP s.heap.objs.size _ _ _ _ (λi=>bs.getD i false) _ W ⟨⟨_,yai _ rfl,rfl,rfl⟩,?_⟩ ?_ ?_ ?_
 .obtain⟨o,ho,hr⟩:=pl.isList;exact⟨o,ya2 _ ho,hr⟩
 .intro i v s' Q' E'' hv hq';obtain⟨b,h1,h2⟩:=val i v (by simpa using hv)
  subst h2;refine ydn ?_;have e:bs.getD i false=b:=by rw[ya6,h1];rfl
  rw[<- e];exact hq'
 .intro i b hb';show bs.getD i false=b;rw[ya6,hb']
  rfl
 .intro h' tk k
  exact I.kept λb o e=>k b o (λz=>by
   rw[yab]at z;exact absurd (ya7 e) (by rw[z];exact yb3 _)) (ya2 _ e)
theorem zee(hc:X.calm=true):CJ X (.builtin "all") (Di X.K (g1 EB)):=by
 intro pins s σ H xs us Q I r h;obtain⟨F,ts,v,fh,rs,e,q⟩:=h;unfold g1 at e;split at e
 .obtain⟨x1,xs1,rfl,r1,rs1⟩:=rs.inv;cases rs1.inv0;unfold EB at e;split at e
  .split at e
   .cases e;rename_i bs hbs;obtain⟨p,rfl⟩:=r1.ref_inv;obtain⟨u,rfl,ru⟩:=E2 r;cases ru;refine call_all_walk (walkB hc I fh r1 hbs λI0 wr fp St PP tr s2 W AZ tro htr Ax=>⟨I0,fp,wr,bs.length,PP,St,tr,rfl,W,AZ,tro,λh' tk k=>?_⟩)
    rw[(zd9 htr).1];exact⟨.bl _,H,Ax h' tk k,rfl,q.bl fh⟩
   .cases e
  .cases e
 .cases e
theorem VG  {σ:L2.St}           (I:Inv X pins σ H s)(ea:H p=some (.frz ob (.dK kvs)))(e:PySem.W.kitOne X.K (.type "dict") c=some b)(h:∀tk,Q (.bool b) { s with toks:=tk }) :
  wpAny (model X.prog X.w) A (call (.builtin "isinstance") [.ref p,c]) Q E s:=by
 obtain⟨_,_,_,vs,_,q⟩:=(I.hok p _ ea);obtain⟨o,es,ep,h1,h2,_⟩:=q;exact yb1 yde I.kIn ⟨o,h1,h2.1⟩ e (λz=>nomatch z) h
theorem QJ(fh:AY F H)(r:Rp X.K F F t x R0)(h:Gu t=some a):(TyOf X.K H x (.type a)\/a="dict"/\∃p ob kvs,x=.ref p/\H p=some (.frz ob (.dK kvs)))/\a∈["NoneType","bool","int","str","list","tuple","dict"]:=by
 cases t with
 |non=>cases h;rw[r.non_inv];exact⟨.inl .non,by simp⟩
 |bl b=>cases h;rw[r.bl_inv];exact⟨.inl (.bl b),by simp⟩
 |int i=>cases h;rw[r.int_inv];exact⟨.inl (.int i),by simp⟩
 |str y=>cases h;rw[r.str_inv];exact⟨.inl (.str y),by simp⟩
 |nd o k l =>
  obtain⟨p,xs,rfl,_,n,_⟩:=EL r;cases k with
  |lst=>cases h;exact⟨.inl (.lst (fh _ _ n)),by simp⟩
  |tup=>cases h;exact⟨.inl (.tup (fh _ _ n)),by simp⟩
  |rl=>cases h
  |rt=>cases h
  |pin _=>cases h
 |dic ks l =>
  cases h;cases r with
  |dic h e ek c=>exact⟨.inr ⟨rfl,_,_,_,rfl,fh _ _ h⟩,by simp⟩
 |pdc ks l =>
  cases h;cases r with
  |pdc h e ek c=>exact⟨.inl (.dK (fh _ _ h)),by simp⟩
 |odc ks l=>cases h
 |obj k l=>cases h
 |oob p C fs l=>cases h
 |osd ks l=>cases h
theorem zec:CJ X (.builtin "isinstance") (λxs H Q=>∃x,xs=[x,.ty c]/\Di X.K (g1 (Bn c)) [x] H Q):=by
 intro pins s σ H xs us Q I r h;obtain⟨x,rfl,F,ts,v,fh,rs,e,q⟩:=h;unfold g1 at e;split at e
 .obtain⟨x1,xs1,e1,r1,rs1⟩:=rs.inv;cases e1;unfold Bn at e;split at e
  .rename_i a ha;split at e
   .cases e;rename_i hc;obtain⟨ty,hm⟩:=QJ fh r1 ha
    rcases ty with ty|⟨rfl,p,ob,kvs,rfl,hp⟩
    .exact zgi pins s σ H _ us Q I r ⟨x,_,_,rfl,ty,Uy X.K hm hc,q.bl fh⟩
    .obtain⟨u,w',rfl,rx,ry⟩:=Gq r;cases ry;cases rx;exact VG I hp (Uy X.K hm hc) λtk=>⟨.bl _,H,I.tok _,rfl,q.bl fh⟩
   .cases e
  .cases e
 .cases e
def T.isN:T->Bool
 |.non=>true
 |_=>false
noncomputable def T.isB(b:Bool):T->Bool
 |.bl c=>c == b
 |_=>false
def Bx(neg:Bool)(t u:T):Option T:=match u with
 |.non=>some (.bl (neg ^^ t.isN))
 |.bl b=>some (.bl (neg ^^ t.isB b))
 |_=>none
theorem W8{K}(r:Rp K F H t x A):decide (x=V.non)=t.isN:=by
 cases r<;>simp[T.isN]
theorem W9{K}(r:Rp K F H t x A):decide (x=V.bl b)=t.isB b:=by
 cases r<;>simp[T.isB]
 rfl
theorem zlf:Af X (compareOp .Is) (Bb X.K (Bx false)):=by
 intro pins s σ H x y v u Q I rx ry h;obtain⟨F,t1,t2,r,fh,r1,r2,e,q⟩:=h;unfold Bx at e;split at e
 .cases e;rw[r2.non_inv]at ry;refine zla pins s σ H _ _ v u Q I rx ry ⟨rfl,?_⟩;rw[W8 r1];have:=q.bl fh
  simp_all
 .cases e;rw[r2.bl_inv]at ry;refine zlb pins s σ H _ _ v u Q I rx ry ⟨_,rfl,?_⟩;rw[W9 r1];have:=q.bl fh
  simp_all
 .cases e
theorem zdf:Af X (compareOp .IsNot) (Bb X.K (Bx true)):=by
 intro pins s σ H x y v u Q I rx ry h;obtain⟨F,t1,t2,r,fh,r1,r2,e,q⟩:=h;unfold Bx at e;split at e
 .cases e;rw[r2.non_inv]at ry;refine zhq pins s σ H _ _ v u Q I rx ry ⟨rfl,?_⟩;rw[W8 r1];have:=q.bl fh
  simp_all
 .cases e;rw[r2.bl_inv]at ry;refine zhr pins s σ H _ _ v u Q I rx ry ⟨_,rfl,?_⟩;rw[W9 r1];have:=q.bl fh
  simp_all
 .cases e
end
section
variable {X:Cx}{E:L2.St->XK}{ca:Str->Value}{σ:L2.St}{H:Hp}{m ma mb mc:AI}{ms:Ao}{K:k7}{a b c e:Expr}{es:List Expr}{pos p p2:Pos}
theorem r_isT{c}(hv:bootBuiltins cn=some (.type c))(hg:Gl X "isinstance")(hm:X.mg "isinstance"=none)(hgc:Gl X cn)(hmc:X.mg cn=none)(hn:cn≠"__name__")(hd:(cn == "__debug__")=false)(ha:PE X e (tM X.K E ca m))(he:starEach [e,.Name cn p2] X.env=(false,eval e X.env)::starEach [.Name cn p2] X.env) :
  PE X (.Call (.Name "isinstance" p) [e,.Name cn p2] [] pos) (tM X.K E ca (BM (g1 (Bn c)) (AB m AD))):=by
 refine PE.weak (IT (zec (c:=c)) hg hm ycf (Dk ha (Dk (Ss (v:=.ty c) hgc hmc hv rfl hn hd) Ec) he) (by decide) (by decide) he rfl) λσ H Q h=>?_
 exact(F6 (F7 h)).mono λx H1 h1=>⟨x,rfl,FZ h1⟩
inductive Ru where
 |ok (t:T)|exc (c:Str)
def Au(K:k7)(ca:Str->Value)(g:List T->Option Ru):Sp:=λvs H Q E=>∃F ts,AY F H/\Aa K F ts vs/\match g ts with
 |some (.ok v)=>Cg K F H v Q
 |some (.exc c)=>∀F' H',Ext F H F' H' R0->XE E ca c F' H'
 |none=>False
def JD:Bool->Str->Option Rs
 |false,c=>some (.x c)
 |true,c=>(match EK c with
  |none=>some (.x c)
  |some _=>none)
def AO(g:List T->Option Ru)(ms:Ao):AI:=λτ=>match ms τ with
 |some (.v ts b)=>(match g ts with
  |some (.ok v)=>Ax b v
  |some (.exc c)=>JD b c
  |none=>none)
 |some (.x c)=>some (.x c)
 |none=>none
theorem Wx(h:tM K E ca (AO g ms) σ H Q):MF (Au K ca g) [] E (BY K E ca ms) σ H Q:=by
 obtain⟨F,τ,R,S,q⟩:=h;refine⟨F,τ,R,S,?_⟩;unfold AO at q;cases hs:ms τ with
 |none=>simp only[hs]at q<;>exact q.elim
 |some r =>
  simp only[hs]at q;cases r with
  |x c=>exact q
  |v ts b =>
   intro F1 H1 xs e1 rs;have S1:=S.ext e1;rw[ybu];refine⟨Gz b F1 H1 R,ts,Kn S1,rs,?_⟩;cases hg:g ts with
   |none=>simp only[hg]at q<;>exact q.elim
   |some r =>
    simp only[hg]at q;cases r with
    |exc c =>
     cases b with
     |false=>exact λF' H' e2=>q F' H' (e1.trans0 e2)
     |true =>
      simp only[JD]at q;cases hp:EK c with
      |none=>rw[hp]at q;exact λF' H' e2=>(q F1 H' (e1.grow e2.hh)).any hp
      |some n=>rw[hp]at q;exact q.elim
    |ok v =>
     intro F2 H2 z C e2 r2;simp only at q;unfold Ax at q;cases b with
     |false=>exact q F2 H2 z C (e1.trans0 e2) r2
     |true =>
      cases hf:v.flat with
      |false=>rw[hf]at q;cases q
      |true=>rw[hf]at q;exact q F1 H2 z R0 (e1.grow e2.hh) (r2.flat_any hf)
theorem zkh(D:DefX X.prog X.w X.K X.mg X.base k x ps (Au X.K ca g))(hr:Room j X.A)(hx:BB X E)(ha:PA X (e::es) (BY X.K E ca ms))(hk:k<=j)(hg:Gl X x)(hdb:(x == "__debug__")=false)
  (he:starEach (e::es) X.env=(false,eval e X.env)::starEach es X.env) (hpl:(backTo pos (starEach es X.env)).any (·.1)=false):PE X (.Call (.Name x p) (e::es) [] pos) (tM X.K E ca (AO g ms)):=PE.weak (px D hr hx ha hk hg hdb he hpl) λ_ _ _ h=>Wx h
end
theorem Aa.app{K}{F}:∀{ts us} {xs ys},Aa K F ts xs->Aa K F us ys->Aa K F (ts++us) (xs++ys)
 |[],us,xs,ys,h,r=>by
  rw[h.inv0];exact r
 |t::ts,us,xs,ys,h,r=>by
  obtain⟨x,xs',rfl,h1,h2⟩:=h.inv;exact .cons h1 (Aa.app h2 r)
def gD(dts:List T)(g:List T->Option Ru):List T->Option Ru:=λts=>g (ts++dts)
section
variable {X:Cx}{E:L2.St->XK}{ca:Str->Value}{ms:Ao}{e:Expr}{es:List Expr}{p pos:Pos}
theorem zh8(D:DefX X.prog X.w X.K X.mg X.base k x ps (Au X.K ca g))(DD:DefsX X.K D.fd ps dvs)(hdt:∀F ,Aa X.K F dts dvs)(hr:Room j X.A)(hx:BB X E)(ha:PA X (e::es) (BY X.K E ca ms))(hk:k<=j)(hg:Gl X x)(hdb:(x == "__debug__")=false)
  (he:starEach (e::es) X.env=(false,eval e X.env)::starEach es X.env) (hpl:(backTo pos (starEach es X.env)).any (·.1)=false):PE X (.Call (.Name x p) (e::es) [] pos) (tM X.K E ca (AO (gD dts g) ms)):=PE.weak (pxd D DD hr hx ha hk hg hdb he hpl) λσ H Q h=>(Wx h).mono λvs H1 ⟨F,ts,s,r,q⟩=>by
 rw[ybu]at r;exact⟨F,ts++dts,s,r.app (hdt F),q⟩
end
def FU(K:k7)(J:It)(F:Hp)(ts:List T):Prop:=∀(i:Nat) (F' H':Hp),AY F F'->AY F' H' ->
 (∀t,ts[i]?=some t->J.go i H'/\∀x H'',J.yld i H' x H''->∃F'',Ext F' H' F'' H'' R0/\Rp K F'' H'' t x R0)/\(i=ts.length->J.stop i H')
def pI(K:k7)(E:L2.St->XK)(ca:Str->Value)(σ:L2.St)(P:It->Hp->Prop)(F H:Hp):Option RsL->Prop
 |some (.v ts _)=>∀F' H' J,Ext F H F' H' R0->FU K J F' ts->P J H'
 |some (.x c)=>∀F' H',Ext F H F' H' R0->XE (E σ) ca c F' H'
 |none=>False
def tI(K:k7)(E:L2.St->XK)(ca:Str->Value)(m:Ao):TI:=λσ H P=>∃F τ R,StR K F H σ τ R/\pI K E ca σ P F H (m τ)
noncomputable def HX:T->Bool
 |.nd _ .lst _=>true
 |.nd _ .rl _=>true
 |.nd _ (.pin _) _=>true
 |_=>false
noncomputable def HZ(m:AI):Ao:=λτ=>match m τ with
 |some (.v (.nd _ k l) false)=>some (.v (Bh l) false)
 |some (.x c)=>some (.x c)
 |_=>none
def DT(lo:Int)(n:Nat):List T:=(List.range n).map λ(i:Nat)=>.int (lo+(i:Int))
def Dl(j:Int):Bool:=@decide (-(2 ^ 62)<=j/\j<2 ^ 62) (Classical.propDecidable _)
def LH:List T->Option Int
 |[.int j]=>some j
 |_=>none
def Cy(ms:Ao):Ao:=λτ=>match ms τ with
 |some (.v ts _)=>(match LH ts with
  |some j=>if Dl j then some (.v (DT 0 j.toNat) false) else none
  |none=>none)
 |r=>r
def Dq:Nat->List T->List T
 |_,[]=>[]
 |i,t::r=>.tup [.int (i:Int),t]::Dq (i+1) r
def Gc:List T->Option (List T)
 |[.nd o k l]=>if HX (.nd o k l) then some l else none
 |_=>none
def LG:List T->Option (List T×List T)
 |[.nd o k l,.nd o' k' m]=>if HX (.nd o k l) && HX (.nd o' k' m) then some (l,m) else none
 |_=>none
def Dx(ms:Ao):Ao:=λτ=>match ms τ with
 |some (.v ts false)=>(match Gc ts with
  |some l=>some (.v (Dq 0 l) false)
  |none=>none)
 |some (.v _ true)=>none
 |r=>r
def Hy(l m:List T):List T:=List.zipWith (λa b=>T.tup [a,b]) l m
def G7(ms:Ao):Ao:=λτ=>match ms τ with
 |some (.v ts false)=>(match LG ts with
  |some (l,m)=>some (.v (Hy l m) false)
  |none=>none)
 |some (.v _ true)=>none
 |r=>r
theorem OX:∀(l) (n i),(Dq n l)[i]?=(l[i]?).map λt=>T.tup [.int (n+i:Nat),t]
 |[],n,i=>by rfl
 |t::r,n,i=>by
  cases i with
  |zero=>rfl
  |succ i =>
   simp only[Dq,yc4];rw[OX r (n+1) i]
   grind
theorem WU(l):∀n,(Dq n l).length=l.length:=by
 induction l with
 |nil=>intro n;rfl
 |cons t r ih=>simp[Dq,ih]
section
variable {X:Cx}{E:L2.St->XK}{ca:Str->Value}{σ:L2.St}{H:Hp}{m ma mb mc:AI}{ms:Ao}{K:k7}{a b c e tg:Expr}{es elts:List Expr}{pos p tpos:Pos}{kk:Nat}
theorem Nt{p}(n:∀F' H' ,AY F F'->AY F' H'->Ad K H' p xs)(r:Aa K F l xs):FU K (Pf K p) F l:=by
 intro i F' H' s1 s2;have sq:=n F' H' s1 s2;refine⟨λt ht=>?_,λe=>⟨xs,sq,by rw[e,r.1];simp⟩⟩
 have hi:i<xs.length:=by
  have:=(ya9.mp ht).1;have:=r.1
  omega
 refine⟨⟨xs,xs[i],sq,ya0 hi⟩,λx H'' y=>?_⟩
 obtain⟨rfl,y⟩:=y;have hx:=y xs sq;exact⟨F',Ext.refl s2,((r.same s1).2 i t x ht hx).any⟩
theorem VD{p}(n:∀F' H' ,AY F F'->AY F' H'->Bp K H' p xs)(r:Aa K F l xs):FU K (Pe K p) F l:=by
 intro i F' H' s1 s2;have sq:=n F' H' s1 s2;refine⟨λt ht=>?_,λe=>⟨xs,sq,by rw[e,r.1];simp⟩⟩
 have hi:i<xs.length:=by
  have:=(ya9.mp ht).1;have:=r.1
  omega
 refine⟨⟨xs,xs[i],sq,ya0 hi⟩,λx H'' y=>?_⟩
 obtain⟨rfl,y⟩:=y;have hx:=y xs sq;exact⟨F',Ext.refl s2,((r.same s1).2 i t x ht hx).any⟩
theorem zdm{lo}:FU K (Lb lo n) F (DT lo n):=by
 intro i F' H' s1 s2;refine⟨λt ht=>?_,λe=>?_⟩
 .unfold DT at ht;rw[ya3]at ht;obtain⟨j,e1,e2⟩:=yaa.mp ht
  have hi:i<n:=by
   grind
  have hj:i=j:=by grind
  subst hj;subst e2;refine⟨hi,λx H'' y=>?_⟩
  obtain⟨rfl,rfl⟩:=y;exact⟨F',Ext.refl s2,.int _⟩
 .have:n<=i:=by rw[e];simp[DT]
  exact this
theorem VE{p}(n:∀F' H' ,AY F F'->AY F' H'->Ad K H' p xs)(r:Aa K F l xs):FU K (Lc K k p) F (Dq k l):=by
 intro i F' H' s1 s2;have sq:=n F' H' s1 s2;refine⟨λt ht=>?_,λe=>⟨xs,sq,by rw[e,WU,r.1];simp⟩⟩
 rw[OX]at ht;obtain⟨t0,h0,rfl⟩:=yaa.mp ht
 have hi:i<xs.length:=by
  have:=(ya9.mp h0).1;have:=r.1
  omega
 refine⟨⟨xs,xs[i],sq,ya0 hi⟩,λx H'' y=>?_⟩
 obtain⟨q,y0,rfl,hq,rfl,y⟩:=y;have hx:=y xs sq;have e:=Ext.new (o:=.tup [.int (k+i),y0]) s2 hq;refine⟨_,e,Aa.of_node BQ ?_⟩;exact .cons (H:=H') (.int _) (.cons (H:=H') (((r.same (s1.trans e.ff)).2 i t0 y0 h0 hx).any) .nil)
theorem zio{p p2}(n:∀F' H' ,AY F F'->AY F' H'->Ad K H' p xs)(n2:∀F' H' ,AY F F'->AY F' H'->Ad K H' p2 ys)(r:Aa K F l xs)(r2:Aa K F l2 ys):FU K (Pd K p p2) F (Hy l l2):=by
 intro i F' H' s1 s2;have sq:=n F' H' s1 s2;have sq2:=n2 F' H' s1 s2;have l1:=r.1;have l2':=r2.1;refine⟨λt ht=>?_,λe=>⟨xs,ys,sq,sq2,?_⟩⟩
 .unfold Hy at ht;rw[ycz]at ht;cases h1:l[i]? with
  |none=>rw[h1]at ht;cases ht
  |some t1 =>
   cases h2:l2[i]? with
   |none=>rw[h1,h2]at ht;cases ht
   |some t2 =>
    rw[h1,h2]at ht;cases ht;have hi:i<xs.length:=by have:=(ya9.mp h1).1;omega
    have hi2:i<ys.length:=by grind
    refine⟨⟨xs,xs[i],ys,ys[i],sq,ya0 hi,sq2,ya0 hi2⟩,λx H'' y=>?_⟩
    obtain⟨q,y0,z0,rfl,hq,rfl,y,z⟩:=y;have hx:=y xs sq;have hy:=z ys sq2;have e:=Ext.new (o:=.tup [y0,z0]) s2 hq;refine⟨_,e,Aa.of_node BQ ?_⟩;exact .cons (H:=H') (((r.same (s1.trans e.ff)).2 i t1 y0 h1 hx).any) (.cons (H:=H') (((r2.same (s1.trans e.ff)).2 i t2 z0 h2 hy).any) .nil)
 .have:i=min l.length l2.length:=by rw[e];simp[Hy]
  omega
theorem PI.weak(h:PI X tg e t)(w:∀σ H P,t' σ H P->t σ H P):PI X tg e t':=λpins s σ H P I q=>h pins s σ H P I (w σ H P q)
theorem PI.or(h:PI X tg e t)(h':PI X tg e t'):PI X tg e (λσ H P=>t σ H P\/t' σ H P):=λpins s σ H P I q=>q.elim (h pins s σ H P I) (h' pins s σ H P I)
theorem SM(ha:PE X e (tM X.K E ca m)):PI X tg e (tI X.K E ca (HZ m)):=by
 refine PI.weak (PI.or (zhj ha) (zkw ha)) λσ H P h=>?_
 obtain⟨F,τ,R,S,q⟩:=h;unfold HZ at q
 have key:∀{o } {k } {l },m τ=some (.v (.nd o k l) false)->(∀F' H' J,Ext F H F' H' R0->FU X.K J F' (Bh l)->P J H')->∀F1 H1 x B,Ext F H F1 H1 B->DY X.K F1 H1 R (.nd o k l) false x B->∃(F2:Hp) (p:Addr) (xs:List V),x=.ref p/\Ext F H F2 H1 R0/\En X.K F2 k p xs/\Aa X.K F2 (Bh l) xs:=by
  intro o k l hm q F1 H1 x B e1 g1;obtain⟨F2,e2,_,r2⟩:=DY.frz S e1 g1;have r2' :=r2;rw[T.share]at r2';obtain⟨p,xs,rfl,_,n,kd⟩:=EL r2';exact⟨F2,p,xs,rfl,e2,n,kd⟩
 cases hm:m τ with
 |none=>simp only[hm]at q<;>exact q.elim
 |some r =>
  simp only[hm]at q;cases r with
  |x c=>exact .inl ⟨F,τ,R,S,by rw[hm];exact q⟩
  |v t bb =>
   cases t with
   |nd o k l =>
    cases bb with
    |true=>exact q.elim
    |false =>
     simp only at q;cases k with
     |lst =>
      refine .inl ⟨F,τ,R,S,?_⟩;rw[hm];intro F1 H1 x B e1 g1;obtain⟨F2,p,xs,rfl,e2,n,kd⟩:=key hm q F1 H1 x B e1 g1;exact⟨p,rfl,⟨xs,Ad.of (e2.fh _ _ n)⟩,q F2 H1 _ e2 (Nt (λF' H' s1 s2=>Ad.of (s2 _ _ (s1 _ _ n))) kd)⟩
     |pin _ =>
      refine .inl ⟨F,τ,R,S,?_⟩;rw[hm];intro F1 H1 x B e1 g1;obtain⟨F2,p,xs,rfl,e2,n,kd⟩:=key hm q F1 H1 x B e1 g1;exact⟨p,rfl,⟨xs,Ad.of (e2.fh _ _ n)⟩,q F2 H1 _ e2 (Nt (λF' H' s1 s2=>Ad.of (s2 _ _ (s1 _ _ n))) kd)⟩
     |rl =>
      refine .inl ⟨F,τ,R,S,?_⟩;rw[hm];intro F1 H1 x B e1 g1;obtain⟨F2,p,xs,rfl,e2,n,kd⟩:=key hm q F1 H1 x B e1 g1;exact⟨p,rfl,⟨xs,e2.fh.seq n.l⟩,q F2 H1 _ e2 (Nt (λF' H' s1 s2=>s2.seq (s1.seq n.l)) kd)⟩
     |tup =>
      refine .inr ⟨F,τ,R,S,?_⟩;rw[hm];intro F1 H1 x B e1 g1;obtain⟨F2,p,xs,rfl,e2,n,kd⟩:=key hm q F1 H1 x B e1 g1;exact⟨p,rfl,⟨xs,Bp.of (e2.fh _ _ n)⟩,q F2 H1 _ e2 (VD (λF' H' s1 s2=>Bp.of (s2 _ _ (s1 _ _ n))) kd)⟩
     |rt =>
      refine .inr ⟨F,τ,R,S,?_⟩;rw[hm];intro F1 H1 x B e1 g1;obtain⟨F2,p,xs,rfl,e2,n,kd⟩:=key hm q F1 H1 x B e1 g1;exact⟨p,rfl,⟨xs,Fd e2.fh n⟩,q F2 H1 _ e2 (VD (λF' H' s1 s2=>Fd s2 (Fd s1 n)) kd)⟩
   |_=>exact q.elim
theorem Jm{f:(Ao)->Ao}   (hx:∀τ c,ms τ=some (.x c)->f ms τ=some (.x c))(hn:∀τ,ms τ=none->f ms τ=none)
  (hv : ∀ F τ R ts b, StR K F H σ τ R -> ms τ = some (.v ts b) -> (match f ms τ with
   |some (.v us _)=>∀F' H' J,Ext F H F' H' R0->FU K J F' us->P J H'
   |some (.x c)=>∀F' H',Ext F H F' H' R0->XE (E σ) ca c F' H'
   |none=>False)->∀F' H' xs,Ext F H F' H' R0->Aa K (Gz b F' H' R) ts xs->W xs H') (h:tI K E ca (f ms) σ H P):BY K E ca ms σ H W:=by
 obtain⟨F,τ,R,S,q⟩:=h;refine⟨F,τ,R,S,?_⟩;cases hm:ms τ with
 |none=>rw[hn τ hm]at q;exact q.elim
 |some r =>
  cases r with
  |x c=>rw[hx τ c hm]at q;exact q
  |v ts b=>exact λF' H' xs e rs=>hv F τ R ts b S hm q F' H' xs e rs
theorem zfb(h:Dl j=true):-(2 ^ 62)<=j/\j<2 ^ 62:=@of_decide_eq_true _ (Classical.propDecidable _) h
theorem zex(hg:Gl X "range")(hm:X.mg "range"=none)(ha:PA X [a] (BY X.K E ca ms))(hs:starEach [a] X.env=[(false,eval a X.env)]):PI X tg (.Call (.Name "range" p) [a] [] pos) (tI X.K E ca (Cy ms)):=by
 refine PI.weak (zdc hg hm ha hs) λσ H P h=>?_
 refine Jm (λτ c e=>by unfold Cy;rw[e]) (λτ e=>by unfold Cy;rw[e]) (λF τ R ts b S e q F' H' xs e1 rs=>?_) h
 unfold Cy at q;rw[e]at q;simp only at q;cases h1:LH ts with
 |none=>simp only[h1]at q<;>exact q.elim
 |some j =>
  simp only[h1]at q
  by_cases hj:Dl j=true
  .simp only[hj,ye1]at q;obtain⟨g1,g2⟩:=zfb hj;unfold LH at h1;split at h1
   .cases h1;obtain⟨x1,xs1,rfl,r1,rs1⟩:=rs.inv;cases rs1.inv0;rw[r1.int_inv];exact⟨j,rfl,g1,g2,q F' H' _ e1 zdm⟩
   .cases h1
  grind
theorem Io(h:HX (.nd o k l)=true)(r:Rp K F F (.nd o k l) x R0):∃p xs,x=.ref p/\(∀F' H' ,AY F F'->AY F' H'->Ad K H' p xs)/\Aa K F l xs:=by
 obtain⟨p,xs,rfl,_,n,kd⟩:=EL r;refine⟨p,xs,rfl,λF' H' s1 s2=>?_,kd⟩
 cases k with
 |lst=>exact Ad.of (s2 _ _ (s1 _ _ n))
 |rl=>exact s2.seq (s1.seq n.l)
 |tup=>cases h
 |rt=>cases h
 |pin q=>exact Ad.of (s2 _ _ (s1 _ _ n))
theorem SO(hg:Gl X "enumerate")(hm:X.mg "enumerate"=none)(ha:PA X [a] (BY X.K E ca ms))(hs:starEach [a] X.env=[(false,eval a X.env)]):PI X (.Tuple elts kk tpos) (.Call (.Name "enumerate" p) [a] [] pos) (tI X.K E ca (Dx ms)):=by
 refine PI.weak (zhk hg hm ha hs) λσ H P h=>?_
 refine Jm (λτ c e=>by unfold Dx;rw[e]) (λτ e=>by unfold Dx;rw[e]) (λF τ R ts b S e q F' H' xs e1 rs=>?_) h
 unfold Dx at q;rw[e]at q;cases b with
 |true=>exact q.elim
 |false =>
  simp only at q;cases h1:Gc ts with
  |none=>grind
  |some l =>
   simp only[h1]at q;unfold Gc at h1;split at h1
   .split at h1
    .cases h1;rename_i hL;obtain⟨x1,xs1,rfl,r1,rs1⟩:=rs.inv;cases rs1.inv0;obtain⟨p',ys,rfl,sq,kd⟩:=Io hL r1;exact⟨p',rfl,⟨ys,sq F' H' (.refl _) e1.fh⟩,q F' H' _ e1 (VE sq kd)⟩
    .cases h1
   .cases h1
theorem r_zip(hg:Gl X "zip")(hm:X.mg "zip"=none)(ha:PA X [a,b] (BY X.K E ca ms))(hs:starEach [a,b] X.env=[(false,eval a X.env),(false,eval b X.env)])(hs2:starEach [b] X.env=[(false,eval b X.env)]):PI X (.Tuple elts kk tpos) (.Call (.Name "zip" p) [a,b] [] pos) (tI X.K E ca (G7 ms)):=by
 refine PI.weak (zkv hg hm ha hs hs2) λσ H P h=>?_
 refine Jm (λτ c e=>by unfold G7;rw[e]) (λτ e=>by unfold G7;rw[e]) (λF τ R ts b S e q F' H' xs e1 rs=>?_) h
 unfold G7 at q;rw[e]at q;cases b with
 |true=>exact q.elim
 |false =>
  simp only at q;cases h1:LG ts with
  |none=>simp only[h1]at q<;>exact q.elim
  |some lm =>
   obtain⟨l,m'⟩:=lm;simp only[h1]at q;unfold LG at h1;split at h1
   .split at h1
    .cases h1;rename_i hL;rw[ya4]at hL;obtain⟨x1,xs1,rfl,r1,rs1⟩:=rs.inv;obtain⟨x2,xs2,rfl,r2,rs2⟩:=rs1.inv;cases rs2.inv0;obtain⟨p',ys,rfl,sq,kd⟩:=Io hL.1 r1;obtain⟨p2,zs,rfl,sq2,kd2⟩:=Io hL.2 r2;exact⟨p',p2,rfl,⟨ys,sq F' H' (.refl _) e1.fh⟩,⟨zs,sq2 F' H' (.refl _) e1.fh⟩,q F' H' _ e1 (zio sq sq2 kd kd2)⟩
    .cases h1
   .cases h1
end
theorem StR.set{K}(S:StR K F H σ τ R)(r:Rp K F H t x A)(d:∀j a,j≠i->R j a->¬ A a)(hi:i<τ.length) :
  StR K F H (σ.set i (some x)) (τ.set i (some t)) (λj=>if j=i then A else R j):=by
 have hl:=S.len;refine⟨S.fh,by simp[hl],λj t' e=>?_,λj a z=>?_,λj k a hjk z1 z2=>?_⟩
 .by_cases hj:j=i
  .grind
  .rw[yap (yar hj)]at e ⊢;obtain⟨y,e1,r1⟩:=S.rep j t' e;exact⟨y,e1,by simpa[hj] using r1⟩
 .by_cases hj:j=i
  .subst hj;exact⟨t,yas hi⟩
  .simp only[hj,yej]at z;obtain⟨t',e⟩:=S.out j a z;exact⟨t',by rw[yap (yar hj)];exact e⟩
 .by_cases hj:j=i
  .grind
  .simp only[hj,yej]at z1
   by_cases hk:k=i
   .simp only[hk,ye1]at z2;exact d j a hj z1 z2
   .simp only[hk,yej]at z2;exact S.dis j k a hjk z1 z2
def D0(K:k7)(b:T->AM->Option AM):TG:=λv σ H Q=>∃F τ R t τ',StR K F H σ τ R/\Rp K F H t v R0/\b t τ=some τ'/\∀σ' R',StR K F H σ' τ' R'->(∀i a,R' i a->R i a)->Q σ' H
def GN(K:k7)(b:List T->AM->Option AM):Hi:=λvs σ H Q=>∃F τ R ts τ',StR K F H σ τ R/\Aa K F ts vs/\b ts τ=some τ'/\∀σ' R',StR K F H σ' τ' R'->(∀i a,R' i a->R i a)->Q σ' H
def AF(i:Nat):T->AM->Option AM:=λt τ=>if i<τ.length then some (τ.set i (some t)) else none
def B7:List T->AM->Option AM
 |[],τ=>some τ
 |_::_,_=>none
def Ac(b:T->AM->Option AM)(bs:List T->AM->Option AM):List T->AM->Option AM
 |t::ts,τ=>(match b t τ with
  |some τ'=>bs ts τ'
  |none=>none)
 |[],_=>none
def BX(n:Nat)(bs:List T->AM->Option AM):T->AM->Option AM
 |.nd _ .tup l,τ=>if l.length=n then bs l τ else none
 |.nd _ .rt l,τ=>if l.length=n then bs l τ else none
 |.nd _ .lst l,τ=>if l.length=n then bs l τ else none
 |_,_=>none
theorem zkz       (hc:X.calm=true)(h:DP X es t)(hn:(assignEach es X.env).length=n)(hst:(assignEach es X.env).findIdx? (·.1)=none):PG X (.Tuple es k pos) (λv σ H Q=>Nz X.K n t v σ H Q\/∃a xs,v=.ref a/\Ad X.K H a xs/\xs.length=n/\t xs σ H Q):=by
 intro pins s σ H v u Q I r hw
 rcases hw with hw|⟨a,xs,e1,hq,hl,hw⟩
 .exact zky hc h hn hst pins s σ H v u Q I r hw
 .subst e1;cases r;obtain⟨its,rv,⟨o,m,ho,hcl,_,hd⟩,hz⟩:=I.list hq;refine ydq (yds ?_);unfold unpack;rw[hst,hn,show n=its.toArray.size by simp[<- hl,rv.length]]
  refine ydq (ydr (PySem.W.kun_itemsOf (I.ok.hd hc) ⟨o,ho,hcl,m,hd⟩ λh' hx=>?_))
  have I1 :=I.kept (t':=s.toks) λb o e=>hx b o (yaf (ya7 e)) e
  exact h pins _ σ H xs _ Q I1 (by grind) hw
section
variable {X:Cx}{e:Expr}{es:List Expr}{pos:Pos}{b:T->AM->Option AM}{bs:List T->AM->Option AM}
theorem PG.weak(h:PG X e t)(w:∀v σ H Q,t' v σ H Q->t v σ H Q):PG X e t':=λpins s σ H v u Q I r q=>h pins s σ H v u Q I r (w v σ H Q q)
theorem DP.weak(h:DP X es t)(w:∀v σ H Q,t' v σ H Q->t v σ H Q):DP X es t':=λpins s σ H v u Q I r q=>h pins s σ H v u Q I r (w v σ H Q q)
theorem g_nm(hN:X.N.Nodup)(hi:X.N[i]?=some x)(hx:GI X.env.scope x)(hf:X.fn x=true\/X.env.scope.names.lookup x=some .local):PG X (.Name x pos) (D0 X.K (AF i)):=by
 refine PG.weak (zhm hN hi hx hf) λv σ H Q h=>?_
 obtain⟨F,τ,R,t,τ',S,r,e,q⟩:=h;unfold AF at e;split at e
 .cases e;rename_i hl;refine q _ _ (S.set r (λ_ _ _ _ z=>z.elim) hl) λj a z=>?_
  by_cases hj:j=i
  .simp only[hj]at z;exact z.elim
  grind
 .cases e
theorem g_nil:DP X [] (GN X.K B7):=DP.weak zhl λv σ H Q h=>by
 obtain⟨F,τ,R,ts,τ',S,r,e,q⟩:=h;cases ts with
 |nil=>cases e;exact⟨r.inv0,q σ R S λ_ _ z=>z⟩
 |cons _ _=>cases e
theorem zmg(h1:PG X e (D0 X.K b))(h2:DP X es (GN X.K bs))(hs:(assignEach (e::es) X.env).map (·.2)=assign e X.env::(assignEach es X.env).map (·.2)):DP X (e::es) (GN X.K (Ac b bs)):=by
 refine DP.weak (zf3 h1 h2 hs) λv σ H Q h=>?_
 obtain⟨F,τ,R,ts,τ',S,r,e,q⟩:=h;cases ts with
 |nil=>cases e
 |cons t ts =>
  obtain⟨x,xs,rfl,r1,rs⟩:=r.inv;unfold Ac at e;simp only at e;cases hb:b t τ with
  |none=>grind
  |some τ1 =>
   rw[hb]at e;exact⟨x,xs,rfl,F,τ,R,t,τ1,S,r1.any,hb,λσ1 R1 S1 w1=>⟨F,τ1,R1,ts,τ',S1,rs,e,λσ2 R2 S2 w2=>q σ2 R2 S2 λi a z=>w1 i a (w2 i a z)⟩⟩
theorem g_tup(hc:X.calm=true)(h:DP X es (GN X.K bs))(hn:(assignEach es X.env).length=n)(hst:(assignEach es X.env).findIdx? (·.1)=none):PG X (.Tuple es k pos) (D0 X.K (BX n bs)):=by
 refine PG.weak (zkz hc h hn hst) λv σ H Q h=>?_
 obtain⟨F,τ,R,t,τ',S,r,e,q⟩:=h
 have key:∀{o } {kd } {l },t=.nd o kd l->(kd=.tup\/kd=.rt\/kd=.lst)->(if l.length=n then bs l τ else none)=some τ'->(Nz X.K n (GN X.K bs) v σ H Q\/∃a xs,v=.ref a/\Ad X.K H a xs/\xs.length=n/\GN X.K bs xs σ H Q):=by
  intro o kd l et hk e';subst et;split at e'
  .rename_i hl;obtain⟨p,xs,rfl,_,nn,kid⟩:=EL (r.any (H':=F));have hx:xs.length=n:=by rw[<- kid.1];exact hl
   rcases hk with rfl|rfl|rfl
   .exact .inl ⟨p,xs,rfl,Bp.of (S.fh _ _ nn),hx,F,τ,R,l,τ',S,kid,e',q⟩
   .exact .inl ⟨p,xs,rfl,Fd S.fh nn,hx,F,τ,R,l,τ',S,kid,e',q⟩
   .exact .inr ⟨p,xs,rfl,Ad.of (S.fh _ _ nn),hx,F,τ,R,l,τ',S,kid,e',q⟩
  .cases e'
 unfold BX at e
 grind
end
section
abbrev Ig(l:Addr):Obj:={ cls:=.type "list_iterator",data:=.fields #[.ref l,.int 0 0] }
abbrev OY(p:Addr)(k:Int):Obj:={ cls:=.type "enumerate",data:=.fields #[.none,.bool false,.ref p,rawInt k,.none,.none] }
set_option maxHeartbeats 1000001 in
theorem zi5(l:Addr)(its:Array Value)(n:Nat)(d:Option Addr)(sl:Array (Option Value))(t:Tok) :
  Meets (Builtin.«enumerate.__new__» ⟨[.type "enumerate",.ref l],[("start",.int 1 t)]⟩) (λ_ R s=>s.heap.get? l=some ⟨.type "list",d,.seq its n,sl⟩ /\
   R (.ok (.ret (.ref (s.heap.push (Ig l)).objs.size))) { s with heap:=(s.heap.push (Ig l)).push (OY s.heap.objs.size 1) }):=Meets.of_wp λprog w A R s h=>by
 obtain⟨hp,g,d2,tk,os⟩:=s;obtain⟨hl,h⟩:=h;have hsub:=sub_enumerate;have hL:Heap.IsList (Shared.heap ⟨hp,g,d2,tk,os⟩) l its:=⟨_,hl,rfl,n,rfl⟩
 wp_walk using yek hl
 refine wpAny_stack_any λst=>ydt ?_
 split
 .rename_i c _ _ _ _ _;cases (c == Value.type "enumerate")
  .wp_walk using yek hl,ydw hL
   exact⟨_,rfl,h⟩
  .wp_walk using yek hl,ydw hL
   exact⟨_,rfl,h⟩
 .wp_walk using yek hl,ydw hL
  exact⟨_,rfl,h⟩
set_option maxHeartbeats 1000001 in
theorem zfq(x l:Addr)(t:Tok):Meets (Builtin.«object.__init__» ⟨[.ref x,.ref l],[("start",.int 1 t)]⟩) (λ_ R s=>s.TypeIs (.ref x) "enumerate"/\R (.ok (.ret .none)) s):=Meets.of_wp λprog w A R s hs=>by
 obtain⟨hT,hq⟩:=hs;have hl:=yd9.init.lookup;have hm:=yd9.made;have hne:(some "enumerate.__new__" != some "object.__new__")=true:=by decide
 repeat (any_goals (first|assumption|wp_step))
 exact⟨_,rfl,hq⟩
set_option maxHeartbeats 1000001 in
theorem zgk{prog:Program}{w:World}{A:Around}{E:Value->Shared->Prop}{s:Shared}{l:Addr}{its:Array Value}{t:Tok}{Q:Value->Shared->Prop}(hL:s.heap.IsList l its)
  (h:∀h',IsEnum h' (s.heap.objs.size+1) s.heap.objs.size 1 .none->h'.IsListIter s.heap.objs.size l 0->h'.objs.size=s.heap.objs.size+2->(∀b o,s.heap.get? b=some o->h'.get? b=some o)->Q (.ref (s.heap.objs.size+1)) { s with heap:=h' }) :
  wpAny (model prog w) A (call (.type "enumerate") [.ref l] [("start",.int 1 t)]) Q E s:=by
 obtain⟨⟨c,d,dt,sl⟩,hl,hc,n,hd⟩:=hL
 replace hc:c=.type "list":=hc
 replace hd:dt=.seq its n:=hd
 subst hc hd;have ft:=yd9;obtain⟨c,tl,hmro⟩:=ft.mro;have hmade:=ft.made;have hsub:=ft.sub;have hct:checkTypeCall "enumerate" ⟨[.ref l],[("start",.int 1 t)]⟩=pure ():=by ext
 have hcn:checkBuiltinCall "enumerate.__new__" ⟨[.type "enumerate",.ref l],[("start",.int 1 t)]⟩=pure ():=by ext
 refine ye6 (codeAny_of_tree ?_);refine ydt ⟨yc9 _ (by decide +kernel),ye9 F.entry_type_call ?_⟩
 rw[Around.under_plain (weight_type_call_type "enumerate" _ _) (units_type_call_type "enumerate" _ _)];have h1:=ft.notType;have h2:=ft.canCreate
 repeat (any_goals (first|assumption|wp_step))
 refine ye2 (ye8 ft.plain F.entry_enumerate_new (yeb hcn (zi5 l its n d sl t prog w A.in1 (wants (λo s1=>o=.ref (s.heap.objs.size+1)/\s1.TypeIs o "enumerate"/\Q o s1) E) s ⟨hl,?_⟩))) λr s1 hr=>?_
 .have hz:(s.heap.push (Ig l)).objs.size=s.heap.objs.size+1:=ybk ..
  have he:IsEnum ((s.heap.push (Ig l)).push (OY s.heap.objs.size 1)) (s.heap.objs.size+1) s.heap.objs.size 1 .none:=by
   have:=yai (s.heap.push (Ig l)) (o:=OY s.heap.objs.size 1) rfl;rw[hz]at this;exact this
  show _/\_;rw[hz];exact⟨rfl,⟨_,he,rfl⟩,h _ he ⟨_,ya2 _ (yai _ rfl),rfl,rfl⟩ (by rw[ybk,hz]) λb o x=>ya2 _ (ya2 _ x)⟩
 .cases r with
  |error e=>exact hr
  |ok fl =>
   cases fl with
   |ret obj =>
    obtain⟨rfl,hT,hq⟩:=hr;have hli:=ft.init.lookup;have hbi:=ft.init.bind (.ref (s.heap.objs.size+1));have hok:argsOk "object.__init__" ⟨[.ref (s.heap.objs.size+1),.ref l],[("start",.int 1 t)]⟩:=by ext
    repeat (any_goals (first|assumption|wp_step))
    refine ye2 (ye8 ft.init.plain F.entry_object_init (ft.init.check _ _ _ _ _ _ _ _ hT hok (zfq _ l t prog w A.in1 (wants (λr s2=>r=.none/\Q (.ref (s.heap.objs.size+1)) s2) E) s1 ⟨hT,rfl,hq⟩))) λr2 s2 hr2=>?_
    cases r2 with
    |error e=>exact hr2
    |ok fl2 =>
     cases fl2 with
     |ret r =>
      obtain⟨rfl,hq⟩:=hr2
      repeat (any_goals (first|assumption|wp_step))
     |_=>exact hr2.elim
   |_=>exact hr.elim
end
section
variable {X:Cx}{a:Expr}{elts:List Expr}{kk ko:Nat}{tpos p pos kp vp:Pos}{E:L2.St->XK}{ca:Str->Value}{ms:Ao}
abbrev Kk(ko:Nat)(vp kp:Pos):List Keyword:=[⟨some (Str.ofString "start"),.Constant (.int 1) ko vp,kp⟩]
theorem zmn{T}(h1:args.any (·.1)=false)(h2:ks.any (·.1.isNone)=false)
  (h:wpAny M A (evalArgs (.type T) true args ks) (λa s1=>wpAny M A (call (.type T) a.pos a.kw) Q R s1) R s):wpAny M A (callWith pos (.type T) [] args ks) Q R s:=by
 refine ydq (ydr (AS h λa s1 q=>ydq (yds ?_)))
 simp only[h1,h2];exact ydq (ydt (ydq (AS q λr s2 z=>ydq (ydr (wpAny_point (ydt z))))))
def zmd(K:k7)(ta:TA):TI:=λσ H R=>ta σ H λvs H1=>∃a,vs=[.ref a]/\(∃xs,Ad K H1 a xs)/\R (Lc K 1 a) H1
theorem zf2(hg:Gl X "enumerate")(hm:X.mg "enumerate"=none)(ha:PA X [a] ta)(hs:starEach [a] X.env=[(false,eval a X.env)]):PI X (.Tuple elts kk tpos) (.Call (.Name "enumerate" p) [a] (Kk ko vp kp) pos) (zmd X.K ta):=by
 intro pins s σ H R I h;have he:eval (.Call (.Name "enumerate" p) [a] (Kk ko vp kp) pos) X.env=(do callWith pos (<- eval (.Name "enumerate" p) X.env) [] (backTo pos (starEach [a] X.env)) (backToKw pos (keywordEach (Kk ko vp kp) X.env))):=by rfl
 rw[he];refine ydq (Fq I hg hm boot_enumerate (zmn (by rw[hs];rfl) rfl ?_))
 have hb:backTo pos (starEach [a] X.env)=[(false,eval a X.env)]:=by rw[hs];rfl
 have h0:=ha pos pins s σ H _ I h;rw[hb]at h0 ⊢;refine evalArgs_kwB rfl (AS h0 λus s1 ⟨vs,H1,I1,r1,q1⟩=>kws_cons ?_)
 refine wpAny_Constant_int (kws_nil ?_);obtain⟨l,e,⟨xs,hq⟩,q⟩:=q1;subst e;obtain⟨u,rfl,ru⟩:=E2 r1;cases ru;have I2:Inv X pins σ H1 { s1 with toks:=s1.toks+1 }:=I1.tok _
 obtain⟨its,rv,pl,hz⟩:=I2.list hq;refine zgk pl.isList λh' he hit hsz hk=>?_
 have I3:Inv X pins σ H1 { s1 with heap:=h',toks:=s1.toks+1 }:=I2.kept hk
 refine yef he ⟨s1.heap.objs.size+1,[s1.heap.objs.size+1,s1.heap.objs.size],_,_,H1,rfl,I3,QM 1 l _ _ (by simp),⟨⟨_,by simpa using he⟩,hit⟩,λb hb=>?_,q⟩
 have hb':s1.heap.objs.size<=b:=by
  obtain rfl|hb:=yae.mp hb
  .exact ycc _
  .rw[yab.mp hb];exact yac _
 exact I1.fpOk hb' (I1.hok.fresh hb')
def G8(ms:Ao):Ao:=λτ=>match ms τ with
 |some (.v ts false)=>(match Gc ts with
  |some l=>some (.v (Dq 1 l) false)
  |none=>none)
 |some (.v _ true)=>none
 |r=>r
theorem r_en1(hg:Gl X "enumerate")(hm:X.mg "enumerate"=none)(ha:PA X [a] (BY X.K E ca ms))(hs:starEach [a] X.env=[(false,eval a X.env)]):PI X (.Tuple elts kk tpos) (.Call (.Name "enumerate" p) [a] (Kk ko vp kp) pos) (tI X.K E ca (G8 ms)):=by
 refine PI.weak (zf2 hg hm ha hs) λσ H P h=>?_
 refine Jm (λτ c e=>by unfold G8;rw[e]) (λτ e=>by unfold G8;rw[e]) (λF τ R ts b S e q F' H' xs e1 rs=>?_) h
 unfold G8 at q;rw[e]at q;cases b with
 |true=>exact q.elim
 |false =>
  simp only at q;cases h1:Gc ts with
  |none=>grind
  |some l =>
   simp only[h1]at q;unfold Gc at h1;split at h1
   .split at h1
    .cases h1;rename_i hL;obtain⟨x1,xs1,rfl,r1,rs1⟩:=rs.inv;cases rs1.inv0;obtain⟨p',ys,rfl,sq,kd⟩:=Io hL r1;exact⟨p',rfl,⟨ys,sq F' H' (.refl _) e1.fh⟩,q F' H' _ e1 (VE sq kd)⟩
    .cases h1
   .cases h1
end
def E00:L2.St->XK:=λ_=>E0
noncomputable def Bd(b:T->AM->Option AM)(mt me:AI):List T->AM->Option (List T)
 |[],_=>some []
 |t::ts,τ=>(match b t τ with
  |some τ1=>(match mt τ1 with
   |some (.v (.bl true) _)=>(match me τ1 with
    |some (.v v false)=>(match Bd b mt me ts τ1 with
     |some l=>some (v::l)
     |none=>none)
    |_=>none)
   |some (.v (.bl false) _)=>Bd b mt me ts τ1
   |_=>none)
  |none=>none)
noncomputable def FJ(b:T->AM->Option AM)(mt me:AI):List T->AM->Option Str
 |[],_=>none
 |t::ts,τ=>(match b t τ with
  |some τ1=>(match mt τ1 with
   |some (.v (.bl true) _)=>(match me τ1 with
    |some (.v _ false)=>FJ b mt me ts τ1
    |some (.x c)=>some c
    |_=>none)
   |some (.v (.bl false) _)=>FJ b mt me ts τ1
   |some (.x c)=>some c
   |_=>none)
  |none=>none)
noncomputable def Od(τ:AM)(j:Nat):Option T:=match τ[j]? with
 |some (some t)=>if t.sh then some t else none
 |_=>none
def blk(n:Nat)(caps:List Nat)(τ:AM):AM:=List.replicate n none++caps.map (Od τ)
noncomputable def Oc(σ:L2.St)(j:Nat):Option V:=match σ[j]? with
 |some (some v)=>some v
 |_=>none
def EA(n:Nat)(caps:List Nat)(σ:L2.St):L2.St:=List.replicate n none++caps.map (Oc σ)
def BN(n:Nat)(caps:List Nat)(mi:Ao)(b:T->AM->Option AM)(mt me:AI):AI:=λτ=>match mi τ with
 |some (.v ts _)=>if ts.length<=BO then (match Bd b mt me ts (blk n caps τ) with
  |some l=>some (.v (.own l) false)
  |none=>(match FJ b mt me ts (blk n caps τ) with
   |some c=>some (.x c)
   |none=>none)) else none
 |some (.x c)=>some (.x c)
 |none=>none
theorem zmr{K}(S:StR K F H σ τ R)(n:Nat)(caps):StR K F H (EA n caps σ) (blk n caps τ) (λ_=>R0):=by
 refine⟨S.fh,by simp[EA,blk],λi t e=>?_,λ_ _ z=>z.elim,λ_ _ _ _ z=>z.elim⟩
 unfold blk at e;unfold EA
 by_cases hi:i<n
 .grind
 .rw[yb4 (by simp;omega),ya3]at e ⊢
  simp only[ycx]at e ⊢;cases hc:caps[i - n]? with
  |none=>rw[hc]at e;cases e
  |some j =>
   rw[hc]at e;simp only[yax]at e ⊢;have e' :=yak e;unfold Od at e';split at e'
   .rename_i t' ht;split at e'
    .cases e';rename_i hs;obtain⟨x,ex,r⟩:=S.rep j _ ht;refine⟨x,?_,r.move hs (.refl _)⟩;unfold Oc;rw[ex]
    .cases e'
   .cases e'
theorem Qf{l:List T}(h:tot (λj=>if j=l.length then B else Rr j) a):tot Rr a\/B a:=by
 obtain⟨j,z⟩:=h
 by_cases hj:j=l.length
 .grind
 .simp only[hj]at z;exact .inl ⟨j,z⟩
section
variable {X:Cx}{E:L2.St->XK}{ca:Str->Value}{σ:L2.St}{H:Hp}{K:k7}{n:Nat}{caps:List Nat}{mi:Ao}{b:T->AM->Option AM}{mt me:AI}
theorem zdj(h:Bd b mt me (t::us) τ1=some l2):∃τ2,b t τ1=some τ2/\((∃bt,mt τ2=some (.v (.bl false) bt)/\Bd b mt me us τ2=some l2)\/∃bt w l3,mt τ2=some (.v (.bl true) bt)/\me τ2=some (.v w false)/\Bd b mt me us τ2=some l3/\l2=w::l3):=by
 unfold Bd at h
 grind
theorem zfm(h:FJ b mt me (t::us) τ1=some c):∃τ2,b t τ1=some τ2/\((∃bt,mt τ2=some (.v (.bl false) bt)/\FJ b mt me us τ2=some c)\/(∃bt,mt τ2=some (.v (.bl true) bt)/\((∃w,me τ2=some (.v w false)/\FJ b mt me us τ2=some c)\/me τ2=some (.x c)))\/mt τ2=some (.x c)):=by
 unfold FJ at h
 grind
theorem QZ  (h:tM K E ca (BN n caps mi b mt me) σ H Q):Jl (EA n caps) (tI K E ca mi) (D0 K b) (BD K (λ_=>E σ) ca mt) (tM K (λ_=>E σ) ca me) σ H Q:=by
 obtain⟨F,τ,R,S,q⟩:=h;refine⟨F,τ,R,S,?_⟩;unfold BN at q;cases hi:mi τ with
 |none=>simp only[hi]at q<;>exact q.elim
 |some r =>
  simp only[hi]at q;cases r with
  |x c=>exact q
  |v ts bb =>
   intro F1 H1 J e1 its
   by_cases hz':¬ ts.length<=BO
   .simp only[hz',yej]at q<;>exact q.elim
   have hz :=Decidable.not_not.mp hz';simp only[hz,ye1]at q
   obtain⟨G,g1,g0,gs⟩:∃G:List T->AM->List T->Prop,(∀t us τ1 l,G (t::us) τ1 l->∃τ2,b t τ1=some τ2/\((∃bt,mt τ2=some (.v (.bl false) bt)/\G us τ2 l)\/(∃bt,mt τ2=some (.v (.bl true) bt)/\((∃w,me τ2=some (.v w false)/\G us τ2 (l++[w]))\/∃c,me τ2=some (.x c)/\∀F' H',Ext F H F' H' R0->XE (E σ) ca c F' H'))\/∃c,mt τ2=some (.x c)/\∀F' H',Ext F H F' H' R0->XE (E σ) ca c F' H')) /\
     (∀τ1 l,G [] τ1 l->∀F' H' x B,Ext F H F' H' B->Rp K F' H' (.own l) x B->Q x H')/\G ts (blk n caps τ) []:=by
    cases hg:Bd b mt me ts (blk n caps τ) with
    |some res =>
     simp only[hg]at q;refine⟨λus τ1 l=>∃l2,Bd b mt me us τ1=some l2/\l++l2=res,λt us τ1 l z=>?_,λτ1 l z=>?_,res,hg,rfl⟩
     .obtain⟨l2,z,e⟩:=z;obtain⟨τ2,y,w|⟨bt,w,l3,y1,y2,y3,rfl⟩⟩:=zdj z
      .obtain⟨bt,w1,w2⟩:=w;exact⟨τ2,y,.inl ⟨bt,w1,l2,w2,e⟩⟩
      .exact⟨τ2,y,.inr (.inl ⟨bt,y1,.inl ⟨w,y2,l3,y3,by simpa using e⟩⟩)⟩
     .obtain⟨l2,z,e⟩:=z;cases z;rw[ybu]at e;subst e;exact q
    |none =>
     simp only[hg]at q;cases hx:FJ b mt me ts (blk n caps τ) with
     |none=>simp only[hx]at q<;>exact q.elim
     |some c =>
      simp only[hx]at q;refine⟨λus τ1 l=>FJ b mt me us τ1=some c,λt us τ1 l z=>?_,λτ1 l z=>(by cases z),hx⟩
      obtain⟨τ2,y,w|⟨bt,y1,⟨w,y2,y3⟩|y2⟩|w⟩:=zfm z
      .exact⟨τ2,y,.inl w⟩
      .exact⟨τ2,y,.inr (.inl ⟨bt,y1,.inl ⟨w,y2,y3⟩⟩)⟩
      .exact⟨τ2,y,.inr (.inl ⟨bt,y1,.inr ⟨c,y2,q⟩⟩)⟩
      .exact⟨τ2,y,.inr (.inr ⟨c,w,q⟩)⟩
   have S1:=S.ext e1;refine⟨λi ys st H'=>∃(F':Hp) (τ':AM) (l:List T) (Rr:Nat->Rg),Ext F1 H1 F' H' (tot Rr)/\RpO K F' H' l ys Rr/\StR K F' H' st τ' (λ_=>R0)/\i<=ts.length/\G (ts.drop i) τ' l/\l.length<=i,ts.length,by rw[<- FI];exact hz,?_,?_⟩
   .exact⟨F1,blk n caps τ,[],λ_=>R0,(Ext.refl S1.fh).mono λa ⟨_,z⟩=>z.elim,.nil,zmr S1 n caps,ycj _,gs,yac _⟩
   .rintro i ys st H' ⟨F',τ',l,Rr,e2,ro,S2,hle,hgo,hll⟩;have hly:=ro.len;refine⟨by omega,hle,?_⟩
    obtain⟨i1,i2⟩:=its i F' H' e2.ff e2.fh
    by_cases hlt:i<ts.length
    .refine .inr ⟨hlt,?_⟩;obtain⟨go,yld⟩:=i1 _ (ya0 hlt);refine⟨go,λx H'' y=>?_⟩
     obtain⟨F'',e3,rx⟩:=yld x H'' y;have S3:=S2.ext e3;rw[yc0 hlt]at hgo;obtain⟨τ1,hb,hgo⟩:=g1 _ _ _ _ hgo;refine⟨F'',τ',_,ts[i],τ1,S3,rx,hb,λst1 R1 S4 hR1=>?_⟩
     have R1e :=funext λj=>funext λa=>propext ⟨λz=>hR1 j a z,λz=>z.elim⟩
     subst R1e;refine⟨F'',τ1,_,S4,?_⟩;have eX:∀{c },(∀F' H',Ext F H F' H' R0->XE (E σ) ca c F' H')->∀F' H',Ext F'' H'' F' H' R0->XE (E σ) ca c F' H':=λz F' H' e=>z F' H' (((e1.trans0 e2).trans (e3.trans0 e)).mono λ_ z=>z.elim)
     rcases hgo with ⟨bt,ht,hgo⟩|⟨bt,ht,hgo⟩|⟨c,ht,hX⟩
     .rw[ht];intro F4 H4 e4;exact Il ⟨F4,τ1,l,Rr,(e2.trans ((e3.trans0 e4).mono λ_ z=>z)).mono λa z=>.inl z,(ro.ext e3).ext e4,S4.ext e4,hlt,hgo,by omega⟩
     .rw[ht];intro F4 H4 e4;have S5:=S4.ext e4;have e24:=e2.trans ((e3.trans0 e4).mono λ_ z=>z)
      refine Ik ⟨F4,τ1,_,S5,?_⟩
      rcases hgo with ⟨ve,he,hgo⟩|⟨c,he,hX⟩
      .rw[he];intro F5 H5 y B e5 ry;have ry' :=ry;have ro4:=(ro.ext e3).ext e4;have ro5:=ro4.ext e5;refine⟨F5,τ1,l++[ve],_,(e24.trans e5).mono ?_,ro5.snoc ry' (λj a z1 z2=>ro4.apart e5 z2 j z1),S5.ext e5,hlt,hgo,by simp;omega⟩
       intro a z
       rcases Qf z with z|z
       .exact .inl (.inl z)
       .exact .inr z
      .rw[he];exact λF' H' e=>eX hX F' H' (e4.trans0 e)
     .rw[ht];exact eX hX
    .have hi':i=ts.length:=by omega
     subst hi';refine .inl ⟨i2 rfl,λp hp=>?_⟩
     rw[List.drop_length]at hgo;obtain⟨rl,e3⟩:=ro.list e2.fh hp;refine g0 _ _ hgo F' _ _ _ (((e1.trans0 e2).trans e3).mono ?_) rl;rintro a (z|⟨j,z⟩)
     .exact .inr z
     .exact .inl ⟨j,z⟩
structure BlkOk(X:Cx)(scope:Scope)(N':List Str)(n:Nat)(caps:List Nat):Prop where
 kind:scope.kind=.function
 names:∀y∈scope.names,y.2=.local->scope.names.lookup y.1=some .local
 len:N'.length=n+caps.length
 cap:∀(k j:Nat),caps[k]?=some j->∃y,X.N[j]?=some y/\N'[n+k]?=some y/\scope.names.lookup y=some .free/\(y,NameKind.cell)∉scope.names
 free:∀y∈scope.names,y.2=.free->scope.names.lookup y.1=some .free/\(X.env.scope.names.lookup y.1=some .cell\/X.env.scope.names.lookup y.1=some .free)
theorem N8{env:Env}(y:Str):∀(names:List (Str×NameKind)),(names.map λ(n,k)=>if (k == NameKind.free && env.scope.kind == .function && env.kindOf n == some .cell) then (n,NameKind.cell) else (n,k)).lookup y =
  (names.lookup y).map λk=>if (k == NameKind.free && env.scope.kind == .function && env.kindOf y == some .cell) then .cell else k
 |[]=>rfl
 |(n,k)::r=>by
  rw[yal];cases hy:y == n with
  |true =>
   grind
  |false =>
   by_cases hc:(k == .free && env.scope.kind == .function && env.kindOf n == some .cell)=true
   .simp only[hc,ye1,ybd,hy];exact N8 y r
   .simp only[hc,hy];simp only[yca,yej,ybd,hy];exact N8 y r
theorem M8(scope)(env)(y):(relabel scope env).names.lookup y=(scope.names.lookup y).map λk=>if (k == NameKind.free && env.scope.kind == .function && env.kindOf y == some .cell) then .cell else k:=N8 y scope.names
theorem N9:∀{names:List (Str×NameKind)},names.lookup y=some k->(y,k)∈names:=λh=>yba h
theorem XG   (B:BlkOk X scope N' n caps)   (I:Inv X pins σ H s) :
  ∃cl,closureFor scope X.env=pure cl/\(∀y c,cl.lookup y=some c->X.env.cells.lookup y=some c)/\(∀y,(relabel scope X.env).names.lookup y=some .cell\/(relabel scope X.env).names.lookup y=some .free->(y,NameKind.cell)∈scope.names\/∃c,cl.lookup y=some c) /\
   (∀(σ:L2.St) (i:Nat) (y:Str) (v:V),N'[i]?=some y->(EA n caps σ)[i]?=some (some v)->(y,NameKind.cell)∉scope.names) /\
   (∀σ:L2.St,σ.length=X.N.length->(EA n caps σ).length=N'.length) /\
   (∀(σ ) (i:Nat) (y:Str) (v:V),N'[i]?=some y->(EA n caps σ)[i]?=some (some v)->((relabel scope X.env).names.lookup y=some .cell\/(relabel scope X.env).names.lookup y=some .free)/\∃j:Nat,X.N[j]?=some y/\σ[j]?=some (some v)/\DX X.env.scope y/\X.env.kindOf y≠some .local):=by
 obtain⟨cl,h1,h2,h3⟩:=zc0 scope X.env λy hy hf=>I.ok.has y.1 (B.free y hy hf).2
 have LD:∀(σ ) (i:Nat) (y ) (v ),N'[i]?=some y->(EA n caps σ)[i]?=some (some v)->∃j:Nat,X.N[j]?=some y/\σ[j]?=some (some v)/\scope.names.lookup y=some .free/\(y,NameKind.cell)∉scope.names:=by
  intro σ i y v e1 e2;unfold EA at e2
  by_cases hi:i<n
  .rw[yaw (by simpa using hi),List.getElem?_replicate,if_pos hi]at e2
   cases e2
  .rw[yb4 (by simp;omega),ya3]at e2
   simp only[ycx]at e2;cases hc:caps[i - n]? with
   |none=>rw[hc]at e2;cases e2
   |some j =>
    rw[hc]at e2;simp only[yax]at e2;have e' :=yak e2;obtain⟨y',g1,g2,g3,g4⟩:=B.cap (i - n) j hc;have en:n+(i - n)=i:=by omega
    rw[en,e1]at g2;cases g2
    have sv :=by
     unfold Oc at e';split at e'
     .rename_i v' hv;cases e';exact hv
     .cases e'
    exact⟨j,g1,sv,g3,g4⟩
 refine⟨cl,h1,h2,λy hy=>?_,λσ i y v e1 e2=>?_,λσ hσ=>by simp[EA,B.len],λσ i y v e1 e2=>?_⟩
 .cases hk:scope.names.lookup y with
  |none =>
   rw[M8,hk]at hy
   rcases hy with hy|hy<;>cases hy
  |some k =>
   by_cases hf:k=.free
   .subst hf;exact .inr (h3 _ (N9 hk) rfl)
   .rw[M8,hk]at hy;simp only[yax]at hy;have hf' :=beq_eq_false_iff_ne.mpr hf;simp only[hf',Bool.false_and,yca,yej]at hy
    rcases hy with hy|hy
    .cases hy;exact .inl (N9 hk)
    .cases hy;exact absurd rfl hf
 .exact(LD σ i y v e1 e2).choose_spec.2.2.2
 .obtain⟨j,g1,sv,g3,g4⟩:=LD σ i y v e1 e2;have fr:=B.free _ (N9 g3) rfl;refine⟨?_,j,g1,sv,?_,?_⟩
  .rw[M8,g3];simp only[yax]
   by_cases hc2:(NameKind.free == NameKind.free && X.env.scope.kind == .function && X.env.kindOf y == some .cell)=true
   .exact .inl (by rw[if_pos hc2])
   .exact .inr (by rw[if_neg hc2])
  .rcases fr.2 with z|z
   .exact .inr (.inl z)
   .exact .inr (.inr z)
  .intro z;have z':X.env.scope.names.lookup y=some .local:=z
   rcases fr.2 with w|w
   .rw[z']at w;cases w
   .rw[z']at w;cases w
theorem r_lcV(B:BlkOk X scope N' n caps)(hc:∀pins σ H s cl C ex xb,Inv X pins σ H s->cq (Aq X scope cl N' C s H ex xb))(hi:PJ cq X tg iter (tI X.K E ca mi))
  (hps:BB X E) (hst:Gn X) (hg:∀cl C s₀ H₀ ex xb E',BB (Aq X scope cl N' C s₀ H₀ ex xb) E'->PG (Aq X scope cl N' C s₀ H₀ ex xb) tg (D0 X.K b)) (ht:∀cl C s₀ H₀ ex xb E',BB (Aq X scope cl N' C s₀ H₀ ex xb) E'->GH (Aq X scope cl N' C s₀ H₀ ex xb) ifs (BD X.K E' ca mt)) (he:∀cl C s₀ H₀ ex xb E',BB (Aq X scope cl N' C s₀ H₀ ex xb) E'->PE (Aq X scope cl N' C s₀ H₀ ex xb) elt (tM X.K E' ca me))
  (hs:∀x,foldedSetIterable iter X.env x=pure x):PE X (.ListComp elt [⟨tg,iter,ifs,0⟩] scope pos) (tM X.K E ca (BN n caps mi b mt me)):=by
 intro pins s σ H Q I h;obtain⟨cl,h1,h2,h3,h4,h5,h6⟩:=XG B I;exact zlv (EA n caps) h1 B.kind B.names h2 h3 h4 h5 h6 hc hi hps hst (λcl C s₀ H₀ ex xb=>hg cl C s₀ H₀ ex xb _) (λcl C s₀ H₀ ex xb=>ht cl C s₀ H₀ ex xb _) (λcl C s₀ H₀ ex xb=>he cl C s₀ H₀ ex xb _) hs I (QZ h)
theorem r_lcS      (B:BlkOk X scope N' n caps)(hc:X.calm=true)(hi:PI X tg iter (tI X.K E ca mi))
  (hps:BB X E) (hst:Gn X) (hg:∀cl C s₀ H₀ ex xb E',BB (Aq X scope cl N' C s₀ H₀ ex xb) E'->PG (Aq X scope cl N' C s₀ H₀ ex xb) tg (D0 X.K b)) (ht:∀cl C s₀ H₀ ex xb E',BB (Aq X scope cl N' C s₀ H₀ ex xb) E'->GH (Aq X scope cl N' C s₀ H₀ ex xb) ifs (BD X.K E' ca mt)) (he:∀cl C s₀ H₀ ex xb E',BB (Aq X scope cl N' C s₀ H₀ ex xb) E'->PE (Aq X scope cl N' C s₀ H₀ ex xb) elt (tM X.K E' ca me))
  (hs:∀x,foldedSetIterable iter X.env x=pure x)  {x:Str} (hN:X.N.Nodup) (hix:X.N[i]?=some x) (hx:X.env.scope.names.lookup x=some .local)
  (hsw:swapsWith (.ListComp elt [⟨tg,iter,ifs,0⟩] scope pos) (some (.Name x pos')) pos2.line X.env=pure true):PS X (.Assign [.Name x pos'] (.ListComp elt [⟨tg,iter,ifs,0⟩] scope pos) pos2) (λD σ H=>tM X.K E ca (BN n caps mi b mt me) σ H λv H1=>D.nx (σ.set i (some v)) H1):=by
 intro pins s σ H D I h;obtain⟨cl,h1,h2,h3,h4,h5,h6⟩:=XG B I;exact zlw (EA n caps) h1 B.kind B.names h2 h3 h4 h5 h6 hc hi hps hst (λcl C s₀ H₀ ex xb=>hg cl C s₀ H₀ ex xb _) (λcl C s₀ H₀ ex xb=>ht cl C s₀ H₀ ex xb _) (λcl C s₀ H₀ ex xb=>he cl C s₀ H₀ ex xb _) hs hN hix hx hsw I (QZ h)
end
section
variable {X:Cx}{E:L2.St->XK}{ca:Str->Value}{m mk mv:AI}{o k v:Expr}{pos p p2 ap cp:Pos}{K:k7}{elts:List Expr}{kk:Nat}{tpos:Pos}
end
inductive Out where
 |nx (τ:AM)|rt (t:T)|bk (τ:AM)|ct (τ:AM)|xc (c:Str) (τ:AM)
abbrev AH:=AM->Option Out
structure Stp(F H:Hp)(O:Rg)(F' H':Hp)(O':Rg):Prop where
 ff:AY F F'
 fh:AY F' H'
 kp:∀b u,¬ O b->H b=some u->H' b=some u
 nw:∀b,O' b->O b\/H b=none
 nf:∀b u,F' b=some u->F b=some u\/O b\/H b=none
section
variable {F H F1 H1 F2 H2:Hp}{O O1 O2 B:Rg}{R:Nat->Rg}
theorem Stp.refl(s:AY F H):Stp F H O F H O:=⟨.refl _,s,λ_ _ _ e=>e,λ_ z=>.inl z,λ_ _ e=>.inl e⟩
theorem Stp.trans(a:Stp F H O F1 H1 O1)(b:Stp F1 H1 O1 F2 H2 O2):Stp F H O F2 H2 O2 where
 ff:=a.ff.trans b.ff
 fh:=b.fh
 kp:=λx u n e=>b.kp x u (λz=>(a.nw x z).elim n λw=>by grind) (a.kp x u n e)
 nw:=λx z=>(b.nw x z).elim (a.nw x) λw=>by
  by_cases hO:O x
  .exact .inl hO
  .cases e:H x with
   |none=>simp
   |some u=>rw[a.kp x u hO e]at w;cases w
 nf:=λx u e=>(b.nf x u e).elim (a.nf x u) λz=>.inr (z.elim (a.nw x) λw=>by
  by_cases hO:O x
  .exact .inl hO
  .cases e':H x with
   |none=>simp
   |some u'=>rw[a.kp x u' hO e']at w;cases w)
theorem Stp.mono(a:Stp F H O F1 H1 O1)(h:∀x,O2 x->O1 x):Stp F H O F1 H1 O2:=⟨a.ff,a.fh,a.kp,λx z=>a.nw x (h x z),a.nf⟩
theorem Ext.stp(e:Ext F H F1 H1 B):Stp F H O F1 H1 (λx=>O x\/B x):=⟨e.ff,e.fh,λb u _ q=>e.hh b u q,λb z=>z.elim .inl λz=>.inr (e.nb b z),λb u q=>(e.nf b u q).elim .inl λz=>.inr (.inr z)⟩
theorem Ext.stp0(e:Ext F H F1 H1 B):Stp F H O F1 H1 O:=e.stp.mono λ_ z=>.inl z
end
section
def Wr(K:k7)(mu:Bool)(F H:Hp)(t:T)(x:V)(B:Rg):Prop:=match mu with
 |false=>Rp K F H t x B
 |true=>∃v q l,t=.own [v,.nd true (.pin q) l]/\v.flat=true/\Rp K F H v x R0/\Rp K F H (.nd true (.pin q) l) (.ref q) B
def pS(K:k7)(E:L2.St->XK)(ca:Str->Value)(mu:Bool)(D:Ends)(F H:Hp)(R:Nat->Rg):Option Out->Prop
 |some (.nx τ')=>∀F' H' σ' R',Stp F H (tot R) F' H' (tot R')->StR K F' H' σ' τ' R'->D.nx σ' H'
 |some (.bk τ')=>∀F' H' σ' R',Stp F H (tot R) F' H' (tot R')->StR K F' H' σ' τ' R'->D.bk σ' H'
 |some (.ct τ')=>∀F' H' σ' R',Stp F H (tot R) F' H' (tot R')->StR K F' H' σ' τ' R'->D.ct σ' H'
 |some (.rt t)=>∀F' H' x B,Stp F H (tot R) F' H' B->Wr K mu F' H' t x B->D.rt x H'
 |some (.xc c τ')=>∀F' H' σ' R',Stp F H (tot R) F' H' (tot R')->StR K F' H' σ' τ' R'->XE (E σ') ca c F' H'
 |none=>False
def tS(K:k7)(E:L2.St->XK)(ca:Str->Value)(mu:Bool)(m:AH):TS:=λD σ H=>∃F τ R,StR K F H σ τ R/\pS K E ca mu D F H R (m τ)
end
def AG(m n:AH):AH:=λτ=>match m τ with
 |some (.nx τ')=>n τ'
 |r=>r
def A4:AH:=λτ=>some (.nx τ)
def KE:AH:=λ_=>none
def GU(m:AI):AH:=λτ=>match m τ with
 |some (.v _ _)=>some (.nx τ)
 |some (.x c)=>some (.xc c τ)
 |none=>none
def AN(m:AI):AH:=λτ=>match m τ with
 |some (.v t _)=>some (.rt t)
 |some (.x c)=>some (.xc c τ)
 |none=>none
def M4:AH:=λ_=>some (.rt .non)
noncomputable def AV(m:AI)(b:T->AM->Option AM):AH:=λτ=>match m τ with
 |some (.v t false)=>(match b t.share τ with
  |some τ'=>some (.nx τ')
  |none=>none)
 |some (.v _ true)=>none
 |some (.x c)=>some (.xc c τ)
 |none=>none
noncomputable def Dd(i:Nat)(m:AI):AH:=λτ=>match m τ with
 |some (.v t false)=>if i<τ.length then some (.nx (τ.set i (some t))) else none
 |some (.v _ true)=>none
 |some (.x c)=>some (.xc c τ)
 |none=>none
noncomputable def E9(i:Nat):AH:=λτ=>match τ[i]? with
 |some (some t)=>some (.nx (τ.set i (some t.share)))
 |_=>some (.nx τ)
def A2(c:AI)(a b:AH):AH:=λτ=>match c τ with
 |some (.v (.bl true) _)=>a τ
 |some (.v (.bl false) _)=>b τ
 |some (.x c)=>some (.xc c τ)
 |_=>none
noncomputable def CF(b:T->AM->Option AM)(body:AH):List T->AH
 |[],τ=>some (.nx τ)
 |t::ts,τ=>(match b t τ with
  |some τ1=>(match body τ1 with
   |some (.nx τ2)=>CF b body ts τ2
   |some (.ct τ2)=>CF b body ts τ2
   |some (.bk τ2)=>some (.nx τ2)
   |r=>r)
  |none=>none)
def CA(mi:Ao)(b:T->AM->Option AM)(body:AH):AH:=λτ=>match mi τ with
 |some (.v ts _)=>CF b body ts τ
 |some (.x c)=>some (.xc c τ)
 |none=>none
noncomputable def C1(c:AI)(body:AH):Nat->AH
 |0,_=>none
 |n+1,τ=>(match c τ with
  |some (.v (.bl true) _)=>(match body τ with
   |some (.nx τ2)=>C1 c body n τ2
   |some (.ct τ2)=>C1 c body n τ2
   |some (.bk τ2)=>some (.nx τ2)
   |r=>r)
  |some (.v (.bl false) _)=>some (.nx τ)
  |some (.x c)=>some (.xc c τ)
  |_=>none)
open Classical in
def E7(c:AI)(body:AH):AH:=λτ=>if h:∃n,(C1 c body n τ).isSome=true then C1 c body h.choose τ else none
theorem zep(h:E7 c body τ=some o):∃n,C1 c body n τ=some o:=by
 unfold E7 at h;split at h
 .grind
 .cases h
theorem Lj:∀{n} {τ} {o},C1 c body n τ=some o->C1 c body (n+1) τ=some o
 |0,τ,o,h=>by cases h
 |n+1,τ,o,h=>by
  unfold C1 at h ⊢;split at h
  .split at h
   .exact Lj h
   .exact Lj h
   .exact h
   .exact h
  .exact h
  .exact h
  .cases h
theorem Pw(h:C1 c body n τ=some o)(hm:n<=m):C1 c body m τ=some o:=by
 induction hm with
 |refl=>exact h
 |step _ ih=>exact Lj ih
theorem zka(h:C1 c body n τ=some o):E7 c body τ=some o:=by
 unfold E7;have hx:∃n,(C1 c body n τ).isSome=true:=⟨n,by rw[h];rfl⟩
 obtain⟨o',e⟩:=ycl.mp hx.choose_spec;have e1:=Pw e (Nat.le_max_left hx.choose n);have e2:=Pw h (Nat.le_max_right hx.choose n)
 grind
section
variable {mu:Bool}{X:Cx}{E:L2.St->XK}{ca:Str->Value}{σ:L2.St}{H:Hp}{K:k7}{m mk mc:AI}{ms mi:Ao}{b:T->AM->Option AM}{u w:AH}{D:Ends}{e c tg iter:Expr}{st:Stmt}{rest body sa sb:List Stmt}{pos pos':Pos}
theorem PS.weak(h:PS X st t)(w:∀D σ H,t' D σ H->t D σ H):PS X st t':=λpins s σ H D I q=>h pins s σ H D I (w D σ H q)
theorem Av.weak(h:Av X rest t)(w:∀D σ H,t' D σ H->t D σ H):Av X rest t':=λpins s σ H D I q=>h pins s σ H D I (w D σ H q)
theorem zjm(h:tS K E ca mu (AG u w) D σ H):Lz (tS K E ca mu u) (tS K E ca mu w) D σ H:=by
 obtain⟨F,τ,R,S,q⟩:=h;refine⟨F,τ,R,S,?_⟩;unfold AG at q;cases hm:u τ with
 |none=>simp only[hm]at q<;>exact q.elim
 |some o =>
  simp only[hm]at q;cases o with
  |nx τ' =>
   intro F1 H1 σ1 R1 s1 S1;refine⟨F1,τ',R1,S1,?_⟩;cases hw:w τ' with
   |none=>simp only[hw]at q<;>exact q.elim
   |some o =>
    simp only[hw]at q;cases o with
    |nx _=>exact λF' H' σ' R' s S=>q F' H' σ' R' (s1.trans s) S
    |bk _=>exact λF' H' σ' R' s S=>q F' H' σ' R' (s1.trans s) S
    |ct _=>exact λF' H' σ' R' s S=>q F' H' σ' R' (s1.trans s) S
    |rt _=>exact λF' H' x B s r=>q F' H' x B (s1.trans s) r
    |xc _ _=>exact λF' H' σ' R' s S=>q F' H' σ' R' (s1.trans s) S
  |rt _=>exact q
  |bk _=>exact q
  |ct _=>exact q
  |xc _ _=>exact q
theorem Qv:Av X [] (tS X.K E ca mu A4):=Av.weak Sb λD σ H h=>by
 obtain⟨F,τ,R,S,q⟩:=h;exact q F H σ R (Stp.refl S.fh) S
theorem KC(h1:PS X st (tS X.K E ca mu u))(h2:Av X rest (tS X.K E ca mu w)):Av X (st::rest) (tS X.K E ca mu (AG u w)):=Av.weak (KP h1 h2) λD σ H h=>zjm h
theorem MS(h1:PS X st (tS X.K E ca mu u)):Av X [st] (tS X.K E ca mu u):=Sa h1
theorem Qu:PS X st (tS X.K E ca mu KE):=λpins s σ H D I h=>by
 obtain⟨_,_,_,_,q⟩:=h;exact q.elim
theorem zk7:PS X (.Pass pos) (tS X.K E ca mu A4):=PS.weak zhg λD σ H h=>by
 obtain⟨F,τ,R,S,q⟩:=h;exact q F H σ R (Stp.refl S.fh) S
theorem zjn  (h:tS K E ca mu (AG (E9 i) w) D σ H):tS K E ca mu w D σ H:=by
 obtain⟨F,τ,R,S,q⟩:=h;unfold AG E9 at q;cases ht:τ[i]? with
 |none =>
  rw[ht]at q;exact⟨F,τ,R,S,q⟩
 |some ot =>
  rw[ht]at q;cases ot with
  |none=>exact⟨F,τ,R,S,q⟩
  |some t =>
   simp only at q;obtain⟨x,ex,r⟩:=S.rep i t ht;have hi :=(ya9.mp ht).1;have n:∀a,R i a->F a=none:=λa z=>(r.dom z).1
   have S0:StR K (frz F H (R i)) H σ (τ.set i (some t.share)) (λj=>if j=i then R0 else R j):=by
    refine⟨H9 S.fh,by simpa using S.len,λj t' e=>?_,λj a z=>?_,λj k a hjk z1 z2=>?_⟩
    .by_cases hj:j=i
     .subst hj;rw[yas hi]at e;cases e;exact⟨x,ex,by simpa using r.share (EU n) λa u z q=>by rw[Fx z];exact q⟩
     .rw[yap (yar hj)]at e;obtain⟨y,e1,r1⟩:=S.rep j t' e;refine⟨y,e1,?_⟩;simp only[hj,yej]
      exact r1.frame (EU n) λa z=>⟨rfl,by
       rw[FL (λz'=>S.dis j i a hj z z')]
       exact(r1.dom z).1⟩
    .by_cases hj:j=i
     .simp only[hj,ye1]at z;exact z.elim
     .simp only[hj,yej]at z;obtain⟨t',e⟩:=S.out j a z;exact⟨t',by rw[yap (yar hj)];exact e⟩
    .by_cases hj:j=i
     .simp only[hj,ye1]at z1;exact z1.elim
     .by_cases hk:k=i
      .simp only[hk,ye1]at z2;exact z2.elim
      .simp only[hj,yej]at z1;simp only[hk,yej]at z2;exact S.dis j k a hjk z1 z2
   have AZ:Stp F H (tot R) (frz F H (R i)) H (tot λj=>if j=i then R0 else R j):=by
    refine⟨EU n,H9 S.fh,λ_ _ _ e=>e,λb ⟨j,z⟩=>?_,λb u e=>?_⟩
    .by_cases hj:j=i
     .simp only[hj,ye1]at z;exact z.elim
     .simp only[hj,yej]at z;exact .inl ⟨j,z⟩
    .by_cases hb:R i b
     .exact .inr (.inl ⟨i,hb⟩)
     .rw[FL hb]at e;exact .inl e
   refine⟨_,_,_,S0,?_⟩;cases hw:w (τ.set i (some t.share)) with
   |none=>simp only[hw]at q<;>exact q.elim
   |some o =>
    simp only[hw]at q;cases o with
    |nx _=>exact λF' H' σ' R' s S=>q F' H' σ' R' (AZ.trans s) S
    |bk _=>exact λF' H' σ' R' s S=>q F' H' σ' R' (AZ.trans s) S
    |ct _=>exact λF' H' σ' R' s S=>q F' H' σ' R' (AZ.trans s) S
    |rt _=>exact λF' H' x B s r=>q F' H' x B (AZ.trans s) r
    |xc _ _=>exact λF' H' σ' R' s S=>q F' H' σ' R' (AZ.trans s) S
theorem s_frz(h:Av X rest (tS X.K E ca mu w)):Av X rest (tS X.K E ca mu (AG (E9 i) w)):=Av.weak h λD σ H h=>zjn h
theorem s_exp(he:PE X e (tM X.K E ca m))(hs:swapsWith e none pos.line X.env=pure false):PS X (.Expr e pos) (tS X.K E ca mu (GU m)):=by
 refine PS.weak (Mb he hs) λD σ H h=>?_
 obtain⟨F,τ,R,S,q⟩:=h;refine⟨F,τ,R,S,?_⟩;unfold GU at q;cases hm:m τ with
 |none=>simp only[hm]at q<;>exact q.elim
 |some r =>
  simp only[hm]at q;cases r with
  |x c=>exact λF' H' e=>q F' H' σ R e.stp0 (S.ext e)
  |v t bb=>exact λF' H' x B e g=>q F' H' σ R e.stp0 (S.ext e)
theorem Qp(he:PE X e (tM X.K E ca m)):PS X (.Return (some e) pos) (tS X.K E ca false (AN m)):=by
 refine PS.weak (Se he) λD σ H h=>?_
 obtain⟨F,τ,R,S,q⟩:=h;refine⟨F,τ,R,S,?_⟩;unfold AN at q;cases hm:m τ with
 |none=>simp only[hm]at q<;>exact q.elim
 |some r =>
  simp only[hm]at q;cases r with
  |x c=>exact λF' H' e=>q F' H' σ R e.stp0 (S.ext e)
  |v t bb =>
   intro F' H' x B e g;cases bb with
   |false=>exact q F' H' x B (e.stp.mono λ_ z=>.inr z) g
   |true =>
    obtain⟨_,A,hA,r⟩:=g;exact q F' H' x A (e.stp.mono λa z=>.inl (hA a z)) r
theorem zk5:PS X (.Return none pos) (tS X.K E ca false M4):=PS.weak zhf λD σ H h=>by
 obtain⟨F,τ,R,S,q⟩:=h;exact q F H .non R0 ((Stp.refl S.fh).mono λ_ z=>z.elim) .non
theorem RH(hc:PT X c (BD X.K E ca mc))(ha:Av X sa (tS X.K E ca mu u))(hb:Av X sb (tS X.K E ca mu w)):PS X (.If c sa sb pos) (tS X.K E ca mu (A2 mc u w)):=by
 refine PS.weak (ps_if hc ha hb) λD σ H h=>?_
 obtain⟨F,τ,R,S,q⟩:=h;refine⟨F,τ,R,S,?_⟩;unfold A2 at q;cases hm:mc τ with
 |none=>simp only[hm]at q<;>exact q.elim
 |some r =>
  simp only[hm]at q;cases r with
  |x c=>exact λF' H' e=>q F' H' σ R e.stp0 (S.ext e)
  |v t bb =>
   cases t with
   |bl k =>
    intro F1 H1 e1;have S1:=S.ext e1
    have key:∀{mm },(match mm τ with
      |some (.nx τ')=>∀F' H' σ' R',Stp F H (tot R) F' H' (tot R')->StR X.K F' H' σ' τ' R'->D.nx σ' H'
      |some (.bk τ')=>∀F' H' σ' R',Stp F H (tot R) F' H' (tot R')->StR X.K F' H' σ' τ' R'->D.bk σ' H'
      |some (.ct τ')=>∀F' H' σ' R',Stp F H (tot R) F' H' (tot R')->StR X.K F' H' σ' τ' R'->D.ct σ' H'
      |some (.rt t)=>∀F' H' x B,Stp F H (tot R) F' H' B->Wr X.K mu F' H' t x B->D.rt x H'
      |some (.xc c τ')=>∀F' H' σ' R',Stp F H (tot R) F' H' (tot R')->StR X.K F' H' σ' τ' R'->XE (E σ') ca c F' H'
      |none=>False)->tS X.K E ca mu mm D σ H1:=λ{mm} q=>by
     refine⟨F1,τ,R,S1,?_⟩;cases hr:mm τ with
     |none=>simp only[hr]at q<;>exact q.elim
     |some o =>
      simp only[hr]at q;cases o with
      |nx _=>exact λF' H' σ' R' s S=>q F' H' σ' R' (e1.stp0.trans s) S
      |bk _=>exact λF' H' σ' R' s S=>q F' H' σ' R' (e1.stp0.trans s) S
      |ct _=>exact λF' H' σ' R' s S=>q F' H' σ' R' (e1.stp0.trans s) S
      |rt _=>exact λF' H' x B s r=>q F' H' x B (e1.stp0.trans s) r
      |xc _ _=>exact λF' H' σ' R' s S=>q F' H' σ' R' (e1.stp0.trans s) S
    cases k with
    |true=>exact Ik (key q)
    |false=>exact Il (key q)
   |_=>exact q.elim
theorem MA  (hg:∀v σ H Q,D0 K b v σ H Q->g v σ H Q)(h:tS K E ca mu (AV m b) D σ H):Jn (tM K E ca m) g D σ H:=by
 obtain⟨F,τ,R,S,q⟩:=h;refine⟨F,τ,R,S,?_⟩;unfold AV at q;cases hm:m τ with
 |none=>simp only[hm]at q<;>exact q.elim
 |some r =>
  simp only[hm]at q;cases r with
  |x c=>exact λF' H' e=>q F' H' σ R e.stp0 (S.ext e)
  |v t bb =>
   cases bb with
   |true=>exact q.elim
   |false =>
    intro F1 H1 x B e1 g1;obtain⟨F2,e2,_,r2⟩:=DY.frz S e1 g1;cases hb:b t.share τ with
    |none=>simp only[hb]at q<;>exact q.elim
    |some τ' =>
     simp only[hb]at q;refine hg _ _ _ _ ⟨F2,τ,R,t.share,τ',S.ext e2,(r2).any,hb,λσ' R' S' hR=>?_⟩
     exact q F2 H1 σ' R' (e2.stp0.mono λa ⟨i,z⟩=>⟨i,hR i a z⟩) S'
theorem V7(h:D0 K (AF i) v σ H Q):Iz i v σ H Q:=by
 obtain⟨F,τ,R,t,τ',S,r,e,q⟩:=h;unfold AF at e;split at e
 .cases e;rename_i hl;refine q _ _ (S.set r (λ_ _ _ _ z=>z.elim) hl) λj a z=>?_
  by_cases hj:j=i
  .simp only[hj]at z;exact z.elim
  grind
 .cases e
theorem Qo(hN:X.N.Nodup)(hi:X.N[i]?=some x)(hx:GI X.env.scope x)(he:PE X e (tM X.K E ca m))(hs:swapsWith e (some (.Name x pos')) pos.line X.env=pure false)(hf:X.fn x=true\/X.env.scope.names.lookup x=some .local) :
  PS X (.Assign [.Name x pos'] e pos) (tS X.K E ca mu (AV m (AF i))):=PS.weak (Sd hN hi hx he hs hf) λD σ H h=>MA (λ_ _ _ _ z=>V7 z) h
theorem zk4(he:PE X e (tM X.K E ca m))(hg:PG X tg (D0 X.K b))(hs:swapsWithSole [tg] e pos.line X.env=pure false)(hw:swappedStores [tg] e X.env=pure none)(h1:(assignEach [tg] X.env).map (·.2)=[assign tg X.env]) :
  PS X (.Assign [tg] e pos) (tS X.K E ca mu (AV m b)):=PS.weak (Md he hg hs hw h1) λD σ H h=>MA (λ_ _ _ _ z=>z) h
theorem QT  (h:tS K E ca mu (Dd i m) D σ H):Jn (tM K E ca m) (Iz i) D σ H:=by
 obtain⟨F,τ,R,S,q⟩:=h;refine⟨F,τ,R,S,?_⟩;unfold Dd at q;cases hm:m τ with
 |none=>simp only[hm]at q<;>exact q.elim
 |some r =>
  simp only[hm]at q;cases r with
  |x c=>exact λF' H' e=>q F' H' σ R e.stp0 (S.ext e)
  |v t bb =>
   cases bb with
   |true=>exact q.elim
   |false =>
    intro F1 H1 x B e1 g1;have g1' :=g1;have S1:=S.ext e1
    by_cases hl:i<τ.length
    .simp only[hl]at q;refine q F1 H1 _ _ (e1.stp.mono ?_) (S1.set g1' (λj a _ z1 z2=>S.apart e1 z2 j z1) hl)
     rintro a ⟨j,z⟩
     by_cases hj:j=i
     .grind
     .simp only[hj]at z;exact .inl ⟨j,z⟩
    .simp only[hl]at q<;>exact q.elim
theorem zk8(hN:X.N.Nodup)(hi:X.N[i]?=some x)(hx:GI X.env.scope x)(he:PE X e (tM X.K E ca m))(hs:swapsWith e (some (.Name x pos')) pos.line X.env=pure false)(hf:X.fn x=true\/X.env.scope.names.lookup x=some .local) :
  PS X (.Assign [.Name x pos'] e pos) (tS X.K E ca mu (Dd i m)):=PS.weak (Sd hN hi hx he hs hf) λD σ H h=>QT h
theorem s_for(hp:PassesOwn (model X.prog X.w) X.A X.env X.xe)(hc:X.calm=true)(hi:PI X tg iter (tI X.K E ca mi))(hg:PG X tg (D0 X.K b))(hb:Av X body (tS X.K E ca mu u))(hs:∀x,foldedSetIterable iter X.env x=pure x) :
  PS X (.For tg iter body [] pos) (tS X.K E ca mu (CA mi b u)):=by
 refine PS.weak (zks hp hc hi hg hb hs) λD σ H h=>?_
 obtain⟨F,τ,R,S,q⟩:=h;refine⟨F,τ,R,S,?_⟩;unfold CA at q;cases hm:mi τ with
 |none=>simp only[hm]at q<;>exact q.elim
 |some r =>
  simp only[hm]at q;cases r with
  |x c=>exact λF' H' e=>q F' H' σ R e.stp0 (S.ext e)
  |v ts bb =>
   intro F1 H1 J e1 its;simp only at q;have S1:=S.ext e1;cases hg:CF b u ts τ with
   |none=>simp only[hg]at q<;>exact q.elim
   |some out =>
    simp only[hg]at q;refine⟨λi mm σ' H'=>mm=ts.length - i/\i<=ts.length/\∃F' τ' R',Stp F H (tot R) F' H' (tot R')/\AY F1 F'/\StR X.K F' H' σ' τ' R'/\CF b u (ts.drop i) τ'=some out,⟨ts.length,by simp,ycj _,F1,τ,R,e1.stp0,.refl _,S1,by simpa using hg⟩,?_⟩
    rintro i mm σ' H' ⟨rfl,hle,F',τ',R',st,sf,S',hgo⟩;obtain⟨i1,i2⟩:=its i F' H' sf S'.fh
    by_cases hlt:i<ts.length
    .refine .inr ⟨(i1 _ (ya0 hlt)).1,λσ2 H2=>i+1<=ts.length/\∃F2 τ2 R2,Stp F H (tot R) F2 H2 (tot R2)/\AY F1 F2/\StR X.K F2 H2 σ2 τ2 R2/\CF b u (ts.drop (i+1)) τ2=some out,λσ2 H2 n2=>⟨ts.length - (i+1),by omega,rfl,n2⟩,λx H'' y=>?_⟩
     obtain⟨F'',e3,rx⟩:=(i1 _ (ya0 hlt)).2 x H'' y;have S3:=S'.ext e3;rw[yc0 hlt]at hgo;unfold CF at hgo;cases hb2:b ts[i] τ' with
     |none=>simp only[hb2]at hgo;cases hgo
     |some τ1 =>
      simp only[hb2]at hgo;refine⟨F'',τ',R',ts[i],τ1,S3,rx,hb2,λσ3 R3 S4 hR3=>?_⟩
      have st3:Stp F H (tot R) F'' H'' (tot R3):=(st.trans e3.stp0).mono λa ⟨j,z⟩=>⟨j,hR3 j a z⟩
      refine⟨F'',τ1,R3,S4,?_⟩;cases hu:u τ1 with
      |none=>simp only[hu]at hgo;cases hgo
      |some o =>
       simp only[hu]at hgo;cases o with
       |nx τ2=>exact λF4 H4 σ4 R4 s4 S5=>⟨hlt,F4,τ2,R4,st3.trans s4,(sf.trans e3.ff).trans s4.ff,S5,hgo⟩
       |ct τ2=>exact λF4 H4 σ4 R4 s4 S5=>⟨hlt,F4,τ2,R4,st3.trans s4,(sf.trans e3.ff).trans s4.ff,S5,hgo⟩
       |bk τ2 =>
        cases hgo;exact λF4 H4 σ4 R4 s4 S5=>q F4 H4 σ4 R4 (st3.trans s4) S5
       |rt v =>
        cases hgo;exact λF4 H4 x B s4 r=>q F4 H4 x B (st3.trans s4) r
       |xc cc τ2 =>
        cases hgo;exact λF4 H4 σ4 R4 s4 S5=>q F4 H4 σ4 R4 (st3.trans s4) S5
    .have hi':i=ts.length:=by omega
     subst hi';refine .inl ⟨i2 rfl,?_⟩;rw[List.drop_length]at hgo;unfold CF at hgo;cases hgo;exact q F' H' σ' R' st S'
theorem s_wh(hp:PassesOwn (model X.prog X.w) X.A X.env X.xe)(hc:PT X c (BD X.K E ca mc))(hb:Av X body (tS X.K E ca mu u)):PS X (.While c body [] pos) (tS X.K E ca mu (E7 mc u)):=by
 refine PS.weak (zf0 hp hc hb) λD σ H h=>?_
 obtain⟨F,τ,R,S,q⟩:=h;cases hw:E7 mc u τ with
 |none=>simp only[hw]at q<;>exact q.elim
 |some out =>
  simp only[hw]at q;obtain⟨n,hn⟩:=zep hw;refine⟨λmm σ' H'=>∃F' τ' R',Stp F H (tot R) F' H' (tot R')/\StR X.K F' H' σ' τ' R'/\C1 mc u mm τ'=some out,⟨n,F,τ,R,Stp.refl S.fh,S,hn⟩,?_⟩
  rintro mm σ' H' ⟨F',τ',R',st,S',hgo⟩;cases mm with
  |zero=>cases hgo
  |succ mm =>
   refine⟨F',τ',R',S',?_⟩;unfold C1 at hgo;cases hm:mc τ' with
   |none=>simp only[hm]at hgo;cases hgo
   |some r =>
    simp only[hm]at hgo;cases r with
    |x cc =>
     cases hgo;exact λF2 H2 e2=>q F2 H2 σ' R' (st.trans e2.stp0) (S'.ext e2)
    |v t bb =>
     cases t with
     |bl k =>
      intro F2 H2 e2;have S2:=S'.ext e2;have st2 :=st.trans e2.stp0;cases k with
      |false =>
       cases hgo;exact Il (q F2 H2 σ' R' st2 S2)
      |true =>
       simp only at hgo;refine Ik ⟨λσ2 H2=>∃F2 τ2 R2,Stp F H (tot R) F2 H2 (tot R2)/\StR X.K F2 H2 σ2 τ2 R2/\C1 mc u mm τ2=some out,λσ3 H3 n3=>⟨mm,yc1 _,n3⟩,F2,τ',R',S2,?_⟩
       cases hu:u τ' with
       |none=>simp only[hu]at hgo;cases hgo
       |some o =>
        simp only[hu]at hgo;cases o with
        |nx τ2=>exact λF4 H4 σ4 R4 s4 S5=>⟨F4,τ2,R4,st2.trans s4,S5,hgo⟩
        |ct τ2=>exact λF4 H4 σ4 R4 s4 S5=>⟨F4,τ2,R4,st2.trans s4,S5,hgo⟩
        |bk τ2 =>
         cases hgo;exact λF4 H4 σ4 R4 s4 S5=>q F4 H4 σ4 R4 (st2.trans s4) S5
        |rt v =>
         cases hgo;exact λF4 H4 x B s4 r=>q F4 H4 x B (st2.trans s4) r
        |xc cc τ2 =>
         cases hgo;exact λF4 H4 σ4 R4 s4 S5=>q F4 H4 σ4 R4 (st2.trans s4) S5
     |_=>cases hgo
end
section
variable {K:k7}{F H:Hp}{l:List T}{xs:List V}{Rr:Nat->Rg}{p:Addr}{o:HO}
theorem Rp.own_inv(h:Rp K F H (.nd true k l) x A):∃p xs Rr,x=.ref p/\A=(λa=>a=p\/∃j,Rr j a)/\F p=none/\H p=some (.lst xs)/\RpO K F H l xs Rr/\(∀j,¬ Rr j p)/\J1 k p:=by
 cases h with
 |own hk R f h e c d dp o=>exact⟨_,_,R,rfl,rfl,f,h,⟨e,c,d,o⟩,dp,hk⟩
theorem Sv(hk:J1 k p)(r:RpO K F H l xs Rr)(f:F p=none)(h:H p=some (.lst xs))(dp:∀j,¬ Rr j p):Rp K F H (.nd true k l) (.ref p) (λa=>a=p\/∃j,Rr j a):=.own hk Rr f h r.len r.rep r.dis dp r.out
theorem RpO.upd(r:RpO K F H l xs Rr)(dp:∀j,¬ Rr j p):RpO K F (L2.upd H p o) l xs Rr:=⟨r.len,λi t x h1 h2=>(r.rep i t x h1 h2).frame (.refl _) λa z=>⟨A3 (λe=>dp i (e▸z)),(r.dom z).1⟩,r.dis,r.out⟩
theorem Rp.upd(r:Rp K F H t x A)(dp:¬ A p):Rp K F (L2.upd H p o) t x A:=r.frame (.refl _) λa z=>⟨A3 (λe=>dp (e▸z)),(r.dom z).1⟩
theorem RpO.set(r:RpO K F H l xs Rr)(hj:j0<l.length)(rt:Rp K F H t y B)(d:∀j a,j≠j0->Rr j a->¬ B a):RpO K F H (l.set j0 t) (xs.set j0 y) (λj=>if j=j0 then B else Rr j):=by
 have hl:=r.len;refine⟨by simp[hl],λi t' x' h1 h2=>?_,λi k a hik z1 z2=>?_,λi a z=>?_⟩
 .by_cases hi:i=j0
  .grind
  .rw[yap (yar hi)]at h1 h2
   simpa[hi] using r.rep i t' x' h1 h2
 .by_cases hi:i=j0
  .grind
  .simp only[hi,yej]at z1
   by_cases hk:k=j0
   .simp only[hk,ye1]at z2;exact d i a hi z1 z2
   .simp only[hk,yej]at z2;exact r.dis i k a hik z1 z2
 .by_cases hi:i=j0
  .simp[hi];omega
  .simp only[hi,yej]at z
   simpa using r.out i a z
variable {σ:L2.St}{τ:AM}{R:Nat->Rg}
theorem StR.upd(S:StR K F H σ τ R){A' B:Rg}(ht:τ[i]?=some (some t))(hx:σ[i]?=some (some x))(hp:R i p)(r':Rp K F (L2.upd H p o) t' x A')(hA:∀a,A' a->R i a\/B a)(hB:∀j a,R j a->¬ B a) :
  StR K F (L2.upd H p o) σ (τ.set i (some t')) (λj=>if j=i then A' else R j)/\Stp F H (λa=>Pu.tot R a\/B a) F (L2.upd H p o) (Pu.tot λj=>if j=i then A' else R j):=by
 have fp :=(S.dom hp).1;have hi :=(ya9.mp ht).1
 have fh':AY F (L2.upd H p o):=λb u e=>by
  rw[A3 (λz=>by rw[z,fp]at e;cases e)]
  exact S.fh b u e
 refine⟨⟨fh',by simpa using S.len,λj t1 e=>?_,λj a z=>?_,λj k a hjk z1 z2=>?_⟩,⟨.refl _,fh',λb u n e=>?_,λb ⟨j,z⟩=>?_,λb u e=>.inl e⟩⟩
 .by_cases hj:j=i
  .subst hj;rw[yas hi]at e;cases e;exact⟨x,hx,by simpa using r'⟩
  .rw[yap (yar hj)]at e;obtain⟨y,e1,r1⟩:=S.rep j t1 e;exact⟨y,e1,by simpa[hj] using r1.upd (λz=>S.dis j i p hj z hp)⟩
 .by_cases hj:j=i
  .subst hj;exact⟨t',yas hi⟩
  .simp only[hj,yej]at z;obtain⟨t1,e⟩:=S.out j a z;exact⟨t1,by rw[yap (yar hj)];exact e⟩
 .by_cases hj:j=i
  .simp only[hj,ye1]at z1;have hk:¬ k=i:=λz=>hjk (hj.trans z.symm)
   simp only[hk,yej]at z2
   rcases hA a z1 with w|w
   .exact S.dis i k a (yar hk) w z2
   .exact hB k a z2 w
  .simp only[hj,yej]at z1
   by_cases hk:k=i
   .simp only[hk,ye1]at z2
    rcases hA a z2 with w|w
    .exact S.dis i j a (yar hj) w z1
    .exact hB j a z1 w
   .simp only[hk,yej]at z2;exact S.dis j k a hjk z1 z2
 .rw[A3 (λz=>n (.inl (by rw[z];exact⟨i,hp⟩)))]
  exact e
 .by_cases hj:j=i
  .simp only[hj,ye1]at z
   rcases hA b z with w|w
   .exact .inl (.inl ⟨i,w⟩)
   .exact .inl (.inr w)
  .simp only[hj,yej]at z;exact .inl (.inl ⟨j,z⟩)
end
def G0(τ:AM)(i:Nat):Option (Kd×List T):=match τ[i]? with
 |some (some (.nd true k l))=>some (k,l)
 |_=>none
theorem Sw(h:G0 τ i=some (k,l)):τ[i]?=some (some (.nd true k l)):=by
 unfold G0 at h
 grind
def De(i:Nat)(m:AI):AH:=λτ=>match G0 τ i with
 |some (kd,l)=>(match m τ with
  |some (.v t false)=>if l.length<BO then some (.nx (τ.set i (some (.nd true kd (l++[t]))))) else none
  |some (.v _ true)=>none
  |some (.x c)=>some (.xc c τ)
  |none=>none)
 |none=>none
def HD(i:Nat)(mk m:AI):AH:=λτ=>match m τ with
 |some (.v t false)=>(match G0 τ i with
  |some (kd,l)=>(match mk τ with
   |some (.v (.int k) _)=>(match Cu l.length k with
    |some j=>some (.nx (τ.set i (some (.nd true kd (l.set j t)))))
    |none=>none)
   |some (.v _ _)=>none
   |some (.x c)=>some (.xc c τ)
   |none=>none)
  |none=>none)
 |some (.v _ true)=>none
 |some (.x c)=>some (.xc c τ)
 |none=>none
section
variable {mu:Bool}{X:Cx}{E:L2.St->XK}{ca:Str->Value}{σ:L2.St}{H:Hp}{K:k7}{m mk mn:AI}{D:Ends}{e k n:Expr}{pos apos cpos p1 pos2 pos3:Pos}{i:Nat}{x:Str}
theorem zit(g:DY K F H R (.int j) b y B):y=.int j:=by
 cases b with
 |true=>obtain⟨_,A,_,r⟩:=g;exact r.int_inv
 |false=>exact(g).int_inv
theorem Qe{l:List T}{Rr:Nat->Rg}(h:∃j,(λj=>if j=l.length then B else Rr j) j a):(∃j,Rr j a)\/B a:=Qf h
theorem zh3{Rr:Nat->Rg}(h:∃j,(λj=>if j=j0 then B else Rr j) j a):(∃j,Rr j a)\/B a:=by
 grind
theorem s_app(hN:X.N[i]?=some x)(hv:DX X.env.scope x)(hd:(x == "__debug__")=false)(hcd:(x == "__classdict__")=false)(he:PE X e (tM X.K E ca m))(hs:starEach [e] X.env=[(false,eval e X.env)])(hline:(apos.endLine == cpos.line)=true) :
  PS X (.Expr (.Call (.Attribute (.Name x p1) "append" apos) [e] [] cpos) pos) (tS X.K E ca mu (De i m)):=by
 refine PS.weak (Mb (Mg ycr PySem.F.slot_list_append PySem.F.type_list_append U3 (GY hN hv hd hcd) (Dk he Ec hs) rfl (by rw[hs];rfl) hline hs rfl) rfl) λD σ H h=>?_
 obtain⟨F,τ,R,S,q⟩:=h;unfold De at q;cases ho:G0 τ i with
 |none=>simp only[ho]at q<;>exact q.elim
 |some kl =>
  obtain⟨kd,l⟩:=kl;simp only[ho]at q;have ht:=Sw ho;obtain⟨y,ey,ry⟩:=S.rep i _ ht;obtain⟨p,xs,Rr,rfl,hA,fp,hp,ro,dp,hOw⟩:=ry.own_inv;refine⟨_,ey,.inl ⟨rfl,xs,Ad.of hp⟩,F,τ,R,S,?_⟩;cases hm:m τ with
  |none=>simp only[hm]at q<;>exact q.elim
  |some r =>
   simp only[hm]at q;cases r with
   |x c=>exact λF' H' e=>q F' H' σ R e.stp0 (S.ext e)
   |v t bb =>
    cases bb with
    |true=>exact q.elim
    |false =>
     intro F1 H1 y B e1 g1;have g1' :=g1
     by_cases hz:l.length<BO
     .simp only[hz,ye1]at q;have S1:=S.ext e1;have ro1:=ro.ext e1;have hp1:=e1.hh _ _ hp;have pB:¬ B p:=λz=>by rw[e1.nb p z]at hp;cases hp
      have fp1 :=(ry.ext e1 |>.dom (by rw[hA];exact .inl rfl)).1
      refine⟨p,xs,y,rfl,rfl,hp1,by rw[<- ro.len,<- FI];exact hz,?_⟩
      have ro2:RpO X.K F1 (upd H1 p (.lst (xs++[y]))) (l++[t]) (xs++[y]) _:=(ro1.upd dp).snoc (g1'.upd pB) λj a z1 z2=>ro.apart e1 z2 j z1
      have dp2:∀j,¬ (if j=l.length then B else Rr j) p:=λj z=>by
       by_cases hj:j=l.length
       .simp only[hj,ye1]at z;exact pB z
       .simp only[hj,yej]at z;exact dp j z
      have r2:=Sv hOw ro2 fp1 BQ dp2
      obtain⟨S3,st3⟩:=S1.upd ht ey (by rw[hA];exact .inl rfl) r2 (λa z=>by
       rw[hA]
       rcases z with z|z
       .exact .inl (.inl z)
       .rcases Qe z with w|w
        .exact .inl (.inr w)
        .exact .inr w) (λj a z1 z2=>S.apart e1 z2 j z1)
      exact q F1 _ σ _ (e1.stp.trans st3) S3
     .simp only[hz,yej]at q<;>exact q.elim
theorem s_sto(hN:X.N[i]?=some x)(hv:DX X.env.scope x)(hd:(x == "__debug__")=false)(hcd:(x == "__classdict__")=false)(he:PE X e (tM X.K E ca m))(hk:PE X k (tM X.K E ca mk))(hs:swapsWithSole [.Subscript (.Name x p1) k pos2] e pos.line X.env=pure false)(hw:swappedStores [.Subscript (.Name x p1) k pos2] e X.env=pure none)
  (ha : ∀ v, assign (.Subscript (.Name x p1) k pos2) X.env v = (do
   let ov <- holding [v] (eval (.Name x p1) X.env);let iv <- holding [v,ov] (eval k X.env)
   standAt pos2
   holding [v,ov,iv] (setItem ov iv v)
   release [v,ov,iv] [])) :
  PS X (.Assign [.Subscript (.Name x p1) k pos2] e pos) (tS X.K E ca mu (HD i mk m)):=by
 refine PS.weak (Md he (Sj (GY hN hv hd hcd) hk zen ha) hs hw rfl) λD σ H h=>?_
 obtain⟨F,τ,R,S,q⟩:=h;refine⟨F,τ,R,S,?_⟩;unfold HD at q;cases hm:m τ with
 |none=>simp only[hm]at q<;>exact q.elim
 |some r =>
  simp only[hm]at q;cases r with
  |x c=>exact λF' H' e=>q F' H' σ R e.stp0 (S.ext e)
  |v t bb =>
   cases bb with
   |true=>exact q.elim
   |false =>
    intro F1 H1 y B e1 g1;have g1' :=g1;simp only at q;cases ho:G0 τ i with
    |none=>simp only[ho]at q<;>exact q.elim
    |some kl =>
     obtain⟨kd,l⟩:=kl;simp only[ho]at q;have S1:=S.ext e1;have ht:=Sw ho;obtain⟨y2,ey,ry⟩:=S1.rep i _ ht;refine⟨y2,ey,F1,τ,R,S1,?_⟩;cases hkk:mk τ with
     |none=>simp only[hkk]at q<;>exact q.elim
     |some r =>
      simp only[hkk]at q;cases r with
      |x c=>exact λF' H' e=>q F' H' σ R ((e1.stp0).trans e.stp0) (S1.ext e)
      |v tk bk =>
       cases tk with
       |int kk =>
        simp only at q;cases hj:Cu l.length kk with
        |none=>simp only[hj]at q<;>exact q.elim
        |some j =>
         simp only[hj]at q;intro F2 H2 z C e2 g2;have hz:=zit g2;subst hz;have S2:=S1.ext e2;have ry2:=ry.ext e2;obtain⟨p,xs,Rr,rfl,hA,fp,hp,ro,dp,hOw⟩:=ry2.own_inv;have hjl:=(Nr hj).2.1;have g2':=g1'.ext e2
         have pB :=λz=>by
          have:R i p:=by rw[hA];exact .inl rfl
          exact S.apart e1 z i this
         refine⟨p,xs,kk,j,rfl,rfl,hp,by rw[<- ro.len];exact hj,?_⟩
         have ro2:RpO X.K F2 (upd H2 p (.lst (xs.set j y))) (l.set j t) (xs.set j y) _:=(ro.upd dp).set hjl (g2'.upd pB) λj' a _ z1 z2=>S.apart e1 z2 i (by rw[hA];exact .inr ⟨j',z1⟩)
         have dp2:∀j',¬ (if j'=j then B else Rr j') p:=λj' z=>by
          by_cases hj':j'=j
          .simp only[hj',ye1]at z;exact pB z
          .simp only[hj',yej]at z;exact dp j' z
         have r3:=Sv hOw ro2 fp BQ dp2
         obtain⟨S3,st3⟩:=S2.upd ht ey (by rw[hA];exact .inl rfl) r3 (λa z=>by
          rw[hA]
          rcases z with z|z
          .exact .inl (.inl z)
          .rcases zh3 z with w|w
           .exact .inl (.inr w)
           .exact .inr w) (λj a z1 z2=>S.apart e1 z2 j z1)
         exact q F2 _ σ _ ((e1.stp.trans e2.stp0).trans st3) S3
       |_=>exact q.elim
noncomputable def IK(i j:Nat)(ms:Ao):AH:=λτ=>match ms τ with
 |some (.v ts false)=>(match ts with
  |[t,u]=>if i<τ.length/\j<τ.length then some (.nx ((τ.set i (some t)).set j (some u))) else none
  |_=>none)
 |some (.v _ true)=>none
 |some (.x c)=>some (.xc c τ)
 |none=>none
theorem s_par{px py pt}(hc:X.calm=true)(hN:X.N.Nodup)(hi:X.N[i]?=some x)(hj:X.N[j]?=some y)(hij:i≠j)
  (hx:X.env.scope.names.lookup x=some .local) (hy:X.env.scope.names.lookup y=some .local) (ha:PA X [a,b] (BY X.K E ca ms))
  (hw:swappedStores [.Tuple [.Name x px,.Name y py] kt pt] (.Tuple [a,b] k2 pt2) X.env=pure (some [x,y]))
  (hs:swapsWithSole [.Tuple [.Name x px,.Name y py] kt pt] (.Tuple [a,b] k2 pt2) pos.line X.env=pure false) :
  PS X (.Assign [.Tuple [.Name x px,.Name y py] kt pt] (.Tuple [a,b] k2 pt2) pos) (tS X.K E ca mu (IK i j ms)):=by
 refine PS.weak (zkr hc hN hi hj hij hx hy ha hw hs) λD σ H h=>?_
 obtain⟨F,τ,R,S,q⟩:=h;refine⟨F,τ,R,S,?_⟩;unfold IK at q;cases hm:ms τ with
 |none=>simp only[hm]at q<;>exact q.elim
 |some r =>
  simp only[hm]at q;cases r with
  |x c=>exact λF' H' e=>q F' H' σ R e.stp0 (S.ext e)
  |v ts bb =>
   cases bb with
   |true=>exact q.elim
   |false =>
    intro F1 H1 xs e1 rs;simp only at q
    match ts,q,rs with
    |[t,u],q,rs =>
     simp only at q
     by_cases hl:i<τ.length/\j<τ.length
     .simp only[hl,ye1]at q;obtain⟨x1,xs1,rfl,r1,rs1⟩:=rs.inv;obtain⟨x2,xs2,rfl,r2,rs2⟩:=rs1.inv;cases rs2.inv0;have S1:=S.ext e1;have S2:=S1.set ((r1).any) (λ_ _ _ _ z=>z.elim) hl.1
      have S3:=S2.set ((r2).any) (λ_ _ _ _ z=>z.elim) (by simpa using hl.2)
      refine⟨x1,x2,rfl,q F1 H1 _ _ (e1.stp0.mono ?_) S3⟩;rintro a ⟨k,z⟩
      by_cases hk:k=j
      .simp only[hk,ye1]at z;exact z.elim
      .simp only[hk,yej]at z
       by_cases hk2:k=i
       .simp only[hk2,ye1]at z;exact z.elim
       .simp only[hk2,yej]at z;exact⟨k,z⟩
     .simp only[hl,yej]at q<;>exact q.elim
    |[],q,rs=>exact q.elim
    |[_],q,rs=>exact q.elim
    |_::_::_::_,q,rs=>exact q.elim
end
section
variable {X:Cx}{E:L2.St->XK}{ca:Str->Value}{σ:L2.St}{H F:Hp}{K:k7}{m mk:AI}{ms:Ao}{D:Ends}{e:Expr}{es:List Expr}{pos apos cpos p1 p2:Pos}{i j:Nat}{x y:Str}{τ:AM}{R:Nat->Rg}{mu:Bool}
inductive Mo where
 |ok (v:T) (τ:AM)|exc (c:Str) (τ:AM)
def GP(K:k7)(ca:Str->Value)(g:List T->Option Ru):Sp:=λvs H Q E=>∃F p l ts A vs',AY F H/\vs=.ref p::vs'/\Rp K F H (.nd true (.pin p) l) (.ref p) A/\Aa K F ts vs'/\match g (.nd true (.pin p) l::ts) with
 |some (.ok t)=>∀F' H' x B,Stp F H A F' H' B->Wr K true F' H' t x B->Q x H'
 |some (.exc c)=>∀F' H',Stp F H A F' H' R0->XE E ca c F' H'
 |none=>False
variable {mm:AM->Option Mo}
end
abbrev TC(A:Around):Around:={ A with handled:=none }
structure FnS(P:Program)(w:World)(K:k7)(mg:Str->Option Value)(base:Heap)(k:Nat)(f:Addr)(fd:FuncData)(p:Str)(sp:Sp):Prop where
 run:∀(A:Around) (outer:List Env) (s:Shared) (H:Hp) (args:Args) (a:Addr) (Q:VK),A.handled=some (.ref a)->(∃C,Gk H a C)->Room k (TC A)->Env0 P w K mg base A outer s H->BindsTo s fd args [(p,.ref a)]->sp [.ref a] H Q E0 ->
  codeAny (model P w) A (.call (.ref f) args) (CR J6 outer P w H s Q E0) s
structure DefS(P:Program)(w:World)(K:k7)(mg:Str->Option Value)(base:Heap)(k:Nat)(x p:Str)(sp:Sp) where
 f:Addr
 fd:FuncData
 ok:FnS P w K mg base k f fd p sp
 m:mg x=some (.ref f)
 kp:PySem.W.keepIn K (.ref f)=true
 b:Ci K fd [p] []
section
variable {X:Cx}{pins:List (Addr×Obj)}{σ:L2.St}{H:Hp}{s:Shared}{a:Addr}{kvs:List (Key×V)}
end
section
variable {X:Cx}
def tDicO:TE:=λ_ H Q=>∀p,H p=none->Q (.ref p) (upd H p (.dK []))
theorem zhn:PE X (.Dict [] [] pos) tDicO:=λpins s σ H Q I h=>by
 refine wpAny_Dict_empty ⟨.ref s.heap.objs.size,_,I.laid (λ_ _ q=>ya2 _ q) (yac _) (zg7 s.heap I.big),rfl,h _ (I.hok.fresh (yac _))⟩
end
section
variable {X:Cx}{E:L2.St->XK}{ca:Str->Value}{m mk mv:AI}{e k:Expr}{pos p1 pos2:Pos}{mu:Bool}
end
section
variable {X:Cx}{E:L2.St->XK}{ca:Str->Value}{m mk:AI}{e k:Expr}{pos p1 pos2:Pos}{mu:Bool}{i:Nat}{x:Str}
end
theorem zle(hu:X.A.units+64<cLine):Af X (compareOp .NotEq) (Bb X.K BL):=by
 intro pins s σ H x y v u Q I rx ry h;obtain⟨F,t1,t2,r,fh,r1,r2,e,q⟩:=h;unfold BL at e;split at e
 .cases e;rename_i hc;unfold Ga DW at hc;rw[ya4,ya4,ya4,ya4,yee]at hc;obtain⟨a1,q1⟩:=Fg I fh (r1.any) hc.1.1.1 rx;obtain⟨a2,q2⟩:=Fg I fh (r2.any) hc.1.2.1 ry;exact SeqAt.compareNe_reads q1 q2 hc.1.1.2 hc.1.2.2 (W6 hu hc.2) ⟨.bl _,H,I,rfl,q.bl fh⟩
 .cases e
theorem StR.frz{K }       (S:StR K F H σ τ R)(ht:τ[i]?=some (some t)):StR K (Pu.frz F H (R i)) H σ (τ.set i (some t.share)) (λj=>if j=i then R0 else R j):=by
 obtain⟨x,ex,r⟩:=S.rep i t ht;have hi :=(ya9.mp ht).1;have n:∀a,R i a->F a=none:=λa z=>(r.dom z).1
 refine⟨H9 S.fh,by simpa using S.len,λj t' e=>?_,λj a z=>?_,λj k a hjk z1 z2=>?_⟩
 .by_cases hj:j=i
  .subst hj;rw[yas hi]at e;cases e;exact⟨x,ex,by simpa using r.share (EU n) λa u z q=>by rw[Fx z];exact q⟩
  .rw[yap (yar hj)]at e;obtain⟨y,e1,r1⟩:=S.rep j t' e;refine⟨y,e1,?_⟩;simp only[hj,yej]
   exact r1.frame (EU n) λa z=>⟨rfl,by
    rw[FL (λz'=>S.dis j i a hj z z')]
    exact(r1.dom z).1⟩
 .by_cases hj:j=i
  .simp only[hj,ye1]at z;exact z.elim
  .simp only[hj,yej]at z;obtain⟨t',e⟩:=S.out j a z
   grind
 .by_cases hj:j=i
  .simp only[hj,ye1]at z1;exact z1.elim
  .by_cases hk:k=i
   .simp only[hk,ye1]at z2;exact z2.elim
   .simp only[hj,yej]at z1;simp only[hk,yej]at z2;exact S.dis j k a hjk z1 z2
def tL(K:k7)(m:AH):TS:=λD σ H=>∃F τ R,StR K F H σ τ R/\match m τ with
 |some (.rt (.bl b))=>∀H',D.rt (.bl b) H'
 |_=>False
theorem IF{K:k7}{m:AH}{D:Ends}(q:match m τ with
 |some (.rt (.bl b))=>∀H',D.rt (.bl b) H'
 |_=>False):∃b,m τ=some (.rt (.bl b))/\∀H',D.rt (.bl b) H':=by
 grind
section
variable {X:Cx}{E:L2.St->XK}{ca:Str->Value}{σ:L2.St}{H:Hp}{K:k7}{u w:AH}{D:Ends}
theorem tL_tS(h:tL K w D σ H):tS K E ca false w D σ H:=by
 obtain⟨F,τ,R,S,q⟩:=h;obtain⟨b,hb,q⟩:=IF (K:=K) q;refine⟨F,τ,R,S,?_⟩;rw[hb];intro F' H' x B s r;have r' :=r;rw[r'.bl_inv];exact q H'
theorem zjt(h:tL K (AG u w) D σ H):Lz (tS K E ca false u) (tL K w) D σ H:=by
 obtain⟨F,τ,R,S,q⟩:=h;obtain⟨b,hb,q⟩:=IF (K:=K) q;refine⟨F,τ,R,S,?_⟩;unfold AG at hb;cases hm:u τ with
 |none=>grind
 |some o =>
  rw[hm]at hb;cases o with
  |nx τ' =>
   intro F1 H1 σ1 R1 s1 S1;refine⟨F1,τ',R1,S1,?_⟩
   grind
  |rt t =>
   cases hb;intro F' H' x B s r;have r' :=r;rw[r'.bl_inv];exact q H'
  |bk _=>cases hb
  |ct _=>cases hb
  |xc _ _=>cases hb
theorem zju(h:tL K (AG (E9 i) w) D σ H):tL K w D σ H:=by
 obtain⟨F,τ,R,S,q⟩:=h;obtain⟨b,hb,q⟩:=IF (K:=K) q;unfold AG E9 at hb;cases ht:τ[i]? with
 |none =>
  exact⟨F,τ,R,S,by grind⟩
 |some ot =>
  rw[ht]at hb;cases ot with
  |none =>
   exact⟨F,τ,R,S,by grind⟩
  |some t =>
   exact⟨_,_,_,S.frz ht,by grind⟩
end
theorem Uh{fs:List Str}{xs}{f}:∀{j} {x:V},fs.findIdx? (· == f)=some j->xs[j]?=some x->(fs.zip xs).lookup f=some x:=by
 induction fs generalizing xs with
 |nil=>simp
 |cons g r ih =>
  intro j x h hx;rw[yda]at h;cases xs with
  |nil=>simp at hx
  |cons y ys =>
   rw[ycb]
   by_cases hg:g=f
   .grind
   .have h1 :=beq_eq_false_iff_ne.mpr hg;rw[h1]at h;simp only[yca,yej,yaa]at h
    grind
theorem zag{fs:List Str}{xs:List V}(h:fs.contains f=false):(fs.zip xs).lookup f=none:=by
 induction fs generalizing xs with
 |nil=>rfl
 |cons g r ih =>
  cases xs with
  |nil=>rfl
  |cons y ys =>
   rw[ycn,ybe]at h;rw[ycb,ybd,h.1];exact ih h.2
theorem Rp.obj_inv{K}(h:Rp K F H (.obj k l) x A):∃p xs,x=.ref p/\A=R0/\J2 F k p xs/\l.length=xs.length/\∀(i:Nat) (t) (x),l[i]?=some t->xs[i]?=some x->Rp K F H t x R0:=by
 cases h with
 |obj h e c=>grind
noncomputable def DL(C:Addr)(fs:List Str):T->Option (List T)
 |.obj (.ins C' fs') l=>if C'=C/\fs'=fs then some l else none
 |_=>none
theorem VL(h:DL C fs t=some l):t=.obj (.ins C fs) l:=by
 unfold DL at h
 grind
def Bi(C:Addr)(fs:List Str)(j:Nat)(m:AI):AI:=λτ=>match m τ with
 |some (.v t b)=>(match DL C fs t with
  |some l=>(match l[j]? with
   |some u=>some (.v u (b && !u.sh))
   |none=>none)
  |none=>none)
 |some (.x c)=>some (.x c)
 |none=>none
def DG(C:Addr)(fs:List Str)(g:List T->Option Ru)(m:AI)(ms:Ao):AI:=λτ=>match m τ with
 |some (.v t _)=>(match DL C fs t with
  |some _=>(match ms τ with
   |some (.v ts b)=>(match g (t.share::ts) with
    |some (.ok v)=>Ax b v
    |some (.exc c)=>JD true c
    |none=>none)
   |some (.x c)=>some (.x c)
   |none=>none)
  |none=>none)
 |some (.x c)=>some (.x c)
 |none=>none
def Ct(m n:AI):AI:=λτ=>match m τ with
 |some r=>some r
 |none=>n τ
section
variable {X:Cx}{E:L2.St->XK}{ca:Str->Value}{m n:AI}{ms:Ao}{e o:Expr}{es:List Expr}{pos p apos:Pos}{C:Addr}{fs:List Str}{f:Str}{j:Nat}
theorem Ma(h1:PE X e (tM X.K E ca m))(h2:PE X e (tM X.K E ca n)):PE X e (tM X.K E ca (Ct m n)):=λpins s σ H Q I h=>by
 obtain⟨F,τ,R,S,q⟩:=h;unfold Ct at q;cases hm:m τ with
 |none =>
  rw[hm]at q;exact h2 pins s σ H Q I ⟨F,τ,R,S,q⟩
 |some r =>
  rw[hm]at q;exact h1 pins s σ H Q I ⟨F,τ,R,S,by grind⟩
theorem Kp{K}(g:DY K F H R (.obj k l) b x B):Rp K F H (.obj k l) x R0/\B=R0:=by
 cases b with
 |true =>
  obtain⟨hB,A,_,r⟩:=g;obtain⟨p,xs,rfl,hA,_⟩:=r.obj_inv
  grind
 |false =>
  have r:Rp K F H (.obj k l) x B:=g;obtain⟨p,xs,rfl,hA,_⟩:=r.obj_inv
  grind
theorem r_fld(c:Cls X.K C)(hn:Bz X.K C f)(hj:fs.findIdx? (· == f)=some j)(ho:PE X o (tM X.K E ca m))(hb:attributeBase o f X.env (eval o X.env)=eval o X.env):PE X (.Attribute o f pos) (tM X.K E ca (Bi C fs j m)):=by
 refine PE.weak (Sq ho hb) λσ H Q h=>?_
 obtain⟨F,τ,R,S,q⟩:=h;refine⟨F,τ,R,S,?_⟩;unfold Bi at q;cases hm:m τ with
 |none=>simp only[hm]at q<;>exact q.elim
 |some r =>
  simp only[hm]at q;cases r with
  |x c=>exact q
  |v t b =>
   intro F1 H1 x B e1 g1;cases hi:DL C fs t with
   |none=>simp only[hi]at q<;>exact q.elim
   |some l =>
    simp only[hi]at q;have ht:=VL hi;subst ht;cases hu:l[j]? with
    |none=>simp only[hu]at q<;>exact q.elim
    |some u =>
     simp only[hu]at q;obtain⟨r1,hB⟩:=Kp g1;subst hB;obtain⟨a,xs,rfl,_,⟨dx,hF⟩,el,cc⟩:=r1.obj_inv;have hjl:=(ya9.mp hu).1;have hx:xs[j]?=some xs[j]:=ya0 (by omega)
     have hc:=cc j u _ hu hx;refine⟨a,_,dx,_,xs[j],rfl,e1.fh _ _ hF,c,hn,Uh hj hx,?_⟩;refine q F1 H1 _ R0 e1 ?_;cases b with
     |false=>exact hc
     |true =>
      cases hs:u.sh with
      |true=>exact hc
      |false=>exact⟨rfl,R0,λ_ z=>z.elim,hc⟩
structure MetX(P:Program)(w:World)(K:k7)(mg:Str->Option Value)(base:Heap)(C:Addr)(m:Str)(k:Nat)(ps:List Str)(sp:Sp) where
 f:Addr
 fd:FuncData
 c:Cls K C
 me:Meth K C m f
 ok:FnOk P w K mg base (BH P w) k f fd ps sp
 b:Ci K fd ps []
def MB(C:Addr)(m:Str)(sp:Sp)(E:L2.St->XK)(ta:TE)(t:TA):TE:=λσ H Q=>ta σ H λx H1=>∃a dx fs,x=.ref a/\H1 a=some (.ins C dx fs)/\fs.lookup m=none /\
 t σ H1 λvs H2=>sp (x::vs) H2 Q (E σ)
theorem pmx(D:MetX X.prog X.w X.K X.mg X.base C f k ps sp)(hr:Room j X.A)(hx:BB X E)(he:PE X o ta)(ha:PA X (e::es) t)(hk:k<=j)
  (hst:starEach (e::es) X.env=(false,eval e X.env)::starEach es X.env) (hpl:(backTo pos (starEach es X.env)).any (·.1)=false)
  (ht : eval (.Call (.Attribute o f apos) (e :: es) [] pos) X.env = (do
   let ov <- eval o X.env
   standAt apos.atName
   let (f,first) <- holding [ov] (getMethod ov f pl)
   callWith pos f first (backTo pos (starEach (e::es) X.env)) (backToKw pos (keywordEach [] X.env)))):PE X (.Call (.Attribute o f apos) (e::es) [] pos) (MB C f sp E ta t):=by
 intro pins s σ H Q I h;refine PySem.W.methodCall_KW (AS (he pins s σ H _ I h) λu s1 ⟨x,H1,I1,rx,a,dx,fs,ex,ea,l,q⟩=>?_) ht
 subst ex;obtain rfl:u=Value.ref a:=rx;refine V6 I1 ea D.c D.me l ?_;refine yc8 I.ok.mod.kin D.me.kp (AS (ha pos pins s1 σ H1 _ I1 q) λus s2 ⟨vs,H2,I2,r,q2⟩=>⟨I2.kIn,?_⟩) hst hpl
 exact KG (vs:=.ref a::vs) D.ok (hr.mono hk) D.b .nil hx I2 (.cons rfl r) (by grind)
theorem pmx0(D:MetX X.prog X.w X.K X.mg X.base C f k ps sp)(hr:Room j X.A)(hx:BB X E)(he:PE X o ta)(hk:k<=j)
  (ht : eval (.Call (.Attribute o f apos) [] [] pos) X.env = (do
   let ov <- eval o X.env
   standAt apos.atName
   let (f,first) <- holding [ov] (getMethod ov f pl)
   callWith pos f first (backTo pos (starEach [] X.env)) (backToKw pos (keywordEach [] X.env)))):PE X (.Call (.Attribute o f apos) [] [] pos) (MB C f sp E ta QW):=by
 intro pins s σ H Q I h;refine PySem.W.methodCall_KW (AS (he pins s σ H _ I h) λu s1 ⟨x,H1,I1,rx,a,dx,fs,ex,ea,l,q⟩=>?_) ht
 subst ex;obtain rfl:u=Value.ref a:=rx;refine V6 I1 ea D.c D.me l ?_;exact PySem.W.callWith_K0 I1.kIn D.me.kp (KG (vs:=[.ref a]) D.ok (hr.mono hk) D.b .nil hx I1 (.cons rfl .nil) q)
theorem QY(hf:fs.contains f=false)(h:tM X.K E ca (DG C fs g m ms) σ H Q):MB C f (Au X.K ca g) E (tM X.K E ca m) (BY X.K E ca ms) σ H Q:=by
 obtain⟨F,τ,R,S,q⟩:=h;refine⟨F,τ,R,S,?_⟩;unfold DG at q;cases hm:m τ with
 |none=>simp only[hm]at q<;>exact q.elim
 |some r =>
  simp only[hm]at q;cases r with
  |x c=>exact q
  |v t b =>
   intro F1 H1 x B e1 g1;cases hi:DL C fs t with
   |none=>simp only[hi]at q<;>exact q.elim
   |some l =>
    simp only[hi]at q;have ht:=VL hi;subst ht;obtain⟨r1,hB⟩:=Kp g1;subst hB;have S1:=S.ext e1;obtain⟨a,xs,rfl,_,⟨dx,hF⟩,el,cc⟩:=r1.obj_inv;refine⟨a,dx,_,rfl,e1.fh _ _ hF,zag hf,F1,τ,R,S1,?_⟩;cases hs:ms τ with
    |none=>simp only[hs]at q<;>exact q.elim
    |some r =>
     simp only[hs]at q;cases r with
     |x c=>exact λF' H' e=>q F' H' (e1.trans0 e)
     |v ts b' =>
      intro F2 H2 vs e2 rs;have S2:=S1.ext e2;simp only at q;have r2:Rp X.K (Gz b' F2 H2 R) H2 (T.obj (.ins C fs) l).share (.ref a) R0:=(r1.ext e2).share (Ko S2) λ_ _ z=>z.elim
      refine⟨Gz b' F2 H2 R,_,Kn S2,.cons r2 rs,?_⟩;have e12:=e1.trans0 e2;cases hg:g ((T.obj (.ins C fs) l).share::ts) with
      |none=>simp only[hg]at q<;>exact q.elim
      |some r =>
       simp only[hg]at q;cases r with
       |exc c =>
        simp only[JD]at q;cases hp:EK c with
        |none=>rw[hp]at q;exact λF' H' e3=>(q F2 H' (e12.grow e3.hh)).any hp
        |some n=>rw[hp]at q;exact q.elim
       |ok v =>
        intro F3 H3 z C3 e3 r3;simp only at q;unfold Ax at q;cases b' with
        |false=>exact q F3 H3 z C3 (e12.trans0 e3) r3
        |true =>
         cases hf:v.flat with
         |false=>rw[hf]at q;cases q
         |true=>rw[hf]at q;exact q F2 H3 z R0 (e12.grow e3.hh) (r3.flat_any hf)
theorem zke(D:MetX X.prog X.w X.K X.mg X.base C f k ps (Au X.K ca g))(hf:fs.contains f=false)(hr:Room j X.A)(hx:BB X E)(he:PE X o (tM X.K E ca m))(ha:PA X (e::es) (BY X.K E ca ms))(hk:k<=j)
  (hst:starEach (e::es) X.env=(false,eval e X.env)::starEach es X.env) (hpl:(backTo pos (starEach es X.env)).any (·.1)=false)
  (ht : eval (.Call (.Attribute o f apos) (e :: es) [] pos) X.env = (do
   let ov <- eval o X.env
   standAt apos.atName
   let (f,first) <- holding [ov] (getMethod ov f pl)
   callWith pos f first (backTo pos (starEach (e::es) X.env)) (backToKw pos (keywordEach [] X.env)))):PE X (.Call (.Attribute o f apos) (e::es) [] pos) (tM X.K E ca (DG C fs g m ms)) :=
 PE.weak (pmx D hr hx he ha hk hst hpl ht) λσ H Q h=>QY hf h
structure NewX(P:Program)(w:World)(K:k7)(mg:Str->Option Value)(base:Heap)(x:Str)(C:Addr)(k:Nat)(ps:List Str)(sp:Sp) where
 f:Addr
 fd:FuncData
 m:mg x=some (.ref C)
 ma:Mk K C f
 ok:FnOk P w K mg base (BH P w) k f fd ps sp
def zjp(C:Addr)(sp:Sp)(dvs:List V)(E:L2.St->XK)(t:TA):TE:=λσ H Q=>t σ H λvs H1=>∀x dx,H1 x=none->H1 dx=none->dx≠x ->
 sp (.ref x::(vs++dvs)) (upd (upd H1 dx (.own x)) x (.ins C dx [])) (λv H2=>v=.non/\Q (.ref x) H2) (E σ)
theorem pnx{x:Str}{t:TA}(D:NewX X.prog X.w X.K X.mg X.base x C k ps sp)(hb:Ci X.K D.fd ps ds)(hd:A9 dvs ds)(hr:Room j X.A)(hx:BB X E)(ha:PA X (e::es) t)(hk:k+1<=j)(hg:Gl X x)(hdb:(x == ("__debug__":Str))=false)
  (he:starEach (e::es) X.env=(false,eval e X.env)::starEach es X.env) (hpl:(backTo pos (starEach es X.env)).any (·.1)=false):PE X (.Call (.Name x p) (e::es) [] pos) (zjp C sp dvs E t):=by
 intro pins s σ H Q I h;refine ydz (G5 I hg D.m ?_ hdb);refine yc8 I.ok.mod.kin D.ma.kp (AS (ha pos pins s σ H _ I h) λus s1 ⟨vs,H1,I1,r,q⟩=>⟨I1.kIn,?_⟩) he hpl
 have hq:=q (s1.heap.objs.size+1) s1.heap.objs.size (I1.hok.fresh (ycc _)) (I1.hok.fresh (yac _)) (yaf (yc1 _));have I2:=Inv.made (C:=C) I1;have r2:A9 (V.ref (s1.heap.objs.size+1)::(vs++dvs)) (Value.ref (s1.heap.objs.size+1)::(us++ds)):=.cons rfl (r.append hd)
 have hl :=by
  have e:=r2.length;rw[D.ok.len _ _ _ _ hq]at e;exact e.symm
 refine ye6 (zfi I1.kIn D.ma.makes D.ma.init (beq_iff_eq.mp D.ma.fn) (ye2 (D.ok.run _ X.stack _ _ ⟨Value.ref (s1.heap.objs.size+1)::us,[]⟩ (Value.ref (s1.heap.objs.size+1)::(us++ds)) _ _ (E σ) ((hr.mono hk).make C us [])
  (I2.env0.make C us []) (hb _ (Value.ref (s1.heap.objs.size+1)::us) I2.kIn hl) r2 hq) λr s' hq'=>?_))
 cases r with
 |error v=>exact hx pins σ _ _ v s' I2 hq'
 |ok fl =>
  cases fl with
  |ret u =>
   obtain⟨v,H',I3,rv,ev,q3⟩:=I2.after hq';subst ev;exact⟨rv,⟨V.ref (s1.heap.objs.size+1),H',I3,rfl,q3⟩⟩
  |next=>exact False.elim hq'
  |brk=>exact False.elim hq'
  |cont=>exact False.elim hq'
def Fb(K:k7)(ca:Str->Value)(C:Addr)(g:List T->Option Ru):Sp:=λvs H Q E=>∃F p dx ts vs',AY F H/\vs=.ref p::vs'/\F p=none/\H p=some (.ins C dx [])/\Aa K F ts vs'/\match g ts with
 |some (.ok t)=>∀F' H',Stp F H (λa=>a=p) F' H' R0->Rp K F' H' t (.ref p) R0->Q .non H'
 |some (.exc c)=>∀F' H',Stp F H (λa=>a=p) F' H' R0->XE E ca c F' H'
 |none=>False
noncomputable def HW(g:List T->Option Ru)(ds:List T)(ms:Ao):AI:=λτ=>match ms τ with
 |some (.v ts false)=>(match g (ts++ds) with
  |some (.ok t)=>some (.v t false)
  |some (.exc c)=>some (.x c)
  |none=>none)
 |some (.v _ true)=>none
 |some (.x c)=>some (.x c)
 |none=>none
theorem r_new{k j:Nat}{x:Str}(D:NewX X.prog X.w X.K X.mg X.base x C k ps (Fb X.K ca C g))(hb:Ci X.K D.fd ps ds)(hd:A9 dvs ds)(hdt:∀F:Hp,Aa X.K F dts dvs)(hr:Room j X.A)(hx:BB X E)(ha:PA X (e::es) (BY X.K E ca ms))(hk:k+1<=j)(hg:Gl X x)(hdb:(x == ("__debug__":Str))=false)
  (he:starEach (e::es) X.env=(false,eval e X.env)::starEach es X.env) (hpl:(backTo pos (starEach es X.env)).any (·.1)=false):PE X (.Call (.Name x p) (e::es) [] pos) (tM X.K E ca (HW g dts ms)):=by
 refine PE.weak (pnx D hb hd hr hx ha hk hg hdb he hpl) λσ H Q h=>?_
 obtain⟨F,τ,R,S,q⟩:=h;refine⟨F,τ,R,S,?_⟩;unfold HW at q;cases hs:ms τ with
 |none=>simp only[hs]at q<;>exact q.elim
 |some r =>
  simp only[hs]at q;cases r with
  |x c=>exact q
  |v ts b =>
   cases b with
   |true=>exact λF1 H1 xs e1 rs=>q.elim
   |false =>
    intro F1 H1 xs e1 rs a dx ha hdx hne;simp only at q;have rs' :=rs
    have key:∀F' H',Stp F1 (upd (upd H1 dx (.own a)) a (.ins C dx [])) (λb=>b=a) F' H' R0->Ext F H F' H' R0:=λF' H' st=>by
     refine e1.trans0 ⟨λb u z=>?_,st.ff,st.fh,λ_ z=>z.elim,λb u z=>?_⟩
     .have h1 :=B0 z ha;have h2 :=B0 z hdx;exact st.kp b u h1 (by rw[A3 h1,A3 h2];exact z)
     .rcases st.nf b u z with w|w|w
      .exact .inl w
      .rw[w];exact .inr ha
      .by_cases h1:b=a
       .rw[h1];exact .inr ha
       .by_cases h2:b=dx
        .rw[h2];exact .inr hdx
        .rw[A3 h1,A3 h2]at w;exact .inr w
    have fh2:AY F1 (upd (upd H1 dx (.own a)) a (.ins C dx [])):=λb u z=>by
     have z':=e1.fh b u z;rw[A3 (B0 z' ha),A3 (B0 z' hdx)];exact z'
    refine⟨F1,a,dx,ts++dts,xs++dvs,fh2,rfl,Fk e1.fh ha,BQ,KI rs' (hdt F1),?_⟩;cases hg:g (ts++dts) with
    |none=>simp only[hg]at q<;>exact q.elim
    |some r =>
     simp only[hg]at q;cases r with
     |exc c=>exact λF' H' st=>q F' H' (key F' H' st)
     |ok t=>exact λF' H' st r=>⟨rfl,q F' H' _ R0 (key F' H' st) r⟩
end
noncomputable def FA(τ:AM)(i:Nat)(C:Addr)(fs:List Str):Option (Addr×List T):=match τ[i]? with
 |some (some (.oob p C' fs' l))=>if C'=C/\fs'=fs then some (p,l) else none
 |_=>none
theorem Mj(h:FA τ i C fs=some (p,l)):τ[i]?=some (some (.oob p C fs l)):=by
 unfold FA at h
 grind
def DR(C:Addr)(fs:List Str)(j i:Nat)(m:AI):AH:=λτ=>match m τ with
 |some (.v t false)=>(match FA τ i C fs with
  |some (p,l)=>if l.length=j then some (.nx (τ.set i (some (.oob p C fs (l++[t]))))) else none
  |none=>none)
 |some (.v _ true)=>none
 |some (.x c)=>some (.xc c τ)
 |none=>none
def IV:Option T->Option (List Str×List T)
 |some (.osd ks l)=>some (ks,l)
 |_=>none
theorem zce(h:IV o=some (ks,l)):o=some (.osd ks l):=by
 unfold IV at h
 grind
open Classical in
def IL(C:Addr)(fs:List Str)(j i:Nat)(mk m:AI):AH:=λτ=>match m τ with
 |some (.v t false)=>(match FA τ i C fs with
  |some (p,l)=>(match IV l[j]? with
   |some (ks,lv)=>(match mk τ with
    |some (.v (.str k) _)=>if k∉ks/\ks.length<100000 then some (.nx (τ.set i (some (.oob p C fs (l.set j (.osd (ks++[k]) (lv++[t.share]))))))) else none
    |some (.v _ _)=>none
    |some (.x c)=>some (.xc c τ)
    |none=>none)
   |none=>none)
  |none=>none)
 |some (.v _ true)=>none
 |some (.x c)=>some (.xc c τ)
 |none=>none
def Kf:AI:=λ_=>some (.v (.osd [] []) false)
theorem S9{y:V}:∀{fs:List Str} {xs:List V},fs[xs.length]?=some f->(fs.take xs.length).contains f=false->Ca f y (fs.zip xs)=fs.zip (xs++[y])
 |[],xs,h,_=>by simp at h
 |g::r,[],h,_=>by
  simp at h;subst h;simp[Ca]
 |g::r,x::xs,h,hn=>by
  rw[yat,List.take_succ_cons,ycn,ybe]at hn
  have hg:¬ g=f:=λz=>by
   grind
  have ih:=S9 (y:=y) (by simpa using h) hn.2
  rw[ycb,ybr,ycb];show(if g=f then _ else _)=_
  grind
section
variable {K:k7}{F H:Hp}{C:Addr}{fs:List Str}{l:List T}
theorem Rp.oob_inv(h:Rp K F H (.oob p C fs l) x A):∃dx xs Rr,x=.ref p/\A=(λa=>a=p\/∃j,Rr j a)/\F p=none/\H p=some (.ins C dx (fs.zip xs))/\RpO K F H l xs Rr/\∀j,¬ Rr j p:=by
 cases h with
 |oob R f h e c d dp o=>exact⟨_,_,R,rfl,rfl,f,h,⟨e,c,d,o⟩,dp⟩
theorem TB(r:RpO K F H l xs Rr)(f:F p=none)(h:H p=some (.ins C dx (fs.zip xs)))(dp:∀j,¬ Rr j p):Rp K F H (.oob p C fs l) (.ref p) (λa=>a=p\/∃j,Rr j a):=.oob Rr f h r.len r.rep r.dis dp r.out
theorem Rp.osd_inv(h:Rp K F H (.osd ks l) x A):∃p xs,x=.ref p/\A=(λa=>a=p)/\F p=none/\H p=some (.dK (C8 ks xs))/\l.length=xs.length/\ks.length=xs.length/\∀(i:Nat) (t) (x),l[i]?=some t->xs[i]?=some x->Rp K F H t x R0:=by
 cases h with
 |osd f h e ek c=>grind
end
theorem zil(h:ks.length=xs.length):(C8 ks xs).length=xs.length:=by
 unfold C8
 grind
theorem zim(h:kv∈C8 ks xs):∃k∈ks,kv.1=Sum.inr k:=by
 induction ks generalizing xs with
 |nil=>cases xs<;>cases h
 |cons a r ih =>
  cases xs with
  |nil=>cases h
  |cons b s =>
   rcases yae.mp h with e|e
   .grind
   .obtain⟨k,hk,e⟩:=ih e
    grind
theorem zey(h:ks.length=xs.length)(hk:k∉ks):DU (C8 ks xs) (Sum.inr k) y=C8 (ks++[k]) (xs++[y]):=by
 unfold DU;rw[if_neg]
 .unfold C8;rw[List.zipWith_append h]
  rfl
 .intro c;obtain⟨kv,h1,h2⟩:=List.any_eq_true.mp c;obtain⟨k',h3,h4⟩:=zim h1
  grind
section
variable {X:Cx}{E:L2.St->XK}{ca:Str->Value}{m mk:AI}{e k:Expr}{pos p1 pos2 pos3:Pos}{mu:Bool}{i j:Nat}{x f:Str}{C:Addr}{fs:List Str}
theorem zkg:PE X (.Dict [] [] pos) (tM X.K E ca Kf):=PE.weak zhn λσ H Q h p hp=>by
 obtain⟨F,τ,R,S,q⟩:=h;exact q F (upd H p (.dK [])) (.ref p) _ (Ext.newO S.fh hp) (Rp.osd (xs:=[]) (Fk S.fh hp) BQ rfl rfl λi t x h=>by simp at h)
theorem zk9(c:Cls X.K C)(hn:Bz X.K C f)(hj:fs[j]?=some f)(hnf:(fs.take j).contains f=false)(hjl:j<900)(hN:X.N[i]?=some x)(hv:DX X.env.scope x)(hd:(x == "__debug__")=false)(hcd:(x == "__classdict__")=false)(he:PE X e (tM X.K E ca m))
  (hs:swapsWith e (some (.Attribute (.Name x p1) f pos2)) pos.line X.env=pure false):PS X (.Assign [.Attribute (.Name x p1) f pos2] e pos) (tS X.K E ca mu (DR C fs j i m)):=by
 refine PS.weak (zkt (GY hN hv hd hcd) he hs) λD σ H h=>?_
 obtain⟨F,τ,R,S,q⟩:=h;refine⟨F,τ,R,S,?_⟩;unfold DR at q;cases hm:m τ with
 |none=>simp only[hm]at q<;>exact q.elim
 |some r =>
  simp only[hm]at q;cases r with
  |x c=>exact λF' H' e=>q F' H' σ R e.stp0 (S.ext e)
  |v t bb =>
   cases bb with
   |true=>exact λF1 H1 y B e1 g1=>q.elim
   |false =>
    intro F1 H1 y B e1 g1;have g1' :=g1;simp only at q;cases ho:FA τ i C fs with
    |none=>simp only[ho]at q<;>exact q.elim
    |some pl =>
     obtain⟨p,l⟩:=pl;simp only[ho]at q
     by_cases hl:l.length=j
     .rw[if_pos hl]at q;have S1:=S.ext e1;have ht:=Mj ho;obtain⟨y2,ey,ry⟩:=S.rep i _ ht;obtain⟨dx,xs,Rr,rfl,hA,fp,hp,ro,dp⟩:=ry.oob_inv;have hxs:xs.length=j:=by rw[<- ro.len];exact hl
      have hp1:=e1.hh _ _ hp;have pB:¬ B p:=λz=>by rw[e1.nb p z]at hp;cases hp
      have fp1 :=(ry.ext e1 |>.dom (by rw[hA];exact .inl rfl)).1
      refine⟨_,ey,p,C,dx,fs.zip xs,rfl,hp1,c,hn,?_,?_⟩
      .rw[List.length_zip]
       omega
      .rw[S9 (by rw[hxs];exact hj) (by rw[hxs];exact hnf)]
       have ro1:=ro.ext e1;have ro2:RpO X.K F1 (upd H1 p (.ins C dx (fs.zip (xs++[y])))) (l++[t]) (xs++[y]) _:=(ro1.upd dp).snoc (g1'.upd pB) λj a z1 z2=>ro.apart e1 z2 j z1
       have dp2:∀j,¬ (if j=l.length then B else Rr j) p:=λj z=>by
        by_cases hj:j=l.length
        .simp only[hj,ye1]at z;exact pB z
        .simp only[hj,yej]at z;exact dp j z
       have r2:=TB ro2 fp1 BQ dp2
       obtain⟨S3,st3⟩:=S1.upd ht ey (by rw[hA];exact .inl rfl) r2 (λa z=>by
        rw[hA]
        rcases z with z|z
        .exact .inl (.inl z)
        .rcases Qe z with w|w
         .exact .inl (.inr w)
         .exact .inr w) (λj a z1 z2=>S.apart e1 z2 j z1)
       exact q F1 _ σ _ (e1.stp.trans st3) S3
     .rw[if_neg hl]at q;exact q.elim
def rSetS:P4:=λo i v H Q=>∃p kvs k,o=.ref p/\i=.str k/\H p=some (.dK kvs)/\kvs.length<sizeLine/\Q (upd H p (.dK (DU kvs (Sum.inr k) v)))
theorem zeo(hu:X.A.units+1<cLine):Pb X rSetS:=by
 intro pins s σ H o i v ov iv u Q I ro ri rv h;obtain⟨p,kvs,k,rfl,rfl,hp,hl,q⟩:=h;cases ro;exact ze0 hu I (Lf.k (k:=Sum.inr k) hp hl) (ri) rv λs' I'=>⟨_,I',q⟩
theorem Iw{K}(g:DY K F H R (.str z) b y B):y=.str z:=by
 cases b with
 |true=>obtain⟨_,A,_,r⟩:=g;exact r.str_inv
 |false=>exact(g).str_inv
theorem s_dpf(hu:X.A.units+1<cLine)(c:Cls X.K C)(hn:Bz X.K C f)(hj:fs.findIdx? (· == f)=some j)(hN:X.N[i]?=some x)(hv:DX X.env.scope x)(hd:(x == ("__debug__":Str))=false)(hcd:(x == "__classdict__")=false)(he:PE X e (tM X.K E ca m))(hk:PE X k (tM X.K E ca mk))
  (hs:swapsWithSole [.Subscript (.Attribute (.Name x p1) f pos3) k pos2] e pos.line X.env=pure false) (hw:swappedStores [.Subscript (.Attribute (.Name x p1) f pos3) k pos2] e X.env=pure none)
  (ha : ∀ v, assign (.Subscript (.Attribute (.Name x p1) f pos3) k pos2) X.env v = (do
   let ov <- holding [v] (eval (.Attribute (.Name x p1) f pos3) X.env);let iv <- holding [v,ov] (eval k X.env)
   standAt pos2
   holding [v,ov,iv] (setItem ov iv v)
   release [v,ov,iv] [])) :
  PS X (.Assign [.Subscript (.Attribute (.Name x p1) f pos3) k pos2] e pos) (tS X.K E ca mu (IL C fs j i mk m)):=by
 refine PS.weak (Md he (Sj (Sq (GY hN hv hd hcd) rfl) hk (zeo hu) ha) hs hw rfl) λD σ H h=>?_
 obtain⟨F,τ,R,S,q⟩:=h;refine⟨F,τ,R,S,?_⟩;unfold IL at q;cases hm:m τ with
 |none=>simp only[hm]at q<;>exact q.elim
 |some r =>
  simp only[hm]at q;cases r with
  |x c=>exact λF' H' e=>q F' H' σ R e.stp0 (S.ext e)
  |v t bb =>
   cases bb with
   |true=>exact λF1 H1 y B e1 g1=>q.elim
   |false =>
    intro F0 H1 y B e0 g0;simp only at q;obtain⟨F1,e1,_,g1⟩:=DY.frz S e0 g0;have g1':Rp X.K F1 H1 t.share y R0:=(g1).any;cases ho:FA τ i C fs with
    |none=>simp only[ho]at q<;>exact q.elim
    |some pl =>
     obtain⟨p,l⟩:=pl;simp only[ho]at q;cases hos:IV l[j]? with
     |none=>simp only[hos]at q<;>exact q.elim
     |some kl =>
      obtain⟨ks,lv⟩:=kl;simp only[hos]at q;have hlj:=zce hos;have S1:=S.ext e1;have ht:=Mj ho;obtain⟨y2,ey,ry⟩:=S1.rep i _ ht;obtain⟨dx,xs,Rr,rfl,hA,fp,hp,ro,dp⟩:=ry.oob_inv;have hjl:=(ya9.mp hlj).1;have hjx:j<xs.length:=by rw[<- ro.len];exact hjl
      have hx :=ya0 hjx;refine⟨_,ey,p,C,dx,_,xs[j],rfl,hp,c,hn,Uh hj hx,F1,τ,R,S1,?_⟩;cases hkk:mk τ with
      |none=>simp only[hkk]at q<;>exact q.elim
      |some r =>
       simp only[hkk]at q;cases r with
       |x c=>exact λF' H' e=>q F' H' σ R ((e1.stp0).trans e.stp0) (S1.ext e)
       |v tk bk =>
        cases tk with
        |str kk =>
         simp only at q
         by_cases hc:kk∉ks/\ks.length<100000
         .rw[if_pos hc]at q;intro F2 H2 z CC e2 g2;have hz:=Iw g2;subst hz;have e2':Ext F1 H1 F2 H2 R0:=e2.mono λ_ z=>z.elim
          have S2:=S1.ext e2;have ry2:=ry.ext e2;have ro2:=ro.ext e2;have fp2 :=(ry2.dom (by rw[hA];exact .inl rfl)).1
          have hp2:=e2.hh _ _ hp;have rk:=ro2.rep j _ _ hlj hx;obtain⟨pd,ys,exj,hAd,fpd,hpd,el,ek,cc⟩:=rk.osd_inv;have g2' :=g1'.ext e2;have pdj:Rr j pd:=by rw[hAd]
          have pne:pd≠p:=λz=>dp j (z▸pdj)
          refine⟨pd,C8 ks ys,kk,exj,rfl,hpd,?_,?_⟩
          .rw[zil ek,<- ek,ydx];exact yd0 hc.2 (by decide)
          .rw[zey ek hc.1]
           have r3:Rp X.K F2 (upd H2 pd (.dK (C8 (ks++[kk]) (ys++[y])))) (.osd (ks++[kk]) (lv++[t.share])) (.ref pd) (λa=>a=pd):=by
            refine .osd fpd BQ (by simp[el]) (by simp[ek]) λj t' x' h1 h2=>?_
            rcases Nat.lt_or_ge j lv.length with w|w
            .rw[yaw w]at h1;rw[yaw (by omega)]at h2
             exact(cc j t' x' h1 h2).any
            .rw[yb4 w]at h1;rw[yb4 (by omega)]at h2
             have hj :=by
              have:=(ya9.mp h1).1;simp at this
              omega
             have hj2:j - ys.length=0:=by omega
             rw[hj]at h1;rw[hj2]at h2;simp at h1 h2;subst h1 h2;exact g2'.any
           have oth :=λk hk z=>ro2.dis k j pd hk z pdj
           have ro3:RpO X.K F2 (upd H2 pd (.dK (C8 (ks++[kk]) (ys++[y])))) (l.set j (.osd (ks++[kk]) (lv++[t.share]))) xs Rr:=by
            refine⟨by rw[yck];exact ro2.len,λk t' x' h1 h2=>?_,ro2.dis,λk a z=>by rw[yck];exact ro2.out k a z⟩
            by_cases hk:k=j
            .subst hk;rw[yas hjl]at h1;rw[hx]at h2;cases h1;cases h2;rw[exj,hAd];exact r3
            .rw[yap (yar hk)]at h1;exact(ro2.rep k t' x' h1 h2).upd (oth k hk)
           have r4:=TB ro3 fp2 (by rw[A3 (yar pne)];exact hp2) dp
           obtain⟨S3,st3⟩:=S2.upd ht ey (by rw[hA];exact .inr ⟨j,pdj⟩) r4 (λa z=>.inl (by rw[hA];exact z)) (λj a z1 z2=>z2)
           exact q F2 _ σ _ ((e1.stp.trans e2.stp0).trans st3) S3
         .rw[if_neg hc]at q;exact q.elim
        |_=>exact λF' H' z CC e2 g2=>q.elim
end
section
variable {X:Cx}{E:L2.St->XK}{ca:Str->Value}{ma mb mc:AI}{a b c:Expr}{pos:Pos}{x:Str}{t:T}
theorem r_con(hg:Gl X x)(hm:X.mg x=some u)(rv:A5 v u)(hd:(x == "__debug__")=false)(r:∀F ,Rp X.K F F t v R0):PE X (.Name x pos) (tM X.K E ca (mC t)) :=
 PE.weak (Mf hg hm rv hd) λσ H Q h=>by
  obtain⟨F,τ,R,S,q⟩:=h;exact q F H v R0 (Ext.refl S.fh) (r F).any
def Ei(g g':T->T->Option T)(ma mb mc:AI):AI:=λτ=>match ma τ,mb τ with
 |some (.v t _),some (.v u _)=>if t.flat && u.flat then (match g t u with
  |some (.bl true)=>(match mc τ with
   |some (.v w _)=>if w.flat then (match g' u w with
    |some (.bl k)=>some (.v (.bl k) false)
    |_=>none) else none
   |_=>none)
  |some (.bl false)=>some (.v (.bl false) false)
  |_=>none) else none
 |_,_=>none
theorem H0{K}{b}{x}(g:DY K F H R v b x B)(h:v.flat=true):Rp K F' H' v x R0:=by
 cases b with
 |true=>obtain⟨_,A,_,r⟩:=g;exact r.flat_any h
 |false=>exact(g).flat_any h
theorem Q2(h:tM X.K E ca (Ei g g' ma mb mc) σ H Q):ME (Bb X.K g) (Bb X.K g') (tM X.K E ca ma) (tM X.K E ca mb) (tM X.K E ca mc) σ H Q:=by
 obtain⟨F,τ,R,S,q⟩:=h;refine⟨F,τ,R,S,?_⟩;unfold Ei at q;cases h1:ma τ with
 |none=>simp only[h1]at q<;>exact q.elim
 |some r1 =>
  cases r1 with
  |x c=>simp only[h1]at q<;>exact q.elim
  |v t b1 =>
   cases h2:mb τ with
   |none=>simp only[h1,h2]at q<;>exact q.elim
   |some r2 =>
    cases r2 with
    |x c=>simp only[h1,h2]at q<;>exact q.elim
    |v u b2 =>
     simp only[h1,h2]at q
     by_cases hf:(t.flat && u.flat)=true
     .rw[if_pos hf]at q;rw[ya4]at hf;intro F1 H1 x B1 e1 g1;have S1:=S.ext e1;refine⟨F1,τ,R,S1,?_⟩;rw[h2];intro F2 H2 y B2 e2 g2;have S2:=S1.ext e2;have e12:Ext F H F2 H2 R0:=(e1.trans e2).mono λ_ z=>z.elim
      cases hg:g t u with
      |none=>simp only[hg]at q<;>exact q.elim
      |some k =>
       cases k with
       |bl k =>
        cases k with
        |false =>
         simp only[hg]at q;refine⟨F2,t,u,_,S2.fh,H0 g1 hf.1,H0 g2 hf.2,hg,λF3 H3 z C3 e3 r3=>⟨false,r3.bl_inv,?_⟩⟩
         rw[if_neg yav];exact q F3 H3 _ R0 (e12.trans0 (e3.mono λ_ z=>z.elim)) (.bl false)
        |true =>
         simp only[hg]at q;refine⟨F2,t,u,_,S2.fh,H0 g1 hf.1,H0 g2 hf.2,hg,λF3 H3 z C3 e3 r3=>⟨true,r3.bl_inv,?_⟩⟩
         rw[if_pos rfl];have S3:=S2.ext e3;refine⟨F3,τ,R,S3,?_⟩;cases h3:mc τ with
         |none=>simp only[h3]at q<;>exact q.elim
         |some r3 =>
          cases r3 with
          |x c=>simp only[h3]at q<;>exact q.elim
          |v w b3 =>
           simp only[h3]at q
           by_cases hw:w.flat=true
           .rw[if_pos hw]at q;intro F4 H4 z4 B4 e4 g4;have S4:=S3.ext e4;cases hg':g' u w with
            |none=>simp only[hg']at q<;>exact q.elim
            |some k =>
             cases k with
             |bl k =>
              simp only[hg']at q;refine⟨F4,u,w,_,S4.fh,H0 g2 hf.2,H0 g4 hw,hg',λF5 H5 z5 C5 e5 r5=>?_⟩
              rw[r5.bl_inv];exact q F5 H5 _ R0 (e12.trans0 (((e3.trans e4).trans e5).mono λ_ z=>z.elim)) (.bl k)
             |_=>simp only[hg']at q<;>exact q.elim
           .rw[if_neg hw]at q;exact q.elim
       |_=>simp only[hg]at q<;>exact q.elim
     .rw[if_neg hf]at q;exact q.elim
theorem r_chn(ho:Af X (compareOp op) (Bb X.K g))(ho':Af X (compareOp op') (Bb X.K g'))(ha:PE X a (tM X.K E ca ma))(hb:PE X b (tM X.K E ca mb))(hc:PE X c (tM X.K E ca mc))(hm:lastMarks [op,op'] [b,c]=false) :
  PE X (.Compare a [op,op'] [b,c] pos) (tM X.K E ca (Ei g g' ma mb mc)):=PE.weak (zf6 ho ho' ha hb hc hm) λσ H Q h=>Q2 h
theorem zkd(ho:Af X (compareOp op) (Bb X.K g))(ho':Af X (compareOp op') (Bb X.K g'))(ha:PE X a (tM X.K E ca ma))(hb:PE X b (tM X.K E ca mb))(hc:PE X c (tM X.K E ca mc))(hm:lastMarks [op,op'] [b,c]=false) :
  PT X (.Compare a [op,op'] [b,c] pos) (BD X.K E ca (Ei g g' ma mb mc)):=PT.weak (zez ho ho' ha hb hc hm) λσ H Q h=>Q2 (Jk h)
end
def Ld(x:Str):It:=⟨λi _=>i<x.cps.size,λi H y H'=>H'=H/\∃c,x.cps[i]?=some c/\y=.str ⟨#[c]⟩,λi _=>x.cps.size<=i⟩
theorem zek{K}(x)(t)(it):Turn P w K tg (Ld x) [it] it (λi h=>h.IsStrIter it (strIterType x) x t i) where
 mem:=by simp
 obj:=λi h st b hb=>by
  have e :=by simpa using hb
  subst e;obtain⟨o,e,c,d⟩:=st;exact⟨o,e,λv z=>by rw[d]at z;cases z⟩
 keep:=λi h h' st k=>by
  obtain⟨o,e,c,d⟩:=st;exact⟨o,k it (by simp) o e,c,d⟩
 item:=by
  intro X hP hw hK hc i pins s σ H E I hf st hg;subst hP hw hK;have hi :=hg;obtain⟨f0,f1,f2,f3,f4,f5⟩:=hf it (by simp)
  have Ax:∀(h' ),h'.IsStrIter it (strIterType x) x t (i+1)->Heap.SameBut it s.heap h'->∃u,some (Value.str ⟨#[x.cps[i]]⟩ s.toks)=some u /\
   wpAny (model X.prog X.w) X.A (letOwnedTupleGo tg (.ref it) u) (λ_ s2=>∃y H',Inv X pins σ H' s2/\A5 y u/\(Ld x).yld i H y H'/\s2.heap.IsStrIter it (strIterType x) x t (i+1)/\∀b∈[it],H' b=none) E { s with heap:=h',toks:=s.toks+1 }:=λh' st' sb=>by
   have I1 :=I.turned (t':=s.toks+1) (λb o hb e=>(sb.2 b hb).trans e) f0 f1 f3 f4 f5
   obtain⟨o,e,c,d⟩:=id st';refine⟨_,rfl,Kq e c d ?_ ⟨.str ⟨#[x.cps[i]]⟩,H,I1,⟨_,rfl⟩,⟨rfl,_,ybc hi,rfl⟩,st',λb hb=>(hf b hb).1⟩⟩
   unfold strIterType;split<;>decide
  cases ha:(x.cps.all λx=>decide (x<128)) with
  |true =>
   have e:strIterType x="str_ascii_iterator":=by unfold strIterType;rw[ha];rfl
   rw[e]at st Ax ⊢;exact wpAny_pyNext_ascii_item st (ybc hi) Ax
  |false =>
   have e:strIterType x="str_iterator":=by unfold strIterType;rw[ha];rfl
   rw[e]at st Ax ⊢;exact wpAny_pyNext_wide_item st (ybc hi) Ax
 done:=by
  intro X hP hw hK hc i pins s σ H E I hf st hg;subst hP hw hK;have hi :=hg;obtain⟨f0,f1,f2,f3,f4,f5⟩:=hf it (by simp)
  have n :=Array.getElem?_eq_none hi;cases ha:(x.cps.all λx=>decide (x<128)) with
  |true =>
   have e:strIterType x="str_ascii_iterator":=by unfold strIterType;rw[ha];rfl
   rw[e]at st;exact wpAny_pyNext_ascii_end (I.ok.hd hc) st n λh' eb=>⟨rfl,I.turned (λb o hb e=>eb b o hb e) f0 f1 f3 f4 f5⟩
  |false =>
   have e:strIterType x="str_iterator":=by unfold strIterType;rw[ha];rfl
   rw[e]at st;exact wpAny_pyNext_wide_end (I.ok.hd hc) st n λh' eb=>⟨rfl,I.turned (λb o hb e=>eb b o hb e) f0 f1 f3 f4 f5⟩
 self:=λ_ i s Q E st h=>by
  cases ha:(x.cps.all λx=>decide (x<128)) with
  |true =>
   have e:strIterType x="str_ascii_iterator":=by unfold strIterType;rw[ha];rfl
   rw[e]at st;exact wpAny_pyIter_striter_ascii st h
  |false =>
   have e:strIterType x="str_iterator":=by unfold strIterType;rw[ha];rfl
   rw[e]at st;exact wpAny_pyIter_striter_wide st h
def iStrT(tl:TE):TI:=λσ H P=>tl σ H λx H1=>∃y,x=.str y/\P (Ld y) H1
section
variable {X:Cx}{tg l e:Expr}{tl:TE}{E:L2.St->XK}{ca:Str->Value}{m:AI}
theorem zkx(hl:PE X l tl):PI X tg l (iStrT tl):=by
 intro pins s σ H R I h;refine AS (hl pins s σ H _ I h) λv s1 ⟨x,H1,I1,r1,q1⟩=>?_
 obtain⟨y,rfl,q⟩:=q1;obtain⟨t,rfl⟩:=(r1);refine wpAny_pyIter_strU ?_;refine⟨s1.heap.objs.size,[s1.heap.objs.size],_,_,H1,rfl,I1.kept λb o e=>ya2 _ e,zek y t _,⟨_,yai _ rfl,rfl,rfl⟩,λb hb=>?_,q⟩
 have e :=by simpa using hb
 subst e;exact I1.fpOk (yac _) (I1.hok.fresh (yac _))
def Fc(x:Str):List T:=x.cps.toList.map λc=>.str ⟨#[c]⟩
theorem ziq{K}:FU K (Ld x) F (Fc x):=by
 intro i F' H' s1 s2;refine⟨λt ht=>?_,λe=>?_⟩
 .unfold Fc at ht;rw[ya3]at ht;obtain⟨c,e1,rfl⟩:=yaa.mp ht;have hi:i<x.cps.size:=by grind
  refine⟨hi,λy H'' z=>?_⟩
  obtain⟨rfl,c',hc,rfl⟩:=z;rw[Array.getElem?_toList,hc]at e1;cases e1;exact⟨F',Ext.refl s2,.str _⟩
 .show x.cps.size<=i;rw[e];simp[Fc]
def BI(m:AI):Ao:=λτ=>match m τ with
 |some (.v (.str x) _)=>some (.v (Fc x) false)
 |_=>HZ m τ
theorem zkf(ha:PE X e (tM X.K E ca m)):PI X tg e (tI X.K E ca (BI m)):=by
 refine PI.weak (PI.or (SM ha) (zkx ha)) λσ H P h=>?_
 obtain⟨F,τ,R,S,q⟩:=h
 by_cases hs:∃x b,m τ=some (.v (.str x) b)
 .obtain⟨x,b,hm⟩:=hs;have e:BI m τ=some (.v (Fc x) false):=by unfold BI;rw[hm]
  rw[e]at q;refine .inr ⟨F,τ,R,S,?_⟩;rw[hm];intro F1 H1 y B e1 g1;exact⟨x,Iw g1,q F1 H1 _ (e1.mono λ_ z=>z.elim) ziq⟩
 .have e:BI m τ=HZ m τ:=by
   unfold BI
   grind
  rw[e]at q;exact .inl ⟨F,τ,R,S,q⟩
end
open Classical in
def met(val:Nat->Key):Nat->List Key
 |0=>[]
 |i+1=>if val i∈met val i then met val i else met val i++[val i]
open Classical in
theorem U8(val:Nat->Key):∀i,(met val i).length<=i
 |0=>yac 0
 |i+1=>by
  have:=U8 val i;unfold met;split
  .omega
  .rw[yaz,ybl]
   omega
section
variable {prog:Program}{w:World}{A:Around}{E:Value->Shared->Prop}
open Classical in
theorem Ug{knd:PySem.KeyKind prog w Key}{R:Result->Shared->Prop}{I:Addr}{fp wr:List Addr}{G:Array GenState->Array GenState->Prop}{n:Nat}{P:Nat->Value->Prop}{St:Nat->Shared->Prop}(W:WalksS prog w A.in1 I fp wr G n P St)(S:Addr)(hS:S∉fp)(val:Nat->Key)
  (hP:∀i v,P i v->knd.is (val i) v=true/\v.scannable=true) (hn:n+1<scanBound):∀(k i:Nat) (s:Shared),n - i=k->i<=n->St i s->Heap.SetOf knd s.heap S (λk'=>decide (k'∈met val i)) (met val i).length ->
   (∀s':Shared,Moved (S::wr) G s s'->Heap.SetOf knd s'.heap S (λk'=>decide (k'∈met val n)) (met val n).length->R (Except.ok (Flow.ret Value.none)) s') ->
   codeAny (model prog w) A (Code.builtin "set.update.loop" { pos:=[Value.ref S,Value.ref I] }) R s
 |0,i,s,hk,hi,st,hset,h=>by
  have e:i=n:=by omega
  subst e;refine ye9 F.entry_set_update_loop ?_;rw[Around.under_plainId ycs];unfold Builtin.«set.update.loop»;refine ydq (W.done s _ _ st λs' mv=>?_)
  refine ydt ?_;refine h s' (mv.mono λb hb=>ya8 _ hb) ?_
  obtain⟨o,es,ep,t,h1,h2⟩:=hset;exact⟨o,es,ep,t,mv.heap S o (λz=>hS (W.sub S z)) h1,h2⟩
 |k+1,i,s,hk,hi,st,hset,h=>by
  have hi':i<n:=by omega
  refine ye9 F.entry_set_update_loop ?_;rw[Around.under_plainId ycs];unfold Builtin.«set.update.loop»;refine ydq (W.item i s _ _ hi' st λv s' pv st' mv=>?_)
  obtain⟨hk1,hk2⟩:=hP i v pv
  have hset':Heap.SetOf knd s'.heap S (λk'=>decide (k'∈met val i)) (met val i).length:=by
   obtain⟨o,es,ep,t,h1,h2⟩:=hset;exact⟨o,es,ep,t,mv.heap S o (λz=>hS (W.sub S z)) h1,h2⟩
  refine ydq (ydr ?_);unfold setAdd;refine ydr (ydq (knd.pyHash hk1 ?_));have hl:=U8 val i;refine wpAny_setAddHashed_of (s:={ s' with toks:=s'.toks+1 }) hk1 hk2 hset' (by omega) λh' sb hset2=>?_
  refine ydt ⟨plainId_quiet ycs _,?_⟩;have st2:=W.frame (i+1) s' h' (s'.toks+1) st' (ycc _) λb hb o e=>(sb.2 b (λz=>hS (z▸hb))).trans e
  have mv2:Moved (S::wr) G s { s' with heap:=h',toks:=s'.toks+1 }:=(mv.mono λb hb=>ya8 _ hb).then_heap (ycc _) λb o hb e=>(sb.2 b (λz=>hb (by rw[z];exact ya5 ..))).trans e
  refine Ug W S hS val hP hn k (i+1) _ (by omega) (by omega) st2 ?_ λs'' mv3 hs3=>h s'' (mv2.trans W.gtrans mv3) hs3
  have hS:(λk'=>(decide (k'∈met val i) || decide (k'=val i)))=λk'=>decide (k'∈met val (i+1)):=funext λk'=>by
   conv=>rhs;unfold met
   by_cases hm:val i∈met val i
   .rw[if_pos hm]
    by_cases e:k'=val i
    .rw[e,ye3 hm];rfl
    .rw[ydl e,Bool.or_false]
   .rw[if_neg hm,Bool.eq_iff_iff];simp only[ybw,yee,ybb,yab]
  have hN:(if decide (val i∈met val i)=true then (met val i).length else (met val i).length+1)=(met val (i+1)).length:=by
   conv=>rhs;unfold met
   by_cases hm:val i∈met val i
   .rw[if_pos hm,if_pos (ye3 hm)]
   .rw[if_neg hm,if_neg (λz=>hm (yei z)),yaz,ybl]
  obtain⟨o,es,ep,t,h1,h2,h3,h4,h5,h6,h7,h8⟩:=hset2;refine⟨o,es,ep,t,h1,h2,h3,h4,λk'=>?_,h6,h7,h8.trans hN⟩
  rw[<- h5 k'];have e:=congrFun hS k';show decide (k'∈met val (i+1))=true ↔ _;rw[<- e]
end
open Classical in
theorem zb3{prog:Program}{w:World}{A:Around}{E:Value->Shared->Prop}{s:Shared}{l:Addr}{items:Array Value}{knd:PySem.KeyKind prog w Key}{val:Nat->Key}{Q:Value->Shared->Prop}(hh:A.handled=none)(hl:s.heap.IsList l items)
  (hP:∀(i:Nat) (v:Value),items[i]?=some v->knd.is (val i) v=true/\v.scannable=true) (hb:items.size+1<scanBound)
  (h:∀(h':Heap) (tk:Nat),Heap.SetOf knd h' s.heap.objs.size (λk'=>decide (k'∈met val items.size)) (met val items.size).length->(∀(b:Nat) (o:Obj),b<s.heap.objs.size->s.heap.get? b=some o->h'.get? b=some o)->Q (.ref s.heap.objs.size) { s with heap:=h',toks:=tk }) :
  wpAny (model prog w) A (call (Value.type "set") [Value.ref l]) Q E s:=by
 obtain⟨c,tl,hmro⟩:=ycp.mro;have hmade:=ycp.made;have hsub:=ycp.sub;refine ye6 (codeAny_of_tree ?_);refine ydt ⟨yc9 _ (by decide +kernel),ye9 F.entry_type_call ?_⟩
 have hu:=Around.under_plain (A:=A) (weight_type_call_type "set" [Value.ref l] []) rfl;have h1:=ycp.notType;have h2:=ycp.canCreate;have hct:=F.typeCall_set_1 (Value.ref l);show wpAny (model prog w) (A.under (Code.builtin "type.__call__" { pos:=[Value.type "set",Value.ref l] })) _ _ _ s;rw[hu];unfold Builtin.«type.__call__»;refine yel (by rw[h1];rfl) (yel (by rw[h2];rfl) ?_)
 refine ydq (yeb hct (ydq (yeb hmro (yel rfl (ydq (yeb hmade (ydq (ydt (ydq (ydr (ye6 (ye2 (code_set_new_1 (E:=λ_ _=>False) (Value.ref l) (Q₁:=λv s'=>∃led:Bool,v=.ref s.heap.objs.size/\s'={ s with heap:=s.heap.push { cls:=.type "set",data:=.set #[] 0 (SetTable.fresh 0 0 led) } }) λled=>⟨led,rfl,rfl⟩) λr s₁ hr=>?_))))))))))))
 cases r with
 |error e=>exact False.elim hr
 |ok fl =>
  cases fl with
  |next=>exact False.elim hr
  |brk=>exact False.elim hr
  |cont=>exact False.elim hr
  |ret v =>
   obtain⟨led,rfl,rfl⟩:=(show ∃led:Bool,v=.ref s.heap.objs.size/\s₁={ s with heap:=s.heap.push { cls:=.type "set",data:=.set #[] 0 (SetTable.fresh 0 0 led) } } from hr)
   have ho:(s.heap.push { cls:=.type "set",data:=.set #[] 0 (SetTable.fresh 0 0 led) }).get? s.heap.objs.size=some { cls:=.type "set",data:=.set #[] 0 (SetTable.fresh 0 0 led) }:=yai _ rfl;have hT:Shared.TypeIs { s with heap:=s.heap.push { cls:=.type "set",data:=.set #[] 0 (SetTable.fresh 0 0 led) } } (.ref s.heap.objs.size) "set":=⟨_,ho,rfl⟩
   have hin:=ycp.init;refine ydq (yem hT hsub (yel rfl (ydq (ydr ?_))));unfold callSpecial?;refine ydq (wpAny_specialOf hT hin.lookup (ydr (ydq (yeb (hin.bind _) (ydq (ye6 (ye2 (R:=wants (λv s'=>v=.none/\∃tk h',s'={ s with heap:=h',toks:=tk }/\Heap.SetOf knd h' s.heap.objs.size (λk'=>decide (k'∈met val items.size)) (met val items.size).length/\∀(b:Nat) (o:Obj),b<s.heap.objs.size->s.heap.get? b=some o->h'.get? b=some o) λ_ _=>False) (ye8 hin.plain F.entry_set_init (check_set_init_1 hT ?_)) λr s₂ hr₂=>?_)))))))
   .unfold Builtin.«set.__init__» noKeywords;refine ydq (wpAny_ite_true rfl (ydt ?_));unfold typeNameOfCut shownTypeOf;refine ydq (ydq (ydq (wpAny_typeOf hT (yel (by decide +kernel) (ydt ?_)))))
    refine yeb (rfl:typeNameCut 200 (Value.type "set")=pure _) ?_;refine ydq (yeb (rfl:checkCount _ 0 1 1=pure ()) ?_);refine ydq (ydt ?_);unfold setUsed setState;refine ydq (ydq (ydq (wpAny_load ho (yel rfl (ydt (ydt (yel rfl ?_)))))));obtain⟨ol,hol,hcl,nl,hdl⟩:=id hl;have hol2:(s.heap.push { cls:=.type "set",data:=.set #[] 0 (SetTable.fresh 0 0 led) }).get? l=some ol:=ya2 _ hol;have hTl:Shared.TypeIs { s with heap:=s.heap.push { cls:=.type "set",data:=.set #[] 0 (SetTable.fresh 0 0 led) } } (.ref l) "list":=⟨_,hol2,hcl⟩
    unfold Builtin.Frozenset.updateFrom Builtin.Frozenset.isAnySet;refine ydq (ydq (ydq (yem hTl F.sub_list_set ?_)));have hl2:(s.heap.push { cls:=.type "set",data:=.set #[] 0 (SetTable.fresh 0 0 led) }).IsList l items:=⟨ol,hol2,hcl,nl,hdl⟩;refine yem hTl F.sub_list_frozenset (yel rfl (ydq (wpAny_typeOf hTl (yel (by decide +kernel) (ydq (ydw hl2 ?_))))))
    have lt:l<s.heap.objs.size:=ya7 hol;have hsz:(s.heap.push { cls:=.type "set",data:=.set #[] 0 (SetTable.fresh 0 0 led) }).objs.size=s.heap.objs.size+1:=ybk _ _;generalize hhp:s.heap.push { cls:=.type "set",data:=.set #[] 0 (SetTable.fresh 0 0 led) }=hp at *
    have hS:s.heap.objs.size∉[hp.objs.size,l]:=by
     rw[hsz];intro z
     rcases yae.mp z with e|e
     .exact absurd e (yaf (yc1 _))
     .exact absurd (yab.mp e) (ydj lt)
    refine ydq (wpAny_runValue ?_);refine Ug (knd:=knd) (A:=A.in1.in1) (Walks.list (A:=A.in1.in1.in1) hh hp.objs.size l (by rw[hsz];exact yaf (yce lt)) items).toS s.heap.objs.size hS val (λi v e=>hP i v e) hb items.size 0 _ (by omega) (ycj _) ⟨?_,?_⟩ ?_ λs' mv hs'=>?_
    .exact⟨_,yai _ rfl,rfl,rfl⟩
    .exact⟨ol,ya2 _ hol2,hcl,nl,hdl⟩
    .letI:BEq Key:=⟨λa b=>decide (a=b)⟩
     haveI:LawfulBEq Key:={ eq_of_beq:=λh=>yei h,rfl:=ye3 rfl }
     have e0:=(setObjOf_fresh (prog:=prog) (w:=w) (knd:=knd) led).setOf (h:=hp.push { cls:=.type "list_iterator",data:=.fields #[.ref l,.int 0 0] }) (a:=s.heap.objs.size) (ya2 _ ho) (by decide)
     obtain⟨o,es,ep,t,g1,g2,g3,g4,g5,g6,g7,g8⟩:=e0;refine⟨o,es,ep,t,g1,g2,g3,g4,λk'=>?_,g6,g7,g8⟩
     rw[<- g5 k'];simp[met]
    .refine ydt (ydt ?_)
     have b2:∀(b:Nat) (o:Obj),b<s.heap.objs.size->s.heap.get? b=some o->s'.heap.get? b=some o:=λb o hb e=>by
      refine mv.heap b o (λz=>?_) (ya2 _ (by rw[<- hhp];exact ya2 _ e))
      rcases yae.mp z with e|e
      .exact absurd e (yaf hb)
      .have e:=yab.mp e;rw[hsz]at e;exact absurd e (yaf (yce hb))
     have m1:=mv.gens;have m2:=mv.drawn;have m3:=mv.os;obtain⟨hh',g',d',t',os'⟩:=s';refine⟨rfl,t',hh',?_,hs',b2⟩;simp only at m1 m2 m3;rw[m1,m2,m3]
   .cases r with
    |error e=>exact False.elim hr₂
    |ok fl =>
     cases fl with
     |next=>exact False.elim hr₂
     |brk=>exact False.elim hr₂
     |cont=>exact False.elim hr₂
     |ret v =>
      obtain⟨rfl,tk,h',rfl,hs,hk⟩:=(show v=.none/\∃tk h',s₂={ s with heap:=h',toks:=tk }/\Heap.SetOf knd h' s.heap.objs.size (λk'=>decide (k'∈met val items.size)) (met val items.size).length/\∀(b:Nat) (o:Obj),b<s.heap.objs.size->s.heap.get? b=some o->h'.get? b=some o from hr₂)
      refine ydt (yel rfl (ydt ?_));exact h h' tk hs hk
def P6(P:Program)(w:World)(a:Addr)(ks:List Key):HO:=.ext λh=>Heap.SetOf (Cc P w) h a (λk=>@decide (k∈ks) (Classical.propDecidable _)) ks.length
section
variable {X:Cx}
theorem ze9(hc:X.calm=true):CJ X (.type "set") (λxs H Q=>∃(p:Addr) (ys:List Str),xs=[.ref p]/\Ad X.K H p (ys.map V.str)/\ys.length<1000/\∀a,H a=none->Q (.ref a) (upd H a (P6 X.prog X.w a (met (λi=>Sum.inr (ys.getD i Str.empty)) ys.length)))):=by
 intro pins s σ H xs us Q I r h;obtain⟨p,ys,rfl,hq,hz,q⟩:=h;obtain⟨u,rfl,rx⟩:=E2 r;cases rx;obtain⟨its,r',pl,_⟩:=I.list hq;have hlen:=r'.length;rw[ya1]at hlen;have hsz:its.toArray.size=ys.length:=by rw[yb8];exact hlen.symm
 refine zb3 (knd:=Cc X.prog X.w) (val:=λi=>Sum.inr (ys.getD i Str.empty)) (I.ok.hd hc) pl.isList (λi v e=>?_) (by rw[hsz];exact yad (Nat.succ_lt_succ hz) (by decide)) λh' tk hs kp=>?_
 .have e' :=by simpa using e
  have hi:i<ys.length:=by rw[hlen];exact(ya9.mp e').1
  have hx:(ys.map V.str)[i]?=some (.str ys[i]):=by rw[ya3,ya0 hi];rfl
  obtain⟨u,e2,ru⟩:=r'.get hx;rw[e']at e2;cases e2;obtain⟨t,rfl⟩:=(ru);refine⟨?_,rfl⟩;show Ft (Sum.inr (ys.getD i Str.empty)) (Value.str ys[i] t)=true;rw[ya6,ya0 hi];show(ys[i] == ys[i])=true;exact yen _
 .rw[hsz]at hs;refine⟨.ref s.heap.objs.size,_,I.laid (o:=P6 X.prog X.w s.heap.objs.size (met (λi=>Sum.inr (ys.getD i Str.empty)) ys.length)) (λb o e=>kp b o (ya7 e) e) (yac _) ⟨?_,?_,?_⟩,rfl,q _ (I.hok.fresh (yac _))⟩
  .exact hs
  .obtain⟨o,es,ep,t,g1,_⟩:=hs;exact⟨o,g1⟩
  .intro h1 h2 p1 k;obtain⟨o,es,ep,t,g1,g2⟩:=p1;exact⟨o,es,ep,t,k o g1,g2⟩
theorem zea:CJ X (.builtin "len") (λxs H Q=>∃a ks,xs=[.ref a]/\H a=some (P6 X.prog X.w a ks)/\Q (.int ks.length) H):=by
 intro pins s σ H xs us Q I r h;obtain⟨a,ks,rfl,ha,q⟩:=h;obtain⟨u,rfl,rx⟩:=E2 r;cases rx;obtain⟨⟨o,es,ep,t,g1,g2,g3,g4,g5,g6,g7,g8⟩,_⟩:=(I.hok a _ ha)
 have hb:(es.size:Int)<2 ^ 63:=by
  have:scanBound<=2 ^ 40:=by decide
  omega
 refine call_len_set g1 g2 g3 g7 hb ⟨.int es.size,H,I.tok _,⟨_,rfl⟩,?_⟩
 grind
end
def F8:List T->Option (List Str)
 |[]=>some []
 |.str x::r=>(match F8 r with
  |some l=>some (x::l)
  |none=>none)
 |_::_=>none
theorem MG{K}{F}:∀{l} {ys} {xs},F8 l=some ys->Aa K F l xs->xs=ys.map V.str
 |[],ys,xs,h,r=>by
  cases h;exact r.inv0
 |t::l,ys,xs,h,r=>by
  obtain⟨x,xs',rfl,r1,r2⟩:=r.inv;unfold F8 at h;split at h
  .grind
  .rename_i y r e;cases e;split at h
   .rename_i l' hl;cases h;rw[r1.str_inv,MG hl r2]
    rfl
   .cases h
  .cases h
def QG(ys:List Str):Nat:=(met (λi=>Sum.inr (ys.getD i Str.empty)) ys.length).length
def IB:T->Option T
 |.nd _ .lst l=>(match F8 l with
  |some ys=>if ys.length<1000 then some (.int (QG ys)) else none
  |none=>none)
 |_=>none
section
variable {X:Cx}{E:L2.St->XK}{ca:Str->Value}{m:AI}{e:Expr}{pos p p2 p3:Pos}
theorem r_unq(hc:X.calm=true)(hg:Gl X "len")(hm:X.mg "len"=none)(hg2:Gl X "set")(hm2:X.mg "set"=none)(ha:PE X e (tM X.K E ca m))(he:starEach [e] X.env=[(false,eval e X.env)]) :
  PE X (.Call (.Name "len" p) [.Call (.Name "set" p2) [e] [] p3] [] pos) (tM X.K E ca (BM (g1 IB) (AB m AD))):=by
 have hset:=Sr (pos:=p3) (p:=p2) (ze9 hc) hg2 hm2 (rfl) (Dk ha Ec he) (by decide) (by decide) he rfl
 refine PE.weak (IT (zea) hg hm PySem.boot_len (Dk hset Ec rfl) (by decide) (by decide) rfl rfl) λσ H Q h=>?_
 refine(F6 (F7 h)).mono λx H1 h1=>?_
 obtain⟨F,ts,v,fh,rs,e,q⟩:=FZ h1;unfold g1 at e;split at e
 .obtain⟨x1,xs1,e1,r1,rs1⟩:=rs.inv;cases e1;unfold IB at e;split at e
  .split at e
   .rename_i o l ys hy;split at e
    .rename_i hz;cases e;obtain⟨pp,zs,rfl,_,n,kd⟩:=EL r1;have hF :=n;refine⟨pp,ys,rfl,Ad.of (by rw[<- MG hy kd];exact fh _ _ hF),hz,λa ha=>⟨a,_,rfl,BQ,?_⟩⟩
     exact q F _ _ R0 ((Ext.newO fh ha).mono λ_ z=>z.elim) (Rp.int _)
    .cases e
   .cases e
  .cases e
 .cases e
end
def ES:T->T->Option T
 |.int i,.int j=>some (.bl (decide (i<=j)))
 |.str x,.str y=>some (.bl (!(@decide (y.cps.toList<x.cps.toList) (Classical.propDecidable _))))
 |_,_=>none
section
variable {X:Cx}{E:L2.St->XK}{ca:Str->Value}{m mk:AI}{o k:Expr}{pos apos cpos:Pos}
theorem zhy:Af X (compareOp .LtE) (Bb X.K ES):=by
 intro pins s σ H x y v u Q I rx ry h;obtain⟨F,t1,t2,r,fh,r1,r2,e,q⟩:=h;unfold ES at e;split at e
 .cases e;rw[r1.int_inv]at rx;rw[r2.int_inv]at ry;exact Sy pins s σ H _ _ v u Q I rx ry ⟨_,_,rfl,rfl,q.bl fh⟩
 .rename_i a b;cases e;rw[r1.str_inv]at rx;rw[r2.str_inv]at ry;obtain⟨t,rfl⟩:=(rx);obtain⟨t',rfl⟩:=(ry);refine PySem.P.le_str ⟨.bl _,H,I,rfl,?_⟩;have q1:=q.bl fh
  grind
 .cases e
end
def CP(ys:List Str)(y:Str):Option Nat:=ys.findIdx? λx=>@decide (x=y) (Classical.propDecidable _)
theorem zdo{ys:List Str}{y:Str}{j:Nat}(h:CP ys y=some j):∃hj:j<ys.length,ys[j]=y/\∀(m:Nat) (hm:m<ys.length),m<j->ys[m]≠y:=by
 obtain⟨h1,h2,h3⟩:=yb0.mp h
 grind
theorem We{x y:Str}:(x.cps.toList == y.cps.toList)=true ↔ x=y:=by
 constructor
 .cases x
  simp_all
 grind
def zkj(K:k7):V->List V->Hp->VK->Prop:=λx vs H Q=>∃(l:Addr) (ys:List Str) (y:Str) (j:Nat),x=.ref l/\vs=[.str y]/\Ad K H l (ys.map V.str)/\CP ys y=some j/\ys.length<1000000/\Q (.int j) H
section
variable {X:Cx}{E:L2.St->XK}{ca:Str->Value}{m mk:AI}{o k:Expr}{pos apos cpos:Pos}
theorem zfh:X3 X "list.index" (zkj X.K):=by
 intro pins s σ H x vs v us Q I rx rv h;obtain⟨l,ys,y,j,rfl,rfl,hH,hj,hz,q⟩:=h;cases rx;obtain⟨u,rfl,ru⟩:=rv.one;obtain⟨its,r,⟨ob,n,e,c1,c2,c3⟩,hz0⟩:=I.list hH;have hl:=r.length;obtain⟨cc,dd,da,sl⟩:=ob;simp only at c1 c2 c3;subst c1 c2 c3;obtain⟨t,rfl⟩:=(ru);obtain⟨hj1,hj2,hj3⟩:=zdo hj;rw[ya1]at hl
 have at_:∀(i ) (hi ),∃(t':Tok) (hi':i<ys.length),its.toArray[i]=Value.str ys[i] t':=λi hi=>by
  have hi0 :=by simpa using hi
  have hi':i<ys.length:=by omega
  have hx:(ys.map V.str)[i]?=some (.str ys[i]):=by rw[ya3,ya0 hi'];rfl
  obtain⟨u,e2,ru⟩:=r.get hx;obtain⟨t',rfl⟩:=(ru);rw[ya0 hi0]at e2;refine⟨t',hi',?_⟩
  simpa using e2
 let ev:Value->Bool:=λv=>match v with
  |.str x _=>x.cps.toList == y.cps.toList
  |_=>false
 have evs:∀(x ) (t' ),ev (.str x t')=(x.cps.toList == y.cps.toList):=λ_ _=>rfl
 have hjs:j<its.toArray.size:=by rw[yb8];omega
 refine call_meets F.slot_list_index ⟨_,e,rfl⟩ F.entry_list_index (F.args_list_index_2 _ _) (SeqAt.list_indexAt l its.toArray n none sl (.str y t) ev j hjs (by omega) ?_ λm hm hmj=>?_) ⟨e,λy' hy'=>?_,.int j,H,I.tok _,⟨_,rfl⟩,q⟩
 rotate_left 2
 .obtain⟨i,hi,rfl⟩:=Array.mem_iff_getElem.mp hy';obtain⟨t',hi',e1⟩:=at_ i hi;rw[e1,evs _ t'];exact(SeqRoads2.EqGives.str _ _ _ _).at _ _
 .obtain⟨t',hi',e1⟩:=at_ j hjs;rw[e1,evs _ t'];exact We.mpr hj2
 .obtain⟨t',hi',e1⟩:=at_ m hm;rw[e1,evs _ t',Bool.eq_false_iff];exact λz=>hj3 m hi' hmj (We.mp z)
def Ie:T->Option (List T)
 |.nd false .lst l=>some l
 |.nd false .rl l=>some l
 |_=>none
theorem zie{t:T}{l:List T}(h:Ie t=some l):∃k,t=.nd false k l/\HX t=true:=by
 unfold Ie at h;split at h
 .cases h;exact⟨_,rfl,rfl⟩
 .cases h;exact⟨_,rfl,rfl⟩
 .cases h
def G3(m mk:AI):AI:=λτ=>match m τ with
  |some (.v t false)=>(match Ie t with
   |some l=>(match F8 l with
    |some ys=>(match mk τ with
      |some (.v (.str y) _)=>(match CP ys y with
        |some j=>if ys.length<1000000 then some (.v (.int j) false) else none
        |none=>none)
      |_=>none)
    |none=>none)
   |none=>none)
  |_=>none
theorem zh7(ho:PE X o (tM X.K E ca m))(hk:PE X k (tM X.K E ca mk))(hbase:attributeBase o "index" X.env (eval o X.env)=eval o X.env)(hs:starEach [k] X.env=[(false,eval k X.env)])(hline:(apos.endLine == cpos.line)=true) :
    PE X (.Call (.Attribute o "index" apos) [k] [] cpos) (tM X.K E ca (G3 m mk)):=by
  refine PE.weak (Mg ycr PySem.F.slot_list_index PySem.F.type_list_index zfh ho (Dk hk Ec hs) hbase (by rw[hs];rfl) hline hs rfl) λσ H Q h=>?_
  obtain⟨F,τ,R,S,q⟩:=h;refine⟨F,τ,R,S,?_⟩;unfold G3 at q;cases hm:m τ with
  |none=>simp only[hm]at q<;>exact q.elim
  |some r =>
    cases r with
    |x c=>simp only[hm]at q<;>exact q.elim
    |v t b =>
      cases b with
      |true=>simp only[hm]at q<;>exact q.elim
      |false =>
       simp only[hm]at q;cases hls:Ie t with
       |none=>simp only[hls]at q<;>exact q.elim
       |some l =>
        simp only[hls]at q;obtain⟨kk,rfl,hL⟩:=zie hls;intro F1 H1 x B e1 g1;have g0:Rp X.K F1 H1 (.nd false kk l) x B:=g1;obtain⟨p,rfl⟩:=g0.ref_inv;obtain⟨xs0,hN,hr0⟩:=Aa.node g0;obtain⟨p1,xs,e0,sqq,hr⟩:=Io hL (Aa.of_node (H:=F1) hN hr0);injection e0 with e0
        subst e0;cases hy:F8 l with
        |none=>simp only[hy]at q<;>exact q.elim
        |some ys =>
          simp only[hy]at q;have hxs:=MG hy hr;refine⟨.inl ⟨rfl,xs,sqq F1 H1 (AY.refl _) e1.fh⟩,F1,τ,R,S.ext e1,?_⟩;cases hk2:mk τ with
          |none=>simp only[hk2]at q<;>exact q.elim
          |some r =>
            cases r with
            |x c=>simp only[hk2]at q<;>exact q.elim
            |v t2 b2 =>
              cases t2 with
              |str y =>
                simp only[hk2]at q;intro F2 H2 z B2 e2 g2;have hz:=Iw g2;subst hz;cases hj:CP ys y with
                |none=>simp only[hj]at q<;>exact q.elim
                |some j =>
                  simp only[hj]at q
                  by_cases hl:ys.length<1000000
                  . rw[if_pos hl]at q
                    refine⟨p,ys,y,j,rfl,rfl,by rw[<- hxs];exact sqq F2 H2 e2.ff e2.fh,hj,hl,?_⟩
                    exact q F2 H2 _ R0 ((e1.trans e2).mono λ_ z=>z.elim) (.int _)
                  . rw[if_neg hl]at q
                    exact q.elim
              |_=>simp only[hk2]at q<;>exact q.elim
end
noncomputable def E8(i:Nat)(cs:List (Str×Addr))(u h:AH):AH:=λτ=>match u τ with
 |some (.xc c τ')=>(match cs.lookup (GZ c) with
  |some C=>if i<τ'.length then (match h (τ'.set i (some (.obj (.exn C) (HG c)))) with
   |some (.nx τ2)=>some (.nx (τ2.set i none))
   |some (.rt t)=>some (.rt t)
   |_=>none) else none
  |none=>none)
 |r=>r
section
variable {X:Cx}{E:L2.St->XK}{ca:Str->Value}{mu:Bool}{i:Nat}{x n:Str}{np pos hpos:Pos}{body suite:List Stmt}{b₀:Stmt}{u h:AH}{cs:List (Str×Addr)}
theorem StR.put{K}{t:T}(S:StR K F H σ τ R)(hi:i<τ.length)(r:Rp K F H t v R0):StR K F H (σ.set i (some v)) (τ.set i (some t)) (λj=>if j=i then R0 else R j):=by
 refine⟨S.fh,by simpa using S.len,λj t' e=>?_,λj a z=>?_,λj k a hjk z1 z2=>?_⟩
 .by_cases hj:j=i
  .subst hj;rw[yas hi]at e;cases e;exact⟨v,yas (by rw[S.len];exact hi),by simpa using r⟩
  .rw[yap (yar hj)]at e;obtain⟨y,e1,r1⟩:=S.rep j t' e
   grind
 .by_cases hj:j=i
  .simp only[hj,ye1]at z;exact z.elim
  .simp only[hj,yej]at z;obtain⟨t',e⟩:=S.out j a z
   grind
 .by_cases hj:j=i
  .simp only[hj,ye1]at z1;exact z1.elim
  .by_cases hk:k=i
   .simp only[hk,ye1]at z2;exact z2.elim
   .simp only[hj,yej]at z1;simp only[hk,yej]at z2;exact S.dis j k a hjk z1 z2
theorem StR.gone{K}{F H:Hp}{i:Nat}(S:StR K F H σ τ R):StR K F H (σ.set i none) (τ.set i none) (λj=>if j=i then R0 else R j):=by
 refine⟨S.fh,by simpa using S.len,λj t' e=>?_,λj a z=>?_,λj k a hjk z1 z2=>?_⟩
 .by_cases hj:j=i
  .grind
  .rw[yap (yar hj)]at e;obtain⟨y,e1,r1⟩:=S.rep j t' e
   grind
 .by_cases hj:j=i
  .simp only[hj,ye1]at z;exact z.elim
  .simp only[hj,yej]at z;obtain⟨t',e⟩:=S.out j a z
   grind
 .by_cases hj:j=i
  .simp only[hj,ye1]at z1;exact z1.elim
  .by_cases hk:k=i
   .simp only[hk,ye1]at z2;exact z2.elim
   .simp only[hj,yej]at z1;simp only[hk,yej]at z2;exact S.dis j k a hjk z1 z2
theorem QN(h:tot (λj=>if j=i then R0 else R j) a):tot R a:=by
 obtain⟨j,z⟩:=h
 by_cases hj:j=i
 .simp only[hj]at z;exact z.elim
 .simp only[hj]at z;exact⟨j,z⟩
theorem ze8{K }      (fa:F a=none)(hX:FV (upd H a o) a C dx)(hp:J0 F c dx):Rp K (upd F a o) (upd H a o) (.obj (.exn C) (HG c)) (.ref a) R0:=by
 refine .obj ⟨dx,hX.of λu z=>BQ.trans (BQ.symm.trans z),λv hv=>(hp v hv).of λb u e=>(A3 (B0 e fa)).trans e⟩ ?_ λi t x h1 h2=>?_
 .unfold HG IU
  grind
 .unfold HG at h1;unfold IU at h2;cases hq:EK c with
  |none=>grind
  |some n =>
   rw[hq]at h1 h2;cases i with
   |zero=>cases h1;cases h2;exact .int _
   |succ i=>cases h1
theorem s_try(T:ECls X.K X.mg x)(hcs:∀c C,cs.lookup c=some C->ca c=.ref C/\PySem.W.subIn X.K (.ref C) (.ref T.C)=some true)(hst:X.stack=X.env::X.outer)(hf:X.env.frame=some X.env.locals)(hN:X.N.Nodup)(hi:X.N[i]?=some n)(hloc:X.env.scope.names.lookup n=some .local)
  (hb:∀(E' ) pins xe,BB (Dz X pins xe) E'->Av (Dz X pins xe) body (tS X.K E' ca mu u)) (hh:∀a,Pa a i (Gb X a) (b₀::suite) (tS X.K E00 ca mu h)) (hg:Gl X x) (hdb:(x == "__debug__")=false) :
  PS X (.Try body [.ExceptHandler (some (.Name x np)) (some n) (b₀::suite) hpos] [] [] pos) (tS X.K E ca mu (E8 i cs u h)):=by
 intro pins s σ H D I hq;obtain⟨F,τ,R,S,q⟩:=hq;let E' :=λσ1 cls dx H1=>∃c τ' F' R',u τ=some (.xc c τ')/\cls=ca (GZ c)/\J0 F' c dx/\Stp F H (tot R) F' H1 (tot R')/\StR X.K F' H1 σ1 τ' R'
 refine zkp T hst hf hN hi hloc (λpins xe hp=>hb E' pins xe hp) hh hg hdb pins s σ H D I ⟨⟨F,τ,R,S,?_⟩,?_⟩
 .unfold E8 at q;cases hu:u τ with
  |none=>rw[hu]at q;exact q
  |some o =>
   cases o with
   |nx τ'=>rw[hu]at q;exact q
   |rt t=>rw[hu]at q;exact q
   |bk τ'=>rw[hu]at q;exact q
   |ct τ'=>rw[hu]at q;exact q
   |xc c τ'=>exact λF' H' σ' R' st S' dx hp=>⟨c,τ',F',R',hu,rfl,hp,st,S'⟩
 .intro σ1 cls dx H1 ⟨c,τ',F',R',hu,hcl,hp,st,S'⟩;unfold E8 at q;simp only[hu]at q;cases hl:cs.lookup (GZ c) with
  |none=>simp only[hl]at q<;>exact q.elim
  |some C =>
   simp only[hl]at q;obtain⟨h1,h2⟩:=hcs _ C hl
   by_cases hlen:i<τ'.length
   case neg =>
    rw[if_neg hlen]at q;exact q.elim
   rw[if_pos hlen]at q;refine⟨C,hcl.trans h1,h2,λa o ha hX=>?_⟩
   have fa :=Fk S'.fh ha;have e1:Ext F' H1 (upd F' a o) (upd H1 a o) R0:=Ext.new S'.fh ha;have S2:=S'.ext e1;have rx:=ze8 (K:=X.K) fa hX hp;have S3:=S2.put hlen rx;have st2:Stp F H (tot R) (upd F' a o) (upd H1 a o) (tot λj=>if j=i then R0 else R' j):=(st.trans e1.stp0).mono λb z=>QN z
   refine⟨_,_,_,S3,?_⟩;cases hh:h (τ'.set i (some (.obj (.exn C) (HG c)))) with
   |none=>simp only[hh]at q<;>exact q.elim
   |some o =>
    simp only[hh]at q;cases o with
    |nx τ2 =>
     intro F4 H4 σ4 R4 st4 S4;exact q F4 H4 (σ4.set i none) _ ((st2.trans st4).mono λb z=>QN z) S4.gone
    |rt t=>exact λF4 H4 x B st4 r4=>q F4 H4 x B (st2.trans st4) r4
    |bk _=>exact q.elim
    |ct _=>exact q.elim
    |xc _ _=>exact q.elim
end
def Cd(tb:List (Addr×Bool)):T->Option T
 |.obj (.exn C) _=>(match tb.lookup C with
  |some b=>some (.bl b)
  |none=>none)
 |_=>none
section
variable {X:Cx}{E:L2.St->XK}{ca:Str->Value}{m:AI}{e:Expr}{pos p p2:Pos}{c:Str}{v:V}{tb:List (Addr×Bool)}
theorem SK(hg:Gl X "isinstance")(hm:X.mg "isinstance"=none)(hv:PE X (.Name c p2) (tC v))(hvv:∃D,v=.ref D\/∃T,v=.ty T)(htb:∀C b,tb.lookup C=some b->ExcK X.K C/\PySem.W.kitOne X.K (.ref C) (O5 v)=some b)(ha:PE X e (tM X.K E ca m))(he:starEach [e,.Name c p2] X.env=(false,eval e X.env)::starEach [.Name c p2] X.env) :
  PE X (.Call (.Name "isinstance" p) [e,.Name c p2] [] pos) (tM X.K E ca (BM (g1 (Cd tb)) (AB m AD))):=by
 refine PE.weak (IT (zgh) hg hm ycf (Dk ha (Dk hv Ec) he) (by decide) (by decide) he rfl) λσ H Q h=>?_
 refine(F6 (F7 h)).mono λx H1 h1=>?_
 obtain⟨F,ts,w,fh,rs,e,q⟩:=FZ h1;unfold g1 at e;split at e
 .obtain⟨x1,xs1,e1,r1,rs1⟩:=rs.inv;cases e1;unfold Cd at e;split at e
  .rename_i C l;split at e
   .rename_i b hb;cases e;obtain⟨k1,k2⟩:=htb C b hb;obtain⟨a,xs,rfl,_,hF,_,_⟩:=r1.obj_inv;have hF' :=hF.choose_spec.1.x;exact⟨a,C,v,b,rfl,hF'.of (fh a),k1,hvv,k2,q.bl fh⟩
   .cases e
  .cases e
 .cases e
end
section
variable {X:Cx}{E:L2.St->XK}{ca:Str->Value}{mu:Bool}{i j:Nat}{tg it c:Expr}{ret:List Stmt}{mc:AI}{k:T}{ip pos:Pos}
end
section
variable {X:Cx}{E:L2.St->XK}{ca:Str->Value}{mu:Bool}{i j:Nat}{tg it e:Expr}{m:AI}{t:T}{p1 apos cpos pos bpos:Pos}{x:Str}
end
section
variable {X:Cx}{E:L2.St->XK}{ca:Str->Value}{m mk ma:AI}{o k e a:Expr}{pos apos cpos p p2:Pos}
def rSlS:V->Option Int->Option Int->Hp->VK->Prop:=λx lo hi H Q=>∃z:Str,x=.str z/\z.length<=BO/\Q (.str (Txt.slice z lo hi)) H
theorem zk1:P5 X rSlS:=by
 intro pins s σ H x v vl vu lo hi sl Q I rx hs pl pu q;obtain⟨z,rfl,hz,q⟩:=q;obtain⟨t,rfl⟩:=(rx);obtain⟨ob,ho,hc,hd⟩:=hs;rw[FI]at hz;cases pl with
 |none =>
  cases pu with
  |none=>exact⟨"str",_,yc3.lookup,ye0 _ _ _,yeo (l:=none) (u:=none) (st:=none) ⟨ob,ho,hc,hd⟩ rfl (yep ⟨yah (ydk z _ _) hz,λt' k=>⟨.str _,H,I.tok _,⟨_,rfl⟩,q⟩⟩)⟩
  |int j uj=>exact⟨"str",_,yc3.lookup,ye0 _ _ _,yeo (l:=none) (u:=some (j,uj)) (st:=none) ⟨ob,ho,hc,hd⟩ rfl (yep ⟨yah (ydk z _ _) hz,λt' k=>⟨.str _,H,I.tok _,⟨_,rfl⟩,q⟩⟩)⟩
 |int i ui =>
  cases pu with
  |none=>exact⟨"str",_,yc3.lookup,ye0 _ _ _,yeo (l:=some (i,ui)) (u:=none) (st:=none) ⟨ob,ho,hc,hd⟩ rfl (yep ⟨yah (ydk z _ _) hz,λt' k=>⟨.str _,H,I.tok _,⟨_,rfl⟩,q⟩⟩)⟩
  |int j uj=>exact⟨"str",_,yc3.lookup,ye0 _ _ _,yeo (l:=some (i,ui)) (u:=some (j,uj)) (st:=none) ⟨ob,ho,hc,hd⟩ rfl (yep ⟨yah (ydk z _ _) hz,λt' k=>⟨.str _,H,I.tok _,⟨_,rfl⟩,q⟩⟩)⟩
def FH(ma:AI)(ml mh:Option (AI)):AI:=λτ=>match ma τ with
 |some (.v (.str z) _)=>(match EO ml τ,EO mh τ with
  |some lo,some hi=>if z.length<=BO then some (.v (.str (Txt.slice z lo hi)) false) else none
  |_,_=>none)
 |_=>none
theorem zew{lo hi}(ha:PE X a (tM X.K E ca ma))(hl:PO X lo (GL X.K ml))(hh:PO X hi (GL X.K mh)):PE X (.Subscript a (.Slice lo hi none p2) pos) (tM X.K E ca (FH ma ml mh)):=by
 refine PE.weak (Sk zk1 ha hl hh) λσ H Q h=>?_
 obtain⟨F,τ,R,S,q⟩:=h;refine⟨F,τ,R,S,?_⟩;unfold FH at q;cases hm:ma τ with
 |none=>rw[hm]at q;exact q.elim
 |some r =>
  rw[hm]at q;cases r with
  |x c=>exact q.elim
  |v t bb =>
   cases t with
   |str z =>
    intro F1 H1 x B e1 g1;have hx:=Iw g1;subst hx;have e1':Ext F H F1 H1 R0:=e1.mono λ_ z=>z.elim
    have S1:=S.ext e1';cases h1:EO ml τ with
    |none=>simp only[h1]at q<;>exact q.elim
    |some lo' =>
     refine⟨F1,τ,R,lo',S1,h1,λF2 H2 e2=>?_⟩
     have S2:=S1.ext e2;cases h2:EO mh τ with
     |none=>simp only[h1,h2]at q<;>exact q.elim
     |some hi' =>
      simp only[h1,h2]at q;refine⟨F2,τ,R,hi',S2,h2,λF3 H3 e3=>?_⟩
      by_cases hz:z.length<=BO
      .rw[if_pos hz]at q;exact⟨z,rfl,hz,q F3 H3 _ R0 (e1'.trans0 (e2.trans0 e3)) (.str _)⟩
      .rw[if_neg hz]at q;exact q.elim
   |_=>exact q.elim
def rIxD:R2:=λx y H Q=>∃a kvs k v,x=.ref a/\y=.str k/\H a=some (.dK kvs)/\DQ kvs (Sum.inr k)=some v/\Q v H
theorem zm9(hu:X.A.units+1<cLine):Eo X rIxD:=by
 intro value slice pins s σ H x y v u Q I rx ry h hs;obtain⟨a,kvs,k,w,rfl,rfl,hH,hv,q⟩:=h;cases rx;have g :=hv▸Lg.k hH
 have hT:s.TypeIs (.ref a) "dict":=by
  obtain⟨_,_,vs,_,dd⟩:=W5 I.hok hH;exact dd.typeIs
 refine ydq ?_;refine ydq (wpAny_specialOf hT PySem.F.slot_dict_getitem.lookup ?_)
 have Ax:wpAny (model X.prog X.w) X.A (subscripted slice false (.ref a) u) (λr s₃=>wpAny (model X.prog X.w) X.A (letTemporaryGo value (.ref a) r >>= λ_=>pure r) (EP X pins σ Q) X.xe s₃) X.xe s:=by
  rw[hs];exact wpAny_operating (ydm (ze1 hu I g (ry) λw' s3 I3 rw'=>⟨w,H,I3,rw',q⟩) (λr s₃ h₃=>ydq (wpAny_letTemporaryGo (ydt h₃))) λ_ _ x=>x)
 first|exact ydt (ydq Ax)|rfl|rfl
def Ic(m mk:AI):AI:=λτ=>match m τ with
 |some (.v (.obj (.sdc ks) l) _)=>(match mk τ with
  |some (.v (.str y) _)=>(match CP ks y with
   |some j=>(match l[j]? with
    |some u=>if u.sh then some (.v u false) else none
    |none=>none)
   |none=>none)
  |_=>none)
 |_=>none
theorem QA:∀{ks} {xs} {y} {j} {v},CP ks y=some j->xs[j]?=some v->DQ (C8 ks xs) (Sum.inr y)=some v
 |[],xs,y,j,v,h,_=>by simp[CP]at h
 |k::ks,[],y,j,v,_,h=>by simp at h
 |k::ks,x::xs,y,j,v,h,hx=>by
  show DQ ((Sum.inr k,x)::C8 ks xs) (Sum.inr y)=some v;unfold CP at h;rw[yda]at h
  by_cases e:k=y
  .rw[@decide_eq_true _ (Classical.propDecidable _) e]at h;simp only[ye1,Option.some.injEq]at h;subst h;rw[Jf (by rw[e])]
   grind
  .rw[@decide_eq_false _ (Classical.propDecidable _) e]at h;simp only[yca,yej,yaa]at h;obtain⟨j',h1,rfl⟩:=h;rw[Jg (λz=>e (Sum.inr.inj z))]
   exact QA (h1) (by grind)
theorem r_gt(hu:X.A.units+1<cLine)(ho:PE X o (tM X.K E ca m))(hk:PE X k (tM X.K E ca mk))(hs:L9 k):PE X (.Subscript o k pos) (tM X.K E ca (Ic m mk)):=by
 refine PE.weak (Sn (zm9 hu) ho hk hs) λσ H Q h=>?_
 obtain⟨F,τ,R,S,q⟩:=h;refine⟨F,τ,R,S,?_⟩;unfold Ic at q;cases hm:m τ with
 |none=>rw[hm]at q;exact q.elim
 |some r =>
  rw[hm]at q;cases r with
  |x c=>exact q.elim
  |v t b =>
   cases t with
   |obj kd l =>
    cases kd with
    |sdc ks =>
     simp only at q;intro F1 H1 x B e1 g1;obtain⟨r1,hB⟩:=Kp g1;subst hB;obtain⟨a,xs,rfl,_,⟨hl1,hF⟩,el,cc⟩:=r1.obj_inv;refine⟨F1,τ,R,S.ext e1,?_⟩;cases hk2:mk τ with
     |none=>rw[hk2]at q;exact q.elim
     |some r2 =>
      rw[hk2]at q;cases r2 with
      |x c=>exact q.elim
      |v t2 b2 =>
       cases t2 with
       |str y =>
        simp only at q;intro F2 H2 z B2 e2 g2;have hz:=Iw g2;subst hz;have e2':Ext F1 H1 F2 H2 R0:=e2.mono λ_ z=>z.elim
        cases hj:CP ks y with
        |none=>simp only[hj]at q<;>exact q.elim
        |some j =>
         simp only[hj]at q;cases hu2:l[j]? with
         |none=>simp only[hu2]at q<;>exact q.elim
         |some u =>
          simp only[hu2]at q
          by_cases hsh:u.sh=true
          .rw[if_pos hsh]at q;have hjl:=(ya9.mp hu2).1;have hx:xs[j]?=some xs[j]:=ya0 (by omega)
           have hc:=(cc j u _ hu2 hx).move (H':=H2) hsh e2'.ff;exact⟨a,_,y,_,rfl,rfl,e2'.hh _ _ (e1.fh _ _ hF),QA hj hx,q F2 H2 _ R0 (e1.trans0 e2') hc⟩
          .rw[if_neg hsh]at q;exact q.elim
       |_=>exact q.elim
    |_=>exact q.elim
   |_=>exact q.elim
def tKys(to:TE):TE:=λσ H Q=>to σ H λx H1=>∃a ks xs,x=.ref a/\ks.length=xs.length/\H1 a=some (.dK (C8 ks xs))/\∀p,H1 p=none->Q (.ref p) (upd H1 p (.lst (ks.map V.str)))
theorem Uw:∀{ks} {xs},ks.length=xs.length->(C8 ks xs).length=ks.length
 |[],[],_=>rfl
 |[],_::_,h=>by simp at h
 |_::_,[],h=>by simp at h
 |k::ks,x::xs,h=>by
  show(C8 ks xs).length+1=ks.length+1;rw[Uw (by simpa using h)]
theorem Ux:∀{ks} {xs} {vs},ks.length=xs.length->KV (C8 ks xs) vs->vs.map (·.1)=ks.map Sum.inr
 |[],[],vs,_,r=>by
  have r' :=(r);cases r'
  rfl
 |[],_::_,_,h,_=>by simp at h
 |_::_,[],_,h,_=>by simp at h
 |k::ks,x::xs,vs,h,r=>by
  have r' :=r;cases r' with
  |@cons _ q _ qs hd tl =>
   rw[yal,yal,<- hd.1,Ux (by simpa using h) tl]
theorem zl5(hc:X.calm=true)(hg:Gl X "list")(hm:X.mg "list"=none)(ho:PE X o to)(hs:starEach [o] X.env=[(false,eval o X.env)]) :
  PE X (.Call (.Name "list" p) [o] [] p2) (tKys to):=by
 intro pins s σ H Q I h;refine ydz (Fq I hg hm ycd ?_ (by decide) (by decide))
 refine ybg ?_ (by rw[hs];rfl) rfl
 rw[hs];show wpAny _ _ (spliced ((false,eval o X.env)::backTo p2 (starEach [] X.env))) _ _ s;refine Calls.spliced_cons (AS (ho pins s σ H _ I h) λv s1 ⟨x,H1,I1,r1,q1⟩=>?_)
 obtain⟨a,ks,xs,rfl,el,hd,q⟩:=q1;cases r1;obtain⟨z,hsm,vs,rel,o',es,ep,ho',r⟩:=(I1.hok a _ hd);have hat:s1.heap.DictAt (Cc X.prog X.w) a vs ep:=⟨o',es,ho',r⟩;refine Calls.spliced_nil ?_;refine PySem.W.kdl_call (PySem.W.kdl_dict hsm) (I1.ok.hd hc) hat (by rw[<- zlz rel];exact z) λh' tk acc' c' hk hD hacc=>?_
 have hkeys:=Ux el rel;refine⟨.ref _,_,I1.laid hk (yac _) ?_,rfl,q _ (I1.hok.fresh (yac _))⟩;refine⟨by rw[ya1,<- Uw el];exact z,acc'.toList,c',?_,by rw[hD]⟩
 have hlen:acc'.toList.length=ks.length:=by
  rw[Array.length_toList,hacc.1,<- ya1,hkeys,ya1]
 have key:∀(n ) (k ) (v ),ks[n]?=some k->acc'.toList[n]?=some v->∃t,v=Value.str k t:=λn k v h1 h2=>by
  obtain⟨k',x',e1,e2⟩:=hacc.2 n v (by rw[<- Array.getElem?_toList];exact h2)
  have e3:(vs.map (·.1))[n]?=some k':=by rw[ya3,e1];rfl
  rw[hkeys,ya3,h1]at e3;have e4 :=(yak e3).symm;subst e4
  rcases ET (show Ft (Sum.inr k) v=true from e2) with ⟨i,t,e5,_⟩|⟨x,t,e5,e6⟩
  .cases e5
  .cases e5;exact⟨t,e6⟩
 clear hD hk hacc
 generalize acc'.toList=as at hlen key
 clear hd q hkeys
 have go:∀(ks:List Str) (as ),as.length=ks.length->(∀(n:Nat) (k ) (v ),ks[n]?=some k->as[n]?=some v->∃t,v=Value.str k t)->A9 (ks.map V.str) as:=by
  intro ks
  induction ks with
  |nil =>
   intro as hl _;cases as with
   |nil=>exact .nil
   |cons _ _=>simp at hl
  |cons k ks ih =>
   intro as hl key;cases as with
   |nil=>simp at hl
   |cons v as=>exact .cons (key 0 k v rfl rfl) (ih as (by simpa using hl) λn k v h1 h2=>key (n+1) k v (by simpa using h1) (by simpa using h2))
 exact go ks as hlen key
def Fm(m:AI):AI:=λτ=>match m τ with
 |some (.v (.obj (.sdc ks) _) _)=>some (.v (.own (ks.map T.str)) false)
 |_=>none
theorem zeq{K}(ks:List Str):Aa K F (ks.map T.str) (ks.map V.str):=⟨by simp,λi t x h1 h2=>by
 rw[ya3]at h1 h2;cases h:ks[i]? with
 |none=>grind
 |some k =>
  rw[h]at h1 h2;cases h1;cases h2;exact .str k⟩
theorem r_kys(hc:X.calm=true)(hg:Gl X "list")(hm:X.mg "list"=none)(ho:PE X o (tM X.K E ca m))(hs:starEach [o] X.env=[(false,eval o X.env)]):PE X (.Call (.Name "list" p) [o] [] p2) (tM X.K E ca (Fm m)):=by
 refine PE.weak (zl5 hc hg hm ho hs) λσ H Q h=>?_
 obtain⟨F,τ,R,S,q⟩:=h;refine⟨F,τ,R,S,?_⟩;unfold Fm at q;cases hm2:m τ with
 |none=>rw[hm2]at q;exact q.elim
 |some r =>
  rw[hm2]at q;cases r with
  |x c=>exact q.elim
  |v t b =>
   cases t with
   |obj kd l =>
    cases kd with
    |sdc ks =>
     intro F1 H1 x B e1 g1;obtain⟨r1,hB⟩:=Kp g1;subst hB;obtain⟨a,xs,rfl,_,⟨hl1,hF⟩,el,cc⟩:=r1.obj_inv;refine⟨a,ks,xs,rfl,hl1,e1.fh _ _ hF,λp hp=>?_⟩
     have gg:Cg X.K F1 H1 (.own (ks.map T.str)) Q:=λF' H' z C e g=>q F' H' z C (e1.trans0 e) g
     exact gg.list e1.fh (zeq ks) hp
    |_=>exact q.elim
   |_=>exact q.elim
structure ICls(K:k7)(C:Addr):Prop where
 c:Cls K C
 a:PySem.W.findIn K (.ref C) "__class__"=some (some (.builtin "object.__class__"))
 n:PySem.W.specialIn K (.builtin "object.__class__") "__get__"=some (some (.builtin "getset_descriptor.__get__"))
 k:PySem.W.takesIn K (.builtin "object.__class__")=some true
 m:PySem.W.mroIn K C (.type "object")=some true
def Nv(tb:List (Addr×Bool)):Ob->Option T
 |.ins C _=>(tb.lookup C).map .bl
 |_=>none
def Jh:List String:=["NoneType","bool","int","str","list","tuple","dict"]
def Ip(tb:List (Addr×Bool)):T->Option T
 |.obj o _=>Nv tb o
 |t=>(Gu t).map λ_=>.bl false
theorem zgj(hC:ICls X.K C)(hk:PySem.W.kitOne X.K (.ref C) (.ref D)=some b):CJ X (.builtin "isinstance") (λxs H Q=>∃a dx fs,xs=[.ref a,.ref D]/\H a=some (.ins C dx fs)/\Q (.bl b) H):=by
 intro pins s σ H xs us Q I r h;obtain⟨a,dx,fs,rfl,e,q⟩:=h;obtain⟨u,w',rfl,rx,ry⟩:=Gq r;cases ry;exact Nu I rx (.ins e hC.c hC.a hC.n hC.k hC.m) hk λtk=>⟨.bl b,H,I.tok _,rfl,q⟩
theorem r_isC(hC:(∀C b,tb.lookup C=some b->ICls X.K C/\PySem.W.kitOne X.K (.ref C) (.ref D)=some b)/\(Jh.all λa=>PySem.W.kitOne X.K (.type a) (.ref D) == some false)=true)(hg:Gl X "isinstance")(hm:X.mg "isinstance"=none)(hgc:Gl X c)(hmc:X.mg c=some (.ref D))(hd:(c == "__debug__")=false)(ha:PE X e (tM X.K E ca m))(he:starEach [e,.Name c p2] X.env=(false,eval e X.env)::starEach [.Name c p2] X.env) :
  PE X (.Call (.Name "isinstance" p) [e,.Name c p2] [] pos) (tM X.K E ca (BM (g1 (Ip tb)) (AB m AD))):=by
 have hR:CJ X (.builtin "isinstance") (λxs H Q=>(∃C b a dx fs,tb.lookup C=some b/\xs=[.ref a,.ref D]/\H a=some (.ins C dx fs)/\Q (.bl b) H)\/∃x a,xs=[x,.ref D]/\a∈Jh/\(TyOf X.K H x (.type a)\/a="dict"/\∃p ob kvs,x=.ref p/\H p=some (.frz ob (.dK kvs)))/\Q (.bl false) H):=λpins s σ H xs us Q I r h=>by
  rcases h with ⟨C,b,a,dx,fs,hl,h⟩|⟨x,a,rfl,hm,ty,q⟩
  .exact zgj (hC.1 C b hl).1 (hC.1 C b hl).2 pins s σ H xs us Q I r ⟨a,dx,fs,h⟩
  .have hk :=eq_of_beq (yau.mp hC.2 a hm);obtain⟨u,w',rfl,rx,ry⟩:=Gq r;cases ry
   rcases ty with ty|⟨rfl,p,ob,kvs,rfl,hp⟩
   .exact Nu I rx ty hk λtk=>⟨.bl false,H,I.tok _,rfl,q⟩
   .cases rx;exact VG I hp hk λtk=>⟨.bl false,H,I.tok _,rfl,q⟩
 refine PE.weak (IT hR hg hm ycf (Dk ha (Dk (Mf (v:=.ref D) hgc hmc rfl hd) Ec) he) (by decide) (by decide) he rfl) λσ H Q h=>?_
 refine(F6 (F7 h)).mono λx H1 h1=>?_
 obtain⟨F,ts,w,fh,rs,e,q⟩:=FZ h1;unfold g1 at e;split at e
 .obtain⟨x1,xs1,e1,r1,rs1⟩:=rs.inv;cases e1;unfold Ip at e;split at e
  .unfold Nv at e;split at e
   .obtain⟨b,hb,rfl⟩:=yaa.mp e;obtain⟨a,xs,rfl,_,⟨dx,hF⟩,_,_⟩:=r1.obj_inv;exact .inl ⟨_,b,a,dx,_,hb,rfl,fh _ _ hF,q.bl fh⟩
   .cases e
  .obtain⟨a,ha,rfl⟩:=yaa.mp e;obtain⟨ty,hm⟩:=QJ fh r1 ha;exact .inr ⟨_,a,rfl,hm,ty,q.bl fh⟩
 .cases e
end
end Pu
namespace Zx
open PySem PySem.Spec PyProof.Rows L2 Zw
section
variable {A:Around}{E:Value->Shared->Prop}{M:Model}
end
section
variable {X:Cx}{i1 i2:Nat}{x1 x2 n1 n2:Str}{np1 np2 pos hpos1 hpos2:Pos}{body suite1 suite2:List Stmt}{b1 b2:Stmt}{tb th1 th2:TS}{E:L2.St->XK}
end
end Zx
namespace Pu
open PySem PySem.Spec PyProof.Rows L2 Zw Zx
section
variable {X:Cx}{E:L2.St->XK}{ca:Str->Value}{mu:Bool}{i1 i2:Nat}{x1 x2 n1 n2:Str}{np1 np2 pos hpos1 hpos2:Pos}{body suite1 suite2:List Stmt}{b1 b2:Stmt}{u h1 h2:AH}{cs1 cs2:List (Str×Addr)}
end
section
variable {X:Cx}{E:L2.St->XK}{ca:Str->Value}{m:AI}{e:Expr}{pos p p2 p3 p4:Pos}{c1 c2:Str}{t1 t2:List (Addr×Bool)}{kt:Nat}
end
section
variable {X:Cx}{E:L2.St->XK}{ca:Str->Value}{m mk ma:AI}{o k e a:Expr}{pos apos cpos p p2:Pos}
end
section
variable {X:Cx}{E:L2.St->XK}{ca:Str->Value}{m mk:AI}{o k e:Expr}{pos pos' apos cpos:Pos}
end
abbrev VP(ms:Ao):Ao:=Dx ms
theorem r_enX{X:Cx}{E:L2.St->XK}{ca:Str->Value}{ms:Ao}{a:Expr}{elts:List Expr}{kk:Nat}{p pos tpos:Pos}(hg:Gl X "enumerate")(hm:X.mg "enumerate"=none)(ha:PA X [a] (BY X.K E ca ms))(hs:starEach [a] X.env=[(false,eval a X.env)]):PI X (.Tuple elts kk tpos) (.Call (.Name "enumerate" p) [a] [] pos) (tI X.K E ca (VP ms)):=SO hg hm ha hs
def clsO(C N:Addr)(o:Obj):Prop:=∃nm q bs hdct sn sub ab col dd k0 k1 k2 k3 k5 newId,o=excClassObj nm q C N bs [.type "object"] hdct sn sub ab col dd k0 k1 k2 k3 k5 newId
noncomputable def keyO(e:DictEntry):Bool:=match e.key with
 |.str n _=>!(n == ("__eq__":Str)) && !(n == ("__ne__":Str))
 |_=>false
def nsO(o:Obj):Bool:=match o.data with
 |.dict es _=>es.toList.all keyO
 |_=>false
structure TiOk(K:k7)(C:Addr):Prop where
 i:ICls K C
 k:(Gv.all λc=>PySem.W.kitOne K (.ref C) (.type c) == some false)=true
 o:∃(oC oN:Obj) (N:Addr),K.lookup C=some oC/\clsO C N oC/\K.lookup N=some oN/\nsO oN=true
end Pu
namespace Zx
open PySem PySem.Spec PyProof.Rows L2 Zw
section
variable {M:Model}{prog:Program}{w:World}{A:Around}{E:Value->Shared->Prop}{env:Env}{nm q:Str}{C N:Addr}{bs bm:List Value}{hdct:Bool}{sn:List Str}{sub:List Value}{ab:Bool}{col:Option Bool}{dd:Option Addr}{k0 k1 k2 k3 k5:Option Value}{newId:String}
def NewE(h:Heap)(e:Addr):Prop:=∃C d0 t sl nm q N bs bm hdct sn sub ab col dd k0 k1 k2 k3 k5 newId,List.contains bm (Value.type "BaseException")=true/\h.get? C=some (excClassObj nm q C N bs bm hdct sn sub ab col dd k0 k1 k2 k3 k5 newId) /\
 h.get? e=some ⟨.ref C,d0,.fields #[.ref t,.none,.none,.none,.bool false,.none],sl⟩
theorem zda    (hh:A.handled=none)(h:wpAny M A x (λv s₁=>∃e,v=.ref e/\NewE s₁.heap e/\E (.ref e) s₁) E s):wpAny M A (raiseStmt env (some x) none) Q E s:=by
 unfold raiseStmt;refine ydq (ydm h (λv s₁ h₁=>?_) λ_ _ x=>x)
 obtain⟨e,rfl,⟨C,d0,t,sl,nm,q,N,bs,bm,hdct,sn,sub,ab,col,dd,k0,k1,k2,k3,k5,newId,hbase,hC,he⟩,hE⟩:=h₁
 have hcB:(Value.ref C::bm).contains (.type "BaseException")=true:=by
  grind
 obtain⟨hp,g,d,tk,os⟩:=s₁
 repeat (first|with_reducible refine yec he ?_|with_reducible refine yec hC ?_|(with_reducible refine yed hC ?_;rw[hcB])|wp_step)
 exact(wpAny_raiseNew_none hh hE)
theorem zei{h:Heap}  {d:Drawn}{t:Nat}{os:OsState}{B initId:String}{bmB:List Value}  {rest:List Value}{fI:Addr}{oI:Obj}  (F:ExcBaseFacts B newId initId bmB)(T:OwnTail h bmB bm)
  (hC:h.get? C=some (excClassObj nm q C N bs bm hdct sn sub ab col dd k0 k1 k2 k3 k5 newId)) (hn:h.Ns N mN) (hi:mN "__init__"=some (.ref fI)) (hfI:h.get? fI=some oI) (hfc:oI.cls=.type "function")
  (hq:∀h' e,Heap.MadeExcOf h h' e (.ref C) rest->wpAny (model prog w) A (call (.ref fI) (.ref e::rest)) (λr s'=>r=.none/\Q (.done (.ret (.ref e))) s') E ⟨h',g,d,t,os⟩) (hrest:rest.length<=sizeLine) :
  wpAny (model prog w) A (Builtin.«type.__call__» ⟨.ref C::rest,[]⟩) Q E ⟨h,g,d,t,os⟩:=by
 repeat (first|with_reducible refine yec hC ?_|with_reducible refine wpAny_madeBy_exc hC ?_|wp_step)
 refine codeAny_call_builtin_code (yc9 _ F.quiet) (wpAny_check_new_subT F T hC ?_);refine codeAny_exc_new_subT F T hC ?_ hrest;show wpAny _ _ _ _ _ _;have hC₁:=ya2 { cls:=.ref C,data:=.fields #[.ref h.objs.size,.none,.none,.none,.bool false,.none] } (ya2 { cls:=.type "tuple",data:=.seq rest.toArray } hC);have hfI₁:=ya2 { cls:=.ref C,data:=.fields #[.ref h.objs.size,.none,.none,.none,.bool false,.none] } (ya2 { cls:=.type "tuple",data:=.seq rest.toArray } hfI);have T₁:=T.keeps (h':=(h.push { cls:=.type "tuple",data:=.seq rest.toArray }).push { cls:=.ref C,data:=.fields #[.ref h.objs.size,.none,.none,.none,.bool false,.none] }) λb o e=>ya2 _ (ya2 _ e)
 have hn₁:((h.push { cls:=.type "tuple",data:=.seq rest.toArray }).push { cls:=.ref C,data:=.fields #[.ref h.objs.size,.none,.none,.none,.bool false,.none] }).Ns N mN:=let ⟨o,es,ep,e,r⟩:=hn;⟨o,es,ep,ya2 _ (ya2 _ e),r⟩;have hget:((h.push { cls:=.type "tuple",data:=.seq rest.toArray }).push { cls:=.ref C,data:=.fields #[.ref h.objs.size,.none,.none,.none,.bool false,.none] }).get? (h.objs.size+1)=some { cls:=.ref C,data:=.fields #[.ref h.objs.size,.none,.none,.none,.bool false,.none] }:=by heap_get
 have hcC:(Value.ref C::bm).contains (.ref C)=true:=by simp
 unfold isInstance
 repeat (first|with_reducible refine yec hget ?_|(with_reducible refine yed hC₁ ?_;rw[hcC])|wp_step)
 show wpAny _ _ (typeLookup (.ref C) _) _ _ _;refine wpAny_typeLookup_tail hC₁ hn₁ T₁ F.mroIs F.init.lookup ?_;rw[hi];refine ydr (ydq ?_);unfold bindSpecial;refine ydq (wpAny_typeOf ⟨_,hfI₁,hfc⟩ ?_);rw[if_pos (by decide)]
 refine ydt (ydq (ydm (hq _ (h.objs.size+1) ⟨λb o hb=>ya2 _ (ya2 _ hb),yd1 (ycc _),h.objs.size,hget,yd1 (yac _),?_⟩) (λr s' hr=>?_) λ_ _ x=>x))
 .exact ya2 _ (Heap.get?_push_at rfl rfl)
 .obtain⟨rfl,hQ⟩:=hr
  wp_walk
  exact hQ
theorem zgg{h:Heap}  {d:Drawn}{t:Nat}{os:OsState}    {rest }{fI:Addr}{oI:Obj}  (F:ExcBaseFacts B newId initId bmB)(T:OwnTail h bmB bm)
  (hC:h.get? C=some (excClassObj nm q C N bs bm hdct sn sub ab col dd k0 k1 k2 k3 k5 newId)) (hn:h.Ns N mN) (hi:mN "__init__"=some (.ref fI)) (hfI:h.get? fI=some oI) (hfc:oI.cls=.type "function")
  (hq:∀h' e,Heap.MadeExcOf h h' e (.ref C) rest->wpAny (model prog w) (A.under (.builtin "type.__call__" ⟨.ref C::rest,[]⟩)) (call (.ref fI) (.ref e::rest)) (λr s'=>r=.none/\Q (.ref e) s') E ⟨h',g,d,t,os⟩) (hrest:rest.length<=sizeLine) :
  wpAny (model prog w) A (call (.ref C) rest) Q E ⟨h,g,d,t,os⟩:=by
 have f1:=tc_lookup;have f2:=tc_bind (.ref C);refine ye6 (codeAny_of_tree ?_)
 repeat (any_goals (first|assumption|rfl|wp_step))
 refine⟨rfl,?_⟩;refine codeAny_call_builtin_at (yc9 _ (by decide +kernel)) entry_typeCall (wpAny_check_type_call_sub hC (zei F T hC hn hi hfI hfc (λh' e hm=>?_) hrest))
 exact hq h' e hm
end
section
variable {K:k7}{prog:Program}{w:World}{A:Around}{E:Value->Shared->Prop}{s:Shared}{e C:Addr}{vs:Array Value}{sl:Array (Option Value)}{name:Str}{v:Value}
theorem zbj(T:OwnTail h Je bm)(self):refuseLoop self "__setattr__" bm=pure ():=by
 induction T with
 |base=>exact PySem.F.store_ValueError.passes self
 |own _ _ _ _ ih=>rw[refuseLoop_ref];exact ih
open PySem.W PySem.Builtin PySem.Builtin.ObjectAttr in
theorem ziy{bm:List Value}{cd:ClassData}{Q:Unit->Shared->Prop}(X:K.In s.heap)(he:s.heap.get? e=some ⟨.ref C,none,.fields vs,sl⟩)(hcl:clsIn K C=some cd)(hmro:cd.mro=.ref C::bm)(T:OwnTail s.heap Je bm)(hd:cd.hasDict=true)
  (hs:findIn K (.ref C) "__setattr__"=some (some (.builtin "object.__setattr__"))) (hf:findIn K (.ref C) name=some none)
  (h:∀h' od,h'.get? e=some ⟨.ref C,some s.heap.objs.size,.fields vs,sl⟩->h'.get? s.heap.objs.size=some od->lookIn name od=some (some v)->(∀b o,b≠e->s.heap.get? b=some o->h'.get? b=some o)->Q () { s with heap:=h',toks:=s.toks+2 }) :
  wpAny (model prog w) A (setAttr (.ref e) name v) Q E s:=by
 have I:InstAt s.heap e ⟨.ref C,none,.fields vs,sl⟩ C none:=⟨he,rfl,rfl,trivial⟩;refine set_plain X I hs ?_;have SF:=PySem.F.store_object
 have ob:cd.mro.contains (.type "object")=true:=by
  rw[hmro,ycn,T.hasType (X:="object") (b:=true) (by decide +kernel)]
  exact Bool.or_true _
 have sub:Looks (model prog w) s.heap (isInstance (.ref e) (.type "object")) true:=I.type.andThen (looks_mroIn X (by unfold mroIn;rw[hcl,Option.bind_some,if_neg (by rw[hmro];exact yav),ob]))
 refine ye8 SF.slot.plain SF.entry (@check_slot (model prog w) _ _ { s with toks:=s.toks+1 } "object.__setattr__" "object" "__setattr__" (.ref e) [.str name s.toks,v] [] _ SF.kind SF.split sub (SF.args (.ref e) (.str name s.toks) v) ?_)
 have hm:Looks (model prog w) s.heap (mroOf (.ref C)) cd.mro:=(looks_clsIn X hcl).andThen .now;rw[osa_eq,refuse_eq];refine ydq (ydq (I.type.here (s:={ s with toks:=s.toks+1 }) (ydq (hm.here (s:={ s with toks:=s.toks+1 }) ?_))))
 rw[hmro,refuseLoop_ref,zbj T];refine ydt (ydq (I.type.here (s:={ s with toks:=s.toks+1 }) (ydq ((yea X hf).here (s:={ s with toks:=s.toks+1 }) (ydq (ydt ?_))))))
 refine ydq (ydt (ydq (ydq (wpAny_loadPart he (ydq ((looks_clsIn X hcl).here (s:={ s with toks:=s.toks+1 }) ?_))))))
 rw[hd];show wpAny _ _ (alloc { cls:=.type "dict",data:=.dict #[] } >>= λd=>update e (λo=>{ cls:=o.cls,dict:=some d,data:=o.data,slots:=o.slots }) >>= λ_=>dictMade (.ref C) e d) _ _ _
 have he1:(s.heap.push { cls:=.type "dict",data:=.dict #[] }).get? e=some ⟨.ref C,none,.fields vs,sl⟩:=ya2 _ he;have hes:e≠s.heap.objs.size:=yaf (ya7 he);refine ydq (wpAny_alloc' (ydq (wpAny_update' he1 (ydt ?_))));have hgd:((s.heap.push { cls:=.type "dict",data:=.dict #[] }).update e λo=>{ cls:=o.cls,dict:=some s.heap.objs.size,data:=o.data,slots:=o.slots }).get? s.heap.objs.size=some { cls:=.type "dict",data:=.dict #[] }:=(Heap.get?_update_ne _ _ _ _ hes.symm).trans (Heap.get?_push_at rfl rfl)
 have hnd:((s.heap.push { cls:=.type "dict",data:=.dict #[] }).update e λo=>{ cls:=o.cls,dict:=some s.heap.objs.size,data:=o.data,slots:=o.slots }).Ns s.heap.objs.size (λ_=>none):=⟨_,#[],_,hgd,rfl,λe he=>absurd he (by simp),λ_=>rfl⟩
 show wpAny _ _ (storeInDict s.heap.objs.size (.str name s.toks) name v) _ _ _;unfold storeInDict newKeyGuard;refine ydq (ydt (ydq (wpAny_nsSet1 (Heap.Ns1.of_empty hnd) λh' hn' hs'=>?_)))
 obtain⟨oD,esD,epD,hoD,hdD,hcD⟩:=hn'.count (Within.cons name v Within.nil);refine ydq (wpAny_lookBehind hoD (by rw[hdD];exact pastItsLine_dict (yah hcD (by rw[yat,ybn,ydx];omega))) (ydt ?_))
 obtain⟨od,ho,hl⟩:=Uk hn';refine h h' od ((hs'.2 e hes).trans (ybv _ he1 rfl)) ho (by rw[hl];simp) λb o hb ho=>(hs'.2 b (yaf (ya7 ho))).trans ((Heap.get?_update_ne _ _ _ _ hb).trans (ya2 _ ho))
end
section
variable {K:k7}{prog:Program}{w:World}{A:Around}{E:Value->Shared->Prop}{s:Shared}{a C:Addr}{name:Str}{u:Value}
open PySem.W PySem.Builtin PySem.Builtin.ObjectAttr in
theorem ziz{cd:ClassData}{ox od:Obj}{expr:Bool}{Q:Value->Shared->Prop}(X:K.In s.heap)(k:ExcK K C)(I:InstAt s.heap a ox C (some od))(hcl:clsIn K C=some cd)(hd:cd.hasDict=true)(hf:findIn K (.ref C) name=some none)
  (hl:lookIn name od=some (some u)) (hu:handedOut u=pure u) (h:Q u { s with toks:=s.toks+1 }):wpAny (model prog w) A (getAttr (.ref a) name expr) Q E s:=by
 obtain⟨hp9,g,dr,t,os⟩:=s;have L0:Looks (model prog w) hp9 (typeOf (.ref a)) (.ref C):=I.type;have L1:=yea (M:=model prog w) X k.ga;have L2:=yea (M:=model prog w) X k.gt;have LI:Looks (model prog w) hp9 (isInstance (.ref a) (.type "BaseException")) true:=L0.andThen (looks_mroIn X k.be);have LO:Looks (model prog w) hp9 (inOwnDict name (.ref a)) (some u):=looks_own X I hcl (by unfold PySem.W.ownOf;rw[hd,if_pos rfl];exact hl)
 have LF:Looks (model prog w) hp9 (Builtin.ObjectAttr.find (.ref a) (.ref C) name) (.value u):=(yea X hf).andThen ((show Looks (model prog w) hp9 (ownThenClass (.ref a) name none none) (.value u) from LO.andThen (Looks.tag .now)));unfold getAttr getAttrBy;refine ydq (wpAny_mkText (ydr (ydq (L0.at (ydq (L1.at ?_))))))
 have hx1:(onTheHeap (Value.ref C) && Value.builtin "BaseException.__getattribute__" == Value.builtin "object.__getattribute__")=false:=by
  rw[Pn]
  rfl
 dsimp only;rw[if_neg (by rw[hx1];exact yav)]
 unfold getAttrByItsOwn hookBefore;rw[if_pos (show onTheHeap (Value.ref C)=true from rfl)];refine ydq (L2.at (ydq (wpAny_attempt (ydr ?_))));unfold callGetattribute boundAndCalled;rw[if_neg (by cases expr<;>exact yav)]
 refine ydq (yeb (yby.ga.bind (.ref a)) ?_);show wpAny _ _ (call (.builtin "BaseException.__getattribute__") [.ref a,.str name t]) _ _ _;refine ye6 (ye8 yby.ga.plain PySem.F.entry_bexc_ga ?_);have ha:=PySem.F.args_bexc_ga (.ref a) (.str name t);obtain⟨i,hi⟩:∃i,i="BaseException.__getattribute__":=⟨_,rfl⟩;have k1:=Pm;have k2:=Pl;rw[<- hi]at k1 k2 ha ⊢;refine PySem.W.check_slot k1 k2 LI ha ?_;refine ydq (ydt (ydq (ydt (ydq (L0.at (ydq (LF.at ?_)))))));refine ydt ?_;show wpAny _ _ (handedOut u) _ _ _;rw[hu];exact ydt h
end
def Du(a C t:Addr)(dx:Option Addr):Heap->Prop:=λh=>h.get? a=some ⟨.ref C,dx,.fields #[.ref t,.none,.none,.none,.bool false,.none],#[]⟩
theorem WQ(e:Du a C t dx h):CI P w H h a (.ext (Du a C t dx)):=⟨e,⟨_,e⟩,λ_ _ p k=>k _ p⟩
structure StepK(K:k7)(C:Addr):Prop where
 k:ExcK K C
 hd:PySem.W.hasDictIn K C=true
 sa:PySem.W.findIn K (.ref C) "__setattr__"=some (some (.builtin "object.__setattr__"))
 st:PySem.W.findIn K (.ref C) "step"=some none
def G9(od:Obj):HO:=.frz od (.own 0)
section
variable {X:Cx}{pins:List (Addr×Obj)}{σ:L2.St}{H:Hp}{s:Shared}{A:Around}{E:Value->Shared->Prop}{a C t:Addr}
theorem zh2(I:Inv X pins σ H s)(ea:H a=some (.ext (Du a C t none)))(k:StepK X.K C)(ry:A5 y u)
  (h:∀d od s',H d=none->d≠a->PySem.W.lookIn "step" od=some (some u)->Inv X pins σ (upd (upd H d (G9 od)) a (.ext (Du a C t (some d)))) s'->Q () s'):wpAny (model X.prog X.w) A (setAttr (.ref a) "step" u) Q E s:=by
 have he :=(I.hok a _ ea).1;obtain⟨bm,N,nm,qn,bs,hd,sn,sub,ab,col,dd,k0,k1,k2,k3,k5,mN,hC,hN,⟨cd,hcd,hcn,hmro,hcd2⟩,TL⟩:=Hb I.kIn k.k.q
 have hdd :=by
  have:=k.hd;unfold PySem.W.hasDictIn at this;rw[hcd]at this;exact this
 refine ziy I.kIn he hcd hmro TL hdd k.sa k.st λh' od e1 e2 hl kp=>?_
 have fd :=I.hok.fresh (yac _);have na :=ydj (ya7 he);have oth:∀{b } {o },H b=some o->b≠a->upd (upd H s.heap.objs.size (G9 od)) a (.ext (Du a C t (some s.heap.objs.size))) b=some o:=fun  q n=>(A3 n).trans ((A3 (B0 q fd)).trans q)
 refine h _ od _ fd na hl (I.un ⟨λb o q n hb hx=>kp b o (λz=>by rw[z,ea]at n;cases n) q,λb o q n hb hx=>⟨o.slots,kp b o (λz=>by rw[z,ea]at n;cases n) q⟩,λb o q n hx=>?_,λb o q hx=>?_,λb xs q=>oth q (λz=>by rw[z,ea]at q;cases q),λb o u q=>oth q (λz=>by rw[z,ea]at q;cases q),λb ps q=>⟨#[],?_⟩⟩ λb o q=>?_)
 .rw[A3 (λz=>by rw[z,ea]at n;cases n),A3 (yaf (ya7 q))]
  exact n
 .by_cases hb:b=a
  .rw[hb];exact⟨_,e1⟩
  .exact⟨o,kp b o hb q⟩
 .rw[Array.append_empty];exact oth q λz=>by rw[z,ea]at q;cases q
 .by_cases hb:b=a
  .subst hb;have q':=BQ.symm.trans q;cases q';exact WQ e1
  .by_cases hb2:b=s.heap.objs.size
   .rw[A3 hb,hb2,BQ]at q;cases q;rw[hb2];exact⟨e2,od,e2⟩
   .rw[A3 hb,A3 hb2]at q;refine(I.hok b o q).stay (λc v hc z=>kp c v (λy=>?_) z) (λc z=>oth z λy=>by rw[y,ea]at z;cases z) λc xs z=>oth z λy=>by rw[y,ea]at z;cases z
    rcases hc with hc|hc
    .exact hb (hc.symm.trans y)
    .rw[y,ea]at hc;cases hc
end
def sStp(K:k7)(ta tv:TE):TS:=λD σ H=>tv σ H λy H1=>ta σ H1 λx H2=>∃a C t,x=.ref a/\H2 a=some (.ext (Du a C t none))/\StepK K C /\
 ∀d od u,H2 d=none->d≠a->A5 y u->PySem.W.lookIn "step" od=some (some u)->D.nx σ (upd (upd H2 d (G9 od)) a (.ext (Du a C t (some d))))
theorem zkq(ha:PE X o ta)(hv:PE X value tv)(hs:swapsWith value (some (.Attribute o "step" pos')) pos.line X.env=pure false):PS X (.Assign [.Attribute o "step" pos'] value pos) (sStp X.K ta tv):=by
 intro pins s σ H D I h;refine ydy (AS (hv pins s σ H _ I h) λu s1 ⟨y,H1,I1,ry,q⟩=>AS (ha pins s1 σ H1 _ I1 q) λov s2 ⟨x,H2,I2,rx,a,C,t,ex,ea,k,q2⟩=>?_) hs
 subst ex;obtain rfl:ov=Value.ref a:=rx;exact zh2 I2 ea k ry λd od s3 fd na hl I3=>⟨σ,_,I3,q2 d od u fd na ry hl⟩
def Qd(K:k7):Sp:=λvs H Q _=>∃a C t y,vs=[.ref a,y]/\H a=some (.ext (Du a C t none))/\StepK K C /\
 ∀d od u,H d=none->d≠a->A5 y u->PySem.W.lookIn "step" od=some (some u)->Q .non (upd (upd H d (G9 od)) a (.ext (Du a C t (some d))))
theorem zjv{K}{st}(F:FunD K x qual st f fd)(S:FnScope ["self","step"] ["self","step"] (Bf st))
  (hb:DM st=[.Assign [.Attribute (.Name "self" p1) "step" p2] (.Name "step" p3) p4]) (h1:(Bf st).names.lookup ("self":Str)=some NameKind.local) (h2:(Bf st).names.lookup ("step":Str)=some NameKind.local):FnOk P w K mg base (BH P w) (k+1) f fd ["self","step"] (Qd K):=by
 refine KY F S (λvs H Q E h=>?_) λcdv A outer s H vs Q E hr h=>?_
 .obtain⟨a,C,t,y,rfl,_⟩:=h
  rfl
 .obtain⟨a,C,t,y,rfl,ea,kk,q⟩:=h;rw[hb];exact⟨_,Sa (zkq (GY (i:=0) rfl (.inl h1)) (GY (i:=1) rfl (.inl h2)) rfl),y,rfl,.ref a,rfl,a,C,t,rfl,ea,kk,q⟩
structure StpX(P:Program)(w:World)(K:k7)(mg:Str->Option Value)(base:Heap)(x:Str)(C:Addr)(k:Nat) where
 f:Addr
 fd:FuncData
 m:mg x=some (.ref C)
 sk:StepK K C
 ini:Cw K C=some (some (.ref f))
 fn:PySem.W.isFn K (.ref f)=true
 kp:PySem.W.keepIn K (.ref C)=true
 ok:FnOk P w K mg base (BH P w) k f fd ["self","step"] (Qd K)
 b:Ci K fd ["self","step"] []
section
variable {X:Cx}{E:L2.St->XK}{C:Addr}{x:Str}{p pos:Pos}{e:Expr}{t:TA}{k j:Nat}
def zjq(X:Cx)(C:Addr)(t:TA):TE:=λσ H Q=>t σ H λvs H1=>∃y,vs=[y]/\∀a d od tt u,H1 a=none->H1 d=none->d≠a->(X.ex=[]->X.s₀.heap.get? a=none)->A5 y u->PySem.W.lookIn "step" od=some (some u)->Q (.ref a) (upd (upd H1 d (G9 od)) a (.ext (Du a C tt (some d))))
theorem zcg{K}(Y:K.In h)(G:h.Ns N mN)(q:PySem.W.nsIn K N n=some (some v)):mN n=some v:=by
 obtain⟨o,es,ep,ho,hd,_,hf⟩:=G;unfold PySem.W.nsIn at q;split at q
 .rename_i z;have z:=Y _ _ z;rw[ho]at z;cases z;split at q
  .rw[<- hf];unfold nsFind findBy
   grind
  grind
 .cases q
theorem upd3{x y f}(n:d≠a):upd (upd (upd H a x) d f) a y=upd (upd H d f) a y:=funext λb=>by
 by_cases hb:b=a
 .rw[hb,BQ,BQ]
 .rw[A3 hb,A3 hb]
  by_cases hd:b=d
  .rw[hd,BQ,BQ]
  .rw[A3 hd,A3 hd,A3 hb]
theorem zfr{K}(Y:K.In h)(G:h.Ns N mN)(hc:PySem.W.clsIn K C=some cd)(hn:cd.ns=N)(q:Cw K C=some (some (.ref f))):mN "__init__"=some (.ref f):=by
 unfold Cw at q;rw[hc]at q;subst hn;exact zcg Y G q
theorem zf4(D:StpX X.prog X.w X.K X.mg X.base x C k)(hr:Room j X.A)(hx:BB X E)(ha:PA X [e] t)(hk:k+1<=j)(hg:Gl X x)(hdb:(x == "__debug__")=false)
  (he:starEach [e] X.env=(false,eval e X.env)::starEach [] X.env):PE X (.Call (.Name x p) [e] [] pos) (zjq X C t):=by
 intro pins s σ H Q I h;refine ydz (G5 I hg D.m ?_ hdb);refine yc8 I.ok.mod.kin D.kp (AS (ha pos pins s σ H _ I h) λus s1 ⟨vs,H1,I1,r,y,hy,q⟩=>⟨I1.kIn,?_⟩) he rfl
 subst hy
 obtain⟨u,rfl⟩:∃u,us=[u]:=by
  cases r with
  |cons r1 r2=>cases r2;exact⟨_,rfl⟩
 have ry :=by cases r with|cons r1 r2=>exact r1
 obtain⟨bm,N,nm,qn,bs,hd,sn,sub,ab,col,dd,k0,k1,k2,k3,k5,mN,hC,hN,⟨cd,hcd,hcn,_⟩,TL⟩:=Hb I1.kIn D.sk.k.q;obtain⟨oI,hoI,hfc⟩:∃oI,X.K.lookup D.f=some oI/\oI.cls=.type "function":=yaa.mp (beq_iff_eq.mp D.fn);obtain⟨hp,g,dr,tk,os⟩:=s1;refine zgg ybi TL hC hN (zfr I1.kIn hN hcd hcn D.ini) (I1.kIn _ _ hoI) hfc (λh' a hm=>?_) (by rw[ydx];exact(by decide:1<=16777216))
 obtain⟨tt,ht,_,_⟩:=hm.there;have ha0 :=none_of I1.hok hm.new
 have hs0:X.ex=[]->X.s₀.heap.get? a=none:=λhex=>by
  cases z:X.s₀.heap.get? a with
  |none=>rfl
  |some o =>
   obtain⟨o',z'⟩:=I1.base.there a o z (by rw[hex];exact yay)
   have n:=hm.new;rw[z']at n;cases n
 have I2 :=I1.un (t':=tk) ⟨λb o q _ _ _=>hm.keeps b o q,λb o q _ _ _=>⟨o.slots,hm.keeps b o q⟩,λb o q n _=>(A3 (λz=>by rw[z,hm.new]at q;cases q)).trans n,λb o q _=>⟨o,hm.keeps b o q⟩,λb xs q=>(A3 (B0 q ha0)).trans q,λb o u q=>(A3 (B0 q ha0)).trans q,λb ps q=>⟨#[],by rw[Array.append_empty];exact(A3 (B0 q ha0)).trans q⟩⟩
  (XZ (I1.hok.kept hm.keeps) ha0 (WQ ht))
 refine ye6 (ye2 (D.ok.run _ X.stack _ _ ⟨[.ref a,u],[]⟩ [.ref a,u] [.ref a,y] (λv H2=>v=.non/\Q (.ref a) H2) (E σ) ((hr.mono hk).make C [u] []) (I2.env0.make C [u] []) (D.b _ [.ref a,u] I2.kIn rfl) (.cons rfl (.cons ry .nil)) ⟨a,C,tt,y,rfl,BQ,D.sk,λd od u' fd na ry' hl=>⟨rfl,?_⟩⟩) λr s' hq'=>?_)
 .rw[upd3 na];exact q a d od tt u' ha0 ((A3 na).symm.trans fd) na hs0 ry' hl
 .cases r with
  |error v=>exact hx pins σ _ _ v s' I2 hq'
  |ok fl =>
   cases fl with
   |ret u =>
    obtain⟨v,H',I3,rv,ev,q3⟩:=I2.after hq';subst ev;exact⟨rv,V.ref a,H',I3,rfl,q3⟩
   |next=>exact False.elim hq'
   |brk=>exact False.elim hq'
   |cont=>exact False.elim hq'
end
def El(H:Hp)(a:Addr):Hp:=λb=>if b=a then none else H b
theorem LA{H:Hp}{a b:Addr}(h:b≠a):El H a b=H b:=by unfold El;rw[if_neg h]
theorem W7{H:Hp}{a:Addr}:El H a a=none:=by unfold El;rw[if_pos rfl]
def J4(X:Cx)(E:L2.St->XK):Prop:=∀(pins:List (Addr×Obj)) (σ:L2.St) (H:Hp) (s:Shared) (a C t:Addr) (dx:Option Addr),Inv X pins σ H s->H a=some (.ext (Du a C t dx))->(X.ex=[]->X.s₀.heap.get? a=none)->E σ (.ref C) dx (El H a)->X.xe (.ref a) s
section
variable {X:Cx}{pins:List (Addr×Obj)}{σ:L2.St}{H:Hp}{s:Shared}{a C t:Addr}{dx:Option Addr}
theorem zfj(hst:X.stack=X.env::X.outer)(hf:X.env.frame=some X.env.locals)(hex:X.ex=[])(I:Inv X pins σ H s)(ea:H a=some (.ext (Du a C t dx)))(hs0:X.s₀.heap.get? a=none)(he:E (.ref C) dx (El H a)) :
  wpAny (model X.prog X.w) X.A (leaving X.env (.ref a)) (λ_ s2=>BH X.prog X.w X.outer X.H₀ X.s₀ E (.ref a) s2) Ex s:=by
 have ho :=(I.hok a _ ea).1;have nex:∀b ,b∉X.ex:=λb z=>by rw[hex]at z;cases z
 have hfr :=hst▸I.ok.frames;have nfa:a∉Aw X.stack:=λz=>by rw[I.stkFree a z]at ea;cases ea
 have hidA:∀{b } {o },s.heap.get? b=some o->b≠a->(PySem.W.hideAll s.heap [a]).get? b=some o:=λq n=>yb9 _ q λz=>n (yab.mp z)
 have FF:(PySem.W.hideAll s.heap [a]).FunFrames (PySem.W.hideAll s.heap (a::Aw X.stack)) (X.env::X.outer):=by
  rw[<- hst];refine(PySem.W.funFrames_hide I.stack λv hv b hb=>ya8 _ (ybt.mpr ⟨v,hv,hb⟩)).of_keeps λb o q n=>⟨o,hidA q λz=>?_,rfl⟩
  rw[z,ho]at q;cases q;exact n _ rfl
 have hB:∀{b } {o },s.heap.get? b=some o->b≠a->b∉Aw X.stack->(PySem.W.hideAll s.heap (a::Aw X.stack)).get? b=some o:=λq n1 n2=>yb9 _ q λz=>(yae.mp z).elim n1 n2
 have hBa:∀{b } {o },(PySem.W.hideAll s.heap (a::Aw X.stack)).get? b=some o->b≠a:=fun  q z=>by
  rw[z,ybz (a::Aw X.stack) (ya5 ..)]at q;cases q
 refine U9 hfr hf (λb o q=>hidA (ybj _ q) (hBa q)) FF ⟨λb o q=>ybj _ q,ybz [a] (yab.mpr rfl),_,t,ho,rfl,rfl⟩ λh2 fl sm=>?_
 have n0:∀{b } {o },X.s₀.heap.get? b=some o->b≠a:=fun  q z=>by rw[z,hs0]at q;cases q
 have kB :=λb o e n hb=>hB (I.base.keep b o e n hb (nex b)) (n0 e) (HL I e hb)
 have tB:∀b o,X.s₀.heap.get? b=some o->b∉Aw X.outer->∃o',(PySem.W.hideAll s.heap (a::Aw X.stack)).get? b=some o':=λb o e hb=>by
  obtain⟨o',e'⟩:=I.base.there b o e (nex b);exact⟨o',hB e' (n0 e) (HL I e hb)⟩
 have sl:∀b o,X.s₀.heap.get? b=some o->X.H₀ b=none->b∈Aw X.outer->∃z,h2.get? b=some { o with slots:=z }:=λb o e n hb=>by
  obtain⟨z,e1⟩:=I.base.slot b o e n hb (nex b);obtain⟨_,o2,ho2,hd⟩:=I.funs.mem hb;rw[e1]at ho2;cases ho2;obtain⟨z3,e3⟩:=sm b { o with slots:=z } e1 hd
  exact⟨z3,e3⟩
 have dl:∀{b } {u },H b=some u->(∀φ,u≠.ext φ)->El H a b=some u:=fun  q n=>(LA λz=>by rw[z,ea]at q;cases q;exact n _ rfl).trans q
 refine⟨a,(.ref C,dx),El H a,_,rfl,I.os,I.bare,⟨λb o e n hb _=>fl.1 b o (kB b o e n hb),λb o e n hb _=>sl b o e n hb,λb o e n _=>(LA (n0 e)).trans (I.base.free b o e n (nex b)),λb o e _=>?_,λb xs e=>dl (I.base.tups b xs e) (λ_ z=>by cases z),λb o u e=>dl (I.base.frzs b o u e) (λ_ z=>by cases z),λb ps e=>?_⟩,λb u e=>?_,kB,tB,OV fl,he⟩
 .by_cases hb:b∈Aw X.outer
  .obtain⟨z,q⟩:=sl b o e (I.ok.frf b hb) hb;exact⟨_,q⟩
  .obtain⟨o',q⟩:=tB b o e hb;exact⟨o',fl.1 b o' q⟩
 .obtain⟨more,q⟩:=I.base.tbls b ps e;exact⟨more,dl q (λ_ z=>by cases z)⟩
 .have nb:b≠a:=λz=>by rw[z,W7]at e;cases e
  have e':=(LA nb).symm.trans e;refine(I.hok b u e').stay (λc v hc q=>hB q (λz=>?_) λz=>?_) (λc q=>dl q (λ_ z=>by cases z)) λc xs q=>dl q (λ_ z=>by cases z)
  .rcases hc with y|y
   .exact nb (y.symm.trans z)
   .rw[z,ea]at y;cases y
  .have f:=I.stkFree c z
   rcases hc with y|y
   .rw[y,e']at f;cases f
   .rw[y]at f;cases f
end
theorem zlr{K}:J4 (Ds (BH P w) P w K mg base N qual sc f cd A outer s H E) (λ_=>E) :=
 λ_ _ _ _ _ _ _ _ I ea h0 he=>zfj rfl rfl rfl I ea (h0 rfl) he
section
variable {X:Cx}{E:L2.St->XK}{e:Expr}{pos:Pos}{te:TE}
def tRseN(K:k7)(X:Cx)(E:L2.St->XK)(te:TE):TS:=λ_ σ H=>te σ H λx H1=>∃a C t dx,x=.ref a/\H1 a=some (.ext (Du a C t dx))/\ExcK K C/\(X.ex=[]->X.s₀.heap.get? a=none)/\E σ (.ref C) dx (El H1 a)
theorem zhe(hc:X.calm=true)(hx:J4 X E)(he:PE X e te):PS X (.Raise (some e) none pos) (tRseN X.K X E te):=by
 intro pins s σ H D I h;refine ydq (yds (zda (I.ok.hd hc) (ydq (ydm (he pins s σ H _ I h) (λv s₃ h₃=>ydq (yds (ydt ?_))) λ_ _ x=>x))))
 obtain⟨x,H1,I1,rx,a,C,t,dx,ex,ea,k,h0,q⟩:=h₃;subst ex;obtain rfl:v=Value.ref a:=rx;obtain⟨bm,N,nm,qn,bs,hd,sn,sub,ab,col,dd,k0,k1,k2,k3,k5,mN,hC,hN,_,TL⟩:=Hb I1.kIn k.q;exact⟨a,rfl,⟨C,dx,t,_,nm,qn,N,bs,bm,hd,sn,sub,ab,col,dd,k0,k1,k2,k3,k5,_,TL.hasType ybi.hasBase,hC,(I1.hok a _ ea).1⟩,hx pins σ H1 s₃ a C t dx I1 ea h0 q⟩
end
end Zx
namespace Pu
open PySem PySem.Spec PyProof.Rows L2 Zw Zx
def Fe(ms:Ao):AH:=λτ=>match ms τ with
 |some (.v [.int i] _)=>if 0<=i then some (.xc (Dm i.toNat) τ) else none
 |some (.x c)=>some (.xc c τ)
 |_=>none
theorem zj4(n:d≠a)(h:H a=none):El (upd (upd H d f) a x) a=upd H d f:=funext λb=>by
 by_cases hb:b=a
 .rw[hb,W7,A3 (yar n),h]
 .rw[LA hb,A3 hb]
section
variable {X:Cx}{E:L2.St->XK}{ca:Str->Value}{mu:Bool}
theorem s_rsN(D:StpX X.prog X.w X.K X.mg X.base "NoRun" C k)(hca:ca "NoRun"=.ref C)(hr:Room j X.A)(hc:X.calm=true)(hx:BB X E)(hmd:J4 X E)(ha:PA X [e] (BY X.K E ca ms))(hk:k+1<=j)(hg:Gl X "NoRun")
  (he:starEach [e] X.env=(false,eval e X.env)::starEach [] X.env):PS X (.Raise (some (.Call (.Name "NoRun" p) [e] [] cpos)) none pos) (tS X.K E ca mu (Fe ms)):=by
 refine PS.weak (zhe hc hmd (zf4 D hr hx ha hk hg (by decide) he)) λD' σ H h=>?_
 obtain⟨F,τ,R,S,q⟩:=h;refine⟨F,τ,R,S,?_⟩;unfold Fe at q;cases hm:ms τ with
 |none=>simp only[hm]at q<;>exact q.elim
 |some r =>
  simp only[hm]at q;cases r with
  |x c=>exact λF' H' e=>q F' H' σ R e.stp0 (S.ext e)
  |v ts b =>
   intro F' H' xs e1 rs;split at q
   .rename_i i bb z;cases z;split at q
    .rename_i hi;obtain⟨y,ys,e2,r1,r2⟩:=rs.inv;subst e2;have hy:=r1.int_inv;have hys:=r2.inv0;subst hy hys;refine⟨.int i,rfl,λa d od tt u fa fd na h0 ry hl=>⟨a,C,tt,some d,rfl,BQ,D.sk.k,h0,?_⟩⟩
     rw[zj4 na fa];have e3:Ext F' H' (upd F' d (G9 od)) (upd H' d (G9 od)) R0:=Ext.new (S.ext e1).fh fd;have z:=q _ _ σ R (e1.trans0 e3).stp0 ((S.ext e1).ext e3) (some d) (λv hv=>?_)
     .have pb:GZ (Dm i.toNat)="NoRun":=rfl;rw[pb,hca]at z;exact z
     .obtain rfl:v=.int i.toNat:=yab.mp hv;refine⟨d,od,u,rfl,BQ,?_,hl⟩;rw[Int.toNat_of_nonneg hi];exact ry
    .exact q.elim
   .rename_i z;cases z
   .exact q.elim
noncomputable def HV(cs:List Addr)(m:AI):AI:=λτ=>match m τ with
 |some (.v (.obj (.exn C) [.int n]) false)=>if cs.contains C then some (.v (.int n) false) else none
 |some (.x c)=>some (.x c)
 |_=>none
theorem r_stp(hk:∀C∈cs,StepK X.K C)(ho:PE X o (tM X.K E ca m))(hb:attributeBase o "step" X.env (eval o X.env)=eval o X.env):PE X (.Attribute o "step" pos) (tM X.K E ca (HV cs m)):=by
 intro pins s σ H Q I h;obtain⟨F,τ,R,S,q⟩:=h;unfold HV at q;refine XU hb (AS (ho pins s σ H (λx H1=>∃a C n dx,x=.ref a/\FV H1 a C dx/\StepK X.K C/\Hj H1 dx (.int n)/\Q (.int n) H1) I ⟨F,τ,R,S,?_⟩) λu s1 ⟨x,H1,I1,rx,a,C,n,dx,ex,hX,kk,hS,q1⟩=>?_)
 .cases hm:m τ with
  |none=>simp only[hm]at q<;>exact q.elim
  |some r =>
   simp only[hm]at q;cases r with
   |x c=>exact q
   |v t b =>
    split at q
    .rename_i C n z;cases z;split at q
     .rename_i hc;intro F1 H1 x B e1 g1;obtain⟨a,xs,rfl,rfl,⟨dx,h1,h2⟩,hl,hcc⟩:=Rp.obj_inv (g1);cases xs with
      |nil=>cases hl
      |cons y ys =>
       have hy:=(hcc 0 _ y rfl rfl).int_inv;subst hy;exact⟨a,C,n,dx,rfl,h1.of λu=>e1.fh a u,hk C (yam.mp hc),(h2 _ (ya5 ..)).of λb u=>e1.fh b u,q F1 H1 _ R0 e1 (.int n)⟩
     .exact q.elim
    .rename_i z;cases z
    .exact q.elim
 .subst ex;obtain rfl:u=Value.ref a:=rx;obtain⟨ob,e1,e2,vs,e3,_⟩:=hX;obtain⟨d,od,uu,rfl,e4,ru,hl⟩:=hS;obtain⟨tok,rfl⟩:=(ru);obtain⟨bm,N,nm,qn,bs,hd,sn,sub,ab,col,dd,k0,k1,k2,k3,k5,mN,hC,hN,⟨cd,hcd,_⟩,TL⟩:=Hb I1.kIn kk.k.q
  have hdd :=by
   have:=kk.hd;unfold PySem.W.hasDictIn at this;rw[hcd]at this;exact this
  obtain⟨oc,odi,oda,osl⟩:=ob;cases e2;have g1:=(I1.hok a _ e1).1;have g2:=(I1.hok d _ e4).1;refine ziz I1.kIn kk.k ⟨g1,rfl,?_,g2⟩ hcd hdd kk.st hl rfl ⟨.int n,H1,I1.tok _,⟨tok,rfl⟩,q1⟩;cases e3
  rfl
end
end Pu
noncomputable section
namespace Pu
open PySem PySem.Spec PyProof.Rows L2 Zw Zx
structure Fn where
 lv:Nat
 ps:List Str
 g:List T->Option Ru
structure Gx where
 co:List (Str×T)
 cl:List (Str×Addr×List Str)
 mt:List (Str×Addr×List Str×Fn)
 nw:List (Str×Fn×List (Nat×List T))
 nr:Bool
 tx:Bool
 df:Bool
 sf:Option (Addr×List Str)
 xs:List (Str×List (Str×Addr))
 sb:List (Str×List (Addr×Bool))
 sv:List (Str×List (Addr×Bool))
 no:Bool
 fo:List Str
 ci:List (Str×List (Addr×Bool))
 x2:List (Str×Str×List (Str×Addr))
 gt:List Str
 wd:List (Str×Fn)
 pn:List Str
 ti:List Addr
 dn:List (Str×Fn×List T)
 rn:Option (Addr×Nat)
noncomputable abbrev CD:Gx:=⟨[],[],[],[],false,true,true,none,[],[],[],true,[],[],[],[],[],[],[],[],none⟩
set_option genInjectivity false in
structure Gm where
 N:List Str
 nm:List (Str×NameKind)
 ce:List Str
 lv:Nat
 fns:List (Str×Fn)
 bl:List Str
 ex:List Str
 ow:List Str
 pk:List Str
 mu:Bool
 mus:List (Str×Fn)
 mv:List Str
 dc:List Str
 ox:Gx
noncomputable def CB(x:Str):Bool:=!(x == ("__debug__":Str)) && !(x == ("__classdict__":Str)) && !(x == ("__name__":Str))
def Lu(nm:List (Str×NameKind))(x:Str):Bool:=nm.lookup x == some .local || nm.lookup x == some .cell || nm.lookup x == some .free
def Be(nm:List (Str×NameKind))(x:Str):Bool:=nm.lookup x == some .globalImplicit
noncomputable def DK(N:List Str)(x:Str):Option Nat:=N.findIdx? (· == x)
def Gm.var(Γ:Gm)(x:Str):Option Nat:=if CB x && Lu Γ.nm x then DK Γ.N x else none
def Gm.loc(Γ:Gm)(x:Str):Bool:=CB x && (Γ.nm.lookup x == some .local || Γ.ce.contains x)
def Cb:Expr->Bool
 |.Starred ..=>false
 |_=>true
def DV:Expr->Bool
 |.IfExp ..=>false
 |.NamedExpr ..=>false
 |_=>true
noncomputable def nmOf:Expr->Option (Str×Pos)
 |.Name x p=>some (x,p)
 |_=>none
def Ly:List Expr->List Str
 |[]=>[]
 |e::es=>(match nmOf e with
  |some (x,_)=>x::Ly es
  |none=>Ly es)
def Cm:Expr->List Str
 |.Name x _=>[x]
 |.Tuple es _ _=>Ly es
 |_=>[]
def zma:Expr->Bool
 |.Tuple ..=>true
 |_=>false
def Im:Expr->Bool
 |.Slice ..=>true
 |_=>false
def DA(nm:List (Str×NameKind)):List Str:=nm.filterMap λ(y,k)=>if k == .free then some y else none
def Oa(nm:List (Str×NameKind)):List Str:=nm.filterMap λ(y,k)=>if k == .cell then some y else none
noncomputable def IP(inner outer:List (Str×NameKind)):List (Str×NameKind):=inner.map λ(n,k)=>if (k == .free && outer.lookup n == some .cell) then (n,.cell) else (n,k)
def JG(N:List Str):List Str->Option (List Nat)
 |[]=>some []
 |y::r=>(match DK N y with
  |some i=>(match JG N r with
   |some l=>some (i::l)
   |none=>none)
  |none=>none)
def JJ(Γ:Gm)(scope:Scope)(N':List Str):Bool :=
 (scope.kind == .function) && scope.names.all (λx=>!(x.2 == .local) || scope.names.lookup x.1 == some .local) &&
 scope.names.all (λx=>!(x.2 == .free) || (scope.names.lookup x.1 == some .free && (Γ.nm.lookup x.1 == some .cell || Γ.nm.lookup x.1 == some .free) && !(scope.names.contains (x.1,NameKind.cell)))) &&
 decide N'.Nodup && (Oa scope.names).all (λy=>(IP scope.names Γ.nm).lookup y == some .cell)
def Gm.blk(Γ:Gm)(scope:Scope)(N':List Str):Gm:={ Γ with N:=N',nm:=IP scope.names Γ.nm,ce:=(Oa scope.names).filter λy=>scope.names.lookup y == some .cell,ow:=[],ox:={ Γ.ox with df:=false,nr:=true } }
def Mq:Expr->Bool
 |.Set ..=>false
 |_=>true
def Ej:Expr->Bool
 |.ListComp ..=>true
 |.SetComp ..=>true
 |.DictComp ..=>true
 |_=>false
noncomputable def VI:Expr->Bool
 |.Attribute ..=>true
 |_=>false
def gtN(Γ:Gm):Expr->Bool
 |.Name x _=>Γ.ox.gt.contains x
 |_=>false
def Fh:Expr->Bool
 |.Call _ es _ _=>!es.isEmpty
 |_=>true
theorem PN(h:Fh o=true):attributeBase o f env (eval o env)=eval o env:=by
 cases o with
 |Call g es ks c =>
  cases es with
  |nil=>cases h
  |cons e es=>cases g<;>rfl
 |_=>rfl
theorem zdh(h:Fh o=true)(hf:((backTo pos (starEach es env)).all λx=>!x.1)=true)(hn:es.length<30)(hl:(ap.endLine == pos.line)=true):∃pl ,eval (.Call (.Attribute o f ap) es [] pos) env=(do
   let ov <- eval o env
   standAt ap.atName
   let (f,first) <- holding [ov] (getMethod ov f pl)
   callWith pos f first (backTo pos (starEach es env)) (backToKw pos (keywordEach [] env))):=by
 refine⟨do let b <- importBound o env;pure (b.getD true),?_⟩
 have e:methodCallForm (es.length+([]:List Keyword).length) (backTo pos (starEach es env)) (backToKw pos (keywordEach [] env))=true:=by
  unfold methodCallForm;rw[hf];show(true && true && decide (es.length+0+0<30))=true
  grind
 rw[arm_eval_Call,PN h];unfold methodCall calleeOf methodCallPos;grind
structure GxOk(G:Gx)(lv:Nat)(P:Program)(w:World)(K:k7)(mg:Str->Option Value)(base:Heap)(ca:Str->Value):Prop where
 co:∀x t,G.co.lookup x=some t->∃u v,mg x=some u/\A5 v u/\∀F:Hp,Rp K F F t v R0
 cl:∀c∈G.cl,Cls K c.2.1/\∀f∈c.2.2,Bz K c.2.1 f
 mt:∀c∈G.mt,c.2.2.2.lv<=lv/\Nonempty (MetX P w K mg base c.2.1 c.1 c.2.2.2.lv c.2.2.2.ps (Au K ca c.2.2.2.g))
 nw:∀x F ds,G.nw.lookup x=some (F,ds)->F.lv+1<=lv/\∃(C:Addr) (D:NewX P w K mg base x C F.lv F.ps (Fb K ca C F.g)),∀k dts,ds.lookup k=some dts->∃dvs us,Ci K D.fd F.ps us/\A9 dvs us/\∀H:Hp,Aa K H dts dvs
 sf:∀C fs,G.sf=some (C,fs)->Cls K C/\∀f∈fs,Bz K C f
 xs:∀W cs,G.xs.lookup W=some cs->∃T:ECls K mg W,∀c C,cs.lookup c=some C->ca c=.ref C/\PySem.W.subIn K (.ref C) (.ref T.C)=some true
 sb:∀D tb,G.sb.lookup D=some tb->∃A:Addr,mg D=some (.ref A)/\∀C b,tb.lookup C=some b->ExcK K C/\PySem.W.kitOne K (.ref C) (.ref A)=some b
 sv:∀D tb,G.sv.lookup D=some tb->mg D=none/\∃t,bootBuiltins D=some (.type t)/\∀C b,tb.lookup C=some b->ExcK K C/\PySem.W.kitOne K (.ref C) (.type t)=some b
 ci:∀x tb,G.ci.lookup x=some tb->∃D:Addr,mg x=some (.ref D)/\(∀C b,tb.lookup C=some b->ICls K C/\PySem.W.kitOne K (.ref C) (.ref D)=some b)/\(Jh.all λa=>PySem.W.kitOne K (.type a) (.ref D) == some false)=true
 x2:∀W1 W2 cs,(W1,W2,cs)∈G.x2->∃(T1:ECls K mg W1) (T2:ECls K mg W2),∀c C,cs.lookup c=some C->ca c=.ref C/\PySem.W.subIn K (.ref C) (.ref T1.C)=some false/\PySem.W.subIn K (.ref C) (.ref T2.C)=some true
 wd:∀x F,G.wd.lookup x=some F->F.lv<=lv/\∃p,F.ps=[p]/\Nonempty (DefS P w K mg base F.lv x p (Au K ca F.g))
 ti:∀C∈G.ti,TiOk K C
 dn:∀x y,G.dn.lookup x=some y->y.1.lv<=lv/\∃(D:DefX P w K mg base y.1.lv x y.1.ps (Au K ca y.1.g)) (dvs:List V),DefsX K D.fd y.1.ps dvs/\∀H:Hp,Aa K H y.2 dvs
 rn:∀y,G.rn=some y->y.2+1<=lv/\Nonempty (StpX P w K mg base "NoRun" y.1 y.2)/\ca "NoRun"=.ref y.1
structure CxOk(Γ:Gm)(X:Cx)(E:L2.St->XK)(ca:Str->Value):Prop where
 N:X.N=Γ.N
 nd:Γ.N.Nodup
 nm:X.env.scope.names=Γ.nm
 kd:X.env.scope.kind=.function
 calm:X.calm=true
 room:Room Γ.lv X.A
 ce:∀x∈Γ.ce,X.fn x=true/\Γ.nm.lookup x=some .cell
 bl:∀b∈Γ.bl,X.mg b=none
 ps:BB X E
 po:Γ.ox.nr=false->PassesOwn (model X.prog X.w) X.A X.env X.xe
 md:Γ.ox.nr=false->Pc X E
 mn:Γ.ox.nr=false->J4 X E
 fs:∀f F,Γ.fns.lookup f=some F->F.lv<=Γ.lv/\Nonempty (DefX X.prog X.w X.K X.mg X.base F.lv f F.ps (Au X.K ca F.g))
 ex:∀c∈Γ.ex,∃T:ECls X.K X.mg c,ca c=.ref T.C/\Cw X.K T.C=some none
 ms:∀f F,Γ.mus.lookup f=some F->F.lv<=Γ.lv/\Nonempty (DefX X.prog X.w X.K X.mg X.base F.lv f F.ps (GP X.K ca F.g))
 gx:GxOk Γ.ox Γ.lv X.prog X.w X.K X.mg X.base ca
 tr:Γ.ox.df=true->X.stack=X.env::X.outer/\X.env.frame=some X.env.locals
 fr:Gn X
theorem FK(h:DK N x=some i):N[i]?=some x:=by
 obtain⟨h1,h2,_⟩:=yb0.mp h
 grind
theorem CM(h:CB x=true):(x == "__debug__")=false/\(x == "__classdict__")=false/\x≠"__name__":=by
 unfold CB at h
 grind
theorem Py(h:Lu sc.names x=true):DX sc x:=by
 unfold Lu at h;simp only[ybw,ye7]at h
 rcases h with (h|h)|h
 .exact .inl h
 .exact .inr (.inl h)
 .exact .inr (.inr h)
theorem Bq(h:Cb e=true):starEach (e::es) env=(false,eval e env)::starEach es env:=by
 cases e<;>first|rfl|cases h
theorem E4:∀{es} {env} {pos},(∀e∈es,Cb e=true)->(backTo pos (starEach es env)).any (·.1)=false
 |[],env,pos,_=>rfl
 |e::es,env,pos,h=>by
  rw[Bq (h e (ya5 ..))];have ih:=E4 (env:=env) (pos:=pos) λx hx=>h x (ya8 _ hx)
  show(false || (backTo pos (starEach es env)).any (·.1))=false
  grind
section
variable {Γ:Gm}{X:Cx}{E:L2.St->XK}{ca:Str->Value}
theorem CxOk.var(C:CxOk Γ X E ca){pos:Pos}(h:Γ.var x=some i):X.N[i]?=some x/\DX X.env.scope x/\(x == "__debug__")=false/\(x == "__classdict__")=false:=by
 unfold Gm.var at h;split at h
 .rename_i hp;rw[ya4]at hp;obtain⟨p1,p2,p3⟩:=CM hp.1;exact⟨by rw[C.N];exact FK h,Py (by rw[C.nm];exact hp.2),p1,p2⟩
 .cases h
theorem CxOk.gl(C:CxOk Γ X E ca)(h:Be Γ.nm x=true):Gl X x:=by
 show X.env.scope.names.lookup x=some .globalImplicit;rw[C.nm];exact eq_of_beq h
theorem CxOk.loc(C:CxOk Γ X E ca)(h:Γ.loc x=true)(hi:DK Γ.N x=some i):X.N[i]?=some x/\GI X.env.scope x/\(X.fn x=true\/X.env.scope.names.lookup x=some .local):=by
 unfold Gm.loc at h;simp only[ya4,ybw,ye7]at h;refine⟨by rw[C.N];exact FK hi,?_⟩
 rcases h.2 with h|h
 .exact⟨.inl (by rw[C.nm];exact h),.inr (by rw[C.nm];exact h)⟩
 .obtain⟨c1,c2⟩:=C.ce x (yam.mp h);exact⟨.inr (by rw[C.nm];exact c2),.inl c1⟩
theorem CxOk.nodup(C:CxOk Γ X E ca):X.N.Nodup:=by rw[C.N];exact C.nd
theorem Ul(C:CxOk Γ X E ca)(h1:Γ.loc x=true)(h2:DK Γ.N x=some i):PG X (.Name x pos) (D0 X.K (AF i)):=by
 obtain⟨g1,g2,g3⟩:=C.loc h1 h2;exact g_nm C.nodup g1 g2 g3
theorem Ww:∀{ys} {caps},JG N ys=some caps->ys.length=caps.length/\∀(k j:Nat),caps[k]?=some j->∃y,ys[k]?=some y/\N[j]?=some y
 |[],caps,h=>by cases h;simp
 |y::r,caps,h=>by
  unfold JG at h;split at h
  .rename_i i hi;split at h
   .rename_i l hl;cases h;obtain⟨h1,h2⟩:=Ww hl;refine⟨by simp[h1],λk j e=>?_⟩
    cases k with
    |zero=>simp at e;subst e;exact⟨y,rfl,FK hi⟩
    |succ k=>grind
   .cases h
  .cases h
theorem zdy(h:y∈DA nm):(y,NameKind.free)∈nm:=by
 unfold DA at h
 grind
theorem XF(C:CxOk Γ X E ca)(h:JJ Γ scope (Cm tg++DA scope.names)=true)(hc:JG Γ.N (DA scope.names)=some caps):BlkOk X scope (Cm tg++DA scope.names) (Cm tg).length caps:=by
 unfold JJ at h;simp only[ya4]at h;obtain⟨⟨⟨⟨h1,h2⟩,h3⟩,h4⟩,h5⟩:=h;obtain⟨l1,l2⟩:=Ww hc
 have free:∀y∈scope.names,y.2=.free->scope.names.lookup y.1=some .free/\(Γ.nm.lookup y.1=some .cell\/Γ.nm.lookup y.1=some .free)/\(y.1,NameKind.cell)∉scope.names:=λy hy hf=>by
  grind
 refine⟨eq_of_beq h1,λy hy hl=>?_,by simp[l1],λk j e=>?_,λy hy hf=>?_⟩
 .grind
 .obtain⟨y,e1,e2⟩:=l2 k j e;have fm:=zdy (yci e1);obtain⟨f1,_,f3⟩:=free _ fm rfl;refine⟨y,by rw[C.N];exact e2,?_,f1,f3⟩
  rw[yb4 (by omega)]
  simpa using e1
 .obtain⟨f1,f2,_⟩:=free y hy hf;refine⟨f1,?_⟩;rw[C.nm];exact f2
theorem zet(hk:env.scope.kind=.function):(relabel scope env).names=IP scope.names env.scope.names:=by
 unfold relabel IP;have e:(env.scope.kind == ScopeKind.function)=true:=by rw[hk];rfl
 simp only[e,yc6]
 rfl
theorem U6{p:Prop}:true=false->p:=λz=>by cases z
theorem XH(C:CxOk Γ X E ca){scope:Scope}{N':List Str}(h:JJ Γ scope N'=true)(cl)(A:Addr)(s₀:Shared)(H₀:Hp)(ex:List Addr)(xb)(hp:BB (Aq X scope cl N' A s₀ H₀ ex xb) E'):CxOk (Γ.blk scope N') (Aq X scope cl N' A s₀ H₀ ex xb) E' ca:=by
 unfold JJ at h;simp only[ya4]at h;obtain⟨⟨⟨⟨h1,h2⟩,h3⟩,h4⟩,h5⟩:=h;refine⟨rfl,yei h4,?_,?_,C.calm,C.room,λx hx=>?_,C.bl,hp,λz=>(by cases z),λz=>(by cases z),U6,C.fs,C.ex,C.ms,⟨C.gx.co,C.gx.cl,C.gx.mt,C.gx.nw,C.gx.sf,C.gx.xs,C.gx.sb,C.gx.sv,C.gx.ci,C.gx.x2,C.gx.wd,C.gx.ti,C.gx.dn,C.gx.rn⟩,λz=>(by cases z),C.fr⟩
 .show(relabel scope X.env).names=IP scope.names Γ.nm;rw[zet C.kd,C.nm]
 .exact eq_of_beq h1
 .have hx':x∈(Oa scope.names).filter λy=>scope.names.lookup y == some .cell:=hx
  rw[yc7]at hx';refine⟨ye3 (eq_of_beq hx'.2),?_⟩;exact eq_of_beq (yau.mp h5 x hx'.1)
end
theorem OC(h:Mq e=true)(x):foldedSetIterable e env x=pure x:=by
 cases e<;>first|rfl|cases h
theorem Sg(h:Im k=false):L9 k:=λo i=>by
 cases k<;>first|rfl|cases h
theorem C7{b:Bool}(h:(!b)=true):b=false:=by cases b<;>first|rfl|cases h
noncomputable def gd{α:Type}:(b:Bool)->(b=true->Option α)->Option α
 |true,k=>k rfl
 |false,_=>none
noncomputable def oe{α β:Type}:(o:Option α)->((a:α)->o=some a->β)->β->β
 |some a,k,_=>k a rfl
 |none,_,d=>d
abbrev ob{α β:Type}(o:Option α)(k:(a:α)->o=some a->Option β):Option β:=oe o k none
structure ER(Γ:Gm)(e:Expr) where
 m:AI
 ok:∀{X:Cx} {E:L2.St->XK} {ca:Str->Value},CxOk Γ X E ca->PE X e (tM X.K E ca m)/\(DV e=true->PT X e (BD X.K E ca m))
structure AR(Γ:Gm)(es:List Expr) where
 m:Ao
 ok:∀{X:Cx} {E:L2.St->XK} {ca:Str->Value},CxOk Γ X E ca->PA X es (BY X.K E ca m)
 st:∀e∈es,Cb e=true
 nl:es=[]->m=AD
structure OR(Γ:Gm)(es:List Expr) where
 m:Ao
 ok:∀{X:Cx} {E:L2.St->XK} {ca:Str->Value},CxOk Γ X E ca->PA X es (HA X.K E ca m)
structure BR(Γ:Gm)(op:BoolOp)(es:List Expr) where
 m:AI
 ok:∀{X:Cx} {E:L2.St->XK} {ca:Str->Value} {pos:Pos},CxOk Γ X E ca->PE X (.BoolOp op es pos) (tM X.K E ca m)/\PW X (.BoolOp op es pos) (BD X.K E ca m)
structure PR(Γ:Gm)(o:Option Expr) where
 m:Option (AI)
 ok:∀{X:Cx} {E:L2.St->XK} {ca:Str->Value},CxOk Γ X E ca->PO X o (GL X.K m)
structure LR(Γ:Gm)(elt tg iter:Expr)(ifs:List Expr)(scope:Scope) where
 m:AI
 ok:∀{X:Cx} {E:L2.St->XK} {ca:Str->Value},CxOk Γ X E ca->∃caps mi b mt me,m=BN (Cm tg).length caps mi b mt me/\BlkOk X scope (Cm tg++DA scope.names) (Cm tg).length caps/\PI X tg iter (tI X.K E ca mi) /\
   (∀ cl A s₀ H₀ ex xb E', BB (Aq X scope cl (Cm tg ++ DA scope.names) A s₀ H₀ ex xb) E' -> PG (Aq X scope cl (Cm tg ++ DA scope.names) A s₀ H₀ ex xb) tg (D0 X.K b) /\ GH (Aq X scope cl (Cm tg ++ DA scope.names) A s₀ H₀ ex xb) ifs (BD X.K E' ca mt) /\
    PE (Aq X scope cl (Cm tg++DA scope.names) A s₀ H₀ ex xb) elt (tM X.K E' ca me))/\∀x,foldedSetIterable iter X.env x=pure x
structure IR(Γ:Gm)(tg e:Expr) where
 m:Ao
 ok:∀{X:Cx} {E:L2.St->XK} {ca:Str->Value},CxOk Γ X E ca->PI X tg e (tI X.K E ca m)
 ns:Mq e=true
structure GR(Γ:Gm)(tg:Expr) where
 m:T->AM->Option AM
 ok:∀{X:Cx} {E:L2.St->XK} {ca:Str->Value},CxOk Γ X E ca->PG X tg (D0 X.K m)
structure GsR(Γ:Gm)(es:List Expr) where
 m:List T->AM->Option AM
 ok:∀{X:Cx} {E:L2.St->XK} {ca:Str->Value},CxOk Γ X E ca->DP X es (GN X.K m)/\(assignEach es X.env).length=es.length/\(assignEach es X.env).findIdx? (·.1)=none
structure SR(Γ:Gm)(s:Stmt) where
 m:AH
 ok:∀{X:Cx} {E:L2.St->XK} {ca:Str->Value},CxOk Γ X E ca->PS X s (tS X.K E ca Γ.mu m)
structure QR(Γ:Gm)(ss:List Stmt) where
 m:AH
 ok:∀{X:Cx} {E:L2.St->XK} {ca:Str->Value},CxOk Γ X E ca->Av X ss (tS X.K E ca Γ.mu m)
structure Dc where
 e:(Γ:Gm)->(e:Expr)->Option (ER Γ e)
 a:(Γ:Gm)->(es:List Expr)->Option (AR Γ es)
 o:(Γ:Gm)->(es:List Expr)->Option (OR Γ es)
 b:(Γ:Gm)->(op:BoolOp)->(es:List Expr)->Option (BR Γ op es)
 s:(Γ:Gm)->(s:Stmt)->Option (SR Γ s)
 q:(Γ:Gm)->(ss:List Stmt)->Option (QR Γ ss)
theorem ER.t(r:ER Γ e)(h:DV e=true)(C:CxOk Γ X E ca):PT X e (BD X.K E ca r.m):=(r.ok C).2 h
def Ji:Expr->Prop
 |.UnaryOp ..=>False
 |.BoolOp ..=>False
 |.IfExp ..=>False
 |.Compare ..=>False
 |_=>True
theorem QK(h:Ji e)(whole):isTrue e env whole=(do let v <- whole;standAt e.pos;holding [v] (truthy v)):=by
 cases e<;>first|rfl|exact False.elim h
def vl{Γ:Gm}{e:Expr}(m:AI)(h:∀{X:Cx} {E:L2.St->XK} {ca:Str->Value},CxOk Γ X E ca->PE X e (tM X.K E ca m))(t:Ji e:=by trivial):Option (ER Γ e):=some ⟨m,λC=>⟨h C,λ_=>KN (h C) (QK t)⟩⟩
structure OG(op:Operator) where
 g:T->T->Option T
 ok:∀{X:Cx},Af X (binaryOp op) (Bb X.K g)
def opF:(op:Operator)->Option (OG op)
 |.Add=>some ⟨BK,zhz⟩
 |.Sub=>some ⟨Dv,zhu⟩
 |.Mult=>some ⟨B9,zhw⟩
 |.Mod=>some ⟨Ap,zhx⟩
 |.FloorDiv=>some ⟨B3,zf9⟩
 |.Pow=>some ⟨Ez,zhv⟩
 |_=>none
structure CG(op:CmpOp) where
 g:T->T->Option T
 ok:∀{Γ:Gm} {X:Cx} {E:L2.St->XK} {ca:Str->Value},CxOk Γ X E ca->Af X (compareOp op) (Bb X.K g)
def Wf:(op:CmpOp)->Option (CG op)
 |.Eq=>some ⟨BJ,λC=>zlg C.room.units⟩
 |.NotEq=>some ⟨BL,λC=>zle C.room.units⟩
 |.Lt=>some ⟨Bg λi j=>decide (i<j),λ_=>KU op_lt⟩
 |.LtE=>some ⟨Bg λi j=>decide (i<=j),λ_=>KU Sy⟩
 |.Gt=>some ⟨Bg λi j=>decide (j<i),λ_=>KU op_gt⟩
 |.GtE=>some ⟨Bg λi j=>decide (j<=i),λ_=>KU op_ge⟩
 |.Is=>some ⟨Bx false,λ_=>zlf⟩
 |.IsNot=>some ⟨Bx true,λ_=>zdf⟩
 |.In=>some ⟨Bj,λC=>Mi C.room.units⟩
 |.NotIn=>some ⟨G1,λC=>zde C.room.units⟩
def Wu:(op:CmpOp)->Option (CG op)
 |.LtE=>some ⟨ES,λ_=>zhy⟩
 |op=>Wf op
def eCst(Γ:Gm)(c:Const)(k:Nat)(pos:Pos):Option (ER Γ (.Constant c k pos)):=match c with
 |.int i=>vl (mC (.int i)) λ_=>GW So λ_ _=>.int i
 |.bool b=>vl (mC (.bl b)) λ_=>GW Su λ_ _=>.bl b
 |.none=>vl (mC .non) λ_=>GW Sl λ_ _=>.non
 |.str x=>vl (mC (.str x)) λ_=>GW zl1 λ_ _=>.str x
 |_=>none
theorem CxOk.v(C:CxOk Γ X E ca)(h:Γ.var x=some i):PE X (.Name x pos) (tM X.K E ca (AA i)) :=
 let ⟨h1,h2,h3,h4⟩:=C.var (pos:=pos) h
 M9 h1 h2 h3 h4
def eNam(Γ:Gm)(x:Str)(pos:Pos):Option (ER Γ (.Name x pos)):=oe (Γ.var x) (λi hi=>vl (AA i) λC=>C.v hi) (gd (CB x && Be Γ.nm x) λhp=>ob (Γ.ox.co.lookup x) λt ht=>vl (mC t) λC=>by
 rw[ya4]at hp;obtain⟨u,v,k1,k2,k3⟩:=C.gx.co x t ht;exact r_con (C.gl hp.2) k1 k2 (CM hp.1).1 k3)
def WZ{Γ:Gm}{e:Expr}(t:Ji e)(a:Option (ER Γ e))(b:Option (ER Γ e)):Option (ER Γ e):=a.bind λa=>match b with
 |some b=>vl (Ct a.m b.m) (λC=>Ma (a.ok C).1 (b.ok C).1) t
 |none=>some a
def O0{Γ:Gm}{o:Expr}{f:Str}{pos:Pos}(r:ER Γ o)(hp:Fh o=true):(L:List (Str×Addr×List Str))->(∀c∈L,c∈Γ.ox.cl)->Option (ER Γ (.Attribute o f pos))
 |[],_=>none
 |c::L,hL=>oe (c.2.2.findIdx? (· == f)) (λj hj=>WZ trivial (vl (Bi c.2.1 c.2.2 j r.m) λC=>by
   obtain⟨h1,h2⟩:=C.gx.cl _ (hL _ (ya5 ..))
   have hf:f∈c.2.2:=by
    obtain⟨q1,q2,_⟩:=yb0.mp hj;rw[<- eq_of_beq q2];exact yb7 q1
   exact r_fld h1 (h2 f hf) hj (r.ok C).1 (PN hp)) (O0 r hp L λc h=>hL c (ya8 _ h))) (O0 r hp L λc h=>hL c (ya8 _ h))
theorem zi8       (r:ER Γ o)(a:AR Γ es)(hpo:Fh o=true)(hln:(ap.endLine == pos.line)=true)(hlen:es.length<30)(hm:(f,g)∈Γ.ox.mt)(hnf:g.2.1.contains f=false){X:Cx}   (C:CxOk Γ X E ca) :
  PE X (.Call (.Attribute o f ap) es [] pos) (tM X.K E ca (DG g.1 g.2.1 g.2.2.g r.m a.m)):=by
 obtain⟨hlv,⟨D⟩⟩:=C.gx.mt _ hm;have ho:=(r.ok C).1;have ha:=a.ok C;have hst:=a.st;have hnil:=a.nl;generalize a.m=ms at ha hnil
 clear a
 obtain⟨pl,ht⟩:=zdh (env:=X.env) hpo (by
  have:=E4 (env:=X.env) (pos:=pos) hst
  grind) hlen hln
 cases es with
 |cons e es=>exact zke D hnf C.room C.ps ho ha hlv (Bq (hst e (ya5 ..))) (E4 λx hx=>hst x (ya8 e hx)) ht
 |nil =>
  refine PE.weak (pmx0 D C.room C.ps ho hlv ht) λσ H Q h=>?_
  obtain⟨F,τ,R,S,q⟩:=QY hnf h;refine⟨F,τ,R,S,?_⟩;cases hm:r.m τ with
  |none=>rw[hm]at q;exact q
  |some r =>
   rw[hm]at q;cases r with
   |x c=>exact q
   |v t b =>
    intro F1 H1 x B e1 g1;obtain⟨a,dx,fs',h1,h2,h3,h4⟩:=q F1 H1 x B e1 g1;refine⟨a,dx,fs',h1,h2,h3,?_⟩;rw[hnil rfl]at h4;exact FZ h4
def OZ{Γ:Gm}{o:Expr}{f:Str}{ap pos:Pos}{es:List Expr}(r:ER Γ o)(a:AR Γ es)(hpo:Fh o=true)(hln:(ap.endLine == pos.line)=true)(hlen:es.length<30):(L:List (Str×Addr×List Str×Fn))->(∀c∈L,c∈Γ.ox.mt)->Option (ER Γ (.Call (.Attribute o f ap) es [] pos))
 |[],_=>none
 |c::L,hL=>if h:c.1=f/\c.2.2.1.contains f=false then WZ trivial (vl (DG c.2.1 c.2.2.1 c.2.2.2.g r.m a.m) λC=>zi8 r a hpo hln hlen (g:=c.2) (h.1▸hL c (ya5 ..)) h.2 C) (OZ r a hpo hln hlen L λc h=>hL c (ya8 _ h)) else OZ r a hpo hln hlen L λc h=>hL c (ya8 _ h)
def eAtt(D:Dc)(Γ:Gm)(o:Expr)(f:Str)(ap:Pos)(es:List Expr)(ks:List Keyword)(c:Pos):Option (ER Γ (.Call (.Attribute o f ap) es ks c)):=match ks with
 |[]=>gd (Fh o && (ap.endLine == c.line) && decide (es.length<30)) λhc=>(D.e Γ o).bind λr=>(D.a Γ es).bind λa =>
  have hc:(Fh o=true/\(ap.endLine == c.line)=true)/\es.length<30:=by
   rw[ya4,ya4,yee]at hc;exact hc
  if hf:f="index" then (match es,a with
   |[k],a=>(D.e Γ k).bind λmk=>vl (G3 r.m mk.m) λC=>by
    subst hf;exact zh7 (r.ok C).1 (mk.ok C).1 (PN hc.1.1) (Bq (es:=[]) (a.st k (ya5 ..))) hc.1.2
   |_,_=>none) else
  OZ r a hc.1.1 hc.1.2 hc.2 Γ.ox.mt λ_ h=>h
 |_=>none
def cmpB(op:CmpOp)(b:Expr):Option (CG op) :=
 Wf op
def eCmp(D:Dc)(Γ:Gm)(a:Expr)(ops:List CmpOp)(bs:List Expr)(pos:Pos):Option (ER Γ (.Compare a ops bs pos)):=match ops,bs with
 |[op],[b]=>gd (!(behindInMarks op b)) λhm=>(cmpB op b).bind λg=>(D.e Γ a).bind λra=>(D.e Γ b).bind λrb=>some ⟨BM (g2 g.g) (AB ra.m (AB rb.m AD)),λC =>
  have hm:=C7 hm
  ⟨SU (g.ok C) (ra.ok C).1 (rb.ok C).1 hm,λ_=>Rz (g.ok C) (ra.ok C).1 (rb.ok C).1 hm⟩⟩
 |[op,op'],[b,c]=>gd (!(lastMarks [op,op'] [b,c])) λhm=>(Wu op).bind λg=>(Wu op').bind λg'=>(D.e Γ a).bind λra=>(D.e Γ b).bind λrb=>(D.e Γ c).bind λrc=>some ⟨Ei g.g g'.g ra.m rb.m rc.m,λC =>
  have hm:=C7 hm
  ⟨r_chn (g.ok C) (g'.ok C) (ra.ok C).1 (rb.ok C).1 (rc.ok C).1 hm,λ_=>zkd (g.ok C) (g'.ok C) (ra.ok C).1 (rb.ok C).1 (rc.ok C).1 hm⟩⟩
 |_,_=>none
def eUn(D:Dc)(Γ:Gm)(op:UnaryOp)(a:Expr)(pos:Pos):Option (ER Γ (.UnaryOp op a pos)):=match op with
 |.USub=>(D.e Γ a).bind λr=>some ⟨BM (g1 Cp) (AB r.m AD),λC =>
  have hp:=Rx (pos:=pos) QH (r.ok C).1
  ⟨hp,λ_=>KN hp λ_=>rfl⟩⟩
 |.Not=>gd (DV a) λh=>(D.e Γ a).bind λr=>some ⟨Ai r.m,λC=>⟨SG (r.ok C).1,λ_=>Ry (r.t h C)⟩⟩
 |_=>none
def dP(D:Dc)(Γ:Gm):(o:Option Expr)->Option (PR Γ o)
 |none=>some ⟨none,λ_=>r_po0⟩
 |some e=>(D.e Γ e).bind λr=>some ⟨some r.m,λC=>r_po1 (r.ok C).1⟩
def eIx(D:Dc)(Γ:Gm)(a k:Expr)(pos:Pos):Option (ER Γ (.Subscript a k pos)):=gd (!(Im k)) λhs=>(D.e Γ a).bind λr=>(D.e Γ k).bind λrk =>
 if VI a || gtN Γ a then vl (Ic r.m rk.m) λC=>r_gt (by have:=C.room.units;omega) (r.ok C).1 (rk.ok C).1 (Sg (C7 hs)) else
 vl (AK r.m rk.m) λC=>r_ix (r.ok C).1 (rk.ok C).1 (Sg (C7 hs))
def eSub(D:Dc)(Γ:Gm)(a k:Expr)(pos:Pos):Option (ER Γ (.Subscript a k pos)):=match k with
 |.Slice lo hi st p=>(match st with
  |none=>(D.e Γ a).bind λr=>(dP D Γ lo).bind λrl=>(dP D Γ hi).bind λrh=>if Γ.ox.tx then vl (Ct (Eh r.m rl.m rh.m) (FH r.m rl.m rh.m)) λC=>Ma (SA (r.ok C).1 (rl.ok C) (rh.ok C)) (zew (r.ok C).1 (rl.ok C) (rh.ok C)) else vl (Eh r.m rl.m rh.m) λC=>SA (r.ok C).1 (rl.ok C) (rh.ok C)
  |_=>none)
 |k=>eIx D Γ a k pos
theorem KD(h:Cb e=true):starEach [e] env=[(false,eval e env)]:=Bq h
section
variable {Γ:Gm}{f:Str}{p:Pos}{e:Expr}{es:List Expr}{pos:Pos}{X:Cx}{E:L2.St->XK}{ca:Str->Value}
theorem bF(a:AR Γ (e::es))(hp:CB f=true)(hg:Be Γ.nm f=true)(hb:Γ.bl.contains f=true)(C:CxOk Γ X E ca){id}(hc:CJ X (.builtin id) (Di X.K g))(hv:bootBuiltins f=some (.builtin id)):PE X (.Call (.Name f p) (e::es) [] pos) (tM X.K E ca (BM g a.m)) :=
 zki hc (C.gl hg) (C.bl f (yam.mp hb)) hv (a.ok C) (CM hp).2.2 (CM hp).1 (Bq (a.st e (ya5 ..))) (E4 λx hx=>a.st x (ya8 e hx))
theorem XT(a:AR Γ (e::es))(hp:CB f=true)(hg:Be Γ.nm f=true)(hb:Γ.bl.contains f=true)(C:CxOk Γ X E ca){id}(hc:CJ X (.type id) (Di X.K g))(hv:bootBuiltins f=some (.type id)):PE X (.Call (.Name f p) (e::es) [] pos) (tM X.K E ca (BM g a.m)) :=
 SV hc (C.gl hg) (C.bl f (yam.mp hb)) hv (a.ok C) (CM hp).2.2 (CM hp).1 (Bq (a.st e (ya5 ..))) (E4 λx hx=>a.st x (ya8 e hx))
def Kz(a:AR Γ (e::es))(hp:CB f=true)(hg:Be Γ.nm f=true)(hb:Γ.bl.contains f=true):Option (ER Γ (.Call (.Name f p) (e::es) [] pos)) :=
 if hf:f="len" then vl (BM (g1 BW) a.m) λC=>by subst hf;exact bF a hp hg hb C zeb PySem.boot_len else
 if hf:f="list" then vl (BM (g1 CO) a.m) λC=>by subst hf;exact XT a hp hg hb C XA ycd else
 if hf:f="abs" then vl (BM (g1 Gd) a.m) λC=>by subst hf;exact bF a hp hg hb C zef PyProof.Rows.boot_abs else
 if hf:f="int" then vl (BM (g1 HY) a.m) λC=>by subst hf;exact XT a hp hg hb C zed PyProof.Rows.boot_int else
 if hf:f="all" then vl (BM (g1 EB) a.m) λC=>by subst hf;exact bF a hp hg hb C (zee C.calm) PyProof.Rows.boot_all else
 none
end
structure TyR(c:Str) where
 t:String
 ok:bootBuiltins c=some (.type t)
noncomputable def tyF(c:Str):Option (TyR c) :=
 if h:c="int" then some ⟨"int",by subst h;exact PyProof.Rows.boot_int⟩ else if h:c="bool" then some ⟨"bool",by subst h;exact PyProof.Rows.boot_bool⟩ else if h:c="str" then some ⟨"str",by subst h;exact PyProof.Rows.boot_str⟩ else
 if h:c="list" then some ⟨"list",by subst h;exact ycd⟩ else if h:c="tuple" then some ⟨"tuple",by subst h;exact PyProof.Rows.boot_tuple⟩ else none
def eIs(D:Dc)(Γ:Gm)(p:Pos)(e:Expr)(es:List Expr)(pos:Pos)(hg:Be Γ.nm "isinstance"=true)(hb:Γ.bl.contains "isinstance"=true):Option (ER Γ (.Call (.Name "isinstance" p) (e::es) [] pos)):=match es with
 |[.Name c p2]=>gd (Be Γ.nm c && CB c && Cb e) λhc=>(D.e Γ e).bind λr =>
  have hc:(Be Γ.nm c=true/\CB c=true)/\Cb e=true:=by
   rw[ya4,ya4]at hc;exact hc
  if hm:Γ.bl.contains c=true then (tyF c).bind λt=>vl (BM (g1 (Bn t.t)) (AB r.m AD)) λC =>
   r_isT t.ok (C.gl hg) (C.bl _ (yam.mp hb)) (C.gl hc.1.1) (C.bl _ (yam.mp hm)) (CM hc.1.2).2.2 (CM hc.1.2).1 (r.ok C).1 (Bq hc.2)
  else ob (Γ.ox.ci.lookup c) λtb ht=>vl (BM (g1 (Ip tb)) (AB r.m AD)) λC=>by
   obtain⟨_,k1,k2⟩:=C.gx.ci c tb ht;exact r_isC k2 (C.gl hg) (C.bl _ (yam.mp hb)) (C.gl hc.1.1) k1 (CM hc.1.2).1 (r.ok C).1 (Bq hc.2)
 |_=>none
def eSet(D:Dc)(Γ:Gm)(p:Pos)(e:Expr)(pos:Pos)(hg:Be Γ.nm "len"=true)(hb:Γ.bl.contains "len"=true):Option (ER Γ (.Call (.Name "len" p) [e] [] pos)):=match e with
 |.Call (.Name x p2) [a] [] p3=>if h:x="set" then gd (Be Γ.nm "set" && Γ.bl.contains "set" && Cb a) λhc=>(D.e Γ a).bind λr=>vl (BM (g1 IB) (AB r.m AD)) λC=>by
   rw[ya4,ya4]at hc;subst h;exact r_unq C.calm (C.gl hg) (C.bl _ (yam.mp hb)) (C.gl hc.1.1) (C.bl _ (yam.mp hc.1.2)) (r.ok C).1 (KD hc.2)
  else none
 |_=>none
def eKys(D:Dc)(Γ:Gm)(p:Pos)(e:Expr)(pos:Pos)(hp:CB "list"=true)(hg:Be Γ.nm "list"=true)(hb:Γ.bl.contains "list"=true):Option (ER Γ (.Call (.Name "list" p) [e] [] pos)):=if h:VI e=true then (D.e Γ e).bind λr=>vl (Ct (BM (g1 CO) (AB r.m AD)) (Fm r.m)) λC=>by
  have hns:Cb e=true:=by cases e<;>first|rfl|cases h
  have hst:=λenv=>KD (env:=env) hns
  have b:=yam.mp hb;exact Ma (SV XA (C.gl hg) (C.bl _ b) ycd (SS (r.ok C).1 SI (hst _)) (CM hp).2.2 (CM hp).1 (hst _) rfl) (r_kys C.calm (C.gl hg) (C.bl _ b) (r.ok C).1 (hst _))
 else none
def WY(Γ:Gm)(f:Str)(p:Pos)(e:Expr)(es:List Expr)(pos:Pos)(a:AR Γ (e::es))(hp:CB f=true)(hg:Be Γ.nm f=true):Option (ER Γ (.Call (.Name f p) (e::es) [] pos)) :=
 ob (Γ.fns.lookup f) λF hF=>vl (AO F.g a.m) λC=>by
  obtain⟨hl,⟨D⟩⟩:=C.fs f F hF;exact zkh D C.room C.ps (a.ok C) hl (C.gl hg) (CM hp).1 (Bq (a.st e (ya5 ..))) (E4 λx hx=>a.st x (ya8 e hx))
def eFn(Γ:Gm)(f:Str)(p:Pos)(e:Expr)(es:List Expr)(pos:Pos)(a:AR Γ (e::es))(hp:CB f=true)(hg:Be Γ.nm f=true):Option (ER Γ (.Call (.Name f p) (e::es) [] pos)) :=
 oe (Γ.ox.nw.lookup f) (λF hF=>ob (F.2.lookup (e::es).length) λdts hd=>vl (HW F.1.g dts a.m) λC=>by
   obtain⟨hl,CC,D,hD⟩:=C.gx.nw f F.1 F.2 hF;obtain⟨dvs,us,k1,k2,k3⟩:=hD _ _ hd;exact r_new D k1 k2 k3 C.room C.ps (a.ok C) hl (C.gl hg) (CM hp).1 (Bq (a.st e (ya5 ..))) (E4 λx hx=>a.st x (ya8 e hx))) <|
 oe (Γ.ox.dn.lookup f) (λy hy=>if es.length+1+y.2.length=y.1.ps.length then vl (AO (gD y.2 y.1.g) a.m) λC=>by
   obtain⟨hl,D,dvs,k1,k2⟩:=C.gx.dn f y hy;exact zh8 D k1 k2 C.room C.ps (a.ok C) hl (C.gl hg) (CM hp).1 (Bq (a.st e (ya5 ..))) (E4 λx hx=>a.st x (ya8 e hx))
  else WY Γ f p e es pos a hp hg) <|
 WY Γ f p e es pos a hp hg
def eCal(D:Dc)(Γ:Gm)(f:Str)(p:Pos)(es:List Expr)(ks:List Keyword)(pos:Pos):Option (ER Γ (.Call (.Name f p) es ks pos)):=match es,ks with
 |e::es,[]=>gd (CB f && Be Γ.nm f) λhc =>
  have hc:CB f=true/\Be Γ.nm f=true:=by
   rw[ya4]at hc;exact hc
  if hb:Γ.bl.contains f=true then
   (if hf : f = "isinstance" then (match f, hf, hc, hb with
    |_,rfl,hc,hb=>eIs D Γ p e es pos hc.2 hb) else
   match es with
   |[] =>
    (if hf : f = "len" then (match f, hf, hc, hb with
     |_,rfl,hc,hb=>(eSet D Γ p e pos hc.2 hb).orElse λ_=>(D.a Γ [e]).bind λa=>Kz a hc.1 hc.2 hb) else
    if hf:f="list" then (match f,hf,hc,hb with
     |_,rfl,hc,hb=>(eKys D Γ p e pos hc.1 hc.2 hb).orElse λ_=>(D.a Γ [e]).bind λa=>Kz a hc.1 hc.2 hb) else
    (D.a Γ [e]).bind λa=>Kz a hc.1 hc.2 hb)
   |_=>(D.a Γ _).bind λa=>Kz a hc.1 hc.2 hb)
  else (D.a Γ (e::es)).bind λa=>eFn Γ f p e es pos a hc.1 hc.2
 |_,_=>none
def Wc(Γ:Gm):(es:List Expr)->Option (GsR Γ es)
 |[]=>some ⟨B7,λ_=>⟨g_nil,rfl,rfl⟩⟩
 |e::es=>(match e with
  |.Name x p=>gd (Γ.loc x) λhl=>ob (DK Γ.N x) λi hi=>(Wc Γ es).bind λr=>some ⟨Ac (AF i) r.m,λ{X} {E} {ca} C=>by
   obtain⟨q1,q2,q3⟩:=r.ok C;refine⟨zmg (Ul C hl hi) q1 rfl,?_,?_⟩
   .show(assignEach es X.env).length+1=es.length+1;rw[q2]
   .show List.findIdx? (·.1) ((false,assign (.Name x p) X.env)::assignEach es X.env)=none
    rw[yda,q3]
    rfl⟩
  |_=>none)
def dG(Γ:Gm):(tg:Expr)->Option (GR Γ tg)
 |.Name x _=>gd (Γ.loc x) λhl=>ob (DK Γ.N x) λi hi=>some ⟨AF i,λC=>Ul C hl hi⟩
 |.Tuple es _ _=>(Wc Γ es).bind λr=>some ⟨BX es.length r.m,λC=>g_tup C.calm (r.ok C).1 (r.ok C).2.1 (r.ok C).2.2⟩
 |_=>none
def iV(D:Dc)(Γ:Gm)(tg e:Expr):Option (IR Γ tg e):=gd (Mq e) λh=>(D.e Γ e).bind λr=>if Γ.ox.tx then some ⟨BI r.m,λC=>zkf (r.ok C).1,h⟩ else some ⟨HZ r.m,λC=>SM (r.ok C).1,h⟩
theorem Ek(C:CxOk Γ X E ca)(h:(Be Γ.nm f && Γ.bl.contains f)=true):Gl X f/\X.mg f=none:=by
 rw[ya4]at h;exact⟨C.gl h.1,C.bl f (yam.mp h.2)⟩
def iRg(D:Dc)(Γ:Gm)(tg a:Expr)(p c:Pos):Option (IR Γ tg (.Call (.Name "range" p) [a] [] c)):=gd (Be Γ.nm "range" && Γ.bl.contains "range") λh=>(D.a Γ [a]).bind λr=>some ⟨Cy r.m,λC=>zex (Ek C h).1 (Ek C h).2 (r.ok C) (Bq (r.st a (ya5 ..))),rfl⟩
def iEn(D:Dc)(Γ:Gm)(tg a:Expr)(p c:Pos):Option (IR Γ tg (.Call (.Name "enumerate" p) [a] [] c)):=match tg with
 |.Tuple ..=>gd (Be Γ.nm "enumerate" && Γ.bl.contains "enumerate") λh=>(D.a Γ [a]).bind λr=>if Γ.ox.tx then some ⟨VP r.m,λC=>r_enX (Ek C h).1 (Ek C h).2 (r.ok C) (Bq (r.st a (ya5 ..))),rfl⟩ else
  some ⟨Dx r.m,λC=>SO (Ek C h).1 (Ek C h).2 (r.ok C) (Bq (r.st a (ya5 ..))),rfl⟩
 |_=>none
def iZp(D:Dc)(Γ:Gm)(tg a b:Expr)(p c:Pos):Option (IR Γ tg (.Call (.Name "zip" p) [a,b] [] c)):=match tg with
 |.Tuple ..=>gd (Be Γ.nm "zip" && Γ.bl.contains "zip") λh=>(D.a Γ [a,b]).bind λr=>some ⟨G7 r.m,λC =>
   have s2:=λenv=>KD (env:=env) (r.st b (ya8 _ (ya5 ..)))
   r_zip (Ek C h).1 (Ek C h).2 (r.ok C) (by rw[Bq (r.st a (ya5 ..)),s2]) (s2 _),rfl⟩
 |_=>none
def iE1(D:Dc)(Γ:Gm)(tg a:Expr)(p c:Pos)(k:Keyword):Option (IR Γ tg (.Call (.Name "enumerate" p) [a] [k] c)):=match tg,k with
 |.Tuple ..,⟨some y,.Constant (.int i) ko vp,kp⟩=>if hy:y="start"/\i=1 then gd (Be Γ.nm "enumerate" && Γ.bl.contains "enumerate") λh=>(D.a Γ [a]).bind λr=>some ⟨G8 r.m,λC=>by
   obtain⟨rfl,rfl⟩:=hy;exact r_en1 (Ek C h).1 (Ek C h).2 (r.ok C) (Bq (r.st a (ya5 ..))),rfl⟩ else none
 |_,_=>none
def dI(D:Dc)(Γ:Gm)(tg e:Expr):Option (IR Γ tg e):=match e with
 |.Call (.Name f p) es ks c=>(match es,ks with
  |[a],[]=>if h:f="range" then (match f,h with|_,rfl=>iRg D Γ tg a p c) else
   if h:f="enumerate" then (match f,h with|_,rfl=>iEn D Γ tg a p c) else
   iV D Γ tg _
  |[a,b],[]=>if h:f="zip" then (match f,h with|_,rfl=>iZp D Γ tg a b p c) else iV D Γ tg _
  |[a],[k]=>if h:f="enumerate" then (match f,h with|_,rfl=>iE1 D Γ tg a p c k) else none
  |_,_=>iV D Γ tg _)
 |e=>iV D Γ tg e
def dC(D:Dc)(Γ:Gm)(elt tg iter:Expr)(ifs:List Expr)(scope:Scope):Option (LR Γ elt tg iter ifs scope) :=
 gd (JJ Γ scope (Cm tg++DA scope.names)) λhb=>ob (JG Γ.N (DA scope.names)) λcaps hc=>(dI D Γ tg iter).bind λri=>(dG (Γ.blk scope (Cm tg++DA scope.names)) tg).bind λrg=>(D.e (Γ.blk scope (Cm tg++DA scope.names)) elt).bind λre=>match ifs with
  |[]=>some ⟨BN (Cm tg).length caps ri.m rg.m (mC (.bl true)) re.m,λ{X} {E} {ca} C=>⟨caps,ri.m,rg.m,_,re.m,rfl,XF C hb hc,ri.ok C,λcl A s₀ H₀ ex xb E' hp =>
    have C':=XH C hb cl A s₀ H₀ ex xb (E':=E') hp
    ⟨rg.ok C',λpins s σ H Q I q=>zhc pins s σ H Q I (MD (K:=X.K) (E:=E') (ca:=ca) q),(re.ok C').1⟩,OC ri.ns⟩⟩
  |[c]=>gd (DV c) λhk=>(D.e (Γ.blk scope (Cm tg++DA scope.names)) c).bind λrt=>some ⟨BN (Cm tg).length caps ri.m rg.m rt.m re.m,λ{X} {E} {ca} C=>⟨caps,ri.m,rg.m,rt.m,re.m,rfl,XF C hb hc,ri.ok C,λcl A s₀ H₀ ex xb E' hp =>
    have C':=XH C hb cl A s₀ H₀ ex xb (E':=E') hp
    ⟨rg.ok C',zhb (rt.t hk C'),(re.ok C').1⟩,OC ri.ns⟩⟩
  |_=>none
def eLC(D:Dc)(Γ:Gm)(elt:Expr)(gens:List Comprehension)(scope:Scope)(pos:Pos):Option (ER Γ (.ListComp elt gens scope pos)):=match gens with
 |[⟨tg,iter,ifs,0⟩]=>(dC D Γ elt tg iter ifs scope).bind λr=>vl r.m λC=>by
  obtain⟨caps,mi,b,mt,me,h,B,hi,hg,hs⟩:=r.ok C;rw[h];exact r_lcV B (cq:=λX=>X.calm=true) (λ_ _ _ _ _ _ _ _ _=>C.calm) (Si hi) C.ps C.fr (λcl A s H ex xb E' hp=>(hg cl A s H ex xb E' hp).1) (λcl A s H ex xb E' hp=>(hg cl A s H ex xb E' hp).2.1) (λcl A s H ex xb E' hp=>(hg cl A s H ex xb E' hp).2.2) hs
 |_=>none
def eIf(D:Dc)(Γ:Gm)(c a b:Expr)(pos:Pos):Option (ER Γ (.IfExp c a b pos)):=gd (DV c) λh=>(D.e Γ c).bind λrc=>(D.e Γ a).bind λra=>(D.e Γ b).bind λrb=>some ⟨DH rc.m ra.m rb.m,λC=>⟨r_ife (rc.t h C) (ra.ok C).1 (rb.ok C).1,λz=>by cases z⟩⟩
def dEs(D:Dc)(Γ:Gm):(e:Expr)->Option (ER Γ e)
 |.Constant c k pos=>eCst Γ c k pos
 |.Name x pos=>eNam Γ x pos
 |.Attribute o f pos=>gd (Fh o) λh=>(D.e Γ o).bind λr=>O0 r h Γ.ox.cl λ_ h=>h
 |.Call f es ks c=>(match f with
  |.Attribute o f ap=>eAtt D Γ o f ap es ks c
  |.Name f p=>eCal D Γ f p es ks c
  |_=>none)
 |.Compare a ops bs pos=>eCmp D Γ a ops bs pos
 |.BinOp a op b pos=>(opF op).bind λg=>(D.e Γ a).bind λra=>(D.e Γ b).bind λrb=>vl (BM (g2 g.g) (AB ra.m (AB rb.m AD))) λC=>r_bin g.ok (ra.ok C).1 (rb.ok C).1
 |.UnaryOp op a pos=>eUn D Γ op a pos
 |.BoolOp op vs pos=>(D.b Γ op vs).bind λr=>some ⟨r.m,λC=>⟨(r.ok C).1,λ_=>(r.ok C).2.pt⟩⟩
 |.IfExp c a b pos=>eIf D Γ c a b pos
 |.List es pos=>(D.o Γ es).bind λr=>vl (Bm r.m) λC=>SJ (r.ok C)
 |.Tuple es k pos=>(D.a Γ es).bind λr=>vl (BG r.m) λC=>r_tup (r.ok C)
 |.Subscript a k pos=>eSub D Γ a k pos
 |.ListComp elt gens scope pos=>eLC D Γ elt gens scope pos
 |_=>none
def dAs(D:Dc)(Γ:Gm):(es:List Expr)->Option (AR Γ es)
 |[]=>some ⟨AD,λ_=>SI,λ_ h=>(by cases h),λ_=>rfl⟩
 |e::es=>gd (Cb e) λh=>(D.e Γ e).bind λr=>(D.a Γ es).bind λa=>some ⟨AB r.m a.m,λC=>SS (r.ok C).1 (a.ok C) (Bq h),λx hx=>(yae.mp hx).elim (λz=>z▸h) (a.st x),λz=>by cases z⟩
def dOs(D:Dc)(Γ:Gm):(es:List Expr)->Option (OR Γ es)
 |[]=>some ⟨AD,λ_=>SH⟩
 |e::es=>gd (Cb e) λh=>(D.e Γ e).bind λr=>(D.o Γ es).bind λa=>some ⟨As r.m a.m,λC=>SQ (r.ok C).1 (a.ok C) (Bq h)⟩
def dBs(D:Dc)(Γ:Gm)(op:BoolOp):(es:List Expr)->Option (BR Γ op es)
 |[]=>none
 |[a]=>gd (DV a) λh=>(D.e Γ a).bind λr=>some ⟨r.m,λC=>⟨SE (r.ok C).1,by
   cases op with
   |And=>exact Rv (r.t h C)
   |Or=>exact Rt (r.t h C)⟩⟩
 |a::b::es=>gd (DV a) λh=>(D.e Γ a).bind λr=>(D.b Γ op (b::es)).bind λrb=>match op,rb with
  |.And,rb=>some ⟨Ba r.m rb.m,λC=>⟨SW (r.ok C).1 (rb.ok C).1,Rw (r.t h C) (rb.ok C).2⟩⟩
  |.Or,rb=>some ⟨BA r.m rb.m,λC=>⟨SD (r.ok C).1 (rb.ok C).1,Rq (r.t h C) (rb.ok C).2⟩⟩
noncomputable def pkB:List Str:=["len","isinstance","all","any","abs","min","max","int"]
def isLC:Expr->Bool
 |.ListComp ..=>true
 |_=>false
def B8:Nat->List Str->Expr->List Str
 |0,_,_=>[]
 |n+1,pk,e =>
  let peek:=λ(x:Expr)=>match x with
   |.Name _ _=>[]
   |x=>B8 n pk x
  match e with
  |.Name x _=>[x]
  |.BinOp a _ b _=>B8 n pk a++B8 n pk b
  |.UnaryOp _ a _=>B8 n pk a
  |.BoolOp _ vs _=>vs.flatMap (B8 n pk)
  |.Compare a _ bs _=>peek a++bs.flatMap peek
  |.IfExp c a b _=>B8 n pk c++B8 n pk a++B8 n pk b
  |.Call (.Name f _) args [] _=>if pkB.contains f || pk.contains f then args.flatMap peek else args.flatMap (B8 n pk)
  |.Call (.Attribute _ _ _) args [] _=>args.flatMap λa=>if isLC a then B8 n pk a else []
  |.Subscript a k _=>(match k with
   |.Slice lo hi _ _=>B8 n pk a++(match lo with|some e=>B8 n pk e|none=>[])++(match hi with|some e=>B8 n pk e|none=>[])
   |_=>peek a++B8 n pk k)
  |.List es _=>es.flatMap (B8 n pk)
  |.Tuple es _ _=>es.flatMap (B8 n pk)
  |.ListComp _ [⟨_,iter,_,_⟩] scope _=>B8 n pk iter++DA scope.names
  |_=>[]
def useS(pk:List Str):Stmt->List Str
 |.Expr (.Call (.Attribute (.Name _ _) _ _) [e] [] _) _=>B8 40 pk e
 |.Expr e _=>B8 40 pk e
 |.Return (some (.Name _ _)) _=>[]
 |.Return (some e) _=>B8 40 pk e
 |.Assign [.Subscript (.Subscript _ k _) j _] e _=>B8 40 pk k++B8 40 pk j++B8 40 pk e
 |.Assign [.Subscript _ k _] e _=>B8 40 pk k++B8 40 pk e
 |.Assign [_] e _=>B8 40 pk e
 |.If c _ _ _=>B8 40 pk c
 |.For _ it _ _ _=>B8 40 pk it
 |.While c _ _ _=>B8 40 pk c
 |_=>[]
def frzs(Γ:Gm)(s:Stmt):List Nat:=((useS Γ.pk s).filter (Γ.ow.contains ·)).eraseDups.filterMap (DK Γ.N)
def JA(l:List Nat)(m:AH):AH:=l.foldr (λi m=>AG (E9 i) m) m
def Jo(Γ:Gm)(x:Str)(px:Pos):Expr->Bool
 |.ListComp _ _ scope p=>Γ.nm.lookup x == some .local && px.line == p.line && !(scope.names.any λ(n,k)=>n == x && (k == .local || k == .cell))
 |_=>false
def Q6(Γ:Gm)(x:Str):Bool:=Γ.nm.lookup x == some .cell
def HE(Γ:Gm)(x:Str)(i:Nat)(m:AI):AH:=if Γ.ow.contains x then Dd i m else AV m (AF i)
def CZ(c:Str)(ms:Ao):AH:=λτ=>match ms τ with
 |some (.v ts _)=>if ts.length<=BO then some (.xc c τ) else none
 |some (.x c)=>some (.xc c τ)
 |none=>none
def KR(Γ:Gm)(x y:Str)(px py:Pos)(a b:Expr):Bool :=
 Γ.nm.lookup x == some .local && Γ.nm.lookup y == some .local && px.line == py.line && !(x == y) && Cb a && Cb b && !(foldedForSure 8 a && foldedForSure 8 b) && !(constantsAlone 8 a && constantsAlone 8 b) && CB x && CB y
section
variable {X:Cx}{E:L2.St->XK}{ca:Str->Value}{Γ:Gm}{mu:Bool}
theorem MT{rest}(h:Av X rest (tS X.K E ca mu w)):∀l ,Av X rest (tS X.K E ca mu (JA l w))
 |[]=>h
 |i::r=>s_frz (MT h r)
theorem IG(h:Ej e=false):swapsWith e t l env=pure false:=by
 cases e<;>first|rfl|cases h
theorem XD{env:Env}(h:env.scope.kind=.function):env.blockKind=.function:=by
 unfold Env.blockKind;rw[h]
 rfl
theorem zem(C:CxOk Γ X E ca){p px:Pos}{x:Str}{l:Nat}(h:Jo Γ x px (.ListComp elt gens scope p)=true):swapsWith (.ListComp elt gens scope p) (some (.Name x px)) l X.env=pure true:=by
 have e:swapsWith (.ListComp elt gens scope p) (some (.Name x px)) l X.env=pure (X.env.blockKind == .function && X.env.kindOf x == some .local && px.line == p.line && !(scope.names.any λ(n,k)=>n == x && (k == .local || k == .cell))):=rfl
 rw[e];unfold Jo at h
 simp only[ya4]at h;have k:X.env.kindOf x=some .local:=by
  show X.env.scope.names.lookup x=some .local;rw[C.nm]
  grind
 rw[XD C.kd,k,h.1.2,h.2]
 rfl
theorem zgu(C:CxOk Γ X E ca){px}(h:Q6 Γ x=true):swapsWith e (some (.Name x px)) l X.env=pure false:=by
 have k:X.env.kindOf x=some .cell:=by
  show X.env.scope.names.lookup x=some .cell;rw[C.nm];exact eq_of_beq h
 have c:(some NameKind.cell == some NameKind.local)=false:=rfl;cases e<;>first|rfl|(unfold swapsWith;grind)
theorem zcb(C:CxOk Γ X E ca){px py pt p2}(h:KR Γ x y px py a b=true):swappedStores [.Tuple [.Name x px,.Name y py] kt pt] (.Tuple [a,b] k2 p2) X.env=pure (some [x,y]):=by
 unfold KR at h;simp only[ya4,yct,ye7]at h;obtain⟨⟨⟨⟨⟨⟨⟨⟨⟨h1,h2⟩,h3⟩,h4⟩,h5⟩,h6⟩,h7⟩,h8⟩,_⟩,_⟩:=h
 have kx:X.env.kindOf x=some .local:=by
  show X.env.scope.names.lookup x=some .local;rw[C.nm];exact h1
 have ky:X.env.kindOf y=some .local:=by
  show X.env.scope.names.lookup y=some .local;rw[C.nm];exact h2
 have ed:[x,y].eraseDups=[x,y]:=by
  have:(y == x)=false:=by
   rw[beq_eq_false_iff_ne]at h4 ⊢;exact yar h4
  simp[List.eraseDups_cons,this,h4]
 have f1:(if (X.env.kindOf x == some NameKind.local && px.line == px.line)=true then some x else none)=some x:=by rw[kx,yen,yen];rfl
 have f2:(if (X.env.kindOf y == some NameKind.local && py.line == px.line)=true then some y else none)=some y:=by rw[ky,yen,<- h3,yen];rfl
 unfold swappedStores;dsimp only[List.length,List.any,List.all,List.filterMap,List.head?,Option.map,Option.getD,Expr.pos];simp only[f1,f2,ed];refine(if_neg ?_).trans ((if_neg ?_).trans ((if_neg ?_).trans ((if_neg ?_).trans (if_neg ?_))))
 .rw[XD C.kd]
  decide
 .intro z;rw[Bool.or_false,ybw]at z
  rcases z with z|z
  .cases a<;>first|(cases h5;done)|(cases z;done)
  .cases b<;>first|(cases h6;done)|(cases z;done)
 .show ¬ ((2 != 2 || 2 != 2)=true)
  decide
 .rw[yc6,h7];exact yav
 .rw[yc6,h8];exact yav
theorem MM(h:Ej e=false):swapsWithSole [t] e l env=pure false:=IG h
theorem Q7(h:Im k=false)(v):assign (.Subscript o k pos) env v=(do
   let ov <- holding [v] (eval o env);let iv <- holding [v,ov] (eval k env)
   standAt pos
   holding [v,ov,iv] (setItem ov iv v)
   release [v,ov,iv] []):=by
 cases k<;>first|rfl|cases h
theorem s_rse(C:CxOk Γ X E ca)(hnr:Γ.ox.nr=false)(hpn:EK c=none)(hc:c∈Γ.ex)(hg:Be Γ.nm c=true)(hp:CB c=true)(ha:PA X (e::es) (BY X.K E ca ms))(hs:∀x∈e::es,Cb x=true) :
  PS X (.Raise (some (.Call (.Name c p) (e::es) [] cpos)) none pos) (tS X.K E ca mu (CZ c ms)):=by
 obtain⟨T,hT,hni⟩:=C.ex c hc;obtain⟨p1,p2,p3⟩:=CM hp;refine PS.weak (zf1 T hni C.calm (C.md hnr) ha (C.gl hg) p1 (Bq (hs e (ya5 ..))) (E4 hs)) λD σ H h=>?_
 obtain⟨F,τ,R,S,q⟩:=h;refine⟨F,τ,R,S,?_⟩;unfold CZ at q;cases hm:ms τ with
 |none=>simp only[hm]at q<;>exact q.elim
 |some r =>
  simp only[hm]at q;cases r with
  |x c=>exact λF' H' e=>q F' H' σ R e.stp0 (S.ext e)
  |v ts b =>
   intro F' H' xs e1 rs
   by_cases hz:ts.length<=BO
   .simp only[hz,ye1]at q;refine⟨by rw[<- rs.1,<- FI];exact hz,?_⟩
    have:=(q F' H' σ R e1.stp0 (S.ext e1)).plain hpn;rw[hT]at this;exact this
   .simp only[hz,yej]at q<;>exact q.elim
end
theorem XX{px pos}(hl:Γ.loc x=true)(hi:DK Γ.N x=some i)(C:CxOk Γ X E ca)(he:PE X e (tM X.K E ca m))(sw:∀l,swapsWith e (some (.Name x px)) l X.env=pure false) :
  PS X (.Assign [.Name x px] e pos) (tS X.K E ca mu (HE Γ x i m)):=by
 obtain⟨g1,g2,g3⟩:=C.loc hl hi;unfold HE;split
 .exact zk8 C.nodup g1 g2 he (sw _) g3
 .exact Qo C.nodup g1 g2 he (sw _) g3
def aLC(D:Dc)(Γ:Gm)(x:Str)(i:Nat)(px pos:Pos)(hi:DK Γ.N x=some i):(e:Expr)->Option (SR Γ (.Assign [.Name x px] e pos))
 |.ListComp elt gens scope p=>gd (Jo Γ x px (.ListComp elt gens scope p)) λhw=>(match gens,hw with
  |[⟨tg,iter,ifs,0⟩],hw=>(dC D Γ elt tg iter ifs scope).bind λr=>some ⟨HE Γ x i r.m,λ{X} {E} {ca} C=>by
   have lx:X.env.scope.names.lookup x=some .local:=by
    unfold Jo at hw;simp only[ya4]at hw;rw[C.nm];exact eq_of_beq hw.1.1
   have hN:X.N[i]?=some x:=by rw[C.N];exact FK hi
   obtain⟨caps,mi,b,mt,me,h,B,hi',hg,hs⟩:=r.ok C;rw[h];have main:=r_lcS (pos2:=pos) B C.calm hi' C.ps C.fr (λcl A s H ex xb E' hp=>(hg cl A s H ex xb E' hp).1) (λcl A s H ex xb E' hp=>(hg cl A s H ex xb E' hp).2.1) (λcl A s H ex xb E' hp=>(hg cl A s H ex xb E' hp).2.2) hs C.nodup hN lx (zem C hw)
   unfold HE;split
   .exact PS.weak main λD σ H h=>QT h
   .exact PS.weak main λD σ H h=>MA (g:=Iz i) (λ_ _ _ _ z=>V7 z) h⟩
  |_,_=>none)
 |_=>none
def aNm(D:Dc)(Γ:Gm)(x:Str)(px:Pos)(e:Expr)(pos:Pos):Option (SR Γ (.Assign [.Name x px] e pos)):=gd (Γ.loc x) λhl=>ob (DK Γ.N x) λi hi =>
 if hc:Ej e=false then (D.e Γ e).bind λr=>some ⟨HE Γ x i r.m,λC=>XX hl hi C (r.ok C).1 λ_=>IG hc⟩
 else if hn:Q6 Γ x=true then (D.e Γ e).bind λr=>some ⟨HE Γ x i r.m,λC=>XX hl hi C (r.ok C).1 λ_=>zgu C hn⟩
 else aLC D Γ x i px pos hi e
def aPar(D:Dc)(Γ:Gm)(x y:Str)(px py:Pos)(kt:Nat)(pt:Pos)(a b:Expr)(k2:Nat)(p2 pos:Pos):Option (SR Γ (.Assign [.Tuple [.Name x px,.Name y py] kt pt] (.Tuple [a,b] k2 p2) pos)):=gd (KR Γ x y px py a b) λhp=>ob (DK Γ.N x) λi h1=>ob (DK Γ.N y) λj h2=>(D.a Γ [a,b]).bind λr=>some ⟨IK i j r.m,λ{X} {E} {ca} C=>by
 have hp':=hp;unfold KR at hp';simp only[ya4,yct,ye7]at hp';obtain⟨⟨⟨⟨⟨⟨⟨⟨⟨g1,g2⟩,g3⟩,g4⟩,_⟩,_⟩,_⟩,_⟩,_⟩,_⟩:=hp';have e1:X.N[i]?=some x:=by rw[C.N];exact FK h1
 have e2:X.N[j]?=some y:=by rw[C.N];exact FK h2
 have hij:i≠j:=λz=>by
  subst z;rw[e1]at e2;cases e2;simp at g4
 exact s_par C.calm C.nodup e1 e2 hij (by rw[C.nm];exact g1) (by rw[C.nm];exact g2) (r.ok C) (zcb C hp) rfl⟩
def aTup(D:Dc)(Γ:Gm)(ts:List Expr)(kt:Nat)(pt:Pos)(e:Expr)(pos:Pos):Option (SR Γ (.Assign [.Tuple ts kt pt] e pos)):=gd (!(zma e || Ej e)) λhc=>(dG Γ (.Tuple ts kt pt)).bind λrg=>(D.e Γ e).bind λr=>some ⟨AV r.m rg.m,λC=>by
 have hc':=C7 hc;rw[ybe]at hc';refine zk4 (r.ok C).1 (rg.ok C) (MM hc'.2) ?_ rfl;have ht:=hc'.1;cases e<;>first|rfl|cases ht⟩
def aTp(D:Dc)(Γ:Gm)(ts:List Expr)(kt:Nat)(pt:Pos)(e:Expr)(pos:Pos):Option (SR Γ (.Assign [.Tuple ts kt pt] e pos)) :=
 match ts,e with
 |[.Name x px,.Name y py],.Tuple [a,b] k2 p2=>aPar D Γ x y px py kt pt a b k2 p2 pos
 |ts,e =>
 aTup D Γ ts kt pt e pos
def aSto(D:Dc)(Γ:Gm)(x:Str)(p1:Pos)(j:Expr)(p3:Pos)(e:Expr)(pos:Pos):Option (SR Γ (.Assign [.Subscript (.Name x p1) j p3] e pos)):=gd (!(Im j || Ej e)) λhc=>ob (Γ.var x) λi hi=>(D.e Γ j).bind λrk=>(D.e Γ e).bind λr=>some ⟨HD i rk.m r.m,λC=>by
 have hc':=C7 hc;rw[ybe]at hc';obtain⟨v1,v2,v3,v4⟩:=C.var (pos:=p1) hi;refine s_sto v1 v2 v3 v4 (r.ok C).1 (rk.ok C).1 (MM hc'.2) ?_ (Q7 hc'.1);cases e<;>rfl⟩
theorem Nq{fs:List Str}(h:fs.findIdx? (· == f)=some j):f∈fs/\fs[j]?=some f:=by
 obtain⟨q1,q2,_⟩:=yb0.mp h
 grind
def aDpf(D:Dc)(Γ:Gm)(x f:Str)(p1 p2:Pos)(j:Expr)(p3:Pos)(e:Expr)(pos:Pos):Option (SR Γ (.Assign [.Subscript (.Attribute (.Name x p1) f p2) j p3] e pos)):=gd (!(Im j || Ej e)) λhc=>ob Γ.ox.sf λc hs=>ob (Γ.var x) λi hi=>ob (c.2.findIdx? (· == f)) λjj hj=>(D.e Γ j).bind λrk=>(D.e Γ e).bind λr=>some ⟨IL c.1 c.2 jj i rk.m r.m,λC=>by
 have hc':=C7 hc;rw[ybe]at hc';obtain⟨v1,v2,v3,v4⟩:=C.var (pos:=p1) hi;obtain⟨k1,k2⟩:=C.gx.sf c.1 c.2 hs;refine s_dpf (by have:=C.room.units;omega) k1 (k2 f (Nq hj).1) hj v1 v2 v3 v4 (r.ok C).1 (rk.ok C).1 (MM hc'.2) ?_ (Q7 hc'.1)
 cases e<;>rfl⟩
theorem WL(hs:Γ.ox.sf=some c)(hi:Γ.var x=some i)(hj:c.2.findIdx? (· == f)=some jj)(hc:(!((c.2.take jj).contains f || !(decide (jj<900)) || Ej e))=true)(C:CxOk Γ X E ca)(he:PE X e (tM X.K E ca m)) :
  PS X (.Assign [.Attribute (.Name x p1) f p2] e pos) (tS X.K E ca Γ.mu (DR c.1 c.2 jj i m)):=by
 have hc':=C7 hc;rw[ybe,ybe,Bool.not_eq_false',yee]at hc';obtain⟨⟨c1,c2⟩,c3⟩:=hc';obtain⟨v1,v2,v3,v4⟩:=C.var (pos:=p1) hi;obtain⟨k1,k2⟩:=C.gx.sf c.1 c.2 hs;exact zk9 k1 (k2 f (Nq hj).1) (Nq hj).2 c1 c2 v1 v2 v3 v4 he (IG c3)
def aFl(D:Dc)(Γ:Gm)(x f:Str)(p1 p2:Pos)(e:Expr)(pos:Pos):Option (SR Γ (.Assign [.Attribute (.Name x p1) f p2] e pos)):=ob Γ.ox.sf λc hs=>ob (Γ.var x) λi hi=>ob (c.2.findIdx? (· == f)) λjj hj=>gd (!((c.2.take jj).contains f || !(decide (jj<900)) || Ej e)) λhc=>match e,hc with
 |.Dict [] [] p,hc=>some ⟨DR c.1 c.2 jj i Kf,λC=>WL hs hi hj hc C zkg⟩
 |e,hc=>(D.e Γ e).bind λr=>some ⟨DR c.1 c.2 jj i r.m,λC=>WL hs hi hj hc C (r.ok C).1⟩
def aSub(D:Dc)(Γ:Gm)(a j:Expr)(p3:Pos)(e:Expr)(pos:Pos):Option (SR Γ (.Assign [.Subscript a j p3] e pos)):=match a with
 |.Name x p1=>aSto D Γ x p1 j p3 e pos
 |.Attribute (.Name x p1) f p2=>aDpf D Γ x f p1 p2 j p3 e pos
 |_=>none
def dAsg(D:Dc)(Γ:Gm)(ts:List Expr)(e:Expr)(pos:Pos):Option (SR Γ (.Assign ts e pos)):=match ts with
 |[t]=>(match t with
  |.Name x px=>aNm D Γ x px e pos
  |.Tuple ts kt pt=>aTp D Γ ts kt pt e pos
  |.Subscript a j p3=>aSub D Γ a j p3 e pos
  |.Attribute o f p2=>(match o with
   |.Name x p1=>aFl D Γ x f p1 p2 e pos
   |_=>none)
  |_=>none)
 |_=>none
def xApp(D:Dc)(Γ:Gm)(x:Str)(p:Pos)(f:Str)(apos:Pos)(a:Expr)(cpos pos:Pos):Option (SR Γ (.Expr (.Call (.Attribute (.Name x p) f apos) [a] [] cpos) pos)):=gd (Cb a) λh1=>gd (apos.endLine == cpos.line) λh2=>ob (Γ.var x) λi hi=>(D.e Γ a).bind λr =>
 if hf:f="append" then some ⟨De i r.m,λC=>by
  subst hf;obtain⟨v1,v2,v3,v4⟩:=C.var (pos:=p) hi;exact s_app v1 v2 v3 v4 (r.ok C).1 (KD h1) h2⟩ else
 none
def xExp(D:Dc)(Γ:Gm)(e:Expr)(pos:Pos):Option (SR Γ (.Expr e pos)):=gd (!(Ej e)) λhc=>(D.e Γ e).bind λr=>some ⟨GU r.m,λC=>s_exp (r.ok C).1 (IG (C7 hc))⟩
def dX(D:Dc)(Γ:Gm)(e:Expr)(pos:Pos):Option (SR Γ (.Expr e pos)):=match e with
 |.Call (.Attribute (.Name x p) f apos) [a] [] cpos=>xApp D Γ x p f apos a cpos pos
 |e=>xExp D Γ e pos
def xRet(D:Dc)(Γ:Gm)(o:Option Expr)(pos:Pos):Option (SR Γ (.Return o pos)):=gd (!Γ.mu) λhmu=>match o with
 |none=>some ⟨M4,λC=>by rw[C7 hmu];exact zk5⟩
 |some e=>(D.e Γ e).bind λr=>some ⟨AN r.m,λC=>by rw[C7 hmu];exact Qp (r.ok C).1⟩
def xRse(D:Dc)(Γ:Gm)(a b:Option Expr)(pos:Pos):Option (SR Γ (.Raise a b pos)):=match a,b with
 |some (.Call (.Name c p) (e::es) [] cp),none =>
  if hn:c="NoRun" then (match es with
   |[]=>gd (!(Γ.ox.nr)) λh1=>gd (Be Γ.nm "NoRun") λh3=>ob Γ.ox.rn λy hy=>(D.a Γ [e]).bind λr=>some ⟨Fe r.m,λC=>by
    subst hn;obtain⟨hk,⟨N⟩,hca⟩:=C.gx.rn y hy;exact s_rsN N hca C.room C.calm C.ps (C.mn (C7 h1)) (r.ok C) hk (C.gl h3) (Bq (r.st e (ya5 ..)))⟩
   |_=>none) else
  gd (!(Γ.ox.nr)) λh1=>gd ((EK c).isNone) λh0=>gd (Γ.ex.contains c) λh2=>gd (Be Γ.nm c) λh3=>gd (CB c) λh4=>(D.a Γ (e::es)).bind λr=>some ⟨CZ c r.m,λC=>s_rse C (C7 h1) (Option.isNone_iff_eq_none.mp h0) (yam.mp h2) h3 h4 (r.ok C) r.st⟩
 |_,_=>none
def xFor(D:Dc)(Γ:Gm)(tg it:Expr)(body els:List Stmt)(pos:Pos):Option (SR Γ (.For tg it body els pos)):=match els with
 |[]=>gd (!(Γ.ox.nr)) λh=>(dI D Γ tg it).bind λri=>(dG Γ tg).bind λrg=>(D.q Γ body).bind λr=>some ⟨CA ri.m rg.m r.m,λC=>s_for (C.po (C7 h)) C.calm (ri.ok C) (rg.ok C) (r.ok C) (OC ri.ns)⟩
 |_=>none
def xWh(D:Dc)(Γ:Gm)(c:Expr)(body els:List Stmt)(pos:Pos):Option (SR Γ (.While c body els pos)):=match els with
 |[]=>gd (!(Γ.ox.nr)) λh=>gd (DV c) λhk=>(D.e Γ c).bind λrc=>(D.q Γ body).bind λr=>some ⟨E7 rc.m r.m,λC=>s_wh (C.po (C7 h)) (rc.t hk C) (r.ok C)⟩
 |_=>none
structure CxS(Γ:Gm)(X:Cx)(ca:Str->Value):Prop where
 N:X.N=Γ.N
 nd:Γ.N.Nodup
 nm:X.env.scope.names=Γ.nm
 rm:Room Γ.lv (TC X.A)
 bl:∀b∈Γ.bl,X.mg b=none
 gx:GxOk Γ.ox Γ.lv X.prog X.w X.K X.mg X.base ca
theorem CxS.var(C:CxS Γ X ca)(h:Γ.var x=some i):X.N[i]?=some x/\DX X.env.scope x/\(x == "__debug__")=false/\(x == "__classdict__")=false:=by
 unfold Gm.var at h;split at h
 .rename_i hp;rw[ya4]at hp;obtain⟨p1,p2,p3⟩:=CM hp.1;exact⟨by rw[C.N];exact FK h,Py (by rw[C.nm];exact hp.2),p1,p2⟩
 .cases h
theorem CxS.gl(C:CxS Γ X ca)(h:Be Γ.nm x=true):Gl X x:=by
 show X.env.scope.names.lookup x=some .globalImplicit;rw[C.nm];exact eq_of_beq h
structure XR(Γ:Gm)(e:Expr) where
 m:AI
 ok:∀{X:Cx} {E:L2.St->XK} {ca:Str->Value},CxS Γ X ca->PE X e (tM X.K E ca m)/\(DV e=true->PT X e (BD X.K E ca m))
structure XQ(Γ:Gm)(ss:List Stmt) where
 m:AH
 ok:∀{X:Cx} {E:L2.St->XK} {ca:Str->Value},CxS Γ X ca->Av X ss (tS X.K E ca false m)
def xv{Γ:Gm}{e:Expr}(m:AI)(h:∀{X:Cx} {E:L2.St->XK} {ca:Str->Value},CxS Γ X ca->PE X e (tM X.K E ca m))(t:Ji e:=by trivial):Option (XR Γ e):=some ⟨m,λC=>⟨h C,λ_=>KN (h C) (QK t)⟩⟩
structure XO(Γ:Gm)(es:List Expr) where
 m:Ao
 ok:∀{X:Cx} {E:L2.St->XK} {ca:Str->Value},CxS Γ X ca->PA X es (HA X.K E ca m)
def Po{Γ:Gm}(f:(e:Expr)->Option (XR Γ e)):(es:List Expr)->Option (XO Γ es)
 |[]=>some ⟨AD,λ_=>SH⟩
 |e::es=>gd (Cb e) λh=>(f e).bind λr=>(Po f es).bind λa=>some ⟨As r.m a.m,λC=>SQ (r.ok C).1 (a.ok C) (Bq h)⟩
structure XB(Γ:Gm)(op:BoolOp)(es:List Expr) where
 m:AI
 ok:∀{X:Cx} {E:L2.St->XK} {ca:Str->Value} {pos:Pos},CxS Γ X ca->PE X (.BoolOp op es pos) (tM X.K E ca m)/\PW X (.BoolOp op es pos) (BD X.K E ca m)
def Pp{Γ:Gm}(f:(e:Expr)->Option (XR Γ e))(op:BoolOp):(es:List Expr)->Option (XB Γ op es)
 |[]=>none
 |[a]=>gd (DV a) λh=>(f a).bind λr=>some ⟨r.m,λC=>⟨SE (r.ok C).1,by
   cases op with
   |And=>exact Rv ((r.ok C).2 h)
   |Or=>exact Rt ((r.ok C).2 h)⟩⟩
 |a::b::es=>gd (DV a) λh=>(f a).bind λr=>(Pp f op (b::es)).bind λrb=>match op,rb with
  |.And,rb=>some ⟨Ba r.m rb.m,λC=>⟨SW (r.ok C).1 (rb.ok C).1,Rw ((r.ok C).2 h) (rb.ok C).2⟩⟩
  |.Or,rb=>some ⟨BA r.m rb.m,λC=>⟨SD (r.ok C).1 (rb.ok C).1,Rq ((r.ok C).2 h) (rb.ok C).2⟩⟩
def xIs(Γ:Gm)(f:(e:Expr)->Option (XR Γ e))(p:Pos)(a:Expr)(d:Str)(q c:Pos):Option (XR Γ (.Call (.Name "isinstance" p) [a,.Name d q] [] c)):=gd (Be Γ.nm "isinstance") λc1=>gd (Γ.bl.contains "isinstance") λc2=>gd (Be Γ.nm d) λc3=>gd (CB d) λc4=>gd (Cb a) λc5=>(f a).bind λr =>
 oe (Γ.ox.sb.lookup d) (λtb ht=>xv (BM (g1 (Cd tb)) (AB r.m AD)) λC=>by
  obtain⟨A,k1,k2⟩:=C.gx.sb d tb ht;exact SK (C.gl c1) (C.bl _ (yam.mp c2)) (Mf (v:=.ref A) (C.gl c3) k1 rfl (CM c4).1) ⟨A,.inl rfl⟩ k2 (r.ok C).1 (Bq c5)) <|
 ob (Γ.ox.sv.lookup d) λtb ht=>xv (BM (g1 (Cd tb)) (AB r.m AD)) λC=>by
  obtain⟨k0,t,k1,k2⟩:=C.gx.sv d tb ht;exact SK (C.gl c1) (C.bl _ (yam.mp c2)) (Ss (v:=.ty t) (C.gl c3) k0 k1 rfl (CM c4).2.2 (CM c4).1) ⟨0,.inr ⟨t,rfl⟩⟩ k2 (r.ok C).1 (Bq c5)
def xE(Γ:Gm):Nat->(e:Expr)->Option (XR Γ e)
 |0,_=>none
 |n+1,e=>match e with
  |.Name x p=>ob (Γ.var x) λi hi=>xv (AA i) λC=>by
   obtain⟨h1,h2,h3,h4⟩:=C.var hi;exact M9 h1 h2 h3 h4
  |.Constant c k p=>(match c with
   |.none=>xv (mC .non) λ_=>GW Sl λ_ _=>.non
   |.bool b=>xv (mC (.bl b)) λ_=>GW Su λ_ _=>.bl b
   |.int i=>xv (mC (.int i)) λ_=>GW So λ_ _=>.int i
   |_=>none)
  |.Attribute (.Name x p) f q=>if hf:f="step" then ob (Γ.var x) λi hi=>ob Γ.ox.rn λy hy=>xv (HV [y.1] (AA i)) λC=>by
   subst hf;obtain⟨h1,h2,h3,h4⟩:=C.var hi;obtain⟨_,⟨N⟩,_⟩:=C.gx.rn y hy;exact r_stp (λD hD=>by rw[yab.mp hD];exact N.sk) (M9 h1 h2 h3 h4) rfl else none
  |.UnaryOp .Not a p=>gd (DV a) λh=>(xE Γ n a).bind λr=>some ⟨Ai r.m,λC=>⟨SG (r.ok C).1,λ_=>Ry ((r.ok C).2 h)⟩⟩
  |.UnaryOp .USub a p=>(xE Γ n a).bind λr=>some ⟨BM (g1 Cp) (AB r.m AD),λC =>
   have hp:=Rx (pos:=p) QH (r.ok C).1
   ⟨hp,λ_=>KN hp λ_=>rfl⟩⟩
  |.BoolOp op vs p=>(Pp (xE Γ n) op vs).bind λr=>some ⟨r.m,λC=>⟨(r.ok C).1,λ_=>(r.ok C).2.pt⟩⟩
  |.List es p=>(Po (xE Γ n) es).bind λr=>xv (Bm r.m) λC=>SJ (r.ok C)
  |.Compare a [.In] [b] p=>gd (!(behindInMarks .In b)) λhm=>(xE Γ n a).bind λra=>(xE Γ n b).bind λrb=>some ⟨BM (g2 Bj) (AB ra.m (AB rb.m AD)),λC=>⟨SU (Mi C.rm.units) (ra.ok C).1 (rb.ok C).1 (C7 hm),λ_=>Rz (Mi C.rm.units) (ra.ok C).1 (rb.ok C).1 (C7 hm)⟩⟩
  |.Call (.Name f p) [a,.Name d q] [] c=>if hf:f="isinstance" then (match f,hf with|_,rfl=>xIs Γ (xE Γ n) p a d q c) else none
  |_=>none
def xS(Γ:Gm):Nat->(ss:List Stmt)->Option (XQ Γ ss)
 |0,_=>none
 |n+1,ss=>match ss with
  |[]=>some ⟨A4,λ_=>Qv⟩
  |s::r=>(match s with
   |.Return (some e) p=>(match r with
    |[]=>(xE Γ 50 e).bind λq=>some ⟨AN q.m,λC=>MS (Qp (q.ok C).1)⟩
    |_=>none)
   |.If c a b p=>gd (DV c) λh=>(xE Γ 50 c).bind λrc=>(xS Γ n a).bind λra=>(xS Γ n b).bind λrb=>(xS Γ n r).bind λrs=>some ⟨AG (A2 rc.m ra.m rb.m) rs.m,λC=>KC (RH ((rc.ok C).2 h) (ra.ok C) (rb.ok C)) (rs.ok C)⟩
   |.Assign [.Name x q] e p=>gd (Γ.loc x) λh1=>gd (Γ.nm.lookup x == some .local) λh2=>gd (!(Ej e)) λh3=>ob (DK Γ.N x) λi hi=>(xE Γ 50 e).bind λre=>(xS Γ n r).bind λrs=>some ⟨AG (AV re.m (AF i)) rs.m,λ{X} {E} {ca} C=>by
    have hl:X.env.scope.names.lookup x=some .local:=by rw[C.nm];exact eq_of_beq h2
    exact KC (Qo (by rw[C.N];exact C.nd) (by rw[C.N];exact FK hi) (.inl hl) (re.ok C).1 (IG (C7 h3)) (.inr hl)) (rs.ok C)⟩
   |_=>none)
theorem zmm{Γ:Gm}{X:Cx}(C:CxOk Γ X E ca)(hp:BB (Dz X pins xe) E'):CxOk { Γ with ox:={ Γ.ox with nr:=true}} (Dz X pins xe) E' ca :=
 ⟨C.N,C.nd,C.nm,C.kd,C.calm,C.room,C.ce,C.bl,hp,λz=>(by cases z),λz=>(by cases z),U6,C.fs,C.ex,C.ms,⟨C.gx.co,C.gx.cl,C.gx.mt,C.gx.nw,C.gx.sf,C.gx.xs,C.gx.sb,C.gx.sv,C.gx.ci,C.gx.x2,C.gx.wd,C.gx.ti,C.gx.dn,C.gx.rn⟩,C.tr,C.fr⟩
def xTr1(D:Dc)(Γ:Gm)(body:List Stmt)(W:Str)(np:Pos)(x:Str)(b0:Stmt)(suite:List Stmt)(hpos pos:Pos):Option (SR Γ (.Try body [.ExceptHandler (some (.Name W np)) (some x) (b0::suite) hpos] [] [] pos)):=gd (Γ.ox.df && !(Γ.ox.nr) && !(Γ.mu) && (Γ.nm.lookup x == some .local) && Be Γ.nm W && CB W) λhc=>ob (DK Γ.N x) λi hi=>ob (Γ.ox.xs.lookup W) λcs h2=>(D.q { Γ with ox:={ Γ.ox with nr:=true } } body).bind λu=>(xS Γ 50 (b0::suite)).bind λh=>some ⟨E8 i cs u.m h.m,λ{X} {E} {ca} C=>by
 simp only[ya4,yct]at hc;obtain⟨⟨⟨⟨⟨c1,c2⟩,c3⟩,c4⟩,c5⟩,c6⟩:=hc;obtain⟨T,hT⟩:=C.gx.xs W cs h2;obtain⟨t1,t2⟩:=C.tr c1;have g:∀(E':L2.St->XK) pins xe,BB (Dz X pins xe) E'->Av (Dz X pins xe) body (tS X.K E' ca Γ.mu u.m):=λE' pins xe hp=>u.ok (zmm C hp)
 generalize u.m=um at g ⊢;rw[c3]at g ⊢;exact s_try T hT t1 t2 C.nodup (by rw[C.N];exact FK hi) (by rw[C.nm];exact eq_of_beq c4) g (λa=>pss_e (h.ok ⟨C.N,C.nd,C.nm,⟨rfl,C.room.dp,C.room.un⟩,C.bl,C.gx⟩)) (C.gl c5) (CM c6).1⟩
def xTry(D:Dc)(Γ:Gm)(body:List Stmt)(hs:List ExceptHandler)(els Ax:List Stmt)(pos:Pos):Option (SR Γ (.Try body hs els Ax pos)):=match hs,els,Ax with
 |[.ExceptHandler (some (.Name W np)) (some x) (b0::suite) hpos],[],[]=>xTr1 D Γ body W np x b0 suite hpos pos
 |_,_,_=>none
def dSt(D:Dc)(Γ:Gm):(s:Stmt)->Option (SR Γ s)
 |.Pass _=>some ⟨A4,λ_=>zk7⟩
 |.Return o pos=>xRet D Γ o pos
 |.Expr e pos=>dX D Γ e pos
 |.Assign ts e pos=>dAsg D Γ ts e pos
 |.If c a b pos=>gd (DV c) λh=>(D.e Γ c).bind λrc=>(D.q Γ a).bind λra=>(D.q Γ b).bind λrb=>some ⟨A2 rc.m ra.m rb.m,λC=>RH (rc.t h C) (ra.ok C) (rb.ok C)⟩
 |.For tg it body els pos=>xFor D Γ tg it body els pos
 |.While c body els pos=>xWh D Γ c body els pos
 |.Raise a b pos=>xRse D Γ a b pos
 |.Try body hs els Ax pos=>xTry D Γ body hs els Ax pos
 |_=>none
def dSq(D:Dc)(Γ:Gm):(ss:List Stmt)->Option (QR Γ ss)
 |[]=>some ⟨A4,λ_=>Qv⟩
 |[s]=>(match D.s Γ s with
  |some r=>some ⟨JA (frzs Γ s) r.m,λC=>MT (MS (r.ok C)) _⟩
  |none=>if Γ.ox.no then some ⟨KE,λ_=>MS Qu⟩ else none)
 |s::s2::r=>(D.q Γ (s2::r)).bind λrs=>match D.s Γ s with
  |some q=>some ⟨JA (frzs Γ s) (AG q.m rs.m),λC=>MT (KC (q.ok C) (rs.ok C)) _⟩
  |none=>if Γ.ox.no then some ⟨AG KE rs.m,λC=>KC Qu (rs.ok C)⟩ else none
def GA:Nat->Dc
 |0=>⟨λ_ _=>none,λ_ _=>none,λ_ _=>none,λ_ _ _=>none,λ_ _=>none,λ_ _=>none⟩
 |n+1=>⟨dEs (GA n),dAs (GA n),dOs (GA n),dBs (GA n),dSt (GA n),dSq (GA n)⟩
def LB(n:Nat)(Γ:Gm)(ss:List Stmt):Option (AH):=((GA n).q Γ ss).map QR.m
structure GoodS(ca:Str->Value)(n:Nat):Prop where
 ss:∀{Γ:Gm} {X:Cx} {E:L2.St->XK} {st:List Stmt} {m:AH},CxOk Γ X E ca->LB n Γ st=some m->Av X st (tS X.K E ca Γ.mu m)
theorem VR(ca)(n):GoodS ca n:=⟨λC h=>by
 obtain⟨r,_,rfl⟩:=yaa.mp h;exact r.ok C⟩
end Pu
end
namespace Pu
open PySem PySem.Spec PyProof.Rows L2 Zw Zx
theorem Mv{K}:b=false->J4 (Ds (BH P w) P w K mg base N qual sc f cd A outer s H E) (λ_=>E):=λ_=>zlr
noncomputable def KH(n:Nat)(u:AH)(ts:List T):Option Ru:=match u (ts.map some++List.replicate (n - ts.length) none) with
 |some (.rt t)=>some (.ok t)
 |some (.nx _)=>some (.ok .non)
 |some (.xc c _)=>some (.exc c)
 |_=>none
def Ae(k n:Nat)(u:AH)(ts:List T):Option Ru:=if ts.length=k then KH n u ts else none
theorem MH(hR:∀i a,¬ R i a)(s:Stp F H (tot R) F' H' O'):Ext F H F' H' O' where
 hh:=λb u e=>s.kp b u (λ⟨i,z⟩=>hR i b z) e
 ff:=s.ff
 fh:=s.fh
 nb:=λb z=>(s.nw b z).elim (λ⟨i,w⟩=>absurd w (hR i b)) id
 nf:=λb u e=>(s.nf b u e).elim .inl λz=>z.elim (λ⟨i,w⟩=>absurd w (hR i b)) .inr
theorem Qa{K}(fh:AY F H)(r:Aa K F ts vs):StR K F H (start N vs) (ts.map some++List.replicate (N.length - ts.length) none) (λ_=>R0):=by
 have hl:=r.1;refine⟨fh,by simp[L2.start,hl],λi t e=>?_,λ_ _ z=>z.elim,λ_ _ _ _ z=>z.elim⟩
 unfold L2.start
 by_cases hi:i<ts.length
 .rw[yaw (by simpa using hi),ya3]at e
  obtain⟨t',e1,e2⟩:=yaa.mp e;cases e2;have hv:i<vs.length:=by omega
  refine⟨vs[i],?_,(r.2 i t vs[i] e1 (ya0 hv)).any⟩
  grind
 grind
theorem zkc{K}{N ps:List Str}(h:Au K ca (Ae ps.length N.length u) vs H Q E):tS K (λ_=>E) ca false u { nx:=λ_ H'=>Q .non H',rt:=Q} (start N vs) H:=by
 obtain⟨F',ts,fh,r,q⟩:=h;refine⟨F',_,_,Qa fh r,?_⟩;unfold Ae at q
 by_cases hl:ts.length=ps.length
 .simp only[hl]at q;unfold KH at q;cases ho:u (ts.map some++List.replicate (N.length - ts.length) none) with
  |none=>grind
  |some o =>
   simp only[ho]at q;cases o with
   |nx τ=>exact λF1 H1 σ1 R1 s1 S1=>q F1 H1 .non R0 ((MH (λ_ _ z=>z) s1).mono λ_ z=>z.elim) .non
   |rt t=>exact λF1 H1 x B s1 r1=>q F1 H1 x B (MH (λ_ _ z=>z) s1) r1
   |bk τ=>exact q.elim
   |ct τ=>exact q.elim
   |xc c τ=>exact λF1 H1 σ1 R1 s1 S1=>q F1 H1 ((MH (λ_ _ z=>z) s1).mono λ_ z=>z.elim)
 grind
theorem EV{K}{st:Stmt}{f:Addr}{Γ:Gm}(F:FunD K x qual st f fd)(S:FnScope N ps (Bf st))
  (hΓ:Γ.N=N) (hnm:Γ.nm=(Bf st).names) (hce:∀x∈Γ.ce,Γ.nm.lookup x=some .cell) (hlv:Γ.lv=k) (hbl:∀b∈Γ.bl,mg b=none)
  (hfs:∀f F,Γ.fns.lookup f=some F->F.lv<=k/\Nonempty (DefX P w K mg base F.lv f F.ps (Au K ca F.g))) (hex:∀c∈Γ.ex,∃T:ECls K mg c,ca c=.ref T.C/\Cw K T.C=some none)
  (hms:∀f F,Γ.mus.lookup f=some F->F.lv<=k/\Nonempty (DefX P w K mg base F.lv f F.ps (GP K ca F.g))) (hmu:Γ.mu=false) (hgx:GxOk Γ.ox k P w K mg base ca) (hu:LB n Γ (DM st)=some u):FnOk P w K mg base (BH P w) (k+1) f fd ps (Au K ca (Ae ps.length N.length u)):=by
 refine KY F S (λvs H Q E h=>?_) λcdv A outer s H vs Q E hr h=>?_
 .obtain⟨F',ts,_,r,q⟩:=h;unfold Ae at q
  by_cases hl:ts.length=ps.length
  .rw[<- r.1,hl]
  grind
 .have C:CxOk Γ (Ds (BH P w) P w K mg base N qual (Bf st) f cdv A outer s H E) (λ_=>E) ca:=by
   refine⟨hΓ.symm,by rw[hΓ];exact S.nd,hnm.symm,S.kind,rfl,by rw[hlv];exact hr,λy hy=>⟨rfl,hce y hy⟩,hbl,Mh,λ_=>ydg,λ_=>Mw,Mv,λf F e=>by rw[hlv];exact hfs f F e,hex,λf F e=>by rw[hlv];exact hms f F e,by rw[hlv];exact hgx,λ_=>⟨rfl,rfl⟩,⟨_,_,rfl,rfl⟩⟩
  have G:=(VR ca n).ss C hu;rw[hmu]at G;refine⟨_,G,?_⟩;exact zkc h
theorem zd2{K}(fh:AY F H)(r0:Rp K F H t0 x0 A)(r:Aa K F ts vs):StR K F H (start N (x0::vs)) ((t0::ts).map some++List.replicate (N.length - (t0::ts).length) none) (λi=>if i=0 then A else R0):=by
 have hl:=r.1;refine⟨fh,by simp[L2.start,hl],λi t e=>?_,λi a z=>?_,λi j a hij z1 z2=>?_⟩
 .unfold L2.start
  by_cases hi:i<(t0::ts).length
  .rw[yaw (by simpa using hi),ya3]at e
   obtain⟨t',e1,e2⟩:=yaa.mp e;cases e2;cases i with
   |zero =>
    cases e1;exact⟨x0,by simp,r0⟩
   |succ i =>
    have hi' :=by simpa using hi
    have hv:i<vs.length:=by omega
    refine⟨vs[i],?_,(r.2 i t vs[i] (by simpa using e1) (ya0 hv)).any⟩
    rw[yaw (by simpa using hv),ya3,yc4,ya0 hv]
    rfl
  grind
 .by_cases hi:i=0
  .subst hi;exact⟨t0,rfl⟩
  .simp only[hi,yej]at z;exact z.elim
 .by_cases hi:i=0
  .have hj:¬ j=0:=λz=>hij (hi.trans z.symm)
   simp only[hj,yej]at z2;exact z2
  .simp only[hi,yej]at z1;exact z1
theorem zgr:tot (λi=>if i=0 then A else R0)=A:=funext λa=>propext ⟨λ⟨i,z⟩=>by
 by_cases hi:i=0
 .grind
 .simp only[hi]at z;exact z.elim,λz=>⟨0,by simpa using z⟩⟩
theorem AL{α:Type}{P:α->Prop}:∀x∈([]:List α),P x:=λ_ h=>by cases h
theorem AJ{α:Type}{P:α->Prop}{a:α}{l:List α}(h:P a)(r:∀x∈l,P x):∀x∈a::l,P x:=λx hx=>by
 obtain rfl|hx:=yae.mp hx
 .exact h
 .exact r x hx
theorem Gs{P:List Value->Prop}(h:P []):∀us:List Value,us.length=0->P us:=λus e=>by
 cases us with
 |nil=>exact h
 |cons a r=>cases e
theorem CK{P:List Value->Prop}{k:Nat}(h:∀a us,us.length=k->P (a::us)):∀us:List Value,us.length=k+1->P us:=λus e=>by
 cases us with
 |nil=>cases e
 |cons a r=>exact h a r (Nat.succ.inj e)
theorem FY{P:List Value->Prop}(h:∀a,P [a]):∀us:List Value,us.length=1->P us:=CK λa=>Gs (h a)
theorem GJ{P:List Value->Prop}(h:∀a b,P [a,b]):∀us:List Value,us.length=2->P us:=CK λa=>CK λb=>Gs (h a b)
theorem QF{P:List Value->Prop}(h:∀a b c,P [a,b,c]):∀us:List Value,us.length=3->P us:=CK λa=>CK λb=>CK λc=>Gs (h a b c)
theorem Lv{P:List Value->Prop}(h:∀a b c d,P [a,b,c,d]):∀us:List Value,us.length=4->P us:=CK λa=>CK λb=>CK λc=>CK λd=>Gs (h a b c d)
theorem QE{P:List Value->Prop}(h:∀a b c d e,P [a,b,c,d,e]):∀us:List Value,us.length=5->P us:=CK λa=>CK λb=>CK λc=>CK λd=>CK λe=>Gs (h a b c d e)
theorem QD{P:List Value->Prop}(h:∀a b c d e f,P [a,b,c,d,e,f]):∀us:List Value,us.length=6->P us:=CK λa=>CK λb=>CK λc=>CK λd=>CK λe=>CK λf=>Gs (h a b c d e f)
section
variable {P:Program}{w:World}{K:k7}{mg:Str->Option Value}{base:Heap}{ca:Str->Value}{k:Nat}
theorem Am:∀f F,([]:List (Str×Fn)).lookup f=some F->F.lv<=k/\Nonempty (DefX P w K mg base F.lv f F.ps (Au K ca F.g)):=λ_ _ h=>by cases h
theorem zg3{x:Str}{F0:Fn}{l:List (Str×Fn)}(hk:F0.lv<=k)(D:DefX P w K mg base F0.lv x F0.ps (Au K ca F0.g))(r:∀f F,l.lookup f=some F->F.lv<=k/\Nonempty (DefX P w K mg base F.lv f F.ps (Au K ca F.g))) :
  ∀f F,((x,F0)::l).lookup f=some F->F.lv<=k/\Nonempty (DefX P w K mg base F.lv f F.ps (Au K ca F.g)):=λf F h=>by
 rw[ybd]at h;cases hf:f == x with
 |true =>
  rw[hf]at h;cases h;rw[eq_of_beq hf];exact⟨hk,⟨D⟩⟩
 |false=>rw[hf]at h;exact r f F h
theorem DF:∀f F,([]:List (Str×Fn)).lookup f=some F->F.lv<=k/\Nonempty (DefX P w K mg base F.lv f F.ps (GP K ca F.g)):=λ_ _ h=>by cases h
def Ju(K:k7):Sp:=λvs H Q _=>∃(a:Addr) (ns:List Int),vs=[.ref a]/\Gf K H a (ns.map V.int)/\ns.length<=63/\∀H',Q (.bl true) H'
theorem Gf.of{K:k7}{H:Hp}{a:Addr}{xs:List V}(hO:La H)(h:Ad K H a xs):Gf K H a xs:=by
 rcases h with (h|h)|h
 .rcases hO a with z|⟨o,ys,z⟩<;>rw[h]at z<;>cases z
 .exact .inl h
 .exact .inr h
def BF(ns:List Int):T:=.nd false .rl (ns.map T.int)
theorem Rk{F:Hp}:∀ns:List Int,Aa K F (ns.map T.int) (ns.map V.int)
 |[]=>.nil
 |n::r=>.cons (H:=F) (.int n) (Rk r)
end
def Ff(C:Addr)(fs:List Str)(k n:Nat)(u:AH)(p:Addr)(ts:List T):Option Ru:=if ts.length+1=k then (match u ((T.oob p C fs []::ts).map some++List.replicate (n - (ts.length+1)) none) with
 |some (.nx τ)=>(match FA τ 0 C fs with
  |some (q,l)=>if q=p then some (.ok (.obj (.ins C fs) (Bh l))) else none
  |none=>none)
 |some (.xc c _)=>some (.exc c)
 |_=>none) else none
open Classical in
def Ey(C:Addr)(fs:List Str)(k n:Nat)(u:AH)(ts:List T):Option Ru:=if h:∃r,∀p,Ff C fs k n u p ts=some r then some h.choose else none
theorem Rh{C:Addr}{fs:List Str}{k n:Nat}{u:AH}{ts:List T}{r:Ru}(h:∀p,Ff C fs k n u p ts=some r):Ey C fs k n u ts=some r:=by
 have hx:∃r,∀p,Ff C fs k n u p ts=some r:=⟨r,h⟩;unfold Ey;rw[dif_pos hx];have e:=(hx.choose_spec 0).symm.trans (h 0);exact e
theorem Ri{C:Addr}{fs:List Str}{k n:Nat}{u:AH}{ts:List T}{r:Ru}(h:Ey C fs k n u ts=some r)(p:Addr):Ff C fs k n u p ts=some r:=by
 unfold Ey at h;split at h
 .rename_i hx;cases h;exact hx.choose_spec p
 .cases h
theorem Vi{P:Program}{w:World}{K:k7}{mg:Str->Option Value}{base:Heap}{ca:Str->Value}{x qual:Str}{st:Stmt}{f:Addr}{fd:FuncData}{N ps:List Str}{k n:Nat}{Γ:Gm}{u:AH}{C:Addr}{fs:List Str}(F:FunD K x qual st f fd)(S:FnScope N ps (Bf st))
  (hΓ:Γ.N=N) (hnm:Γ.nm=(Bf st).names) (hce:∀x∈Γ.ce,Γ.nm.lookup x=some .cell) (hlv:Γ.lv=k) (hbl:∀b∈Γ.bl,mg b=none)
  (hfs:∀f F,Γ.fns.lookup f=some F->F.lv<=k/\Nonempty (DefX P w K mg base F.lv f F.ps (Au K ca F.g))) (hex:∀c∈Γ.ex,∃T:ECls K mg c,ca c=.ref T.C/\Cw K T.C=some none)
  (hms:∀f F,Γ.mus.lookup f=some F->F.lv<=k/\Nonempty (DefX P w K mg base F.lv f F.ps (GP K ca F.g))) (hmu:Γ.mu=false) (hgx:GxOk Γ.ox k P w K mg base ca) (hu:LB n Γ (DM st)=some u):FnOk P w K mg base (BH P w) (k+1) f fd ps (Fb K ca C (Ey C fs ps.length N.length u)):=by
 refine KY F S (λvs H Q E h=>?_) λcdv A outer s H vs Q E hr h=>?_
 .obtain⟨F',p,dx,ts,vs',_,rfl,_,_,r,q⟩:=h;cases hg:Ey C fs ps.length N.length u ts with
  |none=>rw[hg]at q;exact q.elim
  |some rr =>
   have h0:=Ri hg 0;unfold Ff at h0
   by_cases hl:ts.length+1=ps.length
   .rw[yat,<- r.1,hl]
   .rw[if_neg hl]at h0;cases h0
 .have CC:CxOk Γ (Ds (BH P w) P w K mg base N qual (Bf st) f cdv A outer s H E) (λ_=>E) ca:=by
   refine⟨hΓ.symm,by rw[hΓ];exact S.nd,hnm.symm,S.kind,rfl,by rw[hlv];exact hr,λy hy=>⟨rfl,hce y hy⟩,hbl,Mh,λ_=>ydg,λ_=>Mw,Mv,λf F e=>by rw[hlv];exact hfs f F e,hex,λf F e=>by rw[hlv];exact hms f F e,by rw[hlv];exact hgx,λ_=>⟨rfl,rfl⟩,⟨_,_,rfl,rfl⟩⟩
  have G:=(VR ca n).ss CC hu;rw[hmu]at G;refine⟨_,G,?_⟩;obtain⟨F',p,dx,ts,vs',fh,rfl,fp,hp,r,q⟩:=h;have r0:Rp K F' H (.oob p C fs []) (.ref p) (λa=>a=p\/∃j:Nat,R0 a):=.oob (xs:=[]) (λ_=>R0) fp (by rw[List.zip_nil_right];exact hp) rfl (λi t x h=>by simp at h) (λ_ _ _ _ z=>z.elim) (λ_ z=>z) (λ_ _ z=>z.elim)
  have hA:(λa=>a=p\/∃j:Nat,R0 a)=λa=>a=p:=funext λa=>propext ⟨λz=>z.elim id λ⟨_,w⟩=>w.elim,λz=>.inl z⟩
  refine⟨F',_,_,zd2 fh r0 r,?_⟩;unfold pS;rw[zgr,hA];cases hg:Ey C fs ps.length N.length u ts with
  |none=>rw[hg]at q;exact q.elim
  |some rr =>
   rw[hg]at q;have h0:=Ri hg p;unfold Ff at h0
   by_cases hl:ts.length+1=ps.length
   .rw[if_pos hl]at h0;have el:(T.oob p C fs []::ts).length=ts.length+1:=rfl;rw[el];cases ho:u ((T.oob p C fs []::ts).map some++List.replicate (N.length - (ts.length+1)) none) with
    |none=>rw[ho]at h0;cases h0
    |some o =>
     rw[ho]at h0;cases o with
     |nx τ =>
      simp only at h0;intro F1 H1 σ1 R1 s1 S1;cases hoo:FA τ 0 C fs with
      |none=>rw[hoo]at h0;cases h0
      |some ql =>
       obtain⟨q0,l⟩:=ql;rw[hoo]at h0;simp only at h0
       by_cases hq:q0=p
       .rw[if_pos hq]at h0;subst hq;cases h0;have h00:=Mj hoo;have S2:=S1.frz h00;obtain⟨y,ey,ry⟩:=S1.rep 0 _ h00;obtain⟨dx2,xs2,Rr,rfl,hA2,fp2,hp2,ro,dp⟩:=ry.oob_inv;have n1:∀a,R1 0 a->F1 a=none:=λa z=>(S1.dom z).1
        have r2:=ry.share (H':=H1) (EU (H:=H1) n1) λa u z q=>by rw[Fx z];exact q
        simp only at q;refine q (frz F1 H1 (R1 0)) H1 ⟨s1.ff.trans (EU n1),H9 S1.fh,s1.kp,λb z=>z.elim,λb u e=>?_⟩ r2
        by_cases hb:R1 0 b
        .exact(s1.nw b ⟨0,hb⟩).elim (λz=>.inr (.inl z)) λz=>.inr (.inr z)
        .rw[FL hb]at e;exact s1.nf b u e
       .rw[if_neg hq]at h0;cases h0
     |rt t=>cases h0
     |bk τ=>cases h0
     |ct τ=>cases h0
     |xc c τ =>
      cases h0;simp only at q;exact λF1 H1 σ1 R1 s1 S1=>q F1 H1 (s1.mono λ_ z=>z.elim)
   .rw[if_neg hl]at h0;cases h0
theorem CW{κ α:Type} [BEq κ]{P:κ->α->Prop}:∀y b,([]:List (κ×α)).lookup y=some b->P y b:=λ_ _ h=>by cases h
theorem C0{κ α:Type} [BEq κ] [LawfulBEq κ]{P:κ->α->Prop}{x:κ}{a:α}{l:List (κ×α)}(h:P x a)(r:∀y b,l.lookup y=some b->P y b):∀y b,((x,a)::l).lookup y=some b->P y b:=λy b e=>by
 rw[ybd]at e;cases hf:y == x with
 |true =>
  rw[hf]at e;cases e;rw[eq_of_beq hf];exact h
 |false=>rw[hf]at e;exact r y b e
theorem KJ{K:k7}{F:Hp}:∀ys:List Str,Aa K F (ys.map T.str) (ys.map V.str)
 |[]=>.nil
 |y::r=>.cons (H:=F) (.str y) (KJ r)
theorem UX{P:Str->Fn->List (Nat×List T)->Prop}:∀x F ds,([]:List (Str×Fn×List (Nat×List T))).lookup x=some (F,ds)->P x F ds:=λ_ _ _ h=>by cases h
theorem UY{P:Str->Fn->List (Nat×List T)->Prop}{l:List (Str×Fn×List (Nat×List T))}{x0:Str}{F0:Fn}{d0:List (Nat×List T)}(h:P x0 F0 d0)(r:∀x F ds,l.lookup x=some (F,ds)->P x F ds):∀x F ds,((x0,F0,d0)::l).lookup x=some (F,ds)->P x F ds:=λx F ds e=>by
 rw[ybd]at e;cases hf:x == x0 with
 |true =>
  rw[hf]at e;cases e;rw[eq_of_beq hf];exact h
 |false =>
  rw[hf]at e;exact r x F ds e
def WX(K:k7)(C:Addr):=(Kw K C,PySem.W.subIn K (.ref C) (.ref C),(PySem.W.clsIn K C).isSome,PySem.W.typeIn K (.ref C),PySem.W.findIn K (.ref C) "__getattribute__",PySem.W.findIn K (.ref C) "__getattr__",PySem.W.findIn K (.ref C) "__class__",PySem.W.mroIn K C (.type "object"),PySem.W.mroIn K C (.type "BaseException"))
def He{K:k7}{mg:Str->Option Value}{x:Str}(g:PySem.W.specialIn K (.builtin "object.__class__") "__get__"=some (some (.builtin "getset_descriptor.__get__"))/\PySem.W.takesIn K (.builtin "object.__class__")=some true)(C:Addr)(m:mg x=some (.ref C))(h:WX K C=(true,some true,true,some (.type "type"),some (some (.builtin "BaseException.__getattribute__")),some none,some (some (.builtin "object.__class__")),some true,some true)):ECls K mg x:=⟨C,m,by
 unfold WX at h;simp only[Prod.mk.injEq,ycl]at h;obtain⟨h1,h2,h3,h4,h5,h6,h7,h8,h9⟩:=h;exact⟨h1,h2,h3,h4,h5,h6,h7,h8,h9,g.1,g.2⟩⟩
theorem ID{K:k7}{A:Value}{tb:List (Addr×Bool)}(e:∀C∈tb.map Prod.fst,ExcK K C)(h:(tb.all λx=>PySem.W.kitOne K (.ref x.1) A == some x.2)=true):∀C b,tb.lookup C=some b->ExcK K C/\PySem.W.kitOne K (.ref C) A=some b:=λC b hl=>by
 obtain⟨l,r,q,_⟩:=List.lookup_eq_some_iff.mp hl;have hm:(C,b)∈tb:=by rw[q];exact yag _ (.head _)
 exact⟨e C (List.mem_map_of_mem hm),eq_of_beq (yau.mp h (C,b) hm)⟩
theorem xs_of{K:k7}{mg:Str->Option Value}{W:Str}{ca:Str->Value}{cs:List (Str×Addr)}(T:ECls K mg W)(h:(cs.all λe=>(match ca e.1 with|.ref a=>a == e.2|_=>false) && PySem.W.subIn K (.ref e.2) (.ref T.C) == some true)=true):∃T:ECls K mg W,∀c C,cs.lookup c=some C->ca c=.ref C/\PySem.W.subIn K (.ref C) (.ref T.C)=some true:=⟨T,λc C hl=>by
 have h:=yau.mp h _ (yba hl);rw[ya4]at h;refine⟨?_,eq_of_beq h.2⟩;have h:=h.1;cases e:ca c with
 |ref a =>
  simp only[e]at h;rw[eq_of_beq h]
 |_ =>
  simp only[e]at h;cases h⟩
theorem Al{G:Gx}{lv:Nat}{P:Program}{w:World}{K:k7}{mg:Str->Option Value}{base:Heap}{ca:Str->Value}
  (co:∀x t,G.co.lookup x=some t->∃u v,mg x=some u/\A5 v u/\∀F:Hp,Rp K F F t v R0:=by exact CW)
  (cl:∀c∈G.cl,Cls K c.2.1/\∀f∈c.2.2,Bz K c.2.1 f:=by exact AL)
  (mt:∀c∈G.mt,c.2.2.2.lv<=lv/\Nonempty (MetX P w K mg base c.2.1 c.1 c.2.2.2.lv c.2.2.2.ps (Au K ca c.2.2.2.g)):=by exact AL)
  (nw:∀x F ds,G.nw.lookup x=some (F,ds)->F.lv+1<=lv/\∃(C:Addr) (D:NewX P w K mg base x C F.lv F.ps (Fb K ca C F.g)),∀k dts,ds.lookup k=some dts->∃dvs us,Ci K D.fd F.ps us/\A9 dvs us/\∀H:Hp,Aa K H dts dvs:=by exact UX)
  (sf:∀C fs,G.sf=some (C,fs)->Cls K C/\∀f∈fs,Bz K C f:=by exact(λ_ _ h=>by cases h))
  (xs:∀W cs,G.xs.lookup W=some cs->∃T:ECls K mg W,∀c C,cs.lookup c=some C->ca c=.ref C/\PySem.W.subIn K (.ref C) (.ref T.C)=some true:=by exact CW)
  (sb:∀D tb,G.sb.lookup D=some tb->∃A:Addr,mg D=some (.ref A)/\∀C b,tb.lookup C=some b->ExcK K C/\PySem.W.kitOne K (.ref C) (.ref A)=some b:=by exact CW)
  (sv:∀D tb,G.sv.lookup D=some tb->mg D=none/\∃t,bootBuiltins D=some (.type t)/\∀C b,tb.lookup C=some b->ExcK K C/\PySem.W.kitOne K (.ref C) (.type t)=some b:=by exact CW)
  (ci:∀x tb,G.ci.lookup x=some tb->∃D:Addr,mg x=some (.ref D)/\(∀C b,tb.lookup C=some b->ICls K C/\PySem.W.kitOne K (.ref C) (.ref D)=some b)/\(Jh.all λa=>PySem.W.kitOne K (.type a) (.ref D) == some false)=true:=by exact CW)
  (x2:∀W1 W2 cs,(W1,W2,cs)∈G.x2->∃(T1:ECls K mg W1) (T2:ECls K mg W2),∀c C,cs.lookup c=some C->ca c=.ref C/\PySem.W.subIn K (.ref C) (.ref T1.C)=some false/\PySem.W.subIn K (.ref C) (.ref T2.C)=some true:=by exact(λ_ _ _ h=>by cases h))
  (wd:∀x F,G.wd.lookup x=some F->F.lv<=lv/\∃p,F.ps=[p]/\Nonempty (DefS P w K mg base F.lv x p (Au K ca F.g)):=by exact CW)
  (ti:∀C∈G.ti,TiOk K C:=by exact AL)
  (dn:∀x y,G.dn.lookup x=some y->y.1.lv<=lv/\∃(D:DefX P w K mg base y.1.lv x y.1.ps (Au K ca y.1.g)) (dvs:List V),DefsX K D.fd y.1.ps dvs/\∀H:Hp,Aa K H y.2 dvs:=by exact CW)
  (rn:∀y,G.rn=some y->y.2+1<=lv/\Nonempty (StpX P w K mg base "NoRun" y.1 y.2)/\ca "NoRun"=.ref y.1:=by exact(λ_ h=>by cases h))
  : GxOk G lv P w K mg base ca:=⟨co,cl,mt,nw,sf,xs,sb,sv,ci,x2,wd,ti,dn,rn⟩
theorem MQ{N ps:List Str}{sc:Scope}(h:(sc.kind=.function/\sc.isCoroutine=false/\sc.isGenerator=false)/\N.Nodup/\N.take ps.length=ps/\(∀x∈ps,sc.names.lookup x=some .local\/sc.names.lookup x=some .cell)/\∀y∈sc.names,y.2≠.free):FnScope N ps sc:=⟨h.1.1,h.1.2.1,h.1.2.2,h.2.1,h.2.2.1,h.2.2.2.1,h.2.2.2.2⟩
structure Qx(P:Program)(w:World)(K:k7)(mg:Str->Option Value)(base:Heap)(ca:Str->Value):Prop where
 m:∀(x:Str) (a:Addr),PySem.W.nsIn K mainGlobals x=some (some (.ref a))->mg x=some (.ref a)
structure Ck(Γ:Gm)(f:Fn)(st:Stmt)(u:AH):Prop where
 s:FnScope Γ.N f.ps (Bf st):=by exact MQ (by decide +kernel)
 k:LB 200 Γ (DM st)=some u:=by ext
theorem Ab{P:Program}{w:World}{K:k7}{mg:Str->Option Value}{base:Heap}{ca:Str->Value}{k:Nat}{x:Str}{F0:Fn}{l:List (Str×Fn)}(D:DefX P w K mg base F0.lv x F0.ps (Au K ca F0.g))(r:∀f F,l.lookup f=some F->F.lv<=k/\Nonempty (DefX P w K mg base F.lv f F.ps (Au K ca F.g)))(hk:F0.lv<=k:=by decide) :
  ∀f F,((x,F0)::l).lookup f=some F->F.lv<=k/\Nonempty (DefX P w K mg base F.lv f F.ps (Au K ca F.g)):=zg3 hk D r
def BE{P:Program}{w:World}{K:k7}{mg:Str->Option Value}{base:Heap}{ca:Str->Value}(q:Qx P w K mg base ca){x:Str}{st:Stmt}{oc:Value}{od an:Option Addr}{osl:Array (Option Value)}{dV kV doc pm cdv ct:Value}{Γ:Gm}{f:Fn}{u:AH}(a:Addr){o:Obj}
  (S:Ck Γ f st u) (hbl:∀b∈Γ.bl,mg b=none) (hfs:∀g F,Γ.fns.lookup g=some F->F.lv<=Γ.lv/\Nonempty (DefX P w K mg base F.lv g F.ps (Au K ca F.g))) (hgx:GxOk Γ.ox Γ.lv P w K mg base ca) (hce:∀x∈Γ.ce,Γ.nm.lookup x=some .cell:=by exact AL) (hex:∀c∈Γ.ex,∃T:ECls K mg c,ca c=.ref T.C/\Cw K T.C=some none:=by exact AL)
  (hms:∀g F,Γ.mus.lookup g=some F->F.lv<=Γ.lv/\Nonempty (DefX P w K mg base F.lv g F.ps (GP K ca F.g)):=by exact DF) (ho:o=⟨oc,od,.func (PySem.W.fnOf x x (Fz st) (DM st) (Bf st) dV kV doc pm an cdv ct),osl⟩:=by exact rfl) (l:K.lookup a=some o:=by ext) (c:PySem.W.codeIn K cdv x=true:=by ext) (k:PySem.W.keepIn K (.ref a)=true:=by ext) (m:PySem.W.nsIn K mainGlobals x=some (some (.ref a)):=by ext)
  (b:Ci K (PySem.W.fnOf x x (Fz st) (DM st) (Bf st) dV kV doc pm an cdv ct) f.ps []:=by first|exact .all (FY λ_=>rfl)|exact .all (GJ λ_ _=>rfl)|exact .all (QF λ_ _ _=>rfl)|exact .all (Lv λ_ _ _ _=>rfl)|exact .all (QE λ_ _ _ _ _=>rfl)|exact .all (QD λ_ _ _ _ _ _=>rfl))
  (hnm:Γ.nm=(Bf st).names:=by rfl) (hlv:Γ.lv+1=f.lv:=by rfl) (hmu:Γ.mu=false:=by rfl) (hg:f.g=Ae f.ps.length Γ.N.length u:=by rfl):DefX P w K mg base f.lv x f.ps (Au K ca f.g) :=
 ⟨a,_,by rw[hg,<- hlv];exact EV (Cz (l.trans (congrArg some ho)) c k) S.s rfl hnm hce rfl hbl hfs hex hms hmu hgx S.k,q.m x a m,k,b⟩
mutual
def T.age:T->T
 |.nd o k l=>match o,k with
  |false,.lst=>.nd false .rl (Ar l)
  |false,.pin _=>.nd false .rl (Ar l)
  |_,_=>.nd o k (Ar l)
 |.dic ks l=>.dic ks (Ar l)
 |.pdc ks l=>.pdc ks (Ar l)
 |.odc ks l=>.odc ks (Ar l)
 |.obj k l=>.obj k (Ar l)
 |.oob p C fs l=>.oob p C fs (Ar l)
 |.osd ks l=>.osd ks (Ar l)
 |.non=>.non
 |.bl b=>.bl b
 |.int i=>.int i
 |.str x=>.str x
def Ar:List T->List T
 |[]=>[]
 |t::r=>t.age::Ar r
end
theorem Cf:∀l ,Ar l=l.map T.age
 |[]=>rfl
 |t::r=>by rw[Ar,Cf r];rfl
def ag(F:Hp)(h:Heap)(G:Hp):Hp:=λb=>match F b with
 |some (.lst xs)=>(match h.get? b with
  |some o=>some (.frz o (.lst xs))
  |none=>none)
 |_=>G b
section
variable {K:k7}{F H G:Hp}{h:Heap}{b:Addr}{xs:List V}{o:Obj}{t:T}{x:V}{A:Rg}
theorem P1(e:F b=some (.lst xs))(ho:h.get? b=some o):ag F h G b=some (.frz o (.lst xs)):=by
 unfold ag;rw[e];simp only[ho]
theorem GC(e:∀xs,F b≠some (.lst xs)):ag F h G b=G b:=by
 unfold ag;split
 .rename_i ys q;exact absurd q (e ys)
 .rfl
theorem Em  (e:F b=some u)(n:∀xs,u≠.lst xs):ag F h F b=some u:=by
 rw[GC λxs q=>n xs (yak (e.symm.trans q)),e]
theorem Rp.age(hh:∀b xs,F b=some (.lst xs)->∃o,h.get? b=some o)(r:Rp K F H t x A):Rp K (ag F h F) (ag F h H) t.age x A:=by
 have nn:∀{p } {G },F p=none->ag F h G p=G p:=λe=>GC λxs q=>by rw[e]at q;cases q
 have kid:∀{l } {xs:List V} {R:Nat->Rg},(∀(i ) (t ) (x:V),l[i]?=some t->xs[i]?=some x->Rp K (ag F h F) (ag F h H) t.age x (R i))->∀(i ) (t:T) (x:V),(Ar l)[i]?=some t->xs[i]?=some x->Rp K (ag F h F) (ag F h H) t x (R i):=fun  ih i t x h1 h2=>by
  rw[Cf,ya3]at h1;obtain⟨t0,e0,rfl⟩:=yaa.mp h1;exact ih i t0 x e0 h2
 have len:∀{l } {n },l.length=n->(Ar l).length=n:=fun  e=>by rw[Cf,ya1];exact e
 induction r with
 |non=>exact .non
 |bl b=>exact .bl b
 |int i=>exact .int i
 |str y=>exact .str y
 |@shr k p xs l hn e c ih =>
  cases k with
  |lst =>
   obtain⟨o,ho⟩:=hh p xs hn;exact .shr (.inl ⟨o,P1 hn ho⟩) (len e) (kid ih)
  |pin q =>
   obtain⟨o,ho⟩:=hh p xs hn;exact .shr (.inl ⟨o,P1 hn ho⟩) (len e) (kid ih)
  |rl =>
   refine .shr ?_ (len e) (kid ih)
   rcases hn with ⟨o,q⟩|q
   .exact .inl ⟨o,Em q (λ_ z=>by cases z)⟩
   .exact .inr q
  |tup=>exact .shr (Em hn (λ_ z=>by cases z)) (len e) (kid ih)
  |rt =>
   refine .shr ?_ (len e) (kid ih)
   rcases hn with (q|⟨o,q⟩)|q
   .exact .inl (.inl (Em q (λ_ z=>by cases z)))
   .exact .inl (.inr ⟨o,Em q (λ_ z=>by cases z)⟩)
   .exact .inr q
 |dic hn e ek c ih=>exact .dic (Em hn (λ_ z=>by cases z)) (len e) ek (kid ih)
 |pdc hn e ek c ih=>exact .pdc (Em hn (λ_ z=>by cases z)) (len e) ek (kid ih)
 |odc f hn e ek c ih=>exact .odc ((nn f).trans f) ((nn f).trans hn) (len e) ek (kid ih)
 |@obj k p xs l hn e c ih =>
  refine .obj ?_ (len e) (kid ih);cases k with
  |ins C fs=>exact hn.elim λdx q=>⟨dx,Em q (λ_ z=>by cases z)⟩
  |exn C =>
   obtain⟨dx,⟨ob,q,r⟩,s⟩:=hn;exact⟨dx,⟨ob,Em q (λ_ z=>by cases z),r⟩,λv hv=>let ⟨d,od,u,e,h1,r⟩:=s v hv;⟨d,od,u,e,Em h1 (λ_ z=>by cases z),r⟩⟩
  |sdc ks=>exact⟨hn.1,Em hn.2 (λ_ z=>by cases z)⟩
  |lab q=>exact hn
 |oob R f hn e c d dp o ih=>exact .oob R ((nn f).trans f) ((nn f).trans hn) (len e) (kid ih) d dp λi a z=>by rw[Cf,ya1];exact o i a z
 |osd f hn e ek c ih=>exact .osd ((nn f).trans f) ((nn f).trans hn) (len e) ek (kid ih)
 |@own k p xs l hk R f hn e c d dp o ih =>
  have r:Rp K (ag F h F) (ag F h H) (.nd true k (Ar l)) (.ref p) (λa=>a=p\/∃i,R i a):=.own hk R ((nn f).trans f) ((nn f).trans hn) (len e) (kid ih) d dp λi a z=>by rw[Cf,ya1];exact o i a z
  exact r
theorem zjd(s:AY F H):AY (ag F h F) (ag F h H):=λb u e=>by
 cases q:F b with
 |none=>rw[GC (λxs z=>by rw[q]at z;cases z),q]at e;cases e
 |some v =>
  by_cases l:∃xs,v=.lst xs
  .obtain⟨xs,rfl⟩:=l;rw[<- e];unfold ag;rw[q]
  .have n :=λxs z=>l ⟨xs,yak (q.symm.trans z)⟩
   rw[GC n]at e ⊢;exact s b u e
theorem StR.age(hh:∀b xs,F b=some (.lst xs)->∃o,h.get? b=some o)(S:StR K F H σ τ R):StR K (ag F h F) (ag F h H) σ (τ.map (Option.map T.age)) R where
 fh:=zjd S.fh
 len:=by rw[ya1];exact S.len
 rep:=λi t e=>by
  rw[ya3]at e;obtain⟨ot,e1,e2⟩:=yaa.mp e;obtain⟨t0,rfl,rfl⟩:=yaa.mp e2;obtain⟨x,ex,r⟩:=S.rep i t0 e1;exact⟨x,ex,r.age hh⟩
 out:=λi a z=>by
  obtain⟨t,e⟩:=S.out i a z;exact⟨t.age,by rw[ya3,e];rfl⟩
 dis:=S.dis
end
section
variable {X:Cx}{pins:List (Addr×Obj)}{σ:L2.St}{F H:Hp}{s:Shared}
theorem VJ(I:Inv X pins σ H s)(fh:AY F H):∀b xs,F b=some (.lst xs)->∃o,s.heap.get? b=some o:=λb xs e=>by
 obtain⟨_,its,n,_,q⟩:=I.hok b _ (fh _ _ e);exact⟨_,q⟩
theorem zir(I:Inv X pins σ H s)(fh:AY F H):Inv X pins σ (ag F s.heap H) s:=by
 have nf:∀{b },H b=none->ag F s.heap H b=none:=fun  e=>by rw[GC (λxs z=>by rw[fh _ _ z]at e;cases e)];exact e
 have nl:∀{b } {u },H b=some u->(∀xs,u≠.lst xs)->ag F s.heap H b=some u:=fun  e n=>by
  rw[GC (λxs z=>n xs (yak (e.symm.trans (fh _ _ z))))];exact e
 refine { I with base:=⟨I.base.keep,I.base.slot,λb o e n hx=>nf (I.base.free b o e n hx),I.base.there,λb xs e=>nl (I.base.tups b xs e) (λ_ z=>by cases z),λb o u e=>nl (I.base.frzs b o u e) (λ_ z=>by cases z),λb ps e=>?_⟩,free:=nf I.free,freeC:=λx c e=>nf (I.freeC x c e),pin:=λp hp=>?_,hok:=λa o e=>?_ }
 .obtain⟨more,q⟩:=I.base.tbls b ps e;exact⟨more,nl q (λ_ z=>by cases z)⟩
 .obtain⟨h1,h2,h3⟩:=I.pin p hp;exact⟨h1,nf h2,h3⟩
 .have st :=λ{u} q=>(I.hok a u q).stay (λ_ _ _ e=>e) (λb e=>nl e (λ_ z=>by cases z)) λb xs e=>nl e (λ_ z=>by cases z)
  cases q:F a with
  |none=>rw[GC (λxs z=>by rw[q]at z;cases z)]at e;exact st e
  |some v =>
   by_cases l:∃xs,v=.lst xs
   .obtain⟨xs,rfl⟩:=l;obtain⟨ob,ho⟩:=VJ I fh a xs q;rw[P1 q ho]at e;cases e;exact⟨ho,st (fh _ _ q)⟩
   .rw[GC (λxs z=>l ⟨xs,yak (q.symm.trans z)⟩)]at e
    exact st e
end
def GV(w:AH):AH:=λτ=>w (τ.map (Option.map T.age))
theorem s_age{rest}(h:Av X rest (tL X.K w)):Av X rest (tL X.K (GV w)):=λpins s σ H D I ⟨F,τ,R,S,q⟩ =>
 h pins s σ (ag F s.heap H) D (zir I S.fh) ⟨ag F s.heap F,_,R,S.age (VJ I S.fh),q⟩
def G6:Bool->Kd->Bool
 |false,.lst=>false
 |false,.pin _=>false
 |_,_=>true
mutual
def T.noL:T->Bool
 |.nd o k l=>G6 o k && Bc l
 |.dic _ l=>Bc l
 |.pdc _ l=>Bc l
 |.odc _ l=>Bc l
 |.obj _ l=>Bc l
 |.oob _ _ _ l=>Bc l
 |.osd _ l=>Bc l
 |.non=>true
 |.bl _=>true
 |.int _=>true
 |.str _=>true
def Bc:List T->Bool
 |[]=>true
 |t::r=>t.noL && Bc r
end
theorem FD:∀{l},Bc l=true->∀{i:Nat} {t},l[i]?=some t->t.noL=true
 |[],_,i,t,e=>by simp at e
 |a::r,h,i,t,e=>by
  rw[Bc,ya4]at h;cases i with
  |zero=>cases e;exact h.1
  |succ j=>exact FD h.2 (by simpa using e)
def ofL(F:Hp):Hp:=λb=>match F b with
 |some (.lst _)=>none
 |u=>u
theorem Ed(e:F b=some u)(n:∀xs,u≠.lst xs):ofL F b=some u:=by
 unfold ofL;rw[e];split
 .rename_i xs q;exact absurd (yak q) (n xs)
 .rfl
theorem KZ{F:Hp}{b:Addr}(e:F b=none):ofL F b=none:=by unfold ofL;rw[e]
theorem ofL_l(e:F b=some (.lst xs)):ofL F b=none:=by unfold ofL;rw[e]
theorem zfd:AY (ofL F) F:=λb u e=>by
 unfold ofL at e;split at e
 .cases e
 .exact e
theorem Rp.ofL{K}(r:Rp K F H t x A)(n:t.noL=true)(k:∀a,A a->H' a=H a):Rp K (ofL F) H' t x A:=by
 induction r with
 |non=>exact .non
 |bl b=>exact .bl b
 |int i=>exact .int i
 |str y=>exact .str y
 |@shr k0 p xs l hn e c ih =>
  rw[T.noL,ya4]at n;have ch:=λi t x h1 h2=>ih i t x h1 h2 (FD n.2 h1) λa z=>z.elim
  cases k0 with
  |lst=>cases n.1
  |pin q=>cases n.1
  |rl =>
   refine .shr ?_ e ch
   rcases hn with ⟨o,q⟩|q
   .exact .inl ⟨o,Ed q (λ_ z=>by cases z)⟩
   .exact .inr q
  |tup=>exact .shr (Ed hn (λ_ z=>by cases z)) e ch
  |rt =>
   refine .shr ?_ e ch
   rcases hn with (q|⟨o,q⟩)|q
   .exact .inl (.inl (Ed q (λ_ z=>by cases z)))
   .exact .inl (.inr ⟨o,Ed q (λ_ z=>by cases z)⟩)
   .exact .inr q
 |dic hn e ek c ih=>exact .dic (Ed hn (λ_ z=>by cases z)) e ek λi t x h1 h2=>ih i t x h1 h2 (FD n h1) λa z=>z.elim
 |pdc hn e ek c ih=>exact .pdc (Ed hn (λ_ z=>by cases z)) e ek λi t x h1 h2=>ih i t x h1 h2 (FD n h1) λa z=>z.elim
 |odc f hn e ek c ih=>exact .odc (KZ f) ((k _ rfl).trans hn) e ek λi t x h1 h2=>ih i t x h1 h2 (FD n h1) λa z=>z.elim
 |@obj k0 p xs l hn e c ih =>
  refine .obj ?_ e λi t x h1 h2=>ih i t x h1 h2 (FD n h1) λa z=>z.elim
  cases k0 with
  |ins C fs=>exact hn.elim λdx q=>⟨dx,Ed q (λ_ z=>by cases z)⟩
  |exn C =>
   obtain⟨dx,⟨ob,q,r⟩,s⟩:=hn;exact⟨dx,⟨ob,Ed q (λ_ z=>by cases z),r⟩,λv hv=>let ⟨d,od,u,e,h1,r⟩:=s v hv;⟨d,od,u,e,Ed h1 (λ_ z=>by cases z),r⟩⟩
  |sdc ks=>exact⟨hn.1,Ed hn.2 (λ_ z=>by cases z)⟩
  |lab q=>exact hn
 |oob R f hn e c d dp o ih=>exact .oob R (KZ f) ((k _ (.inl rfl)).trans hn) e (λi t x h1 h2=>ih i t x h1 h2 (FD n h1) λa z=>k a (.inr ⟨i,z⟩)) d dp o
 |osd f hn e ek c ih=>exact .osd (KZ f) ((k _ rfl).trans hn) e ek λi t x h1 h2=>ih i t x h1 h2 (FD n h1) λa z=>z.elim
 |own hk R f hn e c d dp o ih =>
  rw[T.noL,ya4]at n;exact .own hk R (KZ f) ((k _ (.inl rfl)).trans hn) e (λi t x h1 h2=>ih i t x h1 h2 (FD n.2 h1) λa z=>k a (.inr ⟨i,z⟩)) d dp o
def DJ:Option T->Option T
 |some t=>if t.noL then some t else none
 |none=>none
theorem zck(h:DJ o=some t):o=some t/\t.noL=true:=by
 unfold DJ at h
 grind
def Ew(mo ma:AI):AH:=λτ=>match mo τ with
 |some (.v (.nd false .lst l) false)=>(match ma τ with
  |some (.v _ false)=>if l.length<BO then some (.nx (τ.map DJ)) else none
  |_=>none)
 |_=>none
theorem zcd(h:Ew mo ma τ=some (.nx τ')):∃l t,mo τ=some (.v (.nd false .lst l) false)/\ma τ=some (.v t false)/\l.length<BO/\τ'=τ.map DJ:=by
 unfold Ew at h
 grind
theorem zd8(h:Ew mo ma τ=some o):∃τ',o=.nx τ':=by
 unfold Ew at h
 grind
theorem zh6{rest}(ho:PE X o (tM X.K E ca mo))(he:PE X e (tM X.K E ca ma))(hbase:attributeBase o "append" X.env (eval o X.env)=eval o X.env)(hs:starEach [e] X.env=[(false,eval e X.env)])(hline:(apos.endLine == cpos.line)=true)(h2:Av X rest (tL X.K w)) :
  Av X (.Expr (.Call (.Attribute o "append" apos) [e] [] cpos) pos::rest) (tL X.K (AG (Ew mo ma) w)):=by
 refine Av.weak (KP (Mb (Mg ycr PySem.F.slot_list_append PySem.F.type_list_append U3 ho (Dk he Ec hs) hbase (by rw[hs];rfl) hline hs rfl) rfl) h2) λD σ H h=>?_
 obtain⟨F,τ,R,S,q⟩:=h;obtain⟨b,hb,q⟩:=IF (K:=X.K) q;refine⟨F,τ,R,S,?_⟩;unfold AG at hb;cases hp:Ew mo ma τ with
 |none=>rw[hp]at hb;cases hb
 |some oo =>
  obtain⟨τ',rfl⟩:=zd8 hp;rw[hp]at hb;simp only at hb;obtain⟨l,t,hm,hm2,hz,rfl⟩:=zcd hp;rw[hm];intro F1 H1 x B e1 g1;have g1' :=g1;obtain⟨p,rfl⟩:=g1'.ref_inv;obtain⟨xs,hN,hr⟩:=Aa.node g1';have hF :=hN;refine⟨.inl ⟨rfl,xs,Ad.of (e1.fh _ _ hF)⟩,F1,τ,R,S.ext e1,?_⟩;rw[hm2];intro F2 H2 y B2 e2 g2;have hF2:=e2.ff _ _ hF;refine⟨p,xs,y,rfl,rfl,e2.fh _ _ hF2,by rw[<- hr.1,<- FI];exact hz,?_⟩
  have S2:=(S.ext e1).ext e2;refine⟨Pu.ofL F2,τ.map DJ,λi a=>R i a/\∃t,(τ.map DJ)[i]?=some (some t),⟨λb u z=>?_,by simpa using S2.len,λi t e=>?_,λi a z=>z.2,λi j a hij z1 z2=>S2.dis i j a hij z1.1 z2.1⟩,?_⟩
  .have np:b≠p:=λz2=>by rw[z2,ofL_l hF2]at z;cases z
   rw[A3 np];exact e2.fh _ _ (zfd _ _ z)
  .have e':=e;rw[ya3]at e;obtain⟨o,e1',e2'⟩:=yaa.mp e;obtain⟨rfl,hd⟩:=zck e2';obtain⟨x,ex,r⟩:=S2.rep i t e1';refine⟨x,ex,?_⟩;have hA:(λa=>R i a/\∃t,(τ.map DJ)[i]?=some (some t))=R i:=funext λa=>propext ⟨λz=>z.1,λz=>⟨z,t,e'⟩⟩
   rw[hA]
   exact r.ofL hd λa z=>A3 λq=>by
    have:=(r.dom z).1;rw[q,hF2]at this;cases this
  .rw[hb];exact q
def EF(K:k7)(g:List T->Option Ru):Sp:=λvs H Q _=>∃F ts,AY F H/\Aa K F ts vs/\∃b,g ts=some (.ok (.bl b))/\∀H',Q (.bl b) H'
def GS(g:List T->Option Ru)(ms:Ao):AH:=λτ=>match ms τ with
 |some (.v ts _)=>(match g ts with
  |some (.ok (.bl b))=>some (.rt (.bl b))
  |_=>none)
 |_=>none
theorem zd7{g:List T->Option Ru}{ms:Ao}{τ:AM}{b:Bool}(h:GS g ms τ=some (.rt (.bl b))):∃ts z,ms τ=some (.v ts z)/\g ts=some (.ok (.bl b)):=by
 unfold GS at h
 grind
def BsOk(B:List (Str×Fn))(k:Nat)(X:Cx):Prop:=∀g F,B.lookup g=some F->F.lv<=k/\Nonempty (DefX X.prog X.w X.K X.mg X.base F.lv g F.ps (EF X.K F.g))
theorem zk6{X:Cx}{E:L2.St->XK}{ca:Str->Value}{k j:Nat}{x:Str}{ps:List Str}{e:Expr}{es:List Expr}{p pos pos':Pos}{ms:Ao}{g:List T->Option Ru}(D:DefX X.prog X.w X.K X.mg X.base k x ps (EF X.K g))(hr:Room j X.A)(hx:BB X E)(ha:PA X (e::es) (BY X.K E ca ms))(hk:k<=j)(hg:Gl X x)(hdb:(x == ("__debug__":Str))=false)
  (he:starEach (e::es) X.env=(false,eval e X.env)::starEach es X.env) (hpl:(backTo pos (starEach es X.env)).any (·.1)=false):PS X (.Return (some (.Call (.Name x p) (e::es) [] pos)) pos') (tL X.K (GS g ms)):=by
 refine PS.weak (Se (px D hr hx ha hk hg hdb he hpl)) λD σ H h=>?_
 obtain⟨F,τ,R,S,q⟩:=h;obtain⟨b,hb,q⟩:=IF (K:=X.K) q;obtain⟨ts,z,h1,h2⟩:=zd7 hb;refine⟨F,τ,R,S,?_⟩;rw[h1];intro F1 H1 xs e1 rs;have S1:=S.ext e1;rw[ybu];exact⟨Gz z F1 H1 R,ts,Kn S1,rs,b,h2,q⟩
structure LL(Γ:Gm)(B:List (Str×Fn))(ss:List Stmt) where
 m:AH
 ok:∀{X:Cx} {E:L2.St->XK} {ca:Str->Value},CxOk Γ X E ca->Γ.mu=false->BsOk B Γ.lv X->Av X ss (tL X.K m)
def Uv{Γ:Gm}{B:List (Str×Fn)}{ss:List Stmt}:Bool->LL Γ B ss->LL Γ B ss
 |true,r=>⟨GV r.m,λC h b=>s_age (r.ok C h b)⟩
 |false,r=>r
theorem Uu{X:Cx}{rest:List Stmt}{w:AH}(h:Av X rest (tL X.K w)):∀l:List Nat,Av X rest (tL X.K (JA l w))
 |[]=>h
 |i::r=>Av.weak (Uu h r) λ_ _ _ z=>zju z
def lPoke(D:Dc)(Γ:Gm)(B:List (Str×Fn))(s:Stmt)(r:List Stmt)(rs:LL Γ B r):Option (LL Γ B (s::r)):=match s with
 |.Expr (.Call (.Attribute (.Subscript y k q) f a) [e] [] c) p=>gd (f == ("append":Str) && (Cb e && (a.endLine == c.line))) λhc=>(D.e Γ (.Subscript y k q)).bind λro=>(D.e Γ e).bind λre=>some ⟨AG (Ew ro.m re.m) rs.m,λC hm hb=>by
   rw[ya4,ya4]at hc;obtain⟨h1,h2,h3⟩:=hc;have h1:=eq_of_beq h1;subst h1;exact zh6 (ro.ok C).1 (re.ok C).1 rfl (Bq (es:=[]) h2) h3 (rs.ok C hm hb)⟩
 |_=>none
def lRet(D:Dc)(Γ:Gm)(B:List (Str×Fn))(s:Stmt):Option (LL Γ B [s]):=match s with
 |.Return (some (.Call (.Name f p) (e::es) [] pos)) pos'=>ob (B.lookup f) λF hF=>gd (CB f && Be Γ.nm f) λhc=>(D.a Γ (e::es)).bind λa=>some ⟨GS F.g a.m,λC _ hb=>by
   rw[ya4]at hc;obtain⟨hl,⟨Df⟩⟩:=hb f F hF
   exact Av.weak (KP (zk6 Df C.room C.ps (a.ok C) hl (C.gl hc.2) (CM hc.1).1 (Bq (a.st e (ya5 ..))) (E4 λx hx=>a.st x (ya8 e hx))) Sb) λD σ H z=>by
    obtain⟨F',τ,R,S,q⟩:=z;exact⟨F',τ,R,S,q⟩⟩
 |_=>none
def lOne(D:Dc)(Γ:Gm)(B:List (Str×Fn))(s:Stmt):Option (LL Γ B [s]):=(D.q Γ [s]).bind λq=>some ⟨q.m,λC hm _=>Av.weak (hm▸q.ok C) λ_ _ _ z=>tL_tS z⟩
def lCons(D:Dc)(Γ:Gm)(B:List (Str×Fn))(s:Stmt)(r:List Stmt)(rs:LL Γ B r):Option (LL Γ B (s::r)):=(D.s Γ s).bind λq=>some ⟨JA (frzs Γ s) (AG q.m rs.m),λC hm hb=>Uu (Av.weak (KP (hm▸q.ok C) (rs.ok C hm hb)) λ_ _ _ z=>zjt z) _⟩
def oo{α:Type}:Option α->Option α->Option α
 |some a,_=>some a
 |none,b=>b
def dL(D:Dc)(Γ:Gm)(B:List (Str×Fn)):List Bool->(ss:List Stmt)->Option (LL Γ B ss)
 |_,[]=>none
 |A,[s]=>(oo (lRet D Γ B s) (lOne D Γ B s)).map (Uv (A.headD false))
 |A,s::s2::r=>(dL D Γ B A.tail (s2::r)).bind λrs=>(oo (lPoke D Γ B s (s2::r) rs) (lCons D Γ B s (s2::r) rs)).map (Uv (A.headD false))
def Wb(n:Nat)(Γ:Gm)(B:List (Str×Fn))(A:List Bool)(ss:List Stmt):Option (AH):=(dL (GA n) Γ B A ss).map LL.m
theorem Vh{P:Program}{w:World}{K:k7}{mg:Str->Option Value}{base:Heap}{ca:Str->Value}{x qual:Str}{st:Stmt}{f:Addr}{fd:FuncData}{ps:List Str}{Γ:Gm}{B:List (Str×Fn)}{A:List Bool}{u:AH}(F:FunD K x qual st f fd)(S:FnScope Γ.N ps (Bf st))
  (hnm:Γ.nm=(Bf st).names) (hce:∀x∈Γ.ce,Γ.nm.lookup x=some .cell) (hbl:∀b∈Γ.bl,mg b=none)
  (hfs:∀f F,Γ.fns.lookup f=some F->F.lv<=Γ.lv/\Nonempty (DefX P w K mg base F.lv f F.ps (Au K ca F.g))) (hex:∀c∈Γ.ex,∃T:ECls K mg c,ca c=.ref T.C/\Cw K T.C=some none)
  (hms:∀f F,Γ.mus.lookup f=some F->F.lv<=Γ.lv/\Nonempty (DefX P w K mg base F.lv f F.ps (GP K ca F.g))) (hmu:Γ.mu=false) (hgx:GxOk Γ.ox Γ.lv P w K mg base ca) (hB:∀g F,B.lookup g=some F->F.lv<=Γ.lv/\Nonempty (DefX P w K mg base F.lv g F.ps (EF K F.g))) (hu:Wb 200 Γ B A (DM st)=some u):FnOk P w K mg base (BH P w) (Γ.lv+1) f fd ps (EF K (Ae ps.length Γ.N.length u)):=by
 refine KY F S (λvs H Q E h=>?_) λcdv A outer s H vs Q E hr h=>?_
 .obtain⟨F',ts,_,r,b,q,_⟩:=h;unfold Ae at q
  by_cases hl:ts.length=ps.length
  .rw[<- r.1,hl]
  .rw[if_neg hl]at q;cases q
 .have C:CxOk Γ (Ds (BH P w) P w K mg base Γ.N qual (Bf st) f cdv A outer s H E) (λ_=>E) ca:=⟨rfl,S.nd,hnm.symm,S.kind,rfl,hr,λy hy=>⟨rfl,hce y hy⟩,hbl,Mh,λ_=>ydg,λ_=>Mw,Mv,hfs,hex,hms,hgx,λ_=>⟨rfl,rfl⟩,⟨_,_,rfl,rfl⟩⟩
  obtain⟨L,-,rfl⟩:=yaa.mp hu;refine⟨_,L.ok C hmu hB,?_⟩;obtain⟨F',ts,fh,r,b,q,qq⟩:=h;refine⟨F',_,_,Qa fh r,?_⟩;unfold Ae at q
  by_cases hl:ts.length=ps.length
  .rw[if_pos hl]at q;unfold KH at q;cases ho:L.m (ts.map some++List.replicate (Γ.N.length - ts.length) none) with
   |none =>
    rw[ho]at q;cases q
   |some o =>
    rw[ho]at q;cases o with
    |nx τ=>cases q
    |rt t =>
     cases q;exact qq
    |bk τ=>cases q
    |ct τ=>cases q
    |xc c τ=>cases q
  .rw[if_neg hl]at q;cases q
structure CkL(Γ:Gm)(B:List (Str×Fn))(A:List Bool)(f:Fn)(st:Stmt)(u:AH):Prop where
 s:FnScope Γ.N f.ps (Bf st):=by exact MQ (by decide +kernel)
 k:Wb 200 Γ B A (DM st)=some u:=by ext
theorem zly{P:Program}{w:World}{K:k7}{mg:Str->Option Value}{base:Heap}{k:Nat}:∀g F,([]:List (Str×Fn)).lookup g=some F->F.lv<=k/\Nonempty (DefX P w K mg base F.lv g F.ps (EF K F.g)):=λ_ _ h=>by cases h
theorem zlx{P:Program}{w:World}{K:k7}{mg:Str->Option Value}{base:Heap}{k:Nat}{x:Str}{F0:Fn}(D:DefX P w K mg base F0.lv x F0.ps (EF K F0.g))(hk:F0.lv<=k:=by decide):∀g F,[(x,F0)].lookup g=some F->F.lv<=k/\Nonempty (DefX P w K mg base F.lv g F.ps (EF K F.g)):=λg F h=>by
 rw[ybd]at h;split at h
 .rename_i e;cases h;have e:=eq_of_beq e;subst e;exact⟨hk,⟨D⟩⟩
 .cases h
def dfB{P:Program}{w:World}{K:k7}{mg:Str->Option Value}{base:Heap}{ca:Str->Value}(q:Qx P w K mg base ca){x:Str}{st:Stmt}{oc:Value}{od an:Option Addr}{osl:Array (Option Value)}{dV kV doc pm cdv ct:Value}{Γ:Gm}{B:List (Str×Fn)}{A:List Bool}{f:Fn}{u:AH}(a:Addr){o:Obj}
  (S:CkL Γ B A f st u) (hbl:∀b∈Γ.bl,mg b=none) (hfs:∀g F,Γ.fns.lookup g=some F->F.lv<=Γ.lv/\Nonempty (DefX P w K mg base F.lv g F.ps (Au K ca F.g))) (hgx:GxOk Γ.ox Γ.lv P w K mg base ca) (hB:∀g F,B.lookup g=some F->F.lv<=Γ.lv/\Nonempty (DefX P w K mg base F.lv g F.ps (EF K F.g)):=by exact zly) (hce:∀x∈Γ.ce,Γ.nm.lookup x=some .cell:=by exact AL) (hex:∀c∈Γ.ex,∃T:ECls K mg c,ca c=.ref T.C/\Cw K T.C=some none:=by exact AL)
  (hms:∀g F,Γ.mus.lookup g=some F->F.lv<=Γ.lv/\Nonempty (DefX P w K mg base F.lv g F.ps (GP K ca F.g)):=by exact DF) (ho:o=⟨oc,od,.func (PySem.W.fnOf x x (Fz st) (DM st) (Bf st) dV kV doc pm an cdv ct),osl⟩:=by exact rfl) (l:K.lookup a=some o:=by ext) (c:PySem.W.codeIn K cdv x=true:=by ext) (k:PySem.W.keepIn K (.ref a)=true:=by ext) (m:PySem.W.nsIn K mainGlobals x=some (some (.ref a)):=by ext)
  (b:Ci K (PySem.W.fnOf x x (Fz st) (DM st) (Bf st) dV kV doc pm an cdv ct) f.ps []:=by first|exact .all (FY λ_=>rfl)|exact .all (GJ λ_ _=>rfl)|exact .all (QF λ_ _ _=>rfl)|exact .all (Lv λ_ _ _ _=>rfl)|exact .all (QE λ_ _ _ _ _=>rfl)|exact .all (QD λ_ _ _ _ _ _=>rfl))
  (hnm:Γ.nm=(Bf st).names:=by rfl) (hlv:Γ.lv+1=f.lv:=by rfl) (hmu:Γ.mu=false:=by rfl) (hg:f.g=Ae f.ps.length Γ.N.length u:=by rfl):DefX P w K mg base f.lv x f.ps (EF K f.g) :=
 ⟨a,_,by rw[hg,<- hlv];exact Vh (Cz (l.trans (congrArg some ho)) c k) S.s hnm hce hbl hfs hex hms hmu hgx hB S.k,q.m x a m,k,b⟩
theorem zik{P:Program}{w:World}{K:k7}{mg:Str->Option Value}{base:Heap}{k:Nat}{R:List T->Option Ru}{f:Addr}{fd:FuncData}(F:FnOk P w K mg base (BH P w) k f fd ["_law_script"] (EF K R))(h:∀ns:List Int,ns.length<=63->R [BF ns]=some (.ok (.bl true))):FnOk P w K mg base J6 k f fd ["_law_script"] (Ju K):=by
 refine⟨λvs H Q E hs=>?_,λA outer s H args us vs Q E hr e0 hb hv hs=>?_⟩
 .obtain⟨a,ns,rfl,_⟩:=hs
  rfl
 .obtain⟨a,ns,rfl,hq,h63,q⟩:=hs;refine ye2 (F.run A outer s H args us _ Q E0 hr e0 hb hv ⟨H,[BF ns],.refl _,.cons (H:=H) (Aa.of_node (k:=.rl) hq (Rk ns)) .nil,true,h ns h63,q⟩) λr s' hx=>?_
  cases r with
  |error v =>
   obtain⟨_,_,_,_,_,_,_,_,_,_,_,_,z⟩:=hx;exact z.elim
  |ok fl=>cases fl<;>exact hx
theorem JL:A6 (x::l) 0=some x:=by
 have:A6 (x::l) 0=some x:=CH rfl;exact this
theorem LD:A6 (x::y::l) 1=some y:=by
 have:A6 (x::y::l) 1=some y:=CH rfl;exact this
theorem GB:A6 (x::y::z::l) 2=some z:=by
 have:A6 (x::y::z::l) 2=some z:=CH rfl;exact this
abbrev fr(a b:Int):T:=.tup [.int a,.int b]
section
variable {b:T->AM->Option AM}{body:AH}{mc:AI}
theorem FO   (I:Nat->AM->Prop)(h0:I 0 τ)(hs:∀i t τ,ts[i]?=some t->I i τ->∃τ1,b t τ=some τ1/\∃τ2,body τ1=some (.nx τ2)/\I (i+1) τ2):∃τ',CF b body ts τ=some (.nx τ')/\I ts.length τ':=by
 have key:∀(l ) (k ) (τ ),ts.drop k=l->k<=ts.length->I k τ->∃τ',CF b body l τ=some (.nx τ')/\I ts.length τ':=by
  intro l
  induction l with
  |nil =>
   intro k τ hd hk hI
   have:k=ts.length:=by
    have:=congrArg List.length hd;simp at this
    omega
   subst this;exact⟨τ,rfl,hI⟩
  |cons t l ih =>
   intro k τ hd hk hI
   have hlt:k<ts.length:=by
    grind
   rw[yc0 hlt]at hd;injection hd with h1 h2
   obtain⟨τ1,e1,τ2,e2,hI2⟩:=hs k t τ (by rw[ya0 hlt,h1]) hI
   obtain⟨τ',e3,h3⟩:=ih (k+1) τ2 h2 hlt hI2;exact⟨τ',by unfold CF;simp only[e1,e2];exact e3,h3⟩
 grind
theorem R9  (I:AM->Prop)(μ:AM->Nat)(h0:I τ)(hs:∀τ,I τ->(∃bb,mc τ=some (.v (.bl true) bb)/\∃τ2,body τ=some (.nx τ2)/\I τ2/\μ τ2<μ τ)\/∃bb,mc τ=some (.v (.bl false) bb)) :
  ∃τ',E7 mc body τ=some (.nx τ')/\I τ'/\∃bb,mc τ'=some (.v (.bl false) bb):=by
 have key:∀(n ) (τ ),μ τ<n->I τ->∃τ',C1 mc body n τ=some (.nx τ')/\I τ'/\∃bb,mc τ'=some (.v (.bl false) bb):=by
  intro n
  induction n with
  |zero=>simp
  |succ n ih =>
   intro τ hn hI
   rcases hs τ hI with ⟨bb,e1,τ2,e2,hI2,hm⟩|⟨bb,e1⟩
   .obtain⟨τ',e3,h3⟩:=ih τ2 (by omega) hI2
    exact⟨τ',by unfold C1;grind,h3⟩
   .exact⟨τ,by unfold C1;simp only[e1],hI,bb,e1⟩
 obtain⟨τ',e,h⟩:=key (μ τ+1) τ (yc1 _) h0;exact⟨τ',zka e,h⟩
theorem Nb    (I:Nat->AM->Prop)(f )(h0:I 0 τ)(hs:∀i t τ,ts[i]?=some t->I i τ->∃τ1,b t τ=some τ1/\me τ1=some (.v (f i) false)/\I (i+1) τ1) :
  Bd b (mC (.bl true)) me ts τ=some ((List.range ts.length).map f):=by
 have key:∀(l ) (k ) (τ ),ts.drop k=l->k<=ts.length->I k τ->Bd b (mC (.bl true)) me l τ=some ((List.range' k l.length).map f):=by
  intro l
  induction l with
  |nil=>intro k τ _ _ _;rfl
  |cons t l ih =>
   intro k τ hd hk hI
   have hlt:k<ts.length:=by
    grind
   rw[yc0 hlt]at hd;injection hd with h1 h2
   obtain⟨τ1,e1,e2,hI2⟩:=hs k t τ (by grind) hI
   have e3:=ih (k+1) τ1 h2 hlt hI2;unfold Bd;simp only[e1,mC,e2,e3]
   rfl
 have:=key ts 0 τ rfl (ycj _) h0;rw[this,<- List.range_eq_range']
end
theorem FE{i j:Int}(h:Dg j=true):Bw i j=true:=by unfold Bw;grind
theorem FG{i j:Int}(h:Dg i=true):Bw i j=true:=by unfold Bw;grind
theorem zi6(h1:BZ i=true)(h2:BZ j=true):Bw i j=true:=by unfold Bw;grind
theorem C6(h1:-(2 ^ 64)<i)(h2:i<2 ^ 64):Dg i=true:=@decide_eq_true _ (Classical.propDecidable _) ⟨h1,h2⟩
theorem Bs(h1:-(10 ^ 70)<i)(h2:i<10 ^ 70):BZ i=true:=@decide_eq_true _ (Classical.propDecidable _) ⟨h1,h2⟩
theorem fm{i j:Int}(h:0<j):i.fmod j=i % j:=Int.fmod_eq_emod_of_nonneg i (by omega)
theorem Ce{i j:Int}:BJ (.int i) (.int j)=some (.bl (i == j)):=by
 rfl
theorem Ef{i j:Int}:BL (.int i) (.int j)=some (.bl (!(i == j))):=by
 rfl
mutual
def Cq:PyData->Bool
 |.bool _=>false
 |.dict _=>false
 |.list xs=>Fl xs
 |.tuple xs=>Fl xs
 |_=>true
def Fl:List PyData->Bool
 |[]=>true
 |x::xs=>Cq x && Fl xs
end
mutual
theorem WR:∀d d':PyData,Cq d=true->Cq d'=true->(PyData.eqv d d'=true ↔ d=d')
 |.none,d',_,h'=>by cases d'<;>simp[PyData.eqv,Cq]at h' ⊢
 |.int i,d',_,h'=>by cases d'<;>simp[PyData.eqv,Cq]at h' ⊢
 |.str x,d',_,h'=>by cases d'<;>simp[PyData.eqv,Cq]at h' ⊢
 |.bool _,_,h,_=>by simp[Cq]at h
 |.dict _,_,h,_=>by simp[Cq]at h
 |.list xs,d',h,h'=>by
  cases d' with
  |list ys =>
   have:=OW xs ys (by simpa[Cq] using h) (by simpa[Cq] using h')
   simp only[PyData.eqv];rw[this];simp
  |_=>simp[PyData.eqv,Cq]at h' ⊢
 |.tuple xs,d',h,h'=>by
  cases d' with
  |tuple ys =>
   have:=OW xs ys (by simpa[Cq] using h) (by simpa[Cq] using h')
   simp only[PyData.eqv];rw[this];simp
  |_=>simp[PyData.eqv,Cq]at h' ⊢
theorem OW:∀xs ys:List PyData,Fl xs=true->Fl ys=true->(PyData.eqvAll xs ys=true ↔ xs=ys)
 |[],[],_,_=>by simp[PyData.eqvAll]
 |[],_::_,_,_=>by simp[PyData.eqvAll]
 |_::_,[],_,_=>by simp[PyData.eqvAll]
 |x::xs,y::ys,hx,hy=>by
  simp only[Fl,ya4]at hx hy;have h1:=WR x y hx.1 hy.1;have h2:=OW xs ys hx.2 hy.2;simp only[PyData.eqvAll,ya4,h1,h2,List.cons.injEq]
end
structure Fit(t:T)(n:Nat):Prop where
 fit:DW t=true
 nb:Cq t.data=true
 dep:t.data.depth<=n
theorem Fit.int(i)(n):Fit (.int i) n:=⟨rfl,rfl,by simp[T.data,PyData.depth]⟩
theorem Fit.non(n:Nat):Fit .non n:=⟨rfl,rfl,by simp[T.data,PyData.depth]⟩
theorem WM:∀{l} {n},(∀t∈l,Fit t n)->(Dj l=true/\PyData.canLayAll0 (BV l)=true)/\Fl (BV l)=true/\PyData.depthAll (BV l)<=n
 |[],n,_=>⟨⟨rfl,rfl⟩,rfl,ycj _⟩
 |t::r,n,h=>by
  obtain⟨h1,h2,h3⟩:=h t (ya5 ..);obtain⟨⟨g0,g1⟩,g2,g3⟩:=WM λx hx=>h x (ya8 _ hx)
  unfold DW at h1;rw[ya4]at h1;refine⟨⟨by rw[Dj,h1.1,g0];rfl,by rw[BV,PyData.canLayAll0,h1.2,g1];rfl⟩,by rw[BV,Fl,h2,g2];rfl,?_⟩
  rw[BV,PyData.depthAll]
  omega
theorem Fit.nd(h:∀t∈l,Fit t n):Fit (.nd o k l) (n+1):=by
 obtain⟨g1,g2,g3⟩:=WM h;cases k<;>exact⟨by simpa[DW,T.data,T.pln,PyData.canLay0] using g1,by simpa[T.data,Cq] using g2,by simpa[T.data,PyData.depth] using g3⟩
theorem Fit.tup{l:List T}{n:Nat}(h:∀t∈l,Fit t n):Fit (.tup l) (n+1):=Fit.nd h
theorem Fit.fr(a b):Fit (Pu.fr a b) 1:=Fit.tup λt ht=>by
 simp only[yae,yay,yeg]at ht
 rcases ht with rfl|rfl<;>exact Fit.int _ _
open Classical in
theorem WT{t u:T}{n m:Nat}(h:Fit t n)(h':Fit u m)(hn:n<=60):BJ t u=some (.bl (decide (t.data=u.data)))/\BL t u=some (.bl (!decide (t.data=u.data))):=by
 have ok:Ga t u=true:=by
  unfold Ga;rw[h.fit,h'.fit,ye3 (by have:=h.dep;omega)]
  rfl
 have e:JE t u=decide (t.data=u.data):=by
  unfold JE;rw[Bool.eq_iff_iff,WR _ _ h.nb h'.nb];simp
 unfold BJ BL;rw[if_pos ok,if_pos ok,e];exact⟨rfl,rfl⟩
theorem Ky(h:Fit t n)(hn:n<=60)(e:t.data=u.data)(h':Fit u n):BJ t u=some (.bl true)/\BL t u=some (.bl false):=by
 have:=WT h h' hn
 grind
theorem Et:∀ns:List Int,Bh (ns.map T.int)=ns.map T.int
 |[]=>rfl
 |n::r=>by rw[yal,Bh,Et r];rfl
theorem Eu:∀ns:List Int,An (ns.map T.int)=true
 |[]=>rfl
 |n::r=>by rw[yal,An,Eu r];rfl
theorem zb5(ns):(BF ns).share=BF ns:=by unfold BF;rw[T.share,Et]
theorem zd5(ns):(BF ns).sh=true:=by unfold BF;rw[T.sh,Eu];rfl
theorem JK{x:α}(h0:0<=k)(h:l[k.toNat]?=some x):A6 l k=some x:=by
 have :=CH h
 grind
theorem Wd(f:α->β)(l)(lo hi):CY (l.map f) lo hi=(CY l lo hi).map f:=by
 unfold CY;simp
theorem zj5(l:List α)(lo hi):(CY l lo hi).length<=l.length:=by
 unfold CY
 grind
end Pu
namespace Zm
end Zm
namespace Db
open PySem
end Db
namespace Pu
open PySem PySem.Spec PyProof.Rows L2 Zw Zx
def mT(n:Nat)(g:Nat->T):List T:=(List.range n).map g
theorem nl0:((0:Nat):Int)=0:=rfl
theorem nl1:((1:Nat):Int)=1:=rfl
theorem nl2:((2:Nat):Int)=2:=rfl
theorem nl3:((3:Nat):Int)=3:=rfl
theorem nl4:((4:Nat):Int)=4:=rfl
theorem nl5:((5:Nat):Int)=5:=rfl
theorem nl6:((6:Nat):Int)=6:=rfl
theorem nl7:((7:Nat):Int)=7:=rfl
theorem nl8:((8:Nat):Int)=8:=rfl
theorem nl9:((9:Nat):Int)=9:=rfl
theorem zlu{k:Nat}(h:k<=100000):(k<=BO)=True:=eq_true (by unfold BO;omega)
theorem zlt{k:Nat}(h:k<100000):(k<BO)=True:=eq_true (by unfold BO;omega)
section
variable {n:Nat}{g h:Nat->T}
theorem Cs:(mT n g).length=n:=by simp[mT]
theorem HS{i:Nat}(hi:i<n):(mT n g)[i]?=some (g i):=by simp[mT,hi]
theorem HR(e:(mT n g)[i]?=some t):i<n/\t=g i:=by
 have hi:i<n:=by
  rcases Nat.lt_or_ge i n with q|q
  .exact q
  .rw[yan (by rw[Cs];exact q)]at e
   cases e
 rw[HS hi]at e
 grind
theorem HU(hl:l.length=n)(h:∀i,i<n->l[i]?=some (g i)):l=mT n g:=by
 refine ybo λi=>?_
 rcases Nat.lt_or_ge i n with q|q
 .rw[h i q,HS q]
 .rw[yan (by omega),yan (by rw[Cs];exact q)]
theorem zfk(e:∀i,i<n->g i=h i):mT n g=mT n h:=HU Cs λi hi=>by rw[HS hi,e i hi]
theorem EN{k:Nat}(h1:k<n):A6 (mT n g) (k:Int)=some (g k):=CH (HS h1)
theorem zls(ht:t∈mT n g):∃i,i<n/\t=g i:=by
 obtain⟨i,hi,e⟩:=yao.mp ht
 grind
theorem zd4:Bh (mT n g)=mT n λi=>(g i).share:=by
 rw[EG];unfold mT;rw[yaq]
 rfl
theorem Qh(e:∀i,(g i).sh=true):An (mT n g)=true:=by
 rw[EH,yau];intro t ht;obtain⟨i,-,rfl⟩:=zls ht;exact e i
theorem zh0(xs:Nat->Int):An (mT n λi=>.int (xs i))=true:=Qh λ_=>rfl
theorem Ue:mT n g++[g n]=mT (n+1) g:=by
 unfold mT;rw[List.range_succ,ybx]
 rfl
theorem Ud{α:Type}(t:α->T)(xs:Nat->α)(r):mT n (λj=>t (xs j))++[t r]=mT (n+1) λj=>t (if j=n then r else xs j):=by
 rw[<- Ue,if_pos rfl,zfk (g:=λj=>t (if j=n then r else xs j)) (h:=λj=>t (xs j)) λj hj=>by grind]
theorem zeu(lo:Int):DT lo n=mT n λi=>.int (lo+(i:Int)):=rfl
theorem Ea:DT 0 n=mT n λi=>.int (i:Int):=by
 rw[zeu];simp
theorem mT_of(l)(d):l=mT l.length λi=>l.getD i d:=HU rfl λi hi=>by
 grind
variable {b:T->AM->Option AM}{body:AH}{me:AI}{τ:AM}
theorem Va(I:Nat->AM->Prop)(h0:I 0 τ)(hs:∀i τ,i<n->I i τ->∃τ1,b (g i) τ=some τ1/\∃τ2,body τ1=some (.nx τ2)/\I (i+1) τ2):∃τ',CF b body (mT n g) τ=some (.nx τ')/\I n τ':=by
 have:=FO I h0 λi t τ e hI=>by
  obtain⟨hi,rfl⟩:=HR e;exact hs i τ hi hI
 rwa[Cs]at this
theorem Fs   {cs:AM}(hs:∀i,i<n->me (some (g i)::cs)=some (.v (f i) false)):Bd (AF 0) (mC (.bl true)) me (mT n g) (x::cs)=some (mT n f):=by
 have:=Nb (b:=AF 0) (ts:=mT n g) (λ_ τ=>∃y,τ=y::cs) f ⟨x,rfl⟩ λi t τ e hI=>by
  obtain⟨hi,rfl⟩:=HR e;obtain⟨y,rfl⟩:=hI;exact⟨some (g i)::cs,by simp[AF],hs i hi,_,rfl⟩
 rw[this,Cs]
 rfl
end
theorem JI(p):EW (mT n λi=>.bl (p i))=some ((List.range n).map p):=by
 unfold mT;generalize List.range n=l
 induction l with
 |nil=>rfl
 |cons x r ih=>simp only[yal,EW,ih]
theorem Fj{n:Nat}(h:n<=100000):Dl n=true:=@decide_eq_true _ (Classical.propDecidable _) ⟨by omega,by omega⟩
theorem Js:∀ys ,F8 (ys.map T.str)=some ys
 |[]=>rfl
 |y::r=>by
  show(match F8 (r.map T.str) with|some l=>some (y::l)|none=>none)=_
  rw[Js r]
theorem A8:∀ys:List Str,Bh (ys.map T.str)=ys.map T.str
 |[]=>rfl
 |y::r=>by
  show T.str y::Bh (r.map T.str)=_;rw[A8 r]
  rfl
theorem AU:∀ys:List Str,An (ys.map T.str)=true
 |[]=>rfl
 |y::r=>by
  show(true && An (r.map T.str))=true;rw[AU r]
  rfl
def By(ys:List Str):Prop:=∀y∈ys,PyData.strOk y=true
theorem Sf:∀ys:List Str,Dj (ys.map T.str)=true
 |[]=>rfl
 |y::r=>by
  show(true && Dj (r.map T.str))=true;rw[Sf r]
  rfl
theorem Us:∀{ys},By ys->PyData.canLayAll0 (BV (ys.map T.str))=true/\PyData.depthAll (BV (ys.map T.str))=0
 |[],_=>⟨rfl,rfl⟩
 |y::r,h=>by
  obtain⟨h1,h2⟩:=Us λx hx=>h x (ya8 _ hx)
  have h3:=h y (ya5 ..);rw[yal,BV,PyData.canLayAll0,PyData.depthAll,h1,h2,T.data,PyData.canLay0,h3,PyData.depth];simp
theorem Fy(hx:PyData.strOk x=true)(hy:PyData.strOk y=true):BJ (.str x) (.str y)=some (.bl (decide (x=y))):=by
 have e:(x == y)=decide (x=y):=by rfl
 unfold BJ Ga DW JE;simp only[T.data,T.pln,PyData.canLay0,PyData.depth,PyData.eqv,hx,hy,e];simp
theorem Fit.str(h:PyData.strOk x=true)(n):Fit (.str x) n:=⟨by unfold DW;rw[T.data,PyData.canLay0,h];rfl,rfl,by simp[T.data,PyData.depth]⟩
theorem XY(x):∀ys:List Str,((BV (ys.map T.str)).any λy=>PyData.eqv y (.str x))=decide (x∈ys)
 |[]=>by rfl
 |y::r=>by
  have e:(y == x)=decide (x=y):=by grind
  rw[yal,BV,List.any_cons,XY x r,T.data,PyData.eqv,e,Bool.eq_iff_iff,ybw,yee,yee,yee,yae]
theorem Iq     (h:By ys)(hx:PyData.strOk x=true):Bj (.str x) (.nd o k (ys.map T.str))=some (.bl (decide (x∈ys))):=by
 have ok:Fu (.str x) (ys.map T.str)=true:=by
  obtain⟨h1,h2⟩:=Us h;unfold Fu DW;rw[Sf,h1,h2,T.data,PyData.canLay0,hx]
  rfl
 unfold Bj;simp only;rw[if_pos ok];unfold Iv;rw[T.data,XY]
end Pu
namespace Tx
open PySem PySem.NumText
abbrev cs(x:Str):List Nat:=x.cps.toList
theorem cs_app(x y:Str):cs (x++y)=cs x++cs y:=Array.toList_append
theorem cs_ext{x y:Str}(h:cs x=cs y):x=y:=by
 cases x
 simp_all
theorem cs_len(x:Str):x.length=(cs x).length:=rfl
section
variable {x y:Str}{c:Nat}(hA:∀k,(cs x)[k]?=some c->StrLaws.At x y x.length k)
include hA
end
theorem sl_to(h:a<=(cs x).length):cs (Txt.slice x none (some a))=(cs x).take a:=by
 have e:Txt.slice x none (some a)=StrLaws.sliceText x none (some a):=rfl;rw[e,StrLaws.sliceText_to ⟨Int.natCast_nonneg a,Int.ofNat_le.mpr h⟩,List.drop_zero,Int.sub_zero,Int.toNat_natCast]
end Tx
namespace Hd
open PySem PySem.W PySem.Calls PyProof.Rows
def Iy(st:SharedT->Thread->Option (SharedT×Thread))(ok:Thread->Bool):Nat->SharedT->Thread->Option SharedT
 |0=>λ_ _=>none
 |n+1=>λs t=>bif through t then some s else bif ok t then (st s t).elim none λx=>Iy st ok n x.1 x.2 else none
theorem ziu(n):∀(s) (t) (r),
  Iy (stepT (denote tb) p w) (stepOk m ann) n s t=some r->topRun tb p w m ann n s.abs t=some r.abs:=by
 induction n with
 |zero=>intro s t r h;exact nomatch h
 |succ n ih =>
  intro s t r h;rw[Iy]at h;dsimp only at h;rw[topRun];cases a:through t with
  |true=>grind
  |false =>
   rw[a]at h;cases b:stepOk m ann t with
   |false=>grind
   |true =>
    rw[b]at h;cases c:stepT (denote tb) p w s t with
    |none=>grind
    |some x=>rw[c]at h;rw[stepT_spec c];grind
noncomputable def Jv(p q:Program)(loose:List Str)(Xt:Shared->Bool){α:Type}(Yf:Shared->α)(h:Heap)(s:Shared) :=
 ((staticsOk (importedModules p.main.body) h s.heap && namesBound p s.heap && gensDone s && laidKept h s.heap),openSeen q loose (importedModules p.main.body) Xt true s,Yf s)
theorem zih{Ya:World->α}{N M m:Nat}{bt:Params->BT}{lf:Params->Life}{st:World->SharedT->Thread->Option (SharedT×Thread)}(hst:∀w,stepT (denote treeTable) p w=st w)(hok:stepOk m ann=ok)
  (e:opening p=plainProg p.main.scope.names) (hN:Nat.ble 600 N=true) (f:∀s,fenceModules? p s=some s) (hM:Nat.ble M N=true)
  (hb:∀P,absHeap (bt P) m (lf P)=boot_heap P) (hs:∀P,(boot_heap P).isNs mainGlobals=true) (hz:∀P,(boot_heap P).objs.size=m) (ha:∀P,(boot_heap P).nsMap mainGlobals "__annotations__"=ann)
  (h:∀(w ) (os ),(Iy (st w) ok M ⟨bt w.params,m,lf w.params,Array.mk [],boot_drawn,boot_toks,os⟩ (topStub p)).map (λs=>Jv p q loose Xt Yf (boot_heap w.params) s.abs)=some (true,openGood q loose,Ya w)) :
  LeftO p q loose Xt Yf Ya N true:=λw=>by
 obtain⟨⟨h0,g0,d0,k0,os⟩,hs0,hv⟩:=yaa.mp (boot_open e hN f w);simp only[Prod.mk.injEq]at hv;obtain⟨rfl,rfl,rfl,rfl⟩:=hv;obtain⟨T,hT,hx⟩:=yaa.mp (h w os);rw[<- hst,<- hok]at hT;have r:=topRun_mono (N - M) _ _ _ _ (ziu _ _ _ _ hT);rw[Nat.add_sub_cancel' (Nat.le_of_ble_eq_true hM)]at r;have hx1:=congrArg Prod.fst hx;have hx2:=congrArg Prod.snd hx;simp only[Jv]at hx1 hx2;simp only[SharedT.abs,hb]at r hx1 hx2
 have k:topFrom treeTable p w N ⟨boot_heap w.params,Array.mk [],boot_drawn,boot_toks,os⟩=some T.abs:=by
  simp only[topFrom,hs,hz,ha,r];simp only[Option.bind_some];rw[hx1]
  rfl
 show((fencedOpening treeTable p w N).bind (topFrom treeTable p w N)).map _=_;rw[hs0];show(topFrom treeTable p w N _).map _=_;rw[k];exact congrArg some hx2
def en(P:Params)(x:String)(k:Nat)(v:Value):DictEntry:=⟨PyData.keyHash P (Str.ofString x),.str (Str.ofString x) k,v⟩
def bt(P:Params):BT:=((boot_heap P).objs.toList.foldl (λ(x:BT×Nat) o=>(x.1.ins x.2 o,x.2+1)) (BT.nil,0)).1
theorem bt_ok(P:Params):absHeap (bt P) 11 (boot_heap P).life=boot_heap P:=by ext
theorem zmu(P):(boot_heap P).nsMap mainGlobals "__annotations__"=some (.ref 6):=by ext
theorem ns_ok(P:Params):(boot_heap P).isNs mainGlobals=true:=by ext
theorem sz_ok(P:Params):(boot_heap P).objs.size=11:=by ext
abbrev go(p:Program)(M:Nat)(w:World)(os:OsState):Option SharedT :=
 Iy (Fast.tw10156331382660048174 (Fast.tw11892475500146522536 Fast.tw14364793385576792824) p w) (Fast.tw6613529449190102663 11 (some (.ref 6))) M ⟨bt w.params,11,(boot_heap w.params).life,Array.mk [],boot_drawn,boot_toks,os⟩ (topStub p)
abbrev xt(r:RowW)(q:Program)(s:Shared):Bool:=xlAt q [] s && recOk r.records s
theorem zii{Ya:World->α}(N M:Nat)
  (e:opening p=plainProg p.main.scope.names) (hN:Nat.ble 600 N=true) (f:∀s,fenceModules? p s=some s) (hM:Nat.ble M N=true)
  (h:∀(w ) (os ),(go p M w os).map (λs=>Jv p q loose (xt r q) Yf (boot_heap w.params) s.abs)=some (true,openGood q loose,Ya w)):LeftO p q loose (xt r q) Yf Ya N true :=
 zih
  (λw=>by rw[Fast.te10156331382660048174,Fast.te11892475500146522536,Fast.te14364793385576792824]) (by rw[Fast.te6613529449190102663]) e hN f hM bt_ok ns_ok sz_ok zmu h
theorem zh5(h:Fast.tw9446332074065402090 l=true):l.wellSaid=true:=(congrFun Fast.te9446332074065402090 l).trans h
end Hd
set_option maxHeartbeats 4200000
namespace Zl
open PySem L2 Zw Zx Pu
noncomputable section
local macro_rules
  |`(tactic| simp![$as,*])=>do let y<-"Ae KH JD AG AV Dd E9 A2 AN M4 GU A4 CA De HD IK CZ G0 AA mC AD AB As BM m1 m2 AO DH Ai Ba BA AK Eh EO Bm BG BN Ax g1 g2 AF B7 Ac BX blk Od HZ Cy Dx G8 gD G7 LH Gc LG HX BK Dv B9 Ap B3 Ez Bg Cp Bx T.isN T.isB BW CO Gd yax HY EB Bn Gu Gv Jp T.share Bh T.sh An T.flat JL LD GB yal List.map_nil yat ybn List.replicate ybu List.nil_append ybr List.getElem?_cons_zero yc4 List.getElem?_nil List.set_cons_zero List.set_cons_succ yck nl0 nl1 nl2 nl3 nl4 nl5 nl6 nl7 nl8 nl9 Int.reduceBEq Nat.reduceBEq Nat.reduceAdd Nat.reduceSub Nat.reduceLT Nat.reduceLeDiff if_true if_false ite_true ite_false reduceIte Bool.not_true Bool.not_false yc6 ydc Bool.and_false Bool.false_and Bool.or_true Bool.true_or Bool.or_false Bool.false_or Bool.false_xor Bool.true_xor yca Option.some.injEq decide_true decide_false yae yay or_false or_true true_or and_true true_and and_self String.reduceEq String.reduceBEq beq_self_eq_true ne_eq not_false_eq_true not_true_eq_false zlu zlt Cs zd4 Int.reduceLT Int.reduceAdd Int.toNat_natCast zh0 Qh implies_true forall_const Int.reduceEq Int.reduceNe Nv DL Bi DG Ct HW DR FA IL IV Kf Ei ES BI G3 Ie E8 Cd KE".splitOn.mapM (λx=>do`(Lean.Parser.Tactic.simpLemma|$(Lean.mkCIdent (<-Lean.Macro.resolveGlobalName x.toName).head!.1):ident));`(tactic| simp only[$(⟨(Lean.Syntax.SepArray.ofElems (sep:=",") (y.toArray.map (·.raw)++as.elemsAndSeps.getSepElems)).elemsAndSeps⟩),*])
noncomputable def AQ(i:Nat):Stmt:=PySem.Challenge.pw_zonewalk_k31_runs_walked.main.body.getD i (.Pass ⟨0,0,0,0⟩)
def zmp(s:Stmt)(j:Nat):Stmt:=match s with
 |.ClassDef _ _ _ body _ _ _ _ _ _ _=>body.getD j (.Pass ⟨0,0,0,0⟩)
 |_=>.Pass ⟨0,0,0,0⟩
def CV(i j:Nat):Stmt:=zmp (AQ i) j
abbrev BC:Addr:=228
noncomputable def BP:List Str:=["start","end","guard","noughts","sign"]
abbrev Ak:Addr:=282
noncomputable def Ay:List Str:=["watch_names","stays","door_list"]
def Ij:T:=(.nd false .rt [(.str "<"),(.str "<="),(.str ">"),(.str ">="),(.str "=")])
def Nk:T:=(.nd false .rt [(.str "<"),(.str "<=")])
noncomputable def Nl:T:=(.int 7)
def Nm:T:=(.int 64)
def Nn:T:=(.int 200)
def O4:List (Addr×Bool):=[(228,true),(282,false)]
abbrev ED:Addr:=80
def Li:List (Str×Addr):=[("WalkError",24),("NoNumber",37),("BadMachine",49),("TooMany",61),("NoRun",80),("NoMark",92)]
def PY:List (Addr×Bool):=[(24,false),(37,false),(49,true),(61,false),(80,false),(92,false)]
def PU:List (Addr×Bool):=[(24,false),(37,false),(49,false),(61,true),(80,false),(92,false)]
def PV:List (Addr×Bool):=[(24,false),(37,false),(49,false),(61,false),(80,true),(92,false)]
def PX:List (Addr×Bool):=[(24,false),(37,false),(49,false),(61,false),(80,false),(92,true)]
def PQ:List (Addr×Bool):=[(24,true),(37,true),(49,true),(61,true),(80,true),(92,true)]
abbrev R8:Stmt:=AQ 50
def N4:AH :=
 (AG (A2 (m2 (Bg λi j=>decide (i<j)) (AA 1) (m1 BW (AA 0))) (AN (AK (AA 0) (AA 1))) A4)
 (AN (mC (.int 0))))
def DO:List T->Option Ru:=Ae 2 2 N4
abbrev OU:Fn:=⟨1,["_law_script","_law_k"],DO⟩
abbrev gA(N:List Str)(s:Stmt)(k:Nat)(fs:List (Str×Fn))(bl:List Str)(ow:List Str:=[])(ce:List Str:=[])(ex:List Str:=[])(ox:Gx:=CD):Gm:=⟨N,(Bf s).names,ce,k,fs,bl,ex,ow,[],false,[],[],[],ox⟩
abbrev zby:Gm:=gA ["_law_script","_law_k"] R8 0 [] ["len"]
theorem zc8:Ck zby OU R8 N4:={}
theorem Hg(ns:List Int){k:Int}(h0:0<=k):DO [BF ns,.int k]=some (.ok (.int (ns.getD k.toNat 0))):=by
 unfold DO N4
 by_cases h:k<ns.length
 .have e:ns[k.toNat]?=some (ns.getD k.toNat 0):=by
   simp_all
  have ea:A6 (ns.map T.int) k=some (.int (ns.getD k.toNat 0)):=JK h0 (by simp_all)
  have el:decide (k<(ns.map T.int).length)=true:=by simpa using h
  simp![BF,Et,Eu,el,ea]
 .have el:decide (k<(ns.map T.int).length)=false:=by simpa using h
  have e:ns.getD k.toNat 0=0:=by
   simp_all
  simp![BF,Et,Eu,el,e]
abbrev RQ:Stmt:=AQ 51
def Lp:AH :=
 (AG (De 2 (m2 Ap (AA 5) (mC (.int 2147483647))))
 (AV (m2 B3 (AA 5) (mC (.int 2147483647))) (AF 5)))
def Lo:AH :=
 (AG (AV (m2 Ap (m2 BK (m2 BK (m2 B9 (AA 3) (AA 3)) (m2 B9 (mC (.int 48271)) (AA 3))) (AA 4)) (mC (.int 2147483647))) (AF 3))
 (De 2 (AA 3)))
def K8:AH :=
 (AG (Dd 2 (Bm AD))
 (AG (A2 (m2 (Bg λi j=>decide (j<=i)) (AA 0) (m2 Ez (mC (.int 10)) (mC (.int 30)))) (AG (AV (m2 Dv (AA 0) (m2 Ez (mC (.int 10)) (mC (.int 30)))) (AF 5))
 (AG (CA (Cy (AB (AA 1) AD)) (AF 4) Lp)
 (AN (AA 2)))) A4)
 (AG (AV (m2 BK (m2 Ap (AA 0) (mC (.int 2147483647))) (mC (.int 48271))) (AF 3))
 (AG (CA (Cy (AB (m2 BK (AA 1) (mC (.int 2))) AD)) (AF 4) Lo)
 (AG (E9 2) (AN (Ct (Eh (AA 2) (some (mC (.int 2))) none) (FH (AA 2) (some (mC (.int 2))) none))))))))
def EY:List T->Option Ru:=Ae 2 6 K8
abbrev Kv:Fn:=⟨1,["_law_cell","_law_many"],EY⟩
abbrev zcq:Gm:=gA ["_law_cell","_law_many","_law_found","_law_number","_law_k","_law_rest"] RQ 0 [] ["range"] ["_law_found"]
theorem zcy:Ck zcq Kv RQ K8:={}
theorem Jt(c:Int){m:Nat}(hm:m<=1000):∃xs:Nat->Int,EY [.int c,.int m]=some (.ok (.own (mT m λi=>.int (xs i)))):=by
 have p30:(0:Int)<=30/\(30:Int)<=1000000/\Dg 10=true:=⟨by decide,by decide,C6 (by decide) (by decide)⟩
 have s45:BZ 2147483647=true:=Bs (by decide) (by decide)
 have r30:(30:Int).toNat=30:=rfl
 by_cases h:(10:Int) ^ 30<=c
 .have loop:=Va (b:=AF 4) (body:=Lp) (n:=m) (τ:=[some (.int c),some (.int m),some (.own []),none,none,some (.int (c - 10 ^ 30))])
   (λi τ=>∃(xs:Nat->Int) (x:Option T) (r:Int),τ=[some (.int c),some (.int m),some (.own (mT i λi=>.int (xs i))),none,x,some (.int r)])
   ⟨λ_=>0,none,_,rfl⟩ (by
    rintro i τ hi ⟨xs,x,r,rfl⟩;refine⟨_,by simp![];rfl,?_⟩
    have l1:i<100000:=by omega
    refine⟨_,by unfold Lp;simp![s45,l1];rfl,λj=>if j=i then r.fmod 2147483647 else xs j,some (.int (i:Int)),r.fdiv 2147483647,?_⟩
    rw[Ud T.int])
  obtain⟨τ',e1,xs,x,r,rfl⟩:=loop;refine⟨xs,?_⟩;have o1 :=Fj (by omega)
  unfold EY K8
  simp![p30,r30,h,o1,Ea,e1]
 .have loop:=Va (b:=AF 4) (body:=Lo) (n:=m+2) (g:=λi=>.int (i:Int)) (τ:=[some (.int c),some (.int m),some (.own []),some (.int (c.fmod 2147483647+48271)),none,none])
   (λi τ=>∃(xs:Nat->Int) (x:Option T) (r:Int),0<=r/\r<4294967296/\τ=[some (.int c),some (.int m),some (.own (mT i λi=>.int (xs i))),some (.int r),x,none])
   ⟨λ_=>0,none,_,by rw[fm (by decide)];omega,by rw[fm (by decide)];omega,rfl⟩ (by
    rintro i τ hi ⟨xs,x,r,r0,r1,rfl⟩;refine⟨_,by simp![];rfl,?_⟩
    have l1:i<100000:=by omega
    have m1 :=zi6 (Bs (by omega) (by omega)) (Bs (by omega) (by omega))
    have m2:Bw 48271 r=true:=FG (C6 (by decide) (by decide))
    refine⟨_,by unfold Lo;simp![l1,m1,m2];rfl,λj=>if j=i then (r * r+48271 * r+i).fmod 2147483647 else xs j,some (.int (i:Int)),(r * r+48271 * r+i).fmod 2147483647,by rw[fm (by decide)];omega,by rw[fm (by decide)];omega,?_⟩
    rw[Ud T.int])
  obtain⟨τ',e1,xs,x,r,-,-,rfl⟩:=loop;refine⟨λi=>xs (i+2),?_⟩
  have o1:Dl ((m:Int)+2)=true:=Fj (n:=m+2) (by omega)
  have o2:((m:Int)+2).toNat=m+2:=by omega
  have ct:CY (mT (m+2) λi=>.int (xs i)) (some 2) none=mT m λi=>.int (xs (i+2)):=by
   unfold CY;have e2:HT.sIx (mT (m+2) λi=>T.int (xs i)).length 0 (some 2)=2:=by rw[Cs];simp[HT.sIx]
   have e3:HT.sIx (mT (m+2) λi=>T.int (xs i)).length (mT (m+2) λi=>T.int (xs i)).length none=m+2:=by rw[Cs];rfl
   rw[e2,e3];refine HU (by simp[Cs]) λi hi=>?_
   rw[yc2 (by omega),yco,HS (by omega),Nat.add_comm]
  unfold EY K8
  simp![p30,r30,h,o1,o2,Ea,e1,ct]
abbrev R5:Stmt:=AQ 52
def Ke:AH :=
 (AG (A2 (m2 (Bg λi j=>decide (j<=i)) (AA 0) (m2 Ez (mC (.int 10)) (mC (.int 30)))) (AN (Ct (Eh (AO EY (AB (AA 0) (AB (m2 B9 (AA 2) (m2 BK (AA 1) (mC (.int 1)))) AD))) (some (m2 B9 (AA 2) (AA 1))) none) (FH (AO EY (AB (AA 0) (AB (m2 B9 (AA 2) (m2 BK (AA 1) (mC (.int 1)))) AD))) (some (m2 B9 (AA 2) (AA 1))) none))) A4)
 (AN (AO EY (AB (m2 BK (AA 0) (m2 B9 (mC (.int 7919)) (AA 1))) (AB (AA 2) AD)))))
def Hv:List T->Option Ru:=Ae 3 3 Ke
abbrev WD:Fn:=⟨2,["_law_cell","_law_k","_law_many"],Hv⟩
abbrev zdw:Gm:=gA ["_law_cell","_law_k","_law_many"] R5 1 [("_law_stream",Kv)] []
theorem ze6:Ck zdw WD R5 Ke:={}
theorem zmt{x:Str}(h:∀c∈Tx.cs x,c<128):PyData.strOk x=true:=by
 unfold PyData.strOk;rw[<- Array.all_toList,yau];intro c hc;have:=h c hc
 omega
theorem zg8{n a:Nat}{g:Nat->T}:CY (mT (n+a) g) (some (a:Int)) none=mT n λi=>g (i+a):=by
 unfold CY;have e2:HT.sIx (mT (n+a) g).length 0 (some a)=a:=by rw[Cs];simp[HT.sIx];omega
 have e3:HT.sIx (mT (n+a) g).length (mT (n+a) g).length none=n+a:=by rw[Cs];rfl
 rw[e2,e3];refine HU (by simp[Cs]) λi hi=>?_
 rw[yc2 (by omega),yco,HS (by omega),Nat.add_comm]
theorem zg5(c:Int){k m:Nat}(hm:m * (k+1)<=1000)(hk:k<=1000)(h1:m<=1000):∃xs:Nat->Int,Hv [.int c,.int (k:Int),.int (m:Int)]=some (.ok (.own (mT m λi=>.int (xs i)))):=by
 have p30:(0:Int)<=30/\(30:Int)<=1000000/\Dg 10=true:=⟨by decide,by decide,C6 (by decide) (by decide)⟩
 have r30:(30:Int).toNat=30:=rfl;have m1:∀x:Int,Bw m x=true:=λx=>FG (C6 (by omega) (by omega))
 by_cases h:(10:Int) ^ 30<=c
 .obtain⟨xs,e⟩:=Jt c hm;have em:m * (k+1)=((m * (k+1):Nat):Int):=by rw[Int.natCast_mul];rfl
  have ek:m * (k:Int)=(m * k:Nat):=by rw[Int.natCast_mul]
  have ct:CY (mT (m * (k+1)) λi=>.int (xs i)) (some ((m * k:Nat):Int)) none=mT m λi=>.int (xs (i+m * k)):=by
   rw[show m * (k+1)=m+m * k by rw[Nat.mul_add,Nat.mul_one,Nat.add_comm]]
   exact zg8
  refine⟨λi=>xs (i+m * k),?_⟩
  unfold Hv Ke
  simp![p30,r30,h,m1,em,ek,e,ct]
 .have m2:Bw 7919 (k:Int)=true:=FG (C6 (by decide) (by decide))
  obtain⟨xs,e⟩:=Jt (c+7919 * (k:Int)) h1;refine⟨xs,?_⟩;unfold Hv Ke
  simp![p30,r30,h,m2,e]
abbrev RV:Stmt:=AQ 53
def Lq:AH :=
 (AG (AV (m2 BK (m2 BK (m2 B3 (AA 0) (mC (.int 6720))) (m2 B9 (AA 8) (m2 BK (mC (.int 1)) (m2 Ap (AA 0) (mC (.int 25)))))) (m2 B9 (AA 6) (m1 HY (m2 BJ (AA 8) (AA 4))))) (AF 9))
 (AV (m2 BK (AA 7) (AK (AA 2) (m2 Ap (AA 9) (mC (.int 26))))) (AF 7)))
def Lr:AH :=
 (AG (AV (mC (.str "")) (AF 7))
 (AG (CA (Cy (AB (AA 3) AD)) (AF 8) Lq)
 (De 5 (AA 7))))
def N0:AH :=
 (AG (AV (mC (.str "abcdefghijklmnopqrstuvwxyz")) (AF 2))
 (AG (AV (m2 BK (mC (.int 1)) (m2 Ap (AA 0) (mC (.int 8)))) (AF 3))
 (AG (AV (m2 Ap (m2 Ap (m2 B3 (AA 0) (mC (.int 8))) (mC (.int 840))) (AA 3)) (AF 4))
 (AG (Dd 5 (Bm AD))
 (AG (CA (Cy (AB (AA 1) AD)) (AF 6) Lr)
 (AN (AA 5)))))))
def JW:List T->Option Ru:=Ae 2 10 N0
abbrev WA:Fn:=⟨1,["_law_cell","_law_many"],JW⟩
abbrev zdu:Gm:=gA ["_law_cell","_law_many","_law_letters","_law_size","_law_at","_law_names_here","_law_k","_law_name","_law_j","_law_sign"] RV 0 [] ["range","int"] ["_law_names_here"]
theorem ze4:Ck zdu WA RV N0:={}
noncomputable def GQ(c:Int)(k j:Nat):Int:=(c.fdiv 6720+(j:Int) * (1+c.fmod 25)+(k:Int) * (if ((j:Int) == ((c.fdiv 8).fmod 840).fmod (1+c.fmod 8))=true then 1 else 0)).fmod 26
def E6(c:Int)(k j:Nat):Nat:=97+(GQ c k j).toNat
def Ee(c:Int)(k n:Nat):Str:=⟨((List.range n).map (E6 c k)).toArray⟩
def EM(c:Int):Nat:=(1+c.fmod 8).toNat
theorem K0(c:Int):1<=EM c/\EM c<=8/\(1+c.fmod 8)=(EM c:Int):=by
 unfold EM
 omega
theorem IJ(c:Int)(k j:Nat):0<=GQ c k j/\GQ c k j<26:=by
 unfold GQ
 omega
theorem abc:(Str.ofString "abcdefghijklmnopqrstuvwxyz").cps.toList=(List.range 26).map (97 + ·):=by rfl
theorem zmw{i:Int}(h0:0<=i)(h1:i<26):A6 (Str.ofString "abcdefghijklmnopqrstuvwxyz").cps.toList i=some (97+i.toNat):=by
 rw[abc];refine JK h0 ?_;rw[ya3,ybp (by omega)]
 rfl
theorem zje:(Str.ofString "abcdefghijklmnopqrstuvwxyz").length<=100000:=by decide +kernel
theorem zi3(c:Int)(k n:Nat):Ee c k n++⟨#[E6 c k n]⟩=Ee c k (n+1):=by
 show Str.mk (((List.range n).map (E6 c k)).toArray++#[E6 c k n])=Str.mk _;rw[List.range_succ];simp
theorem zi2(c:Int)(k n:Nat):(Ee c k n).length=n:=by
 show((List.range n).map (E6 c k)).toArray.size=n;simp
theorem w7_ok{c:Int}{k i m:Nat}(hi:i<8)(hk:k<30){o x9:Option T}:∃y9,Lq [some (.int c),some (.int (m:Int)),some (.str "abcdefghijklmnopqrstuvwxyz"),some (.int (1+c.fmod 8)),some (.int (((c.fdiv 8).fmod 840).fmod (1+c.fmod 8))),o,some (.int k),some (.str (Ee c k i)),some (.int i),x9]
  = some (.nx [some (.int c),some (.int (m:Int)),some (.str "abcdefghijklmnopqrstuvwxyz"),some (.int (1+c.fmod 8)),some (.int (((c.fdiv 8).fmod 840).fmod (1+c.fmod 8))),o,some (.int k),some (.str (Ee c k (i+1))),some (.int i),y9]):=by
 have m1:Bw i (1+c.fmod 25)=true:=FG (C6 (by omega) (by omega))
 have m2:∀x ,Bw k x=true:=λx=>FG (C6 (by omega) (by omega))
 have s1:BZ 6720=true:=Bs (by decide) (by decide)
 have ea:A6 (Str.ofString "abcdefghijklmnopqrstuvwxyz").cps.toList ((c.fdiv 6720+i * (1+c.fmod 25)+k * (if (i == ((c.fdiv 8).fmod 840).fmod (1+c.fmod 8))=true then 1 else 0)).fmod 26)=some (E6 c k i):=zmw (IJ c k i).1 (IJ c k i).2
 have el:(Ee c k i).length+(Str.mk #[E6 c k i]).length<=100000:=by
  rw[zi2]
  omega
 unfold Lq;refine⟨some (.int (c.fdiv 6720+i * (1+c.fmod 25)+k * (if (i == ((c.fdiv 8).fmod 840).fmod (1+c.fmod 8))=true then 1 else 0))),?_⟩
 simp![Ce,m1,m2,s1,ea,zje,el,zi3]
theorem w5_ok{c:Int}{k m:Nat}(hk:k<30){l:List T}(hl:l.length<1000){x7 x8 x9:Option T}:∃y7 y8 y9,Lr [some (.int c),some (.int (m:Int)),some (.str "abcdefghijklmnopqrstuvwxyz"),some (.int (1+c.fmod 8)),some (.int (((c.fdiv 8).fmod 840).fmod (1+c.fmod 8))),some (.own l),some (.int k),x7,x8,x9]
  = some (.nx [some (.int c),some (.int (m:Int)),some (.str "abcdefghijklmnopqrstuvwxyz"),some (.int (1+c.fmod 8)),some (.int (((c.fdiv 8).fmod 840).fmod (1+c.fmod 8))),some (.own (l++[.str (Ee c k (EM c))])),some (.int k),y7,y8,y9]):=by
 obtain⟨n1,n8,ne⟩:=K0 c
 obtain⟨τ,e,z8,z9,rfl⟩:=FO (b:=AF 8) (ts:=mT (EM c) λi=>.int i) (τ:=[some (.int c),some (.int m),some (.str "abcdefghijklmnopqrstuvwxyz"),some (.int (1+c.fmod 8)),some (.int (((c.fdiv 8).fmod 840).fmod (1+c.fmod 8))),some (.own l),some (.int k),some (.str ""),x8,x9])
  (λi τ=>∃x8 x9,τ=[some (.int c),some (.int m),some (.str "abcdefghijklmnopqrstuvwxyz"),some (.int (1+c.fmod 8)),some (.int (((c.fdiv 8).fmod 840).fmod (1+c.fmod 8))),some (.own l),some (.int k),some (.str (Ee c k i)),x8,x9]) ⟨x8,x9,by rfl⟩ λi t τ h1 h2=>by
   obtain⟨hi,rfl⟩:=HR h1;obtain⟨x8,x9,rfl⟩:=h2;obtain⟨y9,ew⟩:=w7_ok (i:=i) (by omega) hk (x9:=x9)
   exact⟨_,by simp![],_,ew,_,_,rfl⟩
 rw[Cs]at e;have ok:Dl (1+c.fmod 8)=true:=@decide_eq_true _ (Classical.propDecidable _) ⟨by omega,by omega⟩
 have er:DT 0 (1+c.fmod 8).toNat=mT (EM c) λi=>.int i:=Ea
 have ll:l.length<100000:=by omega
 unfold Lr;refine⟨some (.str (Ee c k (EM c))),z8,z9,?_⟩
 simp![ok,er,e,ll]
abbrev Dn(c:Int)(k:Nat):Str:=Ee c k (EM c)
theorem zfg(c:Int){m:Nat}(hm:m<30):JW [.int c,.int (m:Int)]=some (.ok (.own (mT m λk=>.str (Dn c k)))):=by
 obtain⟨τ,e,z6,z7,z8,z9,rfl⟩:=FO (b:=AF 6) (ts:=mT m λi=>.int i) (τ:=[some (.int c),some (.int m),some (.str "abcdefghijklmnopqrstuvwxyz"),some (.int (1+c.fmod 8)),some (.int (((c.fdiv 8).fmod 840).fmod (1+c.fmod 8))),some (.own []),none,none,none,none])
  (λi τ=>∃x6 x7 x8 x9,τ=[some (.int c),some (.int m),some (.str "abcdefghijklmnopqrstuvwxyz"),some (.int (1+c.fmod 8)),some (.int (((c.fdiv 8).fmod 840).fmod (1+c.fmod 8))),some (.own (mT i λk=>.str (Dn c k))),x6,x7,x8,x9]) ⟨_,_,_,_,by rfl⟩ λi t τ h1 h2=>by
   obtain⟨hi,rfl⟩:=HR h1;obtain⟨x6,x7,x8,x9,rfl⟩:=h2;obtain⟨y7,y8,y9,ew⟩:=w5_ok (k:=i) (by omega) (l:=mT i λk=>.str (Dn c k)) (by rw[Cs];omega) (x7:=x7) (x8:=x8) (x9:=x9)
   rw[Ue]at ew;exact⟨_,by simp![],_,ew,_,_,_,_,rfl⟩
 have ok:Dl m=true:=@decide_eq_true _ (Classical.propDecidable _) ⟨by omega,by omega⟩
 have er:DT 0 m=mT m λi=>.int i:=Ea
 have h0:(1+c.fmod 8≠0)=True:=eq_true (by omega)
 have s1:BZ 8=true:=Bs (by decide) (by decide)
 unfold JW N0
 simp![ok,er,e,h0,s1]
theorem Mt(c:Int)(k:Nat):Tx.cs (Dn c k)=(List.range (EM c)).map (E6 c k):=rfl
theorem zll(c:Int)(k:Nat):∀s∈Tx.cs (Dn c k),97<=s/\s<=122:=λs hs=>by
 obtain⟨j,_,rfl⟩:=yao.mp hs;have:=IJ c k j;unfold E6
 omega
theorem zi4(c:Int)(k:Nat):(Tx.cs (Dn c k)).length<=8:=by
 rw[Mt,ya1,ybf];exact(K0 c).2.1
theorem zlk(c:Int)(k:Nat):1<=(Tx.cs (Dn c k)).length:=by
 rw[Mt,ya1,ybf];exact(K0 c).1
theorem zff{c:Int}{j k:Nat}(hj:j<26)(hk:k<26)(h:Dn c j=Dn c k):j=k:=by
 obtain⟨n1,n8,ne⟩:=K0 c
 have ha:0<=((c.fdiv 8).fmod 840).fmod (1+c.fmod 8)/\((c.fdiv 8).fmod 840).fmod (1+c.fmod 8)<1+c.fmod 8:=by
  rw[fm (by omega)]
  exact⟨Int.emod_nonneg _ (by omega),Int.emod_lt_of_pos _ (by omega)⟩
 obtain⟨a,ea⟩:=yc5 ha.1;have hn:a<EM c:=by omega
 have e :=by
  have e1:=congrArg (λl =>l[a]?) (congrArg Tx.cs h)
  simp only[Mt,ya3,ybp hn]at e1;exact yak e1
 have s1:=IJ c j a;have s2:=IJ c k a;unfold E6 at e;have e2:GQ c j a=GQ c k a:=by omega
 unfold GQ at e2
 omega
abbrev Qz:Stmt:=AQ 24
def NF:AH :=
 (AN (Ei ES ES (mC (.str "a")) (AA 0) (mC (.str "z"))))
def JR:List T->Option Ru:=Ae 1 1 NF
abbrev OJ:Fn:=⟨1,["sign"],JR⟩
abbrev za4:Gm:=gA ["sign"] Qz 0 [] []
theorem za5:Ck za4 OJ Qz NF:={}
theorem Qg{c:Nat}(h1:97<=c)(h2:c<=122):JR [.str ⟨#[c]⟩]=some (.ok (.bl true)):=by
 have a1:((Str.ofString "a").cps.toList)=[97]:=by rfl
 have a2:((Str.ofString "z").cps.toList)=[122]:=by rfl
 have b1:@decide (#[c].toList<(Str.ofString "a").cps.toList) (Classical.propDecidable _)=false:=@decide_eq_false _ (Classical.propDecidable _) (by
  rw[a1];rw[List.cons_lt_cons_iff]
  simp_all)
 have b2:@decide ((Str.ofString "z").cps.toList < #[c].toList) (Classical.propDecidable _)=false:=@decide_eq_false _ (Classical.propDecidable _) (by
  rw[a2];rw[List.cons_lt_cons_iff]
  simp_all)
 unfold JR NF
 simp![b1,b2]
abbrev RD:Stmt:=AQ 25
def Oo:AI :=
 (AO JR (AB (AA 0) AD))
def NH:AH :=
 (AN (Ba (Ei ES ES (mC (.int 1)) (m1 BW (AA 0)) (mC (.int 8))) (m1 EB (BN 1 [] (BI (AA 0)) (AF 0) (mC (.bl true)) Oo))))
def JS:List T->Option Ru:=Ae 1 1 NH
abbrev OK:Fn:=⟨2,["text"],JS⟩
abbrev zcn:Gm:=gA ["text"] RD 1 [("is_small_letter",OJ)] ["len","all"]
theorem zcv:Ck zcn OK RD NH:={}
def FR(x:Str):Prop:=∀i,i<x.cps.size->97<=x.cps.getD i 0/\x.cps.getD i 0<=122
theorem Qi(x:Str):Fc x=mT x.cps.size λi=>.str ⟨#[x.cps.getD i 0]⟩:=by
 refine HU (by simp[Fc]) λi hi=>?_
 unfold Fc
 simp_all
theorem U0{x:Str}(h:FR x)(h1:1<=x.cps.size)(h8:x.cps.size<=8):JS [.str x]=some (.ok (.bl true)):=by
 have l1:x.cps.size<=100000:=by omega
 have lc:=Fs (n:=x.cps.size) (me:=Oo) (x:=none) (cs:=[]) (g:=λi=>.str ⟨#[x.cps.getD i 0]⟩) (f:=λ_=>.bl true) λi hi=>by
  unfold Oo
  simp![Qg (h i hi).1 (h i hi).2]
 have e1:decide (1<=(x.length:Int))=true:=ye3 (by show 1<=(x.cps.size:Int);omega)
 have e2:decide ((x.length:Int)<=8)=true:=ye3 (by show(x.cps.size:Int)<=8;omega)
 have ll:x.length<=BO:=by
  omega
 have ba:((List.range x.cps.size).map λ_=>true).all id=true:=by simp
 unfold JS NH
 simp![Qi,lc,l1,e1,e2,ll,JI,ba]
abbrev Qy:Stmt:=AQ 26
def ND:AH :=
 (AN (Ba (m1 (Bn "str") (AA 0)) (BA (m2 BJ (AA 0) (mC (.str "/"))) (AO JS (AB (AA 0) AD)))))
def JQ:List T->Option Ru:=Ae 1 1 ND
abbrev OI:Fn:=⟨3,["thing"],JQ⟩
abbrev zab:Gm:=gA ["thing"] Qy 2 [("is_name",OK)] ["isinstance","str"]
theorem zae:Ck zab OI Qy ND:={}
theorem zjz{x:Str}(h:FR x):PyData.strOk x=true:=by
 unfold PyData.strOk;rw[Array.all_eq_true];intro i hi;have:=(h i hi).2;rw[ycg,ybc hi]at this;rw[yee]
 omega
def Ge(x:Str):Prop:=x=Str.ofString "/"\/(FR x/\1<=x.cps.size/\x.cps.size<=8)
theorem MN:PyData.strOk (Str.ofString "/")=true:=by decide +kernel
theorem Gp{x:Str}(h:Ge x):PyData.strOk x=true:=by
 rcases h with rfl|h
 .exact MN
 .exact zjz h.1
theorem Pq{x:Str}(h:Ge x):JQ [.str x]=some (.ok (.bl true)):=by
 have e:=Fy (Gp h) MN;unfold JQ ND
 by_cases q:x=Str.ofString "/"
 .rw[ye3 q]at e
  simp![e]
 .rw[ydl q]at e;have en:=U0 (h.resolve_left q).1 (h.resolve_left q).2.1 (h.resolve_left q).2.2
  simp![e,en]
abbrev RB:Stmt:=AQ 27
def LC:AI :=
 (BA (m2 BJ (AA 0) (mC (.str "/"))) (AO JR (AB (AA 0) AD)))
def NG:AH :=
 (AG (A2 (BA (Ai (m1 (Bn "str") (AA 0))) (Ai (Ei ES ES (mC (.int 1)) (m1 BW (AA 0)) (mC (.int 60))))) (AN (mC (.bl false))) A4)
 (AN (m1 EB (BN 1 [] (BI (AA 0)) (AF 0) (mC (.bl true)) LC))))
def LW:List T->Option Ru:=Ae 1 1 NG
abbrev Vl:Fn:=⟨2,["thing"],LW⟩
abbrev zan:Gm:=gA ["thing"] RB 1 [("is_small_letter",OJ)] ["isinstance","str","len","all"]
theorem zaq:Ck zan Vl RB NG:={}
def LK(x:Str):Prop:=∀i,i<x.cps.size->x.cps.getD i 0=47\/(97<=x.cps.getD i 0/\x.cps.getD i 0<=122)
theorem Rl{x:Str}(h:LK x):PyData.strOk x=true:=by
 unfold PyData.strOk;rw[Array.all_eq_true];intro i hi;have:=h i hi;rw[ycg,ybc hi]at this;simp only[ybs]at this
 omega
theorem rn_ok{x:Str}(h:LK x)(h1:1<=x.cps.size)(h8:x.cps.size<=60):LW [.str x]=some (.ok (.bl true)):=by
 have l1:x.cps.size<=100000:=by omega
 have lc:=Fs (me:=LC) (x:=none) (cs:=[]) (g:=λi=>.str ⟨#[x.cps.getD i 0]⟩) (f:=λ_=>.bl true) λi hi=>by
  have o1:PyData.strOk (Str.mk #[x.cps.getD i 0])=true:=Rl λj hj=>by
   have hj':j<1:=hj;have e:j=0:=by omega
   subst e;exact h i hi
  have e:=Fy o1 MN
  by_cases q:x.cps.getD i 0=47
  .have n:Str.mk #[x.cps.getD i 0]=Str.ofString "/":=by
    rw[q];exact Tx.cs_ext (by decide +kernel)
   rw[ye3 n]at e;unfold LC
   simp![e]
  .have n:¬ (Str.mk #[x.cps.getD i 0]=Str.ofString "/"):=λq1=>by
    have e1:(Str.ofString "/").cps=#[47]:=by decide +kernel
    omega
   rw[ydl n]at e;have hh:=(h i hi).resolve_left q;unfold LC
   simp![e,Qg hh.1 hh.2]
 have e1:decide ((1:Int)<=x.length)=true:=ye3 (by show 1<=(x.cps.size:Int);omega)
 have e2:decide ((x.length:Int)<=60)=true:=ye3 (by show(x.cps.size:Int)<=60;omega)
 have ll:x.length<=100000:=l1;have ba:((List.range x.cps.size).map λ_=>true).all id=true:=by simp
 unfold LW NG
 simp![Qi,lc,l1,e1,e2,ll,JI,ba]
abbrev Qw:Stmt:=AQ 8
def Ua:AH :=
 (AN (Ba (m1 (Bn "int") (AA 0)) (Ai (m1 (Bn "bool") (AA 0)))))
def JP:List T->Option Ru:=Ae 1 1 Ua
abbrev OH:Fn:=⟨1,["thing"],JP⟩
abbrev zbs:Gm:=gA ["thing"] Qw 0 [] ["isinstance","int","bool"]
theorem zc2:Ck zbs OH Qw Ua:={}
theorem zd0(i:Int):JP [.int i]=some (.ok (.bl true)):=by rfl
abbrev RC:Stmt:=AQ 17
def Ub:AH :=
 (AN (Ba (AO JP (AB (AA 0) AD)) (m2 (Bg λi j=>decide (j<=i)) (AA 0) (mC (.int 0)))))
def P9:List T->Option Ru:=Ae 1 1 Ub
abbrev Vm:Fn:=⟨2,["thing"],P9⟩
abbrev zbd:Gm:=gA ["thing"] RC 1 [("is_whole",OH)] []
theorem zbg:Ck zbd Vm RC Ub:={}
theorem zi1(i:Int):P9 [.int i]=some (.ok (.bl (decide (0<=i)))):=by
 rfl
abbrev RE:Stmt:=AQ 16
def NI:AH :=
 (AG (A2 (BA (Ai (m1 (Bn "tuple") (AA 0))) (m2 BL (m1 BW (AA 0)) (mC (.int 3)))) (AN (mC (.bl false))) A4)
 (AN (Ba (m2 Bj (AK (AA 0) (mC (.int 0))) (AA 1)) (Ba (m2 Bj (AK (AA 0) (mC (.int 1))) (AA 2)) (AO P9 (AB (AK (AA 0) (mC (.int 2))) AD))))))
def LX:List T->Option Ru:=Ae 3 3 NI
abbrev Vn:Fn:=⟨3,["thing","watches","words"],LX⟩
abbrev zco:Gm:=gA ["thing","watches","words"] RE 2 [("is_number",Vm)] ["isinstance","tuple","len"]
theorem zcw:Ck zco Vn RE NI:={}
def Cj:List Str:=["<","<=",">",">=","="]
theorem J7:By Cj:=by unfold By;decide +kernel
abbrev RG:Stmt:=AQ 18
def Oq:AI :=
 (AO LX (AB (AA 0) (AB (AA 1) (AB (AA 2) AD))))
def NK:AH :=
 (AN (Ba (m1 (Bn "list") (AA 0)) (m1 EB (BN 1 [1,2] (BI (AA 0)) (AF 0) (mC (.bl true)) Oq))))
def Hq:List T->Option Ru:=Ae 3 3 NK
abbrev Kt:Fn:=⟨4,["thing","watches","words"],Hq⟩
abbrev zbu:Gm:=gA ["thing","watches","words"] RG 3 [("is_look",Vn)] ["isinstance","list","all"] [] ["watches","words"]
theorem zc4:Ck zbu Kt RG NK:={}
abbrev RN:Stmt:=AQ 33
def NR:AH :=
 (AN (m2 BJ (m1 IB (AA 0)) (m1 BW (AA 0))))
def Hs:List T->Option Ru:=Ae 1 1 NR
abbrev Ku:Fn:=⟨1,["texts"],Hs⟩
abbrev zb1:Gm:=gA ["texts"] RN 0 [] ["len","set"]
theorem zb2:Ck zb1 Ku RN NR:={}
theorem U7{val:Nat->L2.Key}{n:Nat}(h:∀i j,i<n->j<n->val i=val j->i=j):∀k,k<=n->(met val k).length=k/\∀x∈met val k,∃i,i<k/\x=val i
 |0,_=>⟨rfl,λx hx=>by cases hx⟩
 |k+1,hk=>by
  obtain⟨h1,h2⟩:=U7 h k (by omega)
  have hn:val k∉met val k:=λz=>by
   obtain⟨i,hi,e⟩:=h2 _ z;have:=h k i (by omega) (by omega) e
   omega
  have e:met val (k+1)=met val k++[val k]:=by
   conv=>lhs;unfold met
   omega
  rw[e];refine⟨by simp_all,λx hx=>?_⟩
  rcases ybb.mp hx with q|q
  .obtain⟨i,hi,e⟩:=h2 x q;exact⟨i,by omega,e⟩
  .exact⟨k,by omega,yab.mp q⟩
theorem zji{ys:List Str}(h:ys.Nodup):QG ys=ys.length:=by
 refine(U7 (λi j hi hj e=>?_) ys.length (yac _)).1
 have e':=Sum.inr.inj e;rw[ya6,ya6,ya0 hi,ya0 hj]at e';exact(ycw h).mp e'
theorem Lw{ys:List Str}(h:ys.Nodup)(hl:ys.length<1000):Hs [.lst (ys.map T.str)]=some (.ok (.bl true)):=by
 have e:(ys.length == ys.length)=true:=yen _;unfold Hs NR
 simp![IB,A8,Js,hl,zji h,Ce,e,ya1]
abbrev RK:Stmt:=AQ 32
def Ou:AI :=
 (AO JQ (AB (AA 0) AD))
def NO:AH :=
 (AG (A2 (BA (Ai (m1 (Bn "list") (AA 0))) (m2 (Bg λi j=>decide (j<i)) (m1 BW (AA 0)) (mC Nl))) (CZ "BadMachine" (AB (mC (.str "a machine's watches are a list of at most seven")) AD)) A4)
 (A2 (BA (Ai (m1 EB (BN 1 [] (BI (AA 0)) (AF 0) (mC (.bl true)) Ou))) (Ai (AO Hs (AB (AA 0) AD)))) (CZ "BadMachine" (AB (mC (.str "a machine's watches are unlike names")) AD)) A4))
def LZ:List T->Option Ru:=Ae 1 1 NO
abbrev Vq:Fn:=⟨4,["watches"],LZ⟩
abbrev za7:Gx:={ CD with co:=[("MOST_WATCHES",Nl)] }
abbrev zac:Gm:=gA ["watches"] RK 3 [("is_watch_name",OI),("are_unlike",Ku)] ["isinstance","list","len","all"] (ex:=["BadMachine"]) (ox:=za7)
theorem zaf:Ck zac Vq RK NO:={}
theorem Jr(ws:List Str):ws.map T.str=mT ws.length λi=>.str (ws.getD i Str.empty):=HU (by simp_all) λi hi=>by
 simp_all
theorem cw_ok{ws:List Str}(h:∀x∈ws,Ge x)(hd:ws.Nodup)(hl:ws.length<=7):LZ [.lst (ws.map T.str)]=some (.ok .non):=by
 have lc:=Fs (n:=ws.length) (me:=Ou) (x:=none) (cs:=[]) (g:=λi=>.str (ws.getD i Str.empty)) (f:=λ_=>.bl true) λi hi=>by
  have hm:ws.getD i Str.empty∈ws:=by
   simp_all
  unfold Ou
  simp![Pq (h _ hm)]
 rw[<- Jr]at lc;have l1:ws.length<=100000:=by omega
 have e1:decide (7<(ws.length:Int))=false:=ydl (by omega)
 have ba:((List.range ws.length).map λ_=>true).all id=true:=by simp
 have un:=Lw hd (by omega)
 unfold LZ NO Nl
 simp![A8,AU,ya1,lc,l1,e1,JI,ba,un]
abbrev RL:Stmt:=AQ 34
def Ll:AH :=
 (AG (A2 (BA (Ai (m1 (Bn "tuple") (AA 2))) (m2 BL (m1 BW (AA 2)) (mC (.int 2)))) (CZ "BadMachine" (AB (mC (.str "a room is a tuple of a name and a stay")) AD)) A4)
 (A2 (BA (Ai (AO LW (AB (AK (AA 2) (mC (.int 0))) AD))) (Ai (AO Hq (AB (AK (AA 2) (mC (.int 1))) (AB (AA 1) (AB (mC Nk) AD)))))) (CZ "BadMachine" (AB (mC (.str "a room has a name, and a stay of the machine's watches")) AD)) A4))
def Ov:AI :=
 (AK (AA 0) (mC (.int 0)))
def NP:AH :=
 (AG (A2 (BA (Ai (m1 (Bn "list") (AA 0))) (m2 BJ (m1 BW (AA 0)) (mC (.int 0)))) (CZ "BadMachine" (AB (mC (.str "a machine's rooms are a list of one or more")) AD)) A4)
 (AG (CA (BI (AA 0)) (AF 2) Ll)
 (A2 (Ai (AO Hs (AB (BN 1 [] (BI (AA 0)) (AF 0) (mC (.bl true)) Ov) AD))) (CZ "BadMachine" (AB (mC (.str "no two rooms have one name")) AD)) A4)))
def L4:List T->Option Ru:=Ae 2 3 NP
abbrev Vr:Fn:=⟨5,["rooms","watches"],L4⟩
abbrev zar:Gx:={ CD with co:=[("STAY_WORDS",Nk)] }
abbrev zat:Gm:=gA ["rooms","watches","room"] RL 4 [("is_room_name",Vl),("is_guard",Kt),("are_unlike",Ku)] ["isinstance","list","len","tuple"] (ex:=["BadMachine"]) (ox:=zar)
theorem zaw:Ck zat Vr RL NP:={}
def Bk(ws wd:List Str)(l:List T):Prop:=∀t∈l,∃x y n,t=.tup [.str x,.str y,.int n]/\x∈ws/\y∈wd/\0<=n
theorem Bk.sh{ws wd:List Str}{l:List T}(h:Bk ws wd l):An l=true:=by
 rw[EH,yau];intro t ht;obtain⟨x,y,n,rfl,_⟩:=h t ht
 rfl
theorem Bk.more{ws vs wd:List Str}{l:List T}(h:Bk ws wd l)(hs:∀x∈ws,x∈vs):Bk vs wd l:=λt ht=>by
 obtain⟨x,y,n,e,h1,h2,h3⟩:=h t ht;exact⟨x,y,n,e,hs x h1,h2,h3⟩
abbrev Ii(wd:List Str):T:=.nd false .rt (wd.map T.str)
theorem zif{ws wd:List Str}(h:By ws)(hd:By wd){t:T}(ht:∃x y n,t=.tup [.str x,.str y,.int n]/\x∈ws/\y∈wd/\0<=n):LX [t,.lst (ws.map T.str),Ii wd]=some (.ok (.bl true)):=by
 obtain⟨x,y,n,rfl,h1,h2,h3⟩:=ht;have e1:=Iq (o:=false) (k:=.lst) h (h x h1);have e2:=Iq (o:=false) (k:=.rt) hd (hd y h2);have e3:=zi1 n;rw[ye3 h1]at e1;rw[ye3 h2]at e2;rw[ye3 h3]at e3;unfold LX NI
 simp![Ef,A8,AU,e1,e2,e3]
theorem Ny{ws wd:List Str}(h:By ws)(hd:By wd){l:List T}(hl:l.length<=1000)(hk:Bk ws wd l):Hq [.lst l,.lst (ws.map T.str),Ii wd]=some (.ok (.bl true)):=by
 have hs:=hk.sh;have es:=AE l hs;have em:=mT_of l .non
 have sg:∀i,(l.getD i .non).sh=true:=λi=>by
  by_cases hi:i<l.length
  .rw[ya6,ya0 hi];rw[EH,yau]at hs;exact hs _ (yb7 hi)
  .rw[ya6,yan (by omega)]
   rfl
 have lc:=Fs (me:=Oq) (x:=none) (cs:=[some (.lst (ws.map T.str)),some (Ii wd)]) (g:=λi=>l.getD i .non) (f:=λ_=>.bl true) λi hi=>by
  have hm:l.getD i .non∈l:=by
   rw[ya6,ya0 hi];exact yb7 hi
  have e:=zif h hd (hk _ hm);unfold Oq
  simp![A8,AU,e,AX _ (sg i),sg i]
 rw[<- em]at lc;have l1:l.length<=100000:=by omega
 have ba:((List.range l.length).map λ_=>true).all id=true:=by simp
 unfold Hq NK
 simp![A8,AU,hs,es,l1,lc,JI,ba]
def Es:List Str:=["<","<="]
theorem zm5:Nk=Ii Es:=rfl
theorem VA:Ij=Ii Cj:=rfl
theorem Qb:By Es:=by unfold By;decide +kernel
structure RsOk(ws:List Str)(rs:List (Str×List T)):Prop where
 l1:1<=rs.length
 l64:rs.length<=64
 nm:∀r∈rs,LK r.1/\1<=r.1.cps.size/\r.1.cps.size<=60
 nd:(rs.map (·.1)).Nodup
 lk:∀r∈rs,Bk ws Es r.2/\r.2.length<=1000
abbrev Az(r:Str×List T):T:=.tup [.str r.1,.lst r.2]
abbrev Dh(rs:List (Str×List T)):T:=.lst (rs.map Az)
theorem IM{ws:List Str}{rs:List (Str×List T)}(h:RsOk ws rs):An (rs.map Az)=true:=by
 rw[EH,yau];intro t ht;obtain⟨r,hr,rfl⟩:=yao.mp ht;have:=(h.lk r hr).1.sh;show((!false) && (true && (((!false) && An r.2) && true)))=true
 omega
theorem zj6{ws:List Str}(hw:By ws){rs:List (Str×List T)}(h:RsOk ws rs):L4 [Dh rs,.lst (ws.map T.str)]=some (.ok .non):=by
 have sr:=IM h;have er:=AE _ sr;have hl1:=h.l1;have hl2:=h.l64;have en:(((rs.map Az).length:Int) == 0)=false:=by rw[beq_eq_false_iff_ne,ya1];omega
 obtain⟨τ,e,y,rfl⟩:=FO (b:=AF 2) (body:=Ll) (ts:=rs.map Az) (τ:=[some (Dh rs),some (.lst (ws.map T.str)),none]) (λi τ=>∃y,τ=[some (Dh rs),some (.lst (ws.map T.str)),y]) ⟨_,rfl⟩ λi t τ h1 h2=>by
  obtain⟨y,rfl⟩:=h2;obtain⟨r,hr,rfl⟩:=yao.mp (yci h1);obtain⟨n1,n2,n3⟩:=h.nm r hr;obtain⟨k1,k2⟩:=h.lk r hr;have e1:=rn_ok n1 n2 n3;have e2:=Ny hw Qb k2 k1;have e3:=k1.sh;refine⟨[some (Dh rs),some (.lst (ws.map T.str)),some (Az r)],by simp![],[some (Dh rs),some (.lst (ws.map T.str)),some (Az r)],?_,_,rfl⟩
  unfold Ll
  simp![zm5,Ef,A8,AU,e1,e2,e3,AE _ e3]
 have lc:=Nb (b:=AF 0) (me:=Ov) (ts:=rs.map Az) (λ_ τ=>∃y,τ=[y]) (λi=>.str ((rs.map (·.1)).getD i Str.empty)) ⟨none,rfl⟩ λi t τ h1 h2=>by
  obtain⟨y,rfl⟩:=h2;have hi :=by simpa using (ya9.mp h1).1
  rw[ya3,ya0 hi]at h1;have et :=(yak h1).symm;subst et;have k1:=(h.lk rs[i] (yb7 hi)).1.sh;have eg:(rs.map (·.1)).getD i Str.empty=rs[i].1:=by simp[hi]
  refine⟨[some (Az rs[i])],by simp![],?_,_,rfl⟩
  rw[eg];unfold Ov
  simp![k1]
 have em:(List.range (rs.map Az).length).map (λi=>T.str ((rs.map (·.1)).getD i Str.empty))=(rs.map (·.1)).map T.str:=by
  rw[Jr (rs.map (·.1)),ya1,ya1]
  rfl
 rw[em]at lc;have un:=Lw h.nd (by rw[ya1];omega)
 have ll:(rs.map Az).length<=100000:=by rw[ya1];omega
 unfold L4 NP
 simp![Ce,A8,AU,sr,er,en,e,lc,un,ll]
abbrev RO:Stmt:=AQ 36
def Ox:AI :=
 (AO JQ (AB (AA 0) AD))
def Ow:AI :=
 (m2 Bj (AA 0) (AA 1))
def NS:AH :=
 (AG (A2 (BA (Ai (m1 (Bn "list") (AA 0))) (Ai (m1 EB (BN 1 [] (BI (AA 0)) (AF 0) (mC (.bl true)) Ox)))) (AN (mC (.bl false))) A4)
 (AN (Ba (AO Hs (AB (AA 0) AD)) (m1 EB (BN 1 [1] (BI (AA 0)) (AF 0) (mC (.bl true)) Ow)))))
def L6:List T->Option Ru:=Ae 2 2 NS
abbrev Vt:Fn:=⟨4,["thing","watches"],L6⟩
abbrev zav:Gm:=gA ["thing","watches"] RO 3 [("is_watch_name",OI),("are_unlike",Ku)] ["isinstance","list","all"] [] ["watches"]
theorem zay:Ck zav Vt RO NS:={}
theorem zli{ws ns:List Str}(hw:∀x∈ws,Ge x)(hn:∀x∈ns,x∈ws)(hd:ns.Nodup)(hl:ns.length<=100):L6 [.lst (ns.map T.str),.lst (ws.map T.str)]=some (.ok (.bl true)):=by
 have tw :=λx hx=>Gp (hw x hx)
 have mem:∀i,i<ns.length->ns.getD i Str.empty∈ns:=λi hi=>by
  simp_all
 have lc:=Fs (n:=ns.length) (me:=Ox) (x:=none) (cs:=[]) (g:=λi=>.str (ns.getD i Str.empty)) (f:=λ_=>.bl true) λi hi=>by
  unfold Ox
  simp![Pq (hw _ (hn _ (mem i hi)))]
 have lc2:=Fs (me:=Ow) (x:=none) (cs:=[some (.lst (ws.map T.str))]) (g:=λi=>.str (ns.getD i Str.empty)) (f:=λ_=>.bl true) λi hi=>by
  have e:=Iq (o:=false) (k:=.lst) tw (tw _ (hn _ (mem i hi)));rw[ye3 (hn _ (mem i hi))]at e;unfold Ow
  simp![A8,AU,e]
 rw[<- Jr]at lc lc2;have l1:ns.length<=100000:=by omega
 have ba:((List.range ns.length).map λ_=>true).all id=true:=by simp
 have un:=Lw hd (by omega)
 unfold L6 NS
 simp![A8,AU,ya1,lc,lc2,l1,JI,ba,un]
abbrev RA:Stmt:=AQ 28
def K7:AH :=
 (AG (A2 (Ai (m1 (Bn "str") (AA 0))) (AN (mC (.bl false))) A4)
 (AN (BA (m2 BJ (AA 0) (mC (.str ""))) (Ba (m2 Bj (AK (AA 0) (m1 Cp (mC (.int 1)))) (BG (AB (mC (.str "!")) (AB (mC (.str "?")) AD)))) (AO JS (AB (Ct (Eh (AA 0) none (some (m1 Cp (mC (.int 1))))) (FH (AA 0) none (some (m1 Cp (mC (.int 1)))))) AD))))))
def Hn:List T->Option Ru:=Ae 1 1 K7
abbrev Vk:Fn:=⟨3,["thing"],Hn⟩
abbrev zcm:Gm:=gA ["thing"] RA 2 [("is_name",OK)] ["isinstance","str"]
theorem zcu:Ck zcm Vk RA K7:={}
def Hk(z:Str):Prop:=z=Str.ofString ""\/∃(y:Str) (c:Nat),FR y/\1<=y.cps.size/\y.cps.size<=8/\(c=33\/c=63)/\Tx.cs z=Tx.cs y++[c]
theorem zk0{y:Str}(h:FR y):∀c∈Tx.cs y,97<=c/\c<=122:=λc hc=>by
 obtain⟨i,hi⟩:=List.getElem?_of_mem hc;have hl :=by simpa using (ya9.mp hi).1
 have:=h i hl
 simp_all
theorem zh1{z:Str}(h:Hk z):∀c∈Tx.cs z,c<128/\c≠32/\c≠10/\c≠58:=λc hc=>by
 rcases h with rfl|⟨y,d,h1,_,_,hd,e⟩
 .cases hc
 .rw[e]at hc
  rcases ybb.mp hc with hc|hc
  .have:=zk0 h1 c hc
   omega
  .rw[yab.mp hc]
   omega
theorem MP{z:Str}(h:Hk z):PyData.strOk z=true:=zmt λc hc=>(zh1 h c hc).1
theorem zk2{z:Str}(h:Hk z):Hn [.str z]=some (.ok (.bl true)):=by
 have o0:PyData.strOk (Str.ofString "")=true:=by decide +kernel
 have tl:∀c,(c=33\/c=63)->Bj (.str (Str.mk #[c])) (.tup [.str (Str.ofString "!"),.str (Str.ofString "?")])=some (.bl true):=λc hc=>by
  rcases hc with rfl|rfl<;>ext
 have key:∀z y:Str,PyData.strOk z=true->z≠Str.ofString ""->z.length<=100000->∀c,(c=33\/c=63)->A6 z.cps.toList (-1)=some c->Txt.slice z none (some (-1))=y->FR y->1<=y.cps.size->y.cps.size<=8->Hn [.str z]=some (.ok (.bl true)):=by
  intro z y hz hne hl c hc ha hs h1 h2 h3;have e:=Fy hz o0;rw[ydl hne]at e;have en:=U0 h1 h2 h3;unfold Hn K7
  simp![e,hl,ha,tl c hc,FH,hs,en,show(-(1:Int))=-1 from rfl]
 rcases id h with rfl|⟨y,c,h1,h2,h3,hc,e⟩
 .have e:=Fy o0 o0;rw[ye3 rfl]at e;unfold Hn K7
  simp![e]
 .have hl:(Tx.cs z).length=(Tx.cs y).length+1:=by rw[e,yaz];rfl
  have h3':(Tx.cs y).length<=8:=h3;refine key z y (MP h) (λq=>?_) (by rw[Tx.cs_len];omega) c hc ?_ ?_ h1 h2 h3
  .rw[q,show Tx.cs (Str.ofString "")=[] by decide +kernel]at hl
   exact absurd hl (by rw[ybn];omega)
  .show A6 (Tx.cs z) (-1)=some c;rw[e];unfold A6 Cu;rw[yaz,ybl,if_neg (by decide),if_pos (by omega)]
   show(Tx.cs y++[c])[((-1:Int)+((Tx.cs y).length+1:Nat)).toNat]?=some c;rw[show((-1:Int)+((Tx.cs y).length+1:Nat)).toNat=(Tx.cs y).length by omega,yb4 (yac _),Nat.sub_self]
   rfl
  .have e2:Txt.slice z none (some (-1))=StrLaws.sliceText z none (some (-1)):=rfl;rw[e2,StrLaws.sliceText_neg_hi z none (by decide) (by rw[Tx.cs_len,hl];omega)]
   have e3:(-1+z.length)=((Tx.cs y).length:Int):=by rw[Tx.cs_len,hl];omega
   rw[e3];refine Tx.cs_ext ?_;show Tx.cs (Txt.slice z none (some (((Tx.cs y).length:Nat):Int)))=Tx.cs y;rw[Tx.sl_to (by omega),e,List.take_left' rfl]
abbrev Qs:Stmt:=AQ 29
def NB:AH :=
 (AN (DH (m1 (Bn "list") (AA 0)) (m1 CO (AA 0)) (AA 0)))
def JO:List T->Option Ru:=Ae 1 1 NB
abbrev Vg:Fn:=⟨1,["thing"],JO⟩
abbrev zbr:Gm:=gA ["thing"] Qs 0 [] ["isinstance","list"]
theorem zc1:Ck zbr Vg Qs NB:={}
theorem TJ(l:List T)(h:An l=true):JO [.lst l]=some (.ok (.own l)):=by
 unfold JO NB
 simp![h,AE _ h]
abbrev RM:Stmt:=AQ 35
def Lm:AH :=
 (AG (A2 (Ai (m1 (Ip O4) (AA 3))) (CZ "BadMachine" (AB (mC (.str "a machine's doors are doors")) AD)) A4)
 (AG (A2 (BA (m2 G1 (Bi BC BP 0 (AA 3)) (AA 1)) (m2 G1 (Bi BC BP 1 (AA 3)) (AA 1))) (CZ "BadMachine" (AB (mC (.str "a door leads from one room of the machine to another")) AD)) A4)
 (AG (A2 (Ai (AO Hq (AB (Bi BC BP 2 (AA 3)) (AB (AA 2) (AB (mC Ij) AD))))) (CZ "BadMachine" (AB (mC (.str "a door's guard is one of the machine's watches")) AD)) A4)
 (A2 (BA (Ai (AO L6 (AB (Bi BC BP 3 (AA 3)) (AB (AA 2) AD)))) (Ai (AO Hn (AB (Bi BC BP 4 (AA 3)) AD)))) (CZ "BadMachine" (AB (mC (.str "a door sets watches of the machine, each once, and has at most one sign")) AD)) A4))))
def NQ:AH :=
 (AG (A2 (Ai (m1 (Bn "list") (AA 0))) (CZ "BadMachine" (AB (mC (.str "a machine's doors are a list")) AD)) A4)
 (CA (BI (AA 0)) (AF 3) Lm))
def L5:List T->Option Ru:=Ae 3 4 NQ
abbrev Vs:Fn:=⟨5,["doors","names","watches"],L5⟩
abbrev zas:Gx:={ CD with co:=[("WORDS",Ij)],cl:=[("Door",BC,BP)],ci:=[("Door",O4)] }
abbrev zau:Gm:=gA ["doors","names","watches","door"] RM 4 [("is_guard",Kt),("are_noughts",Vt),("is_sign",Vk)] ["isinstance","list"] (ex:=["BadMachine"]) (ox:=zas)
theorem zax:Ck zau Vs RM NQ:={}
structure Dr where
 s:Str
 e:Str
 g:List T
 n:List Str
 z:Str
abbrev B5(d:Dr):T:=.obj (.ins BC BP) [.str d.s,.str d.e,.lst d.g,.lst (d.n.map T.str),.str d.z]
structure DrOk(ws ns:List Str)(d:Dr):Prop where
 s:d.s∈ns
 e:d.e∈ns
 g:Bk ws Cj d.g
 gl:d.g.length<=1000
 n:∀x∈d.n,x∈ws
 nd:d.n.Nodup
 nl:d.n.length<=100
 z:Hk d.z
theorem W3{ws ns:List Str}{d:Dr}(h:DrOk ws ns d):(B5 d).sh=true:=by
 have:=h.g.sh
 simp![this,AU]
theorem UZ{ys:List Str}{x:Str}{o:Bool}{k:Kd}(h:By ys)(hx:PyData.strOk x=true):G1 (.str x) (.nd o k (ys.map T.str))=some (.bl (!decide (x∈ys))):=by
 have e:=Iq (o:=o) (k:=k) h hx;unfold Bj at e;unfold G1
 omega
theorem zj9{ws ns:List Str}(hw:∀x∈ws,Ge x)(hn:By ns){ds:List Dr}(h:∀d∈ds,DrOk ws ns d):L5 [.lst (ds.map B5),.lst (ns.map T.str),.lst (ws.map T.str)]=some (.ok .non):=by
 have tw :=λx hx=>Gp (hw x hx)
 have sd:An (ds.map B5)=true:=by
  rw[EH,yau];intro t ht;obtain⟨d,hd,rfl⟩:=yao.mp ht;exact W3 (h d hd)
 have ed:=AE _ sd
 obtain⟨τ,e,y,rfl⟩:=FO (b:=AF 3) (body:=Lm) (ts:=ds.map B5) (τ:=[some (.lst (ds.map B5)),some (.lst (ns.map T.str)),some (.lst (ws.map T.str)),none]) (λi τ=>∃y,τ=[some (.lst (ds.map B5)),some (.lst (ns.map T.str)),some (.lst (ws.map T.str)),y]) ⟨_,rfl⟩ λi t τ h1 h2=>by
  obtain⟨y,rfl⟩:=h2;obtain⟨d,hd,rfl⟩:=yao.mp (yci h1);have k:=h d hd;have e1:=UZ (o:=false) (k:=.lst) hn (hn _ k.s);have e2:=UZ (o:=false) (k:=.lst) hn (hn _ k.e);rw[ye3 k.s]at e1;rw[ye3 k.e]at e2;have e3:=Ny tw J7 k.gl k.g;have e4:=zli hw k.n k.nd k.nl;have e5:=zk2 k.z;have e6:=k.g.sh;have ci:List.lookup BC O4=some true:=rfl;refine⟨[some (.lst (ds.map B5)),some (.lst (ns.map T.str)),some (.lst (ws.map T.str)),some (B5 d)],by simp![],[some (.lst (ds.map B5)),some (.lst (ns.map T.str)),some (.lst (ws.map T.str)),some (B5 d)],?_,_,rfl⟩
  unfold Lm
  simp![VA,Ip,ci,A8,AU,e1,e2,e3,e4,e5,e6,AE _ e6]
 unfold L5 NQ
 simp![A8,AU,sd,ed,e]
abbrev M1:Stmt:=CV 30 0
def N6:AH :=
 (AG (DR BC BP 0 0 (AA 1))
 (AG (DR BC BP 1 0 (AA 2))
 (AG (DR BC BP 2 0 (AO JO (AB (AA 3) AD)))
 (AG (DR BC BP 3 0 (AO JO (AB (AA 4) AD)))
 (DR BC BP 4 0 (AA 5))))))
def JZ:List T->Option Ru:=Ey BC BP 6 6 N6
abbrev WI:Fn:=⟨2,["self","start","end","guard","noughts","sign"],JZ⟩
abbrev zba:Gx:={ CD with sf:=some (BC,BP) }
abbrev V4:Gm:=gA ["self","start","end","guard","noughts","sign"] M1 1 [("own_copy",Vg)] [] (ox:=zba)
theorem Ws:Ck V4 WI M1 N6:={}
theorem di_ok{ws ns:List Str}{d:Dr}(h:DrOk ws ns d):JZ [.str d.s,.str d.e,.lst d.g,.lst (d.n.map T.str),.str d.z]=some (.ok (B5 d)):=by
 have hg:=h.g.sh;have e1:=TJ d.g hg;have e2:=TJ (d.n.map T.str) (AU _);refine Rh λp=>?_
 unfold Ff N6
 simp![e1,e2,hg,AE _ hg,A8,AU]
abbrev MY:Stmt:=CV 31 0
def Oy:AI :=
 (AA 0)
def Ln:AH :=
 (IL Ak Ay 1 0 (AA 4) (m1 CO (AA 5)))
def NW:AH :=
 (AG (GU (AO LZ (AB (AA 1) AD)))
 (AG (GU (AO L4 (AB (AA 2) (AB (AA 1) AD))))
 (AG (GU (AO L5 (AB (AA 3) (AB (BN 2 [] (BI (AA 2)) (BX 2 (Ac (AF 0) (Ac (AF 1) B7))) (mC (.bl true)) Oy) (AB (AA 1) AD)))))
 (AG (A2 (BA (m2 (Bg λi j=>decide (j<i)) (m1 BW (AA 2)) (mC Nm)) (m2 (Bg λi j=>decide (j<i)) (m1 BW (AA 3)) (mC Nn))) (CZ "TooMany" (AB (mC (.str "a machine has at most 64 rooms and at most 200 doors")) AD)) A4)
 (AG (DR Ak Ay 0 0 (m1 CO (AA 1)))
 (AG (DR Ak Ay 1 0 Kf)
 (AG (CA (BI (AA 2)) (BX 2 (Ac (AF 4) (Ac (AF 5) B7))) Ln)
 (DR Ak Ay 2 0 (m1 CO (AA 3))))))))))
def JU:List T->Option Ru:=Ey Ak Ay 4 6 NW
abbrev Vw:Fn:=⟨6,["self","watches","rooms","doors"],JU⟩
abbrev zak:Gx:={ CD with co:=[("MOST_ROOMS",Nm),("MOST_DOORS",Nn)],sf:=some (Ak,Ay) }
abbrev V1:Gm:=gA ["self","watches","rooms","doors","name","stay"] MY 5 [("check_watches",Vq),("check_rooms",Vr),("check_doors",Vs)] ["len","list"] (ex:=["TooMany"]) (ox:=zak)
theorem Wo:Ck V1 Vw MY NW:={}
structure Mc where
 ws:List Str
 rs:List (Str×List T)
 ds:List Dr
abbrev HP(M:Mc):T:=.obj (.ins Ak Ay) [.lst (M.ws.map T.str),.obj (.sdc (M.rs.map (·.1))) (M.rs.map λr=>.lst r.2),.lst (M.ds.map B5)]
structure McOk(M:Mc):Prop where
 w:∀x∈M.ws,Ge x
 wd:M.ws.Nodup
 wl:M.ws.length<=7
 r:RsOk M.ws M.rs
 d:∀d∈M.ds,DrOk M.ws (M.rs.map (·.1)) d
 dl:M.ds.length<=200
theorem McOk.tw{M:Mc}(h:McOk M):By M.ws:=λx hx=>Gp (h.w x hx)
theorem McOk.tn{M:Mc}(h:McOk M):By (M.rs.map (·.1)):=λx hx=>by
 obtain⟨r,hr,rfl⟩:=yao.mp hx;exact Rl (h.r.nm r hr).1
theorem McOk.sd{M:Mc}(h:McOk M):An (M.ds.map B5)=true:=by
 rw[EH,yau];intro t ht;obtain⟨d,hd,rfl⟩:=yao.mp ht;exact W3 (h.d d hd)
theorem McOk.ss{M:Mc}(h:McOk M):An (M.rs.map λr=>T.lst r.2)=true:=by
 rw[EH,yau];intro t ht;obtain⟨r,hr,rfl⟩:=yao.mp ht;show((!false) && An r.2)=true;rw[(h.r.lk r hr).1.sh]
 rfl
theorem McOk.sh{M:Mc}(h:McOk M):(HP M).sh=true:=by
 simp![AU,h.ss,h.sd]
theorem zi7{M:Mc}(h:McOk M):JU [.lst (M.ws.map T.str),Dh M.rs,.lst (M.ds.map B5)]=some (.ok (HP M)):=by
 have cw:=cw_ok h.w h.wd h.wl;have cr:=zj6 h.tw h.r;have cd:=zj9 h.w h.tn h.d;have sr:=IM h.r;have er:=AE _ sr;have sd:=h.sd;have ed:=AE _ sd;have h1:=h.r.l1;have h64:=h.r.l64;have h200:=h.dl
 have lc:=Nb (b:=BX 2 (Ac (AF 0) (Ac (AF 1) B7))) (me:=Oy) (ts:=M.rs.map Az) (λ_ τ=>∃x y,τ=[x,y]) (λi=>.str ((M.rs.map (·.1)).getD i Str.empty)) ⟨none,none,rfl⟩ λi t τ h1 h2=>by
  obtain⟨x,y,rfl⟩:=h2;have hi:i<M.rs.length:=by simpa using (ya9.mp h1).1
  rw[ya3,ya0 hi]at h1;have et :=(yak h1).symm;subst et;have eg:(M.rs.map (·.1)).getD i Str.empty=M.rs[i].1:=by simp[hi]
  refine⟨[some (.str M.rs[i].1),some (.lst M.rs[i].2)],by simp![],?_,_,_,rfl⟩
  rw[eg];unfold Oy
  simp![]
 have em:(List.range (M.rs.map Az).length).map (λi=>T.str ((M.rs.map (·.1)).getD i Str.empty))=(M.rs.map (·.1)).map T.str:=by
  rw[Jr (M.rs.map (·.1)),ya1,ya1]
  rfl
 rw[em]at lc;have ll:(M.rs.map Az).length<=100000:=by rw[ya1];omega
 have g1:decide ((64:Int)<((M.rs.map Az).length:Int))=false:=ydl (by rw[ya1];omega)
 have g2:decide ((200:Int)<((M.ds.map B5).length:Int))=false:=ydl (by rw[ya1];omega)
 refine Rh λp=>?_
 obtain⟨τ,e,x,y,rfl⟩:=FO (b:=BX 2 (Ac (AF 4) (Ac (AF 5) B7))) (body:=Ln) (ts:=M.rs.map Az) (τ:=[some (.oob p Ak Ay [.own (M.ws.map T.str),.osd [] []]),some (.lst (M.ws.map T.str)),some (Dh M.rs),some (.lst (M.ds.map B5)),none,none])
  (λi τ=>∃x y,τ=[some (.oob p Ak Ay [.own (M.ws.map T.str),.osd ((M.rs.take i).map (·.1)) ((M.rs.take i).map λr=>.lst r.2)]),some (.lst (M.ws.map T.str)),some (Dh M.rs),some (.lst (M.ds.map B5)),x,y]) ⟨none,none,by rw[List.take_zero];rfl⟩ λi t τ h1 h2=>by
  obtain⟨x,y,rfl⟩:=h2;have hi:i<M.rs.length:=by simpa using (ya9.mp h1).1
  rw[ya3,ya0 hi]at h1;have et :=(yak h1).symm;subst et;have k1:=(h.r.lk _ (yb7 hi)).1.sh
  have hno:M.rs[i].1∉(M.rs.take i).map (·.1):=λhm=>by
   rw[List.map_take]at hm;obtain⟨j,hj,ej⟩:=List.mem_iff_getElem.mp hm;rw[ych,ya1]at hj;have hnd:=h.r.nd;rw[List.getElem_take]at ej;have e2:(M.rs.map (·.1))[j]'(by rw[ya1];omega)=(M.rs.map (·.1))[i]'(by rw[ya1];exact hi):=by rw[ej,List.getElem_map]
   have:=(ycw hnd).mp e2
   omega
  have hlen:((M.rs.take i).map (·.1)).length<100000:=by
   rw[ya1,ych]
   omega
  have et2:M.rs.take (i+1)=M.rs.take i++[M.rs[i]]:=by rw[List.take_append_getElem]
  refine⟨[some (.oob p Ak Ay [.own (M.ws.map T.str),.osd ((M.rs.take i).map (·.1)) ((M.rs.take i).map λr=>.lst r.2)]),some (.lst (M.ws.map T.str)),some (Dh M.rs),some (.lst (M.ds.map B5)),some (.str M.rs[i].1),some (.lst M.rs[i].2)],by simp![],[some (.oob p Ak Ay [.own (M.ws.map T.str),.osd ((M.rs.take (i+1)).map (·.1)) ((M.rs.take (i+1)).map λr=>.lst r.2)]),some (.lst (M.ws.map T.str)),some (Dh M.rs),some (.lst (M.ds.map B5)),some (.str M.rs[i].1),some (.lst M.rs[i].2)],?_,_,_,rfl⟩
  rw[et2,ybx,ybx];unfold Ln
  simp![k1,AE _ k1,hno,hlen]
 rw[ya1,List.take_length]at e;have es:=AE _ h.ss;unfold Ff NW Nm Nn
 simp![A8,AU,cw,cr,cd,sr,er,sd,ed,lc,ll,g1,g2,e,es]
theorem DI{α:Type}{b:T->AM->Option AM}{me:AI}(f g:α->T)(I:AM->Prop):∀(L:List α) (τ:AM),I τ->(∀x∈L,∀τ,I τ->∃τ1,b (f x) τ=some τ1/\me τ1=some (.v (g x) false)/\I τ1)->Bd b (mC (.bl true)) me (L.map f) τ=some (L.map g)
 |[],_,_,_=>rfl
 |x::L,τ,h,hs=>by
  obtain⟨τ1,e1,e2,h1⟩:=hs x (ya5 ..) τ h;have k:=DI f g I L τ1 h1 λu hu=>hs u (ya8 _ hu)
  have f1:mC (.bl true) τ1=some (.v (.bl true) false):=rfl;rw[yal,yal];unfold Bd;simp only[e1,f1,e2,k]
theorem C4{α:Type}{f:α->T}{L:List α}(h:∀x∈L,(f x).sh=true):An (L.map f)=true:=by
 rw[EH,yau];intro t ht;obtain⟨x,hx,rfl⟩:=yao.mp ht;exact h x hx
theorem sq{f g:AH}{τ τ':AM}{r:Option Out}(h:f τ=some (.nx τ'))(h2:g τ'=r):AG f g τ=r:=by
 unfold AG;rw[h];exact h2
theorem Ki{α:Type}{b:T->AM->Option AM}{mt me:AI}(f g:α->T)(p:α->Bool)(I:AM->Prop):∀(L:List α) (τ:AM),I τ->(∀x∈L,∀τ,I τ->∃τ1 bb,b (f x) τ=some τ1/\mt τ1=some (.v (.bl (p x)) bb)/\(p x=true->me τ1=some (.v (g x) false))/\I τ1)->Bd b mt me (L.map f) τ=some ((L.filter p).map g)
 |[],_,_,_=>rfl
 |x::L,τ,h,hs=>by
  obtain⟨τ1,bb,e1,e2,e3,h1⟩:=hs x (ya5 ..) τ h;have k:=Ki f g p I L τ1 h1 λu hu=>hs u (ya8 _ hu)
  rw[yal,List.filter_cons];unfold Bd;cases hp:p x with
  |true=>simp_all
  |false=>omega
theorem Pk{α β:Type}(f:α->T)(g:β->T):∀(a:List α) (b:List β),Hy (a.map f) (b.map g)=(a.zip b).map λx=>T.tup [f x.1,g x.2]
 |[],b=>by rfl
 |x::a,[]=>rfl
 |x::a,y::b=>by
  rw[yal,yal,ycb,yal,<- Pk f g a b]
  rfl
def Mc.nm(M:Mc):List Str:=M.rs.map (·.1)
noncomputable def d0:Dr:=⟨"","",[],[],""⟩
theorem Eg{α:Type}(l:List α)(hl:l≠[])(i:Int):∃x∈l,A6 l (i.fmod (l.length:Int))=some x:=by
 have hp:0<l.length:=List.length_pos_iff.mpr hl;have h0:=yaj i (show(0:Int)<(l.length:Int) by omega)
 have h1:=yb5 i (show(0:Int)<(l.length:Int) by omega)
 have h2:(i.fmod (l.length:Int)).toNat<l.length:=by omega
 exact⟨l[(i.fmod (l.length:Int)).toNat],yb7 h2,JK h0 (ya0 h2)⟩
theorem FQ{α:Type}(f:α->T){l:List α}{i:Int}{x:α}(h:A6 l i=some x):A6 (l.map f) i=some (f x):=by
 unfold A6 at h ⊢;rw[ya1];cases hi:Cu l.length i with
 |none=>rw[hi]at h;cases h
 |some j =>
  rw[hi]at h;have h':l[j]?=some x:=h;show(l.map f)[j]?=some (f x);rw[ya3,h']
  rfl
theorem Na{α:Type}{l:List α}(h:l≠[]):((l.length:Nat):Int)≠0:=λz=>h (List.length_eq_zero_iff.mp (Int.ofNat.inj z))
theorem PL{α:Type}(f:α->Bool):∀L:List α,EW (L.map λx=>T.bl (f x))=some (L.map f)
 |[]=>rfl
 |a::r=>by
  rw[yal,yal];unfold EW;rw[PL f r]
theorem WW:PyData.strOk (Str.ofString "")=true:=by decide +kernel
abbrev AW(l:List T):T:=.nd false .rl l
abbrev BU(d:Dr):T:=.obj (.ins BC BP) [.str d.s,.str d.e,.nd false .rl d.g,.nd false .rl (d.n.map T.str),.str d.z]
abbrev Dp(M:Mc):T:=.obj (.ins Ak Ay) [.nd false .rl (M.ws.map T.str),.obj (.sdc (M.rs.map (·.1))) (M.rs.map λr=>.nd false .rl r.2),.nd false .rl (M.ds.map BU)]
theorem Hh(ws:List Str):Ar (ws.map T.str)=ws.map T.str:=by
 rw[Cf,yaq]
 rfl
theorem Bk.age{ws wd:List Str}{l:List T}(h:Bk ws wd l):Ar l=l:=by
 rw[Cf];refine(yb2 λt ht=>?_).trans (List.map_id l)
 obtain⟨x,y,n,rfl,-⟩:=h t ht
 rfl
theorem zj2{ws ns:List Str}{d:Dr}(h:DrOk ws ns d):(B5 d).age=BU d:=by
 show T.obj _ [.str d.s,.str d.e,.nd false .rl (Ar d.g),.nd false .rl (Ar (d.n.map T.str)),.str d.z]=_;rw[h.g.age,Hh]
theorem zid{M:Mc}(h:McOk M):(HP M).age=Dp M:=by
 have a:Ar (M.rs.map λr=>T.lst r.2)=M.rs.map λr=>T.nd false .rl r.2:=by
  rw[Cf,yaq];refine yb2 λr hr=>?_
  show T.nd false .rl (Ar r.2)=_;rw[(h.r.lk r hr).1.age]
 have b:Ar (M.ds.map B5)=M.ds.map BU:=by
  rw[Cf,yaq];exact yb2 λd hd=>zj2 (h.d d hd)
 show T.obj _ [.nd false .rl (Ar (M.ws.map T.str)),.obj _ (Ar (M.rs.map λr=>.lst r.2)),.nd false .rl (Ar (M.ds.map B5))]=_
 rw[Hh,a,b]
theorem zj3{ws ns:List Str}{d:Dr}(h:DrOk ws ns d):(BU d).sh=true:=by
 have:=h.g.sh
 simp![this,AU]
theorem McOk.sdR{M:Mc}(h:McOk M):An (M.ds.map BU)=true:=C4 λd hd=>zj3 (h.d d hd)
theorem McOk.ssR{M:Mc}(h:McOk M):An (M.rs.map λr=>T.nd false .rl r.2)=true:=C4 λr hr=>by
 have:=(h.r.lk r hr).1.sh
 simp![this]
theorem McOk.shR{M:Mc}(h:McOk M):(Dp M).sh=true:=by
 have a:=h.sdR;have b:=h.ssR
 simp![a,b,AU]
def Ah(M:Mc):T:=Dp M
theorem Cr{M:Mc}(h:McOk M):(Ah M).sh=true:=h.shR
theorem HN(M:Mc):DL Ak Ay (Ah M)=some [.nd false .rl (M.ws.map T.str),.obj (.sdc (M.rs.map (·.1))) (M.rs.map λr=>.nd false .rl r.2),.nd false .rl (M.ds.map BU)]:=(show DL Ak Ay (Dp M)=(if Ak=Ak/\Ay=Ay then some [.nd false .rl (M.ws.map T.str),.obj (.sdc (M.rs.map (·.1))) (M.rs.map λr=>.nd false .rl r.2),.nd false .rl (M.ds.map BU)] else none) from rfl).trans (if_pos ⟨rfl,rfl⟩)
abbrev MU:Stmt:=CV 31 1
def NT:AH :=
 (AN (Ct (m1 CO (Bi Ak Ay 0 (AA 0))) (Fm (Bi Ak Ay 0 (AA 0)))))
def GF:List T->Option Ru:=Ae 1 1 NT
abbrev OM:Fn:=⟨1,["self"],GF⟩
abbrev za3:Gx:={ CD with cl:=[("Machine",Ak,Ay)] }
abbrev VX:Gm:=gA ["self"] MU 0 [] ["list"] (ox:=za3)
theorem Wk:Ck VX OM MU NT:={}
theorem U2{M:Mc}(h:McOk M):GF [Dp M]=some (.ok (.own (M.ws.map T.str))):=by
 unfold GF NT
 simp![A8,AU,h.ssR,h.sdR,AE _ h.ssR,AE _ h.sdR]
theorem mcT_w{M:Mc}(h:McOk M):GF [Ah M]=some (.ok (.own (M.ws.map T.str))):=U2 h
abbrev MX:Stmt:=CV 31 2
def Uc:AH :=
 (AN (Ct (m1 CO (Bi Ak Ay 1 (AA 0))) (Fm (Bi Ak Ay 1 (AA 0)))))
def Ht:List T->Option Ru:=Ae 1 1 Uc
abbrev Vv:Fn:=⟨1,["self"],Ht⟩
abbrev za8:Gx:={ CD with cl:=[("Machine",Ak,Ay)] }
abbrev V0:Gm:=gA ["self"] MX 0 [] ["list"] (ox:=za8)
theorem Wn:Ck V0 Vv MX Uc:={}
theorem zlo{M:Mc}(h:McOk M):Ht [Dp M]=some (.ok (.own ((M.rs.map (·.1)).map T.str))):=by
 rfl
abbrev MZ:Stmt:=CV 31 3
def NX:AH :=
 (AN (Ct (m1 CO (Bi Ak Ay 2 (AA 0))) (Fm (Bi Ak Ay 2 (AA 0)))))
def Gh:List T->Option Ru:=Ae 1 1 NX
abbrev Vx:Fn:=⟨1,["self"],Gh⟩
abbrev za9:Gx:={ CD with cl:=[("Machine",Ak,Ay)] }
abbrev V2:Gm:=gA ["self"] MZ 0 [] ["list"] (ox:=za9)
theorem Wp:Ck V2 Vx MZ NX:={}
theorem zlq{M:Mc}(h:McOk M):Gh [Dp M]=some (.ok (.own (M.ds.map BU))):=by
 unfold Gh NX
 simp![A8,AU,h.ssR,h.sdR,AE _ h.ssR,AE _ h.sdR]
abbrev MW:Stmt:=CV 31 4
def NV:AH :=
 (AN (m1 CO (Ic (Bi Ak Ay 1 (AA 0)) (AA 1))))
def Gg:List T->Option Ru:=Ae 2 2 NV
abbrev Vu:Fn:=⟨1,["self","room"],Gg⟩
abbrev zaj:Gx:={ CD with cl:=[("Machine",Ak,Ay)] }
abbrev VZ:Gm:=gA ["self","room"] MW 0 [] ["list"] (ox:=zaj)
theorem Wm:Ck VZ Vu MW NV:={}
theorem VO{ws:List Str}(hd:ws.Nodup){i:Nat}(hi:i<ws.length):CP ws ws[i]=some i:=by
 unfold CP;rw[yb0];refine⟨hi,@decide_eq_true _ (Classical.propDecidable _) rfl,λj hj q=>?_⟩
 have:=@of_decide_eq_true _ (Classical.propDecidable _) q;have:=(ycw hd).mp this
 omega
theorem zln{M:Mc}(h:McOk M){i:Nat}(hi:i<M.rs.length):Gg [Dp M,.str M.rs[i].1]=some (.ok (.own M.rs[i].2)):=by
 have e:=VO h.r.nd (i:=i) (by simp_all)
 rw[List.getElem_map]at e;have e2:(M.rs.map λr=>T.nd false .rl r.2)[i]?=some (.nd false .rl M.rs[i].2):=by simp_all
 have k:=(h.r.lk _ (yb7 hi)).1.sh;unfold Gg NV
 simp![Ic,A8,AU,h.ssR,h.sdR,AE _ h.ssR,AE _ h.sdR,e,e2,k,AE _ k]
def Cn(M:Mc)(r:Str):List T:=((M.rs.find? λx=>decide (x.1=r)).map (·.2)).getD []
theorem Jq{M:Mc}(h:McOk M){r:Str}(hr:r∈M.nm):Gg [Ah M,.str r]=some (.ok (.own (Cn M r)))/\An (Cn M r)=true/\(Cn M r).length<=1000/\Bk M.ws Es (Cn M r):=by
 obtain⟨x,hx,rfl⟩:=yao.mp (hr)
 obtain⟨y,hy⟩:∃y,M.rs.find? (λz=>decide (z.1=x.1))=some y:=by
  cases hf:M.rs.find? (λz=>decide (z.1=x.1)) with
  |some y=>omega
  |none=>exact absurd (List.find?_eq_none.mp hf x hx) (by simp)
 have hy1 :=by simpa using List.find?_some hy
 have hym:=List.mem_of_find?_eq_some hy;have es:Cn M x.1=y.2:=by unfold Cn;rw[hy];rfl
 obtain⟨i,hi,rfl⟩:=List.getElem_of_mem hym;obtain⟨k1,k2⟩:=h.r.lk _ hym;rw[es,<- hy1];exact⟨zln h hi,k1.sh,k2,k1⟩
abbrev M3:Stmt:=CV 30 1
def N7:AH :=
 (AN (Ct (m1 CO (Bi BC BP 2 (AA 0))) (Fm (Bi BC BP 2 (AA 0)))))
def Hx:List T->Option Ru:=Ae 1 1 N7
abbrev WJ:Fn:=⟨1,["self"],Hx⟩
abbrev zbb:Gx:={ CD with cl:=[("Door",BC,BP)] }
abbrev V5:Gm:=gA ["self"] M3 0 [] ["list"] (ox:=zbb)
theorem Wt:Ck V5 WJ M3 N7:={}
theorem zml{d:Dr}(h:An d.g=true):Hx [BU d]=some (.ok (.own d.g)):=by
 unfold Hx N7
 simp![A8,AU,h,AE _ h]
abbrev M0:Stmt:=CV 30 2
def N5:AH :=
 (AN (Ct (m1 CO (Bi BC BP 3 (AA 0))) (Fm (Bi BC BP 3 (AA 0)))))
def Hw:List T->Option Ru:=Ae 1 1 N5
abbrev WH:Fn:=⟨1,["self"],Hw⟩
abbrev zb9:Gx:={ CD with cl:=[("Door",BC,BP)] }
abbrev V3:Gm:=gA ["self"] M0 0 [] ["list"] (ox:=zb9)
theorem Wq:Ck V3 WH M0 N5:={}
theorem zmj{d:Dr}(h:An d.g=true):Hw [BU d]=some (.ok (.own (d.n.map T.str))):=by
 unfold Hw N5
 simp![A8,AU,h,AE _ h]
abbrev RJ:Stmt:=AQ 9
def Gw:AI :=
 (m2 BL (AA 3) (mC (.int 0)))
def Lk:AH :=
 (AG (AV (m2 Ap (AA 2) (AA 3)) (AF 4))
 (AG (AV (AA 3) (AF 2))
 (AV (AA 4) (AF 3))))
def NM:AH :=
 (AG (AV (m1 Gd (AA 0)) (AF 2))
 (AG (AV (m1 Gd (AA 1)) (AF 3))
 (AG (E7 Gw Lk)
 (AN (AA 2)))))
def LY:List T->Option Ru:=Ae 2 5 NM
abbrev Vo:Fn:=⟨1,["one","other"],LY⟩
abbrev za1:Gm:=gA ["one","other","greater","lesser","rest"] RJ 0 [] ["abs"]
theorem za2:Ck za1 Vo RJ NM:={}
theorem gd_ok(a b:Int):LY [.int a,.int b]=some (.ok (.int (Zm.gd a b))):=by
 have loop:=R9 (mc:=Gw) (body:=Lk)
  (λτ=>∃(g l:Int) (r:Option T),τ=[some (.int a),some (.int b),some (.int g),some (.int l),r]/\0<=g/\0<=l/\Zm.gd g l=Zm.gd a b)
  (λτ=>match τ with|[_,_,_,some (.int l),_]=>l.natAbs|_=>0)
  ⟨_,_,none,rfl,by split<;>omega,by split<;>omega,Zm.gd_abs a b⟩ (by
   rintro τ ⟨g,l,r,rfl,hg,hl,e⟩
   by_cases h0:l=0
   .right;exact⟨false,by unfold Gw;simp![Ef,h0]⟩
   .left;refine⟨false,by unfold Gw;simp![Ef];simp[h0],[some (.int a),some (.int b),some (.int l),some (.int (g.fmod l)),some (.int (g.fmod l))],by unfold Lk;simp![h0],⟨_,_,_,rfl,hl,?_,?_⟩,?_⟩
    .exact yaj g (by omega)
    .exact Zm.gd_turn e
    .exact Zm.fmod_less g h0)
 obtain⟨τ',e1,⟨g,l,r,rfl,hg,hl,e⟩,bb,e2⟩:=loop
 have hl0 :=by
  have e3:Gw [some (.int a),some (.int b),some (.int g),some (.int l),r]=some (.v (.bl (!(l == 0))) false):=by unfold Gw;simp![Ef]
  rw[e3]at e2;exact(by simpa using e2:l=0/\bb=false).1
 have hgd:g=Zm.gd a b:=by
  rw[<- e,hl0];unfold Zm.gd;rw[Int.gcd_zero_right]
  omega
 unfold LY NM
 simp![e1]
 rw[hgd]
abbrev KA:Stmt:=AQ 10
def NN:AH :=
 (AG (A2 (BA (Ai (AO JP (AB (AA 0) AD))) (Ai (AO JP (AB (AA 1) AD)))) (CZ "NoNumber" (AB (mC (.str "a fraction is made of two whole numbers")) AD)) A4)
 (AG (A2 (m2 BJ (AA 1) (mC (.int 0))) (CZ "NoNumber" (AB (mC (.str "the bottom of a fraction is not 0")) AD)) A4)
 (AG (AV (AO LY (AB (AA 0) (AB (AA 1) AD))) (AF 2))
 (AG (A2 (m2 (Bg λi j=>decide (i<j)) (AA 1) (mC (.int 0))) (AV (m1 Cp (AA 2)) (AF 2)) A4)
 (AN (BG (AB (m2 B3 (AA 0) (AA 2)) (AB (m2 B3 (AA 1) (AA 2)) AD))))))))
def Hr:List T->Option Ru:=Ae 2 3 NN
abbrev Vp:Fn:=⟨2,["top","bottom"],Hr⟩
abbrev VW:Gm:=gA ["top","bottom","divisor"] KA 1 [("is_whole",OH),("greatest_divisor",Vo)] [] (ex:=["NoNumber"])
theorem Wj:Ck VW Vp KA NN:={}
theorem fr_ok{t b:Int}(hb:0<b)(hs:b<10 ^ 70):Hr [.int t,.int b]=some (.ok (fr (Zm.lt t b) (Zm.lb t b))):=by
 have g0:0<Zm.gd t b:=Zm.gd_pos (by omega)
 have g1:Zm.gd t b<=b:=Zm.gd_le hb;have gs :=Bs (by omega) (by omega (config:={}))
 have n0:(b == 0)=false:=by omega
 have n1:decide (b<0)=false:=by omega
 have n2:(Zm.gd t b≠0)=True:=by omega
 unfold Hr NN
 simp![zd0,gd_ok,Ce,n0,n1,gs,n2]
 rfl
abbrev Qq:Stmt:=AQ 11
def Mz:AH :=
 (AN (AO Hr (AB (m2 BK (m2 B9 (AK (AA 0) (mC (.int 0))) (AK (AA 1) (mC (.int 1)))) (m2 B9 (AK (AA 1) (mC (.int 0))) (AK (AA 0) (mC (.int 1))))) (AB (m2 B9 (AK (AA 0) (mC (.int 1))) (AK (AA 1) (mC (.int 1)))) AD))))
def LQ:List T->Option Ru:=Ae 2 2 Mz
abbrev Vf:Fn:=⟨3,["one","other"],LQ⟩
abbrev ziv:Gm:=gA ["one","other"] Qq 2 [("fraction",Vp)] []
theorem zj7:Ck ziv Vf Qq Mz:={}
theorem zfl{t b u c:Int}(hb:0<b)(hc:0<c)(h:t * c=u * b):Zm.lt t b=Zm.lt u c/\Zm.lb t b=Zm.lb u c:=by
 have b0:b≠0:=by omega
 have c0:c≠0:=by omega
 have g1:=Zm.gd_low (t:=t) b0;have g2:=Zm.gd_low (t:=u) c0;have p1:=Zm.lb_pos (t:=t) hb;have p2:=Zm.lb_pos (t:=u) hc;have k1:=Zm.gd_pos (a:=t) b0;have k2:=Zm.gd_pos (a:=u) c0;have e1:=Zm.lt_mul (t:=t) b0;have e2:=Zm.lb_mul (t:=t) b0;have e3:=Zm.lt_mul (t:=u) c0;have e4:=Zm.lb_mul (t:=u) c0;generalize Zm.lt t b=x at *;generalize Zm.lb t b=y at *;generalize Zm.lt u c=z at *;generalize Zm.lb u c=w at *;generalize Zm.gd t b=g at *;generalize Zm.gd u c=k at *
 have e :=by
  have q :=by
   rw[<- e1,<- e2,<- e3,<- e4]at h
   calc (x * w) * (g * k)=x * g * (w * k):=by simp only[ydd,Int.mul_left_comm,yd4]
    _=z * k * (y * g):=h
    _=(z * y) * (g * k):=by simp only[ydd,Int.mul_left_comm,yd4]
  exact Int.eq_of_mul_eq_mul_right (Int.ne_of_gt (Int.mul_pos k1 k2)) q
 unfold Zm.gd at g1 g2;have g1:Int.gcd x y=1:=by omega
 have g2:Int.gcd z w=1:=by omega
 have d1 :=by
  have:y ∣ x * w:=⟨z,by rw[e,yd4]⟩
  have:=Int.dvd_gcd_mul_iff_dvd_mul.mpr this;rw[Int.gcd_comm,g1]at this
  simpa using this
 have d2 :=by
  have:w ∣ z * y:=⟨x,by rw[<- e,yd4]⟩
  have:=Int.dvd_gcd_mul_iff_dvd_mul.mpr this;rw[Int.gcd_comm,g2]at this
  simpa using this
 have yw:y=w:=by
  have:=Int.le_of_dvd p2 d1;have:=Int.le_of_dvd p1 d2
  omega
 subst yw;exact⟨Int.eq_of_mul_eq_mul_right (by omega) e,rfl⟩
abbrev BS(P v:Int):T:=fr (Zm.lt v P) (Zm.lb v P)
theorem Kj{P v:Int}(h1:0<P)(h2:P<=100):0<Zm.lb v P/\Zm.lb v P<=100/\Dg (Zm.lb v P)=true:=by
 have a:=Zm.lb_pos (t:=v) h1;have b:=Zm.lb_le (t:=v) h1;exact⟨a,by omega,C6 (by omega) (by omega)⟩
theorem plP{P v w:Int}(h1:0<P)(h2:P<=100):LQ [BS P v,BS P w]=some (.ok (BS P (v+w))):=by
 obtain⟨a1,a2,a3⟩:=Kj h1 h2;obtain⟨b1,b2,b3⟩:=Kj h1 h2;have p0:P≠0:=by omega
 have e1:=Zm.lt_mul (t:=v) p0;have e2:=Zm.lb_mul (t:=v) p0;have e3:=Zm.lt_mul (t:=w) p0;have e4:=Zm.lb_mul (t:=w) p0;have k1:=Zm.gd_pos (a:=v) p0;have k2:=Zm.gd_pos (a:=w) p0;have hp:=Int.mul_pos a1 b1
 have hs:Zm.lb v P * Zm.lb w P<10 ^ 70:=by
  have:=Int.mul_le_mul a2 b2 (by omega) (by omega)
  omega
 have key :=by
  have q1 :=Zm.cross k1 e1 e2;have q2 :=Zm.cross k2 e3 e4
  calc (Zm.lt v P * Zm.lb w P+Zm.lt w P * Zm.lb v P) * P=Zm.lt v P * P * Zm.lb w P+Zm.lt w P * P * Zm.lb v P:=by omega
   _=v * Zm.lb v P * Zm.lb w P+w * Zm.lb w P * Zm.lb v P:=by rw[q1,q2]
   _=(v+w) * (Zm.lb v P * Zm.lb w P):=by omega
 obtain⟨s1,s2⟩:=zfl hp h1 key;have m1:=FE (i:=Zm.lt v P) b3;have m2:=FE (i:=Zm.lt w P) a3;have m3:=FE (i:=Zm.lb v P) b3;have f:=fr_ok (t:=Zm.lt v P * Zm.lb w P+Zm.lt w P * Zm.lb v P) hp hs;rw[s1,s2]at f;unfold LQ Mz
 simp![m1,m2,m3,f]
abbrev Qj:Stmt:=AQ 12
def Mx:AH :=
 (AN (m2 (Bg λi j=>decide (i<j)) (m2 B9 (AK (AA 0) (mC (.int 0))) (AK (AA 1) (mC (.int 1)))) (m2 B9 (AK (AA 1) (mC (.int 0))) (AK (AA 0) (mC (.int 1))))))
def Hl:List T->Option Ru:=Ae 2 2 Mx
abbrev OD:Fn:=⟨1,["one","other"],Hl⟩
abbrev zfv:Gm:=gA ["one","other"] Qj 0 [] []
theorem zga:Ck zfv OD Qj Mx:={}
theorem Lx{a b c d:Int}(h1:Bw a d=true)(h2:Bw c b=true):Hl [fr a b,fr c d]=some (.ok (.bl (decide (a * d<c * b)))):=by
 unfold Hl Mx
 simp![h1,h2]
abbrev Ql:Stmt:=AQ 19
def K3:AH :=
 (AG (AV (BG (AB (AA 2) (AB (mC (.int 1)) AD))) (AF 3))
 (AG (AV (AO Hl (AB (AA 0) (AB (AA 3) AD))) (AF 4))
 (AG (AV (AO Hl (AB (AA 3) (AB (AA 0) AD))) (AF 5))
 (AG (A2 (m2 BJ (AA 1) (mC (.str "<"))) (AN (AA 4)) A4)
 (AG (A2 (m2 BJ (AA 1) (mC (.str "<="))) (AN (Ai (AA 5))) A4)
 (AG (A2 (m2 BJ (AA 1) (mC (.str ">"))) (AN (AA 5)) A4)
 (AG (A2 (m2 BJ (AA 1) (mC (.str ">="))) (AN (Ai (AA 4))) A4)
 (AN (Ba (Ai (AA 4)) (Ai (AA 5)))))))))))
def LM:List T->Option Ru:=Ae 3 6 K3
abbrev Vc:Fn:=⟨2,["value","word","number"],LM⟩
abbrev zbc:Gm:=gA ["value","word","number","edge","less","more"] Ql 1 [("under",OD)] []
theorem zbf:Ck zbc Vc Ql K3:={}
noncomputable def DC(y:Str)(n t b:Int):Bool :=
 if y=Str.ofString "<" then decide (t<n * b) else if y=Str.ofString "<=" then !decide (n * b<t) else if y=Str.ofString ">" then decide (n * b<t) else if y=Str.ofString ">=" then !decide (t<n * b) else !decide (t<n * b) && !decide (n * b<t)
theorem Br{f g:AH}{τ:AM}{r:Option Out}(h:f τ=some (.nx τ))(h2:g τ=r):AG f g τ=r:=sq h h2
theorem sr{f g:AH}{τ:AM}{t:T}(h:f τ=some (.rt t)):AG f g τ=some (.rt t):=by
 unfold AG;rw[h]
theorem J8:∀x∈Cj,∀y∈Cj,BJ (.str x) (.str y)=some (.bl (decide (x=y))):=λx hx y hy=>Fy (J7 x hx) (J7 y hy)
theorem so42{y:Str}(hy:y∈Cj){n t b:Int}(hb:Dg b=true):LM [fr t b,.str y,.int n]=some (.ok (.bl (DC y n t b))):=by
 have m1:Bw t 1=true:=FE (C6 (by decide) (by decide))
 have m2:Bw n b=true:=FE hb;have u1:=Lx (a:=t) (b:=b) (c:=n) (d:=1) m1 m2;have u3:=Lx (a:=n) (b:=1) (c:=t) (d:=b) m2 m1;rw[Int.mul_one]at u1 u3;have e1:=J8 y hy (Str.ofString "<") (by decide +kernel)
 have e2:=J8 y hy (Str.ofString "<=") (by decide +kernel)
 have e3:=J8 y hy (Str.ofString ">") (by decide +kernel)
 have e4:=J8 y hy (Str.ofString ">=") (by decide +kernel)
 unfold LM
 suffices key:K3 [some (fr t b),some (.str y),some (.int n),none,none,none]=some (.rt (.bl (DC y n t b))) by simp![key]
 unfold DC K3;generalize decide (t<n * b)=A at *;generalize decide (n * b<t)=B at *;refine sq (τ':=[some (fr t b),some (.str y),some (.int n),some (fr n 1),none,none]) (by simp![]) ?_
 refine sq (τ':=[some (fr t b),some (.str y),some (.int n),some (fr n 1),some (.bl A),none]) (by simp![u1]) ?_
 refine sq (τ':=[some (fr t b),some (.str y),some (.int n),some (fr n 1),some (.bl A),some (.bl B)]) (by simp![u3]) ?_
 clear u1 u3 m1 m2
 by_cases q1:y=Str.ofString "<"
 .simp![e1,eq_true q1]
 .refine Br (by simp![e1,q1]) ?_
  by_cases q2:y=Str.ofString "<="
  .simp![e2,q1,eq_true q2]
  .refine Br (by simp![e2,q2]) ?_
   by_cases q3:y=Str.ofString ">"
   .simp![e3,q1,q2,eq_true q3]
   .refine Br (by simp![e3,q3]) ?_
    by_cases q4:y=Str.ofString ">="
    .simp![e4,q1,q2,q3,eq_true q4]
    .refine Br (by simp![e4,q4]) ?_
     cases A<;>cases B<;>simp![q1,q2,q3,q4]
theorem soP{P v:Int}(h1:0<P)(y:Str)(n:Int):DC y n (Zm.lt v P) (Zm.lb v P)=DC y n v P:=by
 have p0:P≠0:=by omega
 have e1:=Zm.lt_mul (t:=v) p0;have e2:=Zm.lb_mul (t:=v) p0;have k1:=Zm.gd_pos (a:=v) p0
 have a:(Zm.lt v P<n * Zm.lb v P) ↔ (v<n * P):=by
  rw[<- Int.mul_lt_mul_right k1,ydd,e1,e2]
 have b:(n * Zm.lb v P<Zm.lt v P) ↔ (n * P<v):=by
  rw[<- Int.mul_lt_mul_right k1,ydd,e1,e2]
 unfold DC
 omega
abbrev MV:Stmt:=CV 31 5
def NU:AH :=
 (AN (m2 BK (G3 (Bi Ak Ay 0 (AA 0)) (AA 1)) (mC (.int 1))))
def GG:List T->Option Ru:=Ae 2 2 NU
abbrev ON:Fn:=⟨1,["self","name"],GG⟩
abbrev za0:Gx:={ CD with cl:=[("Machine",Ak,Ay)] }
abbrev VY:Gm:=gA ["self","name"] MV 0 [] [] (ox:=za0)
theorem Wl:Ck VY ON MV NU:={}
theorem U4{M:Mc}(h:McOk M){x:Str}{j:Nat}(e:CP M.ws x=some j):GG [Dp M,.str x]=some (.ok (.int ((j:Int)+1))):=by
 have l1:M.ws.length<1000000:=by have:=h.wl;omega
 unfold GG NU
 simp![A8,AU,Js,h.ssR,h.sdR,AE _ h.ssR,AE _ h.sdR,e,l1]
abbrev Qr:Stmt:=AQ 37
def Oh:AI :=
 (BG (AB (DG Ak Ay GG (AA 3) (AB (AA 0) AD)) (AB (AA 1) (AB (AA 2) AD))))
def NA:AH :=
 (AG (AV (DG Ak Ay GF (AA 0) AD) (AF 2))
 (AG (A2 (Ai (AO Hq (AB (AA 1) (AB (AA 2) (AB (mC Ij) AD))))) (CZ "NoMark" (AB (mC (.str "a guard is a list of looks at the machine's watches")) AD)) A4)
 (AN (BN 3 [0] (BI (AA 1)) (BX 3 (Ac (AF 0) (Ac (AF 1) (Ac (AF 2) B7)))) (mC (.bl true)) Oh))))
def Hm:List T->Option Ru:=Ae 2 3 NA
abbrev OF:Fn:=⟨5,["machine","guard"],Hm⟩
abbrev zds:Gx:={ CD with co:=[("WORDS",Ij)],mt:=[("watches",Ak,Ay,OM),("watch_number",Ak,Ay,ON)] }
abbrev zdt:Gm:=gA ["machine","guard","watches"] Qr 4 [("is_guard",Kt)] [] [] ["machine"] (ex:=["NoMark"]) (ox:=zds)
theorem ze3:Ck zdt OF Qr NA:={}
def Fo:T->Str
 |.nd _ _ (.str x::_)=>x
 |_=>Str.empty
def G4:T->Str
 |.nd _ _ (_::.str y::_)=>y
 |_=>Str.empty
def Fp:T->Int
 |.nd _ _ (_::_::.int n::_)=>n
 |_=>0
theorem Um{ws wd:List Str}{t:T}(h:∃x y n,t=.tup [.str x,.str y,.int n]/\x∈ws/\y∈wd/\0<=n):t=.tup [.str (Fo t),.str (G4 t),.int (Fp t)]/\Fo t∈ws/\G4 t∈wd/\0<=Fp t:=by
 obtain⟨x,y,n,rfl,h1,h2,h3⟩:=h;exact⟨rfl,h1,h2,h3⟩
def Fi(ws:List Str)(t:T):T:=.tup [.int (((CP ws (Fo t)).getD 0:Int)+1),.str (G4 t),.int (Fp t)]
theorem Ir{ws:List Str}{x:Str}(h:x∈ws):∃j,CP ws x=some j/\∃hj:j<ws.length,ws[j]=x:=by
 unfold CP;cases e:List.findIdx? (λy=>@decide (y=x) (Classical.propDecidable _)) ws with
 |none =>
  have:=List.findIdx?_eq_none_iff.mp e x h;simp at this
 |some j =>
  obtain⟨h1,h2,_⟩:=yb0.mp e
  omega
theorem zbk{M:Mc}(h:McOk M){l:List T}{wd:List Str}(hl:Bk M.ws wd l)(hw:∀y∈wd,y∈Cj)(hn:l.length<=1000):Hm [Dp M,.lst l]=some (.ok (.own (l.map (Fi M.ws)))):=by
 have hl':Bk M.ws Cj l:=λt ht=>by
  obtain⟨x,y,n,e,h1,h2,h3⟩:=hl t ht;exact⟨x,y,n,e,h1,hw y h2,h3⟩
 have hg:=Ny h.tw J7 hn hl';have hs:=hl.sh;have es:=AE _ hs
 have lc:=DI (b:=BX 3 (Ac (AF 0) (Ac (AF 1) (Ac (AF 2) B7)))) (me:=Oh) (λt =>t) (Fi M.ws) (λτ=>∃x y z,τ=[x,y,z,some (Dp M)]) l [none,none,none,some (Dp M)] ⟨none,none,none,rfl⟩ λt ht τ hI=>by
  obtain⟨x,y,z,rfl⟩:=hI;obtain⟨k1,k2,k3,k4⟩:=Um (hl' t ht);obtain⟨j,ej,_⟩:=Ir k2;have en:=U4 h ej;refine⟨[some (.str (Fo t)),some (.str (G4 t)),some (.int (Fp t)),some (Dp M)],by rw[k1];simp![Fo,G4,Fp],?_,_,_,_,rfl⟩
  unfold Oh Fi;rw[ej]
  simp![A8,AU,h.ssR,h.sdR,AE _ h.ssR,AE _ h.sdR,en,ybs]
 rw[yd5]at lc;have mw:=U2 h;have l1:l.length<=100000:=by omega
 unfold Hm NA
 simp![VA,A8,AU,h.ssR,h.sdR,AE _ h.ssR,AE _ h.sdR,mw,hs,es,hg,l1,lc]
theorem Me(ws:List Str)(l:List T):An (l.map (Fi ws))=true:=by
 rw[EH,yau];intro t ht;obtain⟨u,_,rfl⟩:=yao.mp ht
 rfl
theorem Sh{M:Mc}(h:McOk M){l:List T}{wd:List Str}(hl:Bk M.ws wd l)(hw:∀y∈wd,y∈Cj)(hn:l.length<=1000):Hm [Ah M,.lst l]=some (.ok (.own (l.map (Fi M.ws)))):=zbk h hl hw hn
abbrev RI:Stmt:=AQ 39
def Ot:AI :=
 (AO LM (AB (AK (AA 3) (m2 Dv (AA 0) (mC (.int 1)))) (AB (AA 1) (AB (AA 2) AD))))
def NL:AH :=
 (AN (m1 EB (BN 3 [1] (BI (AA 0)) (BX 3 (Ac (AF 0) (Ac (AF 1) (Ac (AF 2) B7)))) (mC (.bl true)) Ot)))
def JT:List T->Option Ru:=Ae 2 2 NL
abbrev OL:Fn:=⟨3,["looks","values"],JT⟩
abbrev zfx:Gm:=gA ["looks","values"] RI 2 [("stands_so",Vc)] ["all"] [] ["values"]
theorem zgc:Ck zfx OL RI NL:={}
theorem zeg{α:Type}(p:α->Bool)(l:List α):Bh (l.map λk=>T.bl (p k))=l.map λk=>T.bl (p k):=by
 rw[EG,yaq]
 rfl
abbrev Bl(P:Int)(vs:List Int):List T:=vs.map (BS P)
theorem DZ(P:Int)(vs:List Int):An (Bl P vs)=true:=C4 λ_ _=>rfl
def Gr(ws:List Str)(vs:List Int)(x:Str):Int:=vs.getD ((CP ws x).getD 0) 0
def CN(P:Int)(ws:List Str)(vs:List Int)(t:T):Bool:=DC (G4 t) (Fp t) (Gr ws vs (Fo t)) P
theorem va_at{ws:List Str}{vs:List Int}(h:vs.length=ws.length)(P:Int){x:Str}(hx:x∈ws):∃j:Nat,CP ws x=some j/\j<ws.length/\A6 (Bl P vs) (j:Int)=some (BS P (Gr ws vs x)):=by
 obtain⟨j,ej,hj,_⟩:=Ir hx;refine⟨j,ej,hj,CH ?_⟩;unfold Gr
 simp_all
theorem Fw{P:Int}(p1:0<P)(p2:P<=100){ws:List Str}{vs:List Int}(h:vs.length=ws.length){l:List T}(hl:Bk ws Cj l)(hn:l.length<=1000):JT [.lst (l.map (Fi ws)),.lst (Bl P vs)]=some (.ok (.bl (l.all (CN P ws vs)))):=by
 have vsh:=DZ P vs
 have lc:=DI (b:=BX 3 (Ac (AF 0) (Ac (AF 1) (Ac (AF 2) B7)))) (me:=Ot) (Fi ws) (λt=>.bl (CN P ws vs t)) (λτ=>∃x y z,τ=[x,y,z,some (.lst (Bl P vs))]) l [none,none,none,some (.lst (Bl P vs))] ⟨none,none,none,rfl⟩ λt ht τ hI=>by
  obtain⟨x,y,z,rfl⟩:=hI;obtain⟨k1,k2,k3,k4⟩:=Um (hl t ht);obtain⟨j,ej,hj,av⟩:=va_at h P k2;have so:=so42 k3 (n:=Fp t) (t:=Zm.lt (Gr ws vs (Fo t)) P) (Kj (v:=Gr ws vs (Fo t)) p1 p2).2.2;rw[soP p1]at so;have ax:((j:Int)+1 - 1)=j:=by omega
  refine⟨[some (.int (j+1)),some (.str (G4 t)),some (.int (Fp t)),some (.lst (Bl P vs))],by unfold Fi;rw[ej];simp![ybs],?_,_,_,_,rfl⟩
  unfold Ot CN;generalize Bl P vs=L at *
  simp![ax,av,so,vsh]
 have l1:l.length<=100000:=by omega
 have ps:=Me ws l;have ba:=PL (CN P ws vs) l;have ea:(l.map (CN P ws vs)).all id=l.all (CN P ws vs):=by rw[List.all_map];rfl
 generalize Bl P vs=L at *;unfold JT NL
 simp![ps,AE _ ps,vsh,AE _ vsh,ya1,l1,lc,zeg,ba,ea]
abbrev Qt:Stmt:=AQ 41
def Oi:AI :=
 (DG Ak Ay GG (AA 1) (AB (AA 0) AD))
def NC:AH :=
 (AN (BN 1 [0] (BI (DG BC BP Hw (AA 1) AD)) (AF 0) (mC (.bl true)) Oi))
def LU:List T->Option Ru:=Ae 2 2 NC
abbrev Vj:Fn:=⟨2,["machine","door"],LU⟩
abbrev za6:Gx:={ CD with mt:=[("sets",BC,BP,WH),("watch_number",Ak,Ay,ON)] }
abbrev zaa:Gm:=gA ["machine","door"] Qt 1 [] [] [] ["machine"] (ox:=za6)
theorem zad:Ck zaa Vj Qt NC:={}
theorem in_ok(i:Nat):∀ps:List Nat,Fu (.int (i:Int)) (ps.map λ(p:Nat)=>T.int (p:Int))=true:=λps=>by
 unfold Fu DW
 have h1:PyData.canLayAll0 (BV (ps.map λ(p:Nat)=>T.int p))=true:=by
  induction ps with
  |nil=>rfl
  |cons a r ih=>omega
 have h2:Dj (ps.map λ(p:Nat)=>T.int p)=true:=by
  induction ps with
  |nil=>rfl
  |cons a r ih=>exact ih (by omega)
 rw[h1];simp[T.data,PyData.canLay0,PyData.depth,h2]
 rfl
theorem VQ(i:Nat):∀ps:List Nat,Iv (.int (i:Int)) (ps.map λ(p:Nat)=>T.int (p:Int))=decide (i∈ps)
 |[]=>by rfl
 |a::r=>by
  have ih:=VQ i r;unfold Iv at ih ⊢;simp only[yal,BV,List.any_cons,ih];simp only[T.data,PyData.eqv]
  by_cases e:i=a
  .simp[e]
  .simp[e,show ¬ a=(i:Int) by omega]
def DE(ws ns:List Str):List Nat:=ns.map λx=>(CP ws x).getD 0+1
abbrev Dw(l:List Nat):List T:=l.map λp:Nat=>T.int (p:Int)
theorem U1(l:List Nat):An (Dw l)=true:=C4 λ_ _=>rfl
theorem zmc(ps:List Nat)(i:Nat):Bj (.int (i:Int)) (.lst (Dw ps))=some (.bl (decide (i∈ps))):=by
 unfold Bj Dw;simp only[in_ok i ps,VQ i ps,ye1]
theorem np_ok{M:Mc}(h:McOk M){d:Dr}(hd:d∈M.ds):LU [Ah M,BU d]=some (.ok (.own (Dw (DE M.ws d.n)))):=by
 have D:=h.d d hd;have sg:=D.g.sh;have sm:=Cr h;have sets:=zmj sg
 have lc:=DI (b:=AF 0) (me:=Oi) T.str (λx=>.int ((CP M.ws x).getD 0+1:Nat)) (λτ=>∃x,τ=[x,some (Ah M)]) d.n [none,some (Ah M)] ⟨none,rfl⟩ λx hx τ hI=>by
  obtain⟨y,rfl⟩:=hI;obtain⟨j,ej,_⟩:=Ir (D.n x hx);have en:GG [Ah M,.str x]=some (.ok (.int (j+1))):=U4 h ej;refine⟨[some (.str x),some (Ah M)],by simp![],?_,_,rfl⟩
  unfold Oi;rw[ej]
  simp![-DL,HN,sm,AX _ sm,en,ybs,Int.natCast_add]
 have e1:Dw (DE M.ws d.n)=d.n.map λx=>.int ((CP M.ws x).getD 0+1:Nat):=by
  unfold Dw DE
  simp_all
 have nl:d.n.length<=100000:=by have:=D.nl;omega
 rw[e1];unfold LU NC
 simp![sm,AX _ sm,sets,sg,AE _ sg,AU,A8,ya1,nl,lc]
abbrev Qk:Stmt:=AQ 43
def Oe:AI :=
 (BG (AB (mC (.int 0)) (AB (mC (.int 1)) AD)))
def My:AH :=
 (AN (BG (AB (AK (DG Ak Ay Ht (AA 0) AD) (mC (.int 0))) (AB (BN 1 [] (BI (DG Ak Ay GF (AA 0) AD)) (AF 0) (mC (.bl true)) Oe) AD))))
def JN:List T->Option Ru:=Ae 1 1 My
abbrev OE:Fn:=⟨2,["machine"],JN⟩
abbrev zfu:Gx:={ CD with mt:=[("rooms",Ak,Ay,Vv),("watches",Ak,Ay,OM)] }
abbrev zfw:Gm:=gA ["machine"] Qk 1 [] [] (ox:=zfu)
theorem zgb:Ck zfw OE Qk My:={}
theorem Kg{P:Int}(h:0<P):Zm.lt 0 P=0/\Zm.lb 0 P=1:=by
 have p0:P≠0:=by omega
 have h0:Zm.lt 0 P=0:=by
  rfl
 have g:=Zm.gd_low (t:=0) p0;have b:=Zm.lb_pos (t:=0) h;rw[h0]at g;unfold Zm.gd at g;rw[Int.gcd_zero_left]at g
 omega
abbrev A7(P:Int)(s:Str×List Int):T:=.tup [.str s.1,.lst (Bl P s.2)]
def AZ(M:Mc):Str×List Int:=(M.nm.headD "",M.ws.map λ_=>0)
theorem MJ{P:Int}(p1:0<P){M:Mc}(h:McOk M):JN [Ah M]=some (.ok (A7 P (AZ M))):=by
 have sm:=Cr h;have rm:Ht [Ah M]=some (.ok (.own (M.nm.map T.str))):=zlo h;have ww:=mcT_w h
 have lc:=DI (b:=AF 0) (me:=Oe) T.str (λ_=>fr 0 1) (λτ=>∃x,τ=[x]) M.ws [none] ⟨none,rfl⟩ λx hx τ hI=>by
  obtain⟨y,rfl⟩:=hI;exact⟨[some (.str x)],by simp![],by unfold Oe;simp![],_,rfl⟩
 have l7:M.ws.length<=100000:=by have:=h.wl;omega
 obtain⟨a,ha⟩:∃a,A6 (M.nm.map T.str) 0=some (.str a)/\M.nm.headD ""=a:=by
  have:=h.r.l1;cases e:M.nm with
  |nil =>
   have q:=congrArg List.length e;rw[show M.nm.length=M.rs.length from ya1 _,ybn]at q
   omega
  |cons a r=>exact⟨a,CH rfl,rfl⟩
 have e2:Bl P (AZ M).2=M.ws.map λ_=>fr 0 1:=by
  show(M.ws.map λ_=>0).map (BS P)=_
  rw[yaq];refine yb2 λx _=>?_
  show BS P 0=fr 0 1;unfold BS;rw[(Kg p1).1,(Kg p1).2]
 have e1:(AZ M).1=a:=ha.2;have s1:An (M.ws.map λ_=>fr 0 1)=true:=C4 λ_ _=>rfl
 unfold A7;rw[e1,e2];unfold JN My
 simp![-DL,HN,sm,AX _ sm,rm,ww,ha.1,AU,A8,ya1,l7,lc,s1,AE _ s1]
abbrev RF:Stmt:=AQ 46
def NJ:AH :=
 (AN (AO JT (AB (AO Hm (AB (AA 0) (AB (DG Ak Ay Gg (AA 0) (AB (AA 1) AD)) AD))) (AB (AA 2) AD))))
def Ho:List T->Option Ru:=Ae 3 3 NJ
abbrev Ks:Fn:=⟨6,["machine","room","values"],Ho⟩
abbrev zbp:Gx:={ CD with mt:=[("stay",Ak,Ay,Vu)] }
abbrev zbt:Gm:=gA ["machine","room","values"] RF 5 [("holds",OL),("placed",OF)] [] (ox:=zbp)
theorem zc3:Ck zbt Ks RF NJ:={}
def Bu(P:Int)(M:Mc)(r:Str)(vs:List Int):Bool:=(Cn M r).all (CN P M.ws vs)
theorem II:∀y∈Es,y∈Cj:=by decide +kernel
theorem Bk.wide{ws wd wd':List Str}{l:List T}(h:Bk ws wd l)(hw:∀y∈wd,y∈wd'):Bk ws wd' l:=λt ht=>by
 obtain⟨x,y,n,e,h1,h2,h3⟩:=h t ht;exact⟨x,y,n,e,h1,hw y h2,h3⟩
theorem Kh{P:Int}(p1:0<P)(p2:P<=100){M:Mc}(h:McOk M){r:Str}(hr:r∈M.nm){vs:List Int}(hv:vs.length=M.ws.length):Ho [Ah M,.str r,.lst (Bl P vs)]=some (.ok (.bl (Bu P M r vs))):=by
 have sm:=Cr h;obtain⟨g1,g2,g3,g4⟩:=Jq h hr;have pl:=Sh h g4 II g3;have hd:=Fw p1 p2 hv (g4.wide II) g3;have vsh:=DZ P vs;have ps:=Me M.ws (Cn M r);unfold Bu;unfold Ho NJ
 simp![-DL,HN,sm,AX _ sm,g1,g2,AE _ g2,pl,hd,vsh,AE _ vsh,ps,AE _ ps]
abbrev Qm:Stmt:=AQ 48
def Of:AI :=
 (DH (m2 Bj (AA 0) (AA 2)) (BG (AB (mC (.int 0)) (AB (mC (.int 1)) AD))) (AA 1))
def K4:AH :=
 (AG (AV (DG Ak Ay Gh (AA 0) AD) (AF 5))
 (AG (A2 (Ai (Ei ES (Bg λi j=>decide (i<j)) (mC (.int 0)) (AA 3) (m1 BW (AA 5)))) (AN (mC .non)) A4)
 (AG (AV (AK (AA 5) (AA 3)) (AF 6))
 (AG (A2 (BA (m2 BL (Bi BC BP 0 (AA 6)) (AA 1)) (Ba (AA 4) (m2 BL (Bi BC BP 4 (AA 6)) (mC (.str ""))))) (AN (mC .non)) A4)
 (AG (A2 (Ai (AO JT (AB (AO Hm (AB (AA 0) (AB (DG BC BP Hx (AA 6) AD) AD))) (AB (AA 2) AD)))) (AN (mC .non)) A4)
 (AG (AV (AO LU (AB (AA 0) (AB (AA 6) AD))) (AF 7))
 (AG (AV (BN 2 [7] (G8 (AB (AA 2) AD)) (BX 2 (Ac (AF 0) (Ac (AF 1) B7))) (mC (.bl true)) Of) (AF 8))
 (AG (A2 (Ai (AO Ho (AB (AA 0) (AB (Bi BC BP 1 (AA 6)) (AB (AA 8) AD))))) (AN (mC .non)) A4)
 (AN (BG (AB (Bi BC BP 1 (AA 6)) (AB (AA 8) AD))))))))))))
def LN:List T->Option Ru:=Ae 5 9 K4
abbrev Vd:Fn:=⟨7,["machine","room","values","number","alone"],LN⟩
abbrev zai:Gx:={ CD with cl:=[("Door",BC,BP)],mt:=[("doors",Ak,Ay,Vx),("asks",BC,BP,WJ)] }
abbrev zal:Gm:=gA ["machine","room","values","number","alone","doors","door","noughts","after"] Qm 6 [("holds",OL),("placed",OF),("nought_places",Vj),("is_legal",Ks)] ["len","enumerate"] [] ["noughts"] (ox:=zai)
theorem zao:Ck zal Vd Qm K4:={}
def CT(M:Mc)(d:Dr)(vs:List Int):List Int:=(M.ws.zip vs).map λx=>if x.1∈d.n then 0 else x.2
theorem Lh{M:Mc}{d:Dr}{vs:List Int}(hv:vs.length=M.ws.length):(CT M d vs).length=M.ws.length:=by
 unfold CT
 simp_all
abbrev HI(P:Int):Option (Str×List Int)->T
 |none=>.non
 |some s=>A7 P s
def FP(P:Int)(M:Mc)(r:Str)(vs:List Int)(k:Int)(al:Bool):Option (Str×List Int) :=
 if 0<=k/\k<(M.ds.length:Int) then (if (M.ds.getD k.toNat d0).s=r/\(al=true->(M.ds.getD k.toNat d0).z="")/\(M.ds.getD k.toNat d0).g.all (CN P M.ws vs)=true/\Bu P M (M.ds.getD k.toNat d0).e (CT M (M.ds.getD k.toNat d0) vs)=true then some ((M.ds.getD k.toNat d0).e,CT M (M.ds.getD k.toNat d0) vs) else none) else none
theorem zlp{M:Mc}(h:McOk M){d:Dr}(hd:d∈M.ds){i:Nat}(hi:i<M.ws.length):(1+i∈DE M.ws d.n) ↔ M.ws[i]∈d.n:=by
 have D:=h.d d hd;unfold DE;rw[yao];constructor
 .rintro⟨x,hx,e⟩;obtain⟨j,ej,hj,ex⟩:=Ir (D.n x hx);rw[ej,ybs]at e
  omega
 .intro hx;exact⟨_,hx,by rw[VO h.wd hi,ybs];omega⟩
theorem zr_lc{P:Int}(p1:0<P){M:Mc}(h:McOk M){d:Dr}(hd:d∈M.ds){vs:List Int}(hv:vs.length=M.ws.length):Bd (BX 2 (Ac (AF 0) (Ac (AF 1) B7))) (mC (.bl true)) Of (Dq 1 (Bl P vs)) [none,none,some (.lst (Dw (DE M.ws d.n)))]=some (Bl P (CT M d vs)):=by
 have e1:Dq 1 (Bl P vs)=(List.range vs.length).map λi=>T.tup [.int (1+i:Nat),BS P (vs.getD i 0)]:=by
  refine ybo λi=>?_
  rw[OX,ya3,ya3]
  by_cases hi:i<vs.length
  .have e:vs.getD i 0=vs[i]:=by rw[ya6,ya0 hi];rfl
   rw[ybp hi,ya0 hi,yax,yax,yax,e]
  .rw[yan (by omega),yan (by rw[ybf];omega)]
   rfl
 have e2:Bl P (CT M d vs)=(List.range vs.length).map λi=>BS P (if M.ws.getD i ""∈d.n then 0 else vs.getD i 0):=by
  unfold CT;refine ybo λi=>?_
  rw[ya3,ya3,ya3,List.zip,ycz]
  by_cases hi:i<vs.length
  .have hw:i<M.ws.length:=by omega
   have e:vs.getD i 0=vs[i]:=by rw[ya6,ya0 hi];rfl
   have w:M.ws.getD i ""=M.ws[i]:=by rw[ya6,ya0 hw];rfl
   rw[ybp hi,ya0 hi,ya0 hw,yax,yax,yax,e,w]
  .rw[yan (by omega),yan (by omega),yan (by rw[ybf];omega)]
   rfl
 rw[e1,e2];refine DI _ _ (λτ=>∃x y,τ=[x,y,some (.lst (Dw (DE M.ws d.n)))]) _ _ ⟨none,none,rfl⟩ λi hi τ hI=>?_
 obtain⟨x,y,rfl⟩:=hI;have hi:=ybq.mp hi;have hw:i<M.ws.length:=by omega
 have q:=zmc (DE M.ws d.n) (1+i);rw[show decide (1+i∈DE M.ws d.n)=decide (M.ws[i]∈d.n) from decide_eq_decide.mpr (zlp h hd hw)]at q;have wi:M.ws.getD i ""=M.ws[i]:=by rw[ya6,ya0 hw];rfl
 have sn:=U1 (DE M.ws d.n);refine⟨[some (.int (1+i:Nat)),some (BS P (vs.getD i 0)),some (.lst (Dw (DE M.ws d.n)))],by simp![],?_,_,_,rfl⟩
 rw[wi];unfold Of;generalize Dw (DE M.ws d.n)=L at *
 by_cases hm:M.ws[i]∈d.n
 .rw[if_pos hm];rw[ye3 hm]at q;have f0:BS P 0=fr 0 1:=by unfold BS;rw[(Kg p1).1,(Kg p1).2]
  rw[f0]
  simp![sn,AE _ sn,q]
 .rw[if_neg hm];rw[ydl hm]at q
  simp![sn,AE _ sn,q]
theorem IZ{x y:Str}(hx:PyData.strOk x=true)(hy:PyData.strOk y=true):BL (.str x) (.str y)=some (.bl (!decide (x=y))):=by
 have e:=Fy hx hy;unfold BJ at e;unfold BL
 omega
abbrev sB(P:Int)(M:Mc)(r:Str)(vs:List Int)(k:Int)(al:Bool)(x5 x6 x7 x8:Option T):AM:=[some (Ah M),some (.str r),some (.lst (Bl P vs)),some (.int k),some (.bl al),x5,x6,x7,x8]
theorem sb_ok{P:Int}(p1:0<P)(p2:P<=100){M:Mc}(h:McOk M){r:Str}(hr:r∈M.nm){vs:List Int}(hv:vs.length=M.ws.length)(k:Int)(al:Bool):LN [Ah M,.str r,.lst (Bl P vs),.int k,.bl al]=some (.ok (HI P (FP P M r vs k al))):=by
 have sm:=Cr h;have md:Gh [Ah M]=some (.ok (.own (M.ds.map BU))):=zlq h;have sd:An (M.ds.map BU)=true:=h.sdR;have vsh:=DZ P vs
 suffices key:K4 (sB P M r vs k al none none none none)=some (.rt (HI P (FP P M r vs k al))) by
  unfold LN;unfold sB at key;generalize Bl P vs=L at *
  simp![sm,AX _ sm,vsh,AE _ vsh,key]
 unfold K4;refine sq (τ':=sB P M r vs k al (some (.lst (M.ds.map BU))) none none none) (by simp![-DL,HN,sm,AX _ sm,md,AE _ sd]) ?_
 by_cases hk:0<=k/\k<(M.ds.length:Int)
 .have hb:FP P M r vs k al=_:=if_pos hk;rw[hb];have hi:k.toNat<M.ds.length:=by omega
  have ek:M.ds.getD k.toNat d0=M.ds[k.toNat]:=by rw[ya6,ya0 hi];rfl
  have hd:M.ds.getD k.toNat d0∈M.ds:=by rw[ek];exact yb7 hi
  have av:A6 (M.ds.map BU) k=some (BU (M.ds.getD k.toNat d0)):=JK hk.1 (by rw[ya3,ya0 hi,ek];rfl)
  have k1:=ye3 hk.1;have k2:=ye3 hk.2;refine Br (by simp![k1,k2,AE _ sd,ya1]) ?_
  generalize M.ds.getD k.toNat d0=d at *;have D:=h.d d hd;have sg:=D.g.sh;refine sq (τ':=sB P M r vs k al (some (.lst (M.ds.map BU))) (some (BU d)) none none) (by simp![sd,av,sg,AE _ sg,AU,A8]) ?_
  have er:=IZ (h.tn _ D.s) (h.tn r hr);have ez:=IZ (MP D.z) WW;have dsh:(BU d).sh=true:=by simp![sg,AU]
  have ask:=zml (d:=d) sg;have pl:=Sh h D.g (λ_ q=>q) D.gl
  have Fw:=Fw p1 p2 hv D.g D.gl;have ps:=Me M.ws d.g
  by_cases c1:d.s=r/\(al=true->d.z="")
  .have st1:A2 (BA (m2 BL (Bi BC BP 0 (AA 6)) (AA 1)) (Ba (AA 4) (m2 BL (Bi BC BP 4 (AA 6)) (mC (.str ""))))) (AN (mC .non)) A4 (sB P M r vs k al (some (.lst (M.ds.map BU))) (some (BU d)) none none)=some (.nx (sB P M r vs k al (some (.lst (M.ds.map BU))) (some (BU d)) none none)):=by
    have q1:=ye3 c1.1;cases al with
    |false=>simp![sg,AU,er,q1]
    |true =>
     have q2:=ye3 (show d.z=Str.ofString "" from c1.2 rfl)
     simp![sg,AU,er,q1,ez,q2]
   refine Br st1 ?_
   clear st1 er ez
   cases c2:d.g.all (CN P M.ws vs) with
   |false =>
    rw[c2]at Fw;have hb:(if d.s=r/\(al=true->d.z="")/\false=true/\Bu P M d.e (CT M d vs)=true then some (d.e,CT M d vs) else none)=none:=if_neg λz=>by cases z.2.2.1
    rw[hb];refine sr ?_
    simp![-DL,HN,sm,AX _ sm,sg,AE _ sg,AU,A8,ask,pl,Fw,vsh,AE _ vsh,ps,AE _ ps]
   |true =>
    rw[c2]at Fw;refine Br (by simp![-DL,HN,sm,AX _ sm,sg,AE _ sg,AU,A8,ask,pl,Fw,vsh,AE _ vsh,ps,AE _ ps]) ?_
    clear Fw pl ask ps
    have np:=np_ok h hd;have ns:=U1 (DE M.ws d.n);refine sq (τ':=sB P M r vs k al (some (.lst (M.ds.map BU))) (some (BU d)) (some (.lst (Dw (DE M.ws d.n)))) none) (by simp![sm,AX _ sm,sg,AE _ sg,AU,A8,np,ns,AE _ ns]) ?_
    have zl:=zr_lc p1 h hd hv;have zs:=DZ P (CT M d vs);have vl:vs.length<=100000:=by have:=h.wl;omega
    refine sq (τ':=sB P M r vs k al (some (.lst (M.ds.map BU))) (some (BU d)) (some (.lst (Dw (DE M.ws d.n)))) (some (.lst (Bl P (CT M d vs))))) (by simp![vsh,AE _ vsh,ns,AE _ ns,zl,zs,AE _ zs,WU,ya1,vl]) ?_
    have lg:=Kh p1 p2 h (r:=d.e) D.e (Lh (d:=d) hv);cases c3:Bu P M d.e (CT M d vs) with
    |false =>
     rw[c3]at lg;rw[if_neg λz=>by cases z.2.2.2]
     exact sr (by simp![sm,AX _ sm,sg,AU,zs,AE _ zs,lg])
    |true =>
     rw[c3]at lg;rw[if_pos ⟨c1.1,c1.2,rfl,rfl⟩];exact Br (by simp![sm,AX _ sm,sg,AU,zs,AE _ zs,lg]) (by simp![sg,AU,zs,AE _ zs])
  .rw[if_neg λz=>c1 ⟨z.1,z.2.1⟩]
   refine sr ?_
   by_cases q:d.s=r
   .have q1:=ye3 q;cases al with
    |false=>exact absurd ⟨q,λz=>by cases z⟩ c1
    |true =>
     have q2:=ydl (show ¬ d.z=Str.ofString "" from λz=>c1 ⟨q,λ_=>z⟩)
     simp![sg,AU,er,q1,ez,q2]
   .have q1:=ydl q
    simp![sg,AU,er,q1]
 .have hb:FP P M r vs k al=none:=if_neg hk;rw[hb];refine sr ?_
  by_cases k1:0<=k
  .have k2:=ydl (show ¬ k<(M.ds.length:Int) from λz=>hk ⟨k1,z⟩)
   have k1:=ye3 k1
   simp![k1,k2,AE _ sd,ya1]
  .have k1:=ydl k1
   simp![k1,AE _ sd,ya1]
abbrev Qn:Stmt:=AQ 47
def Og:AI :=
 (AO LQ (AB (AA 0) (AB (AA 1) AD)))
def K5:AH :=
 (AG (AV (AK (AA 1) (mC (.int 0))) (AF 4))
 (AG (AV (AK (AA 2) (mC (.int 0))) (AF 5))
 (AG (A2 (AO Hl (AB (AA 5) (AB (BG (AB (mC (.int 0)) (AB (mC (.int 1)) AD))) AD))) (AN (mC .non)) A4)
 (AG (AV (BN 1 [5] (BI (AK (AA 1) (mC (.int 1)))) (AF 0) (mC (.bl true)) Og) (AF 6))
 (AG (A2 (Ai (AO Ho (AB (AA 0) (AB (AA 4) (AB (AA 6) AD))))) (AN (mC .non)) A4)
 (AG (A2 (m2 (Bx false) (AK (AA 2) (mC (.int 1))) (mC .non)) (AN (BG (AB (AA 4) (AB (AA 6) AD)))) A4)
 (AN (AO LN (AB (AA 0) (AB (AA 4) (AB (AA 6) (AB (AK (AA 2) (mC (.int 1))) (AB (AA 3) AD)))))))))))))
def LP:List T->Option Ru:=Ae 4 7 K5
abbrev Ve:Fn:=⟨8,["machine","stand","step","alone"],LP⟩
abbrev zam:Gm:=gA ["machine","stand","step","alone","room","wait","values"] Qn 7 [("under",OD),("plus",Vf),("is_legal",Ks),("stand_beyond",Vd)] [] [] ["wait"]
theorem zap:Ck zam Ve Qn K5:={}
abbrev Co:Option Int->T
 |none=>.non
 |some k=>.int k
abbrev Aj(P:Int)(s:Int×Option Int):T:=.tup [BS P s.1,Co s.2]
def Bo(P:Int)(M:Mc)(s:Str×List Int)(w:Int×Option Int)(al:Bool):Option (Str×List Int) :=
 if 0<=w.1/\Bu P M s.1 (s.2.map (·+w.1))=true then (match w.2 with
  |none=>some (s.1,s.2.map (·+w.1))
  |some k=>FP P M s.1 (s.2.map (·+w.1)) k al) else none
abbrev sH(P:Int)(M:Mc)(s:Str×List Int)(w:Int×Option Int)(al:Bool)(x4 x5 x6:Option T):AM:=[some (Ah M),some (A7 P s),some (Aj P w),some (.bl al),x4,x5,x6]
theorem HM(o:Option Int):(Co o).sh=true:=by cases o<;>rfl
theorem Ms(o:Option Int):(Co o).share=Co o:=by cases o<;>rfl
theorem hb_ok{P:Int}(p1:0<P)(p2:P<=100){M:Mc}(h:McOk M){s:Str×List Int}(hr:s.1∈M.nm)(hv:s.2.length=M.ws.length)(w:Int×Option Int)(al:Bool):LP [Ah M,A7 P s,Aj P w,.bl al]=some (.ok (HI P (Bo P M s w al))):=by
 obtain⟨r,vs⟩:=s;obtain⟨wt,k⟩:=w;have sm:=Cr h;have vsh:=DZ P vs;have ks:=HM k;have kq:=Ms k
 suffices key:K5 (sH P M (r,vs) (wt,k) al none none none)=some (.rt (HI P (Bo P M (r,vs) (wt,k) al))) by
  unfold LP;unfold sH at key
  simp![sm,AX _ sm,vsh,AE _ vsh,ks,kq,key]
 unfold K5;refine sq (τ':=sH P M (r,vs) (wt,k) al (some (.str r)) none none) (by simp![vsh]) ?_
 refine sq (τ':=sH P M (r,vs) (wt,k) al (some (.str r)) (some (BS P wt)) none) (by simp![ks]) ?_
 have un:=Lx (a:=Zm.lt wt P) (b:=Zm.lb wt P) (c:=0) (d:=1) (FE (C6 (by decide) (by decide))) (FE (Kj (v:=wt) p1 p2).2.2)
 rw[Int.mul_one,Int.zero_mul]at un
 have lz:(Zm.lt wt P<0) ↔ wt<0:=by
  have e:=Zm.lt_mul (t:=wt) (show P≠0 by omega)
  have g:=Zm.gd_pos (a:=wt) (show P≠0 by omega)
  constructor
  .intro z;have:=Int.mul_neg_of_neg_of_pos z g
   omega
  .intro z
   rcases Int.lt_or_le (Zm.lt wt P) 0 with q|q
   .exact q
   .have:=Int.mul_nonneg q (Int.le_of_lt g)
    omega
 rw[show decide (Zm.lt wt P<0)=decide (wt<0) from decide_eq_decide.mpr lz]at un
 by_cases w0:0<=wt
 .have d0:=ydl (show ¬ wt<0 by omega)
  rw[d0]at un;refine Br (by simp![un]) ?_
  have lc:=DI (b:=AF 0) (me:=Og) (BS P) (λv=>BS P (v+wt)) (λτ=>∃x,τ=[x,some (BS P wt)]) vs [none,some (BS P wt)] ⟨none,rfl⟩ λv hv τ hI=>by
   obtain⟨y,rfl⟩:=hI;have pl:=plP (v:=v) (w:=wt) p1 p2;refine⟨[some (BS P v),some (BS P wt)],by simp![],?_,_,rfl⟩
   unfold Og
   simp![pl]
  have e1:(vs.map λv=>BS P (v+wt))=Bl P (vs.map (·+wt)):=by
   unfold Bl;rw[yaq]
   rfl
  rw[e1]at lc;have s1:=DZ P (vs.map (·+wt));have vl:vs.length<=100000:=by have:=h.wl;have:vs.length=M.ws.length:=hv;omega
  have hv1:(vs.map (·+wt)).length=M.ws.length:=by rw[ya1];exact hv
  refine sq (τ':=sH P M (r,vs) (wt,k) al (some (.str r)) (some (BS P wt)) (some (.lst (Bl P (vs.map (·+wt)))))) (by simp![vsh,AE _ vsh,lc,s1,AE _ s1,ya1,vl]) ?_
  have lg:=Kh p1 p2 h hr hv1;cases c1:Bu P M r (vs.map (·+wt)) with
  |false =>
   rw[show Bu P M (r,vs).1 (vs.map (·+wt))=false from c1]at lg;have hb:Bo P M (r,vs) (wt,k) al=none:=if_neg λz=>by rw[show Bu P M (r,vs).1 ((r,vs).2.map (·+(wt,k).1))=false from c1]at z;cases z.2
   rw[hb];exact sr (by simp![sm,AX _ sm,s1,AE _ s1,lg])
  |true =>
   rw[show Bu P M (r,vs).1 (vs.map (·+wt))=true from c1]at lg;have hb:Bo P M (r,vs) (wt,k) al=_:=if_pos ⟨w0,c1⟩;rw[hb];refine Br (by simp![sm,AX _ sm,s1,AE _ s1,lg]) ?_
   cases k with
   |none=>exact sr (by simp![s1,AE _ s1])
   |some k =>
    have sb:=sb_ok p1 p2 h hr hv1 k al;refine Br (by simp![]) ?_
    simp![sm,AX _ sm,s1,AE _ s1,sb]
 .have d0:=ye3 (show wt<0 by omega)
  rw[d0]at un;have hb:Bo P M (r,vs) (wt,k) al=none:=if_neg λz=>w0 z.1
  rw[hb];exact sr (by simp![un])
abbrev Jy:Stmt:=AQ 45
def FW:AH :=
 (AG (AV (AO LP (AB (AA 0) (AB (AA 3) (AB (AA 6) (AB (AA 2) AD))))) (AF 3))
 (AG (A2 (m2 (Bx false) (AA 3) (mC .non)) (Fe (AB (AA 5) AD)) A4)
 (De 4 (AA 3))))
def Ia:AH :=
 (AG (AV (AO JN (AB (AA 0) AD)) (AF 3))
 (AG (A2 (Ai (AO Ho (AB (AA 0) (AB (AK (AA 3) (mC (.int 0))) (AB (AK (AA 3) (mC (.int 1))) AD))))) (Fe (AB (mC (.int 0)) AD)) A4)
 (AG (Dd 4 (Bm (As (AA 3) AD)))
 (AG (CA (Dx (AB (AA 1) AD)) (BX 2 (Ac (AF 5) (Ac (AF 6) B7))) FW)
 (AN (AA 4))))))
def Dt:List T->Option Ru:=Ae 3 7 Ia
abbrev JB:Fn:=⟨9,["machine","run","alone"],Dt⟩
abbrev zdr:Gx:={ CD with rn:=some (ED,1) }
abbrev VU:Gm:=gA ["machine","run","alone","here","told","number","step"] Jy 8 [("start",OE),("is_legal",Ks),("stand_behind",Ve)] ["enumerate"] ["told"] (ox:=zdr)
theorem Wh:Ck VU JB Jy Ia:={}
theorem zms{P:Int}{M:Mc}(h:McOk M){r:Str}{vs:List Int}(hv:vs.length=M.ws.length){k:Int}{al:Bool}{s:Str×List Int}(e:FP P M r vs k al=some s):s.1∈M.nm/\s.2.length=M.ws.length:=by
 unfold FP at e;split at e
 .split at e
  .cases e;have hd:M.ds.getD k.toNat d0∈M.ds:=by simp_all
   exact⟨(h.d _ hd).e,Lh hv⟩
  .cases e
 .cases e
theorem XS{P:Int}{M:Mc}(h:McOk M){s:Str×List Int}(hr:s.1∈M.nm)(hv:s.2.length=M.ws.length){w:Int×Option Int}{al:Bool}{s1:Str×List Int}(e:Bo P M s w al=some s1):s1.1∈M.nm/\s1.2.length=M.ws.length:=by
 have hv1:(s.2.map (·+w.1)).length=M.ws.length:=by simp_all
 unfold Bo at e;split at e
 .split at e
  .omega
  .exact zms h hv1 e
 .cases e
def Bt(P:Int)(M:Mc)(al:Bool):Nat->Str×List Int->List (Int×Option Int)->List (Str×List Int) ⊕ Nat
 |_,_,[]=>.inl []
 |i,s,w::r=>(match Bo P M s w al with
  |none=>.inr i
  |some s1=>(match Bt P M al (i+1) s1 r with
   |.inl l=>.inl (s1::l)
   |.inr k=>.inr k))
abbrev sN(P:Int)(M:Mc)(ws:List (Int×Option Int))(al:Bool)(x3 x4 x5 x6:Option T):AM:=[some (Ah M),some (AW (ws.map (Aj P))),some (.bl al),x3,x4,x5,x6]
theorem F9(P:Int)(ws:List (Int×Option Int)):An (ws.map (Aj P))=true:=C4 λw _=>by
 have:=HM w.2
 simp![this]
theorem Er(P:Int)(s:Str×List Int):(A7 P s).sh=true:=by
 have:=DZ P s.2
 simp![this]
theorem Mu{M:Mc}(h:McOk M):(AZ M).1∈M.nm:=by
 have:=h.r.l1;unfold AZ;cases q:M.nm with
 |nil =>
  have q:=congrArg List.length q;rw[show M.nm.length=M.rs.length from ya1 _,ybn]at q
  omega
 |cons a r=>simp_all
def endX(P:Int)(M:Mc)(WS:List (Int×Option Int))(al:Bool)(acc:List (Str×List Int))(o:Option Out):List (Str×List Int) ⊕ Nat->Prop
 |.inl l=>∃x3 y5 y6,o=some (.nx (sN P M WS al x3 (some (.own ((acc++l).map (A7 P)))) y5 y6))
 |.inr k=>∃τ,o=some (.xc (Dm k) τ)
theorem V9{P:Int}(p1:0<P)(p2:P<=100){M:Mc}(h:McOk M){al:Bool}{WS:List (Int×Option Int)}:∀(ws:List (Int×Option Int)) (i:Nat) (s:Str×List Int) (acc:List (Str×List Int)) (y5 y6:Option T),s.1∈M.nm->s.2.length=M.ws.length->acc.length+ws.length<=2000 ->
  endX P M WS al acc (CF (BX 2 (Ac (AF 5) (Ac (AF 6) B7))) FW (Dq i (ws.map (Aj P))) (sN P M WS al (some (A7 P s)) (some (.own (acc.map (A7 P)))) y5 y6)) (Bt P M al i s ws)
 |[],i,s,acc,y5,y6,_,_,_=>⟨_,y5,y6,by rw[ybu];rfl⟩
 |w::ws,i,s,acc,y5,y6,h1,h2,hl=>by
  have sm:=Cr h;have hb:=hb_ok p1 p2 h h1 h2 w al;have sa:=Er P s;have sw:(Aj P w).sh=true:=by have:=HM w.2;simp![this]
  have bd:BX 2 (Ac (AF 5) (Ac (AF 6) B7)) (.tup [.int (i:Int),Aj P w]) (sN P M WS al (some (A7 P s)) (some (.own (acc.map (A7 P)))) y5 y6)=some (sN P M WS al (some (A7 P s)) (some (.own (acc.map (A7 P)))) (some (.int (i:Int))) (some (Aj P w))):=by simp![]
  have en:Dq i ((w::ws).map (Aj P))=.tup [.int (i:Int),Aj P w]::Dq (i+1) (ws.map (Aj P)):=rfl;rw[en];unfold CF Bt;simp only[bd];cases q:Bo P M s w al with
  |none =>
   rw[q]at hb;have ob:HI P none=T.non:=rfl;rw[ob]at hb
   have e:FW (sN P M WS al (some (A7 P s)) (some (.own (acc.map (A7 P)))) (some (.int (i:Int))) (some (Aj P w)))=some (.xc (Dm i) (sN P M WS al (some .non) (some (.own (acc.map (A7 P)))) (some (.int (i:Int))) (some (Aj P w)))):=by
    unfold FW;have ti:((i:Int)).toNat=i:=rfl;have i0:(0:Int)<=(i:Int):=Int.natCast_nonneg i;generalize Aj P w=W at *;generalize A7 P s=A at *;refine sq (τ':=sN P M WS al (some .non) (some (.own (acc.map (A7 P)))) (some (.int (i:Int))) (some W)) (by simp![sm,AX _ sm,sa,AX _ sa,sw,AX _ sw,hb]) ?_
    simp![Fe,i0,ti]
   rw[e];exact⟨_,rfl⟩
  |some s1 =>
   rw[q]at hb;obtain⟨k1,k2⟩:=XS h h1 h2 q;have ob:HI P (some s1)=A7 P s1:=rfl;rw[ob]at hb;have sb:=Er P s1;have nn:Bx false (A7 P s1) .non=some (.bl false):=rfl;have tl:acc.length<100000:=by rw[yat]at hl;omega
   have e:FW (sN P M WS al (some (A7 P s)) (some (.own (acc.map (A7 P)))) (some (.int (i:Int))) (some (Aj P w)))=some (.nx (sN P M WS al (some (A7 P s1)) (some (.own ((acc++[s1]).map (A7 P)))) (some (.int (i:Int))) (some (Aj P w)))):=by
    rw[ybx];unfold FW;show _=some (Out.nx (sN P M WS al (some (A7 P s1)) (some (.own (acc.map (A7 P)++[A7 P s1]))) (some (.int (i:Int))) (some (Aj P w))));generalize Aj P w=W at *;generalize A7 P s=A at *;generalize A7 P s1=B at *;refine sq (τ':=sN P M WS al (some B) (some (.own (acc.map (A7 P)))) (some (.int (i:Int))) (some W)) (by simp![sm,AX _ sm,sa,AX _ sa,sw,AX _ sw,hb,sb,AX _ sb]) ?_
    refine Br (by simp![-Bx,sb,AX _ sb,nn]) ?_
    simp![sb,AX _ sb,ya1,tl]
   rw[e];have ih:=V9 p1 p2 h (WS:=WS) (al:=al) ws (i+1) s1 (acc++[s1]) (some (.int (i:Int))) (some (Aj P w)) k1 k2 (by rw[yaz,ybl];rw[yat]at hl;omega)
   dsimp only;cases r:Bt P M al (i+1) s1 ws with
   |inl l =>
    rw[r]at ih;obtain⟨x3,z5,z6,ih⟩:=ih;exact⟨x3,z5,z6,by rw[ih,List.append_assoc];rfl⟩
   |inr k =>
    rw[r]at ih;exact ih
def E3(P:Int)(M:Mc)(al:Bool)(ws:List (Int×Option Int)):List (Str×List Int) ⊕ Nat:=if Bu P M (AZ M).1 (AZ M).2=true then (match Bt P M al 0 (AZ M) ws with
 |.inl l=>.inl (AZ M::l)
 |.inr k=>.inr k) else .inr 0
def GO(P:Int):List (Str×List Int) ⊕ Nat->Ru
 |.inl l=>.ok (.own (l.map (A7 P)))
 |.inr k=>.exc (Dm k)
theorem ML{P:Int}(p1:0<P)(p2:P<=100){M:Mc}(h:McOk M){ws:List (Int×Option Int)}(hw:ws.length<=1000){al:Bool}:Dt [Ah M,AW (ws.map (Aj P)),.bl al]=some (GO P (E3 P M al ws)):=by
 have sm:=Cr h;have n0:=Mu h;have v0:(AZ M).2.length=M.ws.length:=ya1 _;have ss:=F9 P ws;have st:=MJ p1 h;have lg:=Kh p1 p2 h n0 v0;have fr:=V9 p1 p2 h (WS:=ws) (al:=al) ws 0 (AZ M) [AZ M] none none n0 v0 (by rw[ybl];omega)
 unfold E3;generalize AZ M=s0 at *;have vs0:=DZ P s0.2
 have go:∀{o:Option Out},(AG (CA (Dx (AB (AA 1) AD)) (BX 2 (Ac (AF 5) (Ac (AF 6) B7))) FW) (AN (AA 4))) (sN P M ws al (some (A7 P s0)) (some (.own [A7 P s0])) none none)=o->Ia (sN P M ws al none none none none)=(if Bu P M s0.1 s0.2=true then o else some (.xc (Dm 0) (sN P M ws al (some (A7 P s0)) none none none))):=λ{o} ho=>by
  unfold Ia;refine sq (τ':=sN P M ws al (some (A7 P s0)) none none none) (by simp![sm,AX _ sm,st,vs0,AE _ vs0]) ?_
  cases q:Bu P M s0.1 s0.2 with
  |true =>
   rw[q]at lg;refine Br (by simp![sm,AX _ sm,vs0,AE _ vs0,lg]) ?_
   refine sq (τ':=sN P M ws al (some (A7 P s0)) (some (.own [A7 P s0])) none none) (by simp![vs0,AE _ vs0]) ?_
   rw[if_pos rfl];exact ho
  |false =>
   rw[q]at lg;have t0:((0:Int)).toNat=0:=rfl
   simp![Fe,sm,AX _ sm,vs0,AE _ vs0,lg,Int.le_refl,t0]
 cases r:Bt P M al 0 s0 ws with
 |inl l =>
  rw[r]at fr;obtain⟨x3,y5,y6,ef⟩:=fr
  have key:=go (o:=some (.rt (.own ((s0::l).map (A7 P))))) (by
   refine sq (τ':=_) (by rw[<- ef];simp![Dx,ss,AE _ ss]) ?_
   simp![])
  unfold Dt;unfold sN at key;cases q:Bu P M s0.1 s0.2 with
  |true =>
   rw[q,if_pos rfl]at key
   simp![sm,AX _ sm,ss,AE _ ss,key]
   rfl
  |false =>
   rw[q]at key
   simp![sm,AX _ sm,ss,AE _ ss,key]
   rfl
 |inr k =>
  rw[r]at fr;obtain⟨τ,ef⟩:=fr
  have key:=go (o:=some (.xc (Dm k) τ)) (by
   unfold AG
   have e:(CA (Dx (AB (AA 1) AD)) (BX 2 (Ac (AF 5) (Ac (AF 6) B7))) FW) (sN P M ws al (some (A7 P s0)) (some (.own [A7 P s0])) none none)=some (.xc (Dm k) τ):=by
    rw[<- ef]
    simp![Dx,ss,AE _ ss]
   rw[e])
  unfold Dt;unfold sN at key;cases q:Bu P M s0.1 s0.2 with
  |true =>
   rw[q,if_pos rfl]at key
   simp![sm,AX _ sm,ss,AE _ ss,key]
   rfl
  |false =>
   rw[q]at key
   simp![sm,AX _ sm,ss,AE _ ss,key]
   rfl
abbrev Jx:Stmt:=AQ 44
def K2:AH :=
 (AN (AK (AO Dt (AB (AA 0) (AB (AA 1) (AB (AA 2) AD)))) (m1 Cp (mC (.int 1)))))
def EX:List T->Option Ru:=Ae 3 3 K2
abbrev Kr:Fn:=⟨10,["machine","run","alone"],EX⟩
abbrev VT:Gm:=gA ["machine","run","alone"] Jx 9 [("stands",JB)] []
theorem Wg:Ck VT Kr Jx K2:={}
theorem XW{α:Type}{l:List α}(h:l≠[])(d:α):A6 l (-1)=some (l.getD (l.length - 1) d):=by
 have hl :=List.length_pos_iff.mpr h
 have e:A6 l (-1)=l[(l.length - 1)]?:=by
  have ix:Cu l.length (-1)=some (l.length - 1):=by
   unfold Cu;simp
   omega
  unfold A6;rw[ix]
  rfl
 rw[e,ya6,ya0 (by omega)]
 rfl
theorem zjw{P:Int}{M:Mc}{al:Bool}{ws:List (Int×Option Int)}{l:List (Str×List Int)}(e:E3 P M al ws=.inl l):l≠[]:=by
 unfold E3 at e
 omega
def Hz(P:Int):List (Str×List Int) ⊕ Nat->Ru
 |.inl l=>.ok (A7 P (l.getD (l.length - 1) ("",[])))
 |.inr k=>.exc (Dm k)
theorem Pr{P:Int}(p1:0<P)(p2:P<=100){M:Mc}(h:McOk M){ws:List (Int×Option Int)}(hw:ws.length<=1000){al:Bool}:EX [Ah M,AW (ws.map (Aj P)),.bl al]=some (Hz P (E3 P M al ws)):=by
 have sm:=Cr h;have ss:=F9 P ws;have st:=ML p1 p2 h hw (al:=al);unfold EX K2;cases r:E3 P M al ws with
 |inl l =>
  rw[r]at st;have ne:=zjw r;have a:=XW (l:=l.map (A7 P)) (by intro z;exact ne (List.map_eq_nil_iff.mp z)) (A7 P ("",[]))
  have g:(l.map (A7 P)).getD ((l.map (A7 P)).length - 1) (A7 P ("",[]))=A7 P (l.getD (l.length - 1) ("",[])):=by
   simp_all
  rw[g]at a;have sl:=Er P (l.getD (l.length - 1) ("",[]));show _=some (Ru.ok (A7 P (l.getD (l.length - 1) ("",[]))));unfold GO at st
  simp![sm,AX _ sm,ss,AE _ ss,st,a,sl]
 |inr k =>
  rw[r]at st;unfold GO at st
  simp![sm,AX _ sm,ss,AE _ ss,st]
  rfl
theorem MK{P:Int}(p1:0<P)(p2:P<=100){M:Mc}(h:McOk M){X:T}(hX:X.sh=true)(hl:Bu P M (AZ M).1 (AZ M).2=false){al:Bool}:Dt [Ah M,X,.bl al]=some (.exc (Dm 0)):=by
 have sm:=Cr h;have n0:=Mu h;have v0:(AZ M).2.length=M.ws.length:=ya1 _;have so:=MJ p1 h;have lg:=Kh p1 p2 h n0 v0;rw[hl]at lg;have ss:=Er P (AZ M);have vz:=DZ P (AZ M).2;unfold Dt Ia;generalize Ah M=W at *;have t0:((0:Int)).toNat=0:=rfl
 simp![Fe,sm,AX _ sm,hX,AX _ hX,so,vz,AE _ vz,lg,Int.le_refl,t0]
theorem Px{P:Int}(p1:0<P)(p2:P<=100){M:Mc}(h:McOk M){X:T}(hX:X.sh=true)(hl:Bu P M (AZ M).1 (AZ M).2=false){al:Bool}:EX [Ah M,X,.bl al]=some (.exc (Dm 0)):=by
 have sm:=Cr h;have st:=MK p1 p2 h hX hl (al:=al);unfold EX K2;generalize Ah M=W at *
 simp![sm,AX _ sm,hX,AX _ hX,st]
abbrev R7:Stmt:=AQ 60
def IE:AI :=
 (m2 BL (AA 1) (mC (.int 0)))
def Ls:AH :=
 (IK 0 1 (AB (AA 1) (AB (m2 Ap (AA 0) (AA 1)) AD)))
def N3:AH :=
 (AG (E7 IE Ls)
 (AN (m1 Gd (AA 0))))
def L8:List T->Option Ru:=Ae 2 2 N3
abbrev WG:Fn:=⟨1,["_law_one","_law_other"],L8⟩
abbrev zbx:Gm:=gA ["_law_one","_law_other"] R7 0 [] ["abs"]
theorem zc7:Ck zbx WG R7 N3:={}
theorem zij(a b:Int):L8 [.int a,.int b]=some (.ok (.int (Zm.gd a b))):=by
 have loop:=R9 (mc:=IE) (body:=Ls)
  (λτ=>∃(g l:Int),τ=[some (.int g),some (.int l)]/\Zm.gd g l=Zm.gd a b)
  (λτ=>match τ with|[_,some (.int l)]=>l.natAbs|_=>0)
  ⟨_,_,rfl,rfl⟩ (by
   rintro τ ⟨g,l,rfl,e⟩
   by_cases h0:l=0
   .right;exact⟨false,by unfold IE;simp![Ef,h0]⟩
   .left;exact⟨false,by unfold IE;simp![Ef];simp[h0],[some (.int l),some (.int (g.fmod l))],by unfold Ls;simp![h0],⟨_,_,rfl,Zm.gd_turn e⟩,Zm.fmod_less g h0⟩)
 obtain⟨τ',e1,⟨g,l,rfl,e⟩,bb,e2⟩:=loop
 have hl0:l=0:=by
  have e3:IE [some (.int g),some (.int l)]=some (.v (.bl (!(l == 0))) false):=by rfl
  omega
 unfold L8 N3
 simp![e1]
 rw[Zm.gd_end e hl0]
abbrev RZ:Stmt:=AQ 61
def N2:AH :=
 (AG (AV (AO L8 (AB (AA 0) (AB (AA 1) AD))) (AF 2))
 (AN (BG (AB (m2 B3 (AA 0) (AA 2)) (AB (m2 B3 (AA 1) (AA 2)) AD)))))
def JX:List T->Option Ru:=Ae 2 3 N2
abbrev OT:Fn:=⟨2,["_law_number","_law_parts"],JX⟩
abbrev zbe:Gm:=gA ["_law_number","_law_parts","_law_share"] RZ 1 [("_law_divisor",WG)] []
theorem zbh:Ck zbe OT RZ N2:={}
theorem Uo{P:Int}(p1:0<P)(p2:P<=100)(v:Int):JX [.int v,.int P]=some (.ok (BS P v)):=by
 have ld:=zij v P;have k:=Zm.gd_pos (a:=v) (by omega)
 have k2:=Zm.gd_le (a:=v) p1;have n0 :=eq_false (by omega)
 have s0 :=Bs (Int.lt_trans (by omega) k) (yd8 (Int.le_trans k2 p2) (by omega))
 unfold BS Zm.lt Zm.lb;unfold JX N2
 simp![ld,n0,s0]
abbrev RY:Stmt:=AQ 54
def Jc:AH :=
 (A2 (m2 BL (AA 1) (Bm AD)) (AG (AV (m2 Ap (m2 B3 (AA 0) (m2 BK (mC (.int 4)) (m2 B9 (mC (.int 3)) (AA 5)))) (mC (.int 1000003))) (AF 6))
 (AG (AV (m2 BK (m2 B9 (m2 Ap (m2 B3 (AA 6) (mC (.int 35))) (mC (.int 5))) (AA 3)) (m2 B3 (m2 Ap (m2 B3 (AA 6) (mC (.int 175))) (mC (.int 4))) (mC (.int 3)))) (AF 7))
 (De 4 (BG (AB (AK (AA 1) (m2 Ap (AA 6) (m1 BW (AA 1)))) (AB (AK (AA 2) (m2 Ap (m2 B3 (AA 6) (mC (.int 7))) (m1 BW (AA 2)))) (AB (AA 7) AD))))))) A4)
def N1:AH :=
 (AG (Dd 4 (Bm AD))
 (AG (CA (Cy (AB (AK (Bm (As (mC (.int 0)) (As (mC (.int 1)) (As (mC (.int 1)) (As (mC (.int 2)) AD))))) (m2 Ap (AA 0) (mC (.int 4)))) AD)) (AF 5) Jc)
 (AN (AA 4))))
def Gj:List T->Option Ru:=Ae 4 8 N1
abbrev WC:Fn:=⟨1,["_law_number","_law_watches","_law_words","_law_unit"],Gj⟩
abbrev zdv:Gm:=gA ["_law_number","_law_watches","_law_words","_law_unit","_law_looks_here","_law_k","_law_one","_law_size"] RY 0 [] ["range","len"] ["_law_looks_here"]
theorem ze5:Ck zdv WC RY N1:={}
theorem Ra{a b:Int}(h1:0<=a)(h2:a<=100)(h3:0<=b)(h4:b<=100):BZ (a+b)=true:=Bs (Int.lt_of_lt_of_le (by omega) (Int.add_nonneg h1 h3)) (yd8 (Int.add_le_add h2 h4) (by omega))
theorem zg4{l:List Str}(h:By l):Fit (.lst (l.map T.str)) 1:=Fit.nd λt ht=>by
 obtain⟨x,hx,rfl⟩:=yao.mp ht;exact Fit.str (h x hx) 0
theorem zlm{l:List Str}(h:By l):BL (.lst (l.map T.str)) (.lst [])=some (.bl (!decide (l=[]))):=by
 cases l with
 |nil=>rfl
 |cons a r =>
  rw[(WT (zg4 h) (Fit.nd (n:=0) λ_ z=>by cases z) (by decide)).2]
  have e:¬ ((T.lst ((a::r).map T.str)).data=(T.lst []).data):=λz=>by
   have z' :=z;cases z'
  omega
abbrev sL(x:Int)(ws wd:List Str)(u:Int)(x4 x5 x6 x7:Option T):AM:=[some (.int x),some (.lst (ws.map T.str)),some (.lst (wd.map T.str)),some (.int u),x4,x5,x6,x7]
theorem Uj{ws wd:List Str}(tw:By ws)(hd:wd≠[])(x:Int){u:Int}(hu:0<=u):∃g:List T,Bk ws wd g/\g.length<=2/\Gj [.int x,.lst (ws.map T.str),.lst (wd.map T.str),.int u]=some (.ok (.own g)):=by
 have hne:=zlm tw;obtain⟨q,hq,eq⟩:=Eg [0,1,1,2] (by decide) x
 have hq2:q<=2:=(show ∀q∈[0,1,1,2],q<=2 by decide) q hq
 have eq:A6 [T.int 0,T.int 1,T.int 1,T.int 2] (x.fmod 4)=some (.int (q:Int)):=FQ (λn:Nat=>T.int (n:Int)) eq
 obtain⟨τ,e,g,hl,hg,y5,y6,y7,rfl⟩:=FO (b:=AF 5) (body:=Jc) (ts:=mT q λi=>.int (i:Int))
  (λi τ=>∃g:List T,g.length<=i/\Bk ws wd g/\∃y5 y6 y7,τ=sL x ws wd u (some (.own g)) y5 y6 y7) ⟨[],yac 0,λ_ z=>(by cases z),none,none,none,rfl⟩ λi t τ h1 h2=>by
   obtain⟨hi,rfl⟩:=HR h1;obtain⟨g,hl,hg,y5,y6,y7,rfl⟩:=h2
   by_cases h0:ws=[]
   .refine⟨sL x ws wd u (some (.own g)) (some (.int (i:Int))) y6 y7,(by simp![]),sL x ws wd u (some (.own g)) (some (.int (i:Int))) y6 y7,?_,g,Nat.le_succ_of_le hl,hg,_,_,_,rfl⟩
    rw[ye3 h0]at hne;unfold Jc
    simp![A8,AU,hne]
   .rw[ydl h0]at hne;have m4:Bw 3 (i:Int)=true:=FG (C6 (by decide) (by decide))
    have n0:(4+3 * (i:Int)=0)=False:=eq_false (by omega)
    have s0:BZ (4+3 * (i:Int))=true:=Ra (by decide) (by decide) (by lia) (by lia)
    obtain⟨b,hb⟩:∃b,(x.fdiv (4+3 * (i:Int))).fmod 1000003=b:=⟨_,rfl⟩;obtain⟨w,hw,ew⟩:=Eg ws h0 b;obtain⟨o,ho,eo⟩:=Eg wd hd (b.fdiv 7);have ew':=FQ T.str ew;have eo':=FQ T.str eo;have l0:=Na h0;have l1:=Na hd;have s7:BZ 7=true:=Bs (by decide) (by decide)
    have s35:BZ 35=true:=Bs (by decide) (by decide)
    have r0:=yaj (b.fdiv 35) (show(0:Int)<5 by decide)
    have r1:=yb5 (b.fdiv 35) (show(0:Int)<5 by decide)
    have m5:Bw ((b.fdiv 35).fmod 5) u=true:=FG (C6 (by omega) (by omega))
    have s175:BZ 175=true:=Bs (by decide) (by decide)
    have s3:BZ 3=true:=Bs (by decide) (by decide)
    have r2:=yaj (b.fdiv 175) (show(0:Int)<4 by decide)
    have r3:0<=((b.fdiv 175).fmod 4).fdiv 3:=Int.fdiv_nonneg r2 (by decide)
    have nn:0<=(b.fdiv 35).fmod 5 * u+((b.fdiv 175).fmod 4).fdiv 3:=Int.add_nonneg (Int.mul_nonneg r0 hu) r3;have ll:g.length<100000:=by omega
    refine⟨sL x ws wd u (some (.own g)) (some (.int (i:Int))) y6 y7,(by simp![]),sL x ws wd u (some (.own (g++[.tup [.str w,.str o,.int ((b.fdiv 35).fmod 5 * u+((b.fdiv 175).fmod 4).fdiv 3)]]))) (some (.int (i:Int))) (some (.int b)) (some (.int ((b.fdiv 35).fmod 5 * u+((b.fdiv 175).fmod 4).fdiv 3))),?_,_,(by rw[yaz,ybl];exact ydh hl),λt ht=>?_,_,_,_,rfl⟩
    .unfold Jc
     simp![A8,AU,hne,m4,n0,s0,hb,ya1,l0,l1,s7,s35,s175,s3,ew',eo',m5,ll]
    .rcases ybb.mp ht with ht|ht
     .exact hg t ht
     .rw[yab.mp ht];exact⟨w,o,_,rfl,hw,ho,nn⟩
 rw[Cs]at hl;have ok:Dl (q:Int)=true:=Fj (by omega)
 have er:DT 0 q=mT q λi=>.int (i:Int):=Ea
 refine⟨g,hg,by omega,?_⟩
 unfold Gj N1
 simp![eq,ok,er,e,A8,AU]
abbrev RX:Stmt:=AQ 55
def PH:AI :=
 (BG (AB (AK (AA 1) (AA 0)) (AB (AO Gj (AB (AK (AA 4) (AA 0)) (AB (AA 3) (AB (Bm (As (mC (.str "<")) (As (mC (.str "<=")) AD))) (AB (AA 2) AD))))) AD)))
def Iu:AI :=
 (BA (m2 BJ (AK (AA 0) (mC (.int 1))) (mC (.str "<="))) (m2 (Bg λi j=>decide (j<i)) (AK (AA 0) (mC (.int 2))) (mC (.int 0))))
def JH:AI :=
 (AA 0)
def Nx:AI :=
 (m2 BJ (m2 Ap (m2 B3 (AK (AA 2) (mC (.int 2))) (m2 BK (mC (.int 3)) (AA 0))) (mC (.int 2))) (mC (.int 1)))
def PK:AI :=
 (AK (AA 1) (AA 0))
def Jb:AH :=
 (AG (AV (AO Hv (AB (m2 B3 (AO DO (AB (AA 0) (AB (mC (.int 2)) AD))) (mC (.int 8))) (AB (AA 8) (AB (mC (.int 6)) AD)))) (AF 9))
 (AG (AV (BN 1 [4,9] (Cy (AB (m1 BW (AA 4)) AD)) (AF 0) Nx PK) (AF 10))
 (AG (AV (AO Gj (AB (AK (AA 9) (mC (.int 3))) (AB (AA 4) (AB (Bm (As (mC (.str "<")) (As (mC (.str "<=")) (As (mC (.str ">")) (As (mC (.str ">=")) (As (mC (.str "=")) AD)))))) (AB (AA 2) AD))))) (AF 11))
 (AG (AV (AK (Bm (As (mC (.str "")) (As (mC (.str "")) (As (mC (.str "")) (As (m2 BK (AK (AA 1) (mC (.int 11))) (mC (.str "!"))) (As (m2 BK (AK (AA 1) (mC (.int 11))) (mC (.str "?"))) AD)))))) (m2 Ap (AK (AA 9) (mC (.int 4))) (mC (.int 5)))) (AF 12))
 (De 7 (BG (AB (AK (AK (AA 6) (m2 Ap (AK (AA 9) (mC (.int 0))) (m1 BW (AA 6)))) (mC (.int 0))) (AB (AK (AK (AA 6) (m2 Ap (AK (AA 9) (mC (.int 1))) (m1 BW (AA 6)))) (mC (.int 0))) (AB (AA 11) (AB (AA 10) (AB (AA 12) AD)))))))))))
def Kc:AH :=
 (AG (AV (AO DO (AB (AA 0) (AB (mC (.int 1)) AD))) (AF 3))
 (AG (AV (Ct (Eh (AA 1) (some (mC (.int 8))) (some (m2 BK (mC (.int 8)) (m2 Ap (AA 3) (mC (.int 4)))))) (FH (AA 1) (some (mC (.int 8))) (some (m2 BK (mC (.int 8)) (m2 Ap (AA 3) (mC (.int 4))))))) (AF 4))
 (AG (AV (AO EY (AB (AA 3) (AB (mC (.int 4)) AD))) (AF 5))
 (AG (Dd 6 (BN 1 [1,2,4,5] (Cy (AB (m2 BK (mC (.int 1)) (m2 Ap (m2 B3 (AA 3) (mC (.int 4))) (mC (.int 4)))) AD)) (AF 0) (mC (.bl true)) PH))
 (AG (A2 (m2 (Bg λi j=>decide (j<i)) (m2 Ap (m2 B3 (AA 3) (mC (.int 16))) (mC (.int 8))) (mC (.int 0))) (HD 6 (mC (.int 0)) (BG (AB (AK (AK (AA 6) (mC (.int 0))) (mC (.int 0))) (AB (BN 1 [] (BI (AK (AK (AA 6) (mC (.int 0))) (mC (.int 1)))) (AF 0) Iu JH) AD)))) A4)
 (AG (Dd 7 (Bm AD))
 (AG (CA (Cy (AB (m2 Ap (AO DO (AB (AA 0) (AB (mC (.int 2)) AD))) (mC (.int 8))) AD)) (AF 8) Jb)
 (AG (E9 6) (AG (E9 7) (AN (BG (AB (AA 4) (AB (AA 6) (AB (AA 7) AD))))))))))))))
def L7:List T->Option Ru:=Ae 3 13 Kc
abbrev WB:Fn:=⟨3,["_law_script","_law_names_here","_law_unit"],L7⟩
abbrev zbw:Gm:=gA ["_law_script","_law_names_here","_law_unit","_law_cell","_law_watches","_law_xs","_law_rooms","_law_doors","_law_k","_law_ys","_law_noughts","_law_guard","_law_sign"] RX 2 [("_law_cell_at",OU),("_law_stream",Kv),("_law_looks",WC),("_law_draws",WD)] ["range","len"] ["_law_rooms","_law_doors"] ["_law_names_here","_law_unit","_law_watches","_law_xs","_law_ys"]
theorem zc6:Ck zbw WB RX Kc:={}
def GD(x:Str):Prop:=FR x/\1<=x.cps.size/\x.cps.size<=8
theorem MO{x:Str}(h:GD x):Ge x:=.inr h
theorem zgy{x:Str}(h:FR x):LK x:=λi hi=>.inr (h i hi)
theorem zes(ws:List Str):(List.range ws.length).map (λj=>ws.getD j "")=ws:=by
 refine ybo λi=>?_
 by_cases hi:i<ws.length
 .simp_all
 simp_all
theorem zk3{y z:Str}(h:FR y)(h1:1<=y.cps.size)(h8:y.cps.size<=8)(hz:z=""\/z=y++"!"\/z=y++"?"):Hk z:=by
 rcases hz with rfl|rfl|rfl
 .exact .inl rfl
 .exact .inr ⟨y,33,h,h1,h8,.inl rfl,by rw[Tx.cs_app,show Tx.cs (Str.ofString "!")=[33] by rfl]⟩
 .exact .inr ⟨y,63,h,h1,h8,.inr rfl,by rw[Tx.cs_app,show Tx.cs (Str.ofString "?")=[63] by rfl]⟩
abbrev DB(d:Dr):T:=.tup [.str d.s,.str d.e,.lst d.g,.lst (d.n.map T.str),.str d.z]
abbrev EI(M:Mc):T:=.tup [.lst (M.ws.map T.str),Dh M.rs,.lst (M.ds.map DB)]
theorem O3{M:Mc}(h:McOk M):An (M.ds.map DB)=true:=C4 λd hd=>by
 have:=(h.d d hd).g.sh
 simp![this,AU]
abbrev Bv(ns:List Int)(nms:List Str)(u:Int)(x3 x4 x5 x6 x7 x8 x9 x10 x11 x12:Option T):AM:=[some (BF ns),some (.lst (nms.map T.str)),some (.int u),x3,x4,x5,x6,x7,x8,x9,x10,x11,x12]
def P7(ws:List Str)(r:Str×List T):Prop:=Bk ws Es r.2/\r.2.length<=2
theorem zer{ws:List Str}(tw:By ws){nms:List Str}{u:Int}(hu:0<=u)(xs:Nat->Int){n:Nat}(hn:n<=4)(nl:4<=nms.length):∃rs:List (Str×List T),rs.map (·.1)=nms.take n/\(∀r∈rs,P7 ws r)/\Bd (AF 0) (mC (.bl true)) PH (mT n λi=>.int (i:Int)) [none,some (.lst (nms.map T.str)),some (.int u),some (.lst (ws.map T.str)),some (.lst (mT 4 λi=>.int (xs i)))]=some (rs.map Az):=by
 have H:∀i:Nat,∃g:List T,Bk ws Es g/\g.length<=2/\Gj [.int (xs i),.lst (ws.map T.str),.lst [.str "<",.str "<="],.int u]=some (.ok (.own g)):=λi=>Uj tw (wd:=Es) (by decide) (xs i) hu
 obtain⟨f,hf⟩:=Classical.axiomOfChoice H;refine⟨(List.range n).map λi=>(nms.getD i "",f i),?_,λr hr=>?_,?_⟩
 .refine ybo λi=>?_
  by_cases hi:i<n
  .rw[yc2 hi,yaq,ya3,ybp hi];show some (nms.getD i "")=_;rw[ya6,ya0 (by omega)]
   rfl
  .rw[yan (by simp;omega),yan (by simp;omega)]
 .obtain⟨i,hi,rfl⟩:=yao.mp hr;exact⟨(hf i).1,(hf i).2.1⟩
 rw[yaq];refine DI (λ(i:Nat)=>T.int (i:Int)) (λi=>Az (nms.getD i "",f i)) (λτ=>∃a,τ=[a,some (.lst (nms.map T.str)),some (.int u),some (.lst (ws.map T.str)),some (.lst (mT 4 λi=>.int (xs i)))]) _ _ ⟨none,rfl⟩ λi hi τ hI=>?_
 obtain⟨a,rfl⟩:=hI;have hi:=ybq.mp hi;have ax:A6 (mT 4 λi=>T.int (xs i)) i=some (.int (xs i)):=EN (by omega)
 have an:A6 (nms.map T.str) i=some (.str (nms.getD i "")):=CH (by rw[ya3,ya6,ya0 (by omega)];rfl)
 have sg:=(hf i).1.sh;refine⟨[some (.int (i:Int)),some (.lst (nms.map T.str)),some (.int u),some (.lst (ws.map T.str)),some (.lst (mT 4 λi=>.int (xs i)))],by simp![],?_,_,rfl⟩
 have eg:=(hf i).2.2;unfold PH
 simp![A8,AU,an,ax,eg,sg,AE _ sg]
theorem zmi{ws:List Str}{g:List T}(hg:Bk ws Es g):∃p:T->Bool,Bd (AF 0) Iu JH g [none]=some (g.filter p):=by
 have lc:=Ki (b:=AF 0) (mt:=Iu) (me:=JH) (λt =>t) (λt=>t) (λt=>match t with|.nd false .tup [_,.str y,.int n]=>decide (y=Str.ofString "<=") || decide (0<n)|_=>true) (λτ=>∃a,τ=[a]) g [none] ⟨none,rfl⟩ λt ht τ hI=>by
  obtain⟨a,rfl⟩:=hI;obtain⟨x,y,n,rfl,h1,h2,_⟩:=hg t ht;refine⟨[some (.tup [.str x,.str y,.int n])],false,by simp![],?_,λ_=>?_,_,rfl⟩
  .unfold Iu;have e:BJ (.str y) (.str (Str.ofString "<="))=some (.bl (decide (y=Str.ofString "<="))):=Fy (Qb y h2) (by decide +kernel)
   by_cases z:y=Str.ofString "<="
   .rw[ye3 z]at e
    simp![e,ye3 z]
   .simp![e,ydl z]
  .unfold JH
   simp![]
 rw[yd5,yd5]at lc;exact⟨_,lc⟩
theorem zdz{ns:List Int}{nms ws rn:List Str}(hw:∀x∈ws,GD x)(wd:ws.Nodup)(wl:ws.length<=3){rs:List (Str×List T)}(er:rs.map (·.1)=rn)(r0:rs≠[])(rl:rs.length<=4)(hr:∀r∈rs,P7 ws r)(nl:nms.length=12)(hn:∀x∈nms,GD x){u:Int}(hu:0<=u){k:Nat}(hk:k<7){ds:List Dr}(dl:ds.length<100000)(x3 x5:Option T){y9 y10 y11 y12:Option T}:∃d:Dr,DrOk ws rn d/\∃z9 z10 z11 z12,Jb (Bv ns nms u x3 (some (.lst (ws.map T.str))) x5 (some (.own (rs.map Az))) (some (.own (ds.map DB))) (some (.int (k:Int))) y9 y10 y11 y12)=some (.nx (Bv ns nms u x3 (some (.lst (ws.map T.str))) x5 (some (.own (rs.map Az))) (some (.own ((ds++[d]).map DB))) (some (.int (k:Int))) z9 z10 z11 z12)):=by
 have tw:By ws:=λy hy=>Gp (MO (hw y hy))
 have ec:=Hg ns (k:=2) (by decide)
 generalize ns.getD (2:Int).toNat 0=c at *;obtain⟨ys,ed⟩:=zg5 (c.fdiv 8) (k:=k) (m:=6) (by omega) (by omega) (by decide)
 have ed:Hv [.int (c.fdiv 8),.int (k:Int),.int 6]=some (.ok (.own (mT 6 λi=>.int (ys i)))):=ed
 have a0:A6 (mT 6 λi=>T.int (ys i)) 0=some (.int (ys 0)):=EN (k:=0) (by decide)
 have a1:A6 (mT 6 λi=>T.int (ys i)) 1=some (.int (ys 1)):=EN (k:=1) (by decide)
 have a2:A6 (mT 6 λi=>T.int (ys i)) 2=some (.int (ys 2)):=EN (k:=2) (by decide)
 have a3:A6 (mT 6 λi=>T.int (ys i)) 3=some (.int (ys 3)):=EN (k:=3) (by decide)
 have a4:A6 (mT 6 λi=>T.int (ys i)) 4=some (.int (ys 4)):=EN (k:=4) (by decide)
 obtain⟨y,ey,sy⟩:∃y,A6 (nms.map T.str) 11=some (.str y)/\GD y:=by
  have h11:11<nms.length:=by omega
  exact⟨nms[11],CH (j:=11) (by rw[ya3,ya0 h11];rfl),hn _ (yb7 h11)⟩
 obtain⟨z,hz,ez⟩:=Eg [(Str.ofString ""),"","",y++"!",y++"?"] (by simp) (ys 4)
 have ez':A6 [T.str (Str.ofString ""),T.str (Str.ofString ""),T.str (Str.ofString ""),T.str (y++Str.ofString "!"),T.str (y++Str.ofString "?")] ((ys 4).fmod 5)=some (.str z):=FQ T.str ez
 have sz:Hk z:=zk3 sy.1 sy.2.1 sy.2.2 (by
  simp only[yae,yay,yeg]at hz
  rcases hz with h|h|h|h|h
  .exact .inl h
  .exact .inl h
  .exact .inl h
  .exact .inr (.inl h)
  .exact .inr (.inr h))
 have yl:y.length<=8:=sy.2.2;have q1:y.length+(Str.ofString "!").length<=100000:=by rw[show(Str.ofString "!").length=1 by decide +kernel];omega
 have q2:y.length+(Str.ofString "?").length<=100000:=by rw[show(Str.ofString "?").length=1 by decide +kernel];omega
 obtain⟨b,hb,eb⟩:=Eg rs r0 (ys 0);obtain⟨e,he,ee⟩:=Eg rs r0 (ys 1);have eb':=FQ Az eb;have ee':=FQ Az ee;have l0:=Na r0;obtain⟨g,hg,gl,eg⟩:=Uj tw (wd:=Cj) (by decide) (ys 3) hu
 have eg:Gj [.int (ys 3),.lst (ws.map T.str),.lst [.str "<",.str "<=",.str ">",.str ">=",.str "="],.int u]=some (.ok (.own g)):=eg;have s8:BZ 8=true:=Bs (by decide) (by decide)
 have ok:Dl (ws.length:Int)=true:=Fj (by omega)
 have er0:DT 0 ws.length=(List.range ws.length).map λ(k:Nat)=>T.int (k:Int):=Ea
 have lc:Bd (AF 0) Nx PK ((List.range ws.length).map λ(k:Nat)=>T.int (k:Int)) [none,some (.lst (ws.map T.str)),some (.lst (mT 6 λi=>T.int (ys i)))]=some (((List.range ws.length).filter λ(j:Nat)=>((ys 2).fdiv (3+(j:Int))).fmod 2 == 1).map λj=>T.str (ws.getD j "")):=Ki (λ(k:Nat)=>T.int (k:Int)) (λj=>T.str (ws.getD j "")) (λ(j:Nat)=>((ys 2).fdiv (3+(j:Int))).fmod 2 == 1) (λτ=>∃a,τ=[a,some (.lst (ws.map T.str)),some (.lst (mT 6 λi=>T.int (ys i)))]) _ _ ⟨none,rfl⟩ λj hj τ hI=>by
  obtain⟨a,rfl⟩:=hI;have hj:=ybq.mp hj;have n0:(3+(j:Int)=0)=False:=eq_false (by omega)
  have s0:BZ (3+(j:Int))=true:=Ra (by decide) (by decide) (by lia) (by lia)
  have aj:A6 (ws.map T.str) (j:Int)=some (.str (ws.getD j "")):=CH (by rw[ya3,ya0 hj,ya6,ya0 hj];rfl)
  refine⟨[some (.int (j:Int)),some (.lst (ws.map T.str)),some (.lst (mT 6 λi=>T.int (ys i)))],false,by simp![],?_,λ_=>?_,_,rfl⟩
  .unfold Nx
   simp![a2,n0,s0,Ce]
  .unfold PK
   simp![AU,aj]
 obtain⟨ns',hns⟩:∃ns,((List.range ws.length).filter λ(j:Nat)=>((ys 2).fdiv (3+(j:Int))).fmod 2 == 1).map (λj=>ws.getD j "")=ns:=⟨_,rfl⟩
 have sub:ns'.Sublist ws:=by
  rw[<- hns]
  conv=>rhs;rw[<- zes ws]
  exact List.Sublist.map _ List.filter_sublist
 have en:((List.range ws.length).filter λ(j:Nat)=>((ys 2).fdiv (3+(j:Int))).fmod 2 == 1).map (λj=>T.str (ws.getD j ""))=ns'.map T.str:=by rw[<- hns,yaq];rfl
 rw[en]at lc;have wl1:ws.length<=100000:=by omega
 have nl':ns'.length<=3:=yah sub.length_le wl;have sg:=hg.sh;have hin:∀r∈rs,r.1∈rn:=λr hr=>by rw[<- er];exact yao.mpr ⟨r,hr,rfl⟩
 have D:DrOk ws rn ⟨b.1,e.1,g,ns',z⟩:=⟨hin b hb,hin e he,hg,yah gl (by decide),λx hx=>sub.subset hx,wd.sublist sub,yah nl' (by decide),sz⟩
 have sb:=(hr b hb).1.sh;have se:=(hr e he).1.sh
 have srs:An (rs.map Az)=true:=C4 λr hr'=>by
  have:=(hr r hr').1.sh
  simp![this]
 refine⟨_,D,some (.lst (mT 6 λi=>T.int (ys i))),some (.lst (ns'.map T.str)),some (.lst g),some (.str z),?_⟩
 rw[ybx];have ec:DO [.nd false .rl (ns.map T.int),.int 2]=some (.ok (.int c)):=ec;unfold Jb;refine sq (τ':=Bv ns nms u x3 (some (.lst (ws.map T.str))) x5 (some (.own (rs.map Az))) (some (.own (ds.map DB))) (some (.int (k:Int))) (some (.lst (mT 6 λi=>T.int (ys i)))) y10 y11 y12) (by unfold Bv BF;simp![s8,ec,ed,Eu,Et]) ?_
 refine sq (τ':=Bv ns nms u x3 (some (.lst (ws.map T.str))) x5 (some (.own (rs.map Az))) (some (.own (ds.map DB))) (some (.int (k:Int))) (some (.lst (mT 6 λi=>T.int (ys i)))) (some (.lst (ns'.map T.str))) y11 y12) (by simp![AU,A8,ya1,ybf,ok,er0,lc,wl1]) ?_
 refine sq (τ':=Bv ns nms u x3 (some (.lst (ws.map T.str))) x5 (some (.own (rs.map Az))) (some (.own (ds.map DB))) (some (.int (k:Int))) (some (.lst (mT 6 λi=>T.int (ys i)))) (some (.lst (ns'.map T.str))) (some (.lst g)) y12) (by simp![a3,eg,AU,A8,sg,AE _ sg]) ?_
 refine sq (τ':=Bv ns nms u x3 (some (.lst (ws.map T.str))) x5 (some (.own (rs.map Az))) (some (.own (ds.map DB))) (some (.int (k:Int))) (some (.lst (mT 6 λi=>T.int (ys i)))) (some (.lst (ns'.map T.str))) (some (.lst g)) (some (.str z))) (by simp![AU,A8,a4,ey,q1,q2,ez']) ?_
 simp![a0,a1,l0,eb',ee',AU,A8,sg,AE _ sg,srs,AE _ srs,sb,se,ya1,dl]
theorem cut12{nms:List Str}(nl:nms.length=12){a:Nat}(ha:a<=4):CY (nms.map T.str) (some 8) (some (8+(a:Int)))=((nms.drop 8).take a).map T.str:=by
 rw[Wd];unfold CY;have e1:HT.sIx nms.length 0 (some 8)=8:=by rw[nl];simp[HT.sIx]
 have e2:HT.sIx nms.length nms.length (some (8+(a:Int)))=8+a:=by rw[nl];simp[HT.sIx];omega
 rw[e1,e2,Nat.add_sub_cancel_left]
theorem zic(ns:List Int){nms:List Str}(nl:nms.length=12)(hn:∀x∈nms,GD x)(nd:nms.Nodup){u:Int}(hu:0<=u):∃M:Mc,McOk M/\L7 [BF ns,.lst (nms.map T.str),.int u]=some (.ok (EI M)):=by
 have ec:DO [.nd false .rl (ns.map T.int),.int 1]=some (.ok (.int (ns.getD (1:Int).toNat 0))):=Hg ns (k:=1) (by decide)
 have ec2:DO [.nd false .rl (ns.map T.int),.int 2]=some (.ok (.int (ns.getD (2:Int).toNat 0))):=Hg ns (k:=2) (by decide)
 generalize ns.getD (1:Int).toNat 0=c at *;generalize ns.getD (2:Int).toNat 0=c2 at *;obtain⟨a,ha⟩:=yc5 (yaj c (show(0:Int)<4 by decide))
 have a4:=yb5 c (show(0:Int)<4 by decide)
 rw[ha]at a4;obtain⟨b,hb⟩:=yc5 (yaj (c.fdiv 4) (show(0:Int)<4 by decide))
 have b4:=yb5 (c.fdiv 4) (show(0:Int)<4 by decide)
 rw[hb]at b4;obtain⟨p,hp⟩:=yc5 (yaj c2 (show(0:Int)<8 by decide))
 have p8:=yb5 c2 (show(0:Int)<8 by decide)
 rw[hp]at p8;have ew:=cut12 nl (a:=a) (by omega)
 obtain⟨ws,hws⟩:∃ws,(nms.drop 8).take a=ws:=⟨_,rfl⟩;rw[hws]at ew;have wsub:ws.Sublist nms:=by rw[<- hws];exact(ydf _ _).trans (List.drop_sublist _ _)
 have wl:ws.length<=3:=by rw[<- hws,ych];omega
 have hw:∀x∈ws,GD x:=λx hx=>hn x (wsub.subset hx)
 have wd:ws.Nodup:=nd.sublist wsub;have tw:By ws:=λy hy=>Gp (MO (hw y hy))
 obtain⟨xs,ex⟩:=Jt c (m:=4) (by decide)
 have ex:EY [.int c,.int 4]=some (.ok (.own (mT 4 λi=>.int (xs i)))):=ex
 obtain⟨rs,q1,q2,lc⟩:=zer tw hu xs (n:=1+b) (by omega) (nms:=nms) (by omega)
 have rl:rs.length=1+b:=by
  have:=congrArg List.length q1;rw[ya1,ych]at this
  omega
 obtain⟨rs',r1,r2,e6⟩:∃rs':List (Str×List T),rs'.map (·.1)=rs.map (·.1)/\(∀r∈rs',P7 ws r)/\(A2 (m2 (Bg λi j=>decide (j<i)) (m2 Ap (m2 B3 (AA 3) (mC (.int 16))) (mC (.int 8))) (mC (.int 0))) (HD 6 (mC (.int 0)) (BG (AB (AK (AK (AA 6) (mC (.int 0))) (mC (.int 0))) (AB (BN 1 [] (BI (AK (AK (AA 6) (mC (.int 0))) (mC (.int 1)))) (AF 0) Iu JH) AD)))) A4) (Bv ns nms u (some (.int c)) (some (.lst (ws.map T.str))) (some (.lst (mT 4 λi=>.int (xs i)))) (some (.own (rs.map Az))) none none none none none none)=some (.nx (Bv ns nms u (some (.int c)) (some (.lst (ws.map T.str))) (some (.lst (mT 4 λi=>.int (xs i)))) (some (.own (rs'.map Az))) none none none none none none)):=by
  have s16:BZ 16=true:=Bs (by decide) (by decide)
  by_cases hc:0<(c.fdiv 16).fmod 8
  .cases rs with
   |nil=>simp at rl;omega
   |cons r rest =>
    obtain⟨pr,ep⟩:=zmi (q2 r (ya5 ..)).1;have ix:Cu (rest.length+1) 0=some 0:=by unfold Cu;simp
    have sg:=(q2 r (ya5 ..)).1.sh
    have sr:An (rest.map Az)=true:=C4 λx hx=>by
     have:=(q2 x (ya8 _ hx)).1.sh
     simp![this]
    have gl:=(q2 r (ya5 ..)).2;have gl2:r.2.length<=100000:=by omega
    have JL:A6 (Az r::rest.map Az) 0=some (Az r):=CH (j:=0) rfl
    have gs:An (r.2.filter pr)=true:=by
     rw[EH,yau]at sg ⊢;exact λt ht=>sg t (yc7.mp ht).1
    have gl3:=List.length_filter_le pr r.2;refine⟨(r.1,r.2.filter pr)::rest,rfl,λx hx=>?_,?_⟩
    .rcases yae.mp hx with rfl|hx
     .exact⟨λt ht=>(q2 r (ya5 ..)).1 t (yc7.mp ht).1,by show(r.2.filter pr).length<=2;omega⟩
     .exact q2 x (ya8 _ hx)
    .unfold Bv
     simp![ye3 hc,s16,yal,JL,sr,AE _ sr,sg,AE _ sg,gl2,ep,gs,AE _ gs,ya1,yat,ix]
  .refine⟨rs,rfl,q2,?_⟩;unfold Bv
   simp![ydl hc,s16]
 have rl':rs'.length=1+b:=by
  have:=congrArg List.length r1;rw[ya1,ya1]at this
  omega
 rw[q1]at r1;have r0:rs'≠[]:=λz=>by rw[z,ybn]at rl';omega
 obtain⟨τ2,e2,ds,d1,d2,z7,z9,z10,z11,z12,rfl⟩:=FO (b:=AF 8) (body:=Jb) (ts:=mT p λi=>.int (i:Int)) (τ:=Bv ns nms u (some (.int c)) (some (.lst (ws.map T.str))) (some (.lst (mT 4 λi=>.int (xs i)))) (some (.own (rs'.map Az))) (some (.own [])) none none none none none)
  (λi τ=>∃ds:List Dr,(∀d∈ds,DrOk ws (nms.take (1+b)) d)/\ds.length=i/\∃z7 z9 z10 z11 z12,τ=Bv ns nms u (some (.int c)) (some (.lst (ws.map T.str))) (some (.lst (mT 4 λi=>.int (xs i)))) (some (.own (rs'.map Az))) (some (.own (ds.map DB))) z7 z9 z10 z11 z12) ⟨[],λ_ z=>(by cases z),rfl,none,none,none,none,none,rfl⟩ λi t τ h1 h2=>by
   obtain⟨hi,rfl⟩:=HR h1;obtain⟨ds,k1,k2,z7,z9,z10,z11,z12,rfl⟩:=h2;obtain⟨d,g1,w9,w10,w11,w12,ed⟩:=zdz (ns:=ns) (nms:=nms) hw wd wl r1 r0 (by omega) r2 nl hn hu (k:=i) (by omega) (ds:=ds) (by omega) (some (.int c)) (some (.lst (mT 4 λi=>.int (xs i)))) (y9:=z9) (y10:=z10) (y11:=z11) (y12:=z12)
   refine⟨Bv ns nms u (some (.int c)) (some (.lst (ws.map T.str))) (some (.lst (mT 4 λi=>.int (xs i)))) (some (.own (rs'.map Az))) (some (.own (ds.map DB))) (some (.int (i:Int))) z9 z10 z11 z12,by simp![],_,ed,ds++[d],λx hx=>?_,by rw[yaz,k2];rfl,some (.int (i:Int)),w9,w10,w11,w12,rfl⟩
   rcases ybb.mp hx with hx|hx
   .exact k1 x hx
   .rw[yab.mp hx];exact g1
 rw[Cs]at d2;have rsub:(nms.take (1+b)).Sublist nms:=ydf _ _;obtain⟨N,e1,e2',e3⟩:∃N:Mc,N.ws=ws/\N.rs=rs'/\N.ds=ds:=⟨⟨ws,rs',ds⟩,rfl,rfl,rfl⟩
 have M:McOk N:=by
  refine⟨by rw[e1];exact λx hx=>MO (hw x hx),by rw[e1];exact wd,by rw[e1];omega,?_,by rw[e1,e2',e3,r1];exact d1,by rw[e3];omega⟩
  rw[e1,e2'];refine⟨by omega,by omega,λr hr=>?_,by rw[r1];exact nd.sublist rsub,λr hr=>⟨(r2 r hr).1,yah (r2 r hr).2 (by decide)⟩⟩
  have:r.1∈nms.take (1+b):=by rw[<- r1];exact yao.mpr ⟨r,hr,rfl⟩
  obtain⟨k1,k2,k3⟩:=hn _ (rsub.subset this);exact⟨zgy k1,k2,yah k3 (by decide)⟩
 refine⟨N,M,?_⟩;have srs:=IM M.r;have sds:An (N.ds.map DB)=true:=O3 M;rw[e2']at srs;rw[e3]at sds;have s4:BZ 4=true:=Bs (by decide) (by decide)
 have ok1:Dl (1+(b:Int))=true:=Fj (n:=1+b) (by omega)
 have t1:(1+(b:Int)).toNat=1+b:=by omega
 have lb:1+b<=BO:=by unfold BO;omega
 have er1:DT 0 (1+b)=mT (1+b) λi=>.int (i:Int):=Ea
 have ok2:Dl (p:Int)=true:=Fj (by omega)
 have er2:DT 0 p=mT p λi=>.int (i:Int):=Ea
 have run:Kc (Bv ns nms u none none none none none none none none none none)=some (.rt (EI N)):=by
  unfold Kc;refine sq (τ':=Bv ns nms u (some (.int c)) none none none none none none none none none) (by unfold Bv BF;simp![ec,Eu,Et]) ?_
  refine sq (τ':=Bv ns nms u (some (.int c)) (some (.lst (ws.map T.str))) none none none none none none none none) (by simp![ha,AU,A8,ew]) ?_
  refine sq (τ':=Bv ns nms u (some (.int c)) (some (.lst (ws.map T.str))) (some (.lst (mT 4 λi=>.int (xs i)))) none none none none none none none) (by simp![ex]) ?_
  refine sq (τ':=Bv ns nms u (some (.int c)) (some (.lst (ws.map T.str))) (some (.lst (mT 4 λi=>.int (xs i)))) (some (.own (rs.map Az))) none none none none none none) (by simp![s4,hb,ok1,t1,er1,lc,AU,A8,lb]) ?_
  refine sq e6 ?_;refine sq (τ':=Bv ns nms u (some (.int c)) (some (.lst (ws.map T.str))) (some (.lst (mT 4 λi=>.int (xs i)))) (some (.own (rs'.map Az))) (some (.own [])) none none none none none) (by simp![]) ?_
  refine sq (by unfold Bv BF at *;simp![ec2,Eu,Et,hp,ok2,er2,e2];rfl) ?_
  simp![AU,A8,srs,AE _ srs,sds,AE _ sds,EI,Dh,e1,e2',e3]
 unfold L7;unfold Bv BF at run;unfold BF
 simp![AU,A8,Eu,Et,run]
abbrev RW:Stmt:=AQ 56
def Ja:AH :=
 (AG (AV (AK (AA 2) (G3 (AA 1) (AA 4))) (AF 7))
 (AG (AV (m2 B9 (AA 6) (AA 3)) (AF 8))
 (AG (AV (BA (Ba (m2 (Bg λi j=>decide (i<j)) (AA 7) (AA 8)) (m2 Bj (mC (.str "<")) (AA 5))) (BA (Ba (m2 (Bg λi j=>decide (j<i)) (AA 7) (AA 8)) (m2 Bj (mC (.str ">")) (AA 5))) (Ba (m2 BJ (AA 7) (AA 8)) (m2 Bj (mC (.str "=")) (AA 5))))) (AF 9))
 (A2 (Ai (AA 9)) (AN (mC (.bl false))) A4))))
def Kb:AH :=
 (AG (CA (BI (AA 0)) (BX 3 (Ac (AF 4) (Ac (AF 5) (Ac (AF 6) B7)))) Ja)
 (AN (mC (.bl true))))
def FT:List T->Option Ru:=Ae 4 10 Kb
abbrev OS:Fn:=⟨1,["_law_looks_here","_law_watches","_law_values","_law_parts"],FT⟩
abbrev ziw:Gm:=gA ["_law_looks_here","_law_watches","_law_values","_law_parts","_law_watch","_law_word","_law_number","_law_value","_law_far","_law_good"] RW 0 [] []
theorem zj8:Ck ziw OS RW Kb:={}
theorem P0{m m':AI}{τ:AM}{x y b:Bool}(h:m τ=some (.v (.bl x) b))(h':m' τ=some (.v (.bl y) false)):Ba m m' τ=some (.v (.bl (x && y)) false):=by
 unfold Ba DH;rw[h];cases x
 .rfl
 .exact h'
theorem HH{m m':AI}{τ:AM}{x y b:Bool}(h:m τ=some (.v (.bl x) b))(h':m' τ=some (.v (.bl y) false)):BA m m' τ=some (.v (.bl (x || y)) false):=by
 unfold BA DH;rw[h];cases x
 .exact h'
 .rfl
theorem OB{α:Type}{b:T->AM->Option AM}{body:AH}(f:α->T)(p:α->Bool)(t0:T)(I:AM->Prop):∀(L:List α) (τ:AM),I τ->(∀x∈L,∀τ,I τ->∃τ1,b (f x) τ=some τ1/\(p x=true->∃τ2,body τ1=some (.nx τ2)/\I τ2)/\(p x=false->body τ1=some (.rt t0)))->(L.all p=true->∃τ',CF b body (L.map f) τ=some (.nx τ')/\I τ')/\(L.all p=false->CF b body (L.map f) τ=some (.rt t0))
 |[],τ,h,_=>⟨λ_=>⟨τ,rfl,h⟩,λz=>by cases z⟩
 |x::L,τ,h,hs=>by
  obtain⟨τ1,e1,h1,h2⟩:=hs x (ya5 ..) τ h;rw[yal,List.all_cons];unfold CF;rw[e1];cases hp:p x with
  |false =>
   omega
  |true =>
   obtain⟨τ2,e2,i2⟩:=h1 hp;simp only[e2];exact OB f p t0 I L τ2 i2 λy hy=>hs y (ya8 _ hy)
abbrev Ag(s:Str×List Int):T:=.tup [.str s.1,.lst (s.2.map T.int)]
abbrev HJ:Option (Str×List Int)->T
 |none=>.non
 |some s=>Ag s
theorem Cv(vs:List Int):An (vs.map T.int)=true:=C4 λ_ _=>rfl
theorem ifn{m:AI}{τ:AM}{x b:Bool}{t:T}(h:m τ=some (.v (.bl b) x)):(b=true->A2 (Ai m) (AN (mC t)) A4 τ=some (.nx τ))/\(b=false->A2 (Ai m) (AN (mC t)) A4 τ=some (.rt t)):=by
 cases b
 .exact⟨λz=>(by cases z),λ_=>by simp![h]⟩
 .exact⟨λ_=>(by simp![h]),λz=>by cases z⟩
theorem zgx{y:Str}(hy:y∈Cj)(n v P:Int):∃a b c:Bool,Bj (.str "<") (.str y)=some (.bl a)/\Bj (.str ">") (.str y)=some (.bl b)/\Bj (.str "=") (.str y)=some (.bl c)/\((decide (v<n * P) && a) || ((decide (n * P<v) && b) || ((v == n * P) && c)))=DC y n v P:=by
 have eb:(v == n * P)=(!decide (v<n * P) && !decide (n * P<v)):=by
  omega
 have no:decide (v<n * P)=true->decide (n * P<v)=false:=λh=>ydl (by have:=yei h;omega)
 have c5 :=by
  simpa[Cj] using hy
 rw[eb]
 rcases c5 with rfl|rfl|rfl|rfl|rfl
 .refine⟨true,false,false,by ext,by ext,by ext,?_⟩
  rw[show DC (Str.ofString "<") n v P=decide (v<n * P) from rfl];cases decide (v<n * P)<;>cases decide (n * P<v)<;>rfl
 .refine⟨true,false,true,by ext,by ext,by ext,?_⟩
  rw[show DC (Str.ofString "<=") n v P=!decide (n * P<v) from rfl]
  omega
 .refine⟨false,true,false,by ext,by ext,by ext,?_⟩
  rw[show DC (Str.ofString ">") n v P=decide (n * P<v) from rfl];cases decide (v<n * P)<;>cases decide (n * P<v)<;>rfl
 .refine⟨false,true,true,by ext,by ext,by ext,?_⟩
  rw[show DC (Str.ofString ">=") n v P=!decide (v<n * P) from rfl];cases h:decide (v<n * P)<;>cases h2:decide (n * P<v)<;>first|rfl|(have:=no h;rw[h2]at this;cases this)
 .refine⟨false,false,true,by ext,by ext,by ext,?_⟩
  rw[show DC (Str.ofString "=") n v P=(!decide (v<n * P) && !decide (n * P<v)) from rfl];cases decide (v<n * P)<;>cases decide (n * P<v)<;>rfl
abbrev sM(g:List T)(ws:List Str)(vs:List Int)(P:Int)(x4 x5 x6 x7 x8 x9:Option T):AM:=[some (AW g),some (AW (ws.map T.str)),some (.lst (vs.map T.int)),some (.int P),x4,x5,x6,x7,x8,x9]
theorem K1{P:Int}(p1:0<P)(p2:P<=100){ws:List Str}(wl:ws.length<=7){vs:List Int}(hv:vs.length=ws.length){g:List T}(hg:Bk ws Cj g):FT [AW g,AW (ws.map T.str),.lst (vs.map T.int),.int P]=some (.ok (.bl (g.all (CN P ws vs)))):=by
 have l1:ws.length<1000000:=by omega
 have si:=Cv vs;have sg:=hg.sh
 obtain⟨fa,fb⟩:=OB (b:=BX 3 (Ac (AF 4) (Ac (AF 5) (Ac (AF 6) B7)))) (body:=Ja) (λt:T=>t) (CN P ws vs) (.bl false) (λτ=>∃y4 y5 y6 y7 y8 y9,τ=sM g ws vs P y4 y5 y6 y7 y8 y9) g (sM g ws vs P none none none none none none) ⟨_,_,_,_,_,_,rfl⟩ λt ht τ hI=>by
  obtain⟨y4,y5,y6,y7,y8,y9,rfl⟩:=hI;obtain⟨x,y,n,rfl,hx,hy,hn⟩:=hg t ht;obtain⟨j,ej,hj,_⟩:=Ir hx;have hv':j<vs.length:=by omega
  have av:A6 (vs.map T.int) (j:Int)=some (.int vs[j]):=CH (by rw[ya3,ya0 hv'];rfl)
  have ev:CN P ws vs (.tup [.str x,.str y,.int n])=DC y n vs[j] P:=by
   unfold CN Gr;show DC y n (vs.getD ((CP ws x).getD 0) 0) P=_;rw[ej,ybs,ya6,ya0 hv']
   rfl
  have m1:Bw n P=true:=FE (C6 (by omega) (by omega))
  rw[ev];generalize vs[j]=v at *;obtain⟨a,b,c,i1,i2,i3,es⟩:=zgx hy n v P;rw[<- es];have val:=HH (τ:=sM g ws vs P (some (.str x)) (some (.str y)) (some (.int n)) (some (.int v)) (some (.int (n * P))) y9) (b:=false) (P0 (m:=m2 (Bg λi j=>decide (i<j)) (AA 7) (AA 8)) (m':=m2 Bj (mC (.str "<")) (AA 5)) (b:=false) (x:=decide (v<n * P)) (y:=a) (by simp![]) (by simp![i1])) (HH (P0 (m:=m2 (Bg λi j=>decide (j<i)) (AA 7) (AA 8)) (m':=m2 Bj (mC (.str ">")) (AA 5)) (b:=false) (x:=decide (n * P<v)) (y:=b) (by simp![]) (by simp![i2])) (P0 (m:=m2 BJ (AA 7) (AA 8)) (m':=m2 Bj (mC (.str "=")) (AA 5)) (b:=false) (x:=v == n * P) (y:=c) (by simp![Ce]) (by simp![i3])))
  generalize ((decide (v<n * P) && a) || ((decide (n * P<v) && b) || ((v == n * P) && c)))=V at *
  have r1:∀r,A2 (Ai (AA 9)) (AN (mC (.bl false))) A4 (sM g ws vs P (some (.str x)) (some (.str y)) (some (.int n)) (some (.int v)) (some (.int (n * P))) (some (.bl V)))=r->Ja (sM g ws vs P (some (.str x)) (some (.str y)) (some (.int n)) y7 y8 y9)=r:=λr hr=>by
   unfold Ja;refine sq (τ':=sM g ws vs P (some (.str x)) (some (.str y)) (some (.int n)) (some (.int v)) y8 y9) (by simp![G3,Js,AU,ej,l1,av,si]) ?_
   refine sq (τ':=sM g ws vs P (some (.str x)) (some (.str y)) (some (.int n)) (some (.int v)) (some (.int (n * P))) y9) (by simp![m1]) ?_
   refine sq (τ':=sM g ws vs P (some (.str x)) (some (.str y)) (some (.int n)) (some (.int v)) (some (.int (n * P))) (some (.bl V))) ?_ hr;unfold AV;rw[val]
   rfl
  have q:=ifn (m:=AA 9) (t:=.bl false) (τ:=sM g ws vs P (some (.str x)) (some (.str y)) (some (.int n)) (some (.int v)) (some (.int (n * P))) (some (.bl V))) (b:=V) (x:=false) (by simp![])
  refine⟨sM g ws vs P (some (.str x)) (some (.str y)) (some (.int n)) y7 y8 y9,by simp![],λhp=>⟨_,r1 _ (q.1 hp),_,_,_,_,_,_,rfl⟩,λhp=>r1 _ (q.2 hp)⟩
 rw[yd5]at fa fb
 suffices key:Kb (sM g ws vs P none none none none none none)=some (.rt (.bl (g.all (CN P ws vs)))) by
  unfold FT;unfold sM at key
  simp![sg,AE _ sg,AU,A8,si,AE _ si,key]
 unfold Kb;cases c2:g.all (CN P ws vs) with
 |false =>
  have fb:=fb c2;exact sr (by simp![sg,AE _ sg,fb])
 |true =>
  obtain⟨τ',ef,y4,y5,y6,y7,y8,y9,rfl⟩:=fa c2;refine sq (by rw[<- ef];simp![sg,AE _ sg]) ?_
  simp![]
abbrev RS:Stmt:=AQ 57
def Nw:AI :=
 (m2 BJ (AA 0) (AA 2))
def PD:AI :=
 (AA 1)
def NY:AH :=
 (AN (AK (BN 2 [1] (BI (AK (AA 0) (mC (.int 1)))) (BX 2 (Ac (AF 0) (Ac (AF 1) B7))) Nw PD) (mC (.int 0))))
def JV:List T->Option Ru:=Ae 2 2 NY
abbrev Vz:Fn:=⟨1,["_law_machine_here","_law_room"],JV⟩
abbrev zfz:Gm:=gA ["_law_machine_here","_law_room"] RS 0 [] [] [] ["_law_room"]
theorem zge:Ck zfz Vz RS NY:={}
abbrev DS(r:Str×List T):T:=.tup [.str r.1,AW r.2]
abbrev Dy(d:Dr):T:=.tup [.str d.s,.str d.e,AW d.g,AW (d.n.map T.str),.str d.z]
abbrev CU(M:Mc):T:=.tup [AW (M.ws.map T.str),AW (M.rs.map DS),AW (M.ds.map Dy)]
theorem HF{M:Mc}(h:McOk M):An (M.rs.map DS)=true:=C4 λr hr=>by
 have:=(h.r.lk r hr).1.sh
 simp![this]
theorem Hf{M:Mc}(h:McOk M):An (M.ds.map Dy)=true:=C4 λd hd=>by
 have:=(h.d d hd).g.sh
 simp![this,AU]
theorem IS{M:Mc}(h:McOk M):(CU M).sh=true:=by
 have a:=HF h;have b:=Hf h
 simp![a,b,AU]
theorem Q9{M:Mc}(h:McOk M){r:Str}(hr:r∈M.nm):JV [CU M,.str r]=some (.ok (AW (Cn M r))):=by
 have sd:=Hf h;have sr:=HF h;have rl:=h.r.l64;have l2:M.rs.length<=100000:=by omega
 obtain⟨_,g2,g3,g4⟩:=Jq h hr
 have lc:Bd (BX 2 (Ac (AF 0) (Ac (AF 1) B7))) Nw PD (M.rs.map DS) [none,none,some (.str r)]=some ((M.rs.filter λx=>decide (x.1=r)).map λx=>AW x.2):=Ki DS (λx=>AW x.2) (λx=>decide (x.1=r)) (λτ=>∃a b,τ=[a,b,some (.str r)]) _ _ ⟨none,none,rfl⟩ λx hx τ hI=>by
  obtain⟨a,b,rfl⟩:=hI;have sg:=(h.r.lk x hx).1.sh;have q:=Fy (h.tn _ (yao.mpr ⟨x,hx,rfl⟩)) (h.tn r hr);exact⟨[some (.str x.1),some (AW x.2),some (.str r)],false,by simp![],by unfold Nw;simp![q],λ_=>(by unfold PD;simp![sg,AE _ sg]),_,_,rfl⟩
 have JL:A6 ((M.rs.filter λx=>decide (x.1=r)).map λx=>AW x.2) (0:Int)=some (AW (Cn M r)):=by
  refine CH (j:=0) ?_;obtain⟨x,hx,e⟩:=yao.mp (show r∈M.rs.map (·.1) from hr);rw[ya3,<- List.head?_eq_getElem?,List.head?_filter];unfold Cn;cases hf:M.rs.find? (λz=>decide (z.1=r)) with
  |some y=>rfl
  |none=>exact absurd (List.find?_eq_none.mp hf x hx) (by simp[e])
 have sf:An ((M.rs.filter λx=>decide (x.1=r)).map λx=>AW x.2)=true:=C4 λx hx=>by
  have:=(h.r.lk x (yc7.mp hx).1).1.sh
  simp![this]
 unfold JV NY
 simp![sd,AE _ sd,sr,AE _ sr,AU,A8,ya1,l2,lc,JL,sf,AE _ sf,g2,AE _ g2]
abbrev RR:Stmt:=AQ 58
def PB:AI :=
 (m2 BK (AA 0) (AA 1))
def PC:AI :=
 (DH (m2 Bj (AK (AA 3) (AA 0)) (AA 1)) (mC (.int 0)) (AK (AA 2) (AA 0)))
def K9:AH :=
 (AG (AV (AA 0) (BX 3 (Ac (AF 6) (Ac (AF 7) (Ac (AF 8) B7)))))
 (AG (AV (AA 1) (BX 2 (Ac (AF 9) (Ac (AF 5) B7))))
 (AG (AV (AA 2) (BX 2 (Ac (AF 10) (Ac (AF 11) B7))))
 (AG (AV (BN 1 [10] (BI (AA 5)) (AF 0) (mC (.bl true)) PB) (AF 5))
 (AG (A2 (BA (m2 (Bg λi j=>decide (i<j)) (AA 10) (mC (.int 0))) (Ai (AO FT (AB (AO JV (AB (AA 0) (AB (AA 9) AD))) (AB (AA 6) (AB (AA 5) (AB (AA 3) AD))))))) (AN (mC .non)) A4)
 (AG (A2 (m2 (Bx false) (AA 11) (mC .non)) (AN (BG (AB (AA 9) (AB (AA 5) AD)))) A4)
 (AG (A2 (BA (m2 (Bg λi j=>decide (i<j)) (AA 11) (mC (.int 0))) (m2 (Bg λi j=>decide (j<=i)) (AA 11) (m1 BW (AA 8)))) (AN (mC .non)) A4)
 (AG (AV (AK (AA 8) (AA 11)) (BX 5 (Ac (AF 12) (Ac (AF 13) (Ac (AF 14) (Ac (AF 15) (Ac (AF 16) B7)))))))
 (AG (A2 (BA (m2 BL (AA 12) (AA 9)) (BA (Ba (m2 BL (AA 16) (mC (.str ""))) (AA 4)) (Ai (AO FT (AB (AA 14) (AB (AA 6) (AB (AA 5) (AB (AA 3) AD)))))))) (AN (mC .non)) A4)
 (AG (AV (BN 1 [15,5,6] (Cy (AB (m1 BW (AA 6)) AD)) (AF 0) (mC (.bl true)) PC) (AF 5))
 (AG (A2 (Ai (AO FT (AB (AO JV (AB (AA 0) (AB (AA 13) AD))) (AB (AA 6) (AB (AA 5) (AB (AA 3) AD)))))) (AN (mC .non)) A4)
 (AN (BG (AB (AA 13) (AB (AA 5) AD)))))))))))))))
def EC:List T->Option Ru:=Ae 5 17 K9
abbrev OO:Fn:=⟨2,["_law_machine_here","_law_stand","_law_step_here","_law_parts","_law_alone"],EC⟩
abbrev zfy:Gm:=gA ["_law_machine_here","_law_stand","_law_step_here","_law_parts","_law_alone","_law_values","_law_watches","_law_rooms","_law_doors","_law_room","_law_wait","_law_number","_law_begin","_law_end","_law_guard","_law_noughts","_law_sign"] RR 1 [("_law_met",OS),("_law_stay",Vz)] ["len","range"] [] ["_law_values","_law_watches","_law_wait","_law_noughts"]
theorem zgd:Ck zfy OO RR K9:={}
theorem zgm{M:Mc}{d:Dr}{vs:List Int}(hv1:vs.length=M.ws.length):(CT M d vs).map T.int=(List.range M.ws.length).map λi=>T.int (if M.ws.getD i ""∈d.n then 0 else vs.getD i 0):=by
 unfold CT;refine ybo λi=>?_
 rw[ya3,ya3,ya3,List.zip,ycz]
 by_cases hi:i<M.ws.length
 .have hw:i<vs.length:=by omega
  have e:vs.getD i 0=vs[i]:=by rw[ya6,ya0 hw];rfl
  have q:M.ws.getD i ""=M.ws[i]:=by rw[ya6,ya0 hi];rfl
  rw[ybp hi,ya0 hi,ya0 hw,yax,yax,yax,e,q]
 .rw[yan (l:=vs) (by omega),yan (l:=M.ws) (by omega),yan (by rw[ybf];omega)]
  rfl
abbrev E5(w:Int×Option Int):T:=.tup [.int w.1,Co w.2]
abbrev sQ(P:Int)(M:Mc)(s:Str×List Int)(w:Int×Option Int)(al:Bool)(x5 x6 x7 x8 x9 x10 x11 x12 x13 x14 x15 x16:Option T):AM:=[some (CU M),some (Ag s),some (E5 w),some (.int P),some (.bl al),x5,x6,x7,x8,x9,x10,x11,x12,x13,x14,x15,x16]
theorem MI{P:Int}(p1:0<P)(p2:P<=100){M:Mc}(h:McOk M){s:Str×List Int}(hr:s.1∈M.nm)(hv:s.2.length=M.ws.length)(w:Int×Option Int)(al:Bool):EC [CU M,Ag s,E5 w,.int P,.bl al]=some (.ok (HJ (Bo P M s w al))):=by
 obtain⟨r,vs⟩:=s;obtain⟨a,k⟩:=w;have hv:vs.length=M.ws.length:=hv;have hr:r∈M.nm:=hr;have sp:=IS h;have sd:=Hf h;have sr':=HF h;have vi:=Cv vs;have wl:=h.wl;have nk:=HM k;have nk2:=Ms k;have v1:=Cv (vs.map (·+a));have hv1:(vs.map (·+a)).length=M.ws.length:=by rw[ya1];exact hv
 have vl:vs.length<=100000:=by omega
 have lc:=DI (b:=AF 0) (me:=PB) T.int (λv=>T.int (v+a)) (λτ=>∃x,τ=[x,some (.int a)]) vs [none,some (.int a)] ⟨none,rfl⟩ λv _ τ hI=>by
  obtain⟨y,rfl⟩:=hI;exact⟨[some (.int v),some (.int a)],by simp![],by unfold PB;simp![],_,rfl⟩
 have e1:(vs.map λv=>T.int (v+a))=(vs.map (·+a)).map T.int:=by rw[yaq];rfl
 rw[e1]at lc;obtain⟨_,g2,_,g4⟩:=Jq h hr;have st:=Q9 h hr;have me:=K1 p1 p2 wl hv1 (g4.wide II)
 suffices key:K9 (sQ P M (r,vs) (a,k) al none none none none none none none none none none none none)=some (.rt (HJ (Bo P M (r,vs) (a,k) al))) by
  unfold EC;unfold sQ at key
  simp![sp,AX _ sp,vi,AE _ vi,sd,AE _ sd,sr',AE _ sr',AU,A8,nk,nk2,key]
 unfold K9;refine sq (τ':=sQ P M (r,vs) (a,k) al none (some (AW (M.ws.map T.str))) (some (AW (M.rs.map DS))) (some (AW (M.ds.map Dy))) none none none none none none none none) (by simp![sd,AE _ sd,sr',AE _ sr',AU,A8]) ?_
 refine sq (τ':=sQ P M (r,vs) (a,k) al (some (.lst (vs.map T.int))) (some (AW (M.ws.map T.str))) (some (AW (M.rs.map DS))) (some (AW (M.ds.map Dy))) (some (.str r)) none none none none none none none) (by simp![vi,AE _ vi]) ?_
 refine sq (τ':=sQ P M (r,vs) (a,k) al (some (.lst (vs.map T.int))) (some (AW (M.ws.map T.str))) (some (AW (M.rs.map DS))) (some (AW (M.ds.map Dy))) (some (.str r)) (some (.int a)) (some (Co k)) none none none none none) (by simp![nk,nk2]) ?_
 refine sq (τ':=sQ P M (r,vs) (a,k) al (some (.lst ((vs.map (·+a)).map T.int))) (some (AW (M.ws.map T.str))) (some (AW (M.rs.map DS))) (some (AW (M.ds.map Dy))) (some (.str r)) (some (.int a)) (some (Co k)) none none none none none) (by simp![vi,AE _ vi,ya1,vl,lc,v1,AE _ v1]) ?_
 by_cases c1:0<=a/\Bu P M r (vs.map (·+a))=true
 rotate_left
 .have hb:Bo P M (r,vs) (a,k) al=none:=if_neg c1;rw[hb]
  by_cases c0:0<=a
  .have da:decide (a<0)=false:=ydl (by omega)
   have c2:Bu P M r (vs.map (·+a))=false:=by
    cases q:Bu P M r (vs.map (·+a)) with
    |false=>rfl
    |true=>exact absurd ⟨c0,q⟩ c1
   rw[show(Cn M r).all (CN P M.ws (vs.map (·+a)))=false from c2]at me;exact sr (by simp![da,sp,AX _ sp,sd,AE _ sd,sr',AE _ sr',AU,A8,v1,AE _ v1,st,g2,AE _ g2,me])
  .have da:decide (a<0)=true:=ye3 (by omega)
   exact sr (by simp![da])
 .have da:decide (a<0)=false:=ydl (by omega)
  rw[show(Cn M r).all (CN P M.ws (vs.map (·+a)))=true from c1.2]at me;refine Br (by simp![da,sp,AX _ sp,sd,AE _ sd,sr',AE _ sr',AU,A8,v1,AE _ v1,st,g2,AE _ g2,me]) ?_
  cases k with
  |none =>
   rw[show Bo P M (r,vs) (a,none) al=some (r,vs.map (·+a)) from if_pos c1];exact sr (by simp![Co,v1,AE _ v1])
  |some k =>
   rw[show Bo P M (r,vs) (a,some k) al=FP P M r (vs.map (·+a)) k al from if_pos c1];generalize vs.map (·+a)=us at *;refine Br (by simp![Co]) ?_
   unfold FP
   by_cases hk:0<=k/\k<(M.ds.length:Int)
   rotate_left
   .rw[if_neg hk]
    have hk':decide (k<0)=true\/decide (k<0)=false/\decide ((M.ds.length:Int)<=k)=true:=by
     by_cases q:k<0
     .exact .inl (ye3 q)
     .exact .inr ⟨ydl q,ye3 (by omega)⟩
    rcases hk' with q|⟨q,q2⟩
    .exact sr (by simp![Co,q])
    .exact sr (by simp![Co,q,q2,sd,AE _ sd,ya1])
   .rw[if_pos hk];have q1:decide (k<0)=false:=ydl (by omega)
    have q2:decide ((M.ds.length:Int)<=k)=false:=ydl (by omega)
    refine Br (by simp![Co,q1,q2,sd,AE _ sd,ya1]) ?_
    have hi:k.toNat<M.ds.length:=by omega
    have ek:M.ds.getD k.toNat d0=M.ds[k.toNat]:=by rw[ya6,ya0 hi];rfl
    have hd:M.ds[k.toNat]∈M.ds:=yb7 hi;have ad:A6 (M.ds.map Dy) k=some (Dy M.ds[k.toNat]):=JK hk.1 (by rw[ya3,ya0 hi];rfl)
    rw[ek];generalize M.ds[k.toNat]=d at *;have D:=h.d d hd;have sg:=D.g.sh;refine sq (τ':=sQ P M (r,vs) (a,some k) al (some (.lst (us.map T.int))) (some (AW (M.ws.map T.str))) (some (AW (M.rs.map DS))) (some (AW (M.ds.map Dy))) (some (.str r)) (some (.int a)) (some (.int k)) (some (.str d.s)) (some (.str d.e)) (some (AW d.g)) (some (AW (d.n.map T.str))) (some (.str d.z))) (by simp![Co,sd,AE _ sd,ad,sg,AE _ sg,AU,A8]) ?_
    have er:=IZ (h.tn _ D.s) (h.tn r hr);have ez:=IZ (MP D.z) WW;have me2:=K1 p1 p2 wl hv1 D.g
    by_cases c2:d.s=r
    rotate_left
    .rw[if_neg (λz=>c2 z.1)]
     rw[ydl c2]at er;exact sr (by simp![er])
    .rw[ye3 c2]at er
     by_cases c3:al=true->d.z=""
     rotate_left
     .rw[if_neg (λz=>c3 z.2.1)]
      have a1:al=true:=by
       cases al with
       |true=>rfl
       |false=>exact absurd (λz=>by cases z) c3
      have z1:¬ d.z="":=λz=>c3 λ_=>z
      rw[ydl (show ¬ d.z=Str.ofString "" from z1)]at ez;subst a1;exact sr (by simp![er,ez])
     .have az:Ba (m2 BL (AA 16) (mC (.str ""))) (AA 4) (sQ P M (r,vs) (a,some k) al (some (.lst (us.map T.int))) (some (AW (M.ws.map T.str))) (some (AW (M.rs.map DS))) (some (AW (M.ds.map Dy))) (some (.str r)) (some (.int a)) (some (.int k)) (some (.str d.s)) (some (.str d.e)) (some (AW d.g)) (some (AW (d.n.map T.str))) (some (.str d.z)))=some (.v (.bl false) false):=by
       by_cases z1:d.z=""
       .rw[ye3 (show d.z=Str.ofString "" from z1)]at ez
        simp![ez]
       .rw[ydl (show ¬ d.z=Str.ofString "" from z1)]at ez
        have a1:al=false:=by
         cases al with
         |false=>rfl
         |true=>exact absurd (c3 rfl) z1
        subst a1
        simp![ez]
      cases c4:d.g.all (CN P M.ws us) with
      |false =>
       rw[c4]at me2;rw[if_neg (λz=>by cases z.2.2.1)]
       refine sr ?_;unfold A2;rw[show BA (m2 BL (AA 12) (AA 9)) (BA (Ba (m2 BL (AA 16) (mC (.str ""))) (AA 4)) (Ai (AO FT (AB (AA 14) (AB (AA 6) (AB (AA 5) (AB (AA 3) AD))))))) _=some (.v (.bl true) false) from HH (x:=false) (y:=true) (b:=false) (by simp![er]) (HH (x:=false) (y:=true) (b:=false) az (by simp![sg,AE _ sg,AU,A8,v1,AE _ v1,me2]))]
       rfl
      |true =>
       rw[c4]at me2;refine Br ?_ ?_
       .unfold A2;rw[show BA (m2 BL (AA 12) (AA 9)) (BA (Ba (m2 BL (AA 16) (mC (.str ""))) (AA 4)) (Ai (AO FT (AB (AA 14) (AB (AA 6) (AB (AA 5) (AB (AA 3) AD))))))) _=some (.v (.bl false) false) from HH (x:=false) (y:=false) (b:=false) (by simp![er]) (HH (x:=false) (y:=false) (b:=false) az (by simp![sg,AE _ sg,AU,A8,v1,AE _ v1,me2]))]
        rfl
       have zl:=Lh (d:=d) hv1;have zi:=Cv (CT M d us)
       have lc2:Bd (AF 0) (mC (.bl true)) PC ((List.range M.ws.length).map λ(k:Nat)=>T.int (k:Int)) [none,some (AW (d.n.map T.str)),some (.lst (us.map T.int)),some (AW (M.ws.map T.str))]=some ((CT M d us).map T.int):=by
        rw[zgm hv1];refine DI _ _ (λτ=>∃x,τ=[x,some (AW (d.n.map T.str)),some (.lst (us.map T.int)),some (AW (M.ws.map T.str))]) _ _ ⟨none,rfl⟩ λi hi τ hI=>?_
        obtain⟨y,rfl⟩:=hI;have hi:=ybq.mp hi;have hw:i<us.length:=by omega
        have ai:A6 (M.ws.map T.str) (i:Int)=some (.str (M.ws.getD i "")):=CH (by rw[ya3,ya0 hi,ya6,ya0 hi];rfl)
        have bi:A6 (us.map T.int) (i:Int)=some (.int (us.getD i 0)):=CH (by rw[ya3,ya0 hw,ya6,ya0 hw];rfl)
        have wm:M.ws.getD i ""∈M.ws:=by rw[ya6,ya0 hi];exact yb7 hi
        have q:=Iq (o:=false) (k:=.rl) (ys:=d.n) (λx hx=>h.tw x (D.n x hx)) (h.tw _ wm)
        refine⟨[some (.int (i:Int)),some (AW (d.n.map T.str)),some (.lst (us.map T.int)),some (AW (M.ws.map T.str))],by simp![],?_,_,rfl⟩
        unfold PC
        by_cases hm:M.ws.getD i ""∈d.n
        .rw[if_pos hm];rw[ye3 hm]at q
         simp![AU,A8,ai,q]
        .rw[if_neg hm];rw[ydl hm]at q
         simp![AU,A8,ai,q,v1,bi]
       have ok:Dl (M.ws.length:Int)=true:=Fj (by omega)
       have er0:DT 0 M.ws.length=(List.range M.ws.length).map λ(k:Nat)=>T.int (k:Int):=Ea
       have wl1:M.ws.length<=100000:=by omega
       refine sq (τ':=sQ P M (r,vs) (a,some k) al (some (.lst ((CT M d us).map T.int))) (some (AW (M.ws.map T.str))) (some (AW (M.rs.map DS))) (some (AW (M.ds.map Dy))) (some (.str r)) (some (.int a)) (some (.int k)) (some (.str d.s)) (some (.str d.e)) (some (AW d.g)) (some (AW (d.n.map T.str))) (some (.str d.z))) (by simp![v1,AE _ v1,AU,A8,ya1,ybf,ok,er0,wl1,lc2,zi,AE _ zi]) ?_
       obtain⟨_,k2,_,k4⟩:=Jq h D.e;have st2:=Q9 h D.e;have me3:=K1 p1 p2 wl zl (k4.wide II);cases c5:Bu P M d.e (CT M d us) with
       |false =>
        rw[show(Cn M d.e).all (CN P M.ws (CT M d us))=false from c5]at me3;rw[if_neg (λz=>by cases z.2.2.2)]
        exact sr (by simp![sp,AX _ sp,sd,AE _ sd,sr',AE _ sr',AU,A8,zi,AE _ zi,st2,k2,AE _ k2,me3])
       |true =>
        rw[show(Cn M d.e).all (CN P M.ws (CT M d us))=true from c5]at me3;rw[if_pos ⟨c2,c3,rfl,rfl⟩];refine Br (by simp![sp,AX _ sp,sd,AE _ sd,sr',AE _ sr',AU,A8,zi,AE _ zi,st2,k2,AE _ k2,me3]) ?_
        simp![zi,AE _ zi]
abbrev R6:Stmt:=AQ 59
def Jd:AH :=
 (AG (AV (m2 Ap (m2 BK (AK (AA 6) (mC (.int 3))) (AA 9)) (m1 BW (AK (AA 0) (mC (.int 2))))) (AF 10))
 (A2 (m2 (Bx true) (AO EC (AB (AA 0) (AB (AA 1) (AB (BG (AB (AA 8) (AB (AA 10) AD))) (AB (AA 4) (AB (AA 5) AD)))))) (mC .non)) (AN (BG (AB (AA 8) (AB (AA 10) AD)))) A4))
def FX:AH :=
 (CA (Cy (AB (m1 BW (AK (AA 0) (mC (.int 2)))) AD)) (AF 9) Jd)
def Ib:AH :=
 (AG (AV (AO EY (AB (AA 2) (AB (mC (.int 4)) AD))) (AF 6))
 (AG (AV (AK (Bm (As (mC (.int 0)) (As (m2 Ap (AK (AA 6) (mC (.int 0))) (m2 BK (m2 B9 (AA 3) (AA 4)) (mC (.int 1)))) (As (m2 B9 (AA 3) (AA 4)) (As (m2 BK (m2 B9 (m2 B9 (m2 Ap (AK (AA 6) (mC (.int 0))) (mC (.int 2))) (AA 3)) (AA 4)) (m2 Ap (AK (AA 6) (mC (.int 1))) (mC (.int 5)))) AD))))) (m2 Ap (AK (AA 6) (mC (.int 2))) (mC (.int 4)))) (AF 7))
 (AG (A2 (m2 BJ (m2 Ap (m2 B3 (AK (AA 6) (mC (.int 2))) (mC (.int 4))) (mC (.int 16))) (mC (.int 5))) (AN (BG (AB (m2 Dv (m2 Dv (mC (.int 0)) (mC (.int 1))) (AA 7)) (AB (mC .non) AD)))) A4)
 (AG (A2 (m2 BJ (m2 Ap (m2 B3 (AK (AA 6) (mC (.int 2))) (mC (.int 64))) (mC (.int 16))) (mC (.int 5))) (AN (BG (AB (AA 7) (AB (AK (Bm (As (m2 Dv (mC (.int 0)) (mC (.int 1))) (As (m1 BW (AK (AA 0) (mC (.int 2)))) (As (m2 Ap (AK (AA 6) (mC (.int 3))) (m2 BK (m1 BW (AK (AA 0) (mC (.int 2)))) (mC (.int 1)))) (As (mC .non) AD))))) (m2 Ap (m2 B3 (AK (AA 6) (mC (.int 3))) (mC (.int 8))) (mC (.int 4)))) AD)))) A4)
 (AG (CA (BI (Bm (As (AA 7) (As (m2 B9 (m2 B9 (m2 Ap (AK (AA 6) (mC (.int 1))) (mC (.int 4))) (AA 3)) (AA 4)) (As (mC (.int 0)) AD))))) (AF 8) FX)
 (AG (A2 (m2 (Bx true) (AO EC (AB (AA 0) (AB (AA 1) (AB (BG (AB (AA 7) (AB (mC .non) AD))) (AB (AA 4) (AB (AA 5) AD)))))) (mC .non)) (AN (BG (AB (AA 7) (AB (mC .non) AD)))) A4)
 (AN (BG (AB (mC (.int 0)) (AB (mC .non) AD))))))))))
def JY:List T->Option Ru:=Ae 6 11 Ib
abbrev WE:Fn:=⟨3,["_law_machine_here","_law_stand","_law_cell","_law_unit","_law_parts","_law_alone"],JY⟩
abbrev zdx:Gm:=gA ["_law_machine_here","_law_stand","_law_cell","_law_unit","_law_parts","_law_alone","_law_xs","_law_wait","_law_far","_law_k","_law_number"] R6 2 [("_law_stream",Kv),("_law_step",OO)] ["len","range"]
theorem ze7:Ck zdx WE R6 Ib:={}
theorem OA{α:Type}{b:T->AM->Option AM}{body:AH}(f:α->T)(Q:T->Prop)(I:AM->Prop):∀(L:List α) (τ:AM),I τ->(∀x∈L,∀τ,I τ->∃τ1,b (f x) τ=some τ1/\((∃τ2,body τ1=some (.nx τ2)/\I τ2)\/∃t,body τ1=some (.rt t)/\Q t))->(∃τ',CF b body (L.map f) τ=some (.nx τ')/\I τ')\/∃t,CF b body (L.map f) τ=some (.rt t)/\Q t
 |[],τ,h,_=>.inl ⟨τ,rfl,h⟩
 |x::L,τ,h,hs=>by
  obtain⟨τ1,e1,h1⟩:=hs x (ya5 ..) τ h;rw[yal];unfold CF;rw[e1]
  rcases h1 with ⟨τ2,e2,i2⟩|⟨t,e2,q⟩
  .simp only[e2];exact OA f Q I L τ2 i2 λy hy=>hs y (ya8 _ hy)
  .simp only[e2];exact .inr ⟨t,rfl,q⟩
theorem Hc{f g:AH}{τ τ':AM}{Q:T->Prop}(h:f τ=some (.nx τ'))(h2:∃t,g τ'=some (.rt t)/\Q t):∃t,AG f g τ=some (.rt t)/\Q t:=let ⟨t,e,q⟩:=h2;⟨t,sq h e,q⟩
theorem Kx{f g:AH}{τ:AM}{Q:T->Prop}{t:T}(h:f τ=some (.rt t))(q:Q t):∃t,AG f g τ=some (.rt t)/\Q t:=⟨t,sr h,q⟩
def J5(t:T):Prop:=∃w,t=E5 w
abbrev sD(P u c:Int)(M:Mc)(s:Str×List Int)(al:Bool)(x6 x7 x8 x9 x10:Option T):AM:=[some (CU M),some (Ag s),some (.int c),some (.int u),some (.int P),some (.bl al),x6,x7,x8,x9,x10]
theorem zj1{P u c:Int}(p1:0<P)(p2:P<=100){M:Mc}(h:McOk M){s:Str×List Int}(hr:s.1∈M.nm)(hv:s.2.length=M.ws.length){al:Bool}{xs:Nat->Int}(w:Int)(x7 y9 y10:Option T):(∃z9 z10,FX (sD P u c M s al (some (.lst (mT 4 λi=>.int (xs i)))) x7 (some (.int w)) y9 y10)=some (.nx (sD P u c M s al (some (.lst (mT 4 λi=>.int (xs i)))) x7 (some (.int w)) z9 z10)))\/∃t,FX (sD P u c M s al (some (.lst (mT 4 λi=>.int (xs i)))) x7 (some (.int w)) y9 y10)=some (.rt t)/\J5 t:=by
 have sp:=IS h;have sd:=Hf h;have sr':=HF h;have si:=Cv s.2;have dl:=h.dl
 have k:=OA (b:=AF 9) (body:=Jd) (λ(i:Nat)=>T.int (i:Int)) J5 (λτ=>∃z9 z10,τ=sD P u c M s al (some (.lst (mT 4 λi=>.int (xs i)))) x7 (some (.int w)) z9 z10) (List.range M.ds.length) (sD P u c M s al (some (.lst (mT 4 λi=>.int (xs i)))) x7 (some (.int w)) y9 y10) ⟨_,_,rfl⟩ λi hi τ hI=>by
  obtain⟨z9,z10,rfl⟩:=hI;have hi:=ybq.mp hi;have l0:((M.ds.length:Nat):Int)≠0:=by omega
  have a3:A6 (mT 4 λi=>T.int (xs i)) 3=some (.int (xs 3)):=EN (k:=3) (by decide)
  have GB:∀{a b c:T},A6 [a,b,c] (2:Int)=some c:=λ{a b c}=>CH (j:=2) rfl
  obtain⟨n,hn⟩:∃n:Int,(xs 3+(i:Int)).fmod (M.ds.length:Int)=n:=⟨_,rfl⟩;have st:=MI p1 p2 h hr hv (w,some n) al;have st:EC [CU M,Ag s,.tup [.int w,.int n],.int P,.bl al]=some (.ok (HJ (Bo P M s (w,some n) al))):=st;refine⟨sD P u c M s al (some (.lst (mT 4 λi=>.int (xs i)))) x7 (some (.int w)) (some (.int (i:Int))) z10,by simp![],?_⟩
  have r1:∀q,(A2 (m2 (Bx true) (AO EC (AB (AA 0) (AB (AA 1) (AB (BG (AB (AA 8) (AB (AA 10) AD))) (AB (AA 4) (AB (AA 5) AD)))))) (mC .non)) (AN (BG (AB (AA 8) (AB (AA 10) AD)))) A4) (sD P u c M s al (some (.lst (mT 4 λi=>.int (xs i)))) x7 (some (.int w)) (some (.int (i:Int))) (some (.int n)))=q->Jd (sD P u c M s al (some (.lst (mT 4 λi=>.int (xs i)))) x7 (some (.int w)) (some (.int (i:Int))) z10)=q:=λq hq=>by
   unfold Jd;refine sq (τ':=sD P u c M s al (some (.lst (mT 4 λi=>.int (xs i)))) x7 (some (.int w)) (some (.int (i:Int))) (some (.int n))) (by simp![a3,sd,AE _ sd,sr',AE _ sr',AU,A8,GB,ya1,l0,hn]) hq
  cases q:Bo P M s (w,some n) al with
  |none =>
   rw[q]at st;exact .inl ⟨_,r1 _ (by simp![sp,AX _ sp,sd,AE _ sd,sr',AE _ sr',AU,A8,si,AE _ si,st];rfl),_,_,rfl⟩
  |some s' =>
   rw[q]at st;have st:EC [CU M,Ag s,.tup [.int w,.int n],.int P,.bl al]=some (.ok (Ag s')):=st;refine .inr ⟨_,r1 _ (by simp![sp,AX _ sp,sd,AE _ sd,sr',AE _ sr',AU,A8,si,AE _ si,Cv,st]),(w,some n),rfl⟩
 have o1:Dl (M.ds.length:Int)=true:=Fj (by omega)
 have GB:∀{a b c:T},A6 [a,b,c] (2:Int)=some c:=λ{a b c}=>CH (j:=2) rfl
 have er0:∀n,DT 0 n=(List.range n).map λ(k:Nat)=>T.int (k:Int):=λn=>Ea
 rcases k with ⟨τ,e,z9,z10,rfl⟩|⟨t,e,q⟩
 .refine .inl ⟨z9,z10,?_⟩;rw[<- e];unfold FX
  simp![sd,AE _ sd,sr',AE _ sr',AU,A8,GB,ya1,o1,er0]
 .refine .inr ⟨t,?_,q⟩;rw[<- e];unfold FX
  simp![sd,AE _ sd,sr',AE _ sr',AU,A8,GB,ya1,o1,er0]
theorem zg6{P u:Int}(p1:0<P)(p2:P<=100)(u0:0<=u)(c:Int){M:Mc}(h:McOk M){s:Str×List Int}(hr:s.1∈M.nm)(hv:s.2.length=M.ws.length)(al:Bool):∃w,JY [CU M,Ag s,.int c,.int u,.int P,.bl al]=some (.ok (E5 w)):=by
 have sp:=IS h;have sd:=Hf h;have sr':=HF h;have si:=Cv s.2;have dl:=h.dl;obtain⟨xs,ex⟩:∃xs:Nat->Int,EY [.int c,.int 4]=some (.ok (.own (mT 4 λi=>.int (xs i)))):=Jt c (m:=4) (by decide)
 have up:0<=u * P:=Int.mul_nonneg u0 (by omega)
 have a0:A6 (mT 4 λi=>T.int (xs i)) 0=some (.int (xs 0)):=EN (k:=0) (by decide)
 have a1:A6 (mT 4 λi=>T.int (xs i)) 1=some (.int (xs 1)):=EN (k:=1) (by decide)
 have a2:A6 (mT 4 λi=>T.int (xs i)) 2=some (.int (xs 2)):=EN (k:=2) (by decide)
 have a3:A6 (mT 4 λi=>T.int (xs i)) 3=some (.int (xs 3)):=EN (k:=3) (by decide)
 have GB:∀{a b c:T},A6 [a,b,c] (2:Int)=some c:=λ{a b c}=>CH (j:=2) rfl
 have mp:∀i,Bw i P=true:=λi=>FE (C6 (by omega) (by omega))
 have f0:=yaj (xs 0) (show(0:Int)<2 by decide)
 have f1:=yb5 (xs 0) (show(0:Int)<2 by decide)
 have g0:=yaj (xs 1) (show(0:Int)<4 by decide)
 have g1:=yb5 (xs 1) (show(0:Int)<4 by decide)
 have mu2:Bw ((xs 0).fmod 2) u=true:=FG (C6 (by omega) (by omega))
 have m4:Bw ((xs 1).fmod 4) u=true:=FG (C6 (by omega) (by omega))
 have n0:u * P+1≠0:=by omega
 have k4:BZ 4=true:=Bs (by decide) (by decide)
 have k8:BZ 8=true:=Bs (by decide) (by decide)
 have k64:BZ 64=true:=Bs (by decide) (by decide)
 obtain⟨wt,_,ew⟩:=Eg [0,(xs 0).fmod (u * P+1),u * P,(xs 0).fmod 2 * u * P+(xs 1).fmod 5] (by simp) (xs 2)
 have ew':A6 [T.int 0,T.int ((xs 0).fmod (u * P+1)),T.int (u * P),T.int ((xs 0).fmod 2 * u * P+(xs 1).fmod 5)] ((xs 2).fmod 4)=some (.int wt):=FQ T.int ew
 have Ax:∀t,Ib (sD P u c M s al none none none none none)=some (.rt t)->J5 t->∃w,JY [CU M,Ag s,.int c,.int u,.int P,.bl al]=some (.ok (E5 w)):=λt e ht=>by
  obtain⟨w,rfl⟩:=ht;refine⟨w,?_⟩;unfold sD at e;unfold JY
  simp![sp,AX _ sp,sd,AE _ sd,sr',AE _ sr',AU,A8,si,AE _ si,e]
 suffices key:∃t,Ib (sD P u c M s al none none none none none)=some (.rt t)/\J5 t by
  obtain⟨t,e,q⟩:=key;exact Ax t e q
 unfold Ib;refine Hc (τ':=sD P u c M s al (some (.lst (mT 4 λi=>.int (xs i)))) none none none none) (by simp![ex]) ?_
 refine Hc (τ':=sD P u c M s al (some (.lst (mT 4 λi=>.int (xs i)))) (some (.int wt)) none none none) (by simp![a0,a1,a2,mp,mu2,n0,ew']) ?_
 cases c1:((xs 2).fdiv 4).fmod 16 == 5 with
 |true=>exact Kx (by simp![a2,k4,Ce,c1]) ⟨(0 - 1 - wt,none),rfl⟩
 |false =>
  refine Hc (τ':=sD P u c M s al (some (.lst (mT 4 λi=>.int (xs i)))) (some (.int wt)) none none none) (by simp![a2,k4,Ce,c1]) ?_
  cases c2:((xs 2).fdiv 64).fmod 16 == 5 with
  |true =>
   have l1:((M.ds.length:Nat):Int)+1≠0:=by omega
   obtain⟨t,ht,et⟩:=Eg [T.int (0 - 1),T.int (M.ds.length:Int),T.int ((xs 3).fmod ((M.ds.length:Int)+1)),T.non] (by simp) ((xs 3).fdiv 8)
   have et:A6 [T.int (0 - 1),T.int (M.ds.length:Int),T.int ((xs 3).fmod ((M.ds.length:Int)+1)),T.non] (((xs 3).fdiv 8).fmod 4)=some t:=et
   obtain⟨o,rfl⟩:∃o,t=Co o:=by
    simp only[yae,yay,yeg]at ht
    rcases ht with rfl|rfl|rfl|rfl
    .exact⟨some _,rfl⟩
    .exact⟨some _,rfl⟩
    .exact⟨some _,rfl⟩
    .exact⟨none,rfl⟩
   have no:=HM o;have no2:=Ms o;refine Kx (t:=.tup [.int wt,Co o]) ?_ ⟨(wt,o),rfl⟩;generalize Co o=N at *
   simp![a2,a3,k64,k8,Ce,c2,sd,AE _ sd,sr',AE _ sr',AU,A8,GB,ya1,l1,et,no,no2]
  |false =>
   refine Hc (τ':=sD P u c M s al (some (.lst (mT 4 λi=>.int (xs i)))) (some (.int wt)) none none none) (by simp![a2,k64,Ce,c2]) ?_
   have k:=OA (b:=AF 8) (body:=FX) T.int J5 (λτ=>∃z8 z9 z10,τ=sD P u c M s al (some (.lst (mT 4 λi=>.int (xs i)))) (some (.int wt)) z8 z9 z10) [wt,(xs 1).fmod 4 * u * P,0] (sD P u c M s al (some (.lst (mT 4 λi=>.int (xs i)))) (some (.int wt)) none none none) ⟨_,_,_,rfl⟩ λw _ τ hI=>by
    obtain⟨z8,z9,z10,rfl⟩:=hI;refine⟨sD P u c M s al (some (.lst (mT 4 λi=>.int (xs i)))) (some (.int wt)) (some (.int w)) z9 z10,by simp![],?_⟩
    rcases zj1 (u:=u) (c:=c) p1 p2 h hr hv (al:=al) (xs:=xs) w (some (.int wt)) z9 z10 with ⟨v9,v10,e⟩|⟨t,e,q⟩
    .exact .inl ⟨_,e,_,_,_,rfl⟩
    .exact .inr ⟨t,e,q⟩
   have e1:CA (BI (Bm (As (AA 7) (As (m2 B9 (m2 B9 (m2 Ap (AK (AA 6) (mC (.int 1))) (mC (.int 4))) (AA 3)) (AA 4)) (As (mC (.int 0)) AD))))) (AF 8) FX (sD P u c M s al (some (.lst (mT 4 λi=>.int (xs i)))) (some (.int wt)) none none none)=CF (AF 8) FX ([wt,(xs 1).fmod 4 * u * P,0].map T.int) (sD P u c M s al (some (.lst (mT 4 λi=>.int (xs i)))) (some (.int wt)) none none none):=by
    simp![a1,mp,m4]
   rcases k with ⟨τ,e,z8,z9,z10,rfl⟩|⟨t,e,q⟩
   .refine Hc (e1.trans e) ?_;have st:=MI p1 p2 h hr hv (wt,none) al;have st:EC [CU M,Ag s,.tup [.int wt,.non],.int P,.bl al]=some (.ok (HJ (Bo P M s (wt,none) al))):=st;cases q:Bo P M s (wt,none) al with
    |none =>
     rw[q]at st;refine Hc (τ':=sD P u c M s al (some (.lst (mT 4 λi=>.int (xs i)))) (some (.int wt)) z8 z9 z10) (by simp![sp,AX _ sp,sd,AE _ sd,sr',AE _ sr',AU,A8,si,AE _ si,st]) ?_
     exact⟨_,by simp![],(0,none),rfl⟩
    |some s' =>
     rw[q]at st;have st:EC [CU M,Ag s,.tup [.int wt,.non],.int P,.bl al]=some (.ok (Ag s')):=st;exact Kx (by simp![sp,AX _ sp,sd,AE _ sd,sr',AE _ sr',AU,A8,si,AE _ si,Cv,st]) ⟨(wt,none),rfl⟩
   .exact Kx (e1.trans e) q
abbrev RT:Stmt:=AQ 62
def PF:AI :=
 (AO JX (AB (AA 0) (AB (AA 1) AD)))
def J9:AH :=
 (A2 (BA (Ai (m1 (Bn "tuple") (AA 3))) (BA (m1 (Bn "bool") (AK (AA 3) (mC (.int 0)))) (m1 (Bn "bool") (AK (AA 3) (mC (.int 1)))))) (AN (mC (.bl false))) A4)
def Ka:AH :=
 (AG (A2 (BA (Ai (m1 (Bn "tuple") (AA 0))) (BA (m2 BL (m1 BW (AA 0)) (mC (.int 2))) (Ai (m1 (Bn "list") (AK (AA 0) (mC (.int 1))))))) (AN (mC (.bl false))) A4)
 (AG (A2 (BA (m2 BL (AK (AA 0) (mC (.int 0))) (AK (AA 1) (mC (.int 0)))) (m2 BL (AK (AA 0) (mC (.int 1))) (BN 1 [2] (BI (AK (AA 1) (mC (.int 1)))) (AF 0) (mC (.bl true)) PF))) (AN (mC (.bl false))) A4)
 (AG (CA (BI (AK (AA 0) (mC (.int 1)))) (AF 3) J9)
 (AN (mC (.bl true))))))
def Gi:List T->Option Ru:=Ae 3 4 Ka
abbrev OP:Fn:=⟨3,["_law_found","_law_due","_law_parts"],Gi⟩
abbrev zg0:Gm:=gA ["_law_found","_law_due","_law_parts","_law_value"] RT 2 [("_law_fraction",OT)] ["isinstance","tuple","len","list","bool"] [] ["_law_parts"]
theorem zgf:Ck zg0 OP RT Ka:={}
theorem QC(P:Int)(vs:List Int){o:Bool}:Fit (.nd o .lst (Bl P vs)) 2:=Fit.nd (n:=1) λu hu=>by
 obtain⟨v,-,rfl⟩:=yao.mp hu;exact Fit.fr _ _
theorem MR{P:Int}(p1:0<P)(p2:P<=100){s:Str×List Int}(ht:PyData.strOk s.1=true)(hl:s.2.length<=1000){κ:Kd}(hκ:κ=.lst\/κ=.rl):Gi [A7 P s,.tup [.str s.1,.nd false κ (s.2.map T.int)],.int P]=some (.ok (.bl true)):=by
 obtain⟨r,vs⟩:=s;have hl:vs.length<=1000:=hl;have vi:=Cv vs;have va:=DZ P vs;have l1:vs.length<=100000:=by omega
 have er:=IZ ht ht;rw[ye3 rfl]at er;have en:=(Ky (QC P vs (o:=false)) (by decide) rfl (QC P vs (o:=false))).2
 have lc:Bd (AF 0) (mC (.bl true)) PF (vs.map T.int) [none,some (.int P)]=some (Bl P vs):=DI T.int (BS P) (λτ=>∃x,τ=[x,some (.int P)]) vs _ ⟨none,rfl⟩ λw _ τ hI=>by
  obtain⟨x,rfl⟩:=hI;have q:=Uo p1 p2 w;exact⟨[some (.int w),some (.int P)],by simp![],by unfold PF;simp![q],_,rfl⟩
 have fa:=(OB (b:=AF 3) (body:=J9) (BS P) (λ_=>true) (.bl false) (λτ=>∃y,τ=[some (A7 P (r,vs)),some (.tup [.str r,.nd false κ (vs.map T.int)]),some (.int P),y]) vs [some (A7 P (r,vs)),some (.tup [.str r,.nd false κ (vs.map T.int)]),some (.int P),none] ⟨_,rfl⟩ λv _ τ hI=>by
  obtain⟨y,rfl⟩:=hI;refine⟨[some (A7 P (r,vs)),some (.tup [.str r,.nd false κ (vs.map T.int)]),some (.int P),some (BS P v)],by simp![],λ_=>⟨[some (A7 P (r,vs)),some (.tup [.str r,.nd false κ (vs.map T.int)]),some (.int P),some (BS P v)],?_,some (BS P v),rfl⟩,λz=>(by cases z)⟩
  unfold J9
  simp![BS,Bn,Gu]).1 (by simp)
 obtain⟨τ',ef,y,rfl⟩:=fa;have ef:CF (AF 3) J9 (Bl P vs) _=_:=ef
 have key:Ka [some (A7 P (r,vs)),some (.tup [.str r,.nd false κ (vs.map T.int)]),some (.int P),none]=some (.rt (.bl true)):=by
  unfold Ka;refine Br (by simp![va,AE _ va,Bn,Gu,Ef]) ?_
  refine Br ?_ ?_
  .rcases hκ with rfl|rfl<;>simp![va,AE _ va,er,vi,AE _ vi,ya1,l1,lc,en]
  refine sq (by rw[<- ef];simp![va,AE _ va]) ?_
  simp![]
 unfold Gi
 rcases hκ with rfl|rfl<;>simp![va,AE _ va,vi,AE _ vi,key]
abbrev RU:Stmt:=AQ 63
def NZ:AH :=
 (AG (AV (mC .non) (AF 4))
 (AG (E8 6 Li (A2 (m2 BJ (AA 2) (mC (.int 0))) (AV (AO EX (AB (AA 0) (AB (AA 1) (AB (AA 3) AD)))) (AF 4)) (AV (AO Dt (AB (AA 0) (AB (AA 1) (AB (AA 3) AD)))) (AF 4))) (AG (AV (Bm (As (m1 (Cd PY) (AA 6)) (As (m1 (Cd PX) (AA 6)) (As (m1 (Cd PU) (AA 6)) AD)))) (AF 5)) (AG (A2 (BA (Ai (m1 (Cd PV) (AA 6))) (BA (Ai (m1 (Cd PQ) (AA 6))) (m2 Bj (mC (.bl true)) (AA 5)))) (AN (m1 Cp (mC (.int 2)))) A4) (AN (HV [ED] (AA 6))))))
 (AN (m2 Dv (m1 Cp (mC (.int 1))) (m1 HY (m2 (Bx false) (AA 4) (mC .non)))))))
def EZ:List T->Option Ru:=Ae 4 7 NZ
abbrev OQ:Fn:=⟨11,["_law_machine_here","_law_run","_law_way","_law_alone"],EZ⟩
abbrev zbq:Gx:={ CD with xs:=[("WalkError",Li)],sb:=[("BadMachine",PY),("NoMark",PX),("TooMany",PU),("NoRun",PV)],sv:=[("ValueError",PQ)],rn:=some (ED,1) }
abbrev zbv:Gm:=gA ["_law_machine_here","_law_run","_law_way","_law_alone","_law_found","_law_others","e"] RU 10 [("walked",Kr),("stands",JB)] ["isinstance","int"] (ox:=zbq)
theorem zc5:Ck zbv OQ RU NZ:={}
def IQ:List (Str×List Int) ⊕ Nat->Int
 |.inl _=>-1
 |.inr k=>(k:Int)
theorem KL{P:Int}{M:Mc}(h:McOk M){X:T}(hX:X.sh=true){al:Bool}{R:List (Str×List Int) ⊕ Nat}(hs:Dt [Ah M,X,.bl al]=some (GO P R))(hw:EX [Ah M,X,.bl al]=some (Hz P R)){y:Int}(hy:y=0\/y=1):EZ [Ah M,X,.int y,.bl al]=some (.ok (.int (IQ R))):=by
 have sm:=Cr h;have y0:BJ (.int y) (.int 0)=some (.bl (y == 0)):=Ce;unfold EZ NZ;generalize Ah M=W at *;cases R with
 |inl l =>
  have sl:=Er P (l.getD (l.length - 1) ("",[]));have ss:An (l.map (A7 P))=true:=C4 λs _=>Er P s
  unfold Hz at hw;unfold GO at hs;dsimp only at hs hw;have nn:Bx false (A7 P (l.getD (l.length - 1) ("",[]))) .non=some (.bl false):=rfl;generalize A7 P (l.getD (l.length - 1) ("",[]))=Z at *
  rcases hy with rfl|rfl
  .simp![-Bx,nn,Ce,sm,AX _ sm,hX,AX _ hX,hw,sl,AX _ sl,E8,IQ]
   rfl
  .simp![Ce,sm,AX _ sm,hX,AX _ hX,hs,AE _ ss,ss,E8,IQ]
   rfl
 |inr k =>
  unfold Hz at hw;unfold GO at hs;dsimp only at hs hw;have pb:GZ (Dm k)="NoRun":=rfl;have pl:HG (Dm k)=[.int (k:Int)]:=rfl;have lk:Li.lookup ("NoRun":Str)=some ED:=rfl;have ct:[ED].contains ED=true:=rfl;have x1:Cd PY (.obj (.exn ED) [.int (k:Int)])=some (.bl false):=rfl;have x2:Cd PX (.obj (.exn ED) [.int (k:Int)])=some (.bl false):=rfl;have x3:Cd PU (.obj (.exn ED) [.int (k:Int)])=some (.bl false):=rfl;have x4:Cd PV (.obj (.exn ED) [.int (k:Int)])=some (.bl true):=rfl;have x5:Cd PQ (.obj (.exn ED) [.int (k:Int)])=some (.bl true):=rfl;have x6:Bj (.bl true) (.lst [.bl false,.bl false,.bl false])=some (.bl false):=by ext
  rcases hy with rfl|rfl
  .simp![-Cd,Ce,sm,AX _ sm,hX,AX _ hX,hw,E8,pb,pl,lk,HV,ct,x1,x2,x3,x4,x5,x6,IQ]
  .simp![-Cd,Ce,sm,AX _ sm,hX,AX _ hX,hs,E8,pb,pl,lk,HV,ct,x1,x2,x3,x4,x5,x6,IQ]
abbrev RP:Stmt:=AQ 64
def Oz:AI :=
 (AO Gi (AB (AA 0) (AB (AA 1) (AB (AA 2) AD))))
def HQ:AH :=
 (AG (AV (m1 CO (AA 1)) (AF 6))
 (GV (AG (A2 (m2 (Bx true) (AA 3) (mC .non)) (AG (A2 (m2 BL (AO EZ (AB (AA 0) (AB (AA 1) (AB (mC (.int 0)) (AB (AA 5) AD))))) (AA 3)) (AN (mC (.bl false))) A4)
 (AN (m2 BJ (AO EZ (AB (AA 0) (AB (AA 1) (AB (mC (.int 1)) (AB (AA 5) AD))))) (AA 3)))) A4)
 (AG (AV (AO Dt (AB (AA 0) (AB (AA 1) (AB (AA 5) AD)))) (AF 7))
 (AG (A2 (BA (Ai (m1 (Bn "list") (AA 7))) (m2 BL (m1 BW (AA 7)) (m1 BW (AA 2)))) (AN (mC (.bl false))) A4)
 (AG (A2 (Ai (m1 EB (BN 2 [4] (G7 (AB (AA 7) (AB (AA 2) AD))) (BX 2 (Ac (AF 0) (Ac (AF 1) B7))) (mC (.bl true)) Oz))) (AN (mC (.bl false))) A4)
 (AG (A2 (Ba (AA 5) (m2 BL (AO (gD [(.bl true)] Dt) (AB (AA 0) (AB (AA 1) AD))) (AA 7))) (AN (mC (.bl false))) A4)
 (AG (A2 (Ba (AA 5) (m2 BL (AO (gD [(.bl true)] EX) (AB (AA 0) (AB (AA 1) AD))) (AK (AA 7) (m1 Cp (mC (.int 1)))))) (AN (mC (.bl false))) A4)
 (AG (Ew (AK (AK (AA 7) (mC (.int 0))) (mC (.int 1))) (BG (AB (mC (.int 1)) (AB (mC (.int 1)) AD))))
 (AN (Ba (AO Gi (AB (AO EX (AB (AA 0) (AB (AA 1) (AB (AA 5) AD)))) (AB (AK (AA 2) (m1 Cp (mC (.int 1)))) (AB (AA 4) AD)))) (m2 BJ (AA 1) (AA 6)))))))))))))
def Hu:List T->Option Ru:=Ae 6 8 HQ
abbrev Vy:Fn:=⟨12,["_law_machine_here","_law_handed","_law_due","_law_bad","_law_parts","_law_alone"],Hu⟩
abbrev zcl:Gx:={ CD with dn:=[("walked",Kr,[(.bl true)]),("stands",JB,[(.bl true)])] }
abbrev zcp:Gm:=gA ["_law_machine_here","_law_handed","_law_due","_law_bad","_law_parts","_law_alone","_law_kept","_law_found"] RP 11 [("_law_same",OP),("walked",Kr),("stands",JB),("_law_refused",OQ)] ["all","zip","isinstance","list","len"] [] ["_law_parts"] (ox:=zcl)
theorem zcx:CkL zcp [] [false,true] Vy RP HQ:={}
abbrev C9(s:Str×List Int):T:=.tup [.str s.1,AW (s.2.map T.int)]
theorem zeh(vs:List Int):Ar (vs.map T.int)=vs.map T.int:=by
 rw[Cf,yaq]
 rfl
theorem zjc(P:Int)(ws:List (Int×Option Int)):Ar (ws.map (Aj P))=ws.map (Aj P):=by
 rw[Cf,yaq];refine yb2 λw _=>?_
 obtain⟨a,k⟩:=w;cases k<;>rfl
theorem zjb(K:List (Str×List Int)):Ar (K.map Ag)=K.map C9:=by
 rw[Cf,yaq];refine yb2 λs _=>?_
 show T.tup [.str s.1,.nd false .rl (Ar (s.2.map T.int))]=_;rw[zeh]
theorem zia{M:Mc}(h:McOk M):(Ah M).age=Ah M:=by
 have a:Ar (M.rs.map λr=>T.nd false .rl r.2)=M.rs.map λr=>T.nd false .rl r.2:=by
  rw[Cf,yaq];refine yb2 λr hr=>?_
  show T.nd false .rl (Ar r.2)=_;rw[(h.r.lk r hr).1.age]
 have b:Ar (M.ds.map BU)=M.ds.map BU:=by
  rw[Cf,yaq];refine yb2 λd hd=>?_
  show T.obj _ [.str d.s,.str d.e,.nd false .rl (Ar d.g),.nd false .rl (Ar (d.n.map T.str)),.str d.z]=_;rw[(h.d d hd).g.age,Hh]
 unfold Ah;show T.obj _ [.nd false .rl (Ar (M.ws.map T.str)),.obj _ (Ar (M.rs.map λr=>.nd false .rl r.2)),.nd false .rl (Ar (M.ds.map BU))]=_
 rw[Hh,a,b]
theorem Nj{t:T}(h:t.noL=true):DJ (some t)=some t:=if_pos h
theorem FC{α:Type}{f:α->T}:∀{L:List α},(∀x∈L,(f x).noL=true)->Bc (L.map f)=true
 |[],_=>rfl
 |a::L,h=>by
  rw[yal,Bc,h a (ya5 ..),FC λx hx=>h x (ya8 _ hx)]
  rfl
theorem Bk.noL{ws wd:List Str}{l:List T}(h:Bk ws wd l):Bc l=true:=by
 have:=FC (f:=λt=>t) (L:=l) λt ht=>by
  obtain⟨x,y,n,rfl,-⟩:=h t ht
  rfl
 rwa[yd5]at this
theorem zi9{M:Mc}(h:McOk M):(Ah M).noL=true:=by
 have s1:Bc (M.ws.map T.str)=true:=FC λ_ _=>rfl
 have s2:Bc (M.rs.map λr=>T.nd false .rl r.2)=true:=FC λr hr=>by
  show(G6 false .rl && Bc r.2)=true;rw[(h.r.lk r hr).1.noL]
  rfl
 have s3:Bc (M.ds.map BU)=true:=FC λd hd=>by
  show Bc [.str d.s,.str d.e,.nd false .rl d.g,.nd false .rl (d.n.map T.str),.str d.z]=true;simp only[Bc,T.noL,G6,(h.d d hd).g.noL,show Bc (d.n.map T.str)=true from FC λ_ _=>rfl,yc6,ydc]
 unfold Ah;show Bc [.nd false .rl (M.ws.map T.str),.obj _ (M.rs.map λr=>.nd false .rl r.2),.nd false .rl (M.ds.map BU)]=true
 simp only[Bc,T.noL,G6,s1,s2,s3,yc6,ydc]
theorem zjx(P:Int)(ws:List (Int×Option Int)):Bc (ws.map (Aj P))=true:=FC λw _=>by
 obtain⟨a,k⟩:=w;cases k<;>rfl
theorem zgw(K:List (Str×List Int)):Bc (K.map C9)=true:=FC λs _=>by
 simp only[Bc,T.noL,G6,show Bc (s.2.map T.int)=true from FC λ_ _=>rfl,yc6,ydc]
abbrev sW(P:Int)(M:Mc)(ws:List (Int×Option Int))(K:List (Str×List Int))(b:T)(al:Bool)(x7:Option T):AM:=[some (Ah M),some (AW (ws.map (Aj P))),some (AW (K.map C9)),some b,some (.int P),some (.bl al),some (AW (ws.map (Aj P))),x7]
theorem Pt{P:Int}{M:Mc}(h:McOk M){ws:List (Int×Option Int)}(hw:ws.length<=1000){K:List (Str×List Int)}{b:T}(hb:b.age=b)(hs:b.sh=true){al:Bool}{w:AH}{r:Option Out}(hr:w (sW P M ws K b al none)=r):AG (AV (m1 CO (AA 1)) (AF 6)) (GV w) [some (Ah M),some (.lst (ws.map (Aj P))),some (.lst (K.map Ag)),some b,some (.int P),some (.bl al),none,none]=r:=by
 have ss:=F9 P ws;have sm:=Cr h;have lw:ws.length<=100000:=by omega
 refine sq (τ':=[some (Ah M),some (.lst (ws.map (Aj P))),some (.lst (K.map Ag)),some b,some (.int P),some (.bl al),some (.lst (ws.map (Aj P))),none]) (by simp![ss,AE _ ss,ya1,lw]) ?_
 rw[<- hr];unfold GV;refine congrArg w ?_;show [some (Ah M).age,some (.nd false .rl (Ar (ws.map (Aj P)))),some (.nd false .rl (Ar (K.map Ag))),some b.age,some (.int P),some (.bl al),some (.nd false .rl (Ar (ws.map (Aj P)))),none]=_;rw[zia h,zjc,zjb,hb]
theorem KQ(S:List (Str×List Int)):An (S.map Ag)=true:=C4 λs _=>by
 have:=Cv s.2
 simp![this]
theorem zjg{P:Int}(p1:0<P)(p2:P<=100){M:Mc}(h:McOk M){ws:List (Int×Option Int)}(hw:ws.length<=1000){K:List (Str×List Int)}{al:Bool}{k:Nat}(e:E3 P M al ws=.inr k):Hu [Ah M,.lst (ws.map (Aj P)),.lst (K.map Ag),.int (k:Int),.int P,.bl al]=some (.ok (.bl true)):=by
 have sm:=Cr h;have ss:=F9 P ws;have sk:=KQ K;have st:=ML p1 p2 h hw (al:=al);have wk:=Pr p1 p2 h hw (al:=al);have r0:=KL h (X:=AW (ws.map (Aj P))) (by simp![ss]) st wk (y:=0) (.inl rfl)
 have r1:=KL h (X:=AW (ws.map (Aj P))) (by simp![ss]) st wk (y:=1) (.inr rfl)
 rw[e]at r0 r1;have r0:EZ [Ah M,AW (ws.map (Aj P)),.int 0,.bl al]=some (.ok (.int (k:Int))):=r0;have r1:EZ [Ah M,AW (ws.map (Aj P)),.int 1,.bl al]=some (.ok (.int (k:Int))):=r1;have kk:((k:Int) == (k:Int))=true:=yen _
 have key:HQ [some (Ah M),some (.lst (ws.map (Aj P))),some (.lst (K.map Ag)),some (.int (k:Int)),some (.int P),some (.bl al),none,none]=some (.rt (.bl true)):=by
  unfold HQ;refine Pt h hw rfl rfl ?_;refine sr ?_;unfold sW;generalize Ah M=W at *
  simp![sm,AX _ sm,ss,AE _ ss,r0,r1,Ef,Ce,kk]
 unfold Hu
 simp![sm,AX _ sm,ss,AE _ ss,sk,AE _ sk,key]
theorem Qc(P:Int){s:Str×List Int}{ns:List Str}(hn:By ns)(h:s.1∈ns):Fit (A7 P s) 3:=Fit.tup λt ht=>by
 simp only[yae,yay,yeg]at ht
 rcases ht with rfl|rfl
 .exact Fit.str (hn _ h) _
 .refine Fit.nd (n:=1) λu hu=>?_
  obtain⟨v,-,rfl⟩:=yao.mp hu;exact Fit.fr _ _
theorem zgv(P:Int){o:Bool}{l:List (Str×List Int)}{ns:List Str}(hn:By ns)(h:∀s∈l,s.1∈ns):Fit (.nd o .lst (l.map (A7 P))) 4:=Fit.nd λt ht=>by
 obtain⟨s,hs,rfl⟩:=yao.mp ht;exact Qc P hn (h s hs)
theorem zjy(P:Int)(ws:List (Int×Option Int)):Fit (AW (ws.map (Aj P))) 3:=Fit.nd λt ht=>by
 obtain⟨w,-,rfl⟩:=yao.mp ht;refine Fit.tup (n:=1) λu hu=>?_
 simp only[yae,yay,yeg]at hu
 rcases hu with rfl|rfl
 .exact Fit.fr _ _
 .cases w.2 with
  |none=>exact Fit.non _
  |some k=>exact Fit.int _ _
theorem Nc{α:Type}:∀(l:List α) (a:α),(a::l)[l.length]?=some (l.getLastD a)
 |[],_=>rfl
 |b::l,a=>by rw[yat,yc4,Nc l b,ycq]
theorem Nd{α:Type}(f:α->T)(l:List α)(a:α):A6 ((a::l).map f) (-1)=some (f (l.getLastD a)):=by
 rw[XW (l:=(a::l).map f) (by rw[yal];exact List.cons_ne_nil _ _) (f a),ya1,yat,Nat.add_sub_cancel,ya6,ya3,Nc l a]
 rfl
theorem zgp{P:Int}(p1:0<P)(p2:P<=100){M:Mc}(h:McOk M){ws:List (Int×Option Int)}(hw:ws.length<=1000){s0:Str×List Int}{l:List (Str×List Int)}(hl:l.length<=1000){al:Bool}(e:E3 P M al ws=.inl (s0::l))(hn:∀s∈s0::l,s.1∈M.nm/\s.2.length=M.ws.length):Hu [Ah M,.lst (ws.map (Aj P)),.lst ((s0::l).map Ag),.non,.int P,.bl al]=some (.ok (.bl true)):=by
 have sm:=Cr h;have ss:=F9 P ws;have wl:=h.wl;have st:=ML p1 p2 h hw (al:=al);have wk:=Pr p1 p2 h hw (al:=al);rw[e]at st wk;unfold GO at st;unfold Hz at wk;dsimp only at st wk
 have ge:(s0::l).getD ((s0::l).length - 1) ("",[])=l.getLastD s0:=by
  rw[yat,Nat.add_sub_cancel,ya6,Nc]
  rfl
 rw[ge]at wk;have la:=Nd (A7 P) l s0;have lb:=Nd C9 l s0
 have lin:l.getLastD s0∈s0::l:=by
  rw[List.getLastD_eq_getLast?];cases q:l.getLast? with
  |none=>exact ya5 ..
  |some x=>exact ya8 _ (List.mem_of_getLast? q)
 obtain⟨x1,x2⟩:=hn _ lin;have sam:=MR p1 p2 (h.tn _ x1) (by omega) (s:=l.getLastD s0) (κ:=.rl) (.inr rfl)
 have hall:∀s∈s0::l,Gi [A7 P s,C9 s,.int P]=some (.ok (.bl true)):=λs hs=>MR p1 p2 (h.tn _ (hn s hs).1) (by have:=(hn s hs).2;omega) (κ:=.rl) (.inr rfl)
 have fi:=zgv P (o:=false) h.tn λs hs=>(hn s hs).1
 have eq1:=(Ky fi (by decide) rfl fi).2
 have fl:=Qc P h.tn x1;have eq2:=(Ky fl (by decide) rfl fl).2
 have fs:=zjy P ws;have eq3:=(Ky fs (by decide) rfl fs).1
 have p0:∃v0,A6 ((s0::l).map (A7 P)) 0=some (.tup [.str s0.1,.lst v0])/\v0=Bl P s0.2:=⟨_,CH (j:=0) rfl,rfl⟩;obtain⟨v0,p0,ev⟩:=p0;have v0s:An v0=true:=by rw[ev];exact DZ P s0.2
 have v0l:v0.length<BO:=by
  rw[ev];show(s0.2.map (BS P)).length<BO;have:=(hn s0 (ya5 ..)).2;rw[ya1,this];exact Nat.lt_of_le_of_lt wl (by decide)
 obtain⟨K,eK⟩:∃K,K=s0::l:=⟨_,rfl⟩;have kl:K.length<=100000:=by rw[eK,yat];omega
 rw[<- eK]at st eq1 la lb hall p0;have sK:An (K.map (A7 P))=true:=C4 λs _=>Er P s
 have sR:An (K.map C9)=true:=C4 λs _=>by
  have:=Cv s.2
  simp![this]
 have zp:=Pk (A7 P) C9 K K
 have lc:Bd (BX 2 (Ac (AF 0) (Ac (AF 1) B7))) (mC (.bl true)) Oz ((K.zip K).map λx=>T.tup [A7 P x.1,C9 x.2]) [none,none,some (.int P)]=some ((K.zip K).map λ_=>T.bl true):=DI (λx:(Str×List Int)×(Str×List Int)=>T.tup [A7 P x.1,C9 x.2]) (λ_=>T.bl true) (λτ=>∃a b,τ=[a,b,some (.int P)]) _ _ ⟨none,none,rfl⟩ λx hx τ hI=>by
  obtain⟨a,b,rfl⟩:=hI
  have ex:x.1=x.2:=by
   obtain⟨i,hi⟩:=List.getElem?_of_mem hx;rw[List.getElem?_zip_eq_some]at hi;exact yak (hi.1.symm.trans hi.2)
  obtain⟨u,v⟩:=x;have ex:u=v:=ex;subst ex;have q:=hall u (yd3 hx).1;have vi:=Cv u.2;have va:=DZ P u.2;exact⟨[some (A7 P u),some (C9 u),some (.int P)],by simp![va,vi],by unfold Oz;simp![va,AE _ va,vi,AE _ vi,q],_,_,rfl⟩
 have bt:EW ((K.zip K).map λ_=>T.bl true)=some ((K.zip K).map λ_=>true):=PL (λ_=>true) (K.zip K)
 have ba:((K.zip K).map λ_=>true).all id=true:=by simp
 have sb:An ((K.zip K).map λ_=>T.bl true)=true:=C4 λ_ _=>rfl
 have zl:(K.zip K).length<=100000:=by rw[List.length_zip];omega
 have sk:=KQ (s0::l);have neg:(-(1:Int))=-1:=rfl;have kk:((K.length:Int) == (K.length:Int))=true:=yen _;have sl:=Er P (l.getLastD s0);have sl2:=DZ P (l.getLastD s0).2;have sl3:=Cv (l.getLastD s0).2;have n1:=zi9 h;have n2:=zjx P ws;have n3:=zgw K
 have key:HQ [some (Ah M),some (.lst (ws.map (Aj P))),some (.lst (K.map Ag)),some .non,some (.int P),some (.bl al),none,none]=some (.rt (.bl true)):=by
  unfold HQ;refine Pt h hw rfl rfl ?_;unfold sW;generalize hS:ws.map (Aj P)=S at *;generalize Ah M=W at *;refine Br (by simp![]) ?_
  refine sq (τ':=[some W,some (AW S),some (AW (K.map C9)),some .non,some (.int P),some (.bl al),some (AW S),some (.lst (K.map (A7 P)))]) (by simp![sm,AX _ sm,ss,AE _ ss,st,sK,AE _ sK]) ?_
  refine Br (by simp![sK,AE _ sK,sR,AE _ sR,ya1,Ef,kk]) ?_
  refine Br (by simp![sK,AE _ sK,sR,AE _ sR,zp,ya1,zl,lc,sb,AE _ sb,bt,ba]) ?_
  refine Br ?_ ?_
  .cases al with
   |false=>simp![]
   |true=>simp![sm,AX _ sm,ss,AE _ ss,st,sK,AE _ sK,eq1]
  refine Br ?_ ?_
  .generalize hz:A7 P (l.getLastD s0)=Z at *;cases al with
   |false=>simp![]
   |true=>simp![sm,AX _ sm,ss,AE _ ss,wk,sK,AE _ sK,neg,la,sl,AX _ sl,eq2]
  refine sq (τ':=[some W,some (AW S),some (AW (K.map C9)),some .non,some (.int P),some (.bl al),some (AW S),none]) ?_ ?_
  .have hm:AK (AK (AA 7) (mC (.int 0))) (mC (.int 1)) [some W,some (AW S),some (AW (K.map C9)),some .non,some (.int P),some (.bl al),some (AW S),some (.lst (K.map (A7 P)))]=some (.v (.nd false .lst v0) false):=by simp![sK,AE _ sK,p0,v0s]
   have kS:DJ (some (AW S))=some (AW S):=Nj (show(G6 false .rl && Bc S)=true by rw[n2];rfl)
   have kW:DJ (some W)=some W:=Nj n1;have kR:DJ (some (AW (K.map C9)))=some (AW (K.map C9)):=Nj (show(G6 false .rl && Bc (K.map C9))=true by rw[n3];rfl)
   unfold Ew;rw[hm];show(if v0.length<BO then some (Out.nx [DJ (some W),DJ (some (AW S)),DJ (some (AW (K.map C9))),some .non,some (.int P),some (.bl al),DJ (some (AW S)),none]) else none)=_
   rw[if_pos v0l,kS,kW,kR]
  simp![sm,AX _ sm,ss,AE _ ss,wk,sl2,AE _ sl2,sl3,AE _ sl3,sR,AE _ sR,neg,lb,sam,eq3]
 unfold Hu;rw[<- eK];rw[<- eK]at sk
 simp![sm,AX _ sm,ss,AE _ ss,sk,AE _ sk,key]
abbrev Jz:Stmt:=AQ 65
def IA:AH :=
 (AG (AV (AO JY (AB (AA 5) (AB (AA 9) (AB (AA 13) (AB (AA 3) (AB (AA 4) (AB (AA 8) AD))))))) (AF 14))
 (AG (De 10 (BG (AB (AO JX (AB (AK (AA 14) (mC (.int 0))) (AB (AA 4) AD))) (AB (AK (AA 14) (mC (.int 1))) AD))))
 (A2 (m2 (Bx false) (AA 12) (mC .non)) (AG (AV (AO EC (AB (AA 5) (AB (AA 9) (AB (AA 14) (AB (AA 4) (AB (AA 8) AD)))))) (AF 9))
 (A2 (m2 (Bx false) (AA 9) (mC .non)) (AG (AV (m2 Dv (m1 BW (AA 10)) (mC (.int 1))) (AF 12))
 (AV (AK (AA 11) (m1 Cp (mC (.int 1)))) (AF 9))) (De 11 (AA 9)))) A4)))
def Oj:AI :=
 (mC (.int 0))
def Ol:AI :=
 (BG (AB (AA 0) (AB (m1 CO (AA 1)) AD)))
def Om:AI :=
 (HW JZ [] (AB (AK (AA 0) (mC (.int 0))) (AB (AK (AA 0) (mC (.int 1))) (AB (m1 CO (AK (AA 0) (mC (.int 2)))) (AB (m1 CO (AK (AA 0) (mC (.int 3)))) (AB (AK (AA 0) (mC (.int 4))) AD))))))
def K6:AH :=
 (AG (AV (AO JW (AB (AO DO (AB (AA 0) (AB (mC (.int 0)) AD))) (AB (mC (.int 12)) AD))) (AF 1))
 (AG (AV (AO DO (AB (AA 0) (AB (mC (.int 3)) AD))) (AF 2))
 (AG (AV (AK (Bm (As (mC (.int 1)) (As (m2 BK (mC (.int 1)) (m2 Ap (m2 B3 (AA 2) (mC (.int 6))) (m2 Ez (mC (.int 10)) (mC (.int 15))))) (As (m2 BK (mC (.int 1)) (m2 Ap (m2 B3 (AA 2) (mC (.int 6))) (m2 Ez (mC (.int 10)) (mC (.int 40))))) AD)))) (m2 Ap (AA 2) (mC (.int 3)))) (AF 3))
 (AG (AV (AK (Bm (As (mC (.int 1)) (As (mC (.int 12)) (As (mC (.int 7)) (As (m2 BK (mC (.int 2)) (m2 Ap (m2 B3 (AA 2) (mC (.int 12))) (mC (.int 11)))) AD))))) (m2 Ap (m2 B3 (AA 2) (mC (.int 3))) (mC (.int 4)))) (AF 4))
 (AG (AV (AO L7 (AB (AA 0) (AB (AA 1) (AB (AA 3) AD)))) (AF 5))
 (AG (AV (BN 1 [] (BI (AK (AA 5) (mC (.int 2)))) (AF 0) (mC (.bl true)) Om) (AF 6))
 (AG (AV (HW JU [] (AB (m1 CO (AK (AA 5) (mC (.int 0)))) (AB (BN 2 [] (BI (AK (AA 5) (mC (.int 1)))) (BX 2 (Ac (AF 0) (Ac (AF 1) B7))) (mC (.bl true)) Ol) (AB (AA 6) AD)))) (AF 7))
 (GV (AG (AV (m2 (Bg λi j=>decide (j<i)) (m2 Ap (AO DO (AB (AA 0) (AB (mC (.int 4)) AD))) (mC (.int 4))) (mC (.int 0))) (AF 8))
 (AG (AV (BG (AB (AK (AK (AK (AA 5) (mC (.int 1))) (mC (.int 0))) (mC (.int 0))) (AB (BN 1 [] (BI (AK (AA 5) (mC (.int 0)))) (AF 0) (mC (.bl true)) Oj) AD))) (AF 9))
 (AG (Dd 10 (Bm AD))
 (AG (Dd 11 (Bm (As (AA 9) AD)))
 (AG (AV (mC .non) (AF 12))
 (AG (A2 (Ai (AO Gi (AB (AO JN (AB (AA 7) AD)) (AB (AA 9) (AB (AA 4) AD))))) (AN (mC (.bl false))) A4)
 (AG (A2 (Ai (AO FT (AB (AK (AK (AK (AA 5) (mC (.int 1))) (mC (.int 0))) (mC (.int 1))) (AB (AK (AA 5) (mC (.int 0))) (AB (AK (AA 9) (mC (.int 1))) (AB (AA 4) AD)))))) (AG (A2 (m2 BL (AO EZ (AB (AA 7) (AB (Bm AD) (AB (mC (.int 0)) (AB (AA 8) AD))))) (mC (.int 0))) (AN (mC (.bl false))) A4)
 (AN (m2 BJ (AO EZ (AB (AA 7) (AB (Bm (As (BG (AB (BG (AB (mC (.int 0)) (AB (mC (.int 1)) AD))) (AB (mC .non) AD))) AD)) (AB (mC (.int 1)) (AB (AA 8) AD))))) (mC (.int 0))))) A4)
 (AG (CA (BI (Ct (Eh (AA 0) (some (mC (.int 5))) (some (m2 BK (mC (.int 5)) (m2 Ap (m2 B3 (AO DO (AB (AA 0) (AB (mC (.int 4)) AD))) (mC (.int 4))) (mC (.int 15)))))) (FH (AA 0) (some (mC (.int 5))) (some (m2 BK (mC (.int 5)) (m2 Ap (m2 B3 (AO DO (AB (AA 0) (AB (mC (.int 4)) AD))) (mC (.int 4))) (mC (.int 15)))))))) (AF 13) IA)
 (GS Hu (AB (AA 7) (AB (AA 10) (AB (AA 11) (AB (AA 12) (AB (AA 4) (AB (AA 8) AD)))))))))))))))))))))))
def LV:List T->Option Ru:=Ae 1 15 K6
abbrev zmh:Fn:=⟨13,["_law_script"],LV⟩
abbrev zmf:Gx:={ CD with nw:=[("Machine",Vw,[(3,[])]),("Door",WI,[(5,[])])] }
abbrev VV:Gm:=gA ["_law_script","_law_names_here","_law_cell","_law_unit","_law_parts","_law_plan","_law_made","_law_machine_here","_law_alone","_law_stand","_law_run","_law_due","_law_bad","_law_number","_law_step_here"] Jz 12 [("_law_cell_at",OU),("_law_drawn",WE),("_law_fraction",OT),("_law_step",OO),("_law_met",OS),("_law_refused",OQ),("_law_same",OP),("start",OE),("_law_machine",WB),("_law_names",WA)] ["len","list"] ["_law_run","_law_due"] (ox:=zmf)
theorem Wi:CkL VV [("_law_walked",Vy)] [false,false,false,false,false,false,false,true] zmh Jz K6:={}
theorem zlj(c:Int)(k:Nat):GD (Dn c k):=by
 refine⟨λi hi=>?_,zlk c k,zi4 c k⟩
 refine zll c k _ ?_;show(Dn c k).cps.getD i 0∈(Dn c k).cps.toList;rw[ycg,ybc hi];exact Array.getElem_mem_toList hi
theorem zgq(c:Int):∃u:Int,0<=u/\A6 [T.int 1,T.int (1+(c.fdiv 6).fmod (10 ^ 15)),T.int (1+(c.fdiv 6).fmod (10 ^ 40))] (c.fmod 3)=some (.int u):=by
 obtain⟨u,hu,e⟩:=Eg [1,1+(c.fdiv 6).fmod (10 ^ 15),1+(c.fdiv 6).fmod (10 ^ 40)] (by simp) c
 refine⟨u,?_,FQ T.int e⟩;have q:=yaj (c.fdiv 6) (show(0:Int)<10 ^ 15 by decide)
 have q2:=yaj (c.fdiv 6) (show(0:Int)<10 ^ 40 by decide)
 simp only[yae,yay,yeg]at hu
 rcases hu with rfl|rfl|rfl<;>omega
theorem zf7(c d:Int):∃P:Int,0<P/\P<=100/\A6 [T.int 1,T.int 12,T.int 7,T.int (2+d.fmod 11)] (c.fmod 4)=some (.int P):=by
 obtain⟨P,hP,e⟩:=Eg [(1:Int),12,7,2+d.fmod 11] (by simp) c
 have q:=yaj d (show(0:Int)<11 by decide)
 have q2:=yb5 d (show(0:Int)<11 by decide)
 refine⟨P,?_,?_,FQ T.int e⟩ <;>
 .simp only[yae,yay,yeg]at hP
  rcases hP with rfl|rfl|rfl|rfl<;>omega
theorem Rb{P:Int}{M:Mc}{al:Bool}{w:Int×Option Int}{s':Str×List Int}:∀{ws:List (Int×Option Int)} {i:Nat} {s:Str×List Int} {l:List (Str×List Int)},Bt P M al i s ws=.inl l->Bo P M (l.getLastD s) w al=some s'->Bt P M al i s (ws++[w])=.inl (l++[s'])
 |[],i,s,l,e,hb=>by
  cases e;show Bt P M al i s [w]=.inl [s'];unfold Bt;rw[show Bo P M s w al=some s' from hb]
  rfl
 |x::ws,i,s,l,e,hb=>by
  rw[ybr];unfold Bt at e ⊢;cases q:Bo P M s x al with
  |none=>omega
  |some s1 =>
   rw[q]at e;dsimp only at e ⊢;cases r:Bt P M al (i+1) s1 ws with
   |inr k=>omega
   |inl l1 =>
    rw[r]at e;cases e;rw[Rb r (by rw[ycq]at hb;exact hb)]
    rfl
theorem Rf{P:Int}{M:Mc}{al:Bool}{v:List (Int×Option Int)}{k:Nat}:∀{ws:List (Int×Option Int)} {i:Nat} {s:Str×List Int},Bt P M al i s ws=.inr k->Bt P M al i s (ws++v)=.inr k
 |[],i,s,e=>by cases e
 |x::ws,i,s,e=>by
  rw[ybr];unfold Bt at e ⊢;cases q:Bo P M s x al with
  |none=>rw[q]at e;exact e
  |some s1 =>
   rw[q]at e;cases r:Bt P M al (i+1) s1 ws with
   |inl l =>
    simp only[r]at e;cases e
   |inr j =>
    simp only[r]at e;simp only[Rf r];exact e
theorem Rc{P:Int}{M:Mc}{al:Bool}{w:Int×Option Int}:∀{ws:List (Int×Option Int)} {i:Nat} {s:Str×List Int} {l:List (Str×List Int)},Bt P M al i s ws=.inl l->Bo P M (l.getLastD s) w al=none->Bt P M al i s (ws++[w])=.inr (i+ws.length)
 |[],i,s,l,e,hb=>by
  cases e;show Bt P M al i s [w]=_;unfold Bt;rw[show Bo P M s w al=none from hb]
  rfl
 |x::ws,i,s,l,e,hb=>by
  rw[ybr];unfold Bt at e ⊢;cases q:Bo P M s x al with
  |none=>rw[q]at e;cases e
  |some s1 =>
   rw[q]at e;cases r:Bt P M al (i+1) s1 ws with
   |inr j =>
    simp only[r]at e;cases e
   |inl l' =>
    simp only[r]at e;cases e;have:=Rc r (by rw[ycq]at hb;exact hb)
    simp only[this,yat]
    congr 1
    omega
abbrev sX(ns:List Int)(u P:Int)(M:Mc)(al:Bool)(x1 x2 x6 x9 x10 x11 x12 x13 x14:Option T):AM:=[some (BF ns),x1,x2,some (.int u),some (.int P),some (CU M),x6,some (Ah M),some (.bl al),x9,x10,x11,x12,x13,x14]
def Pg(ns:List Int)(u P:Int)(M:Mc)(al:Bool)(x1 x2 x6:Option T)(i:Nat)(τ:AM):Prop:=∃(ws:List (Int×Option Int)) (l:List (Str×List Int)) (bad:T) (x13 x14:Option T),τ=sX ns u P M al x1 x2 x6 (some (Ag (l.getLastD (AZ M)))) (some (.own (ws.map (Aj P)))) (some (.own ((AZ M::l).map Ag))) (some bad) x13 x14/\ws.length=i/\l.length<=i/\(∀s∈AZ M::l,s.1∈M.nm/\s.2.length=M.ws.length)/\((bad=.non/\Bt P M al 0 (AZ M) ws=.inl l)\/∃k:Nat,bad=.int (k:Int)/\Bt P M al 0 (AZ M) ws=.inr k)
theorem Ut{α:Type}:∀(l:List α) (a:α),l.getLastD a∈a::l
 |[],a=>ya5 ..
 |b::l,a=>by rw[ycq];exact ya8 _ (Ut l b)
theorem zmq{ns:List Int}{u P:Int}(p1:0<P)(p2:P<=100)(u0:0<=u){M:Mc}(h:McOk M){al:Bool}{x1 x2 x6:Option T}{i:Nat}(hi:i<100)(c:Int){τ:AM}(I:Pg ns u P M al x1 x2 x6 i τ):∃τ1,AF 13 (.int c) τ=some τ1/\∃τ2,IA τ1=some (.nx τ2)/\Pg ns u P M al x1 x2 x6 (i+1) τ2:=by
 obtain⟨ws,l,bad,x13,x14,rfl,hw,hl,ho,hb⟩:=I;obtain⟨s,es⟩:∃s,l.getLastD (AZ M)=s:=⟨_,rfl⟩;have hs:s.1∈M.nm/\s.2.length=M.ws.length:=ho s (by rw[<- es];exact Ut l _)
 obtain⟨w,ed⟩:=zg6 p1 p2 u0 c h hs.1 hs.2 al;have et:=MI p1 p2 h hs.1 hs.2 w al;have ef:=Uo p1 p2 w.1;have sp:=IS h;have si:=Cv s.2;have sn:=HM w.2;have sw:=F9 P ws;have sl:=KQ (AZ M::l);have sm:=Cr h;have wl:(ws.map (Aj P)).length<100000:=by rw[ya1];omega
 have la:=Nd Ag l (AZ M);rw[es]at la;have dl:((AZ M::l).map Ag).length<100000:=by rw[ya1,yat];omega
 refine⟨sX ns u P M al x1 x2 x6 (some (Ag s)) (some (.own (ws.map (Aj P)))) (some (.own ((AZ M::l).map Ag))) (some bad) (some (.int c)) x14,by rw[es];rfl,?_⟩
 have hd1:∀r:AM->Prop,(∃τ2,(A2 (m2 (Bx false) (AA 12) (mC .non)) (AG (AV (AO EC (AB (AA 5) (AB (AA 9) (AB (AA 14) (AB (AA 4) (AB (AA 8) AD)))))) (AF 9)) (A2 (m2 (Bx false) (AA 9) (mC .non)) (AG (AV (m2 Dv (m1 BW (AA 10)) (mC (.int 1))) (AF 12)) (AV (AK (AA 11) (m1 Cp (mC (.int 1)))) (AF 9))) (De 11 (AA 9)))) A4) (sX ns u P M al x1 x2 x6 (some (Ag s)) (some (.own ((ws++[w]).map (Aj P)))) (some (.own ((AZ M::l).map Ag))) (some bad) (some (.int c)) (some (E5 w)))=some (.nx τ2)/\r τ2)->∃τ2,IA (sX ns u P M al x1 x2 x6 (some (Ag s)) (some (.own (ws.map (Aj P)))) (some (.own ((AZ M::l).map Ag))) (some bad) (some (.int c)) x14)=some (.nx τ2)/\r τ2:=λr ⟨τ2,e,hr⟩=>by
  refine⟨τ2,?_,hr⟩;unfold IA;generalize (AZ M::l).map Ag=D at *;generalize Ah M=W at *
  refine sq (τ':=sX ns u P M al x1 x2 x6 (some (Ag s)) (some (.own (ws.map (Aj P)))) (some (.own D)) (some bad) (some (.int c)) (some (E5 w))) (by
   unfold sX;generalize CU M=A at *
   simp![sp,AX _ sp,si,AE _ si,sn,AX _ sn,ed]) ?_
  refine sq (by
   rw[ybx];unfold sX
   simp![sn,AX _ sn,ef,wl]) e
 refine hd1 _ ?_
 clear hd1
 have sw':=F9 P (ws++[w]);have vl:((ws++[w]).map (Aj P)).length=i+1:=by rw[ya1,yaz,hw];rfl
 have lw:(ws++[w]).length=i+1:=by rw[yaz,hw];rfl
 rcases hb with ⟨rfl,hx⟩|⟨k,rfl,hx⟩
 .cases q:Bo P M s w al with
  |none =>
   rw[q]at et;have fl:=Rc hx (by rw[es];exact q)
   rw[Nat.zero_add,hw]at fl;refine⟨sX ns u P M al x1 x2 x6 (some (Ag s)) (some (.own ((ws++[w]).map (Aj P)))) (some (.own ((AZ M::l).map Ag))) (some (.int (i:Int))) (some (.int c)) (some (E5 w)),?_,ws++[w],l,_,_,_,by rw[es],lw,by omega,ho,.inr ⟨i,rfl,fl⟩⟩
   unfold sX;have e1:(((i+1:Nat)):Int) - 1=(i:Int):=by omega
   generalize (ws++[w]).map (Aj P)=V at *;generalize (AZ M::l).map Ag=D at *;generalize CU M=A at *
   simp![sp,AX _ sp,si,AE _ si,sn,AX _ sn,et,HJ,vl,sw',AE _ sw',e1,la,sl,AE _ sl,show(-(1:Int))=-1 from rfl]
  |some s' =>
   rw[q]at et;have ok:=XS h hs.1 hs.2 q;have fl:=Rb hx (by rw[es];exact q)
   have gl:(l++[s']).getLastD (AZ M)=s':=by simp
   refine⟨sX ns u P M al x1 x2 x6 (some (Ag s')) (some (.own ((ws++[w]).map (Aj P)))) (some (.own ((AZ M::(l++[s'])).map Ag))) (some .non) (some (.int c)) (some (E5 w)),?_,ws++[w],l++[s'],_,_,_,by rw[gl],lw,by rw[yaz];simp;omega,λx hx=>?_,.inl ⟨rfl,fl⟩⟩
   .have si':=Cv s'.2;have md:(AZ M::(l++[s'])).map Ag=(AZ M::l).map Ag++[Ag s']:=by rw[<- ybr,ybx];rfl
    rw[md];unfold sX;generalize (ws++[w]).map (Aj P)=V at *;generalize (AZ M::l).map Ag=D at *;generalize CU M=A at *
    simp![sp,AX _ sp,si,AE _ si,sn,AX _ sn,et,HJ,si',AE _ si',dl]
   .rw[<- ybr]at hx
    rcases ybb.mp hx with hx|hx
    .exact ho x hx
    .rw[yab.mp hx];exact ok
 .refine⟨sX ns u P M al x1 x2 x6 (some (Ag s)) (some (.own ((ws++[w]).map (Aj P)))) (some (.own ((AZ M::l).map Ag))) (some (.int (k:Int))) (some (.int c)) (some (E5 w)),?_,ws++[w],l,_,_,_,by rw[es],lw,by omega,ho,.inr ⟨k,rfl,Rf hx⟩⟩
  unfold sX
  simp![]
theorem at3{α:Type}{a b c d:α}{l:List α}:A6 (a::b::c::d::l) (3:Int)=some d:=CH rfl
theorem at4{α:Type}{a b c d e:α}{l:List α}:A6 (a::b::c::d::e::l) (4:Int)=some e:=CH rfl
theorem zko{M:Mc}(h:McOk M):(EI M).age=CU M:=by
 have a:Ar (M.rs.map Az)=M.rs.map DS:=by
  rw[Cf,yaq];refine yb2 λr hr=>?_
  show T.tup [.str r.1,AW (Ar r.2)]=_;rw[(h.r.lk r hr).1.age]
 have b:Ar (M.ds.map DB)=M.ds.map Dy:=by
  rw[Cf,yaq];refine yb2 λd hd=>?_
  show T.tup [.str d.s,.str d.e,AW (Ar d.g),AW (Ar (d.n.map T.str)),.str d.z]=_;rw[(h.d d hd).g.age,Hh]
 show T.tup [AW (Ar (M.ws.map T.str)),AW (Ar (M.rs.map Az)),AW (Ar (M.ds.map DB))]=_;rw[Hh,a,b]
theorem pt_sh{M:Mc}(h:McOk M):(EI M).sh=true:=by
 have a:=IM h.r;have b:=O3 h
 simp![a,b,AU]
abbrev HB(ns:List Int)(nms:List Str)(c u P:Int)(x5 x6 x7 x8 x9 x10 x11 x12 x13 x14:Option T):AM:=[some (BF ns),some (.lst (nms.map T.str)),some (.int c),some (.int u),some (.int P),x5,x6,x7,x8,x9,x10,x11,x12,x13,x14]
theorem law_true(ns:List Int)(hns:ns.length<=63):LV [BF ns]=some (.ok (.bl true)):=by
 have F:=zd5 ns;have F2:=zb5 ns;have c0:=Hg ns (k:=0) (by decide)
 have c3:=Hg ns (k:=3) (by decide)
 have c4:=Hg ns (k:=4) (by decide)
 generalize ns.getD (0:Int).toNat 0=cn at *;generalize ns.getD (3:Int).toNat 0=c at *;generalize ns.getD (4:Int).toNat 0=d at *;obtain⟨u,u0,eu⟩:=zgq c;obtain⟨P,p1,p2,eP⟩:=zf7 (c.fdiv 3) (c.fdiv 12);have en:=zfg cn (m:=12) (by decide)
 obtain⟨nms,hn⟩:∃nms,(List.range 12).map (Dn cn)=nms:=⟨_,rfl⟩
 have en:JW [.int cn,.int 12]=some (.ok (.own (nms.map T.str))):=by
  rw[<- hn,yaq];exact en
 have nl:nms.length=12:=by rw[<- hn,ya1,ybf]
 have hs:∀x∈nms,GD x:=λx hx=>by
  rw[<- hn]at hx;obtain⟨k,_,rfl⟩:=yao.mp hx;exact zlj cn k
 have nd:nms.Nodup:=by
  rw[<- hn];refine List.pairwise_map.mpr ((List.nodup_range (n:=12)).imp_of_mem λ{a b} ha hb hab e=>hab (zff (by have:=ybq.mp ha;omega) (by have:=ybq.mp hb;omega) e))
 obtain⟨M,h,em⟩:=zic ns nl hs nd u0;have mi:=zi7 h;have sd:=O3 h;have sr:=IM h.r;have rl:=h.r.l64;have dl:=h.dl;have wl:=h.wl;have l1:M.ds.length<=100000:=by omega
 have l2:M.rs.length<=100000:=by omega
 have l3:M.ws.length<=100000:=by omega
 have sp:=pt_sh h
 have Fs:Bd (AF 0) (mC (.bl true)) Om (M.ds.map DB) [none]=some (M.ds.map B5):=DI DB B5 (λτ=>∃a,τ=[a]) _ _ ⟨none,rfl⟩ λd hd τ hI=>by
  obtain⟨a,rfl⟩:=hI;have k:=h.d d hd;have sg:=k.g.sh;have di:=di_ok k;exact⟨[some (DB d)],by simp![],by unfold Om;simp![sg,AE _ sg,AU,A8,at3,at4,di],_,rfl⟩
 have lc2:Bd (BX 2 (Ac (AF 0) (Ac (AF 1) B7))) (mC (.bl true)) Ol (M.rs.map Az) [none,none]=some (M.rs.map Az):=DI Az Az (λτ=>∃a b,τ=[a,b]) _ _ ⟨none,none,rfl⟩ λr hr τ hI=>by
  obtain⟨a,b,rfl⟩:=hI;have sg:=(h.r.lk r hr).1.sh;exact⟨[some (.str r.1),some (.lst r.2)],by simp![],by unfold Ol;simp![sg,AE _ sg],_,_,rfl⟩
 have s1:An (M.ds.map B5)=true:=h.sd;have ss:=h.ss;have so:=MJ p1 h;have sm:=Cr h;have sR:=IS h;have n0:=Mu h;have v0:(AZ M).2.length=M.ws.length:=ya1 _;have sa:=MR p1 p2 (s:=AZ M) (h.tn _ n0) (by rw[v0];omega) (κ:=.lst) (.inl rfl)
 obtain⟨r,rs,er⟩:=List.exists_cons_of_ne_nil (show M.rs≠[] from λz=>by have:=h.r.l1;rw[z]at this;cases this)
 have a0:A6 (M.rs.map DS) 0=some (DS r):=CH (j:=0) (by rw[er];rfl)
 have sg:An r.2=true:=(h.r.lk r (by rw[er];exact ya5 ..)).1.sh
 have hg:Bk M.ws Cj r.2:=(h.r.lk r (by rw[er];exact ya5 ..)).1.wide II
 have e0:AZ M=(r.1,M.ws.map λ_=>(0:Int)):=by
  unfold AZ Mc.nm;rw[er]
  rfl
 have lg:r.2.all (CN P M.ws (AZ M).2)=Bu P M (AZ M).1 (AZ M).2:=by
  unfold Bu
  congr 1
  rw[e0];unfold Cn;rw[er];simp
 have mt:=K1 p1 p2 (ws:=M.ws) wl v0 hg;rw[lg]at mt
 have lz:Bd (AF 0) (mC (.bl true)) Oj (M.ws.map T.str) [none]=some ((M.ws.map λ_=>(0:Int)).map T.int):=by
  rw[yaq];refine DI T.str _ (λτ=>∃x,τ=[x]) M.ws [none] ⟨none,rfl⟩ λw _ τ hI=>?_
  obtain⟨x,rfl⟩:=hI;exact⟨[some (.str w)],by simp![],by unfold Oj;simp![];rfl,_,rfl⟩
 have p40:(0:Int)<=40/\(40:Int)<=1000000/\Dg 10=true:=⟨by decide,by decide,C6 (by decide) (by decide)⟩
 have p15:(0:Int)<=15/\(15:Int)<=1000000/\Dg 10=true:=⟨by decide,by decide,C6 (by decide) (by decide)⟩
 have r40:(40:Int).toNat=40:=rfl;have r15:(15:Int).toNat=15:=rfl;have n40:¬ (10:Int) ^ 40=0:=by decide
 have n15:¬ (10:Int) ^ 15=0:=by decide
 have k40:BZ (10 ^ 40)=true:=Bs (by decide) (by decide)
 have k15:BZ (10 ^ 15)=true:=Bs (by decide) (by decide)
 have k3:BZ 3=true:=Bs (by decide) (by decide)
 have k4:BZ 4=true:=Bs (by decide) (by decide)
 have k6:BZ 6=true:=Bs (by decide) (by decide)
 have k11:BZ 11=true:=Bs (by decide) (by decide)
 have k12:BZ 12=true:=Bs (by decide) (by decide)
 have run:K6 [some (BF ns),none,none,none,none,none,none,none,none,none,none,none,none,none,none]=some (.rt (.bl true)):=by
  unfold K6;refine sq (τ':=[some (BF ns),some (.lst (nms.map T.str)),none,none,none,none,none,none,none,none,none,none,none,none,none]) (by generalize BF ns=S at *;simp![F,F2,c0,en,A8,AU]) ?_
  refine sq (τ':=[some (BF ns),some (.lst (nms.map T.str)),some (.int c),none,none,none,none,none,none,none,none,none,none,none,none]) (by generalize BF ns=S at *;simp![F,F2,c3]) ?_
  refine sq (τ':=[some (BF ns),some (.lst (nms.map T.str)),some (.int c),some (.int u),none,none,none,none,none,none,none,none,none,none,none]) (by simp![k3,k6,p40,r40,n40,k40,p15,r15,n15,k15,eu]) ?_
  refine sq (τ':=HB ns nms c u P none none none none none none none none none none) (by simp![k3,k4,k11,k12,eP]) ?_
  refine sq (τ':=HB ns nms c u P (some (EI M)) none none none none none none none none none) (by unfold HB;generalize BF ns=S at *;generalize EI M=A at *;simp![F,F2,AU,A8,em,sp,AX _ sp]) ?_
  refine sq (τ':=HB ns nms c u P (some (EI M)) (some (.lst (M.ds.map B5))) none none none none none none none none) (by simp![sd,AE _ sd,sr,AE _ sr,AU,A8,ya1,l1,Fs,s1,AE _ s1]) ?_
  refine sq (τ':=HB ns nms c u P (some (EI M)) (some (.lst (M.ds.map B5))) (some (HP M)) none none none none none none none) (by simp![sd,AE _ sd,sr,AE _ sr,AU,A8,ya1,l2,l3,lc2,s1,AE _ s1,ss,AE _ ss,mi,Dh]) ?_
  unfold GV
  have ag:(HB ns nms c u P (some (EI M)) (some (.lst (M.ds.map B5))) (some (HP M)) none none none none none none none).map (Option.map T.age)=[some (BF ns),some (T.lst (nms.map T.str)).age,some (.int c),some (.int u),some (.int P),some (CU M),some (T.lst (M.ds.map B5)).age,some (Ah M),none,none,none,none,none,none,none]:=by
   have a1:(BF ns).age=BF ns:=by
    unfold BF;show AW (Ar (ns.map T.int))=_;rw[Cf,yaq]
    rfl
   have a2:=zko h;have a3:=zid h;show [some (BF ns).age,some _,some _,some _,some _,some (EI M).age,some _,some (HP M).age,none,none,none,none,none,none,none]=_;rw[a1,a2,a3]
   rfl
  rw[ag];generalize (T.lst (nms.map T.str)).age=y1;generalize (T.lst (M.ds.map B5)).age=y6;obtain⟨al,ha⟩:∃al,decide (0<d.fmod 4)=al:=⟨_,rfl⟩;have sz:=Cv (AZ M).2;have srR:=HF h;have sdR:=Hf h;refine sq (τ':=sX ns u P M al (some y1) (some (.int c)) (some y6) none none none none none none) (by unfold sX;generalize BF ns=S at *;generalize CU M=A at *;generalize Ah M=W at *;simp![F,F2,c4,k4,ha]) ?_
  refine sq (τ':=sX ns u P M al (some y1) (some (.int c)) (some y6) (some (Ag (AZ M))) none none none none none) (by
   rw[e0];rw[e0]at sz;unfold sX;generalize BF ns=S at *;generalize Ah M=W at *
   simp![srR,AE _ srR,sdR,AE _ sdR,AU,A8,a0,sg,AE _ sg,ya1,l3,lz,sz,AE _ sz]) ?_
  refine sq (τ':=sX ns u P M al (some y1) (some (.int c)) (some y6) (some (Ag (AZ M))) (some (.own [])) none none none none) (by simp![]) ?_
  refine sq (τ':=sX ns u P M al (some y1) (some (.int c)) (some y6) (some (Ag (AZ M))) (some (.own [])) (some (.own [Ag (AZ M)])) none none none) (by simp![sz,AE _ sz]) ?_
  refine sq (τ':=sX ns u P M al (some y1) (some (.int c)) (some y6) (some (Ag (AZ M))) (some (.own [])) (some (.own [Ag (AZ M)])) (some .non) none none) (by simp![]) ?_
  refine sq (τ':=sX ns u P M al (some y1) (some (.int c)) (some y6) (some (Ag (AZ M))) (some (.own [])) (some (.own [Ag (AZ M)])) (some .non) none none) (by
   unfold sX;generalize BF ns=S at *;generalize Ah M=W at *;generalize CU M=A at *;have sQ':=Er P (AZ M);generalize A7 P (AZ M)=Q at *
   simp![sm,AX _ sm,so,sQ',AX _ sQ',sz,AE _ sz,sa]) ?_
  cases hl:Bu P M (AZ M).1 (AZ M).2 with
  |false =>
   rw[hl]at mt;have X1:(T.lst []).sh=true:=rfl;have X2:(T.lst [T.tup [.tup [.int 0,.int 1],.non]]).sh=true:=rfl;have f1:EZ [Ah M,T.lst [],.int 0,.bl al]=some (.ok (.int 0)):=KL (P:=P) (R:=.inr 0) h X1 (MK p1 p2 h X1 hl) (Px p1 p2 h X1 hl) (.inl rfl);have f2:EZ [Ah M,T.lst [T.tup [.tup [.int 0,.int 1],.non]],.int 1,.bl al]=some (.ok (.int 0)):=KL (P:=P) (R:=.inr 0) h X2 (MK p1 p2 h X2 hl) (Px p1 p2 h X2 hl) (.inr rfl);have g0:BL (.int 0) (.int 0)=some (.bl false):=by rfl
   have g1:BJ (.int 0) (.int 0)=some (.bl true):=Ce;unfold sX;generalize Ah M=W at *;generalize BF ns=S at *
   simp![srR,AE _ srR,sdR,AE _ sdR,AU,A8,a0,sg,AE _ sg,sm,AX _ sm,sz,AE _ sz,mt,f1,f2,g0,g1]
  |true =>
   rw[hl]at mt
   refine sq (τ':=sX ns u P M al (some y1) (some (.int c)) (some y6) (some (Ag (AZ M))) (some (.own [])) (some (.own [Ag (AZ M)])) (some .non) none none) (by
    unfold sX;generalize Ah M=W at *;generalize BF ns=S at *
    simp![srR,AE _ srR,sdR,AE _ sdR,AU,A8,a0,sg,AE _ sg,sm,AX _ sm,sz,AE _ sz,mt]) ?_
   obtain⟨L,hL⟩:∃L,CY ns (some 5) (some (5+(d.fdiv 4).fmod 15))=L:=⟨_,rfl⟩;have lL:L.length<=63:=by rw[<- hL];exact yah (zj5 _ _ _) hns
   have eL:CY (ns.map T.int) (some 5) (some (5+(d.fdiv 4).fmod 15))=L.map T.int:=by rw[Wd,hL]
   obtain⟨τ',ef,ws,l,bad,x13,x14,rfl,hw,hl',ho,hb⟩:=FO (b:=AF 13) (body:=IA) (ts:=L.map T.int) (τ:=sX ns u P M al (some y1) (some (.int c)) (some y6) (some (Ag (AZ M))) (some (.own [])) (some (.own [Ag (AZ M)])) (some .non) none none)
    (Pg ns u P M al (some y1) (some (.int c)) (some y6)) ⟨[],[],.non,none,none,rfl,rfl,yac 0,λs hs=>by rw[yab.mp hs];exact⟨n0,v0⟩,.inl ⟨rfl,rfl⟩⟩ λi t τ h1 I=>by
     rw[ya3]at h1;obtain⟨x,hx,rfl⟩:=yaa.mp h1;have hi:=(ya9.mp hx).1;exact zmq p1 p2 u0 h (by omega) x I
   rw[ya1]at hw hl';have c4':DO [.nd false .rl (ns.map T.int),.int 4]=some (.ok (.int d)):=c4;have sw:=F9 P ws;have sl:=KQ (AZ M::l)
   refine sq (τ':=sX ns u P M al (some y1) (some (.int c)) (some y6) (some (Ag (l.getLastD (AZ M)))) (some (.own (ws.map (Aj P)))) (some (.own ((AZ M::l).map Ag))) (some bad) x13 x14) (by
    have ef':=ef
    clear ag
    unfold sX BF at ef' ⊢;generalize Ah M=W at *;generalize CU M=A at *
    simp![c4',Eu,Et,k4,eL,ef']) ?_
   rcases hb with ⟨rfl,hx⟩|⟨k,rfl,hx⟩
   .have wk:=zgp p1 p2 h (ws:=ws) (by omega) (l:=l) (by omega) (al:=al) (by unfold E3;rw[if_pos hl,hx]) ho
    unfold sX
    clear ag
    generalize (AZ M::l).map Ag=D at *;generalize ws.map (Aj P)=V at *;generalize Ah M=W at *
    simp![GS,sm,AX _ sm,sw,AE _ sw,sl,AE _ sl,wk]
   .have wk:=zjg p1 p2 h (ws:=ws) (by omega) (K:=AZ M::l) (al:=al) (k:=k) (by unfold E3;rw[if_pos hl,hx])
    unfold sX
    clear ag
    generalize (AZ M::l).map Ag=D at *;generalize ws.map (Aj P)=V at *;generalize Ah M=W at *
    simp![GS,sm,AX _ sm,sw,AE _ sw,sl,AE _ sl,wk]
 unfold LV;generalize BF ns=S at *
 simp![F,F2,run]
end
end Zl
namespace Zl
open PySem PySem.W L2 Zw Zx Pu Hd
abbrev pw:Program:=PySem.Challenge.pw_zonewalk_k31_runs_walked
abbrev M7:OpenLaw:=PySem.Challenge.rw_zonewalk_k31_runs_walked
abbrev md:String:="__module__"
abbrev fl:String:="__firstlineno__"
abbrev sa:String:="__static_attributes__"
abbrev dc:String:="__doc__"
noncomputable abbrev cf:Str:="/claim/cut.py"
noncomputable def tO(l:List Value):Obj:=⟨(.type "tuple"),none,(.seq (Array.mk l) 0),Array.mk []⟩
noncomputable def dO(l:List DictEntry)(n:Nat):Obj:=⟨(.type "dict"),none,(.dict (Array.mk l) n),Array.mk []⟩
def eb:List Value:=[(.type "ValueError"),(.type "Exception"),(.type "BaseException"),(.type "object")]
noncomputable def yO(a:Str)(b c:List Value)(n:Addr)(d:List Value)(r ta tb:Nat)(w:String):Obj:=⟨(.type "type"),none,(.cls ⟨a,b,c,n,a,true,[],d,false,none,false⟩),Array.mk [(some (.ref r)),none,(some (.str a ta)),(some (.str a tb)),(some (.builtin w)),(some (.bool true))]⟩
def cP(a:Str)(ta:Nat)(b:Str)(tb tf:Nat)(r n k:Int)(r1:Nat)(z:Int)(v1 v2 v3 v4 v5:Value)(x y:Int)(tg:Nat):Obj:=⟨(.type "code"),none,(.fields (Array.mk [(.str a ta),(.str b tb),(.str cf tf),(.int r 0),(.int n 0),(.int 0 0),(.int 0 0),(.int k 0),(.ref r1),(.bool true),(.int z 0),v1,v2,v3,v4,v5,(.int x 0),(.int y 0),(.str cf tg)])),Array.mk []⟩
noncomputable def cO(a:Str)(ta tb tf:Nat)(r n k:Int)(r1:Nat)(z:Int)(r2 r3 r4 r5:Nat)(x y:Int)(tg:Nat):Obj:=cP a ta a tb tf r n k r1 z (.ref r2) .none (.ref r3) (.ref r4) (.ref r5) x y tg
def fO(a b:Str)(s:Stmt)(d:Value)(m:Str)(t c:Nat)(y:Value):Obj:=⟨(.type "function"),none,(.func (fnOf a b (Fz s) (DM s) (Bf s) d .none .none (.str m t) none (.ref c) y)),Array.mk []⟩
def gO(a:Str)(s:Stmt)(m:Str)(t c:Nat):Obj:=fO a a s .none m t c .none
def o2(P:Params):Obj:=⟨.none,none,(.dict (Array.mk []) 0),Array.mk []⟩
def o3(P:Params):Obj:=dO [en P "__name__" 165 (.str "law_zonewalk_k31_runs_walked" 661),en P "__doc__" 166 .none,en P "__package__" 167 .none,en P "__loader__" 168 (.builtin "__main__.__loader__#opaque"),en P "__spec__" 169 .none,en P "__annotations__" 170 (.ref 6),en P "__builtins__" 171 (.ref 4),en P "__file__" 173 (.str "/claim/cut.py" 172),en P "__cached__" 174 .none,en P "WalkError" 206 (.ref 24),en P "NoNumber" 222 (.ref 37),en P "BadMachine" 238 (.ref 49),en P "TooMany" 254 (.ref 61),en P "NoRun" 279 (.ref 80),en P "NoMark" 295 (.ref 92),en P "is_whole" 304 (.ref 101),en P "greatest_divisor" 315 (.ref 108),en P "fraction" 325 (.ref 116),en P "plus" 333 (.ref 123),en P "under" 341 (.ref 130),en P "WORDS" 349 (.ref 131),en P "STAY_WORDS" 352 (.ref 132),en P "is_look" 361 (.ref 139),en P "is_number" 368 (.ref 146),en P "is_guard" 374 (.ref 151),en P "stands_so" 386 (.ref 158),en P "MOST_WATCHES" 390 (.int 7 389),en P "MOST_ROOMS" 392 (.int 64 391),en P "MOST_DOORS" 394 (.int 200 393),en P "is_small_letter" 401 (.ref 165),en P "is_name" 407 (.ref 170),en P "is_watch_name" 414 (.ref 177),en P "is_room_name" 420 (.ref 182),en P "is_sign" 427 (.ref 189),en P "own_copy" 434 (.ref 196),en P "Door" 486 (.ref 228),en P "Machine" 552 (.ref 282),en P "check_watches" 558 (.ref 291),en P "are_unlike" 565 (.ref 298),en P "check_rooms" 571 (.ref 303),en P "check_doors" 581 (.ref 310),en P "are_noughts" 587 (.ref 315),en P "placed" 593 (.ref 320),en P "holds" 601 (.ref 325),en P "nought_places" 609 (.ref 330),en P "start" 617 (.ref 335),en P "walked" 626 (.ref 343),en P "stands" 639 (.ref 351),en P "is_legal" 648 (.ref 358),en P "stand_behind" 654 (.ref 363),en P "stand_beyond" 660 (.ref 368),en P "_law_cell_at" 670 (.ref 375),en P "_law_stream" 682 (.ref 382),en P "_law_draws" 691 (.ref 389),en P "_law_names" 707 (.ref 396),en P "_law_looks" 721 (.ref 403),en P "_law_machine" 727 (.ref 408),en P "_law_met" 743 (.ref 415),en P "_law_stay" 749 (.ref 420),en P "_law_step" 755 (.ref 425),en P "_law_drawn" 772 (.ref 432),en P "_law_divisor" 780 (.ref 439),en P "_law_fraction" 789 (.ref 446),en P "_law_same" 795 (.ref 451),en P "_law_refused" 808 (.ref 458),en P "_law_walked" 814 (.ref 463),en P "law" 820 (.ref 468)] 67
def o15(P:Params):Obj:=tO [(.type "ValueError")]
def o22(P:Params):Obj:=tO []
def o23(P:Params):Obj:=dO [en P md 196 (.str "zonewalk.errors" 187),en P fl 200 (.int 2 199),en P sa 201 (.ref 22),en P "__weakref__" 203 (.ref 25),en P dc 204 .none] 3
def o24(P:Params):Obj:=yO "WalkError" [(.type "ValueError")] ([(.ref 24)]++eb) 23 [(.ref 37),(.ref 49),(.ref 61),(.ref 80),(.ref 92)] 15 189 197 "ValueError.__new__"
def o25(P:Params):Obj:=⟨(.type "getset_descriptor"),none,(.fields (Array.mk [(.str "__weakref__" 202),(.ref 24),(.builtin "ExceptionGroup.__weakref__"),.none])),Array.mk []⟩
def o28(P:Params):Obj:=tO [(.ref 24)]
def o35(P:Params):Obj:=tO []
def o36(P:Params):Obj:=dO [en P md 214 (.str "zonewalk.errors" 187),en P fl 218 (.int 4 217),en P sa 219 (.ref 35),en P dc 220 .none] 2
def o37(P:Params):Obj:=yO "NoNumber" [(.ref 24)] ([(.ref 37),(.ref 24)]++eb) 36 [] 28 207 215 "ValueError.__new__"
def o40(P:Params):Obj:=tO [(.ref 24)]
def o47(P:Params):Obj:=tO []
def o48(P:Params):Obj:=dO [en P md 230 (.str "zonewalk.errors" 187),en P fl 234 (.int 6 233),en P sa 235 (.ref 47),en P dc 236 .none] 2
def o49(P:Params):Obj:=yO "BadMachine" [(.ref 24)] ([(.ref 49),(.ref 24)]++eb) 48 [] 40 223 231 "ValueError.__new__"
def o52(P:Params):Obj:=tO [(.ref 24)]
def o59(P:Params):Obj:=tO []
def o60(P:Params):Obj:=dO [en P md 246 (.str "zonewalk.errors" 187),en P fl 250 (.int 8 249),en P sa 251 (.ref 59),en P dc 252 .none] 2
def o61(P:Params):Obj:=yO "TooMany" [(.ref 24)] ([(.ref 61),(.ref 24)]++eb) 60 [] 52 239 247 "ValueError.__new__"
def o64(P:Params):Obj:=tO [(.ref 24)]
def o76(P:Params):Obj:=cP "__init__" 267 "NoRun.__init__" 268 269 12 2 3 71 181 (.ref 72) .none (.ref 73) (.ref 74) (.ref 75) 272 12 273
def TK(_:Params):=fO "__init__" "NoRun.__init__" (CV 5 0) .none "zonewalk.errors" 187 76 .none
def o78(P:Params):Obj:=tO [(.str "step" 275)]
def o79(P:Params):Obj:=dO [en P md 262 (.str "zonewalk.errors" 187),en P fl 266 (.int 10 265),en P "__init__" 274 (.ref 77),en P sa 276 (.ref 78),en P dc 277 .none] 2
def o80(P:Params):Obj:=yO "NoRun" [(.ref 24)] ([(.ref 80),(.ref 24)]++eb) 79 [] 64 255 263 "ValueError.__new__"
def o83(P:Params):Obj:=tO [(.ref 24)]
def o90(P:Params):Obj:=tO []
def o91(P:Params):Obj:=dO [en P md 287 (.str "zonewalk.errors" 187),en P fl 291 (.int 14 290),en P sa 292 (.ref 90),en P dc 293 .none] 2
def o92(P:Params):Obj:=yO "NoMark" [(.ref 24)] ([(.ref 92),(.ref 24)]++eb) 91 [] 83 280 288 "ValueError.__new__"
def o100(_:Params):=cO "is_whole" 298 299 300 17 1 3 95 181 96 97 98 99 302 17 303
def UW(_:Params):=gO "is_whole" (AQ 8) "zonewalk.fractions" 296 100
def o107(_:Params):=cO "greatest_divisor" 305 306 307 19 2 3 102 181 103 104 105 106 313 19 314
def UU(_:Params):=gO "greatest_divisor" (AQ 9) "zonewalk.fractions" 296 107
def UT(P:Params):Obj:=tO [(.int 1 316)]
def o115(_:Params):=cO "fraction" 317 318 319 27 2 3 110 181 111 112 113 114 323 27 324
def US(_:Params):=fO "fraction" "fraction" (AQ 10) (.ref 109) "zonewalk.fractions" 296 115 .none
def o122(_:Params):=cO "plus" 326 327 328 36 2 3 117 181 118 119 120 121 331 36 332
def UR(_:Params):=gO "plus" (AQ 11) "zonewalk.fractions" 296 122
def o129(_:Params):=cO "under" 334 335 336 38 2 3 124 181 125 126 127 128 339 38 340
def UQ(_:Params):=gO "under" (AQ 12) "zonewalk.fractions" 296 129
def Mn(P:Params):Obj:=tO [(.str "<" 344),(.str "<=" 345),(.str ">" 346),(.str ">=" 347),(.str "=" 348)]
def UP(P:Params):Obj:=tO [(.str "<" 350),(.str "<=" 351)]
def o138(_:Params):=cO "is_look" 353 354 355 43 3 3 133 181 134 135 136 137 359 43 360
def UO(_:Params):=gO "is_look" (AQ 16) "zonewalk.looks" 342 138
def o145(_:Params):=cO "is_number" 362 363 364 47 1 3 140 181 141 142 143 144 366 47 367
def UN(_:Params):=gO "is_number" (AQ 17) "zonewalk.looks" 342 145
def o150(P:Params):Obj:=cP "is_guard" 369 "is_guard" 370 371 49 3 3 147 181 (.ref 148) .none .none .none (.ref 149) 372 49 373
def UM(_:Params):=gO "is_guard" (AQ 18) "zonewalk.looks" 342 150
def o157(_:Params):=cO "stands_so" 375 376 377 51 3 3 152 181 153 154 155 156 384 51 385
def UL(_:Params):=gO "stands_so" (AQ 19) "zonewalk.looks" 342 157
def o164(_:Params):=cO "is_small_letter" 395 396 397 68 1 3 159 181 160 161 162 163 399 68 400
def UK(_:Params):=gO "is_small_letter" (AQ 24) "zonewalk.machines" 387 164
def o169(P:Params):Obj:=cP "is_name" 402 "is_name" 403 404 70 1 3 166 181 (.ref 167) .none .none .none (.ref 168) 405 70 406
def UJ(_:Params):=gO "is_name" (AQ 25) "zonewalk.machines" 387 169
def o176(_:Params):=cO "is_watch_name" 408 409 410 72 1 3 171 181 172 173 174 175 412 72 413
def UI(_:Params):=gO "is_watch_name" (AQ 26) "zonewalk.machines" 387 176
def o181(P:Params):Obj:=cP "is_room_name" 415 "is_room_name" 416 417 74 1 3 178 181 (.ref 179) .none .none .none (.ref 180) 418 74 419
def UH(_:Params):=gO "is_room_name" (AQ 27) "zonewalk.machines" 387 181
def o188(_:Params):=cO "is_sign" 421 422 423 78 1 3 183 181 184 185 186 187 425 78 426
def UG(_:Params):=gO "is_sign" (AQ 28) "zonewalk.machines" 387 188
def o195(_:Params):=cO "own_copy" 428 429 430 82 1 3 190 181 191 192 193 194 432 82 433
def UE(_:Params):=gO "own_copy" (AQ 29) "zonewalk.machines" 387 195
def UD(P:Params):Obj:=tO [(.str "" 447)]
def o210(P:Params):Obj:=cP "__init__" 448 "Door.__init__" 449 450 86 6 3 205 181 (.ref 206) .none (.ref 207) (.ref 208) (.ref 209) 457 86 458
def UC(_:Params):=fO "__init__" "Door.__init__" (CV 30 0) (.ref 204) "zonewalk.machines" 387 210 .none
def o217(P:Params):Obj:=cP "asks" 460 "Door.asks" 461 462 93 1 3 212 181 (.ref 213) .none (.ref 214) (.ref 215) (.ref 216) 464 93 465
def UB(_:Params):=fO "asks" "Door.asks" (CV 30 1) .none "zonewalk.machines" 387 217 .none
def o224(P:Params):Obj:=cP "sets" 467 "Door.sets" 468 469 96 1 3 219 181 (.ref 220) .none (.ref 221) (.ref 222) (.ref 223) 471 96 472
def UA(_:Params):=fO "sets" "Door.sets" (CV 30 2) .none "zonewalk.machines" 387 224 .none
def o226(P:Params):Obj:=tO [(.str "end" 474),(.str "guard" 475),(.str "noughts" 476),(.str "sign" 477),(.str "start" 478)]
def o227(P:Params):Obj:=dO [en P md 442 (.str "zonewalk.machines" 387),en P fl 446 (.int 84 445),en P "__init__" 459 (.ref 211),en P "asks" 466 (.ref 218),en P "sets" 473 (.ref 225),en P sa 479 (.ref 226),en P "__dict__" 481 (.ref 229),en P "__weakref__" 483 (.ref 230),en P dc 484 .none] 4
noncomputable def o228(P:Params):Obj:=⟨(.type "type"),none,(.cls ⟨"Door",[(.type "object")],[(.ref 228),(.type "object")],227,"Door",true,[],[],false,none,false⟩),Array.mk [none,none,(some (.str "Door" 435)),(some (.str "Door" 443)),(some (.builtin "object.__new__")),(some (.bool true))]⟩
def o229(P:Params):Obj:=⟨(.type "getset_descriptor"),none,(.fields (Array.mk [(.str "__dict__" 480),(.ref 228),(.builtin "function.__dict__"),(.builtin "function.__dict__#set")])),Array.mk []⟩
def o230(P:Params):Obj:=⟨(.type "getset_descriptor"),none,(.fields (Array.mk [(.str "__weakref__" 482),(.ref 228),(.builtin "ExceptionGroup.__weakref__"),.none])),Array.mk []⟩
def o243(P:Params):Obj:=cP "__init__" 499 "Machine.__init__" 500 501 100 4 3 240 181 (.ref 241) .none .none .none (.ref 242) 502 100 503
def Tz(_:Params):=fO "__init__" "Machine.__init__" (CV 31 0) .none "zonewalk.machines" 387 243 .none
def o250(P:Params):Obj:=cP "watches" 505 "Machine.watches" 506 507 112 1 3 245 181 (.ref 246) .none (.ref 247) (.ref 248) (.ref 249) 509 112 510
def Tw(_:Params):=fO "watches" "Machine.watches" (CV 31 1) .none "zonewalk.machines" 387 250 .none
def o257(P:Params):Obj:=cP "rooms" 512 "Machine.rooms" 513 514 115 1 3 252 181 (.ref 253) .none (.ref 254) (.ref 255) (.ref 256) 516 115 517
def Tv(_:Params):=fO "rooms" "Machine.rooms" (CV 31 2) .none "zonewalk.machines" 387 257 .none
def o264(P:Params):Obj:=cP "doors" 519 "Machine.doors" 520 521 118 1 3 259 181 (.ref 260) .none (.ref 261) (.ref 262) (.ref 263) 523 118 524
def Tu(_:Params):=fO "doors" "Machine.doors" (CV 31 3) .none "zonewalk.machines" 387 264 .none
def o271(P:Params):Obj:=cP "stay" 526 "Machine.stay" 527 528 121 2 3 266 181 (.ref 267) .none (.ref 268) (.ref 269) (.ref 270) 531 121 532
def Tt(_:Params):=fO "stay" "Machine.stay" (CV 31 4) .none "zonewalk.machines" 387 271 .none
def o278(P:Params):Obj:=cP "watch_number" 534 "Machine.watch_number" 535 536 124 2 3 273 181 (.ref 274) .none (.ref 275) (.ref 276) (.ref 277) 539 124 540
def Ts(_:Params):=fO "watch_number" "Machine.watch_number" (CV 31 5) .none "zonewalk.machines" 387 278 .none
def o280(P:Params):Obj:=tO [(.str "door_list" 542),(.str "stays" 543),(.str "watch_names" 544)]
def o281(P:Params):Obj:=dO [en P md 494 (.str "zonewalk.machines" 387),en P fl 498 (.int 98 497),en P "__init__" 504 (.ref 244),en P "watches" 511 (.ref 251),en P "rooms" 518 (.ref 258),en P "doors" 525 (.ref 265),en P "stay" 533 (.ref 272),en P "watch_number" 541 (.ref 279),en P sa 545 (.ref 280),en P "__dict__" 547 (.ref 283),en P "__weakref__" 549 (.ref 284),en P dc 550 .none] 4
noncomputable def o282(P:Params):Obj:=⟨(.type "type"),none,(.cls ⟨"Machine",[(.type "object")],[(.ref 282),(.type "object")],281,"Machine",true,[],[],false,none,false⟩),Array.mk [none,none,(some (.str "Machine" 487)),(some (.str "Machine" 495)),(some (.builtin "object.__new__")),(some (.bool true))]⟩
def o283(P:Params):Obj:=⟨(.type "getset_descriptor"),none,(.fields (Array.mk [(.str "__dict__" 546),(.ref 282),(.builtin "function.__dict__"),(.builtin "function.__dict__#set")])),Array.mk []⟩
def o284(P:Params):Obj:=⟨(.type "getset_descriptor"),none,(.fields (Array.mk [(.str "__weakref__" 548),(.ref 282),(.builtin "ExceptionGroup.__weakref__"),.none])),Array.mk []⟩
def o290(P:Params):Obj:=cP "check_watches" 553 "check_watches" 554 555 126 1 3 287 181 (.ref 288) .none .none .none (.ref 289) 556 126 557
def Tr(_:Params):=gO "check_watches" (AQ 32) "zonewalk.machines" 387 290
def o297(_:Params):=cO "are_unlike" 559 560 561 131 1 3 292 181 293 294 295 296 563 131 564
def Tq(_:Params):=gO "are_unlike" (AQ 33) "zonewalk.machines" 387 297
def o302(P:Params):Obj:=cP "check_rooms" 566 "check_rooms" 567 568 133 2 3 299 181 (.ref 300) .none .none .none (.ref 301) 569 133 570
def Tp(_:Params):=gO "check_rooms" (AQ 34) "zonewalk.machines" 387 302
def o309(_:Params):=cO "check_doors" 572 573 574 143 3 3 304 181 305 306 307 308 579 143 580
def To(_:Params):=gO "check_doors" (AQ 35) "zonewalk.machines" 387 309
def o314(P:Params):Obj:=cP "are_noughts" 582 "are_noughts" 583 584 155 2 3 311 181 (.ref 312) .none .none .none (.ref 313) 585 155 586
def Tn(_:Params):=gO "are_noughts" (AQ 36) "zonewalk.machines" 387 314
def o319(P:Params):Obj:=cP "placed" 588 "placed" 589 590 159 2 3 316 181 (.ref 317) .none .none .none (.ref 318) 591 159 592
def Tj(_:Params):=gO "placed" (AQ 37) "zonewalk.machines" 387 319
def o324(P:Params):Obj:=cP "holds" 596 "holds" 597 598 165 2 3 321 181 (.ref 322) .none .none .none (.ref 323) 599 165 600
def Ti(_:Params):=gO "holds" (AQ 39) "zonewalk.moves" 594 324
def o329(P:Params):Obj:=cP "nought_places" 604 "nought_places" 605 606 168 2 3 326 181 (.ref 327) .none .none .none (.ref 328) 607 168 608
def Th(_:Params):=gO "nought_places" (AQ 41) "zonewalk.plans" 602 329
def o334(P:Params):Obj:=cP "start" 612 "start" 613 614 171 1 3 331 181 (.ref 332) .none .none .none (.ref 333) 615 171 616
def Tg(_:Params):=gO "start" (AQ 43) "zonewalk.runner" 610 334
def Mm(P:Params):Obj:=tO [(.bool true)]
def o342(_:Params):=cO "walked" 618 619 620 173 3 3 337 181 338 339 340 341 624 173 625
def Tf(_:Params):=fO "walked" "walked" (AQ 44) (.ref 336) "zonewalk.runner" 610 342 .none
def Ml(P:Params):Obj:=tO [(.bool true)]
def o350(_:Params):=cO "stands" 627 628 629 175 3 3 345 181 346 347 348 349 637 175 638
noncomputable def Te(_:Params):=fO "stands" "stands" (AQ 45) (.ref 344) "zonewalk.runner" 610 350 .none
def o357(_:Params):=cO "is_legal" 640 641 642 186 3 3 352 181 353 354 355 356 646 186 647
def Td(_:Params):=gO "is_legal" (AQ 46) "zonewalk.runner" 610 357
def o362(P:Params):Obj:=cP "stand_behind" 649 "stand_behind" 650 651 188 4 3 359 181 (.ref 360) .none .none .none (.ref 361) 652 188 653
def Tc(_:Params):=gO "stand_behind" (AQ 47) "zonewalk.runner" 610 362
def o367(P:Params):Obj:=cP "stand_beyond" 655 "stand_beyond" 656 657 199 5 3 364 181 (.ref 365) .none .none .none (.ref 366) 658 199 659
def Ta(_:Params):=gO "stand_beyond" (AQ 48) "zonewalk.runner" 610 367
def o374(_:Params):=cO "_law_cell_at" 663 664 665 214 2 3 369 181 370 371 372 373 668 214 669
def T9(_:Params):=gO "_law_cell_at" (AQ 50) "law_zonewalk_k31_runs_walked" 661 374
def o381(_:Params):=cO "_law_stream" 671 672 673 218 2 3 376 181 377 378 379 380 680 218 681
def T8(_:Params):=gO "_law_stream" (AQ 51) "law_zonewalk_k31_runs_walked" 661 381
def o388(_:Params):=cO "_law_draws" 683 684 685 231 3 3 383 181 384 385 386 387 689 231 690
def T7(_:Params):=gO "_law_draws" (AQ 52) "law_zonewalk_k31_runs_walked" 661 388
def o395(_:Params):=cO "_law_names" 692 693 694 235 2 3 390 181 391 392 393 394 705 235 706
def T6(_:Params):=gO "_law_names" (AQ 53) "law_zonewalk_k31_runs_walked" 661 395
def o402(_:Params):=cO "_law_looks" 708 709 710 247 4 3 397 181 398 399 400 401 719 247 720
def T5(_:Params):=gO "_law_looks" (AQ 54) "law_zonewalk_k31_runs_walked" 661 402
def o407(P:Params):Obj:=cP "_law_machine" 722 "_law_machine" 723 724 255 3 3 404 181 (.ref 405) .none .none .none (.ref 406) 725 255 726
def T4(_:Params):=gO "_law_machine" (AQ 55) "law_zonewalk_k31_runs_walked" 661 407
def o414(_:Params):=cO "_law_met" 728 729 730 270 4 3 409 181 410 411 412 413 741 270 742
def T3(_:Params):=gO "_law_met" (AQ 56) "law_zonewalk_k31_runs_walked" 661 414
def o419(P:Params):Obj:=cP "_law_stay" 744 "_law_stay" 745 746 278 2 3 416 181 (.ref 417) .none .none .none (.ref 418) 747 278 748
def TZ(_:Params):=gO "_law_stay" (AQ 57) "law_zonewalk_k31_runs_walked" 661 419
def o424(P:Params):Obj:=cP "_law_step" 750 "_law_step" 751 752 280 5 3 421 181 (.ref 422) .none .none .none (.ref 423) 753 280 754
def TY(_:Params):=gO "_law_step" (AQ 58) "law_zonewalk_k31_runs_walked" 661 424
def o431(_:Params):=cO "_law_drawn" 756 757 758 298 6 3 426 181 427 428 429 430 770 298 771
def TX(_:Params):=gO "_law_drawn" (AQ 59) "law_zonewalk_k31_runs_walked" 661 431
def o438(_:Params):=cO "_law_divisor" 773 774 775 313 2 3 433 181 434 435 436 437 778 313 779
def TV(_:Params):=gO "_law_divisor" (AQ 60) "law_zonewalk_k31_runs_walked" 661 438
def o445(_:Params):=cO "_law_fraction" 781 782 783 317 2 3 440 181 441 442 443 444 787 317 788
def TU(_:Params):=gO "_law_fraction" (AQ 61) "law_zonewalk_k31_runs_walked" 661 445
def o450(P:Params):Obj:=cP "_law_same" 790 "_law_same" 791 792 320 3 3 447 181 (.ref 448) .none .none .none (.ref 449) 793 320 794
def TR(_:Params):=gO "_law_same" (AQ 62) "law_zonewalk_k31_runs_walked" 661 450
def o457(_:Params):=cO "_law_refused" 796 797 798 329 4 3 452 181 453 454 455 456 806 329 807
def TQ(_:Params):=gO "_law_refused" (AQ 63) "law_zonewalk_k31_runs_walked" 661 457
def o462(P:Params):Obj:=cP "_law_walked" 809 "_law_walked" 810 811 342 6 3 459 181 (.ref 460) .none .none .none (.ref 461) 812 342 813
def TN(_:Params):=gO "_law_walked" (AQ 64) "law_zonewalk_k31_runs_walked" 661 462
def o467(P:Params):Obj:=cP "law" 815 "law" 816 817 359 1 3 464 181 (.ref 465) .none .none .none (.ref 466) 818 359 819
def TM(_:Params):=gO "law" (AQ 65) "law_zonewalk_k31_runs_walked" 661 467
def Ha(P:Params):Frag:=[(2,o2 P),(3,o3 P),(15,o15 P),(22,o22 P),(23,o23 P),(24,o24 P),(25,o25 P),(28,o28 P),(35,o35 P),(36,o36 P),(37,o37 P),(40,o40 P),(47,o47 P),(48,o48 P),(49,o49 P),(52,o52 P),(59,o59 P),(60,o60 P),(61,o61 P),(64,o64 P),(76,o76 P),(77,TK P),(78,o78 P),(79,o79 P),(80,o80 P),(83,o83 P),(90,o90 P),(91,o91 P),(92,o92 P),(100,o100 P),(101,UW P),(107,o107 P),(108,UU P),(109,UT P),(115,o115 P),(116,US P),(122,o122 P),(123,UR P),(129,o129 P),(130,UQ P),(131,Mn P),(132,UP P),(138,o138 P),(139,UO P),(145,o145 P),(146,UN P),(150,o150 P),(151,UM P),(157,o157 P),(158,UL P),(164,o164 P),(165,UK P),(169,o169 P),(170,UJ P),(176,o176 P),(177,UI P),(181,o181 P),(182,UH P),(188,o188 P),(189,UG P),(195,o195 P),(196,UE P),(204,UD P),(210,o210 P),(211,UC P),(217,o217 P),(218,UB P),(224,o224 P),(225,UA P),(226,o226 P),(227,o227 P),(228,o228 P),(229,o229 P),(230,o230 P),(243,o243 P),(244,Tz P),(250,o250 P),(251,Tw P),(257,o257 P),(258,Tv P),(264,o264 P),(265,Tu P),(271,o271 P),(272,Tt P),(278,o278 P),(279,Ts P),(280,o280 P),(281,o281 P),(282,o282 P),(283,o283 P),(284,o284 P),(290,o290 P),(291,Tr P),(297,o297 P),(298,Tq P),(302,o302 P),(303,Tp P),(309,o309 P),(310,To P),(314,o314 P),(315,Tn P),(319,o319 P),(320,Tj P),(324,o324 P),(325,Ti P),(329,o329 P),(330,Th P),(334,o334 P),(335,Tg P),(336,Mm P),(342,o342 P),(343,Tf P),(344,Ml P),(350,o350 P),(351,Te P),(357,o357 P),(358,Td P),(362,o362 P),(363,Tc P),(367,o367 P),(368,Ta P),(374,o374 P),(375,T9 P),(381,o381 P),(382,T8 P),(388,o388 P),(389,T7 P),(395,o395 P),(396,T6 P),(402,o402 P),(403,T5 P),(407,o407 P),(408,T4 P),(414,o414 P),(415,T3 P),(419,o419 P),(420,TZ P),(424,o424 P),(425,TY P),(431,o431 P),(432,TX P),(438,o438 P),(439,TV P),(445,o445 P),(446,TU P),(450,o450 P),(451,TR P),(457,o457 P),(458,TQ P),(462,o462 P),(463,TN P),(467,o467 P),(468,TM P)]
noncomputable def fas:List Addr:=[2,3,15,22,23,24,25,28,35,36,37,40,47,48,49,52,59,60,61,64,76,77,78,79,80,83,90,91,92,100,101,107,108,109,115,116,122,123,129,130,131,132,138,139,145,146,150,151,157,158,164,165,169,170,176,177,181,182,188,189,195,196,204,210,211,217,218,224,225,226,227,228,229,230,243,244,250,251,257,258,264,265,271,272,278,279,280,281,282,283,284,290,291,297,298,302,303,309,310,314,315,319,320,324,325,329,330,334,335,336,342,343,344,350,351,357,358,362,363,367,368,374,375,381,382,388,389,395,396,402,403,407,408,414,415,419,420,424,425,431,432,438,439,445,446,450,451,457,458,462,463,467,468]
def vq:Program:={ pw with main:={ (pw).main with body:=[AQ 65] } }
noncomputable def loo:List Str:=["WalkError","NoNumber","BadMachine","TooMany","NoRun","NoMark","is_whole","greatest_divisor","fraction","plus","under","WORDS","STAY_WORDS","is_look","is_number","is_guard","stands_so","MOST_WATCHES","MOST_ROOMS","MOST_DOORS","is_small_letter","is_name","is_watch_name","is_room_name","is_sign","own_copy","Door","Machine","check_watches","are_unlike","check_rooms","check_doors","are_noughts","placed","holds","nought_places","start","walked","stands","is_legal","stand_behind","stand_beyond","_law_cell_at","_law_stream","_law_draws","_law_names","_law_looks","_law_machine","_law_met","_law_stay","_law_step","_law_drawn","_law_divisor","_law_fraction","_law_same","_law_refused","_law_walked"].map Str.ofString
abbrev hk:Hook:=kHook Ha fas (λ_=>by ext)
theorem zkb(w:World)(os:OsState):(go pw 3488 w os).map (λs=>Jv pw vq loo (xt M7.row.toRowW vq) hk.obs (boot_heap w.params) s.abs)=some (true,openGood vq loo,hk.val w):=by ext
theorem left:LeftO pw vq loo (xt M7.row.toRowW vq) hk.obs hk.val 7556 true:=zii 7556 3488 (by ext) (by decide) (λs=>by ext) (by decide) zkb
theorem said:M7.wellSaid=true:=zh5 (by ext)
abbrev fr(w:World):Frag:=Ha w.params
theorem all_mk{w:World}{h:Heap}{mg:Str->Option Value}{fa:Addr}(X:(Ha w.params).In h)(G:h.Ns mainGlobals mg)(hfa:mg "law"=some (.ref fa))
  : ∃fd:FuncData,(∀(s:Shared) (v:Value),BindsTo s fd ⟨[v],[]⟩ [("_law_script",v)])/\∀base:Heap,(Ha w.params).In base->base.Ns mainGlobals mg->FnOk pw w (Ha w.params) mg base J6 13 fa fd ["_law_script"] (Ju (Ha w.params)):=by
 have e:=hfa.symm.trans (mg_of X G (show nsIn (fr w) mainGlobals "law"=some (some (.ref 468)) by ext))
 cases e;have mK:∀(x:Str) (a:Addr),nsIn (fr w) mainGlobals x=some (some (.ref a))->mg x=some (.ref a):=λ_ _ e=>mg_of X G e
 have mC:∀(x:Str) (u:Value),nsIn (fr w) mainGlobals x=some (some u)->mg x=some u:=λ_ _ e=>mg_of X G e
 have mN:∀x:Str,nsIn (fr w) mainGlobals x=some none->mg x=none:=λ_ e=>mg_none_of X G e
 have kT:Cls (fr w) BC:=⟨by ext,by ext,by ext,by ext⟩
 have kX:∀f∈BP,Bz (fr w) BC f:=(AJ (by unfold Bz;ext) (AJ (by unfold Bz;ext) (AJ (by unfold Bz;ext) (AJ (by unfold Bz;ext) (AJ (by unfold Bz;ext) AL)))))
 have kU:Cls (fr w) Ak:=⟨by ext,by ext,by ext,by ext⟩
 have kY:∀f∈Ay,Bz (fr w) Ak f:=(AJ (by unfold Bz;ext) (AJ (by unfold Bz;ext) (AJ (by unfold Bz;ext) AL)))
 let ca:Str->Value:=λc=>if c="BadMachine" then .ref 49 else if c="TooMany" then .ref 61 else if c="NoNumber" then .ref 37 else if c="NoMark" then .ref 92 else if c="WalkError" then .ref 24 else if c="NoRun" then .ref 80 else .none
 have kK:=mN "len" (by ext)
 have kM:=mN "range" (by ext)
 have kI:=mN "int" (by ext)
 have kF:=mN "all" (by ext)
 have kJ:=mN "isinstance" (by ext)
 have kO:=mN "str" (by ext)
 have kG:=mN "bool" (by ext)
 have kP:=mN "tuple" (by ext)
 have kL:=mN "list" (by ext)
 have kN:=mN "set" (by ext)
 have kE:=mN "abs" (by ext)
 have kH:=mN "enumerate" (by ext)
 have kQ:=mN "zip" (by ext)
 have yg:specialIn (fr w) (.builtin "object.__class__") "__get__"=some (some (.builtin "getset_descriptor.__get__"))/\takesIn (fr w) (.builtin "object.__class__")=some true:=⟨by ext,by ext⟩
 let kZ:ECls (fr w) mg "BadMachine":=He yg 49 (mK _ _ (by ext)) (by ext)
 have k9:∃T:ECls (fr w) mg "BadMachine",ca "BadMachine"=.ref T.C/\Cw (fr w) T.C=some none:=⟨kZ,by rfl,by ext⟩
 let q9:ECls (fr w) mg "TooMany":=He yg 61 (mK _ _ (by ext)) (by ext)
 have kD:∃T:ECls (fr w) mg "TooMany",ca "TooMany"=.ref T.C/\Cw (fr w) T.C=some none:=⟨q9,by rfl,by ext⟩
 let qA:ECls (fr w) mg "NoNumber":=He yg 37 (mK _ _ (by ext)) (by ext)
 have kC:∃T:ECls (fr w) mg "NoNumber",ca "NoNumber"=.ref T.C/\Cw (fr w) T.C=some none:=⟨qA,by rfl,by ext⟩
 let qB:ECls (fr w) mg "NoMark":=He yg 92 (mK _ _ (by ext)) (by ext)
 have kA:∃T:ECls (fr w) mg "NoMark",ca "NoMark"=.ref T.C/\Cw (fr w) T.C=some none:=⟨qB,by rfl,by ext⟩
 let qC:ECls (fr w) mg "WalkError":=He yg 24 (mK _ _ (by ext)) (by ext)
 let qD:ECls (fr w) mg "NoRun":=He yg 80 (mK _ _ (by ext)) (by ext)
 have eK:∀C∈[24,37,49,61,80,92],ExcK (fr w) C:=(AJ qC.k (AJ qA.k (AJ kZ.k (AJ q9.k (AJ qD.k (AJ qB.k AL))))));have F20:=Cz (st:=M1) (show(fr w).lookup 211=some (UC w.params) by ext) (show codeIn (fr w) (.ref 210) "Door.__init__"=true by ext) (by ext)
 have F21:=Cz (st:=MY) (show(fr w).lookup 244=some (Tz w.params) by ext) (show codeIn (fr w) (.ref 243) "Machine.__init__"=true by ext) (by ext)
 have F22:=Cz (st:=MU) (show(fr w).lookup 251=some (Tw w.params) by ext) (show codeIn (fr w) (.ref 250) "Machine.watches"=true by ext) (by ext)
 have F23:=Cz (st:=MX) (show(fr w).lookup 258=some (Tv w.params) by ext) (show codeIn (fr w) (.ref 257) "Machine.rooms"=true by ext) (by ext)
 have F24:=Cz (st:=MZ) (show(fr w).lookup 265=some (Tu w.params) by ext) (show codeIn (fr w) (.ref 264) "Machine.doors"=true by ext) (by ext)
 have F25:=Cz (st:=MW) (show(fr w).lookup 272=some (Tt w.params) by ext) (show codeIn (fr w) (.ref 271) "Machine.stay"=true by ext) (by ext)
 have F26:=Cz (st:=M3) (show(fr w).lookup 218=some (UB w.params) by ext) (show codeIn (fr w) (.ref 217) "Door.asks"=true by ext) (by ext)
 have F27:=Cz (st:=M0) (show(fr w).lookup 225=some (UA w.params) by ext) (show codeIn (fr w) (.ref 224) "Door.sets"=true by ext) (by ext)
 have F29:=Cz (st:=KA) (show(fr w).lookup 116=some (US w.params) by ext) (show codeIn (fr w) (.ref 115) "fraction"=true by ext) (by ext)
 let T29:Tx (fr w) mg "fraction" KA ["top","bottom"]:=⟨_,_,F29,mK "fraction" 116 (by ext),λs us X hl=>match us,hl with|[_,_],_=>binds_K X rfl (show(fr w).lookup 109=some (UT w.params) by ext) rfl rfl rfl⟩
 have F33:=Cz (st:=MV) (show(fr w).lookup 279=some (Ts w.params) by ext) (show codeIn (fr w) (.ref 278) "Machine.watch_number"=true by ext) (by ext)
 have F41:=Cz (st:=Jy) (show(fr w).lookup 351=some (Te w.params) by ext) (show codeIn (fr w) (.ref 350) "stands"=true by ext) (by ext)
 let T41:Tx (fr w) mg "stands" Jy ["machine","run","alone"]:=⟨_,_,F41,mK "stands" 351 (by ext),λs us X hl=>match us,hl with|[_,_,_],_=>binds_K X rfl (show(fr w).lookup 344=some (Ml w.params) by ext) rfl rfl rfl⟩
 have F42:=Cz (st:=Jx) (show(fr w).lookup 343=some (Tf w.params) by ext) (show codeIn (fr w) (.ref 342) "walked"=true by ext) (by ext)
 let T42:Tx (fr w) mg "walked" Jx ["machine","run","alone"]:=⟨_,_,F42,mK "walked" 343 (by ext),λs us X hl=>match us,hl with|[_,_,_],_=>binds_K X rfl (show(fr w).lookup 336=some (Mm w.params) by ext) rfl rfl rfl⟩
 have F54:=Cz (st:=Jz) (show(fr w).lookup 468=some (TM w.params) by ext) (show codeIn (fr w) (.ref 467) "law"=true by ext) (by ext)
 let T54:Tx (fr w) mg "law" Jz ["_law_script"]:=⟨_,_,F54,mK "law" 468 (by ext),.all (FY λ_=>rfl)⟩
 have FN:=Cz (st:=CV 5 0) (show(fr w).lookup 77=some (TK w.params) by ext) (show codeIn (fr w) (.ref 76) "NoRun.__init__"=true by ext) (by ext)
 refine⟨T54.fd,λs v=>.of_eq rfl,λbase _ _=>?_⟩
 let SN:StpX pw w (fr w) mg base "NoRun" ED 1:=⟨_,_,mK _ _ (by ext),⟨qD.k,by ext,by ext,by ext⟩,by ext,by ext,by ext,zjv FN (MQ (by decide +kernel)) rfl rfl rfl,.all (GJ λ_ _=>rfl)⟩
 have q:Qx pw w (fr w) mg base ca:=⟨mK⟩;let D1:=BE q (o:=T9 w.params) 375 zc8 (AJ kK AL) Am Al;let D2:=BE q (o:=T8 w.params) 382 zcy (AJ kM AL) Am Al;let D3:=BE q (o:=T7 w.params) 389 ze6 AL (Ab D2 Am) Al;let D4:=BE q (o:=T6 w.params) 396 ze4 (AJ kM (AJ kI AL)) Am Al;let D5:=BE q (o:=UK w.params) 165 za5 AL Am Al;let D6:=BE q (o:=UJ w.params) 170 zcv (AJ kK (AJ kF AL)) (Ab D5 Am) Al;let D7:=BE q (o:=UI w.params) 177 zae (AJ kJ (AJ kO AL)) (Ab D6 Am) Al;let D8:=BE q (o:=UH w.params) 182 zaq (AJ kJ (AJ kO (AJ kK (AJ kF AL)))) (Ab D5 Am) Al;let D9:=BE q (o:=UW w.params) 101 zc2 (AJ kJ (AJ kI (AJ kG AL))) Am Al;let D10:=BE q (o:=UN w.params) 146 zbg AL (Ab D9 Am) Al;let D11:=BE q (o:=UO w.params) 139 zcw (AJ kJ (AJ kP (AJ kK AL))) (Ab D10 Am) Al;let D12:=BE q (o:=UM w.params) 151 zc4 (AJ kJ (AJ kL (AJ kF AL))) (Ab D11 Am) Al (hce:=(AJ (by rfl) (AJ (by rfl) AL)))
 let D13:=BE q (o:=Tq w.params) 298 zb2 (AJ kK (AJ kN AL)) Am Al;let D14:=BE q (o:=Tr w.params) 291 zaf (AJ kJ (AJ kL (AJ kK (AJ kF AL)))) (Ab D7 (Ab D13 Am)) (Al (co:=(C0 ⟨(.int (7) 389),(.int 7),mC _ _ (by ext),⟨_,rfl⟩,λF=>.int _⟩ CW))) (hex:=(AJ k9 AL))
 let D15:=BE q (o:=Tp w.params) 303 zaw (AJ kJ (AJ kL (AJ kK (AJ kP AL)))) (Ab D8 (Ab D12 (Ab D13 Am))) (Al (co:=(C0 ⟨_,.ref 132,mK _ 132 (by ext),rfl,λF=>Aa.of_node (k:=.rt) (xs:=[.str "<",.str "<="]) (.inr ⟨UP w.params,_,_,by ext,rfl,rfl,by decide,(.cons ⟨_,rfl⟩ (.cons ⟨_,rfl⟩ .nil))⟩) (KJ ["<","<="])⟩ CW))) (hex:=(AJ k9 AL))
 let D16:=BE q (o:=Tn w.params) 315 zay (AJ kJ (AJ kL (AJ kF AL))) (Ab D7 (Ab D13 Am)) Al (hce:=(AJ (by rfl) AL))
 let D17:=BE q (o:=UG w.params) 189 zcu (AJ kJ (AJ kO AL)) (Ab D6 Am) Al;let D18:=BE q (o:=UE w.params) 196 zc1 (AJ kJ (AJ kL AL)) Am Al;let D19:=BE q (o:=To w.params) 310 zax (AJ kJ (AJ kL AL)) (Ab D12 (Ab D16 (Ab D17 Am))) (Al (co:=(C0 ⟨_,.ref 131,mK _ 131 (by ext),rfl,λF=>Aa.of_node (k:=.rt) (xs:=[.str "<",.str "<=",.str ">",.str ">=",.str "="]) (.inr ⟨Mn w.params,_,_,by ext,rfl,rfl,by decide,(.cons ⟨_,rfl⟩ (.cons ⟨_,rfl⟩ (.cons ⟨_,rfl⟩ (.cons ⟨_,rfl⟩ (.cons ⟨_,rfl⟩ .nil)))))⟩) (KJ ["<","<=",">",">=","="])⟩ CW)) (cl:=(AJ ⟨kT,kX⟩ AL)) (ci:=(C0 ⟨228,mK _ _ (by ext),(C0 ⟨⟨kT,by ext,by ext,by ext,by ext⟩,by ext⟩ (C0 ⟨⟨kU,by ext,by ext,by ext,by ext⟩,by ext⟩ CW)),by ext⟩ CW))) (hex:=(AJ k9 AL))
 have K20:FnOk pw w (fr w) mg base (BH pw w) 2 _ _ ["self","start","end","guard","noughts","sign"] (Fb (fr w) ca BC JZ):=Vi (C:=BC) (fs:=BP) (n:=200) (Γ:=V4) F20 Ws.s rfl rfl AL rfl AL (Ab D18 Am) AL DF rfl (Al (sf:=(λC fs h=>by cases h;exact⟨kT,kX⟩))) Ws.k
 let D20:NewX pw w (fr w) mg base "Door" BC 2 ["self","start","end","guard","noughts","sign"] (Fb (fr w) ca BC JZ):=⟨_,_,mK "Door" 228 (by ext),⟨by ext,by ext,by ext,by ext⟩,K20⟩
 have E20:Ci (fr w) D20.fd ["self","start","end","guard","noughts","sign"] []:=λs us X hl=>match us,hl with|[_,_,_,_,_,_],_=>binds_K X rfl (show(fr w).lookup 204=some (UD w.params) by ext) rfl rfl rfl
 have K21:FnOk pw w (fr w) mg base (BH pw w) 6 _ _ ["self","watches","rooms","doors"] (Fb (fr w) ca Ak JU):=Vi (C:=Ak) (fs:=Ay) (n:=200) (Γ:=V1) F21 Wo.s rfl rfl AL rfl (AJ kK (AJ kL AL)) (Ab D14 (Ab D15 (Ab D19 Am))) (AJ kD AL) DF rfl (Al (co:=(C0 ⟨(.int (64) 391),(.int 64),mC _ _ (by ext),⟨_,rfl⟩,λF=>.int _⟩ (C0 ⟨(.int (200) 393),(.int 200),mC _ _ (by ext),⟨_,rfl⟩,λF=>.int _⟩ CW))) (sf:=(λC fs h=>by cases h;exact⟨kU,kY⟩))) Wo.k
 let D21:NewX pw w (fr w) mg base "Machine" Ak 6 ["self","watches","rooms","doors"] (Fb (fr w) ca Ak JU):=⟨_,_,mK "Machine" 282 (by ext),⟨by ext,by ext,by ext,by ext⟩,K21⟩
 have E21:Ci (fr w) D21.fd ["self","watches","rooms","doors"] []:=.all (Lv λ_ _ _ _=>rfl)
 have K22:FnOk pw w (fr w) mg base (BH pw w) 1 _ _ ["self"] (Au (fr w) ca GF):=EV (n:=200) (Γ:=VX) F22 Wk.s rfl rfl AL rfl (AJ kL AL) Am AL DF rfl (Al (cl:=(AJ ⟨kU,kY⟩ AL))) Wk.k;let D22:MetX pw w (fr w) mg base Ak "watches" 1 ["self"] (Au (fr w) ca GF):=⟨_,_,kU,⟨by ext,by ext,by ext⟩,K22,.all (FY λ_=>rfl)⟩
 have K23:FnOk pw w (fr w) mg base (BH pw w) 1 _ _ ["self"] (Au (fr w) ca Ht):=EV (n:=200) (Γ:=V0) F23 Wn.s rfl rfl AL rfl (AJ kL AL) Am AL DF rfl (Al (cl:=(AJ ⟨kU,kY⟩ AL))) Wn.k;let D23:MetX pw w (fr w) mg base Ak "rooms" 1 ["self"] (Au (fr w) ca Ht):=⟨_,_,kU,⟨by ext,by ext,by ext⟩,K23,.all (FY λ_=>rfl)⟩
 have K24:FnOk pw w (fr w) mg base (BH pw w) 1 _ _ ["self"] (Au (fr w) ca Gh):=EV (n:=200) (Γ:=V2) F24 Wp.s rfl rfl AL rfl (AJ kL AL) Am AL DF rfl (Al (cl:=(AJ ⟨kU,kY⟩ AL))) Wp.k;let D24:MetX pw w (fr w) mg base Ak "doors" 1 ["self"] (Au (fr w) ca Gh):=⟨_,_,kU,⟨by ext,by ext,by ext⟩,K24,.all (FY λ_=>rfl)⟩
 have K25:FnOk pw w (fr w) mg base (BH pw w) 1 _ _ ["self","room"] (Au (fr w) ca Gg):=EV (n:=200) (Γ:=VZ) F25 Wm.s rfl rfl AL rfl (AJ kL AL) Am AL DF rfl (Al (cl:=(AJ ⟨kU,kY⟩ AL))) Wm.k;let D25:MetX pw w (fr w) mg base Ak "stay" 1 ["self","room"] (Au (fr w) ca Gg):=⟨_,_,kU,⟨by ext,by ext,by ext⟩,K25,.all (GJ λ_ _=>rfl)⟩
 have K26:FnOk pw w (fr w) mg base (BH pw w) 1 _ _ ["self"] (Au (fr w) ca Hx):=EV (n:=200) (Γ:=V5) F26 Wt.s rfl rfl AL rfl (AJ kL AL) Am AL DF rfl (Al (cl:=(AJ ⟨kT,kX⟩ AL))) Wt.k;let D26:MetX pw w (fr w) mg base BC "asks" 1 ["self"] (Au (fr w) ca Hx):=⟨_,_,kT,⟨by ext,by ext,by ext⟩,K26,.all (FY λ_=>rfl)⟩
 have K27:FnOk pw w (fr w) mg base (BH pw w) 1 _ _ ["self"] (Au (fr w) ca Hw):=EV (n:=200) (Γ:=V3) F27 Wq.s rfl rfl AL rfl (AJ kL AL) Am AL DF rfl (Al (cl:=(AJ ⟨kT,kX⟩ AL))) Wq.k;let D27:MetX pw w (fr w) mg base BC "sets" 1 ["self"] (Au (fr w) ca Hw):=⟨_,_,kT,⟨by ext,by ext,by ext⟩,K27,.all (FY λ_=>rfl)⟩
 let D28:=BE q (o:=UU w.params) 108 za2 (AJ kE AL) Am Al;have K29:FnOk pw w (fr w) mg base (BH pw w) 2 T29.f T29.fd ["top","bottom"] (Au (fr w) ca Hr):=EV (n:=200) (Γ:=VW) T29.F Wj.s rfl rfl AL rfl AL (Ab D9 (Ab D28 Am)) (AJ kC AL) DF rfl Al Wj.k;let D29:DefX pw w (fr w) mg base 2 "fraction" ["top","bottom"] (Au (fr w) ca Hr):=⟨T29.f,T29.fd,K29,T29.m,T29.F.kp,T29.b⟩;let D30:=BE q (o:=UR w.params) 123 zj7 AL (Ab D29 Am) Al;let D31:=BE q (o:=UQ w.params) 130 zga AL Am Al;let D32:=BE q (o:=UL w.params) 158 zbf AL (Ab D31 Am) Al;have K33:FnOk pw w (fr w) mg base (BH pw w) 1 _ _ ["self","name"] (Au (fr w) ca GG):=EV (n:=200) (Γ:=VY) F33 Wl.s rfl rfl AL rfl AL Am AL DF rfl (Al (cl:=(AJ ⟨kU,kY⟩ AL))) Wl.k;let D33:MetX pw w (fr w) mg base Ak "watch_number" 1 ["self","name"] (Au (fr w) ca GG):=⟨_,_,kU,⟨by ext,by ext,by ext⟩,K33,.all (GJ λ_ _=>rfl)⟩
 let D34:=BE q (o:=Tj w.params) 320 ze3 AL (Ab D12 Am) (Al (co:=(C0 ⟨_,.ref 131,mK _ 131 (by ext),rfl,λF=>Aa.of_node (k:=.rt) (xs:=[.str "<",.str "<=",.str ">",.str ">=",.str "="]) (.inr ⟨Mn w.params,_,_,by ext,rfl,rfl,by decide,(.cons ⟨_,rfl⟩ (.cons ⟨_,rfl⟩ (.cons ⟨_,rfl⟩ (.cons ⟨_,rfl⟩ (.cons ⟨_,rfl⟩ .nil)))))⟩) (KJ ["<","<=",">",">=","="])⟩ CW)) (mt:=(AJ ⟨by decide,⟨D22⟩⟩ (AJ ⟨by decide,⟨D33⟩⟩ AL)))) (hce:=(AJ (by rfl) AL)) (hex:=(AJ kA AL))
 let D35:=BE q (o:=Ti w.params) 325 zgc (AJ kF AL) (Ab D32 Am) Al (hce:=(AJ (by rfl) AL))
 let D36:=BE q (o:=Th w.params) 330 zad AL Am (Al (mt:=(AJ ⟨by decide,⟨D27⟩⟩ (AJ ⟨by decide,⟨D33⟩⟩ AL)))) (hce:=(AJ (by rfl) AL))
 let D37:=BE q (o:=Tg w.params) 335 zgb AL Am (Al (mt:=(AJ ⟨by decide,⟨D23⟩⟩ (AJ ⟨by decide,⟨D22⟩⟩ AL))))
 let D38:=BE q (o:=Td w.params) 358 zc3 AL (Ab D35 (Ab D34 Am)) (Al (mt:=(AJ ⟨by decide,⟨D25⟩⟩ AL)))
 let D39:=BE q (o:=Ta w.params) 368 zao (AJ kK (AJ kH AL)) (Ab D35 (Ab D34 (Ab D36 (Ab D38 Am)))) (Al (cl:=(AJ ⟨kT,kX⟩ AL)) (mt:=(AJ ⟨by decide,⟨D24⟩⟩ (AJ ⟨by decide,⟨D26⟩⟩ AL)))) (hce:=(AJ (by rfl) AL))
 let D40:=BE q (o:=Tc w.params) 363 zap AL (Ab D31 (Ab D30 (Ab D38 (Ab D39 Am)))) Al (hce:=(AJ (by rfl) AL))
 have K41:FnOk pw w (fr w) mg base (BH pw w) 9 T41.f T41.fd ["machine","run","alone"] (Au (fr w) ca Dt):=EV (n:=200) (Γ:=VU) T41.F Wh.s rfl rfl AL rfl (AJ kH AL) (Ab D37 (Ab D38 (Ab D40 Am))) AL DF rfl (Al (rn:=(λy h=>by cases h;exact⟨by decide,⟨SN⟩,by rfl⟩))) Wh.k
 let D41:DefX pw w (fr w) mg base 9 "stands" ["machine","run","alone"] (Au (fr w) ca Dt):=⟨T41.f,T41.fd,K41,T41.m,T41.F.kp,T41.b⟩;have K42:FnOk pw w (fr w) mg base (BH pw w) 10 T42.f T42.fd ["machine","run","alone"] (Au (fr w) ca EX):=EV (n:=200) (Γ:=VT) T42.F Wg.s rfl rfl AL rfl AL (Ab D41 Am) AL DF rfl Al Wg.k;let D42:DefX pw w (fr w) mg base 10 "walked" ["machine","run","alone"] (Au (fr w) ca EX):=⟨T42.f,T42.fd,K42,T42.m,T42.F.kp,T42.b⟩;let D43:=BE q (o:=TV w.params) 439 zc7 (AJ kE AL) Am Al;let D44:=BE q (o:=TU w.params) 446 zbh AL (Ab D43 Am) Al;let D45:=BE q (o:=T5 w.params) 403 ze5 (AJ kM (AJ kK AL)) Am Al;let D46:=BE q (o:=T4 w.params) 408 zc6 (AJ kM (AJ kK AL)) (Ab D1 (Ab D2 (Ab D45 (Ab D3 Am)))) Al (hce:=(AJ (by rfl) (AJ (by rfl) (AJ (by rfl) (AJ (by rfl) (AJ (by rfl) AL))))))
 let D47:=BE q (o:=T3 w.params) 415 zj8 AL Am Al;let D48:=BE q (o:=TZ w.params) 420 zge AL Am Al (hce:=(AJ (by rfl) AL))
 let D49:=BE q (o:=TY w.params) 425 zgd (AJ kK (AJ kM AL)) (Ab D47 (Ab D48 Am)) Al (hce:=(AJ (by rfl) (AJ (by rfl) (AJ (by rfl) (AJ (by rfl) AL)))))
 let D50:=BE q (o:=TX w.params) 432 ze7 (AJ kK (AJ kM AL)) (Ab D2 (Ab D49 Am)) Al;let D51:=BE q (o:=TR w.params) 451 zgf (AJ kJ (AJ kP (AJ kK (AJ kL (AJ kG AL))))) (Ab D44 Am) Al (hce:=(AJ (by rfl) AL))
 let D52:=BE q (o:=TQ w.params) 458 zc5 (AJ kJ (AJ kI AL)) (Ab D42 (Ab D41 Am)) (Al (xs:=(C0 (xs_of qC (by ext)) CW)) (sb:=(C0 ⟨49,mK _ _ (by ext),ID eK (by ext)⟩ (C0 ⟨92,mK _ _ (by ext),ID eK (by ext)⟩ (C0 ⟨61,mK _ _ (by ext),ID eK (by ext)⟩ (C0 ⟨80,mK _ _ (by ext),ID eK (by ext)⟩ CW))))) (sv:=(C0 ⟨mN "ValueError" (by ext),"ValueError",by ext,ID eK (by ext)⟩ CW)) (rn:=(λy h=>by cases h;exact⟨by decide,⟨SN⟩,by rfl⟩)))
 let D53:=dfB q (o:=TN w.params) 463 zcx (AJ kF (AJ kQ (AJ kJ (AJ kL (AJ kK AL))))) (Ab D51 (Ab D42 (Ab D41 (Ab D52 Am)))) (Al (dn:=(C0 ⟨by decide,D42,[.bl true],⟨[.bool true],λs us X hl=>GJ (P:=λus=>BindsTo s _ ⟨us,[]⟩ (List.zip _ (us++_))) (λ_ _=>binds_K X rfl (show(fr w).lookup 336=some (Mm w.params) by ext) rfl rfl rfl) us (by simpa using hl),(.cons rfl .nil)⟩,λF=>(.cons (H:=F) (.bl _) .nil)⟩ (C0 ⟨by decide,D41,[.bl true],⟨[.bool true],λs us X hl=>GJ (P:=λus=>BindsTo s _ ⟨us,[]⟩ (List.zip _ (us++_))) (λ_ _=>binds_K X rfl (show(fr w).lookup 344=some (Ml w.params) by ext) rfl rfl rfl) us (by simpa using hl),(.cons rfl .nil)⟩,λF=>(.cons (H:=F) (.bl _) .nil)⟩ CW)))) (hce:=(AJ (by rfl) AL))
 have K54:FnOk pw w (fr w) mg base (BH pw w) 13 T54.f T54.fd ["_law_script"] (EF (fr w) LV):=Vh (ca:=ca) (Γ:=VV) T54.F Wi.s rfl AL (AJ kK (AJ kL AL)) (Ab D1 (Ab D50 (Ab D44 (Ab D49 (Ab D47 (Ab D52 (Ab D51 (Ab D37 (Ab D46 (Ab D4 Am)))))))))) AL DF rfl (Al (nw:=(UY ⟨by decide,Ak,D21,(C0 ⟨[],[],E21,.nil,λ_=>.nil⟩ CW)⟩ (UY ⟨by decide,BC,D20,(C0 ⟨[],[],E20,.nil,λ_=>.nil⟩ CW)⟩ UX)))) (zlx D53) Wi.k
 exact zik K54 λns h=>law_true ns h
theorem walk{l:PySem.W.OpenLaw}{q:Program}{loose:List Str}{XP:(Str->Option Value)->Heap->Prop}{YP:World->Heap->Prop}{d:DefRec}{K:Params->k7}(hn:l.most=some 63)(hdf:d.params.defaults=[])
  (hY:∀(w:World) (h:Heap),YP w h->(K w.params).In h)
  (F : ∀ (w : World) (mg : Str -> Option Value) (fa : Addr) (h : Heap), (K w.params).In h -> h.Ns mainGlobals mg -> mg d.name = some (.ref fa) ->
   ∃fd:FuncData,(∀(s:Shared) (u:Value),BindsTo s fd ⟨[u],[]⟩ [("_law_script",u)])/\∀base:Heap,(K w.params).In base->base.Ns mainGlobals mg->FnOk l.prog w (K w.params) mg base J6 13 fa fd ["_law_script"] (Ju (K w.params))) :
  PySem.W.WalkO q loose XP YP l.row.toRowW d [] (λf vs=>PySem.call f vs) :=
 L2.walk_of (n:=63) (k:=13) (x:="_law_script") (CX:=λ_=>J6) (sp:=λw=>Ju (K w.params)) hn (by decide) hdf ⟨rfl,by decide,by decide⟩ hY F (λ_ _ a ns hl hO hS=>⟨a,ns,rfl,Gf.of hO hS,hl,λ_=>rfl⟩) λ_ _ _ _ _ z=>z
end Zl
open PySem PySem.W PyProof.Rows
set_option maxRecDepth 100000 in
set_option maxHeartbeats 0 in
theorem PySem.Challenge.cw_zonewalk_k31_runs_walked_holds : PySem.Challenge.rw_zonewalk_k31_runs_walked.Holds := by
 refine holds_law Zl.said λs=>?_
 refine holds_open (q:=Zl.vq) (loose:=Zl.loo) (Xt:=Hd.xt PySem.Challenge.rw_zonewalk_k31_runs_walked.row.toRowW Zl.vq) (XP:=XL Zl.vq []) (Yf:=Zl.hk.obs) (Ya:=Zl.hk.val) (YP:=Zl.hk.says) Zl.left Zl.hk.of Zl.hk.keeps (λs e=>xl_of s (Bool.and_eq_true_iff.mp e).1) XL.keeps (by rfl) (by rfl) (by rfl) (λs e=>recFacts_of (Bool.and_eq_true_iff.mp e).2) (by rfl) s (by decide +kernel) ⟨rfl,rfl,rfl,rfl,rfl,by decide +kernel⟩ ?hw ?hc
 case hw=>w_witness2
 case hc=>exact Zl.walk (l:=PySem.Challenge.rw_zonewalk_k31_runs_walked) rfl rfl (λw h Y=>kIn_of Y) λw mg fa h X G e=>Zl.all_mk X G e
end
