import PyProof.Rows.All
import Wide.All
import OpenK.AllK
import Wide.FinOn
import Lean
import PyProof.EqAt
import PyProof.EqKinds
import PyProof.TupleCall
import PySem.Challenge.RW_zonewalk_k22_machines_refused
set_option compiler.extract_closed false
set_option bootstrap.genMatcherCode false
set_option linter.all false
def ya0:=@List.getElem?_eq_getElem
def ya1:=@Bool.and_eq_true
def ya2:=@Option.map_eq_some_iff
def ya3:=@List.mem_singleton
def ya4:=@PySem.Heap.get?_push_of_some
def ya5:=@List.length_map
def ya6:=@Option.bind_eq_some_iff
def ya7:=@List.getElem?_map
def ya8:=@List.getElem?_eq_some_iff
def ya9:=@List.mem_cons
def yaa:=@Nat.le_refl
def yab:=@List.mem_cons_of_mem
def yac:=@List.not_mem_nil
def yad:=@List.length_append
def yae:=@PySem.Heap.lt_size
def yaf:=@Bool.and_false
def yag:=@PySem.Heap.get?_push_size
def yah:=@List.mem_cons_self
def yai:=@List.size_toArray
def yaj:=@List.mem_append
def yak:=@List.mem_append_right
def yal:=@Nat.lt_of_lt_of_le
def yam:=@List.all_eq_true
def yan:=@List.getElem?_set_ne
def yao:=@List.getElem?_set_self
def yap:=@Nat.le_trans
def yaq:=@List.length_cons
def yar:=@Int.eq_ofNat_of_zero_le
def yas:=@List.getElem?_append_left
def yat:=@List.mem_map
def yau:=@List.map_cons
def yav:=@Bool.false_and
def yaw:=@Nat.ne_of_lt
def yax:=@List.getElem?_append_right
def yay:=@List.mem_of_mem_take
def yaz:=@List.lookup_cons
def yb0:=@Option.some.inj
def yb1:=@Ne.symm
def yb2:=@List.length_take
def yb3:=@List.getElem_mem
def yb4:=@Bool.eq_false_iff
def yb5:=@List.contains_iff_mem
def yb6:=@List.getD_eq_getElem?_getD
def yb7:=@Nat.lt_irrefl
def yb8:=@PySem.W.kia_one
def yb9:=@List.map_append
def yba:=@Int.toNat_natCast
def ybb:=@List.mem_append_left
def ybc:=@Bool.false_ne_true
def ybd:=@PySem.Heap.get?_update_other
def ybe:=@Nat.zero_le
def ybf:=@List.findIdx?_eq_some_iff_getElem
def ybg:=@List.length_range
def ybh:=@List.getElem?_range
def ybi:=@List.mem_map_of_mem
def ybj:=@Option.map_some
def ybk:=@List.length_singleton
def ybl:=@List.getElem?_eq_none
def ybm:=@List.length_drop
def ybn:=@List.mem_range
def ybo:=@Bool.not_eq_true'
def ybp:=@List.all_eq_false
def ybq:=@PySem.mem_of_lookup
def ybr:=@List.replicate_succ
def ybs:=@Array.getElem?_eq_some_iff
def ybt:=@Bool.or_eq_true
def ybu:=@Bool.or_eq_false_iff
def ybv:=@List.length_eq_zero_iff
def ybw:=@PySem.W.hideAll_get
def ybx:=@PySem.Heap.size_push
def yby:=@List.mem_filterMap
def ybz:=@Bool.false_eq_true
def yc0:=@List.map_map
def yc1:=@Bool.eq_iff_iff
def yc2:=@List.flatten_cons
def yc3:=@Nat.lt_succ_of_lt
def yc4:=@List.drop_eq_getElem_cons
def yc5:=@List.mem_of_mem_drop
def yc6:=@Nat.le_succ
def yc7:=@PySem.F.slot_str_getitem
def yc8:=@PySem.W.of_hideAll
def yc9:=@List.append_nil
def yca:=@List.find?_cons
def ycb:=@Nat.min_eq_left
def ycc:=@PySem.Calls.callWith_builtin
def ycd:=@List.take_of_length_le
def yce:=@PySem.Heap.get?_update_self
def ycf:=@Bool.or_true
def ycg:=@PyProof.Rows.boot_isinstance
def ych:=@PyProof.Rows.callWith_type1
def yci:=@Nat.lt_succ_self
def ycj:=@List.cons_append
def yck:=@List.isEmpty_iff
def ycl:=@List.mem_iff_getElem
def ycm:=@Bool.false_or
def ycn:=@PySem.F.excBase_ValueError
def yco:=@Int.fdiv_eq_ediv_of_nonneg
def ycp:=@List.cons.inj
def ycq:=@List.nodup_iff_pairwise_ne
def ycr:=@List.nodup_cons
def ycs:=@List.nil_append
def yct:=@List.length_set
def ycu:=@Array.getElem?_eq_getElem
def ycv:=@PySem.W.callWith_K
def ycw:=@PySem.F.args_tuple_add_2
def ycx:=@PySem.Obj.data_mapFields
def ycy:=@PySem.F.called_set
def ycz:=@PySem.F.slot_dict_itemiterator_iter
def yd0:=@List.getElem?_replicate
def yd1:=@PySem.F.entry_tuple_add
def yd2:=@List.getElem?_cons_zero
def yd3:=@PyProof.Rows.F.plain_set_update_loop
def yd4:=@List.getElem?_cons_succ
def yd5:=@Option.some.injEq
def yd6:=@List.nodup_append
def yd7:=@PySem.W.cellsFrom_some
def yd8:=@PySem.F.slot_tuple_add
def yd9:=@PyProof.V.reads_dictOf
def yda:=@PySem.SeqAt.notIn_list_reads
def ydb:=@PyProof.Rows.boot_list
def ydc:=@Bool.or_false
def ydd:=@List.any_cons
def yde:=@Bool.not_true
def ydf:=@List.map_take
def ydg:=@List.getElem_map
def ydh:=@List.length_replicate
def ydi:=@PySem.Obj.isFreed_of_fields
def ydj:=@Nat.lt_trans
def ydk:=@PySem.W.hideAll_none
def ydl:=@Nat.le_of_lt
def ydm:=@List.of_mem_zip
def ydn:=@List.mem_of_getElem?
def ydo:=@List.map_nil
def ydp:=@Bool.true_or
def ydq:=@List.length_nil
def ydr:=@Nat.not_lt
def yds:=@List.all_map
def ydt:=@List.exists_mem_of_length_pos
def ydu:=@List.filterMap_cons
def ydv:=@Array.length_toList
def ydw:=@PySem.evalArgs_none
def ydx:=@PySem.SeqAt.in_list_reads
def ydy:=@Array.append_assoc
def ydz:=@List.zip_cons_cons
def ye0:=@Int.emod_lt_of_pos
def ye1:=@PySem.Paired.length
def ye2:=@Bool.and_true
def ye3:=@Bool.true_and
def ye4:=@PySem.W.kitx_dict
def ye5:=@List.pairwise_map
def ye6:=@List.getElem_inj
def ye7:=@PySem.Txt.slice_le
def ye8:=@decide_eq_false
def ye9:=@PySem.wpAny_mono
def yea:=@PySem.wpAny_truthy_bool
def yeb:=@PySem.wpAny_execs_nil
def yec:=@PySem.wpAny_bind
def yed:=@PySem.wpAny_holding
def yee:=@PySem.wpAny_standAt
def yef:=@PySem.wpAny_pure
def yeg:=@PySem.wpAny_pyIter_list
def yeh:=@PySem.wpAny_passesOwn
def yei:=@PySem.sizeLine_eq
def yej:=@PySem.wpAny_call
def yek:=@PySem.codeAny_mono
def yel:=@PySem.wpAny_Call_Name_kw
def yem:=@PySem.noFill_tuple_add
def yen:=@PySem.typeIs_str
def yeo:=@if_true
def yep:=@if_false
def yeq:=@PySem.wpAny_Call_method0_late
def yer:=@decide_eq_true
def yes:=@PySem.wpAny_newObj_type
def yet:=@PySem.wpAny_setField
def yeu:=@PySem.wpAny_field
def yev:=@beq_iff_eq
def yew:=@PySem.codeAny_call_builtin
def yex:=@PySem.codeAny_builtin
def yey:=@PySem.wpAny_of_eq
def yez:=@decide_eq_true_eq
def yf0:=@beq_self_eq_true
def yf1:=@PySem.pushCells_keeps
def yf2:=@of_decide_eq_true
def yf3:=@or_false
def yf4:=@PySem.wpAny_ite_false
def yf5:=@PySem.wpAny_isInstance
def yf6:=@PySem.wpAny_getItem_str_slice
def yf7:=@PySem.post_val_or_str
def yf8:=@eq_true
def yf9:=@decide_eq_decide
def yfa:=@beq_eq_false_iff_ne
def yfb:=@eq_false
noncomputable section
local macro_rules|`(tactic|ext)=>`(tactic|kernel_rfl)
abbrev kA:=PySem.W.Frag
set_option Elab.async false
set_option linter.all false
set_option maxRecDepth 100000
set_option genSizeOf false
local macro_rules
  |`(tactic| omega)=>`(tactic| first
    |assumption
    |exact yap (by assumption) (by decide +kernel)
    |exact yal (by assumption) (by decide +kernel)
    |exact Nat.lt_of_le_of_lt (by assumption) (by decide +kernel)
    |exact Nat.succ_pos _
    |exact yal (by assumption) (Nat.succ_le_succ (yap (by assumption) (by decide +kernel)))
    |exact Nat.succ_le_succ (yap (by assumption) (by decide +kernel))
    |exact ydj (by assumption) (by assumption)
    |exact yal (by assumption) (by assumption)
    |exact Int.lt_trans (b:=0) (by decide +kernel) (by assumption)
    |exact Int.lt_of_lt_of_le (b:=0) (by decide +kernel) (by assumption)
    |exact Int.lt_of_le_of_lt (by assumption) (by decide +kernel)
    |exact Int.le_trans (by assumption) (by decide +kernel)
    |exact Int.le_of_lt (by assumption)
    |exact Int.ne_of_gt (by assumption)
    |lia
    |fail)
namespace L2
open PySem PySem.Spec PyProof.Rows
abbrev Key:=Sum Int Str
noncomputable def FA:Key->Value->Bool
 |.inl k,v=>Value.isInt k v
 |.inr x,v=>Value.isStrOf x v
def keyH(w:World):Key->Int
 |.inl k=>hashInt k
 |.inr x=>hashStr w x
theorem ED:∀{k:Key} {v:Value},FA k v=true->(∃i t,k=Sum.inl i/\v=Value.int i t)\/(∃x t,k=Sum.inr x/\v=Value.str x t)
 |.inl i,v,h=>by
  obtain⟨t,e⟩:=Value.isInt_shape (k:=i) (v:=v) h;exact .inl ⟨i,t,rfl,e⟩
 |.inr x,v,h=>by
  obtain⟨t,e⟩:=Value.isStrOf_shape (x:=x) (v:=v) h;exact .inr ⟨x,t,rfl,e⟩
theorem zda(i:Int)(t:Tok):FA (.inl i) (.int i t)=true:=by simp[FA,Value.isInt]
theorem zd9(x:Str)(t:Tok):FA (.inr x) (.str x t)=true:=by simp[FA,Value.isStrOf]
theorem zl7(a b:Int):decide ((Sum.inl a:Key)=Sum.inl b)=(a == b):=by
 by_cases e:a=b
 .subst e;simp
 .have h:¬ (Sum.inl a:Key)=Sum.inl b:=λq=>e (Sum.inl.inj q)
  rw[ye8 h];exact(beq_eq_false_iff_ne.mpr e).symm
theorem zl4(a b:Str):decide ((Sum.inr a:Key)=Sum.inr b)=decide (a=b):=by
 by_cases e:a=b
 .subst e;simp
 .have h:¬ (Sum.inr a:Key)=Sum.inr b:=λq=>e (Sum.inr.inj q)
  rw[ye8 h,ye8 e]
theorem zl6(a:Int)(b:Str):decide ((Sum.inl a:Key)=Sum.inr b)=false:=ye8 (λq=>nomatch q)
theorem zl5(a:Str)(b:Int):decide ((Sum.inr a:Key)=Sum.inl b)=false:=ye8 (λq=>nomatch q)
def Bi(prog:Program)(w:World):PySem.KeyKind prog w Key where
 is:=FA
 hash:=keyH w
 inj:=λv a b ha hb=>by
  rcases ED ha with ⟨i,t,rfl,rfl⟩|⟨x,t,rfl,rfl⟩
  .rcases ED hb with ⟨j,u,rfl,e⟩|⟨y,u,rfl,e⟩
   .injection e with e1 _;rw[e1]
   .exact nomatch e
  .rcases ED hb with ⟨j,u,rfl,e⟩|⟨y,u,rfl,e⟩
   .exact nomatch e
   .injection e with e1 _;rw[e1]
 byValue:=λk v h=>by
  rcases ED h with ⟨i,t,rfl,rfl⟩|⟨x,t,rfl,rfl⟩<;>rfl
 pyHash:=λhv h=>by
  rcases ED hv with ⟨i,t,rfl,rfl⟩|⟨x,t,rfl,rfl⟩
  .exact wpAny_pyHash_int h
  .exact wpAny_pyHash_str h
 eqBool:=λhu hv h=>by
  rcases ED hu with ⟨i,t,rfl,rfl⟩|⟨x,t,rfl,rfl⟩
  .rcases ED hv with ⟨j,u,rfl,rfl⟩|⟨y,u,rfl,rfl⟩
   .rw[zl7]at h;exact wpAny_eqBool_int h
   .rw[zl6]at h;exact SeqAt.EqAt.int_str i t y u _ _ _ _ h
  .rcases ED hv with ⟨j,u,rfl,rfl⟩|⟨y,u,rfl,rfl⟩
   .rw[zl5]at h;exact SeqAt.EqAt.str_int x t j u _ _ _ _ h
   .rw[zl4]at h;exact wpAny_eqBool_str h
 «strs»:=λk x t v h=>by
  rcases ED h with ⟨i,u,rfl,e⟩|⟨y,u,rfl,e⟩
  .exact nomatch e
  .injection e with e1 _
   subst e1;cases v<;>rfl
theorem zbk(prog:Program)(w:World)(i:Int)(t:Tok):(Bi prog w).is (.inl i) (.int i t)=true:=zda i t
theorem zbj(prog:Program)(w:World)(x:Str)(t:Tok):(Bi prog w).is (.inr x) (.str x t)=true:=zd9 x t
inductive V where
 |non|bl (b:Bool)|int (i:Int)|str (x:Str)|byt (b:Array UInt8)|flt (b:UInt64)|ref (a:Addr)|ty (n:String)
 deriving DecidableEq
def RelV:V->Value->Prop
 |.non,u=>u=Value.none
 |.bl b,u=>u=Value.bool b
 |.int i,u=>∃t,u=Value.int i t
 |.str x,u=>∃t,u=Value.str x t
 |.byt b,u=>∃t,u=Value.bytes b t
 |.flt b,u=>∃t,u=Value.float b t
 |.ref a,u=>u=Value.ref a
 |.ty n,u=>u=Value.type n
abbrev AU:List V->List Value->Prop:=Paired RelV
theorem AU.length{xs:List V}{us:List Value}(r:AU xs us):xs.length=us.length:=ye1 r
theorem AU.get:∀{xs:List V} {us:List Value} {i:Nat} {x:V},AU xs us->xs[i]?=some x->∃u,us[i]?=some u/\RelV x u
 |_,_,_,_,.nil,e=>by simp at e
 |_,_,0,_,.cons r _,e=>by simp at e;subst e;exact⟨_,rfl,r⟩
 |_,_,i+1,x,.cons _ t,e=>by
  obtain⟨u,h1,h2⟩:=AU.get (i:=i) (x:=x) t (by simpa using e)
  exact⟨u,by simpa using h1,h2⟩
theorem AU.set{x:V}{u:Value}(r:RelV x u):∀{xs:List V} {us:List Value} (i:Nat),AU xs us->AU (xs.set i x) (us.set i u)
 |_,_,_,.nil=>.nil
 |_,_,0,.cons _ t=>.cons r t
 |_,_,i+1,.cons q t=>.cons q (AU.set r i t)
theorem AU.append:∀{xs ys:List V} {us ws:List Value},AU xs us->AU ys ws->AU (xs++ys) (us++ws)
 |_,_,_,_,.nil,s=>s
 |_,_,_,_,.cons r t,s=>.cons r (AU.append t s)
theorem AU.take:∀{xs:List V} {us:List Value} (n:Nat),AU xs us->AU (xs.take n) (us.take n)
 |_,_,0,_=>.nil
 |_,_,_+1,.nil=>.nil
 |_,_,n+1,.cons r t=>.cons r (AU.take n t)
theorem AU.drop:∀{xs:List V} {us:List Value} (n:Nat),AU xs us->AU (xs.drop n) (us.drop n)
 |_,_,0,r=>r
 |_,_,_+1,.nil=>.nil
 |_,_,n+1,.cons _ t=>AU.drop n t
theorem AU.none_of:∀{xs:List V} {us:List Value} {i:Nat},AU xs us->xs[i]?=none->us[i]?=none:=λ{xs us i} r e=>by
 have h1:=r.length;have h2:xs.length<=i:=List.getElem?_eq_none_iff.mp e;exact List.getElem?_eq_none_iff.mpr (by omega)
def Cv:Option V->Option Value->Prop
 |some v,some u=>RelV v u
 |none,none=>True
 |_,_=>False
def KV{κ:Type}:List (κ×V)->List (κ×Value)->Prop:=Paired λ(p:κ×V) (q:κ×Value)=>p.1=q.1/\RelV p.2 q.2
def kV:Key->V
 |.inl i=>.int i
 |.inr x=>.str x
inductive HO where
 |lst (xs:List V)
 |tup (xs:List V)
 |dK (kvs:List (Key×V))|dT (kvs:List (List Key×V))
 |set (S:Int->Bool) (n:Nat)
 |ins (C dx:Addr) (fs:List (Str×V))
 |own (x:Addr)
 |xd (fs:List (Str×V))
 |met (f x:Addr)
 |rng (lo hi:Int)
 |frz (o:Obj) (u:HO)
 |tbl (ps:Array Value)
 |ext (φ:Heap->Prop)
abbrev Hp:=Addr->Option HO
noncomputable def upd(H:Hp)(a:Addr)(o:HO):Hp:=λb=>if b=a then some o else H b
theorem Bb{H:Hp}{a:Addr}{o:HO}:upd H a o a=some o:=by unfold upd;rw[if_pos rfl]
theorem Ad{H:Hp}{a b:Addr}{o:HO}(h:b≠a):upd H a o b=H b:=by unfold upd;rw[if_neg h]
theorem ne_of{H:Hp}{a b:Addr}{o u:HO}(h:H a=some o)(h':H b=some u)(d:o≠u):a≠b:=by
 intro e;subst e;rw[h]at h';exact d (yb0 h')
theorem Be{H:Hp}{a b:Addr}{o:HO}(h:H a=some o)(h':H b=none):a≠b:=by
 intro e;subst e;rw[h]at h';cases h'
section
variable (P:Program)(w:World)
def BJ(H:Hp)(h:Heap)(a:Addr):HO->Prop
 |.lst xs=>xs.length<=sizeLine/\∃(its:List Value) (n:Nat),AU xs its/\h.get? a=some { cls:=.type "list",data:=.seq its.toArray n }
 |.tup xs=>xs.length<=sizeLine/\∃its:List Value,AU xs its/\IsTup h a its.toArray
 |.dK kvs=>kvs.length<=sizeLine/\(a == sysModules)=false/\∃vs,KV kvs vs/\h.DictOf (Bi P w) a vs
 |.dT kvs=>kvs.length<=sizeLine/\(a == sysModules)=false/\∃xs:List (List Key×Addr×Value),
   Paired (λ(p:List Key×V) (q:List Key×Addr×Value)=>p.1=q.1/\H q.2.1=some (.tup (p.1.map kV))/\RelV p.2 q.2.2) kvs xs /\
   ∃o es ep,h.get? a=some o/\o.ExactDict/\o.data=.dict es ep/\es.toList=xs.map (entryOfKey (tupleKind (Bi P w)))/\(xs.map (·.1)).Nodup
 |.set S n=>h.SetOf (intKind P w) a S n
 |.ins C dx fs=>H dx=some (.own a)/\fs.length<=1000/\dx≠a/\h.get? a=some (PySem.W.instObj C dx) /\
   ∃mA,h.Ns1 dx mA/\(∀f,Cv (fs.lookup f) (mA f))/\PySem.Within mA (fs.map (·.1))
 |.own _=>∃o,h.get? a=some o
 |.xd fs=>∃mA,h.Ns1 a mA/\∀f,Cv (fs.lookup f) (mA f)
 |.rng lo hi=>∃t u v,h.get? a=some { cls:=.type "range",data:=.fields #[.int lo t,.int hi u,.int 1 v] }
 |.frz o u=>h.get? a=some o/\BJ H h a u
 |.tbl ps=>h.get? a=some { cls:=.none,data:=.fields ps }
 |.met f x=>h.get? a=some (PySem.W.methodObj (.ref f) (.ref x))
 |.ext φ=>φ h/\(∃o,h.get? a=some o)/\∀h1 h2:Heap,φ h1->(∀o,h1.get? a=some o->h2.get? a=some o)->φ h2
def HOk(H:Hp)(h:Heap):Prop:=∀a o,H a=some o->BJ P w H h a o
end
section
variable {P:Program}{w:World}{H H':Hp}{h h':Heap}{a:Addr}{o:HO}
theorem BJ.lt(x:BJ P w H h a o):a<h.objs.size:=by
 cases o with
 |lst xs=>obtain⟨_,_,_,_,e⟩:=x;exact yae e
 |tup xs=>obtain⟨_,_,_,p⟩:=x;exact p.lt
 |dK kvs=>obtain⟨_,_,_,_,o,_,_,e,_⟩:=x;exact yae e
 |dT kvs=>obtain⟨_,_,_,_,o,_,_,e,_⟩:=x;exact yae e
 |set S n=>obtain⟨o,_,_,_,e,_⟩:=x;exact yae e
 |ins C dx fs=>obtain⟨_,_,_,e,_⟩:=x;exact yae e
 |own y=>obtain⟨_,e⟩:=x;exact yae e
 |xd fs=>obtain⟨_,⟨_,_,_,e,_⟩,_⟩:=x;exact yae e
 |rng lo hi=>obtain⟨_,_,_,e⟩:=x;exact yae e
 |frz ob u=>obtain⟨e,_⟩:=x;exact yae e
 |tbl ps=>exact yae (show h.get? a=some _ from x)
 |met f y=>exact yae (show h.get? a=some _ from x)
 |ext φ=>obtain⟨_,⟨_,e⟩,_⟩:=x;exact yae e
theorem Paired.mapP{α β:Type}{F G:α->β->Prop}:∀{l₁:List α} {l₂:List β},Paired F l₁ l₂->(∀a b,F a b->G a b)->Paired G l₁ l₂
 |_,_,.nil,_=>.nil
 |_,_,.cons r t,f=>.cons (f _ _ r) (Paired.mapP t f)
theorem BJ.stay(x:BJ P w H h a o)(k:∀b u,(b=a\/H b=some (.own a))->h.get? b=some u->h'.get? b=some u)
  (ho:∀b,H b=some (.own a)->H' b=some (.own a)) (ht:∀b xs,H b=some (.tup xs)->H' b=some (.tup xs)):BJ P w H' h' a o:=by
 induction o with
 |lst xs=>obtain⟨z,its,n,r,e⟩:=x;exact⟨z,its,n,r,k _ _ (.inl rfl) e⟩
 |tup xs=>obtain⟨z,its,r,ob,e,c⟩:=x;exact⟨z,its,r,ob,k _ _ (.inl rfl) e,c⟩
 |dK kvs=>obtain⟨z,y,vs,r,ob,es,ep,e,c⟩:=x;exact⟨z,y,vs,r,ob,es,ep,k _ _ (.inl rfl) e,c⟩
 |dT kvs =>
  obtain⟨z,y,xs,r,ob,es,ep,e,c⟩:=x;exact⟨z,y,xs,Paired.mapP r λp q z=>⟨z.1,ht _ _ z.2.1,z.2.2⟩,ob,es,ep,k _ _ (.inl rfl) e,c⟩
 |set S n=>obtain⟨ob,es,ep,t,e,c⟩:=x;exact⟨ob,es,ep,t,k _ _ (.inl rfl) e,c⟩
 |ins C dx fs =>
  obtain⟨d,z,ne,e,mA,⟨od,es,ep,e2,c⟩,r⟩:=x;exact⟨ho _ d,z,ne,k _ _ (.inl rfl) e,mA,⟨od,es,ep,k _ _ (.inr d) e2,c⟩,r⟩
 |own y=>obtain⟨ob,e⟩:=x;exact⟨ob,k _ _ (.inl rfl) e⟩
 |xd fs=>obtain⟨mA,⟨od,es,ep,e,c⟩,r⟩:=x;exact⟨mA,⟨od,es,ep,k _ _ (.inl rfl) e,c⟩,r⟩
 |rng lo hi=>obtain⟨t,u,v,e⟩:=x;exact⟨t,u,v,k _ _ (.inl rfl) e⟩
 |frz ob u ih=>obtain⟨e,q⟩:=x;exact⟨k _ _ (.inl rfl) e,ih q⟩
 |tbl ps =>
  have e:h.get? a=some { cls:=.none,data:=.fields ps }:=x;show h'.get? a=some { cls:=.none,data:=.fields ps };exact k a _ (.inl rfl) e
 |met f y =>
  have e:h.get? a=some (PySem.W.methodObj (.ref f) (.ref y)):=x;show h'.get? a=some (PySem.W.methodObj (.ref f) (.ref y));exact k a _ (.inl rfl) e
 |ext φ=>obtain⟨p,⟨o,e⟩,st⟩:=x;exact⟨st _ _ p λo q=>k _ _ (.inl rfl) q,⟨o,k _ _ (.inl rfl) e⟩,st⟩
theorem HOk.lt(x:HOk P w H h)(e:H a=some o):a<h.objs.size:=(x a o e).lt
theorem HOk.fresh(x:HOk P w H h)(e:h.objs.size<=a):H a=none:=by
 cases q:H a with
 |none=>rfl
 |some u=>exact absurd (yal (x.lt q) e) (yb7 _)
theorem HOk.kept(x:HOk P w H h)(k:∀b u,h.get? b=some u->h'.get? b=some u):HOk P w H h':=λa o e =>
 (x a o e).stay (λb u _ q=>k b u q) (λ_ q=>q) λ_ _ q=>q
theorem HOk.laid(x:HOk P w H h)(k:∀b u,h.get? b=some u->h'.get? b=some u)(hp:h.objs.size<=a)(new:BJ P w (upd H a o) h' a o):HOk P w (upd H a o) h':=λb u e=>by
 have hn:=x.fresh hp
 by_cases hb:b=a
 .subst hb;rw[Bb]at e;cases e;exact new
 .rw[Ad hb]at e;exact(x b u e).stay (λc v _ q=>k c v q) (λc q=>by rw[Ad (Be q hn)];exact q) λc xs q=>by rw[Ad (Be q hn)];exact q
end
def Rd(H:Hp)(a:Addr)(u:HO):Prop:=H a=some u\/∃o,H a=some (.frz o u)
theorem Rd.of{H:Hp}{a:Addr}{u:HO}(h:H a=some u):Rd H a u:=.inl h
theorem Rd.ok{P:Program}{w:World}{H:Hp}{h:Heap}{a:Addr}{u:HO}(r:Rd H a u)(x:HOk P w H h):BJ P w H h a u:=by
 rcases r with r|⟨o,r⟩
 .exact x a u r
 .obtain⟨_,q⟩:=x a _ r;exact q
def JE:Option HO->Prop
 |some (.lst _)=>True
 |some (.dK _)=>True
 |some (.dT _)=>True
 |some (.set _ _)=>True
 |some (.ins _ _ _)=>True
 |some (.ext _)=>True
 |_=>False
section
variable {P:Program}{w:World}{H:Hp}{h h':Heap}{x e:Addr}{o':HO}
theorem HOk.write(ok:HOk P w H h)(mu:JE (H x))(he:e=x\/H e=some (.own x))(k:∀b u,b≠e->h.get? b=some u->h'.get? b=some u)(heo:∃u,h'.get? e=some u)
  (new:BJ P w (upd H x o') h' x o'):HOk P w (upd H x o') h':=λb u q=>by
 have nown:∀c y,H c=some (.own y)->c≠x:=λc y r z=>by subst z;rw[r]at mu;exact mu
 have ntup:∀c xs,H c=some (.tup xs)->c≠x:=λc xs r z=>by subst z;rw[r]at mu;exact mu
 by_cases hb:b=x
 .subst hb;rw[Bb]at q;cases q;exact new
 .rw[Ad hb]at q
  by_cases hbe:b=e
  .have q':H b=some (.own x):=by
    rcases he with z|z
    .exact absurd (hbe.trans z) hb
    .rw[hbe];exact z
   rw[q]at q';cases q';obtain⟨v,hv⟩:=heo;exact⟨v,by rw[hbe];exact hv⟩
  .refine(ok b u q).stay (λc v hc r=>k c v ?_ r) (λc r=>by rw[Ad (nown c b r)];exact r) λc xs r=>by rw[Ad (ntup c xs r)];exact r
   rcases hc with rfl|hc
   .exact hbe
   .rintro rfl
    rcases he with z|z
    .exact nown c b hc z
    .rw[hc]at z;cases z;exact hb rfl
end
structure Un(fs ex:List Addr)(H H':Hp)(h h':Heap):Prop where
 keep:∀b o,h.get? b=some o->H b=none->b∉fs->b∉ex->h'.get? b=some o
 slot:∀b o,h.get? b=some o->H b=none->b∈fs->b∉ex->∃sl,h'.get? b=some { o with slots:=sl }
 free:∀b o,h.get? b=some o->H b=none->b∉ex->H' b=none
 there:∀b o,h.get? b=some o->b∉ex->∃o',h'.get? b=some o'
 tups:∀b xs,H b=some (.tup xs)->H' b=some (.tup xs)
 frzs:∀b o u,H b=some (.frz o u)->H' b=some (.frz o u)
 tbls:∀b ps,H b=some (.tbl ps)->∃more,H' b=some (.tbl (ps++more))
section
variable {fs fs' ex ex':List Addr}{H H1 H2:Hp}{h h1 h2 h':Heap}{a x e:Addr}{o:HO}
theorem Un.any(u:Un fs ex H H1 h h1){b:Addr}{ob:Obj}(q:h.get? b=some ob)(n:H b=none)(hx:b∉ex):∃sl,h1.get? b=some { ob with slots:=sl }:=by
 by_cases hb:b∈fs
 .exact u.slot b ob q n hb hx
 .exact⟨ob.slots,u.keep b ob q n hb hx⟩
theorem Un.trans(a:Un fs ex H H1 h h1)(b:Un fs ex H1 H2 h1 h2):Un fs ex H H2 h h2 where
 keep:=λc ob q n hc hx=>b.keep c ob (a.keep c ob q n hc hx) (a.free c ob q n hx) hc hx
 slot:=λc ob q n hc hx=>by
  obtain⟨sl,e1⟩:=a.slot c ob q n hc hx;obtain⟨sl',e2⟩:=b.slot c _ e1 (a.free c ob q n hx) hc hx;exact⟨sl',e2⟩
 free:=λc ob q n hx=>by
  obtain⟨o',e1⟩:=a.there c ob q hx;exact b.free c o' e1 (a.free c ob q n hx) hx
 there:=λc ob q hx=>by
  obtain⟨o',e1⟩:=a.there c ob q hx;exact b.there c o' e1 hx
 tups:=λc xs q=>b.tups c xs (a.tups c xs q)
 frzs:=λc ob xs q=>b.frzs c ob xs (a.frzs c ob xs q)
 tbls:=λc ps q=>by
  obtain⟨m1,e1⟩:=a.tbls c ps q;obtain⟨m2,e2⟩:=b.tbls c _ e1;exact⟨m1++m2,by rw[e2,ydy]⟩
theorem Un.kept(k:∀b u,h.get? b=some u->h'.get? b=some u):Un fs ex H H h h' :=
 ⟨λb ob q _ _ _=>k b ob q,λb ob q _ _ _=>⟨ob.slots,k b ob q⟩,λ_ _ _ n _=>n,λb ob q _=>⟨ob,k b ob q⟩,λ_ _ q=>q,λ_ _ _ q=>q,λ_ ps q=>⟨#[],by rw[q];simp⟩⟩
theorem Un.refl:Un fs ex H H h h:=Un.kept λ_ _ q=>q
theorem Un.laid(k:∀b u,h.get? b=some u->h'.get? b=some u)(hp:h.objs.size<=a)(hn:H a=none):Un fs ex H (upd H a o) h h' where
 keep:=λb u q _ _ _=>k b u q
 slot:=λb u q _ _ _=>⟨u.slots,k b u q⟩
 free:=λb u q n _=>by rw[Ad (yaw (yal (yae q) hp))];exact n
 there:=λb u q _=>⟨u,k b u q⟩
 tups:=λb xs q=>by rw[Ad (Be q hn)];exact q
 frzs:=λb u xs q=>by rw[Ad (Be q hn)];exact q
 tbls:=λb ps q=>⟨#[],by rw[Ad (Be q hn),q];simp⟩
theorem Un.write(mu:JE (H x))(he:e=x\/H e=some (.own x))(k:∀b u,b≠e->h.get? b=some u->h'.get? b=some u)(heo:∃u,h'.get? e=some u):Un fs ex H (upd H x o) h h':=by
 have hx:∀b,H b=none->b≠x:=λb n z=>by subst z;rw[n]at mu;exact mu
 have hb:∀b,H b=none->b≠e:=λb n z=>by
  subst z
  rcases he with r|r
  .exact hx b n r
  .rw[n]at r;cases r
 have hm:∀b u,H b=some u->¬ JE (some u)->b≠x:=λb u q nm z=>by subst z;rw[q]at mu;exact nm mu
 refine⟨λb u q n _ _=>k b u (hb b n) q,λb u q n _ _=>⟨u.slots,k b u (hb b n) q⟩,λb u q n _=>by rw[Ad (hx b n)];exact n,λb u q _=>?_,
  λb xs q=>by rw[Ad (hm b _ q λz=>z)];exact q,λb u xs q=>by rw[Ad (hm b _ q λz=>z)];exact q,λb ps q=>⟨#[],by rw[Ad (hm b _ q λz=>z),q];simp⟩⟩
 by_cases hbe:b=e
 .subst hbe;exact heo
 .exact⟨u,k b u hbe q⟩
theorem Un.mono(u:Un fs ex H H1 h h1)(hs:∀b∈fs,b∈fs')(hx:∀b∈ex,b∈ex'):Un fs' ex' H H1 h h1 :=
 ⟨λb ob q n hb he=>u.keep b ob q n (λz=>hb (hs b z)) λz=>he (hx b z),λ_ _ q n _ he=>u.any q n λz=>he (hx _ z),λb ob q n he=>u.free b ob q n λz=>he (hx b z),λb ob q he=>u.there b ob q λz=>he (hx b z),u.tups,u.frzs,u.tbls⟩
end
def J0(h:Heap)(H:Hp):List Addr:=(List.range h.objs.size).filter λa=>(H a).isSome
def FC(h:Heap)(H:Hp):Heap:=PySem.W.hideAll h (J0 h H)
theorem zdf(h:Heap)(H:Hp):(FC h H).objs.size=h.objs.size:=PySem.W.hideAll_size _ _
theorem zff{h:Heap}{H:Hp}{b:Addr}{o:Obj}(e:h.get? b=some o)(n:H b=none):(FC h H).get? b=some o :=
 ybw _ e λhm=>by
  have q:(H b).isSome=true:=(List.mem_filter.mp hm).2;rw[n]at q;simp at q
theorem zhn{h:Heap}{H:Hp}{b:Addr}{o:Obj}(e:(FC h H).get? b=some o):h.get? b=some o/\H b=none:=by
 have e':h.get? b=some o:=yc8 (J0 h H) e;refine⟨e',?_⟩;cases q:H b with
 |none=>rfl
 |some x =>
  have hm:b∈J0 h H:=List.mem_filter.mpr ⟨ybn.mpr (yae e'),by simp[q]⟩
  have z:(FC h H).get? b=none:=ydk (J0 h H) hm;rw[z]at e;cases e
def zir(g h:Heap)(L:Addr):List (Addr×Obj):=(List.range h.objs.size).filterMap λa=>if a=L\/(g.get? a).isSome=true then none else (h.get? a).map λo=>(a,o)
def BK(g h:Heap)(L d:Addr):List (Addr×Obj):=(zir g h L).filter λp=>decide (p.1≠d)
structure Mod(K:kA)(mg:Str->Option Value)(base:Heap):Prop where
 kin:K.In base
 glob:base.Ns mainGlobals mg
 blt:∃mb,base.Ns builtinsNs mb/\∀x:Str,x≠"__name__"->mb x=bootBuiltins x
 nolimit:base.NoLimit
set_option genInjectivity false in
structure Cx where
 prog:Program
 w:World
 K:kA
 mg:Str->Option Value
 base:Heap
 A:Around
 N:List Str
 s₀:Shared
 H₀:Hp
 env:Env
 outer:List Env
 stack:List Env
 ex:List Addr
 fn:Str->Bool
 calm:Bool
 pn:List (Addr×Obj)
 xe:Value->Shared->Prop
def Ax(l:List Env):List Addr:=l.filterMap (·.frame)
abbrev Cx.fs(X:Cx):List Addr:=Ax X.outer
def DM(sc:Scope)(x:Str):Prop:=sc.names.lookup x=some .local\/sc.names.lookup x=some .cell\/sc.names.lookup x=some .free
def Fq(sc:Scope)(x:Str):Prop:=sc.names.lookup x=some .local\/sc.names.lookup x=some .cell
def Look(env:Env)(h:Heap)(m:Str->Option Value)(x:Str)(u:Value):Prop :=
 (env.kindOf x=some .local/\m x=some u)\/((env.kindOf x=some .cell\/env.kindOf x=some .free)/\∃c,env.cells.lookup x=some c/\h.IsCell c (some u))
structure Cx.Ok(X:Cx):Prop where
 mod:Mod X.K X.mg X.base
 kind:X.env.scope.kind=.function
 glob:X.env.globals=mainGlobals
 blt:X.env.builtins=builtinsNs
 above:X.s₀.heap.objs.size<=X.env.locals
 inj:∀x y c,X.env.cells.lookup x=some c->X.env.cells.lookup y=some c->x=y
 has:∀x,(X.env.kindOf x=some .cell\/X.env.kindOf x=some .free)->∃c,X.env.cells.lookup x=some c
 cab:∀x c,X.fn x=true->X.env.cells.lookup x=some c->X.s₀.heap.objs.size<=c
 hd:X.calm=true->X.A.handled=none
 frames:X.A.frames=some X.stack
 stk:X.stack=X.outer\/(X.stack=X.env::X.outer/\X.env.frame=some X.env.locals)
 exf:∀b∈X.ex,b≠X.env.locals/\∀x c,X.env.cells.lookup x=some c->c≠b
 bs:∀b o,X.base.get? b=some o->X.s₀.heap.get? b=some o/\X.H₀ b=none
 bsz:X.base.objs.size<=X.s₀.heap.objs.size
 noex:∀b o,X.base.get? b=some o->b∉X.ex
 exfs:∀b∈X.ex,b∉X.fs
 funs:X.s₀.heap.FunFrames X.base X.outer
 frf:∀b∈X.fs,X.H₀ b=none
structure Inv(X:Cx)(pins:List (Addr×Obj))(σ:List (Option V))(H:Hp)(s:Shared):Prop where
 ok:X.Ok
 os:s.os=X.s₀.os
 bare:AllBare s.gens
 base:Un X.fs X.ex X.H₀ H X.s₀.heap s.heap
 loc:∃m,s.heap.Ns X.env.locals m/\∀(i:Nat) (x:Str) (v:V),X.N[i]?=some x->σ[i]?=some (some v)->DM X.env.scope x->∃u,RelV v u/\Look X.env s.heap m x u
 cell:∀x c,X.env.cells.lookup x=some c->∃v,s.heap.IsCell c v
 free:H X.env.locals=none
 freeC:∀x c,X.env.cells.lookup x=some c->H c=none
 pin:∀p∈X.pn++pins,s.heap.get? p.1=some p.2/\H p.1=none/\p.1≠X.env.locals/\p.1∉X.fs/\∀v,p.2.data≠.cell v
 hok:HOk X.prog X.w H s.heap
 len:σ.length=X.N.length
section
variable {X:Cx}{pins:List (Addr×Obj)}{σ:List (Option V)}{H H':Hp}{s:Shared}{h':Heap}
theorem Cx.Ok.nofr(ok:X.Ok){b:Addr}{o:Obj}(e:X.base.get? b=some o):b∉X.fs:=λhb=>by
 have:=(ok.funs.mem hb).1;rw[e]at this;cases this
theorem Inv.bs(I:Inv X pins σ H s):∀b o,X.base.get? b=some o->s.heap.get? b=some o/\H b=none:=λb o e =>
 ⟨I.base.keep b o (I.ok.bs b o e).1 (I.ok.bs b o e).2 (I.ok.nofr e) (I.ok.noex b o e),I.base.free b o (I.ok.bs b o e).1 (I.ok.bs b o e).2 (I.ok.noex b o e)⟩
theorem Inv.bk(I:Inv X pins σ H s):∀b o,X.base.get? b=some o->s.heap.get? b=some o:=λb o e=>(I.bs b o e).1
theorem Inv.mod(I:Inv X pins σ H s):Mod X.K X.mg X.base:=I.ok.mod
theorem Inv.kIn(I:Inv X pins σ H s):X.K.In s.heap:=I.ok.mod.kin.keeps I.bk
theorem Inv.nolimit(I:Inv X pins σ H s):s.heap.NoLimit:=I.ok.mod.nolimit.keeps I.bk
theorem Inv.fr(I:Inv X pins σ H s):∃m,Fr X.base X.env.locals s.heap m :=
 let ⟨m,hn,_⟩:=I.loc
 ⟨m,hn,I.bk,yap I.ok.bsz I.ok.above⟩
theorem Inv.lt(I:Inv X pins σ H s):X.env.locals<s.heap.objs.size:=let ⟨_,hn,_⟩:=I.loc;hn.lt
theorem Inv.sz(I:Inv X pins σ H s):X.s₀.heap.objs.size<=s.heap.objs.size:=yap I.ok.above (ydl I.lt)
theorem Inv.nofs(I:Inv X pins σ H s){a:Addr}(h:s.heap.objs.size<=a):a∉X.fs:=λhb=>by
 obtain⟨_,o,ho,_⟩:=I.ok.funs.mem hb;exact absurd (yal (yae ho) (yap I.sz h)) (yb7 _)
theorem Inv.cne(I:Inv X pins σ H s):∀x c,X.env.cells.lookup x=some c->c≠X.env.locals:=λx c e z=>by
 obtain⟨v,o,ho,hd⟩:=I.cell x c e;obtain⟨m,⟨o',es,ep,ho',hd',_⟩,_⟩:=I.loc;rw[z,ho']at ho;cases ho;rw[hd']at hd;cases hd
theorem Inv.funs(I:Inv X pins σ H s):s.heap.FunFrames X.base X.outer:=by
 have all:∀(l:List Env),(∀b∈Ax l,b∈X.fs)->X.s₀.heap.FunFrames X.base l->s.heap.FunFrames X.base l:=by
  intro l
  induction l with
  |nil=>intro _ _;trivial
  |cons env r ih =>
   intro hs hl;obtain⟨hk,⟨L,o,hf,hn,ho,hd⟩,hr⟩:=hl;have hL:L∈X.fs:=hs L (by unfold Ax;rw[ydu,hf];exact yah)
   obtain⟨sl,e⟩:=I.base.slot L o ho (I.ok.frf L hL) hL λz=>I.ok.exfs L z hL
   exact⟨hk,⟨L,_,hf,hn,e,hd⟩,ih (λb hb=>hs b (by unfold Ax;rw[ydu,hf];exact yab _ hb)) hr⟩
 exact all X.outer (λ_ hb=>hb) I.ok.funs
theorem Inv.stack(I:Inv X pins σ H s):s.heap.FunFrames X.base X.stack:=by
 rcases I.ok.stk with e|⟨e,hf⟩
 .rw[e];exact I.funs
 .rw[e];obtain⟨m,hn,_⟩:=I.loc;refine .cons (by rw[I.ok.kind];decide) hf hn ?_ I.funs
  exact Heap.get?_none_of_le (yap I.ok.bsz I.ok.above)
theorem Inv.stkSub(I:Inv X pins σ H s):∀b∈Ax X.stack,b∈X.env.locals::X.fs:=λb hb=>by
 rcases I.ok.stk with e|⟨e,hf⟩
 .rw[e]at hb;exact yab _ hb
 .rw[e]at hb;unfold Ax at hb;rw[ydu,hf]at hb;exact hb
theorem Inv.stkFree(I:Inv X pins σ H s):∀b∈Ax X.stack,H b=none:=λb hb=>by
 rcases ya9.mp (I.stkSub b hb) with e|hb
 .rw[e];exact I.free
 .obtain⟨_,o,ho,_⟩:=I.ok.funs.mem hb;exact I.base.free b o ho (I.ok.frf b hb) λz=>I.ok.exfs b z hb
theorem Inv.step{g':Array GenState}{t':Nat}{d':Drawn}{ch:List Addr}(I:Inv X pins σ H s)
  (hch:∀b∈ch,(b∈X.ex\/X.s₀.heap.objs.size<=b)/\b≠X.env.locals/\(∀x c,X.env.cells.lookup x=some c->c≠b)/\∀p∈X.pn++pins,p.1≠b)
  (keep:∀b o,b≠X.env.locals->b∉X.fs->b∉ch->s.heap.get? b=some o->H b=none->h'.get? b=some o)
  (slot:∀b o,b≠X.env.locals->b∈X.fs->b∉ch->s.heap.get? b=some o->H b=none->∃sl,h'.get? b=some { o with slots:=sl }) (free:∀b o,b∉ch->s.heap.get? b=some o->H b=none->H' b=none)
  (there:∀b o,b∉ch->s.heap.get? b=some o->∃o',h'.get? b=some o')
  (tups:∀b xs,H b=some (.tup xs)->H' b=some (.tup xs)) (frzs:∀b o u,H b=some (.frz o u)->H' b=some (.frz o u)) (tbls:∀b ps,H b=some (.tbl ps)->∃more,H' b=some (.tbl (ps++more)))
  (ns:∀m,s.heap.Ns X.env.locals m->h'.Ns X.env.locals m) (hok:HOk X.prog X.w H' h') (hg:AllBare g') :
  Inv X pins σ H' { s with heap:=h',gens:=g',drawn:=d',toks:=t' }:=by
 have neL:∀b o,X.s₀.heap.get? b=some o->b≠X.env.locals:=λb o e=>yaw (yal (yae e) I.ok.above)
 have neC:∀b o,X.s₀.heap.get? b=some o->b∉X.ex->b∉ch:=λb o e hx hb=>by
  rcases(hch b hb).1 with z|z
  .exact hx z
  .exact absurd (yal (yae e) z) (yb7 _)
 have cellK:∀x c,X.env.cells.lookup x=some c->∀v,s.heap.IsCell c v->h'.IsCell c v:=λx c e v ⟨o,ho,hd⟩=>by
  have nch:c∉ch:=λz=>(hch c z).2.2.1 x c e rfl
  by_cases hc:c∈X.fs
  .obtain⟨sl,q⟩:=slot c o (I.cne x c e) hc nch ho (I.freeC x c e);exact⟨_,q,hd⟩
  .exact⟨o,keep c o (I.cne x c e) hc nch ho (I.freeC x c e),hd⟩
 refine⟨I.ok,I.os,hg,⟨λb o e n hb hx=>?_,λb o e n hb hx=>?_,λb o e n hx=>?_,λb o e hx=>?_,λb xs e=>tups b xs (I.base.tups b xs e),λb o xs e=>frzs b o xs (I.base.frzs b o xs e),λb ps e=>?_⟩,?_,λx c e=>?_,?_,λx c e=>?_,λp hp=>?_,hok,I.len⟩
 .exact keep b o (neL b o e) hb (neC b o e hx) (I.base.keep b o e n hb hx) (I.base.free b o e n hx)
 .obtain⟨sl,e1⟩:=I.base.slot b o e n hb hx;obtain⟨sl',e2⟩:=slot b _ (neL b o e) hb (neC b o e hx) e1 (I.base.free b o e n hx);exact⟨sl',e2⟩
 .obtain⟨o',e1⟩:=I.base.there b o e hx;exact free b o' (neC b o e hx) e1 (I.base.free b o e n hx)
 .obtain⟨o',e1⟩:=I.base.there b o e hx;exact there b o' (neC b o e hx) e1
 .obtain⟨m1,e1⟩:=I.base.tbls b ps e;obtain⟨m2,e2⟩:=tbls b _ e1;exact⟨m1++m2,by rw[e2,ydy]⟩
 .obtain⟨m,hn,hl⟩:=I.loc;refine⟨m,ns m hn,λi x v e1 e2 e3=>?_⟩
  obtain⟨u,r,l⟩:=hl i x v e1 e2 e3;refine⟨u,r,?_⟩
  rcases l with l|⟨k,c,e,z⟩
  .exact .inl l
  .exact .inr ⟨k,c,e,cellK x c e _ z⟩
 .obtain⟨v,z⟩:=I.cell x c e;exact⟨v,cellK x c e v z⟩
 .obtain⟨m,⟨o,_,_,ho,_⟩,_⟩:=I.loc;exact free _ o (λz=>(hch _ z).2.1 rfl) ho I.free
 .obtain⟨v,o,ho,hd⟩:=I.cell x c e;exact free c o (λz=>(hch c z).2.2.1 x c e rfl) ho (I.freeC x c e)
 .obtain⟨e,n,ne,nf,d⟩:=I.pin p hp;have nch:p.1∉ch:=λz=>(hch p.1 z).2.2.2 p hp rfl
  exact⟨keep p.1 p.2 ne nf nch e n,free p.1 p.2 nch e n,ne,nf,d⟩
theorem Inv.un{t':Nat}(I:Inv X pins σ H s)(u:Un X.fs [] H H' s.heap h')(hok:HOk X.prog X.w H' h'):Inv X pins σ H' { s with heap:=h',toks:=t' }:=by
 obtain⟨m,⟨o,es,ep,ho,r⟩,_⟩:=id I.loc;obtain⟨sl,hL⟩:=u.any ho I.free (by simp)
 exact I.step (g':=s.gens) (d':=s.drawn) (ch:=[]) (λ_ z=>nomatch z) (λb o _ hb _ e n=>u.keep b o e n hb (by simp)) (λb o _ hb _ e n=>u.slot b o e n hb (by simp)) (λb o _ e n=>u.free b o e n (by simp)) (λb o _ e=>u.there b o e (by simp)) u.tups u.frzs u.tbls (λm' hm=>by
  obtain⟨o',es',ep',ho',r'⟩:=hm;rw[ho]at ho';cases ho';exact⟨_,es',ep',hL,r'⟩) hok I.bare
theorem Inv.call{g':Array GenState}{t':Nat}{d':Drawn}{ch:List Addr}(I:Inv X pins σ H s)(u:Un (Ax X.stack) ch H H' s.heap h')(hok:HOk X.prog X.w H' h')(hg:AllBare g')
  (hch:∀b∈ch,(b∈X.ex\/X.s₀.heap.objs.size<=b)/\b≠X.env.locals/\(∀x c,X.env.cells.lookup x=some c->c≠b)/\∀p∈X.pn++pins,p.1≠b) :
  Inv X pins σ H' { s with heap:=h',gens:=g',drawn:=d',toks:=t' }:=by
 obtain⟨m,⟨o,es,ep,ho,r⟩,_⟩:=id I.loc;obtain⟨sl,hL⟩:=u.any ho I.free λz=>(hch _ z).2.1 rfl
 exact I.step (ch:=ch) hch (λb o hL hb hc e n=>u.keep b o e n (λz=>(ya9.mp (I.stkSub b z)).elim hL hb) hc) (λb o _ _ hc e n=>u.any e n hc) (λb o hc e n=>u.free b o e n hc) (λb o hc e=>u.there b o e hc) u.tups u.frzs u.tbls (λm' hm=>by
  obtain⟨o',es',ep',ho',r'⟩:=hm;rw[ho]at ho';cases ho';exact⟨_,es',ep',hL,r'⟩) hok hg
theorem Inv.turned{t':Nat}{it:Addr}(I:Inv X pins σ H s)(k:∀b o,b≠it->s.heap.get? b=some o->h'.get? b=some o)(hn:H it=none)(hL:it≠X.env.locals)
  (h1:it∈X.ex\/X.s₀.heap.objs.size<=it) (h2:∀x c,X.env.cells.lookup x=some c->c≠it) (h3:∀p∈X.pn++pins,p.1≠it):Inv X pins σ H { s with heap:=h',toks:=t' }:=by
 have nit:∀b u,H b=some u->b≠it:=λb u e z=>by rw[z,hn]at e;cases e
 refine I.step (g':=s.gens) (d':=s.drawn) (ch:=[it]) (λb hb=>?_) (λb o _ _ hc e _=>k b o (λz=>hc (by simp[z])) e) (λb o _ _ hc e _=>⟨o.slots,k b o (λz=>hc (by simp[z])) e⟩) (λ_ _ _ _ n=>n)
  (λb o hc e=>⟨o,k b o (λz=>hc (by simp[z])) e⟩) (λ_ _ e=>e) (λ_ _ _ e=>e) (λb ps e=>⟨#[],by rw[e];simp⟩) (λm hm=>?_) (λb u e=>?_) I.bare
 .have e:b=it:=by simpa using hb
  subst e;exact⟨h1,hL,h2,h3⟩
 .obtain⟨o,es,ep,ho,r⟩:=hm;exact⟨o,es,ep,k _ o (yb1 hL) ho,r⟩
 .refine(I.hok b u e).stay (λc v hc q=>k c v ?_ q) (λ_ q=>q) λ_ _ q=>q
  rcases hc with z|z
  .rw[z];exact nit b u e
  .exact nit c _ z
theorem Inv.tok(I:Inv X pins σ H s)(t:Nat):Inv X pins σ H { s with toks:=t }:=I.un (h':=s.heap) (t':=t) Un.refl I.hok
theorem Inv.kept{t':Nat}(I:Inv X pins σ H s)(k:∀b u,s.heap.get? b=some u->h'.get? b=some u):Inv X pins σ H { s with heap:=h',toks:=t' }:=I.un (Un.kept k) (I.hok.kept k)
theorem Inv.laid{a:Addr}{o:HO}{t':Nat}(I:Inv X pins σ H s)(k:∀b u,s.heap.get? b=some u->h'.get? b=some u)(hp:s.heap.objs.size<=a)(new:BJ X.prog X.w (upd H a o) h' a o) :
  Inv X pins σ (upd H a o) { s with heap:=h',toks:=t' }:=I.un (Un.laid k hp (I.hok.fresh hp)) (I.hok.laid k hp new)
theorem Inv.write{x e:Addr}{o:HO}{t':Nat}(I:Inv X pins σ H s)(mu:JE (H x))(he:e=x\/H e=some (.own x))(k:∀b u,b≠e->s.heap.get? b=some u->h'.get? b=some u)(heo:∃u,h'.get? e=some u)
  (new:BJ X.prog X.w (upd H x o) h' x o):Inv X pins σ (upd H x o) { s with heap:=h',toks:=t' }:=I.un (Un.write mu he k heo) (I.hok.write mu he k heo new)
theorem Inv.weak{σ':List (Option V)}(I:Inv X pins σ H s)(hl:σ'.length=σ.length)(w:∀(i:Nat) v,σ'[i]?=some (some v)->σ[i]?=some (some v)):Inv X pins σ' H s :=
 ⟨I.ok,I.os,I.bare,I.base,let ⟨m,hn,hl'⟩:=I.loc;⟨m,hn,λi x v e1 e2 e3=>hl' i x v e1 (w i v e2) e3⟩,I.cell,I.free,I.freeC,I.pin,I.hok,hl.trans I.len⟩
theorem Inv.pins_of{pins':List (Addr×Obj)}(I:Inv X pins σ H s)(h:∀p∈pins',s.heap.get? p.1=some p.2/\H p.1=none/\p.1≠X.env.locals/\p.1∉X.fs/\∀v,p.2.data≠.cell v):Inv X pins' σ H s :=
 ⟨I.ok,I.os,I.bare,I.base,I.loc,I.cell,I.free,I.freeC,λp hp=>(yaj.mp hp).elim (λz=>I.pin p (ybb _ z)) (h p),I.hok,I.len⟩
theorem Mj{N:List Str}(hN:N.Nodup){i j:Nat}{x:Str}(a:N[i]?=some x)(b:N[j]?=some x):i=j:=by
 obtain⟨h1,e1⟩:=ya8.mp a;obtain⟨h2,e2⟩:=ya8.mp b;exact(ye6 hN).mp (e1.trans e2.symm)
theorem Pg{M:Model}{A:Around}{E:Value->Shared->Prop}{i:Nat}{x:Str}{v:V}{u:Value}{Q:Unit->Shared->Prop}(I:Inv X pins σ H s)(hN:X.N.Nodup)(hi:X.N[i]?=some x)(hx:Fq X.env.scope x)(r:RelV v u)
  (h:∀s',Inv X pins (σ.set i (some v)) H s'->(∃a,Heap.SameBut a s.heap s'.heap/\(a=X.env.locals\/X.env.cells.lookup x=some a))->Q () s') (hf:X.fn x=true\/X.env.scope.names.lookup x=some .local:=by first|exact .inl rfl|exact .inr rfl|assumption):wpAny M A (storeName X.env x u) Q E s:=by
 obtain⟨m,hn,hl⟩:=id I.loc;have hcls:(X.env.scope.kind == .class || (X.env.scope.kind == .module && X.env.locals != X.env.globals))=false:=by rw[I.ok.kind];rfl
 have hiσ:i<σ.length:=by rw[I.len];exact(ya8.mp hi).1
 have cne:=I.cne
 have tracked:∀{a:Addr} {h':Heap},(∃o,s.heap.get? a=some o/\H a=none)->Heap.SameBut a s.heap h'->HOk X.prog X.w H h':=λ{a h'} ha hs b ob e=>by
  obtain⟨_,_,hfree⟩:=ha;refine(I.hok b ob e).stay (λc w' hc q=>(hs.2 c ?_).trans q) (λ_ q=>q) λ_ _ q=>q
  rintro rfl
  rcases hc with rfl|hc
  .rw[hfree]at e;cases e
  .rw[hfree]at hc;cases hc
 rcases hx with hk|hk
 .refine wpAny_storeName_local hk hn (λh' hn' hs=>?_) hcls
  obtain⟨oL,_,_,hoL,_⟩:=id hn;refine h _ ⟨I.ok,I.os,I.bare,⟨λb o e n hb hx=>?_,λb o e n hb hx=>?_,I.base.free,λb o e hx=>?_,I.base.tups,I.base.frzs,I.base.tbls⟩,⟨_,hn',λj y v' e1 e2 e3=>?_⟩,λy c e=>?_,I.free,I.freeC,λp hp=>?_,tracked ⟨oL,hoL,I.free⟩ hs,by simpa using I.len⟩ ⟨_,hs,.inl rfl⟩
  .exact(hs.2 b (yaw (yal (yae e) I.ok.above))).trans (I.base.keep b o e n hb hx)
  .obtain⟨sl,e1⟩:=I.base.slot b o e n hb hx;exact⟨sl,(hs.2 b (yaw (yal (yae e) I.ok.above))).trans e1⟩
  .obtain⟨o',e1⟩:=I.base.there b o e hx;exact⟨o',(hs.2 b (yaw (yal (yae e) I.ok.above))).trans e1⟩
  .by_cases hj:j=i
   .subst hj;rw[hi]at e1;cases e1;rw[yao hiσ]at e2;cases e2;exact⟨u,r,.inl ⟨hk,by simp⟩⟩
   .rw[yan (yb1 hj)]at e2;obtain⟨u',r',q⟩:=hl j y v' e1 e2 e3;refine⟨u',r',?_⟩
    rcases q with ⟨k,e⟩|⟨k,c,e,z⟩
    .refine .inl ⟨k,?_⟩;have:y≠x:=λe=>hj (Mj hN e1 (e▸hi))
     simp[this,e]
    .exact .inr ⟨k,c,e,z.sameBut hs (cne y c e)⟩
  .obtain⟨w',z⟩:=I.cell y c e;exact⟨w',z.sameBut hs (cne y c e)⟩
  .obtain⟨e,n,ne,nf,d⟩:=I.pin p hp;exact⟨(hs.2 p.1 ne).trans e,n,ne,nf,d⟩
 .have hfn:X.fn x=true:=by
   rcases hf with z|z
   .exact z
   .rw[z]at hk;cases hk
  obtain⟨c,hc⟩:=I.ok.has x (.inl hk);obtain⟨w',z⟩:=I.cell x c hc;refine wpAny_storeName_cell I.ok.kind hk hc z (λh' hc' hs=>?_)
  obtain⟨oc,hoc,hocd⟩:=id z;refine h { s with heap:=h' } ⟨I.ok,I.os,I.bare,⟨λb o e n hb hx=>?_,λb o e n hb hx=>?_,I.base.free,λb o e hx=>?_,I.base.tups,I.base.frzs,I.base.tbls⟩,⟨m,hn.sameBut hs (yb1 (cne x c hc)),λj y v' e1 e2 e3=>?_⟩,λy c' e=>?_,I.free,I.freeC,λp hp=>?_,tracked ⟨oc,hoc,I.freeC x c hc⟩ hs,by simpa using I.len⟩ ⟨c,hs,.inr hc⟩
  .exact(hs.2 b (yaw (yal (yae e) (I.ok.cab x c hfn hc)))).trans (I.base.keep b o e n hb hx)
  .obtain⟨sl,e1⟩:=I.base.slot b o e n hb hx;exact⟨sl,(hs.2 b (yaw (yal (yae e) (I.ok.cab x c hfn hc)))).trans e1⟩
  .obtain⟨o',e1⟩:=I.base.there b o e hx;exact⟨o',(hs.2 b (yaw (yal (yae e) (I.ok.cab x c hfn hc)))).trans e1⟩
  .by_cases hj:j=i
   .subst hj;rw[hi]at e1;cases e1;rw[yao hiσ]at e2;cases e2;exact⟨u,r,.inr ⟨.inl hk,c,hc,hc'⟩⟩
   .rw[yan (yb1 hj)]at e2;obtain⟨u',r',q⟩:=hl j y v' e1 e2 e3;refine⟨u',r',?_⟩
    rcases q with q|⟨k,c',e,z'⟩
    .exact .inl q
    .refine .inr ⟨k,c',e,z'.sameBut hs ?_⟩;rintro rfl;exact hj (Mj hN e1 (I.ok.inj _ _ _ e hc▸hi))
  .by_cases hcc:c'=c
   .subst hcc;exact⟨_,hc'⟩
   .obtain⟨w2,z2⟩:=I.cell y c' e;exact⟨w2,z2.sameBut hs hcc⟩
  .obtain⟨e,n,ne,nf,d⟩:=I.pin p hp;refine⟨(hs.2 p.1 ?_).trans e,n,ne,nf,d⟩;intro q;rw[q,hoc]at e;have q':oc=p.2:=yb0 e;exact d w' (by rw[<- q'];exact hocd)
theorem Ll{M:Model}{A:Around}{E:Value->Shared->Prop}{i:Nat}{x:Str}{v:V}{u:Value}{Q:Unit->Shared->Prop}(I:Inv X pins σ H s)(hN:X.N.Nodup)(hi:X.N[i]?=some x)(hx:Fq X.env.scope x)(r:RelV v u)
  (h:∀s',Inv X pins (σ.set i (some v)) H s'->Q () s') (hf:X.fn x=true\/X.env.scope.names.lookup x=some .local:=by first|exact .inl rfl|exact .inr rfl|assumption):wpAny M A (storeName X.env x u) Q E s :=
 Pg I hN hi hx r (λs' I' _=>h s' I') hf
theorem Inv.call'{s':Shared}{ch:List Addr}(I:Inv X pins σ H s)(ho:s'.os=s.os)(u:Un (Ax X.stack) ch H H' s.heap s'.heap)(hok:HOk X.prog X.w H' s'.heap)(hg:AllBare s'.gens)
  (hch:∀b∈ch,(b∈X.ex\/X.s₀.heap.objs.size<=b)/\b≠X.env.locals/\(∀x c,X.env.cells.lookup x=some c->c≠b)/\∀p∈X.pn++pins,p.1≠b):Inv X pins σ H' s':=by
 obtain⟨h',g',d',t',o'⟩:=s';have e:o'=s.os:=ho;subst e;exact I.call (g':=g') (t':=t') (d':=d') u hok hg hch
end
abbrev XK:=Value->Option Addr->Hp->Prop
abbrev St:=List (Option V)
abbrev VK:=V->Hp->Prop
abbrev TE:=St->Hp->VK->Prop
abbrev TT:=St->Hp->(Bool->Hp->Prop)->Prop
abbrev TA:=St->Hp->(List V->Hp->Prop)->Prop
structure Ends where
 nx:St->Hp->Prop
 rt:VK
 bk:St->Hp->Prop:=λ_ _=>False
 ct:St->Hp->Prop:=λ_ _=>False
abbrev TS:=Ends->St->Hp->Prop
def EP(X:Cx)(pins:List (Addr×Obj))(σ:St)(Q:VK)(u:Value)(s':Shared):Prop:=∃v H',Inv X pins σ H' s'/\RelV v u/\Q v H'
def TP(X:Cx)(pins:List (Addr×Obj))(σ:St)(Q:Bool->Hp->Prop)(b:Bool)(s':Shared):Prop:=∃H',Inv X pins σ H' s'/\Q b H'
def AP(X:Cx)(pins:List (Addr×Obj))(σ:St)(Q:List V->Hp->Prop)(us:List Value)(s':Shared):Prop:=∃vs H',Inv X pins σ H' s'/\AU vs us/\Q vs H'
def SP(X:Cx)(pins:List (Addr×Obj))(D:Ends)(f:Flow)(s':Shared):Prop :=
 match f with
 |.next=>∃σ' H',Inv X pins σ' H' s'/\D.nx σ' H'
 |.brk=>∃σ' H',Inv X pins σ' H' s'/\D.bk σ' H'
 |.cont=>∃σ' H',Inv X pins σ' H' s'/\D.ct σ' H'
 |.ret u=>∃v σ' H',Inv X pins σ' H' s'/\RelV v u/\D.rt v H'
def PE(X:Cx)(e:Expr)(t:TE):Prop :=
 ∀(pins:List (Addr×Obj)) (s:Shared) (σ:St) (H:Hp) (Q:VK),Inv X pins σ H s->t σ H Q->wpAny (model X.prog X.w) X.A (eval e X.env) (EP X pins σ Q) X.xe s
def PT(X:Cx)(e:Expr)(t:TT):Prop :=
 ∀(pins:List (Addr×Obj)) (s:Shared) (σ:St) (H:Hp) (Q:Bool->Hp->Prop),Inv X pins σ H s->t σ H Q->wpAny (model X.prog X.w) X.A (isTrue e X.env (eval e X.env)) (TP X pins σ Q) X.xe s
def PW(X:Cx)(e:Expr)(t:TT):Prop :=
 ∀(whole:Sem Value) (pins:List (Addr×Obj)) (s:Shared) (σ:St) (H:Hp) (Q:Bool->Hp->Prop),Inv X pins σ H s->t σ H Q->wpAny (model X.prog X.w) X.A (isTrue e X.env whole) (TP X pins σ Q) X.xe s
theorem PW.pt{X:Cx}{e:Expr}{t:TT}(h:PW X e t):PT X e t:=h _
def PA(X:Cx)(es:List Expr)(t:TA):Prop :=
 ∀(pos:Pos) (pins:List (Addr×Obj)) (s:Shared) (σ:St) (H:Hp) (Q:List V->Hp->Prop),Inv X pins σ H s->t σ H Q->wpAny (model X.prog X.w) X.A (spliced (backTo pos (starEach es X.env))) (AP X pins σ Q) X.xe s
def PS(X:Cx)(st:Stmt)(t:TS):Prop :=
 ∀(pins:List (Addr×Obj)) (s:Shared) (σ:St) (H:Hp) (D:Ends),Inv X pins σ H s->t D σ H->wpAny (model X.prog X.w) X.A (exec st X.env) (SP X pins D) X.xe s
def BD(X:Cx)(st:List Stmt)(t:TS):Prop :=
 ∀(pins:List (Addr×Obj)) (s:Shared) (σ:St) (H:Hp) (D:Ends),Inv X pins σ H s->t D σ H->wpAny (model X.prog X.w) X.A (execs st X.env) (SP X pins D) X.xe s
theorem AR{α:Type}{t:Sem α}{Q Q':α->Shared->Prop}{M:Model}{A:Around}{E:Value->Shared->Prop}{s:Shared}(h:wpAny M A t Q E s)(hQ:∀a s,Q a s->Q' a s):wpAny M A t Q' E s:=ye9 h hQ λ_ _ x=>x
section
variable {X:Cx}
def Hg(i:Nat):TE:=λσ H Q=>∃v,σ[i]?=some (some v)/\Q v H
def tC(v:V):TE:=λ_ H Q=>Q v H
theorem Gs{i:Nat}{x:Str}{pos:Pos}(hN:X.N[i]?=some x)(hv:DM X.env.scope x)(hd:(x == ("__debug__":Str))=false:=by decide)(hcd:(x == ("__classdict__":Str))=false:=by decide):PE X (.Name x pos) (Hg i):=by
 intro pins s σ H Q I h;obtain⟨v,e,h⟩:=h;obtain⟨m,hn,hl⟩:=I.loc;obtain⟨u,r,l⟩:=hl i x v hN e hv;have Ar:EP X pins σ Q u s:=⟨v,H,I,r,h⟩
 rcases l with ⟨hk,hm⟩|⟨hk,c,hc,hcell⟩
 .exact wpAny_Name (wpAny_loadName_local I.ok.kind hk hn hm Ar) hd
 .rcases hk with hk|hk
  .exact wpAny_Name (wpAny_loadName_cell I.ok.kind hk hc hcell Ar) hd
  .exact wpAny_Name (wpAny_loadName_free I.ok.kind hk hc hcell Ar hcd) hd
theorem Qc{i j pos}:PE X (.Constant (.int i) j pos) (tC (.int i)):=λ_ _ _ H _ I h=>wpAny_Constant_int ⟨.int i,H,I.tok _,⟨_,rfl⟩,h⟩
theorem Qh{b j pos}:PE X (.Constant (.bool b) j pos) (tC (.bl b)):=λ_ _ _ H _ I h=>Constant_bool ⟨.bl b,H,I,rfl,h⟩
theorem zk4{j pos}:PE X (.Constant .none j pos) (tC .non):=λ_ _ _ H _ I h=>Constant_none ⟨.non,H,I,rfl,h⟩
theorem Qa{x j pos}:PE X (.Constant (.str x) j pos) (tC (.str x)):=λ_ _ _ H _ I h=>Calls.Constant_str ⟨.str x,H,I.tok _,⟨_,rfl⟩,h⟩
def Gl(X:Cx)(x:Str):Prop:=X.env.kindOf x=some .globalImplicit
theorem GV{E:Value->Shared->Prop}{pins:List (Addr×Obj)}{s:Shared}{σ:St}{H:Hp}{x:Str}{u:Value}{pos:Pos}{Q:Value->Shared->Prop}(I:Inv X pins σ H s)(hg:Gl X x)(hm:X.mg x=some u)(h:Q u s)
  (hd:(x == ("__debug__":Str))=false:=by decide):wpAny (model X.prog X.w) X.A (eval (.Name x pos) X.env) Q E s :=
 Calls.Name_function_global I.ok.kind hg (Calls.loadGlobal_global (by rw[I.ok.glob];exact I.mod.glob.keeps I.bk) hm h) hd
theorem IM{E:Value->Shared->Prop}{pins:List (Addr×Obj)}{s:Shared}{σ:St}{H:Hp}{x:Str}{u:Value}{pos:Pos}{Q:Value->Shared->Prop}(I:Inv X pins σ H s)(hg:Gl X x)(hm:X.mg x=none)(hv:bootBuiltins x=some u)(h:Q u s)
  (hn:x≠"__name__":=by decide) (hd:(x == ("__debug__":Str))=false:=by decide):wpAny (model X.prog X.w) X.A (eval (.Name x pos) X.env) Q E s:=by
 obtain⟨mb,h1,h2⟩:=I.mod.blt;exact Calls.Name_function_global I.ok.kind hg (Calls.loadGlobal_builtin (by rw[I.ok.glob];exact I.mod.glob.keeps I.bk) hm (by rw[I.ok.blt];exact h1.keeps I.bk) ((h2 x hn).trans hv) h) hd
theorem Ma{x:Str}{v:V}{u:Value}{pos:Pos}(hg:Gl X x)(hm:X.mg x=some u)(r:RelV v u)(hd:(x == ("__debug__":Str))=false:=by decide):PE X (.Name x pos) (tC v) :=
 λ_ _ _ H _ I h=>GV I hg hm ⟨v,H,I,r,h⟩ hd
theorem Qg{x:Str}{v:V}{u:Value}{pos:Pos}(hg:Gl X x)(hm:X.mg x=none)(hv:bootBuiltins x=some u)(r:RelV v u)(hn:x≠"__name__":=by decide)(hd:(x == ("__debug__":Str))=false:=by decide):PE X (.Name x pos) (tC v) :=
 λ_ _ _ H _ I h=>IM I hg hm hv ⟨v,H,I,r,h⟩ hn hd
variable {a b:Expr}{ta tb:TE}{pos:Pos}
def tB(t:TE):TT:=λσ H Q=>t σ H λx H1=>∃c,x=.bl c/\Q c H1
theorem zjp{e:Expr}{t:TE}(h:PE X e t)(he:∀whole,isTrue e X.env whole=(do let v <- whole;standAt e.pos;holding [v] (truthy v)):=by intro _;rfl):PT X e (tB t):=by
 intro pins s σ H Q I hw;refine isTrue_plain (AR (h pins s σ H _ I hw) λv s1 ⟨x,H1,I1,r1,q1⟩=>?_) (he _)
 obtain⟨d,rfl,q⟩:=q1;cases r1;exact yea ⟨H1,I1,q⟩
variable {tA tB':TT}{BK:List Expr}
def tAnd(t u:TT):TT:=λσ H Q=>t σ H λc H1=>if c=true then u σ H1 Q else Q false H1
def tOr(t u:TT):TT:=λσ H Q=>t σ H λc H1=>if c=true then Q true H1 else u σ H1 Q
def PX(t:TT):TT:=λσ H Q=>t σ H λc H1=>Q (!c) H1
theorem zgq(ha:PT X a tA):PW X (.BoolOp .And [a] pos) tA:=by
 intro wh pins s σ H Q I h;refine isTrue_and (AR (ha pins s σ H Q I h) λc s1 e=>?_)
 cases c with
 |true=>exact isTrue_and_nil e
 |false=>exact e
theorem zjn(ha:PT X a tA):PW X (.BoolOp .Or [a] pos) tA:=by
 intro wh pins s σ H Q I h;refine isTrue_or (AR (ha pins s σ H Q I h) λc s1 e=>?_)
 cases c with
 |false=>exact isTrue_or_nil e
 |true=>exact e
theorem zjo(ha:PT X a tA)(hb:PW X (.BoolOp .And (b::BK) pos) tB'):PW X (.BoolOp .And (a::b::BK) pos) (tAnd tA tB'):=by
 intro wh pins s σ H Q I h;refine isTrue_and (AR (ha pins s σ H _ I h) λc s1 ⟨H1,I1,q1⟩=>?_)
 cases c with
 |true=>exact hb wh pins s1 σ H1 Q I1 q1
 |false=>exact⟨H1,I1,q1⟩
theorem pw_or(ha:PT X a tA)(hb:PW X (.BoolOp .Or (b::BK) pos) tB'):PW X (.BoolOp .Or (a::b::BK) pos) (tOr tA tB'):=by
 intro wh pins s σ H Q I h;refine isTrue_or (AR (ha pins s σ H _ I h) λc s1 ⟨H1,I1,q1⟩=>?_)
 cases c with
 |true=>exact⟨H1,I1,q1⟩
 |false=>exact hb wh pins s1 σ H1 Q I1 q1
theorem zjq(ha:PT X a tA):PT X (.UnaryOp .Not a pos) (PX tA):=by
 intro pins s σ H Q I h;exact isTrue_not (ha pins s σ H (λc H1=>Q (!c) H1) I h)
def tAndV(ta tb:TE):TE:=λσ H Q=>ta σ H λx H1=>∃c,x=.bl c/\if c=true then tb σ H1 Q else Q (.bl false) H1
def tOrV(ta tb:TE):TE:=λσ H Q=>ta σ H λx H1=>∃c,x=.bl c/\if c=true then Q (.bl true) H1 else tb σ H1 Q
def PV(ta:TE):TE:=λσ H Q=>ta σ H λx H1=>∃c,x=.bl c/\Q (.bl (!c)) H1
theorem zk2{op}{t:TE}(h:PE X a t):PE X (.BoolOp op [a] pos) t:=λpins s σ H Q I hw=>BoolOp_one (h pins s σ H Q I hw)
theorem zk7(ha:PE X a ta)(hb:PE X (.BoolOp .And (b::BK) pos) tb):PE X (.BoolOp .And (a::b::BK) pos) (tAndV ta tb):=by
 intro pins s σ H Q I h;refine BoolOp_and (AR (ha pins s σ H _ I h) λv s1 ⟨x,H1,I1,r1,q1⟩=>?_)
 obtain⟨c,rfl,q1⟩:=q1;cases r1;refine yea ?_;cases c with
 |true=>exact hb pins s1 σ H1 Q I1 q1
 |false=>exact⟨.bl false,H1,I1,rfl,q1⟩
theorem pe_or(ha:PE X a ta)(hb:PE X (.BoolOp .Or (b::BK) pos) tb):PE X (.BoolOp .Or (a::b::BK) pos) (tOrV ta tb):=by
 intro pins s σ H Q I h;refine BoolOp_or (AR (ha pins s σ H _ I h) λv s1 ⟨x,H1,I1,r1,q1⟩=>?_)
 obtain⟨c,rfl,q1⟩:=q1;cases r1;refine yea ?_;cases c with
 |false=>exact hb pins s1 σ H1 Q I1 q1
 |true=>exact⟨.bl true,H1,I1,rfl,q1⟩
theorem zk3(ha:PE X a ta):PE X (.UnaryOp .Not a pos) (PV ta):=by
 intro pins s σ H Q I h;refine UnaryOp_ (AR (ha pins s σ H _ I h) λv s1 ⟨x,H1,I1,r1,q1⟩=>?_)
 obtain⟨c,rfl,q1⟩:=q1;cases r1;exact not_of (yea ⟨.bl (!c),H1,I1,rfl,q1⟩)
def tIf(t:TT)(ta tb:TE):TE:=λσ H Q=>t σ H λc H1=>if c=true then ta σ H1 Q else tb σ H1 Q
theorem zet{c:Expr}(hc:PT X c tA)(ha:PE X a ta)(hb:PE X b tb):PE X (.IfExp c a b pos) (tIf tA ta tb):=by
 intro pins s σ H Q I h;refine wpAny_IfExp (AR (hc pins s σ H _ I h) λd s1 ⟨H1,I1,q1⟩=>?_)
 cases d with
 |true=>exact ha pins s1 σ H1 Q I1 q1
 |false=>exact hb pins s1 σ H1 Q I1 q1
end
def Ag(K:kA)(H:Hp)(a:Addr)(xs:List V):Prop :=
 Rd H a (.lst xs) \/
  ∃(o:Obj) (its:Array Value) (n:Nat),K.lookup a=some o/\o.cls=.type "list"/\o.dict=none/\o.data=.seq its n/\its.size<=sizeLine/\AU xs its.toList
def BG(K:kA)(H:Hp)(a:Addr)(xs:List V):Prop :=
 Rd H a (.tup xs) \/
  ∃(o:Obj) (its:Array Value) (n:Nat),K.lookup a=some o/\o.cls=.type "tuple"/\o.data=.seq its n/\its.size<=sizeLine/\AU xs its.toList
noncomputable def absV:Value->Option V
 |.none=>some .non
 |.bool b=>some (.bl b)
 |.int i _=>some (.int i)
 |.str x _=>some (.str x)
 |.bytes b _=>some (.byt b)
 |.float b _=>some (.flt b)
 |.ref a=>some (.ref a)
 |.type n=>some (.ty n)
 |_=>none
theorem RelV.abs{x:V}{u:Value}(r:RelV x u):absV u=some x:=by
 cases x with
 |non=>cases r;rfl
 |bl _=>cases r;rfl
 |int _=>obtain⟨t,rfl⟩:=r;rfl
 |str _=>obtain⟨t,rfl⟩:=r;rfl
 |byt _=>obtain⟨t,rfl⟩:=r;rfl
 |flt _=>obtain⟨t,rfl⟩:=r;rfl
 |ref _=>cases r;rfl
 |ty _=>cases r;rfl
theorem RelV.inj{x y:V}{u:Value}(r:RelV x u)(q:RelV y u):x=y:=yb0 (r.abs.symm.trans q.abs)
theorem AU.inj:∀{xs ys:List V} {us:List Value},AU xs us->AU ys us->xs=ys
 |_,_,_,.nil,.nil=>rfl
 |_,_,_,.cons r t,.cons r' t'=>by rw[r.inj r',AU.inj t t']
section
variable {X:Cx}{pins:List (Addr×Obj)}{σ:St}{H:Hp}{s:Shared}{a:Addr}{xs ys:List V}
theorem Ag.of{K:kA}(h:H a=some (.lst xs)):Ag K H a xs:=.inl (.inl h)
theorem BG.of{K:kA}(h:H a=some (.tup xs)):BG K H a xs:=.inl (.inl h)
theorem Inv.list(I:Inv X pins σ H s)(h:Ag X.K H a xs):∃its:List Value,AU xs its/\PlainL s.heap a its.toArray/\xs.length<=sizeLine:=by
 rcases h with h|⟨o,its,n,hk,hc,hd,hs,hz,r⟩
 .obtain⟨z,its,n,r,e⟩:=h.ok I.hok;exact⟨its,r,⟨_,n,e,rfl,rfl,rfl⟩,z⟩
 .refine⟨its.toList,r,⟨o,n,I.kIn a o hk,hc,hd,by simpa using hs⟩,?_⟩
  have e:=r.length;simp only[ydv]at e
  omega
theorem Inv.tuple(I:Inv X pins σ H s)(h:BG X.K H a xs):∃its:List Value,AU xs its/\IsTup s.heap a its.toArray/\xs.length<=sizeLine:=by
 rcases h with h|⟨o,its,n,hk,hc,hs,hz,r⟩
 .obtain⟨z,its,r,p⟩:=h.ok I.hok;exact⟨its,r,p,z⟩
 .refine⟨its.toList,r,⟨o,I.kIn a o hk,hc,n,by simpa using hs⟩,?_⟩
  have e:=r.length;simp only[ydv]at e
  omega
theorem Inv.list_inj(I:Inv X pins σ H s)(h:Ag X.K H a xs)(h':Ag X.K H a ys):xs=ys:=by
 obtain⟨its,r,⟨o,n,e,_,_,d⟩,_⟩:=I.list h;obtain⟨its',r',⟨o',n',e',_,_,d'⟩,_⟩:=I.list h';rw[e]at e';cases e';rw[d]at d';injection d' with d1 _
 have:its=its':=by simpa using congrArg Array.toList d1
 subst this;exact r.inj r'
theorem Inv.tuple_inj(I:Inv X pins σ H s)(h:BG X.K H a xs)(h':BG X.K H a ys):xs=ys:=by
 obtain⟨its,r,⟨o,e,_,n,d⟩,_⟩:=I.tuple h;obtain⟨its',r',⟨o',e',_,n',d'⟩,_⟩:=I.tuple h';rw[e]at e';cases e';rw[d]at d';injection d' with d1 _
 have:its=its':=by simpa using congrArg Array.toList d1
 subst this;exact r.inj r'
end
abbrev Cx.wish(X:Cx)(E:Value->Shared->Prop):Cx:={ X with xe:=E }
abbrev Cx.nox(X:Cx):Cx:=X.wish λ_ _=>False
theorem Cx.Ok.wish{X:Cx}(ok:X.Ok)(E:Value->Shared->Prop):(X.wish E).Ok :=
 ⟨ok.mod,ok.kind,ok.glob,ok.blt,ok.above,ok.inj,ok.has,ok.cab,ok.hd,ok.frames,ok.stk,ok.exf,ok.bs,ok.bsz,ok.noex,ok.exfs,ok.funs,ok.frf⟩
theorem Cx.Ok.unwish{X:Cx}{E:Value->Shared->Prop}(ok:(X.wish E).Ok):X.Ok :=
 ⟨ok.mod,ok.kind,ok.glob,ok.blt,ok.above,ok.inj,ok.has,ok.cab,ok.hd,ok.frames,ok.stk,ok.exf,ok.bs,ok.bsz,ok.noex,ok.exfs,ok.funs,ok.frf⟩
section
variable {X:Cx}{pins:List (Addr×Obj)}{σ:St}{H:Hp}{s:Shared}{E:Value->Shared->Prop}
theorem Inv.wish(I:Inv X pins σ H s)(E:Value->Shared->Prop):Inv (X.wish E) pins σ H s:=⟨I.ok.wish E,I.os,I.bare,I.base,I.loc,I.cell,I.free,I.freeC,I.pin,I.hok,I.len⟩
theorem Inv.unwish(I:Inv (X.wish E) pins σ H s):Inv X pins σ H s:=⟨I.ok.unwish,I.os,I.bare,I.base,I.loc,I.cell,I.free,I.freeC,I.pin,I.hok,I.len⟩
theorem SP.unwish{D:Ends}{f:Flow}{s':Shared}(h:SP (X.wish E) pins D f s'):SP X pins D f s':=by
 cases f with
 |next=>obtain⟨σ',H',I,q⟩:=h;exact⟨σ',H',I.unwish,q⟩
 |brk=>obtain⟨σ',H',I,q⟩:=h;exact⟨σ',H',I.unwish,q⟩
 |cont=>obtain⟨σ',H',I,q⟩:=h;exact⟨σ',H',I.unwish,q⟩
 |ret u=>obtain⟨v,σ',H',I,r,q⟩:=h;exact⟨v,σ',H',I.unwish,r,q⟩
theorem PE.nox{e:Expr}{t:TE}(h:PE X.nox e t):PE X e t:=λpins s σ H Q I hw =>
 ye9 (h pins s σ H Q (I.wish _) hw) (λ_ _ ⟨v,H',I',r,q⟩=>⟨v,H',I'.unwish,r,q⟩) λ_ _ z=>False.elim z
theorem PT.nox{e:Expr}{t:TT}(h:PT X.nox e t):PT X e t:=λpins s σ H Q I hw =>
 ye9 (h pins s σ H Q (I.wish _) hw) (λ_ _ ⟨H',I',q⟩=>⟨H',I'.unwish,q⟩) λ_ _ z=>False.elim z
theorem BD.nox{st:List Stmt}{t:TS}(h:BD X.nox st t):BD X st t:=λpins s σ H D I hw =>
 ye9 (h pins s σ H D (I.wish _) hw) (λ_ _ q=>q.unwish) λ_ _ z=>False.elim z
end
section
variable {X:Cx}{st:Stmt}{BK:List Stmt}{t u:TS}{e:Expr}{te:TE}{pos:Pos}
def PY:TS:=λD σ H=>D.nx σ H
def PR(t u:TS):TS:=λD σ H=>t { D with nx:=u D } σ H
theorem zgu:BD X [] PY:=λ_ _ σ H _ I h=>yeb ⟨σ,H,I,h⟩
theorem zen(h1:PS X st t)(h2:BD X BK u):BD X (st::BK) (PR t u):=by
 intro pins s σ H D I h;refine wpAny_execs_cons (AR (h1 pins s σ H { D with nx:=u D } I h) λf s1 q=>?_)
 cases f with
 |next =>
  obtain⟨σ',H',I',q⟩:=q;exact h2 pins s1 σ' H' D I' q
 |ret v=>exact q
 |brk=>exact q
 |cont=>exact q
theorem Q4(h1:PS X st t):BD X [st] t:=by
 intro pins s σ H D I h;refine wpAny_execs_cons (AR (h1 pins s σ H D I h) λf s1 q=>?_)
 cases f with
 |next=>exact yeb q
 |ret v=>exact q
 |brk=>exact q
 |cont=>exact q
def zj4:TS:=λD σ H=>D.bk σ H
def tCont:TS:=λD σ H=>D.ct σ H
theorem zgw:PS X (.Pass pos) PY:=λ_ _ σ H _ I h=>wpAny_Pass ⟨σ,H,I,h⟩
theorem zep:PS X (.Break pos) zj4:=λ_ _ σ H _ I h=>wpAny_Break ⟨σ,H,I,h⟩
theorem zbi:PS X (.Continue pos) tCont:=λ_ _ σ H _ I h=>wpAny_Continue ⟨σ,H,I,h⟩
theorem Inv.quiet{pins:List (Addr×Obj)}{σ:St}{H:Hp}{s:Shared}(I:Inv X pins σ H s):interactive X.env=false:=by simp[interactive,I.ok.kind]
def tDrop(te:TE):TS:=λD σ H=>te σ H λ_ H1=>D.nx σ H1
theorem Q5(he:PE X e te)(hs:swapsWith e none pos.line X.env=pure false:=by rfl):PS X (.Expr e pos) (tDrop te):=by
 intro pins s σ H D I h;exact wpAny_Expr_any (AR (he pins s σ H _ I h) λv s1 ⟨x,H1,I1,r1,q1⟩=>⟨σ,H1,I1,q1⟩) I.quiet hs
def tRet(te:TE):TS:=λD σ H=>te σ H D.rt
theorem zjs(he:PE X e te):PS X (.Return (some e) pos) (tRet te):=by
 intro pins s σ H D I h;exact wpAny_Return_some (AR (he pins s σ H _ I h) λv s1 ⟨x,H1,I1,r1,q1⟩=>⟨x,σ,H1,I1,r1,q1⟩)
def tRetN:TS:=λD _ H=>D.rt .non H
theorem zgv:PS X (.Return none pos) tRetN:=λ_ _ σ H _ I h=>wpAny_Return_none ⟨.non,σ,H,I,rfl,h⟩
def tIfS(c:TT)(t u:TS):TS:=λD σ H=>c σ H λb H1=>if b=true then t D σ H1 else u D σ H1
theorem ps_if{c:Expr}{a b:List Stmt}{tc:TT}(hc:PT X c tc)(ha:BD X a t)(hb:BD X b u):PS X (.If c a b pos) (tIfS tc t u):=by
 intro pins s σ H D I h;refine wpAny_If (AR (hc pins s σ H _ I h) λd s1 ⟨H1,I1,q1⟩=>?_)
 cases d with
 |true=>exact ha pins s1 σ H1 D I1 q1
 |false=>exact hb pins s1 σ H1 D I1 q1
end
abbrev TG:=V->St->Hp->(St->Hp->Prop)->Prop
abbrev Ea:=List V->St->Hp->(St->Hp->Prop)->Prop
def PG(X:Cx)(target:Expr)(t:TG):Prop :=
 ∀(pins:List (Addr×Obj)) (s:Shared) (σ:St) (H:Hp) (v:V) (u:Value) (Q:St->Hp->Prop),Inv X pins σ H s->RelV v u->t v σ H Q ->
  wpAny (model X.prog X.w) X.A (assign target X.env u) (λ_ s'=>∃σ' H',Inv X pins σ' H' s'/\Q σ' H') X.xe s
def Cy(X:Cx)(ts:List Expr)(t:Ea):Prop :=
 ∀(pins:List (Addr×Obj)) (s:Shared) (σ:St) (H:Hp) (vs:List V) (us:List Value) (Q:St->Hp->Prop),Inv X pins σ H s->AU vs us->t vs σ H Q ->
  wpAny (model X.prog X.w) X.A (assignInOrder ((assignEach ts X.env).map (·.2)) us) (λ_ s'=>∃σ' H',Inv X pins σ' H' s'/\Q σ' H') X.xe s
abbrev LL:=V->V->V->Hp->(Hp->Prop)->Prop
def VJ(X:Cx)(t:LL):Prop :=
 ∀(pins:List (Addr×Obj)) (s:Shared) (σ:St) (H:Hp) (o i v:V) (ov iv u:Value) (Q:Hp->Prop),Inv X pins σ H s->RelV o ov->RelV i iv->RelV v u->t o i v H Q ->
  wpAny (model X.prog X.w) X.A (setItem ov iv u) (λ_ s'=>∃H',Inv X pins σ H' s'/\Q H') X.xe s
section
variable {X:Cx}{pos:Pos}
def HI(i:Nat):TG:=λv σ H Q=>Q (σ.set i (some v)) H
theorem Q9{i:Nat}{x:Str}(hN:X.N.Nodup)(hi:X.N[i]?=some x)(hx:Fq X.env.scope x)(hf:X.fn x=true\/X.env.scope.names.lookup x=some .local:=by first|exact .inl rfl|exact .inr rfl|assumption):PG X (.Name x pos) (HI i):=by
 intro pins s σ H v u Q I r h;exact wpAny_assign_Name (Ll I hN hi hx r (λs' I'=>⟨_,H,I',h⟩) hf)
def gNil:Ea:=λvs σ H Q=>vs=[]/\Q σ H
def gCons(t:TG)(u:Ea):Ea:=λvs σ H Q=>∃v r,vs=v::r/\t v σ H λσ' H'=>u r σ' H' Q
theorem zh2:Cy X [] gNil:=by
 intro pins s σ H vs us Q I r h;obtain⟨e,h⟩:=h;subst e;cases r;exact assignInOrder_nil ⟨σ,H,I,h⟩
theorem zes{e:Expr}{es:List Expr}{t:TG}{u:Ea}(h1:PG X e t)(h2:Cy X es u)
  (hs:(assignEach (e::es) X.env).map (·.2)=assign e X.env::(assignEach es X.env).map (·.2):=by rfl):Cy X (e::es) (gCons t u):=by
 intro pins s σ H vs us Q I r h;obtain⟨v,vr,e1,h⟩:=h;subst e1;cases r with
 |cons r rr =>
  rw[hs];refine assignInOrder_cons (AR (h1 pins s σ H _ _ _ I r h) λ_ s1 ⟨σ1,H1,I1,q1⟩=>?_)
  exact h2 pins s1 σ1 H1 _ _ Q I1 rr q1
def N6(K:kA)(n:Nat)(t:Ea):TG:=λv σ H Q=>∃a xs,v=.ref a/\BG K H a xs/\xs.length=n/\t xs σ H Q
theorem zjy{es:List Expr}{k:Nat}{t:Ea}{n:Nat}(hc:X.calm=true)(h:Cy X es t)
  (hn:(assignEach es X.env).length=n:=by rfl) (hst:(assignEach es X.env).findIdx? (·.1)=none:=by rfl):PG X (.Tuple es k pos) (N6 X.K n t):=by
 intro pins s σ H v u Q I r hw;obtain⟨a,xs,e1,hq,hl,hw⟩:=hw;subst e1;cases r;obtain⟨its,rv,ht,hz⟩:=I.tuple hq;refine assign_Tuple_tuple (I.ok.hd hc) ht (by simp[hn,<- hl,rv.length]) hst λh' hx=>?_
 have I1:Inv X pins σ H { s with heap:=h' }:=I.kept (t':=s.toks) λb o e=>hx b o (yaw (yae e)) e
 exact h pins _ σ H xs _ Q I1 (by simpa using rv) hw
def gSub(to ti:TE)(t:LL):TG:=λv σ H Q=>to σ H λo H1=>ti σ H1 λi H2=>t o i v H2 λH3=>Q σ H3
theorem zjz{o i:Expr}{to ti:TE}{t:LL}(ho:PE X o to)(hi:PE X i ti)(hs:VJ X t)
  (ha : ∀ v, assign (.Subscript o i pos) X.env v = (do
   let ov <- holding [v] (eval o X.env);let iv <- holding [v,ov] (eval i X.env)
   standAt pos
   holding [v,ov,iv] (setItem ov iv v)
   release [v,ov,iv] []):=by intro _;rfl):PG X (.Subscript o i pos) (gSub to ti t):=by
 intro pins s σ H v u Q I r h;rw[ha];refine yec (yed (AR (ho pins s σ H _ I h) λov s1 ⟨x,H1,I1,r1,q1⟩=>?_))
 refine yec (yed (AR (hi pins s1 σ H1 _ I1 q1) λiv s2 ⟨y,H2,I2,r2,q2⟩=>?_))
 refine yec (yee (yec (yed (AR (hs pins s2 σ H2 x y v ov iv u _ I2 r1 r2 r q2) λ_ s3 ⟨H3,I3,q3⟩=>?_))))
 exact wpAny_release ⟨σ,H3,I3,q3⟩
def J4(te:TE)(g:TG):TS:=λD σ H=>te σ H λx H1=>g x σ H1 D.nx
theorem Q6{tg e:Expr}{te:TE}{g:TG}(he:PE X e te)(hg:PG X tg g)(hs:swapsWithSole [tg] e pos.line X.env=pure false:=by rfl)(hw:swappedStores [tg] e X.env=pure none:=by rfl)
  (h1:(assignEach [tg] X.env).map (·.2)=[assign tg X.env]:=by rfl):PS X (.Assign [tg] e pos) (J4 te g):=by
 intro pins s σ H D I h;refine wpAny_Assign_stores (AR (he pins s σ H _ I h) λv s1 ⟨x,H1,I1,r1,q1⟩=>?_) hs hw
 rw[h1];exact AR (hg pins s1 σ H1 x v _ I1 r1 q1) λ_ s2 q=>q
theorem M8{i:Nat}{x:Str}{e:Expr}{te:TE}{pos':Pos}(hN:X.N.Nodup)(hi:X.N[i]?=some x)(hx:Fq X.env.scope x)(he:PE X e te)(hs:swapsWith e (some (.Name x pos')) pos.line X.env=pure false:=by rfl)(hf:X.fn x=true\/X.env.scope.names.lookup x=some .local:=by first|exact .inl rfl|exact .inr rfl|assumption) :
  PS X (.Assign [.Name x pos'] e pos) (J4 te (HI i)):=by
 intro pins s σ H D I h;refine wpAny_Assign_Name (AR (he pins s σ H _ I h) λv s1 ⟨y,H1,I1,r1,q1⟩=>?_) hs
 exact Ll I1 hN hi hx r1 (λs2 I2=>⟨_,H1,I2,q1⟩) hf
end
section
variable {X:Cx}{pos:Pos}
end
structure It where
 go:Nat->Hp->Prop
 yld:Nat->Hp->V->Hp->Prop
 stop:Nat->Hp->Prop
def CM(X:Cx)(pins:List (Addr×Obj))(H:Hp)(b:Addr):Prop :=
 H b=none/\b≠X.env.locals/\b∉X.fs/\(b∈X.ex\/X.s₀.heap.objs.size<=b)/\(∀x c,X.env.cells.lookup x=some c->c≠b)/\∀p∈X.pn++pins,p.1≠b
theorem Inv.fpOk{X:Cx}{pins:List (Addr×Obj)}{σ:St}{H H':Hp}{s:Shared}{b:Addr}(I:Inv X pins σ H s)(hb:s.heap.objs.size<=b)(hn:H' b=none):CM X pins H' b:=by
 refine⟨hn,Nat.ne_of_gt (yal I.lt hb),I.nofs hb,.inr (yap I.sz hb),λx c e z=>?_,λp hp z=>?_⟩
 .obtain⟨v,q⟩:=I.cell x c e;exact absurd (yal q.lt (by rw[z];exact hb)) (yb7 _)
 .exact absurd (yal (yae (I.pin p hp).1) (by rw[z];exact hb)) (yb7 _)
structure Turn(P:Program)(w:World)(K:kA)(tg:Expr)(J:It)(fp:List Addr)(it:Addr)(tn:Nat->Heap->Prop):Prop where
 mem:it∈fp
 obj:∀i h,tn i h->∀b∈fp,∃o,h.get? b=some o/\∀v,o.data≠.cell v
 keep:∀i h h',tn i h->(∀b∈fp,∀o,h.get? b=some o->h'.get? b=some o)->tn i h'
 item:∀(X:Cx),X.prog=P->X.w=w->X.K=K->X.calm=true->∀(i:Nat) (pins:List (Addr×Obj)) (s:Shared) (σ:St) (H:Hp) (E:Value->Shared->Prop),Inv X pins σ H s->(∀b∈fp,CM X pins H b)->tn i s.heap->J.go i H ->
  wpAny (model P w) X.A (pyNext (.ref it)) (λr s1=>∃u,r=some u /\
   wpAny (model P w) X.A (letOwnedTupleGo tg (.ref it) u) (λ_ s2=>∃x H',Inv X pins σ H' s2/\RelV x u/\J.yld i H x H'/\tn (i+1) s2.heap/\∀b∈fp,H' b=none) E s1) E s
 done:∀(X:Cx),X.prog=P->X.w=w->X.K=K->X.calm=true->∀(i:Nat) (pins:List (Addr×Obj)) (s:Shared) (σ:St) (H:Hp) (E:Value->Shared->Prop),Inv X pins σ H s->(∀b∈fp,CM X pins H b)->tn i s.heap->J.stop i H ->
  wpAny (model P w) X.A (pyNext (.ref it)) (λr s1=>r=none/\Inv X pins σ H s1) E s
 self:∀(A:Around) (i:Nat) (s:Shared) (Q:Value->Shared->Prop) (E:Value->Shared->Prop),tn i s.heap->Q (.ref it) s->wpAny (model P w) A (pyIter (.ref it)) Q E s
abbrev TI:=St->Hp->(It->Hp->Prop)->Prop
def VL(X:Cx)(pins:List (Addr×Obj))(σ:St)(tg:Expr)(R:It->Hp->Prop)(itv:Value)(s2:Shared):Prop :=
 ∃(it:Addr) (fp:List Addr) (tn:Nat->Heap->Prop) (J:It) (H':Hp),itv=.ref it/\Inv X pins σ H' s2/\Turn X.prog X.w X.K tg J fp it tn/\tn 0 s2.heap/\(∀b∈fp,CM X pins H' b)/\R J H'
def PI(X:Cx)(tg iter:Expr)(wi:TI):Prop :=
 ∀(pins:List (Addr×Obj)) (s:Shared) (σ:St) (H:Hp) (R:It->Hp->Prop),Inv X pins σ H s->wi σ H R ->
  wpAny (model X.prog X.w) X.A (eval iter X.env) (λv s1=>wpAny (model X.prog X.w) X.A (pyIter v) (VL X pins σ tg R) X.xe s1) X.xe s
theorem IV{M:Model}{A:Around}{E:Value->Shared->Prop}{s:Shared}{tg:Expr}{it:Addr}{u:Value}{o:Obj}{n:String}{vs:Array Value}{Q:Unit->Shared->Prop}(ho:s.heap.get? it=some o)(hc:o.cls=.type n)(hd:o.data=.fields vs)
    (hn:["enumerate","zip","dict_itemiterator","dict_reverseitemiterator","odict_iterator","itertools.zip_longest","itertools.pairwise"].contains n=false) (hQ:Q () s):wpAny M A (letOwnedTupleGo tg (.ref it) u) Q E s:=by
  unfold letOwnedTupleGo
  cases tg<;>first
    |exact yef hQ
    |(cases u<;>first
        |exact yef hQ
        | (refine yec (wpAny_load ho ?_)
           rw[hc,hd];show wpAny M A (if (["enumerate","zip","dict_itemiterator","dict_reverseitemiterator","odict_iterator","itertools.zip_longest","itertools.pairwise"].contains n && vs[0]? == some (rawInt _))=true then _ else _) Q E s
           rw[if_neg (by intro h;rw[hn,yav]at h;cases h)]
           exact yef hQ))
def LU(K:kA)(a:Addr):It :=
 ⟨λi H=>∃xs x,Ag K H a xs/\xs[i]?=some x,λi H x H'=>H'=H/\∀xs,Ag K H a xs->xs[i]?=some x,λi H=>∃xs,Ag K H a xs/\xs.length<=i⟩
def Oq(K:kA)(a:Addr):It :=
 ⟨λi H=>∃xs x,BG K H a xs/\xs[i]?=some x,λi H x H'=>H'=H/\∀xs,BG K H a xs->xs[i]?=some x,λi H=>∃xs,BG K H a xs/\xs.length<=i⟩
def LR(lo:Int)(n:Nat):It:=⟨λi _=>i<n,λi H x H'=>H'=H/\x=.int (lo+i),λi _=>n<=i⟩
theorem zcn{P:Program}{w:World}{K:kA}{tg:Expr}(a it:Addr):Turn P w K tg (LU K a) [it] it (λi h=>h.IsListIter it a i) where
 mem:=by simp
 obj:=λi h st b hb=>by
  have e:b=it:=by simpa using hb
  subst e;obtain⟨o,e,c,d⟩:=st;exact⟨o,e,λv z=>by rw[d]at z;cases z⟩
 keep:=λi h h' st k=>st.at λo e=>k it (by simp) o e
 item:=by
  intro X hP hw hK hc i pins s σ H E I hf st hg;subst hP hw hK;obtain⟨xs,x,hq,hx⟩:=hg;obtain⟨its,rv,p,hz⟩:=I.list hq;obtain⟨u,hu,ru⟩:=rv.get hx;obtain⟨f0,f1,f2,f3,f4,f5⟩:=hf it (by simp)
  refine wpAny_pyNext_list_item st p.isList (x:=u) (by simpa using hu) λh' st' sb=>?_
  have I1:Inv X pins σ H { s with heap:=h' }:=I.turned (t':=s.toks) (λb o hb e=>(sb.2 b hb).trans e) f0 f1 f3 f4 f5
  obtain⟨o,e,c,d⟩:=id st';exact⟨u,rfl,IV (s:={ s with heap:=h' }) e c d (by decide) ⟨x,H,I1,ru,⟨rfl,λys hy=>by rw[I.list_inj hy hq];exact hx⟩,st',λb hb=>(hf b hb).1⟩⟩
 done:=by
  intro X hP hw hK hc i pins s σ H E I hf st hg;subst hP hw hK;obtain⟨xs,hq,hx⟩:=hg;obtain⟨its,rv,p,hz⟩:=I.list hq;obtain⟨f0,f1,f2,f3,f4,f5⟩:=hf it (by simp)
  have hl:=rv.length;exact wpAny_pyNext_list_end (I.ok.hd hc) st p.isList (by simp;omega) λh' eb=>⟨rfl,I.turned (t':=s.toks) (λb o hb e=>eb b o hb e) f0 f1 f3 f4 f5⟩
 self:=λ_ _ _ _ _ st h=>wpAny_pyIter_listiter st h
theorem zbx{P:Program}{w:World}{K:kA}{tg:Expr}(a it:Addr):Turn P w K tg (Oq K a) [it] it (λi h=>h.IsTupleIter it a i) where
 mem:=by simp
 obj:=λi h st b hb=>by
  have e:b=it:=by simpa using hb
  subst e;obtain⟨o,e,c,d⟩:=st;exact⟨o,e,λv z=>by rw[d]at z;cases z⟩
 keep:=λi h h' st k=>st.at λo e=>k it (by simp) o e
 item:=by
  intro X hP hw hK hc i pins s σ H E I hf st hg;subst hP hw hK;obtain⟨xs,x,hq,hx⟩:=hg;obtain⟨its,rv,p,hz⟩:=I.tuple hq;obtain⟨u,hu,ru⟩:=rv.get hx;obtain⟨f0,f1,f2,f3,f4,f5⟩:=hf it (by simp)
  refine wpAny_pyNext_tuple_item st (show s.heap.IsTuple a its.toArray from p) (x:=u) (by simpa using hu) λh' st' sb=>?_
  have I1:Inv X pins σ H { s with heap:=h' }:=I.turned (t':=s.toks) (λb o hb e=>(sb.2 b hb).trans e) f0 f1 f3 f4 f5
  obtain⟨o,e,c,d⟩:=id st';exact⟨u,rfl,IV (s:={ s with heap:=h' }) e c d (by decide) ⟨x,H,I1,ru,⟨rfl,λys hy=>by rw[I.tuple_inj hy hq];exact hx⟩,st',λb hb=>(hf b hb).1⟩⟩
 done:=by
  intro X hP hw hK hc i pins s σ H E I hf st hg;subst hP hw hK;obtain⟨xs,hq,hx⟩:=hg;obtain⟨its,rv,p,hz⟩:=I.tuple hq;obtain⟨f0,f1,f2,f3,f4,f5⟩:=hf it (by simp)
  have hl:=rv.length;exact wpAny_pyNext_tuple_end (I.ok.hd hc) st (show s.heap.IsTuple a its.toArray from p) (by simp;omega) λh' eb=>⟨rfl,I.turned (t':=s.toks) (λb o hb e=>eb b o hb e) f0 f1 f3 f4 f5⟩
 self:=λ_ _ _ _ _ st h=>wpAny_pyIter_tupleiter st h
theorem zby{P:Program}{w:World}{K:kA}{tg:Expr}(it:Addr)(lo:Int)(n:Nat):Turn P w K tg (LR lo n) [it] it (λi h=>IsRangeIter h it (lo+(i:Nat) * 1) ((n:Int) - (i:Nat)) 1) where
 mem:=by simp
 obj:=λi h st b hb=>by
  have e:b=it:=by simpa using hb
  subst e
  exact⟨_,st,λv z=>by
   have z':Data.fields _=Data.cell v:=z;cases z'⟩
 keep:=λi h h' st k=>k it (by simp) _ st
 item:=by
  intro X hP hw hK hc i pins s σ H E I hf st hg;subst hP hw hK;obtain⟨f0,f1,f2,f3,f4,f5⟩:=hf it (by simp)
  have W:=Walks.range (prog:=X.prog) (w:=X.w) (I.ok.hd hc) it lo 1 n;refine W.item i s _ _ hg st λv h' tk hv st' kk=>?_
  obtain⟨t,rfl⟩:=hv;have I1:Inv X pins σ H { s with heap:=h',toks:=tk }:=I.turned (λb o hb e=>kk b o (by simpa using hb) e) f0 f1 f3 f4 f5
  refine⟨_,rfl,IV (s:={ s with heap:=h',toks:=tk }) (n:="range_iterator") st' rfl rfl (by decide) ⟨.int (lo+i),H,I1,⟨t,?_⟩,⟨rfl,rfl⟩,st',λb hb=>(hf b hb).1⟩⟩
  rw[Int.mul_one]
 done:=by
  intro X hP hw hK hc i pins s σ H E I hf st hg;subst hP hw hK;obtain⟨f0,f1,f2,f3,f4,f5⟩:=hf it (by simp)
  exact wpAny_pyNext_range_end (I.ok.hd hc) st (by have:n<=i:=hg;omega) λh' eb=>⟨rfl,I.turned (t':=s.toks) (λb o hb e=>eb b o hb e) f0 f1 f3 f4 f5⟩
 self:=λ_ _ _ _ _ st h=>wpAny_pyIter_rangeiter st h
section
variable {X:Cx}{tg:Expr}
def TH(K:kA)(tl:TE):TI:=λσ H R=>tl σ H λx H1=>∃a,x=.ref a/\(∃xs,Ag K H1 a xs)/\R (LU K a) H1
def iTup(K:kA)(tl:TE):TI:=λσ H R=>tl σ H λx H1=>∃a,x=.ref a/\(∃xs,BG K H1 a xs)/\R (Oq K a) H1
theorem zh1{l:Expr}{tl:TE}(hl:PE X l tl):PI X tg l (TH X.K tl):=by
 intro pins s σ H R I h;refine AR (hl pins s σ H _ I h) λv s1 ⟨x,H1,I1,r1,q1⟩=>?_
 obtain⟨a,e,⟨xs,hq⟩,q⟩:=q1;subst e;cases r1;obtain⟨its,rv,p,hz⟩:=I1.list hq;refine yeg p.isList ?_;refine⟨s1.heap.objs.size,[s1.heap.objs.size],_,_,H1,rfl,I1.kept (t':=s1.toks) λb o e=>ya4 _ e,zcn a _,⟨_,yag _ rfl,rfl,rfl⟩,λb hb=>?_,q⟩
 have e:b=s1.heap.objs.size:=by simpa using hb
 subst e;exact I1.fpOk (yaa _) (I1.hok.fresh (yaa _))
theorem zjw{l:Expr}{tl:TE}(hl:PE X l tl):PI X tg l (iTup X.K tl):=by
 intro pins s σ H R I h;refine AR (hl pins s σ H _ I h) λv s1 ⟨x,H1,I1,r1,q1⟩=>?_
 obtain⟨a,e,⟨xs,hq⟩,q⟩:=q1;subst e;cases r1;obtain⟨its,rv,p,hz⟩:=I1.tuple hq;refine wpAny_pyIter_tuple (show s1.heap.IsTuple a its.toArray from p) ?_;refine⟨s1.heap.objs.size,[s1.heap.objs.size],_,_,H1,rfl,I1.kept (t':=s1.toks) λb o e=>ya4 _ e,zbx a _,⟨_,yag _ rfl,rfl,rfl⟩,λb hb=>?_,q⟩
 have e:b=s1.heap.objs.size:=by simpa using hb
 subst e;exact I1.fpOk (yaa _) (I1.hok.fresh (yaa _))
theorem zeh{pins:List (Addr×Obj)}{σ:St}{H:Hp}{s:Shared}{R:It->Hp->Prop}{E:Value->Shared->Prop}{lo hi:Int}{t u v:Tok}{tk:Nat}(I:Inv X pins σ H s)(h1:-(2 ^ 62)<=lo)(h2:lo<2 ^ 62)(h3:-(2 ^ 62)<=hi)(h4:hi<2 ^ 62)
  (q:R (LR lo (hi - lo).toNat) H):wpAny (model X.prog X.w) X.A (pyIter (.ref s.heap.objs.size)) (VL X pins σ tg R) E { s with heap:=s.heap.push { cls:=.type "range",data:=.fields #[.int lo t,.int hi u,.int 1 v] },toks:=tk }:=by
 refine wpAny_pyIter_range (IsRange.new ..) (small_one h1 h2 h3 h4) ?_;have I1:Inv X pins σ H { s with heap:=s.heap.push { cls:=.type "range",data:=.fields #[.int lo t,.int hi u,.int 1 v] },toks:=tk }:=I.kept λb o e=>ya4 _ e
 refine⟨(s.heap.push { cls:=.type "range",data:=.fields #[.int lo t,.int hi u,.int 1 v] }).objs.size,[(s.heap.push { cls:=.type "range",data:=.fields #[.int lo t,.int hi u,.int 1 v] }).objs.size],_,_,H,rfl,
  I1.kept (t':=tk) λb o e=>ya4 _ e,zby _ lo (hi - lo).toNat,?_,λb hb=>?_,q⟩
 .have e1:lo+((0:Nat):Int) * 1=lo:=by simp
  have e2:(((hi - lo).toNat:Nat):Int) - ((0:Nat):Int)=Builtin.Range.rangeSize lo hi 1:=by rw[rangeSize_one];split<;>omega
  show IsRangeIter _ _ (lo+((0:Nat):Int) * 1) ((((hi - lo).toNat:Nat):Int) - ((0:Nat):Int)) 1;rw[e1,e2];exact yag _ rfl
 .have e:b=(s.heap.push { cls:=.type "range",data:=.fields #[.int lo t,.int hi u,.int 1 v] }).objs.size:=by simpa using hb
  subst e;exact I1.fpOk (yaa _) (I1.hok.fresh (yaa _))
def iRng1(ta:TA):TI:=λσ H R=>ta σ H λvs H1=>∃j:Int,vs=[.int j]/\-(2 ^ 62)<=j/\j<2 ^ 62/\R (LR 0 j.toNat) H1
theorem zcz{a:Expr}{ta:TA}{p pos:Pos}(hg:Gl X "range")(hm:X.mg "range"=none)(ha:PA X [a] ta)(hs:starEach [a] X.env=[(false,eval a X.env)]:=by rfl):PI X tg (.Call (.Name "range" p) [a] [] pos) (iRng1 ta):=by
 intro pins s σ H R I h;refine Call_ (IM I hg hm boot_range (ych (AR (ha pos pins s σ H _ I h) λus s1 ⟨vs,H1,I1,r1,q1⟩=>?_) hs rfl))
 obtain⟨j,e,q1,q2,q⟩:=q1;subst e;cases r1 with
 |cons r rr =>
  cases rr;obtain⟨t,rfl⟩:=r;exact call_range_1 (zeh I1 (by omega) (by omega) q1 q2 (by simpa using q))
def tFor(wi:TI)(g:TG)(tb:TS):TS:=λD σ H=>wi σ H λJ H1=>∃W:Nat->Nat->St->Hp->Prop,(∃m,W 0 m σ H1)/\∀i m σ H,W i m σ H ->
 (J.stop i H/\D.nx σ H)\/(J.go i H/\∃N:St->Hp->Prop,(∀σ' H',N σ' H'->∃m',m'<m/\W (i+1) m' σ' H')/\∀x H',J.yld i H x H'->g x σ H' λσ2 H2=>tb { D with nx:=N,ct:=N,bk:=D.nx } σ2 H2)
def GF(fp:List Addr)(h:Heap):List (Addr×Obj):=fp.filterMap λb=>(h.get? b).map λo=>(b,o)
theorem GO{fp:List Addr}{h:Heap}{b:Addr}{o:Obj}(hb:b∈fp)(e:h.get? b=some o):(b,o)∈GF fp h:=yby.mpr ⟨b,hb,by rw[e];rfl⟩
theorem Qv{fp:List Addr}{h:Heap}{p:Addr×Obj}(hp:p∈GF fp h):p.1∈fp/\h.get? p.1=some p.2:=by
 obtain⟨b,hb,e⟩:=yby.mp hp;cases q:h.get? b with
 |none=>rw[q]at e;cases e
 |some o =>
  rw[q]at e;have e':(b,o)=p:=yb0 e;subst e';exact⟨hb,q⟩
theorem Inv.pinned{pins:List (Addr×Obj)}{σ:St}{H:Hp}{s:Shared}{fp:List Addr}(I:Inv X pins σ H s)(hf:∀b∈fp,CM X pins H b)(ho:∀b∈fp,∃o,s.heap.get? b=some o/\∀v,o.data≠.cell v):Inv X (pins++GF fp s.heap) σ H s :=
 I.pins_of λp hp=>(yaj.mp hp).elim (λz=>I.pin p (yak _ z)) λz=>by
  obtain⟨hb,e⟩:=Qv z;obtain⟨f0,f1,f2,_⟩:=hf p.1 hb;obtain⟨o,e',d⟩:=ho p.1 hb;rw[e]at e';cases e';exact⟨e,f0,f1,f2,d⟩
theorem Inv.unpinned{pins pl:List (Addr×Obj)}{σ:St}{H:Hp}{s:Shared}(I:Inv X (pins++pl) σ H s):Inv X pins σ H s:=I.pins_of λp hp=>I.pin p (yak _ (ybb _ hp))
theorem zjt{iter:Expr}{body:List Stmt}{wi:TI}{g:TG}{tb:TS}{pos:Pos}(hp:PassesOwn (model X.prog X.w) X.A X.env X.xe)(hc:X.calm=true)(hi:PI X tg iter wi)(hg:PG X tg g)(hb:BD X body tb)
  (hs:∀x,foldedSetIterable iter X.env x=pure x:=by intro _;rfl):PS X (.For tg iter body [] pos) (tFor wi g tb):=by
 intro pins s σ H D I h;refine wpAny_For (AR (hi pins s σ H _ I h) λv s1 h1=>AR h1 λitv s2 h2=>?_) hs
 obtain⟨it,fp,tn,J,H2,e,I2,T,st2,f2,W,⟨m0,w0⟩,turn⟩:=h2;subst e;have stat:∀{H':Hp},(∀b∈fp,H' b=none)->∀b∈fp,CM X pins H' b:=λhn b hb=>⟨hn b hb,(f2 b hb).2⟩
 refine codeAny_forLoop_any (λn s'=>∃i σ' H',Inv X pins σ' H' s'/\tn i s'.heap/\(∀b∈fp,H' b=none)/\W i n σ' H') ?_ m0 ⟨0,σ,H2,I2,st2,λb hb=>(f2 b hb).1,w0⟩
 rintro n s3 ⟨i,σ3,H3,I3,st3,fr3,w3⟩
 rcases turn i n σ3 H3 w3 with ⟨stop,qn⟩|⟨go,N,hN,step⟩
 .refine yeh hp (AR (T.done X rfl rfl rfl hc i pins s3 σ3 H3 X.xe I3 (stat fr3) st3 stop) λr s4 ⟨hr,I4⟩=>?_)
  subst hr;exact yeb ⟨σ3,H3,I4,qn⟩
 .refine yeh hp (AR (T.item X rfl rfl rfl hc i pins s3 σ3 H3 X.xe I3 (stat fr3) st3 go) λr s4 ⟨u,hr,h4⟩=>?_)
  subst hr;refine yeh hp (AR h4 λ_ s5 ⟨x,H5,I5,r5,y5,st5,fr5⟩=>?_)
  have I5':=I5.pinned (stat fr5) (T.obj _ _ st5);refine yeh hp (AR (hg _ s5 σ3 H5 x u _ I5' r5 (step x H5 y5)) λ_ s6 ⟨σ6,H6,I6,q6⟩=>?_)
  refine yeh hp (AR (hb _ s6 σ6 H6 _ I6 q6) λf s7 q7=>?_)
  have again:∀{σ7:St} {H7:Hp},Inv X (pins++GF fp s5.heap) σ7 H7 s7->N σ7 H7->∃m,m<n/\∃i σ' H',Inv X pins σ' H' s7/\tn i s7.heap/\(∀b∈fp,H' b=none)/\W i m σ' H':=λ{σ7 H7} I7 n7=>by
   obtain⟨m',hm,w7⟩:=hN σ7 H7 n7;refine⟨m',hm,i+1,σ7,H7,I7.unpinned,T.keep _ _ _ st5 λb hb o e=>(I7.pin (b,o) (yak _ (yak _ (GO hb e)))).1,λb hb=>?_,w7⟩
   obtain⟨o,e,d⟩:=T.obj _ _ st5 b hb;exact(I7.pin (b,o) (yak _ (yak _ (GO hb e)))).2.1
  cases f with
  |next=>obtain⟨σ7,H7,I7,n7⟩:=q7;exact again I7 n7
  |cont=>obtain⟨σ7,H7,I7,n7⟩:=q7;exact again I7 n7
  |brk=>obtain⟨σ7,H7,I7,q7⟩:=q7;exact⟨σ7,H7,I7.unpinned,q7⟩
  |ret v=>obtain⟨x7,σ7,H7,I7,r7,q7⟩:=q7;exact⟨x7,σ7,H7,I7.unpinned,r7,q7⟩
end
abbrev R2:=V->V->Hp->VK->Prop
def A3(X:Cx)(f:Value->Value->Sem Value)(r:R2):Prop :=
 ∀(pins:List (Addr×Obj)) (s:Shared) (σ:St) (H:Hp) (x y:V) (v u:Value) (Q:VK),Inv X pins σ H s->RelV x v->RelV y u->r x y H Q ->
  wpAny (model X.prog X.w) X.A (f v u) (EP X pins σ Q) X.xe s
def Io(X:Cx)(f:Value->Sem Value)(r:V->Hp->VK->Prop):Prop :=
 ∀(pins:List (Addr×Obj)) (s:Shared) (σ:St) (H:Hp) (x:V) (v:Value) (Q:VK),Inv X pins σ H s->RelV x v->r x H Q ->
  wpAny (model X.prog X.w) X.A (f v) (EP X pins σ Q) X.xe s
def B3(X:Cx)(f:Value)(r:List V->Hp->VK->Prop):Prop :=
 ∀(pins:List (Addr×Obj)) (s:Shared) (σ:St) (H:Hp) (xs:List V) (us:List Value) (Q:VK),Inv X pins σ H s->AU xs us->r xs H Q ->
  wpAny (model X.prog X.w) X.A (call f us) (EP X pins σ Q) X.xe s
def Gg(r:R2)(ta tb:TE):TE:=λσ H Q=>ta σ H λx H1=>tb σ H1 λy H2=>r x y H2 Q
def PN(r:V->Hp->VK->Prop)(ta:TE):TE:=λσ H Q=>ta σ H λx H1=>r x H1 Q
def rI(C:Int->Int->Prop)(g:Int->Int->V):R2:=λx y H Q=>∃i j,x=.int i/\y=.int j/\C i j/\Q (g i j) H
def EW(g:Int->Int->V):R2:=λx y H Q=>∃i j,x=.int i/\y=.int j/\Q (g i j) H
def rU(g:Int->V):V->Hp->VK->Prop:=λx H Q=>∃i,x=.int i/\Q (g i) H
section
variable {X:Cx}{a b c:Expr}{ta tb tc:TE}{pos:Pos}
theorem O0(ha:PE X a ta)(hb:PE X b tb){pins:List (Addr×Obj)}{s:Shared}{σ:St}{H:Hp}{R:V->V->Hp->Prop}(I:Inv X pins σ H s)
  (h:ta σ H λx H1=>tb σ H1 λy H2=>R x y H2) {Q:Value->Shared->Prop} {f:Value->Value->Sem Value}
  (hf:∀v u s2 x y H2,Inv X pins σ H2 s2->RelV x v->RelV y u->R x y H2->wpAny (model X.prog X.w) X.A (f v u) Q X.xe s2) :
  wpAny (model X.prog X.w) X.A (eval a X.env) (λv s₁=>wpAny (model X.prog X.w) X.A (eval b X.env) (λu s₂=>wpAny (model X.prog X.w) X.A (f v u) Q X.xe s₂) X.xe s₁) X.xe s:=by
 refine AR (ha pins s σ H _ I h) λv s1 ⟨x,H1,I1,r1,q1⟩=>?_
 refine AR (hb pins s1 σ H1 _ I1 q1) λu s2 ⟨y,H2,I2,r2,q2⟩=>?_
 exact hf v u s2 x y H2 I2 r1 r2 q2
theorem pe_op{op:Operator}{r:R2}(ho:A3 X (binaryOp op) r)(ha:PE X a ta)(hb:PE X b tb):PE X (.BinOp a op b pos) (Gg r ta tb):=by
 intro pins s σ H Q I h;exact wpAny_BinOp (O0 ha hb I h λv u s2 x y H2 I2 rx ry q=>ho pins s2 σ H2 x y v u Q I2 rx ry q)
theorem pe_un{op:UnaryOp}{r:V->Hp->VK->Prop}(ho:Io X (unaryOp op) r)(ha:PE X a ta):PE X (.UnaryOp op a pos) (PN r ta):=by
 intro pins s σ H Q I h;exact UnaryOp_ (AR (ha pins s σ H _ I h) λv s1 ⟨x,H1,I1,r1,q1⟩=>ho pins s1 σ H1 x v Q I1 r1 q1)
theorem IE{f:Value->Value->Sem Value}{C:Int->Int->Prop}{g:Int->Int->Int}
  (rule:∀(i j:Int) (t u:Tok) (s:Shared) (Q:Value->Shared->Prop) (E:Value->Shared->Prop),C i j->Q (.int (g i j) s.toks) { s with toks:=s.toks+1 }->wpAny (model X.prog X.w) X.A (f (.int i t) (.int j u)) Q E s) :
  A3 X f (rI C λi j=>.int (g i j)):=by
 intro pins s σ H x y v u Q I rx ry h;obtain⟨i,j,rfl,rfl,hc,q⟩:=h;obtain⟨t,rfl⟩:=rx;obtain⟨t',rfl⟩:=ry;exact rule i j t t' s _ _ hc ⟨.int (g i j),H,I.tok _,⟨_,rfl⟩,q⟩
theorem Qr{f:Value->Value->Sem Value}{g:Int->Int->Int}
  (rule:∀(i j:Int) (t u:Tok) (s:Shared) (Q:Value->Shared->Prop) (E:Value->Shared->Prop),Q (.int (g i j) s.toks) { s with toks:=s.toks+1 }->wpAny (model X.prog X.w) X.A (f (.int i t) (.int j u)) Q E s) :
  A3 X f (EW λi j=>.int (g i j)):=by
 intro pins s σ H x y v u Q I rx ry h;obtain⟨i,j,rfl,rfl,q⟩:=h;obtain⟨t,rfl⟩:=rx;obtain⟨t',rfl⟩:=ry;exact rule i j t t' s _ _ ⟨.int (g i j),H,I.tok _,⟨_,rfl⟩,q⟩
theorem Jt{f:Value->Value->Sem Value}{g:Int->Int->Bool}
  (rule:∀(i j:Int) (t u:Tok) (s:Shared) (Q:Value->Shared->Prop) (E:Value->Shared->Prop),Q (.bool (g i j)) s->wpAny (model X.prog X.w) X.A (f (.int i t) (.int j u)) Q E s) :
  A3 X f (EW λi j=>.bl (g i j)):=by
 intro pins s σ H x y v u Q I rx ry h;obtain⟨i,j,rfl,rfl,q⟩:=h;obtain⟨t,rfl⟩:=rx;obtain⟨t',rfl⟩:=ry;exact rule i j t t' s _ _ ⟨.bl (g i j),H,I,rfl,q⟩
def CPow(i j:Int):Prop:=0<=j/\j<=1000000/\i.natAbs<2 ^ 64
def Ov(i j:Int):Prop:=(-(2 ^ 64)<i/\i<2 ^ 64)\/(-(2 ^ 64)<j/\j<2 ^ 64)
theorem Ov.ok{i j:Int}(h:Ov i j):IntMulOk i j:=by
 rcases h with ⟨h1,h2⟩|⟨h1,h2⟩
 .exact .of_left (intBits_le_64 h1 h2)
 .exact .of_right (intBits_le_64 h1 h2)
theorem zkg:A3 X (binaryOp .Add) (EW λi j=>.int (i+j)):=Qr λ_ _ _ _ _ _ _ q=>add_int q
theorem zka:A3 X (binaryOp .Sub) (EW λi j=>.int (i - j)):=Qr λ_ _ _ _ _ _ _ q=>sub_int q
theorem Qn:A3 X (binaryOp .Mult) (rI Ov λi j=>.int (i * j)):=IE λ_ _ _ _ _ _ _ hc q=>mul_int q hc.ok
theorem zhf:A3 X (binaryOp .Mod) (rI (λ_ j=>j≠0) λi j=>.int (i.fmod j)):=IE λ_ _ _ _ _ _ _ hc q=>mod_int' hc q
theorem zkc:A3 X (binaryOp .Pow) (rI CPow λi j=>.int (i ^ j.toNat)):=IE λ_ _ _ _ _ _ _ hc q=>pow_int_small hc.1 hc.2.1 hc.2.2 q
theorem unI{f:Value->Sem Value}{g:Int->Int}
  (rule:∀(i:Int) (t:Tok) (s:Shared) (Q:Value->Shared->Prop) (E:Value->Shared->Prop),Q (.int (g i) s.toks) { s with toks:=s.toks+1 }->wpAny (model X.prog X.w) X.A (f (.int i t)) Q E s) :
  Io X f (rU λi=>.int (g i)):=by
 intro pins s σ H x v Q I rx h;obtain⟨i,rfl,q⟩:=h;obtain⟨t,rfl⟩:=rx;exact rule i t s _ _ ⟨.int (g i),H,I.tok _,⟨_,rfl⟩,q⟩
theorem zix:Io X (unaryOp .USub) (rU λi=>.int (-i)):=unI λ_ _ _ _ _ q=>neg_int q
end
section
variable {X:Cx}{a b c:Expr}{ta tb tc:TE}{pos:Pos}
theorem Ia{pins:List (Addr×Obj)}{σ:St}{H:Hp}{s:Shared}{Q:VK}{k k':Bool}(I:Inv X pins σ H s)(q:Q (.bl k) H)(e:k=k'):EP X pins σ Q (.bool k') s:=by
 subst e;exact⟨.bl k,H,I,rfl,q⟩
theorem op_lt:A3 X (compareOp .Lt) (EW λi j=>.bl (decide (i<j))):=Jt λ_ _ _ _ _ _ _ q=>lt_int q
theorem Qo:A3 X (compareOp .LtE) (EW λi j=>.bl (decide (i<=j))):=Jt λ_ _ _ _ _ _ _ q=>le_int q
theorem op_gt:A3 X (compareOp .Gt) (EW λi j=>.bl (decide (j<i))):=Jt λ_ _ _ _ _ _ _ q=>gt_int q
theorem op_ge:A3 X (compareOp .GtE) (EW λi j=>.bl (decide (j<=i))):=Jt λ_ _ _ _ _ _ _ q=>ge_int q
theorem zd0:A3 X (compareOp .In) (λx y H Q=>∃i j,x=.str i/\y=.str j/\Q (.bl (!(Builtin.Str.occurrences j i 0 j.length 1).isEmpty)) H):=by
 intro pins s σ H x y v u Q I rx ry h;obtain⟨i,j,rfl,rfl,q⟩:=h;obtain⟨t,rfl⟩:=rx;obtain⟨t',rfl⟩:=ry;exact in_str (Ia I q rfl)
theorem zkd:A3 X (compareOp .Is) (λx y H Q=>y=.non/\Q (.bl (decide (x=.non))) H):=by
 intro pins s σ H x y v u Q I rx ry h;obtain⟨rfl,q⟩:=h;cases ry;refine is_none_gen (Ia I q ?_)
 cases x<;>first
  |(cases rx;rfl)
  |(obtain⟨t,rfl⟩:=rx;rfl)
theorem zhc:A3 X (compareOp .IsNot) (λx y H Q=>y=.non/\Q (.bl (!decide (x=.non))) H):=by
 intro pins s σ H x y v u Q I rx ry h;obtain⟨rfl,q⟩:=h;cases ry;refine isnot_none_gen (Ia I q ?_)
 cases x<;>first
  |(cases rx;rfl)
  |(obtain⟨t,rfl⟩:=rx;rfl)
theorem A3.or{f:Value->Value->Sem Value}{r r':R2}(h:A3 X f r)(h':A3 X f r'):A3 X f (λx y H Q=>r x y H Q\/r' x y H Q):=by
 intro pins s σ H x y v u Q I rx ry q
 rcases q with q|q
 .exact h pins s σ H x y v u Q I rx ry q
 .exact h' pins s σ H x y v u Q I rx ry q
theorem zh7{op:CmpOp}{r:R2}(ho:A3 X (compareOp op) r)(ha:PE X a ta)(hb:PE X b tb)(hm:behindInMarks op b=false):PE X (.Compare a [op] [b] pos) (Gg r ta tb):=by
 intro pins s σ H Q I h;exact wpAny_Compare1 (O0 ha hb I h λv u s2 x y H2 I2 rx ry q=>ho pins s2 σ H2 x y v u Q I2 rx ry q) hm
def PQ(t:TE):TT:=λσ H Q=>t σ H λx H'=>∃k,x=.bl k/\Q k H'
theorem zgs{op:CmpOp}{r:R2}(ho:A3 X (compareOp op) r)(ha:PE X a ta)(hb:PE X b tb)(hm:behindInMarks op b=false):PT X (.Compare a [op] [b] pos) (PQ (Gg r ta tb)):=by
 intro pins s σ H Q I h
 refine wpAny_isTrue_Compare1 (AR (ha pins s σ H _ I h) λv s1 ⟨x,H1,I1,r1,q1⟩=>AR (hb pins s1 σ H1 _ I1 q1) λu s2 ⟨y,H2,I2,r2,q2⟩ =>
  AR (ho pins s2 σ H2 x y v u _ I2 r1 r2 q2) λc s3 ⟨z,H3,I3,r3,k,e,q3⟩=>?_) hm
 subst e;cases r3;exact yea ⟨H3,I3,q3⟩
def Li(r r':R2)(ta tb tc:TE):TE:=λσ H Q=>ta σ H λx H1=>tb σ H1 λy H2=>r x y H2 λz H3=>∃k,z=.bl k /\
 (if k=true then tc σ H3 λw' H4=>r' y w' H4 Q else Q (.bl false) H3)
theorem zeu{op op':CmpOp}{r r':R2}(ho:A3 X (compareOp op) r)(ho':A3 X (compareOp op') r')(ha:PE X a ta)(hb:PE X b tb)(hc:PE X c tc)
  (hm:lastMarks [op,op'] [b,c]=false:=by with_unfolding_all rfl):PE X (.Compare a [op,op'] [b,c] pos) (Li r r' ta tb tc):=by
 intro pins s σ H Q I h
 refine Compare_chain (AR (ha pins s σ H _ I h) λv s1 ⟨x,H1,I1,r1,q1⟩=>chain_link (AR (hb pins s1 σ H1 _ I1 q1) λu s2 ⟨y,H2,I2,r2,q2⟩ =>
  AR (ho pins s2 σ H2 x y v u _ I2 r1 r2 q2) λd s3 ⟨z,H3,I3,r3,k,e,q3⟩=>?_)) hm
 subst e;cases r3;refine yea ?_;cases k with
 |false=>exact ite_ff ⟨.bl false,H3,I3,rfl,q3⟩
 |true=>exact ite_tt (chain_last (AR (hc pins s3 σ H3 _ I3 q3) λw' s4 ⟨z',H4,I4,r4,q4⟩=>ho' pins s4 σ H4 y z' u w' Q I4 r2 r4 q4))
theorem zem{op op':CmpOp}{r r':R2}(ho:A3 X (compareOp op) r)(ho':A3 X (compareOp op') r')(ha:PE X a ta)(hb:PE X b tb)(hc:PE X c tc)
  (hm:lastMarks [op,op'] [b,c]=false:=by with_unfolding_all rfl):PT X (.Compare a [op,op'] [b,c] pos) (PQ (Li r r' ta tb tc)):=by
 intro pins s σ H Q I h
 refine isTrue_chain (AR (ha pins s σ H _ I h) λv s1 ⟨x,H1,I1,r1,q1⟩=>test_link (AR (hb pins s1 σ H1 _ I1 q1) λu s2 ⟨y,H2,I2,r2,q2⟩ =>
  AR (ho pins s2 σ H2 x y v u _ I2 r1 r2 q2) λd s3 ⟨z,H3,I3,r3,k,e,q3⟩=>?_)) hm
 subst e;cases r3;refine yea ?_;cases k with
 |false =>
  obtain⟨k',e',q'⟩:=q3;cases e';exact ite_ff ⟨H3,I3,q'⟩
 |true =>
  refine ite_tt (test_last (AR (hc pins s3 σ H3 _ I3 q3) λw' s4 ⟨z',H4,I4,r4,q4⟩=>AR (ho' pins s4 σ H4 y z' u w' _ I4 r2 r4 q4) λd' s5 ⟨z2,H5,I5,r5,k2,e2,q5⟩=>?_))
  subst e2;cases r5;exact yea ⟨H5,I5,q5⟩
theorem KU:(sizeLine:Nat)<2 ^ 63:=by rw[yei];decide
theorem zc8:A3 X (binaryOp .Add) (λx y H Q=>∃i j,x=.str i/\y=.str j/\i.length+j.length<=sizeLine/\Q (.str (i++j)) H):=by
 intro pins s σ H x y v u Q I rx ry h;obtain⟨i,j,rfl,rfl,hz,q⟩:=h;obtain⟨t,rfl⟩:=rx;obtain⟨t',rfl⟩:=ry;exact add_str (λt' tk=>⟨.str (i++j),H,I.tok _,⟨_,rfl⟩,q⟩) hz
theorem Ei{x:V}{us:List Value}(r:AU [x] us):∃u,us=[u]/\RelV x u:=by
 cases r with
 |cons r1 r2=>cases r2;exact⟨_,rfl,r1⟩
theorem Gb{x y:V}{us:List Value}(r:AU [x,y] us):∃u w',us=[u,w']/\RelV x u/\RelV y w':=by
 cases r with
 |cons r1 r2 =>
  cases r2 with
  |cons r3 r4=>cases r4;exact⟨_,_,rfl,r1,r3⟩
theorem zfu:B3 X (.builtin "abs") (λxs H Q=>∃i,xs=[.int i]/\Q (.int (if i<0 then -i else i)) H):=by
 intro pins s σ H xs us Q I r h;obtain⟨i,rfl,q⟩:=h;obtain⟨u,rfl,t,rfl⟩:=Ei r;exact call_abs_int λu tk=>⟨.int (if i<0 then -i else i),H,I.tok _,⟨_,rfl⟩,q⟩
theorem zdq(hc:X.calm=true):B3 X (.builtin "min") (λxs H Q=>∃i j,xs=[.int i,.int j]/\Q (.int (if j<i then j else i)) H):=by
 intro pins s σ H xs us Q I r h;obtain⟨i,j,rfl,q⟩:=h;obtain⟨u,w',rfl,⟨t,rfl⟩,⟨t',rfl⟩⟩:=Gb r;refine min_two_ints (I.ok.hd hc) λh' tk k=>⟨_,H,I.kept k,?_,q⟩
 by_cases hj:j<i
 .rw[if_pos hj,if_pos hj];exact⟨_,rfl⟩
 .rw[if_neg hj,if_neg hj];exact⟨_,rfl⟩
def LenV(K:kA)(x:V)(H:Hp)(n:Nat):Prop :=
 match x with
 |.str y=>y.length<=sizeLine/\n=y.length
 |.byt y=>y.size<=sizeLine/\n=y.size
 |.ref p=>(∃xs,Ag K H p xs/\n=xs.length)\/∃xs,BG K H p xs/\n=xs.length
 |_=>False
theorem Ub:B3 X (.builtin "len") (λxs H Q=>∃x n,xs=[x]/\LenV X.K x H n/\Q (.int n) H):=by
 intro pins s σ H xs us Q I r h;obtain⟨x,n,rfl,e,q⟩:=h;obtain⟨u,rfl,rx⟩:=Ei r;have hl:=KU;have hs:sizeLine=16777216:=yei;cases x with
 |str y =>
  obtain⟨t,rfl⟩:=rx;obtain⟨hy,e'⟩:y.length<=sizeLine/\n=y.length:=e;subst e';exact len_str (by omega) ⟨.int _,H,I.tok _,⟨_,rfl⟩,q⟩
 |byt y =>
  obtain⟨t,rfl⟩:=rx;obtain⟨hy,e'⟩:y.size<=sizeLine/\n=y.size:=e;subst e';exact PySem.W.len_bytes (by omega) ⟨.int _,H,I.tok _,⟨_,rfl⟩,q⟩
 |ref p =>
  cases rx;have e':(∃xs,Ag X.K H p xs/\n=xs.length)\/∃xs,BG X.K H p xs/\n=xs.length:=e
  rcases e' with ⟨xs,hx,e'⟩|⟨xs,hx,e'⟩
  .subst e';obtain⟨its,r',pl,hz⟩:=I.list hx;have hlen:=r'.length;exact Calls.call_len_list pl.isList (by simp only[yai];omega) ⟨.int xs.length,H,I.tok _,⟨_,by simp only[yai];rw[hlen]⟩,q⟩
  .subst e';obtain⟨its,r',pl,hz⟩:=I.tuple hx;have hlen:=r'.length;exact len_tuple pl (by simp only[yai];omega) ⟨.int xs.length,H,I.tok _,⟨_,by simp only[yai];rw[hlen]⟩,q⟩
 |_=>exact(show False from e).elim
end
structure ObjM(h:Heap)(x dx C:Addr)(mA:Str->Option Value):Prop where
 obj:h.get? x=some (PySem.W.instObj C dx)
 ns:h.Ns1 dx mA
 ne:dx≠x
theorem zd7{h:Heap}{dx:Addr}{mA:Str->Option Value}(n:h.Ns1 dx mA):∃od,h.get? dx=some od/\∀name,PySem.W.lookIn name od=some (mA name):=by
 obtain⟨o,es,ep,ho,hd,hk,_,hm⟩:=n;refine⟨o,ho,λname=>?_⟩
 have e:=hm name;unfold nsFind findBy at e;rw[<- Array.find?_toList]at e;unfold PySem.W.lookIn;rw[hd];dsimp only;split
 .rename_i y q;rw[q]at e;exact congrArg some e
 .rename_i q;rw[q]at e
  have a:es.toList.any (·.refKey)=false:=by
   rw[List.any_eq_false];intro y hy;obtain⟨z,t,hkey⟩:=hk y (Array.mem_toList_iff.mp hy);simp[DictEntry.refKey,hkey]
  have a':¬ es.toList.any (·.refKey)=true:=by rw[a];exact ybc
  rw[if_neg a'];exact congrArg some e
theorem ObjM.look{h:Heap}{x dx C:Addr}{mA:Str->Option Value}(I:ObjM h x dx C mA):∃od,PySem.W.InstAt h x (PySem.W.instObj C dx) C (some od)/\∀name,PySem.W.lookIn name od=some (mA name) :=
 let ⟨od,ho,hl⟩:=zd7 I.ns
 ⟨od,⟨I.obj,rfl,rfl,ho⟩,hl⟩
section
variable {prog:Program}{w:World}{A:Around}{E:Value->Shared->Prop}{s:Shared}{K:kA}{x dx C f:Addr}{mA:Str->Option Value}{name:Str}{v:Value}
theorem zie{expr:Bool}{Q:Value->Shared->Prop}(X:K.In s.heap)(I:ObjM s.heap x dx C mA)(hg:PySem.W.plainGet K C name=true)(hh:PySem.W.hasDictIn K C=true)
  (ha:PySem.W.findIn K (.ref C) name=some none) (hv:mA name=some v) (hv':PySem.W.handedIn v=true) (h:Q v { s with toks:=s.toks+1 }) :
  wpAny (model prog w) A (getAttr (.ref x) name expr) Q E s:=by
 obtain⟨od,J,hl⟩:=I.look;exact PySem.W.get_value X J (PySem.W.plainGet_of hg).1 (PySem.W.findObj_own hh ha rfl (by rw[hl,hv])) hv' h
theorem zgh{ns:List Str}{Q:Unit->Shared->Prop}(X:K.In s.heap)(I:ObjM s.heap x dx C mA)
  (hs:PySem.W.findIn K (.ref C) "__setattr__"=some (some (.builtin "object.__setattr__"))) (hp:PySem.W.plainOver K C=true) (ht:PySem.W.takerIn K C name=some none) (hh:PySem.W.hasDictIn K C=true)
  (hw:PySem.Within mA ns) (hsz:ns.length<=sizeLine)
  (h:∀h',ObjM h' x dx C (λy=>if y=name then some v else mA y)->Heap.SameBut dx s.heap h'->Q () { s with heap:=h',toks:=s.toks+2 }) :
  wpAny (model prog w) A (setAttr (.ref x) name v) Q E s:=by
 obtain⟨od,J,hl⟩:=I.look;refine PySem.W.set_plain X J hs (PySem.W.osa_open (s:={ s with toks:=s.toks+1 }) (r:=none) X J hp ht λb=>?_)
 obtain⟨cd,hc,hd'⟩:=PySem.W.any_some hh;have hx:s.heap.get? x=some ⟨.ref C,some dx,.plain,#[]⟩:=I.obj;refine yec (yef (yec (yec (wpAny_loadPart hx (yec (PySem.W.Looks.here (s:={ s with toks:=s.toks+1 }) (PySem.W.looks_clsIn X hc) ?_))))))
 rw[hd'];refine yef (a:=some dx) (yec (yef (yec ?_)));refine wpAny_nsSet1 (s:={ s with toks:=s.toks+1 }) I.ns λh' hn2 hs2=>?_
 obtain⟨oD,esD,epD,hoD,hdD,hcD⟩:=hn2.count (PySem.Within.cons name v hw);refine yec (wpAny_lookBehind hoD (by rw[hdD];exact pastItsLine_dict (yap hcD (by rw[yaq];omega))) ?_)
 exact yef (h _ ⟨(hs2.2 _ (yb1 I.ne)).trans I.obj,hn2,I.ne⟩ hs2)
theorem zf7{R:Result->Shared->Prop}{vs:List Value}{kw:List (Str×Value)}(X:K.In s.heap)(hm:PySem.W.makesIn K C=true)
  (hi:PySem.W.findIn K (.ref C) "__init__"=some (some (.ref f))) (hf:PySem.W.typeIn K (.ref f)=some (.type "function"))
  (h : codeAny (model prog w) (A.under (.builtin "type.__call__" ⟨.ref C :: vs, kw⟩)) (.call (.ref f) ⟨.ref (s.heap.objs.size + 1) :: vs, kw⟩) (PySem.W.InitBack (s.heap.objs.size + 1) R)
   { s with heap:=(s.heap.push PySem.W.emptyDict).push (PySem.W.instObj C s.heap.objs.size) }) :
  codeAny (model prog w) A (.call (.ref C) ⟨vs,kw⟩) R s:=by
 obtain⟨hh,g,d,t,os⟩:=s;exact PySem.W.make_core (PySem.W.makes_of X hm) (PySem.W.looks_findIn X hi) (λself=>PySem.W.bind_fn X self hf) (.inl rfl) h
end
def CY(f:Str)(v:V):List (Str×V)->List (Str×V)
 |[]=>[(f,v)]
 |(g,x)::r=>if g=f then (g,v)::r else (g,x)::CY f v r
theorem SV(f g:Str)(v:V):∀fs:List (Str×V),(CY f v fs).lookup g=if g=f then some v else fs.lookup g
 |[]=>by
  show List.lookup g [(f,v)]=_
  by_cases h:g=f
  .have hb:(g == f)=true:=beq_iff_eq.mpr h;simp only[List.lookup,hb,if_pos h]
  .have hb:(g == f)=false:=beq_eq_false_iff_ne.mpr h;simp only[List.lookup,hb,if_neg h]
 |(k,x)::r=>by
  have ih:=SV f g v r;rw[show CY f v ((k,x)::r)=(if k=f then (k,v)::r else (k,x)::CY f v r) from rfl]
  by_cases hk:k=f
  .rw[if_pos hk]
   by_cases h:g=k
   .have hb:(g == k)=true:=beq_iff_eq.mpr h;simp only[List.lookup,hb,if_pos (h.trans hk)]
   .have hb:(g == k)=false:=beq_eq_false_iff_ne.mpr h;simp only[List.lookup,hb,if_neg (λe:g=f=>h (e.trans hk.symm))]
  .rw[if_neg hk]
   by_cases h:g=k
   .have hb:(g == k)=true:=beq_iff_eq.mpr h;simp only[List.lookup,hb,if_neg (λe:g=f=>hk (h.symm.trans e))]
   .have hb:(g == k)=false:=beq_eq_false_iff_ne.mpr h;simp only[List.lookup,hb];exact ih
theorem NJ(f:Str)(v:V):∀fs:List (Str×V),f∈(CY f v fs).map (·.1)/\∀g,g∈fs.map (·.1)->g∈(CY f v fs).map (·.1)
 |[]=>⟨by simp[CY],λg h=>by simp at h⟩
 |(k,x)::r=>by
  obtain⟨i1,i2⟩:=NJ f v r;rw[show CY f v ((k,x)::r)=(if k=f then (k,v)::r else (k,x)::CY f v r) from rfl]
  by_cases hk:k=f
  .rw[if_pos hk];subst hk;exact⟨by simp,λg h=>by simpa using h⟩
  .rw[if_neg hk];refine⟨?_,λg h=>?_⟩
   .rw[yau];exact yab _ i1
   .rw[yau]at h ⊢
    rcases ya9.mp h with e|e
    .exact ya9.mpr (.inl e)
    .exact yab _ (i2 g e)
theorem S7(f:Str)(v:V):∀fs:List (Str×V),(CY f v fs).length<=fs.length+1
 |[]=>by simp[CY]
 |(k,x)::r=>by
  have ih:=S7 f v r;rw[show CY f v ((k,x)::r)=(if k=f then (k,v)::r else (k,x)::CY f v r) from rfl]
  by_cases hk:k=f
  .rw[if_pos hk,yaq,yaq];omega
  .rw[if_neg hk,yaq,yaq];omega
theorem Cv.some_of{v:V}{o:Option Value}(r:Cv (some v) o):∃u,o=some u/\RelV v u:=by
 cases o with
 |none=>exact(show False from r).elim
 |some u=>exact⟨u,rfl,r⟩
theorem Cv.none_of{o:Option Value}(r:Cv none o):o=none:=by
 cases o with
 |none=>rfl
 |some u=>exact(show False from r).elim
theorem zdg{v:V}{u:Value}(r:RelV v u):PySem.W.handedIn u=true:=by
 cases v with
 |non=>cases (show u=Value.none from r);rfl
 |bl b=>cases (show u=Value.bool b from r);rfl
 |int i=>obtain⟨t,e⟩:=(show ∃t,u=Value.int i t from r);cases e;rfl
 |str x=>obtain⟨t,e⟩:=(show ∃t,u=Value.str x t from r);cases e;rfl
 |byt b=>obtain⟨t,e⟩:=(show ∃t,u=Value.bytes b t from r);cases e;rfl
 |flt b=>obtain⟨t,e⟩:=(show ∃t,u=Value.float b t from r);cases e;rfl
 |ref a=>cases (show u=Value.ref a from r);rfl
 |ty n=>cases (show u=Value.type n from r);rfl
section
variable {P:Program}{w:World}{H H':Hp}{h h':Heap}{a C dx:Addr}{fs fs':List (Str×V)}
theorem NR(hok:HOk P w H h)(e:H a=some (.ins C dx fs)):∃mA,ObjM h a dx C mA/\(∀f,Cv (fs.lookup f) (mA f))/\PySem.Within mA (fs.map (·.1))/\fs.length<=1000/\H dx=some (.own a):=by
 obtain⟨d,z,ne,ob,mA,n,r,q⟩:=(show BJ P w H h a (.ins C dx fs) from hok a _ e);exact⟨mA,⟨ob,n,ne⟩,r,q,z,d⟩
end
structure Cls(K:kA)(C:Addr):Prop where
 pg:PySem.W.plainGet K C Str.empty=true
 hd:PySem.W.hasDictIn K C=true
 po:PySem.W.plainOver K C=true
 sa:PySem.W.findIn K (.ref C) "__setattr__"=some (some (.builtin "object.__setattr__"))
theorem Cls.get{K:kA}{C:Addr}(c:Cls K C)(f:Str):PySem.W.plainGet K C f=true:=c.pg
def Bo(K:kA)(C:Addr)(f:Str):Prop:=PySem.W.findIn K (.ref C) f=some none
theorem Bo.taker{K:kA}{C:Addr}{f:Str}(n:Bo K C f):PySem.W.takerIn K C f=some none:=by
 unfold PySem.W.takerIn;rw[show PySem.W.findIn K (.ref C) f=some none from n]
 rfl
structure Meth(K:kA)(C:Addr)(m:Str)(f:Addr):Prop where
 at_:PySem.W.findIn K (.ref C) m=some (some (.ref f))
 fn:PySem.W.isFn K (.ref f)=true
 kp:PySem.W.keepIn K (.ref f)=true
section
variable {X:Cx}{pins:List (Addr×Obj)}{σ:St}{H:Hp}{s:Shared}{a C dx:Addr}{fs:List (Str×V)}{f:Str}{v:V}{A:Around}{E:Value->Shared->Prop}
theorem zcc{b:Bool}{Q:Value->Shared->Prop}(I:Inv X pins σ H s)(e:H a=some (.ins C dx fs))(c:Cls X.K C)(n:Bo X.K C f)(l:fs.lookup f=some v)
  (h:∀u s',Inv X pins σ H s'->RelV v u->Q u s'):wpAny (model X.prog X.w) A (getAttr (.ref a) f b) Q E s:=by
 obtain⟨mA,O,r,_,_,_⟩:=NR I.hok e;obtain⟨u,hu,ru⟩:=Cv.some_of (v:=v) (o:=mA f) (by rw[<- l];exact r f)
 exact zie I.kIn O (c.get f) c.hd n hu (zdg ru) (h u _ (I.tok _) ru)
theorem zc0{y:V}{u:Value}{Q:Unit->Shared->Prop}(I:Inv X pins σ H s)(e:H a=some (.ins C dx fs))(c:Cls X.K C)(n:Bo X.K C f)(hl:fs.length<1000)(ry:RelV y u)
  (h:∀s',Inv X pins σ (upd H a (.ins C dx (CY f y fs))) s'->Q () s'):wpAny (model X.prog X.w) A (setAttr (.ref a) f u) Q E s:=by
 obtain⟨mA,O,r,wi,_,ho⟩:=NR I.hok e;have hz:(fs.map (·.1)).length<=sizeLine:=by rw[ya5,yei];omega
 refine zgh I.kIn O c.sa c.po n.taker c.hd wi hz λh' O' sb=>h _ ?_
 have hd:∃o,h'.get? dx=some o:=let ⟨o,_,_,e',_⟩:=O'.ns;⟨o,e'⟩;refine I.write (x:=a) (e:=dx) (by rw[e];exact True.intro) (.inr ho) (λb q hb z=>(sb.2 b hb).trans z) hd ?_
 refine⟨by rw[Ad O.ne];exact ho,?_,O.ne,O'.obj,_,O'.ns,λg=>?_,λg hg=>?_⟩
 .have:=S7 f y fs;omega
 .show Cv ((CY f y fs).lookup g) (if g=f then some u else mA g)
  rw[SV]
  by_cases q:g=f
  .rw[if_pos q,if_pos q];exact ry
  .rw[if_neg q,if_neg q];exact r g
 .by_cases q:g=f
  .rw[q];exact(NJ f y fs).1
  .refine(NJ f y fs).2 g (wi g λz=>hg ?_)
   show(if g=f then some u else mA g)=none
   rw[if_neg q];exact z
theorem Inv.made(I:Inv X pins σ H s):Inv X pins σ (upd (upd H s.heap.objs.size (.own (s.heap.objs.size+1))) (s.heap.objs.size+1) (.ins C s.heap.objs.size []))
  { s with heap:=(s.heap.push PySem.W.emptyDict).push (PySem.W.instObj C s.heap.objs.size) }:=by
 have e1:(s.heap.push PySem.W.emptyDict).get? s.heap.objs.size=some PySem.W.emptyDict:=yag s.heap rfl
 have e2:((s.heap.push PySem.W.emptyDict).push (PySem.W.instObj C s.heap.objs.size)).get? (s.heap.objs.size+1)=some (PySem.W.instObj C s.heap.objs.size):=by
  have:=yag (s.heap.push PySem.W.emptyDict) (o:=PySem.W.instObj C s.heap.objs.size) rfl
  rwa[ybx]at this
 have e3:(s.heap.push PySem.W.emptyDict).Ns s.heap.objs.size (λ_=>none):=⟨PySem.W.emptyDict,#[],_,e1,rfl,(λe he=>absurd he (by simp)),λ_=>rfl⟩
 have I1:=I.laid (a:=s.heap.objs.size) (o:=.own (s.heap.objs.size+1)) (h':=s.heap.push PySem.W.emptyDict) (t':=s.toks) (λb u q=>ya4 _ q) (yaa _) ⟨_,e1⟩
 refine I1.laid (a:=s.heap.objs.size+1) (o:=.ins C s.heap.objs.size []) (t':=s.toks) (λb u q=>ya4 _ q) (Nat.le_of_eq (ybx _ _)) ?_
 have ne:s.heap.objs.size≠s.heap.objs.size+1:=yaw (yci _);refine⟨by rw[Ad ne,Bb],ybe _,ne,e2,λ_=>none,(Heap.Ns1.of_empty e3).at λo q=>ya4 _ q,λ_=>True.intro,λy hy=>absurd rfl hy⟩
theorem zin{prog:Program}{w:World}{env:Env}{e:Expr}{f:Str}{pos:Pos}{s:Shared}{Q:Value->Shared->Prop}(hb:attributeBase e f env (eval e env)=eval e env)
  (h:wpAny (model prog w) A (eval e env) (λo s₁=>wpAny (model prog w) A (getAttr o f true) Q E s₁) E s):wpAny (model prog w) A (eval (.Attribute e f pos) env) Q E s :=
 Attribute_any_ h (by rw[arm_eval_Attribute,hb])
end
def tFld(K:kA)(ta:TE)(f:Str):TE:=λσ H Q=>ta σ H λx H1=>∃a C dx fs v,x=.ref a/\H1 a=some (.ins C dx fs)/\Cls K C/\Bo K C f/\fs.lookup f=some v/\Q v H1
def sFld(K:kA)(ta tv:TE)(f:Str):TS:=λD σ H=>tv σ H λy H1=>ta σ H1 λx H2=>∃a C dx fs,x=.ref a/\H2 a=some (.ins C dx fs)/\Cls K C/\Bo K C f/\fs.length<1000 /\
 D.nx σ (upd H2 a (.ins C dx (CY f y fs)))
section
variable {X:Cx}{o e value:Expr}{f:Str}{pos pos' tpos:Pos}{ta tv:TE}
theorem Qd(he:PE X e ta)(hb:attributeBase e f X.env (eval e X.env)=eval e X.env):PE X (.Attribute e f pos) (tFld X.K ta f):=by
 intro pins s σ H Q I h;refine zin hb (AR (he pins s σ H _ I h) λu s1 ⟨x,H1,I1,rx,a,C,dx,fs,v,ex,ea,c,n,l,q⟩=>?_)
 subst ex;obtain rfl:u=Value.ref a:=rx;exact zcc I1 ea c n l λu' s2 I2 ru=>⟨v,H1,I2,ru,q⟩
theorem zju(ha:PE X o ta)(hv:PE X value tv)(hs:swapsWith value (some (.Attribute o f pos')) pos.line X.env=pure false):PS X (.Assign [.Attribute o f pos'] value pos) (sFld X.K ta tv f):=by
 intro pins s σ H D I h;refine plainObj_wpAny_Assign_Attribute (AR (hv pins s σ H _ I h) λu s1 ⟨y,H1,I1,ry,q⟩=>AR (ha pins s1 σ H1 _ I1 q) λov s2 ⟨x,H2,I2,rx,a,C,dx,fs,ex,ea,c,n,l,q2⟩=>?_) hs
 subst ex;obtain rfl:ov=Value.ref a:=rx;exact zc0 I2 ea c n l ry λs3 I3=>⟨σ,_,I3,q2⟩
end
section
variable {X:Cx}{pins:List (Addr×Obj)}{σ:St}{H:Hp}{s:Shared}{A:Around}{E:Value->Shared->Prop}{Q:Value->Shared->Prop}{c:Value}{b:Bool}
inductive TyOf(K:kA)(H:Hp):V->Value->Prop where
 |non:TyOf K H .non (.type "NoneType")
 |bl (x:Bool):TyOf K H (.bl x) (.type "bool")
 |int (i:Int):TyOf K H (.int i) (.type "int")
 |str (x:Str):TyOf K H (.str x) (.type "str")
 |flt (x:UInt64):TyOf K H (.flt x) (.type "float")
 |lst {a:Addr} {xs:List V} (e:H a=some (.lst xs)):TyOf K H (.ref a) (.type "list")
 |frz {a:Addr} {o:Obj} {xs:List V} (e:H a=some (.frz o (.lst xs))):TyOf K H (.ref a) (.type "list")
 |tup {a:Addr} {xs:List V} (e:H a=some (.tup xs)):TyOf K H (.ref a) (.type "tuple")
 |dK {a:Addr} {kvs:List (Key×V)} (e:H a=some (.dK kvs)):TyOf K H (.ref a) (.type "dict")
 |dT {a:Addr} {kvs:List (List Key×V)} (e:H a=some (.dT kvs)):TyOf K H (.ref a) (.type "dict")
 |ins {a C dx:Addr} {fs:List (Str×V)} (e:H a=some (.ins C dx fs)) (cl:Cls K C) (ha:PySem.W.findIn K (.ref C) "__class__"=some (some (.builtin "object.__class__")))
   (hn:PySem.W.specialIn K (.builtin "object.__class__") "__get__"=some (some (.builtin "getset_descriptor.__get__"))) (htk:PySem.W.takesIn K (.builtin "object.__class__")=some true)
   (hm:PySem.W.mroIn K C (.type "object")=some true):TyOf K H (.ref a) (.ref C)
theorem NO{x:V}{u t:Value}(I:Inv X pins σ H s)(rx:RelV x u)(ty:TyOf X.K H x t)(e:PySem.W.kitOne X.K t c=some b)(h:∀tk,Q (.bool b) { s with toks:=tk }) :
  wpAny (model X.prog X.w) A (call (.builtin "isinstance") [u,c]) Q E s:=by
 cases ty with
 |non=>cases (show u=Value.none from rx);exact yb8 PySem.W.kitx_none I.kIn True.intro e (λz=>nomatch z) h
 |bl y=>cases (show u=Value.bool y from rx);exact yb8 PySem.W.kitx_bool I.kIn True.intro e (λz=>nomatch z) h
 |int i=>obtain⟨t,q⟩:=(show ∃t,u=Value.int i t from rx);cases q;exact yb8 PySem.W.kitx_int I.kIn True.intro e (λz=>nomatch z) h
 |str y=>obtain⟨t,q⟩:=(show ∃t,u=Value.str y t from rx);cases q;exact yb8 PySem.W.kitx_str I.kIn True.intro e (λz=>nomatch z) h
 |flt y=>obtain⟨t,q⟩:=(show ∃t,u=Value.float y t from rx);cases q;exact yb8 PySem.W.kitx_float I.kIn True.intro e (λz=>nomatch z) h
 |@lst a xs ea =>
  cases (show u=Value.ref a from rx);obtain⟨_,_,n,_,h1⟩:=(show BJ X.prog X.w H s.heap a (.lst xs) from I.hok a _ ea);exact yb8 PySem.W.kitx_list I.kIn ⟨_,h1,rfl⟩ e (λz=>nomatch z) h
 |@frz a ob xs ea =>
  cases (show u=Value.ref a from rx);obtain⟨_,_,_,n,_,h1⟩:=(show BJ X.prog X.w H s.heap a (.frz ob (.lst xs)) from I.hok a _ ea);exact yb8 PySem.W.kitx_list I.kIn ⟨_,h1,rfl⟩ e (λz=>nomatch z) h
 |@tup a xs ea =>
  cases (show u=Value.ref a from rx);obtain⟨_,_,_,p⟩:=(show BJ X.prog X.w H s.heap a (.tup xs) from I.hok a _ ea);obtain⟨o,h1,h2,_⟩:=p;exact yb8 PySem.W.kitx_tuple I.kIn ⟨o,h1,h2⟩ e (λz=>nomatch z) h
 |@dK a kvs ea =>
  cases (show u=Value.ref a from rx);obtain⟨_,_,vs,_,p⟩:=(show BJ X.prog X.w H s.heap a (.dK kvs) from I.hok a _ ea);obtain⟨o,es,ep,h1,h2,_⟩:=p;exact yb8 ye4 I.kIn ⟨o,h1,h2.1⟩ e (λz=>nomatch z) h
 |@dT a kvs ea =>
  cases (show u=Value.ref a from rx);obtain⟨_,_,xs,_,o,es,ep,h1,h2,_⟩:=(show BJ X.prog X.w H s.heap a (.dT kvs) from I.hok a _ ea);exact yb8 ye4 I.kIn ⟨o,h1,h2.1⟩ e (λz=>nomatch z) h
 |@ins a C dx fs ea cl ha hn htk hm =>
  cases (show u=Value.ref a from rx);obtain⟨mA,O,_⟩:=NR I.hok ea;obtain⟨od,J,_⟩:=O.look;exact yb8 (PySem.W.kitx_own (cl.get _) cl.hd ha hn htk hm) I.kIn J e (λz=>nomatch z) h
end
structure Room(k:Nat)(A:Around):Prop where
 hd:A.handled=none
 dp:A.depth+3 * k+5<recursionLimit
 un:A.units+16 * k+200<cLine
theorem Room.mono{j k:Nat}{A:Around}(r:Room k A)(h:j<=k):Room j A:=⟨r.hd,by have:=r.dp;omega,by have:=r.un;omega⟩
theorem Room.deeper{k:Nat}{A:Around}(r:Room (k+1) A)(env:Env):Room k (A.deeper env) :=
 ⟨r.hd,by have:=r.dp;show A.depth+1+3 * k+5<_;omega,by have:=r.un;show A.units+3+16 * k+200<_;omega⟩
theorem Room.in1{k:Nat}{A:Around}(r:Room (k+1) A):Room k A.in1 :=
 ⟨r.hd,by have:=r.dp;show A.depth+3 * k+5<_;omega,by have:=r.un;show A.units+1+16 * k+200<_;omega⟩
theorem zca{A:Around}{C:Addr}{us:List Value}{kw:List (Str×Value)}:(A.under (.builtin "type.__call__" ⟨.ref C::us,kw⟩)).depth=A.depth+1:=by
 first|rfl|simp[Around.under,Code.weight,Code.isCreation,Code.isGuard,Code.isCaller,Code.frames,Code.isFrame,guardIds]
theorem zc9{A:Around}{C:Addr}{us:List Value}{kw:List (Str×Value)}:(A.under (.builtin "type.__call__" ⟨.ref C::us,kw⟩)).units=A.units+1:=by
 first|rfl|simp[Around.under,Code.cUnits,Code.frames,Code.isFrame]
theorem Room.make{k:Nat}{A:Around}(r:Room (k+1) A)(C:Addr)(us:List Value)(kw:List (Str×Value)):Room k (A.under (.builtin "type.__call__" ⟨.ref C::us,kw⟩)) :=
 ⟨r.hd,by have:=r.dp;rw[zca];omega,by have:=r.un;rw[zc9];omega⟩
theorem Room.depth{k:Nat}{A:Around}(r:Room k A):A.depth<recursionLimit:=by have:=r.dp;omega
theorem Room.units{k:Nat}{A:Around}(r:Room k A):A.units+64<cLine:=by have:=r.un;omega
def tNil:TA:=λ_ H Q=>Q [] H
def tCons(ta:TE)(tr:TA):TA:=λσ H Q=>ta σ H λx H1=>tr σ H1 λxs H2=>Q (x::xs) H2
section
variable {X:Cx}{e:Expr}{es:List Expr}{te:TE}{t:TA}{pos:Pos}
theorem EX:PA X [] tNil:=λ_ _ _ _ H Q I h=>Calls.spliced_nil ⟨[],H,I,.nil,h⟩
theorem DV(ha:PE X e te)(hr:PA X es t)(hs:starEach (e::es) X.env=(false,eval e X.env)::starEach es X.env:=by rfl):PA X (e::es) (tCons te t):=by
 intro pos pins s σ H Q I h;rw[hs];show wpAny _ _ (spliced ((false,eval e X.env)::backTo pos (starEach es X.env))) _ _ s;refine Calls.spliced_cons (AR (ha pins s σ H _ I h) λu s1 ⟨x,H1,I1,r1,q1⟩=>?_)
 exact AR (hr pos pins s1 σ H1 _ I1 q1) λus s2 ⟨xs,H2,I2,r2,q2⟩=>⟨x::xs,H2,I2,.cons r1 r2,q2⟩
def tTup(t:TA):TE:=λσ H Q=>t σ H λxs H1=>xs.length<=sizeLine/\∀p,H1 p=none->Q (.ref p) (upd H1 p (.tup xs))
def tLst(t:TA):TE:=λσ H Q=>t σ H λxs H1=>xs.length<=sizeLine/\∀p,H1 p=none->Q (.ref p) (upd H1 p (.lst xs))
theorem zk1{x1}(h:PA X es t):PE X (.Tuple es x1 pos) (tTup t):=by
 intro pins s σ H Q I hq;refine wpAny_Tuple_spliced (AR (h pos pins s σ H _ I hq) λus s1 ⟨xs,H1,I1,r,z,q⟩=>⟨by rw[<- r.length];exact z,?_⟩)
 have hf:H1 s1.heap.objs.size=none:=I1.hok.fresh (yaa _);refine⟨.ref s1.heap.objs.size,upd H1 s1.heap.objs.size (.tup xs),I1.laid (t':=s1.toks) (λb u e=>ya4 _ e) (yaa _) ?_,rfl,q _ hf⟩
 exact⟨z,us,r,⟨_,yag _ rfl,rfl,_,rfl⟩⟩
theorem zk5(h:PA X es t):PE X (.List es pos) (tLst t):=by
 intro pins s σ H Q I hq;refine wpAny_List_spliced (AR (h pos pins s σ H _ I hq) λus s1 ⟨xs,H1,I1,r,z,q⟩=>⟨by rw[<- r.length];exact z,?_⟩)
 have hf:H1 s1.heap.objs.size=none:=I1.hok.fresh (yaa _);refine⟨.ref s1.heap.objs.size,upd H1 s1.heap.objs.size (.lst xs),I1.laid (t':=s1.toks) (λb u e=>ya4 _ e) (yaa _) ?_,rfl,q _ hf⟩
 exact⟨z,us,0,r,yag _ rfl⟩
end
abbrev Sp:=List V->Hp->VK->XK->Prop
abbrev DN:=List Env->Hp->Shared->XK->Value->Shared->Prop
structure Env0(P:Program)(w:World)(K:kA)(mg:Str->Option Value)(base:Heap)(A:Around)(outer:List Env)(s:Shared)(H:Hp):Prop where
 frames:A.frames=some outer
 mod:Mod K mg base
 bs:∀b o,base.get? b=some o->s.heap.get? b=some o/\H b=none
 bsz:base.objs.size<=s.heap.objs.size
 funs:s.heap.FunFrames base outer
 frf:∀b∈Ax outer,H b=none
 hok:HOk P w H s.heap
 bare:AllBare s.gens
def CE(outer:List Env)(P:Program)(w:World)(H:Hp)(s:Shared)(Q:VK)(u:Value)(s':Shared):Prop :=
 ∃v H',s'.os=s.os/\AllBare s'.gens/\Un (Ax outer) [] H H' s.heap s'.heap/\HOk P w H' s'.heap/\RelV v u/\Q v H'
def CR(CX:DN)(outer:List Env)(P:Program)(w:World)(H:Hp)(s:Shared)(Q:VK)(E:XK)(r:Result)(s':Shared):Prop :=
 match r with
 |.ok (.ret u)=>CE outer P w H s Q u s'
 |.ok _=>False
 |.error e=>CX outer H s E e s'
structure FnOk(P:Program)(w:World)(K:kA)(mg:Str->Option Value)(base:Heap)(CX:DN)(k:Nat)(f:Addr)(fd:FuncData)(ps:List Str)(sp:Sp):Prop where
 len:∀vs H Q E,sp vs H Q E->vs.length=ps.length
 run:∀(A:Around) (outer:List Env) (s:Shared) (H:Hp) (args:Args) (us:List Value) (vs:List V) (Q:VK) (E:XK),Room k A->Env0 P w K mg base A outer s H->BindsTo s fd args (ps.zip us)->AU vs us->sp vs H Q E ->
  codeAny (model P w) A (.call (.ref f) args) (CR CX outer P w H s Q E) s
theorem FnOk.mono{P:Program}{w:World}{K:kA}{mg:Str->Option Value}{base:Heap}{CX:DN}{j k:Nat}{f:Addr}{fd:FuncData}{ps:List Str}{sp:Sp}(F:FnOk P w K mg base CX j f fd ps sp)(h:j<=k) :
  FnOk P w K mg base CX k f fd ps sp:=⟨F.len,λA outer s H args us vs Q E hr=>F.run A outer s H args us vs Q E (hr.mono h)⟩
theorem FnOk.imp{P:Program}{w:World}{K:kA}{mg:Str->Option Value}{base:Heap}{CX:DN}{k:Nat}{f:Addr}{fd:FuncData}{ps:List Str}{sp sp':Sp}(F:FnOk P w K mg base CX k f fd ps sp)
  (h:∀vs H Q E,sp' vs H Q E->sp vs H Q E):FnOk P w K mg base CX k f fd ps sp' :=
 ⟨λvs H Q E q=>F.len vs H Q E (h _ _ _ _ q),λA outer s H args us vs Q E hr he hb hv hs=>F.run A outer s H args us vs Q E hr he hb hv (h _ _ _ _ hs)⟩
theorem Env0.make{P:Program}{w:World}{K:kA}{mg:Str->Option Value}{base:Heap}{A:Around}{outer:List Env}{s:Shared}{H:Hp}(e:Env0 P w K mg base A outer s H)(C:Addr)(us:List Value)(kw:List (Str×Value)) :
  Env0 P w K mg base (A.under (.builtin "type.__call__" ⟨.ref C::us,kw⟩)) outer s H:=⟨by first|exact e.frames|(simpa[Around.under,Code.envs,Code.isFrame,pushEnvs] using e.frames),e.mod,e.bs,e.bsz,e.funs,e.frf,e.hok,e.bare⟩
theorem Env0.in1{P:Program}{w:World}{K:kA}{mg:Str->Option Value}{base:Heap}{A:Around}{outer:List Env}{s:Shared}{H:Hp}(e:Env0 P w K mg base A outer s H) :
  Env0 P w K mg base A.in1 outer s H:=⟨e.frames,e.mod,e.bs,e.bsz,e.funs,e.frf,e.hok,e.bare⟩
section
variable {X:Cx}{pins:List (Addr×Obj)}{σ:St}{H:Hp}{s s':Shared}
theorem Inv.env0(I:Inv X pins σ H s):Env0 X.prog X.w X.K X.mg X.base X.A X.stack s H :=
 ⟨I.ok.frames,I.ok.mod,I.bs,yap I.ok.bsz I.sz,I.stack,I.stkFree,I.hok,I.bare⟩
theorem Inv.after{Q:VK}{u:Value}(I:Inv X pins σ H s)(h:CE X.stack X.prog X.w H s Q u s'):EP X pins σ Q u s':=by
 obtain⟨v,H',os,bare,un,hok,r,q⟩:=h;obtain⟨hh,g,d,t,os'⟩:=s';obtain rfl:os'=s.os:=os;exact⟨v,H',I.call (h':=hh) (g':=g) (d':=d) (t':=t) (ch:=[]) un hok bare (λb z=>absurd z (by simp)),r,q⟩
end
def Pa(sp:Sp)(dvs:List V)(E:XK)(t:TA):TE:=λσ H Q=>t σ H λvs H1=>sp (vs++dvs) H1 Q E
def C8(K:kA)(fd:FuncData)(ps:List Str)(ds:List Value):Prop :=
 ∀(s:Shared) (us:List Value),K.In s.heap->(us++ds).length=ps.length->BindsTo s fd ⟨us,[]⟩ (ps.zip (us++ds))
theorem C8.all{K:kA}{fd:FuncData}{ps:List Str}(h:∀us:List Value,us.length=ps.length->bindArgs fd ⟨us,[]⟩=pure (ps.zip us)):C8 K fd ps []:=λs us _ hl=>by
 rw[yc9]at hl ⊢;exact .of_eq (h us hl)
def Oj(CX:DN)(X:Cx)(E:XK):Prop:=∀(pins:List (Addr×Obj)) (σ:St) (H:Hp) (s:Shared) (e:Value) (s':Shared),Inv X pins σ H s->CX X.stack H s E e s'->X.xe e s'
section
variable {X:Cx}{CX:DN}{k:Nat}{f C:Addr}{fd:FuncData}{ps:List Str}{sp:Sp}{dvs:List V}{ds:List Value}{E:XK}{x m:Str}{p pos apos:Pos}{e o:Expr}{es:List Expr}{ta:TE}{t:TA}
theorem zjd{pins:List (Addr×Obj)}{σ:St}{H:Hp}{s:Shared}{Q:VK}{us:List Value}{vs:List V}(F:FnOk X.prog X.w X.K X.mg X.base CX k f fd ps sp)(hr:Room k X.A)(hb:C8 X.K fd ps ds)(hd:AU dvs ds)(hx:Oj CX X E)
  (I:Inv X pins σ H s) (r:AU vs us) (h:sp (vs++dvs) H Q E):wpAny (model X.prog X.w) X.A (call (.ref f) us) (EP X pins σ Q) X.xe s:=by
 have r2:AU (vs++dvs) (us++ds):=r.append hd;have hl:(us++ds).length=ps.length:=by rw[<- r2.length];exact F.len _ _ _ _ h
 refine yej (yek (F.run X.A X.stack s H ⟨us,[]⟩ (us++ds) (vs++dvs) Q E hr I.env0 (hb s us I.kIn hl) r2 h) λr s' hq=>?_)
 cases r with
 |error e=>exact hx pins σ H s e s' I hq
 |ok fl =>
  cases fl with
  |ret u=>exact I.after hq
  |next=>exact False.elim hq
  |brk=>exact False.elim hq
  |cont=>exact False.elim hq
theorem zh8(F:FnOk X.prog X.w X.K X.mg X.base CX k f fd ps sp)(hr:Room k X.A)(hg:Gl X x)(hm:X.mg x=some (.ref f))(hk:PySem.W.keepIn X.K (.ref f)=true)(hb:C8 X.K fd ps ds)(hd:AU dvs ds)(hx:Oj CX X E)
  (ha:PA X (e::es) t) (hdb:(x == ("__debug__":Str))=false:=by decide) (he:starEach (e::es) X.env=(false,eval e X.env)::starEach es X.env:=by rfl) (hpl:(backTo pos (starEach es X.env)).any (·.1)=false:=by rfl) :
  PE X (.Call (.Name x p) (e::es) [] pos) (Pa sp dvs E t):=by
 intro pins s σ H Q I h;refine yel (GV I hg hm ?_ hdb);refine ycv (h₀:=X.base) I.ok.mod.kin hk (AR (ha pos pins s σ H _ I h) λus s1 ⟨vs,H1,I1,r,q⟩=>⟨I1.kIn,?_⟩) he hpl
 exact zjd F hr hb hd hx I1 r q
structure Mk(K:kA)(C f:Addr):Prop where
 makes:PySem.W.makesIn K C=true
 init:PySem.W.findIn K (.ref C) "__init__"=some (some (.ref f))
 fn:PySem.W.isFn K (.ref f)=true
 kp:PySem.W.keepIn K (.ref C)=true
end
section
variable {X:Cx}{CX:DN}{k:Nat}{f C:Addr}{fd:FuncData}{ps ks:List Str}{sp:Sp}{E:XK}{x m:Str}{p pos apos kpos:Pos}{e o:Expr}{es:List Expr}{kws:List Keyword}{te ta:TE}{t tk:TA}{nm:Option Str}
variable {g:List Value->List Value->List Value}{gV:List V->List V->List V}
end
structure FnScope(N P:List Str)(sc:Scope):Prop where
 kind:sc.kind=.function
 co:sc.isCoroutine=false
 gen:sc.isGenerator=false
 nd:N.Nodup
 pre:N.take P.length=P
 par:∀x∈P,sc.names.lookup x=some .local\/sc.names.lookup x=some .cell
 nofree:∀y∈sc.names,y.2≠.free
theorem Uj{kindOf:Str->Option NameKind}{x:Str}:∀{binds:List (Str×Value)} {m:Str->Option Value},(∀v,(x,v)∉binds)->bindL kindOf binds m x=m x
 |[],_,_=>rfl
 |(n,v)::r,m,h=>by
  unfold bindL;rw[Uj λw hw=>h w (yab _ hw)]
  split
  .have:x≠n:=by rintro rfl;exact h v yah
   simp[this]
  .rfl
theorem Ul{kindOf:Str->Option NameKind}{x:Str}:∀{binds:List (Str×Value)} {m:Str->Option Value},(∀v,(x,v)∉binds)->bindC kindOf binds m x=m x
 |[],_,_=>rfl
 |(n,v)::r,m,h=>by
  unfold bindC;rw[Ul λw hw=>h w (yab _ hw)]
  split
  .rfl
  .have:x≠n:=by rintro rfl;exact h v yah
   simp[this]
theorem Uk{kindOf:Str->Option NameKind}{x:Str}{v:Value}:∀{P:List Str} {vs:List Value} {i:Nat} {m:Str->Option Value},P.Nodup->P[i]?=some x->vs[i]?=some v->kindOf x=some .local ->
  bindL kindOf (P.zip vs) m x=some v
 |[],_,_,_,_,h,_,_=>by simp at h
 |_::_,[],_,_,_,_,h,_=>by simp at h
 |p::P,w::vs,0,m,nd,h1,h2,hk=>by
  simp at h1 h2;subst h1;subst h2;show bindL kindOf ((p,w)::P.zip vs) m p=_;unfold bindL;rw[Uj λv hv=>(ycr.mp nd).1 (ydm hv).1,if_pos hk]
  simp
 |p::P,w::vs,i+1,m,nd,h1,h2,hk=>by
  show bindL kindOf ((p,w)::P.zip vs) m x=_;unfold bindL;exact Uk (i:=i) (ycr.mp nd).2 (by simpa using h1) (by simpa using h2) hk
theorem Um{kindOf:Str->Option NameKind}{x:Str}{v:Value}:∀{P:List Str} {vs:List Value} {i:Nat} {m:Str->Option Value},P.Nodup->P[i]?=some x->vs[i]?=some v->kindOf x≠some .local ->
  bindC kindOf (P.zip vs) m x=some v
 |[],_,_,_,_,h,_,_=>by simp at h
 |_::_,[],_,_,_,_,h,_=>by simp at h
 |p::P,w::vs,0,m,nd,h1,h2,hk=>by
  simp at h1 h2;subst h1;subst h2;show bindC kindOf ((p,w)::P.zip vs) m p=_;unfold bindC;rw[Ul λv hv=>(ycr.mp nd).1 (ydm hv).1,if_neg hk]
  simp
 |p::P,w::vs,i+1,m,nd,h1,h2,hk=>by
  show bindC kindOf ((p,w)::P.zip vs) m x=_;unfold bindC;exact Um (i:=i) (ycr.mp nd).2 (by simpa using h1) (by simpa using h2) hk
def start(N:List Str)(vs:List V):St:=vs.map some++List.replicate (N.length - vs.length) none
noncomputable def DK(CX:DN)(P:Program)(w:World)(K:kA)(mg:Str->Option Value)(base:Heap)(N:List Str)(qual:Str)(scope:Scope)(f:Addr)(cd:Value)(A:Around)(outer:List Env)(s:Shared)(H:Hp)(E:XK):Cx where
 prog:=P
 w:=w
 K:=K
 mg:=mg
 base:=base
 A:=A.deeper (envOfC qual scope s.heap.objs.size f cd)
 N:=N
 s₀:=s
 H₀:=H
 env:=envOfC qual scope s.heap.objs.size f cd
 outer:=outer
 stack:=envOfC qual scope s.heap.objs.size f cd::outer
 ex:=[]
 calm:=true
 fn:=λ_=>true
 pn:=[]
 xe:=λe s'=>wpAny (model P w) (A.deeper (envOfC qual scope s.heap.objs.size f cd)) (leaving (envOfC qual scope s.heap.objs.size f cd) e) (λ_ s''=>CX outer H s E e s'') (λe' s''=>CX outer H s E e' s'') s'
theorem U7{sc:Scope}{n:Nat}{x:Str}(h:sc.names.lookup x=some .cell):∃c,(cellsFrom n sc.names []).lookup x=some c:=by
 have q:=yd7 sc.names n [] (.inl h);exact Option.isSome_iff_exists.mp q
theorem Sy{CX:DN}{P:Program}{w:World}{K:kA}{mg:Str->Option Value}{base:Heap}{N ps:List Str}{qual:Str}{scope:Scope}{f:Addr}{cd:Value}{A:Around}{outer:List Env}{s s1:Shared}{H:Hp}{E:XK}{us:List Value}{vs:List V}
  (S:FnScope N ps scope) (hd:A.handled=none) (e0:Env0 P w K mg base A outer s H) (hl:vs.length=ps.length) (r:AU vs us)
  (x:InCallC s s.heap.objs.size (bindL (envOfC qual scope s.heap.objs.size f cd).kindOf (ps.zip us) λ_=>none) (cellsFrom (s.heap.objs.size+1) scope.names []) (bindC (envOfC qual scope s.heap.objs.size f cd).kindOf (ps.zip us) λ_=>none) s1) :
  Inv (DK CX P w K mg base N qual scope f cd A outer s H E) [] (start N vs) H s1:=by
 have hpl:ps.length<=N.length:=by have:=congrArg List.length S.pre;rw[yb2]at this;omega
 obtain⟨h1,tk,rfl,hk⟩:=x.done;have noA:∀b:Addr,b∉(DK CX P w K mg base N qual scope f cd A outer s H E).ex:=λb z=>absurd (show b∈([]:List Addr) from z) (by simp)
 refine⟨⟨e0.mod,S.kind,rfl,rfl,yaa _,λy z c h1 h2=>?_,λy hy=>?_,λy c _ h=>?_,λ_=>hd,Around.frames_deeper e0.frames,.inr ⟨rfl,rfl⟩,λb z=>absurd z (noA b),e0.bs,e0.bsz,λb _ _=>noA b,λb z=>absurd z (noA b),e0.funs,e0.frf⟩,
  rfl,e0.bare,Un.kept hk,⟨_,x.toInCall.ns,λi y v h1 h2 h3=>?_⟩,λy c h=>⟨_,x.cell y c h⟩,e0.hok.fresh (yaa _),λy c h=>?_,λp hp=>absurd (show p∈([]:List (Addr×Obj)) from hp) (by simp),e0.hok.kept hk,?_⟩
 .exact name_of_addr x.apart (ybq h1) (ybq h2)
 .have hy:scope.names.lookup y=some .cell\/scope.names.lookup y=some .free:=hy
  rcases hy with hy|hy
  .exact U7 hy
  .exact absurd rfl (S.nofree _ (ybq hy))
 .exact ydl (x.above y c (ybq h))
 .have hi:i<vs.length:=by
   unfold start at h2
   by_cases hi:i<vs.length
   .exact hi
   .rw[yax (by simpa using hi)]at h2
    rw[yd0]at h2;split at h2<;>cases h2
  have ha:vs[i]?=some v:=by
   unfold start at h2;rw[yas (by simpa using hi),ya7]at h2
   cases e:vs[i]? with
   |none=>rw[e]at h2;cases h2
   |some a=>rw[e]at h2;cases h2;rfl
  obtain⟨u,hu,rv⟩:=r.get ha
  have hp:ps[i]?=some y:=by
   rw[<- S.pre,List.getElem?_take_of_lt (by omega)];exact h1
  have ndP:ps.Nodup:=by rw[<- S.pre];exact S.nd.sublist (List.take_sublist _ _)
  refine⟨u,rv,?_⟩
  rcases S.par y (ydn hp) with k|k
  .exact .inl ⟨k,Uk ndP hp hu k⟩
  .obtain⟨c,e⟩:=U7 (n:=s.heap.objs.size+1) k;refine .inr ⟨.inl k,c,e,?_⟩;have q:=x.cell y c e;rw[Um ndP hp hu (by show scope.names.lookup y≠_;rw[k];decide)]at q
   exact q
 .exact e0.hok.fresh (ydl (x.above y c (ybq h)))
 .unfold start;show _=N.length;rw[yad,ya5,ydh]
  omega
theorem Nb{CX:DN}{P:Program}{w:World}{K:kA}{mg:Str->Option Value}{base:Heap}{k:Nat}{f:Addr}{name qual:Str}{params:Arguments}{body:List Stmt}{scope:Scope}{dV kV doc pm cdv ct oc:Value}{an od:Option Addr}
  {osl:Array (Option Value)} {N ps:List Str} {sp:Sp} (lk:K.lookup f=some ⟨oc,od,.func (PySem.W.fnOf name qual params body scope dV kV doc pm an cdv ct),osl⟩) (hcd:PySem.W.codeIn K cdv qual=true) (S:FnScope N ps scope)
  (len:∀vs H Q E,sp vs H Q E->vs.length=ps.length)
  (hbody : ∀ (A : Around) (outer : List Env) (s : Shared) (H : Hp) (vs : List V) (Q : VK) (E : XK), Room k (A.deeper (envOfC qual scope s.heap.objs.size f cdv)) -> sp vs H Q E ->
   ∃t,BD (DK CX P w K mg base N qual scope f cdv A outer s H E) body t/\t { nx:=λ_ H'=>Q .non H',rt:=Q } (start N vs) H) :
  FnOk P w K mg base CX (k+1) f (PySem.W.fnOf name qual params body scope dV kV doc pm an cdv ct) ps sp:=by
 refine⟨len,λA outer s H args us vs Q E hr e0 hb r hsp=>?_⟩
 have hl:=len _ _ _ _ hsp;have KX:K.In s.heap:=e0.mod.kin.keeps λb o e=>(e0.bs b o e).1
 have AQ:s.heap.NoLimit:=e0.mod.nolimit.keeps λb o e=>(e0.bs b o e).1
 have hkind:∀y∈ps.zip us,scope.names.lookup y.1=some .local\/(scope.names.lookup y.1=some .cell/\((cellsFrom (s.heap.objs.size+1) scope.names []).lookup y.1).isSome=true):=λ⟨n,v⟩ hy=>by
  rcases S.par n (ydm hy).1 with q|q
  .exact .inl q
  .exact .inr ⟨q,yd7 _ _ _ (.inl q)⟩
 refine codeAny_call_function hr.depth (KX _ _ lk) rfl S.co S.gen rfl (PySem.W.codeRec_of KX hcd) (hb _ _ _ _ ?_);refine wpAny_newFunctionEnv_cells S.kind hkind λenv he s1 x=>?_
 subst he;refine⟨AQ.keeps x.toInCall.keep,codeAny_func ?_⟩;obtain⟨t,ht,hq⟩:=hbody A outer s H vs Q E (hr.deeper _) hsp;have I:Inv (DK CX P w K mg base N qual scope f cdv A outer s H E) [] (start N vs) H s1:=Sy S hr.hd e0 hl r x;refine ye9 (ht [] s1 (start N vs) H _ I hq) (λfl s' hs=>?_) λe s' hs=>hs
 have Ar:∀{σ':St} {H':Hp} {v:V} {u:Value},Inv (DK CX P w K mg base N qual scope f cdv A outer s H E) [] σ' H' s'->RelV v u->Q v H'->CE outer P w H s Q u s' :=
  λ{σ' H' v u} J rv q=>⟨v,H',J.os,J.bare,J.base,J.hok,rv,q⟩
 cases fl with
 |ret u =>
  obtain⟨v,σ',H',J,rv,q⟩:=hs;exact Ar J rv q
 |next =>
  obtain⟨σ',H',J,q⟩:=hs;exact Ar (v:=V.non) (u:=Value.none) J rfl q
 |brk =>
  obtain⟨_,_,_,q⟩:=hs;exact False.elim q
 |cont =>
  obtain⟨_,_,_,q⟩:=hs;exact False.elim q
section
variable {X:Cx}{x:Str}{p pos:Pos}{e:Expr}{es:List Expr}{t:TA}{id T:String}{r:List V->Hp->VK->Prop}
def Pb(r:List V->Hp->VK->Prop)(t:TA):TE:=λσ H Q=>t σ H λvs H1=>r vs H1 Q
theorem IB(hc:B3 X (.builtin id) r)(hg:Gl X x)(hm:X.mg x=none)(hv:bootBuiltins x=some (.builtin id))(ha:PA X (e::es) t)(hn:x≠"__name__":=by decide)(hdb:(x == ("__debug__":Str))=false:=by decide)
  (he:starEach (e::es) X.env=(false,eval e X.env)::starEach es X.env:=by rfl) (hpl:(backTo pos (starEach es X.env)).any (·.1)=false:=by rfl):PE X (.Call (.Name x p) (e::es) [] pos) (Pb r t):=by
 intro pins s σ H Q I h;refine yel (IM I hg hm hv ?_ hn hdb);exact PyProof.Rows.callWith_builtin1 (AR (ha pos pins s σ H _ I h) λus s1 ⟨vs,H1,I1,r1,q1⟩=>hc pins s1 σ H1 vs us Q I1 r1 q1) he hpl
theorem Qe(hc:B3 X (.type T) r)(hg:Gl X x)(hm:X.mg x=none)(hv:bootBuiltins x=some (.type T))(ha:PA X (e::es) t)(hn:x≠"__name__":=by decide)(hdb:(x == ("__debug__":Str))=false:=by decide)
  (he:starEach (e::es) X.env=(false,eval e X.env)::starEach es X.env:=by rfl) (hpl:(backTo pos (starEach es X.env)).any (·.1)=false:=by rfl):PE X (.Call (.Name x p) (e::es) [] pos) (Pb r t):=by
 intro pins s σ H Q I h;refine yel (IM I hg hm hv ?_ hn hdb);exact ych (AR (ha pos pins s σ H _ I h) λus s1 ⟨vs,H1,I1,r1,q1⟩=>hc pins s1 σ H1 vs us Q I1 r1 q1) he hpl
end
end L2
namespace HT
open PySem PyProof.Rows
section
open PySem.SeqAt
open PySem.AutoSeq1 (wpAny_loadPart')
open PySem.MeetsSeq PySem.MeetsSeq2 PySem.MeetsSeq3
end
section
variable {prog:Program}{w:World}{A:Around}{E:Value->Shared->Prop}{s:Shared}
theorem cat_tup{t b:Addr}{vs ws:List Value}{Q:Value->Shared->Prop}(ht:IsTup s.heap t vs.toArray)(hb:IsTup s.heap b ws.toArray)(hv:vs≠[])
  (h1:ws=[]->Q (.ref t) s) (h2:ws≠[]->Q (.ref s.heap.objs.size) { s with heap:=s.heap.push { cls:=.type "tuple",data:=.seq (vs++ws).toArray } })
  (hsz:vs.length+ws.length<=sizeLine):wpAny (model prog w) A (binaryOp .Add (.ref t) (.ref b)) Q E s:=by
 obtain⟨⟨cls,dd,data,sl⟩,ho,hc,n,hd⟩:=id ht;obtain⟨⟨cls2,dd2,data2,sl2⟩,ho2,hc2,n2,hd2⟩:=id hb;simp only at hc hd hc2 hd2;subst hc hd hc2 hd2;have e:vs.toArray++ws.toArray=(vs++ws).toArray:=by simp
 by_cases hw:ws=[]
 .exact concat_meets ⟨_,ho,rfl⟩ ⟨_,ho2,rfl⟩ yem seq_tuple_add yd8 yd1 (ycw _ _)
   (tuple_addW1 t b vs.toArray ws.toArray n n2 dd dd2 sl sl2 (by simpa using hv) (by simp[hw])) ⟨ho,ho2,h1 hw⟩
 .refine concat_meets ⟨_,ho,rfl⟩ ⟨_,ho2,rfl⟩ yem seq_tuple_add yd8 yd1 (ycw _ _)
   (tuple_addW2 t b vs.toArray ws.toArray n n2 dd dd2 sl sl2 (by simpa using hv) (by simpa using hw) (by rw[yai,yai];exact hsz)) ⟨ho,ho2,?_⟩
  rw[e];exact h2 hw
noncomputable def sIx(n d:Nat):Option Int->Nat
 |none=>d
 |some v=>if v<0 then (v+(n:Int)).toNat else min v.toNat n
theorem sIx_none(n d:Nat):sIx n d none=d:=rfl
theorem sIx_nat(n d k:Nat):sIx n d (some (k:Int))=min k n:=by
 show(if (k:Int)<0 then ((k:Int)+(n:Int)).toNat else min (k:Int).toNat n)=min k n
 rw[if_neg (by omega),yba]
end
end HT
namespace L2
open PySem PySem.Spec PyProof.Rows
abbrev TO:=St->Hp->(Option Int->Hp->Prop)->Prop
def PO(X:Cx)(e:Option Expr)(t:TO):Prop :=
 ∀(pins:List (Addr×Obj)) (s:Shared) (σ:St) (H:Hp) (Q:Option Int->Hp->Prop),Inv X pins σ H s->t σ H Q ->
  wpAny (model X.prog X.w) X.A (evalPart e X.env) (λu s'=>∃o H',Inv X pins σ H' s'/\IsPart u o/\Q o H') X.xe s
def zg5:TO:=λ_ H Q=>Q none H
def tPart(t:TE):TO:=λσ H Q=>t σ H λx H1=>∃i,x=.int i/\Q (some i) H1
section
variable {X:Cx}{e:Expr}{te:TE}{lo hi:Option Expr}{tl th:TO}{pos p2:Pos}
theorem zgz:PO X none zg5:=by
 intro pins s σ H Q I h;rw[evalPart_none];exact yef ⟨none,H,I,.none,h⟩
theorem zgy(h:PE X e te):PO X (some e) (tPart te):=by
 intro pins s σ H Q I hw;rw[evalPart_some];refine AR (h pins s σ H _ I hw) λu s1 ⟨x,H1,I1,r1,q1⟩=>?_
 obtain⟨i,rfl,q⟩:=q1;obtain⟨t,rfl⟩:=r1;exact⟨some i,H1,I1,.int i t,q⟩
def G4(X:Cx)(r:V->Option Int->Option Int->Hp->VK->Prop):Prop :=
 ∀(pins:List (Addr×Obj)) (s:Shared) (σ:St) (H:Hp) (x:V) (v vl vu:Value) (lo hi:Option Int) (sl:Addr) (Q:VK),Inv X pins σ H s->RelV x v->s.heap.IsSliceOf sl vl vu .none->IsPart vl lo->IsPart vu hi->r x lo hi H Q ->
  ∃T id,typeLookup (.type T) "__getitem__"=pure (some (.builtin id))/\s.TypeIs v T/\wpAny (model X.prog X.w) X.A (getItem v (.ref sl)) (EP X pins σ Q) X.xe s
theorem G4.or{r r':V->Option Int->Option Int->Hp->VK->Prop}(h:G4 X r)(h':G4 X r'):G4 X (λx lo hi H Q=>r x lo hi H Q\/r' x lo hi H Q):=by
 intro pins s σ H x v vl vu lo hi sl Q I rx hs pl pu q
 rcases q with q|q
 .exact h pins s σ H x v vl vu lo hi sl Q I rx hs pl pu q
 .exact h' pins s σ H x v vl vu lo hi sl Q I rx hs pl pu q
def tSl(r:V->Option Int->Option Int->Hp->VK->Prop)(te:TE)(tl th:TO):TE:=λσ H Q=>te σ H λx H1=>tl σ H1 λl H2=>th σ H2 λu H3=>r x l u H3 Q
theorem Qb{r:V->Option Int->Option Int->Hp->VK->Prop}(hr:G4 X r)(he:PE X e te)(hl:PO X lo tl)(hu:PO X hi th):PE X (.Subscript e (.Slice lo hi none p2) pos) (tSl r te tl th):=by
 intro pins s σ H Q I h;refine Subscript_ (AR (he pins s σ H _ I h) λv s1 ⟨x,H1,I1,r1,q1⟩=>?_)
 refine wpAny_Slice (AR (hl pins s1 σ H1 _ I1 q1) λvl s2 ⟨l,H2,I2,pl,q2⟩=>AR (hu pins s2 σ H2 _ I2 q2) λvu s3 ⟨u,H3,I3,pu,q3⟩=>?_)
 rw[evalPart_none];refine yef ?_;have I4:Inv X pins σ H3 { s3 with heap:=s3.heap.push { cls:=.type "slice",data:=.fields #[vl,vu,.none] } }:=I3.kept (t':=s3.toks) λb ob q=>ya4 _ q
 obtain⟨T,id,hT,ht,hg⟩:=hr pins { s3 with heap:=s3.heap.push { cls:=.type "slice",data:=.fields #[vl,vu,.none] } } σ H3 x v vl vu l u s3.heap.objs.size Q I4 r1 (Heap.IsSliceOf.new ..) pl pu q3
 show wpAny (model X.prog X.w) X.A (subscriptTail e (.Slice lo hi none p2) v (.ref s3.heap.objs.size)) (EP X pins σ Q) X.xe { s3 with heap:=s3.heap.push { cls:=.type "slice",data:=.fields #[vl,vu,.none] } }
 exact tail_any (ops:=[.ref s3.heap.objs.size,v]) ht hT hg (by with_unfolding_all rfl)
def HS(xs:List V)(lo hi:Option Int):List V:=(xs.drop (HT.sIx xs.length 0 lo)).take (HT.sIx xs.length xs.length hi - HT.sIx xs.length 0 lo)
theorem zbn(xs:List V)(lo hi:Option Int):(HS xs lo hi).length<=xs.length:=by
 unfold HS;rw[yb2,ybm]
 omega
def rCatT(K:kA):R2:=λx y H Q=>∃a b xs ys,x=.ref a/\y=.ref b/\BG K H a xs/\BG K H b ys/\xs≠[]/\xs.length+ys.length<=sizeLine /\
 (ys=[]->Q (.ref a) H)/\(ys≠[]->∀p,H p=none->Q (.ref p) (upd H p (.tup (xs++ys))))
theorem AU.nil_iff{xs:List V}{us:List Value}(r:AU xs us):us=[] ↔ xs=[]:=by
 cases r with
 |nil=>simp
 |cons _ _=>simp
theorem zhg:A3 X (binaryOp .Add) (rCatT X.K):=by
 intro pins s σ H x y v u Q I rx ry h;obtain⟨a,b,xs,ys,rfl,rfl,ha,hb,hx,hz,q1,q2⟩:=h;cases rx;cases ry;obtain⟨its,r1,p1,_⟩:=I.tuple ha;obtain⟨its2,r2,p2,_⟩:=I.tuple hb;refine HT.cat_tup p1 p2 (λz=>hx (r1.nil_iff.mp z)) (λz=>⟨.ref a,H,I,rfl,q1 (r2.nil_iff.mp z)⟩) (λz=>?_) (by rw[<- r1.length,<- r2.length];exact hz)
 refine⟨.ref s.heap.objs.size,_,I.laid (t':=s.toks) (o:=.tup (xs++ys)) (λb ob q=>ya4 _ q) (yaa _) ?_,rfl,q2 (λw=>z (r2.nil_iff.mpr w)) _ (I.hok.fresh (yaa _))⟩
 exact⟨by rw[yad];exact hz,_,r1.append r2,IsTup.new _ _⟩
end
noncomputable def Fc(n:Nat)(i:Int):Option Nat:=if 0<=i then (if i<n then some i.toNat else none) else if -(n:Int)<=i then some (i+n).toNat else none
def Ah{α:Type}(xs:List α)(i:Int):Option α:=(Fc xs.length i).bind λj=>xs[j]?
theorem zi6{n:Nat}{i:Int}{j:Nat}(h:Fc n i=some j):seqIndex? i n=some j/\j<n/\-(n:Int)<=i/\i<n:=by
 unfold Fc at h
 by_cases h0:0<=i
 .rw[if_pos h0]at h
  by_cases h1:i<n
  .rw[if_pos h1]at h;have e:i.toNat=j:=yb0 h;exact⟨by rw[seqIndex_of h0 h1,e],by omega,by omega,h1⟩
  .rw[if_neg h1]at h;cases h
 .rw[if_neg h0]at h
  by_cases h1:-(n:Int)<=i
  .rw[if_pos h1]at h;have e:(i+n).toNat=j:=yb0 h;exact⟨by rw[seqIndex_neg (by omega) h1,e],by omega,h1,by omega⟩
  .rw[if_neg h1]at h;cases h
theorem O4{α:Type}{xs:List α}{i:Int}{v:α}(h:Ah xs i=some v):∃j,seqIndex? i xs.length=some j/\xs[j]?=some v/\j<xs.length/\-(xs.length:Int)<=i/\i<xs.length:=by
 unfold Ah at h;cases e:Fc xs.length i with
 |none=>rw[e]at h;cases h
 |some j =>
  rw[e]at h;obtain⟨h1,h2,h3,h4⟩:=zi6 e;exact⟨j,h1,h,h2,h3,h4⟩
theorem LA{α:Type}{xs:List α}{j:Nat}{v:α}(h:xs[j]?=some v):Ah xs (j:Int)=some v:=by
 have hj:j<xs.length:=(ya8.mp h).1
 have e:Fc xs.length (j:Int)=some j:=by
  unfold Fc;rw[if_pos (by omega),if_pos (by omega)];simp
 unfold Ah;rw[e];exact h
def Oi(b:Expr):Prop:=∀o i,subscripted b false o i=operate [o,i] (getItem o i)
def FP(X:Cx)(r:R2):Prop :=
 ∀(value slice:Expr) (pins:List (Addr×Obj)) (s:Shared) (σ:St) (H:Hp) (x y:V) (v u:Value) (Q:VK),Inv X pins σ H s->RelV x v->RelV y u->r x y H Q ->
  subscripted slice false v u=operate [v,u] (getItem v u)->wpAny (model X.prog X.w) X.A (subscriptTail value slice v u) (EP X pins σ Q) X.xe s
def H9(X:Cx)(id:String)(r:V->List V->Hp->VK->Prop):Prop :=
 ∀(pins:List (Addr×Obj)) (s:Shared) (σ:St) (H:Hp) (x:V) (xs:List V) (v:Value) (us:List Value) (Q:VK),Inv X pins σ H s->RelV x v->AU xs us->r x xs H Q ->
  wpAny (model X.prog X.w) X.A (call (.builtin id) (v::us)) (EP X pins σ Q) X.xe s
section
variable {X:Cx}{a b:Expr}{ta tb:TE}{pos:Pos}
theorem FP.or{r r':R2}(h:FP X r)(h':FP X r'):FP X (λx y H Q=>r x y H Q\/r' x y H Q):=by
 intro value slice pins s σ H x y v u Q I rx ry q hs
 rcases q with q|q
 .exact h value slice pins s σ H x y v u Q I rx ry q hs
 .exact h' value slice pins s σ H x y v u Q I rx ry q hs
theorem H9.or{id:String}{r r':V->List V->Hp->VK->Prop}(h:H9 X id r)(h':H9 X id r'):H9 X id (λx xs H Q=>r x xs H Q\/r' x xs H Q):=by
 intro pins s σ H x xs v us Q I rx rs q
 rcases q with q|q
 .exact h pins s σ H x xs v us Q I rx rs q
 .exact h' pins s σ H x xs v us Q I rx rs q
theorem pe_ix{r:R2}(hr:FP X r)(ha:PE X a ta)(hb:PE X b tb)(hs:Oi b):PE X (.Subscript a b pos) (Gg r ta tb):=by
 intro pins s σ H Q I h;exact Subscript_ (O0 ha hb I h λv u s2 x y H2 I2 rx ry q=>hr a b pins s2 σ H2 x y v u Q I2 rx ry q (hs _ _))
def Q0(K:kA):R2:=λx y H Q=>∃p xs i v,x=.ref p/\y=.int i/\Ag K H p xs/\Ah xs i=some v/\Q v H
def QY(K:kA):R2:=λx y H Q=>∃p xs i v,x=.ref p/\y=.int i/\BG K H p xs/\Ah xs i=some v/\Q v H
def QZ:R2:=λx y H Q=>∃z i c,x=.str z/\y=.int i/\z.length<=sizeLine/\Ah z.cps.toList i=some c/\Q (.str ⟨#[c]⟩) H
theorem zi5:FP X (Q0 X.K):=by
 intro value slice pins s σ H x y v u Q I rx ry h hs;obtain⟨p,xs,i,z,rfl,rfl,hq,he,q⟩:=h;cases rx;obtain⟨t,rfl⟩:=ry;obtain⟨its,r,pl,hz⟩:=I.list hq;obtain⟨j,h1,h2,h3,h4,h5⟩:=O4 he;obtain⟨w,ew,rw'⟩:=r.get h2;have hl:=r.length;have hn:=KU;have Ar:EP X pins σ Q w s:=⟨z,H,I,rw',q⟩
 by_cases h0:0<=i
 .have hj:i.toNat=j:=by
   rw[seqIndex_of h0 h5]at h1;exact yb0 h1
  exact item_listR pl.isList h0 (by omega) (by rw[hj];simpa using ew) Ar hs
 .have hj:(i+(its.toArray.size:Int)).toNat=j:=by
   rw[seqIndex_neg (by omega) h4]at h1
   rw[yai,<- hl];exact yb0 h1
  exact subscriptTail_builtinR (x:=w) pl.isList.typeIs slot_list_getitem.lookup
   (wpAny_getItem_list_neg (Q:=λr s'=>r=w/\EP X pins σ Q r s') pl.isList (by omega) (by rw[yai]<;>omega) (by omega) (by rw[hj];simpa using ew) ⟨rfl,Ar⟩) hs
theorem zl8:FP X (QY X.K):=by
 intro value slice pins s σ H x y v u Q I rx ry h hs;obtain⟨p,xs,i,z,rfl,rfl,hq,he,q⟩:=h;cases rx;obtain⟨t,rfl⟩:=ry;obtain⟨its,r,pl,hz⟩:=I.tuple hq;obtain⟨j,h1,h2,h3,h4,h5⟩:=O4 he;obtain⟨w,ew,rw'⟩:=r.get h2;have hl:=r.length;have hn:=KU;have Ar:EP X pins σ Q w s:=⟨z,H,I,rw',q⟩
 exact subscriptTail_builtinR (x:=w) pl.typeIs slot_tuple_getitem.lookup
  (getItem_tuple (j:=j) (Q:=λr s'=>r=w/\EP X pins σ Q r s') pl (by omega) (by omega) (by rw[yai,<- hl];exact h1) (by simpa using ew) ⟨rfl,Ar⟩) hs
theorem zl9:FP X QZ:=by
 intro value slice pins s σ H x y v u Q I rx ry h hs;obtain⟨z,i,c,rfl,rfl,hz,he,q⟩:=h;obtain⟨t,rfl⟩:=rx;obtain⟨t',rfl⟩:=ry;obtain⟨j,h1,h2,h3,h4,h5⟩:=O4 he;have hl:z.cps.toList.length=z.length:=by simp[Str.length]
 rw[hl]at h1 h4 h5;have hn:=KU
 exact tail_any (yen s z t) slot_str_getitem.lookup (getItem_str (c:=c) (by
  have e1:decide (i < -(2 ^ 63:Int))=false:=ye8 (by omega)
  have e2:decide (i ≥ 2 ^ 63)=false:=ye8 (by omega)
  rw[e1,e2,ydc]) (by rw[h1];simpa using h2) ⟨.str ⟨#[c]⟩,H,I.tok _,⟨_,rfl⟩,q⟩) hs
def Q1(K:kA):R2:=λx y H Q=>Q0 K x y H Q\/QY K x y H Q\/QZ x y H Q
theorem zla:FP X (Q1 X.K):=zi5.or (zl8.or zl9)
theorem Inv.lst{pins:List (Addr×Obj)}{σ:St}{H:Hp}{s:Shared}{p:Addr}{xs:List V}(I:Inv X pins σ H s)(h:H p=some (.lst xs)) :
  ∃(its:List Value) (n:Nat),AU xs its/\s.heap.get? p=some { cls:=.type "list",data:=.seq its.toArray n }/\xs.length<=sizeLine:=by
 obtain⟨z,its,n,r,e⟩:=I.hok p _ h;exact⟨its,n,r,e,z⟩
theorem zb0(lo hi:Option Int)(n:Nat):(sliceBounds lo hi none n).1=((HT.sIx n 0 lo:Nat):Int)/\(sliceBounds lo hi none n).2.1=((HT.sIx n n hi:Nat):Int)/\(sliceBounds lo hi none n).2.2=1:=by
 refine⟨?_,?_,rfl⟩
 .cases lo with
  |none=>simp[sliceBounds,HT.sIx]
  |some i =>
   simp only[sliceBounds,HT.sIx,Option.getD_none,show(1:Int) > 0 by decide,yeo]
   by_cases h:i<0
   .simp only[h,yeo]<;>omega
   .simp only[h,yep]<;>omega
 .cases hi with
  |none=>simp[sliceBounds,HT.sIx]
  |some i =>
   simp only[sliceBounds,HT.sIx,Option.getD_none,show(1:Int) > 0 by decide,yeo]
   by_cases h:i<0
   .simp only[h,yeo]<;>omega
   .simp only[h,yep]<;>omega
theorem zat(its:List Value)(lo hi:Option Int):slicePick its.toArray lo hi none=((its.drop (HT.sIx its.length 0 lo)).take (HT.sIx its.length its.length hi - HT.sIx its.length 0 lo)).toArray:=by
 obtain⟨h1,h2,h3⟩:=zb0 lo hi its.toArray.size;unfold slicePick;rw[h1,h2,h3];simp only[sliceRange_one,pick_run,yai]<;>rfl
def QX(K:kA):V->Option Int->Option Int->Hp->VK->Prop:=λx lo hi H Q=>∃a xs,x=.ref a/\Ag K H a xs/\∀p,H p=none->Q (.ref p) (upd H p (.lst (HS xs lo hi)))
theorem zgb:G4 X (QX X.K):=by
 intro pins s σ H x v vl vu lo hi sl Q I rx hs pl pu h;obtain⟨a,xs,rfl,hx,q⟩:=h;cases rx;obtain⟨its,r,ht,hz⟩:=I.list hx;have hlen:=r.length;refine⟨"list",_,slot_list_getitem.lookup,ht.isList.typeIs,?_⟩;refine wpAny_getItem_list_slice ht.isList hs pl pu .none (by simp) ?_ (by rw[yai]<;>omega)
 rw[zat,<- hlen];refine⟨.ref s.heap.objs.size,_,I.laid (t':=s.toks) (o:=.lst (HS xs lo hi)) (λb ob q=>ya4 _ q) (yaa _) ?_,rfl,q _ (I.hok.fresh (yaa _))⟩
 exact⟨yap (zbn xs lo hi) hz,_,0,(r.drop (HT.sIx xs.length 0 lo)).take (HT.sIx xs.length xs.length hi - HT.sIx xs.length 0 lo),yag _ rfl⟩
theorem B3.or{f:Value}{r r':List V->Hp->VK->Prop}(h:B3 X f r)(h':B3 X f r'):B3 X f (λxs H Q=>r xs H Q\/r' xs H Q):=by
 intro pins s σ H xs us Q I rs q
 rcases q with q|q
 .exact h pins s σ H xs us Q I rs q
 .exact h' pins s σ H xs us Q I rs q
theorem zb9:B3 X (.type "list") (λxs H Q=>∃p ys,xs=[.ref p]/\(Ag X.K H p ys\/BG X.K H p ys)/\∀l,H l=none->Q (.ref l) (upd H l (.lst ys))):=by
 intro pins s σ H xs us Q I r h;obtain⟨p,ys,rfl,hq,q⟩:=h;obtain⟨u,rfl,rx⟩:=Ei r;cases rx
 have Ar:∀(its:List Value),AU ys its->ys.length<=sizeLine->∀(h':Heap) (c':Nat),(∀b o',s.heap.get? b=some o'->h'.get? b=some o') ->
   h'.get? s.heap.objs.size=some { cls:=.type "list",dict:=none,data:=.seq its.toArray c',slots:=#[] }->EP X pins σ Q (.ref s.heap.objs.size) { s with heap:=h' }:=λits r' hz h' c' kp e =>
  ⟨.ref s.heap.objs.size,_,I.laid (t':=s.toks) kp (yaa _) (show BJ X.prog X.w _ h' _ (.lst ys) from⟨hz,its,c',r',e⟩),rfl,q _ (I.hok.fresh (yaa _))⟩
 rcases hq with hq|hq
 .obtain⟨its,r',pl,hz⟩:=I.list hq;have hlen:=r'.length;obtain⟨o,ho,hc,n,hd⟩:=pl.isList;exact call_list_seq p (.inl rfl) ho hc hd (λh' c' kp e=>Ar its r' hz h' c' kp e) (by simp only[yai]<;>omega)
 .obtain⟨its,r',pl,hz⟩:=I.tuple hq;have hlen:=r'.length;obtain⟨o,ho,hc,n,hd⟩:=pl;exact call_list_seq p (.inr rfl) ho hc hd (λh' c' kp e=>Ar its r' hz h' c' kp e) (by simp only[yai]<;>omega)
theorem zay:B3 X (.type "tuple") (λxs H Q=>∃p ys,xs=[.ref p]/\((Ag X.K H p ys/\∀l,H l=none->Q (.ref l) (upd H l (.tup ys)))\/(BG X.K H p ys/\Q (.ref p) H))):=by
 intro pins s σ H xs us Q I r h;obtain⟨p,ys,rfl,h⟩:=h;obtain⟨u,rfl,rx⟩:=Ei r;cases rx
 rcases h with ⟨hq,q⟩|⟨hq,q⟩
 .obtain⟨its,r',pl,hz⟩:=I.list hq;have hlen:=r'.length;refine call_tuple_list pl.isList (λh' kp=>?_) (by simp only[yai]<;>omega)
  have I1:Inv X pins σ H { s with heap:=h' }:=I.kept (t':=s.toks) kp
  have I2:Inv X pins σ (upd H h'.objs.size (.tup ys)) { s with heap:=h'.push { cls:=.type "tuple",data:=.seq its.toArray } } :=
   I1.laid (t':=s.toks) (λb o e=>ya4 _ e) (yaa _) (show BJ X.prog X.w _ _ _ (.tup ys) from⟨hz,its,r',IsTup.new _ _⟩)
  exact⟨.ref h'.objs.size,_,I2,rfl,q _ (I1.hok.fresh (yaa _))⟩
 .obtain⟨its,r',pl,hz⟩:=I.tuple hq;exact call_tuple_same pl ⟨.ref p,H,I,rfl,q⟩
def Lb(K:kA)(T:String)(x:V)(H:Hp):Prop:=match x with
 |.str _=>T="str"
 |.int _=>T="int"
 |.ref p=>(T="list"/\∃xs,Ag K H p xs)\/(T="tuple"/\∃o,K.lookup p=some o/\o.cls=.type "tuple"/\o.dict=none) \/
   (T="dict"/\((∃kvs,H p=some (.dK kvs))\/∃kvs,H p=some (.dT kvs)))\/(T="set"/\∃S n,H p=some (.set S n))
 |_=>False
theorem PK{pins:List (Addr×Obj)}{σ:St}{H:Hp}{s:Shared}{T:String}{x:V}{v:Value}(I:Inv X pins σ H s)(r:RelV x v)(ty:Lb X.K T x H) :
  s.TypeIs v T/\∀a,v=.ref a->∃ob,s.heap.get? a=some ob/\ob.dict=none:=by
 cases x with
 |str z =>
  obtain⟨t,rfl⟩:=r;cases (show T="str" from ty);exact⟨yen s z t,λ_ e=>nomatch e⟩
 |int i =>
  obtain⟨t,rfl⟩:=r;cases (show T="int" from ty);exact⟨typeIs_int s i t,λ_ e=>nomatch e⟩
 |ref p =>
  cases r
  rcases ty with ⟨rfl,xs,hq⟩|⟨rfl,o,hk,hc,hd⟩|⟨rfl,hk⟩|⟨rfl,S,n,hk⟩
  .obtain⟨its,_,pl,_⟩:=I.list hq;refine⟨pl.isList.typeIs,λa e=>?_⟩
   cases e;obtain⟨o,n,e,c,hd,_⟩:=pl;exact⟨o,e,hd⟩
  .refine⟨⟨o,I.kIn p o hk,hc⟩,λa e=>?_⟩
   cases e;exact⟨o,I.kIn _ o hk,hd⟩
  .have z:∃o,s.heap.get? p=some o/\o.ExactDict:=by
    rcases hk with ⟨kvs,hk⟩|⟨kvs,hk⟩
    .obtain⟨_,_,_,_,o,_,_,e,ex,_⟩:=I.hok p _ hk;exact⟨o,e,ex⟩
    .obtain⟨_,_,_,_,o,_,_,e,ex,_⟩:=I.hok p _ hk;exact⟨o,e,ex⟩
   obtain⟨o,e,ex⟩:=z;refine⟨⟨o,e,ex.1⟩,λa e2=>?_⟩
   cases e2;exact⟨o,e,ex.2.1⟩
  .obtain⟨o,_,_,_,e,ex,_⟩:=I.hok p _ hk;refine⟨⟨o,e,ex.1⟩,λa e2=>?_⟩
   cases e2;exact⟨o,e,ex.2.1⟩
 |_=>exact False.elim ty
def tBM0(K:kA)(T:String)(r:V->List V->Hp->VK->Prop)(to:TE):TE:=λσ H Q=>to σ H λx H1=>Lb K T x H1/\r x [] H1 Q
def tBM(K:kA)(T:String)(r:V->List V->Hp->VK->Prop)(to:TE)(t:TA):TE:=λσ H Q=>to σ H λx H1=>Lb K T x H1/\t σ H1 λxs H2=>r x xs H2 Q
variable {o e:Expr}{es:List Expr}{to:TE}{t:TA}{name:Str}{apos cpos:Pos}{T id:String}{r:V->List V->Hp->VK->Prop}
theorem zk6(pa:PlainAttrs T)(slot:Slot T name id)(hty:typeOf (.builtin id)=pure (.type "method_descriptor"))(hm:H9 X id r)(ho:PE X o to)
  (hbase:attributeBase o name X.env (eval o X.env)=eval o X.env:=by rfl) (hline:(apos.endLine == cpos.line)=true:=by rfl):PE X (.Call (.Attribute o name apos) [] [] cpos) (tBM0 X.K T r to):=by
 intro pins s σ H Q I h;refine yeq hbase hline (AR (ho pins s σ H _ I h) λv s1 ⟨x,H1,I1,r1,ty,q1⟩=>?_)
 obtain⟨h1,h2⟩:=PK I1 r1 ty;exact⟨T,id,pa,slot,hty,h1,h2,ycc rfl (ydw (hm pins s1 σ H1 x [] v [] Q I1 r1 .nil q1))⟩
theorem Qf(pa:PlainAttrs T)(slot:Slot T name id)(hty:typeOf (.builtin id)=pure (.type "method_descriptor"))(hm:H9 X id r)(ho:PE X o to)(ha:PA X (e::es) t)
  (hbase:attributeBase o name X.env (eval o X.env)=eval o X.env:=by rfl)
  (hfew : ((backTo cpos (starEach (e :: es) X.env)).all (fun x => !x.1) && (backToKw cpos (keywordEach [] X.env)).all (fun x => x.1.isSome)
   && decide ((e::es).length+([]:List Keyword).length+(if ([]:List Keyword).isEmpty then 0 else 1)<30))=true:=by rfl)
  (hline:(apos.endLine == cpos.line)=true:=by rfl) (hs:starEach (e::es) X.env=(false,eval e X.env)::starEach es X.env:=by rfl) (hplain:(backTo cpos (starEach es X.env)).any (·.1)=false:=by rfl) :
  PE X (.Call (.Attribute o name apos) (e::es) [] cpos) (tBM X.K T r to t):=by
 intro pins s σ H Q I h;refine wpAny_Call_method_late hbase hfew hline rfl (AR (ho pins s σ H _ I h) λv s1 ⟨x,H1,I1,r1,ty,q1⟩=>?_)
 obtain⟨h1,h2⟩:=PK I1 r1 ty;refine⟨T,id,pa,slot,hty,h1,h2,?_⟩;have hA:=ha cpos pins s1 σ H1 _ I1 q1;rw[hs]at hA ⊢;refine ycc (by show(false || (backTo cpos (starEach es X.env)).any (·.1))=false;rw[hplain]<;>rfl) (Calls.evalArgs_plain ?_)
 exact AR hA λus s2 ⟨vs,H2,I2,r2,q2⟩=>hm pins s2 σ H2 x vs v us Q I2 r1 r2 q2
end
def Om(X:Cx)(id:String)(r:V->List V->Hp->VK->Prop):Prop :=
 ∀(pins:List (Addr×Obj)) (s:Shared) (σ:St) (H:Hp) (x:V) (xs:List V) (v:Value) (us:List Value) (Q:VK),Inv X pins σ H s->RelV x v->AU xs us->r x xs H Q ->
  wpAny (model X.prog X.w) X.A (call (.builtin id) (v::us)) (EP X pins σ Q) X.xe s
theorem AU.one:∀{x:V} {us:List Value},AU [x] us->∃u,us=[u]/\RelV x u
 |_,_,.cons r .nil=>⟨_,rfl,r⟩
theorem AU.two:∀{x y:V} {us:List Value},AU [x,y] us->∃u v,us=[u,v]/\RelV x u/\RelV y v
 |_,_,_,.cons r (.cons q .nil)=>⟨_,_,rfl,r,q⟩
theorem AU.zero:∀{us:List Value},AU [] us->us=[]
 |_,.nil=>rfl
theorem AU.dropLast{xs:List V}{us:List Value}(h:AU xs us):AU xs.dropLast us.dropLast:=by
 induction h with
 |nil=>exact .nil
 |cons r t ih =>
  cases t with
  |nil=>exact .nil
  |cons q t'=>exact .cons r ih
theorem AU.rep{xs:List V}{us:List Value}(h:AU xs us):∀k:Nat,AU (List.replicate k xs).flatten (List.replicate k us).flatten
 |0=>.nil
 |k+1=>by
  rw[ybr,ybr,yc2,yc2];exact AU.append h (AU.rep h k)
theorem Tw(its:List Value):∀(k:Nat) (acc:List Value),
  List.foldl (λx1 x2=>x1++x2) acc.toArray (List.replicate k its.toArray)=(acc++(List.replicate k its).flatten).toArray
 |0,acc=>by simp
 |k+1,acc=>by
  have e:acc.toArray++its.toArray=(acc++its).toArray:=by simp
  have e2:(acc++its)++(List.replicate k its).flatten=acc++(List.replicate (k+1) its).flatten:=by
   rw[ybr,yc2,List.append_assoc]
  rw[<- e2,<- Tw its k (acc++its),<- e,ybr,List.foldl_cons]
section
variable {X:Cx}{pins:List (Addr×Obj)}{σ:St}{H:Hp}{s:Shared}{l b:Addr}{xs ys zs:List V}
theorem Inv.lset{its its':List Value}{n:Nat}{f:Array Value->Array Value}{t':Nat}(I:Inv X pins σ H s)(hH:H l=some (.lst xs))
  (e:s.heap.get? l=some { cls:=.type "list",data:=.seq its.toArray n }) (hf:f its.toArray=its'.toArray) (hv:AU ys its') (hz:ys.length<=sizeLine) :
  Inv X pins σ (upd H l (.lst ys)) { s with heap:=s.heap.update l (Obj.mapSeq f),toks:=t' }:=by
 have q:=PySem.IsL.update e f;rw[hf]at q;refine I.write (x:=l) (e:=l) (by rw[hH];exact trivial) (.inl rfl) (λb' u hb hu=>(ybd s.heap (Obj.mapSeq f) (yb1 hb)).trans hu) ⟨_,q⟩ ?_
 exact⟨hz,its',_,hv,q⟩
theorem Inv.lnew{its:List Value}{t':Nat}(I:Inv X pins σ H s)(hv:AU ys its)(hz:ys.length<=sizeLine) :
  Inv X pins σ (upd H s.heap.objs.size (.lst ys)) { s with heap:=s.heap.push { cls:=.type "list",data:=.seq its.toArray },toks:=t' } :=
 I.laid (λ_ _ q=>ya4 _ q) (yaa _) ⟨hz,its,0,hv,yag _ rfl⟩
theorem Inv.fresh(I:Inv X pins σ H s):H s.heap.objs.size=none:=I.hok.fresh (yaa _)
theorem Inv.lstM(I:Inv X pins σ H s)(hH:H l=some (.lst xs)):xs.length<=sizeLine/\∃(its:List Value) (n:Nat),AU xs its/\xs.length=its.length/\s.heap.get? l=some { cls:=.type "list",data:=.seq its.toArray n }:=by
 obtain⟨z,its,n,r,e⟩:=I.hok l _ hH;exact⟨z,its,n,r,r.length,e⟩
theorem zf2{n:Nat}(h:n<=sizeLine):Builtin.List.listTooLong n=false:=by
 unfold Builtin.List.listTooLong;exact ye8 (by omega)
end
section
variable {X:Cx}
def zgp:V->List V->Hp->VK->Prop:=λx vs H Q=>∃l xs y,x=.ref l/\vs=[y]/\H l=some (.lst xs)/\xs.length<sizeLine/\Q .non (upd H l (.lst (xs++[y])))
theorem zd6:Om X "list.append" zgp:=by
 intro pins s σ H x vs v us Q I rx rv h;obtain⟨l,xs,y,rfl,rfl,hH,hz,q⟩:=h;cases rx;obtain⟨u,rfl,ru⟩:=rv.one;obtain⟨z,its,n,r,hl,e⟩:=I.lstM hH;refine call_meets F.slot_list_append ⟨_,e,rfl⟩ F.entry_list_append (F.args_list_append_2 _ _) (PySem.list_append l its.toArray n u (by rw[yai];omega)) ⟨e,?_⟩
 refine⟨.non,_,I.lset (its':=its++[u]) hH e (by simp) (r.append (.cons ru .nil)) ?_,rfl,q⟩
 rw[yad,ybk]
 omega
def rCat:R2:=λx y H Q=>∃l b xs zs,x=.ref l/\y=.ref b/\H l=some (.lst xs)/\H b=some (.lst zs)/\xs.length+zs.length<=sizeLine/\∀p,H p=none->Q (.ref p) (upd H p (.lst (xs++zs)))
theorem zkf:A3 X (binaryOp .Add) rCat:=by
 intro pins s σ H x y v u Q I rx ry h;obtain⟨l,b,xs,zs,rfl,rfl,hH,hB,hz,q⟩:=h;cases rx;cases ry;obtain⟨z,its,n,r,hl,e⟩:=I.lstM hH;obtain⟨z2,its2,n2,r2,hl2,e2⟩:=I.lstM hB;refine PySem.P.add_list e e2 ?_ (by rw[yai,yai];omega)
 have ea:its.toArray++its2.toArray=(its++its2).toArray:=by simp
 rw[ea];exact⟨.ref _,_,I.lnew (t':=s.toks) (r.append r2) (by rw[yad];omega),rfl,q _ I.fresh⟩
def rRep:R2:=λx y H Q=>∃l k xs,x=.ref l/\y=.int k/\H l=some (.lst xs)/\-(2 ^ 63)<=k/\k<2 ^ 63/\xs.length * k.toNat<=sizeLine /\
 ∀p,H p=none->Q (.ref p) (upd H p (.lst (List.replicate k.toNat xs).flatten))
theorem zhw{α:Type}(xs:List α)(k:Nat):(List.replicate k xs).flatten.length=k * xs.length:=by
 induction k with
 |zero=>simp
 |succ k ih=>rw[ybr,yc2,yad,ih,Nat.succ_mul,Nat.add_comm]
theorem zkb:A3 X (binaryOp .Mult) rRep:=by
 intro pins s σ H x y v u Q I rx ry h;obtain⟨l,k,xs,rfl,rfl,hH,h1,h2,hz,q⟩:=h;cases rx;obtain⟨t,rfl⟩:=ry;obtain⟨z,its,n,r,hl,e⟩:=I.lstM hH;have hlen:its.toArray.size * k.toNat<=sizeLine:=by rw[yai,<- hl];exact hz
 have hcap:¬ its.toArray.size * k.toNat > (2 ^ 63 - 1) / 8:=by
  have:(sizeLine:Nat)<=(2 ^ 63 - 1) / 8:=by decide
  omega
 have hfit:¬ (!Builtin.List.listFitsIndex k)=true:=by
  rw[fitsIndex_both h1 h2];exact ybc
 have hlong:¬ Builtin.List.listTooLong (its.toArray.size * k.toNat)=true:=by
  rw[zf2 hlen];exact ybc
 have hnew:List.foldl (λx1 x2=>x1++x2) #[] (List.replicate (if its.toArray.isEmpty=true then 0 else k.toNat) its.toArray)=(List.replicate k.toNat its).flatten.toArray:=by
  have f0:∀m:Nat,List.foldl (λx1 x2=>x1++x2) #[] (List.replicate m its.toArray)=(List.replicate m its).flatten.toArray:=λm=>by
   have:=Tw its m [];rw[ycs]at this;exact this
  rw[f0];cases its with
  |nil=>simp
  |cons a r'=>rw[if_neg (by simp)]
 refine wpAny_binaryOp_repeat_ref (T:="list") (U:="int") (by decide) ⟨_,e,rfl⟩ (λs'=>typeIs_int s' k t) noFill_list_mul F.fills_int_mul F.slot_int_rmul repeat_list F.slot_int_index.lookup
  (call_meets F.slot_int_rmul (typeIs_int s k t) F.entry_int_rmul (F.args_int_rmul_2 _ _) (int___rmul___int_list k t l its.toArray n)
   ⟨e,rfl,⟨_,e,rfl⟩,call_meets F.slot_list_mul ⟨_,e,rfl⟩ F.entry_list_mul (F.args_list_mul_2 _ _) (AutoListH.list___mul___list_int_3 l its.toArray n k t hfit hcap hlong) ⟨e,?_⟩⟩)
 rw[hnew];exact⟨.ref _,_,I.lnew (t':=s.toks) (r.rep k.toNat) (by rw[zhw,Nat.mul_comm];exact hz),rfl,q _ I.fresh⟩
end
section
variable {prog:Program}{w:World}{A:Around}{E:Value->Shared->Prop}{s:Shared}
end
section
variable {X:Cx}
end
end L2
namespace Att
open PySem PySem.W PySem.Calls PyProof.Rows
theorem zad{P:Params}{h:Heap}:∀(ns:List Int) (vs:List Value),WellAll P h vs (ns.map WData.int)->IntsAre vs ns:=by
 intro ns
 induction ns with
 |nil =>
  intro vs w;rw[ydo]at w;cases w;exact .nil
 |cons n ns ih =>
  intro vs w;rw[yau]at w;cases w with
  |cons a b =>
   cases a;exact .cons _ _ (ih _ b)
theorem zct{l:OpenLaw}{n:Nat}(hn:l.most=some n){P:Params}{h:Heap}{args:List WData}{vals:List Value}
  (hpre:l.row.toRowW.claim.pre args=true) (hwl:WellAll P h vals args) :
  ∃a vs ns,vals=[Value.ref a]/\args=[WData.list (ns.map WData.int)]/\h.get? a=some { cls:=.type "list",data:=.seq vs.toArray }/\IntsAre vs ns/\ns.length<=n:=by
 have hsh:WShape.hasAll [] args [.list .int]=true:=(pre_splitW hpre).1;have hc:l.pre.holds [] { args:=args }=true:=(pre_splitW hpre).2;obtain⟨d,r,rfl,h1,h2⟩:=hasAllW_cons hsh;obtain rfl:=hasAllW_nil h2;obtain⟨xs,rfl,h3⟩:=hasW_list h1;obtain⟨ns,rfl⟩:=items_int h3
 have hlen:ns.length<=n:=by
  unfold OpenLaw.pre at hc
  have h4:(WTm.not (.lt (.lit (.int (n:Int))) (.len (.arg 0)))).holds [] { args:=[.list (ns.map .int)] }=true:=by
   have h4:=(holds_andW hc).1;rw[hn]at h4;exact h4
  have h5:=condW_of h4 (w_not (w_lt w_lit (w_len_list (w_arg rfl))));rw[ya5]at h5;refine Nat.le_of_not_lt λq=>?_
  have q':(n:Int)<((ns.length:Nat):Int):=by omega
  first
   |(rw[yer q']at h5;exact absurd h5 (by decide))
   |(simp at h5;omega)
 cases hwl with
 |cons w1 w2 =>
  cases w2;cases w1 with
  |list ho hall=>exact⟨_,_,ns,rfl,rfl,ho,zad ns _ hall,hlen⟩
theorem zcy(l:OpenLaw)(args:List WData):l.row.toRowW.claim.post args (.bool true) args=true :=
 postW_of (r:=l.row.toRowW) (X:=(true == true))
  (show WShape.has [] (.bool true) .bool=true by first|rfl|decide|simp[WShape.has,WShape.arms,WShape.armsAll])
  (show(WTm.eq .res (.lit (.bool true))).value [] { args:=args,res:=some (.bool true),after:=args }=some (.bool (true == true)) from w_eq_bool (w_res rfl) w_lit) rfl
theorem attach_call{l:OpenLaw}{n:Nat}{q:Program}{loose:List Str}{XP:(Str->Option Value)->Heap->Prop}{YP:World->Heap->Prop}{d:DefRec}
  (hn:l.most=some n) (hdf:d.params.defaults=[])
  (call : ∀ (w : World) (s₀ s₁ : Shared) (mg mb : Str -> Option Value) (fa : Addr) (o : Obj) (pm cd doc : Value) (a : Addr) (vs : List Value) (ns : List Int),
   Ground q loose [] XP w s₀ mg mb s₁.heap->YP w s₁.heap ->
   s₁.heap.get? fa=some o->o.data=.func (docDef d.name d.params d.body d.scope pm cd doc)->s₁.heap.CodeRec cd d.name->mg d.name=some (.ref fa) ->
   s₁.heap.get? a=some { cls:=.type "list",data:=.seq vs.toArray }->IntsAre vs ns->ns.length<=n->s₁.gens=#[] ->
   codeAny (model l.prog w) callerA (.call (.ref fa) ⟨[.ref a],[]⟩) (λr s'=>r=.ok (.ret (.bool true))/\OldK s₁.heap s'.heap/\s'.os=s₁.os/\AllBare s'.gens) s₁) :
  WalkO q loose XP YP l.row.toRowW d [] (λf vs=>PySem.call f vs):=by
 intro w s₀ s₁ mg mb G Y fa o pm cd doc dV kV ho hd hcd hD hmg hg args vals as hpre hlay hrd hwl hlo;obtain rfl:dV=.none:=Dflts.none hD hdf;obtain rfl:kV=.none:=Dflts.noKw hD;obtain⟨a,vs,ns,rfl,rfl,hobj,hints,hlen⟩:=zct hn hpre hwl;refine enter_call (yek (call w s₀ s₁ mg mb fa o pm cd doc a vs ns G Y ho (fd_plain hd) hcd hmg hobj hints hlen hg) λr s' hq=>?_)
 obtain⟨rfl,h2,h3,h4⟩:=hq;exact⟨.inl ⟨.bool true,.bool true,[],rfl,λ_=>rfl,.bool true,zcy l _,λ_=>⟨List.Pairwise.nil,λ_ hm=>(nomatch hm)⟩⟩,h2,h3,h4⟩
section
variable {prog:Program}{w:World}{A:Around}{E:Value->Shared->Prop}{s:Shared}{K:Frag}
end
end Att
namespace L2
open PySem PySem.Spec PyProof.Rows
theorem PF:∀{vs:List Value} {ns:List Int},IntsAre vs ns->AU (ns.map V.int) vs
 |_,_,.nil=>.nil
 |_,_,.cons n t h=>.cons ⟨t,rfl⟩ (PF h)
def Ol(H:Hp):Prop:=∀b,H b=none\/∃o xs,H b=some (.frz o (.lst xs))
theorem zfc{P:Program}{w:World}{K:kA}{mg mb:Str->Option Value}{CX:DN}{k:Nat}{fa a:Addr}{fd:FuncData}{x:Str}{sp:Sp}{s₁:Shared}{vs:List Value}{ns:List Int}
  (KX:K.In s₁.heap) (hns:s₁.heap.Ns mainGlobals mg) (hb:s₁.heap.Ns builtinsNs mb) (hbb:∀x:Str,x≠"__name__"->mb x=bootBuiltins x) (hlim:s₁.heap.NoLimit) (hg:s₁.gens=#[])
  (ha:s₁.heap.get? a=some { cls:=.type "list",data:=.seq vs.toArray }) (hi:IntsAre vs ns) (hl:ns.length<=sizeLine) (hr:Room k callerA)
  (F:∀base:Heap,K.In base->base.Ns mainGlobals mg->FnOk P w K mg base CX k fa fd [x] sp) (hbind:∀(s:Shared) (u:Value),BindsTo s fd ⟨[u],[]⟩ [(x,u)])
  (hsp:∀H:Hp,Ol H->Ag K H a (ns.map V.int)->sp [.ref a] H (λv _=>v=.bl true) λ_ _ _=>False)
  (hCX:∀H e s',CX [] H s₁ (λ_ _ _=>False) e s'->False) :
  codeAny (model P w) callerA (.call (.ref fa) ⟨[.ref a],[]⟩) (λr s'=>r=.ok (.ret (.bool true))/\OldK s₁.heap s'.heap/\s'.os=s₁.os/\AllBare s'.gens) s₁:=by
 have rv:=PF hi;have lenV:=hi.length
 have core:∀H:Hp,Ol H->Ag K H a (ns.map V.int)->HOk P w H s₁.heap->(∀b,H b≠none->b=a)->(H a≠none->K.lookup a=none) ->
   codeAny (model P w) callerA (.call (.ref fa) ⟨[.ref a],[]⟩) (λr s'=>r=.ok (.ret (.bool true))/\OldK s₁.heap s'.heap/\s'.os=s₁.os/\AllBare s'.gens) s₁:=by
  intro H hO hS hok hA hK;have base_of:∀{b:Addr} {o:Obj},s₁.heap.get? b=some o->H b=none->(FC s₁.heap H).get? b=some o:=λe n=>zff e n
  have noA:∀{b:Addr} {o:Obj} {es:Array DictEntry} {ep:Nat},s₁.heap.get? b=some o->o.data=.dict es ep->H b=none:=λ{b o es ep} e d=>by
   cases q:H b with
   |none=>rfl
   |some u =>
    have e':b=a:=hA b (by rw[q];simp)
    subst e';rw[ha]at e;cases e;have d':Data.seq vs.toArray _=Data.dict es ep:=d;cases d'
  have nsK:∀{b:Addr} {m:Str->Option Value},s₁.heap.Ns b m->(FC s₁.heap H).Ns b m:=λ{b m} ⟨o,es,ep,e,d,r⟩=>⟨o,es,ep,base_of e (noA e d),d,r⟩
  have hKb:K.In (FC s₁.heap H):=λb o e=>base_of (KX b o e) (by
   cases q:H b with
   |none=>rfl
   |some u =>
    have e':b=a:=hA b (by rw[q];simp)
    subst e';rw[hK (by rw[q];simp)]at e;cases e)
  have hM:Mod K mg (FC s₁.heap H):=⟨hKb,nsK hns,⟨mb,nsK hb,hbb⟩,let ⟨mc,h1,h2⟩:=hlim;⟨mc,nsK h1,h2⟩⟩;have e0:Env0 P w K mg (FC s₁.heap H) callerA [] s₁ H:=⟨rfl,hM,λb o e=>zhn e,Nat.le_of_eq (zdf _ _),trivial,λb hb=>absurd (show b∈([]:List Addr) from hb) (by simp),hok,.of_eq hg⟩
  refine yek ((F _ hKb (nsK hns)).run callerA [] s₁ H ⟨[.ref a],[]⟩ [.ref a] [.ref a] _ _ hr e0 (hbind s₁ (.ref a)) (.cons rfl .nil) (hsp H hO hS)) λr s' h=>?_
  cases r with
  |error e=>exact(hCX H e s' h).elim
  |ok fl =>
   cases fl with
   |next=>exact False.elim h
   |brk=>exact False.elim h
   |cont=>exact False.elim h
   |ret u =>
    obtain⟨v,H',os,bare,un,hok',r',q⟩:=h;have q':v=.bl true:=q;subst q';obtain rfl:u=Value.bool true:=r';refine⟨rfl,OldK.of_keep λb o e=>?_,os,bare⟩
    cases q:H b with
    |none=>exact un.keep b o e q (by intro z;exact absurd (show b∈([]:List Addr) from z) (by simp)) (by simp)
    |some u =>
     rcases hO b with z|⟨ob,xs,z⟩
     .rw[q]at z;cases z
     .have z2:=un.frzs b ob _ z;obtain⟨e1,_⟩:=hok b _ z;obtain⟨e2,_⟩:=hok' b _ z2;rw[e]at e1;cases e1;exact e2
 cases hk:K.lookup a with
 |some o =>
  have e:=KX a o hk;rw[ha]at e;cases e;refine core (λ_=>none) (λ_=>.inl rfl) (.inr ⟨_,vs.toArray,_,hk,rfl,rfl,rfl,by rw[yai,lenV];exact hl,by simpa using rv⟩) (λb u z=>by have z':(none:Option HO)=some u:=z;cases z') (λb z=>absurd rfl z) λz=>absurd rfl z
 |none =>
  refine core (λb=>if b=a then some (.frz { cls:=.type "list",data:=.seq vs.toArray } (.lst (ns.map V.int))) else none) (λb=>?_) (.inl (.inr ⟨{ cls:=.type "list",data:=.seq vs.toArray },if_pos rfl⟩)) (λb u z=>?_) (λb z=>?_) λ_=>hk
  .by_cases hb:b=a
   .exact .inr ⟨_,_,if_pos hb⟩
   .exact .inl (if_neg hb)
  .by_cases hb:b=a
   .have z':=(if_pos hb).symm.trans z;cases z';subst hb;exact⟨ha,by rw[ya5];exact hl,vs,_,rv,ha⟩
   .have z':=(if_neg hb).symm.trans z;cases z'
  .by_cases hb:b=a
   .exact hb
   .exact absurd (if_neg hb) z
theorem walk_of{l:PySem.W.OpenLaw}{n k:Nat}{q:Program}{loose:List Str}{XP:(Str->Option Value)->Heap->Prop}{YP:World->Heap->Prop}{d:DefRec}{K:Params->kA}{CX:World->DN}{sp:World->Sp}{x:Str}
  (hn:l.most=some n) (hn2:n<=sizeLine) (hdf:d.params.defaults=[]) (hr:Room k callerA)
  (hY:∀(w:World) (h:Heap),YP w h->(K w.params).In h)
  (F : ∀ (w : World) (mg : Str -> Option Value) (fa : Addr) (h : Heap), (K w.params).In h -> h.Ns mainGlobals mg -> mg d.name = some (.ref fa) ->
   ∃fd:FuncData,(∀(s:Shared) (u:Value),BindsTo s fd ⟨[u],[]⟩ [(x,u)]) /\
    ∀base:Heap,(K w.params).In base->base.Ns mainGlobals mg->FnOk l.prog w (K w.params) mg base (CX w) k fa fd [x] (sp w))
  (hsp:∀(w:World) (H:Hp) (a:Addr) (ns:List Int),ns.length<=n->Ol H->Ag (K w.params) H a (ns.map V.int)->sp w [.ref a] H (λv _=>v=.bl true) λ_ _ _=>False)
  (hCX:∀(w:World) (H:Hp) (s:Shared) (e:Value) (s':Shared),CX w [] H s (λ_ _ _=>False) e s'->False) :
  PySem.W.WalkO q loose XP YP l.row.toRowW d [] (λf vs=>PySem.call f vs):=by
 refine Att.attach_call hn hdf λw s₀ s₁ mg mb fa o pm cd doc a vs ns G Y ho hd hcd hmg hobj hints hlen hg=>?_
 have KX:=hY w _ Y;obtain⟨fd,hb,hF⟩:=F w mg fa _ KX G.T.g hmg;exact zfc KX G.T.g G.T.b G.T.builtins G.T.nolimit hg hobj hints (yap hlen hn2) hr hF hb (λH hO hS=>hsp w H a ns hlen hO hS) λH e s'=>hCX w H s₁ e s'
def Fi(s:Stmt):Arguments:=match s with
 |.FunctionDef _ a _ _ _ _ _ _ _ _=>a
 |_=>{ posonlyargs:=[],args:=[],vararg:=none,kwonlyargs:=[],kw_defaults:=[],kwarg:=none,defaults:=[] }
def Ao(s:Stmt):List Stmt:=match s with
 |.FunctionDef _ _ b _ _ _ _ _ _ _=>b
 |_=>[]
noncomputable def AO(s:Stmt):Scope:=match s with
 |.FunctionDef _ _ _ _ _ _ sc _ _ _=>sc
 |_=>{ kind:=.function,names:=[],isGenerator:=false,isCoroutine:=false }
abbrev Df:DN:=λ_ _ _ _ _ _=>False
abbrev E0:XK:=λ_ _ _=>False
theorem pass0{X:Cx}:Oj Df X E0:=λ_ _ _ _ _ _ _ h=>h.elim
structure Fun(K:kA)(x qual:Str)(st:Stmt)(f:Addr)(fd:FuncData):Prop where
 ex:∃(oc:Value) (od:Option Addr) (kV doc pm:Value) (an:Option Addr) (cdv ct:Value) (osl:Array (Option Value)),
  fd=PySem.W.fnOf x qual (Fi st) (Ao st) (AO st) .none kV doc pm an cdv ct/\K.lookup f=some ⟨oc,od,.func fd,osl⟩/\PySem.W.codeIn K cdv qual=true
 kp:PySem.W.keepIn K (.ref f)=true
section
variable {P:Program}{w:World}{K:kA}{mg:Str->Option Value}{base:Heap}
theorem Fun.ok{x qual:Str}{st:Stmt}{f:Addr}{fd:FuncData}{N ps:List Str}{k:Nat}{sp:Sp}(F:Fun K x qual st f fd)(S:FnScope N ps (AO st))(len:∀vs H Q E,sp vs H Q E->vs.length=ps.length)
  (hbody : ∀ (cdv : Value) (A : Around) (outer : List Env) (s : Shared) (H : Hp) (vs : List V) (Q : VK) (E : XK), Room k (A.deeper (envOfC qual (AO st) s.heap.objs.size f cdv)) -> sp vs H Q E ->
   ∃t,BD (DK Df P w K mg base N qual (AO st) f cdv A outer s H E).nox (Ao st) t/\t { nx:=λ_ H'=>Q .non H',rt:=Q } (start N vs) H):FnOk P w K mg base Df (k+1) f fd ps sp:=by
 obtain⟨oc,od,kV,doc,pm,an,cdv,ct,osl,rfl,lk,hcd⟩:=F.ex;refine Nb lk hcd S len λA outer s H vs Q E hr hsp=>?_
 obtain⟨t,h,q⟩:=hbody cdv A outer s H vs Q E hr hsp;exact⟨t,h.nox,q⟩
theorem Fun.binds{x qual:Str}{st:Stmt}{f:Addr}{fd:FuncData}{ps:List Str}(F:Fun K x qual st f fd)
  (h:∀(kV doc pm:Value) (an:Option Addr) (cdv ct:Value) (us:List Value),us.length=ps.length->bindArgs (PySem.W.fnOf x qual (Fi st) (Ao st) (AO st) .none kV doc pm an cdv ct) ⟨us,[]⟩=pure (ps.zip us)):C8 K fd ps []:=by
 obtain⟨oc,od,kV,doc,pm,an,cdv,ct,osl,rfl,lk,hcd⟩:=F.ex;exact .all (h kV doc pm an cdv ct)
end
theorem zcr{n:Nat}(h:n<=1000):n<sizeLine:=Nat.lt_of_le_of_lt h (by decide)
section
variable {X:Cx}
theorem pv(i:Nat){x:Str}{pos:Pos}(hN:X.N[i]?=some x:=by rfl)(hv:DM X.env.scope x:=by first|exact Or.inl rfl|exact Or.inr (Or.inl rfl)|exact Or.inr (Or.inr rfl))(hd:(x == ("__debug__":Str))=false:=by decide)
  (hcd:(x == ("__classdict__":Str))=false:=by decide):PE X (.Name x pos) (Hg i):=Gs hN hv hd hcd
end
theorem K2{A B:Prop}(h:B):if false=true then A else B:=by
 rw[if_neg ybc];exact h
theorem K1{A B:Prop}(h:A):if true=true then A else B:=by
 rw[if_pos rfl];exact h
def AY(H H':Hp):Prop:=∀b o,H b=some o->H' b=some o
theorem AY.refl(H:Hp):AY H H:=λ_ _ h=>h
theorem AY.trans{H H1 H2:Hp}(a:AY H H1)(b:AY H1 H2):AY H H2:=λc o h=>b c o (a c o h)
theorem AY.free{H H':Hp}(e:AY H H'){l:Addr}(h:H' l=Option.none):H l=Option.none:=by
 cases q:H l with
 |none=>rfl
 |some o =>
  rw[e l o q]at h;cases h
theorem AY.seq{K:kA}{H H':Hp}{a:Addr}{xs:List V}(e:AY H H')(h:Ag K H a xs):Ag K H' a xs:=by
 rcases h with (h|⟨o,h⟩)|h
 .exact .inl (.inl (e _ _ h))
 .exact .inl (.inr ⟨o,e _ _ h⟩)
 .exact .inr h
section
variable {κ:Type} [DecidableEq κ]
noncomputable def Dg(kvs:List (κ×V))(k:κ):Option V:=(kvs.find? λkv=>decide (kv.1=k)).map (·.2)
noncomputable def Cb(kvs:List (κ×V))(k:κ)(v:V):List (κ×V) :=
 if (kvs.any λkv=>decide (kv.1=k))=true then kvs.map (λkv=>if kv.1=k then (kv.1,v) else kv) else kvs++[(k,v)]
def UL(kvs:List (κ×V))(k:κ):List (κ×V):=kvs.filter λkv=>decide (kv.1≠k)
theorem L7{p:κ×V}{r:List (κ×V)}{k:κ}(e:p.1=k):Dg (p::r) k=some p.2:=by simp[Dg,yca,e]
theorem L8{p:κ×V}{r:List (κ×V)}{k:κ}(e:¬ p.1=k):Dg (p::r) k=Dg r k:=by simp[Dg,yca,e]
theorem PH(k:κ):∀kvs:List (κ×V),(kvs.any λkv=>decide (kv.1=k))=(Dg kvs k).isSome
 |[]=>rfl
 |p::r=>by
  rw[ydd]
  by_cases e:p.1=k
  .simp only[L7 e,yer e,ydp,Option.isSome_some]
  .rw[L8 e,ye8 e,ycm];exact PH k r
theorem S6(kvs:List (κ×V))(k:κ)(v:V):(Cb kvs k v).length<=kvs.length+1:=by
 unfold Cb;split
 .rw[ya5];omega
 .rw[yad,yaq,ydq];omega
theorem Cv.isSome_eq{o:Option V}{u:Option Value}(r:Cv o u):o.isSome=u.isSome:=by
 cases o with
 |none=>cases u with
  |none=>rfl
  |some _=>exact(show False from r).elim
 |some _=>cases u with
  |none=>exact(show False from r).elim
  |some _=>rfl
theorem Cv.getD{o:Option V}{u:Option Value}{d:V}{d':Value}(r:Cv o u)(rd:RelV d d'):RelV (o.getD d) (u.getD d'):=by
 cases o with
 |none=>cases u with
  |none=>exact rd
  |some _=>exact(show False from r).elim
 |some _=>cases u with
  |none=>exact(show False from r).elim
  |some _=>exact r
theorem KV.val{kvs:List (κ×V)}{vs:List (κ×Value)}(r:KV kvs vs)(k:κ):Cv (Dg kvs k) (valueAt vs k):=by
 unfold KV at r
 induction r with
 |nil=>exact True.intro
 |@cons p q ps qs h t ih =>
  obtain⟨h1,h2⟩:=h
  by_cases e:p.1=k
  .have e':q.1=k:=h1.symm.trans e;have b:valueAt (q::qs) k=some q.2:=by simp[valueAt,yca,e']
   rw[L7 e,b];exact h2
  .have e':¬ q.1=k:=λz=>e (h1.trans z)
   have b:valueAt (q::qs) k=valueAt qs k:=by simp[valueAt,yca,e']
   rw[L8 e,b];exact ih
theorem KV.any{kvs:List (κ×V)}{vs:List (κ×Value)}(r:KV kvs vs)(k:κ):(kvs.any λkv=>decide (kv.1=k))=vs.any λkv=>decide (kv.1=k):=by
 unfold KV at r
 induction r with
 |nil=>rfl
 |cons h t ih=>rw[ydd,ydd,ih,h.1]
theorem KV.repl{kvs:List (κ×V)}{vs:List (κ×Value)}(r:KV kvs vs)(k:κ){y:V}{u:Value}(ry:RelV y u) :
  KV (kvs.map λkv=>if kv.1=k then (kv.1,y) else kv) (vs.map λkv=>if kv.1=k then (kv.1,u) else kv):=by
 unfold KV at r ⊢
 induction r with
 |nil=>exact .nil
 |@cons p q ps qs h t ih =>
  rw[yau,yau];refine .cons ?_ ih;obtain⟨h1,h2⟩:=h
  by_cases e:p.1=k
  .rw[if_pos e,if_pos (h1.symm.trans e)];exact⟨h1,ry⟩
  .rw[if_neg e,if_neg (λz=>e (h1.trans z))];exact⟨h1,h2⟩
theorem KV.put{kvs:List (κ×V)}{vs:List (κ×Value)}(r:KV kvs vs)(k:κ){y:V}{u:Value}(ry:RelV y u):KV (Cb kvs k y) (stored vs k u):=by
 unfold Cb stored;rw[r.any k]
 by_cases e:(vs.any λkv=>decide (kv.1=k))=true
 .rw[if_pos e,if_pos e];exact r.repl k ry
 .rw[if_neg e,if_neg e];exact Paired.snoc r ⟨rfl,ry⟩
theorem KV.drop{kvs:List (κ×V)}{vs:List (κ×Value)}(r:KV kvs vs)(k:κ):KV (UL kvs k) (without vs k):=by
 unfold KV at r ⊢;unfold UL without
 induction r with
 |nil=>exact .nil
 |@cons p q ps qs h t ih =>
  obtain⟨h1,h2⟩:=h;rw[List.filter_cons,List.filter_cons]
  by_cases e:p.1=k
  .have a:¬ decide (p.1≠k)=true:=by simp[e]
   have b:¬ decide (q.1≠k)=true:=by simp[h1.symm.trans e]
   rw[if_neg a,if_neg b];exact ih
  .have e':¬ q.1=k:=λz=>e (h1.trans z)
   have a:decide (p.1≠k)=true:=by simp[e]
   have b:decide (q.1≠k)=true:=by simp[e']
   rw[if_pos a,if_pos b];exact .cons ⟨h1,h2⟩ ih
theorem KV.keys{kvs:List (κ×V)}{vs:List (κ×Value)}(r:KV kvs vs):kvs.map (·.1)=vs.map (·.1):=by
 unfold KV at r
 induction r with
 |nil=>rfl
 |cons h t ih=>rw[yau,yau,ih,h.1]
theorem KV.length{kvs:List (κ×V)}{vs:List (κ×Value)}(r:KV kvs vs):kvs.length=vs.length:=ye1 r
end
theorem NN{P:Program}{w:World}{k:Key}{u:Value}(r:RelV (kV k) u):(Bi P w).is k u=true:=by
 cases k with
 |inl i=>obtain⟨t,e⟩:=(show ∃t,u=Value.int i t from r);subst e;exact zbk P w i t
 |inr x=>obtain⟨t,e⟩:=(show ∃t,u=Value.str x t from r);subst e;exact zbj P w x t
theorem Ss{P:Program}{w:World}:∀{ks:List Key} {us:List Value},AU (ks.map kV) us->ItemsAre (Bi P w) ks us
 |[],_,r=>by rw[ydo]at r;cases r;exact .nil
 |k::ks,_,r=>by
  rw[yau]at r;cases r with
  |cons h t=>exact .cons (NN h) (Ss t)
abbrev KT(H:Hp):List (List Key×V)->List (List Key×Addr×Value)->Prop:=Paired λp q=>p.1=q.1/\H q.2.1=some (.tup (p.1.map kV))/\RelV p.2 q.2.2
theorem KT.val{H:Hp}{kvs:List (List Key×V)}{xs:List (List Key×Addr×Value)}(r:KT H kvs xs)(k:List Key):Cv (Dg kvs k) ((atKey xs k).map (·.2)):=by
 induction r with
 |nil=>exact True.intro
 |@cons p q ps qs h t ih =>
  obtain⟨h1,_,h2⟩:=h
  by_cases e:p.1=k
  .have e':q.1=k:=h1.symm.trans e;have b:atKey (q::qs) k=some q.2:=by simp[atKey,yca,e']
   rw[L7 e,b];exact h2
  .have e':¬ q.1=k:=λz=>e (h1.trans z)
   have b:atKey (q::qs) k=atKey qs k:=by simp[atKey,yca,e']
   rw[L8 e,b];exact ih
theorem KT.repl{H:Hp}{kvs:List (List Key×V)}{xs:List (List Key×Addr×Value)}(r:KT H kvs xs)(k:List Key){y:V}{u:Value}(ry:RelV y u) :
  KT H (kvs.map λkv=>if kv.1=k then (kv.1,y) else kv) (xs.map (putAt k u)):=by
 induction r with
 |nil=>exact .nil
 |@cons p q ps qs h t ih =>
  rw[yau,yau];refine .cons ?_ ih;obtain⟨h1,h2,h3⟩:=h;unfold putAt
  by_cases e:p.1=k
  .rw[if_pos e,if_pos (h1.symm.trans e)];exact⟨h1,h2,ry⟩
  .rw[if_neg e,if_neg (λz=>e (h1.trans z))];exact⟨h1,h2,h3⟩
theorem KT.put{H:Hp}{kvs:List (List Key×V)}{xs:List (List Key×Addr×Value)}(r:KT H kvs xs)(k:List Key){b:Addr}{y:V}{u:Value}(hb:H b=some (.tup (k.map kV)))(ry:RelV y u) :
  KT H (Cb kvs k y) (storedH xs k b u):=by
 have e:(kvs.any λkv=>decide (kv.1=k))=(atKey xs k).isSome:=by
  rw[PH,(r.val k).isSome_eq,Option.isSome_map]
 unfold Cb storedH;rw[e]
 by_cases q:(atKey xs k).isSome=true
 .rw[if_pos q,if_pos q];exact r.repl k ry
 .rw[if_neg q,if_neg q];exact Paired.snoc r ⟨rfl,hb,ry⟩
theorem KT.keeps{H H':Hp}{kvs:List (List Key×V)}{xs:List (List Key×Addr×Value)}(r:KT H kvs xs)(ht:∀b ys,H b=some (.tup ys)->H' b=some (.tup ys)):KT H' kvs xs :=
 Paired.mapP r λ_ _ z=>⟨z.1,ht _ _ z.2.1,z.2.2⟩
section
variable {P:Program}{w:World}{H:Hp}{h:Heap}{a:Addr}
theorem QD{u:HO}(ok:HOk P w H h)(e:Rd H a u):BJ P w H h a u:=e.ok ok
theorem Nz{kvs:List (Key×V)}(ok:HOk P w H h)(e:Rd H a (.dK kvs)):kvs.length<=sizeLine/\(a == sysModules)=false/\∃vs,KV kvs vs/\h.DictOf (Bi P w) a vs :=
 show BJ P w H h a (.dK kvs) from QD ok e
theorem UM{kvs:List (Key×V)}(ok:HOk P w H h)(e:H a=some (.dK kvs)):kvs.length<=sizeLine/\(a == sysModules)=false/\∃vs,KV kvs vs/\h.DictOf (Bi P w) a vs:=Nz ok (.inl e)
theorem Sl{ks:List Key}(ok:HOk P w H h)(e:H a=some (.tup (ks.map kV))):(tupleKind (Bi P w)).is h ks a:=by
 obtain⟨_,its,r,o,h1,h2,n,h3⟩:=(show BJ P w H h a (.tup (ks.map kV)) from ok a _ e);exact⟨o,its.toArray,n,h1,h2,h3,by simpa using Ss r⟩
theorem dt_rd{kvs:List (List Key×V)}(ok:HOk P w H h)(e:Rd H a (.dT kvs)):kvs.length<=sizeLine/\(a == sysModules)=false /\
  ∃xs,KT H kvs xs/\h.DictOfH (tupleKind (Bi P w)) a xs:=by
 obtain⟨z,y,xs,r,o,es,ep,h1,h2,h3,h4,h5⟩:=(show BJ P w H h a (.dT kvs) from QD ok e);refine⟨z,y,xs,r,o,es,ep,h1,h2,h3,h4,λx hx=>?_,h5⟩
 have all:∀{l:List (List Key×V)} {m:List (List Key×Addr×Value)},KT H l m->∀x∈m,(tupleKind (Bi P w)).is h x.1 x.2.1:=by
  intro l m q
  induction q with
  |nil=>intro x hx;exact nomatch hx
  |@cons p q ps qs hq t ih =>
   intro x hx
   rcases(ya9.mp hx) with e|hx
   .subst e;exact Sl ok (by rw[<- hq.1];exact hq.2.1)
   .exact ih x hx
 exact all r x hx
theorem dt_of{kvs:List (List Key×V)}(ok:HOk P w H h)(e:H a=some (.dT kvs)):kvs.length<=sizeLine/\(a == sysModules)=false /\
  ∃xs,KT H kvs xs/\h.DictOfH (tupleKind (Bi P w)) a xs:=dt_rd ok (.inl e)
end
def LW(H:Hp)(a:Addr)(y:V)(r:Option V):Prop :=
 (∃kvs k,Rd H a (.dK kvs)/\y=kV k/\r=Dg kvs k)\/∃kvs k b,Rd H a (.dT kvs)/\y=.ref b/\H b=some (.tup (k.map kV))/\r=Dg kvs k
def Hb(H:Hp)(a:Addr)(y v:V)(H':Hp):Prop :=
 (∃kvs k,H a=some (.dK kvs)/\y=kV k/\kvs.length<sizeLine/\H'=upd H a (.dK (Cb kvs k v))) \/
 ∃kvs k b,H a=some (.dT kvs)/\y=.ref b/\H b=some (.tup (k.map kV))/\kvs.length<sizeLine/\H'=upd H a (.dT (Cb kvs k v))
theorem LW.k{H:Hp}{a:Addr}{kvs:List (Key×V)}{k:Key}(e:H a=some (.dK kvs)):LW H a (kV k) (Dg kvs k):=.inl ⟨kvs,k,.inl e,rfl,rfl⟩
theorem LW.t{H:Hp}{a b:Addr}{kvs:List (List Key×V)}{k:List Key}(e:H a=some (.dT kvs))(eb:H b=some (.tup (k.map kV))):LW H a (.ref b) (Dg kvs k):=.inr ⟨kvs,k,b,.inl e,rfl,eb,rfl⟩
theorem Hb.k{H:Hp}{a:Addr}{kvs:List (Key×V)}{k:Key}{v:V}(e:H a=some (.dK kvs))(hl:kvs.length<sizeLine):Hb H a (kV k) v (upd H a (.dK (Cb kvs k v))):=.inl ⟨kvs,k,e,rfl,hl,rfl⟩
theorem Hb.t{H:Hp}{a b:Addr}{kvs:List (List Key×V)}{k:List Key}{v:V}(e:H a=some (.dT kvs))(eb:H b=some (.tup (k.map kV)))(hl:kvs.length<sizeLine) :
  Hb H a (.ref b) v (upd H a (.dT (Cb kvs k v))):=.inr ⟨kvs,k,b,e,rfl,eb,hl,rfl⟩
section
variable {X:Cx}{pins:List (Addr×Obj)}{σ:St}{H:Hp}{s:Shared}{a:Addr}{y v:V}{u r:Value}{o:Option V}{A:Around}{E:Value->Shared->Prop}
theorem Inv.big(I:Inv X pins σ H s):sysModules<s.heap.objs.size:=by
 have h:mainGlobals<s.heap.objs.size:=(I.mod.glob.keeps I.bk).lt;exact ydj (by decide) h
theorem OB{h':Heap}{t':Nat}{ob:HO}(I:Inv X pins σ H s)(mu:JE (H a))(hs:Heap.SameBut a s.heap h')(he:∃q,h'.get? a=some q)(new:BJ X.prog X.w (upd H a ob) h' a ob) :
  Inv X pins σ (upd H a ob) { s with heap:=h',toks:=t' } :=
 I.write (x:=a) (e:=a) mu (.inl rfl) (λb q hb z=>(hs.2 b hb).trans z) he new
theorem UN{P:Program}{w:World}{H':Hp}{h':Heap}{kvs:List (Key×V)}{vs:List (Key×Value)}(z:kvs.length<=sizeLine)(hd:(a == sysModules)=false)(rel:KV kvs vs)(dd:h'.DictOf (Bi P w) a vs) :
  BJ P w H' h' a (.dK kvs):=⟨z,hd,vs,rel,dd⟩
theorem zdj{H':Hp}{Q:Unit->Shared->Prop}(hu:A.units+1<cLine)(I:Inv X pins σ H s)(g:Hb H a y v H')(ry:RelV y u)(rv:RelV v r)(h:∀s',Inv X pins σ H' s'->Q () s') :
  wpAny (model X.prog X.w) A (setItem (.ref a) u r) Q E s:=by
 rcases g with ⟨kvs,k,e,ey,l,eH⟩|⟨kvs,k,b,e,ey,eb,l,eH⟩
 .subst ey eH;obtain⟨z,hd,vs,rel,dd⟩:=UM I.hok e;have hz:vs.length<=sizeLine:=by rw[<- rel.length];exact z
  have hl:(Cb kvs k v).length<=sizeLine:=by have:=S6 kvs k v;omega
  refine wpAny_setItem_pairs (hsz:=hz) (NN ry) dd λh' dd' hs=>h _ ?_
  have he:∃q,h'.get? a=some q:=let ⟨q,_,_,hq,_⟩:=dd';⟨q,hq⟩;exact OB I (by rw[e];exact True.intro) hs he (UN hl hd (rel.put k rv) dd')
 .subst ey eH;cases (show u=Value.ref b from ry);obtain⟨z,hd,xs,rel,dd⟩:=dt_of I.hok e;have hz:xs.length<=sizeLine:=by rw[<- ye1 rel];exact z
  have hl:(Cb kvs k v).length<=sizeLine:=by have:=S6 kvs k v;omega
  refine wpAny_setItem_heap (hsz:=hz) (tupleKind_room_in1 hu) (Sl I.hok eb) dd λh' dd' hs=>h _ ?_
  obtain⟨q,es,ep,hq,h2,h3,h4,_,h5⟩:=dd';refine OB I (by rw[e];exact True.intro) hs ⟨q,hq⟩ ⟨hl,hd,_,(rel.put k eb rv).keeps λc ys ec=>?_,q,es,ep,hq,h2,h3,h4,h5⟩
  rw[Ad (ne_of ec e (λz=>nomatch z))]
  exact ec
end
section
variable {X:Cx}{pins:List (Addr×Obj)}{σ:St}{H:Hp}{s:Shared}{a:Addr}{kvs:List (Key×V)}{k:Key}{u:Value}{A:Around}{E:Value->Shared->Prop}
end
section
variable {X:Cx}{o i e value:Expr}{pos pos' tpos:Pos}{td ty tv:TE}
end
theorem OA{P:Program}{w:World}{H:Hp}(h:Heap)(hb:sysModules<h.objs.size):BJ P w H (h.push { cls:=.type "dict",data:=.dict #[] }) h.objs.size (.dK []) :=
 ⟨ybe _,beq_eq_false_iff_ne.mpr (yb1 (yaw hb)),[],.nil,Heap.DictOf.new h⟩
section
variable {X:Cx}{pos:Pos}
end
def Le:List (TE×TE)->St->Hp->(List (V×V)->Hp->Prop)->Prop
 |[],_,H,Q=>Q [] H
 |(tk,tv)::r,σ,H,Q=>tk σ H λx H1=>tv σ H1 λy H2=>Le r σ H2 λps H3=>Q ((x,y)::ps) H3
abbrev VV:List (V×V)->List (Value×Value)->Prop:=Paired λp q=>RelV p.1 q.1/\RelV p.2 q.2
def LP(X:Cx)(pos:Pos)(keys:List (Option Expr))(values:List Expr)(trs:List (TE×TE)):Prop :=
 ∀(pins:List (Addr×Obj)) (s:Shared) (σ:St) (H:Hp) (Q:List (V×V)->Hp->Prop),Inv X pins σ H s->Le trs σ H Q ->
  wpAny (model X.prog X.w) X.A (evalPairs (pairTrees keys values X.env pos)) (λvs s'=>∃ps H',Inv X pins σ H' s'/\VV ps vs/\Q ps H') X.xe s
theorem zgx{X:Cx}{pos:Pos}:LP X pos [] [] []:=λpins s σ H Q I h=>pairTrees_nil_walk ⟨[],H,I,.nil,h⟩
theorem zeq{X:Cx}{pos:Pos}{k v:Expr}{ks:List (Option Expr)}{vs:List Expr}{tk tv:TE}{trs:List (TE×TE)}(hk:PE X k tk)(hv:PE X v tv)(hr:LP X pos ks vs trs) :
  LP X pos (some k::ks) (v::vs) ((tk,tv)::trs):=λpins s σ H Q I h =>
 pairTrees_cons_walk (AR (hk pins s σ H _ I h) λu s1 ⟨x,H1,I1,rx,q1⟩=>AR (hv pins s1 σ H1 _ I1 q1) λw2 s2 ⟨y,H2,I2,ry,q2⟩ =>
  AR (hr pins s2 σ H2 _ I2 q2) λws s3 ⟨ps,H3,I3,rel,q3⟩=>⟨(x,y)::ps,H3,I3,.cons ⟨rx,ry⟩ rel,q3⟩)
def SM(kvs more:List (Key×V)):List (Key×V):=more.foldl (λacc kv=>Cb acc kv.1 kv.2) kvs
theorem KV.merge:∀{more:List (Key×V)} {rs:List (Key×Value)} {kvs:List (Key×V)} {vs:List (Key×Value)},KV more rs->KV kvs vs->KV (SM kvs more) (merged vs rs):=by
 intro more rs kvs vs r;unfold KV at r
 induction r generalizing kvs vs with
 |nil=>intro q;exact q
 |@cons p q ps qs h t ih =>
  intro r0
  have e:KV (Cb kvs p.1 p.2) (stored vs q.1 q.2):=by
   have:=r0.put p.1 h.2;rw[<- h.1];exact this
  exact ih e
theorem U8{P:Program}{w:World}:∀{kvs:List (Key×V)} {ws:List (Value×Value)},VV (kvs.map λkv=>(kV kv.1,kv.2)) ws->∃rs,Carries (Bi P w) ws rs/\KV kvs rs
 |[],_,r=>by rw[ydo]at r;cases r;exact⟨[],True.intro,.nil⟩
 |p::kvs,_,r=>by
  rw[yau]at r;cases r with
  |@cons a b as bs h t =>
   obtain⟨rs,c,q⟩:=U8 (P:=P) (w:=w) t;obtain⟨b1,b2⟩:=b;exact⟨(p.1,b2)::rs,⟨NN h.1,rfl,c⟩,.cons ⟨rfl,h.2⟩ q⟩
section
variable {X:Cx}{pins:List (Addr×Obj)}{σ:St}{H:Hp}{s:Shared}{a:Addr}{y d:V}{u r:Value}{o:Option V}{A:Around}{E:Value->Shared->Prop}
end
section
variable {X:Cx}{o e f:Expr}{apos cpos:Pos}{td ty tx:TE}
end
section
variable {X:Cx}{pins:List (Addr×Obj)}{σ:St}{H:Hp}{s:Shared}{a:Addr}{kvs:List (Key×V)}{A:Around}{E:Value->Shared->Prop}
end
section
variable {X:Cx}{pins:List (Addr×Obj)}{σ:St}{H:Hp}{s:Shared}{a:Addr}{y:V}{u:Value}{A:Around}{E:Value->Shared->Prop}
end
end L2
namespace Zm
def gd(a b:Int):Int:=(Int.gcd a b:Nat)
def lt(t b:Int):Int:=t.fdiv (gd t b)
def sg(t b:Int):Int:=if b<0 then -(gd t b) else gd t b
def ft(t b:Int):Int:=t.fdiv (sg t b)
end Zm
namespace Zw
open PySem PySem.Spec PyProof.Rows L2
def Sm(i:Int):Prop:=-(10 ^ 70)<i/\i<10 ^ 70
theorem Sm.nat{i:Int}(h:Sm i):i.natAbs<10 ^ 70:=by
 unfold Sm at h
 omega
theorem zjv:10 ^ 70<=2 ^ 300:=by decide +kernel
theorem Sm.log{i:Int}(h:Sm i):i.natAbs.log2<300:=by
 by_cases z:i.natAbs=0
 .rw[z]
  decide
 .exact(Nat.log2_lt z).mpr (yal h.nat zjv)
theorem Sm.bits{i:Int}(h:Sm i):Builtin.Int.intBits i<=2 ^ 20:=by
 have q:=h.log;have e20:(2:Nat) ^ 20=1048576:=by decide
 unfold Builtin.Int.intBits;split<;>omega
theorem Sm.of{i:Int}(h1:-(10 ^ 70)<i)(h2:i<10 ^ 70):Sm i:=⟨h1,h2⟩
theorem Sm.abs{i:Int}{m:Nat}(h:i.natAbs<=m)(hm:m<10 ^ 70):Sm i:=by
 constructor<;>omega
section
variable {X:Cx}
theorem zhe:A3 X (binaryOp .Mult) (rI (λi j=>Sm i/\Sm j) λi j=>.int (i * j)):=IE λ_ _ _ _ _ _ _ hc q=>mul_int q (.of_bits hc.1.bits hc.2.bits)
theorem zev:A3 X (binaryOp .FloorDiv) (rI (λ_ j=>j≠0/\Sm j) λi j=>.int (i.fdiv j)) :=
 IE λ_ _ _ _ _ _ _ hc q=>floordiv_int hc.1 q (.inl (PyProof.noPylong_of_log2 (ydj hc.2.log (by decide))))
theorem Sx{x:V}{v:Value}{b:Bool}(r:RelV x v):PySem.plainIs v (.bool b)=true/\(v == Value.bool b)=decide (x=V.bl b):=by
 cases x with
 |non=>cases r;exact⟨rfl,by simp⟩
 |bl c=>cases r;exact⟨rfl,by cases c<;>cases b<;>simp⟩
 |int i=>obtain⟨t,rfl⟩:=r;exact⟨rfl,by simp⟩
 |str i=>obtain⟨t,rfl⟩:=r;exact⟨rfl,by simp⟩
 |byt i=>obtain⟨t,rfl⟩:=r;exact⟨rfl,by simp⟩
 |flt i=>obtain⟨t,rfl⟩:=r;exact⟨rfl,by simp⟩
 |ref i=>cases r;exact⟨rfl,by simp⟩
 |ty i=>cases r;exact⟨rfl,by simp⟩
theorem zke:A3 X (compareOp .Is) (λx y H Q=>∃b,y=.bl b/\Q (.bl (decide (x=.bl b))) H):=by
 intro pins s σ H x y v u Q I rx ry h;obtain⟨b,rfl,q⟩:=h;cases ry;obtain⟨e1,e2⟩:=Sx (b:=b) rx;exact wpAny_is_plain e1 (Ia I q e2.symm)
theorem zhd:A3 X (compareOp .IsNot) (λx y H Q=>∃b,y=.bl b/\Q (.bl (!decide (x=.bl b))) H):=by
 intro pins s σ H x y v u Q I rx ry h;obtain⟨b,rfl,q⟩:=h;cases ry;obtain⟨e1,e2⟩:=Sx (b:=b) rx;exact wpAny_isNot_plain e1 (Ia I q (by rw[e2]))
theorem zfs{c:String}:B3 X (.builtin "isinstance") (λxs H Q=>∃x t b,xs=[x,.ty c]/\TyOf X.K H x t/\PySem.W.kitOne X.K t (.type c)=some b/\Q (.bl b) H):=by
 intro pins s σ H xs us Q I r h;obtain⟨x,t,b,rfl,ty,e,q⟩:=h;obtain⟨u,w',rfl,rx,ry⟩:=Gb r;cases ry;exact NO I rx ty e λtk=>⟨.bl b,H,I.tok _,rfl,q⟩
end
section
variable {X:Cx}
end
section
variable {X:Cx}{pos:Pos}
end
section
variable {X:Cx}
end
theorem zbm:PySem.W.kitMeta "int"=true:=by decide +kernel
theorem zb5:PySem.W.kitMeta "bool"=true:=by decide +kernel
theorem zav:PySem.W.kitMeta "tuple"=true:=by decide +kernel
theorem zfe(K:kA)(c:String):PySem.W.kitOne K (.type c) (.type c)=some true:=by
 unfold PySem.W.kitOne;rw[if_pos (by simp)]
theorem zl3(K:kA){t c:String}{l:List Value}{b:Bool}(h:t≠c)(hm:PySem.W.kitMeta c=true)(hl:(fastBuiltinMro t).map (·.contains (Value.type c))=some b):PySem.W.kitOne K (.type t) (.type c)=some b:=by
 unfold PySem.W.kitOne;rw[if_neg (by simpa using h)]
 unfold PySem.W.kitCls;show(if PySem.W.kitMeta c=true then PySem.W.subIn K (.type t) (.type c) else none)=some b
 rw[if_pos hm];exact hl
inductive Known(H:Hp):V->Prop where
 |non:Known H .non
 |bl (b:Bool):Known H (.bl b)
 |int (i:Int):Known H (.int i)
 |str (x:Str):Known H (.str x)
 |lst {p:Addr} {xs:List V} (e:H p=some (.lst xs)):Known H (.ref p)
 |tup {p:Addr} {xs:List V} (e:H p=some (.tup xs)):Known H (.ref p)
 |dic {p:Addr} {kvs:List (Key×V)} (e:H p=some (.dK kvs)):Known H (.ref p)
theorem Known.same{H H':Hp}{x:V}(h:Known H x)(s:AY H H'):Known H' x:=by
 cases h with
 |non=>exact .non
 |bl b=>exact .bl b
 |int i=>exact .int i
 |str y=>exact .str y
 |lst e=>exact .lst (s _ _ e)
 |tup e=>exact .tup (s _ _ e)
 |dic e=>exact .dic (s _ _ e)
set_option genInjectivity false in
structure FunD(K:kA)(x qual:Str)(st:Stmt)(f:Addr)(fd:FuncData):Prop where
 ex:∃(oc:Value) (od:Option Addr) (dV kV doc pm:Value) (an:Option Addr) (cdv ct:Value) (osl:Array (Option Value)),
  fd=PySem.W.fnOf x qual (Fi st) (Ao st) (AO st) dV kV doc pm an cdv ct/\K.lookup f=some ⟨oc,od,.func fd,osl⟩/\PySem.W.codeIn K cdv qual=true
 kp:PySem.W.keepIn K (.ref f)=true
theorem FunD.ok{P:Program}{w:World}{K:kA}{mg:Str->Option Value}{base:Heap}{x qual:Str}{st:Stmt}{f:Addr}{fd:FuncData}{N ps:List Str}{k:Nat}{sp:Sp}(F:FunD K x qual st f fd)(S:FnScope N ps (AO st))(len:∀vs H Q E,sp vs H Q E->vs.length=ps.length)
  (hbody : ∀ (cdv : Value) (A : Around) (outer : List Env) (s : Shared) (H : Hp) (vs : List V) (Q : VK) (E : XK), Room k (A.deeper (envOfC qual (AO st) s.heap.objs.size f cdv)) -> sp vs H Q E ->
   ∃t,BD (DK Df P w K mg base N qual (AO st) f cdv A outer s H E).nox (Ao st) t/\t { nx:=λ_ H'=>Q .non H',rt:=Q } (start N vs) H):FnOk P w K mg base Df (k+1) f fd ps sp:=by
 obtain⟨oc,od,dV,kV,doc,pm,an,cdv,ct,osl,rfl,lk,hcd⟩:=F.ex;refine Nb lk hcd S len λA outer s H vs Q E hr hsp=>?_
 obtain⟨t,h,q⟩:=hbody cdv A outer s H vs Q E hr hsp;exact⟨t,h.nox,q⟩
theorem IY{K:kA}{x qual:Str}{st:Stmt}{f:Addr}{oc:Value}{od an:Option Addr}{osl:Array (Option Value)}{dV kV doc pm cdv ct:Value}(l:K.lookup f=some ⟨oc,od,.func (PySem.W.fnOf x qual (Fi st) (Ao st) (AO st) dV kV doc pm an cdv ct),osl⟩)
  (c:PySem.W.codeIn K cdv qual=true) (k:PySem.W.keepIn K (.ref f)=true):FunD K x qual st f (PySem.W.fnOf x qual (Fi st) (Ao st) (AO st) dV kV doc pm an cdv ct):=⟨⟨oc,od,dV,kV,doc,pm,an,cdv,ct,osl,rfl,l,c⟩,k⟩
set_option genInjectivity false in
structure Tx(K:kA)(mg:Str->Option Value)(x:Str)(st:Stmt)(ps:List Str) where
 f:Addr
 fd:FuncData
 F:FunD K x x st f fd
 m:mg x=some (.ref f)
 b:C8 K fd ps []
structure Def(P:Program)(w:World)(K:kA)(mg:Str->Option Value)(base:Heap)(k:Nat)(x:Str)(ps:List Str)(sp:Sp) where
 f:Addr
 fd:FuncData
 ok:FnOk P w K mg base Df k f fd ps sp
 m:mg x=some (.ref f)
 kp:PySem.W.keepIn K (.ref f)=true
 b:C8 K fd ps []
section
variable {X:Cx}{k j:Nat}{x:Str}{ps:List Str}{sp:Sp}{p pos:Pos}{e:Expr}{es:List Expr}{t:TA}
theorem pd(D:Def X.prog X.w X.K X.mg X.base k x ps sp)(hr:Room j X.A)(ha:PA X (e::es) t)(hk:k<=j:=by decide)(hg:Gl X x:=by rfl)(hdb:(x == ("__debug__":Str))=false:=by decide)
  (he:starEach (e::es) X.env=(false,eval e X.env)::starEach es X.env:=by rfl) (hpl:(backTo pos (starEach es X.env)).any (·.1)=false:=by rfl) :
  PE X (.Call (.Name x p) (e::es) [] pos) (Pa sp [] E0 t):=zh8 D.ok (hr.mono hk) hg D.m D.kp D.b .nil pass0 ha hdb he hpl
end
theorem Jh{H:Hp}{p:Addr}(h:H p=none)(o:HO):AY H (upd H p o):=λb u q=>by
 rw[Ad (Be q h)];exact q
def JI(H:Hp)(p:Addr)(a b:Int):Prop:=H p=some (.tup [.int a,.int b])
theorem JI.same{H H':Hp}{p:Addr}{a b:Int}(h:JI H p a b)(s:AY H H'):JI H' p a b:=s _ _ h
theorem JI.new{H:Hp}{p:Addr}{a b:Int}:JI (upd H p (.tup [.int a,.int b])) p a b:=Bb
theorem sz{n:Nat}(h:n<=1000:=by exact Nat.le_of_ble_eq_true rfl):n<=sizeLine:=ydl (zcr h)
noncomputable def zlq(X:Cx)(scope:Scope)(cl:List (Str×Addr))(N':List Str)(C:Addr)(s₀:Shared)(H₀:Hp)(ex:List Addr):Cx :=
 { X with N:=N',s₀:=s₀,H₀:=H₀,env:=compEnvC scope cl C X.env,outer:=X.stack,ex:=ex,fn:=λ_=>false,xe:=λ_ _=>False }
theorem HOk.adopt{P:Program}{w:World}{H:Hp}{h:Heap}{a:Addr}{o:HO}(x:HOk P w H h)(hn:H a=none)(new:BJ P w (upd H a o) h a o):HOk P w (upd H a o) h:=λb u e=>by
 by_cases hb:b=a
 .subst hb;rw[Bb]at e;cases e;exact new
 .rw[Ad hb]at e;exact(x b u e).stay (λc v _ q=>q) (λc q=>by rw[Ad (Be q hn)];exact q) λc xs q=>by rw[Ad (Be q hn)];exact q
section
variable {X:Cx}{elt iter tg:Expr}{scope:Scope}{pos:Pos}{cl:List (Str×Addr)}{N':List Str}{wi:TI}{g:TG}{te:TE}
end
end Zw
namespace Zx
open PySem PySem.Spec PyProof.Rows L2 Zw
def LK(h B:Heap)(a:Addr)(cls fl:Value):Prop :=
 ∃oe vs T oT ts,h.get? a=some oe/\(oe.cls=cls/\vs[2]?=some .none)/\oe.data=.fields vs/\vs[1]?=some (.ref T)/\B.get? T=none/\T≠a/\h.get? T=some oT/\oT.data=.fields ts/\ts[3]?=some fl
def EL(B:Heap)(l:List Env)(a:Addr)(cls:Value)(h:Heap):Prop:=B.StaysIn h/\B.get? a=none/\h.FunFrames B l/\LK h B a cls .none
def Ou(B:Heap)(l:List Env)(a:Addr)(cls:Value)(L:Addr)(h:Heap):Prop:=B.StaysIn h/\B.get? a=none/\h.FunFrames B l/\LK h B a cls (rawInt L)
theorem EL.first{B h:Heap}{l:List Env}{a:Addr}{cls:Value}(x:EL B l a cls h):∃oe vs,h.get? a=some oe/\oe.cls=cls/\oe.data=.fields vs/\vs[2]?=some .none :=
 let ⟨_,_,_,oe,vs,_,_,_,he,hc,hd,_⟩:=x;⟨oe,vs,he,hc.1,hd,hc.2⟩
theorem EL.there{B h:Heap}{l:List Env}{a:Addr}{cls:Value}(x:EL B l a cls h):∃ob,h.get? a=some ob/\ob.cls=cls :=
 let ⟨oe,_,he,hc,_⟩:=x.first;⟨oe,he,hc⟩
section
variable {M:Model}{A:Around}{E:Value->Shared->Prop}{s:Shared}{B:Heap}{env v:Env}{l:List Env}{L a:Addr}{cls:Value}{Q:Unit->Shared->Prop}
theorem UK{oe:Obj}{vs:Array Value}{head:Value}{hn:Bool}(hfr:A.frames=some (v::l))(hl:s.heap.FunFrames B (v::l))(hL:v.frame=some L)(he:s.heap.get? a=some oe)(hk:B.StaysIn s.heap)(ha:B.get? a=none)
  (hd:oe.data=.fields vs) (hsz:1<vs.size) (h2:vs[2]?=some .none) (h:∀h',Ou B (v::l) a oe.cls L h'->s.heap.UpToSlots h'->Q () { s with heap:=h' }) :
  wpAny M A (do let f <- frameOf v;let pl <- entryPlaceOf L hn;let b <- EntryCells.newEntry head f .none (rawInt L) .none pl;setField (.ref a) 1 b) Q E s:=by
 have nof:a∉(v::l).filterMap (·.frame):=λz=>by
  obtain⟨_,o,ho,n⟩:=hl.mem z;rw[he]at ho;cases ho;exact n vs hd
 refine yec (wpAny_frameOf_fun hfr hl hL λh1 k1=>?_)
 refine yec (wpAny_entryPlaceOf λpl hpl=>?_)
 unfold EntryCells.newEntry newFields;refine yec (yes ?_ (hpl.sizeOk5 _ _ _ _ _));have e1:h1.get? a=some oe:=(k1.2.1 a nof).trans he;have b1:B.StaysIn h1:=λb o q=>(k1.2.1 b λz=>by rw[(hl.mem z).1]at q;cases q).trans (hk b o q)
 have ne:h1.objs.size≠a:=Nat.ne_of_gt (yae e1);refine yet (ya4 _ e1) hd hsz ?_;have hd3:=ycx hd (·.setIfInBounds 1 (Value.ref h1.objs.size));have kp:∀nw b o,b≠a->h1.get? b=some o->((h1.push nw).update a (Obj.mapFields (·.setIfInBounds 1 (Value.ref h1.objs.size)))).get? b=some o:=λnw b o n q=>(ybd _ _ (yb1 n)).trans (ya4 _ q)
 have nr:∀b o,s.heap.get? b=some o->(∀ws,o.data≠.fields ws)->b≠a:=λb o q n z=>by
  rw[z,he]at q;cases q;exact n vs hd
 have sm:∀nw,s.heap.UpToSlots ((h1.push nw).update a (Obj.mapFields (·.setIfInBounds 1 (Value.ref h1.objs.size)))):=λnw b o q n=>by
  obtain⟨sl,q1⟩:=k1.2.2 b o q;exact⟨sl,kp nw b _ (nr b o q n) q1⟩
 refine h _ ⟨λb o q=>kp _ b o (λz=>by rw[z,ha]at q;cases q) (b1 b o q),ha,hl.of_keeps λb o q n=>?_,_,_,h1.objs.size,_,_,yce _ (ya4 _ e1) (ydi hd3),⟨Obj.cls_mapFields _ _,?_⟩,hd3,by simp[hsz],b1.fresh,ne,
  (ybd _ _ (yb1 ne)).trans (yag h1 rfl),rfl,?_⟩ (sm _)
 .obtain⟨sl,q1⟩:=sm _ b o q n;exact⟨_,q1,rfl⟩
 .rw[Array.getElem?_setIfInBounds_ne (by decide)]
  exact h2
 .first|(simp;done)|(rcases hpl with rfl|⟨_,_,_,_,_,_,_,rfl⟩<;>simp)
theorem UG{fl:Value}(hk:B.StaysIn s.heap)(ha:B.get? a=none)(hl:s.heap.FunFrames B l)(ht:LK s.heap B a cls fl)(h:∀h',EL B l a cls h'->s.heap.UpToSlots h'->Q () { s with heap:=h' }):wpAny M A (setFlight (.ref a) none) Q E s:=by
 obtain⟨oe,vs,T,oT,ts,he,hc,hd,g1,nT,Tne,hT,dT,g3⟩:=ht;have s3:3<ts.size:=(ybs.mp g3).1;have oth:∀b,b≠T->(s.heap.update T (Obj.mapFields (·.setIfInBounds 3 ((none:Option Addr).elim Value.none λf=>rawInt f)))).get? b=s.heap.get? b:=λb hb=>ybd _ _ (yb1 hb)
 have nr:∀b o,s.heap.get? b=some o->(∀ws,o.data≠.fields ws)->b≠T:=λb o q n z=>by
  rw[z,hT]at q;cases q;exact n ts dT
 unfold setFlight;refine yec (yeu he hd g1 ?_);rw[if_pos (by simp)]
 exact yet hT dT s3 (h _ ⟨λb o q=>(oth b λz=>by rw[z,nT]at q;cases q).trans (hk b o q),ha,hl.of_keeps λb o q n=>⟨o,(oth b (nr b o q n)).trans q,rfl⟩,
  oe,vs,T,_,_,(oth a (yb1 Tne)).trans he,hc,hd,g1,nT,Tne,yce _ hT (ydi (ycx dT _)),ycx dT _,by simp[s3]⟩ λb o q n=>⟨o.slots,(oth b (nr b o q n)).trans q⟩)
theorem NF(hh:Ou B l a cls L s.heap)(hQ:∀h',EL B l a cls h'->s.heap.UpToSlots h'->Q () { s with heap:=h' }):wpAny M A (setFlight (.ref a) none) Q E s :=
 UG hh.1 hh.2.1 hh.2.2.1 hh.2.2.2 hQ
theorem zm0(hh:EL B l a cls s.heap)(hQ:∀h',EL B l a cls h'->s.heap.UpToSlots h'->Q () { s with heap:=h' }):wpAny M A (setFlight (.ref a) none) Q E s :=
 UG hh.1 hh.2.1 hh.2.2.1 hh.2.2.2 hQ
theorem madeX{h:Heap}{args:List Value}(hfr:A.frames=some (v::l))(hL:v.frame=some L)(hk:B.StaysIn h)(hl:h.FunFrames B (v::l))(hx:Heap.MadeExcOf h s.heap a cls args)
  (hQ:∀h',EL B l a cls h'->s.heap.UpToSlots h'->Q () { s with heap:=h' }):wpAny M A (leaving v (.ref a)) Q E s:=by
 obtain⟨t,he,_,_⟩:=hx.there
 have fr:B.get? a=none:=by
  cases q:B.get? a with
  |none=>rfl
  |some o =>
   have:=hk a o q;rw[hx.new]at this;cases this
 unfold leaving noteFrame;simp only[hL];refine yec (yec (yeu (x:=.none) he rfl rfl ?_));rw[if_neg (by simp)]
 refine UK hfr (hl.of_keeps λb o q _=>⟨o,hx.keeps b o q,rfl⟩) hL he (λb o q=>hx.keeps b o (hk b o q)) fr rfl (by simp) rfl λh1 k1 sm=>NF (s:={ s with heap:=h1 }) k1 λh2 k2 sm2=>?_
 obtain⟨k1,k2,⟨_,_,k3⟩,k4⟩:=k2;exact hQ h2 ⟨k1,k2,k3,k4⟩ (sm.trans sm2)
end
def Ga(B:Heap)(l:List Env)(a:Addr)(cls:Value)(h:Heap):Prop:=∃fl,B.StaysIn h/\B.get? a=none/\h.FunFrames B l/\LK h B a cls fl
theorem UE{B h:Heap}{l:List Env}{a:Addr}{cls:Value}(x:EL B l a cls h):Ga B l a cls h:=⟨.none,x⟩
section
variable {M:Model}{A:Around}{E:Value->Shared->Prop}{s:Shared}{B:Heap}{env v:Env}{l:List Env}{L a:Addr}{cls:Value}{Q:Unit->Shared->Prop}
theorem Mh(hfr:A.frames=some (v::l))(hv:env.frame=v.frame)(hL:v.frame=some L)(hx:Ga B (v::l) a cls s.heap)(hQ:∀h',Ou B (v::l) a cls L h'->s.heap.UpToSlots h'->Q () { s with heap:=h' }):wpAny M A (noteFrame (.ref a) env) Q E s:=by
 have en:noteFrame (.ref a) env=noteFrame (.ref a) v:=by
  unfold noteFrame PySem.frameOf;rw[hv]
 rw[en];obtain⟨fl,f1,f2,f3,f4⟩:=hx
 by_cases hfl:fl=rawInt L
 .subst hfl;obtain⟨oe,ws,Tb,oT,ts,ha,_,hd,g1,_,_,hT,dT,g3⟩:=id f4;unfold noteFrame;simp only[hL];refine yec (yeu ha hd g1 ?_);rw[if_pos (by simp)]
  refine yec (yeu hT dT g3 ?_);rw[if_pos (by simp)]
  exact yef (hQ _ ⟨f1,f2,f3,f4⟩ (.refl _))
 .obtain⟨oe,ws,Tb,oT,ts,ha,⟨rfl,g0⟩,hd,g1,nT,Tne,hT,dT,g3⟩:=f4;have g3s:=(ybs.mp g3).1;have oth:∀b,b≠Tb->(s.heap.update Tb (Obj.mapFields (·.setIfInBounds 3 Value.none))).get? b=s.heap.get? b:=λb hb=>ybd _ _ (yb1 hb)
  have nr:∀b o,s.heap.get? b=some o->(∀us,o.data≠.fields us)->b≠Tb:=λb o hb hn z=>by
   rw[z,hT]at hb;cases hb;exact hn ts dT
  unfold noteFrame;simp only[hL];refine yec (yeu ha hd g1 ?_);rw[if_pos (by simp)]
  refine yec (yeu hT dT g3 ?_);rw[if_neg (λz=>hfl (beq_iff_eq.mp z))]
  refine yec (yet hT dT g3s ?_);refine UK hfr (f3.of_keeps λb o hb hn=>⟨o,(oth b (nr b o hb hn)).trans hb,rfl⟩) hL ((oth a (yb1 Tne)).trans ha) (λb o hb=>(oth b λz=>by rw[z,nT]at hb;cases hb).trans (f1 b o hb)) f2 hd (ybs.mp g1).1 g0 λh' k k4=>?_
  exact hQ h' k λb o hb hn=>k4 b o ((oth b (nr b o hb hn)).trans hb) hn
theorem leavX(hfr:A.frames=some (v::l))(hL:v.frame=some L)(hx:Ga B (v::l) a cls s.heap)(hQ:∀h',EL B l a cls h'->s.heap.UpToSlots h'->Q () { s with heap:=h' }):wpAny M A (leaving v (.ref a)) Q E s:=by
 unfold leaving;refine yec (Mh hfr rfl hL hx λh1 hh sm1=>NF hh λh2 hf sm2=>?_)
 obtain⟨k1,k2,⟨_,_,k3⟩,k4⟩:=hf;exact hQ h2 ⟨k1,k2,k3,k4⟩ (sm1.trans sm2)
end
def CG(P:Program)(w:World):DN:=λouter H s E e s'=>∃(a:Addr) (cls:Value) (H':Hp) (B:Heap),
 e=.ref a/\s'.os=s.os/\AllBare s'.gens/\Un (Ax outer) [] H H' s.heap s'.heap/\HOk P w H' B/\(∀b o,s.heap.get? b=some o->H b=none->b∉Ax outer->B.get? b=some o) /\
 (∀b o,s.heap.get? b=some o->b∉Ax outer->∃o',B.get? b=some o')/\Ga B outer a cls s'.heap/\E cls none H'
theorem ze3{P:Program}{w:World}{H:Hp}{h:Heap}{a:Addr}{o:HO}(x:BJ P w H h a o):∃ob,h.get? a=some ob:=by
 cases o with
 |lst xs=>obtain⟨_,_,_,_,e⟩:=x;exact⟨_,e⟩
 |tup xs=>obtain⟨_,_,_,o',e,_⟩:=x;exact⟨o',e⟩
 |dK kvs=>obtain⟨_,_,_,_,o',_,_,e,_⟩:=x;exact⟨o',e⟩
 |dT kvs=>obtain⟨_,_,_,_,o',_,_,e,_⟩:=x;exact⟨o',e⟩
 |set S n=>obtain⟨o',_,_,_,e,_⟩:=x;exact⟨o',e⟩
 |ins C dx fs=>obtain⟨_,_,_,e,_⟩:=x;exact⟨_,e⟩
 |own y=>exact x
 |xd fs=>obtain⟨_,⟨o',_,_,e,_⟩,_⟩:=x;exact⟨o',e⟩
 |rng lo hi=>obtain⟨_,_,_,e⟩:=x;exact⟨_,e⟩
 |frz ob u=>obtain⟨e,_⟩:=x;exact⟨_,e⟩
 |tbl ps=>exact⟨_,(show h.get? a=some _ from x)⟩
 |met f y=>exact⟨_,(show h.get? a=some _ from x)⟩
 |ext φ=>obtain⟨_,e,_⟩:=x;exact e
theorem none_of{P:Program}{w:World}{H:Hp}{h:Heap}{a:Addr}(x:HOk P w H h)(e:h.get? a=none):H a=none:=by
 cases q:H a with
 |none=>rfl
 |some u =>
  obtain⟨ob,z⟩:=ze3 (x a u q);rw[e]at z;cases z
theorem zm1{P:Program}{w:World}{H:Hp}{h:Heap}{a:Addr}{o:HO}(x:HOk P w H h)(hn:H a=none)(new:BJ P w (upd H a o) h a o):HOk P w (upd H a o) h:=λb u e=>by
 by_cases hb:b=a
 .subst hb;have e':=Bb.symm.trans e;cases e';exact new
 .have e':=(Ad (H:=H) (o:=o) hb).symm.trans e;exact(x b u e').stay (λc v _ q=>q) (λc q=>(Ad (Be q hn)).trans q) λc xs q=>(Ad (Be q hn)).trans q
def BI(X:Cx)(E:L2.St->XK):Prop:=∀(pins:List (Addr×Obj)) (σ:L2.St) (H:Hp) (s:Shared) (e:Value) (s':Shared),Inv X pins σ H s->CG X.prog X.w X.stack H s (E σ) e s'->X.xe e s'
def Oo(X:Cx)(E:L2.St->XK):Prop:=∀(pins:List (Addr×Obj)) (σ:L2.St) (H:Hp) (s:Shared) (a:Addr) (cls:Value) (vs:List Value) (h':Heap),Inv X pins σ H s->Heap.MadeExcOf s.heap h' a cls vs->E σ cls none H->X.xe (.ref a) { s with heap:=h' }
section
variable {X:Cx}{pins:List (Addr×Obj)}{σ:L2.St}{H:Hp}{s:Shared}
theorem Ju(I:Inv X pins σ H s){b:Addr}{o:Obj}(e:X.s₀.heap.get? b=some o)(hb:b∉Ax X.outer):b∉Ax X.stack:=λz=>by
 rcases ya9.mp (I.stkSub b z) with q|q
 .exact absurd (yal (yae e) I.ok.above) (by rw[q];exact yb7 _)
 .exact hb q
theorem zcp(hst:X.stack=X.env::X.outer){b:Addr}(hb:b∈Ax X.outer):b∈Ax X.stack:=by
 rw[hst];obtain⟨v,h1,h2⟩:=yby.mp hb;exact yby.mpr ⟨v,yab _ h1,h2⟩
theorem zlf(I:Inv X pins σ H s):HOk X.prog X.w H (PySem.W.hideAll s.heap (Ax X.stack)):=λb u e=>(I.hok b u e).stay (λc v hc q=>ybw _ q λz=>by
  have f:=I.stkFree c z
  rcases hc with y|y
  .rw[y,e]at f;cases f
  .rw[y]at f;cases f) (λ_ q=>q) λ_ _ q=>q
theorem zhv(hst:X.stack=X.env::X.outer)(hf:X.env.frame=some X.env.locals)(hex:X.ex=[]){E:XK}{a:Addr}{cls:Value}{vs:List Value}{h':Heap}{Ex:Value->Shared->Prop}(I:Inv X pins σ H s)(hx:Heap.MadeExcOf s.heap h' a cls vs)(he:E cls none H) :
  wpAny (model X.prog X.w) X.A (leaving X.env (.ref a)) (λ_ s2=>CG X.prog X.w X.outer X.H₀ X.s₀ E (.ref a) s2) Ex { s with heap:=h' }:=by
 have nex:∀b:Addr,b∉X.ex:=λb z=>by rw[hex]at z;cases z
 have hfr:X.A.frames=some (X.env::X.outer):=hst▸I.ok.frames
 have FF:s.heap.FunFrames (PySem.W.hideAll s.heap (Ax X.stack)) (X.env::X.outer):=by
  rw[<- hst];exact PySem.W.funFrames_hide I.stack λv hv b hb=>yby.mpr ⟨v,hv,hb⟩
 refine madeX (B:=PySem.W.hideAll s.heap (Ax X.stack)) (h:=s.heap) (args:=vs) hfr hf (λb o q=>yc8 _ q) FF hx λh2 fl sm=>?_
 have kB:∀b o,X.s₀.heap.get? b=some o->X.H₀ b=none->b∉Ax X.outer->(PySem.W.hideAll s.heap (Ax X.stack)).get? b=some o:=λb o e n hb=>ybw _ (I.base.keep b o e n hb (nex b)) (Ju I e hb)
 have tB:∀b o,X.s₀.heap.get? b=some o->b∉Ax X.outer->∃o',(PySem.W.hideAll s.heap (Ax X.stack)).get? b=some o':=λb o e hb=>by
  obtain⟨o',e'⟩:=I.base.there b o e (nex b);exact⟨o',ybw _ e' (Ju I e hb)⟩
 have sl:∀b o,X.s₀.heap.get? b=some o->X.H₀ b=none->b∈Ax X.outer->∃z,h2.get? b=some { o with slots:=z }:=λb o e n hb=>by
  obtain⟨z,e1⟩:=I.base.slot b o e n hb (nex b);obtain⟨_,o2,ho2,hd⟩:=I.funs.mem hb;rw[e1]at ho2;cases ho2;obtain⟨z3,e3⟩:=sm b { o with slots:=z } (hx.keeps b _ e1) hd
  exact⟨z3,e3⟩
 refine⟨a,cls,H,_,rfl,I.os,I.bare,⟨λb o e n hb _=>fl.1 b o (kB b o e n hb),λb o e n hb _=>sl b o e n hb,λb o e n _=>I.base.free b o e n (nex b),λb o e _=>?_,I.base.tups,I.base.frzs,I.base.tbls⟩,zlf I,kB,tB,UE fl,he⟩
 by_cases hb:b∈Ax X.outer
 .obtain⟨z,q⟩:=sl b o e (I.ok.frf b hb) hb;exact⟨_,q⟩
 .obtain⟨o',q⟩:=tB b o e hb;exact⟨o',fl.1 b o' q⟩
theorem zha(hst:X.stack=X.env::X.outer)(hf:X.env.frame=some X.env.locals)(hex:X.ex=[]){E:XK}{e:Value}{s':Shared}{Ex:Value->Shared->Prop}(I:Inv X pins σ H s)(h:CG X.prog X.w X.stack H s E e s') :
  wpAny (model X.prog X.w) X.A (leaving X.env e) (λ_ s2=>CG X.prog X.w X.outer X.H₀ X.s₀ E e s2) Ex s':=by
 obtain⟨a,cls,H',B,rfl,os,bare,un,hok,kB0,tB0,fl0,he⟩:=h;have nex:∀b:Addr,b∉X.ex:=λb z=>by rw[hex]at z;cases z
 have hfr:X.A.frames=some (X.env::X.outer):=hst▸I.ok.frames;have fl1:Ga B (X.env::X.outer) a cls s'.heap:=hst▸fl0;refine leavX hfr hf fl1 λh2 fl sm=>?_
 have kB:∀b o,X.s₀.heap.get? b=some o->X.H₀ b=none->b∉Ax X.outer->B.get? b=some o:=λb o e n hb=>kB0 b o (I.base.keep b o e n hb (nex b)) (I.base.free b o e n (nex b)) (Ju I e hb)
 have tB:∀b o,X.s₀.heap.get? b=some o->b∉Ax X.outer->∃o',B.get? b=some o':=λb o e hb=>by
  obtain⟨o',e'⟩:=I.base.there b o e (nex b);exact tB0 b o' e' (Ju I e hb)
 have sl:∀b o,X.s₀.heap.get? b=some o->X.H₀ b=none->b∈Ax X.outer->∃z,h2.get? b=some { o with slots:=z }:=λb o e n hb=>by
  obtain⟨z,e1⟩:=I.base.slot b o e n hb (nex b);obtain⟨_,o2,ho2,hd⟩:=I.funs.mem hb;rw[e1]at ho2;cases ho2;obtain⟨z2,e2⟩:=un.slot b { o with slots:=z } e1 (I.base.free b o e n (nex b)) (zcp hst hb) (by simp)
  obtain⟨z3,e3⟩:=sm b { o with slots:=z2 } e2 hd
  exact⟨z3,e3⟩
 refine⟨a,cls,H',B,rfl,os.trans I.os,bare,⟨λb o e n hb _=>fl.1 b o (kB b o e n hb),λb o e n hb _=>sl b o e n hb,λb o e n _=>?_,λb o e _=>?_,λb xs e=>un.tups b xs (I.base.tups b xs e),λb o u e=>un.frzs b o u (I.base.frzs b o u e),λb ps e=>?_⟩,hok,kB,tB,UE fl,he⟩
 .obtain⟨o',e'⟩:=I.base.there b o e (nex b);exact un.free b o' e' (I.base.free b o e n (nex b)) (by simp)
 .by_cases hb:b∈Ax X.outer
  .obtain⟨z,q⟩:=sl b o e (I.ok.frf b hb) hb;exact⟨_,q⟩
  .obtain⟨o',q⟩:=tB b o e hb;exact⟨o',fl.1 b o' q⟩
 .obtain⟨m1,e1⟩:=I.base.tbls b ps e;obtain⟨m2,e2⟩:=un.tbls b _ e1;exact⟨m1++m2,e2.trans (by rw[ydy])⟩
end
section
variable {P:Program}{w:World}{K:kA}{mg:Str->Option Value}{base:Heap}
theorem Qi{N:List Str}{qual:Str}{sc:Scope}{f:Addr}{cd:Value}{A:Around}{outer:List Env}{s:Shared}{H:Hp}{E:XK}:BI (DK (CG P w) P w K mg base N qual sc f cd A outer s H E) (λ_=>E) :=
 λ_ _ _ _ _ _ I h=>zha rfl rfl rfl I h
theorem SQ{N:List Str}{qual:Str}{sc:Scope}{f:Addr}{cd:Value}{A:Around}{outer:List Env}{s:Shared}{H:Hp}{E:XK}:Oo (DK (CG P w) P w K mg base N qual sc f cd A outer s H E) (λ_=>E) :=
 λ_ _ _ _ _ _ _ _ I hx he=>zhv rfl rfl rfl I hx he
theorem Qt{x qual:Str}{st:Stmt}{f:Addr}{fd:FuncData}{N ps:List Str}{k:Nat}{sp:Sp}(F:FunD K x qual st f fd)(S:FnScope N ps (AO st))(len:∀vs H Q E,sp vs H Q E->vs.length=ps.length)
  (hbody : ∀ (cdv : Value) (A : Around) (outer : List Env) (s : Shared) (H : Hp) (vs : List V) (Q : VK) (E : XK), Room k (A.deeper (envOfC qual (AO st) s.heap.objs.size f cdv)) -> sp vs H Q E ->
   ∃t,BD (DK (CG P w) P w K mg base N qual (AO st) f cdv A outer s H E) (Ao st) t/\t { nx:=λ_ H'=>Q .non H',rt:=Q } (start N vs) H):FnOk P w K mg base (CG P w) (k+1) f fd ps sp:=by
 obtain⟨oc,od,dV,kV,doc,pm,an,cdv,ct,osl,rfl,lk,hcd⟩:=F.ex;exact Nb lk hcd S len λA outer s H vs Q E hr hsp=>hbody cdv A outer s H vs Q E hr hsp
end
set_option genInjectivity false in
structure DefX(P:Program)(w:World)(K:kA)(mg:Str->Option Value)(base:Heap)(k:Nat)(x:Str)(ps:List Str)(sp:Sp) where
 f:Addr
 fd:FuncData
 ok:FnOk P w K mg base (CG P w) k f fd ps sp
 m:mg x=some (.ref f)
 kp:PySem.W.keepIn K (.ref f)=true
 b:C8 K fd ps []
section
variable {X:Cx}{k j:Nat}{f:Addr}{fd:FuncData}{x:Str}{ps:List Str}{sp:Sp}{p pos:Pos}{e:Expr}{es:List Expr}{t:TA}{E:L2.St->XK}{dvs:List V}
theorem zgk{pins:List (Addr×Obj)}{σ:L2.St}{H:Hp}{s:Shared}{Q:VK}{us ds:List Value}{vs:List V}(F:FnOk X.prog X.w X.K X.mg X.base (CG X.prog X.w) k f fd ps sp)(hr:Room k X.A)(hb:C8 X.K fd ps ds)(hd:AU dvs ds)(hx:BI X E)
  (I:Inv X pins σ H s) (r:AU vs us) (h:sp (vs++dvs) H Q (E σ)):wpAny (model X.prog X.w) X.A (call (.ref f) us) (EP X pins σ Q) X.xe s:=by
 have r2:AU (vs++dvs) (us++ds):=r.append hd;have hl:(us++ds).length=ps.length:=r2.length.symm.trans (F.len _ _ _ _ h);refine yej (yek (F.run X.A X.stack s H ⟨us,[]⟩ (us++ds) (vs++dvs) Q (E σ) hr I.env0 (hb s us I.kIn hl) r2 h) λr s' hq=>?_)
 cases r with
 |error v=>exact hx pins σ H s v s' I hq
 |ok fl =>
  cases fl with
  |ret u=>exact I.after hq
  |_=>exact False.elim hq
def P9(sp:Sp)(dvs:List V)(E:L2.St->XK)(t:TA):TE:=λσ H Q=>t σ H λvs H1=>sp (vs++dvs) H1 Q (E σ)
theorem px(D:DefX X.prog X.w X.K X.mg X.base k x ps sp)(hr:Room j X.A)(hx:BI X E)(ha:PA X (e::es) t)(hk:k<=j:=by decide)(hg:Gl X x:=by rfl)(hdb:(x == ("__debug__":Str))=false:=by decide)
  (he:starEach (e::es) X.env=(false,eval e X.env)::starEach es X.env:=by rfl) (hpl:(backTo pos (starEach es X.env)).any (·.1)=false:=by rfl):PE X (.Call (.Name x p) (e::es) [] pos) (P9 sp [] E t):=by
 intro pins s σ H Q I h;refine yel (GV I hg D.m ?_ hdb);refine ycv (h₀:=X.base) I.ok.mod.kin D.kp (AR (ha pos pins s σ H _ I h) λus s1 ⟨vs,H1,I1,r,q⟩=>⟨I1.kIn,?_⟩) he hpl
 exact zgk D.ok (hr.mono hk) D.b .nil hx I1 r q
end
abbrev vmro:List Value:=[.type "ValueError",.type "Exception",.type "BaseException",.type "object"]
structure ExcK(K:kA)(C:Addr):Prop where
 q:PySem.W.excIn K C vmro "ValueError.__new__"=true
 self:PySem.W.subIn K (.ref C) (.ref C)=some true
 cd:∃cd,PySem.W.clsIn K C=some cd
 ty:PySem.W.typeIn K (.ref C)=some (.type "type")
 ga:PySem.W.findIn K (.ref C) "__getattribute__"=some (some (.builtin "BaseException.__getattribute__"))
 gt:PySem.W.findIn K (.ref C) "__getattr__"=some none
 ca:PySem.W.findIn K (.ref C) "__class__"=some (some (.builtin "object.__class__"))
 ob:PySem.W.mroIn K C (.type "object")=some true
 be:PySem.W.mroIn K C (.type "BaseException")=some true
 gs:PySem.W.specialIn K (.builtin "object.__class__") "__get__"=some (some (.builtin "getset_descriptor.__get__"))
 tk:PySem.W.takesIn K (.builtin "object.__class__")=some true
structure ECls(K:kA)(mg:Str->Option Value)(x:Str) where
 C:Addr
 m:mg x=some (.ref C)
 k:ExcK K C
theorem UJ{K:kA}{h:Heap}{C:Addr}{bmB:List Value}{newId:String}(X:K.In h)(q:PySem.W.excIn K C bmB newId=true):∃bm N nm qn bs hd sn sub ab col dd k0 k1 k2 k3 k5 mN,
  h.get? C=some (excClassObj nm qn C N bs bm hd sn sub ab col dd k0 k1 k2 k3 k5 newId)/\h.Ns N mN/\mN "__init__"=none/\OwnTail h bmB bm:=by
 unfold PySem.W.excIn at q;split at q
 .rename_i dd cd sl ho;split at q
  .rename_i C2 bm k0 k1 k2 k3 nid k5 hm hs;simp only[ybo,ya1,yev]at q;obtain⟨⟨⟨⟨⟨z1,z2⟩,hdel⟩,ht⟩,hok⟩,hni⟩:=q;subst z1;subst z2;obtain⟨nm,bs,mro,nsp,qn,hd,sn,sub,ab,col,dl⟩:=cd;dsimp only at hm hok hni hdel;subst hm;subst hdel
   have hsl:sl=#[k0,k1,k2,k3,some (.builtin nid),k5]:=by
    obtain⟨l⟩:=sl;have hs':l=[k0,k1,k2,k3,some (.builtin nid),k5]:=hs;rw[hs']
   subst hsl;exact⟨bm,nsp,nm,qn,bs,hd,sn,sub,ab,col,dd,k0,k1,k2,k3,k5,_,X _ _ ho,.of_isNs (PySem.W.isNs_of_in X hok),PySem.W.nsMap_none_of_in X hok hni,PySem.W.tail_of_in X ht⟩
  .exact absurd q ybc
 .exact absurd q ybc
section
variable {X:Cx}{x:Str}{p cpos pos:Pos}{e:Expr}{es:List Expr}{t:TA}{E:L2.St->XK}
def zj0(C:Addr)(E:L2.St->XK)(t:TA):TS:=λ_ σ H=>t σ H λvs H1=>vs.length<=sizeLine/\E σ (.ref C) none H1
theorem zeo(T:ECls X.K X.mg x)(hc:X.calm=true)(hx:Oo X E)(ha:PA X (e::es) t)(hg:Gl X x:=by rfl)(hdb:(x == ("__debug__":Str))=false:=by decide)
  (he:starEach (e::es) X.env=(false,eval e X.env)::starEach es X.env:=by rfl) (hpl:(backTo cpos (starEach (e::es) X.env)).any (·.1)=false:=by rfl) :
  PS X (.Raise (some (.Call (.Name x p) (e::es) [] cpos)) none pos) (zj0 T.C E t):=by
 intro pins s σ H D I h;obtain⟨bm,N,nm,qn,bs,hd,sn,sub,ab,col,dd,k0,k1,k2,k3,k5,mN,hC,hN,hni,TL⟩:=UJ I.mod.kin T.k.q
 refine wpAny_Raise_call_subT (C:=T.C) (nm:=nm) (q:=qn) (N:=N) (bs:=bs) (bm:=bm) (hdct:=hd) (sn:=sn) (sub:=sub) (ab:=ab) (col:=col) (dd:=dd) (k0:=k0) (k1:=k1) (k2:=k2) (k3:=k3) (k5:=k5) (mN:=mN)
  ycn (TL.hasType ycn.hasBase) (I.ok.hd hc) hpl hni (GV I hg T.m ⟨rfl,?_⟩ hdb)
 have h2:=ha cpos pins s σ H _ I h;rw[he]at h2 ⊢;exact Calls.evalArgs_plain (AR h2 λus s1 ⟨vs,H1,I1,r,z,q1⟩=>⟨rfl,r.length▸z,I1.bk _ _ hC,hN.keeps I1.bk,TL.keeps I1.bk,λh' a hm=>hx pins σ H1 s1 a _ us h' I1 hm q1⟩)
end
def Dv(H:Hp)(a C:Addr):Prop:=∃ob,H a=some (.frz ob (.own 0))/\ob.cls=.ref C/\∃vs,ob.data=.fields vs/\vs[2]?=some .none
theorem Dv.of{H F:Hp}{a C:Addr}(x:Dv H a C)(e:∀u,H a=some u->F a=some u):Dv F a C :=
 let ⟨ob,y,r⟩:=x;⟨ob,e _ y,r⟩
section
variable {K:kA}{a C:Addr}
open PySem.W PySem.Builtin PySem.Builtin.ObjectAttr PySem.Builtin.Getset_descriptor in
theorem zit{prog:Program}{w:World}{A:Around}{R:Result->Shared->Prop}{s:Shared}{tp:Value}(X:K.In s.heap)(k:ExcK K C)(h0:∃o,s.heap.get? a=some o/\o.cls=.ref C)
  (h:R (.ok (.ret (.ref C))) s):codeAny (model prog w) A (.call (.builtin "getset_descriptor.__get__") ⟨[.builtin "object.__class__",.ref a,tp],[]⟩) R s:=by
 obtain⟨o,ho,hc⟩:=h0;obtain⟨hp9,g,dr,t,os⟩:=s;have L0:Looks (model prog w) hp9 (typeOf (.ref a)) (.ref C):=hc▸(Looks.ld ho).andThen .now;have L1:=looks_mroIn (M:=model prog w) X k.ob;refine(yew KF.slot_gs.plain KF.entry_gs (KF.slot_gs.check _ _ _ _ _ _ _ _ KF.type_class (KF.args_gs _ _ _) ?_));unfold Builtin.«getset_descriptor.__get__» descrGet;rw[dga_obj];refine yec (yef ?_);unfold descrGetter descrCheckInstance descrNameAndClass isInstance;simp only[KF.owner_class]
 repeat lk
 refine⟨(Code.quiet_builtin _ (by decide +kernel)),(yex KF.entry_class ?_)⟩
 (unfold Builtin.«object.__class__» shownTypeOf)
 repeat lk
 exact h
open PySem.W PySem.Builtin PySem.Builtin.ObjectAttr in
theorem zfz{M:Model}{h:Heap}(X:K.In h)(k:ExcK K C):Looks M h (Builtin.ObjectAttr.find (.ref a) (.ref C) "__class__") (.bind (.builtin "getset_descriptor.__get__") (.builtin "object.__class__")):=by
 have L1:=looks_findIn (M:=M) X k.ca;have L2:Looks M h (getOf (some (.builtin "object.__class__"))) (some (.builtin "getset_descriptor.__get__")):=looks_specialIn X k.gs;have L3:=looks_takesIn (M:=M) X k.tk;exact L1.andThen (L2.andThen ((show Looks M h (dataDescriptor? (some (.builtin "object.__class__")) (some (.builtin "getset_descriptor.__get__"))) (some (.builtin "getset_descriptor.__get__",.builtin "object.__class__")) from L3.andThen .now).andThen (Looks.tag .now)))
theorem ze0:(Value.builtin "BaseException.__getattribute__" == Value.builtin "object.__getattribute__")=false:=by decide +kernel
theorem zfy:builtinKind "BaseException.__getattribute__"=some .slot:=by decide +kernel
theorem zdz:splitId "BaseException.__getattribute__"=some ("BaseException","__getattribute__"):=by decide +kernel
open PySem.W in
theorem zg0{prog:Program}{w:World}{A:Around}{E:Value->Shared->Prop}{Q:Option Value->Shared->Prop}{s:Shared}(X:K.In s.heap)(k:ExcK K C)(h0:∃o,s.heap.get? a=some o/\o.cls=.ref C)
  (h:Q (some (.ref C)) { s with toks:=s.toks+1 }):wpAny (model prog w) A (getAttr? (.ref a) "__class__") Q E s:=by
 obtain⟨o,ho,hc⟩:=id h0;obtain⟨hp9,g,dr,t,os⟩:=s;have L0:Looks (model prog w) hp9 (typeOf (.ref a)) (.ref C):=hc▸(Looks.ld ho).andThen .now;have L1:=looks_findIn (M:=model prog w) X k.ga;have L2:=looks_findIn (M:=model prog w) X k.gt;have LI:Looks (model prog w) hp9 (isInstance (.ref a) (.type "BaseException")) true:=L0.andThen (looks_mroIn X k.be);have LF:=zfz (M:=model prog w) (a:=a) X k
 (unfold getAttr? getAttrBy? getAttrBy)
 refine yec (wpAny_mkText (yec (wpAny_attempt (yed (yec (L0.at (yec (L1.at ?ga))))))))
 case ga =>
  have hx1:(onTheHeap (Value.ref C) && Value.builtin "BaseException.__getattribute__" == Value.builtin "object.__getattribute__")=false:=by
   rw[ze0]
   rfl
  dsimp only;rw[if_neg (by rw[hx1];exact ybc)]
  unfold getAttrByItsOwn hookBefore;rw[if_pos (show onTheHeap (Value.ref C)=true from rfl)];refine yec (L2.at (yec (wpAny_attempt (yed ?_))));unfold callGetattribute boundAndCalled;rw[if_neg (by exact ybc)]
  refine yec (yey (PySem.F.excAttr_ValueError.ga.bind (.ref a)) ?_);show wpAny _ _ (call (.builtin "BaseException.__getattribute__") [.ref a,.str "__class__" t]) _ _ _;refine yej (yew PySem.F.excAttr_ValueError.ga.plain PySem.F.entry_bexc_ga ?_);have ha:=PySem.F.args_bexc_ga (.ref a) (.str (Str.ofString "__class__") t);obtain⟨i,hi⟩:∃i,i="BaseException.__getattribute__":=⟨_,rfl⟩;have k1:=zfy;have k2:=zdz;rw[<- hi]at k1 k2 ha ⊢;refine PySem.W.check_slot k1 k2 LI ha ?_;refine yec (yef (yec (yef (yec (L0.at (yec (LF.at ?_)))))));show wpAny _ _ (holding [.builtin "object.__class__"] (call (.builtin "getset_descriptor.__get__") [.builtin "object.__class__",.ref a,.ref C]) >>= ret) _ _ _;refine yec (yed (yej (zit X k h0 ?_)));exact yef (handed_on rfl (yef h))
open PySem.W in
theorem zfd(k:ExcK K C):KitX K (.ref a) (.ref C) (λh=>∃o,h.get? a=some o/\o.cls=.ref C) where
 ty:=λ_ _ _ p=>by
  obtain⟨o,ho,hc⟩:=p;exact hc▸(Looks.ld ho).andThen .now
 it:=λ_ _ X _=>by
  obtain⟨cd,hcd⟩:=k.cd;unfold clsIn at hcd;split at hcd
  .rename_i c' d' cd' sl' ho;intro A' Q' E' s' kk q;unfold isType loadHead;exact(yec (wpAny_loadPart (kk _ _ (X _ _ ho)) (yef q)))
  .cases hcd
 ne:=λh tp dd its n sl X hq0=>by
  obtain⟨cd,hcd⟩:=k.cd;refine(yb4.mpr λq=>?_)
  have e:C=tp:=Value.ref.inj (beq_iff_eq.mp q);subst e;unfold clsIn at hcd;split at hcd
  .rename_i c' d' cd' sl' ho;have z:=(X _ _ ho).symm.trans hq0;cases z
  .cases hcd
 ca:=λX p kk=>zg0 X k p kk
end
def OL:V->Value
 |.ref C=>.ref C
 |.ty T=>.type T
 |_=>.none
section
variable {X:Cx}
theorem zfr:B3 X (.builtin "isinstance") (λxs H Q=>∃a C c b,xs=[.ref a,c]/\Dv H a C/\ExcK X.K C/\(∃D,c=.ref D\/∃T,c=.ty T)/\PySem.W.kitOne X.K (.ref C) (OL c)=some b/\Q (.bl b) H):=by
 intro pins s σ H xs us Q I r h;obtain⟨a,C,c,b,rfl,ho,k,hc,e,q⟩:=h;obtain⟨u,w',rfl,rx,ry⟩:=Gb r;cases rx
 have hv:w'=OL c:=by
  obtain⟨D,hc|⟨T,hc⟩⟩:=hc
  .subst hc;exact ry
  .subst hc;exact ry
 subst hv
 have p0:∃o,s.heap.get? a=some o/\o.cls=.ref C:=by
  obtain⟨ob,y,r,_⟩:=ho;exact⟨ob,(I.hok a _ y).1,r⟩
 exact yb8 (zfd k) I.kIn p0 e (λz=>nomatch z) λtk=>⟨.bl b,H,I.tok _,rfl,q⟩
end
noncomputable abbrev FE(X:Cx)(pins:List (Addr×Obj))(xe:Value->Shared->Prop):Cx:={ X with pn:=X.pn++pins,xe:=xe }
abbrev Cs(X:Cx)(a:Addr):Cx:={ X with A:=X.A.mark (some (.ref a)),calm:=false,xe:=λ_ _=>False }
section
variable {X:Cx}{pins:List (Addr×Obj)}{σ:L2.St}{H:Hp}{s:Shared}{xe:Value->Shared->Prop}
theorem zkl(ok:X.Ok):(FE X pins xe).Ok:=⟨ok.mod,ok.kind,ok.glob,ok.blt,ok.above,ok.inj,ok.has,ok.cab,ok.hd,ok.frames,ok.stk,ok.exf,ok.bs,ok.bsz,ok.noex,ok.exfs,ok.funs,ok.frf⟩
theorem zey{a:Addr}(ok:X.Ok):(Cs X a).Ok:=⟨ok.mod,ok.kind,ok.glob,ok.blt,ok.above,ok.inj,ok.has,ok.cab,λz=>Bool.noConfusion z,ok.frames,ok.stk,ok.exf,ok.bs,ok.bsz,ok.noex,ok.exfs,ok.funs,ok.frf⟩
theorem zlc(I:Inv X pins σ H s):Inv (FE X pins xe) [] σ H s:=⟨zkl I.ok,I.os,I.bare,I.base,I.loc,I.cell,I.free,I.freeC,λp hp=>I.pin p (by simpa using hp),I.hok,I.len⟩
theorem Qu{ok:X.Ok}{pn2:List (Addr×Obj)}(I:Inv (FE X pins xe) pn2 σ H s):Inv X pins σ H s:=⟨ok,I.os,I.bare,I.base,I.loc,I.cell,I.free,I.freeC,λp hp=>I.pin p (ybb _ hp),I.hok,I.len⟩
theorem TB{a:Addr}(I:Inv X pins σ H s):Inv (Cs X a) pins σ H s:=⟨zey I.ok,I.os,I.bare,I.base,I.loc,I.cell,I.free,I.freeC,I.pin,I.hok,I.len⟩
theorem zf0{a:Addr}(ok:X.Ok)(I:Inv (Cs X a) pins σ H s):Inv X pins σ H s:=⟨ok,I.os,I.bare,I.base,I.loc,I.cell,I.free,I.freeC,I.pin,I.hok,I.len⟩
theorem gone{i t:Nat}{n:Str}{v:Option Value}{m:Str->Option Value}{h':Heap}(I:Inv X pins σ H s)(hN:X.N.Nodup)(hi:X.N[i]?=some n)(hm:s.heap.Ns X.env.locals m)(hn:h'.Ns X.env.locals (λx=>if x=n then v else m x))
  (hs:Heap.SameBut X.env.locals s.heap h'):Inv X pins (σ.set i none) H { s with heap:=h',toks:=t }:=by
 have neL:∀b o,X.s₀.heap.get? b=some o->b≠X.env.locals:=λb o e=>yaw (yal (yae e) I.ok.above)
 have hok:HOk X.prog X.w H h':=λb u e=>(I.hok b u e).stay (λc x hc q=>(hs.2 c (λz=>by
   have f:=I.free
   rcases hc with y|y
   .rw[<- z,y,e]at f;cases f
   .rw[<- z,y]at f;cases f)).trans q) (λ_ q=>q) λ_ _ q=>q
 refine⟨I.ok,I.os,I.bare,⟨λb o e n hb hx=>(hs.2 b (neL b o e)).trans (I.base.keep b o e n hb hx),λb o e n hb hx=>?_,I.base.free,λb o e hx=>?_,I.base.tups,I.base.frzs,I.base.tbls⟩,⟨_,hn,λj y v' e1 e2 e3=>?_⟩,λy c e=>?_,I.free,I.freeC,λp hp=>?_,hok,by rw[yct];exact I.len⟩
 .obtain⟨z,e1⟩:=I.base.slot b o e n hb hx;exact⟨z,(hs.2 b (neL b o e)).trans e1⟩
 .obtain⟨o',e1⟩:=I.base.there b o e hx;exact⟨o',(hs.2 b (neL b o e)).trans e1⟩
 .have hj:j≠i:=λz=>by
   subst z
   have hl:j<σ.length:=by
    rw[I.len];exact(ya8.mp hi).1
   rw[yao hl]at e2;cases e2
  rw[yan (yb1 hj)]at e2;obtain⟨m2,hn2,hl2⟩:=I.loc;obtain⟨u,r,q⟩:=hl2 j y v' e1 e2 e3;refine⟨u,r,?_⟩
  rcases q with ⟨kk,e⟩|⟨kk,c,e,z⟩
  .refine .inl ⟨kk,?_⟩;have hy:y≠n:=λz=>hj (Mj hN e1 (z▸hi))
   have em:m2 y=m y:=by
    obtain⟨o1,es1,ep1,a1,b1,_,c1⟩:=hn2;obtain⟨o2,es2,ep2,a2,b2,_,c2⟩:=hm;rw[a1]at a2;cases a2;rw[b1]at b2;cases b2;rw[<- c1,<- c2]
   show(if y=n then v else m y)=some u
   rw[if_neg hy,<- em];exact e
  .exact .inr ⟨kk,c,e,z.sameBut hs (I.cne y c e)⟩
 .obtain⟨w',z⟩:=I.cell y c e;exact⟨w',z.sameBut hs (I.cne y c e)⟩
 .obtain⟨e,n,ne,nf,d⟩:=I.pin p hp;exact⟨(hs.2 p.1 ne).trans e,n,ne,nf,d⟩
end
def JB(a:Addr)(i:Nat)(X:Cx)(st:List Stmt)(t:TS):Prop:=∀(pins:List (Addr×Obj)) (s:Shared) (σ:L2.St) (H:Hp) (D:Ends),Inv X pins σ H s->σ[i]?=some (some (.ref a))->(∃C,Dv H a C)->t D σ H->wpAny (model X.prog X.w) X.A (execs st X.env) (SP X pins D) X.xe s
theorem pss_e{a:Addr}{i:Nat}{X:Cx}{st:List Stmt}{t:TS}(h:BD X st t):JB a i X st t:=λpins s σ H D I _ _ q=>h pins s σ H D I q
def TQ(i:Nat)(D:Ends):Ends:={ nx:=λσ H=>D.nx (σ.set i none) H,rt:=D.rt,bk:=λσ H=>D.bk (σ.set i none) H,ct:=λσ H=>D.ct (σ.set i none) H }
def tTry(K:kA)(W:Addr)(i:Nat)(E:L2.St->XK)(tb th:TS):TS:=λD σ H=>tb D σ H/\∀σ1 cls H1,E σ1 cls none H1->∃C,cls=.ref C/\PySem.W.subIn K (.ref C) (.ref W)=some true /\
 ∀a o,H1 a=none->Dv (upd H1 a o) a C->th (TQ i D) (σ1.set i (some (.ref a))) (upd H1 a o)
section
variable {A:Around}{E:Value->Shared->Prop}{M:Model}
theorem exm{h:Heap}{g:Array GenState}{d:Drawn}{t:Nat}{os:OsState}{a C W N:Addr}{oe:Obj}{Q:Bool->Shared->Prop}{nm q:Str}{bs bm:List Value}{hdct:Bool}{sn:List Str}{sub:List Value}{ab:Bool}{col:Option Bool}{dd:Option Addr}
  {k0 k1 k2 k3 k5:Option Value} {newId:String} (hW:h.get? W=some (excClassObj nm q W N bs bm hdct sn sub ab col dd k0 k1 k2 k3 k5 newId)) (he:h.get? a=some oe) (hcls:oe.cls=.ref C) (hb:bm.contains (.type "BaseException")=true)
  (LS:PySem.W.Looks M h (isSubtype (.ref C) (.ref W)) true) (hq:Q true ⟨h,g,d,t,os⟩):wpAny M A (excMatches (.ref a) (.ref W)) Q E ⟨h,g,d,t,os⟩:=by
 have hcB:(Value.ref W::bm).contains (.type "BaseException")=true:=by
  rw[List.contains_cons,hb];exact ycf _
 have f:=tc_notTuple;unfold excMatches
 repeat (first|(with_reducible refine wpAny_loadPart_at he ?_;rw[hcls])|with_reducible refine wpAny_loadPart_at hW ?_|(with_reducible refine wpAny_isSubtype_exc hW ?_;rw[hcB])|with_reducible refine PySem.W.Looks.at LS ?_|wp_step)
 exact hq
end
section
variable {X:Cx}{i:Nat}{x n:Str}{np pos hpos:Pos}{body suite:List Stmt}{b₀:Stmt}{tb th:TS}{E:L2.St->XK}
theorem zjr(T:ECls X.K X.mg x)(hst:X.stack=X.env::X.outer)(hf:X.env.frame=some X.env.locals)(hN:X.N.Nodup)(hi:X.N[i]?=some n)(hloc:X.env.scope.names.lookup n=some .local)
  (hb:∀pins xe,BI (FE X pins xe) E->BD (FE X pins xe) body tb) (hh:∀a,JB a i (Cs X a) (b₀::suite) th) (hg:Gl X x:=by rfl) (hdb:(x == ("__debug__":Str))=false:=by decide) :
  PS X (.Try body [.ExceptHandler (some (.Name x np)) (some n) (b₀::suite) hpos] [] [] pos) (tTry X.K T.C i E tb th):=by
 intro pins s σ H D I h;obtain⟨h1,h2⟩:=h
 have hkind:(X.env.scope.kind == .class || (X.env.scope.kind == .module && X.env.locals != X.env.globals))=false:=by
  rw[I.ok.kind]
  rfl
 refine wpAny_Try_except (ye9 (hb pins (λe s₁=>wpAny (model X.prog X.w) X.A (noteFrame e X.env) (λ_ s₂=>wpAny (model X.prog X.w) X.A (setFlight e none) (λ_ s₃=>wpAny (model X.prog X.w) X.A (handleBy e X.env [.ExceptHandler (some (.Name x np)) (some n) (b₀::suite) hpos]) (SP X pins D) X.xe s₃) X.xe s₂) X.xe s₁)
  ?pass [] s σ H D (zlc I) h1) (λf s1 q=>?_) (λe s1 q=>q))
 case pass =>
  intro pins1 σ1 H1 s1 e s' I1t hcx;have I1:Inv X pins σ1 H1 s1:=Qu (ok:=I.ok) I1t;obtain⟨a,cls,H',B,rfl,os,bare,un,hok,kB,tB,fl0,he⟩:=hcx;obtain⟨C,rfl,hsub,kk⟩:=h2 σ1 cls H' he;have fl1:Ga B (X.env::X.outer) a (.ref C) s'.heap:=hst▸fl0;have hfr:X.A.frames=some (X.env::X.outer):=hst▸I.ok.frames;have ha:H' a=none:=none_of hok fl1.choose_spec.2.1
  have sl:∀h',s'.heap.UpToSlots h'->∀b o,s1.heap.get? b=some o->H1 b=none->b∈Ax X.stack->∃z,h'.get? b=some { o with slots:=z }:=λh' sm b o e n hb=>by
   obtain⟨_,o2,ho2,hd⟩:=I1.stack.mem hb;rw[e]at ho2;cases ho2;obtain⟨z2,e2⟩:=un.slot b o e n hb (by simp)
   obtain⟨z3,e3⟩:=sm b { o with slots:=z2 } e2 hd
   exact⟨z3,e3⟩
  have th':∀h',B.StaysIn h'->s'.heap.UpToSlots h'->∀b o,s1.heap.get? b=some o->∃o',h'.get? b=some o':=λh' st sm b o e=>by
   by_cases hb:b∈Ax X.stack
   .obtain⟨z,q⟩:=sl h' sm b o e (I1.stkFree b hb) hb;exact⟨_,q⟩
   .obtain⟨o',q⟩:=tB b o e hb;exact⟨o',st b o' q⟩
  have inv5:∀h',B.StaysIn h'->s'.heap.UpToSlots h'->Inv X pins σ1 H' { s' with heap:=h' }:=λh' st sm =>
   I1.call' (s':={ s' with heap:=h' }) (ch:=[]) os ⟨λb o e n hb _=>st b o (kB b o e n hb),λb o e n hb _=>sl h' sm b o e n hb,un.free,λb o e _=>th' h' st sm b o e,un.tups,un.frzs,un.tbls⟩ (hok.kept st) bare (λ_ z=>nomatch z)
  refine Mh hfr rfl hf fl1 λh4 held4 sm4=>?_
  refine NF held4 λh5 fl5 sm5=>?_
  have sm45:=sm4.trans sm5;have I5:=inv5 h5 fl5.1 sm45;obtain⟨oe,he5,hc5⟩:=fl5.there;obtain⟨bm,N,nm,qn,bs,hd,sn,sub,ab,col,dd,k0,k1,k2,k3,k5,mN,hC,hNs,hni,TL⟩:=UJ I5.kIn T.k.q;refine wpAny_handleBy_cons (codeAny_handlers_test (GV (X:=Cs X a) (TB I5) hg T.m ?_ hdb)) (by intro q;cases q)
  refine exm hC he5 hc5 (TL.hasType ycn.hasBase) (PySem.W.looks_subIn I5.kIn hsub) ?_;refine codeAny_handlers_suite_as (zm0 fl5 λh6 fl6 sm6=>?_)
  have sm456:=sm45.trans sm6;obtain⟨oe6,ws6,he6,hc6,hd6,hz6⟩:=fl6.first
  have nea:∀b o,s1.heap.get? b=some o->H1 b=none->b≠a:=λb o e n z=>by
   by_cases hb:b∈Ax X.stack
   .obtain⟨_,o2,ho2,hd⟩:=I1.stack.mem hb;rw[e]at ho2;cases ho2;obtain⟨y,e2⟩:=sl h6 sm456 b o e n hb;rw[z,he6]at e2;cases e2;exact hd _ hd6
   .have e2:=kB b o e n hb;rw[z,fl6.2.1]at e2;cases e2
  have I6:Inv X pins σ1 (upd H' a (.frz oe6 (.own 0))) { s' with heap:=h6 }:=by
   refine I1.call' (s':={ s' with heap:=h6 }) (ch:=[]) os ⟨λb o e n hb _=>fl6.1 b o (kB b o e n hb),λb o e n hb _=>sl h6 sm456 b o e n hb,λb o e n hx=>(Ad (nea b o e n)).trans (un.free b o e n hx),λb o e _=>th' h6 fl6.1 sm456 b o e,λb xs e=>?_,λb o u e=>?_,λb ps e=>?_⟩
    (zm1 (hok.kept fl6.1) ha ⟨he6,oe6,he6⟩) bare (λ_ z=>nomatch z)
   .have q:=un.tups b xs e;exact(Ad (Be q ha)).trans q
   .have q:=un.frzs b o u e;exact(Ad (Be q ha)).trans q
   .obtain⟨more,q⟩:=un.tbls b ps e;exact⟨more,(Ad (Be q ha)).trans q⟩
  refine Ll (X:=Cs X a) (v:=.ref a) (TB I6) hN hi (.inl hloc) rfl (λs7 I7=>?_) (.inr hloc)
  refine ye9 (hh a pins s7 (σ1.set i (some (.ref a))) _ (TQ i D) I7 (yao (by rw[I1.len];exact(ya8.mp hi).1)) ⟨C,oe6,Bb,hc6,ws6,hd6,hz6⟩ (kk a _ ha ⟨oe6,Bb,hc6,ws6,hd6,hz6⟩)) (λf s8 q8=>?_) (λ_ _ z=>False.elim z)
  have Ar:∀σ8 H8,Inv (Cs X a) pins σ8 H8 s8->∀(G:Unit->Shared->Prop),(∀s9,Inv X pins (σ8.set i none) H8 s9->G () s9)->wpAny (model X.prog X.w) X.A (do bindName X.env n .none;unbindBehindTheSuite X.env n hpos) G X.xe s8:=λσ8 H8 I8 G hG=>by
   have J:=zf0 I.ok I8;obtain⟨m,hm,_⟩:=id J.loc;exact wpAny_nameGoes_keeps hloc hm hkind λh' v hn hs=>hG _ (gone J hN hi hm hn hs)
  cases f with
  |next =>
   obtain⟨σ8,H8,I8,d8⟩:=q8;exact Ar σ8 H8 I8 _ λs9 I9=>⟨_,H8,I9,d8⟩
  |brk =>
   obtain⟨σ8,H8,I8,d8⟩:=q8;exact Ar σ8 H8 I8 _ λs9 I9=>⟨_,H8,I9,d8⟩
  |cont =>
   obtain⟨σ8,H8,I8,d8⟩:=q8;exact Ar σ8 H8 I8 _ λs9 I9=>⟨_,H8,I9,d8⟩
  |ret u =>
   obtain⟨v,σ8,H8,I8,r8,d8⟩:=q8;exact Ar σ8 H8 I8 _ λs9 I9=>⟨v,_,H8,I9,r8,d8⟩
 have back:∀{xe0:Value->Shared->Prop} {σ':L2.St} {H':Hp},Inv (FE X pins xe0) [] σ' H' s1->Inv X pins σ' H' s1:=λJ=>Qu (ok:=I.ok) J
 cases f with
 |next =>
  obtain⟨σ',H',J,d⟩:=q;exact yeb ⟨σ',H',back J,d⟩
 |brk =>
  obtain⟨σ',H',J,d⟩:=q;exact⟨σ',H',back J,d⟩
 |cont =>
  obtain⟨σ',H',J,d⟩:=q;exact⟨σ',H',back J,d⟩
 |ret u =>
  obtain⟨v,σ',H',J,r,d⟩:=q;exact⟨v,σ',H',back J,r,d⟩
end
end Zx
namespace Pu
open PySem PySem.Spec PyProof.Rows L2 Zw Zx
abbrev Rg:=Addr->Prop
def R0:Rg:=λ_=>False
inductive Kd where
 |lst|rl|tup|rt|pin (p:Addr)
inductive Ob where
 |ins (C:Addr) (fs:List Str)|exn (C:Addr)|sdc (ks:List Str)
inductive T where
 |non|bl (b:Bool)|int (i:Int)|str (x:Str)|nd (o:Bool) (k:Kd) (l:List T)|dic (ks:List Int) (l:List T)|pdc (ks:List Int) (l:List T)|odc (ks:List Int) (l:List T)
 |obj (k:Ob) (l:List T)|oob (p C:Addr) (fs:List Str) (l:List T)|osd (ks:List Str) (l:List T)
abbrev T.lst(l:List T):T:=.nd false .lst l
noncomputable abbrev T.own(l:List T):T:=.nd true .lst l
noncomputable abbrev T.tup(l:List T):T:=.nd false .tup l
mutual
def T.share:T->T
 |.nd _ k l=>.nd false k (AV l)
 |.dic ks l=>.dic ks (AV l)
 |.pdc ks l=>.pdc ks (AV l)
 |.odc ks l=>.pdc ks (AV l)
 |.obj k l=>.obj k (AV l)
 |.oob _ C fs l=>.obj (.ins C fs) (AV l)
 |.osd ks l=>.obj (.sdc ks) (AV l)
 |.non=>.non
 |.bl b=>.bl b
 |.int i=>.int i
 |.str x=>.str x
def AV:List T->List T
 |[]=>[]
 |t::r=>t.share::AV r
end
mutual
def T.sh:T->Bool
 |.nd o _ l=>!o && A7 l
 |.dic _ l=>A7 l
 |.pdc _ l=>A7 l
 |.odc _ _=>false
 |.obj _ l=>A7 l
 |.oob _ _ _ _=>false
 |.osd _ _=>false
 |.non=>true
 |.bl _=>true
 |.int _=>true
 |.str _=>true
def A7:List T->Bool
 |[]=>true
 |t::r=>t.sh && A7 r
end
noncomputable def T.flat:T->Bool
 |.nd _ _ _=>false
 |.dic _ _=>false
 |.pdc _ _=>false
 |.odc _ _=>false
 |.obj _ _=>false
 |.oob _ _ _ _=>false
 |.osd _ _=>false
 |_=>true
theorem Dh:∀l:List T,AV l=l.map T.share
 |[]=>rfl
 |t::r=>by rw[AV,Dh r];rfl
theorem Hl:∀l:List T,A7 l=l.all T.sh
 |[]=>rfl
 |t::r=>by rw[A7,Hl r];rfl
mutual
theorem AN:∀t:T,t.sh=true->t.share=t
 |.nd o k l,h=>by
  rw[T.sh,ya1]at h;have ho:o=false:=by simpa using h.1
  subst ho;rw[T.share,AJ l h.2]
 |.dic ks l,h=>by
  rw[T.sh]at h;rw[T.share,AJ l h]
 |.pdc ks l,h=>by
  rw[T.sh]at h;rw[T.share,AJ l h]
 |.odc ks l,h=>by
  rw[T.sh]at h;cases h
 |.obj k l,h=>by
  rw[T.sh]at h;rw[T.share,AJ l h]
 |.oob p C fs l,h=>by
  rw[T.sh]at h;cases h
 |.osd ks l,h=>by
  rw[T.sh]at h;cases h
 |.non,_=>rfl
 |.bl _,_=>rfl
 |.int _,_=>rfl
 |.str _,_=>rfl
theorem AJ:∀l:List T,A7 l=true->AV l=l
 |[],_=>rfl
 |t::r,h=>by
  rw[A7,ya1]at h;rw[AV,AN t h.1,AJ r h.2]
end
theorem zge{l:List T}(h:A7 l=true){i:Nat}{t:T}(e:l[i]?=some t):t.sh=true:=by
 rw[Hl]at h;exact yam.mp h _ (ydn e)
def Ec(K:kA)(F:Hp)(k:Kd)(p:Addr)(xs:List V):Prop:=match k with
 |.lst=>F p=some (.lst xs)
 |.rl=>Ag K F p xs
 |.tup=>F p=some (.tup xs)
 |.rt=>BG K F p xs
 |.pin _=>F p=some (.lst xs)
theorem FX{K:kA}{F F':Hp}{p:Addr}{xs:List V}(s:AY F F')(h:BG K F p xs):BG K F' p xs:=by
 rcases h with (h|⟨o,h⟩)|h
 .exact .inl (.inl (s _ _ h))
 .exact .inl (.inr ⟨o,s _ _ h⟩)
 .exact .inr h
theorem Ec.same{K:kA}{F F':Hp}{k:Kd}{p:Addr}{xs:List V}(h:Ec K F k p xs)(s:AY F F'):Ec K F' k p xs:=by
 cases k with
 |lst=>exact s _ _ h
 |rl=>exact s.seq h
 |tup=>exact s _ _ h
 |rt=>exact FX s h
 |pin q=>exact s _ _ h
def H0(k:Kd)(p:Addr):Prop:=match k with
 |.lst=>True
 |.pin q=>q=p
 |_=>False
theorem H0.node{K:kA}{F:Hp}{k:Kd}{p:Addr}{xs:List V}(hk:H0 k p)(h:F p=some (.lst xs)):Ec K F k p xs:=by
 cases k with
 |lst=>exact h
 |pin q=>exact h
 |_=>exact hk.elim
def CT(ks:List Int)(xs:List V):List (Key×V):=List.zipWith (λk x=>(Sum.inl k,x)) ks xs
def DZ(ks:List Str)(xs:List V):List (Key×V):=List.zipWith (λk x=>(Sum.inr k,x)) ks xs
def JC(F:Hp)(k:Ob)(p:Addr)(xs:List V):Prop:=match k with
 |.ins C fs=>∃dx,F p=some (.ins C dx (fs.zip xs))
 |.exn C=>Dv F p C
 |.sdc ks=>ks.length=xs.length/\F p=some (.dK (DZ ks xs))
theorem JC.same{F F':Hp}{k:Ob}{p:Addr}{xs:List V}(h:JC F k p xs)(s:AY F F'):JC F' k p xs:=by
 cases k with
 |ins C fs=>exact h.elim λdx e=>⟨dx,s _ _ e⟩
 |exn C=>exact h.of λu=>s p u
 |sdc ks=>exact⟨h.1,s _ _ h.2⟩
inductive Rp(K:kA)(F H:Hp):T->V->Rg->Prop where
 |non:Rp K F H .non .non R0
 |bl (b:Bool):Rp K F H (.bl b) (.bl b) R0
 |int (i:Int):Rp K F H (.int i) (.int i) R0
 |str (x:Str):Rp K F H (.str x) (.str x) R0
 |shr {k:Kd} {p:Addr} {xs:List V} {l:List T} (h:Ec K F k p xs) (e:l.length=xs.length) (c:∀(i:Nat) (t:T) (x:V),l[i]?=some t->xs[i]?=some x->Rp K F H t x R0):Rp K F H (.nd false k l) (.ref p) R0
 |dic {p:Addr} {ob:Obj} {ks:List Int} {xs:List V} {l:List T} (h:F p=some (.frz ob (.dK (CT ks xs)))) (e:l.length=xs.length) (ek:ks.length=xs.length) (c:∀(i:Nat) (t:T) (x:V),l[i]?=some t->xs[i]?=some x->Rp K F H t x R0):Rp K F H (.dic ks l) (.ref p) R0
 |pdc {p:Addr} {ks:List Int} {xs:List V} {l:List T} (h:F p=some (.dK (CT ks xs))) (e:l.length=xs.length) (ek:ks.length=xs.length) (c:∀(i:Nat) (t:T) (x:V),l[i]?=some t->xs[i]?=some x->Rp K F H t x R0):Rp K F H (.pdc ks l) (.ref p) R0
 |odc {p:Addr} {ks:List Int} {xs:List V} {l:List T} (f:F p=none) (h:H p=some (.dK (CT ks xs))) (e:l.length=xs.length) (ek:ks.length=xs.length) (c:∀(i:Nat) (t:T) (x:V),l[i]?=some t->xs[i]?=some x->Rp K F H t x R0):Rp K F H (.odc ks l) (.ref p) (λa=>a=p)
 |obj {k:Ob} {p:Addr} {xs:List V} {l:List T} (h:JC F k p xs) (e:l.length=xs.length) (c:∀(i:Nat) (t:T) (x:V),l[i]?=some t->xs[i]?=some x->Rp K F H t x R0):Rp K F H (.obj k l) (.ref p) R0
 |oob {C p dx:Addr} {fs:List Str} {xs:List V} {l:List T} (R:Nat->Rg) (f:F p=none) (h:H p=some (.ins C dx (fs.zip xs))) (e:l.length=xs.length) (c:∀(i:Nat) (t:T) (x:V),l[i]?=some t->xs[i]?=some x->Rp K F H t x (R i))
   (d:∀i j a,i≠j->R i a->¬ R j a) (dp:∀i,¬ R i p) (o:∀i a,R i a->i<l.length):Rp K F H (.oob p C fs l) (.ref p) (λa=>a=p\/∃i,R i a)
 |osd {p:Addr} {ks:List Str} {xs:List V} {l:List T} (f:F p=none) (h:H p=some (.dK (DZ ks xs))) (e:l.length=xs.length) (ek:ks.length=xs.length) (c:∀(i:Nat) (t:T) (x:V),l[i]?=some t->xs[i]?=some x->Rp K F H t x R0):Rp K F H (.osd ks l) (.ref p) (λa=>a=p)
 |own {k:Kd} {p:Addr} {xs:List V} {l:List T} (hk:H0 k p) (R:Nat->Rg) (f:F p=none) (h:H p=some (.lst xs)) (e:l.length=xs.length) (c:∀(i:Nat) (t:T) (x:V),l[i]?=some t->xs[i]?=some x->Rp K F H t x (R i))
   (d:∀i j a,i≠j->R i a->¬ R j a) (dp:∀i,¬ R i p) (o:∀i a,R i a->i<l.length):Rp K F H (.nd true k l) (.ref p) (λa=>a=p\/∃i,R i a)
section
variable {K:kA}{F F' H H':Hp}{t:T}{x:V}{A:Rg}
theorem Rp.frame(h:Rp K F H t x A)(s:AY F F')(k:∀a,A a->H' a=H a/\F' a=none):Rp K F' H' t x A:=by
 induction h with
 |non=>exact .non
 |bl b=>exact .bl b
 |int i=>exact .int i
 |str y=>exact .str y
 |shr h e c ih=>exact .shr (h.same s) e λi t x h1 h2=>ih i t x h1 h2 λa z=>z.elim
 |dic h e ek c ih=>exact .dic (s _ _ h) e ek λi t x h1 h2=>ih i t x h1 h2 λa z=>z.elim
 |pdc h e ek c ih=>exact .pdc (s _ _ h) e ek λi t x h1 h2=>ih i t x h1 h2 λa z=>z.elim
 |odc f h e ek c ih =>
  have q:=k _ rfl;exact .odc q.2 (q.1.trans h) e ek λi t x h1 h2=>ih i t x h1 h2 λa z=>z.elim
 |obj h e c ih=>exact .obj (h.same s) e λi t x h1 h2=>ih i t x h1 h2 λa z=>z.elim
 |oob R f h e c d dp o ih =>
  have q:=k _ (.inl rfl);exact .oob R q.2 (q.1.trans h) e (λi t x h1 h2=>ih i t x h1 h2 λa z=>k a (.inr ⟨i,z⟩)) d dp o
 |osd f h e ek c ih =>
  have q:=k _ rfl;exact .osd q.2 (q.1.trans h) e ek λi t x h1 h2=>ih i t x h1 h2 λa z=>z.elim
 |own hk R f h e c d dp o ih =>
  have q:=k _ (.inl rfl);exact .own hk R q.2 (q.1.trans h) e (λi t x h1 h2=>ih i t x h1 h2 λa z=>k a (.inr ⟨i,z⟩)) d dp o
theorem Rp.dom(h:Rp K F H t x A){a:Addr}(ha:A a):F a=none/\∃u,H a=some u:=by
 induction h with
 |non=>exact ha.elim
 |bl b=>exact ha.elim
 |int i=>exact ha.elim
 |str y=>exact ha.elim
 |shr h e c ih=>exact ha.elim
 |dic h e ek c ih=>exact ha.elim
 |pdc h e ek c ih=>exact ha.elim
 |odc f h e ek c ih =>
  cases ha;exact⟨f,_,h⟩
 |obj h e c ih=>exact ha.elim
 |osd f h e ek c ih =>
  cases ha;exact⟨f,_,h⟩
 |@oob C p dx fs xs l R f h e c d dp o ih =>
  rcases ha with rfl|⟨i,z⟩
  .exact⟨f,_,h⟩
  .have hi:=o i a z;have hx:i<xs.length:=by omega
   exact ih i _ _ (ya0 hi) (ya0 hx) z
 |@own k0 p xs l hk R f h e c d dp o ih =>
  rcases ha with rfl|⟨i,z⟩
  .exact⟨f,_,h⟩
  .have hi:=o i a z;have hx:i<xs.length:=by omega
   exact ih i _ _ (ya0 hi) (ya0 hx) z
theorem Rp.share(h:Rp K F H t x A)(s:AY F F')(k:∀a u,A a->H a=some u->F' a=some u):Rp K F' H' t.share x R0:=by
 induction h with
 |non=>exact .non
 |bl b=>exact .bl b
 |int i=>exact .int i
 |str y=>exact .str y
 |@shr k0 p xs l h e c ih =>
  rw[T.share,Dh];refine .shr (h.same s) (by rw[ya5];exact e) λi t x h1 h2=>?_
  rw[ya7]at h1;obtain⟨t0,e0,rfl⟩:=ya2.mp h1;exact ih i t0 x e0 h2 λa u z=>z.elim
 |@dic p ob ks xs l h e ek c ih =>
  rw[T.share,Dh];refine .dic (s _ _ h) (by rw[ya5];exact e) ek λi t x h1 h2=>?_
  rw[ya7]at h1;obtain⟨t0,e0,rfl⟩:=ya2.mp h1;exact ih i t0 x e0 h2 λa u z=>z.elim
 |@pdc p ks xs l h e ek c ih =>
  rw[T.share,Dh];refine .pdc (s _ _ h) (by rw[ya5];exact e) ek λi t x h1 h2=>?_
  rw[ya7]at h1;obtain⟨t0,e0,rfl⟩:=ya2.mp h1;exact ih i t0 x e0 h2 λa u z=>z.elim
 |@odc p ks xs l f h e ek c ih =>
  rw[T.share,Dh];refine .pdc (k _ _ rfl h) (by rw[ya5];exact e) ek λi t x h1 h2=>?_
  rw[ya7]at h1;obtain⟨t0,e0,rfl⟩:=ya2.mp h1;exact ih i t0 x e0 h2 λa u z=>z.elim
 |@obj k0 p xs l h e c ih =>
  rw[T.share,Dh];refine .obj (h.same s) (by rw[ya5];exact e) λi t x h1 h2=>?_
  rw[ya7]at h1;obtain⟨t0,e0,rfl⟩:=ya2.mp h1;exact ih i t0 x e0 h2 λa u z=>z.elim
 |@oob C p dx fs xs l R f h e c d dp o ih =>
  rw[T.share,Dh];refine .obj (k:=.ins C fs) (xs:=xs) ⟨dx,k _ _ (.inl rfl) h⟩ (by rw[ya5];exact e) λi t x h1 h2=>?_
  rw[ya7]at h1;obtain⟨t0,e0,rfl⟩:=ya2.mp h1;exact ih i t0 x e0 h2 λa u z=>k a u (.inr ⟨i,z⟩)
 |@osd p ks xs l f h e ek c ih =>
  rw[T.share,Dh];refine .obj (k:=.sdc ks) (xs:=xs) ⟨ek,k _ _ rfl h⟩ (by rw[ya5];exact e) λi t x h1 h2=>?_
  rw[ya7]at h1;obtain⟨t0,e0,rfl⟩:=ya2.mp h1;exact ih i t0 x e0 h2 λa u z=>z.elim
 |@own k0 p xs l hk R f h e c d dp o ih =>
  rw[T.share,Dh];refine .shr (k:=k0) (xs:=xs) (hk.node (k _ _ (.inl rfl) h)) (by rw[ya5];exact e) λi t x h1 h2=>?_
  rw[ya7]at h1;obtain⟨t0,e0,rfl⟩:=ya2.mp h1;exact ih i t0 x e0 h2 λa u z=>k a u (.inr ⟨i,z⟩)
theorem Rp.r0(h:Rp K F H t x A)(s:t.sh=true):A=R0:=by
 cases h with
 |own hk R f h e c d dp o =>
  rw[T.sh]at s;cases s
 |odc f h e ek c =>
  rw[T.sh]at s;cases s
 |oob R f h e c d dp o =>
  rw[T.sh]at s;cases s
 |osd f h e ek c =>
  rw[T.sh]at s;cases s
 |_=>rfl
theorem Rp.move(h:Rp K F H t x A)(s:t.sh=true)(q:AY F F'):Rp K F' H' t x R0:=by
 have e:=h.r0 s;subst e;exact h.frame q λa z=>z.elim
theorem Rp.flat_any(h:Rp K F H t x A)(s:t.flat=true):Rp K F' H' t x R0:=by
 cases h with
 |non=>exact .non
 |bl b=>exact .bl b
 |int i=>exact .int i
 |str y=>exact .str y
 |shr h e c=>cases s
 |dic h e ek c=>cases s
 |pdc h e ek c=>cases s
 |odc f h e ek c=>cases s
 |obj h e c=>cases s
 |oob R f h e c d dp o=>cases s
 |osd f h e ek c=>cases s
 |own hk R f h e c d dp o=>cases s
theorem Rp.int_inv{i:Int}(h:Rp K F H (.int i) x A):x=.int i:=by cases h;rfl
theorem Rp.bl_inv{b:Bool}(h:Rp K F H (.bl b) x A):x=.bl b:=by cases h;rfl
theorem Rp.non_inv(h:Rp K F H .non x A):x=.non:=by cases h;rfl
theorem Rp.str_inv{y:Str}(h:Rp K F H (.str y) x A):x=.str y:=by cases h;rfl
end
def Ae(K:kA)(F:Hp)(ts:List T)(xs:List V):Prop:=ts.length=xs.length/\∀(i:Nat) (t:T) (x:V),ts[i]?=some t->xs[i]?=some x->Rp K F F t x R0
theorem Ae.nil{K:kA}{F:Hp}:Ae K F [] []:=⟨rfl,λi t x h=>by simp at h⟩
theorem Rp.any{K:kA}{F H H':Hp}{t:T}{x:V}(h:Rp K F H t x R0):Rp K F H' t x R0:=h.frame (AY.refl F) λa z=>z.elim
theorem Ae.cons{K:kA}{F H:Hp}{t:T}{x:V}{ts:List T}{xs:List V}(h:Rp K F H t x R0)(r:Ae K F ts xs):Ae K F (t::ts) (x::xs):=by
 refine⟨by simp[r.1],λi t' x' h1 h2=>?_⟩
 cases i with
 |zero =>
  simp at h1 h2;subst h1;subst h2;exact h.any
 |succ j=>exact r.2 j t' x' (by simpa using h1) (by simpa using h2)
theorem Ae.inv{K:kA}{F:Hp}{t:T}{ts:List T}{xs:List V}(r:Ae K F (t::ts) xs):∃x xs',xs=x::xs'/\Rp K F F t x R0/\Ae K F ts xs':=by
 obtain⟨e,h⟩:=r;cases xs with
 |nil=>simp at e
 |cons x xs'=>exact⟨x,xs',rfl,h 0 t x rfl rfl,by simpa using e,λi t' x' h1 h2=>h (i+1) t' x' (by simpa using h1) (by simpa using h2)⟩
theorem Ae.inv0{K:kA}{F:Hp}{xs:List V}(r:Ae K F [] xs):xs=[]:=by
 obtain⟨e,h⟩:=r;cases xs with
 |nil=>rfl
 |cons x xs'=>simp at e
theorem Ae.same{K:kA}{F F':Hp}{ts:List T}{xs:List V}(r:Ae K F ts xs)(s:AY F F'):Ae K F' ts xs:=⟨r.1,λi t x h1 h2=>((r.2 i t x h1 h2).frame (H':=F') s λa z=>z.elim)⟩
theorem Ae.node{K:kA}{F H:Hp}{k:Kd}{p:Addr}{l:List T}{A:Rg}(h:Rp K F H (.nd false k l) (.ref p) A):∃xs,Ec K F k p xs/\Ae K F l xs:=by
 cases h with
 |shr h e c=>exact⟨_,h,e,λi t x h1 h2=>(c i t x h1 h2).any⟩
theorem Rp.ref_inv{K:kA}{F H:Hp}{o:Bool}{k:Kd}{l:List T}{x:V}{A:Rg}(h:Rp K F H (.nd o k l) x A):∃p,x=.ref p:=by
 cases h with
 |shr h e c=>exact⟨_,rfl⟩
 |own hk R f h e c d dp o=>exact⟨_,rfl⟩
theorem Ae.of_node{K:kA}{F H:Hp}{k:Kd}{p:Addr}{l:List T}{xs:List V}(h:Ec K F k p xs)(r:Ae K F l xs):Rp K F H (.nd false k l) (.ref p) R0:=.shr h r.1 λi t x h1 h2=>(r.2 i t x h1 h2).any
structure Ext(F H F' H':Hp)(B:Rg):Prop where
 hh:AY H H'
 ff:AY F F'
 fh:AY F' H'
 nb:∀b,B b->H b=none
 nf:∀b u,F' b=some u->F b=some u\/H b=none
theorem Es{H H':Hp}(s:AY H H'){b:Addr}(h:H' b=none):H b=none:=by
 cases e:H b with
 |none=>rfl
 |some u=>rw[s b u e]at h;cases h
section
variable {F H F1 H1 F2 H2:Hp}{B C:Rg}
theorem Ext.refl(s:AY F H):Ext F H F H R0:=⟨.refl _,.refl _,s,λ_ z=>z.elim,λ_ _ e=>.inl e⟩
theorem Ext.trans(a:Ext F H F1 H1 B)(b:Ext F1 H1 F2 H2 C):Ext F H F2 H2 (λx=>B x\/C x) where
 hh:=a.hh.trans b.hh
 ff:=a.ff.trans b.ff
 fh:=b.fh
 nb:=λx z=>z.elim (a.nb x) λz=>Es a.hh (b.nb x z)
 nf:=λx u e=>(b.nf x u e).elim (a.nf x u) λz=>.inr (Es a.hh z)
theorem Ext.mono(a:Ext F H F1 H1 B)(h:∀x,C x->B x):Ext F H F1 H1 C:=⟨a.hh,a.ff,a.fh,λx z=>a.nb x (h x z),a.nf⟩
theorem Ext.trans0(a:Ext F H F1 H1 R0)(b:Ext F1 H1 F2 H2 C):Ext F H F2 H2 C:=(a.trans b).mono λx z=>.inr z
open Classical in
def frz(F H:Hp)(A:Rg):Hp:=λb=>if A b then H b else F b
theorem Fg{A:Rg}{b:Addr}(h:A b):frz F H A b=H b:=by unfold frz;rw[if_pos h]
theorem FD{A:Rg}{b:Addr}(h:¬ A b):frz F H A b=F b:=by unfold frz;rw[if_neg h]
theorem EF{A:Rg}(n:∀a,A a->F a=none):AY F (frz F H A):=λb u e=>by
 by_cases h:A b
 .rw[n b h]at e;cases e
 .rw[FD h];exact e
theorem HJ{A:Rg}(s:AY F H):AY (frz F H A) H:=λb u e=>by
 by_cases h:A b
 .rw[Fg h]at e;exact e
 .rw[FD h]at e;exact s b u e
theorem Ext.frz(a:Ext F H F1 H1 B)(n:∀b,B b->F1 b=none):Ext F H (frz F1 H1 B) H1 R0 where
 hh:=a.hh
 ff:=a.ff.trans (EF n)
 fh:=HJ a.fh
 nb:=λ_ z=>z.elim
 nf:=λb u e=>by
  by_cases h:B b
  .exact .inr (a.nb b h)
  .rw[FD h]at e;exact a.nf b u e
theorem Rp.ext{K:kA}{t:T}{x:V}{A:Rg}(h:Rp K F H t x A)(a:Ext F H F1 H1 B):Rp K F1 H1 t x A:=h.frame a.ff λb z=>by
 obtain⟨f,u,e⟩:=h.dom z;refine⟨(a.hh b u e).trans e.symm,?_⟩;cases q:F1 b with
 |none=>rfl
 |some u' =>
  rcases a.nf b u' q with z|z
  .rw[f]at z;cases z
  .rw[e]at z;cases z
theorem Rp.apart{K:kA}{t:T}{x:V}{A:Rg}(h:Rp K F H t x A)(a:Ext F H F1 H1 B){b:Addr}(hb:B b):¬ A b:=λz=>by
 obtain⟨f,u,e⟩:=h.dom z;rw[a.nb b hb]at e;cases e
theorem Ext.new{p:Addr}{o:HO}(s:AY F H)(h:H p=none):Ext F H (upd F p o) (upd H p o) R0 where
 hh:=Jh h o
 ff:=Jh (Es s h) o
 fh:=λb u e=>by
  by_cases hb:b=p
  .subst hb;rw[Bb]at e ⊢;exact e
  .rw[Ad hb]at e ⊢;exact s b u e
 nb:=λ_ z=>z.elim
 nf:=λb u e=>by
  by_cases hb:b=p
  .subst hb;exact .inr h
  .rw[Ad hb]at e;exact .inl e
theorem Ext.newO{p:Addr}{o:HO}(s:AY F H)(h:H p=none):Ext F H F (upd H p o) (λa=>a=p) where
 hh:=Jh h o
 ff:=.refl _
 fh:=λb u e=>Jh h o b u (s b u e)
 nb:=λb z=>by rw[z];exact h
 nf:=λb u e=>.inl e
end
abbrev AE:=List (Option T)
structure StR(K:kA)(F H:Hp)(σ:L2.St)(τ:AE)(R:Nat->Rg):Prop where
 fh:AY F H
 len:σ.length=τ.length
 rep:∀i t,τ[i]?=some (some t)->∃x,σ[i]?=some (some x)/\Rp K F H t x (R i)
 out:∀i a,R i a->∃t,τ[i]?=some (some t)
 dis:∀i j a,i≠j->R i a->¬ R j a
section
variable {K:kA}{F H F1 H1:Hp}{σ:L2.St}{τ:AE}{R:Nat->Rg}{B:Rg}
theorem StR.dom(h:StR K F H σ τ R){i:Nat}{a:Addr}(ha:R i a):F a=none/\∃u,H a=some u:=by
 obtain⟨t,e⟩:=h.out i a ha;obtain⟨x,_,r⟩:=h.rep i t e;exact r.dom ha
theorem StR.ext(h:StR K F H σ τ R)(a:Ext F H F1 H1 B):StR K F1 H1 σ τ R where
 fh:=a.fh
 len:=h.len
 rep:=λi t e=>by
  obtain⟨x,e1,r⟩:=h.rep i t e;exact⟨x,e1,r.ext a⟩
 out:=h.out
 dis:=h.dis
theorem StR.apart(h:StR K F H σ τ R)(a:Ext F H F1 H1 B){b:Addr}(hb:B b)(i:Nat):¬ R i b:=λz=>by
 obtain⟨f,u,e⟩:=h.dom z;rw[a.nb b hb]at e;cases e
end
def Sn:Key->PyData
 |.inl i=>.int i
 |.inr x=>.str x
mutual
def T.data:T->PyData
 |.non=>.none
 |.bl b=>.bool b
 |.int i=>.int i
 |.str x=>.str x
 |.nd _ .lst l=>.list (Au l)
 |.nd _ .rl l=>.list (Au l)
 |.nd _ .tup l=>.tuple (Au l)
 |.nd _ .rt l=>.tuple (Au l)
 |.nd _ (.pin _) l=>.list (Au l)
 |.dic ks l=>.dict ((ks.map PyData.int).zip (Au l))
 |.pdc ks l=>.dict ((ks.map PyData.int).zip (Au l))
 |.odc ks l=>.dict ((ks.map PyData.int).zip (Au l))
 |.obj _ _=>.none
 |.oob _ _ _ _=>.none
 |.osd _ _=>.none
def Au:List T->List PyData
 |[]=>[]
 |t::r=>t.data::Au r
end
mutual
def T.pln:T->Bool
 |.nd _ _ l=>DF l
 |.dic _ l=>DF l
 |.pdc _ l=>DF l
 |.odc _ l=>DF l
 |.obj _ _=>false
 |.oob _ _ _ _=>false
 |.osd _ _=>false
 |.non=>true
 |.bl _=>true
 |.int _=>true
 |.str _=>true
def DF:List T->Bool
 |[]=>true
 |t::r=>t.pln && DF r
end
theorem Dz:∀{l:List T},DF l=true->∀{i:Nat} {t:T},l[i]?=some t->t.pln=true
 |[],_,i,t,e=>by simp at e
 |a::r,h,i,t,e=>by
  rw[DF,ya1]at h;cases i with
  |zero =>
   simp at e;subst e;exact h.1
  |succ i=>exact Dz h.2 (by simpa using e)
theorem QC{h:Heap}:∀{l:List T} {us:List Value},l.length=us.length->(∀(i:Nat) (t:T) (u:Value),l[i]?=some t->us[i]?=some u->∃as,Reads h u t.data as)->∃as,ReadsAll h us (Au l) as
 |[],[],_,_=>⟨_,.nil⟩
 |[],_::_,e,_=>by simp at e
 |_::_,[],e,_=>by simp at e
 |t::l,u::us,e,f=>by
  obtain⟨a1,r1⟩:=f 0 t u rfl rfl;obtain⟨a2,r2⟩:=QC (l:=l) (us:=us) (by simpa using e) λi t' u' h1 h2=>f (i+1) t' u' (by simpa using h1) (by simpa using h2)
  exact⟨_,.cons r1 r2⟩
theorem NK{P:Program}{w:World}{h:Heap}{k:Key}{v:Value}(e:(Bi P w).is k v=true):Reads h v (Sn k) []:=by
 rcases ED (show FA k v=true from e) with ⟨i,t,rfl,rfl⟩|⟨x,t,rfl,rfl⟩
 .exact .int i t
 .exact .str x t
theorem Jq{h:Heap}:∀(ks:List Int) (xs:List V) (l:List T) (vs:List (Key×Value)),KV (CT ks xs) vs->l.length=xs.length->ks.length=xs.length->(∀(i:Nat) (t:T) (x:V),l[i]?=some t->xs[i]?=some x->∀{u:Value},RelV x u->∃as,Reads h u t.data as) ->
  ∃bs,PyProof.V.PairsRead h Sn vs ((ks.map PyData.int).zip (Au l)) bs
 |[],xs,l,vs,r,_,_,_=>by
  have r':Paired _ [] vs:=(show Paired _ (CT [] xs) vs from r);cases r';exact⟨_,.nil⟩
 |k::ks,[],l,vs,r,_,ek,_=>by simp at ek
 |k::ks,x::xs,[],vs,r,e,_,_=>by simp at e
 |k::ks,x::xs,t::l,vs,r,e,ek,f=>by
  have r':Paired (λ(p:Key×V) (q:Key×Value)=>p.1=q.1/\RelV p.2 q.2) ((Sum.inl k,x)::CT ks xs) vs:=r
  cases r' with
  |@cons _ q _ qs hd tl =>
   obtain⟨a1,r1⟩:=f 0 t x rfl rfl hd.2;obtain⟨a2,r2⟩:=Jq ks xs l qs tl (by simpa using e) (by simpa using ek) λi t' x' h1 h2=>f (i+1) t' x' (by simpa using h1) (by simpa using h2)
   obtain⟨q1,q2⟩:=q;cases (show Sum.inl k=q1 from hd.1);exact⟨_,.cons r1 r2⟩
section
variable {X:Cx}{pins:List (Addr×Obj)}{σ:L2.St}{F H:Hp}{s:Shared}
theorem EV(I:Inv X pins σ H s)(fh:AY F H){t:T}{x:V}{A:Rg}(h:Rp X.K F H t x A)(hpl:t.pln=true):∀{u:Value},RelV x u->∃as,Reads s.heap u t.data as:=by
 have kids:∀{l:List T} {xs:List V} {its:List Value},AU xs its->l.length=xs.length->(∀(i:Nat) (t:T) (x:V),l[i]?=some t->xs[i]?=some x->∀{u:Value},RelV x u->∃as,Reads s.heap u t.data as)->∃as,ReadsAll s.heap its (Au l) as:=by
  intro l xs its r e ih;refine QC (e.trans r.length) λi t u h1 h2=>?_
  have hi:i<xs.length:=by
   have:=(ya8.mp h1).1
   omega
  obtain⟨u',e1,r1⟩:=r.get (ya0 hi);rw[h2]at e1;cases e1;exact ih i t _ h1 (ya0 hi) r1
 have lsts:∀{p:Addr} {l:List T} {xs:List V},Ag X.K H p xs->l.length=xs.length->(∀(i:Nat) (t:T) (x:V),l[i]?=some t->xs[i]?=some x->∀{u:Value},RelV x u->∃as,Reads s.heap u t.data as)->∃as,Reads s.heap (.ref p) (.list (Au l)) as:=by
  intro p l xs hq e ih;obtain⟨its,r,⟨o,n,e1,e2,e3,e4⟩,_⟩:=I.list hq;obtain⟨as,ra⟩:=kids r e ih;exact⟨_,.list e1 e2 e4 (by simpa using ra)⟩
 have tups:∀{p:Addr} {l:List T} {xs:List V},BG X.K H p xs->l.length=xs.length->(∀(i:Nat) (t:T) (x:V),l[i]?=some t->xs[i]?=some x->∀{u:Value},RelV x u->∃as,Reads s.heap u t.data as)->∃as,Reads s.heap (.ref p) (.tuple (Au l)) as:=by
  intro p l xs hq e ih;obtain⟨its,r,⟨o,e1,e2,n,e4⟩,_⟩:=I.tuple hq;obtain⟨as,ra⟩:=kids r e ih;exact⟨_,.tuple e1 e2 e4 (by simpa using ra)⟩
 induction h with
 |non=>intro u r;cases r;exact⟨_,.none⟩
 |bl b=>intro u r;cases r;exact⟨_,.bool b⟩
 |int i=>intro u r;obtain⟨t,rfl⟩:=r;exact⟨_,.int i t⟩
 |str y=>intro u r;obtain⟨t,rfl⟩:=r;exact⟨_,.str y t⟩
 |@shr k p xs l h e c ih =>
  intro u r;cases r;cases k with
  |lst=>exact lsts (Ag.of (fh _ _ h)) e λi t x h1 h2=>ih i t x h1 h2 (Dz hpl h1)
  |rl=>exact lsts (fh.seq h) e λi t x h1 h2=>ih i t x h1 h2 (Dz hpl h1)
  |tup=>exact tups (BG.of (fh _ _ h)) e λi t x h1 h2=>ih i t x h1 h2 (Dz hpl h1)
  |rt=>exact tups (FX fh h) e λi t x h1 h2=>ih i t x h1 h2 (Dz hpl h1)
  |pin q=>exact lsts (Ag.of (fh _ _ h)) e λi t x h1 h2=>ih i t x h1 h2 (Dz hpl h1)
 |@dic p ob ks xs l h e ek c ih =>
  intro u r;cases r;obtain⟨ho,z,hd,vs,rel,dd⟩:=(show BJ X.prog X.w H s.heap p (.frz ob (.dK (CT ks xs))) from I.hok p _ (fh _ _ h));obtain⟨bs,pr⟩:=Jq ks xs l vs rel e ek λi t x h1 h2=>ih i t x h1 h2 (Dz hpl h1)
  exact⟨_,yd9 (λk v q=>NK q) dd pr⟩
 |@pdc p ks xs l h e ek c ih =>
  intro u r;cases r;obtain⟨z,hd,vs,rel,dd⟩:=(show BJ X.prog X.w H s.heap p (.dK (CT ks xs)) from I.hok p _ (fh _ _ h));obtain⟨bs,pr⟩:=Jq ks xs l vs rel e ek λi t x h1 h2=>ih i t x h1 h2 (Dz hpl h1)
  exact⟨_,yd9 (λk v q=>NK q) dd pr⟩
 |@odc p ks xs l f h e ek c ih =>
  intro u r;cases r;obtain⟨z,hd,vs,rel,dd⟩:=(show BJ X.prog X.w H s.heap p (.dK (CT ks xs)) from I.hok p _ h);obtain⟨bs,pr⟩:=Jq ks xs l vs rel e ek λi t x h1 h2=>ih i t x h1 h2 (Dz hpl h1)
  exact⟨_,yd9 (λk v q=>NK q) dd pr⟩
 |obj h e c ih=>cases hpl
 |oob R f h e c d dp o ih=>cases hpl
 |osd f h e ek c ih=>cases hpl
 |@own k0 p xs l hk R f h e c d dp o ih =>
  intro u r;cases r;cases k0 with
  |lst=>exact lsts (Ag.of h) e λi t x h1 h2=>ih i t x h1 h2 (Dz hpl h1)
  |pin q=>exact lsts (Ag.of h) e λi t x h1 h2=>ih i t x h1 h2 (Dz hpl h1)
  |_=>exact hk.elim
end
noncomputable def BZ(t:T):Bool:=t.pln && t.data.canLay0
def Fh(t u:T):Bool:=PyData.eqv t.data u.data
def Dq(t u:T):Bool:=BZ t && BZ u && decide (min t.data.depth u.data.depth<=60)
def BH(t u:T):Option T:=if Dq t u then some (.bl (Fh t u)) else none
def d0:T->Bool
 |.dic [] []=>true
 |_=>false
def FJ:List T->List T->Bool
 |[],[]=>true
 |a::r,b::q=>(BZ a && BZ b && decide (min a.data.depth b.data.depth<=60) && PyData.eqv a.data b.data || d0 a && d0 b) && FJ r q
 |_,_=>false
def Ml(t u:T):Option T:=match t,u with
 |.nd _ .lst l,.nd _ .lst m=>if FJ l m then some (.bl false) else none
 |_,_=>none
def Cc(t u:T):Option T:=if Dq t u then some (.bl (!Fh t u)) else Ml t u
def Fe(t:T)(l:List T):Bool:=BZ t && (DF l && PyData.canLayAll0 (Au l)) && decide (min (PyData.depthAll (Au l)) t.data.depth<=60)
def K7(t:T)(l:List T):Bool:=(Au l).any λy=>PyData.eqv y t.data
def NV(t:T)(y:Str):Option T:=match t with
 |.str x=>some (.bl (!(Builtin.Str.occurrences y x 0 y.length 1).isEmpty))
 |_=>none
def Ce(t c:T):Option T:=match c with
 |.nd _ _ l=>if Fe t l then some (.bl (K7 t l)) else none
 |.str y=>NV t y
 |_=>none
def GK(t c:T):Option T:=match c with
 |.nd _ _ l=>if Fe t l then some (.bl (!K7 t l)) else none
 |_=>none
def CF(K:kA)(F H:Hp)(v:T)(Q:VK):Prop:=∀F' H' z C,Ext F H F' H' C->Rp K F' H' v z C->Q z H'
def BU(K:kA)(g:T->T->Option T):R2:=λx y H Q=>∃F t u v,AY F H/\Rp K F F t x R0/\Rp K F F u y R0/\g t u=some v/\CF K F H v Q
def Jp(K:kA)(g:T->Option T):V->Hp->VK->Prop:=λx H Q=>∃F t v,AY F H/\Rp K F F t x R0/\g t=some v/\CF K F H v Q
def DE(K:kA)(g:List T->Option T):List V->Hp->VK->Prop:=λxs H Q=>∃F ts v,AY F H/\Ae K F ts xs/\g ts=some v/\CF K F H v Q
section
variable {K:kA}{F H:Hp}{Q:VK}
theorem CF.int{i:Int}(q:CF K F H (.int i) Q)(s:AY F H):Q (.int i) H:=q F H _ _ (Ext.refl s) (.int i)
theorem CF.bl{b:Bool}(q:CF K F H (.bl b) Q)(s:AY F H):Q (.bl b) H:=q F H _ _ (Ext.refl s) (.bl b)
theorem CF.str{x:Str}(q:CF K F H (.str x) Q)(s:AY F H):Q (.str x) H:=q F H _ _ (Ext.refl s) (.str x)
theorem CF.non(q:CF K F H .non Q)(s:AY F H):Q .non H:=q F H _ _ (Ext.refl s) .non
theorem CF.list{l:List T}{xs:List V}(q:CF K F H (.own l) Q)(s:AY F H)(r:Ae K F l xs){p:Addr}(hp:H p=none):Q (.ref p) (upd H p (.lst xs)):=by
 refine q F (upd H p (.lst xs)) (.ref p) _ ((Ext.newO s hp).mono ?_) (.own (k:=.lst) (xs:=xs) trivial (λ_=>R0) (Es s hp) Bb r.1 (λi t x h1 h2=>?_) (λ_ _ _ _ z=>z.elim) (λ_ z=>z) (λ_ _ z=>z.elim))
 .rintro a (z|⟨i,z⟩)
  .exact z
  .exact z.elim
 .exact(r.2 i t x h1 h2).any
theorem CF.tuple{l:List T}{xs:List V}(q:CF K F H (.tup l) Q)(s:AY F H)(r:Ae K F l xs){p:Addr}(hp:H p=none):Q (.ref p) (upd H p (.tup xs)):=by
 have e:=Ext.new (o:=.tup xs) s hp;exact q _ _ _ _ e (Ae.of_node (k:=.tup) Bb (r.same e.ff))
theorem CF.same{t:T}{x:V}(q:CF K F H t Q)(s:AY F H)(r:Rp K F F t x R0):Q x H:=q F H x _ (Ext.refl s) r.any
end
def GA(i:Int):Bool:=@decide (-(2 ^ 64)<i/\i<2 ^ 64) (Classical.propDecidable _)
def BN(i:Int):Bool:=@decide (-(10 ^ 70)<i/\i<10 ^ 70) (Classical.propDecidable _)
def KZ(k:Int):Bool:=@decide (k<2 ^ 63/\-(2 ^ 63)<=k) (Classical.propDecidable _)
def GN(i j:Int):Bool:=GA i || GA j || (BN i && BN j)
noncomputable def AQ:Nat:=16777216
def Ai:T->T->Option T
 |.int i,.int j=>some (.int (i+j))
 |.str x,.str y=>if x.length+y.length<=AQ then some (.str (x++y)) else none
 |.nd _ .lst l,.nd _ .lst m=>if l.length+m.length<=AQ then some (.own (l++m)) else none
 |.nd _ .tup l,.nd _ .tup m=>if l.length+m.length<=AQ then some (.tup (l++m)) else none
 |_,_=>none
def Fz:T->T->Option T
 |.int i,.int j=>some (.int (i - j))
 |_,_=>none
def EB:T->T->Option T
 |.int i,.int j=>if GN i j then some (.int (i * j)) else none
 |.nd _ .lst l,.int k=>if KZ k=true/\l.length * k.toNat<=AQ then some (.own (List.replicate k.toNat l).flatten) else none
 |.str x,.int k=>if 0<=k/\k<=1000000/\x.length<=16 then some (.str (Txt.mul x k)) else none
 |_,_=>none
def A8:T->T->Option T
 |.int i,.int j=>if j≠0 then some (.int (i.fmod j)) else none
 |_,_=>none
def Ap:T->T->Option T
 |.int i,.int j=>if j≠0/\BN j then some (.int (i.fdiv j)) else none
 |_,_=>none
def Hz:T->T->Option T
 |.int i,.int j=>if 0<=j/\j<=1000000/\GA i then some (.int (i ^ j.toNat)) else none
 |_,_=>none
def C6(f:Int->Int->Bool):T->T->Option T
 |.int i,.int j=>some (.bl (f i j))
 |_,_=>none
def Dk:T->Option T
 |.int i=>some (.int (-i))
 |_=>none
theorem M0{i:Int}(h:GA i=true):-(2 ^ 64)<i/\i<2 ^ 64:=@of_decide_eq_true _ (Classical.propDecidable _) h
theorem MZ{i:Int}(h:BN i=true):Sm i:=@of_decide_eq_true _ (Classical.propDecidable _) h
theorem So{k:Int}(h:KZ k=true):k<2 ^ 63/\-(2 ^ 63)<=k:=@of_decide_eq_true _ (Classical.propDecidable _) h
theorem DY:AQ=sizeLine:=by rw[yei];rfl
theorem Hu{K:kA}{F:Hp}:∀{l m:List T} {xs ys:List V},Ae K F l xs->Ae K F m ys->Ae K F (l++m) (xs++ys)
 |[],m,xs,ys,r,q=>by rw[r.inv0];exact q
 |t::l,m,xs,ys,r,q=>by
  obtain⟨x,xs',rfl,r1,r2⟩:=r.inv;exact .cons r1 (Hu r2 q)
theorem Py{K:kA}{F:Hp}{l:List T}{xs:List V}(r:Ae K F l xs):∀n:Nat,Ae K F (List.replicate n l).flatten (List.replicate n xs).flatten
 |0=>.nil
 |n+1=>by
  rw[ybr,ybr,yc2,yc2];exact Hu r (Py r n)
section
variable {X:Cx}
theorem Cn{K:kA}{F H:Hp}{o:Bool}{k:Kd}{l:List T}{x:V}(h:Rp K F H (.nd o k l) x R0):∃p xs,x=.ref p/\o=false/\Ec K F k p xs/\Ae K F l xs:=by
 generalize hA:R0=A at h;cases h with
 |shr h e c=>exact⟨_,_,rfl,rfl,h,e,λi t x h1 h2=>(hA▸c i t x h1 h2).any⟩
 |@own k0 p xs l hk R f h e c d dp o =>
  exfalso
  have z:=congrFun hA p;have:R0 p:=by rw[z];exact .inl rfl
  exact this
theorem zew:A3 X (binaryOp .Add) (λx y H Q=>∃a b ys,x=.ref a/\y=.ref b/\BG X.K H a []/\BG X.K H b ys/\Q (.ref b) H):=by
 intro pins s σ H x y v u Q I rx ry h;obtain⟨a,b,ys,rfl,rfl,ha,hb,q⟩:=h;cases rx;cases ry;obtain⟨its,r1,p1,_⟩:=I.tuple ha;obtain⟨its2,r2,p2,_⟩:=I.tuple hb;have hv:=r1.nil_iff.mpr rfl;subst hv;obtain⟨⟨c1,d1,da1,sl1⟩,ho,hc,n,hd⟩:=id p1;obtain⟨⟨c2,d2,da2,sl2⟩,ho2,hc2,n2,hd2⟩:=id p2;simp only at hc hd hc2 hd2;subst hc hd hc2 hd2
 exact concat_meets ⟨_,ho,rfl⟩ ⟨_,ho2,rfl⟩ yem seq_tuple_add yd8 yd1 (ycw _ _)
  (tuple_addW0 a b _ _ n n2 d1 d2 sl1 sl2 rfl) ⟨ho,ho2,⟨.ref b,H,I,rfl,q⟩⟩
theorem Qq:A3 X (binaryOp .Add) (BU X.K Ai):=by
 intro pins s σ H x y v u Q I rx ry h;obtain⟨F,t1,t2,r,fh,r1,r2,e,q⟩:=h;unfold Ai at e;split at e
 .cases e;rw[r1.int_inv]at rx;rw[r2.int_inv]at ry;exact zkg pins s σ H _ _ v u Q I rx ry ⟨_,_,rfl,rfl,q.int fh⟩
 .split at e
  .cases e;rename_i hz;rw[r1.str_inv]at rx;rw[r2.str_inv]at ry;exact zc8 pins s σ H _ _ v u Q I rx ry ⟨_,_,rfl,rfl,by rw[<- DY];exact hz,q.str fh⟩
  .cases e
 .split at e
  .cases e;rename_i hz;obtain⟨p,xs,rfl,rfl,n1,k1⟩:=Cn r1;obtain⟨p2,ys,rfl,rfl,n2,k2⟩:=Cn r2;refine zkf pins s σ H _ _ v u Q I rx ry ⟨p,p2,xs,ys,rfl,rfl,fh _ _ n1,fh _ _ n2,?_,λa ha=>q.list fh (Hu k1 k2) ha⟩
   rw[<- k1.1,<- k2.1,<- DY];exact hz
  .cases e
 .split at e
  .cases e;rename_i l _ m hz;obtain⟨p,xs,rfl,rfl,n1,k1⟩:=Cn r1;obtain⟨p2,ys,rfl,rfl,n2,k2⟩:=Cn r2;have s1:BG X.K H p xs:=BG.of (fh _ _ n1);have s2:BG X.K H p2 ys:=BG.of (fh _ _ n2);cases xs with
   |nil =>
    have el:l=[]:=ybv.mp k1.1;subst el;exact zew pins s σ H _ _ v u Q I rx ry ⟨p,p2,ys,rfl,rfl,s1,s2,q.same fh (Ae.of_node (k:=.tup) n2 k2)⟩
   |cons x0 xs =>
    refine zhg pins s σ H _ _ v u Q I rx ry ⟨p,p2,_,ys,rfl,rfl,s1,s2,List.cons_ne_nil _ _,?_,λhy=>?_,λ_ a ha=>q.tuple fh (Hu k1 k2) ha⟩
    .rw[<- k1.1,<- k2.1,<- DY];exact hz
    .subst hy;have em:m=[]:=ybv.mp k2.1;subst em;rw[yc9]at q;exact q.same fh (Ae.of_node (k:=.tup) n1 k1)
  .cases e
 .cases e
theorem ID{f:Value->Value->Sem Value}{C:Int->Int->Prop}{g:Int->Int->V}{gT:T->T->Option T}(ho:A3 X f (rI C g))(hg:∀t u v,gT t u=some v->∃i j,t=.int i/\u=.int j/\C i j/\((∃k,v=.int k/\g i j=.int k)\/∃k,v=.bl k/\g i j=.bl k)):A3 X f (BU X.K gT):=by
 intro pins s σ H x y v u Q I rx ry h;obtain⟨F,t1,t2,r,fh,r1,r2,e,q⟩:=h;obtain⟨i,j,rfl,rfl,hc,hv⟩:=hg _ _ _ e;rw[r1.int_inv]at rx;rw[r2.int_inv]at ry;refine ho pins s σ H _ _ v u Q I rx ry ⟨i,j,rfl,rfl,hc,?_⟩
 rcases hv with ⟨k,rfl,ek⟩|⟨k,rfl,ek⟩
 .rw[ek];exact q.int fh
 .rw[ek];exact q.bl fh
theorem A3.weak{f:Value->Value->Sem Value}{r r':R2}(h:A3 X f r)(w:∀x y H Q,r' x y H Q->r x y H Q):A3 X f r':=λpins s σ H x y v u Q I rx ry q=>h pins s σ H x y v u Q I rx ry (w x y H Q q)
theorem QA{g:Int->Int->V}{f:Value->Value->Sem Value}(h:A3 X f (EW g)):A3 X f (rI (λ_ _=>True) g):=A3.weak h λx y H Q ⟨i,j,a,b,_,q⟩=>⟨i,j,a,b,q⟩
theorem zhh:A3 X (binaryOp .Sub) (BU X.K Fz):=ID (QA zka) λt u v h=>by
 unfold Fz at h;split at h
 .cases h;exact⟨_,_,rfl,rfl,trivial,.inl ⟨_,rfl,rfl⟩⟩
 .cases h
theorem zhl:A3 X (binaryOp .Mod) (BU X.K A8):=ID zhf λt u v h=>by
 unfold A8 at h;split at h
 .split at h
  .cases h;exact⟨_,_,rfl,rfl,by assumption,.inl ⟨_,rfl,rfl⟩⟩
  .cases h
 .cases h
theorem zex:A3 X (binaryOp .FloorDiv) (BU X.K Ap):=ID zev λt u v h=>by
 unfold Ap at h;split at h
 .split at h
  .cases h;rename_i hc;exact⟨_,_,rfl,rfl,⟨hc.1,MZ hc.2⟩,.inl ⟨_,rfl,rfl⟩⟩
  .cases h
 .cases h
theorem zhi:A3 X (binaryOp .Pow) (BU X.K Hz):=ID zkc λt u v h=>by
 unfold Hz at h;split at h
 .split at h
  .cases h;rename_i hc;have q:=M0 hc.2.2;exact⟨_,_,rfl,rfl,⟨hc.1,hc.2.1,by omega⟩,.inl ⟨_,rfl,rfl⟩⟩
  .cases h
 .cases h
theorem Js{op:CmpOp}{g:Int->Int->Bool}(ho:A3 X (compareOp op) (EW λi j=>.bl (g i j))):A3 X (compareOp op) (BU X.K (C6 g)):=ID (QA ho) λt u v h=>by
 unfold C6 at h;split at h
 .cases h;exact⟨_,_,rfl,rfl,trivial,.inr ⟨_,rfl,rfl⟩⟩
 .cases h
theorem zhk:A3 X (binaryOp .Mult) (BU X.K EB):=by
 intro pins s σ H x y v u Q I rx ry h;obtain⟨F,t1,t2,r,fh,r1,r2,e,q⟩:=h;unfold EB at e;split at e
 .rename_i i j;split at e
  .cases e;rename_i hc;rw[r1.int_inv]at rx;rw[r2.int_inv]at ry;unfold GN at hc;rw[ybt,ybt,ya1]at hc
   rcases hc with (hc|hc)|hc
   .exact Qn pins s σ H _ _ v u Q I rx ry ⟨i,j,rfl,rfl,.inl (M0 hc),q.int fh⟩
   .exact Qn pins s σ H _ _ v u Q I rx ry ⟨i,j,rfl,rfl,.inr (M0 hc),q.int fh⟩
   .exact zhe pins s σ H _ _ v u Q I rx ry ⟨i,j,rfl,rfl,⟨MZ hc.1,MZ hc.2⟩,q.int fh⟩
  .cases e
 .split at e
  .cases e;rename_i hc;obtain⟨p,xs,rfl,rfl,n1,k1⟩:=Cn r1;rw[r2.int_inv]at ry;refine zkb pins s σ H _ _ v u Q I rx ry ⟨p,_,xs,rfl,rfl,fh _ _ n1,(So hc.1).2,(So hc.1).1,?_,λa ha=>q.list fh (Py k1 _) ha⟩
   rw[<- k1.1,<- DY];exact hc.2
  .cases e
 .split at e
  .cases e;rename_i hc;rw[r1.str_inv]at rx;rw[r2.int_inv]at ry;obtain⟨t1,rfl⟩:=rx;obtain⟨t2,rfl⟩:=ry;exact SB.mul (mulOk_of 16 1048576 hc.2.2 (by omega) (by omega) (by decide) (by decide)) λt' k=>⟨.str _,H,I.tok _,⟨_,rfl⟩,q.str fh⟩
  .cases e
 .cases e
theorem zg2:Io X (unaryOp .USub) (Jp X.K Dk):=by
 intro pins s σ H x v Q I rx h;obtain⟨F,t,r,fh,r1,e,q⟩:=h;unfold Dk at e;split at e
 .cases e;rw[r1.int_inv]at rx;exact zix pins s σ H _ v Q I rx ⟨_,rfl,q.int fh⟩
 .cases e
theorem UQ{A:Around}{n:Nat}(hu:A.units+64<cLine)(h:n<=60):A.units+n<cLine:=by omega
theorem zkj(hu:X.A.units+64<cLine):A3 X (compareOp .Eq) (BU X.K BH):=by
 intro pins s σ H x y v u Q I rx ry h;obtain⟨F,t1,t2,r,fh,r1,r2,e,q⟩:=h;unfold BH at e;split at e
 .cases e;rename_i hc;unfold Dq BZ at hc;rw[ya1,ya1,ya1,ya1,yez]at hc;obtain⟨a1,q1⟩:=EV I fh (r1.any) hc.1.1.1 rx;obtain⟨a2,q2⟩:=EV I fh (r2.any) hc.1.2.1 ry;exact SeqAt.compareEq_reads q1 q2 hc.1.1.2 hc.1.2.2 (UQ hu hc.2) ⟨.bl _,H,I,rfl,q.bl fh⟩
 .cases e
theorem zki(hu:X.A.units+64<cLine):A3 X (compareOp .In) (BU X.K Ce):=by
 intro pins s σ H x y v u Q I rx ry h;obtain⟨F,t1,t2,r,fh,r1,r2,e,q⟩:=h;unfold Ce at e;split at e
 .rename_i o k l;split at e
  .cases e;rename_i hc;unfold Fe BZ at hc;rw[ya1,ya1,ya1,ya1,yez]at hc;obtain⟨a1,q1⟩:=EV I fh (r1.any) hc.1.1.1 rx;obtain⟨a2,q2⟩:=EV I fh (r2.any) (show(T.nd o k l).pln=true from hc.1.2.1) ry;have hd:X.A.units+1+min (PyData.depthAll (Au l)) t1.data.depth<cLine:=by omega
   cases k with
   |lst=>exact ydx q2 q1 hc.1.2.2 hc.1.1.2 hd ⟨.bl _,H,I,rfl,q.bl fh⟩
   |rl=>exact ydx q2 q1 hc.1.2.2 hc.1.1.2 hd ⟨.bl _,H,I,rfl,q.bl fh⟩
   |tup=>exact SeqAt.in_tuple_reads q2 q1 hc.1.2.2 hc.1.1.2 hd ⟨.bl _,H,I,rfl,q.bl fh⟩
   |rt=>exact SeqAt.in_tuple_reads q2 q1 hc.1.2.2 hc.1.1.2 hd ⟨.bl _,H,I,rfl,q.bl fh⟩
   |pin _=>exact ydx q2 q1 hc.1.2.2 hc.1.1.2 hd ⟨.bl _,H,I,rfl,q.bl fh⟩
  .cases e
 .unfold NV at e;split at e
  .cases e;rw[r1.str_inv]at rx;rw[r2.str_inv]at ry;exact zd0 pins s σ H _ _ v u Q I rx ry ⟨_,_,rfl,rfl,q.bl fh⟩
  .cases e
 .cases e
theorem zd1(hu:X.A.units+64<cLine):A3 X (compareOp .NotIn) (BU X.K GK):=by
 intro pins s σ H x y v u Q I rx ry h;obtain⟨F,t1,t2,r,fh,r1,r2,e,q⟩:=h;unfold GK at e;split at e
 .rename_i o k l;split at e
  .cases e;rename_i hc;unfold Fe BZ at hc;rw[ya1,ya1,ya1,ya1,yez]at hc;obtain⟨a1,q1⟩:=EV I fh (r1.any) hc.1.1.1 rx;obtain⟨a2,q2⟩:=EV I fh (r2.any) (show(T.nd o k l).pln=true from hc.1.2.1) ry;have hd:X.A.units+1+min (PyData.depthAll (Au l)) t1.data.depth<cLine:=by omega
   cases k with
   |lst=>exact yda q2 q1 hc.1.2.2 hc.1.1.2 hd ⟨.bl _,H,I,rfl,q.bl fh⟩
   |rl=>exact yda q2 q1 hc.1.2.2 hc.1.1.2 hd ⟨.bl _,H,I,rfl,q.bl fh⟩
   |tup=>exact SeqAt.notIn_tuple_reads q2 q1 hc.1.2.2 hc.1.1.2 hd ⟨.bl _,H,I,rfl,q.bl fh⟩
   |rt=>exact SeqAt.notIn_tuple_reads q2 q1 hc.1.2.2 hc.1.1.2 hd ⟨.bl _,H,I,rfl,q.bl fh⟩
   |pin _=>exact yda q2 q1 hc.1.2.2 hc.1.1.2 hd ⟨.bl _,H,I,rfl,q.bl fh⟩
  .cases e
 .cases e
end
inductive Rs where
 |v (t:T) (b:Bool)|x (c:Str)
inductive RsL where
 |v (ts:List T) (b:Bool)|x (c:Str)
def tot(R:Nat->Rg):Rg:=λa=>∃i,R i a
def Cz(K:kA)(F H:Hp)(R:Nat->Rg)(v:T)(b:Bool)(x:V)(B:Rg):Prop:=match b with
 |true=>B=R0/\∃A,(∀a,A a->tot R a)/\Rp K F H v x A
 |false=>Rp K F H v x B
def Gz(b:Bool)(F H:Hp)(R:Nat->Rg):Hp:=match b with
 |true=>frz F H (tot R)
 |false=>F
section
variable {K:kA}{F H F1 H1:Hp}{σ:L2.St}{τ:AE}{R:Nat->Rg}{B:Rg}{b c:Bool}{v:T}{x:V}
theorem StR.tot(S:StR K F H σ τ R){a:Addr}(h:tot R a):F a=none/\∃u,H a=some u:=by
 obtain⟨i,z⟩:=h;exact S.dom z
theorem NZ(S:StR K F H σ τ R):AY F (Gz b F H R):=by
 cases b with
 |true=>exact EF λa z=>(S.tot z).1
 |false=>exact .refl _
theorem TJ(S:StR K F H σ τ R):AY (Gz b F H R) H:=by
 cases b with
 |true=>exact HJ S.fh
 |false=>exact S.fh
theorem zib(S:StR K F H σ τ R)(e:Ext F H F1 H1 B)(h:b=true->c=true):AY (Gz b F H R) (Gz c F1 H1 R):=by
 have S1:=S.ext e;cases b with
 |false=>exact e.ff.trans (NZ S1)
 |true =>
  rw[h rfl];intro a u q;show frz F1 H1 (Pu.tot R) a=some u
  by_cases z:Pu.tot R a
  .rw[Fg z];have q':frz F H (Pu.tot R) a=some u:=q;rw[Fg z]at q';exact e.hh _ _ q'
  .rw[FD z];have q':frz F H (Pu.tot R) a=some u:=q;rw[FD z]at q';exact e.ff _ _ q'
theorem Cz.frz(S:StR K F H σ τ R)(e:Ext F H F1 H1 B)(g:Cz K F1 H1 R v b x B):∃F2,Ext F H F2 H1 R0/\AY F1 F2/\Rp K (Gz b F2 H1 R) (Gz b F2 H1 R) v.share x R0:=by
 have S1:=S.ext e;cases b with
 |true =>
  obtain⟨rfl,A,hA,r⟩:=g
  exact⟨F1,e,.refl _,r.share (NZ (b:=true) S1) λa u z q=>by
   show Pu.frz F1 H1 (Pu.tot R) a=some u;rw[Fg (hA a z)];exact q⟩
 |false =>
  have g':Rp K F1 H1 v x B:=g;have n:∀a,B a->F1 a=none:=λa z=>(g'.dom z).1
  exact⟨_,e.frz n,EF n,g'.share (EF n) λa u z q=>by
   show Pu.frz F1 H1 B a=some u;rw[Fg z];exact q⟩
theorem Ext.grow{H2:Hp}(e:Ext F H F1 H1 R0)(s:AY H1 H2):Ext F H F1 H2 R0:=⟨e.hh.trans s,e.ff,e.fh.trans s,λ_ z=>z.elim,e.nf⟩
end
def tM(K:kA)(E:L2.St->XK)(ca:Str->Value)(m:AE->Option Rs):TE:=λσ H Q=>∃F τ R,StR K F H σ τ R/\match m τ with
 |some (.v v b)=>∀F' H' x B,Ext F H F' H' B->Cz K F' H' R v b x B->Q x H'
 |some (.x c)=>∀F' H',Ext F H F' H' R0->E σ (ca c) none H'
 |none=>False
def Bv(K:kA)(E:L2.St->XK)(ca:Str->Value)(m:AE->Option RsL):TA:=λσ H Q=>∃F τ R,StR K F H σ τ R/\match m τ with
 |some (.v ts b)=>∀F' H' xs,Ext F H F' H' R0->Ae K (Gz b F' H' R) ts xs->Q xs H'
 |some (.x c)=>∀F' H',Ext F H F' H' R0->E σ (ca c) none H'
 |none=>False
def Aq(K:kA)(E:L2.St->XK)(ca:Str->Value)(m:AE->Option Rs):TT:=λσ H Q=>∃F τ R,StR K F H σ τ R/\match m τ with
 |some (.v (.bl c) _)=>∀F' H',Ext F H F' H' R0->Q c H'
 |some (.v _ _)=>False
 |some (.x c)=>∀F' H',Ext F H F' H' R0->E σ (ca c) none H'
 |none=>False
noncomputable def AA(i:Nat):AE->Option Rs:=λτ=>match τ[i]? with
 |some (some t)=>some (.v t (!t.sh))
 |_=>none
noncomputable def mC(t:T):AE->Option Rs:=λ_=>some (.v t false)
def AH:AE->Option RsL:=λ_=>some (.v [] false)
noncomputable def AG(m:AE->Option Rs)(ms:AE->Option RsL):AE->Option RsL:=λτ=>match m τ with
 |some (.v t b)=>(match ms τ with
  |some (.v ts b')=>some (.v (t.share::ts) (b || b'))
  |r=>r)
 |some (.x c)=>some (.x c)
 |none=>none
def Ar(b:Bool)(v:T):Option Rs:=if b && !v.flat then none else some (.v v false)
def BB(g:List T->Option T)(ms:AE->Option RsL):AE->Option Rs:=λτ=>match ms τ with
 |some (.v ts b)=>(match g ts with
  |some v=>Ar b v
  |none=>none)
 |some (.x c)=>some (.x c)
 |none=>none
def g2(g:T->T->Option T):List T->Option T
 |[t,u]=>g t u
 |_=>none
def g1(g:T->Option T):List T->Option T
 |[t]=>g t
 |_=>none
abbrev m1(g:T->Option T)(a:AE->Option Rs):AE->Option Rs:=BB (g1 g) (AG a AH)
abbrev m2(g:T->T->Option T)(a b:AE->Option Rs):AE->Option Rs:=BB (g2 g) (AG a (AG b AH))
def DW(c:AE->Option Rs)(a b:AE->Option Rs):AE->Option Rs:=λτ=>match c τ with
 |some (.v (.bl true) _)=>a τ
 |some (.v (.bl false) _)=>b τ
 |some (.x c)=>some (.x c)
 |_=>none
def BO(c:AE->Option Rs):AE->Option Rs:=λτ=>match c τ with
 |some (.v (.bl b) _)=>some (.v (.bl (!b)) false)
 |some (.x c)=>some (.x c)
 |_=>none
def DX(a b:AE->Option Rs):AE->Option Rs:=DW a b (mC (.bl false))
def Br(a b:AE->Option Rs):AE->Option Rs:=DW a (mC (.bl true)) b
section
variable {X:Cx}{E:L2.St->XK}{ca:Str->Value}{σ:L2.St}{H:Hp}{m ma mb mc:AE->Option Rs}{ms:AE->Option RsL}{K:kA}{a b c e:Expr}{es:List Expr}{pos:Pos}
theorem PE.weak{t t':TE}(h:PE X e t)(w:∀σ H Q,t' σ H Q->t σ H Q):PE X e t':=λpins s σ H Q I q=>h pins s σ H Q I (w σ H Q q)
theorem PT.weak{t t':TT}(h:PT X e t)(w:∀σ H Q,t' σ H Q->t σ H Q):PT X e t':=λpins s σ H Q I q=>h pins s σ H Q I (w σ H Q q)
theorem PA.weak{t t':TA}(h:PA X es t)(w:∀σ H Q,t' σ H Q->t σ H Q):PA X es t':=λpos pins s σ H Q I q=>h pos pins s σ H Q I (w σ H Q q)
theorem tM.mono{Q Q':VK}(h:tM K E ca m σ H Q)(w:∀x H',Q x H'->Q' x H'):tM K E ca m σ H Q':=by
 obtain⟨F,τ,R,S,q⟩:=h;refine⟨F,τ,R,S,?_⟩;cases hm:m τ with
 |none=>rw[hm]at q;exact q
 |some r =>
  rw[hm]at q;cases r with
  |v v b=>exact λF' H' x B e g=>w _ _ (q F' H' x B e g)
  |x c=>exact q
theorem Bv.mono{Q Q':List V->Hp->Prop}(h:Bv K E ca ms σ H Q)(w:∀x H',Q x H'->Q' x H'):Bv K E ca ms σ H Q':=by
 obtain⟨F,τ,R,S,q⟩:=h;refine⟨F,τ,R,S,?_⟩;cases hm:ms τ with
 |none=>rw[hm]at q;exact q
 |some r =>
  rw[hm]at q;cases r with
  |v v b=>exact λF' H' x e g=>w _ _ (q F' H' x e g)
  |x c=>exact q
theorem FR{Q:List V->Hp->Prop}(h:Bv K E ca AH σ H Q):Q [] H:=by
 obtain⟨F,τ,R,S,q⟩:=h;exact q F H [] (Ext.refl S.fh) .nil
theorem Ej{Q:List V->Hp->Prop}(h:Bv K E ca (AG m ms) σ H Q):tM K E ca m σ H λx H1=>Bv K E ca ms σ H1 λxs H2=>Q (x::xs) H2:=by
 obtain⟨F,τ,R,S,q⟩:=h;refine⟨F,τ,R,S,?_⟩;unfold AG at q;cases hm:m τ with
 |none=>rw[hm]at q;exact q
 |some r =>
  rw[hm]at q;cases r with
  |x c=>exact q
  |v t b =>
   intro F' H' x B e g;obtain⟨F2,e2,_,r2⟩:=Cz.frz S e g;have S2:=S.ext e2;refine⟨F2,τ,R,S2,?_⟩;cases hs:ms τ with
   |none=>simp only[hs]at q
   |some r =>
    simp only[hs]at q;cases r with
    |x c=>exact λF3 H3 e3=>q F3 H3 (e2.trans0 e3)
    |v ts b' =>
     intro F3 H3 xs e3 rs;refine q F3 H3 (x::xs) (e2.trans0 e3) ?_;refine .cons (H:=H3) ((r2.frame (zib S2 e3 (by intro z;simp[z])) λa z=>z.elim)) ?_
     cases b' with
     |true=>rw[ycf];exact rs
     |false =>
      rw[ydc];cases b with
      |false=>exact rs
      |true=>exact rs.same (NZ (b:=true) (S2.ext e3))
theorem FT{g:List T->Option T}{Q:VK}(h:tM K E ca (BB g ms) σ H Q):Bv K E ca ms σ H λxs H1=>DE K g xs H1 Q:=by
 obtain⟨F,τ,R,S,q⟩:=h;refine⟨F,τ,R,S,?_⟩;unfold BB at q;cases hs:ms τ with
 |none=>simp only[hs]at q
 |some r =>
  simp only[hs]at q;cases r with
  |x c=>exact q
  |v ts b =>
   intro F1 H1 xs e1 rs;have S1:=S.ext e1;cases hg:g ts with
   |none=>simp only[hg]at q
   |some v =>
    simp only[hg]at q;refine⟨Gz b F1 H1 R,ts,v,TJ S1,rs,hg,λF2 H2 z C e2 r2=>?_⟩
    unfold Ar at q;cases b with
    |false=>exact q F2 H2 z C (e1.trans0 e2) r2
    |true =>
     cases hf:v.flat with
     |false =>
      rw[hf]at q;exact False.elim q
     |true =>
      rw[hf]at q;exact q F1 H2 z R0 (e1.grow e2.hh) (r2.flat_any hf)
theorem rTn2{g:T->T->Option T}{x y:V}{Q:VK}(h:DE K (g2 g) [x,y] H Q):BU K g x y H Q:=by
 obtain⟨F,ts,v,fh,rs,e,q⟩:=h;unfold g2 at e;split at e
 .obtain⟨x1,xs1,e1,r1,rs1⟩:=rs.inv;obtain⟨x2,xs2,e2,r2,rs2⟩:=rs1.inv;cases e1;cases e2;exact⟨F,_,_,v,fh,r1,r2,e,q⟩
 .cases e
theorem rTn1{g:T->Option T}{x:V}{Q:VK}(h:DE K (g1 g) [x] H Q):Jp K g x H Q:=by
 obtain⟨F,ts,v,fh,rs,e,q⟩:=h;unfold g1 at e;split at e
 .obtain⟨x1,xs1,e1,r1,rs1⟩:=rs.inv;cases e1;exact⟨F,_,v,fh,r1,e,q⟩
 .cases e
theorem Lf{g:T->T->Option T}{Q:VK}(h:tM K E ca (BB (g2 g) (AG ma (AG mb AH))) σ H Q):Gg (BU K g) (tM K E ca ma) (tM K E ca mb) σ H Q :=
 (Ej (FT h)).mono λx H1 h1=>(Ej h1).mono λy H2 h2=>rTn2 (FR h2)
theorem zj2{g:T->Option T}{Q:VK}(h:tM K E ca (BB (g1 g) (AG ma AH)) σ H Q):PN (Jp K g) (tM K E ca ma) σ H Q :=
 (Ej (FT h)).mono λx H1 h1=>rTn1 (FR h1)
theorem PD{i:Nat}{Q:VK}(h:tM K E ca (AA i) σ H Q):Hg i σ H Q:=by
 obtain⟨F,τ,R,S,q⟩:=h;unfold AA at q;split at q
 .rename_i t b hm;split at hm
  .rename_i ht;cases hm;obtain⟨x,e,r⟩:=S.rep i t ht;refine⟨x,e,q F H x R0 (Ext.refl S.fh) ?_⟩;cases hs:t.sh with
   |true=>exact r.move hs (.refl _)
   |false=>exact⟨rfl,R i,λa z=>⟨i,z⟩,r⟩
  .cases hm
 .rename_i c hm;split at hm<;>cases hm
 .exact q.elim
theorem GD{i:Nat}{x:Str}(hN:X.N[i]?=some x)(hv:DM X.env.scope x)(hd:(x == ("__debug__":Str))=false)(hcd:(x == ("__classdict__":Str))=false):PE X (.Name x pos) (tM X.K E ca (AA i)):=PE.weak (Gs hN hv hd hcd) λ_ _ _ h=>PD h
theorem Gp{t:T}{v:V}(h:PE X e (tC v))(r:∀F H,Rp X.K F H t v R0):PE X e (tM X.K E ca (mC t)):=PE.weak h λσ H Q h=>by
 obtain⟨F,τ,R,S,q⟩:=h;exact q F H v R0 (Ext.refl S.fh) (r _ _)
theorem QL:PA X [] (Bv X.K E ca AH):=PA.weak EX λσ H Q h=>FR h
theorem QT(ha:PE X e (tM X.K E ca m))(hr:PA X es (Bv X.K E ca ms))(hs:starEach (e::es) X.env=(false,eval e X.env)::starEach es X.env):PA X (e::es) (Bv X.K E ca (AG m ms)) :=
 PA.weak (DV ha hr hs) λσ H Q h=>Ej h
theorem QV{op:Operator}{g:T->T->Option T}(ho:A3 X (binaryOp op) (BU X.K g))(ha:PE X a (tM X.K E ca ma))(hb:PE X b (tM X.K E ca mb)):PE X (.BinOp a op b pos) (tM X.K E ca (BB (g2 g) (AG ma (AG mb AH)))) :=
 PE.weak (pe_op ho ha hb) λσ H Q h=>Lf h
theorem r_un{op:UnaryOp}{g:T->Option T}(ho:Io X (unaryOp op) (Jp X.K g))(ha:PE X a (tM X.K E ca ma)):PE X (.UnaryOp op a pos) (tM X.K E ca (BB (g1 g) (AG ma AH))) :=
 PE.weak (pe_un ho ha) λσ H Q h=>zj2 h
theorem r_cmp{op:CmpOp}{g:T->T->Option T}(ho:A3 X (compareOp op) (BU X.K g))(ha:PE X a (tM X.K E ca ma))(hb:PE X b (tM X.K E ca mb))(hm:behindInMarks op b=false):PE X (.Compare a [op] [b] pos) (tM X.K E ca (BB (g2 g) (AG ma (AG mb AH)))) :=
 PE.weak (zh7 ho ha hb hm) λσ H Q h=>Lf h
theorem J2{Q:Bool->Hp->Prop}(h:Aq K E ca m σ H Q):tM K E ca m σ H λx H1=>∃k,x=.bl k/\Q k H1:=by
 obtain⟨F,τ,R,S,q⟩:=h;refine⟨F,τ,R,S,?_⟩;cases hm:m τ with
 |none=>rw[hm]at q;exact q
 |some r =>
  rw[hm]at q;cases r with
  |x c=>exact q
  |v v b =>
   cases v with
   |bl k =>
    intro F' H' x B e g
    have hx:x=.bl k:=by
     cases b with
     |true=>obtain⟨_,A,_,r⟩:=g;exact r.bl_inv
     |false=>exact(show Rp K F' H' _ _ _ from g).bl_inv
    exact⟨k,hx,q F' H' (e.mono λ_ z=>z.elim)⟩
   |_=>exact q.elim
theorem QI{op:CmpOp}{g:T->T->Option T}(ho:A3 X (compareOp op) (BU X.K g))(ha:PE X a (tM X.K E ca ma))(hb:PE X b (tM X.K E ca mb))(hm:behindInMarks op b=false):PT X (.Compare a [op] [b] pos) (Aq X.K E ca (BB (g2 g) (AG ma (AG mb AH)))) :=
 PT.weak (zgs ho ha hb hm) λσ H Q h=>Lf (J2 h)
theorem Jo(h:PE X e (tM X.K E ca m))(he:∀whole,isTrue e X.env whole=(do let v <- whole;standAt e.pos;holding [v] (truthy v))):PT X e (Aq X.K E ca m):=PT.weak (zjp h he) λσ H Q h=>J2 h
theorem P7{Q:Bool->Hp->Prop}(h:Aq K E ca (DW mc ma mb) σ H Q):Aq K E ca mc σ H λk H1=>if k=true then Aq K E ca ma σ H1 Q else Aq K E ca mb σ H1 Q:=by
 obtain⟨F,τ,R,S,q⟩:=h;refine⟨F,τ,R,S,?_⟩;unfold DW at q;cases hm:mc τ with
 |none=>simp only[hm]at q
 |some r =>
  simp only[hm]at q;cases r with
  |x c=>exact q
  |v v b =>
   cases v with
   |bl k =>
    intro F1 H1 e1;have S1:=S.ext e1
    have key:∀{mm:AE->Option Rs},(match mm τ with
      |some (.v (.bl c) _)=>∀F' H',Ext F H F' H' R0->Q c H'
      |some (.v _ _)=>False
      |some (.x c)=>∀F' H',Ext F H F' H' R0->E σ (ca c) none H'
      |none=>False)->Aq K E ca mm σ H1 Q:=λ{mm} q=>by
     refine⟨F1,τ,R,S1,?_⟩;cases hr:mm τ with
     |none=>simp only[hr]at q
     |some r =>
      simp only[hr]at q;cases r with
      |x c=>exact λF' H' e=>q F' H' (e1.trans0 e)
      |v v b =>
       cases v with
       |bl k=>exact λF' H' e=>q F' H' (e1.trans0 e)
       |_=>exact q.elim
    cases k with
    |true=>exact K1 (key q)
    |false=>exact K2 (key q)
   |_=>exact q.elim
theorem P4{Q:VK}(h:tM K E ca (DW mc ma mb) σ H Q):Aq K E ca mc σ H λk H1=>if k=true then tM K E ca ma σ H1 Q else tM K E ca mb σ H1 Q:=by
 obtain⟨F,τ,R,S,q⟩:=h;refine⟨F,τ,R,S,?_⟩;unfold DW at q;cases hm:mc τ with
 |none=>simp only[hm]at q
 |some r =>
  simp only[hm]at q;cases r with
  |x c=>exact q
  |v v b =>
   cases v with
   |bl k =>
    intro F1 H1 e1;have S1:=S.ext e1
    have key:∀{mm:AE->Option Rs},(match mm τ with
      |some (.v v b)=>∀F' H' x B,Ext F H F' H' B->Cz K F' H' R v b x B->Q x H'
      |some (.x c)=>∀F' H',Ext F H F' H' R0->E σ (ca c) none H'
      |none=>False)->tM K E ca mm σ H1 Q:=λ{mm} q=>by
     refine⟨F1,τ,R,S1,?_⟩;cases hr:mm τ with
     |none=>simp only[hr]at q
     |some r =>
      simp only[hr]at q;cases r with
      |x c=>exact λF' H' e=>q F' H' (e1.trans0 e)
      |v v b=>exact λF' H' x B e g=>q F' H' x B (e1.trans0 e) g
    cases k with
    |true=>exact K1 (key q)
    |false=>exact K2 (key q)
   |_=>exact q.elim
theorem r_ife(hc:PT X c (Aq X.K E ca mc))(ha:PE X a (tM X.K E ca ma))(hb:PE X b (tM X.K E ca mb)):PE X (.IfExp c a b pos) (tM X.K E ca (DW mc ma mb)):=PE.weak (zet hc ha hb) λσ H Q h=>P4 h
theorem zg6{Q:Bool->Hp->Prop}(h:Aq K E ca (BO mc) σ H Q):PX (Aq K E ca mc) σ H Q:=by
 obtain⟨F,τ,R,S,q⟩:=h;refine⟨F,τ,R,S,?_⟩;unfold BO at q;cases hm:mc τ with
 |none=>simp only[hm]at q
 |some r =>
  simp only[hm]at q;cases r with
  |x c=>exact q
  |v v b =>
   cases v with
   |bl k=>exact q
   |_=>exact q.elim
theorem QH(hc:PT X c (Aq X.K E ca mc)):PT X (.UnaryOp .Not c pos) (Aq X.K E ca (BO mc)):=PT.weak (zjq hc) λσ H Q h=>zg6 h
theorem zj3{Q:VK}(h:tM K E ca (BO mc) σ H Q):PV (tM K E ca mc) σ H Q:=by
 obtain⟨F,τ,R,S,q⟩:=h;refine⟨F,τ,R,S,?_⟩;unfold BO at q;cases hm:mc τ with
 |none=>simp only[hm]at q
 |some r =>
  simp only[hm]at q;cases r with
  |x c=>exact q
  |v v b =>
   cases v with
   |bl k =>
    intro F' H' x B e g
    have hx:x=.bl k:=by
     cases b with
     |true=>obtain⟨_,A,_,r⟩:=g;exact r.bl_inv
     |false=>exact(show Rp K F' H' _ _ _ from g).bl_inv
    exact⟨k,hx,q F' H' _ R0 (e.mono λ_ z=>z.elim) (.bl _)⟩
   |_=>exact q.elim
theorem r_not(ha:PE X a (tM X.K E ca ma)):PE X (.UnaryOp .Not a pos) (tM X.K E ca (BO ma)):=PE.weak (zk3 ha) λσ H Q h=>zj3 h
theorem P0{Q:VK}(h:tM K E ca (DW mc ma mb) σ H Q):tM K E ca mc σ H λx H1=>∃k,x=.bl k/\if k=true then tM K E ca ma σ H1 Q else tM K E ca mb σ H1 Q:=J2 (P4 h)
theorem P6{t:T}{v:V}(r:∀F H,Rp K F H t v R0){Q:VK}(h:tM K E ca (mC t) σ H Q):Q v H:=by
 obtain⟨F,τ,R,S,q⟩:=h;exact q F H v R0 (Ext.refl S.fh) (r _ _)
theorem r_and{BK:List Expr}(ha:PE X a (tM X.K E ca ma))(hb:PE X (.BoolOp .And (b::BK) pos) (tM X.K E ca mb)):PE X (.BoolOp .And (a::b::BK) pos) (tM X.K E ca (DX ma mb)) :=
 PE.weak (zk7 ha hb) λσ H Q h=>(P0 h).mono λx H1 ⟨k,e,q⟩=>⟨k,e,by
  cases k with
  |true=>exact q
  |false=>exact P6 (E:=E) (ca:=ca) (λ_ _=>.bl _) q⟩
theorem r_or{BK:List Expr}(ha:PE X a (tM X.K E ca ma))(hb:PE X (.BoolOp .Or (b::BK) pos) (tM X.K E ca mb)):PE X (.BoolOp .Or (a::b::BK) pos) (tM X.K E ca (Br ma mb)) :=
 PE.weak (pe_or ha hb) λσ H Q h=>(P0 h).mono λx H1 ⟨k,e,q⟩=>⟨k,e,by
  cases k with
  |true=>exact P6 (E:=E) (ca:=ca) (λ_ _=>.bl _) q
  |false=>exact q⟩
theorem r_one{op:BoolOp}(ha:PE X a (tM X.K E ca ma)):PE X (.BoolOp op [a] pos) (tM X.K E ca ma):=zk2 ha
theorem Aq.mono{Q Q':Bool->Hp->Prop}(h:Aq K E ca m σ H Q)(w:∀x H',Q x H'->Q' x H'):Aq K E ca m σ H Q':=by
 obtain⟨F,τ,R,S,q⟩:=h;refine⟨F,τ,R,S,?_⟩;cases hm:m τ with
 |none=>rw[hm]at q;exact q
 |some r =>
  rw[hm]at q;cases r with
  |v v b =>
   cases v with
   |bl k=>exact λF' H' e=>w _ _ (q F' H' e)
   |_=>exact q.elim
  |x c=>exact q
theorem Lh{k:Bool}{Q:Bool->Hp->Prop}(h:Aq K E ca (mC (.bl k)) σ H Q):Q k H:=by
 obtain⟨F,τ,R,S,q⟩:=h;exact q F H (Ext.refl S.fh)
theorem PW.weak{t t':TT}(h:PW X e t)(w:∀σ H Q,t' σ H Q->t σ H Q):PW X e t':=λwh pins s σ H Q I q=>h wh pins s σ H Q I (w σ H Q q)
theorem zje{BK:List Expr}(ha:PT X a (Aq X.K E ca ma))(hb:PW X (.BoolOp .And (b::BK) pos) (Aq X.K E ca mb)):PW X (.BoolOp .And (a::b::BK) pos) (Aq X.K E ca (DX ma mb)) :=
 PW.weak (zjo ha hb) λσ H Q h=>(P7 h).mono λk H1 q=>by
  cases k with
  |true=>exact q
  |false=>exact Lh (E:=E) (ca:=ca) q
theorem QF{BK:List Expr}(ha:PT X a (Aq X.K E ca ma))(hb:PW X (.BoolOp .Or (b::BK) pos) (Aq X.K E ca mb)):PW X (.BoolOp .Or (a::b::BK) pos) (Aq X.K E ca (Br ma mb)) :=
 PW.weak (pw_or ha hb) λσ H Q h=>(P7 h).mono λk H1 q=>by
  cases k with
  |true=>exact Lh (E:=E) (ca:=ca) q
  |false=>exact q
theorem zgm(ha:PT X a (Aq X.K E ca ma)):PW X (.BoolOp .And [a] pos) (Aq X.K E ca ma):=zgq ha
theorem QG(ha:PT X a (Aq X.K E ca ma)):PW X (.BoolOp .Or [a] pos) (Aq X.K E ca ma):=zjn ha
end
section
variable {X:Cx}{pins:List (Addr×Obj)}{σ:L2.St}{H:Hp}{s:Shared}{h':Heap}
theorem He{t':Nat}{ch:List Addr}(I:Inv X pins σ H s)(k:∀b o,b∉ch->s.heap.get? b=some o->h'.get? b=some o)(f:∀b∈ch,CM X pins H b):Inv X pins σ H { s with heap:=h',toks:=t' }:=by
 have nit:∀b u,H b=some u->b∉ch:=λb u e z=>by rw[(f b z).1]at e;cases e
 refine I.step (g':=s.gens) (d':=s.drawn) (ch:=ch) (λb hb=>?_) (λb o _ _ hc e _=>k b o hc e) (λb o _ _ hc e _=>⟨o.slots,k b o hc e⟩) (λ_ _ _ _ n=>n)
  (λb o hc e=>⟨o,k b o hc e⟩) (λ_ _ e=>e) (λ_ _ _ e=>e) (λb ps e=>⟨#[],by rw[e];simp⟩) (λm hm=>?_) (λb u e=>?_) I.bare
 .obtain⟨_,f1,f2,f3,f4,f5⟩:=f b hb;exact⟨f3,f1,f4,f5⟩
 .obtain⟨o,es,ep,ho,r⟩:=hm;exact⟨o,es,ep,k _ o (λz=>(f _ z).2.1 rfl) ho,r⟩
 .refine(I.hok b u e).stay (λc v hc q=>k c v ?_ q) (λ_ q=>q) λ_ _ q=>q
  rcases hc with z|z
  .rw[z];exact nit b u e
  .exact nit c _ z
theorem zbw{t':Nat}{ch:List Addr}{p:Addr}{o:HO}(I:Inv X pins σ H s)(k:∀b o,b∉ch->s.heap.get? b=some o->h'.get? b=some o)(f:∀b∈ch,CM X pins H b)(hp:s.heap.objs.size<=p)(new:BJ X.prog X.w (upd H p o) h' p o) :
  Inv X pins σ (upd H p o) { s with heap:=h',toks:=t' }:=by
 have hn:H p=none:=I.hok.fresh hp;have nit:∀b u,H b=some u->b∉ch:=λb u e z=>by rw[(f b z).1]at e;cases e
 have old:∀b ob,s.heap.get? b=some ob->b≠p:=λb ob e z=>by
  subst z;exact absurd (yae e) (ydr.mpr hp)
 refine I.step (g':=s.gens) (d':=s.drawn) (ch:=ch) (λb hb=>?_) (λb o _ _ hc e _=>k b o hc e) (λb o _ _ hc e _=>⟨o.slots,k b o hc e⟩) (λb ob hc e n=>by rw[Ad (old b ob e)];exact n)
  (λb o hc e=>⟨o,k b o hc e⟩) (λb xs e=>by rw[Ad (Be e hn)];exact e) (λb o u e=>by rw[Ad (Be e hn)];exact e) (λb ps e=>⟨#[],by rw[Ad (Be e hn),e];simp⟩) (λm hm=>?_) (λb u e=>?_) I.bare
 .obtain⟨_,f1,f2,f3,f4,f5⟩:=f b hb;exact⟨f3,f1,f4,f5⟩
 .obtain⟨o,es,ep,ho,r⟩:=hm;exact⟨o,es,ep,k _ o (λz=>(f _ z).2.1 rfl) ho,r⟩
 .by_cases hb:b=p
  .subst hb;rw[Bb]at e;cases e;exact new
  .rw[Ad hb]at e;refine(I.hok b u e).stay (λc v hc q=>k c v ?_ q) (λc q=>by rw[Ad (Be q hn)];exact q) λc xs q=>by rw[Ad (Be q hn)];exact q
   rcases hc with z|z
   .rw[z];exact nit b u e
   .exact nit c _ z
theorem zlh{p b:Addr}{o:HO}(f:CM X pins H b)(h:b≠p):CM X pins (upd H p o) b:=⟨by rw[Ad h];exact f.1,f.2⟩
end
section
variable {X:Cx}{elts:List Expr}{kk:Nat}{tpos:Pos}
end
def E5(o:Obj):Nat:=match o.data with
 |.dict _ ep=>ep
 |_=>0
section
variable {X:Cx}{pins:List (Addr×Obj)}{σ:L2.St}{H:Hp}{s:Shared}{a:Addr}{o:Obj}{kvs:List (Key×V)}
theorem Ib(I:Inv X pins σ H s)(h:H a=some (.frz o (.dK kvs))):kvs.length<=sizeLine/\(a == sysModules)=false/\∃vs,KV kvs vs/\s.heap.DictAt (Bi X.prog X.w) a vs (E5 o):=by
 obtain⟨ho,z,hd,vs,rel,o',es,ep,ho',r⟩:=(show BJ X.prog X.w H s.heap a (.frz o (.dK kvs)) from I.hok a _ h);rw[ho]at ho';cases ho';refine⟨z,hd,vs,rel,o,es,ho,?_⟩
 have e:E5 o=ep:=by
  unfold E5;rw[r.2.1]
 rw[e];exact r
theorem zl2{vs:List (Key×Value)}(r:KV kvs vs){i:Nat}{k:Key}{x:V}(h:kvs[i]?=some (k,x)):∃u,vs[i]?=some (k,u)/\RelV x u:=by
 have r':Paired (λ(p:Key×V) (q:Key×Value)=>p.1=q.1/\RelV p.2 q.2) kvs vs:=r
 induction r' generalizing i with
 |nil=>simp at h
 |@cons p q l m hd tl ih =>
  cases i with
  |zero =>
   simp at h;subst h;obtain⟨e1,e2⟩:=hd;exact⟨q.2,by rw[yd2];cases q;simp at e1 ⊢;exact e1.symm,e2⟩
  |succ i=>exact ih tl (by simpa using h)
theorem Fb{vs:List (Key×Value)}(r:KV kvs vs):kvs.length=vs.length:=ye1 (show Paired _ kvs vs from r)
theorem zi2{k:Key}{v:Value}(h:(Bi X.prog X.w).is k v=true):RelV (kV k) v:=by
 rcases ED (show FA k v=true from h) with ⟨i,t,rfl,rfl⟩|⟨x,t,rfl,rfl⟩
 .exact⟨t,rfl⟩
 .exact⟨t,rfl⟩
end
theorem zac{prog:Program}{w:World}{A:Around}{E:Value->Shared->Prop}{s:Shared}{it d:Addr}{i n ep:Nat}{ok ov:Value}{Q:Value->Shared->Prop}(h:IsItemIter s.heap it d i n ep ok ov)(hQ:Q (.ref it) s):wpAny (model prog w) A (pyIter (.ref it)) Q E s:=by
 have hT:s.TypeIs (.ref it) "dict_itemiterator":=⟨_,h,rfl⟩;refine wpAny_pyIter_slot hT ycz (wpAny_call_entry ycz hT (entryFor_alias (id':="dict_keyiterator.__iter__") (by ext) rfl (by decide +kernel) (by ext):entryFor table "dict_itemiterator.__iter__"=some Builtin.«dict_keyiterator.__iter__») ?_ (PySem.F.args_dict_itemiterator_iter_1 _))
 show wpAny _ _ (ret (.ref it)) _ E s;exact yef ⟨_,rfl,"dict_itemiterator",_,hT,PySem.F.slot_dict_itemiterator_next.lookup,hQ⟩
def Ot(d:Addr)(n ep:Nat):It :=
  ⟨λi H=>∃o kvs k x,H d=some (.frz o (.dK kvs))/\E5 o=ep/\kvs.length=n/\kvs[i]?=some (k,x),λi H x H'=>∃p k y,x=.ref p/\H p=none/\H'=upd H p (.tup [kV k,y])/\∀o kvs,H d=some (.frz o (.dK kvs))->kvs[i]?=some (k,y),
   λi H=>∃o kvs,H d=some (.frz o (.dK kvs))/\E5 o=ep/\kvs.length=n/\kvs.length<=i⟩
theorem zbz{P:Program}{w:World}{K:kA}{elts:List Expr}{kk:Nat}{tpos:Pos}(d it:Addr)(n ep:Nat) :
  Turn P w K (.Tuple elts kk tpos) (Ot d n ep) [it] it (λi h=>∃ok ov,IsItemIter h it d i n ep ok ov) where
 mem:=by simp
 obj:=λi h st b hb=>by
  obtain⟨ok,ov,st⟩:=st;have q:b=it:=by simpa using hb
  subst q
  exact⟨_,st,λv z=>by
   have z':Data.fields _=Data.cell v:=z;cases z'⟩
 keep:=λi h h' st k=>by
  obtain⟨ok,ov,st⟩:=st;exact⟨ok,ov,k it (by simp) _ st⟩
 item:=by
  intro X hP hw hK hc i pins s σ H E I hf st hg;subst hP hw hK;obtain⟨ok,ov,hit⟩:=st;obtain⟨o,kvs,k,x,hd,rfl,rfl,hx⟩:=hg;obtain⟨z,hs,vs,rel,hat⟩:=Ib I hd;obtain⟨u,hu,ru⟩:=zl2 rel hx;rw[Fb rel]at hit;have ilt:it<s.heap.objs.size:=yae hit;have hn:H s.heap.objs.size=none:=I.hok.fresh (yaa _);refine wpAny_pyNext_items_item hit hat hu λkey h' hkey hout hT hsz hk=>?_
  have I1:Inv X pins σ (upd H s.heap.objs.size (.tup [kV k,x])) { s with heap:=h',toks:=s.toks }:=by
   refine zbw (ch:=[it]) I (λb o hb q=>hk b o (λz=>hb (by simp[z])) q) hf (yaa _) ?_
   exact⟨by simp only[yaq,ydq];rw[yei];decide,[key,u],.cons (zi2 hkey) (.cons ru .nil),_,hT,rfl,0,rfl⟩
  have f1:∀b∈[it],CM X pins (upd H s.heap.objs.size (.tup [kV k,x])) b:=λb hb=>zlh (hf b hb) (by
   have q:b=it:=by simpa using hb
   subst q;exact yaw ilt)
  refine⟨.ref s.heap.objs.size,rfl,wpAny_letOwnedTupleGo_items hout λh2 he2 hs2=>?_⟩
  refine⟨.ref s.heap.objs.size,_,He (t':=s.toks) (ch:=[it]) I1 (λb o hb q=>hs2.extBut b o (λz=>hb (by simp[z])) q) f1,rfl,⟨_,k,x,rfl,hn,rfl,λo' kvs' hd'=>?_⟩,⟨_,_,by rw[Fb rel];exact he2⟩,λb hb=>(f1 b hb).1⟩
  rw[hd]at hd';cases hd';exact hx
 done:=by
  intro X hP hw hK hc i pins s σ H E I hf st hg;subst hP hw hK;obtain⟨ok,ov,hit⟩:=st;obtain⟨o,kvs,hd,rfl,rfl,hx⟩:=hg;obtain⟨z,hs,vs,rel,hat⟩:=Ib I hd;rw[Fb rel]at hit;exact wpAny_pyNext_items_end (I.ok.hd hc) hit hat (by rw[ybl];have:=Fb rel;omega) λh' eb=>⟨rfl,He (t':=s.toks) (ch:=[it]) I (λb o hb q=>eb b o (λz=>hb (by simp[z])) q) hf⟩
 self:=λ_ _ _ _ _ st h=>by
  obtain⟨ok,ov,st⟩:=st;exact zac st h
section
variable {X:Cx}{o:Expr}{to:TE}{ap cp:Pos}{elts:List Expr}{kk:Nat}{tpos:Pos}
theorem UO{pins:List (Addr×Obj)}{σ:L2.St}{H:Hp}{s:Shared}{a:Addr}{ob:Obj}{kvs:List (Key×V)}(I:Inv X pins σ H s)(h:H a=some (.frz ob (.dK kvs))):s.TypeIs (.ref a) "dict"/\∀b,(Value.ref a)=.ref b->∃ob,s.heap.get? b=some ob/\ob.dict=none:=by
 obtain⟨z,hs,vs,rel,o',es,ho,hx,r⟩:=Ib I h;exact⟨⟨_,ho,hx.1⟩,λb e=>by cases e;exact⟨_,ho,hx.2.1⟩⟩
def zle(to:TE):TI:=λσ H R=>to σ H λx H1=>∃a ob kvs,x=.ref a/\H1 a=some (.frz ob (.dK kvs))/\R (Ot a kvs.length (E5 ob)) H1
theorem zer(ho:PE X o to)(hbase:attributeBase o "items" X.env (eval o X.env)=eval o X.env)(hline:(ap.endLine == cp.line)=true):PI X (.Tuple elts kk tpos) (.Call (.Attribute o "items" ap) [] [] cp) (zle to):=by
 intro pins s σ H R I h;refine yeq hbase hline (AR (ho pins s σ H _ I h) λv s1 ⟨x,H1,I1,r1,q1⟩=>?_)
 obtain⟨a,ob,kvs,rfl,hd,q⟩:=q1;cases r1;obtain⟨h1,h2⟩:=UO I1 hd;obtain⟨z,hs,vs,rel,hat⟩:=Ib I1 hd;refine⟨"dict","dict.items",PySem.F.plainAttrs_dict,PySem.F.slot_dict_items,PySem.F.type_dict_items,h1,h2,ycc rfl (ydw ?_)⟩;refine call_meetsIn PySem.F.slot_dict_items h1 PySem.F.entry_dict_items (PySem.F.args_dict_items_1 _) (meets_dict_items (Bi X.prog X.w) a hs) ⟨⟨vs,hat.dictOf⟩,?_⟩;have I2:Inv X pins σ H1 { s1 with heap:=s1.heap.push { cls:=.type "dict_items",data:=.fields #[.ref a] },toks:=s1.toks }:=I1.kept λb o e=>ya4 _ e
 refine wpAny_pyIter_items (v:=s1.heap.objs.size) ⟨_,yag _ rfl,rfl,rfl⟩ (hat.push _) ?_;have I3:=I2.kept (t':=s1.toks) (h':=(s1.heap.push { cls:=.type "dict_items",data:=.fields #[.ref a] }).push { cls:=.type "dict_itemiterator",data:=.fields #[.none,.bool false,.ref a,.int 0 0,.int vs.length 0,.int (E5 ob) 0,.none,.none] }) λb o e=>ya4 _ e
 refine⟨_,[_],_,_,H1,rfl,I3,zbz a _ kvs.length (E5 ob),⟨_,_,by rw[Fb rel];exact yag _ rfl⟩,λb hb=>?_,q⟩
 have e:=ya3.mp hb;subst e;exact I2.fpOk (yaa _) (I2.hok.fresh (yaa _))
def tVals(to:TE):TE:=λσ H Q=>to σ H λx H1=>∃a ob kvs,x=.ref a/\H1 a=some (.frz ob (.dK kvs))/\∀l,H1 l=none->Q (.ref l) (upd H1 l (.lst (kvs.map (·.2))))
theorem zhz{kvs:List (Key×V)}{vs:List (Key×Value)}(r:KV kvs vs):AU (kvs.map (·.2)) (vs.map (·.2)):=by
 have r':Paired (λ(p:Key×V) (q:Key×Value)=>p.1=q.1/\RelV p.2 q.2) kvs vs:=r
 induction r' with
 |nil=>exact .nil
 |cons hd tl ih=>exact .cons hd.2 (ih tl)
theorem zh3{p p2:Pos}(hc:X.calm=true)(hg:Gl X "list")(hm:X.mg "list"=none)(ho:PE X o to)(hbase:attributeBase o "values" X.env (eval o X.env)=eval o X.env)(hline:(ap.endLine == cp.line)=true) :
  PE X (.Call (.Name "list" p) [.Call (.Attribute o "values" ap) [] [] cp] [] p2) (tVals to):=by
 intro pins s σ H Q I h;refine yel (IM I hg hm ydb ?_ (by decide) (by decide))
 refine ych ?_ rfl rfl;show wpAny _ _ (spliced ((false,eval (.Call (.Attribute o "values" ap) [] [] cp) X.env)::backTo p2 (starEach [] X.env))) _ _ s;refine Calls.spliced_cons (yeq hbase hline (AR (ho pins s σ H _ I h) λv s1 ⟨x,H1,I1,r1,q1⟩=>?_))
 obtain⟨a,ob,kvs,rfl,hd,q⟩:=q1;cases r1;obtain⟨h1,h2⟩:=UO I1 hd;obtain⟨z,hs,vs,rel,hat⟩:=Ib I1 hd;refine⟨"dict","dict.values",PySem.F.plainAttrs_dict,PySem.F.slot_dict_values,PySem.F.type_dict_values,h1,h2,ycc rfl (ydw ?_)⟩;refine call_meetsIn PySem.F.slot_dict_values h1 PySem.F.entry_dict_values (PySem.F.args_dict_values_1 _) (meets_dict_values (Bi X.prog X.w) a hs) ⟨⟨vs,hat.dictOf⟩,?_⟩;have I2:Inv X pins σ H1 { s1 with heap:=s1.heap.push { cls:=.type "dict_values",data:=.fields #[.ref a] },toks:=s1.toks }:=I1.kept λb o e=>ya4 _ e
 refine Calls.spliced_nil ?_;refine PySem.W.kdl_call (PySem.W.kdl_values (knd:=Bi X.prog X.w) (r:=s1.heap.objs.size) (d:=a) (kvs:=vs) (ep:=E5 ob)) (I2.ok.hd hc) ⟨⟨_,yag _ rfl,rfl,rfl⟩,hat.push _⟩ (by rw[<- Fb rel];exact z) λh' tk acc' c' hk hD hacc=>?_
 have e:acc'.toList=vs.map (·.2):=PySem.W.kdl_vals_eq acc'.toList (by rw[ydv];exact hacc.1) λj v e=>hacc.2 j v (by rw[<- Array.getElem?_toList];exact e)
 refine⟨.ref _,_,I2.laid (a:=(s1.heap.push { cls:=.type "dict_values",data:=.fields #[.ref a] }).objs.size) (o:=.lst (kvs.map (·.2))) (h':=h') (t':=tk) hk (yaa _) ?_,rfl,q _ (I2.hok.fresh (yaa _))⟩;exact⟨by rw[ya5];exact z,acc'.toList,c',by rw[e];exact zhz rel,by rw[hD]⟩
def tDic0:TE:=λ_ H Q=>∀p ob,H p=none->Q (.ref p) (upd H p (.frz ob (.dK [])))
theorem zh6{pos:Pos}:PE X (.Dict [] [] pos) tDic0:=λpins s σ H Q I h=>by
 refine wpAny_Dict_empty ⟨.ref s.heap.objs.size,_,I.laid (a:=s.heap.objs.size) (o:=.frz { cls:=.type "dict",data:=.dict #[] } (.dK [])) (t':=s.toks) (λ_ _ q=>ya4 _ q) (yaa _) ⟨yag _ rfl,OA s.heap I.big⟩,rfl,h _ _ (I.hok.fresh (yaa _))⟩
def tDic1(tk tv:TE):TE:=λσ H Q=>∀p,H p=none->tk σ (upd H p (.dK [])) λx H1=>tv σ H1 λy H2=>H2 p=some (.dK [])/\∃i:Int,x=.int i/\∀ob,Q (.ref p) (upd H2 p (.frz ob (.dK [(Sum.inl i,y)])))
theorem zh5{k v:Expr}{tk tv:TE}{pos:Pos}(hk:PE X k tk)(hv:PE X v tv):PE X (.Dict [some k] [v] pos) (tDic1 tk tv):=by
 intro pins s σ H Q I q;have hn:=I.hok.fresh (yaa s.heap.objs.size);have I1:=I.laid (a:=s.heap.objs.size) (o:=.dK []) (h':=s.heap.push { cls:=.type "dict",data:=.dict #[] }) (t':=s.toks) (λ_ _ q=>ya4 _ q) (yaa _) (OA s.heap I.big)
 have pp:LP X pos [some k] [v] [(tk,tv)]:=zeq hk hv zgx
 have q1:Le [(tk,tv)] σ (upd H s.heap.objs.size (.dK [])) λps H2=>match ps with
   |[(x,y)]=>H2 s.heap.objs.size=some (.dK [])/\∃i:Int,x=.int i/\∀ob,Q (.ref s.heap.objs.size) (upd H2 s.heap.objs.size (.frz ob (.dK [(Sum.inl i,y)])))
   |_=>False:=q _ hn
 refine wpAny_Dict_walk (knd:=Bi X.prog X.w) rfl rfl (by simp) (by simp) (AR (pp pins _ σ _ _ I1 q1) λws s2 ⟨ps,H2,I2,rel,q2⟩=>?_)
 split at q2
 case h_2=>exact q2.elim
 rename_i x y;obtain⟨e,i,ex,q2⟩:=q2;subst ex;obtain⟨rs,c,rk⟩:=U8 (P:=X.prog) (w:=X.w) (kvs:=[(Sum.inl i,y)]) rel;obtain⟨z,hd,vs0,r0,dd⟩:=UM I2.hok e;cases r0;refine⟨rs,c,dd,λh' dd' hs=>?_⟩
 obtain⟨ob,es,ep,hob,r⟩:=id dd';refine⟨.ref s.heap.objs.size,_,OB (ob:=.frz ob (.dK [(Sum.inl i,y)])) I2 (by rw[e];exact True.intro) hs ⟨ob,hob⟩ ⟨hob,UN (kvs:=SM [] [(Sum.inl i,y)]) (by rw[yei];show(1:Nat)<=16777216;decide) hd (rk.merge .nil) dd'⟩,rfl,q2 ob⟩
end
def Hf(ifs:List Expr)(env:Env):Sem Bool:=forIn ifs true λc r=>if r=true then do let ok <- isTrue c env (eval c env);pure (ForInStep.yield ok) else pure (ForInStep.yield r)
def Fp(X:Cx)(ifs:List Expr)(t:TT):Prop :=
 ∀(pins:List (Addr×Obj)) (s:Shared) (σ:L2.St) (H:Hp) (Q:Bool->Hp->Prop),Inv X pins σ H s->t σ H Q->wpAny (model X.prog X.w) X.A (Hf ifs X.env) (TP X pins σ Q) X.xe s
theorem zgr{X:Cx}:Fp X [] (λ_ H Q=>Q true H):=λpins s σ H Q I h=>yef ⟨H,I,h⟩
theorem Q3{X:Cx}{c:Expr}{t:TT}(h:PT X c t):Fp X [c] t:=λpins s σ H Q I q=>by
 have e:Hf [c] X.env=(isTrue c X.env (eval c X.env) >>= λok=>pure ok):=by
  unfold Hf;simp[List.forIn_cons]
 rw[e];exact yec (ye9 (h pins s σ H Q I q) (λb s1 h1=>yef h1) λ_ _ z=>z)
theorem zcd{elt target iter:Expr}{ifs:List Expr}{scope:Scope}{pos:Pos}{it acc:Value}{env:Env}:compTurn (.ListComp elt [⟨target,iter,ifs,0⟩] scope pos) 0 it acc env=(standAt iter.pos >>= λ_=>pyNext it >>= λr=>match r with
  |none=>pure (.done .next)
  |some u=>letOwnedTupleGo target it u >>= λ_=>assign target env u >>= λ_=>Hf ifs env >>= λok =>
   if ok=true then ((eval elt env >>= λx=>call (.builtin "list.append") [acc,x] >>= λ_=>pure ()) >>= λ_=>again (.compLoop (.ListComp elt [⟨target,iter,ifs,0⟩] scope pos) 0 it acc env))
   else again (.compLoop (.ListComp elt [⟨target,iter,ifs,0⟩] scope pos) 0 it acc env)):=by rfl
theorem zce{prog:Program}{w:World}{A:Around}{R:Result->Shared->Prop}{s:Shared}{elt target iter:Expr}{ifs:List Expr}{scope:Scope}{pos:Pos}{it acc:Value}{env:Env}{NE:Value->Shared->Prop}(hN:NE=notedBy (model prog w) A env λe s'=>R (.error e) s')(I:Nat->Shared->Prop)
  (hturn : ∀ n s, I n s -> wpAny (model prog w) A (pyNext it) (fun r s₁ => match r with
   |none=>R (.ok .next) s₁
   |some v=>wpAny (model prog w) A (letOwnedTupleGo target it v) (λ_ s₁'=>wpAny (model prog w) A (assign target env v) (λ_ s₂=>wpAny (model prog w) A (Hf ifs env) (λok s₂'=>if ok=true then wpAny (model prog w) A (eval elt env) (λx s₃ =>
     wpAny (model prog w) A (call (.builtin "list.append") [acc,x]) (λ_ s₄=>∃m,m<n/\I m s₄) NE s₃)
     NE s₂' else ∃m,m<n/\I m s₂') NE s₂) NE s₁') NE s₁) NE s)
  (k:Nat) (hk:I k s):codeAny (model prog w) A (.compLoop (.ListComp elt [⟨target,iter,ifs,0⟩] scope pos) 0 it acc env) R s:=by
 subst hN;refine codeAny_loop rfl I (λn s hI=>?_) k hk
 show wpAny _ _ ((compTurn (.ListComp elt [⟨target,iter,ifs,0⟩] scope pos) 0 it acc env).onRaise (λy=>do noteFrame y env;theTreesLotGoes y)) _ _ s
 refine wpAny_noted ?_;rw[zcd];refine yec (yee (yec (ye9 (hturn n s hI) (λr s₁ h₁=>?_) λ_ _ z=>z)))
 cases r with
 |none=>exact yef h₁
 |some v =>
  refine yec (ye9 h₁ (λ_ s₁' h₁'=>?_) λ_ _ z=>z)
  refine yec (ye9 h₁' (λ_ s₂ h₂=>yec (ye9 h₂ (λok s₂' h₂'=>?_) λ_ _ z=>z)) λ_ _ z=>z)
  cases ok with
  |false =>
   rw[if_neg (by decide)]at h₂' ⊢
   exact yef ⟨rfl,h₂'⟩
  |true =>
   rw[if_pos rfl]at h₂' ⊢;exact yec (yec (ye9 h₂' (λx s₃ h₃=>yec (ye9 h₃ (λ_ s₄ h₄=>yef (yef ⟨rfl,h₄⟩)) λ_ _ z=>z)) λ_ _ z=>z))
theorem ON(env:Env):∀(names:List (Str×NameKind)),(∀y∈names,y.2=.free->∃c,env.cells.lookup y.1=some c)->∀acc:List (Str×Addr),∃cl:List (Str×Addr),
  (forIn names acc λ(x:Str×NameKind) (r:List (Str×Addr))=>(if (x.2 == NameKind.free)=true then do let a <- cellOf env x.1;pure (ForInStep.yield ((x.1,a)::r)) else pure (ForInStep.yield r):Sem (ForInStep (List (Str×Addr)))))=(pure cl:Sem (List (Str×Addr))) /\
  (∀y c,cl.lookup y=some c->acc.lookup y=some c\/env.cells.lookup y=some c)/\(∀y∈names,y.2=.free->∃c,cl.lookup y.1=some c)/\∀y c,acc.lookup y=some c->∃c',cl.lookup y=some c'
 |[],_,acc=>⟨acc,rfl,λ_ _ e=>.inl e,(λ_ z=>by cases z),λ_ c e=>⟨c,e⟩⟩
 |(n,k)::r,h,acc=>by
  rw[List.forIn_cons]
  by_cases hk:k=.free
  .subst hk;obtain⟨c,hc⟩:=h (n,.free) (yah ..) rfl;have e1:cellOf env n=pure c:=by unfold cellOf;rw[hc]
   obtain⟨cl,e,h1,h2,h3⟩:=ON env r (λy hy=>h y (yab _ hy)) ((n,c)::acc)
   refine⟨cl,?_,λy c' q=>?_,λy hy hf=>?_,λy c' q=>?_⟩
   .simp only[yf0,yeo,e1,pure_bind];exact e
   .rcases h1 y c' q with z|z
    .rw[yaz]at z;cases hy:y == n with
     |true =>
      rw[hy]at z;cases z;exact .inr (by rw[eq_of_beq hy];exact hc)
     |false=>rw[hy]at z;exact .inl z
    .exact .inr z
   .obtain rfl|hy:=ya9.mp hy
    .exact h3 n c (by simp)
    .exact h2 y hy hf
   .by_cases hy:y=n
    .subst hy;exact h3 y c (by simp)
    .exact h3 y c' (by rw[yaz,beq_eq_false_iff_ne.mpr hy];exact q)
  .have hk':(k == NameKind.free)=false:=beq_eq_false_iff_ne.mpr hk;obtain⟨cl,e,h1,h2,h3⟩:=ON env r (λy hy=>h y (yab _ hy)) acc
   refine⟨cl,?_,h1,λy hy hf=>?_,h3⟩
   .simp only[hk',pure_bind];exact e
   .obtain rfl|hy:=ya9.mp hy
    .exact absurd hf hk
    .exact h2 y hy hf
theorem zbo(scope:Scope)(env:Env)(h:∀y∈scope.names,y.2=.free->∃c,env.cells.lookup y.1=some c):∃cl,closureFor scope env=pure cl/\(∀y c,cl.lookup y=some c->env.cells.lookup y=some c)/\∀y∈scope.names,y.2=.free->∃c,cl.lookup y.1=some c:=by
 obtain⟨cl,e,h1,h2,_⟩:=ON env scope.names h [];refine⟨cl,?_,λy c q=>?_,h2⟩
 .have e2:closureFor scope env=(forIn scope.names [] λ(x:Str×NameKind) (r:List (Str×Addr))=>(if (x.2 == NameKind.free)=true then do let a <- cellOf env x.1;pure (ForInStep.yield ((x.1,a)::r)) else pure (ForInStep.yield r):Sem (ForInStep (List (Str×Addr))))) >>= pure:=rfl
  rw[e2,e,pure_bind]
 .rcases h1 y c q with z|z
  .cases z
  .exact z
theorem OP:∀(names:List (Str×NameKind)) (h:Heap) (acc:List (Str×Addr)) (y:Str) (c:Addr),(cellsFrom h.objs.size names acc).lookup y=some c->acc.lookup y=some c\/(h.objs.size<=c/\(pushCells h names).IsCell c none/\(y,NameKind.cell)∈names)
 |[],h,acc,y,c,e=>.inl e
 |(n,k)::r,h,acc,y,c,e=>by
  unfold cellsFrom at e;unfold pushCells;split at e
  .rename_i hk;rw[if_pos hk];have ez:(h.push { cls:=.type "cell",data:=.cell none }).objs.size=h.objs.size+1:=ybx ..;rw[<- ez]at e
   rcases OP r _ _ y c e with q|⟨q1,q2,q3⟩
   .rw[yaz]at q;cases hy:y == n with
    |true =>
     rw[hy]at q;cases q;have e1:y=n:=eq_of_beq hy;subst e1;exact .inr ⟨yaa _,⟨_,yf1 _ _ _ _ (yag _ rfl),rfl⟩,by rw[eq_of_beq hk];exact yah ..⟩
    |false=>rw[hy]at q;exact .inl q
   .exact .inr ⟨by rw[ez]at q1;exact yap (yc6 _) q1,q2,yab _ q3⟩
  .rename_i hk;rw[if_neg hk]
   rcases OP r h acc y c e with q|⟨q1,q2,q3⟩
   .exact .inl q
   .exact .inr ⟨q1,q2,yab _ q3⟩
theorem OQ:∀(names:List (Str×NameKind)) (h:Heap) (acc:List (Str×Addr)),(∀y z c,acc.lookup y=some c->acc.lookup z=some c->y=z)->(∀y c,acc.lookup y=some c->c<h.objs.size) ->
  ∀y z c,(cellsFrom h.objs.size names acc).lookup y=some c->(cellsFrom h.objs.size names acc).lookup z=some c->y=z
 |[],h,acc,hi,_=>hi
 |(n,k)::r,h,acc,hi,hl=>by
  unfold cellsFrom;split
  .have ez:(h.push { cls:=.type "cell",data:=.cell none }).objs.size=h.objs.size+1:=ybx ..;rw[<- ez];refine OQ r _ _ (λy z c h1 h2=>?_) (λy c h1=>?_)
   .rw[yaz]at h1 h2;cases hy:y == n with
    |true =>
     rw[hy]at h1;cases h1;cases hz:z == n with
     |true=>rw[eq_of_beq hy,eq_of_beq hz]
     |false =>
      rw[hz]at h2;exact absurd (hl z _ h2) (yb7 _)
    |false =>
     rw[hy]at h1;cases hz:z == n with
     |true =>
      rw[hz]at h2;cases h2;exact absurd (hl y _ h1) (yb7 _)
     |false=>rw[hz]at h2;exact hi y z c h1 h2
   .rw[yaz]at h1;rw[ez];cases hy:y == n with
    |true=>rw[hy]at h1;cases h1;exact yci _
    |false=>rw[hy]at h1;exact yc3 (hl y c h1)
  .exact OQ r h acc hi hl
theorem OO:∀(names:List (Str×NameKind)) (n lo:Nat) (acc:List (Str×Addr)) (y:Str) (c:Addr),lo<=n->((y,NameKind.cell)∈names\/∃c0,acc.lookup y=some c0/\lo<=c0)->(cellsFrom n names acc).lookup y=some c->lo<=c
 |[],n,lo,acc,y,c,hn,h,e=>by
  rcases h with h|⟨c0,h1,h2⟩
  .cases h
  .have e':acc.lookup y=some c:=e;rw[h1]at e';cases e';exact h2
 |(m,k)::r,n,lo,acc,y,c,hn,h,e=>by
  unfold cellsFrom at e;split at e
  .refine OO r (n+1) lo _ y c (Nat.le_succ_of_le hn) ?_ e
   by_cases hy:y=m
   .subst hy;exact .inr ⟨n,by simp,hn⟩
   .rcases h with h|⟨c0,h1,h2⟩
    .rcases ya9.mp h with z|z
     .cases z;exact absurd rfl hy
     .exact .inl z
    .exact .inr ⟨c0,by rw[yaz,beq_eq_false_iff_ne.mpr hy];exact h1,h2⟩
  .rename_i hk;refine OO r n lo acc y c hn ?_ e
   rcases h with h|h
   .rcases ya9.mp h with z|z
    .cases z;exact absurd rfl hk
    .exact .inl z
   .exact .inr h
theorem zb3{M:Model}{A:Around}{E:Value->Shared->Prop}{s:Shared}{scope:Scope}{globals:Addr}{cl:List (Str×Addr)}{qual:Str}{func:Option Addr}{code:Value}{outer:Env}{builtins:Addr}{Q:Env->Shared->Prop}
  (hQ:Q (newEnv scope s.heap.objs.size globals (cellsFrom (s.heap.objs.size+1) scope.names cl) qual func code (some outer) builtins) { s with heap:=pushCells (s.heap.push { cls:=.type "dict",data:=.dict #[] }) scope.names }) :
  wpAny M A (newFunctionEnv scope globals cl [] qual func code (some outer) builtins) Q E s:=by
 simp only[newFunctionEnv,Option.isSome_some,yeo];refine yec (wpAny_alloc ?_);refine yec (wpAny_layCells _ (λname kind cells=>by cases hkc:kind == NameKind.cell<;>simp[hkc]) _ _ _ _ ?_);rw[show({ s with heap:=s.heap.push { cls:=.type "dict",data:=.dict #[] } }:Shared).heap.objs.size=s.heap.objs.size+1 from ybx ..]
 rw[List.forIn_nil];exact yec (yef (yef hQ))
abbrev Af(X:Cx)(scope:Scope)(cl:List (Str×Addr))(N':List Str)(C:Addr)(s₀:Shared)(H₀:Hp)(ex:List Addr)(xb:Value->Shared->Prop):Cx:={ zlq X scope cl N' C s₀ H₀ ex with fn:=λx=>decide (scope.names.lookup x=some .cell),xe:=xb }
theorem UI{h h' B B':Heap}(k:∀b o,B.get? b=none->h.get? b=some o->(∀us,o.data≠.fields us)->B'.get? b=none/\∃o',h'.get? b=some o'/\∀us,o'.data≠.fields us):∀{l:List Env},h.FunFrames B l->h'.FunFrames B' l
 |[],_=>trivial
 |_::_,⟨x,⟨L,o,y1,y2,y3,y4⟩,r⟩=>by
  obtain⟨z1,o',z2,z3⟩:=k L o y2 y3 y4;exact⟨x,⟨L,o',y1,z1,z2,z3⟩,UI k r⟩
def Ft(X:Cx):Prop:=∃v l,X.stack=v::l/\X.env.frame=v.frame
theorem zdk{X:Cx}{E:L2.St->XK}{pins:List (Addr×Obj)}{σ:L2.St}{H:Hp}{s s':Shared}{C:Addr}{benv:Env}{e acc:Value}{use:Option (Value->Sem Unit)}{QQ:Value->Shared->Prop}{EE:Value->Shared->Prop}(hx:BI X E)(hst:Ft X)(I:Inv X pins σ H s)(fC:CM X pins H C)(hC:∃m,s.heap.Ns C m)(nC:C∉Ax X.stack)
  (hb:benv.frame=X.env.frame) (h:CG X.prog X.w X.stack H s (E σ) e s'):wpAny (model X.prog X.w) X.A (noteFrame e benv) (λ_ s2=>compPost (model X.prog X.w) X.A X.xe use QQ acc C (.error e) s2) EE s':=by
 obtain⟨v,l,st,hv⟩:=hst;obtain⟨a,cls,H',B,rfl,os,bare,un,hok,kB,tB,fl0,he⟩:=h;have fl1:Ga B (v::l) a cls s'.heap:=st▸fl0
 obtain⟨L,hL⟩:∃L,v.frame=some L:=by
  obtain⟨_,_,_,⟨_,⟨L,_,y,_⟩,_⟩,_⟩:=fl1;exact⟨L,y⟩
 refine Mh (st▸I.ok.frames) (hb.trans hv) hL fl1 λh4 held sm=>?_
 obtain⟨m,oC,es,ep,hCo,dC,rC⟩:=hC;have bC:B.get? C=some oC:=kB C oC hCo fC.1 nC;obtain⟨f1,f2,f3,oe,ws,Tb,oT,ts,ha,hcl,hd,g1,nT,Tne,hT,dT,g3⟩:=held
 have hne:∀{b:Addr},B.get? b=none->b≠C:=λz w=>by
  rw[w,bC]at z;cases z
 have key:∃m,h4.Ns C m/\∀h',Heap.SameBut C h4 h'->∀cenv:Env,cenv.locals=C->wpAny (model X.prog X.w) X.A (PySem.passOn "comprehension.variables-let-go" (.ref a) cenv:Sem Value) (λ_ _=>False) X.xe { s' with heap:=h' }:=by
  refine⟨m,⟨oC,es,ep,f1 C oC bC,dC,rC⟩,λh5 sb cenv _=>?_⟩
  have ha5:h5.get? a=some oe:=(sb.2 a (hne f2)).trans ha;have hT5:h5.get? Tb=some oT:=(sb.2 Tb (hne nT)).trans hT;unfold PySem.passOn;refine yec (yeu ha5 hd g1 ?_);rw[if_neg (by simp)]
  refine yec ?_;unfold setFlight;refine yec (yeu ha5 hd g1 ?_);rw[if_pos (by simp)]
  refine yet hT5 dT (ybs.mp g3).1 (wpAny_throw ?_);generalize hfl:(cenv.frame.elim Value.none λf=>rawInt f)=fl
  have dT6:=ycx dT (·.setIfInBounds 3 fl);have hT6:=yce (Obj.mapFields (·.setIfInBounds 3 fl)) hT5 (ydi dT6);generalize hh6:h5.update Tb (Obj.mapFields (·.setIfInBounds 3 fl))=h6 at hT6 ⊢
  have to6:∀b o,b≠C->b≠Tb->h4.get? b=some o->h6.get? b=some o:=λb o n1 n2 e=>by
   rw[<- hh6,ybd _ _ (yb1 n2)];exact(sb.2 b n1).trans e
  have B6:∀b o,b≠C->B.get? b=some o->h6.get? b=some o:=λb o n e=>to6 b o n (λz=>by rw[z,nT]at e;cases e) (f1 b o e)
  have hid:∀{b:Addr} {o:Obj},(PySem.W.hideAll s.heap [C]).get? b=some o->s.heap.get? b=some o/\b≠C:=λ{b o} e=>⟨yc8 _ e,λz=>by
   rw[z,ydk [C] (ya3.mpr rfl)]at e;cases e⟩
  have hidB:∀{b:Addr} {o:Obj},b≠C->B.get? b=some o->(PySem.W.hideAll B [C]).get? b=some o:=λ{b o} n e=>ybw _ e (λz=>n (ya3.mp z))
  have hidN:∀{b:Addr},B.get? b=none->(PySem.W.hideAll B [C]).get? b=none:=λ{b} e=>by
   cases q:(PySem.W.hideAll B [C]).get? b with
   |none=>rfl
   |some o =>
    rw[yc8 _ q]at e;cases e
  have IX:Inv X pins σ H { s with heap:=PySem.W.hideAll s.heap [C] }:=He (t':=s.toks) (ch:=[C]) I (λb o n e=>ybw _ e n) λb z=>by
   rw[ya3.mp z];exact fC
  have slot:∀b o,s.heap.get? b=some o->H b=none->b∈Ax X.stack->∃z,h6.get? b=some { o with slots:=z }:=λb o e n z=>by
   obtain⟨_,o2,ho2,d2⟩:=I.stack.mem z;rw[e]at ho2;cases ho2;obtain⟨z2,e2⟩:=un.slot b o e n z (by simp)
   obtain⟨z3,e3⟩:=sm b _ e2 d2;refine⟨z3,to6 b _ (λw=>nC (w▸z)) (λw=>?_) e3⟩
   rw[w,hT]at e3;cases e3;exact d2 _ dT
  have HC:H' C=none:=un.free C oC hCo fC.1 (by simp)
  refine hx pins σ H _ _ _ IX ⟨a,cls,H',PySem.W.hideAll B [C],rfl,os,bare,⟨λb o e n z _=>?_,λb o e n z _=>slot b o (hid e).1 n z,λb o e n z=>un.free b o (hid e).1 n z,λb o e _=>?_,un.tups,un.frzs,un.tbls⟩,?_,λb o e n z=>hidB (hid e).2 (kB b o (hid e).1 n z),λb o e z=>?_,⟨fl,λb o e=>?_,hidN f2,?_,?_⟩,he⟩
  .exact B6 b o (hid e).2 (kB b o (hid e).1 n z)
  .by_cases z:b∈Ax X.stack
   .obtain⟨w,q⟩:=slot b o (hid e).1 (I.stkFree b z) z;exact⟨_,q⟩
   .obtain⟨o',q⟩:=tB b o (hid e).1 z;exact⟨o',B6 b o' (hid e).2 q⟩
  .intro b u e;refine(hok b u e).stay (λc x hc q=>hidB (λw=>?_) q) (λ_ q=>q) λ_ _ q=>q
   rcases hc with y|y
   .rw[<- y,w,HC]at e;cases e
   .rw[w,HC]at y;cases y
  .obtain⟨o',q⟩:=tB b o (hid e).1 z;exact⟨o',hidB (hid e).2 q⟩
  .have e':=yc8 _ e;refine B6 b o (λw=>?_) e'
   rw[w,ydk [C] (ya3.mpr rfl)]at e;cases e
  .rw[st];refine UI (λb o n e d=>⟨hidN n,o,to6 b o (hne n) (λw=>?_) e,d⟩) f3
   rw[w,hT]at e;cases e;exact d _ dT
  .refine⟨oe,ws,Tb,_,_,?_,hcl,hd,g1,hidN nT,Tne,hT6,dT6,?_⟩
   .rw[<- hh6,ybd _ _ Tne];exact ha5
   .simp[Array.getElem?_setIfInBounds,(ybs.mp g3).1]
 cases use<;>exact key
structure TurnG(cq:Cx->Prop)(P:Program)(w:World)(K:kA)(tg:Expr)(J:It)(fp:List Addr)(it:Addr)(tn:Nat->Heap->Prop):Prop where
 obj:∀i h,tn i h->∀b∈fp,∃o,h.get? b=some o/\∀v,o.data≠.cell v
 keep:∀i h h',tn i h->(∀b∈fp,∀o,h.get? b=some o->h'.get? b=some o)->tn i h'
 item:∀(X:Cx),X.prog=P->X.w=w->X.K=K->cq X->∀(i:Nat) (pins:List (Addr×Obj)) (s:Shared) (σ:L2.St) (H:Hp) (E:Value->Shared->Prop),Inv X pins σ H s->(∀b∈fp,CM X pins H b)->tn i s.heap->J.go i H ->
  wpAny (model P w) X.A (pyNext (.ref it)) (λr s1=>∃u,r=some u/\wpAny (model P w) X.A (letOwnedTupleGo tg (.ref it) u) (λ_ s2=>∃x H',Inv X pins σ H' s2/\RelV x u/\J.yld i H x H'/\tn (i+1) s2.heap/\∀b∈fp,H' b=none) E s1) E s
 done:∀(X:Cx),X.prog=P->X.w=w->X.K=K->cq X->∀(i:Nat) (pins:List (Addr×Obj)) (s:Shared) (σ:L2.St) (H:Hp) (E:Value->Shared->Prop),Inv X pins σ H s->(∀b∈fp,CM X pins H b)->tn i s.heap->J.stop i H ->
  wpAny (model P w) X.A (pyNext (.ref it)) (λr s1=>r=none/\Inv X pins σ H s1) E s
 self:∀(A:Around) (i:Nat) (s:Shared) (Q:Value->Shared->Prop) (E:Value->Shared->Prop),tn i s.heap->Q (.ref it) s->wpAny (model P w) A (pyIter (.ref it)) Q E s
def PJ(cq:Cx->Prop)(X:Cx)(tg iter:Expr)(wi:TI):Prop :=
 ∀(pins:List (Addr×Obj)) (s:Shared) (σ:L2.St) (H:Hp) (R:It->Hp->Prop),Inv X pins σ H s->wi σ H R ->
  wpAny (model X.prog X.w) X.A (eval iter X.env) (λv s1=>wpAny (model X.prog X.w) X.A (pyIter v) (λitv s2=>∃(it:Addr) (fp:List Addr) (tn:Nat->Heap->Prop) (J:It) (H':Hp),itv=.ref it/\Inv X pins σ H' s2/\TurnG cq X.prog X.w X.K tg J fp it tn/\tn 0 s2.heap/\(∀b∈fp,CM X pins H' b)/\R J H') X.xe s1) X.xe s
theorem Q8{X:Cx}{tg iter:Expr}{wi:TI}(h:PI X tg iter wi):PJ (λX=>X.calm=true) X tg iter wi:=λpins s σ H R I q =>
 AR (h pins s σ H R I q) λ_ _ h1=>AR h1 λ_ _ ⟨it,fp,tn,J,H',e,I2,T,r⟩=>⟨it,fp,tn,J,H',e,I2,⟨T.obj,T.keep,T.item,T.done,T.self⟩,r⟩
section
variable {X:Cx}{elt iter tg:Expr}{ifs:List Expr}{scope:Scope}{pos pos2:Pos}{cl:List (Str×Addr)}{N':List Str}{wi:TI}{g:TG}{tt:TT}{te:TE}
def J3(σ':L2.St->L2.St)(wi:TI)(g:TG)(tt:TT)(te:TE):TE:=λσ H Q=>wi σ H λJ H1=>∃(W:Nat->List V->L2.St->Hp->Prop) (n:Nat),n<=sizeLine/\W 0 [] (σ' σ) H1/\∀i ys τ H,W i ys τ H->ys.length<=i/\i<=n /\
 ((J.stop i H/\∀p,H p=none->Q (.ref p) (upd H p (.lst ys)))\/(i<n/\J.go i H/\∀x H',J.yld i H x H'->g x τ H' λτ2 H2=>tt τ2 H2 λk H3=>if k=true then te τ2 H3 λy H4=>W (i+1) (ys++[y]) τ2 H4 else W (i+1) ys τ2 H3))
theorem Sa(σ':L2.St->L2.St)(hclos:closureFor scope X.env=pure cl)(hkind:scope.kind=.function)(hnames:∀y∈scope.names,y.2=.local->scope.names.lookup y.1=some .local)
  (hcl:∀y c,cl.lookup y=some c->X.env.cells.lookup y=some c) (hhas:∀y,(relabel scope X.env).names.lookup y=some .cell\/(relabel scope X.env).names.lookup y=some .free->(y,NameKind.cell)∈scope.names\/∃c,cl.lookup y=some c) (hcap:∀(σ:L2.St) (i:Nat) (y:Str) (v:V),N'[i]?=some y->(σ' σ)[i]?=some (some v)->(y,NameKind.cell)∉scope.names)
  (hσ:∀σ:L2.St,σ.length=X.N.length->(σ' σ).length=N'.length)
  (hvis:∀(σ:L2.St) (i:Nat) (y:Str) (v:V),N'[i]?=some y->(σ' σ)[i]?=some (some v)->((relabel scope X.env).names.lookup y=some .cell\/(relabel scope X.env).names.lookup y=some .free)/\∃j:Nat,X.N[j]?=some y/\σ[j]?=some (some v)/\DM X.env.scope y/\X.env.kindOf y≠some .local)
  {cq:Cx->Prop} (hc:∀pins σ H s cl C ex xb,Inv X pins σ H s->cq (Af X scope cl N' C s H ex xb)) (hi:PJ cq X tg iter wi) {E:L2.St->XK} (hps:BI X E) (hst:Ft X) {σ:L2.St} (hg:∀cl C s₀ H₀ ex xb,BI (Af X scope cl N' C s₀ H₀ ex xb) (λ_=>E σ)->PG (Af X scope cl N' C s₀ H₀ ex xb) tg g) (ht:∀cl C s₀ H₀ ex xb,BI (Af X scope cl N' C s₀ H₀ ex xb) (λ_=>E σ)->Fp (Af X scope cl N' C s₀ H₀ ex xb) ifs tt) (he:∀cl C s₀ H₀ ex xb,BI (Af X scope cl N' C s₀ H₀ ex xb) (λ_=>E σ)->PE (Af X scope cl N' C s₀ H₀ ex xb) elt te)
  (hs:∀x,foldedSetIterable iter X.env x=pure x) {use:Option (Value->Sem Unit)} {pins:List (Addr×Obj)} {s:Shared} {H:Hp} {Q:VK} {QQ:Value->Shared->Prop} (I:Inv X pins σ H s) (h:J3 σ' wi g tt te σ H Q)
  (hend:∀(D C:Addr) (s5:Shared) (H5:Hp),Inv X pins σ H5 s5->Q (.ref D) H5->(∃m,s5.heap.Ns C m)->CM X pins H5 C->compPost (model X.prog X.w) X.A X.xe use QQ (.ref D) C (.ok .next) s5) :
  wpAny (model X.prog X.w) X.A (comprehension (.ListComp elt [⟨tg,iter,ifs,0⟩] scope pos) scope X.env pos2 (newList []) false (eval iter X.env) use) QQ X.xe s:=by
 refine wpAny_comprehension_free (use:=use) rfl hs hclos hkind hnames (AR (hi pins s σ H _ I h) λv s1 h1=>AR h1 λitv s2 h2=>?_)
 obtain⟨it,fp,tn,J,H2,e,I2,T,st2,f2,W,n,hn,w0,turn⟩:=h2;subst e;refine yes (zb3 ?_);dsimp only;generalize hHp:s2.heap.push { cls:=.type "list",dict:=none,data:=.seq ([]:List Value).toArray }=P2;generalize hcl':cellsFrom (P2.objs.size+1) scope.names cl=cl';generalize hh1:pushCells (P2.push { cls:=.type "dict",data:=.dict #[] }) scope.names=h₁;have hC:P2.objs.size=s2.heap.objs.size+1:=by rw[<- hHp,ybx]
 have hP3:(P2.push { cls:=.type "dict",data:=.dict #[] }).objs.size=P2.objs.size+1:=ybx ..;have hDC:s2.heap.objs.size≠P2.objs.size:=by rw[hC];exact yaw (yci _)
 have below:∀b,b<s2.heap.objs.size->b≠P2.objs.size/\b≠s2.heap.objs.size:=λb hb=>⟨by rw[hC];exact yaw (yc3 hb),yaw hb⟩
 have old:∀b o,s2.heap.get? b=some o->h₁.get? b=some o:=λb o e=>by
  rw[<- hh1];exact yf1 _ _ _ _ (ya4 _ (hHp▸ya4 _ e))
 have hacc:h₁.PlainList s2.heap.objs.size #[]:=⟨_,by
  rw[<- hh1];exact yf1 _ _ _ _ (ya4 _ (hHp▸yag _ rfl))⟩
 have hns₁:h₁.Ns P2.objs.size (λ_=>none):=by
  rw[<- hh1];exact(Heap.Ns.new P2 (.type "dict")).keeps (yf1 _ _)
 have cells:∀y c,cl'.lookup y=some c->X.env.cells.lookup y=some c\/(P2.objs.size<c/\h₁.IsCell c none/\(y,NameKind.cell)∈scope.names):=λy c e=>by
  rw[<- hcl',<- hP3]at e
  rcases OP _ _ _ y c e with q|⟨q1,q2,q3⟩
  .exact .inl (hcl y c q)
  .rw[hP3]at q1;rw[hh1]at q2;exact .inr ⟨q1,q2,q3⟩
 have has':∀y,(y,NameKind.cell)∈scope.names\/(∃c,cl.lookup y=some c)->∃c,cl'.lookup y=some c:=λy hy=>by
  rw[<- hcl']
  have go:∀(names:List (Str×NameKind)) (n:Nat) (acc:List (Str×Addr)),((y,NameKind.cell)∈names\/∃c,acc.lookup y=some c)->∃c,(cellsFrom n names acc).lookup y=some c:=by
   intro names
   induction names with
   |nil =>
    intro n acc h
    rcases h with h|h
    .cases h
    .exact h
   |cons x r ih =>
    obtain⟨m,k⟩:=x;intro n acc h;unfold cellsFrom;split
    .refine ih _ _ ?_
     by_cases hm:y=m
     .subst hm;exact .inr ⟨n,by simp⟩
     .rcases h with h|⟨c,h⟩
      .rcases ya9.mp h with z|z
       .cases z;exact absurd rfl hm
       .exact .inl z
      .exact .inr ⟨c,by rw[yaz,beq_eq_false_iff_ne.mpr hm];exact h⟩
    .rename_i hk;refine ih _ _ ?_
     rcases h with h|h
     .rcases ya9.mp h with z|z
      .cases z;exact absurd rfl hk
      .exact .inl z
     .exact .inr h
  exact go _ _ _ hy
 have fsub:∀b∈Ax X.stack,b∈X.env.locals::X.fs:=I2.stkSub
 have fpfs:∀b∈fp,b∉Ax X.stack:=λb hb z=>by
  obtain⟨_,h2,h3,_⟩:=f2 b hb
  rcases ya9.mp (fsub b z) with q|q
  .exact h2 q
  .exact h3 q
 have fpold:∀b∈fp,b<s2.heap.objs.size:=λb hb=>by
  obtain⟨o,e,_⟩:=T.obj 0 _ st2 b hb;exact yae e
 have cold:∀y c,cl'.lookup y=some c->c<s2.heap.objs.size\/P2.objs.size<c:=λy c e=>by
  rcases cells y c e with q|q
  .obtain⟨v,z⟩:=I2.cell y c q;exact .inl z.lt
  .exact .inr q.1
 have cneD:∀y c,cl'.lookup y=some c->c≠s2.heap.objs.size:=λy c e z=>by
  rcases cold y c e with q|q
  .rw[z]at q;exact yb7 _ q
  .rw[z,hC]at q;exact absurd q (ydr.mpr (yc6 _))
 have cneF:∀b,b<s2.heap.objs.size->(∀y c,X.env.cells.lookup y=some c->c≠b)->∀y c,cl'.lookup y=some c->c≠b:=λb hb hx y c e z=>by
  rcases cells y c e with q|q
  .exact hx y c q z
  .have:=q.1;rw[z,hC]at this;exact absurd (ydj hb (Nat.lt_of_succ_lt this)) (yb7 _)
 have fresh2:∀b,s2.heap.objs.size<=b->H2 b=none:=λb hb=>I2.hok.fresh hb
 have CS:s2.heap.objs.size<=P2.objs.size:=by rw[hC];exact yc6 _
 obtain⟨xb,hxb⟩:∃xb,xb=notedBy (model X.prog X.w) X.A (compEnvC scope cl' P2.objs.size X.env) λe s'=>compPost (model X.prog X.w) X.A X.xe use QQ (.ref s2.heap.objs.size) P2.objs.size (.error e) s':=⟨_,rfl⟩
 have hpb:BI (Af X scope cl' N' P2.objs.size s2 H2 fp xb) (λ_=>E σ):=by
  subst hxb;intro pins4 σ4 H4 s4 e s' I4 hcx
  have IX:Inv X pins σ H4 s4:=I2.call' (s':=s4) (ch:=fp) I4.os I4.base I4.hok I4.bare λb hb=>by
   obtain⟨g1,g2,g3,g4,g5,g6⟩:=f2 b hb;exact⟨g4,g2,g5,g6⟩
  obtain⟨m4,hm4,_⟩:=I4.loc
  exact zdk hps hst IX ⟨I4.free,(I2.fpOk (H':=H2) CS (fresh2 _ CS)).2⟩ ⟨m4,hm4⟩ (λz=>by
   obtain⟨o,ho,_⟩:=(I2.stack.mem z).2;exact absurd (yae ho) (ydr.mpr CS)) rfl hcx
 have ok':(Af X scope cl' N' P2.objs.size s2 H2 fp xb).Ok:=by
  refine⟨I2.ok.mod,hkind,I2.ok.glob,I2.ok.blt,CS,?inj,λy hy=>has' y (hhas y hy),?cab,I2.ok.hd,I2.ok.frames,.inl rfl,λb hb=>⟨(below b (fpold b hb)).1,cneF b (fpold b hb) λy c e=>(f2 b hb).2.2.2.2.1 y c e⟩,
   λb o e=>I2.bs b o e,yap I2.ok.bsz I2.sz,λb o e hb=>?_,λb hb=>fpfs b hb,I2.stack,I2.stkFree⟩
  case inj =>
   intro y z c h1 h2;have h1':(cellsFrom (P2.push { cls:=.type "dict",data:=.dict #[] }).objs.size scope.names cl).lookup y=some c:=by rw[hP3,hcl'];exact h1
   have h2':(cellsFrom (P2.push { cls:=.type "dict",data:=.dict #[] }).objs.size scope.names cl).lookup z=some c:=by rw[hP3,hcl'];exact h2
   refine OQ scope.names _ cl (λy z c g1 g2=>I2.ok.inj y z c (hcl y c g1) (hcl z c g2)) (λy c g=>?_) y z c h1' h2'
   obtain⟨v,q⟩:=I2.cell y c (hcl y c g);rw[hP3,hC];exact yc3 (yc3 q.lt)
  case cab =>
   intro y c hy e;have hy':scope.names.lookup y=some .cell:=yf2 hy;have e':(cellsFrom (P2.objs.size+1) scope.names cl).lookup y=some c:=by rw[hcl'];exact e
   exact yap CS (yap (yc6 _) (OO scope.names _ (P2.objs.size+1) cl y c (yaa _) (.inl (ybq hy')) e'))
  .obtain⟨_,_,_,q,_⟩:=f2 b hb
   rcases q with q|q
   .exact I2.ok.noex b o e q
   .exact absurd (yal (yae e) (yap I2.ok.bsz q)) (yb7 _)
 have I':Inv (Af X scope cl' N' P2.objs.size s2 H2 fp xb) pins (σ' σ) H2 { s2 with heap:=h₁ }:=by
  refine⟨ok',rfl,I2.bare,Un.kept old,⟨_,hns₁,λi y v h1 h2 h3=>?_⟩,λy c e=>?_,fresh2 _ CS,?fc,λp hp=>?_,I2.hok.kept old,hσ σ I2.len⟩
  case fc =>
   intro y c e
   rcases cells y c e with q|q
   .exact I2.freeC y c q
   .exact fresh2 c (yap CS (ydl q.1))
  .obtain⟨hk,j,h4,h5,h6,h7⟩:=hvis σ i y v h1 h2;have hno:=hcap σ i y v h1 h2;obtain⟨m,hn',hl⟩:=I2.loc;obtain⟨u,r,l⟩:=hl j y v h4 h5 h6;obtain⟨c,hcc⟩:=has' y (hhas y hk);refine⟨u,r,.inr ⟨hk,c,hcc,?_⟩⟩
   rcases l with ⟨k1,_⟩|⟨_,c',e',z⟩
   .exact absurd k1 h7
   .rcases cells y c hcc with w|w
    .rw[w]at e';cases e';obtain⟨o,ho,hd⟩:=z;exact⟨o,old _ _ ho,hd⟩
    .exact absurd w.2.2 hno
  .rcases cells y c e with w|w
   .obtain⟨v,o,ho,hd⟩:=I2.cell y c w;exact⟨v,o,old _ _ ho,hd⟩
   .exact⟨none,w.2.1⟩
  .obtain⟨e1,e2,e3,e4,e5⟩:=I2.pin p hp;refine⟨old _ _ e1,e2,(below _ (yae e1)).1,λz=>?_,e5⟩
   rcases ya9.mp (fsub _ z) with q|q
   .exact e3 q
   .exact e4 q
 have stat:∀{H':Hp},(∀b∈fp,H' b=none)->∀b∈fp,CM (Af X scope cl' N' P2.objs.size s2 H2 fp xb) pins H' b:=λhn' b hb =>
  ⟨hn' b hb,(below b (fpold b hb)).1,fpfs b hb,.inl hb,cneF b (fpold b hb) λy c e=>(f2 b hb).2.2.2.2.1 y c e,(f2 b hb).2.2.2.2.2⟩
 have Dok:∀{H':Hp},H' s2.heap.objs.size=none->CM (Af X scope cl' N' P2.objs.size s2 H2 fp xb) pins H' s2.heap.objs.size:=λhn' =>
  ⟨hn',hDC,(λz=>by
   obtain⟨o,ho,_⟩:=(I2.stack.mem z).2;exact absurd (yae ho) (yb7 _)),.inr (yaa _),cneD,λp hp z=>absurd (yae (I2.pin p hp).1) (by rw[z];exact yb7 _)⟩
 have loop:∀s3:Shared,s3={ s2 with heap:=h₁ } ->
   codeAny (model X.prog X.w) X.A (.compLoop (.ListComp elt [⟨tg,iter,ifs,0⟩] scope pos) 0 (.ref it) (.ref s2.heap.objs.size) (compEnvC scope cl' P2.objs.size X.env))
    (compPost (model X.prog X.w) X.A X.xe use QQ (.ref s2.heap.objs.size) P2.objs.size) s3:=by
  rintro s3 rfl
  refine zce hxb (λm s'=>∃i ys τ H',m=n - i/\Inv (Af X scope cl' N' P2.objs.size s2 H2 fp xb) pins τ H' s'/\tn i s'.heap/\(∀b∈fp,H' b=none)/\H' s2.heap.objs.size=none/\(∃its:List Value,AU ys its/\s'.heap.PlainList s2.heap.objs.size its.toArray)/\W i ys τ H')
   ?_ n ⟨0,[],σ' σ,H2,rfl,I',T.keep _ _ _ st2 λb _ o e=>old b o e,λb hb=>(f2 b hb).1,fresh2 _ (yaa _),⟨[],.nil,hacc⟩,w0⟩
  rintro m s4 ⟨i,ys,τ,H4,rfl,I4,st4,fr4,hD4,⟨its,rv,hpl⟩,w4⟩;obtain⟨hly,hin,c⟩:=turn i ys τ H4 w4
  have statp:∀{H':Hp},(∀b∈fp,H' b=none)->∀b∈fp,CM (Af X scope cl' N' P2.objs.size s2 H2 fp xb) (pins++GF [s2.heap.objs.size] s4.heap) H' b:=λ{H'} fr' b hb=>by
    obtain⟨g1,g2,g3,g4,g5,g6⟩:=stat fr' b hb;refine⟨g1,g2,g3,g4,g5,λp hp z=>?_⟩
    rcases yaj.mp hp with y|y
    .exact g6 p (ybb _ y) z
    .rcases yaj.mp y with y|y
     .exact g6 p (yak _ y) z
     .obtain⟨hb',_⟩:=Qv y;rw[z,ya3]at hb';exact absurd (fpold b hb) (by rw[hb'];exact yb7 _)
  rcases c with ⟨stop,q⟩|⟨hlt,go,step⟩
  .obtain⟨k,hDo⟩:=hpl;have I4p:=I4.pinned (fp:=[s2.heap.objs.size]) (λb hb=>by rw[ya3.mp hb];exact Dok hD4) (λb hb=>by rw[ya3.mp hb];exact⟨_,hDo,λv z=>(by cases z)⟩)
   refine AR (T.done (Af X scope cl' N' P2.objs.size s2 H2 fp xb) rfl rfl rfl (hc _ _ _ _ _ _ _ _ I2) i _ s4 τ H4 _ I4p (statp fr4) st4 stop) λr s5 ⟨hr,I5⟩=>?_
   subst hr;have hD5:s5.heap.get? s2.heap.objs.size=some { cls:=.type "list",data:=.seq its.toArray k }:=(I5.pin (s2.heap.objs.size,_) (yak _ (yak _ (GO (ya3.mpr rfl) hDo)))).1;obtain⟨m5,hn5,_⟩:=I5.loc;have fC:H4 P2.objs.size=none:=I5.free
   have U5:Un (Ax X.stack) fp H2 (upd H4 s2.heap.objs.size (.lst ys)) s2.heap s5.heap:=by
    have B:=I5.base;refine⟨λb o e1 e2 e3 e4=>B.keep b o e1 e2 e3 e4,λb o e1 e2 e3 e4=>B.slot b o e1 e2 e3 e4,λb o e1 e2 e4=>?_,λb o e1 e4=>B.there b o e1 e4,λb xs e1=>?_,λb o u e1=>?_,λb ps e1=>?_⟩
    .rw[Ad (below b (yae e1)).2];exact B.free b o e1 e2 e4
    .have q':=B.tups b xs e1;rw[Ad (Be q' hD4)];exact q'
    .have q':=B.frzs b o u e1;rw[Ad (Be q' hD4)];exact q'
    .obtain⟨more,q'⟩:=B.tbls b ps e1;exact⟨more,by rw[Ad (Be q' hD4)];exact q'⟩
   have hzy:ys.length<=sizeLine:=yap hly (yap hin hn);have HK:HOk X.prog X.w (upd H4 s2.heap.objs.size (.lst ys)) s5.heap:=Zw.HOk.adopt I5.hok hD4 ⟨hzy,its,k,rv,hD5⟩;have os5:s5.os=s2.os:=I5.os
   have IX:Inv X pins σ (upd H4 s2.heap.objs.size (.lst ys)) s5:=I2.call' (s':=s5) (ch:=fp) os5 U5 HK I5.bare (λb hb=>by
    obtain⟨g1,g2,g3,g4,g5,g6⟩:=f2 b hb;exact⟨g4,g2,g5,g6⟩)
   refine hend s2.heap.objs.size P2.objs.size s5 _ IX (q _ hD4) ⟨m5,hn5⟩ ?_;have CL:s2.heap.objs.size<=P2.objs.size:=CS;have fp0:CM X pins H2 P2.objs.size:=I2.fpOk CS (fresh2 _ CS);exact⟨by rw[Ad (yb1 hDC)];exact fC,fp0.2⟩
  .obtain⟨k,hDo⟩:=hpl;have I4p:=I4.pinned (fp:=[s2.heap.objs.size]) (λb hb=>by rw[ya3.mp hb];exact Dok hD4) (λb hb=>by rw[ya3.mp hb];exact⟨_,hDo,λv z=>(by cases z)⟩)
   refine AR (T.item (Af X scope cl' N' P2.objs.size s2 H2 fp xb) rfl rfl rfl (hc _ _ _ _ _ _ _ _ I2) i _ s4 τ H4 _ I4p (statp fr4) st4 go) λr s5 ⟨u,hr,h5⟩=>?_
   subst hr;refine AR h5 λ_ s6 ⟨x,H6,I6,r6,y6,st6,fr6⟩=>?_
   have I6':=I6.pinned (statp fr6) (T.obj _ _ st6);refine AR (hg _ _ _ _ _ _ hpb _ s6 τ H6 x u _ I6' r6 (step x H6 y6)) λ_ s7 ⟨τ7,H7,I7,q7⟩=>?_
   refine AR (ht _ _ _ _ _ _ hpb _ s7 τ7 H7 _ I7 q7) λok s7b ⟨H7b,I7b,q7b⟩=>?_
   have Ar:∀{H8:Hp} {s8:Shared} {τ8:L2.St},Inv (Af X scope cl' N' P2.objs.size s2 H2 fp xb) (pins++GF [s2.heap.objs.size] s4.heap++GF fp s6.heap) τ8 H8 s8->∀h9:Heap,(∀b o,b≠s2.heap.objs.size->s8.heap.get? b=some o->h9.get? b=some o)->tn (i+1) h9/\∀b∈fp,H8 b=none:=λ{H8 s8 τ8} I8 h9 sb=>by
    refine⟨T.keep _ _ _ st6 λb hb o e=>?_,λb hb=>?_⟩
    .exact sb b o (below b (fpold b hb)).2 (I8.pin (b,o) (yak _ (yak _ (GO hb e)))).1
    .obtain⟨o,e,d⟩:=T.obj _ _ st6 b hb;exact(I8.pin (b,o) (yak _ (yak _ (GO hb e)))).2.1
   cases ok with
   |false =>
    rw[if_neg (by decide)]at q7b ⊢
    have hD8:=I7b.pin (s2.heap.objs.size,_) (yak _ (ybb _ (yak _ (GO (ya3.mpr rfl) hDo))));obtain⟨t9,f9⟩:=Ar I7b s7b.heap λb o _ e=>e
    exact⟨n - (i+1),by omega,i+1,ys,τ7,H7b,rfl,I7b.unpinned.unpinned,t9,f9,hD8.2.1,⟨its,rv,k,hD8.1⟩,q7b⟩
   |true =>
    rw[if_pos rfl]at q7b ⊢;refine AR (he _ _ _ _ _ _ hpb _ s7b τ7 H7b _ I7b q7b) λuy s8 ⟨y,H8,I8,ry,w8⟩=>?_
    have hD8:=I8.pin (s2.heap.objs.size,_) (yak _ (ybb _ (yak _ (GO (ya3.mpr rfl) hDo))));have P8:s8.heap.PlainList s2.heap.objs.size its.toArray:=⟨k,hD8.1⟩;have hlen:=rv.length;refine wpAny_list_append_plain P8 (λh' pl' sb=>?_) (by rw[yai,<- hlen];omega)
    have I8u:Inv (Af X scope cl' N' P2.objs.size s2 H2 fp xb) pins τ7 H8 s8:=I8.unpinned.unpinned;obtain⟨d1,d2,d3,d4,d5,d6⟩:=Dok hD8.2.1;have I9:Inv (Af X scope cl' N' P2.objs.size s2 H2 fp xb) pins τ7 H8 { s8 with heap:=h' }:=I8u.turned (t':=s8.toks) (λb o hb e=>(sb.2 b hb).trans e) d1 d2 d4 d5 d6
    obtain⟨t9,f9⟩:=Ar I8 h' λb o hb e=>(sb.2 b hb).trans e
    exact⟨n - (i+1),by omega,i+1,ys++[y],τ7,H8,rfl,I9,t9,f9,hD8.2.1,⟨its++[uy],rv.append (.cons ry .nil),by simpa using pl'⟩,w8⟩
 refine codeAny_compStart_list (loop _ rfl) (T.self _ 0 _ _ _ (T.keep _ _ _ st2 λb _ o e=>old b o e) (loop _ rfl))
theorem zkz(σ':L2.St->L2.St)(hclos:closureFor scope X.env=pure cl)(hkind:scope.kind=.function)(hnames:∀y∈scope.names,y.2=.local->scope.names.lookup y.1=some .local)
  (hcl:∀y c,cl.lookup y=some c->X.env.cells.lookup y=some c) (hhas:∀y,(relabel scope X.env).names.lookup y=some .cell\/(relabel scope X.env).names.lookup y=some .free->(y,NameKind.cell)∈scope.names\/∃c,cl.lookup y=some c) (hcap:∀(σ:L2.St) (i:Nat) (y:Str) (v:V),N'[i]?=some y->(σ' σ)[i]?=some (some v)->(y,NameKind.cell)∉scope.names)
  (hσ:∀σ:L2.St,σ.length=X.N.length->(σ' σ).length=N'.length)
  (hvis:∀(σ:L2.St) (i:Nat) (y:Str) (v:V),N'[i]?=some y->(σ' σ)[i]?=some (some v)->((relabel scope X.env).names.lookup y=some .cell\/(relabel scope X.env).names.lookup y=some .free)/\∃j:Nat,X.N[j]?=some y/\σ[j]?=some (some v)/\DM X.env.scope y/\X.env.kindOf y≠some .local)
  {cq:Cx->Prop} (hc:∀pins σ H s cl C ex xb,Inv X pins σ H s->cq (Af X scope cl N' C s H ex xb)) (hi:PJ cq X tg iter wi) {E:L2.St->XK} (hps:BI X E) (hst:Ft X) {σ:L2.St} (hg:∀cl C s₀ H₀ ex xb,BI (Af X scope cl N' C s₀ H₀ ex xb) (λ_=>E σ)->PG (Af X scope cl N' C s₀ H₀ ex xb) tg g) (ht:∀cl C s₀ H₀ ex xb,BI (Af X scope cl N' C s₀ H₀ ex xb) (λ_=>E σ)->Fp (Af X scope cl N' C s₀ H₀ ex xb) ifs tt) (he:∀cl C s₀ H₀ ex xb,BI (Af X scope cl N' C s₀ H₀ ex xb) (λ_=>E σ)->PE (Af X scope cl N' C s₀ H₀ ex xb) elt te)
  (hs:∀x,foldedSetIterable iter X.env x=pure x) {pins:List (Addr×Obj)} {s:Shared} {H:Hp} {Q:VK} (I:Inv X pins σ H s) (h:J3 σ' wi g tt te σ H Q) :
  wpAny (model X.prog X.w) X.A (eval (.ListComp elt [⟨tg,iter,ifs,0⟩] scope pos) X.env) (EP X pins σ Q) X.xe s:=by
 rw[eval_ListComp];refine Sa σ' hclos hkind hnames hcl hhas hcap hσ hvis hc hi hps hst hg ht he hs I h λD C s5 H5 I5 q5 ⟨m,hm⟩ f=>⟨m,hm,λh' sb=>?_⟩
 exact⟨.ref D,H5,He (t':=s5.toks) (ch:=[C]) I5 (λb o hb e=>(sb.2 b (λz=>hb (by simp[z]))).trans e) (λb hb=>by rw[ya3.mp hb];exact f),rfl,q5⟩
theorem zl0(σ':L2.St->L2.St)(hclos:closureFor scope X.env=pure cl)(hkind:scope.kind=.function)(hnames:∀y∈scope.names,y.2=.local->scope.names.lookup y.1=some .local)
  (hcl:∀y c,cl.lookup y=some c->X.env.cells.lookup y=some c) (hhas:∀y,(relabel scope X.env).names.lookup y=some .cell\/(relabel scope X.env).names.lookup y=some .free->(y,NameKind.cell)∈scope.names\/∃c,cl.lookup y=some c) (hcap:∀(σ:L2.St) (i:Nat) (y:Str) (v:V),N'[i]?=some y->(σ' σ)[i]?=some (some v)->(y,NameKind.cell)∉scope.names)
  (hσ:∀σ:L2.St,σ.length=X.N.length->(σ' σ).length=N'.length)
  (hvis:∀(σ:L2.St) (i:Nat) (y:Str) (v:V),N'[i]?=some y->(σ' σ)[i]?=some (some v)->((relabel scope X.env).names.lookup y=some .cell\/(relabel scope X.env).names.lookup y=some .free)/\∃j:Nat,X.N[j]?=some y/\σ[j]?=some (some v)/\DM X.env.scope y/\X.env.kindOf y≠some .local)
  (hc:X.calm=true) (hi:PI X tg iter wi) {E:L2.St->XK} (hps:BI X E) (hst:Ft X) {σ:L2.St} (hg:∀cl C s₀ H₀ ex xb,BI (Af X scope cl N' C s₀ H₀ ex xb) (λ_=>E σ)->PG (Af X scope cl N' C s₀ H₀ ex xb) tg g) (ht:∀cl C s₀ H₀ ex xb,BI (Af X scope cl N' C s₀ H₀ ex xb) (λ_=>E σ)->Fp (Af X scope cl N' C s₀ H₀ ex xb) ifs tt) (he:∀cl C s₀ H₀ ex xb,BI (Af X scope cl N' C s₀ H₀ ex xb) (λ_=>E σ)->PE (Af X scope cl N' C s₀ H₀ ex xb) elt te)
  (hs:∀x,foldedSetIterable iter X.env x=pure x) {pins:List (Addr×Obj)} {s:Shared} {H:Hp} {D:Ends} {i:Nat} {x:Str} {pos':Pos} (hN:X.N.Nodup) (hix:X.N[i]?=some x) (hx:X.env.scope.names.lookup x=some .local)
  (hsw:swapsWith (.ListComp elt [⟨tg,iter,ifs,0⟩] scope pos) (some (.Name x pos')) pos2.line X.env=pure true)
  (I:Inv X pins σ H s) (h:J3 σ' wi g tt te σ H λv H1=>D.nx (σ.set i (some v)) H1) :
  wpAny (model X.prog X.w) X.A (exec (.Assign [.Name x pos'] (.ListComp elt [⟨tg,iter,ifs,0⟩] scope pos) pos2) X.env) (SP X pins D) X.xe s:=by
 rw[exec_Assign_Name_used _ _ _ _ hsw];refine yec (yee (yec ?_));show wpAny _ X.A (do let _ <- comprehension (.ListComp elt [⟨tg,iter,ifs,0⟩] scope pos) scope X.env _ (newList []) false (eval iter X.env) (some (assign (.Name x pos') X.env))) _ _ s
 refine yec (ye9 (Sa (QQ:=λ_ s'=>SP X pins D .next s') σ' hclos hkind hnames hcl hhas hcap hσ hvis (cq:=λX=>X.calm=true) (λ_ _ _ _ _ _ _ _ _=>hc) (Q8 hi) hps hst hg ht he hs I h λA C s5 H5 I5 q5 ⟨m,hm⟩ f=>?_) (λ_ s' hq=>yef (yef hq)) λ_ _ e=>e)
 show wpAny _ X.A (assign (.Name x pos') X.env (.ref A)) _ _ _;refine wpAny_assign_Name (Pg I5 hN hix (.inl hx) (v:=.ref A) rfl (λs6 I6 ⟨a,sb,ha⟩=>?_) (.inr hx))
 have hCa:C≠a:=by
  rcases ha with rfl|ha
  .exact f.2.1
  .exact λz=>f.2.2.2.2.1 x a ha z.symm
 refine⟨m,hm.sameBut sb hCa,λh' sb2=>⟨_,H5,He (t':=s6.toks) (ch:=[C]) I6 (λb o hb e=>(sb2.2 b (λz=>hb (by simp[z]))).trans e) (λb hb=>by rw[ya3.mp hb];exact f),q5⟩⟩
end
structure RpO(K:kA)(F H:Hp)(l:List T)(xs:List V)(R:Nat->Rg):Prop where
 len:l.length=xs.length
 rep:∀(i:Nat) (t:T) (x:V),l[i]?=some t->xs[i]?=some x->Rp K F H t x (R i)
 dis:∀i j a,i≠j->R i a->¬ R j a
 out:∀i a,R i a->i<l.length
section
variable {K:kA}{F H F1 H1:Hp}{l:List T}{xs:List V}{R:Nat->Rg}{B:Rg}
theorem RpO.nil:RpO K F H [] [] (λ_=>R0):=⟨rfl,λi t x h=>by simp at h,λ_ _ _ _ z=>z.elim,λ_ _ z=>z.elim⟩
theorem RpO.dom(h:RpO K F H l xs R){i:Nat}{a:Addr}(z:R i a):F a=none/\∃u,H a=some u:=by
 have hi:=h.out i a z;have hx:i<xs.length:=by have:=h.len;omega
 exact(h.rep i _ _ (ya0 hi) (ya0 hx)).dom z
theorem RpO.ext(h:RpO K F H l xs R)(e:Ext F H F1 H1 B):RpO K F1 H1 l xs R:=⟨h.len,λi t x h1 h2=>(h.rep i t x h1 h2).ext e,h.dis,h.out⟩
theorem RpO.apart(h:RpO K F H l xs R)(e:Ext F H F1 H1 B){b:Addr}(hb:B b)(i:Nat):¬ R i b:=λz=>by
 obtain⟨f,u,q⟩:=h.dom z;rw[e.nb b hb]at q;cases q
theorem RpO.snoc(h:RpO K F H l xs R){t:T}{x:V}(r:Rp K F H t x B)(d:∀i a,R i a->¬ B a):RpO K F H (l++[t]) (xs++[x]) (λj=>if j=l.length then B else R j):=by
 have hl:=h.len;refine⟨by simp[hl],λi t' x' h1 h2=>?_,λi j a hij z1 z2=>?_,λi a z=>?_⟩
 .by_cases hi:i=l.length
  .subst hi;rw[if_pos rfl];have e1:t=t':=by simpa using h1
   have e2:x=x':=by rw[hl]at h2;simpa using h2
   subst e1;subst e2;exact r
  .rw[if_neg hi]
   have hlt:i<l.length:=by
    have:=(ya8.mp h1).1;simp at this
    omega
   rw[yas hlt]at h1;rw[yas (by omega)]at h2
   exact h.rep i t' x' h1 h2
 .by_cases hi:i=l.length
  .simp only[hi,yeo]at z1;have hj:¬ j=l.length:=λz=>hij (hi.trans z.symm)
   simp only[hj,yep]at z2;exact d j a z2 z1
  .simp only[hi,yep]at z1
   by_cases hj:j=l.length
   .simp only[hj,yeo]at z2;exact d i a z1 z2
   .simp only[hj,yep]at z2;exact h.dis i j a hij z1 z2
 .by_cases hi:i=l.length
  .simp[hi]
  .simp only[hi,yep]at z;have:=h.out i a z;simp
   omega
theorem RpO.cons(h:RpO K F H l xs R){t:T}{x:V}(r:Rp K F H t x B)(d:∀i a,R i a->¬ B a):RpO K F H (t::l) (x::xs) (λj=>match j with|0=>B|j+1=>R j):=by
 refine⟨by simp[h.len],λi t' x' h1 h2=>?_,λi j a hij z1 z2=>?_,λi a z=>?_⟩
 .cases i with
  |zero =>
   simp at h1 h2;subst h1;subst h2;exact r
  |succ i=>exact h.rep i t' x' (by simpa using h1) (by simpa using h2)
 .cases i with
  |zero =>
   cases j with
   |zero=>exact hij rfl
   |succ j=>exact d j a z2 z1
  |succ i =>
   cases j with
   |zero=>exact d i a z1 z2
   |succ j=>exact h.dis i j a (λz=>hij (by rw[z])) z1 z2
 .cases i with
  |zero=>simp
  |succ i=>have:=h.out i a z;simp;omega
theorem RpO.r0(h:RpO K F H l xs R)(s:A7 l=true):Ae K F l xs:=⟨h.len,λi t x h1 h2=>(h.rep i t x h1 h2).move (zge s h1) (.refl _)⟩
theorem RpO.list(h:RpO K F H l xs R)(s:AY F H){p:Addr}(hp:H p=none):Rp K F (upd H p (.lst xs)) (.own l) (.ref p) (λa=>a=p\/∃i,R i a)/\Ext F H F (upd H p (.lst xs)) (λa=>a=p):=by
 have e:=Ext.newO (o:=.lst xs) s hp;have h':=h.ext e;exact⟨.own (k:=.lst) trivial R (Es s hp) Bb h.len h'.rep h.dis (λi z=>h.apart e rfl i z) h.out,e⟩
end
def AW(ma mk:AE->Option Rs):AE->Option Rs:=λτ=>match ma τ with
 |some (.v t b)=>(match mk τ with
  |some (.v (.int i) _)=>(match t with
   |.nd _ _ l=>(match Ah l i with
    |some c=>some (.v c (b && !c.sh))
    |none=>none)
   |.str z=>if z.length<=AQ then (match Ah z.cps.toList i with
    |some c=>some (.v (.str ⟨#[c]⟩) false)
    |none=>none) else none
   |_=>none)
  |some (.v _ _)=>none
  |r=>r)
 |r=>r
theorem ziq{α β:Type}{l:List α}{m:List β}{i:Int}{c:α}(e:l.length=m.length)(h:Ah l i=some c):∃(j:Nat) (d:β),l[j]?=some c/\m[j]?=some d/\Ah m i=some d:=by
 unfold Ah at h ⊢;rw[<- e];cases q:Fc l.length i with
 |none=>rw[q]at h;cases h
 |some j =>
  rw[q]at h;have h':l[j]?=some c:=h
  have hj:j<m.length:=by
   have:=(ya8.mp h').1
   omega
  exact⟨j,m[j],h',ya0 hj,ya0 hj⟩
section
variable {K:kA}{F H:Hp}
theorem Rp.seq{o:Bool}{k:Kd}{l:List T}{x:V}{A:Rg}(s:AY F H)(h:Rp K F H (.nd o k l) x A):∃p xs,x=.ref p/\(Ag K H p xs\/BG K H p xs)/\l.length=xs.length/\∀(i:Nat) (t:T) (x:V),l[i]?=some t->xs[i]?=some x->∃B,(∀a,B a->A a)/\Rp K F H t x B:=by
 cases h with
 |@shr k p xs l h e c =>
  refine⟨p,xs,rfl,?_,e,λi t x h1 h2=>⟨R0,λ_ z=>z.elim,c i t x h1 h2⟩⟩
  cases k with
  |lst=>exact .inl (Ag.of (s _ _ h))
  |rl=>exact .inl (s.seq h)
  |tup=>exact .inr (BG.of (s _ _ h))
  |rt=>exact .inr (FX s h)
  |pin q=>exact .inl (Ag.of (s _ _ h))
 |@own k0 p xs l hk R f h e c d dp o=>exact⟨p,xs,rfl,.inl (Ag.of h),e,λi t x h1 h2=>⟨R i,λa z=>.inr ⟨i,z⟩,c i t x h1 h2⟩⟩
end
section
variable {X:Cx}{E:L2.St->XK}{ca:Str->Value}{σ:L2.St}{H:Hp}{m ma mb mc:AE->Option Rs}{ms:AE->Option RsL}{K:kA}{a b c e:Expr}{es:List Expr}{pos:Pos}
theorem tM_ix{Q:VK}(h:tM K E ca (AW ma mb) σ H Q):Gg (Q1 K) (tM K E ca ma) (tM K E ca mb) σ H Q:=by
 obtain⟨F,τ,R,S,q⟩:=h;refine⟨F,τ,R,S,?_⟩;unfold AW at q;cases hm:ma τ with
 |none=>simp only[hm]at q
 |some r =>
  simp only[hm]at q;cases r with
  |x c=>exact q
  |v t bb =>
   intro F1 H1 x B e1 g1;have S1:=S.ext e1;refine⟨F1,τ,R,S1,?_⟩;cases hk:mb τ with
   |none=>simp only[hk]at q
   |some r =>
    simp only[hk]at q;cases r with
    |x c=>exact λF' H' e=>q F' H' ((e1.trans e).mono λ_ z=>z.elim)
    |v tk bk =>
     cases tk with
     |int i =>
      intro F2 H2 y C e2 g2
      have hy:y=.int i:=by
       cases bk with
       |true=>obtain⟨_,A,_,r⟩:=g2;exact r.int_inv
       |false=>exact(show Rp K F2 H2 _ _ _ from g2).int_inv
      subst hy;have e02:Ext F H F2 H2 B:=(e1.trans e2).mono λ_ z=>.inl z
      have S2:=S1.ext e2;cases t with
      |nd o k l =>
       simp only at q;cases hc:Ah l i with
       |none=>simp only[hc]at q
       |some cc =>
        simp only[hc]at q
        have node:∃A0,(bb=true->∀a,A0 a->tot R a)/\(bb=false->∀a,A0 a->B a)/\Rp K F2 H2 (.nd o k l) x A0:=by
         cases bb with
         |true =>
          obtain⟨_,A,hA,r⟩:=g1;exact⟨A,λ_=>hA,(λz=>by cases z),r.ext e2⟩
         |false=>exact⟨B,(λz=>by cases z),λ_ _ z=>z,(show Rp K F1 H1 _ _ _ from g1).ext e2⟩
        obtain⟨A0,hA1,hA2,rn⟩:=node;obtain⟨p,xs,rfl,hq,hl,kids⟩:=Rp.seq S2.fh rn;obtain⟨j,d,h1,h2,h3⟩:=ziq hl hc;obtain⟨A1,hA,rk⟩:=kids j cc d h1 h2
        have qq:Q d H2:=by
         cases bb with
         |false=>exact q F2 H2 d A1 (e02.mono λa z=>hA2 rfl a (hA a z)) rk
         |true =>
          cases hs:cc.sh with
          |true =>
           rw[hs]at q;exact q F2 H2 d R0 (e02.mono λ_ z=>z.elim) (rk.move hs (.refl _))
          |false =>
           rw[hs]at q;exact q F2 H2 d R0 (e02.mono λ_ z=>z.elim) ⟨rfl,A1,λa z=>hA1 rfl a (hA a z),rk⟩
        rcases hq with hq|hq
        .exact .inl ⟨p,xs,i,d,rfl,rfl,hq,h3,qq⟩
        .exact .inr (.inl ⟨p,xs,i,d,rfl,rfl,hq,h3,qq⟩)
      |str z =>
       by_cases hz:z.length<=AQ
       .simp only[hz,yeo]at q;cases hc:Ah z.cps.toList i with
        |none=>simp only[hc]at q
        |some cc =>
         simp only[hc]at q
         have hx:x=.str z:=by
          cases bb with
          |true=>obtain⟨_,A,_,r⟩:=g1;exact r.str_inv
          |false=>exact(show Rp K F1 H1 _ _ _ from g1).str_inv
         subst hx;exact .inr (.inr ⟨z,i,cc,rfl,rfl,by rw[<- DY];exact hz,hc,q F2 H2 _ R0 (e02.mono λ_ z=>z.elim) (.str _)⟩)
       .simp only[hz,yep]at q
      |_=>exact q.elim
     |_=>exact q.elim
theorem QO(ha:PE X a (tM X.K E ca ma))(hb:PE X b (tM X.K E ca mb))(hs:Oi b):PE X (.Subscript a b pos) (tM X.K E ca (AW ma mb)):=PE.weak (pe_ix zla ha hb hs) λσ H Q h=>tM_ix h
def B0{α:Type}(l:List α)(lo hi:Option Int):List α:=(l.drop (HT.sIx l.length 0 lo)).take (HT.sIx l.length l.length hi - HT.sIx l.length 0 lo)
noncomputable def Dl(m:Option (AE->Option Rs)):AE->Option (Option Int):=λτ=>match m with
 |none=>some none
 |some m=>match m τ with
  |some (.v (.int i) _)=>some (some i)
  |_=>none
def Bk(ma:AE->Option Rs)(ml mh:Option (AE->Option Rs)):AE->Option Rs:=λτ=>match ma τ with
 |some (.v t false)=>(match Dl ml τ with
  |some lo=>(match Dl mh τ with
   |some hi=>(match t with
    |.nd _ .lst l=>some (.v (.own (B0 (AV l) lo hi)) false)
    |.nd _ .rl l=>some (.v (.own (B0 (AV l) lo hi)) false)
    |_=>none)
   |none=>none)
  |none=>none)
 |some (.v _ true)=>none
 |r=>r
def Fw(K:kA)(m:Option (AE->Option Rs)):TO:=λσ H Q=>∃F τ R o,StR K F H σ τ R/\Dl m τ=some o/\∀F' H',Ext F H F' H' R0->Q o H'
theorem r_po0:PO X none (Fw X.K none):=λpins s σ H Q I h=>by
 obtain⟨F,τ,R,o,S,e,q⟩:=h;cases e;exact zgz pins s σ H Q I (q F H (Ext.refl S.fh))
theorem r_po1(ha:PE X e (tM X.K E ca m)):PO X (some e) (Fw X.K (some m)):=λpins s σ H Q I h=>by
 obtain⟨F,τ,R,o,S,e',q⟩:=h;refine zgy ha pins s σ H Q I ⟨F,τ,R,S,?_⟩;unfold Dl at e';simp only at e';cases hm:m τ with
 |none=>rw[hm]at e';cases e'
 |some r =>
  rw[hm]at e';cases r with
  |x c=>cases e'
  |v v b =>
   cases v with
   |int i =>
    cases e';intro F' H' x B e g
    have hx:x=.int i:=by
     cases b with
     |true=>obtain⟨_,A,_,r⟩:=g;exact r.int_inv
     |false=>exact(show Rp X.K F' H' _ _ _ from g).int_inv
    exact⟨i,hx,q F' H' (e.mono λ_ z=>z.elim)⟩
   |_=>cases e'
theorem zfl{F:Hp}{l:List T}{xs:List V}(r:Ae K F l xs)(lo hi:Option Int):Ae K F (B0 l lo hi) (HS xs lo hi):=by
 have hl:=r.1;unfold B0 HS;rw[hl];refine⟨by simp[hl],λi t x h1 h2=>?_⟩
 rw[List.getElem?_take]at h1 h2;split at h1
 .rename_i hi';rw[if_pos hi',List.getElem?_drop]at h2;rw[List.getElem?_drop]at h1;exact r.2 _ t x h1 h2
 .cases h1
theorem QJ{lo hi:Option Expr}{ml mh:Option (AE->Option Rs)}{p2:Pos}(ha:PE X a (tM X.K E ca ma))(hl:PO X lo (Fw X.K ml))(hh:PO X hi (Fw X.K mh)):PE X (.Subscript a (.Slice lo hi none p2) pos) (tM X.K E ca (Bk ma ml mh)):=by
 refine PE.weak (Qb zgb ha hl hh) λσ H Q h=>?_
 obtain⟨F,τ,R,S,q⟩:=h;refine⟨F,τ,R,S,?_⟩;unfold Bk at q;cases hm:ma τ with
 |none=>simp only[hm]at q
 |some r =>
  simp only[hm]at q;cases r with
  |x c=>exact q
  |v t bb =>
   cases bb with
   |true=>exact q.elim
   |false =>
    intro F1 H1 x B e1 g1;obtain⟨F1',e1',_,r1⟩:=Cz.frz (b:=false) S e1 g1;have S1:=S.ext e1';simp only at q;cases h1:Dl ml τ with
    |none=>simp only[h1]at q
    |some lo' =>
     simp only[h1]at q;refine⟨F1',τ,R,lo',S1,h1,λF2 H2 e2=>?_⟩
     have S2:=S1.ext e2;cases h2:Dl mh τ with
     |none=>simp only[h2]at q
     |some hi' =>
      simp only[h2]at q;refine⟨F2,τ,R,hi',S2,h2,λF3 H3 e3=>?_⟩
      have S3:=S2.ext e3;have e03:=e1'.trans0 (e2.trans0 e3);have r3:Rp X.K F3 F3 t.share x R0:=(show Rp X.K F1' F1' t.share x R0 from r1).frame (e2.ff.trans e3.ff) λ_ z=>z.elim
      have key:∀{o:Bool} {k:Kd} {l:List T},t=.nd o k l->(k=.lst\/k=.rl)->(∀F' H' x B,Ext F H F' H' B->Rp X.K F' H' (.own (B0 (AV l) lo' hi')) x B->Q x H')->QX X.K x lo' hi' H3 Q:=by
       intro o k l et hk qq;subst et;rw[T.share]at r3;obtain⟨p,xs,rfl,_,n3,k3⟩:=Cn r3
       have sq:Ag X.K H3 p xs:=by
        rcases hk with rfl|rfl
        .exact Ag.of (S3.fh _ _ n3)
        .exact S3.fh.seq n3
       refine⟨p,xs,rfl,sq,λp' hp'=>?_⟩
       have gg:CF X.K F3 H3 (.own (B0 (AV l) lo' hi')) Q:=λF' H' z C e g=>qq F' H' z C (e03.trans0 e) g
       exact gg.list S3.fh (zfl k3 lo' hi') hp'
      cases t with
      |nd o k l =>
       cases k with
       |lst=>exact key rfl (.inl rfl) q
       |rl=>exact key rfl (.inr rfl) q
       |tup=>exact q.elim
       |rt=>exact q.elim
       |pin _=>exact q.elim
      |_=>exact q.elim
def Gh(K:kA)(E:L2.St->XK)(ca:Str->Value)(m:AE->Option RsL):TA:=λσ H Q=>∃F τ R,StR K F H σ τ R/\match m τ with
 |some (.v ts _)=>∀F' H' xs (Rr:Nat->Rg),Ext F H F' H' (tot Rr)->RpO K F' H' ts xs Rr->Q xs H'
 |some (.x c)=>∀F' H',Ext F H F' H' R0->E σ (ca c) none H'
 |none=>False
noncomputable def AI(m:AE->Option Rs)(ms:AE->Option RsL):AE->Option RsL:=λτ=>match m τ with
 |some (.v t false)=>(match ms τ with
  |some (.v ts _)=>some (.v (t::ts) false)
  |r=>r)
 |some (.v _ true)=>none
 |some (.x c)=>some (.x c)
 |none=>none
theorem QK:PA X [] (Gh X.K E ca AH):=PA.weak EX λσ H Q h=>by
 obtain⟨F,τ,R,S,q⟩:=h;exact q F H [] (λ_=>R0) ((Ext.refl S.fh).mono λa ⟨i,z⟩=>z.elim) .nil
theorem QS(ha:PE X e (tM X.K E ca m))(hr:PA X es (Gh X.K E ca ms))(hs:starEach (e::es) X.env=(false,eval e X.env)::starEach es X.env):PA X (e::es) (Gh X.K E ca (AI m ms)):=by
 refine PA.weak (DV ha hr hs) λσ H Q h=>?_
 obtain⟨F,τ,R,S,q⟩:=h;refine⟨F,τ,R,S,?_⟩;unfold AI at q;cases hm:m τ with
 |none=>simp only[hm]at q
 |some r =>
  simp only[hm]at q;cases r with
  |x c=>exact q
  |v t bb =>
   cases bb with
   |true=>exact q.elim
   |false =>
    intro F1 H1 x B e1 g1;have S1:=S.ext e1;refine⟨F1,τ,R,S1,?_⟩;simp only at q;cases hs:ms τ with
    |none=>simp only[hs]at q
    |some r =>
     simp only[hs]at q;cases r with
     |x c=>exact λF' H' e=>q F' H' ((e1.trans e).mono λ_ z=>z.elim)
     |v ts b' =>
      intro F2 H2 xs Rr e2 ro;have g1':Rp X.K F1 H1 t x B:=g1;refine q F2 H2 (x::xs) _ ((e1.trans e2).mono ?_) (ro.cons (g1'.ext e2) λi a z=>?_)
      .rintro a ⟨j,z⟩;cases j with
       |zero=>exact .inl z
       |succ j=>exact .inr ⟨j,z⟩
      .exact g1'.apart e2 ⟨i,z⟩
def A4(ms:AE->Option RsL):AE->Option Rs:=λτ=>match ms τ with
 |some (.v ts _)=>if ts.length<=AQ then some (.v (.own ts) false) else none
 |some (.x c)=>some (.x c)
 |none=>none
theorem QM(h:PA X es (Gh X.K E ca ms)):PE X (.List es pos) (tM X.K E ca (A4 ms)):=by
 refine PE.weak (zk5 h) λσ H Q h=>?_
 obtain⟨F,τ,R,S,q⟩:=h;refine⟨F,τ,R,S,?_⟩;unfold A4 at q;cases hm:ms τ with
 |none=>simp only[hm]at q
 |some r =>
  simp only[hm]at q;cases r with
  |x c=>exact q
  |v ts b =>
   intro F1 H1 xs Rr e1 ro
   by_cases hz:ts.length<=AQ
   .simp only[hz,yeo]at q;refine⟨by rw[<- ro.len,<- DY];exact hz,λp hp=>?_⟩
    obtain⟨r,e2⟩:=ro.list e1.fh hp;refine q F1 _ _ _ ((e1.trans e2).mono ?_) r;rintro a (z|⟨i,z⟩)
    .exact .inr z
    .exact .inl ⟨i,z⟩
   .simp only[hz,yep]at q
def Al(ms:AE->Option RsL):AE->Option Rs:=λτ=>match ms τ with
 |some (.v ts false)=>if ts.length<=AQ then some (.v (.tup ts) false) else none
 |some (.v _ true)=>none
 |some (.x c)=>some (.x c)
 |none=>none
theorem r_tup{k:Nat}(h:PA X es (Bv X.K E ca ms)):PE X (.Tuple es k pos) (tM X.K E ca (Al ms)):=by
 refine PE.weak (zk1 h) λσ H Q h=>?_
 obtain⟨F,τ,R,S,q⟩:=h;refine⟨F,τ,R,S,?_⟩;unfold Al at q;cases hm:ms τ with
 |none=>simp only[hm]at q
 |some r =>
  simp only[hm]at q;cases r with
  |x c=>exact q
  |v ts b =>
   cases b with
   |true=>exact q.elim
   |false =>
    intro F1 H1 xs e1 rs
    by_cases hz:ts.length<=AQ
    .simp only[hz,yeo]at q;refine⟨by rw[<- rs.1,<- DY];exact hz,λp hp=>?_⟩
     have gg:CF X.K F1 H1 (.tup ts) Q:=λF' H' z C e g=>q F' H' z C (e1.trans0 e) g
     exact gg.tuple e1.fh rs hp
    .simp only[hz,yep]at q
theorem Gq{id:String}{x:Str}{p:Pos}{g:List T->Option T}(hc:B3 X (.builtin id) (DE X.K g))(hg:Gl X x)(hm:X.mg x=none)(hv:bootBuiltins x=some (.builtin id))(ha:PA X (e::es) (Bv X.K E ca ms))(hn:x≠"__name__")(hdb:(x == ("__debug__":Str))=false)
  (he:starEach (e::es) X.env=(false,eval e X.env)::starEach es X.env) (hpl:(backTo pos (starEach es X.env)).any (·.1)=false):PE X (.Call (.Name x p) (e::es) [] pos) (tM X.K E ca (BB g ms)) :=
 PE.weak (IB hc hg hm hv ha hn hdb he hpl) λσ H Q h=>FT h
theorem QU{T':String}{x:Str}{p:Pos}{g:List T->Option T}(hc:B3 X (.type T') (DE X.K g))(hg:Gl X x)(hm:X.mg x=none)(hv:bootBuiltins x=some (.type T'))(ha:PA X (e::es) (Bv X.K E ca ms))(hn:x≠"__name__")(hdb:(x == ("__debug__":Str))=false)
  (he:starEach (e::es) X.env=(false,eval e X.env)::starEach es X.env) (hpl:(backTo pos (starEach es X.env)).any (·.1)=false):PE X (.Call (.Name x p) (e::es) [] pos) (tM X.K E ca (BB g ms)) :=
 PE.weak (Qe hc hg hm hv ha hn hdb he hpl) λσ H Q h=>FT h
end
def BP:T->Option T
 |.nd _ _ l=>some (.int l.length)
 |.str z=>if z.length<=AQ then some (.int z.length) else none
 |_=>none
def Ey:T->Option T
 |.nd _ _ l=>some (.own l)
 |_=>none
def LG:T->Option T
 |.int i=>some (.int (if i<0 then -i else i))
 |_=>none
def KC:T->T->Option T
 |.int i,.int j=>some (.int (if j<i then j else i))
 |_,_=>none
def maxT:T->T->Option T
 |.int i,.int j=>some (.int (if j > i then j else i))
 |_,_=>none
noncomputable def FH:List T->Option (List Bool)
 |[]=>some []
 |.bl b::r=>(match FH r with
  |some l=>some (b::l)
  |none=>none)
 |_::_=>none
def E9:T->Option T
 |.nd _ .lst l=>(match FH l with
  |some bs=>some (.bl (bs.all id))
  |none=>none)
 |_=>none
def LC:T->Option T
 |.nd _ .lst l=>(match FH l with
  |some bs=>some (.bl (bs.any id))
  |none=>none)
 |_=>none
noncomputable def JZ:T->Option String
 |.non=>some "NoneType"
 |.bl _=>some "bool"
 |.int _=>some "int"
 |.str _=>some "str"
 |.nd _ .lst _=>some "list"
 |.nd _ .tup _=>some "tuple"
 |.dic _ _=>some "dict"
 |.pdc _ _=>some "dict"
 |_=>none
def Hc:List String:=["int","bool","str","list","tuple"]
def J7(a c:String):Bool:=a == c || (a == "bool" && c == "int")
def By(c:String)(t:T):Option T:=match JZ t with
 |some a=>if c∈Hc then some (.bl (J7 a c)) else none
 |none=>none
theorem zbl:PySem.W.kitMeta "str"=true:=by decide +kernel
theorem zb4:PySem.W.kitMeta "list"=true:=by decide +kernel
theorem Sk(K:kA){a c:String}(ha:a∈["NoneType","bool","int","str","list","tuple","dict"])(hc:c∈Hc):PySem.W.kitOne K (.type a) (.type c)=some (J7 a c):=by
 have km:PySem.W.kitMeta c=true:=by
  simp only[Hc,ya9,yac,yf3]at hc
  rcases hc with rfl|rfl|rfl|rfl|rfl
  .exact zbm
  .exact zb5
  .exact zbl
  .exact zb4
  .exact zav
 by_cases h:a=c
 .subst h;rw[zfe];simp[J7]
 .refine zl3 K (l:=[]) h km ?_;simp only[Hc,ya9,yac,yf3]at hc ha
  rcases ha with rfl|rfl|rfl|rfl|rfl|rfl|rfl<;>rcases hc with rfl|rfl|rfl|rfl|rfl<;>first|exact absurd rfl h|decide +kernel
section
variable {X:Cx}
theorem Ud:B3 X (.builtin "len") (DE X.K (g1 BP)):=by
 intro pins s σ H xs us Q I r h;obtain⟨F,ts,v,fh,rs,e,q⟩:=h;unfold g1 at e;split at e
 .obtain⟨x1,xs1,rfl,r1,rs1⟩:=rs.inv;cases rs1.inv0;unfold BP at e;split at e
  .cases e;obtain⟨p,ys,rfl,hq,hl,_⟩:=Rp.seq (H:=H) fh (r1.any);refine Ub pins s σ H _ us Q I r ⟨_,ys.length,rfl,?_,by rw[<- hl];exact q.int fh⟩
   rcases hq with hq|hq
   .exact .inl ⟨ys,hq,rfl⟩
   .exact .inr ⟨ys,hq,rfl⟩
  .split at e
   .cases e;rename_i hz;rw[r1.str_inv]at r;exact Ub pins s σ H _ us Q I r ⟨_,_,rfl,⟨by rw[<- DY];exact hz,rfl⟩,q.int fh⟩
   .cases e
  .cases e
 .cases e
theorem zd4{K:kA}{F H:Hp}{k:Kd}{p:Addr}{xs:List V}(s:AY F H)(h:Ec K F k p xs):Ag K H p xs\/BG K H p xs:=by
 cases k with
 |lst=>exact .inl (Ag.of (s _ _ h))
 |rl=>exact .inl (s.seq h)
 |tup=>exact .inr (BG.of (s _ _ h))
 |rt=>exact .inr (FX s h)
 |pin q=>exact .inl (Ag.of (s _ _ h))
theorem zcj:B3 X (.type "list") (DE X.K (g1 Ey)):=by
 intro pins s σ H xs us Q I r h;obtain⟨F,ts,v,fh,rs,e,q⟩:=h;unfold g1 at e;split at e
 .obtain⟨x1,xs1,rfl,r1,rs1⟩:=rs.inv;cases rs1.inv0;unfold Ey at e;split at e
  .cases e;obtain⟨p,ys,rfl,rfl,n1,k1⟩:=Cn r1;have hq:Ag X.K H p ys\/BG X.K H p ys:=zd4 fh n1;exact zb9 pins s σ H _ us Q I r ⟨p,ys,rfl,hq,λl hl=>q.list fh k1 hl⟩
  .cases e
 .cases e
theorem zdy:B3 X (.builtin "abs") (DE X.K (g1 LG)):=by
 intro pins s σ H xs us Q I r h;obtain⟨F,ts,v,fh,rs,e,q⟩:=h;unfold g1 at e;split at e
 .obtain⟨x1,xs1,rfl,r1,rs1⟩:=rs.inv;cases rs1.inv0;unfold LG at e;split at e
  .cases e;rw[r1.int_inv]at r;exact zfu pins s σ H _ us Q I r ⟨_,rfl,q.int fh⟩
  .cases e
 .cases e
theorem zds{f:String}{g:T->T->Option T}{gi:Int->Int->Int}(hc:B3 X (.builtin f) (λxs H Q=>∃i j,xs=[.int i,.int j]/\Q (.int (gi i j)) H))(hg:∀t u v,g t u=some v->∃i j,t=.int i/\u=.int j/\v=.int (gi i j)):B3 X (.builtin f) (DE X.K (g2 g)):=by
 intro pins s σ H xs us Q I r h;obtain⟨F,ts,v,fh,rs,e,q⟩:=h;unfold g2 at e;split at e
 .obtain⟨x1,xs1,rfl,r1,rs1⟩:=rs.inv;obtain⟨x2,xs2,rfl,r2,rs2⟩:=rs1.inv;cases rs2.inv0;obtain⟨i,j,rfl,rfl,rfl⟩:=hg _ _ _ e;rw[r1.int_inv,r2.int_inv]at r;exact hc pins s σ H _ us Q I r ⟨_,_,rfl,q.int fh⟩
 .cases e
theorem zdu(hc:X.calm=true):B3 X (.builtin "min") (DE X.K (g2 KC)):=zds (zdq hc) λt u v h=>by
 unfold KC at h;split at h
 .cases h;exact⟨_,_,rfl,rfl,rfl⟩
 .cases h
theorem Ue:∀{l:List T} {bs:List Bool},FH l=some bs->l.length=bs.length/\∀(i:Nat) (t:T),l[i]?=some t->∃b,bs[i]?=some b/\t=.bl b
 |[],bs,h=>by cases h;exact⟨rfl,λi t e=>by simp at e⟩
 |t::r,bs,h=>by
  unfold FH at h;cases t with
  |bl b =>
   simp only at h;cases hr:FH r with
   |none=>simp only[hr]at h;cases h
   |some l =>
    simp only[hr]at h;cases h;obtain⟨h1,h2⟩:=Ue hr;refine⟨by simp[h1],λi t e=>?_⟩
    cases i with
    |zero=>simp at e;exact⟨b,rfl,e.symm⟩
    |succ i=>exact h2 i t (by simpa using e)
  |_=>cases h
theorem QE{bs:List Bool}{tr:Nat->Bool}(h:∀(i:Nat) (b:Bool),bs[i]?=some b->tr i=b):(List.range bs.length).all tr=bs.all id/\(List.range bs.length).any tr=bs.any id:=by
 have e:(List.range bs.length).map tr=bs:=by
  apply List.ext_getElem?;intro i;rw[ya7]
  by_cases hi:i<bs.length
  .rw[ybh hi,ya0 hi];simp only[ybj];rw[h i _ (ya0 hi)]
  .rw[ybl (by simp;omega),ybl (by omega)]
   rfl
 constructor
 .have:(List.range bs.length).all tr=((List.range bs.length).map tr).all id:=by rw[yds];rfl
  rw[this,e]
 .have:(List.range bs.length).any tr=((List.range bs.length).map tr).any id:=by rw[List.any_map];rfl
  rw[this,e]
theorem Oz(hc:X.calm=true){pins:List (Addr×Obj)}{s:Shared}{σ:L2.St}{H:Hp}{F:Hp}{l:List T}{bs:List Bool}{p:Addr}{E':Value->Shared->Prop}{P:Value->Shared->Prop}{o:Bool}(I:Inv X pins σ H s)(fh:AY F H)(r1:Rp X.K F F (.nd o .lst l) (.ref p) R0)(hb:FH l=some bs)
  (hP : ∀ (I0 : Addr) (wr fp : List Addr) (St : Nat -> Heap -> Prop) (PP : Nat -> Value -> Prop) (tr : Nat -> Bool) (s2 : Shared), Walks X.prog X.w X.A.in1 I0 fp wr bs.length PP St -> St 0 s2.heap -> TruthOf X.prog X.w X.A.in1 PP tr -> (∀ (i : Nat) (b : Bool), bs[i]? = some b -> tr i = b) ->
   (∀h' tk,(∀b o,b∉wr->s2.heap.get? b=some o->h'.get? b=some o)->Inv X pins σ H { s2 with heap:=h',toks:=tk })->P (.ref I0) s2):wpAny (model X.prog X.w) X.A.in1 (pyIter (.ref p)) P E' s:=by
 obtain⟨p',ys,e',rfl,n1,k1⟩:=Cn r1;cases e';obtain⟨hlen,hget⟩:=Ue hb;obtain⟨its,rv,pl,hz⟩:=I.list (Ag.of (fh _ _ n1):Ag X.K H p ys);have hl:=rv.length
 have hne:p≠s.heap.objs.size:=yaw (by
  obtain⟨o,n,e,_⟩:=pl;exact yae e)
 have hh:X.A.in1.handled=none:=I.ok.hd hc
 have val:∀(i:Nat) (v:Value),its[i]?=some v->∃b,bs[i]?=some b/\v=.bool b:=λi v hv=>by
  have hi:i<ys.length:=by
   have:=(ya8.mp hv).1
   omega
  have hi2:i<l.length:=by rw[k1.1];exact hi
  obtain⟨b,h1,h2⟩:=hget i _ (ya0 hi2);have rr:=k1.2 i _ _ (ya0 hi2) (ya0 hi);rw[h2]at rr;obtain⟨u,e1,ru⟩:=rv.get (ya0 hi);rw[hv]at e1;cases e1;rw[rr.bl_inv]at ru;exact⟨b,h1,ru⟩
 have hbl:its.toArray.size=bs.length:=by rw[yai,<- hl,<- k1.1,hlen]
 refine yeg pl.isList ?_;have W:=Walks.list (prog:=X.prog) (w:=X.w) hh s.heap.objs.size p hne its.toArray;rw[hbl]at W;refine hP s.heap.objs.size _ _ _ _ (λi=>bs.getD i false) _ W ⟨⟨_,yag _ rfl,rfl,rfl⟩,?_⟩ ?_ ?_ ?_
 .obtain⟨o,ho,hr⟩:=pl.isList;exact⟨o,ya4 _ ho,hr⟩
 .intro i v s' Q' E'' hv hq';obtain⟨b,h1,h2⟩:=val i v (by simpa using hv)
  subst h2;refine yea ?_;have e:bs.getD i false=b:=by rw[yb6,h1];rfl
  rw[<- e];exact hq'
 .intro i b hb';show bs.getD i false=b;rw[yb6,hb']
  rfl
 .intro h' tk k
  exact I.kept λb o e=>k b o (λz=>by
   rw[ya3]at z;exact absurd (yae e) (by rw[z];exact yb7 _)) (ya4 _ e)
theorem zdx(hc:X.calm=true):B3 X (.builtin "all") (DE X.K (g1 E9)):=by
 intro pins s σ H xs us Q I r h;obtain⟨F,ts,v,fh,rs,e,q⟩:=h;unfold g1 at e;split at e
 .obtain⟨x1,xs1,rfl,r1,rs1⟩:=rs.inv;cases rs1.inv0;unfold E9 at e;split at e
  .split at e
   .cases e;rename_i bs hbs;obtain⟨p,rfl⟩:=r1.ref_inv;obtain⟨u,rfl,ru⟩:=Ei r;cases ru;refine call_all_walk (Oz hc I fh r1 hbs λI0 wr fp St PP tr s2 W st0 tro htr Ar=>⟨I0,fp,wr,bs.length,PP,St,tr,rfl,W,st0,tro,λh' tk k=>?_⟩)
    rw[(QE htr).1];exact⟨.bl _,H,Ar h' tk k,rfl,q.bl fh⟩
   .cases e
  .cases e
 .cases e
theorem zdw(hc:X.calm=true):B3 X (.builtin "any") (DE X.K (g1 LC)):=by
 intro pins s σ H xs us Q I r h;obtain⟨F,ts,v,fh,rs,e,q⟩:=h;unfold g1 at e;split at e
 .obtain⟨x1,xs1,rfl,r1,rs1⟩:=rs.inv;cases rs1.inv0;unfold LC at e;split at e
  .split at e
   .cases e;rename_i bs hbs;obtain⟨p,rfl⟩:=r1.ref_inv;obtain⟨u,rfl,ru⟩:=Ei r;cases ru;refine call_any_walk (Oz hc I fh r1 hbs λI0 wr fp St PP tr s2 W st0 tro htr Ar=>⟨I0,fp,wr,bs.length,PP,St,tr,rfl,W,st0,tro,λh' tk k=>?_⟩)
    rw[(QE htr).2];exact⟨.bl _,H,Ar h' tk k,rfl,q.bl fh⟩
   .cases e
  .cases e
 .cases e
theorem Su{pins:List (Addr×Obj)}{σ:L2.St}{H:Hp}{s:Shared}{p:Addr}{ob:Obj}{kvs:List (Key×V)}{c:Value}{b:Bool}{A:Around}{Q:Value->Shared->Prop}{E:Value->Shared->Prop}(I:Inv X pins σ H s)(ea:H p=some (.frz ob (.dK kvs)))(e:PySem.W.kitOne X.K (.type "dict") c=some b)(h:∀tk,Q (.bool b) { s with toks:=tk }) :
  wpAny (model X.prog X.w) A (call (.builtin "isinstance") [.ref p,c]) Q E s:=by
 obtain⟨_,_,_,vs,_,q⟩:=(show BJ X.prog X.w H s.heap p (.frz ob (.dK kvs)) from I.hok p _ ea);obtain⟨o,es,ep,h1,h2,_⟩:=q;exact yb8 ye4 I.kIn ⟨o,h1,h2.1⟩ e (λz=>nomatch z) h
theorem PL{F H:Hp}{t:T}{x:V}{a:String}(fh:AY F H)(r:Rp X.K F F t x R0)(h:JZ t=some a):(TyOf X.K H x (.type a)\/a="dict"/\∃p ob kvs,x=.ref p/\H p=some (.frz ob (.dK kvs)))/\a∈["NoneType","bool","int","str","list","tuple","dict"]:=by
 cases t with
 |non=>cases h;rw[r.non_inv];exact⟨.inl .non,by simp⟩
 |bl b=>cases h;rw[r.bl_inv];exact⟨.inl (.bl b),by simp⟩
 |int i=>cases h;rw[r.int_inv];exact⟨.inl (.int i),by simp⟩
 |str y=>cases h;rw[r.str_inv];exact⟨.inl (.str y),by simp⟩
 |nd o k l =>
  obtain⟨p,xs,rfl,_,n,_⟩:=Cn r;cases k with
  |lst=>cases h;exact⟨.inl (.lst (fh _ _ n)),by simp⟩
  |tup=>cases h;exact⟨.inl (.tup (fh _ _ n)),by simp⟩
  |rl=>cases h
  |rt=>cases h
  |pin _=>cases h
 |dic ks l =>
  cases h;cases r with
  |dic h e ek c=>exact⟨.inr ⟨rfl,_,_,_,rfl,fh _ _ h⟩,by simp⟩
 |pdc ks l =>
  cases h;cases r with
  |pdc h e ek c=>exact⟨.inl (.dK (fh _ _ h)),by simp⟩
 |odc ks l=>cases h
 |obj k l=>cases h
 |oob p C fs l=>cases h
 |osd ks l=>cases h
theorem zdv{c:String}:B3 X (.builtin "isinstance") (λxs H Q=>∃x,xs=[x,.ty c]/\DE X.K (g1 (By c)) [x] H Q):=by
 intro pins s σ H xs us Q I r h;obtain⟨x,rfl,F,ts,v,fh,rs,e,q⟩:=h;unfold g1 at e;split at e
 .obtain⟨x1,xs1,e1,r1,rs1⟩:=rs.inv;cases e1;unfold By at e;split at e
  .rename_i a ha;split at e
   .cases e;rename_i hc;obtain⟨ty,hm⟩:=PL fh r1 ha
    rcases ty with ty|⟨rfl,p,ob,kvs,rfl,hp⟩
    .exact zfs pins s σ H _ us Q I r ⟨x,_,_,rfl,ty,Sk X.K hm hc,q.bl fh⟩
    .obtain⟨u,w',rfl,rx,ry⟩:=Gb r;cases ry;cases rx;exact Su I hp (Sk X.K hm hc) λtk=>⟨.bl _,H,I.tok _,rfl,q.bl fh⟩
   .cases e
  .cases e
 .cases e
def T.isN:T->Bool
 |.non=>true
 |_=>false
noncomputable def T.isB(b:Bool):T->Bool
 |.bl c=>c == b
 |_=>false
def GX(neg:Bool)(t u:T):Option T:=match u with
 |.non=>some (.bl (neg ^^ t.isN))
 |.bl b=>some (.bl (neg ^^ t.isB b))
 |_=>none
theorem UR{K:kA}{F H:Hp}{t:T}{x:V}{A:Rg}(r:Rp K F H t x A):decide (x=V.non)=t.isN:=by
 cases r<;>simp[T.isN]
theorem US{K:kA}{F H:Hp}{t:T}{x:V}{A:Rg}{b:Bool}(r:Rp K F H t x A):decide (x=V.bl b)=t.isB b:=by
 cases r<;>simp[T.isB]
 rename_i c;cases c<;>cases b<;>rfl
theorem zkh:A3 X (compareOp .Is) (BU X.K (GX false)):=by
 intro pins s σ H x y v u Q I rx ry h;obtain⟨F,t1,t2,r,fh,r1,r2,e,q⟩:=h;unfold GX at e;split at e
 .cases e;rw[r2.non_inv]at ry;refine zkd pins s σ H _ _ v u Q I rx ry ⟨rfl,?_⟩;rw[UR r1];have:=q.bl fh;rw[Bool.false_xor]at this;exact this
 .cases e;rw[r2.bl_inv]at ry;refine zke pins s σ H _ _ v u Q I rx ry ⟨_,rfl,?_⟩;rw[US r1];have:=q.bl fh;rw[Bool.false_xor]at this;exact this
 .cases e
theorem zd2:A3 X (compareOp .IsNot) (BU X.K (GX true)):=by
 intro pins s σ H x y v u Q I rx ry h;obtain⟨F,t1,t2,r,fh,r1,r2,e,q⟩:=h;unfold GX at e;split at e
 .cases e;rw[r2.non_inv]at ry;refine zhc pins s σ H _ _ v u Q I rx ry ⟨rfl,?_⟩;rw[UR r1];have:=q.bl fh;rw[Bool.true_xor]at this;exact this
 .cases e;rw[r2.bl_inv]at ry;refine zhd pins s σ H _ _ v u Q I rx ry ⟨_,rfl,?_⟩;rw[US r1];have:=q.bl fh;rw[Bool.true_xor]at this;exact this
 .cases e
end
section
variable {X:Cx}{E:L2.St->XK}{ca:Str->Value}{σ:L2.St}{H:Hp}{m ma mb mc:AE->Option Rs}{ms:AE->Option RsL}{K:kA}{a b c e:Expr}{es:List Expr}{pos p p2:Pos}
theorem r_isT{c:String}{cn:Str}(hv:bootBuiltins cn=some (.type c))(hg:Gl X "isinstance")(hm:X.mg "isinstance"=none)(hgc:Gl X cn)(hmc:X.mg cn=none)(hn:cn≠"__name__")(hd:(cn == ("__debug__":Str))=false)(ha:PE X e (tM X.K E ca m))(he:starEach [e,.Name cn p2] X.env=(false,eval e X.env)::starEach [.Name cn p2] X.env) :
  PE X (.Call (.Name "isinstance" p) [e,.Name cn p2] [] pos) (tM X.K E ca (BB (g1 (By c)) (AG m AH))):=by
 refine PE.weak (IB (zdv (c:=c)) hg hm ycg (DV ha (DV (Qg (v:=.ty c) hgc hmc hv rfl hn hd) EX) he) (by decide) (by decide) he rfl) λσ H Q h=>?_
 exact(Ej (FT h)).mono λx H1 h1=>⟨x,rfl,FR h1⟩
inductive Ru where
 |ok (t:T)|exc (c:Str)
def Bw(K:kA)(ca:Str->Value)(g:List T->Option Ru):Sp:=λvs H Q E=>∃F ts,AY F H/\Ae K F ts vs/\match g ts with
 |some (.ok v)=>CF K F H v Q
 |some (.exc c)=>∀F' H',Ext F H F' H' R0->E (ca c) none H'
 |none=>False
def Ac(g:List T->Option Ru)(ms:AE->Option RsL):AE->Option Rs:=λτ=>match ms τ with
 |some (.v ts b)=>(match g ts with
  |some (.ok v)=>Ar b v
  |some (.exc c)=>some (.x c)
  |none=>none)
 |some (.x c)=>some (.x c)
 |none=>none
theorem Ua{g:List T->Option Ru}{Q:VK}(h:tM K E ca (Ac g ms) σ H Q):P9 (Bw K ca g) [] E (Bv K E ca ms) σ H Q:=by
 obtain⟨F,τ,R,S,q⟩:=h;refine⟨F,τ,R,S,?_⟩;unfold Ac at q;cases hs:ms τ with
 |none=>simp only[hs]at q
 |some r =>
  simp only[hs]at q;cases r with
  |x c=>exact q
  |v ts b =>
   intro F1 H1 xs e1 rs;have S1:=S.ext e1;simp only at q;rw[yc9];refine⟨Gz b F1 H1 R,ts,TJ S1,rs,?_⟩;cases hg:g ts with
   |none=>simp only[hg]at q
   |some r =>
    simp only[hg]at q;cases r with
    |exc c=>exact λF' H' e2=>q F1 H' (e1.grow e2.hh)
    |ok v =>
     intro F2 H2 z C e2 r2;simp only at q;unfold Ar at q;cases b with
     |false=>exact q F2 H2 z C (e1.trans0 e2) r2
     |true =>
      cases hf:v.flat with
      |false=>rw[hf]at q;exact False.elim q
      |true=>rw[hf]at q;exact q F1 H2 z R0 (e1.grow e2.hh) (r2.flat_any hf)
theorem zjm{k j:Nat}{x:Str}{ps:List Str}{g:List T->Option Ru}(D:DefX X.prog X.w X.K X.mg X.base k x ps (Bw X.K ca g))(hr:Room j X.A)(hx:BI X E)(ha:PA X (e::es) (Bv X.K E ca ms))(hk:k<=j)(hg:Gl X x)(hdb:(x == ("__debug__":Str))=false)
  (he:starEach (e::es) X.env=(false,eval e X.env)::starEach es X.env) (hpl:(backTo pos (starEach es X.env)).any (·.1)=false):PE X (.Call (.Name x p) (e::es) [] pos) (tM X.K E ca (Ac g ms)):=PE.weak (px D hr hx ha hk hg hdb he hpl) λ_ _ _ h=>Ua h
end
def Fs(K:kA)(J:It)(F:Hp)(ts:List T):Prop:=∀(i:Nat) (F' H':Hp),AY F F'->AY F' H' ->
 (∀t,ts[i]?=some t->J.go i H'/\∀x H'',J.yld i H' x H''->∃F'',Ext F' H' F'' H'' R0/\Rp K F'' H'' t x R0)/\(i=ts.length->J.stop i H')
def tI(K:kA)(E:L2.St->XK)(ca:Str->Value)(m:AE->Option RsL):TI:=λσ H P=>∃F τ R,StR K F H σ τ R/\match m τ with
 |some (.v ts _)=>∀F' H' J,Ext F H F' H' R0->Fs K J F' ts->P J H'
 |some (.x c)=>∀F' H',Ext F H F' H' R0->E σ (ca c) none H'
 |none=>False
noncomputable def K4:T->Bool
 |.nd _ .lst _=>true
 |.nd _ .rl _=>true
 |.nd _ (.pin _) _=>true
 |_=>false
noncomputable def HG(m:AE->Option Rs):AE->Option RsL:=λτ=>match m τ with
 |some (.v (.nd _ k l) false)=>some (.v (AV l) false)
 |some (.x c)=>some (.x c)
 |_=>none
def Dy(lo:Int)(n:Nat):List T:=(List.range n).map λ(i:Nat)=>.int (lo+(i:Int))
def GH(j:Int):Bool:=@decide (-(2 ^ 62)<=j/\j<2 ^ 62) (Classical.propDecidable _)
def LB:List T->Option Int
 |[.int j]=>some j
 |_=>none
noncomputable def as2:List T->Option (Int×Int)
 |[.int i,.int j]=>some (i,j)
 |_=>none
def Dp(ms:AE->Option RsL):AE->Option RsL:=λτ=>match ms τ with
 |some (.v ts _)=>(match LB ts with
  |some j=>if GH j then some (.v (Dy 0 j.toNat) false) else none
  |none=>none)
 |r=>r
def asL:List T->Option (List T)
 |[.nd o k l]=>if K4 (.nd o k l) then some l else none
 |_=>none
def asL2:List T->Option (List T×List T)
 |[.nd o k l,.nd o' k' m]=>if K4 (.nd o k l) && K4 (.nd o' k' m) then some (l,m) else none
 |_=>none
section
variable {X:Cx}{E:L2.St->XK}{ca:Str->Value}{σ:L2.St}{H:Hp}{m ma mb mc:AE->Option Rs}{ms:AE->Option RsL}{K:kA}{a b c e tg:Expr}{es elts:List Expr}{pos p tpos:Pos}{kk:Nat}
theorem K0{F:Hp}{p:Addr}{xs:List V}{l:List T}(n:∀F' H':Hp,AY F F'->AY F' H'->Ag K H' p xs)(r:Ae K F l xs):Fs K (LU K p) F l:=by
 intro i F' H' s1 s2;have sq:=n F' H' s1 s2;refine⟨λt ht=>?_,λe=>⟨xs,sq,by rw[e,r.1];exact yaa _⟩⟩
 have hi:i<xs.length:=by
  have:=(ya8.mp ht).1;have:=r.1
  omega
 refine⟨⟨xs,xs[i],sq,ya0 hi⟩,λx H'' y=>?_⟩
 obtain⟨rfl,y⟩:=y;have hx:=y xs sq;exact⟨F',Ext.refl s2,((r.same s1).2 i t x ht hx).any⟩
theorem Sr{F:Hp}{p:Addr}{xs:List V}{l:List T}(n:∀F' H':Hp,AY F F'->AY F' H'->BG K H' p xs)(r:Ae K F l xs):Fs K (Oq K p) F l:=by
 intro i F' H' s1 s2;have sq:=n F' H' s1 s2;refine⟨λt ht=>?_,λe=>⟨xs,sq,by rw[e,r.1];exact yaa _⟩⟩
 have hi:i<xs.length:=by
  have:=(ya8.mp ht).1;have:=r.1
  omega
 refine⟨⟨xs,xs[i],sq,ya0 hi⟩,λx H'' y=>?_⟩
 obtain⟨rfl,y⟩:=y;have hx:=y xs sq;exact⟨F',Ext.refl s2,((r.same s1).2 i t x ht hx).any⟩
theorem zdb{F:Hp}{lo:Int}{n:Nat}:Fs K (LR lo n) F (Dy lo n):=by
 intro i F' H' s1 s2;refine⟨λt ht=>?_,λe=>?_⟩
 .unfold Dy at ht;rw[ya7]at ht;obtain⟨j,e1,e2⟩:=ya2.mp ht
  have hi:i<n:=by
   have:=(ya8.mp e1).1
   simpa using this
  have hj:i=j:=by rw[ybh hi]at e1;exact yb0 e1
  subst hj;subst e2;refine⟨hi,λx H'' y=>?_⟩
  obtain⟨rfl,rfl⟩:=y;exact⟨F',Ext.refl s2,.int _⟩
 .have:n<=i:=by rw[e];simp[Dy]
  exact this
theorem PI.weak{t t':TI}(h:PI X tg e t)(w:∀σ H P,t' σ H P->t σ H P):PI X tg e t':=λpins s σ H P I q=>h pins s σ H P I (w σ H P q)
theorem PI.or{t t':TI}(h:PI X tg e t)(h':PI X tg e t'):PI X tg e (λσ H P=>t σ H P\/t' σ H P):=λpins s σ H P I q=>q.elim (h pins s σ H P I) (h' pins s σ H P I)
theorem QR(ha:PE X e (tM X.K E ca m)):PI X tg e (tI X.K E ca (HG m)):=by
 refine PI.weak (PI.or (zh1 ha) (zjw ha)) λσ H P h=>?_
 obtain⟨F,τ,R,S,q⟩:=h;unfold HG at q
 have key:∀{o:Bool} {k:Kd} {l:List T},m τ=some (.v (.nd o k l) false)->(∀F' H' J,Ext F H F' H' R0->Fs X.K J F' (AV l)->P J H')->∀F1 H1 x B,Ext F H F1 H1 B->Cz X.K F1 H1 R (.nd o k l) false x B->∃(F2:Hp) (p:Addr) (xs:List V),x=.ref p/\Ext F H F2 H1 R0/\Ec X.K F2 k p xs/\Ae X.K F2 (AV l) xs:=by
  intro o k l hm q F1 H1 x B e1 g1;obtain⟨F2,e2,_,r2⟩:=Cz.frz (b:=false) S e1 g1;have r2':Rp X.K F2 F2 (T.nd o k l).share x R0:=r2;rw[T.share]at r2';obtain⟨p,xs,rfl,_,n,kd⟩:=Cn r2';exact⟨F2,p,xs,rfl,e2,n,kd⟩
 cases hm:m τ with
 |none=>simp only[hm]at q
 |some r =>
  simp only[hm]at q;cases r with
  |x c=>exact .inl ⟨F,τ,R,S,by rw[hm];exact q⟩
  |v t bb =>
   cases t with
   |nd o k l =>
    cases bb with
    |true=>exact q.elim
    |false =>
     simp only at q;cases k with
     |lst =>
      refine .inl ⟨F,τ,R,S,?_⟩;rw[hm];intro F1 H1 x B e1 g1;obtain⟨F2,p,xs,rfl,e2,n,kd⟩:=key hm q F1 H1 x B e1 g1;exact⟨p,rfl,⟨xs,Ag.of (e2.fh _ _ n)⟩,q F2 H1 _ e2 (K0 (λF' H' s1 s2=>Ag.of (s2 _ _ (s1 _ _ n))) kd)⟩
     |pin _ =>
      refine .inl ⟨F,τ,R,S,?_⟩;rw[hm];intro F1 H1 x B e1 g1;obtain⟨F2,p,xs,rfl,e2,n,kd⟩:=key hm q F1 H1 x B e1 g1;exact⟨p,rfl,⟨xs,Ag.of (e2.fh _ _ n)⟩,q F2 H1 _ e2 (K0 (λF' H' s1 s2=>Ag.of (s2 _ _ (s1 _ _ n))) kd)⟩
     |rl =>
      refine .inl ⟨F,τ,R,S,?_⟩;rw[hm];intro F1 H1 x B e1 g1;obtain⟨F2,p,xs,rfl,e2,n,kd⟩:=key hm q F1 H1 x B e1 g1;exact⟨p,rfl,⟨xs,e2.fh.seq n⟩,q F2 H1 _ e2 (K0 (λF' H' s1 s2=>s2.seq (s1.seq n)) kd)⟩
     |tup =>
      refine .inr ⟨F,τ,R,S,?_⟩;rw[hm];intro F1 H1 x B e1 g1;obtain⟨F2,p,xs,rfl,e2,n,kd⟩:=key hm q F1 H1 x B e1 g1;exact⟨p,rfl,⟨xs,BG.of (e2.fh _ _ n)⟩,q F2 H1 _ e2 (Sr (λF' H' s1 s2=>BG.of (s2 _ _ (s1 _ _ n))) kd)⟩
     |rt =>
      refine .inr ⟨F,τ,R,S,?_⟩;rw[hm];intro F1 H1 x B e1 g1;obtain⟨F2,p,xs,rfl,e2,n,kd⟩:=key hm q F1 H1 x B e1 g1;exact⟨p,rfl,⟨xs,FX e2.fh n⟩,q F2 H1 _ e2 (Sr (λF' H' s1 s2=>FX s2 (FX s1 n)) kd)⟩
   |_=>exact q.elim
theorem zg7{f:(AE->Option RsL)->AE->Option RsL}{P:It->Hp->Prop}{W:List V->Hp->Prop}(hx:∀τ c,ms τ=some (.x c)->f ms τ=some (.x c))(hn:∀τ,ms τ=none->f ms τ=none)
  (hv : ∀ F τ R ts b, StR K F H σ τ R -> ms τ = some (.v ts b) -> (match f ms τ with
   |some (.v us _)=>∀F' H' J,Ext F H F' H' R0->Fs K J F' us->P J H'
   |some (.x c)=>∀F' H',Ext F H F' H' R0->E σ (ca c) none H'
   |none=>False)->∀F' H' xs,Ext F H F' H' R0->Ae K (Gz b F' H' R) ts xs->W xs H') (h:tI K E ca (f ms) σ H P):Bv K E ca ms σ H W:=by
 obtain⟨F,τ,R,S,q⟩:=h;refine⟨F,τ,R,S,?_⟩;cases hm:ms τ with
 |none=>rw[hn τ hm]at q;exact q.elim
 |some r =>
  cases r with
  |x c=>rw[hx τ c hm]at q;exact q
  |v ts b=>exact λF' H' xs e rs=>hv F τ R ts b S hm q F' H' xs e rs
theorem zez{j:Int}(h:GH j=true):-(2 ^ 62)<=j/\j<2 ^ 62:=@of_decide_eq_true _ (Classical.propDecidable _) h
theorem zej(hg:Gl X "range")(hm:X.mg "range"=none)(ha:PA X [a] (Bv X.K E ca ms))(hs:starEach [a] X.env=[(false,eval a X.env)]):PI X tg (.Call (.Name "range" p) [a] [] pos) (tI X.K E ca (Dp ms)):=by
 refine PI.weak (zcz hg hm ha hs) λσ H P h=>?_
 refine zg7 (f:=Dp) (λτ c e=>by unfold Dp;rw[e]) (λτ e=>by unfold Dp;rw[e]) (λF τ R ts b S e q F' H' xs e1 rs=>?_) h
 unfold Dp at q;rw[e]at q;simp only at q;cases h1:LB ts with
 |none=>simp only[h1]at q
 |some j =>
  simp only[h1]at q
  by_cases hj:GH j=true
  .simp only[hj,yeo]at q;obtain⟨g1,g2⟩:=zez hj;unfold LB at h1;split at h1
   .cases h1;obtain⟨x1,xs1,rfl,r1,rs1⟩:=rs.inv;cases rs1.inv0;rw[r1.int_inv];exact⟨j,rfl,g1,g2,q F' H' _ e1 zdb⟩
   .cases h1
  .simp only[hj]at q;exact q.elim
end
theorem StR.set{K:kA}{F H:Hp}{σ:L2.St}{τ:AE}{R:Nat->Rg}(S:StR K F H σ τ R){i:Nat}{t:T}{x:V}{A:Rg}(r:Rp K F H t x A)(d:∀j a,j≠i->R j a->¬ A a)(hi:i<τ.length) :
  StR K F H (σ.set i (some x)) (τ.set i (some t)) (λj=>if j=i then A else R j):=by
 have hl:=S.len;refine⟨S.fh,by simp[hl],λj t' e=>?_,λj a z=>?_,λj k a hjk z1 z2=>?_⟩
 .by_cases hj:j=i
  .subst hj;rw[yao hi]at e;cases e;exact⟨x,yao (by omega),by simpa using r⟩
  .rw[yan (yb1 hj)]at e ⊢;obtain⟨y,e1,r1⟩:=S.rep j t' e;exact⟨y,e1,by simpa[hj] using r1⟩
 .by_cases hj:j=i
  .subst hj;exact⟨t,yao hi⟩
  .simp only[hj,yep]at z;obtain⟨t',e⟩:=S.out j a z;exact⟨t',by rw[yan (yb1 hj)];exact e⟩
 .by_cases hj:j=i
  .simp only[hj,yeo]at z1;have hk:¬ k=i:=λz=>hjk (hj.trans z.symm)
   simp only[hk,yep]at z2;exact d k a hk z2 z1
  .simp only[hj,yep]at z1
   by_cases hk:k=i
   .simp only[hk,yeo]at z2;exact d j a hj z1 z2
   .simp only[hk,yep]at z2;exact S.dis j k a hjk z1 z2
def DQ(K:kA)(b:T->AE->Option AE):TG:=λv σ H Q=>∃F τ R t τ',StR K F H σ τ R/\Rp K F H t v R0/\b t τ=some τ'/\∀σ' R',StR K F H σ' τ' R'->(∀i a,R' i a->R i a)->Q σ' H
def Fx(K:kA)(b:List T->AE->Option AE):Ea:=λvs σ H Q=>∃F τ R ts τ',StR K F H σ τ R/\Ae K F ts vs/\b ts τ=some τ'/\∀σ' R',StR K F H σ' τ' R'->(∀i a,R' i a->R i a)->Q σ' H
def AK(i:Nat):T->AE->Option AE:=λt τ=>if i<τ.length then some (τ.set i (some t)) else none
def DL:List T->AE->Option AE
 |[],τ=>some τ
 |_::_,_=>none
def BW(b:T->AE->Option AE)(bs:List T->AE->Option AE):List T->AE->Option AE
 |t::ts,τ=>(match b t τ with
  |some τ'=>bs ts τ'
  |none=>none)
 |[],_=>none
def Ct(n:Nat)(bs:List T->AE->Option AE):T->AE->Option AE
 |.nd _ .tup l,τ=>if l.length=n then bs l τ else none
 |.nd _ .rt l,τ=>if l.length=n then bs l τ else none
 |.nd _ .lst l,τ=>if l.length=n then bs l τ else none
 |_,_=>none
theorem zk0{X:Cx}{es:List Expr}{pos:Pos}{k:Nat}{t:Ea}{n:Nat}(hc:X.calm=true)(h:Cy X es t)(hn:(assignEach es X.env).length=n)(hst:(assignEach es X.env).findIdx? (·.1)=none):PG X (.Tuple es k pos) (λv σ H Q=>N6 X.K n t v σ H Q\/∃a xs,v=.ref a/\Ag X.K H a xs/\xs.length=n/\t xs σ H Q):=by
 intro pins s σ H v u Q I r hw
 rcases hw with hw|⟨a,xs,e1,hq,hl,hw⟩
 .exact zjy hc h hn hst pins s σ H v u Q I r hw
 .subst e1;cases r;obtain⟨its,rv,⟨o,m,ho,hcl,_,hd⟩,hz⟩:=I.list hq;rw[assign_Tuple];refine yec (yee ?_);unfold unpack;rw[hst,hn,show n=its.toArray.size by simp[<- hl,rv.length]]
  refine yec (yed (PySem.W.kun_itemsOf (I.ok.hd hc) ⟨o,ho,hcl,m,hd⟩ λh' hx=>?_))
  have I1:Inv X pins σ H { s with heap:=h' }:=I.kept (t':=s.toks) λb o e=>hx b o (yaw (yae e)) e
  exact h pins _ σ H xs _ Q I1 (by simpa using rv) hw
section
variable {X:Cx}{e:Expr}{es:List Expr}{pos:Pos}{b:T->AE->Option AE}{bs:List T->AE->Option AE}
theorem PG.weak{t t':TG}(h:PG X e t)(w:∀v σ H Q,t' v σ H Q->t v σ H Q):PG X e t':=λpins s σ H v u Q I r q=>h pins s σ H v u Q I r (w v σ H Q q)
theorem Cy.weak{t t':Ea}(h:Cy X es t)(w:∀v σ H Q,t' v σ H Q->t v σ H Q):Cy X es t':=λpins s σ H v u Q I r q=>h pins s σ H v u Q I r (w v σ H Q q)
theorem g_nm{i:Nat}{x:Str}(hN:X.N.Nodup)(hi:X.N[i]?=some x)(hx:Fq X.env.scope x)(hf:X.fn x=true\/X.env.scope.names.lookup x=some .local):PG X (.Name x pos) (DQ X.K (AK i)):=by
 refine PG.weak (Q9 hN hi hx hf) λv σ H Q h=>?_
 obtain⟨F,τ,R,t,τ',S,r,e,q⟩:=h;unfold AK at e;split at e
 .cases e;rename_i hl;refine q _ _ (S.set r (λ_ _ _ _ z=>z.elim) hl) λj a z=>?_
  by_cases hj:j=i
  .simp only[hj,yeo]at z;exact z.elim
  .simpa[hj] using z
 .cases e
theorem g_nil:Cy X [] (Fx X.K DL):=Cy.weak zh2 λv σ H Q h=>by
 obtain⟨F,τ,R,ts,τ',S,r,e,q⟩:=h;cases ts with
 |nil=>cases e;exact⟨r.inv0,q σ R S λ_ _ z=>z⟩
 |cons _ _=>cases e
theorem zlg(h1:PG X e (DQ X.K b))(h2:Cy X es (Fx X.K bs))(hs:(assignEach (e::es) X.env).map (·.2)=assign e X.env::(assignEach es X.env).map (·.2)):Cy X (e::es) (Fx X.K (BW b bs)):=by
 refine Cy.weak (zes h1 h2 hs) λv σ H Q h=>?_
 obtain⟨F,τ,R,ts,τ',S,r,e,q⟩:=h;cases ts with
 |nil=>cases e
 |cons t ts =>
  obtain⟨x,xs,rfl,r1,rs⟩:=r.inv;unfold BW at e;simp only at e;cases hb:b t τ with
  |none=>rw[hb]at e;cases e
  |some τ1 =>
   rw[hb]at e;exact⟨x,xs,rfl,F,τ,R,t,τ1,S,r1.any,hb,λσ1 R1 S1 w1=>⟨F,τ1,R1,ts,τ',S1,rs,e,λσ2 R2 S2 w2=>q σ2 R2 S2 λi a z=>w1 i a (w2 i a z)⟩⟩
theorem g_tup{k n:Nat}(hc:X.calm=true)(h:Cy X es (Fx X.K bs))(hn:(assignEach es X.env).length=n)(hst:(assignEach es X.env).findIdx? (·.1)=none):PG X (.Tuple es k pos) (DQ X.K (Ct n bs)):=by
 refine PG.weak (zk0 hc h hn hst) λv σ H Q h=>?_
 obtain⟨F,τ,R,t,τ',S,r,e,q⟩:=h
 have key:∀{o:Bool} {kd:Kd} {l:List T},t=.nd o kd l->(kd=.tup\/kd=.rt\/kd=.lst)->(if l.length=n then bs l τ else none)=some τ'->(N6 X.K n (Fx X.K bs) v σ H Q\/∃a xs,v=.ref a/\Ag X.K H a xs/\xs.length=n/\Fx X.K bs xs σ H Q):=by
  intro o kd l et hk e';subst et;split at e'
  .rename_i hl;obtain⟨p,xs,rfl,_,nn,kid⟩:=Cn (r.any (H':=F));have hx:xs.length=n:=by rw[<- kid.1];exact hl
   rcases hk with rfl|rfl|rfl
   .exact .inl ⟨p,xs,rfl,BG.of (S.fh _ _ nn),hx,F,τ,R,l,τ',S,kid,e',q⟩
   .exact .inl ⟨p,xs,rfl,FX S.fh nn,hx,F,τ,R,l,τ',S,kid,e',q⟩
   .exact .inr ⟨p,xs,rfl,Ag.of (S.fh _ _ nn),hx,F,τ,R,l,τ',S,kid,e',q⟩
  .cases e'
 unfold Ct at e;split at e
 .exact key rfl (.inl rfl) e
 .exact key rfl (.inr (.inl rfl)) e
 .exact key rfl (.inr (.inr rfl)) e
 .cases e
end
def EM:L2.St->XK:=λ_=>E0
noncomputable def CQ(b:T->AE->Option AE)(mt me:AE->Option Rs):List T->AE->Option (List T)
 |[],_=>some []
 |t::ts,τ=>(match b t τ with
  |some τ1=>(match mt τ1 with
   |some (.v (.bl true) _)=>(match me τ1 with
    |some (.v v false)=>(match CQ b mt me ts τ1 with
     |some l=>some (v::l)
     |none=>none)
    |_=>none)
   |some (.v (.bl false) _)=>CQ b mt me ts τ1
   |_=>none)
  |none=>none)
noncomputable def Ez(b:T->AE->Option AE)(mt me:AE->Option Rs):List T->AE->Option Str
 |[],_=>none
 |t::ts,τ=>(match b t τ with
  |some τ1=>(match mt τ1 with
   |some (.v (.bl true) _)=>(match me τ1 with
    |some (.v _ false)=>Ez b mt me ts τ1
    |some (.x c)=>some c
    |_=>none)
   |some (.v (.bl false) _)=>Ez b mt me ts τ1
   |some (.x c)=>some c
   |_=>none)
  |none=>none)
noncomputable def Kv(τ:AE)(j:Nat):Option T:=match τ[j]? with
 |some (some t)=>if t.sh then some t else none
 |_=>none
def blk(n:Nat)(caps:List Nat)(τ:AE):AE:=List.replicate n none++caps.map (Kv τ)
noncomputable def Ku(σ:L2.St)(j:Nat):Option V:=match σ[j]? with
 |some (some v)=>some v
 |_=>none
def Ds(n:Nat)(caps:List Nat)(σ:L2.St):L2.St:=List.replicate n none++caps.map (Ku σ)
def Bx(n:Nat)(caps:List Nat)(mi:AE->Option RsL)(b:T->AE->Option AE)(mt me:AE->Option Rs):AE->Option Rs:=λτ=>match mi τ with
 |some (.v ts _)=>if ts.length<=AQ then (match CQ b mt me ts (blk n caps τ) with
  |some l=>some (.v (.own l) false)
  |none=>(match Ez b mt me ts (blk n caps τ) with
   |some c=>some (.x c)
   |none=>none)) else none
 |some (.x c)=>some (.x c)
 |none=>none
theorem zlw{K:kA}{F H:Hp}{σ:L2.St}{τ:AE}{R:Nat->Rg}(S:StR K F H σ τ R)(n:Nat)(caps:List Nat):StR K F H (Ds n caps σ) (blk n caps τ) (λ_=>R0):=by
 refine⟨S.fh,by simp[Ds,blk],λi t e=>?_,λ_ _ z=>z.elim,λ_ _ _ _ z=>z.elim⟩
 unfold blk at e;unfold Ds
 by_cases hi:i<n
 .rw[yas (by simpa using hi),yd0,if_pos hi]at e
  cases e
 .rw[yax (by simp;omega),ya7]at e ⊢
  simp only[ydh]at e ⊢;cases hc:caps[i - n]? with
  |none=>rw[hc]at e;cases e
  |some j =>
   rw[hc]at e;simp only[ybj]at e ⊢;have e':Kv τ j=some t:=yb0 e;unfold Kv at e';split at e'
   .rename_i t' ht;split at e'
    .cases e';rename_i hs;obtain⟨x,ex,r⟩:=S.rep j _ ht;refine⟨x,?_,r.move hs (.refl _)⟩;unfold Ku;rw[ex]
    .cases e'
   .cases e'
theorem Pk{l:List T}{Rr:Nat->Rg}{B:Rg}{a:Addr}(h:tot (λj=>if j=l.length then B else Rr j) a):tot Rr a\/B a:=by
 obtain⟨j,z⟩:=h
 by_cases hj:j=l.length
 .simp only[hj,yeo]at z;exact .inr z
 .simp only[hj,yep]at z;exact .inl ⟨j,z⟩
section
variable {X:Cx}{E:L2.St->XK}{ca:Str->Value}{σ:L2.St}{H:Hp}{K:kA}{n:Nat}{caps:List Nat}{mi:AE->Option RsL}{b:T->AE->Option AE}{mt me:AE->Option Rs}
theorem zd8{t:T}{us l2:List T}{τ1:AE}(h:CQ b mt me (t::us) τ1=some l2):∃τ2,b t τ1=some τ2/\((∃bt,mt τ2=some (.v (.bl false) bt)/\CQ b mt me us τ2=some l2)\/∃bt w l3,mt τ2=some (.v (.bl true) bt)/\me τ2=some (.v w false)/\CQ b mt me us τ2=some l3/\l2=w::l3):=by
 unfold CQ at h;split at h
 .rename_i τ2 hb;refine⟨τ2,hb,?_⟩;split at h
  .rename_i bt ht;split at h
   .rename_i w hw;split at h
    .rename_i l3 h3;cases h;exact .inr ⟨bt,w,l3,ht,hw,h3,rfl⟩
    .cases h
   .cases h
  .rename_i bt ht;exact .inl ⟨bt,ht,h⟩
  .cases h
 .cases h
theorem zfa{t:T}{us:List T}{c:Str}{τ1:AE}(h:Ez b mt me (t::us) τ1=some c):∃τ2,b t τ1=some τ2/\((∃bt,mt τ2=some (.v (.bl false) bt)/\Ez b mt me us τ2=some c)\/(∃bt,mt τ2=some (.v (.bl true) bt)/\((∃w,me τ2=some (.v w false)/\Ez b mt me us τ2=some c)\/me τ2=some (.x c)))\/mt τ2=some (.x c)):=by
 unfold Ez at h;split at h
 .rename_i τ2 hb;refine⟨τ2,hb,?_⟩;split at h
  .rename_i bt ht;split at h
   .rename_i w hw;exact .inr (.inl ⟨bt,ht,.inl ⟨w,hw,h⟩⟩)
   .rename_i c' hw;cases h;exact .inr (.inl ⟨bt,ht,.inr hw⟩)
   .cases h
  .rename_i bt ht;exact .inl ⟨bt,ht,h⟩
  .rename_i c' ht;cases h;exact .inr (.inr ht)
  .cases h
 .cases h
theorem PZ{Q:VK}(h:tM K E ca (Bx n caps mi b mt me) σ H Q):J3 (Ds n caps) (tI K E ca mi) (DQ K b) (Aq K (λ_=>E σ) ca mt) (tM K (λ_=>E σ) ca me) σ H Q:=by
 obtain⟨F,τ,R,S,q⟩:=h;refine⟨F,τ,R,S,?_⟩;unfold Bx at q;cases hi:mi τ with
 |none=>simp only[hi]at q
 |some r =>
  simp only[hi]at q;cases r with
  |x c=>exact q
  |v ts bb =>
   intro F1 H1 J e1 its
   by_cases hz':¬ ts.length<=AQ
   .simp only[hz',yep]at q
   have hz:ts.length<=AQ:=Decidable.not_not.mp hz';simp only[hz,yeo]at q
   obtain⟨G,g1,g0,gs⟩:∃G:List T->AE->List T->Prop,(∀t us τ1 l,G (t::us) τ1 l->∃τ2,b t τ1=some τ2/\((∃bt,mt τ2=some (.v (.bl false) bt)/\G us τ2 l)\/(∃bt,mt τ2=some (.v (.bl true) bt)/\((∃w,me τ2=some (.v w false)/\G us τ2 (l++[w]))\/∃c,me τ2=some (.x c)/\∀F' H',Ext F H F' H' R0->E σ (ca c) none H'))\/∃c,mt τ2=some (.x c)/\∀F' H',Ext F H F' H' R0->E σ (ca c) none H')) /\
     (∀τ1 l,G [] τ1 l->∀F' H' x B,Ext F H F' H' B->Rp K F' H' (.own l) x B->Q x H')/\G ts (blk n caps τ) []:=by
    cases hg:CQ b mt me ts (blk n caps τ) with
    |some res =>
     simp only[hg]at q;refine⟨λus τ1 l=>∃l2,CQ b mt me us τ1=some l2/\l++l2=res,λt us τ1 l z=>?_,λτ1 l z=>?_,res,hg,rfl⟩
     .obtain⟨l2,z,e⟩:=z;obtain⟨τ2,y,w|⟨bt,w,l3,y1,y2,y3,rfl⟩⟩:=zd8 z
      .obtain⟨bt,w1,w2⟩:=w;exact⟨τ2,y,.inl ⟨bt,w1,l2,w2,e⟩⟩
      .exact⟨τ2,y,.inr (.inl ⟨bt,y1,.inl ⟨w,y2,l3,y3,by simpa using e⟩⟩)⟩
     .obtain⟨l2,z,e⟩:=z;cases z;rw[yc9]at e;subst e;exact q
    |none =>
     simp only[hg]at q;cases hx:Ez b mt me ts (blk n caps τ) with
     |none=>simp only[hx]at q
     |some c =>
      simp only[hx]at q;refine⟨λus τ1 l=>Ez b mt me us τ1=some c,λt us τ1 l z=>?_,λτ1 l z=>(by cases z),hx⟩
      obtain⟨τ2,y,w|⟨bt,y1,⟨w,y2,y3⟩|y2⟩|w⟩:=zfa z
      .exact⟨τ2,y,.inl w⟩
      .exact⟨τ2,y,.inr (.inl ⟨bt,y1,.inl ⟨w,y2,y3⟩⟩)⟩
      .exact⟨τ2,y,.inr (.inl ⟨bt,y1,.inr ⟨c,y2,q⟩⟩)⟩
      .exact⟨τ2,y,.inr (.inr ⟨c,w,q⟩)⟩
   have S1:=S.ext e1;refine⟨λi ys st H'=>∃(F':Hp) (τ':AE) (l:List T) (Rr:Nat->Rg),Ext F1 H1 F' H' (tot Rr)/\RpO K F' H' l ys Rr/\StR K F' H' st τ' (λ_=>R0)/\i<=ts.length/\G (ts.drop i) τ' l/\l.length<=i,ts.length,by rw[<- DY];exact hz,?_,?_⟩
   .exact⟨F1,blk n caps τ,[],λ_=>R0,(Ext.refl S1.fh).mono λa ⟨_,z⟩=>z.elim,.nil,zlw S1 n caps,ybe _,gs,yaa _⟩
   .rintro i ys st H' ⟨F',τ',l,Rr,e2,ro,S2,hle,hgo,hll⟩;have hly:=ro.len;refine⟨by omega,hle,?_⟩
    obtain⟨i1,i2⟩:=its i F' H' e2.ff e2.fh
    by_cases hlt:i<ts.length
    .refine .inr ⟨hlt,?_⟩;obtain⟨go,yld⟩:=i1 _ (ya0 hlt);refine⟨go,λx H'' y=>?_⟩
     obtain⟨F'',e3,rx⟩:=yld x H'' y;have S3:=S2.ext e3;rw[yc4 hlt]at hgo;obtain⟨τ1,hb,hgo⟩:=g1 _ _ _ _ hgo;refine⟨F'',τ',_,ts[i],τ1,S3,rx,hb,λst1 R1 S4 hR1=>?_⟩
     have R1e:R1=λ_=>R0:=funext λj=>funext λa=>propext ⟨λz=>hR1 j a z,λz=>z.elim⟩
     subst R1e;refine⟨F'',τ1,_,S4,?_⟩;have eX:∀{c:Str},(∀F' H',Ext F H F' H' R0->E σ (ca c) none H')->∀F' H',Ext F'' H'' F' H' R0->E σ (ca c) none H':=λz F' H' e=>z F' H' (((e1.trans0 e2).trans (e3.trans0 e)).mono λ_ z=>z.elim)
     rcases hgo with ⟨bt,ht,hgo⟩|⟨bt,ht,hgo⟩|⟨c,ht,hX⟩
     .rw[ht];intro F4 H4 e4;exact K2 ⟨F4,τ1,l,Rr,(e2.trans ((e3.trans0 e4).mono λ_ z=>z)).mono λa z=>.inl z,(ro.ext e3).ext e4,S4.ext e4,hlt,hgo,by omega⟩
     .rw[ht];intro F4 H4 e4;have S5:=S4.ext e4;have e24:=e2.trans ((e3.trans0 e4).mono λ_ z=>z)
      refine K1 ⟨F4,τ1,_,S5,?_⟩
      rcases hgo with ⟨ve,he,hgo⟩|⟨c,he,hX⟩
      .rw[he];intro F5 H5 y B e5 ry;have ry':Rp K F5 H5 ve y B:=ry;have ro4:=(ro.ext e3).ext e4;have ro5:=ro4.ext e5;refine⟨F5,τ1,l++[ve],_,(e24.trans e5).mono ?_,ro5.snoc ry' (λj a z1 z2=>ro4.apart e5 z2 j z1),S5.ext e5,hlt,hgo,by simp;omega⟩
       intro a z
       rcases Pk z with z|z
       .exact .inl (.inl z)
       .exact .inr z
      .rw[he];exact λF' H' e=>eX hX F' H' (e4.trans0 e)
     .rw[ht];exact eX hX
    .have hi':i=ts.length:=by omega
     subst hi';refine .inl ⟨i2 rfl,λp hp=>?_⟩
     rw[List.drop_length]at hgo;obtain⟨rl,e3⟩:=ro.list e2.fh hp;refine g0 _ _ hgo F' _ _ _ (((e1.trans0 e2).trans e3).mono ?_) rl;rintro a (z|⟨j,z⟩)
     .exact .inr z
     .exact .inl ⟨j,z⟩
structure BlkOk(X:Cx)(scope:Scope)(N':List Str)(n:Nat)(caps:List Nat):Prop where
 kind:scope.kind=.function
 names:∀y∈scope.names,y.2=.local->scope.names.lookup y.1=some .local
 len:N'.length=n+caps.length
 cap:∀(k j:Nat),caps[k]?=some j->∃y,X.N[j]?=some y/\N'[n+k]?=some y/\scope.names.lookup y=some .free/\(y,NameKind.cell)∉scope.names
 free:∀y∈scope.names,y.2=.free->scope.names.lookup y.1=some .free/\(X.env.scope.names.lookup y.1=some .cell\/X.env.scope.names.lookup y.1=some .free)
theorem Mz{env:Env}(y:Str):∀(names:List (Str×NameKind)),(names.map λ(n,k)=>if (k == NameKind.free && env.scope.kind == .function && env.kindOf n == some .cell) then (n,NameKind.cell) else (n,k)).lookup y =
  (names.lookup y).map λk=>if (k == NameKind.free && env.scope.kind == .function && env.kindOf y == some .cell) then .cell else k
 |[]=>rfl
 |(n,k)::r=>by
  rw[yau];cases hy:y == n with
  |true =>
   have e:y=n:=eq_of_beq hy;subst e
   by_cases hc:(k == NameKind.free && env.scope.kind == .function && env.kindOf y == some .cell)=true
   .simp only[hc,yeo,yaz,yf0,ybj]
   .simp only[hc,yaz,yf0,ybj];simp
  |false =>
   by_cases hc:(k == .free && env.scope.kind == .function && env.kindOf n == some .cell)=true
   .simp only[hc,yeo,yaz,hy];exact Mz y r
   .simp only[hc,yaz,hy];simp only[ybz,yep,yaz,hy];exact Mz y r
theorem Jn(scope:Scope)(env:Env)(y:Str):(relabel scope env).names.lookup y=(scope.names.lookup y).map λk=>if (k == NameKind.free && env.scope.kind == .function && env.kindOf y == some .cell) then .cell else k:=Mz y scope.names
theorem NA{y:Str}{k:NameKind}:∀{names:List (Str×NameKind)},names.lookup y=some k->(y,k)∈names:=λh=>ybq h
theorem Ui{scope:Scope}{N':List Str}(B:BlkOk X scope N' n caps){pins:List (Addr×Obj)}{s:Shared}(I:Inv X pins σ H s) :
  ∃cl,closureFor scope X.env=pure cl/\(∀y c,cl.lookup y=some c->X.env.cells.lookup y=some c)/\(∀y,(relabel scope X.env).names.lookup y=some .cell\/(relabel scope X.env).names.lookup y=some .free->(y,NameKind.cell)∈scope.names\/∃c,cl.lookup y=some c) /\
   (∀(σ:L2.St) (i:Nat) (y:Str) (v:V),N'[i]?=some y->(Ds n caps σ)[i]?=some (some v)->(y,NameKind.cell)∉scope.names) /\
   (∀σ:L2.St,σ.length=X.N.length->(Ds n caps σ).length=N'.length) /\
   (∀(σ:L2.St) (i:Nat) (y:Str) (v:V),N'[i]?=some y->(Ds n caps σ)[i]?=some (some v)->((relabel scope X.env).names.lookup y=some .cell\/(relabel scope X.env).names.lookup y=some .free)/\∃j:Nat,X.N[j]?=some y/\σ[j]?=some (some v)/\DM X.env.scope y/\X.env.kindOf y≠some .local):=by
 obtain⟨cl,h1,h2,h3⟩:=zbo scope X.env λy hy hf=>I.ok.has y.1 (B.free y hy hf).2
 have Cu:∀(σ:L2.St) (i:Nat) (y:Str) (v:V),N'[i]?=some y->(Ds n caps σ)[i]?=some (some v)->∃j:Nat,X.N[j]?=some y/\σ[j]?=some (some v)/\scope.names.lookup y=some .free/\(y,NameKind.cell)∉scope.names:=by
  intro σ i y v e1 e2;unfold Ds at e2
  by_cases hi:i<n
  .rw[yas (by simpa using hi),yd0,if_pos hi]at e2
   cases e2
  .rw[yax (by simp;omega),ya7]at e2
   simp only[ydh]at e2;cases hc:caps[i - n]? with
   |none=>rw[hc]at e2;cases e2
   |some j =>
    rw[hc]at e2;simp only[ybj]at e2;have e':Ku σ j=some v:=yb0 e2;obtain⟨y',g1,g2,g3,g4⟩:=B.cap (i - n) j hc;have en:n+(i - n)=i:=by omega
    rw[en,e1]at g2;cases g2
    have sv:σ[j]?=some (some v):=by
     unfold Ku at e';split at e'
     .rename_i v' hv;cases e';exact hv
     .cases e'
    exact⟨j,g1,sv,g3,g4⟩
 refine⟨cl,h1,h2,λy hy=>?_,λσ i y v e1 e2=>?_,λσ hσ=>by simp[Ds,B.len],λσ i y v e1 e2=>?_⟩
 .cases hk:scope.names.lookup y with
  |none =>
   rw[Jn,hk]at hy
   rcases hy with hy|hy<;>cases hy
  |some k =>
   by_cases hf:k=.free
   .subst hf;exact .inr (h3 _ (NA hk) rfl)
   .rw[Jn,hk]at hy;simp only[ybj]at hy;have hf':(k == NameKind.free)=false:=beq_eq_false_iff_ne.mpr hf;simp only[hf',yav,ybz,yep]at hy
    rcases hy with hy|hy
    .cases hy;exact .inl (NA hk)
    .cases hy;exact absurd rfl hf
 .exact(Cu σ i y v e1 e2).choose_spec.2.2.2
 .obtain⟨j,g1,sv,g3,g4⟩:=Cu σ i y v e1 e2;have fr:=B.free _ (NA g3) rfl;refine⟨?_,j,g1,sv,?_,?_⟩
  .rw[Jn,g3];simp only[ybj]
   by_cases hc2:(NameKind.free == NameKind.free && X.env.scope.kind == .function && X.env.kindOf y == some .cell)=true
   .exact .inl (by rw[if_pos hc2])
   .exact .inr (by rw[if_neg hc2])
  .rcases fr.2 with z|z
   .exact .inr (.inl z)
   .exact .inr (.inr z)
  .intro z;have z':X.env.scope.names.lookup y=some .local:=z
   rcases fr.2 with w|w
   .rw[z']at w;cases w
   .rw[z']at w;cases w
theorem QN{elt iter tg:Expr}{ifs:List Expr}{scope:Scope}{pos:Pos}{N':List Str}(B:BlkOk X scope N' n caps){cq:Cx->Prop}(hc:∀pins σ H s cl C ex xb,Inv X pins σ H s->cq (Af X scope cl N' C s H ex xb))(hi:PJ cq X tg iter (tI X.K E ca mi))
  (hps:BI X E) (hst:Ft X) (hg:∀cl C s₀ H₀ ex xb E',BI (Af X scope cl N' C s₀ H₀ ex xb) E'->PG (Af X scope cl N' C s₀ H₀ ex xb) tg (DQ X.K b)) (ht:∀cl C s₀ H₀ ex xb E',BI (Af X scope cl N' C s₀ H₀ ex xb) E'->Fp (Af X scope cl N' C s₀ H₀ ex xb) ifs (Aq X.K E' ca mt)) (he:∀cl C s₀ H₀ ex xb E',BI (Af X scope cl N' C s₀ H₀ ex xb) E'->PE (Af X scope cl N' C s₀ H₀ ex xb) elt (tM X.K E' ca me))
  (hs:∀x,foldedSetIterable iter X.env x=pure x):PE X (.ListComp elt [⟨tg,iter,ifs,0⟩] scope pos) (tM X.K E ca (Bx n caps mi b mt me)):=by
 intro pins s σ H Q I h;obtain⟨cl,h1,h2,h3,h4,h5,h6⟩:=Ui B I;exact zkz (Ds n caps) h1 B.kind B.names h2 h3 h4 h5 h6 hc hi hps hst (λcl C s₀ H₀ ex xb=>hg cl C s₀ H₀ ex xb _) (λcl C s₀ H₀ ex xb=>ht cl C s₀ H₀ ex xb _) (λcl C s₀ H₀ ex xb=>he cl C s₀ H₀ ex xb _) hs I (PZ h)
theorem r_lcS{elt iter tg:Expr}{ifs:List Expr}{scope:Scope}{pos pos2 pos':Pos}{N':List Str}(B:BlkOk X scope N' n caps)(hc:X.calm=true)(hi:PI X tg iter (tI X.K E ca mi))
  (hps:BI X E) (hst:Ft X) (hg:∀cl C s₀ H₀ ex xb E',BI (Af X scope cl N' C s₀ H₀ ex xb) E'->PG (Af X scope cl N' C s₀ H₀ ex xb) tg (DQ X.K b)) (ht:∀cl C s₀ H₀ ex xb E',BI (Af X scope cl N' C s₀ H₀ ex xb) E'->Fp (Af X scope cl N' C s₀ H₀ ex xb) ifs (Aq X.K E' ca mt)) (he:∀cl C s₀ H₀ ex xb E',BI (Af X scope cl N' C s₀ H₀ ex xb) E'->PE (Af X scope cl N' C s₀ H₀ ex xb) elt (tM X.K E' ca me))
  (hs:∀x,foldedSetIterable iter X.env x=pure x) {i:Nat} {x:Str} (hN:X.N.Nodup) (hix:X.N[i]?=some x) (hx:X.env.scope.names.lookup x=some .local)
  (hsw:swapsWith (.ListComp elt [⟨tg,iter,ifs,0⟩] scope pos) (some (.Name x pos')) pos2.line X.env=pure true):PS X (.Assign [.Name x pos'] (.ListComp elt [⟨tg,iter,ifs,0⟩] scope pos) pos2) (λD σ H=>tM X.K E ca (Bx n caps mi b mt me) σ H λv H1=>D.nx (σ.set i (some v)) H1):=by
 intro pins s σ H D I h;obtain⟨cl,h1,h2,h3,h4,h5,h6⟩:=Ui B I;exact zl0 (Ds n caps) h1 B.kind B.names h2 h3 h4 h5 h6 hc hi hps hst (λcl C s₀ H₀ ex xb=>hg cl C s₀ H₀ ex xb _) (λcl C s₀ H₀ ex xb=>ht cl C s₀ H₀ ex xb _) (λcl C s₀ H₀ ex xb=>he cl C s₀ H₀ ex xb _) hs hN hix hx hsw I (PZ h)
end
def IL:AE->Option Rs:=λ_=>some (.v (.dic [] []) false)
def My(mk mv:AE->Option Rs):AE->Option Rs:=λτ=>match mk τ with
 |some (.v (.int i) _)=>(match mv τ with
  |some (.v t false)=>some (.v (.dic [i] [t.share]) false)
  |some (.v _ true)=>none
  |some (.x c)=>some (.x c)
  |none=>none)
 |some (.v _ _)=>none
 |some (.x c)=>some (.x c)
 |none=>none
def KR(m:AE->Option Rs):AE->Option Rs:=λτ=>match m τ with
 |some (.v (.dic _ l) false)=>some (.v (.own (AV l)) false)
 |some (.x c)=>some (.x c)
 |_=>none
def Hy(ks:List Int)(l:List T):List T:=List.zipWith (λk t=>T.tup [.int k,t]) ks l
def NW(m:AE->Option Rs):AE->Option RsL:=λτ=>match m τ with
 |some (.v (.dic ks l) false)=>some (.v (Hy ks (AV l)) false)
 |some (.x c)=>some (.x c)
 |_=>none
theorem Sj{ks:List Int}{xs:List V}(h:ks.length=xs.length):(CT ks xs).map (·.2)=xs:=by
 induction ks generalizing xs with
 |nil=>cases xs with
  |nil=>rfl
  |cons x r=>simp at h
 |cons k ks ih=>cases xs with
  |nil=>simp at h
  |cons x r =>
   have:=ih (xs:=r) (by simpa using h)
   unfold CT at this ⊢;rw[List.zipWith_cons_cons,yau,this]
theorem NH{ks:List Int}{xs:List V}(h:ks.length=xs.length):(CT ks xs).length=xs.length:=by
 rw[<- ya5 (f:=(·.2)),Sj h]
theorem Kk{K:kA}{F H:Hp}{ks:List Int}{l:List T}{x:V}{B:Rg}(h:Rp K F H (.dic ks l) x B):∃p ob xs,x=.ref p/\F p=some (.frz ob (.dK (CT ks xs)))/\ks.length=xs.length/\Ae K F (AV l) xs:=by
 have h':Rp K F H (T.dic ks l).share x R0:=h.share (AY.refl F) λa u z q=>by
  cases h with
  |dic h e ek c=>exact z.elim
 rw[T.share]at h'
 clear h
 cases h' with
 |dic hp e ek c=>exact⟨_,_,_,rfl,hp,ek,e,λi t x h1 h2=>(c i t x h1 h2).any⟩
theorem Ext.late{F H F3 H3:Hp}{p:Addr}{o:HO}(e:Ext F H F3 H3 R0)(hp:H p=none)(fp:F3 p=none):Ext F H (upd F3 p o) (upd H3 p o) R0 where
 hh:=λb u q=>by rw[Ad (Be q hp)];exact e.hh b u q
 ff:=λb u q=>by
  have:b≠p:=λz=>by
   subst z;rw[e.ff b u q]at fp;cases fp
  rw[Ad this];exact e.ff b u q
 fh:=λb u q=>by
  by_cases hb:b=p
  .subst hb;rw[Bb]at q ⊢;exact q
  .rw[Ad hb]at q ⊢;exact e.fh b u q
 nb:=λ_ z=>z.elim
 nf:=λb u q=>by
  by_cases hb:b=p
  .subst hb;exact .inr hp
  .rw[Ad hb]at q;exact e.nf b u q
section
variable {X:Cx}{E:L2.St->XK}{ca:Str->Value}{m mk mv:AE->Option Rs}{o k v:Expr}{pos p p2 ap cp:Pos}{K:kA}{elts:List Expr}{kk:Nat}{tpos:Pos}
theorem zjl:PE X (.Dict [] [] pos) (tM X.K E ca IL):=PE.weak zh6 λσ H Q h p ob hp=>by
 obtain⟨F,τ,R,S,q⟩:=h;refine q (upd F p (.frz ob (.dK []))) (upd H p (.frz ob (.dK []))) (.ref p) R0 (Ext.new S.fh hp) ?_;exact Rp.dic (ks:=[]) (xs:=[]) (l:=[]) Bb rfl rfl λi t x h=>by simp at h
theorem zjk(hk:PE X k (tM X.K E ca mk))(hv:PE X v (tM X.K E ca mv)):PE X (.Dict [some k] [v] pos) (tM X.K E ca (My mk mv)):=PE.weak (zh5 hk hv) λσ H Q h p hp=>by
 obtain⟨F,τ,R,S,q⟩:=h;have e0:=Ext.newO (o:=.dK []) S.fh hp;have S0:=S.ext e0;refine⟨F,τ,R,S0,?_⟩;unfold My at q;cases h1:mk τ with
 |none=>simp only[h1]at q
 |some r =>
  simp only[h1]at q;cases r with
  |x c=>exact λF' H' e=>q F' H' ((e0.trans e).mono λ_ z=>z.elim)
  |v tk bk =>
   intro F1 H1 x B e1 g1;have S1:=S0.ext e1;refine⟨F1,τ,R,S1,?_⟩;cases tk with
   |int i =>
    simp only at q
    have hx:x=.int i:=by
     cases bk with
     |true=>obtain⟨_,A,_,r⟩:=g1;exact r.int_inv
     |false=>exact(show Rp X.K F1 H1 _ _ _ from g1).int_inv
    cases h2:mv τ with
    |none=>simp only[h2]at q
    |some r =>
     simp only[h2]at q;cases r with
     |x c=>exact λF' H' e=>q F' H' (((e0.trans e1).trans e).mono λ_ z=>z.elim)
     |v t b =>
      cases b with
      |true=>exact q.elim
      |false =>
       simp only at q;intro F2 H2 y C e2 g2;refine⟨e2.hh _ _ (e1.hh _ _ Bb),i,hx,λob=>?_⟩
       obtain⟨F3,e3,s3,r3⟩:=Cz.frz (b:=false) S1 e2 g2;have e13:=e1.trans e3
       have fp:F3 p=none:=by
        cases z:F3 p with
        |none=>rfl
        |some u =>
         rcases e13.nf p u z with w|w
         .rw[Es S.fh hp]at w;cases w
         .rw[Bb]at w;cases w
       have e03:Ext F H F3 H2 R0:=(e0.trans e13).mono λ_ z=>z.elim
       have e4:=Ext.late (o:=.frz ob (.dK [(Sum.inl i,y)])) e03 hp fp;refine q _ _ (.ref p) R0 e4 ?_;refine Rp.dic (ks:=[i]) (xs:=[y]) (l:=[t.share]) Bb rfl rfl λj t' x' h3 h4=>?_
       cases j with
       |zero =>
        simp at h3 h4;subst h3 h4
        exact(show Rp X.K F3 F3 t.share y R0 from r3).frame (λb u w=>by
         have:b≠p:=λz=>by
          subst z;rw[w]at fp;cases fp
         rw[Ad this];exact w) λ_ z=>z.elim
       |succ j=>simp at h3
   |_=>exact q.elim
theorem zjf(hc:X.calm=true)(hg:Gl X "list")(hm:X.mg "list"=none)(ho:PE X o (tM X.K E ca m))(hbase:attributeBase o "values" X.env (eval o X.env)=eval o X.env)(hline:(ap.endLine == cp.line)=true) :
  PE X (.Call (.Name "list" p) [.Call (.Attribute o "values" ap) [] [] cp] [] p2) (tM X.K E ca (KR m)):=PE.weak (zh3 hc hg hm ho hbase hline) λσ H Q h=>by
 obtain⟨F,τ,R,S,q⟩:=h;refine⟨F,τ,R,S,?_⟩;unfold KR at q;cases h1:m τ with
 |none=>simp only[h1]at q
 |some r =>
  simp only[h1]at q;cases r with
  |x c=>exact q
  |v t b =>
   intro F1 H1 x B e1 g1;cases t with
   |dic ks l =>
    cases b with
    |true=>exact q.elim
    |false =>
     simp only at q;obtain⟨p,ob,xs,rfl,hp,ek,rs⟩:=Kk (show Rp X.K F1 H1 (.dic ks l) x B from g1);refine⟨p,ob,CT ks xs,rfl,e1.fh _ _ hp,λa ha=>?_⟩
     rw[Sj ek];have gg:CF X.K F1 H1 (.own (AV l)) Q:=λF' H' z C e g=>q F' H' z C (((e1.mono λ_ z=>z.elim:Ext F H F1 H1 R0).trans0 e)) g
     exact gg.list e1.fh rs ha
   |_=>exact q.elim
theorem zdc{F:Hp}{p:Addr}{ob:Obj}{ks:List Int}{xs:List V}{l:List T}(hp:F p=some (.frz ob (.dK (CT ks xs))))(ek:ks.length=xs.length)(r:Ae K F l xs):Fs K (Ot p (CT ks xs).length (E5 ob)) F (Hy ks l):=by
 intro i F' H' s1 s2;have hH:=s2 _ _ (s1 _ _ hp);have hl:=r.1;refine⟨λt ht=>?_,λe=>⟨ob,_,hH,rfl,rfl,?_⟩⟩
 .unfold Hy at ht;rw[List.getElem?_zipWith]at ht;cases h1:ks[i]? with
  |none=>rw[h1]at ht;cases ht
  |some k =>
   cases h2:l[i]? with
   |none=>rw[h1,h2]at ht;cases ht
   |some t0 =>
    rw[h1,h2]at ht;cases ht;have hi:i<xs.length:=by have:=(ya8.mp h2).1;omega
    have h3:(CT ks xs)[i]?=some (Sum.inl k,xs[i]):=by
     unfold CT;rw[List.getElem?_zipWith,h1,ya0 hi]
    refine⟨⟨ob,_,Sum.inl k,xs[i],hH,rfl,rfl,h3⟩,λx H'' y=>?_⟩
    obtain⟨q,k',y0,rfl,hq,rfl,y⟩:=y;have h4:=y _ _ hH;rw[h3]at h4;cases h4;have e:=Ext.new (o:=.tup [kV (Sum.inl k),xs[i]]) s2 hq;refine⟨_,e,Ae.of_node (k:=.tup) (xs:=[.int k,xs[i]]) Bb ?_⟩;exact .cons (H:=H') (.int k) (.cons (H:=H') (((r.same (s1.trans e.ff)).2 i t0 _ h2 (ya0 hi)).any) .nil)
 .rw[e,NH ek];unfold Hy;rw[List.length_zipWith]
  omega
theorem zgn(ho:PE X o (tM X.K E ca m))(hbase:attributeBase o "items" X.env (eval o X.env)=eval o X.env)(hline:(ap.endLine == cp.line)=true) :
  PI X (.Tuple elts kk tpos) (.Call (.Attribute o "items" ap) [] [] cp) (tI X.K E ca (NW m)):=PI.weak (zer ho hbase hline) λσ H P h=>by
 obtain⟨F,τ,R,S,q⟩:=h;refine⟨F,τ,R,S,?_⟩;unfold NW at q;cases h1:m τ with
 |none=>simp only[h1]at q
 |some r =>
  simp only[h1]at q;cases r with
  |x c=>exact q
  |v t b =>
   intro F1 H1 x B e1 g1;cases t with
   |dic ks l =>
    cases b with
    |true=>exact q.elim
    |false =>
     simp only at q;obtain⟨p,ob,xs,rfl,hp,ek,rs⟩:=Kk (show Rp X.K F1 H1 (.dic ks l) x B from g1);exact⟨p,ob,CT ks xs,rfl,e1.fh _ _ hp,q F1 H1 _ (e1.mono λ_ z=>z.elim) (zdc hp ek rs)⟩
   |_=>exact q.elim
end
inductive Out where
 |nx (τ:AE)|rt (t:T)|bk (τ:AE)|ct (τ:AE)|xc (c:Str) (τ:AE)
structure Stp(F H:Hp)(O:Rg)(F' H':Hp)(O':Rg):Prop where
 ff:AY F F'
 fh:AY F' H'
 kp:∀b u,¬ O b->H b=some u->H' b=some u
 nw:∀b,O' b->O b\/H b=none
 nf:∀b u,F' b=some u->F b=some u\/O b\/H b=none
section
variable {F H F1 H1 F2 H2:Hp}{O O1 O2 B:Rg}{R:Nat->Rg}
theorem Stp.refl(s:AY F H):Stp F H O F H O:=⟨.refl _,s,λ_ _ _ e=>e,λ_ z=>.inl z,λ_ _ e=>.inl e⟩
theorem Stp.trans(a:Stp F H O F1 H1 O1)(b:Stp F1 H1 O1 F2 H2 O2):Stp F H O F2 H2 O2 where
 ff:=a.ff.trans b.ff
 fh:=b.fh
 kp:=λx u n e=>b.kp x u (λz=>(a.nw x z).elim n λw=>by rw[e]at w;cases w) (a.kp x u n e)
 nw:=λx z=>(b.nw x z).elim (a.nw x) λw=>by
  by_cases hO:O x
  .exact .inl hO
  .cases e:H x with
   |none=>exact .inr rfl
   |some u=>rw[a.kp x u hO e]at w;cases w
 nf:=λx u e=>(b.nf x u e).elim (a.nf x u) λz=>.inr (z.elim (a.nw x) λw=>by
  by_cases hO:O x
  .exact .inl hO
  .cases e':H x with
   |none=>exact .inr rfl
   |some u'=>rw[a.kp x u' hO e']at w;cases w)
theorem Stp.mono(a:Stp F H O F1 H1 O1)(h:∀x,O2 x->O1 x):Stp F H O F1 H1 O2:=⟨a.ff,a.fh,a.kp,λx z=>a.nw x (h x z),a.nf⟩
theorem Ext.stp(e:Ext F H F1 H1 B):Stp F H O F1 H1 (λx=>O x\/B x):=⟨e.ff,e.fh,λb u _ q=>e.hh b u q,λb z=>z.elim .inl λz=>.inr (e.nb b z),λb u q=>(e.nf b u q).elim .inl λz=>.inr (.inr z)⟩
theorem Ext.stp0(e:Ext F H F1 H1 B):Stp F H O F1 H1 O:=e.stp.mono λ_ z=>.inl z
end
section
def Wr(K:kA)(mu:Bool)(F H:Hp)(t:T)(x:V)(B:Rg):Prop:=match mu with
 |false=>Rp K F H t x B
 |true=>∃v q l,t=.own [v,.nd true (.pin q) l]/\v.flat=true/\Rp K F H v x R0/\Rp K F H (.nd true (.pin q) l) (.ref q) B
def tS(K:kA)(E:L2.St->XK)(ca:Str->Value)(mu:Bool)(m:AE->Option Out):TS:=λD σ H=>∃F τ R,StR K F H σ τ R/\match m τ with
 |some (.nx τ')=>∀F' H' σ' R',Stp F H (tot R) F' H' (tot R')->StR K F' H' σ' τ' R'->D.nx σ' H'
 |some (.bk τ')=>∀F' H' σ' R',Stp F H (tot R) F' H' (tot R')->StR K F' H' σ' τ' R'->D.bk σ' H'
 |some (.ct τ')=>∀F' H' σ' R',Stp F H (tot R) F' H' (tot R')->StR K F' H' σ' τ' R'->D.ct σ' H'
 |some (.rt t)=>∀F' H' x B,Stp F H (tot R) F' H' B->Wr K mu F' H' t x B->D.rt x H'
 |some (.xc c τ')=>∀F' H' σ' R',Stp F H (tot R) F' H' (tot R')->StR K F' H' σ' τ' R'->E σ' (ca c) none H'
 |none=>False
end
def AL(m n:AE->Option Out):AE->Option Out:=λτ=>match m τ with
 |some (.nx τ')=>n τ'
 |r=>r
def Ak:AE->Option Out:=λτ=>some (.nx τ)
def Jl:AE->Option Out:=λ_=>none
def MY:AE->Option Out:=λτ=>some (.bk τ)
def MX:AE->Option Out:=λτ=>some (.ct τ)
def FZ(m:AE->Option Rs):AE->Option Out:=λτ=>match m τ with
 |some (.v _ _)=>some (.nx τ)
 |some (.x c)=>some (.xc c τ)
 |none=>none
def Ab(m:AE->Option Rs):AE->Option Out:=λτ=>match m τ with
 |some (.v t _)=>some (.rt t)
 |some (.x c)=>some (.xc c τ)
 |none=>none
def MW:AE->Option Out:=λ_=>some (.rt .non)
noncomputable def AX(m:AE->Option Rs)(b:T->AE->Option AE):AE->Option Out:=λτ=>match m τ with
 |some (.v t false)=>(match b t.share τ with
  |some τ'=>some (.nx τ')
  |none=>none)
 |some (.v _ true)=>none
 |some (.x c)=>some (.xc c τ)
 |none=>none
noncomputable def ET(i:Nat)(m:AE->Option Rs):AE->Option Out:=λτ=>match m τ with
 |some (.v t false)=>if i<τ.length then some (.nx (τ.set i (some t))) else none
 |some (.v _ true)=>none
 |some (.x c)=>some (.xc c τ)
 |none=>none
noncomputable def FY(i:Nat):AE->Option Out:=λτ=>match τ[i]? with
 |some (some t)=>some (.nx (τ.set i (some t.share)))
 |_=>some (.nx τ)
def Aj(c:AE->Option Rs)(a b:AE->Option Out):AE->Option Out:=λτ=>match c τ with
 |some (.v (.bl true) _)=>a τ
 |some (.v (.bl false) _)=>b τ
 |some (.x c)=>some (.xc c τ)
 |_=>none
noncomputable def Dc(b:T->AE->Option AE)(body:AE->Option Out):List T->AE->Option Out
 |[],τ=>some (.nx τ)
 |t::ts,τ=>(match b t τ with
  |some τ1=>(match body τ1 with
   |some (.nx τ2)=>Dc b body ts τ2
   |some (.ct τ2)=>Dc b body ts τ2
   |some (.bk τ2)=>some (.nx τ2)
   |r=>r)
  |none=>none)
def DR(mi:AE->Option RsL)(b:T->AE->Option AE)(body:AE->Option Out):AE->Option Out:=λτ=>match mi τ with
 |some (.v ts _)=>Dc b body ts τ
 |some (.x c)=>some (.xc c τ)
 |none=>none
section
variable {mu:Bool}{X:Cx}{E:L2.St->XK}{ca:Str->Value}{σ:L2.St}{H:Hp}{K:kA}{m mk mc:AE->Option Rs}{ms mi:AE->Option RsL}{b:T->AE->Option AE}{u w:AE->Option Out}{D:Ends}{e c tg iter:Expr}{st:Stmt}{BK body sa sb:List Stmt}{pos pos':Pos}
theorem PS.weak{t t':TS}(h:PS X st t)(w:∀D σ H,t' D σ H->t D σ H):PS X st t':=λpins s σ H D I q=>h pins s σ H D I (w D σ H q)
theorem BD.weak{t t':TS}(h:BD X BK t)(w:∀D σ H,t' D σ H->t D σ H):BD X BK t':=λpins s σ H D I q=>h pins s σ H D I (w D σ H q)
theorem ziy(h:tS K E ca mu (AL u w) D σ H):PR (tS K E ca mu u) (tS K E ca mu w) D σ H:=by
 obtain⟨F,τ,R,S,q⟩:=h;refine⟨F,τ,R,S,?_⟩;unfold AL at q;cases hm:u τ with
 |none=>simp only[hm]at q
 |some o =>
  simp only[hm]at q;cases o with
  |nx τ' =>
   intro F1 H1 σ1 R1 s1 S1;refine⟨F1,τ',R1,S1,?_⟩;simp only at q;cases hw:w τ' with
   |none=>simp only[hw]at q
   |some o =>
    simp only[hw]at q;cases o with
    |nx _=>exact λF' H' σ' R' s S=>q F' H' σ' R' (s1.trans s) S
    |bk _=>exact λF' H' σ' R' s S=>q F' H' σ' R' (s1.trans s) S
    |ct _=>exact λF' H' σ' R' s S=>q F' H' σ' R' (s1.trans s) S
    |rt _=>exact λF' H' x B s r=>q F' H' x B (s1.trans s) r
    |xc _ _=>exact λF' H' σ' R' s S=>q F' H' σ' R' (s1.trans s) S
  |rt _=>exact q
  |bk _=>exact q
  |ct _=>exact q
  |xc _ _=>exact q
theorem Ls:BD X [] (tS X.K E ca mu Ak):=BD.weak zgu λD σ H h=>by
 obtain⟨F,τ,R,S,q⟩:=h;exact q F H σ R (Stp.refl S.fh) S
theorem Hr(h1:PS X st (tS X.K E ca mu u))(h2:BD X BK (tS X.K E ca mu w)):BD X (st::BK) (tS X.K E ca mu (AL u w)):=BD.weak (zen h1 h2) λD σ H h=>ziy h
theorem Ho(h1:PS X st (tS X.K E ca mu u)):BD X [st] (tS X.K E ca mu u):=Q4 h1
theorem Po:PS X st (tS X.K E ca mu Jl):=λpins s σ H D I h=>by
 obtain⟨_,_,_,_,q⟩:=h;exact q.elim
theorem zja:PS X (.Pass pos) (tS X.K E ca mu Ak):=PS.weak zgw λD σ H h=>by
 obtain⟨F,τ,R,S,q⟩:=h;exact q F H σ R (Stp.refl S.fh) S
theorem zgj:PS X (.Break pos) (tS X.K E ca mu MY):=PS.weak zep λD σ H h=>by
 obtain⟨F,τ,R,S,q⟩:=h;exact q F H σ R (Stp.refl S.fh) S
theorem zc5:PS X (.Continue pos) (tS X.K E ca mu MX):=PS.weak zbi λD σ H h=>by
 obtain⟨F,τ,R,S,q⟩:=h;exact q F H σ R (Stp.refl S.fh) S
theorem ziz{i:Nat}(h:tS K E ca mu (AL (FY i) w) D σ H):tS K E ca mu w D σ H:=by
 obtain⟨F,τ,R,S,q⟩:=h;unfold AL FY at q;cases ht:τ[i]? with
 |none =>
  rw[ht]at q;exact⟨F,τ,R,S,q⟩
 |some ot =>
  rw[ht]at q;cases ot with
  |none=>exact⟨F,τ,R,S,q⟩
  |some t =>
   simp only at q;obtain⟨x,ex,r⟩:=S.rep i t ht;have hi:i<τ.length:=(ya8.mp ht).1;have n:∀a,R i a->F a=none:=λa z=>(r.dom z).1
   have S0:StR K (frz F H (R i)) H σ (τ.set i (some t.share)) (λj=>if j=i then R0 else R j):=by
    refine⟨HJ S.fh,by simpa using S.len,λj t' e=>?_,λj a z=>?_,λj k a hjk z1 z2=>?_⟩
    .by_cases hj:j=i
     .subst hj;rw[yao hi]at e;cases e;exact⟨x,ex,by simpa using r.share (EF n) λa u z q=>by rw[Fg z];exact q⟩
     .rw[yan (yb1 hj)]at e;obtain⟨y,e1,r1⟩:=S.rep j t' e;refine⟨y,e1,?_⟩;simp only[hj,yep]
      exact r1.frame (EF n) λa z=>⟨rfl,by
       rw[FD (λz'=>S.dis j i a hj z z')]
       exact(r1.dom z).1⟩
    .by_cases hj:j=i
     .simp only[hj,yeo]at z;exact z.elim
     .simp only[hj,yep]at z;obtain⟨t',e⟩:=S.out j a z;exact⟨t',by rw[yan (yb1 hj)];exact e⟩
    .by_cases hj:j=i
     .simp only[hj,yeo]at z1;exact z1.elim
     .by_cases hk:k=i
      .simp only[hk,yeo]at z2;exact z2.elim
      .simp only[hj,yep]at z1;simp only[hk,yep]at z2;exact S.dis j k a hjk z1 z2
   have st0:Stp F H (tot R) (frz F H (R i)) H (tot λj=>if j=i then R0 else R j):=by
    refine⟨EF n,HJ S.fh,λ_ _ _ e=>e,λb ⟨j,z⟩=>?_,λb u e=>?_⟩
    .by_cases hj:j=i
     .simp only[hj,yeo]at z;exact z.elim
     .simp only[hj,yep]at z;exact .inl ⟨j,z⟩
    .by_cases hb:R i b
     .exact .inr (.inl ⟨i,hb⟩)
     .rw[FD hb]at e;exact .inl e
   refine⟨_,_,_,S0,?_⟩;cases hw:w (τ.set i (some t.share)) with
   |none=>simp only[hw]at q
   |some o =>
    simp only[hw]at q;cases o with
    |nx _=>exact λF' H' σ' R' s S=>q F' H' σ' R' (st0.trans s) S
    |bk _=>exact λF' H' σ' R' s S=>q F' H' σ' R' (st0.trans s) S
    |ct _=>exact λF' H' σ' R' s S=>q F' H' σ' R' (st0.trans s) S
    |rt _=>exact λF' H' x B s r=>q F' H' x B (st0.trans s) r
    |xc _ _=>exact λF' H' σ' R' s S=>q F' H' σ' R' (st0.trans s) S
theorem s_frz{i:Nat}(h:BD X BK (tS X.K E ca mu w)):BD X BK (tS X.K E ca mu (AL (FY i) w)):=BD.weak h λD σ H h=>ziz h
theorem s_exp(he:PE X e (tM X.K E ca m))(hs:swapsWith e none pos.line X.env=pure false):PS X (.Expr e pos) (tS X.K E ca mu (FZ m)):=by
 refine PS.weak (Q5 he hs) λD σ H h=>?_
 obtain⟨F,τ,R,S,q⟩:=h;refine⟨F,τ,R,S,?_⟩;unfold FZ at q;cases hm:m τ with
 |none=>simp only[hm]at q
 |some r =>
  simp only[hm]at q;cases r with
  |x c=>exact λF' H' e=>q F' H' σ R e.stp0 (S.ext e)
  |v t bb=>exact λF' H' x B e g=>q F' H' σ R e.stp0 (S.ext e)
theorem Ji(he:PE X e (tM X.K E ca m)):PS X (.Return (some e) pos) (tS X.K E ca false (Ab m)):=by
 refine PS.weak (zjs he) λD σ H h=>?_
 obtain⟨F,τ,R,S,q⟩:=h;refine⟨F,τ,R,S,?_⟩;unfold Ab at q;cases hm:m τ with
 |none=>simp only[hm]at q
 |some r =>
  simp only[hm]at q;cases r with
  |x c=>exact λF' H' e=>q F' H' σ R e.stp0 (S.ext e)
  |v t bb =>
   intro F' H' x B e g;cases bb with
   |false=>exact q F' H' x B (e.stp.mono λ_ z=>.inr z) g
   |true =>
    obtain⟨_,A,hA,r⟩:=g;exact q F' H' x A (e.stp.mono λa z=>.inl (hA a z)) r
theorem zj9:PS X (.Return none pos) (tS X.K E ca false MW):=PS.weak zgv λD σ H h=>by
 obtain⟨F,τ,R,S,q⟩:=h;exact q F H .non R0 ((Stp.refl S.fh).mono λ_ z=>z.elim) .non
theorem Pp(hc:PT X c (Aq X.K E ca mc))(ha:BD X sa (tS X.K E ca mu u))(hb:BD X sb (tS X.K E ca mu w)):PS X (.If c sa sb pos) (tS X.K E ca mu (Aj mc u w)):=by
 refine PS.weak (ps_if hc ha hb) λD σ H h=>?_
 obtain⟨F,τ,R,S,q⟩:=h;refine⟨F,τ,R,S,?_⟩;unfold Aj at q;cases hm:mc τ with
 |none=>simp only[hm]at q
 |some r =>
  simp only[hm]at q;cases r with
  |x c=>exact λF' H' e=>q F' H' σ R e.stp0 (S.ext e)
  |v t bb =>
   cases t with
   |bl k =>
    intro F1 H1 e1;have S1:=S.ext e1
    have key:∀{mm:AE->Option Out},(match mm τ with
      |some (.nx τ')=>∀F' H' σ' R',Stp F H (tot R) F' H' (tot R')->StR X.K F' H' σ' τ' R'->D.nx σ' H'
      |some (.bk τ')=>∀F' H' σ' R',Stp F H (tot R) F' H' (tot R')->StR X.K F' H' σ' τ' R'->D.bk σ' H'
      |some (.ct τ')=>∀F' H' σ' R',Stp F H (tot R) F' H' (tot R')->StR X.K F' H' σ' τ' R'->D.ct σ' H'
      |some (.rt t)=>∀F' H' x B,Stp F H (tot R) F' H' B->Wr X.K mu F' H' t x B->D.rt x H'
      |some (.xc c τ')=>∀F' H' σ' R',Stp F H (tot R) F' H' (tot R')->StR X.K F' H' σ' τ' R'->E σ' (ca c) none H'
      |none=>False)->tS X.K E ca mu mm D σ H1:=λ{mm} q=>by
     refine⟨F1,τ,R,S1,?_⟩;cases hr:mm τ with
     |none=>simp only[hr]at q
     |some o =>
      simp only[hr]at q;cases o with
      |nx _=>exact λF' H' σ' R' s S=>q F' H' σ' R' (e1.stp0.trans s) S
      |bk _=>exact λF' H' σ' R' s S=>q F' H' σ' R' (e1.stp0.trans s) S
      |ct _=>exact λF' H' σ' R' s S=>q F' H' σ' R' (e1.stp0.trans s) S
      |rt _=>exact λF' H' x B s r=>q F' H' x B (e1.stp0.trans s) r
      |xc _ _=>exact λF' H' σ' R' s S=>q F' H' σ' R' (e1.stp0.trans s) S
    cases k with
    |true=>exact K1 (key q)
    |false=>exact K2 (key q)
   |_=>exact q.elim
theorem J1{g:TG}(hg:∀v σ H Q,DQ K b v σ H Q->g v σ H Q)(h:tS K E ca mu (AX m b) D σ H):J4 (tM K E ca m) g D σ H:=by
 obtain⟨F,τ,R,S,q⟩:=h;refine⟨F,τ,R,S,?_⟩;unfold AX at q;cases hm:m τ with
 |none=>simp only[hm]at q
 |some r =>
  simp only[hm]at q;cases r with
  |x c=>exact λF' H' e=>q F' H' σ R e.stp0 (S.ext e)
  |v t bb =>
   cases bb with
   |true=>exact q.elim
   |false =>
    intro F1 H1 x B e1 g1;obtain⟨F2,e2,_,r2⟩:=Cz.frz (b:=false) S e1 g1;simp only at q;cases hb:b t.share τ with
    |none=>simp only[hb]at q
    |some τ' =>
     simp only[hb]at q;refine hg _ _ _ _ ⟨F2,τ,R,t.share,τ',S.ext e2,(show Rp K F2 F2 t.share x R0 from r2).any,hb,λσ' R' S' hR=>?_⟩
     exact q F2 H1 σ' R' (e2.stp0.mono λa ⟨i,z⟩=>⟨i,hR i a z⟩) S'
theorem Kb{i:Nat}{v:V}{Q:L2.St->Hp->Prop}(h:DQ K (AK i) v σ H Q):HI i v σ H Q:=by
 obtain⟨F,τ,R,t,τ',S,r,e,q⟩:=h;unfold AK at e;split at e
 .cases e;rename_i hl;refine q _ _ (S.set r (λ_ _ _ _ z=>z.elim) hl) λj a z=>?_
  by_cases hj:j=i
  .simp only[hj,yeo]at z;exact z.elim
  .simpa[hj] using z
 .cases e
theorem Lq{i:Nat}{x:Str}(hN:X.N.Nodup)(hi:X.N[i]?=some x)(hx:Fq X.env.scope x)(he:PE X e (tM X.K E ca m))(hs:swapsWith e (some (.Name x pos')) pos.line X.env=pure false)(hf:X.fn x=true\/X.env.scope.names.lookup x=some .local) :
  PS X (.Assign [.Name x pos'] e pos) (tS X.K E ca mu (AX m (AK i))):=PS.weak (M8 hN hi hx he hs hf) λD σ H h=>J1 (λ_ _ _ _ z=>Kb z) h
theorem zj8(he:PE X e (tM X.K E ca m))(hg:PG X tg (DQ X.K b))(hs:swapsWithSole [tg] e pos.line X.env=pure false)(hw:swappedStores [tg] e X.env=pure none)(h1:(assignEach [tg] X.env).map (·.2)=[assign tg X.env]) :
  PS X (.Assign [tg] e pos) (tS X.K E ca mu (AX m b)):=PS.weak (Q6 he hg hs hw h1) λD σ H h=>J1 (λ_ _ _ _ z=>z) h
theorem PU{i:Nat}(h:tS K E ca mu (ET i m) D σ H):J4 (tM K E ca m) (HI i) D σ H:=by
 obtain⟨F,τ,R,S,q⟩:=h;refine⟨F,τ,R,S,?_⟩;unfold ET at q;cases hm:m τ with
 |none=>simp only[hm]at q
 |some r =>
  simp only[hm]at q;cases r with
  |x c=>exact λF' H' e=>q F' H' σ R e.stp0 (S.ext e)
  |v t bb =>
   cases bb with
   |true=>exact q.elim
   |false =>
    intro F1 H1 x B e1 g1;have g1':Rp K F1 H1 t x B:=g1;have S1:=S.ext e1
    by_cases hl:i<τ.length
    .simp only[hl,yeo]at q;refine q F1 H1 _ _ (e1.stp.mono ?_) (S1.set g1' (λj a _ z1 z2=>S.apart e1 z2 j z1) hl)
     rintro a ⟨j,z⟩
     by_cases hj:j=i
     .simp only[hj,yeo]at z;exact .inr z
     .simp only[hj,yep]at z;exact .inl ⟨j,z⟩
    .simp only[hl,yep]at q
theorem zjb{i:Nat}{x:Str}(hN:X.N.Nodup)(hi:X.N[i]?=some x)(hx:Fq X.env.scope x)(he:PE X e (tM X.K E ca m))(hs:swapsWith e (some (.Name x pos')) pos.line X.env=pure false)(hf:X.fn x=true\/X.env.scope.names.lookup x=some .local) :
  PS X (.Assign [.Name x pos'] e pos) (tS X.K E ca mu (ET i m)):=PS.weak (M8 hN hi hx he hs hf) λD σ H h=>PU h
theorem s_for(hp:PassesOwn (model X.prog X.w) X.A X.env X.xe)(hc:X.calm=true)(hi:PI X tg iter (tI X.K E ca mi))(hg:PG X tg (DQ X.K b))(hb:BD X body (tS X.K E ca mu u))(hs:∀x,foldedSetIterable iter X.env x=pure x) :
  PS X (.For tg iter body [] pos) (tS X.K E ca mu (DR mi b u)):=by
 refine PS.weak (zjt hp hc hi hg hb hs) λD σ H h=>?_
 obtain⟨F,τ,R,S,q⟩:=h;refine⟨F,τ,R,S,?_⟩;unfold DR at q;cases hm:mi τ with
 |none=>simp only[hm]at q
 |some r =>
  simp only[hm]at q;cases r with
  |x c=>exact λF' H' e=>q F' H' σ R e.stp0 (S.ext e)
  |v ts bb =>
   intro F1 H1 J e1 its;simp only at q;have S1:=S.ext e1;cases hg:Dc b u ts τ with
   |none=>simp only[hg]at q
   |some out =>
    simp only[hg]at q;refine⟨λi mm σ' H'=>mm=ts.length - i/\i<=ts.length/\∃F' τ' R',Stp F H (tot R) F' H' (tot R')/\AY F1 F'/\StR X.K F' H' σ' τ' R'/\Dc b u (ts.drop i) τ'=some out,⟨ts.length,by simp,ybe _,F1,τ,R,e1.stp0,.refl _,S1,by simpa using hg⟩,?_⟩
    rintro i mm σ' H' ⟨rfl,hle,F',τ',R',st,sf,S',hgo⟩;obtain⟨i1,i2⟩:=its i F' H' sf S'.fh
    by_cases hlt:i<ts.length
    .refine .inr ⟨(i1 _ (ya0 hlt)).1,λσ2 H2=>i+1<=ts.length/\∃F2 τ2 R2,Stp F H (tot R) F2 H2 (tot R2)/\AY F1 F2/\StR X.K F2 H2 σ2 τ2 R2/\Dc b u (ts.drop (i+1)) τ2=some out,λσ2 H2 n2=>⟨ts.length - (i+1),by omega,rfl,n2⟩,λx H'' y=>?_⟩
     obtain⟨F'',e3,rx⟩:=(i1 _ (ya0 hlt)).2 x H'' y;have S3:=S'.ext e3;rw[yc4 hlt]at hgo;unfold Dc at hgo;cases hb2:b ts[i] τ' with
     |none=>simp only[hb2]at hgo;cases hgo
     |some τ1 =>
      simp only[hb2]at hgo;refine⟨F'',τ',R',ts[i],τ1,S3,rx,hb2,λσ3 R3 S4 hR3=>?_⟩
      have st3:Stp F H (tot R) F'' H'' (tot R3):=(st.trans e3.stp0).mono λa ⟨j,z⟩=>⟨j,hR3 j a z⟩
      refine⟨F'',τ1,R3,S4,?_⟩;cases hu:u τ1 with
      |none=>simp only[hu]at hgo;cases hgo
      |some o =>
       simp only[hu]at hgo;cases o with
       |nx τ2=>exact λF4 H4 σ4 R4 s4 S5=>⟨hlt,F4,τ2,R4,st3.trans s4,(sf.trans e3.ff).trans s4.ff,S5,hgo⟩
       |ct τ2=>exact λF4 H4 σ4 R4 s4 S5=>⟨hlt,F4,τ2,R4,st3.trans s4,(sf.trans e3.ff).trans s4.ff,S5,hgo⟩
       |bk τ2 =>
        cases hgo;exact λF4 H4 σ4 R4 s4 S5=>q F4 H4 σ4 R4 (st3.trans s4) S5
       |rt v =>
        cases hgo;exact λF4 H4 x B s4 r=>q F4 H4 x B (st3.trans s4) r
       |xc cc τ2 =>
        cases hgo;exact λF4 H4 σ4 R4 s4 S5=>q F4 H4 σ4 R4 (st3.trans s4) S5
    .have hi':i=ts.length:=by omega
     subst hi';refine .inl ⟨i2 rfl,?_⟩;rw[List.drop_length]at hgo;unfold Dc at hgo;cases hgo;exact q F' H' σ' R' st S'
end
section
variable {K:kA}{F H:Hp}{l:List T}{xs:List V}{Rr:Nat->Rg}{p:Addr}{o:HO}
theorem Rp.own_inv{x:V}{A:Rg}{k:Kd}(h:Rp K F H (.nd true k l) x A):∃p xs Rr,x=.ref p/\A=(λa=>a=p\/∃j,Rr j a)/\F p=none/\H p=some (.lst xs)/\RpO K F H l xs Rr/\(∀j,¬ Rr j p)/\H0 k p:=by
 cases h with
 |own hk R f h e c d dp o=>exact⟨_,_,R,rfl,rfl,f,h,⟨e,c,d,o⟩,dp,hk⟩
theorem Ql{k:Kd}(hk:H0 k p)(r:RpO K F H l xs Rr)(f:F p=none)(h:H p=some (.lst xs))(dp:∀j,¬ Rr j p):Rp K F H (.nd true k l) (.ref p) (λa=>a=p\/∃j,Rr j a):=.own hk Rr f h r.len r.rep r.dis dp r.out
theorem RpO.upd(r:RpO K F H l xs Rr)(dp:∀j,¬ Rr j p):RpO K F (L2.upd H p o) l xs Rr:=⟨r.len,λi t x h1 h2=>(r.rep i t x h1 h2).frame (.refl _) λa z=>⟨Ad (λe=>dp i (e▸z)),(r.dom z).1⟩,r.dis,r.out⟩
theorem Rp.upd{t:T}{x:V}{A:Rg}(r:Rp K F H t x A)(dp:¬ A p):Rp K F (L2.upd H p o) t x A:=r.frame (.refl _) λa z=>⟨Ad (λe=>dp (e▸z)),(r.dom z).1⟩
theorem RpO.set(r:RpO K F H l xs Rr){j0:Nat}{t:T}{y:V}{B:Rg}(hj:j0<l.length)(rt:Rp K F H t y B)(d:∀j a,j≠j0->Rr j a->¬ B a):RpO K F H (l.set j0 t) (xs.set j0 y) (λj=>if j=j0 then B else Rr j):=by
 have hl:=r.len;refine⟨by simp[hl],λi t' x' h1 h2=>?_,λi k a hik z1 z2=>?_,λi a z=>?_⟩
 .by_cases hi:i=j0
  .subst hi;rw[yao hj]at h1;rw[yao (by omega)]at h2
   cases h1;cases h2
   simpa using rt
  .rw[yan (yb1 hi)]at h1 h2
   simpa[hi] using r.rep i t' x' h1 h2
 .by_cases hi:i=j0
  .simp only[hi,yeo]at z1;have hk:¬ k=j0:=λz=>hik (hi.trans z.symm)
   simp only[hk,yep]at z2;exact d k a hk z2 z1
  .simp only[hi,yep]at z1
   by_cases hk:k=j0
   .simp only[hk,yeo]at z2;exact d i a hi z1 z2
   .simp only[hk,yep]at z2;exact r.dis i k a hik z1 z2
 .by_cases hi:i=j0
  .simp[hi];omega
  .simp only[hi,yep]at z
   simpa using r.out i a z
variable {σ:L2.St}{τ:AE}{R:Nat->Rg}
theorem StR.upd(S:StR K F H σ τ R){i:Nat}{t t':T}{x:V}{A' B:Rg}(ht:τ[i]?=some (some t))(hx:σ[i]?=some (some x))(hp:R i p)(r':Rp K F (L2.upd H p o) t' x A')(hA:∀a,A' a->R i a\/B a)(hB:∀j a,R j a->¬ B a) :
  StR K F (L2.upd H p o) σ (τ.set i (some t')) (λj=>if j=i then A' else R j)/\Stp F H (λa=>Pu.tot R a\/B a) F (L2.upd H p o) (Pu.tot λj=>if j=i then A' else R j):=by
 have fp:F p=none:=(S.dom hp).1;have hi:i<τ.length:=(ya8.mp ht).1
 have fh':AY F (L2.upd H p o):=λb u e=>by
  rw[Ad (λz=>by rw[z,fp]at e;cases e)]
  exact S.fh b u e
 refine⟨⟨fh',by simpa using S.len,λj t1 e=>?_,λj a z=>?_,λj k a hjk z1 z2=>?_⟩,⟨.refl _,fh',λb u n e=>?_,λb ⟨j,z⟩=>?_,λb u e=>.inl e⟩⟩
 .by_cases hj:j=i
  .subst hj;rw[yao hi]at e;cases e;exact⟨x,hx,by simpa using r'⟩
  .rw[yan (yb1 hj)]at e;obtain⟨y,e1,r1⟩:=S.rep j t1 e;exact⟨y,e1,by simpa[hj] using r1.upd (o:=o) (λz=>S.dis j i p hj z hp)⟩
 .by_cases hj:j=i
  .subst hj;exact⟨t',yao hi⟩
  .simp only[hj,yep]at z;obtain⟨t1,e⟩:=S.out j a z;exact⟨t1,by rw[yan (yb1 hj)];exact e⟩
 .by_cases hj:j=i
  .simp only[hj,yeo]at z1;have hk:¬ k=i:=λz=>hjk (hj.trans z.symm)
   simp only[hk,yep]at z2
   rcases hA a z1 with w|w
   .exact S.dis i k a (yb1 hk) w z2
   .exact hB k a z2 w
  .simp only[hj,yep]at z1
   by_cases hk:k=i
   .simp only[hk,yeo]at z2
    rcases hA a z2 with w|w
    .exact S.dis i j a (yb1 hj) w z1
    .exact hB j a z1 w
   .simp only[hk,yep]at z2;exact S.dis j k a hjk z1 z2
 .rw[Ad (λz=>n (.inl (by rw[z];exact⟨i,hp⟩)))]
  exact e
 .by_cases hj:j=i
  .simp only[hj,yeo]at z
   rcases hA b z with w|w
   .exact .inl (.inl ⟨i,w⟩)
   .exact .inl (.inr w)
  .simp only[hj,yep]at z;exact .inl (.inl ⟨j,z⟩)
end
def GG(τ:AE)(i:Nat):Option (Kd×List T):=match τ[i]? with
 |some (some (.nd true k l))=>some (k,l)
 |_=>none
theorem zc6{τ:AE}{i:Nat}{k:Kd}{l:List T}(h:GG τ i=some (k,l)):τ[i]?=some (some (.nd true k l)):=by
 unfold GG at h;split at h
 .rename_i k' l' e;cases h;exact e
 .cases h
def EU(i:Nat)(m:AE->Option Rs):AE->Option Out:=λτ=>match GG τ i with
 |some (kd,l)=>(match m τ with
  |some (.v t false)=>if l.length<AQ then some (.nx (τ.set i (some (.nd true kd (l++[t]))))) else none
  |some (.v _ true)=>none
  |some (.x c)=>some (.xc c τ)
  |none=>none)
 |none=>none
def zk8:Option T->Option (List T)
 |some (.nd true .lst l)=>some l
 |_=>none
section
variable {mu:Bool}{X:Cx}{E:L2.St->XK}{ca:Str->Value}{σ:L2.St}{H:Hp}{K:kA}{m mk mn:AE->Option Rs}{D:Ends}{e k n:Expr}{pos apos cpos p1 pos2 pos3:Pos}{i:Nat}{x:Str}
theorem Pj{l:List T}{Rr:Nat->Rg}{B:Rg}{a:Addr}(h:∃j,(λj=>if j=l.length then B else Rr j) j a):(∃j,Rr j a)\/B a:=Pk (l:=l) h
theorem s_app(hN:X.N[i]?=some x)(hv:DM X.env.scope x)(hd:(x == ("__debug__":Str))=false)(hcd:(x == ("__classdict__":Str))=false)(he:PE X e (tM X.K E ca m))(hs:starEach [e] X.env=[(false,eval e X.env)])(hline:(apos.endLine == cpos.line)=true) :
  PS X (.Expr (.Call (.Attribute (.Name x p1) "append" apos) [e] [] cpos) pos) (tS X.K E ca mu (EU i m)):=by
 refine PS.weak (Q5 (Qf PySem.F.plainAttrs_list PySem.F.slot_list_append PySem.F.type_list_append zd6 (Gs hN hv hd hcd) (DV he EX hs) rfl (by rw[hs];rfl) hline hs rfl) rfl) λD σ H h=>?_
 obtain⟨F,τ,R,S,q⟩:=h;unfold EU at q;cases ho:GG τ i with
 |none=>simp only[ho]at q
 |some kl =>
  obtain⟨kd,l⟩:=kl;simp only[ho]at q;have ht:=zc6 ho;obtain⟨y,ey,ry⟩:=S.rep i _ ht;obtain⟨p,xs,Rr,rfl,hA,fp,hp,ro,dp,hOw⟩:=ry.own_inv;refine⟨_,ey,.inl ⟨rfl,xs,Ag.of hp⟩,F,τ,R,S,?_⟩;cases hm:m τ with
  |none=>simp only[hm]at q
  |some r =>
   simp only[hm]at q;cases r with
   |x c=>exact λF' H' e=>q F' H' σ R e.stp0 (S.ext e)
   |v t bb =>
    cases bb with
    |true=>exact q.elim
    |false =>
     intro F1 H1 y B e1 g1;have g1':Rp X.K F1 H1 t y B:=g1
     by_cases hz:l.length<AQ
     .simp only[hz,yeo]at q;have S1:=S.ext e1;have ro1:=ro.ext e1;have hp1:=e1.hh _ _ hp;have pB:¬ B p:=λz=>by rw[e1.nb p z]at hp;cases hp
      have fp1:F1 p=none:=(ry.ext e1 |>.dom (by rw[hA];exact .inl rfl)).1
      refine⟨p,xs,y,rfl,rfl,hp1,by rw[<- ro.len,<- DY];exact hz,?_⟩
      have ro2:RpO X.K F1 (upd H1 p (.lst (xs++[y]))) (l++[t]) (xs++[y]) _:=(ro1.upd dp).snoc (g1'.upd pB) λj a z1 z2=>ro.apart e1 z2 j z1
      have dp2:∀j,¬ (if j=l.length then B else Rr j) p:=λj z=>by
       by_cases hj:j=l.length
       .simp only[hj,yeo]at z;exact pB z
       .simp only[hj,yep]at z;exact dp j z
      have r2:=Ql hOw ro2 fp1 Bb dp2
      obtain⟨S3,st3⟩:=S1.upd ht ey (by rw[hA];exact .inl rfl) r2 (B:=B) (λa z=>by
       rw[hA]
       rcases z with z|z
       .exact .inl (.inl z)
       .rcases Pj z with w|w
        .exact .inl (.inr w)
        .exact .inr w) (λj a z1 z2=>S.apart e1 z2 j z1)
      exact q F1 _ σ _ (e1.stp.trans st3) S3
     .simp only[hz,yep]at q
end
section
variable {X:Cx}{E:L2.St->XK}{ca:Str->Value}{σ:L2.St}{H F:Hp}{K:kA}{m mk:AE->Option Rs}{ms:AE->Option RsL}{D:Ends}{e:Expr}{es:List Expr}{pos apos cpos p1 p2:Pos}{i j:Nat}{x y:Str}{τ:AE}{R:Nat->Rg}{mu:Bool}
theorem Rp.kind{k k':Kd}{l:List T}{p:Addr}{A:Rg}(h:Rp K F H (.nd true k l) (.ref p) A)(o:H0 k' p):Rp K F H (.nd true k' l) (.ref p) A:=by
 obtain⟨p',xs,Rr,e,rfl,fp,hp,ro,dp,_⟩:=h.own_inv;cases e;exact Ql o ro fp hp dp
def QB(t:T)(τ:AE):Option Out:=match τ[(0:Nat)]? with
 |some (some (.nd true (.pin q) l))=>some (.rt (.own [t,.nd true (.pin q) l]))
 |_=>none
inductive Mo where
 |ok (v:T) (τ:AE)|exc (c:Str) (τ:AE)
def gAll(g:List T->Option Ru)(l ts:List T)(r:T×List T):Prop:=∀p,g (.nd true (.pin p) l::ts)=some (.ok (.own [r.1,.nd true (.pin p) r.2]))
open Classical in
def gMu(g:List T->Option Ru)(l ts:List T):Option (T×List T):=if h:∃r,gAll g l ts r then some h.choose else none
def mMut(i:Nat)(g:List T->Option Ru)(ms:AE->Option RsL):AE->Option Mo:=λτ=>match GG τ i with
 |some (kd,l)=>(match ms τ with
  |some (.v ts false)=>(match gMu g l ts with
   |some (v,l')=>if v.flat then some (.ok v (τ.set i (some (.nd true kd l')))) else none
   |none=>none)
  |some (.v _ true)=>none
  |some (.x c)=>some (.exc c τ)
  |none=>none)
 |none=>none
def Hk(K:kA)(ca:Str->Value)(g:List T->Option Ru):Sp:=λvs H Q E=>∃F p l ts A vs',AY F H/\vs=.ref p::vs'/\Rp K F H (.nd true (.pin p) l) (.ref p) A/\Ae K F ts vs'/\match g (.nd true (.pin p) l::ts) with
 |some (.ok t)=>∀F' H' x B,Stp F H A F' H' B->Wr K true F' H' t x B->Q x H'
 |some (.exc c)=>∀F' H',Stp F H A F' H' R0->E (ca c) none H'
 |none=>False
variable {mm:AE->Option Mo}
end
abbrev GI(A:Around):Around:={ A with handled:=none }
def OH(P:Program)(w:World)(K:kA)(mg:Str->Option Value)(base:Heap)(N:List Str)(qual:Str)(scope:Scope)(f:Addr)(cd:Value)(A:Around)(outer:List Env)(s:Shared)(H:Hp):Cx :=
 { DK Df P w K mg base N qual scope f cd (GI A) outer s H E0 with A:=A.deeper (envOfC qual scope s.heap.objs.size f cd),calm:=false,xe:=λ_ _=>False }
structure FnS(P:Program)(w:World)(K:kA)(mg:Str->Option Value)(base:Heap)(k:Nat)(f:Addr)(fd:FuncData)(p:Str)(sp:Sp):Prop where
 run:∀(A:Around) (outer:List Env) (s:Shared) (H:Hp) (args:Args) (a:Addr) (Q:VK),A.handled=some (.ref a)->(∃C,Dv H a C)->Room k (GI A)->Env0 P w K mg base A outer s H->BindsTo s fd args [(p,.ref a)]->sp [.ref a] H Q E0 ->
  codeAny (model P w) A (.call (.ref f) args) (CR Df outer P w H s Q E0) s
theorem fnS{P:Program}{w:World}{K:kA}{mg:Str->Option Value}{base:Heap}{k:Nat}{f:Addr}{x qual:Str}{st:Stmt}{fd:FuncData}{N:List Str}{p:Str}{sp:Sp}(F:FunD K x qual st f fd)(S:FnScope N [p] (AO st))
  (hbody : ∀ (cdv : Value) (A : Around) (outer : List Env) (s : Shared) (H : Hp) (a : Addr) (Q : VK), A.handled = some (.ref a) -> (∃ C, Dv H a C) -> Room k (GI (A.deeper (envOfC qual (AO st) s.heap.objs.size f cdv))) -> sp [.ref a] H Q E0 ->
   ∃t,BD (OH P w K mg base N qual (AO st) f cdv A outer s H) (Ao st) t/\t { nx:=λ_ H'=>Q .non H',rt:=Q } (start N [.ref a]) H):FnS P w K mg base (k+1) f fd p sp:=by
 obtain⟨oc,od,dV,kV,doc,pm,an,cdv,ct,osl,rfl,lk,hcd⟩:=F.ex;refine⟨λA outer s H args a Q hh hX hr e0 hb hsp=>?_⟩
 have KX:K.In s.heap:=e0.mod.kin.keeps λb o e=>(e0.bs b o e).1
 have AQ:s.heap.NoLimit:=e0.mod.nolimit.keeps λb o e=>(e0.bs b o e).1
 have hkind:∀y∈[p].zip [Value.ref a],(AO st).names.lookup y.1=some .local\/((AO st).names.lookup y.1=some .cell/\((cellsFrom (s.heap.objs.size+1) (AO st).names []).lookup y.1).isSome=true):=λ⟨n,v⟩ hy=>by
  rcases S.par n (ydm hy).1 with q|q
  .exact .inl q
  .exact .inr ⟨q,yd7 _ _ _ (.inl q)⟩
 refine codeAny_call_function hr.depth (KX _ _ lk) rfl S.co S.gen rfl (PySem.W.codeRec_of KX hcd) (hb _ _ _ _ ?_);refine wpAny_newFunctionEnv_cells S.kind hkind λenv he s1 y=>?_
 subst he;refine⟨AQ.keeps y.toInCall.keep,codeAny_func ?_⟩;obtain⟨t,ht,hq⟩:=hbody cdv A outer s H a Q hh hX (hr.deeper _) hsp;have e1:Env0 P w K mg base (GI A) outer s H:=⟨e0.frames,e0.mod,e0.bs,e0.bsz,e0.funs,e0.frf,e0.hok,e0.bare⟩;have I0:Inv (DK Df P w K mg base N qual (AO st) f cdv (GI A) outer s H E0) [] (start N [.ref a]) H s1:=Sy (us:=[.ref a]) S hr.hd e1 rfl (.cons rfl .nil) y
 have I:Inv (OH P w K mg base N qual (AO st) f cdv A outer s H) [] (start N [.ref a]) H s1 :=
  ⟨⟨I0.ok.mod,I0.ok.kind,I0.ok.glob,I0.ok.blt,I0.ok.above,I0.ok.inj,I0.ok.has,I0.ok.cab,λz=>Bool.noConfusion z,Around.frames_deeper e0.frames,I0.ok.stk,I0.ok.exf,I0.ok.bs,I0.ok.bsz,I0.ok.noex,I0.ok.exfs,I0.ok.funs,I0.ok.frf⟩,I0.os,I0.bare,I0.base,I0.loc,I0.cell,I0.free,I0.freeC,I0.pin,I0.hok,I0.len⟩
 refine ye9 (ht [] s1 (start N [.ref a]) H _ I hq) (λfl s' hs=>?_) λe s' hs=>False.elim hs
 have Ar:∀{σ':L2.St} {H':Hp} {v:V} {u:Value},Inv (OH P w K mg base N qual (AO st) f cdv A outer s H) [] σ' H' s'->RelV v u->Q v H'->CE outer P w H s Q u s' :=
  λ{σ' H' v u} J rv q=>⟨v,H',J.os,J.bare,J.base,J.hok,rv,q⟩
 cases fl with
 |ret u =>
  obtain⟨v,σ',H',J,rv,q⟩:=hs;exact Ar J rv q
 |next =>
  obtain⟨σ',H',J,q⟩:=hs;exact Ar (v:=V.non) (u:=Value.none) J rfl q
 |brk =>
  obtain⟨_,_,_,q⟩:=hs;exact False.elim q
 |cont =>
  obtain⟨_,_,_,q⟩:=hs;exact False.elim q
structure DefS(P:Program)(w:World)(K:kA)(mg:Str->Option Value)(base:Heap)(k:Nat)(x p:Str)(sp:Sp) where
 f:Addr
 fd:FuncData
 ok:FnS P w K mg base k f fd p sp
 m:mg x=some (.ref f)
 kp:PySem.W.keepIn K (.ref f)=true
 b:C8 K fd [p] []
theorem px_s{X:Cx}{j k i:Nat}{a:Addr}{x y p:Str}{sp:Sp}{q q2 pos:Pos}(D:DefS X.prog X.w X.K X.mg X.base k x p sp)(hr:Room j (GI X.A))(hh:X.A.handled=some (.ref a))(hk:k<=j)(hv:PE X (.Name y q2) (Hg i))(hg:Gl X x)(hdb:(x == ("__debug__":Str))=false) :
  PE X (.Call (.Name x q) [.Name y q2] [] pos) (λσ H Q=>σ[i]?=some (some (.ref a))/\(∃C,Dv H a C)/\sp [.ref a] H Q E0):=by
 intro pins s σ H Q I h;obtain⟨h1,h2,h3⟩:=h;refine yel (GV I hg D.m ?_ hdb);refine ycv (h₀:=X.base) I.ok.mod.kin D.kp (AR ((DV hv EX:PA X [.Name y q2] _) pos pins s σ H (λvs H1=>vs=[V.ref a]/\H1=H) I ⟨_,h1,rfl,rfl⟩) λus s1 ⟨vs,H1,I1,r,e1,e2⟩=>⟨I1.kIn,?_⟩) rfl rfl
 subst e1 e2;obtain⟨u,rfl,ru⟩:=Ei r;cases ru;refine yej (yek (D.ok.run X.A X.stack s1 H1 ⟨_,[]⟩ a Q hh h2 (hr.mono hk) I1.env0 (D.b s1 [.ref a] I1.kIn rfl) h3) λr s' hq=>?_)
 cases r with
 |error v=>exact False.elim hq
 |ok fl =>
  cases fl with
  |ret u=>exact I1.after hq
  |_=>exact False.elim hq
section
variable {X:Cx}{pins:List (Addr×Obj)}{σ:L2.St}{H:Hp}{s:Shared}{a:Addr}{kvs:List (Key×V)}
end
section
variable {X:Cx}
def tDicO:TE:=λ_ H Q=>∀p,H p=none->Q (.ref p) (upd H p (.dK []))
theorem zh4{pos:Pos}:PE X (.Dict [] [] pos) tDicO:=λpins s σ H Q I h=>by
 refine wpAny_Dict_empty ⟨.ref s.heap.objs.size,_,I.laid (a:=s.heap.objs.size) (o:=.dK []) (t':=s.toks) (λ_ _ q=>ya4 _ q) (yaa _) (OA s.heap I.big),rfl,h _ (I.hok.fresh (yaa _))⟩
end
section
variable {X:Cx}{E:L2.St->XK}{ca:Str->Value}{m mk mv:AE->Option Rs}{e k:Expr}{pos p1 pos2:Pos}{mu:Bool}
end
section
variable {X:Cx}{E:L2.St->XK}{ca:Str->Value}{m mk:AE->Option Rs}{e k:Expr}{pos p1 pos2:Pos}{mu:Bool}{i:Nat}{x:Str}
end
theorem U2{t:T}(h:d0 t=true):t=.dic [] []:=by
 unfold d0 at h;split at h
 .rfl
 .cases h
theorem VG:∀{l l':List T},FJ l l'=true->l.length=l'.length/\∀(i:Nat) (a b:T),l[i]?=some a->l'[i]?=some b->(BZ a=true/\BZ b=true/\min a.data.depth b.data.depth<=60/\PyData.eqv a.data b.data=true)\/a=.dic [] []/\b=.dic [] []
 |[],[],_=>⟨rfl,λi a b h=>by simp at h⟩
 |a::r,b::q,h=>by
  unfold FJ at h;rw[ya1,ybt,ya1,ya1,ya1,ya1,yez]at h;obtain⟨h1,h5⟩:=h;obtain⟨e,k⟩:=VG h5;refine⟨by simp[e],λi a' b' x y=>?_⟩
  cases i with
  |zero =>
   simp at x y;subst x y;exact h1.elim (λz=>.inl ⟨z.1.1.1,z.1.1.2,z.1.2,z.2⟩) λz=>.inr ⟨U2 z.1,U2 z.2⟩
  |succ i=>exact k i a' b' (by simpa using x) (by simpa using y)
 |[],_::_,h=>by cases h
 |_::_,[],h=>by cases h
theorem UP{P P':Program}{w w':World}{h:Heap}{a:Addr}(d:Heap.DictOf (Bi P w) h a []):Heap.DictOf (Bi P' w') h a []:=by
 obtain⟨o,es,ep,h1,h2,h3,h4,h5,h6⟩:=d;have e:es.toList=[]:=ybv.mp h5.length;have e':es=#[]:=Array.toList_eq_nil_iff.mp e;subst e';exact⟨o,#[],ep,h1,h2,h3,by intro i h;simp at h,.nil,.nil⟩
theorem zhj{X:Cx}(hu:X.A.units+64<cLine):A3 X (compareOp .NotEq) (BU X.K Ml):=by
 intro pins s σ H x y v u Q I rx ry h;obtain⟨F,t1,t2,r,fh,r1,r2,e,q⟩:=h;unfold Ml at e;split at e
 .split at e
  .rename_i hc;cases e;obtain⟨p,xs,rfl,rfl,n1,k1⟩:=Cn r1;obtain⟨p',ys,rfl,rfl,n2,k2⟩:=Cn r2;cases rx;cases ry;obtain⟨its,rv,pl,_⟩:=I.list (Ag.of (fh _ _ n1));obtain⟨its',rv',pl',_⟩:=I.list (Ag.of (fh _ _ n2));obtain⟨al1,al2⟩:=VG hc;have len:its.length=its'.length:=by rw[<- rv.length,<- rv'.length,<- k1.1,<- k2.1,al1]
   have key:=SeqAt.RcNeAt.lists (A:=X.A) (s:=s) (e:=λ_=>true) pl.isList pl'.isList (by rw[yai,yai];exact len) (by omega) λj h1 h2=>by
    rw[yai]at h1 h2;rw[List.getElem_toArray,List.getElem_toArray];have hx:j<xs.length:=by rw[rv.length];exact h1
    have hy:j<ys.length:=by rw[rv'.length];exact h2
    obtain⟨u1,g1,w1⟩:=rv.get (ya0 hx);obtain⟨u2,g2,w2⟩:=rv'.get (ya0 hy);rw[ya0 h1]at g1;rw[ya0 h2]at g2;cases g1;cases g2;have c1:=k1.2 j _ _ (ya0 (by rw[k1.1];exact hx)) (ya0 hx)
    have c2:=k2.2 j _ _ (ya0 (by rw[k2.1];exact hy)) (ya0 hy)
    rcases al2 j _ _ (ya0 (by rw[k1.1];exact hx)) (ya0 (by rw[k2.1];exact hy)) with ⟨f1,f2,f3,f4⟩|⟨z1,z2⟩
    .unfold BZ at f1 f2;rw[ya1]at f1 f2;obtain⟨a1,q1⟩:=EV I fh c1.any f1.1 w1;obtain⟨a2,q2⟩:=EV I fh c2.any f2.1 w2;show SeqAt.EqAt _ s _ _ true;rw[<- f4];refine SeqAt.eqAt_reads _ _ _ s _ _ _ _ q1 q2 f1.2 f2.2 ?_;show X.A.units+1+_<cLine
     omega
    .rw[z1]at c1;rw[z2]at c2;obtain⟨b1,ob,vs,e1,hp,ek,_⟩:=Kk c1;obtain⟨b2,ob',vs',e2,hp',ek',_⟩:=Kk c2;rw[e1]at w1;rw[e2]at w2;have w1':its[j]=.ref b1:=w1;have w2':its'[j]=.ref b2:=w2;rw[w1',w2'];obtain⟨z,hd,ks,rel,dd⟩:=Nz I.hok (.inr ⟨ob,fh _ _ hp⟩);obtain⟨z',hd',ks',rel',dd'⟩:=Nz I.hok (.inr ⟨ob',fh _ _ hp'⟩);have l1:ks.length=0:=by rw[<- Fb rel,NH ek,<- ek];rfl
     have l2:ks'.length=0:=by rw[<- Fb rel',NH ek',<- ek'];rfl
     have m1:ks=[]:=ybv.mp l1;have m2:ks'=[]:=ybv.mp l2
     by_cases hb:b1=b2
     .subst hb;exact SeqAt.EqAt.same _
     .refine SeqAt.EqAt.of_refs hb λprog w E Q' hq=>?_
      subst m1 m2;exact PySem.W.keq_eq (r:=true) hd hd' (UP dd) (UP dd') (by show X.A.units+1<cLine;omega) (λ_=>.nil) hq
   refine key _ _ _ _ ?_;rw[show(!(List.range its.toArray.size).all λ_=>true)=false by simp]
   exact⟨.bl false,H,I,rfl,q.bl fh⟩
  .cases e
 .cases e
theorem Qp{X:Cx}(hu:X.A.units+64<cLine):A3 X (compareOp .NotEq) (BU X.K Cc):=by
 intro pins s σ H x y v u Q I rx ry h;obtain⟨F,t1,t2,r,fh,r1,r2,e,q⟩:=h;unfold Cc at e;split at e
 .cases e;rename_i hc;unfold Dq BZ at hc;rw[ya1,ya1,ya1,ya1,yez]at hc;obtain⟨a1,q1⟩:=EV I fh (r1.any) hc.1.1.1 rx;obtain⟨a2,q2⟩:=EV I fh (r2.any) hc.1.2.1 ry;exact SeqAt.compareNe_reads q1 q2 hc.1.1.2 hc.1.2.2 (UQ hu hc.2) ⟨.bl _,H,I,rfl,q.bl fh⟩
 .exact zhj hu pins s σ H x y v u Q I rx ry ⟨F,t1,t2,_,fh,r1,r2,e,q⟩
theorem StR.frz{K:kA}{F H:Hp}{σ:L2.St}{τ:AE}{R:Nat->Rg}{i:Nat}{t:T}(S:StR K F H σ τ R)(ht:τ[i]?=some (some t)):StR K (Pu.frz F H (R i)) H σ (τ.set i (some t.share)) (λj=>if j=i then R0 else R j):=by
 obtain⟨x,ex,r⟩:=S.rep i t ht;have hi:i<τ.length:=(ya8.mp ht).1;have n:∀a,R i a->F a=none:=λa z=>(r.dom z).1
 refine⟨HJ S.fh,by simpa using S.len,λj t' e=>?_,λj a z=>?_,λj k a hjk z1 z2=>?_⟩
 .by_cases hj:j=i
  .subst hj;rw[yao hi]at e;cases e;exact⟨x,ex,by simpa using r.share (EF n) λa u z q=>by rw[Fg z];exact q⟩
  .rw[yan (yb1 hj)]at e;obtain⟨y,e1,r1⟩:=S.rep j t' e;refine⟨y,e1,?_⟩;simp only[hj,yep]
   exact r1.frame (EF n) λa z=>⟨rfl,by
    rw[FD (λz'=>S.dis j i a hj z z')]
    exact(r1.dom z).1⟩
 .by_cases hj:j=i
  .simp only[hj,yeo]at z;exact z.elim
  .simp only[hj,yep]at z;obtain⟨t',e⟩:=S.out j a z;exact⟨t',by rw[yan (yb1 hj)];exact e⟩
 .by_cases hj:j=i
  .simp only[hj,yeo]at z1;exact z1.elim
  .by_cases hk:k=i
   .simp only[hk,yeo]at z2;exact z2.elim
   .simp only[hj,yep]at z1;simp only[hk,yep]at z2;exact S.dis j k a hjk z1 z2
section
variable {X:Cx}{E:L2.St->XK}{ca:Str->Value}{σ:L2.St}{H:Hp}{K:kA}{u w:AE->Option Out}{D:Ends}
end
theorem SU{fs:List Str}{xs:List V}{f:Str}:∀{j:Nat} {x:V},fs.findIdx? (· == f)=some j->xs[j]?=some x->(fs.zip xs).lookup f=some x:=by
 induction fs generalizing xs with
 |nil=>intro j x h;simp at h
 |cons g r ih =>
  intro j x h hx;rw[List.findIdx?_cons]at h;cases xs with
  |nil=>simp at hx
  |cons y ys =>
   rw[ydz,yaz]
   by_cases hg:g=f
   .subst hg;simp only[yf0,yeo,yd5]at h;subst h;simp at hx;rw[yf0,hx]
   .have h1:(g == f)=false:=beq_eq_false_iff_ne.mpr hg;have h2:(f == g)=false:=beq_eq_false_iff_ne.mpr (yb1 hg);rw[h1]at h;simp only[ybz,yep,ya2]at h;obtain⟨j',h3,rfl⟩:=h;rw[h2];exact ih h3 (by simpa using hx)
theorem Rp.obj_inv{K:kA}{F H:Hp}{k:Ob}{l:List T}{x:V}{A:Rg}(h:Rp K F H (.obj k l) x A):∃p xs,x=.ref p/\A=R0/\JC F k p xs/\l.length=xs.length/\∀(i:Nat) (t:T) (x:V),l[i]?=some t->xs[i]?=some x->Rp K F H t x R0:=by
 cases h with
 |obj h e c=>exact⟨_,_,rfl,rfl,h,e,c⟩
noncomputable def IT(C:Addr)(fs:List Str):T->Option (List T)
 |.obj (.ins C' fs') l=>if C'=C/\fs'=fs then some l else none
 |_=>none
theorem zdd{C:Addr}{fs:List Str}{t:T}{l:List T}(h:IT C fs t=some l):t=.obj (.ins C fs) l:=by
 unfold IT at h;split at h
 .split at h
  .rename_i hc;cases h;rw[hc.1,hc.2]
  .cases h
 .cases h
def EC(C:Addr)(fs:List Str)(j:Nat)(m:AE->Option Rs):AE->Option Rs:=λτ=>match m τ with
 |some (.v t b)=>(match IT C fs t with
  |some l=>(match l[j]? with
   |some u=>some (.v u (b && !u.sh))
   |none=>none)
  |none=>none)
 |some (.x c)=>some (.x c)
 |none=>none
def Bl(m n:AE->Option Rs):AE->Option Rs:=λτ=>match m τ with
 |some r=>some r
 |none=>n τ
section
variable {X:Cx}{E:L2.St->XK}{ca:Str->Value}{m n:AE->Option Rs}{ms:AE->Option RsL}{e o:Expr}{es:List Expr}{pos p apos:Pos}{C:Addr}{fs:List Str}{f:Str}{j:Nat}
theorem QW(h1:PE X e (tM X.K E ca m))(h2:PE X e (tM X.K E ca n)):PE X e (tM X.K E ca (Bl m n)):=λpins s σ H Q I h=>by
 obtain⟨F,τ,R,S,q⟩:=h;unfold Bl at q;cases hm:m τ with
 |none =>
  rw[hm]at q;exact h2 pins s σ H Q I ⟨F,τ,R,S,q⟩
 |some r =>
  rw[hm]at q;exact h1 pins s σ H Q I ⟨F,τ,R,S,by rw[hm];exact q⟩
theorem zic{K:kA}{F H:Hp}{R:Nat->Rg}{k:Ob}{l:List T}{b:Bool}{x:V}{B:Rg}(g:Cz K F H R (.obj k l) b x B):Rp K F H (.obj k l) x R0/\B=R0:=by
 cases b with
 |true =>
  obtain⟨hB,A,_,r⟩:=g;obtain⟨p,xs,rfl,hA,_⟩:=r.obj_inv;exact⟨hA▸r,hB⟩
 |false =>
  have r:Rp K F H (.obj k l) x B:=g;obtain⟨p,xs,rfl,hA,_⟩:=r.obj_inv;exact⟨hA▸r,hA⟩
theorem r_fld(c:Cls X.K C)(hn:Bo X.K C f)(hj:fs.findIdx? (· == f)=some j)(ho:PE X o (tM X.K E ca m))(hb:attributeBase o f X.env (eval o X.env)=eval o X.env):PE X (.Attribute o f pos) (tM X.K E ca (EC C fs j m)):=by
 refine PE.weak (Qd ho hb) λσ H Q h=>?_
 obtain⟨F,τ,R,S,q⟩:=h;refine⟨F,τ,R,S,?_⟩;unfold EC at q;cases hm:m τ with
 |none=>simp only[hm]at q
 |some r =>
  simp only[hm]at q;cases r with
  |x c=>exact q
  |v t b =>
   intro F1 H1 x B e1 g1;cases hi:IT C fs t with
   |none=>simp only[hi]at q
   |some l =>
    simp only[hi]at q;have ht:=zdd hi;subst ht;cases hu:l[j]? with
    |none=>simp only[hu]at q
    |some u =>
     simp only[hu]at q;obtain⟨r1,hB⟩:=zic g1;subst hB;obtain⟨a,xs,rfl,_,⟨dx,hF⟩,el,cc⟩:=r1.obj_inv;have hjl:=(ya8.mp hu).1;have hx:xs[j]?=some xs[j]:=ya0 (by omega)
     have hc:=cc j u _ hu hx;refine⟨a,_,dx,_,xs[j],rfl,e1.fh _ _ hF,c,hn,SU hj hx,?_⟩;refine q F1 H1 _ R0 e1 ?_;cases b with
     |false=>exact hc
     |true =>
      cases hs:u.sh with
      |true=>exact hc
      |false=>exact⟨rfl,R0,λ_ z=>z.elim,hc⟩
structure MetX(P:Program)(w:World)(K:kA)(mg:Str->Option Value)(base:Heap)(C:Addr)(m:Str)(k:Nat)(ps:List Str)(sp:Sp) where
 f:Addr
 fd:FuncData
 c:Cls K C
 me:Meth K C m f
 ok:FnOk P w K mg base (CG P w) k f fd ps sp
 b:C8 K fd ps []
structure NewX(P:Program)(w:World)(K:kA)(mg:Str->Option Value)(base:Heap)(x:Str)(C:Addr)(k:Nat)(ps:List Str)(sp:Sp) where
 f:Addr
 fd:FuncData
 m:mg x=some (.ref C)
 ma:Mk K C f
 ok:FnOk P w K mg base (CG P w) k f fd ps sp
def zj1(C:Addr)(sp:Sp)(dvs:List V)(E:L2.St->XK)(t:TA):TE:=λσ H Q=>t σ H λvs H1=>∀x dx,H1 x=none->H1 dx=none->dx≠x ->
 sp (.ref x::(vs++dvs)) (upd (upd H1 dx (.own x)) x (.ins C dx [])) (λv H2=>v=.non/\Q (.ref x) H2) (E σ)
theorem pnx{k j:Nat}{x:Str}{ps:List Str}{sp:Sp}{t:TA}{dvs:List V}{ds:List Value}(D:NewX X.prog X.w X.K X.mg X.base x C k ps sp)(hb:C8 X.K D.fd ps ds)(hd:AU dvs ds)(hr:Room j X.A)(hx:BI X E)(ha:PA X (e::es) t)(hk:k+1<=j)(hg:Gl X x)(hdb:(x == ("__debug__":Str))=false)
  (he:starEach (e::es) X.env=(false,eval e X.env)::starEach es X.env) (hpl:(backTo pos (starEach es X.env)).any (·.1)=false):PE X (.Call (.Name x p) (e::es) [] pos) (zj1 C sp dvs E t):=by
 intro pins s σ H Q I h;refine yel (GV I hg D.m ?_ hdb);refine ycv (h₀:=X.base) I.ok.mod.kin D.ma.kp (AR (ha pos pins s σ H _ I h) λus s1 ⟨vs,H1,I1,r,q⟩=>⟨I1.kIn,?_⟩) he hpl
 have hq:=q (s1.heap.objs.size+1) s1.heap.objs.size (I1.hok.fresh (yc6 _)) (I1.hok.fresh (yaa _)) (yaw (yci _));have I2:=Inv.made (C:=C) I1;have r2:AU (V.ref (s1.heap.objs.size+1)::(vs++dvs)) (Value.ref (s1.heap.objs.size+1)::(us++ds)):=.cons rfl (r.append hd)
 have hl:(Value.ref (s1.heap.objs.size+1)::us++ds).length=ps.length:=by
  have e:=r2.length;rw[D.ok.len _ _ _ _ hq]at e;exact e.symm
 refine yej (zf7 (f:=D.f) I1.kIn D.ma.makes D.ma.init (beq_iff_eq.mp D.ma.fn) (yek (D.ok.run _ X.stack _ _ ⟨Value.ref (s1.heap.objs.size+1)::us,[]⟩ (Value.ref (s1.heap.objs.size+1)::(us++ds)) _ _ (E σ) ((hr.mono hk).make C us [])
  (I2.env0.make C us []) (hb _ (Value.ref (s1.heap.objs.size+1)::us) I2.kIn hl) r2 hq) λr s' hq'=>?_))
 cases r with
 |error v=>exact hx pins σ _ _ v s' I2 hq'
 |ok fl =>
  cases fl with
  |ret u =>
   obtain⟨v,H',I3,rv,ev,q3⟩:=I2.after hq';subst ev;exact⟨rv,⟨V.ref (s1.heap.objs.size+1),H',I3,rfl,q3⟩⟩
  |next=>exact False.elim hq'
  |brk=>exact False.elim hq'
  |cont=>exact False.elim hq'
def FU(K:kA)(ca:Str->Value)(C:Addr)(g:List T->Option Ru):Sp:=λvs H Q E=>∃F p dx ts vs',AY F H/\vs=.ref p::vs'/\F p=none/\H p=some (.ins C dx [])/\Ae K F ts vs'/\match g ts with
 |some (.ok t)=>∀F' H',Stp F H (λa=>a=p) F' H' R0->Rp K F' H' t (.ref p) R0->Q .non H'
 |some (.exc c)=>∀F' H',Stp F H (λa=>a=p) F' H' R0->E (ca c) none H'
 |none=>False
noncomputable def GS(g:List T->Option Ru)(ds:List T)(ms:AE->Option RsL):AE->Option Rs:=λτ=>match ms τ with
 |some (.v ts false)=>(match g (ts++ds) with
  |some (.ok t)=>some (.v t false)
  |some (.exc c)=>some (.x c)
  |none=>none)
 |some (.v _ true)=>none
 |some (.x c)=>some (.x c)
 |none=>none
theorem r_new{k j:Nat}{x:Str}{ps:List Str}{g:List T->Option Ru}{dvs:List V}{dts:List T}{ds:List Value}(D:NewX X.prog X.w X.K X.mg X.base x C k ps (FU X.K ca C g))(hb:C8 X.K D.fd ps ds)(hd:AU dvs ds)(hdt:∀F:Hp,Ae X.K F dts dvs)(hr:Room j X.A)(hx:BI X E)(ha:PA X (e::es) (Bv X.K E ca ms))(hk:k+1<=j)(hg:Gl X x)(hdb:(x == ("__debug__":Str))=false)
  (he:starEach (e::es) X.env=(false,eval e X.env)::starEach es X.env) (hpl:(backTo pos (starEach es X.env)).any (·.1)=false):PE X (.Call (.Name x p) (e::es) [] pos) (tM X.K E ca (GS g dts ms)):=by
 refine PE.weak (pnx D hb hd hr hx ha hk hg hdb he hpl) λσ H Q h=>?_
 obtain⟨F,τ,R,S,q⟩:=h;refine⟨F,τ,R,S,?_⟩;unfold GS at q;cases hs:ms τ with
 |none=>simp only[hs]at q
 |some r =>
  simp only[hs]at q;cases r with
  |x c=>exact q
  |v ts b =>
   cases b with
   |true=>exact λF1 H1 xs e1 rs=>q.elim
   |false =>
    intro F1 H1 xs e1 rs a dx ha hdx hne;simp only at q;have rs':Ae X.K F1 ts xs:=rs
    have key:∀F' H',Stp F1 (upd (upd H1 dx (.own a)) a (.ins C dx [])) (λb=>b=a) F' H' R0->Ext F H F' H' R0:=λF' H' st=>by
     refine e1.trans0 ⟨λb u z=>?_,st.ff,st.fh,λ_ z=>z.elim,λb u z=>?_⟩
     .have h1:b≠a:=Be z ha;have h2:b≠dx:=Be z hdx;exact st.kp b u h1 (by rw[Ad h1,Ad h2];exact z)
     .rcases st.nf b u z with w|w|w
      .exact .inl w
      .rw[w];exact .inr ha
      .by_cases h1:b=a
       .rw[h1];exact .inr ha
       .by_cases h2:b=dx
        .rw[h2];exact .inr hdx
        .rw[Ad h1,Ad h2]at w;exact .inr w
    have fh2:AY F1 (upd (upd H1 dx (.own a)) a (.ins C dx [])):=λb u z=>by
     have z':=e1.fh b u z;rw[Ad (Be z' ha),Ad (Be z' hdx)];exact z'
    refine⟨F1,a,dx,ts++dts,xs++dvs,fh2,rfl,Es e1.fh ha,Bb,Hu rs' (hdt F1),?_⟩;cases hg:g (ts++dts) with
    |none=>simp only[hg]at q
    |some r =>
     simp only[hg]at q;cases r with
     |exc c=>exact λF' H' st=>q F' H' (key F' H' st)
     |ok t=>exact λF' H' st r=>⟨rfl,q F' H' _ R0 (key F' H' st) r⟩
end
noncomputable def Er(τ:AE)(i:Nat)(C:Addr)(fs:List Str):Option (Addr×List T):=match τ[i]? with
 |some (some (.oob p C' fs' l))=>if C'=C/\fs'=fs then some (p,l) else none
 |_=>none
theorem Md{τ:AE}{i:Nat}{C:Addr}{fs:List Str}{p:Addr}{l:List T}(h:Er τ i C fs=some (p,l)):τ[i]?=some (some (.oob p C fs l)):=by
 unfold Er at h;split at h
 .rename_i q;split at h
  .rename_i hc;cases h;rw[q,hc.1,hc.2]
  .cases h
 .cases h
def DT(C:Addr)(fs:List Str)(j i:Nat)(m:AE->Option Rs):AE->Option Out:=λτ=>match m τ with
 |some (.v t false)=>(match Er τ i C fs with
  |some (p,l)=>if l.length=j then some (.nx (τ.set i (some (.oob p C fs (l++[t]))))) else none
  |none=>none)
 |some (.v _ true)=>none
 |some (.x c)=>some (.xc c τ)
 |none=>none
def IC:Option T->Option (List Str×List T)
 |some (.osd ks l)=>some (ks,l)
 |_=>none
theorem zc7{o:Option T}{ks:List Str}{l:List T}(h:IC o=some (ks,l)):o=some (.osd ks l):=by
 unfold IC at h;split at h
 .cases h;rfl
 .cases h
open Classical in
def Ht(C:Addr)(fs:List Str)(j i:Nat)(mk m:AE->Option Rs):AE->Option Out:=λτ=>match m τ with
 |some (.v t false)=>(match Er τ i C fs with
  |some (p,l)=>(match IC l[j]? with
   |some (ks,lv)=>(match mk τ with
    |some (.v (.str k) _)=>if k∉ks/\ks.length<100000 then some (.nx (τ.set i (some (.oob p C fs (l.set j (.osd (ks++[k]) (lv++[t.share]))))))) else none
    |some (.v _ _)=>none
    |some (.x c)=>some (.xc c τ)
    |none=>none)
   |none=>none)
  |none=>none)
 |some (.v _ true)=>none
 |some (.x c)=>some (.xc c τ)
 |none=>none
def KS:AE->Option Rs:=λ_=>some (.v (.osd [] []) false)
theorem Q2{f:Str}{y:V}:∀{fs:List Str} {xs:List V},fs[xs.length]?=some f->(fs.take xs.length).contains f=false->CY f y (fs.zip xs)=fs.zip (xs++[y])
 |[],xs,h,_=>by simp at h
 |g::r,[],h,_=>by
  simp at h;subst h;simp[CY]
 |g::r,x::xs,h,hn=>by
  rw[yaq,List.take_succ_cons,List.contains_cons,ybu]at hn
  have hg:¬ g=f:=λz=>by
   have:=hn.1;rw[z,yf0]at this;cases this
  have ih:=Q2 (f:=f) (y:=y) (fs:=r) (xs:=xs) (by simpa using h) hn.2
  rw[ydz,ycj,ydz,<- ih];show(if g=f then _ else _)=_
  rw[if_neg hg]
section
variable {K:kA}{F H:Hp}{C:Addr}{fs:List Str}{l:List T}
theorem Rp.oob_inv{p:Addr}{x:V}{A:Rg}(h:Rp K F H (.oob p C fs l) x A):∃dx xs Rr,x=.ref p/\A=(λa=>a=p\/∃j,Rr j a)/\F p=none/\H p=some (.ins C dx (fs.zip xs))/\RpO K F H l xs Rr/\∀j,¬ Rr j p:=by
 cases h with
 |oob R f h e c d dp o=>exact⟨_,_,R,rfl,rfl,f,h,⟨e,c,d,o⟩,dp⟩
theorem Qs{p dx:Addr}{xs:List V}{Rr:Nat->Rg}(r:RpO K F H l xs Rr)(f:F p=none)(h:H p=some (.ins C dx (fs.zip xs)))(dp:∀j,¬ Rr j p):Rp K F H (.oob p C fs l) (.ref p) (λa=>a=p\/∃j,Rr j a):=.oob Rr f h r.len r.rep r.dis dp r.out
theorem Rp.osd_inv{ks:List Str}{x:V}{A:Rg}(h:Rp K F H (.osd ks l) x A):∃p xs,x=.ref p/\A=(λa=>a=p)/\F p=none/\H p=some (.dK (DZ ks xs))/\l.length=xs.length/\ks.length=xs.length/\∀(i:Nat) (t:T) (x:V),l[i]?=some t->xs[i]?=some x->Rp K F H t x R0:=by
 cases h with
 |osd f h e ek c=>exact⟨_,_,rfl,rfl,f,h,e,ek,c⟩
end
theorem zi0{ks:List Str}{xs:List V}(h:ks.length=xs.length):(DZ ks xs).length=xs.length:=by
 unfold DZ;rw[List.length_zipWith,h,Nat.min_self]
theorem zi1{ks:List Str}{xs:List V}{kv:Key×V}(h:kv∈DZ ks xs):∃k∈ks,kv.1=Sum.inr k:=by
 induction ks generalizing xs with
 |nil=>cases xs<;>cases h
 |cons a r ih =>
  cases xs with
  |nil=>cases h
  |cons b s =>
   unfold DZ at h;rw[List.zipWith_cons_cons]at h
   rcases ya9.mp h with e|e
   .exact⟨a,yah ..,by rw[e]⟩
   .obtain⟨k,hk,e⟩:=ih (xs:=s) e;exact⟨k,yab _ hk,e⟩
theorem zel{ks:List Str}{xs:List V}{k:Str}{y:V}(h:ks.length=xs.length)(hk:k∉ks):Cb (DZ ks xs) (Sum.inr k) y=DZ (ks++[k]) (xs++[y]):=by
 unfold Cb;rw[if_neg]
 .unfold DZ;rw[List.zipWith_append h]
  rfl
 .intro c;obtain⟨kv,h1,h2⟩:=List.any_eq_true.mp c;obtain⟨k',h3,h4⟩:=zi1 h1;have:=yf2 h2;rw[h4]at this;cases this;exact hk h3
section
variable {X:Cx}{E:L2.St->XK}{ca:Str->Value}{m mk:AE->Option Rs}{e k:Expr}{pos p1 pos2 pos3:Pos}{mu:Bool}{i j:Nat}{x f:Str}{C:Addr}{fs:List Str}
theorem zjj:PE X (.Dict [] [] pos) (tM X.K E ca KS):=PE.weak zh4 λσ H Q h p hp=>by
 obtain⟨F,τ,R,S,q⟩:=h;exact q F (upd H p (.dK [])) (.ref p) _ (Ext.newO S.fh hp) (Rp.osd (ks:=[]) (xs:=[]) (l:=[]) (Es S.fh hp) Bb rfl rfl λi t x h=>by simp at h)
theorem Pq(c:Cls X.K C)(hn:Bo X.K C f)(hj:fs[j]?=some f)(hnf:(fs.take j).contains f=false)(hjl:j<900)(hN:X.N[i]?=some x)(hv:DM X.env.scope x)(hd:(x == ("__debug__":Str))=false)(hcd:(x == ("__classdict__":Str))=false)(he:PE X e (tM X.K E ca m))
  (hs:swapsWith e (some (.Attribute (.Name x p1) f pos2)) pos.line X.env=pure false):PS X (.Assign [.Attribute (.Name x p1) f pos2] e pos) (tS X.K E ca mu (DT C fs j i m)):=by
 refine PS.weak (zju (Gs hN hv hd hcd) he hs) λD σ H h=>?_
 obtain⟨F,τ,R,S,q⟩:=h;refine⟨F,τ,R,S,?_⟩;unfold DT at q;cases hm:m τ with
 |none=>simp only[hm]at q
 |some r =>
  simp only[hm]at q;cases r with
  |x c=>exact λF' H' e=>q F' H' σ R e.stp0 (S.ext e)
  |v t bb =>
   cases bb with
   |true=>exact λF1 H1 y B e1 g1=>q.elim
   |false =>
    intro F1 H1 y B e1 g1;have g1':Rp X.K F1 H1 t y B:=g1;simp only at q;cases ho:Er τ i C fs with
    |none=>simp only[ho]at q
    |some pl =>
     obtain⟨p,l⟩:=pl;simp only[ho]at q
     by_cases hl:l.length=j
     .rw[if_pos hl]at q;have S1:=S.ext e1;have ht:=Md ho;obtain⟨y2,ey,ry⟩:=S.rep i _ ht;obtain⟨dx,xs,Rr,rfl,hA,fp,hp,ro,dp⟩:=ry.oob_inv;have hxs:xs.length=j:=by rw[<- ro.len];exact hl
      have hp1:=e1.hh _ _ hp;have pB:¬ B p:=λz=>by rw[e1.nb p z]at hp;cases hp
      have fp1:F1 p=none:=(ry.ext e1 |>.dom (by rw[hA];exact .inl rfl)).1
      refine⟨_,ey,p,C,dx,fs.zip xs,rfl,hp1,c,hn,?_,?_⟩
      .rw[List.length_zip]
       omega
      .rw[Q2 (by rw[hxs];exact hj) (by rw[hxs];exact hnf)]
       have ro1:=ro.ext e1;have ro2:RpO X.K F1 (upd H1 p (.ins C dx (fs.zip (xs++[y])))) (l++[t]) (xs++[y]) _:=(ro1.upd dp).snoc (g1'.upd pB) λj a z1 z2=>ro.apart e1 z2 j z1
       have dp2:∀j,¬ (if j=l.length then B else Rr j) p:=λj z=>by
        by_cases hj:j=l.length
        .simp only[hj,yeo]at z;exact pB z
        .simp only[hj,yep]at z;exact dp j z
       have r2:=Qs (C:=C) (fs:=fs) ro2 fp1 Bb dp2
       obtain⟨S3,st3⟩:=S1.upd ht ey (by rw[hA];exact .inl rfl) r2 (B:=B) (λa z=>by
        rw[hA]
        rcases z with z|z
        .exact .inl (.inl z)
        .rcases Pj z with w|w
         .exact .inl (.inr w)
         .exact .inr w) (λj a z1 z2=>S.apart e1 z2 j z1)
       exact q F1 _ σ _ (e1.stp.trans st3) S3
     .rw[if_neg hl]at q;exact q.elim
def rSetS:LL:=λo i v H Q=>∃p kvs k,o=.ref p/\i=.str k/\H p=some (.dK kvs)/\kvs.length<sizeLine/\Q (upd H p (.dK (Cb kvs (Sum.inr k) v)))
theorem ze8(hu:X.A.units+1<cLine):VJ X rSetS:=by
 intro pins s σ H o i v ov iv u Q I ro ri rv h;obtain⟨p,kvs,k,rfl,rfl,hp,hl,q⟩:=h;cases ro;exact zdj hu I (Hb.k (k:=Sum.inr k) hp hl) (show L2.RelV (kV (Sum.inr k)) iv from ri) rv λs' I'=>⟨_,I',q⟩
theorem K9{K:kA}{F H:Hp}{R:Nat->Rg}{z:Str}{b:Bool}{y:V}{B:Rg}(g:Cz K F H R (.str z) b y B):y=.str z:=by
 cases b with
 |true=>obtain⟨_,A,_,r⟩:=g;exact r.str_inv
 |false=>exact(show Rp K F H _ _ _ from g).str_inv
theorem s_dpf(hu:X.A.units+1<cLine)(c:Cls X.K C)(hn:Bo X.K C f)(hj:fs.findIdx? (· == f)=some j)(hN:X.N[i]?=some x)(hv:DM X.env.scope x)(hd:(x == ("__debug__":Str))=false)(hcd:(x == ("__classdict__":Str))=false)(he:PE X e (tM X.K E ca m))(hk:PE X k (tM X.K E ca mk))
  (hs:swapsWithSole [.Subscript (.Attribute (.Name x p1) f pos3) k pos2] e pos.line X.env=pure false) (hw:swappedStores [.Subscript (.Attribute (.Name x p1) f pos3) k pos2] e X.env=pure none)
  (ha : ∀ v, assign (.Subscript (.Attribute (.Name x p1) f pos3) k pos2) X.env v = (do
   let ov <- holding [v] (eval (.Attribute (.Name x p1) f pos3) X.env);let iv <- holding [v,ov] (eval k X.env)
   standAt pos2
   holding [v,ov,iv] (setItem ov iv v)
   release [v,ov,iv] [])) :
  PS X (.Assign [.Subscript (.Attribute (.Name x p1) f pos3) k pos2] e pos) (tS X.K E ca mu (Ht C fs j i mk m)):=by
 refine PS.weak (Q6 he (zjz (Qd (Gs hN hv hd hcd) rfl) hk (ze8 hu) ha) hs hw rfl) λD σ H h=>?_
 obtain⟨F,τ,R,S,q⟩:=h;refine⟨F,τ,R,S,?_⟩;unfold Ht at q;cases hm:m τ with
 |none=>simp only[hm]at q
 |some r =>
  simp only[hm]at q;cases r with
  |x c=>exact λF' H' e=>q F' H' σ R e.stp0 (S.ext e)
  |v t bb =>
   cases bb with
   |true=>exact λF1 H1 y B e1 g1=>q.elim
   |false =>
    intro F0 H1 y B e0 g0;simp only at q;obtain⟨F1,e1,_,g1⟩:=Cz.frz (b:=false) S e0 g0;have g1':Rp X.K F1 H1 t.share y R0:=(show Rp X.K F1 F1 t.share y R0 from g1).any;cases ho:Er τ i C fs with
    |none=>simp only[ho]at q
    |some pl =>
     obtain⟨p,l⟩:=pl;simp only[ho]at q;cases hos:IC l[j]? with
     |none=>simp only[hos]at q
     |some kl =>
      obtain⟨ks,lv⟩:=kl;simp only[hos]at q;have hlj:=zc7 hos;have S1:=S.ext e1;have ht:=Md ho;obtain⟨y2,ey,ry⟩:=S1.rep i _ ht;obtain⟨dx,xs,Rr,rfl,hA,fp,hp,ro,dp⟩:=ry.oob_inv;have hjl:=(ya8.mp hlj).1;have hjx:j<xs.length:=by rw[<- ro.len];exact hjl
      have hx:xs[j]?=some xs[j]:=ya0 hjx;refine⟨_,ey,p,C,dx,_,xs[j],rfl,hp,c,hn,SU hj hx,F1,τ,R,S1,?_⟩;cases hkk:mk τ with
      |none=>simp only[hkk]at q
      |some r =>
       simp only[hkk]at q;cases r with
       |x c=>exact λF' H' e=>q F' H' σ R ((e1.stp0).trans e.stp0) (S1.ext e)
       |v tk bk =>
        cases tk with
        |str kk =>
         simp only at q
         by_cases hc:kk∉ks/\ks.length<100000
         .rw[if_pos hc]at q;intro F2 H2 z CC e2 g2;have hz:=K9 g2;subst hz;have e2':Ext F1 H1 F2 H2 R0:=e2.mono λ_ z=>z.elim
          have S2:=S1.ext e2;have ry2:=ry.ext e2;have ro2:=ro.ext e2;have fp2:F2 p=none:=(ry2.dom (by rw[hA];exact .inl rfl)).1
          have hp2:=e2.hh _ _ hp;have rk:=ro2.rep j _ _ hlj hx;obtain⟨pd,ys,exj,hAd,fpd,hpd,el,ek,cc⟩:=rk.osd_inv;have g2':Rp X.K F2 H2 t.share y R0:=g1'.ext e2;have pdj:Rr j pd:=by rw[hAd]
          have pne:pd≠p:=λz=>dp j (z▸pdj)
          refine⟨pd,DZ ks ys,kk,exj,rfl,hpd,?_,?_⟩
          .rw[zi0 ek,<- ek,yei];exact ydj hc.2 (by decide)
          .rw[zel ek hc.1]
           have r3:Rp X.K F2 (upd H2 pd (.dK (DZ (ks++[kk]) (ys++[y])))) (.osd (ks++[kk]) (lv++[t.share])) (.ref pd) (λa=>a=pd):=by
            refine .osd fpd Bb (by simp[el]) (by simp[ek]) λj t' x' h1 h2=>?_
            rcases Nat.lt_or_ge j lv.length with w|w
            .rw[yas w]at h1;rw[yas (by omega)]at h2
             exact(cc j t' x' h1 h2).any
            .rw[yax w]at h1;rw[yax (by omega)]at h2
             have hj:j - lv.length=0:=by
              have:=(ya8.mp h1).1;simp at this
              omega
             have hj2:j - ys.length=0:=by omega
             rw[hj]at h1;rw[hj2]at h2;simp at h1 h2;subst h1 h2;exact g2'.any
           have oth:∀k,k≠j->¬ Rr k pd:=λk hk z=>ro2.dis k j pd hk z pdj
           have ro3:RpO X.K F2 (upd H2 pd (.dK (DZ (ks++[kk]) (ys++[y])))) (l.set j (.osd (ks++[kk]) (lv++[t.share]))) xs Rr:=by
            refine⟨by rw[yct];exact ro2.len,λk t' x' h1 h2=>?_,ro2.dis,λk a z=>by rw[yct];exact ro2.out k a z⟩
            by_cases hk:k=j
            .subst hk;rw[yao hjl]at h1;rw[hx]at h2;cases h1;cases h2;rw[exj,hAd];exact r3
            .rw[yan (yb1 hk)]at h1;exact(ro2.rep k t' x' h1 h2).upd (oth k hk)
           have r4:=Qs (C:=C) (fs:=fs) (p:=p) (dx:=dx) ro3 fp2 (by rw[Ad (yb1 pne)];exact hp2) dp
           obtain⟨S3,st3⟩:=S2.upd ht ey (p:=pd) (by rw[hA];exact .inr ⟨j,pdj⟩) r4 (B:=R0) (λa z=>.inl (by rw[hA];exact z)) (λj a z1 z2=>z2)
           exact q F2 _ σ _ ((e1.stp.trans e2.stp0).trans st3) S3
         .rw[if_neg hc]at q;exact q.elim
        |_=>exact λF' H' z CC e2 g2=>q.elim
end
section
variable {X:Cx}{E:L2.St->XK}{ca:Str->Value}{ma mb mc:AE->Option Rs}{a b c:Expr}{pos:Pos}{x:Str}{t:T}
theorem r_con{v:V}{u:Value}(hg:Gl X x)(hm:X.mg x=some u)(rv:RelV v u)(hd:(x == ("__debug__":Str))=false)(r:∀F:Hp,Rp X.K F F t v R0):PE X (.Name x pos) (tM X.K E ca (mC t)) :=
 PE.weak (Ma hg hm rv hd) λσ H Q h=>by
  obtain⟨F,τ,R,S,q⟩:=h;exact q F H v R0 (Ext.refl S.fh) (r F).any
def E1(g g':T->T->Option T)(ma mb mc:AE->Option Rs):AE->Option Rs:=λτ=>match ma τ,mb τ with
 |some (.v t _),some (.v u _)=>if t.flat && u.flat then (match g t u with
  |some (.bl true)=>(match mc τ with
   |some (.v w _)=>if w.flat then (match g' u w with
    |some (.bl k)=>some (.v (.bl k) false)
    |_=>none) else none
   |_=>none)
  |some (.bl false)=>some (.v (.bl false) false)
  |_=>none) else none
 |_,_=>none
theorem HH{K:kA}{F H F' H':Hp}{R:Nat->Rg}{v:T}{b:Bool}{x:V}{B:Rg}(g:Cz K F H R v b x B)(h:v.flat=true):Rp K F' H' v x R0:=by
 cases b with
 |true=>obtain⟨_,A,_,r⟩:=g;exact r.flat_any h
 |false=>exact(show Rp K F H v x B from g).flat_any h
theorem P5{g g':T->T->Option T}{σ:L2.St}{H:Hp}{Q:VK}(h:tM X.K E ca (E1 g g' ma mb mc) σ H Q):Li (BU X.K g) (BU X.K g') (tM X.K E ca ma) (tM X.K E ca mb) (tM X.K E ca mc) σ H Q:=by
 obtain⟨F,τ,R,S,q⟩:=h;refine⟨F,τ,R,S,?_⟩;unfold E1 at q;cases h1:ma τ with
 |none=>simp only[h1]at q
 |some r1 =>
  cases r1 with
  |x c=>simp only[h1]at q
  |v t b1 =>
   cases h2:mb τ with
   |none=>simp only[h1,h2]at q
   |some r2 =>
    cases r2 with
    |x c=>simp only[h1,h2]at q
    |v u b2 =>
     simp only[h1,h2]at q
     by_cases hf:(t.flat && u.flat)=true
     .rw[if_pos hf]at q;rw[ya1]at hf;intro F1 H1 x B1 e1 g1;have S1:=S.ext e1;refine⟨F1,τ,R,S1,?_⟩;rw[h2];intro F2 H2 y B2 e2 g2;have S2:=S1.ext e2;have e12:Ext F H F2 H2 R0:=(e1.trans e2).mono λ_ z=>z.elim
      cases hg:g t u with
      |none=>simp only[hg]at q
      |some k =>
       cases k with
       |bl k =>
        cases k with
        |false =>
         simp only[hg]at q;refine⟨F2,t,u,_,S2.fh,HH g1 hf.1,HH g2 hf.2,hg,λF3 H3 z C3 e3 r3=>⟨false,r3.bl_inv,?_⟩⟩
         rw[if_neg ybc];exact q F3 H3 _ R0 (e12.trans0 (e3.mono λ_ z=>z.elim)) (.bl false)
        |true =>
         simp only[hg]at q;refine⟨F2,t,u,_,S2.fh,HH g1 hf.1,HH g2 hf.2,hg,λF3 H3 z C3 e3 r3=>⟨true,r3.bl_inv,?_⟩⟩
         rw[if_pos rfl];have S3:=S2.ext e3;refine⟨F3,τ,R,S3,?_⟩;cases h3:mc τ with
         |none=>simp only[h3]at q
         |some r3 =>
          cases r3 with
          |x c=>simp only[h3]at q
          |v w b3 =>
           simp only[h3]at q
           by_cases hw:w.flat=true
           .rw[if_pos hw]at q;intro F4 H4 z4 B4 e4 g4;have S4:=S3.ext e4;cases hg':g' u w with
            |none=>simp only[hg']at q
            |some k =>
             cases k with
             |bl k =>
              simp only[hg']at q;refine⟨F4,u,w,_,S4.fh,HH g2 hf.2,HH g4 hw,hg',λF5 H5 z5 C5 e5 r5=>?_⟩
              rw[r5.bl_inv];exact q F5 H5 _ R0 (e12.trans0 (((e3.trans e4).trans e5).mono λ_ z=>z.elim)) (.bl k)
             |_=>simp only[hg']at q
           .rw[if_neg hw]at q;exact q.elim
       |_=>simp only[hg]at q
     .rw[if_neg hf]at q;exact q.elim
theorem r_chn{op op':CmpOp}{g g':T->T->Option T}(ho:A3 X (compareOp op) (BU X.K g))(ho':A3 X (compareOp op') (BU X.K g'))(ha:PE X a (tM X.K E ca ma))(hb:PE X b (tM X.K E ca mb))(hc:PE X c (tM X.K E ca mc))(hm:lastMarks [op,op'] [b,c]=false) :
  PE X (.Compare a [op,op'] [b,c] pos) (tM X.K E ca (E1 g g' ma mb mc)):=PE.weak (zeu ho ho' ha hb hc hm) λσ H Q h=>P5 h
theorem zjg{op op':CmpOp}{g g':T->T->Option T}(ho:A3 X (compareOp op) (BU X.K g))(ho':A3 X (compareOp op') (BU X.K g'))(ha:PE X a (tM X.K E ca ma))(hb:PE X b (tM X.K E ca mb))(hc:PE X c (tM X.K E ca mc))(hm:lastMarks [op,op'] [b,c]=false) :
  PT X (.Compare a [op,op'] [b,c] pos) (Aq X.K E ca (E1 g g' ma mb mc)):=PT.weak (zem ho ho' ha hb hc hm) λσ H Q h=>P5 (J2 h)
end
def LV(x:Str):It:=⟨λi _=>i<x.cps.size,λi H y H'=>H'=H/\∃c,x.cps[i]?=some c/\y=.str ⟨#[c]⟩,λi _=>x.cps.size<=i⟩
theorem ze2{P:Program}{w:World}{K:kA}{tg:Expr}(x:Str)(t:Tok)(it:Addr):Turn P w K tg (LV x) [it] it (λi h=>h.IsStrIter it (strIterType x) x t i) where
 mem:=by simp
 obj:=λi h st b hb=>by
  have e:b=it:=by simpa using hb
  subst e;obtain⟨o,e,c,d⟩:=st;exact⟨o,e,λv z=>by rw[d]at z;cases z⟩
 keep:=λi h h' st k=>by
  obtain⟨o,e,c,d⟩:=st;exact⟨o,k it (by simp) o e,c,d⟩
 item:=by
  intro X hP hw hK hc i pins s σ H E I hf st hg;subst hP hw hK;have hi:i<x.cps.size:=hg;obtain⟨f0,f1,f2,f3,f4,f5⟩:=hf it (by simp)
  have Ar:∀(h':Heap),h'.IsStrIter it (strIterType x) x t (i+1)->Heap.SameBut it s.heap h'->∃u,some (Value.str ⟨#[x.cps[i]]⟩ s.toks)=some u /\
   wpAny (model X.prog X.w) X.A (letOwnedTupleGo tg (.ref it) u) (λ_ s2=>∃y H',Inv X pins σ H' s2/\RelV y u/\(LV x).yld i H y H'/\s2.heap.IsStrIter it (strIterType x) x t (i+1)/\∀b∈[it],H' b=none) E { s with heap:=h',toks:=s.toks+1 }:=λh' st' sb=>by
   have I1:Inv X pins σ H { s with heap:=h',toks:=s.toks+1 }:=I.turned (t':=s.toks+1) (λb o hb e=>(sb.2 b hb).trans e) f0 f1 f3 f4 f5
   obtain⟨o,e,c,d⟩:=id st';refine⟨_,rfl,IV (s:={ s with heap:=h',toks:=s.toks+1 }) e c d ?_ ⟨.str ⟨#[x.cps[i]]⟩,H,I1,⟨_,rfl⟩,⟨rfl,_,ycu hi,rfl⟩,st',λb hb=>(hf b hb).1⟩⟩
   unfold strIterType;split<;>decide
  cases ha:(x.cps.all λx=>decide (x<128)) with
  |true =>
   have e:strIterType x="str_ascii_iterator":=by unfold strIterType;rw[ha];rfl
   rw[e]at st Ar ⊢;exact wpAny_pyNext_ascii_item st (ycu hi) Ar
  |false =>
   have e:strIterType x="str_iterator":=by unfold strIterType;rw[ha];rfl
   rw[e]at st Ar ⊢;exact wpAny_pyNext_wide_item st (ycu hi) Ar
 done:=by
  intro X hP hw hK hc i pins s σ H E I hf st hg;subst hP hw hK;have hi:x.cps.size<=i:=hg;obtain⟨f0,f1,f2,f3,f4,f5⟩:=hf it (by simp)
  have n:x.cps[i]?=none:=Array.getElem?_eq_none hi;cases ha:(x.cps.all λx=>decide (x<128)) with
  |true =>
   have e:strIterType x="str_ascii_iterator":=by unfold strIterType;rw[ha];rfl
   rw[e]at st;exact wpAny_pyNext_ascii_end (I.ok.hd hc) st n λh' eb=>⟨rfl,I.turned (t':=s.toks) (λb o hb e=>eb b o hb e) f0 f1 f3 f4 f5⟩
  |false =>
   have e:strIterType x="str_iterator":=by unfold strIterType;rw[ha];rfl
   rw[e]at st;exact wpAny_pyNext_wide_end (I.ok.hd hc) st n λh' eb=>⟨rfl,I.turned (t':=s.toks) (λb o hb e=>eb b o hb e) f0 f1 f3 f4 f5⟩
 self:=λ_ i s Q E st h=>by
  cases ha:(x.cps.all λx=>decide (x<128)) with
  |true =>
   have e:strIterType x="str_ascii_iterator":=by unfold strIterType;rw[ha];rfl
   rw[e]at st;exact wpAny_pyIter_striter_ascii st h
  |false =>
   have e:strIterType x="str_iterator":=by unfold strIterType;rw[ha];rfl
   rw[e]at st;exact wpAny_pyIter_striter_wide st h
def iStrT(tl:TE):TI:=λσ H P=>tl σ H λx H1=>∃y,x=.str y/\P (LV y) H1
section
variable {X:Cx}{tg l e:Expr}{tl:TE}{E:L2.St->XK}{ca:Str->Value}{m:AE->Option Rs}
theorem zjx(hl:PE X l tl):PI X tg l (iStrT tl):=by
 intro pins s σ H R I h;refine AR (hl pins s σ H _ I h) λv s1 ⟨x,H1,I1,r1,q1⟩=>?_
 obtain⟨y,rfl,q⟩:=q1;obtain⟨t,rfl⟩:=(show ∃t,v=Value.str y t from r1);refine wpAny_pyIter_strU ?_;refine⟨s1.heap.objs.size,[s1.heap.objs.size],_,_,H1,rfl,I1.kept (t':=s1.toks) λb o e=>ya4 _ e,ze2 y t _,⟨_,yag _ rfl,rfl,rfl⟩,λb hb=>?_,q⟩
 have e:b=s1.heap.objs.size:=by simpa using hb
 subst e;exact I1.fpOk (yaa _) (I1.hok.fresh (yaa _))
def FW(x:Str):List T:=x.cps.toList.map λc=>.str ⟨#[c]⟩
theorem zi7{K:kA}{F:Hp}{x:Str}:Fs K (LV x) F (FW x):=by
 intro i F' H' s1 s2;refine⟨λt ht=>?_,λe=>?_⟩
 .unfold FW at ht;rw[ya7]at ht;obtain⟨c,e1,rfl⟩:=ya2.mp ht;have hi:i<x.cps.size:=by simpa using (ya8.mp e1).1
  refine⟨hi,λy H'' z=>?_⟩
  obtain⟨rfl,c',hc,rfl⟩:=z;rw[Array.getElem?_toList,hc]at e1;cases e1;exact⟨F',Ext.refl s2,.str _⟩
 .show x.cps.size<=i;rw[e];simp[FW]
def Bz(m:AE->Option Rs):AE->Option RsL:=λτ=>match m τ with
 |some (.v (.str x) _)=>some (.v (FW x) false)
 |_=>HG m τ
theorem zjh(ha:PE X e (tM X.K E ca m)):PI X tg e (tI X.K E ca (Bz m)):=by
 refine PI.weak (PI.or (QR ha) (zjx ha)) λσ H P h=>?_
 obtain⟨F,τ,R,S,q⟩:=h
 by_cases hs:∃x b,m τ=some (.v (.str x) b)
 .obtain⟨x,b,hm⟩:=hs;have e:Bz m τ=some (.v (FW x) false):=by unfold Bz;rw[hm]
  rw[e]at q;refine .inr ⟨F,τ,R,S,?_⟩;rw[hm];intro F1 H1 y B e1 g1;exact⟨x,K9 g1,q F1 H1 _ (e1.mono λ_ z=>z.elim) zi7⟩
 .have e:Bz m τ=HG m τ:=by
   unfold Bz;split
   .rename_i x b hm;exact absurd ⟨x,b,hm⟩ hs
   .rfl
  rw[e]at q;exact .inl ⟨F,τ,R,S,q⟩
end
open Classical in
def met(val:Nat->Key):Nat->List Key
 |0=>[]
 |i+1=>if val i∈met val i then met val i else met val i++[val i]
open Classical in
theorem SI(val:Nat->Key):∀i,(met val i).length<=i
 |0=>yaa 0
 |i+1=>by
  have:=SI val i;unfold met;split
  .omega
  .rw[yad,ybk]
   omega
section
variable {prog:Program}{w:World}{A:Around}{E:Value->Shared->Prop}
open Classical in
theorem SS{knd:PySem.KeyKind prog w Key}{R:Result->Shared->Prop}{I:Addr}{fp wr:List Addr}{G:Array GenState->Array GenState->Prop}{n:Nat}{P:Nat->Value->Prop}{St:Nat->Shared->Prop}(W:WalksS prog w A.in1 I fp wr G n P St)(S:Addr)(hS:S∉fp)(val:Nat->Key)
  (hP:∀i v,P i v->knd.is (val i) v=true/\v.scannable=true) (hn:n+1<scanBound):∀(k i:Nat) (s:Shared),n - i=k->i<=n->St i s->Heap.SetOf knd s.heap S (λk'=>decide (k'∈met val i)) (met val i).length ->
   (∀s':Shared,Moved (S::wr) G s s'->Heap.SetOf knd s'.heap S (λk'=>decide (k'∈met val n)) (met val n).length->R (Except.ok (Flow.ret Value.none)) s') ->
   codeAny (model prog w) A (Code.builtin "set.update.loop" { pos:=[Value.ref S,Value.ref I] }) R s
 |0,i,s,hk,hi,st,hset,h=>by
  have e:i=n:=by omega
  subst e;refine yex F.entry_set_update_loop ?_;rw[Around.under_plainId yd3];unfold Builtin.«set.update.loop»;refine yec (W.done s _ _ st λs' mv=>?_)
  refine yef ?_;refine h s' (mv.mono λb hb=>yab _ hb) ?_
  obtain⟨o,es,ep,t,h1,h2⟩:=hset;exact⟨o,es,ep,t,mv.heap S o (λz=>hS (W.sub S z)) h1,h2⟩
 |k+1,i,s,hk,hi,st,hset,h=>by
  have hi':i<n:=by omega
  refine yex F.entry_set_update_loop ?_;rw[Around.under_plainId yd3];unfold Builtin.«set.update.loop»;refine yec (W.item i s _ _ hi' st λv s' pv st' mv=>?_)
  obtain⟨hk1,hk2⟩:=hP i v pv
  have hset':Heap.SetOf knd s'.heap S (λk'=>decide (k'∈met val i)) (met val i).length:=by
   obtain⟨o,es,ep,t,h1,h2⟩:=hset;exact⟨o,es,ep,t,mv.heap S o (λz=>hS (W.sub S z)) h1,h2⟩
  refine yec (yed ?_);unfold setAdd;refine yed (yec (knd.pyHash hk1 ?_));have hl:=SI val i;refine wpAny_setAddHashed_of (s:={ s' with toks:=s'.toks+1 }) hk1 hk2 hset' (by omega) λh' sb hset2=>?_
  refine yef ⟨plainId_quiet yd3 _,?_⟩;have st2:=W.frame (i+1) s' h' (s'.toks+1) st' (yc6 _) λb hb o e=>(sb.2 b (λz=>hS (z▸hb))).trans e
  have mv2:Moved (S::wr) G s { s' with heap:=h',toks:=s'.toks+1 }:=(mv.mono λb hb=>yab _ hb).then_heap (yc6 _) λb o hb e=>(sb.2 b (λz=>hb (by rw[z];exact yah ..))).trans e
  refine SS W S hS val hP hn k (i+1) _ (by omega) (by omega) st2 ?_ λs'' mv3 hs3=>h s'' (mv2.trans W.gtrans mv3) hs3
  have hS:(λk'=>(decide (k'∈met val i) || decide (k'=val i)))=λk'=>decide (k'∈met val (i+1)):=funext λk'=>by
   conv=>rhs;unfold met
   by_cases hm:val i∈met val i
   .rw[if_pos hm]
    by_cases e:k'=val i
    .rw[e,yer hm];rfl
    .rw[ye8 e,ydc]
   .rw[if_neg hm,yc1];simp only[ybt,yez,yaj,ya3]
  have hN:(if decide (val i∈met val i)=true then (met val i).length else (met val i).length+1)=(met val (i+1)).length:=by
   conv=>rhs;unfold met
   by_cases hm:val i∈met val i
   .rw[if_pos hm,if_pos (yer hm)]
   .rw[if_neg hm,if_neg (λz=>hm (yf2 z)),yad,ybk]
  obtain⟨o,es,ep,t,h1,h2,h3,h4,h5,h6,h7,h8⟩:=hset2;refine⟨o,es,ep,t,h1,h2,h3,h4,λk'=>?_,h6,h7,h8.trans hN⟩
  rw[<- h5 k'];have e:=congrFun hS k';show decide (k'∈met val (i+1))=true ↔ _;rw[<- e]
end
open Classical in
theorem zaz{prog:Program}{w:World}{A:Around}{E:Value->Shared->Prop}{s:Shared}{l:Addr}{items:Array Value}{knd:PySem.KeyKind prog w Key}{val:Nat->Key}{Q:Value->Shared->Prop}(hh:A.handled=none)(hl:s.heap.IsList l items)
  (hP:∀(i:Nat) (v:Value),items[i]?=some v->knd.is (val i) v=true/\v.scannable=true) (hb:items.size+1<scanBound)
  (h:∀(h':Heap) (tk:Nat),Heap.SetOf knd h' s.heap.objs.size (λk'=>decide (k'∈met val items.size)) (met val items.size).length->(∀(b:Nat) (o:Obj),b<s.heap.objs.size->s.heap.get? b=some o->h'.get? b=some o)->Q (.ref s.heap.objs.size) { s with heap:=h',toks:=tk }) :
  wpAny (model prog w) A (call (Value.type "set") [Value.ref l]) Q E s:=by
 obtain⟨c,tl,hmro⟩:=ycy.mro;have hmade:=ycy.made;have hsub:=ycy.sub;refine yej (codeAny_of_tree ?_);refine yef ⟨Code.quiet_builtin _ (by decide +kernel),yex F.entry_type_call ?_⟩
 have hu:=Around.under_plain (A:=A) (weight_type_call_type "set" [Value.ref l] []) rfl;have h1:=ycy.notType;have h2:=ycy.canCreate;have hct:=F.typeCall_set_1 (Value.ref l);show wpAny (model prog w) (A.under (Code.builtin "type.__call__" { pos:=[Value.type "set",Value.ref l] })) _ _ _ s;rw[hu];unfold Builtin.«type.__call__»;refine yf4 (by rw[h1];rfl) (yf4 (by rw[h2];rfl) ?_)
 refine yec (yey hct (yec (yey hmro (yf4 rfl (yec (yey hmade (yec (yef (yec (yed (yej (yek (code_set_new_1 (E:=λ_ _=>False) (Value.ref l) (Q₁:=λv s'=>∃led:Bool,v=.ref s.heap.objs.size/\s'={ s with heap:=s.heap.push { cls:=.type "set",data:=.set #[] 0 (SetTable.fresh 0 0 led) } }) λled=>⟨led,rfl,rfl⟩) λr s₁ hr=>?_))))))))))))
 cases r with
 |error e=>exact False.elim hr
 |ok fl =>
  cases fl with
  |next=>exact False.elim hr
  |brk=>exact False.elim hr
  |cont=>exact False.elim hr
  |ret v =>
   obtain⟨led,rfl,rfl⟩:=(show ∃led:Bool,v=.ref s.heap.objs.size/\s₁={ s with heap:=s.heap.push { cls:=.type "set",data:=.set #[] 0 (SetTable.fresh 0 0 led) } } from hr)
   have ho:(s.heap.push { cls:=.type "set",data:=.set #[] 0 (SetTable.fresh 0 0 led) }).get? s.heap.objs.size=some { cls:=.type "set",data:=.set #[] 0 (SetTable.fresh 0 0 led) }:=yag _ rfl;have hT:Shared.TypeIs { s with heap:=s.heap.push { cls:=.type "set",data:=.set #[] 0 (SetTable.fresh 0 0 led) } } (.ref s.heap.objs.size) "set":=⟨_,ho,rfl⟩
   have hin:=ycy.init;refine yec (yf5 hT hsub (yf4 rfl (yec (yed ?_))));unfold callSpecial?;refine yec (wpAny_specialOf hT hin.lookup (yed (yec (yey (hin.bind _) (yec (yej (yek (R:=wants (λv s'=>v=.none/\∃tk h',s'={ s with heap:=h',toks:=tk }/\Heap.SetOf knd h' s.heap.objs.size (λk'=>decide (k'∈met val items.size)) (met val items.size).length/\∀(b:Nat) (o:Obj),b<s.heap.objs.size->s.heap.get? b=some o->h'.get? b=some o) λ_ _=>False) (yew hin.plain F.entry_set_init (check_set_init_1 hT ?_)) λr s₂ hr₂=>?_)))))))
   .unfold Builtin.«set.__init__» noKeywords;refine yec (wpAny_ite_true rfl (yef ?_));unfold typeNameOfCut shownTypeOf;refine yec (yec (yec (wpAny_typeOf hT (yf4 (by decide +kernel) (yef ?_)))))
    refine yey (rfl:typeNameCut 200 (Value.type "set")=pure _) ?_;refine yec (yey (rfl:checkCount _ 0 1 1=pure ()) ?_);refine yec (yef ?_);unfold setUsed setState;refine yec (yec (yec (wpAny_load ho (yf4 rfl (yef (yef (yf4 rfl ?_)))))));obtain⟨ol,hol,hcl,nl,hdl⟩:=id hl;have hol2:(s.heap.push { cls:=.type "set",data:=.set #[] 0 (SetTable.fresh 0 0 led) }).get? l=some ol:=ya4 _ hol;have hTl:Shared.TypeIs { s with heap:=s.heap.push { cls:=.type "set",data:=.set #[] 0 (SetTable.fresh 0 0 led) } } (.ref l) "list":=⟨_,hol2,hcl⟩
    unfold Builtin.Frozenset.updateFrom Builtin.Frozenset.isAnySet;refine yec (yec (yec (yf5 hTl F.sub_list_set ?_)));have hl2:(s.heap.push { cls:=.type "set",data:=.set #[] 0 (SetTable.fresh 0 0 led) }).IsList l items:=⟨ol,hol2,hcl,nl,hdl⟩;refine yf5 hTl F.sub_list_frozenset (yf4 rfl (yec (wpAny_typeOf hTl (yf4 (by decide +kernel) (yec (yeg hl2 ?_))))))
    have lt:l<s.heap.objs.size:=yae hol;have hsz:(s.heap.push { cls:=.type "set",data:=.set #[] 0 (SetTable.fresh 0 0 led) }).objs.size=s.heap.objs.size+1:=ybx _ _;generalize hhp:s.heap.push { cls:=.type "set",data:=.set #[] 0 (SetTable.fresh 0 0 led) }=hp at *
    have hS:s.heap.objs.size∉[hp.objs.size,l]:=by
     rw[hsz];intro z
     rcases ya9.mp z with e|e
     .exact absurd e (yaw (yci _))
     .exact absurd (ya3.mp e) (Nat.ne_of_gt lt)
    refine yec (wpAny_runValue ?_);refine SS (knd:=knd) (A:=A.in1.in1) (Walks.list (A:=A.in1.in1.in1) hh hp.objs.size l (by rw[hsz];exact yaw (yc3 lt)) items).toS s.heap.objs.size hS val (λi v e=>hP i v e) hb items.size 0 _ (by omega) (ybe _) ⟨?_,?_⟩ ?_ λs' mv hs'=>?_
    .exact⟨_,yag _ rfl,rfl,rfl⟩
    .exact⟨ol,ya4 _ hol2,hcl,nl,hdl⟩
    .letI:BEq Key:=⟨λa b=>decide (a=b)⟩
     haveI:LawfulBEq Key:={ eq_of_beq:=λh=>yf2 h,rfl:=yer rfl }
     have e0:=(setObjOf_fresh (prog:=prog) (w:=w) (knd:=knd) led).setOf (h:=hp.push { cls:=.type "list_iterator",data:=.fields #[.ref l,.int 0 0] }) (a:=s.heap.objs.size) (ya4 _ ho) (by decide)
     obtain⟨o,es,ep,t,g1,g2,g3,g4,g5,g6,g7,g8⟩:=e0;refine⟨o,es,ep,t,g1,g2,g3,g4,λk'=>?_,g6,g7,g8⟩
     rw[<- g5 k'];simp[met]
    .refine yef (yef ?_)
     have b2:∀(b:Nat) (o:Obj),b<s.heap.objs.size->s.heap.get? b=some o->s'.heap.get? b=some o:=λb o hb e=>by
      refine mv.heap b o (λz=>?_) (ya4 _ (by rw[<- hhp];exact ya4 _ e))
      rcases ya9.mp z with e|e
      .exact absurd e (yaw hb)
      .have e:=ya3.mp e;rw[hsz]at e;exact absurd e (yaw (yc3 hb))
     have m1:=mv.gens;have m2:=mv.drawn;have m3:=mv.os;obtain⟨hh',g',d',t',os'⟩:=s';refine⟨rfl,t',hh',?_,hs',b2⟩;simp only at m1 m2 m3;rw[m1,m2,m3]
   .cases r with
    |error e=>exact False.elim hr₂
    |ok fl =>
     cases fl with
     |next=>exact False.elim hr₂
     |brk=>exact False.elim hr₂
     |cont=>exact False.elim hr₂
     |ret v =>
      obtain⟨rfl,tk,h',rfl,hs,hk⟩:=(show v=.none/\∃tk h',s₂={ s with heap:=h',toks:=tk }/\Heap.SetOf knd h' s.heap.objs.size (λk'=>decide (k'∈met val items.size)) (met val items.size).length/\∀(b:Nat) (o:Obj),b<s.heap.objs.size->s.heap.get? b=some o->h'.get? b=some o from hr₂)
      refine yef (yf4 rfl (yef ?_));exact h h' tk hs hk
def O8(P:Program)(w:World)(a:Addr)(ks:List Key):HO:=.ext λh=>Heap.SetOf (Bi P w) h a (λk=>@decide (k∈ks) (Classical.propDecidable _)) ks.length
section
variable {X:Cx}
theorem zdp(hc:X.calm=true):B3 X (.type "set") (λxs H Q=>∃(p:Addr) (ys:List Str),xs=[.ref p]/\Ag X.K H p (ys.map V.str)/\ys.length<1000/\∀a,H a=none->Q (.ref a) (upd H a (O8 X.prog X.w a (met (λi=>Sum.inr (ys.getD i Str.empty)) ys.length)))):=by
 intro pins s σ H xs us Q I r h;obtain⟨p,ys,rfl,hq,hz,q⟩:=h;obtain⟨u,rfl,rx⟩:=Ei r;cases rx;obtain⟨its,r',pl,_⟩:=I.list hq;have hlen:=r'.length;rw[ya5]at hlen;have hsz:its.toArray.size=ys.length:=by rw[yai];exact hlen.symm
 refine zaz (knd:=Bi X.prog X.w) (val:=λi=>Sum.inr (ys.getD i Str.empty)) (I.ok.hd hc) pl.isList (λi v e=>?_) (by rw[hsz];exact yal (Nat.succ_lt_succ hz) (by decide)) λh' tk hs kp=>?_
 .have e':its[i]?=some v:=by simpa using e
  have hi:i<ys.length:=by rw[hlen];exact(ya8.mp e').1
  have hx:(ys.map V.str)[i]?=some (.str ys[i]):=by rw[ya7,ya0 hi];rfl
  obtain⟨u,e2,ru⟩:=r'.get hx;rw[e']at e2;cases e2;obtain⟨t,rfl⟩:=(show ∃t,v=Value.str ys[i] t from ru);refine⟨?_,rfl⟩;show FA (Sum.inr (ys.getD i Str.empty)) (Value.str ys[i] t)=true;rw[yb6,ya0 hi];show(ys[i] == ys[i])=true;exact yf0 _
 .rw[hsz]at hs;refine⟨.ref s.heap.objs.size,_,I.laid (a:=s.heap.objs.size) (o:=O8 X.prog X.w s.heap.objs.size (met (λi=>Sum.inr (ys.getD i Str.empty)) ys.length)) (t':=tk) (λb o e=>kp b o (yae e) e) (yaa _) ⟨?_,?_,?_⟩,rfl,q _ (I.hok.fresh (yaa _))⟩
  .exact hs
  .obtain⟨o,es,ep,t,g1,_⟩:=hs;exact⟨o,g1⟩
  .intro h1 h2 p1 k;obtain⟨o,es,ep,t,g1,g2⟩:=p1;exact⟨o,es,ep,t,k o g1,g2⟩
theorem zdr:B3 X (.builtin "len") (λxs H Q=>∃a ks,xs=[.ref a]/\H a=some (O8 X.prog X.w a ks)/\Q (.int ks.length) H):=by
 intro pins s σ H xs us Q I r h;obtain⟨a,ks,rfl,ha,q⟩:=h;obtain⟨u,rfl,rx⟩:=Ei r;cases rx;obtain⟨⟨o,es,ep,t,g1,g2,g3,g4,g5,g6,g7,g8⟩,_⟩:=(show _/\_ from I.hok a _ ha)
 have hb:((es.size:Nat):Int)<2 ^ 63:=by
  have:scanBound<=2 ^ 40:=by decide
  have g6':es.size<scanBound:=g6
  omega
 refine call_len_set g1 g2 g3 g7 hb ⟨.int (es.size:Int),H,I.tok _,⟨_,rfl⟩,?_⟩;rw[show es.size=ks.length from g8];exact q
end
def Gi:List T->Option (List Str)
 |[]=>some []
 |.str x::r=>(match Gi r with
  |some l=>some (x::l)
  |none=>none)
 |_::_=>none
theorem Pe{K:kA}{F:Hp}:∀{l:List T} {ys:List Str} {xs:List V},Gi l=some ys->Ae K F l xs->xs=ys.map V.str
 |[],ys,xs,h,r=>by
  cases h;exact r.inv0
 |t::l,ys,xs,h,r=>by
  obtain⟨x,xs',rfl,r1,r2⟩:=r.inv;unfold Gi at h;split at h
  .rename_i e;cases e
  .rename_i y r e;cases e;split at h
   .rename_i l' hl;cases h;rw[r1.str_inv,Pe hl r2]
    rfl
   .cases h
  .cases h
def Gf(ys:List Str):Nat:=(met (λi=>Sum.inr (ys.getD i Str.empty)) ys.length).length
def Ge:T->Option T
 |.nd _ .lst l=>(match Gi l with
  |some ys=>if ys.length<1000 then some (.int (Gf ys)) else none
  |none=>none)
 |_=>none
section
variable {X:Cx}{E:L2.St->XK}{ca:Str->Value}{m:AE->Option Rs}{e:Expr}{pos p p2 p3:Pos}
theorem r_unq(hc:X.calm=true)(hg:Gl X "len")(hm:X.mg "len"=none)(hg2:Gl X "set")(hm2:X.mg "set"=none)(ha:PE X e (tM X.K E ca m))(he:starEach [e] X.env=[(false,eval e X.env)]) :
  PE X (.Call (.Name "len" p) [.Call (.Name "set" p2) [e] [] p3] [] pos) (tM X.K E ca (BB (g1 Ge) (AG m AH))):=by
 have hset:=Qe (pos:=p3) (p:=p2) (zdp hc) hg2 hm2 (show bootBuiltins "set"=some (.type "set") from rfl) (DV ha EX he) (by decide) (by decide) he rfl
 refine PE.weak (IB (zdr (X:=X)) hg hm PySem.boot_len (DV hset EX rfl) (by decide) (by decide) rfl rfl) λσ H Q h=>?_
 refine(Ej (FT h)).mono λx H1 h1=>?_
 obtain⟨F,ts,v,fh,rs,e,q⟩:=FR h1;unfold g1 at e;split at e
 .obtain⟨x1,xs1,e1,r1,rs1⟩:=rs.inv;cases e1;unfold Ge at e;split at e
  .split at e
   .rename_i o l ys hy;split at e
    .rename_i hz;cases e;obtain⟨pp,zs,rfl,_,n,kd⟩:=Cn r1;have hF:F pp=some (.lst zs):=n;refine⟨pp,ys,rfl,Ag.of (by rw[<- Pe hy kd];exact fh _ _ hF),hz,λa ha=>⟨a,_,rfl,Bb,?_⟩⟩
     exact q F _ _ R0 ((Ext.newO fh ha).mono λ_ z=>z.elim) (Rp.int _)
    .cases e
   .cases e
  .cases e
 .cases e
end
def E2:T->T->Option T
 |.int i,.int j=>some (.bl (decide (i<=j)))
 |.str x,.str y=>some (.bl (!(@decide (y.cps.toList<x.cps.toList) (Classical.propDecidable _))))
 |_,_=>none
section
variable {X:Cx}{E:L2.St->XK}{ca:Str->Value}{m mk:AE->Option Rs}{o k:Expr}{pos apos cpos:Pos}
theorem zhm:A3 X (compareOp .LtE) (BU X.K E2):=by
 intro pins s σ H x y v u Q I rx ry h;obtain⟨F,t1,t2,r,fh,r1,r2,e,q⟩:=h;unfold E2 at e;split at e
 .cases e;rw[r1.int_inv]at rx;rw[r2.int_inv]at ry;exact Qo pins s σ H _ _ v u Q I rx ry ⟨_,_,rfl,rfl,q.bl fh⟩
 .rename_i a b;cases e;rw[r1.str_inv]at rx;rw[r2.str_inv]at ry;obtain⟨t,rfl⟩:=(show ∃t,v=Value.str a t from rx);obtain⟨t',rfl⟩:=(show ∃t,u=Value.str b t from ry);refine PySem.P.le_str ⟨.bl _,H,I,rfl,?_⟩;have q1:=q.bl fh;rw[show(!decide (b.cps.toList<a.cps.toList))=!(@decide (b.cps.toList<a.cps.toList) (Classical.propDecidable _)) from congrArg _ (by rw[yc1,yez,@decide_eq_true_eq _ (Classical.propDecidable _)])]
  exact q1
 .cases e
end
section
variable {X:Cx}{E:L2.St->XK}{ca:Str->Value}{m mk:AE->Option Rs}{o k:Expr}{pos apos cpos:Pos}
end
def EO:T->Option T
 |.nd _ .lst l=>some (.tup l)
 |_=>none
theorem zdt{X:Cx}:B3 X (.type "tuple") (DE X.K (g1 EO)):=by
 intro pins s σ H xs us Q I r h;obtain⟨F,ts,v,fh,rs,e,q⟩:=h;unfold g1 at e;split at e
 .obtain⟨x1,xs1,rfl,r1,rs1⟩:=rs.inv;cases rs1.inv0;unfold EO at e;split at e
  .cases e;obtain⟨p,ys,rfl,rfl,n1,k1⟩:=Cn r1;have hF:F p=some (.lst ys):=n1;exact zay pins s σ H _ us Q I r ⟨p,ys,rfl,.inl ⟨Ag.of (fh _ _ hF),λl hl=>q.tuple fh k1 hl⟩⟩
  .cases e
 .cases e
noncomputable def Gk(i:Nat)(cs:List (Str×Addr))(u h:AE->Option Out):AE->Option Out:=λτ=>match u τ with
 |some (.xc c τ')=>(match cs.lookup c with
  |some C=>if i<τ'.length then (match h (τ'.set i (some (.obj (.exn C) []))) with
   |some (.nx τ2)=>some (.nx (τ2.set i none))
   |some (.rt t)=>some (.rt t)
   |_=>none) else none
  |none=>none)
 |r=>r
section
variable {X:Cx}{E:L2.St->XK}{ca:Str->Value}{mu:Bool}{i:Nat}{x n:Str}{np pos hpos:Pos}{body suite:List Stmt}{b₀:Stmt}{u h:AE->Option Out}{cs:List (Str×Addr)}
theorem StR.put{K:kA}{F H:Hp}{σ:L2.St}{τ:AE}{R:Nat->Rg}{i:Nat}{t:T}{v:V}(S:StR K F H σ τ R)(hi:i<τ.length)(r:Rp K F H t v R0):StR K F H (σ.set i (some v)) (τ.set i (some t)) (λj=>if j=i then R0 else R j):=by
 refine⟨S.fh,by simpa using S.len,λj t' e=>?_,λj a z=>?_,λj k a hjk z1 z2=>?_⟩
 .by_cases hj:j=i
  .subst hj;rw[yao hi]at e;cases e;exact⟨v,yao (by rw[S.len];exact hi),by simpa using r⟩
  .rw[yan (yb1 hj)]at e;obtain⟨y,e1,r1⟩:=S.rep j t' e;exact⟨y,by rw[yan (yb1 hj)];exact e1,by simpa[hj] using r1⟩
 .by_cases hj:j=i
  .simp only[hj,yeo]at z;exact z.elim
  .simp only[hj,yep]at z;obtain⟨t',e⟩:=S.out j a z;exact⟨t',by rw[yan (yb1 hj)];exact e⟩
 .by_cases hj:j=i
  .simp only[hj,yeo]at z1;exact z1.elim
  .by_cases hk:k=i
   .simp only[hk,yeo]at z2;exact z2.elim
   .simp only[hj,yep]at z1;simp only[hk,yep]at z2;exact S.dis j k a hjk z1 z2
theorem StR.gone{K:kA}{F H:Hp}{σ:L2.St}{τ:AE}{R:Nat->Rg}{i:Nat}(S:StR K F H σ τ R):StR K F H (σ.set i none) (τ.set i none) (λj=>if j=i then R0 else R j):=by
 refine⟨S.fh,by simpa using S.len,λj t' e=>?_,λj a z=>?_,λj k a hjk z1 z2=>?_⟩
 .by_cases hj:j=i
  .subst hj;rw[List.getElem?_set]at e;simp only[yeo]at e;split at e<;>cases e
  .rw[yan (yb1 hj)]at e;obtain⟨y,e1,r1⟩:=S.rep j t' e;exact⟨y,by rw[yan (yb1 hj)];exact e1,by simpa[hj] using r1⟩
 .by_cases hj:j=i
  .simp only[hj,yeo]at z;exact z.elim
  .simp only[hj,yep]at z;obtain⟨t',e⟩:=S.out j a z;exact⟨t',by rw[yan (yb1 hj)];exact e⟩
 .by_cases hj:j=i
  .simp only[hj,yeo]at z1;exact z1.elim
  .by_cases hk:k=i
   .simp only[hk,yeo]at z2;exact z2.elim
   .simp only[hj,yep]at z1;simp only[hk,yep]at z2;exact S.dis j k a hjk z1 z2
theorem PM{R:Nat->Rg}{i:Nat}{a:Addr}(h:tot (λj=>if j=i then R0 else R j) a):tot R a:=by
 obtain⟨j,z⟩:=h
 by_cases hj:j=i
 .simp only[hj,yeo]at z;exact z.elim
 .simp only[hj,yep]at z;exact⟨j,z⟩
theorem s_try(T:ECls X.K X.mg x)(hcs:∀c C,cs.lookup c=some C->ca c=.ref C/\PySem.W.subIn X.K (.ref C) (.ref T.C)=some true)(hst:X.stack=X.env::X.outer)(hf:X.env.frame=some X.env.locals)(hN:X.N.Nodup)(hi:X.N[i]?=some n)(hloc:X.env.scope.names.lookup n=some .local)
  (hb:∀(E':L2.St->XK) pins xe,BI (FE X pins xe) E'->BD (FE X pins xe) body (tS X.K E' ca mu u)) (hh:∀a,JB a i (Cs X a) (b₀::suite) (tS X.K EM ca mu h)) (hg:Gl X x) (hdb:(x == ("__debug__":Str))=false) :
  PS X (.Try body [.ExceptHandler (some (.Name x np)) (some n) (b₀::suite) hpos] [] [] pos) (tS X.K E ca mu (Gk i cs u h)):=by
 intro pins s σ H D I hq;obtain⟨F,τ,R,S,q⟩:=hq;let E':L2.St->XK:=λσ1 cls _ H1=>∃c τ' F' R',u τ=some (.xc c τ')/\cls=ca c/\Stp F H (tot R) F' H1 (tot R')/\StR X.K F' H1 σ1 τ' R'
 refine zjr (E:=E') (tb:=tS X.K E' ca mu u) (th:=tS X.K EM ca mu h) T hst hf hN hi hloc (λpins xe hp=>hb E' pins xe hp) hh hg hdb pins s σ H D I ⟨⟨F,τ,R,S,?_⟩,?_⟩
 .unfold Gk at q;cases hu:u τ with
  |none=>rw[hu]at q;exact q
  |some o =>
   cases o with
   |nx τ'=>rw[hu]at q;exact q
   |rt t=>rw[hu]at q;exact q
   |bk τ'=>rw[hu]at q;exact q
   |ct τ'=>rw[hu]at q;exact q
   |xc c τ'=>exact λF' H' σ' R' st S'=>⟨c,τ',F',R',hu,rfl,st,S'⟩
 .intro σ1 cls H1 ⟨c,τ',F',R',hu,hcl,st,S'⟩;unfold Gk at q;simp only[hu]at q;cases hl:cs.lookup c with
  |none=>simp only[hl]at q
  |some C =>
   simp only[hl]at q;obtain⟨h1,h2⟩:=hcs c C hl
   by_cases hlen:i<τ'.length
   case neg =>
    rw[if_neg hlen]at q;exact q.elim
   rw[if_pos hlen]at q;refine⟨C,hcl.trans h1,h2,λa o ha hX=>?_⟩
   have fa:F' a=none:=Es S'.fh ha;have e1:Ext F' H1 (upd F' a o) (upd H1 a o) R0:=Ext.new S'.fh ha;have S2:=S'.ext e1;have rx:Rp X.K (upd F' a o) (upd H1 a o) (.obj (.exn C) []) (.ref a) R0:=.obj (k:=.exn C) (xs:=[]) (hX.of λu z=>Bb.trans (Bb.symm.trans z)) rfl λi t x h=>by simp at h
   have S3:=S2.put hlen rx;have st2:Stp F H (tot R) (upd F' a o) (upd H1 a o) (tot λj=>if j=i then R0 else R' j):=(st.trans e1.stp0).mono λb z=>PM z
   refine⟨_,_,_,S3,?_⟩;cases hh:h (τ'.set i (some (.obj (.exn C) []))) with
   |none=>simp only[hh]at q
   |some o =>
    simp only[hh]at q;cases o with
    |nx τ2 =>
     intro F4 H4 σ4 R4 st4 S4;exact q F4 H4 (σ4.set i none) _ ((st2.trans st4).mono λb z=>PM z) S4.gone
    |rt t=>exact λF4 H4 x B st4 r4=>q F4 H4 x B (st2.trans st4) r4
    |bk _=>exact q.elim
    |ct _=>exact q.elim
    |xc _ _=>exact q.elim
end
def Cr(tb:List (Addr×Bool)):T->Option T
 |.obj (.exn C) _=>(match tb.lookup C with
  |some b=>some (.bl b)
  |none=>none)
 |_=>none
section
variable {X:Cx}{E:L2.St->XK}{ca:Str->Value}{m:AE->Option Rs}{e:Expr}{pos p p2:Pos}{c:Str}{v:V}{tb:List (Addr×Bool)}
theorem QP(hg:Gl X "isinstance")(hm:X.mg "isinstance"=none)(hv:PE X (.Name c p2) (tC v))(hvv:∃D,v=.ref D\/∃T,v=.ty T)(htb:∀C b,tb.lookup C=some b->ExcK X.K C/\PySem.W.kitOne X.K (.ref C) (OL v)=some b)(ha:PE X e (tM X.K E ca m))(he:starEach [e,.Name c p2] X.env=(false,eval e X.env)::starEach [.Name c p2] X.env) :
  PE X (.Call (.Name "isinstance" p) [e,.Name c p2] [] pos) (tM X.K E ca (BB (g1 (Cr tb)) (AG m AH))):=by
 refine PE.weak (IB (zfr (X:=X)) hg hm ycg (DV ha (DV hv EX) he) (by decide) (by decide) he rfl) λσ H Q h=>?_
 refine(Ej (FT h)).mono λx H1 h1=>?_
 obtain⟨F,ts,w,fh,rs,e,q⟩:=FR h1;unfold g1 at e;split at e
 .obtain⟨x1,xs1,e1,r1,rs1⟩:=rs.inv;cases e1;unfold Cr at e;split at e
  .rename_i C l;split at e
   .rename_i b hb;cases e;obtain⟨k1,k2⟩:=htb C b hb;obtain⟨a,xs,rfl,_,hF,_,_⟩:=r1.obj_inv;have hF':Dv F a C:=hF;exact⟨a,C,v,b,rfl,hF'.of (fh a),k1,hvv,k2,q.bl fh⟩
   .cases e
  .cases e
 .cases e
end
def Kd.isLst:Kd->Bool
 |.lst=>true
 |_=>false
section
variable {X:Cx}{E:L2.St->XK}{ca:Str->Value}{mu:Bool}{i j:Nat}{tg it c:Expr}{ret:List Stmt}{mc:AE->Option Rs}{k:T}{ip pos:Pos}
end
section
variable {X:Cx}{E:L2.St->XK}{ca:Str->Value}{mu:Bool}{i j:Nat}{tg it e:Expr}{m:AE->Option Rs}{t:T}{p1 apos cpos pos bpos:Pos}{x:Str}
end
section
variable {X:Cx}{E:L2.St->XK}{ca:Str->Value}{m mk ma:AE->Option Rs}{o k e a:Expr}{pos apos cpos p p2:Pos}
def rSlS:V->Option Int->Option Int->Hp->VK->Prop:=λx lo hi H Q=>∃z:Str,x=.str z/\z.length<=AQ/\Q (.str (Txt.slice z lo hi)) H
theorem zj5:G4 X rSlS:=by
 intro pins s σ H x v vl vu lo hi sl Q I rx hs pl pu q;obtain⟨z,rfl,hz,q⟩:=q;obtain⟨t,rfl⟩:=(show ∃t,v=Value.str z t from rx);obtain⟨ob,ho,hc,hd⟩:=hs;rw[DY]at hz;cases pl with
 |none =>
  cases pu with
  |none=>exact⟨"str",_,yc7.lookup,yen _ _ _,yf6 (l:=none) (u:=none) (st:=none) ⟨ob,ho,hc,hd⟩ rfl (yf7 ⟨yap (ye7 z _ _) hz,λt' k=>⟨.str _,H,I.tok _,⟨_,rfl⟩,q⟩⟩)⟩
  |int j uj=>exact⟨"str",_,yc7.lookup,yen _ _ _,yf6 (l:=none) (u:=some (j,uj)) (st:=none) ⟨ob,ho,hc,hd⟩ rfl (yf7 ⟨yap (ye7 z _ _) hz,λt' k=>⟨.str _,H,I.tok _,⟨_,rfl⟩,q⟩⟩)⟩
 |int i ui =>
  cases pu with
  |none=>exact⟨"str",_,yc7.lookup,yen _ _ _,yf6 (l:=some (i,ui)) (u:=none) (st:=none) ⟨ob,ho,hc,hd⟩ rfl (yf7 ⟨yap (ye7 z _ _) hz,λt' k=>⟨.str _,H,I.tok _,⟨_,rfl⟩,q⟩⟩)⟩
  |int j uj=>exact⟨"str",_,yc7.lookup,yen _ _ _,yf6 (l:=some (i,ui)) (u:=some (j,uj)) (st:=none) ⟨ob,ho,hc,hd⟩ rfl (yf7 ⟨yap (ye7 z _ _) hz,λt' k=>⟨.str _,H,I.tok _,⟨_,rfl⟩,q⟩⟩)⟩
def Bq(ma:AE->Option Rs)(ml mh:Option (AE->Option Rs)):AE->Option Rs:=λτ=>match ma τ with
 |some (.v (.str z) _)=>(match Dl ml τ,Dl mh τ with
  |some lo,some hi=>if z.length<=AQ then some (.v (.str (Txt.slice z lo hi)) false) else none
  |_,_=>none)
 |_=>none
theorem zei{lo hi:Option Expr}{ml mh:Option (AE->Option Rs)}(ha:PE X a (tM X.K E ca ma))(hl:PO X lo (Fw X.K ml))(hh:PO X hi (Fw X.K mh)):PE X (.Subscript a (.Slice lo hi none p2) pos) (tM X.K E ca (Bq ma ml mh)):=by
 refine PE.weak (Qb zj5 ha hl hh) λσ H Q h=>?_
 obtain⟨F,τ,R,S,q⟩:=h;refine⟨F,τ,R,S,?_⟩;unfold Bq at q;cases hm:ma τ with
 |none=>rw[hm]at q;exact q.elim
 |some r =>
  rw[hm]at q;cases r with
  |x c=>exact q.elim
  |v t bb =>
   cases t with
   |str z =>
    simp only at q;intro F1 H1 x B e1 g1;have hx:=K9 g1;subst hx;have e1':Ext F H F1 H1 R0:=e1.mono λ_ z=>z.elim
    have S1:=S.ext e1';cases h1:Dl ml τ with
    |none=>simp only[h1]at q
    |some lo' =>
     refine⟨F1,τ,R,lo',S1,h1,λF2 H2 e2=>?_⟩
     have S2:=S1.ext e2;cases h2:Dl mh τ with
     |none=>simp only[h1,h2]at q
     |some hi' =>
      simp only[h1,h2]at q;refine⟨F2,τ,R,hi',S2,h2,λF3 H3 e3=>?_⟩
      by_cases hz:z.length<=AQ
      .rw[if_pos hz]at q;exact⟨z,rfl,hz,q F3 H3 _ R0 (e1'.trans0 (e2.trans0 e3)) (.str _)⟩
      .rw[if_neg hz]at q;exact q.elim
   |_=>exact q.elim
structure ICls(K:kA)(C:Addr):Prop where
 c:Cls K C
 a:PySem.W.findIn K (.ref C) "__class__"=some (some (.builtin "object.__class__"))
 n:PySem.W.specialIn K (.builtin "object.__class__") "__get__"=some (some (.builtin "getset_descriptor.__get__"))
 k:PySem.W.takesIn K (.builtin "object.__class__")=some true
 m:PySem.W.mroIn K C (.type "object")=some true
def Sw(tb:List (Addr×Bool)):Ob->Option T
 |.ins C _=>(tb.lookup C).map .bl
 |_=>none
def JX:List String:=["NoneType","bool","int","str","list","tuple","dict"]
def GY(tb:List (Addr×Bool)):T->Option T
 |.obj o _=>Sw tb o
 |t=>(JZ t).map λ_=>.bl false
theorem zft{C D:Addr}{b:Bool}(hC:ICls X.K C)(hk:PySem.W.kitOne X.K (.ref C) (.ref D)=some b):B3 X (.builtin "isinstance") (λxs H Q=>∃a dx fs,xs=[.ref a,.ref D]/\H a=some (.ins C dx fs)/\Q (.bl b) H):=by
 intro pins s σ H xs us Q I r h;obtain⟨a,dx,fs,rfl,e,q⟩:=h;obtain⟨u,w',rfl,rx,ry⟩:=Gb r;cases ry;exact NO I rx (.ins e hC.c hC.a hC.n hC.k hC.m) hk λtk=>⟨.bl b,H,I.tok _,rfl,q⟩
theorem r_isC{D:Addr}{tb:List (Addr×Bool)}{c:Str}(hC:(∀C b,tb.lookup C=some b->ICls X.K C/\PySem.W.kitOne X.K (.ref C) (.ref D)=some b)/\(JX.all λa=>PySem.W.kitOne X.K (.type a) (.ref D) == some false)=true)(hg:Gl X "isinstance")(hm:X.mg "isinstance"=none)(hgc:Gl X c)(hmc:X.mg c=some (.ref D))(hd:(c == ("__debug__":Str))=false)(ha:PE X e (tM X.K E ca m))(he:starEach [e,.Name c p2] X.env=(false,eval e X.env)::starEach [.Name c p2] X.env) :
  PE X (.Call (.Name "isinstance" p) [e,.Name c p2] [] pos) (tM X.K E ca (BB (g1 (GY tb)) (AG m AH))):=by
 have hR:B3 X (.builtin "isinstance") (λxs H Q=>(∃C b a dx fs,tb.lookup C=some b/\xs=[.ref a,.ref D]/\H a=some (.ins C dx fs)/\Q (.bl b) H)\/∃x a,xs=[x,.ref D]/\a∈JX/\(TyOf X.K H x (.type a)\/a="dict"/\∃p ob kvs,x=.ref p/\H p=some (.frz ob (.dK kvs)))/\Q (.bl false) H):=λpins s σ H xs us Q I r h=>by
  rcases h with ⟨C,b,a,dx,fs,hl,h⟩|⟨x,a,rfl,hm,ty,q⟩
  .exact zft (hC.1 C b hl).1 (hC.1 C b hl).2 pins s σ H xs us Q I r ⟨a,dx,fs,h⟩
  .have hk:PySem.W.kitOne X.K (.type a) (.ref D)=some false:=eq_of_beq (yam.mp hC.2 a hm);obtain⟨u,w',rfl,rx,ry⟩:=Gb r;cases ry
   rcases ty with ty|⟨rfl,p,ob,kvs,rfl,hp⟩
   .exact NO I rx ty hk λtk=>⟨.bl false,H,I.tok _,rfl,q⟩
   .cases rx;exact Su I hp hk λtk=>⟨.bl false,H,I.tok _,rfl,q⟩
 refine PE.weak (IB hR hg hm ycg (DV ha (DV (Ma (v:=.ref D) hgc hmc rfl hd) EX) he) (by decide) (by decide) he rfl) λσ H Q h=>?_
 refine(Ej (FT h)).mono λx H1 h1=>?_
 obtain⟨F,ts,w,fh,rs,e,q⟩:=FR h1;unfold g1 at e;split at e
 .obtain⟨x1,xs1,e1,r1,rs1⟩:=rs.inv;cases e1;unfold GY at e;split at e
  .unfold Sw at e;split at e
   .obtain⟨b,hb,rfl⟩:=ya2.mp e;obtain⟨a,xs,rfl,_,⟨dx,hF⟩,_,_⟩:=r1.obj_inv;exact .inl ⟨_,b,a,dx,_,hb,rfl,fh _ _ hF,q.bl fh⟩
   .cases e
  .obtain⟨a,ha,rfl⟩:=ya2.mp e;obtain⟨ty,hm⟩:=PL fh r1 ha;exact .inr ⟨_,a,rfl,hm,ty,q.bl fh⟩
 .cases e
end
end Pu
namespace Zx
open PySem PySem.Spec PyProof.Rows L2 Zw
section
variable {A:Around}{E:Value->Shared->Prop}{M:Model}
end
section
variable {X:Cx}{i1 i2:Nat}{x1 x2 n1 n2:Str}{np1 np2 pos hpos1 hpos2:Pos}{body suite1 suite2:List Stmt}{b1 b2:Stmt}{tb th1 th2:TS}{E:L2.St->XK}
end
end Zx
namespace Pu
open PySem PySem.Spec PyProof.Rows L2 Zw Zx
section
variable {X:Cx}{E:L2.St->XK}{ca:Str->Value}{mu:Bool}{i1 i2:Nat}{x1 x2 n1 n2:Str}{np1 np2 pos hpos1 hpos2:Pos}{body suite1 suite2:List Stmt}{b1 b2:Stmt}{u h1 h2:AE->Option Out}{cs1 cs2:List (Str×Addr)}
end
section
variable {X:Cx}{E:L2.St->XK}{ca:Str->Value}{m:AE->Option Rs}{e:Expr}{pos p p2 p3 p4:Pos}{c1 c2:Str}{t1 t2:List (Addr×Bool)}{kt:Nat}
end
def Kl(f:Expr->Option (AE->Option Rs))(ks:List (Option Expr))(vs:List Expr):Option (AE->Option Rs) :=
 match ks,vs with
 |[],[]=>some IL
 |[some k],[v]=>(match f k,f v with
  |some mk,some mv=>some (My mk mv)
  |_,_=>none)
 |_,_=>none
theorem zig{X:Cx}{E:L2.St->XK}{ca:Str->Value}{f:Expr->Option (AE->Option Rs)}{pos:Pos}(hf:∀e m,f e=some m->PE X e (tM X.K E ca m)){ks:List (Option Expr)}{vs:List Expr}{m:AE->Option Rs}(h:Kl f ks vs=some m):PE X (.Dict ks vs pos) (tM X.K E ca m):=by
 unfold Kl at h;split at h
 .cases h;exact zjl
 .split at h
  .rename_i mk mv h1 h2;cases h;exact zjk (hf _ _ h1) (hf _ _ h2)
  .cases h
 .cases h
section
variable {X:Cx}{E:L2.St->XK}{ca:Str->Value}{m mk ma:AE->Option Rs}{o k e a:Expr}{pos apos cpos p p2:Pos}
end
section
variable {X:Cx}{E:L2.St->XK}{ca:Str->Value}{m mk:AE->Option Rs}{o k e:Expr}{pos pos' apos cpos:Pos}
theorem mt_up:Om X "str.upper" (λx vs H Q=>∃x1:Str,x=.str x1/\vs=[]/\(Txt.upper x1).length<=AQ/\Q (.str (Txt.upper x1)) H):=by
 intro pins s σ H x vs v us Q I rx rv h;obtain⟨x1,rfl,rfl,hz,q⟩:=h;obtain⟨t,rfl⟩:=(show ∃t,v=Value.str x1 t from rx);cases rv;rw[DY]at hz
 have hf:Builtin.Str.tooLong (Txt.upper x1).length=false:=by
  unfold Builtin.Str.tooLong;exact ye8 (ydr.mpr hz)
 exact SC.upper hf ⟨.str _,H,I.tok _,⟨_,rfl⟩,q⟩
def F8(m:AE->Option Rs):AE->Option Rs:=λτ=>match m τ with
 |some (.v (.str x) _)=>if (Txt.upper x).length<=AQ then some (.v (.str (Txt.upper x)) false) else none
 |_=>none
theorem r_up(ho:PE X o (tM X.K E ca m))(hbase:attributeBase o "upper" X.env (eval o X.env)=eval o X.env)(hline:(apos.endLine == cpos.line)=true) :
  PE X (.Call (.Attribute o "upper" apos) [] [] cpos) (tM X.K E ca (F8 m)):=by
 refine PE.weak (zk6 PySem.F.plainAttrs_str PySem.F.slot_str_upper PySem.F.type_str_upper mt_up ho hbase hline) λσ H Q h=>?_
 obtain⟨F,τ,R,S,q⟩:=h;refine⟨F,τ,R,S,?_⟩;unfold F8 at q;cases hm:m τ with
 |none=>rw[hm]at q;exact q.elim
 |some r =>
  rw[hm]at q;cases r with
  |x c=>exact q.elim
  |v t b =>
   cases t with
   |str x =>
    simp only at q;intro F1 H1 x' B e1 g1;have hx:=K9 g1;subst hx;have e1':Ext F H F1 H1 R0:=e1.mono λ_ z=>z.elim
    by_cases hz:(Txt.upper x).length<=AQ
    .rw[if_pos hz]at q;exact⟨rfl,x,rfl,rfl,hz,q F1 H1 _ R0 e1' (.str _)⟩
    .rw[if_neg hz]at q;exact q.elim
   |_=>exact q.elim
end
end Pu
noncomputable section
namespace Pu
open PySem PySem.Spec PyProof.Rows L2 Zw Zx
structure Fn where
 lv:Nat
 ps:List Str
 g:List T->Option Ru
structure Gx where
 co:List (Str×T)
 cl:List (Str×Addr×List Str)
 mt:List (Str×Addr×List Str×Fn)
 nw:List (Str×Fn×List (Nat×List T))
 nr:Bool
 tx:Bool
 df:Bool
 sf:Option (Addr×List Str)
 xs:List (Str×List (Str×Addr))
 sb:List (Str×List (Addr×Bool))
 sv:List (Str×List (Addr×Bool))
 no:Bool
 fo:List Str
 ci:List (Str×List (Addr×Bool))
 x2:List (Str×Str×List (Str×Addr))
 gt:List Str
 wd:List (Str×Fn)
abbrev Bm:Gx:=⟨[],[],[],[],false,true,true,none,[],[],[],true,[],[],[],[],[]⟩
set_option genInjectivity false in
structure Gm where
 N:List Str
 nm:List (Str×NameKind)
 ce:List Str
 lv:Nat
 fns:List (Str×Fn)
 bl:List Str
 ex:List Str
 ow:List Str
 pk:List Str
 mu:Bool
 mus:List (Str×Fn)
 mv:List Str
 dc:List Str
 ox:Gx
noncomputable def CH(x:Str):Bool:=!(x == ("__debug__":Str)) && !(x == ("__classdict__":Str)) && !(x == ("__name__":Str))
def JT(nm:List (Str×NameKind))(x:Str):Bool:=nm.lookup x == some .local || nm.lookup x == some .cell || nm.lookup x == some .free
def Bt(nm:List (Str×NameKind))(x:Str):Bool:=nm.lookup x == some .globalImplicit
noncomputable def CU(N:List Str)(x:Str):Option Nat:=N.findIdx? (· == x)
def Gm.var(Γ:Gm)(x:Str):Option Nat:=if CH x && JT Γ.nm x then CU Γ.N x else none
def Gm.loc(Γ:Gm)(x:Str):Bool:=CH x && (Γ.nm.lookup x == some .local || Γ.ce.contains x)
def CZ:Expr->Bool
 |.Starred ..=>false
 |_=>true
def Mc:Operator->Option (T->T->Option T)
 |.Add=>some Ai
 |.Sub=>some Fz
 |.Mult=>some EB
 |.Mod=>some A8
 |.FloorDiv=>some Ap
 |.Pow=>some Hz
 |_=>none
def Ks:CmpOp->Option (T->T->Option T)
 |.Eq=>some BH
 |.NotEq=>some Cc
 |.Lt=>some (C6 λi j=>decide (i<j))
 |.LtE=>some (C6 λi j=>decide (i<=j))
 |.Gt=>some (C6 λi j=>decide (j<i))
 |.GtE=>some (C6 λi j=>decide (j<=i))
 |.Is=>some (GX false)
 |.IsNot=>some (GX true)
 |.In=>some Ce
 |.NotIn=>some GK
def Ky(f:Str):Option (List T->Option T) :=
 if f="len" then some (g1 BP) else if f="list" then some (g1 Ey) else if f="abs" then some (g1 LG) else
 if f="tuple" then some (g1 EO) else
 if f="min" then some (g2 KC) else
 if f="all" then some (g1 E9) else
 if f="any" then some (g1 LC) else none
noncomputable def JY(c:Str):Option String:=if c="int" then some "int" else if c="bool" then some "bool" else if c="str" then some "str" else if c="list" then some "list" else if c="tuple" then some "tuple" else none
def EA:Expr->Bool
 |.IfExp ..=>false
 |.NamedExpr ..=>false
 |_=>true
noncomputable def Bj:Expr->Option (Str×Pos)
 |.Name x p=>some (x,p)
 |_=>none
theorem CJ{t:Expr}{x:Str}{p:Pos}(h:Bj t=some (x,p)):t=.Name x p:=by
 unfold Bj at h;split at h
 .cases h;rfl
 .cases h
def Ld:List Expr->List Str
 |[]=>[]
 |e::es=>(match Bj e with
  |some (x,_)=>x::Ld es
  |none=>Ld es)
def CW:Expr->List Str
 |.Name x _=>[x]
 |.Tuple es _ _=>Ld es
 |_=>[]
def NP:Expr->Bool
 |.Tuple ..=>true
 |_=>false
def Fd:Expr->Bool
 |.Slice ..=>true
 |_=>false
def C4(nm:List (Str×NameKind)):List Str:=nm.filterMap λ(y,k)=>if k == .free then some y else none
def OR(nm:List (Str×NameKind)):List Str:=nm.filterMap λ(y,k)=>if k == .cell then some y else none
noncomputable def Hw(inner outer:List (Str×NameKind)):List (Str×NameKind):=inner.map λ(n,k)=>if (k == .free && outer.lookup n == some .cell) then (n,.cell) else (n,k)
def Ie(N:List Str):List Str->Option (List Nat)
 |[]=>some []
 |y::r=>(match CU N y with
  |some i=>(match Ie N r with
   |some l=>some (i::l)
   |none=>none)
  |none=>none)
def Ii(Γ:Gm)(scope:Scope)(N':List Str):Bool :=
 (scope.kind == .function) && scope.names.all (λx=>!(x.2 == .local) || scope.names.lookup x.1 == some .local) &&
 scope.names.all (λx=>!(x.2 == .free) || (scope.names.lookup x.1 == some .free && (Γ.nm.lookup x.1 == some .cell || Γ.nm.lookup x.1 == some .free) && !(scope.names.contains (x.1,NameKind.cell)))) &&
 decide N'.Nodup && (OR scope.names).all (λy=>(Hw scope.names Γ.nm).lookup y == some .cell)
def Gm.blk(Γ:Gm)(scope:Scope)(N':List Str):Gm:={ Γ with N:=N',nm:=Hw scope.names Γ.nm,ce:=(OR scope.names).filter λy=>scope.names.lookup y == some .cell,ow:=[],ox:={ Γ.ox with df:=false,nr:=true } }
def Kq(Γ:Gm):List Expr->Option (List T->AE->Option AE)
 |[]=>some DL
 |e::es=>(match Bj e with
  |some (x,_)=>if Γ.loc x then (match CU Γ.N x,Kq Γ es with
   |some i,some b=>some (BW (AK i) b)
   |_,_=>none) else none
  |none=>none)
def dG(Γ:Gm):Expr->Option (T->AE->Option AE)
 |.Name x _=>if Γ.loc x then (CU Γ.N x).map AK else none
 |.Tuple es _ _=>(Kq Γ es).map (Ct es.length)
 |_=>none
def JR(a:Str):Expr->Option (Str×Pos×Pos×Pos)
 |.Call f es ks c=>(match f,es,ks with
  |.Attribute o b ap,[],[]=>(match Bj o with
   |some (x,p)=>if b=a/\(ap.endLine == c.line)=true then some (x,p,ap,c) else none
   |none=>none)
  |_,_,_=>none)
 |_=>none
theorem PC{a x:Str}{t:Expr}{p ap c:Pos}(h:JR a t=some (x,p,ap,c)):t=.Call (.Attribute (.Name x p) a ap) [] [] c/\(ap.endLine == c.line)=true:=by
 unfold JR at h;split at h
 .split at h
  .split at h
   .rename_i h1;split at h
    .rename_i h2;cases h;rw[CJ h1,h2.1];exact⟨rfl,h2.2⟩
    .cases h
   .cases h
  .cases h
 .cases h
def JS(f:Str)(e:Expr)(es:List Expr):Option (Str×Pos×Pos×Pos):=if f="list" then (match es with
 |[]=>JR "values" e
 |_=>none) else none
theorem zg1{f x:Str}{e:Expr}{es:List Expr}{p ap c:Pos}(h:JS f e es=some (x,p,ap,c)):f="list"/\es=[]/\e=.Call (.Attribute (.Name x p) "values" ap) [] [] c/\(ap.endLine == c.line)=true:=by
 unfold JS at h;split at h
 .rename_i hf;split at h
  .obtain⟨h1,h2⟩:=PC h;exact⟨hf,rfl,h1,h2⟩
  .cases h
 .cases h
def IA:Expr->Bool
 |.Call ..=>false
 |_=>true
theorem Ur{o:Expr}{f:Str}{env:Env}(h:IA o=true):attributeBase o f env (eval o env)=eval o env:=by
 cases o<;>first|rfl|cases h
def HN(f:Str)(m:AE->Option Rs):List (Str×Addr×List Str)->Option (AE->Option Rs)
 |[]=>none
 |(_,C,fs)::r=>(match fs.findIdx? (· == f) with
  |some j=>(match HN f m r with
   |some m2=>some (Bl (EC C fs j m) m2)
   |none=>some (EC C fs j m))
  |none=>HN f m r)
def HU:CmpOp->Option (T->T->Option T)
 |.LtE=>some E2
 |op=>Ks op
def setOf(f:Str)(e:Expr)(es:List Expr):Option (Expr×Pos×Pos):=if f="len" then (match es with
 |[]=>(match e with
  |.Call g as ks c=>(match Bj g,as,ks with
   |some (x,p),[a],[]=>if x="set" then some (a,p,c) else none
   |_,_,_=>none)
  |_=>none)
 |_=>none) else none
theorem ze9{f:Str}{e a:Expr}{es:List Expr}{p c:Pos}(h:setOf f e es=some (a,p,c)):f="len"/\es=[]/\e=.Call (.Name "set" p) [a] [] c:=by
 unfold setOf at h;split at h
 .rename_i hf;split at h
  .split at h
   .split at h
    .rename_i hn;split at h
     .rename_i hx;cases h;rw[CJ hn,hx];exact⟨hf,rfl,rfl⟩
     .cases h
    .cases h
   .cases h
  .cases h
 .cases h
def HF(Γ:Gm)(m:AE->Option Rs):AE->Option RsL:=if Γ.ox.tx then Bz m else HG m
def Ln(Γ:Gm)(ma:AE->Option Rs)(ml mh:Option (AE->Option Rs)):AE->Option Rs:=if Γ.ox.tx then Bl (Bk ma ml mh) (Bq ma ml mh) else Bk ma ml mh
def Sq(_:Gm)(_:Expr)(ma mk:AE->Option Rs):AE->Option Rs:=AW ma mk
mutual
def dE:Nat->Gm->Expr->Option (AE->Option Rs)
  |0,_,_=>none
  |n+1,Γ,e=>match e with
    |.Constant (.int i) _ _=>some (mC (.int i))
    |.Constant (.bool b) _ _=>some (mC (.bl b))
    |.Constant .none _ _=>some (mC .non)
    |.Constant (.str x) _ _=>some (mC (.str x))
    |.Name x _=>(match Γ.var x with
      |some i=>some (AA i)
      |none=>if CH x && Bt Γ.nm x then (Γ.ox.co.lookup x).map mC else none)
    |.Attribute o f _=>if IA o then (match dE n Γ o with
      |some m=>HN f m Γ.ox.cl
      |none=>none) else none
    |.Call (.Attribute o f ap) es [] c=>if !(IA o && ap.endLine == c.line && decide (es.length<30)) then none else
      (match dE n Γ o,dA n Γ es with
      |some m,some ms =>
        if f="upper" then (match es with
          |[]=>some (F8 m)
          |_=>none)
        else
        none
      |_,_=>none)
    |.Compare a [op,op'] [b,c] _=>(match HU op,HU op',dE n Γ a,dE n Γ b,dE n Γ c with
      |some g,some g',some ma,some mb,some mc=>if lastMarks [op,op'] [b,c] then none else some (E1 g g' ma mb mc)
      |_,_,_,_,_=>none)
    |.BinOp a op b _=>(match Mc op,dE n Γ a,dE n Γ b with
      |some g,some ma,some mb=>some (BB (g2 g) (AG ma (AG mb AH)))
      |_,_,_=>none)
    |.UnaryOp .USub a _=>(match dE n Γ a with
      |some ma=>some (BB (g1 Dk) (AG ma AH))
      |none=>none)
    |.UnaryOp .Not a _=>if EA a then (dE n Γ a).map BO else none
    |.BoolOp op vs _=>dB n Γ op vs
    |.Compare a [op] [b] _=>(match Ks op,dE n Γ a,dE n Γ b with
      |some g,some ma,some mb=>if behindInMarks op b then none else some (BB (g2 g) (AG ma (AG mb AH)))
      |_,_,_=>none)
    |.IfExp c a b _=>if EA c then (match dE n Γ c,dE n Γ a,dE n Γ b with
      |some mc,some ma,some mb=>some (DW mc ma mb)
      |_,_,_=>none) else none
    |.List es _=>(dO n Γ es).map A4
    |.Tuple es _ _=>(dA n Γ es).map Al
    |.Subscript a k _=>(match k with
      |.Slice lo hi none _=>(match dE n Γ a,dP n Γ lo,dP n Γ hi with
        |some ma,some ml,some mh=>some (Ln Γ ma ml mh)
        |_,_,_=>none)
      |_=>if Fd k then none else (match dE n Γ a,dE n Γ k with
        |some ma,some mk=>some (Sq Γ a ma mk)
        |_,_=>none))
    |.Call (.Name f _) (e::es) [] _ =>
      if CH f && Bt Γ.nm f then
        (if Γ.bl.contains f then
          (if f="isinstance" then (match es with
            |[.Name c _]=>if Bt Γ.nm c && Γ.bl.contains c && CH c && CZ e then (match JY c,dE n Γ e with
              |some t,some m=>some (BB (g1 (By t)) (AG m AH))
              |_,_=>none)
              else if Bt Γ.nm c && CH c && CZ e then (match Γ.ox.ci.lookup c,dE n Γ e with
              |some C,some m=>some (BB (g1 (GY C)) (AG m AH))
              |_,_=>none)
              else none
            |_=>none)
          else (
            match setOf f e es with
            |some (a,_,_)=>if Bt Γ.nm "set" && Γ.bl.contains "set" && CZ a then (dE n Γ a).map λm=>BB (g1 Ge) (AG m AH) else none
            |none =>
            match JS f e es with
            |some (x,_,_,_)=>(Γ.var x).map λi=>KR (AA i)
            |none =>
            (match Ky f,dA n Γ (e::es) with
              |some g,some ms=>some (BB g ms)
              |_,_=>none)))
        else
         match Γ.ox.nw.lookup f with
         |some (F,ds)=>(match ds.lookup (e::es).length,dA n Γ (e::es) with
           |some dts,some ms=>some (GS F.g dts ms)
           |_,_=>none)
         |none =>
         (match Γ.fns.lookup f, dA n Γ (e :: es) with
          |some F,some ms=>some (Ac F.g ms)
          |_,_=>none))
      else none
    |.ListComp elt [⟨tg,iter,ifs,0⟩] scope _=>dC n Γ elt tg iter ifs scope
    |.Dict ks vs _=>Kl (dE n Γ) ks vs
    |_=>none
def dA:Nat->Gm->List Expr->Option (AE->Option RsL)
 |0,_,_=>none
 |n+1,Γ,es=>match es with
  |[]=>some AH
  |e::es=>if CZ e then (match dE n Γ e,dA n Γ es with
   |some m,some ms=>some (AG m ms)
   |_,_=>none) else none
def dO:Nat->Gm->List Expr->Option (AE->Option RsL)
 |0,_,_=>none
 |n+1,Γ,es=>match es with
  |[]=>some AH
  |e::es=>if CZ e then (match dE n Γ e,dO n Γ es with
   |some m,some ms=>some (AI m ms)
   |_,_=>none) else none
def dB:Nat->Gm->BoolOp->List Expr->Option (AE->Option Rs)
 |0,_,_,_=>none
 |n+1,Γ,op,vs=>match vs with
  |[]=>none
  |[a]=>if EA a then dE n Γ a else none
  |a::r=>if EA a then (match op,dE n Γ a,dB n Γ op r with
   |.And,some ma,some mb=>some (DX ma mb)
   |.Or,some ma,some mb=>some (Br ma mb)
   |_,_,_=>none) else none
def dP:Nat->Gm->Option Expr->Option (Option (AE->Option Rs))
 |0,_,_=>none
 |n+1,Γ,o=>match o with
  |none=>some none
  |some e=>(dE n Γ e).map some
def dC:Nat->Gm->Expr->Expr->Expr->List Expr->Scope->Option (AE->Option Rs)
 |0,_,_,_,_,_,_=>none
 |n+1,Γ,elt,tg,iter,ifs,scope =>
  if Ii Γ scope (CW tg++C4 scope.names) then (match Ie Γ.N (C4 scope.names),dI n Γ tg iter,dG (Γ.blk scope (CW tg++C4 scope.names)) tg,dE n (Γ.blk scope (CW tg++C4 scope.names)) elt with
   |some caps,some mi,some b,some me=>(match ifs with
    |[]=>some (Bx (CW tg).length caps mi b (mC (.bl true)) me)
    |[c]=>if EA c then (match dE n (Γ.blk scope (CW tg++C4 scope.names)) c with
     |some mt=>some (Bx (CW tg).length caps mi b mt me)
     |none=>none) else none
    |_=>none)
   |_,_,_,_=>none) else none
def dI:Nat->Gm->Expr->Expr->Option (AE->Option RsL)
 |0,_,_,_=>none
 |n+1,Γ,tg,e=>match e with
  |.Call (.Name f _) [a] [] _ =>
   if f="range" then (if Bt Γ.nm f && Γ.bl.contains f && CZ a then (dA n Γ [a]).map Dp else none)
   else (dE n Γ e).map (HF Γ)
  |.Call (.Name f _) [a,b] [] _ =>
   if f="range" then none
   else (dE n Γ e).map (HF Γ)
  |.Set ..=>none
  |_=>(match JR "items" e with
   |some (x,_,_,_)=>if NP tg then (Γ.var x).map λi=>NW (AA i) else none
   |none=>(dE n Γ e).map (HF Γ))
end
def BA(n:Nat)(Γ:Gm)(e:Expr):Option (AE->Option Rs):=match e with
    |.Constant (.int i) _ _=>some (mC (.int i))
    |.Constant (.bool b) _ _=>some (mC (.bl b))
    |.Constant .none _ _=>some (mC .non)
    |.Constant (.str x) _ _=>some (mC (.str x))
    |.Name x _=>(match Γ.var x with
      |some i=>some (AA i)
      |none=>if CH x && Bt Γ.nm x then (Γ.ox.co.lookup x).map mC else none)
    |.Attribute o f _=>if IA o then (match dE n Γ o with
      |some m=>HN f m Γ.ox.cl
      |none=>none) else none
    |.Call (.Attribute o f ap) es [] c=>if !(IA o && ap.endLine == c.line && decide (es.length<30)) then none else
      (match dE n Γ o,dA n Γ es with
      |some m,some ms =>
        if f="upper" then (match es with
          |[]=>some (F8 m)
          |_=>none)
        else
        none
      |_,_=>none)
    |.Compare a [op,op'] [b,c] _=>(match HU op,HU op',dE n Γ a,dE n Γ b,dE n Γ c with
      |some g,some g',some ma,some mb,some mc=>if lastMarks [op,op'] [b,c] then none else some (E1 g g' ma mb mc)
      |_,_,_,_,_=>none)
    |.BinOp a op b _=>(match Mc op,dE n Γ a,dE n Γ b with
      |some g,some ma,some mb=>some (BB (g2 g) (AG ma (AG mb AH)))
      |_,_,_=>none)
    |.UnaryOp .USub a _=>(match dE n Γ a with
      |some ma=>some (BB (g1 Dk) (AG ma AH))
      |none=>none)
    |.UnaryOp .Not a _=>if EA a then (dE n Γ a).map BO else none
    |.BoolOp op vs _=>dB n Γ op vs
    |.Compare a [op] [b] _=>(match Ks op,dE n Γ a,dE n Γ b with
      |some g,some ma,some mb=>if behindInMarks op b then none else some (BB (g2 g) (AG ma (AG mb AH)))
      |_,_,_=>none)
    |.IfExp c a b _=>if EA c then (match dE n Γ c,dE n Γ a,dE n Γ b with
      |some mc,some ma,some mb=>some (DW mc ma mb)
      |_,_,_=>none) else none
    |.List es _=>(dO n Γ es).map A4
    |.Tuple es _ _=>(dA n Γ es).map Al
    |.Subscript a k _=>(match k with
      |.Slice lo hi none _=>(match dE n Γ a,dP n Γ lo,dP n Γ hi with
        |some ma,some ml,some mh=>some (Ln Γ ma ml mh)
        |_,_,_=>none)
      |_=>if Fd k then none else (match dE n Γ a,dE n Γ k with
        |some ma,some mk=>some (Sq Γ a ma mk)
        |_,_=>none))
    |.Call (.Name f _) (e::es) [] _ =>
      if CH f && Bt Γ.nm f then
        (if Γ.bl.contains f then
          (if f="isinstance" then (match es with
            |[.Name c _]=>if Bt Γ.nm c && Γ.bl.contains c && CH c && CZ e then (match JY c,dE n Γ e with
              |some t,some m=>some (BB (g1 (By t)) (AG m AH))
              |_,_=>none)
              else if Bt Γ.nm c && CH c && CZ e then (match Γ.ox.ci.lookup c,dE n Γ e with
              |some C,some m=>some (BB (g1 (GY C)) (AG m AH))
              |_,_=>none)
              else none
            |_=>none)
          else (
            match setOf f e es with
            |some (a,_,_)=>if Bt Γ.nm "set" && Γ.bl.contains "set" && CZ a then (dE n Γ a).map λm=>BB (g1 Ge) (AG m AH) else none
            |none =>
            match JS f e es with
            |some (x,_,_,_)=>(Γ.var x).map λi=>KR (AA i)
            |none =>
            (match Ky f,dA n Γ (e::es) with
              |some g,some ms=>some (BB g ms)
              |_,_=>none)))
        else
         match Γ.ox.nw.lookup f with
         |some (F,ds)=>(match ds.lookup (e::es).length,dA n Γ (e::es) with
           |some dts,some ms=>some (GS F.g dts ms)
           |_,_=>none)
         |none =>
         (match Γ.fns.lookup f, dA n Γ (e :: es) with
          |some F,some ms=>some (Ac F.g ms)
          |_,_=>none))
      else none
    |.ListComp elt [⟨tg,iter,ifs,0⟩] scope _=>dC n Γ elt tg iter ifs scope
    |.Dict ks vs _=>Kl (dE n Γ) ks vs
    |_=>none
theorem BC{n:Nat}{Γ:Gm}{e:Expr}:dE (n+1) Γ e=BA n Γ e:=rfl
end Pu
end
namespace Pu
open PySem PySem.Spec PyProof.Rows L2 Zw Zx
structure GxOk(G:Gx)(lv:Nat)(P:Program)(w:World)(K:kA)(mg:Str->Option Value)(base:Heap)(ca:Str->Value):Prop where
 co:∀x t,G.co.lookup x=some t->∃u v,mg x=some u/\RelV v u/\∀F:Hp,Rp K F F t v R0
 cl:∀c∈G.cl,Cls K c.2.1/\∀f∈c.2.2,Bo K c.2.1 f
 mt:∀c∈G.mt,c.2.2.2.lv<=lv/\Nonempty (MetX P w K mg base c.2.1 c.1 c.2.2.2.lv c.2.2.2.ps (Bw K ca c.2.2.2.g))
 nw:∀x F ds,G.nw.lookup x=some (F,ds)->F.lv+1<=lv/\∃(C:Addr) (D:NewX P w K mg base x C F.lv F.ps (FU K ca C F.g)),∀k dts,ds.lookup k=some dts->∃dvs us,C8 K D.fd F.ps us/\AU dvs us/\∀H:Hp,Ae K H dts dvs
 sf:∀C fs,G.sf=some (C,fs)->Cls K C/\∀f∈fs,Bo K C f
 xs:∀W cs,G.xs.lookup W=some cs->∃T:ECls K mg W,∀c C,cs.lookup c=some C->ca c=.ref C/\PySem.W.subIn K (.ref C) (.ref T.C)=some true
 sb:∀D tb,G.sb.lookup D=some tb->∃A:Addr,mg D=some (.ref A)/\∀C b,tb.lookup C=some b->ExcK K C/\PySem.W.kitOne K (.ref C) (.ref A)=some b
 sv:∀D tb,G.sv.lookup D=some tb->mg D=none/\∃t,bootBuiltins D=some (.type t)/\∀C b,tb.lookup C=some b->ExcK K C/\PySem.W.kitOne K (.ref C) (.type t)=some b
 ci:∀x tb,G.ci.lookup x=some tb->∃D:Addr,mg x=some (.ref D)/\(∀C b,tb.lookup C=some b->ICls K C/\PySem.W.kitOne K (.ref C) (.ref D)=some b)/\(JX.all λa=>PySem.W.kitOne K (.type a) (.ref D) == some false)=true
 x2:∀W1 W2 cs,(W1,W2,cs)∈G.x2->∃(T1:ECls K mg W1) (T2:ECls K mg W2),∀c C,cs.lookup c=some C->ca c=.ref C/\PySem.W.subIn K (.ref C) (.ref T1.C)=some false/\PySem.W.subIn K (.ref C) (.ref T2.C)=some true
 wd:∀x F,G.wd.lookup x=some F->F.lv<=lv/\∃p,F.ps=[p]/\Nonempty (DefS P w K mg base F.lv x p (Bw K ca F.g))
structure CxOk(Γ:Gm)(X:Cx)(E:L2.St->XK)(ca:Str->Value):Prop where
 N:X.N=Γ.N
 nd:Γ.N.Nodup
 nm:X.env.scope.names=Γ.nm
 kd:X.env.scope.kind=.function
 calm:X.calm=true
 room:Room Γ.lv X.A
 ce:∀x∈Γ.ce,X.fn x=true/\Γ.nm.lookup x=some .cell
 bl:∀b∈Γ.bl,X.mg b=none
 ps:BI X E
 po:Γ.ox.nr=false->PassesOwn (model X.prog X.w) X.A X.env X.xe
 md:Γ.ox.nr=false->Oo X E
 fs:∀f F,Γ.fns.lookup f=some F->F.lv<=Γ.lv/\Nonempty (DefX X.prog X.w X.K X.mg X.base F.lv f F.ps (Bw X.K ca F.g))
 ex:∀c∈Γ.ex,∃T:ECls X.K X.mg c,ca c=.ref T.C
 ms:∀f F,Γ.mus.lookup f=some F->F.lv<=Γ.lv/\Nonempty (DefX X.prog X.w X.K X.mg X.base F.lv f F.ps (Hk X.K ca F.g))
 gx:GxOk Γ.ox Γ.lv X.prog X.w X.K X.mg X.base ca
 tr:Γ.ox.df=true->X.stack=X.env::X.outer/\X.env.frame=some X.env.locals
 fr:Ft X
theorem E4{N:List Str}{x:Str}{i:Nat}(h:CU N x=some i):N[i]?=some x:=by
 unfold CU at h;obtain⟨h1,h2,_⟩:=ybf.mp h;rw[ya0 h1];exact congrArg some (eq_of_beq h2)
theorem DG{x:Str}(h:CH x=true):(x == ("__debug__":Str))=false/\(x == ("__classdict__":Str))=false/\x≠"__name__":=by
 unfold CH at h
 simp only[ya1,ybo]at h;exact⟨h.1.1,h.1.2,λz=>by
  have:=h.2;rw[z]at this;simp at this⟩
theorem L6{sc:Scope}{x:Str}(h:JT sc.names x=true):DM sc x:=by
 unfold JT at h;simp only[ybt,yev]at h
 rcases h with (h|h)|h
 .exact .inl h
 .exact .inr (.inl h)
 .exact .inr (.inr h)
theorem Ca{e:Expr}{es:List Expr}{env:Env}(h:CZ e=true):starEach (e::es) env=(false,eval e env)::starEach es env:=by
 cases e<;>first|rfl|cases h
theorem Hh:∀{es:List Expr} {env:Env} {pos:Pos},(∀e∈es,CZ e=true)->(backTo pos (starEach es env)).any (·.1)=false
 |[],env,pos,_=>rfl
 |e::es,env,pos,h=>by
  rw[Ca (h e (yah ..))];have ih:=Hh (es:=es) (env:=env) (pos:=pos) λx hx=>h x (yab _ hx)
  show(false || (backTo pos (starEach es env)).any (·.1))=false
  rw[ih]
  rfl
theorem Ic:∀{n:Nat} {Γ:Gm} {es:List Expr} {ms:AE->Option RsL},dA n Γ es=some ms->∀e∈es,CZ e=true
 |0,_,_,_,h=>by cases h
 |n+1,Γ,[],_,_=>λe he=>by cases he
 |n+1,Γ,e::es,ms,h=>by
  unfold dA at h;simp only at h;split at h
  .rename_i hs;split at h
   .rename_i m ms' h1 h2;intro x hx;rcases ya9.mp hx with rfl|hx
    .exact hs
    .exact Ic h2 x hx
   .cases h
  .cases h
section
variable {Γ:Gm}{X:Cx}{E:L2.St->XK}{ca:Str->Value}
theorem CxOk.var(C:CxOk Γ X E ca){x:Str}{i:Nat}{pos:Pos}(h:Γ.var x=some i):X.N[i]?=some x/\DM X.env.scope x/\(x == ("__debug__":Str))=false/\(x == ("__classdict__":Str))=false:=by
 unfold Gm.var at h;split at h
 .rename_i hp;rw[ya1]at hp;obtain⟨p1,p2,p3⟩:=DG hp.1;exact⟨by rw[C.N];exact E4 h,L6 (by rw[C.nm];exact hp.2),p1,p2⟩
 .cases h
theorem CxOk.gl(C:CxOk Γ X E ca){x:Str}(h:Bt Γ.nm x=true):Gl X x:=by
 unfold Bt at h;show X.env.scope.names.lookup x=some .globalImplicit;rw[C.nm];exact eq_of_beq h
theorem CxOk.loc(C:CxOk Γ X E ca){x:Str}{i:Nat}(h:Γ.loc x=true)(hi:CU Γ.N x=some i):X.N[i]?=some x/\Fq X.env.scope x/\(X.fn x=true\/X.env.scope.names.lookup x=some .local):=by
 unfold Gm.loc at h;simp only[ya1,ybt,yev]at h;refine⟨by rw[C.N];exact E4 hi,?_⟩
 rcases h.2 with h|h
 .exact⟨.inl (by rw[C.nm];exact h),.inr (by rw[C.nm];exact h)⟩
 .obtain⟨c1,c2⟩:=C.ce x (yb5.mp h);exact⟨.inr (by rw[C.nm];exact c2),.inl c1⟩
theorem CxOk.nodup(C:CxOk Γ X E ca):X.N.Nodup:=by rw[C.N];exact C.nd
theorem SW(C:CxOk Γ X E ca){x:Str}{i:Nat}{pos:Pos}(h1:Γ.loc x=true)(h2:CU Γ.N x=some i):PG X (.Name x pos) (DQ X.K (AK i)):=by
 obtain⟨g1,g2,g3⟩:=C.loc h1 h2;exact g_nm C.nodup g1 g2 g3
theorem UW(C:CxOk Γ X E ca):∀{es:List Expr} {b:List T->AE->Option AE},Kq Γ es=some b->Cy X es (Fx X.K b)/\(assignEach es X.env).length=es.length/\(assignEach es X.env).findIdx? (·.1)=none
 |[],b,h=>by
  cases h;exact⟨g_nil,rfl,rfl⟩
 |e::es,b,h=>by
  unfold Kq at h;split at h
  .rename_i x p hn;have hn:=CJ hn;subst hn;split at h
   .rename_i hl;split at h
    .rename_i i b' h1 h2;cases h;obtain⟨q1,q2,q3⟩:=UW C h2;refine⟨zlg (SW C hl h1) q1 rfl,?_,?_⟩
     .show(assignEach es X.env).length+1=es.length+1;rw[q2]
     .show List.findIdx? (·.1) ((false,assign (.Name x p) X.env)::assignEach es X.env)=none
      rw[List.findIdx?_cons,q3]
      rfl
    .cases h
   .cases h
  .cases h
theorem OF(C:CxOk Γ X E ca){tg:Expr}{b:T->AE->Option AE}(h:dG Γ tg=some b):PG X tg (DQ X.K b):=by
 unfold dG at h;split at h
 .split at h
  .rename_i hl;obtain⟨i,hi,rfl⟩:=ya2.mp h;exact SW C hl hi
  .cases h
 .obtain⟨bs,hb,rfl⟩:=ya2.mp h;obtain⟨q1,q2,q3⟩:=UW C hb;exact g_tup C.calm q1 q2 q3
 .cases h
theorem zkk{op:Operator}{g:T->T->Option T}(h:Mc op=some g):A3 X (binaryOp op) (BU X.K g):=by
 cases op<;>cases h
 .exact Qq
 .exact zhh
 .exact zhk
 .exact zhl
 .exact zhi
 .exact zex
theorem OK(C:CxOk Γ X E ca){op:CmpOp}{g:T->T->Option T}(h:Ks op=some g):A3 X (compareOp op) (BU X.K g):=by
 have hu:=C.room.units;cases op<;>cases h
 .exact zkj hu
 .exact Qp hu
 .exact Js op_lt
 .exact Js Qo
 .exact Js op_gt
 .exact Js op_ge
 .exact zkh
 .exact zd2
 .exact zki hu
 .exact zd1 hu
theorem Kt(C:CxOk Γ X E ca){op:CmpOp}{g:T->T->Option T}(h:HU op=some g):A3 X (compareOp op) (BU X.K g):=by
 unfold HU at h;split at h
 .cases h;exact zhm
 .exact OK C h
theorem zif{L:List (Str×Addr×List Str)}(hL:∀c∈L,Cls X.K c.2.1/\∀f∈c.2.2,Bo X.K c.2.1 f){f:Str}{m:AE->Option Rs}{o:Expr}{pos:Pos}(ho:PE X o (tM X.K E ca m))(hb:attributeBase o f X.env (eval o X.env)=eval o X.env):∀{m':AE->Option Rs},HN f m L=some m'->PE X (.Attribute o f pos) (tM X.K E ca m'):=by
 induction L with
 |nil=>intro m' h;cases h
 |cons c r ih =>
  obtain⟨nmc,C0,fs⟩:=c;intro m' h;have ih':=@ih (λc hc=>hL c (yab _ hc))
  unfold HN at h;split at h
  .rename_i j hj;obtain⟨h1,h2⟩:=hL _ (yah ..)
   have hf:f∈fs:=by
    obtain⟨q1,q2,_⟩:=ybf.mp hj;rw[<- eq_of_beq q2];exact yb3 q1
   have p1:PE X (.Attribute o f pos) (tM X.K E ca (EC C0 fs j m)):=r_fld h1 (h2 f hf) hj ho hb;split at h
   .rename_i m2 hm2;cases h;exact QW p1 (ih' hm2)
   .cases h;exact p1
  .exact ih' h
set_option maxHeartbeats 1000001 in
theorem zik(C:CxOk Γ X E ca){f:Str}{g:List T->Option T}{e:Expr}{es:List Expr}{ms:AE->Option RsL}{p pos:Pos}(h:Ky f=some g)(hg:Bt Γ.nm f=true)(hb:f∈Γ.bl)(ha:PA X (e::es) (Bv X.K E ca ms))(hs:∀x∈e::es,CZ x=true)(hp:CH f=true) :
  PE X (.Call (.Name f p) (e::es) [] pos) (tM X.K E ca (BB g ms)):=by
 have G:=C.gl hg;have B:=C.bl f hb;obtain⟨p1,p2,p3⟩:=DG hp;have s1:=Ca (es:=es) (env:=X.env) (hs e (yah ..));have s2:=Hh (env:=X.env) (pos:=pos) λx hx=>hs x (yab e hx)
 unfold Ky at h;split at h
 .rename_i hf;subst hf;cases h;exact Gq Ud G B PySem.boot_len ha p3 p1 s1 s2
 split at h
 .rename_i hf;subst hf;cases h;exact QU zcj G B ydb ha p3 p1 s1 s2
 split at h
 .rename_i hf;subst hf;cases h;exact Gq zdy G B PyProof.Rows.boot_abs ha p3 p1 s1 s2
 split at h
 .rename_i hf;subst hf;cases h;exact QU zdt G B PyProof.Rows.boot_tuple ha p3 p1 s1 s2
 split at h
 .rename_i hf;subst hf;cases h;exact Gq (zdu C.calm) G B PyProof.Rows.boot_min ha p3 p1 s1 s2
 split at h
 .rename_i hf;subst hf;cases h;exact Gq (zdx C.calm) G B PyProof.Rows.boot_all ha p3 p1 s1 s2
 split at h
 .rename_i hf;subst hf;cases h;exact Gq (zdw C.calm) G B PyProof.Rows.boot_any ha p3 p1 s1 s2
 .cases h
theorem zcm{c:Str}{t:String}(h:JY c=some t):bootBuiltins c=some (.type t):=by
 unfold JY at h;split at h
 .rename_i hf;subst hf;cases h;exact PyProof.Rows.boot_int
 split at h
 .rename_i hf;subst hf;cases h;exact PyProof.Rows.boot_bool
 split at h
 .rename_i hf;subst hf;cases h;exact PyProof.Rows.boot_str
 split at h
 .rename_i hf;subst hf;cases h;exact ydb
 split at h
 .rename_i hf;subst hf;cases h;exact PyProof.Rows.boot_tuple
 .cases h
theorem U9{N:List Str}:∀{ys:List Str} {caps:List Nat},Ie N ys=some caps->ys.length=caps.length/\∀(k j:Nat),caps[k]?=some j->∃y,ys[k]?=some y/\N[j]?=some y
 |[],caps,h=>by cases h;exact⟨rfl,λk j e=>by simp at e⟩
 |y::r,caps,h=>by
  unfold Ie at h;split at h
  .rename_i i hi;split at h
   .rename_i l hl;cases h;obtain⟨h1,h2⟩:=U9 hl;refine⟨by simp[h1],λk j e=>?_⟩
    cases k with
    |zero=>simp at e;subst e;exact⟨y,rfl,E4 hi⟩
    |succ k=>exact h2 k j (by simpa using e)
   .cases h
  .cases h
theorem zdi{nm:List (Str×NameKind)}{y:Str}(h:y∈C4 nm):(y,NameKind.free)∈nm:=by
 unfold C4 at h;obtain⟨⟨z,k⟩,hz,e⟩:=yby.mp h;simp only at e;split at e
 .rename_i hk;cases e;rw[<- eq_of_beq hk];exact hz
 .cases e
theorem zlx(C:CxOk Γ X E ca){scope:Scope}{tg:Expr}{caps:List Nat}(h:Ii Γ scope (CW tg++C4 scope.names)=true)(hc:Ie Γ.N (C4 scope.names)=some caps):BlkOk X scope (CW tg++C4 scope.names) (CW tg).length caps:=by
 unfold Ii at h;simp only[ya1]at h;obtain⟨⟨⟨⟨h1,h2⟩,h3⟩,h4⟩,h5⟩:=h;obtain⟨l1,l2⟩:=U9 hc
 have free:∀y∈scope.names,y.2=.free->scope.names.lookup y.1=some .free/\(Γ.nm.lookup y.1=some .cell\/Γ.nm.lookup y.1=some .free)/\(y.1,NameKind.cell)∉scope.names:=λy hy hf=>by
  have q:=yam.mp h3 y hy;simp only[hf,yf0,yde,ycm,ya1,yev,ybt,ybo]at q;refine⟨q.1.1,q.1.2,λz=>?_⟩
  have:=yb5.mpr z;rw[this]at q;exact Bool.noConfusion q.2
 refine⟨eq_of_beq h1,λy hy hl=>?_,by simp[l1],λk j e=>?_,λy hy hf=>?_⟩
 .have q:=yam.mp h2 y hy;simp only[hl,yf0,yde,ycm,yev]at q;exact q
 .obtain⟨y,e1,e2⟩:=l2 k j e;have fm:=zdi (ydn e1);obtain⟨f1,_,f3⟩:=free _ fm rfl;refine⟨y,by rw[C.N];exact e2,?_,f1,f3⟩
  rw[yax (by omega)]
  simpa using e1
 .obtain⟨f1,f2,_⟩:=free y hy hf;refine⟨f1,?_⟩;rw[C.nm];exact f2
theorem zef{scope:Scope}{env:Env}(hk:env.scope.kind=.function):(relabel scope env).names=Hw scope.names env.scope.names:=by
 unfold relabel Hw;simp only;refine List.map_congr_left λx hx=>?_
 obtain⟨n,k⟩:=x;have e:(env.scope.kind == ScopeKind.function)=true:=by rw[hk];rfl
 simp only[e,ye2]
 rfl
theorem OZ(C:CxOk Γ X E ca){scope:Scope}{N':List Str}(h:Ii Γ scope N'=true)(cl:List (Str×Addr))(A:Addr)(s₀:Shared)(H₀:Hp)(ex:List Addr)(xb:Value->Shared->Prop){E':L2.St->XK}(hp:BI (Af X scope cl N' A s₀ H₀ ex xb) E'):CxOk (Γ.blk scope N') (Af X scope cl N' A s₀ H₀ ex xb) E' ca:=by
 unfold Ii at h;simp only[ya1]at h;obtain⟨⟨⟨⟨h1,h2⟩,h3⟩,h4⟩,h5⟩:=h;refine⟨rfl,yf2 h4,?_,?_,C.calm,C.room,λx hx=>?_,C.bl,hp,λz=>(by cases z),λz=>(by cases z),C.fs,C.ex,C.ms,⟨C.gx.co,C.gx.cl,C.gx.mt,C.gx.nw,C.gx.sf,C.gx.xs,C.gx.sb,C.gx.sv,C.gx.ci,C.gx.x2,C.gx.wd⟩,λz=>(by cases z),C.fr⟩
 .show(relabel scope X.env).names=Hw scope.names Γ.nm;rw[zef C.kd,C.nm]
 .show scope.kind=.function;exact eq_of_beq h1
 .have hx':x∈(OR scope.names).filter λy=>scope.names.lookup y == some .cell:=hx
  rw[List.mem_filter]at hx';refine⟨yer (eq_of_beq hx'.2),?_⟩;exact eq_of_beq (yam.mp h5 x hx'.1)
end
structure Good(ca:Str->Value)(n:Nat):Prop where
 e:∀{Γ:Gm} {X:Cx} {E:L2.St->XK} {e:Expr} {m:AE->Option Rs},CxOk Γ X E ca->dE n Γ e=some m->PE X e (tM X.K E ca m)
 t:∀{Γ:Gm} {X:Cx} {E:L2.St->XK} {e:Expr} {m:AE->Option Rs},CxOk Γ X E ca->EA e=true->dE n Γ e=some m->PT X e (Aq X.K E ca m)
 a:∀{Γ:Gm} {X:Cx} {E:L2.St->XK} {es:List Expr} {m:AE->Option RsL},CxOk Γ X E ca->dA n Γ es=some m->PA X es (Bv X.K E ca m)
 o:∀{Γ:Gm} {X:Cx} {E:L2.St->XK} {es:List Expr} {m:AE->Option RsL},CxOk Γ X E ca->dO n Γ es=some m->PA X es (Gh X.K E ca m)
 b:∀{Γ:Gm} {X:Cx} {E:L2.St->XK} {op:BoolOp} {es:List Expr} {m:AE->Option Rs} {pos:Pos},CxOk Γ X E ca->dB n Γ op es=some m->PE X (.BoolOp op es pos) (tM X.K E ca m)/\PW X (.BoolOp op es pos) (Aq X.K E ca m)
 p:∀{Γ:Gm} {X:Cx} {E:L2.St->XK} {o:Option Expr} {m:Option (AE->Option Rs)},CxOk Γ X E ca->dP n Γ o=some m->PO X o (Fw X.K m)
 c:∀{Γ:Gm} {X:Cx} {E:L2.St->XK} {elt tg iter:Expr} {ifs:List Expr} {scope:Scope} {m:AE->Option Rs} {pos:Pos},CxOk Γ X E ca->dC n Γ elt tg iter ifs scope=some m->PE X (.ListComp elt [⟨tg,iter,ifs,0⟩] scope pos) (tM X.K E ca m)
 i:∀{Γ:Gm} {X:Cx} {E:L2.St->XK} {tg e:Expr} {m:AE->Option RsL},CxOk Γ X E ca->dI n Γ tg e=some m->PI X tg e (tI X.K E ca m)
def Rj:Expr->Bool
 |.Set ..=>false
 |_=>true
theorem N9{e:Expr}{env:Env}(h:Rj e=true)(x:Value):foldedSetIterable e env x=pure x:=by
 cases e<;>first|rfl|cases h
theorem OE:∀{n:Nat} {Γ:Gm} {tg e:Expr} {m:AE->Option RsL},dI n Γ tg e=some m->Rj e=true:=by
 intro n Γ tg e m h;cases n with
 |zero=>cases h
 |succ n =>
  cases e with
  |Set es k p=>unfold dI at h;cases h
  |_=>rfl
theorem Q7{k:Expr}(h:Fd k=false):Oi k:=λo i=>by
 cases k<;>first|rfl|cases h
theorem zg3{e:Expr}{env:Env}(h:match e with|.UnaryOp ..=>False|.BoolOp ..=>False|.IfExp ..=>False|.Compare ..=>False|_=>True)(whole:Sem Value):isTrue e env whole=(do let v <- whole;standAt e.pos;holding [v] (truthy v)):=by
 cases e<;>first|rfl|exact False.elim h
section
variable {ca:Str->Value}{n:Nat}
theorem U1(G:Good ca n){Γ:Gm}{X:Cx}{E:L2.St->XK}{elt tg iter:Expr}{ifs:List Expr}{scope:Scope}{m:AE->Option Rs}(C:CxOk Γ X E ca)(h:dC (n+1) Γ elt tg iter ifs scope=some m) :
  ∃caps mi b mt me,m=Bx (CW tg).length caps mi b mt me/\BlkOk X scope (CW tg++C4 scope.names) (CW tg).length caps/\PI X tg iter (tI X.K E ca mi) /\
   (∀cl A s₀ H₀ ex xb E',BI (Af X scope cl (CW tg++C4 scope.names) A s₀ H₀ ex xb) E'->PG (Af X scope cl (CW tg++C4 scope.names) A s₀ H₀ ex xb) tg (DQ X.K b))/\(∀cl A s₀ H₀ ex xb E',BI (Af X scope cl (CW tg++C4 scope.names) A s₀ H₀ ex xb) E'->Fp (Af X scope cl (CW tg++C4 scope.names) A s₀ H₀ ex xb) ifs (Aq X.K E' ca mt)) /\
   (∀cl A s₀ H₀ ex xb E',BI (Af X scope cl (CW tg++C4 scope.names) A s₀ H₀ ex xb) E'->PE (Af X scope cl (CW tg++C4 scope.names) A s₀ H₀ ex xb) elt (tM X.K E' ca me))/\∀x,foldedSetIterable iter X.env x=pure x:=by
 unfold dC at h;split at h
 .rename_i hb;split at h
  .rename_i caps mi b me h1 h2 h3 h4;have B:=zlx C hb h1;have PB:=λcl A s₀ H₀ ex xb E' hp=>OF (OZ C hb cl A s₀ H₀ ex xb (E':=E') hp) h3
   have PEl:=λcl A s₀ H₀ ex xb E' hp=>G.e (OZ C hb cl A s₀ H₀ ex xb (E':=E') hp) h4
   split at h
   .cases h;exact⟨caps,mi,b,_,me,rfl,B,G.i C h2,PB,λcl A s₀ H₀ ex xb E' _=>λpins s σ H Q I q=>zgr pins s σ H Q I (Lh (K:=X.K) (E:=E') (ca:=ca) q),PEl,N9 (OE h2)⟩
   .split at h
    .rename_i hok;split at h
     .rename_i mt h5;cases h;exact⟨caps,mi,b,mt,me,rfl,B,G.i C h2,PB,λcl A s₀ H₀ ex xb E' hp=>Q3 (G.t (OZ C hb cl A s₀ H₀ ex xb (E':=E') hp) hok h5),PEl,N9 (OE h2)⟩
     .cases h
    .cases h
   .cases h
  .cases h
 .cases h
theorem good0(ca:Str->Value):Good ca 0:=by
 constructor
 .intro Γ X E e m C h;cases h
 .intro Γ X E e m C _ h;cases h
 .intro Γ X E e m C h;cases h
 .intro Γ X E e m C h;cases h
 .intro Γ X E op e m pos C h;cases h
 .intro Γ X E e m C h;cases h
 .intro Γ X E elt tg iter ifs scope m pos C h;cases h
 .intro Γ X E tg e m C h;cases h
theorem UZ(G:Good ca n){Γ:Gm}{X:Cx}{E:L2.St->XK}{a:Expr}{ops:List CmpOp}{bs:List Expr}{pos:Pos}{m:AE->Option Rs}(C:CxOk Γ X E ca)(h:dE (n+1) Γ (.Compare a ops bs pos)=some m) :
  PE X (.Compare a ops bs pos) (tM X.K E ca m)/\PT X (.Compare a ops bs pos) (Aq X.K E ca m):=by
 cases ops with
 |nil=>rw[BC]at h;unfold BA at h;cases h
 |cons op r =>
  cases r with
  |cons op' r =>
   cases r with
   |cons _ _=>rw[BC]at h;unfold BA at h;cases h
   |nil =>
    cases bs with
    |nil=>rw[BC]at h;unfold BA at h;cases h
    |cons b r =>
     cases r with
     |nil=>rw[BC]at h;unfold BA at h;cases h
     |cons c r =>
      cases r with
      |cons _ _=>rw[BC]at h;unfold BA at h;cases h
      |nil =>
       rw[BC]at h;unfold BA at h;simp only at h;split at h
       .rename_i g g' ma mb mc h1 h2 h3 h4 h5;split at h
        .cases h
        .rename_i hm;cases h;have hm':=yb4.mpr hm;exact⟨r_chn (Kt C h1) (Kt C h2) (G.e C h3) (G.e C h4) (G.e C h5) hm',zjg (Kt C h1) (Kt C h2) (G.e C h3) (G.e C h4) (G.e C h5) hm'⟩
       .cases h
  |nil =>
   cases bs with
   |nil=>rw[BC]at h;unfold BA at h;cases h
   |cons b r =>
    cases r with
    |cons _ _=>rw[BC]at h;unfold BA at h;cases h
    |nil =>
     rw[BC]at h;unfold BA at h;simp only at h;split at h
     .rename_i g ma mb h1 h2 h3;split at h
      .cases h
      .rename_i hm;cases h;have hm':=yb4.mpr hm;exact⟨r_cmp (OK C h1) (G.e C h2) (G.e C h3) hm',QI (OK C h1) (G.e C h2) (G.e C h3) hm'⟩
     .cases h
theorem S9{n:Nat}{Γ:Gm}{elt:Expr}{gens:List Comprehension}{scope:Scope}{pos:Pos}{m:AE->Option Rs}(h:dE (n+1) Γ (.ListComp elt gens scope pos)=some m):∃tg iter ifs,gens=[⟨tg,iter,ifs,0⟩]/\dC n Γ elt tg iter ifs scope=some m:=by
 cases gens with
 |nil=>rw[BC]at h;unfold BA at h;cases h
 |cons g r =>
  obtain⟨tg,iter,ifs,a⟩:=g;cases a with
  |negSucc k=>rw[BC]at h;unfold BA at h;cases h
  |ofNat k =>
   cases k with
   |succ k=>rw[BC]at h;unfold BA at h;cases h
   |zero =>
    cases r with
    |cons _ _=>rw[BC]at h;unfold BA at h;cases h
    |nil=>exact⟨tg,iter,ifs,rfl,by rw[BC]at h;unfold BA at h;exact h⟩
end
section
variable {ca:Str->Value}{n:Nat}
theorem zlb{Γ:Gm}{X:Cx}{E:L2.St->XK}{tg e:Expr}{m:AE->Option Rs}(h:PE X e (tM X.K E ca m)):PI X tg e (tI X.K E ca (HF Γ m)):=by
 unfold HF;split
 .exact zjh h
 .exact QR h
theorem UY(G:Good ca n){Γ:Gm}{X:Cx}{E:L2.St->XK}{e:Expr}{m:AE->Option Rs}(C:CxOk Γ X E ca)(h:dE (n+1) Γ e=some m):PE X e (tM X.K E ca m)/\(EA e=true->PT X e (Aq X.K E ca m)):=by
 have val:∀{e:Expr} {m:AE->Option Rs},PE X e (tM X.K E ca m)->(match e with|.UnaryOp ..=>False|.BoolOp ..=>False|.IfExp ..=>False|.Compare ..=>False|_=>True)->PE X e (tM X.K E ca m)/\(EA e=true->PT X e (Aq X.K E ca m)):=λh1 h2=>⟨h1,λ_=>Jo h1 (zg3 h2)⟩
 cases e with
 |Compare a ops bs pos=>exact⟨(UZ G C h).1,λ_=>(UZ G C h).2⟩
 |Constant c k pos =>
  cases c with
  |int i=>rw[BC]at h;unfold BA at h;cases h;exact val (Gp Qc λ_ _=>.int i) trivial
  |bool b=>rw[BC]at h;unfold BA at h;cases h;exact val (Gp Qh λ_ _=>.bl b) trivial
  |none=>rw[BC]at h;unfold BA at h;cases h;exact val (Gp zk4 λ_ _=>.non) trivial
  |str x=>rw[BC]at h;unfold BA at h;cases h;exact val (Gp Qa λ_ _=>.str x) trivial
  |_=>rw[BC]at h;unfold BA at h;cases h
 |Name x pos =>
  rw[BC]at h;unfold BA at h;simp only at h;split at h
  .rename_i i hi;cases h;obtain⟨h1,h2,h3,h4⟩:=C.var (pos:=pos) hi;exact val (GD h1 h2 h3 h4) trivial
  .split at h
   .rename_i hp;rw[ya1]at hp;obtain⟨t,ht,rfl⟩:=ya2.mp h;obtain⟨u,v,k1,k2,k3⟩:=C.gx.co x t ht;exact val (r_con (C.gl hp.2) k1 k2 (DG hp.1).1 k3) trivial
   .cases h
 |Attribute o f pos =>
  rw[BC]at h;unfold BA at h;simp only at h;split at h
  .rename_i hpo;split at h
   .rename_i m1 h1;exact val (zif C.gx.cl (G.e C h1) (Ur hpo) h) trivial
   .cases h
  .cases h
 |BinOp a op b pos =>
  rw[BC]at h;unfold BA at h;simp only at h;split at h
  .rename_i g ma mb h1 h2 h3;cases h;exact val (QV (zkk h1) (G.e C h2) (G.e C h3)) trivial
  .cases h
 |UnaryOp op a pos =>
  cases op with
  |USub =>
   rw[BC]at h;unfold BA at h;simp only at h;split at h
   .rename_i ma h1;cases h;have hp:=r_un (pos:=pos) zg2 (G.e C h1);exact⟨hp,λ_=>Jo hp λ_=>rfl⟩
   .cases h
  |Not =>
   rw[BC]at h;unfold BA at h;simp only at h;split at h
   .rename_i hok;obtain⟨ma,h1,rfl⟩:=ya2.mp h;exact⟨r_not (G.e C h1),λ_=>QH (G.t C hok h1)⟩
   .cases h
  |_=>rw[BC]at h;unfold BA at h;cases h
 |BoolOp op vs pos =>
  rw[BC]at h;unfold BA at h;simp only at h;obtain⟨h1,h2⟩:=G.b (pos:=pos) C h;exact⟨h1,λ_=>h2.pt⟩
 |IfExp c a b pos =>
  rw[BC]at h;unfold BA at h;simp only at h;split at h
  .rename_i hok;split at h
   .rename_i mc ma mb h1 h2 h3;cases h;exact⟨r_ife (G.t C hok h1) (G.e C h2) (G.e C h3),λz=>by cases z⟩
   .cases h
  .cases h
 |List es pos =>
  rw[BC]at h;unfold BA at h;obtain⟨ms,h1,rfl⟩:=ya2.mp h;exact val (QM (G.o C h1)) trivial
 |Tuple es k pos =>
  rw[BC]at h;unfold BA at h;obtain⟨ms,h1,rfl⟩:=ya2.mp h;exact val (r_tup (G.a C h1)) trivial
 |Subscript a k pos =>
  rw[BC]at h;unfold BA at h;simp only at h;split at h
  .rename_i lo hi p2;split at h
   .rename_i ma ml mh h1 h2 h3;cases h;unfold Ln;split
    .exact val (QW (QJ (G.e C h1) (G.p C h2) (G.p C h3)) (zei (G.e C h1) (G.p C h2) (G.p C h3))) trivial
    exact val (QJ (G.e C h1) (G.p C h2) (G.p C h3)) trivial
   .cases h
  .split at h
   .cases h
   .rename_i hs;split at h
    .rename_i ma mk h1 h2;cases h;exact val (QO (G.e C h1) (G.e C h2) (Q7 (yb4.mpr hs))) trivial
    .cases h
 |ListComp elt gens scope pos =>
  obtain⟨tg,iter,ifs,rfl,h⟩:=S9 h;exact val (G.c C h) trivial
 |Dict ks vs pos =>
  rw[BC]at h;unfold BA at h;exact val (zig (λe m he=>G.e C he) h) trivial
 |Call f args kws pos =>
  cases f with
  |Name f p =>
   cases args with
   |nil=>rw[BC]at h;unfold BA at h;cases h
   |cons e es =>
    cases kws with
    |cons _ _=>rw[BC]at h;unfold BA at h;cases h
    |nil =>
     rw[BC]at h;unfold BA at h;simp only at h;split at h
     .rename_i hp;rw[ya1]at hp;split at h
      .rename_i hb;have hb':f∈Γ.bl:=yb5.mp hb;split at h
       .rename_i hf;subst hf;split at h
        .rename_i c p2;split at h
         .rename_i hc;simp only[ya1]at hc;split at h
          .rename_i t m' h1 h2;cases h;obtain⟨q1,q2,q3⟩:=DG hc.1.2;exact val (r_isT (zcm h1) (C.gl hp.2) (C.bl _ hb') (C.gl hc.1.1.1) (C.bl _ (yb5.mp hc.1.1.2)) q3 q1 (G.e C h2) (Ca hc.2)) trivial
          .cases h
         ·
          split at h
          .rename_i hc2;simp only[ya1]at hc2;split at h
           .rename_i CC m' h1 h2;cases h;obtain⟨_,k1,k2⟩:=C.gx.ci c CC h1;exact val (r_isC k2 (C.gl hp.2) (C.bl _ hb') (C.gl hc2.1.1) k1 (DG hc2.1.2).1 (G.e C h2) (Ca hc2.2)) trivial
           .cases h
          .cases h
        .cases h
       ·
        split at h
        .rename_i a pa pc hst;obtain⟨rfl,rfl,rfl⟩:=ze9 hst;split at h
         .rename_i hc;simp only[ya1]at hc;obtain⟨m1,h1,rfl⟩:=ya2.mp h;exact val (r_unq C.calm (C.gl hp.2) (C.bl _ hb') (C.gl hc.1.1) (C.bl _ (yb5.mp hc.1.2)) (G.e C h1) (Ca (es:=[]) (env:=X.env) hc.2)) trivial
         .cases h
        split at h
        .rename_i x px pa pc hvl;obtain⟨rfl,rfl,rfl,hln⟩:=zg1 hvl;obtain⟨i,hi,rfl⟩:=ya2.mp h;obtain⟨h1,h2,h3,h4⟩:=C.var (pos:=px) hi;exact val (zjf C.calm (C.gl hp.2) (C.bl _ hb') (GD h1 h2 h3 h4) rfl hln) trivial
        split at h
        .rename_i g ms h1 h2;cases h;exact val (zik C h1 hp.2 hb' (G.a C h2) (Ic h2) hp.1) trivial
        .cases h
      ·
       split at h
       .rename_i F ds hnw;split at h
        .rename_i dts ms hds h2;cases h;obtain⟨hl,CC,D,hD⟩:=C.gx.nw f F ds hnw;obtain⟨dvs,us,k1,k2,k3⟩:=hD _ _ hds;obtain⟨q1,q2,q3⟩:=DG hp.1;have hst:=Ic h2;exact val (r_new D k1 k2 k3 C.room C.ps (G.a C h2) hl (C.gl hp.2) q1 (Ca (hst e (yah ..))) (Hh λx hx=>hst x (yab e hx))) trivial
        .cases h
       split at h
       .rename_i F ms h1 h2;cases h;obtain⟨hl,⟨D⟩⟩:=C.fs f F h1;obtain⟨q1,q2,q3⟩:=DG hp.1;have hst:=Ic h2;exact val (zjm D C.room C.ps (G.a C h2) hl (C.gl hp.2) q1 (Ca (hst e (yah ..))) (Hh λx hx=>hst x (yab e hx))) trivial
       .cases h
     .cases h
  |Attribute o m ap =>
   cases kws with
   |cons _ _=>rw[BC]at h;unfold BA at h;cases h
   |nil =>
    rw[BC]at h;unfold BA at h;simp only at h;split at h
    .cases h
    rename_i hpo;rw[ybo,Bool.not_eq_false,ya1,ya1,yez]at hpo;obtain⟨⟨hpo,hl⟩,hlen⟩:=hpo;split at h
    .rename_i mo ms h1 h2;split at h
     .rename_i hf;subst hf;split at h
      .cases h;exact val (r_up (G.e C h1) (Ur hpo) hl) trivial
      .cases h
     cases h
    .cases h
  |_=>rw[BC]at h;unfold BA at h;cases h
 |_=>rw[BC]at h;unfold BA at h;cases h
theorem goodS(G:Good ca n):Good ca (n+1):=by
 constructor
 .intro Γ X E e m C h;exact(UY G C h).1
 .intro Γ X E e m C hok h;exact(UY G C h).2 hok
 .intro Γ X E es m C h;unfold dA at h;cases es with
  |nil=>cases h;exact QL
  |cons e es =>
   simp only at h;split at h
   .rename_i hs;split at h
    .rename_i m1 ms h1 h2;cases h;exact QT (G.e C h1) (G.a C h2) (Ca hs)
    .cases h
   .cases h
 .intro Γ X E es m C h;unfold dO at h;cases es with
  |nil=>cases h;exact QK
  |cons e es =>
   simp only at h;split at h
   .rename_i hs;split at h
    .rename_i m1 ms h1 h2;cases h;exact QS (G.e C h1) (G.o C h2) (Ca hs)
    .cases h
   .cases h
 .intro Γ X E op es m pos C h;unfold dB at h;cases es with
  |nil=>cases h
  |cons a r =>
   cases r with
   |nil =>
    simp only at h;split at h
    .rename_i hok;refine⟨r_one (G.e C h),?_⟩;cases op with
     |And=>exact zgm (G.t C hok h)
     |Or=>exact QG (G.t C hok h)
    .cases h
   |cons b r =>
    simp only at h;split at h
    .rename_i hok;split at h
     .rename_i ma mb h1 h2;cases h;obtain⟨b1,b2⟩:=G.b (pos:=pos) C h2;exact⟨r_and (G.e C h1) b1,zje (G.t C hok h1) b2⟩
     .rename_i ma mb h1 h2;cases h;obtain⟨b1,b2⟩:=G.b (pos:=pos) C h2;exact⟨r_or (G.e C h1) b1,QF (G.t C hok h1) b2⟩
     .cases h
    .cases h
 .intro Γ X E o m C h;unfold dP at h;cases o with
  |none=>cases h;exact r_po0
  |some e =>
   simp only at h;obtain⟨m1,h1,rfl⟩:=ya2.mp h;exact r_po1 (G.e C h1)
 .intro Γ X E elt tg iter ifs scope m pos C h;obtain⟨caps,mi,b,mt,me,rfl,B,hi,hg,ht,he,hs⟩:=U1 G C h;exact QN B (cq:=λX=>X.calm=true) (λ_ _ _ _ _ _ _ _ _=>C.calm) (Q8 hi) C.ps C.fr hg ht he hs
 .intro Γ X E tg e m C h
  have gen:∀{m:AE->Option RsL},(dE n Γ e).map (HF Γ)=some m->PI X tg e (tI X.K E ca m):=λh=>by
   obtain⟨m1,h1,rfl⟩:=ya2.mp h;exact zlb (G.e C h1)
  unfold dI at h;split at h
  .rename_i f p a pos;split at h
   .rename_i hf;subst hf;split at h
    .rename_i hc;simp only[ya1]at hc;obtain⟨ms,h1,rfl⟩:=ya2.mp h;exact zej (C.gl hc.1.1) (C.bl _ (yb5.mp hc.1.2)) (G.a C h1) (Ca hc.2)
    .cases h
   .exact gen h
  .rename_i f p a b pos;split at h
   .rename_i hf;subst hf;cases h
   .exact gen h
  .cases h
  .split at h
   .rename_i x px pa pc hvw;obtain⟨rfl,hln⟩:=PC hvw;split at h
    .rename_i ht;obtain⟨i,hi,rfl⟩:=ya2.mp h;obtain⟨h1,h2,h3,h4⟩:=C.var (pos:=px) hi;cases tg with
     |Tuple elts kk tpos=>exact zgn (GD h1 h2 h3 h4) rfl hln
     |_=>exact Bool.noConfusion ht
    .cases h
   .exact gen h
theorem IU(ca:Str->Value):∀n,Good ca n
 |0=>good0 ca
 |n+1=>goodS (IU ca n)
end
theorem zaw:entryFor table "proto.unchain"=some Builtin.«proto.unchain»:=entryFor_of_fast (by ext)
section
variable {prog:Program}{w:World}{A:Around}{E:Value->Shared->Prop}{s:Shared}
theorem zf3{it l h:Addr}{i:Nat}{items:Array Value}{oh:Obj}{vs:Array Value}{Q:Option Value->Shared->Prop}(hh:A.handled=some (.ref h))(ho':s.heap.get? h=some oh)(hd':oh.data=.fields vs)(h2:vs[2]?=some .none)(hne:h≠it)
  (hit:s.heap.IsListIter it l i) (hl:s.heap.IsList l items) (hx:items[i]?=none)
  (hQ:∀h',Heap.ExtBut it s.heap h'->Q none { s with heap:=h' }):wpAny (model prog w) A (pyNext (.ref it)) Q E s:=by
 obtain⟨o,ho,hc,hd⟩:=id hit;obtain⟨ol,hol,_,nl,hdl⟩:=hl;unfold pyNext;refine yec (wpAny_attempt (wpAny_callSpecial?_slot (name:=Str.ofString "__next__") hit.typeIs slot_listiter_next (wpAny_call_entry slot_listiter_next hit.typeIs entry_listiter_next ?_ (args_listiter_next _))));show wpAny _ _ (field (.ref it) 0 >>= _) _ _ s;refine yec (yeu ho hd (x:=.ref l) rfl ?_);show wpAny _ _ (if (Value.ref l == Value.none)=true then _ else _) _ _ s
 rw[if_neg (show ¬ ((Value.ref l == Value.none)=true) from ybc)];show wpAny _ _ (field (.ref it) 1 >>= _) _ _ s;refine yec (yeu ho hd (x:=.int i 0) rfl ?_);show wpAny _ _ (seqItems? (.ref l) >>= _) _ _ s;refine yec (wpAny_seqItems hol hdl ?_);simp only[yba,hx];refine yec (wpAny_rule (yec (yet ho hd (by simp) ?_)))
 show wpAny _ _ (newExc (.type "StopIteration") [] >>= _) _ _ _;refine yec ?_;simp only[newExc,newTuple];refine yec (yes ?_ (by size_fits))
 refine yec (m:=firstArgMember _ _) (yey (a:=Value.none) (by first|rfl|(simp only[firstArgMember];rfl)) ?_)
 refine yes ?_ (by size_fits)
 simp only[raiseNew];refine yec (wpAny_handled ?_);rw[show A.in1.handled=some (.ref h) from hh];have lt:=yae ho';generalize e1:s.heap.update it _=h1;have s1:Heap.SameBut it s.heap h1:=e1▸Heap.SameBut.update ..;have q1:h1.get? h=some oh:=(s1.2 h hne).trans ho';have l1:=yae q1;have sz:∀y,(h1.push y).objs.size=h1.objs.size+1:=λy=>Array.size_push ..
 show wpAny _ _ (if (Value.ref h != Value.ref (h1.push _).objs.size)=true then _ else _) _ _ _
 rw[if_pos (bne_iff_ne.mpr λz=>by injection z with z;rw[sz]at z;exact absurd l1 (by rw[z];exact ydr.mpr (yc6 _)))]
 have q3:∀y z,((h1.push y).push z).get? h=some oh:=λy z=>ya4 _ (ya4 _ q1)
 refine yec (yed (runValue_entry zaw ?_));unfold Builtin.«proto.unchain»;refine yec (yeu (q3 _ _) hd' h2 ?_);rw[if_pos (by decide)]
 refine yef ⟨_,rfl,?_⟩;unfold updateField;refine yec (yec (wpAny_load (yag _ rfl) ?_));show wpAny _ _ (if _ then _ else _) _ _ _
 rw[if_pos (by rw[Array.size_append];exact yal (show 2<6 by decide) (Nat.le_add_right 6 _))]
 refine wpAny_update (yag _ rfl) (wpAny_throw ?_);refine yec (yf5 (T:="StopIteration") (b:=true) ⟨_,yce _ (yag _ rfl) rfl,rfl⟩ isSubtype_stop ?_);refine yef (hQ _ λb o hb e=>?_)
 have e2:=(s1.2 b hb).trans e;rw[ybd _ _ (λz=>?_)]
 .exact ya4 _ (ya4 _ e2)
 .have l2:=yae e2;rw[<- z,sz]at l2;exact absurd l2 (ydr.mpr (yc6 _))
end
def HX(X:Cx):Prop:=∃h C,X.A.handled=some (.ref h)/\Dv X.H₀ h C
theorem turnX{P:Program}{w:World}{K:kA}{tg:Expr}(a it:Addr):TurnG HX P w K tg (LU K a) [it] it (λi h=>h.IsListIter it a i) where
 obj:=λi h st b hb=>by
  have e:b=it:=by simpa using hb
  subst e;obtain⟨o,e,c,d⟩:=st;exact⟨o,e,λv z=>by rw[d]at z;cases z⟩
 keep:=λi h h' st k=>st.at λo e=>k it (by simp) o e
 item:=by
  intro X hP hw hK hc i pins s σ H E I hf st hg;subst hP hw hK;obtain⟨xs,x,hq,hx⟩:=hg;obtain⟨its,rv,p,hz⟩:=I.list hq;obtain⟨u,hu,ru⟩:=rv.get hx;obtain⟨f0,f1,f2,f3,f4,f5⟩:=hf it (by simp)
  refine wpAny_pyNext_list_item st p.isList (x:=u) (by simpa using hu) λh' st' sb=>?_
  have I1:Inv X pins σ H { s with heap:=h' }:=I.turned (t':=s.toks) (λb o hb e=>(sb.2 b hb).trans e) f0 f1 f3 f4 f5
  obtain⟨o,e,c,d⟩:=id st';exact⟨u,rfl,IV (s:={ s with heap:=h' }) e c d (by decide) ⟨x,H,I1,ru,⟨rfl,λys hy=>by rw[I.list_inj hy hq];exact hx⟩,st',λb hb=>(hf b hb).1⟩⟩
 done:=by
  intro X hP hw hK hc i pins s σ H E I hf st hg;subst hP hw hK;obtain⟨xs,hq,hx⟩:=hg;obtain⟨its,rv,p,hz⟩:=I.list hq;obtain⟨f0,f1,f2,f3,f4,f5⟩:=hf it (by simp)
  obtain⟨h,C,hh,ob,y,_,vs,hd,h2⟩:=hc;have y1:=I.base.frzs _ _ _ y;have hl:=rv.length;exact zf3 hh (I.hok h _ y1).1 hd h2 (λz=>by rw[z,f0]at y1;cases y1) st p.isList (by simp;omega) λh' eb=>⟨rfl,I.turned (t':=s.toks) (λb o hb e=>eb b o hb e) f0 f1 f3 f4 f5⟩
 self:=λ_ _ _ _ _ st h=>wpAny_pyIter_listiter st h
section
variable {X:Cx}{tg e:Expr}{E:L2.St->XK}{ca:Str->Value}{m:AE->Option Rs}
theorem zh0{l:Expr}{tl:TE}(hl:PE X l tl):PJ HX X tg l (TH X.K tl):=by
 intro pins s σ H R I h;refine AR (hl pins s σ H _ I h) λv s1 ⟨x,H1,I1,r1,q1⟩=>?_
 obtain⟨a,e,⟨xs,hq⟩,q⟩:=q1;subst e;cases r1;obtain⟨its,rv,p,hz⟩:=I1.list hq;refine yeg p.isList ?_;refine⟨s1.heap.objs.size,[s1.heap.objs.size],_,_,H1,rfl,I1.kept (t':=s1.toks) λb o e=>ya4 _ e,turnX a _,⟨_,yag _ rfl,rfl,rfl⟩,λb hb=>?_,q⟩
 have e:b=s1.heap.objs.size:=by simpa using hb
 subst e;exact I1.fpOk (yaa _) (I1.hok.fresh (yaa _))
noncomputable def Ff(m:AE->Option Rs):AE->Option RsL:=λτ=>match m τ with
 |some (.v (.nd _ .lst l) false)=>some (.v (AV l) false)
 |_=>none
theorem zde{τ:AE}{r:RsL}(h:Ff m τ=some r):∃o l,m τ=some (.v (.nd o .lst l) false)/\r=.v (AV l) false:=by
 unfold Ff at h;split at h
 .rename_i hm;exact⟨_,_,hm,(yb0 h).symm⟩
 .cases h
theorem zji(ha:PE X e (tM X.K E ca m)):PJ HX X tg e (tI X.K E ca (Ff m)):=by
 refine λpins s σ H P I h=>zh0 ha pins s σ H P I ?_
 obtain⟨F,τ,R,S,q⟩:=h;refine⟨F,τ,R,S,?_⟩;cases hr:Ff m τ with
 |none=>simp only[hr]at q
 |some r =>
  obtain⟨o,l,hm,rfl⟩:=zde hr;simp only[hr]at q;rw[hm];intro F1 H1 x B e1 g1;obtain⟨F2,e2,_,r2⟩:=Cz.frz (b:=false) S e1 g1;have r2':Rp X.K F2 F2 (T.nd o .lst l).share x R0:=r2;rw[T.share]at r2';obtain⟨p,xs,rfl,_,n,kd⟩:=Cn r2';exact⟨p,rfl,⟨xs,Ag.of (e2.fh _ _ n)⟩,q F2 H1 _ e2 (K0 (λF' H' s1 s2=>Ag.of (s2 _ _ (s1 _ _ n))) kd)⟩
end
structure CxS(Γ:Gm)(X:Cx)(ca:Str->Value):Prop where
 N:X.N=Γ.N
 nd:Γ.N.Nodup
 nm:X.env.scope.names=Γ.nm
 rm:Room Γ.lv (GI X.A)
 bl:∀b∈Γ.bl,X.mg b=none
 gx:GxOk Γ.ox Γ.lv X.prog X.w X.K X.mg X.base ca
theorem CxS.var{Γ:Gm}{X:Cx}{ca:Str->Value}(C:CxS Γ X ca){x:Str}{i:Nat}(h:Γ.var x=some i):X.N[i]?=some x/\DM X.env.scope x/\(x == ("__debug__":Str))=false/\(x == ("__classdict__":Str))=false:=by
 unfold Gm.var at h;split at h
 .rename_i hp;rw[ya1]at hp;obtain⟨p1,p2,p3⟩:=DG hp.1;exact⟨by rw[C.N];exact E4 h,L6 (by rw[C.nm];exact hp.2),p1,p2⟩
 .cases h
theorem CxS.gl{Γ:Gm}{X:Cx}{ca:Str->Value}(C:CxS Γ X ca){x:Str}(h:Bt Γ.nm x=true):Gl X x:=by
 unfold Bt at h;show X.env.scope.names.lookup x=some .globalImplicit;rw[C.nm];exact eq_of_beq h
def K3:Expr->Option (Expr×Str×Pos×Pos×Pos)
 |.Call f es ks c=>(match Bj f,es,ks with
  |some (g,p),[a,b],[]=>if g="isinstance" then (match Bj b with
   |some (d,q)=>some (a,d,p,q,c)
   |none=>none) else none
  |_,_,_=>none)
 |_=>none
theorem Sv{t a:Expr}{d:Str}{p q c:Pos}(h:K3 t=some (a,d,p,q,c)):t=.Call (.Name "isinstance" p) [a,.Name d q] [] c:=by
 unfold K3 at h;split at h
 .split at h
  .rename_i h1;split at h
   .rename_i hg;split at h
    .rename_i h2;cases h;rw[CJ h1,CJ h2,hg]
    .cases h
   .cases h
  .cases h
 .cases h
mutual
def dX:Nat->Gm->Expr->Option (AE->Option Rs)
 |0,_,_=>none
 |n+1,Γ,e=>match K3 e with
  |some (a,d,_,_,_)=>if Bt Γ.nm "isinstance" && Γ.bl.contains "isinstance" && Bt Γ.nm d && CH d && CZ a then (match dX n Γ a with
    |some m=>(match Γ.ox.sb.lookup d with
     |some tb=>some (BB (g1 (Cr tb)) (AG m AH))
     |none=>(match Γ.ox.sv.lookup d with
      |some tb=>some (BB (g1 (Cr tb)) (AG m AH))
      |none=>none))
    |none=>none) else none
  |none=>(match e with
   |.Constant (.str x) _ _=>some (mC (.str x))
   |.Name x _=>(Γ.var x).map AA
   |.List es _=>(Kp n Γ es).map A4
   |.BinOp a .Add b _=>(match dX n Γ a,dX n Γ b with
    |some ma,some mb=>some (BB (g2 Ai) (AG ma (AG mb AH)))
    |_,_=>none)
   |_=>none)
def Kp:Nat->Gm->List Expr->Option (AE->Option RsL)
 |0,_,_=>none
 |n+1,Γ,es=>match es with
  |[]=>some AH
  |e::es=>if CZ e then (match dX n Γ e,Kp n Γ es with
   |some m,some ms=>some (AI m ms)
   |_,_=>none) else none
end
theorem Fj{ca:Str->Value}{E:L2.St->XK}:∀n:Nat,(∀{Γ:Gm} {X:Cx} {e:Expr} {m:AE->Option Rs},CxS Γ X ca->dX n Γ e=some m->PE X e (tM X.K E ca m))/\(∀{Γ:Gm} {X:Cx} {es:List Expr} {m:AE->Option RsL},CxS Γ X ca->Kp n Γ es=some m->PA X es (Gh X.K E ca m))
 |0=>⟨(λC h=>by cases h),(λC h=>by cases h)⟩
 |n+1=>by
  obtain⟨G1,G2⟩:=Fj (ca:=ca) (E:=E) n;refine⟨λ{Γ X e m} C h=>?_,λ{Γ X es m} C h=>?_⟩
  .unfold dX at h;split at h
   .rename_i a d p q c hi;have hi:=Sv hi;subst hi;split at h
    .rename_i hc;simp only[ya1]at hc;obtain⟨⟨⟨⟨c1,c2⟩,c3⟩,c4⟩,c5⟩:=hc;obtain⟨p1,p2,p3⟩:=DG c4;split at h
     .rename_i ma h1;split at h
      .rename_i tb ht;cases h;obtain⟨A,k1,k2⟩:=C.gx.sb d tb ht;exact QP (C.gl c1) (C.bl _ (yb5.mp c2)) (Ma (v:=.ref A) (C.gl c3) k1 rfl p1) ⟨A,.inl rfl⟩ k2 (G1 C h1) (Ca c5)
      .split at h
       .rename_i tb ht;cases h;obtain⟨k0,t,k1,k2⟩:=C.gx.sv d tb ht;exact QP (C.gl c1) (C.bl _ (yb5.mp c2)) (Qg (v:=.ty t) (C.gl c3) k0 k1 rfl p3 p1) ⟨0,.inr ⟨t,rfl⟩⟩ k2 (G1 C h1) (Ca c5)
       .cases h
     .cases h
    .cases h
   .split at h
    .cases h;exact Gp Qa λ_ _=>.str _
    .obtain⟨i,hi,rfl⟩:=ya2.mp h;obtain⟨h1,h2,h3,h4⟩:=C.var hi;exact GD h1 h2 h3 h4
    .obtain⟨ms,h1,rfl⟩:=ya2.mp h;exact QM (G2 C h1)
    .split at h
     .rename_i ma mb h1 h2;cases h;exact QV Qq (G1 C h1) (G1 C h2)
     .cases h
    .cases h
  .unfold Kp at h;cases es with
   |nil=>cases h;exact QK
   |cons e es =>
    simp only at h;split at h
    .rename_i hs;split at h
     .rename_i m1 ms h1 h2;cases h;exact QS (G1 C h1) (G2 C h2) (Ca hs)
     .cases h
    .cases h
def Mi:Expr->Bool
 |.ListComp ..=>false
 |.SetComp ..=>false
 |.DictComp ..=>false
 |_=>true
theorem Pc{e:Expr}{t:Option Expr}{l:Nat}{env:Env}(h:Mi e=true):swapsWith e t l env=pure false:=by
 cases e<;>first|rfl|cases h
noncomputable def GC:Stmt->Option Expr
 |.Return o _=>o
 |_=>none
theorem M7{s:Stmt}{e:Expr}(h:GC s=some e):∃p,s=.Return (some e) p:=by
 cases s with
 |Return o p=>exact⟨p,by rw[show o=some e from h]⟩
 |_=>cases h
def Ik:Stmt->Option (Str×Expr)
 |.Assign ts e _=>(match ts with
  |[]=>none
  |t::r=>if r.isEmpty then (Bj t).map λx=>(x.1,e) else none)
 |_=>none
theorem O5{s:Stmt}{x:Str}{e:Expr}(h:Ik s=some (x,e)):∃q p,s=.Assign [.Name x q] e p:=by
 cases s with
 |Assign ts e' p =>
  cases ts with
  |nil=>cases h
  |cons t r =>
   cases r with
   |cons _ _=>cases h
   |nil =>
    obtain⟨⟨y,q⟩,h1,h2⟩:=ya2.mp (show(Bj t).map (λx=>(x.1,e'))=some (x,e) from h)
    cases h2;exact⟨q,p,by rw[CJ h1]⟩
 |_=>cases h
def OS:Expr->Option (Expr×Expr)
 |.Call f es ks _=>(match es with
  |[]=>none
  |l::r=>if r.isEmpty && ks.isEmpty then some (f,l) else none)
 |_=>none
theorem Uc{e f l:Expr}(h:OS e=some (f,l)):∃p,e=.Call f [l] [] p:=by
 cases e with
 |Call f' es ks p =>
  cases es with
  |nil=>cases h
  |cons l' r =>
   cases r with
   |cons _ _=>cases h
   |nil =>
    cases ks with
    |cons _ _=>cases h
    |nil=>cases h;exact⟨p,rfl⟩
 |_=>cases h
def Ko:Nat->Gm->List Stmt->Option (AE->Option Out)
 |0,_,_=>none
 |n+1,Γ,ss=>match ss with
  |[]=>some Ak
  |s::r=>(match GC s with
   |some e=>if r.isEmpty then (dX n Γ e).map Ab else none
   |none=>(Ik s).bind λq=>if Γ.loc q.1 && (Γ.nm.lookup q.1 == some .local) && Mi q.2 then (CU Γ.N q.1).bind λi=>(dX n Γ q.2).bind λm=>(Ko n Γ r).map λms=>AL (AX m (AK i)) ms else none)
theorem UU{ca:Str->Value}{E:L2.St->XK}:∀n:Nat,∀{Γ:Gm} {X:Cx} {ss:List Stmt} {m:AE->Option Out},CxS Γ X ca->Ko n Γ ss=some m->BD X ss (tS X.K E ca false m)
 |0,Γ,X,ss,m,C,h=>by cases h
 |n+1,Γ,X,[],m,C,h=>by
  cases h;exact Ls
 |n+1,Γ,X,s::r,m,C,h=>by
  unfold Ko at h;cases h1:GC s with
  |some e =>
   simp only[h1]at h;obtain⟨p,rfl⟩:=M7 h1;cases r with
   |cons _ _=>cases h
   |nil =>
    obtain⟨m1,h1,rfl⟩:=ya2.mp (show(dX n Γ e).map Ab=some m from h);exact Ho (Ji ((Fj n).1 C h1))
  |none =>
   simp only[h1]at h;obtain⟨⟨x,e⟩,h2,k1⟩:=ya6.mp h;obtain⟨px,pa,rfl⟩:=O5 h2
   clear h h1 h2
   split at k1
   .rename_i hc;simp only[ya1]at hc;obtain⟨i,h3,k2⟩:=ya6.mp k1;obtain⟨m1,h4,k3⟩:=ya6.mp k2;obtain⟨ms,h5,rfl⟩:=ya2.mp k3;have hl:X.env.scope.names.lookup x=some .local:=by rw[C.nm];exact eq_of_beq hc.1.2
    exact Hr (Lq (by rw[C.N];exact C.nd) (by rw[C.N];exact E4 h3) (.inl hl) ((Fj n).1 C h4) (Pc hc.2) (.inr hl)) (UU n C h5)
   .cases k1
def dW(Γ:Gm)(en:Str)(ss:List Stmt):Option (AE->Option Out):=match ss with
 |[]=>none
 |s::r=>(Ik s).bind λq=>(OS q.2).bind λc=>(Bj c.1).bind λg=>(Bj c.2).bind λy=>(CU Γ.N en).bind λi =>
  if r.isEmpty && decide (y.1=en) && CH y.1 && JT Γ.nm y.1 && Γ.loc q.1 && (Γ.nm.lookup q.1 == some .local) && Bt Γ.nm g.1 && CH g.1 then (CU Γ.N q.1).bind λj=>(Γ.ox.wd.lookup g.1).map λF=>AX (Ac F.g (AG (AA i) AH)) (AK j) else none
theorem dW_ok{ca:Str->Value}{Γ:Gm}{X:Cx}{a:Addr}{i:Nat}{en:Str}{ss:List Stmt}{m:AE->Option Out}(C:CxS Γ (Cs X a) ca)(hi:CU Γ.N en=some i)(h:dW Γ en ss=some m):JB a i (Cs X a) ss (tS X.K EM ca false m):=by
 cases ss with
 |nil=>cases h
 |cons s r =>
  obtain⟨⟨x,e⟩,h1,k1⟩:=ya6.mp (show _=some m from h);obtain⟨⟨f,b⟩,h2,k2⟩:=ya6.mp k1;obtain⟨⟨g,q1⟩,hf,k3⟩:=ya6.mp k2;obtain⟨⟨y,q2⟩,hb,k4⟩:=ya6.mp k3;obtain⟨i',hi',k5⟩:=ya6.mp k4;obtain⟨px,pa,rfl⟩:=O5 h1;obtain⟨pc,he⟩:=Uc h2;obtain rfl:e=.Call f [b] [] pc:=he;obtain rfl:f=.Name g q1:=CJ hf;obtain rfl:b=.Name y q2:=CJ hb;rw[hi]at hi';cases hi'
  clear h h1 k1 k2 k3 k4 h2 hf hb
  split at k5
  .rename_i hc;simp only[ya1,yez,yck]at hc;obtain⟨⟨⟨⟨⟨⟨⟨rfl,rfl⟩,c2⟩,c3⟩,c4⟩,c5⟩,c6⟩,c7⟩:=hc;obtain⟨j,hj,k6⟩:=ya6.mp k5;obtain⟨F,hF,rfl⟩:=ya2.mp k6;obtain⟨p1,p2,p3⟩:=DG c2;obtain⟨hlv,p,hp,⟨D⟩⟩:=C.gx.wd g F hF;have hl:(Cs X a).env.scope.names.lookup x=some .local:=by rw[C.nm];exact eq_of_beq c5
   have hv:PE (Cs X a) (.Name y q2) (Hg i):=Gs (by rw[C.N];exact E4 hi) (L6 (by rw[C.nm];exact c3)) p1 p2
   have P1:=Q4 (M8 (pos:=pa) (pos':=px) (by rw[C.N];exact C.nd) (by rw[C.N];exact E4 hj) (.inl hl) (px_s (pos:=pc) (q:=q1) D C.rm rfl hlv hv (C.gl c6) (DG c7).1) rfl (.inr hl))
   refine λpins s σ H D' I hσ hX q=>P1 pins s σ H D' I ⟨hσ,hX,?_⟩
   have q1:tM X.K EM ca (Ac F.g (AG (AA i) AH)) σ H (λv H1=>HI j v σ H1 D'.nx):=J1 (λ_ _ _ _ z=>Kb z) q
   obtain⟨v,e1,e2⟩:=PD (Ej (Ua q1));rw[hσ]at e1;cases e1;exact FR e2
  .cases k5
def OD(n:Nat)(Γ:Gm)(en:Str)(ss:List Stmt):Option (AE->Option Out):=match dW Γ en ss with
 |some m=>some m
 |none=>Ko n Γ ss
theorem zlm{ca:Str->Value}(n:Nat){Γ:Gm}{X:Cx}{a:Addr}{i:Nat}{en:Str}{ss:List Stmt}{m:AE->Option Out}(C:CxS Γ (Cs X a) ca)(hi:CU Γ.N en=some i)(h:OD n Γ en ss=some m):JB a i (Cs X a) ss (tS X.K EM ca false m):=by
 unfold OD at h;split at h
 .rename_i hw;cases h;exact dW_ok C hi hw
 .exact pss_e (UU n C h)
noncomputable def pkB:List Str:=["len","isinstance","all","any","abs","min","max","int"]
def isLC:Expr->Bool
 |.ListComp ..=>true
 |_=>false
def BX:Nat->List Str->Expr->List Str
 |0,_,_=>[]
 |n+1,pk,e =>
  let peek:=λ(x:Expr)=>match x with
   |.Name _ _=>[]
   |x=>BX n pk x
  match e with
  |.Name x _=>[x]
  |.BinOp a _ b _=>BX n pk a++BX n pk b
  |.UnaryOp _ a _=>BX n pk a
  |.BoolOp _ vs _=>vs.flatMap (BX n pk)
  |.Compare a _ bs _=>peek a++bs.flatMap peek
  |.IfExp c a b _=>BX n pk c++BX n pk a++BX n pk b
  |.Call (.Name f _) args [] _=>if pkB.contains f || pk.contains f then args.flatMap peek else args.flatMap (BX n pk)
  |.Call (.Attribute _ _ _) args [] _=>args.flatMap λa=>if isLC a then BX n pk a else []
  |.Subscript a k _=>(match k with
   |.Slice lo hi _ _=>BX n pk a++(match lo with|some e=>BX n pk e|none=>[])++(match hi with|some e=>BX n pk e|none=>[])
   |_=>peek a++BX n pk k)
  |.List es _=>es.flatMap (BX n pk)
  |.Tuple es _ _=>es.flatMap (BX n pk)
  |.ListComp _ [⟨_,iter,_,_⟩] scope _=>BX n pk iter++C4 scope.names
  |_=>[]
def useS(pk:List Str):Stmt->List Str
 |.Expr (.Call (.Attribute (.Name _ _) _ _) [e] [] _) _=>BX 40 pk e
 |.Expr e _=>BX 40 pk e
 |.Return (some (.Name _ _)) _=>[]
 |.Return (some e) _=>BX 40 pk e
 |.Assign [.Subscript (.Subscript _ k _) j _] e _=>BX 40 pk k++BX 40 pk j++BX 40 pk e
 |.Assign [.Subscript _ k _] e _=>BX 40 pk k++BX 40 pk e
 |.Assign [_] e _=>BX 40 pk e
 |.If c _ _ _=>BX 40 pk c
 |.For _ it _ _ _=>BX 40 pk it
 |.While c _ _ _=>BX 40 pk c
 |_=>[]
def FG(Γ:Gm)(e:Expr)(m:AE->Option Rs):AE->Option Rs:=m
section
variable {X:Cx}{E:L2.St->XK}{ca:Str->Value}{Γ:Gm}{m:AE->Option Rs}{e:Expr}{σ:L2.St}{H:Hp}
theorem Lg{Q:VK}(h:tM X.K E ca (FG Γ e m) σ H Q):tM X.K E ca m σ H Q:=h
theorem ze4{Q:Bool->Hp->Prop}(h:Aq X.K E ca (FG Γ e m) σ H Q):Aq X.K E ca m σ H Q:=h
theorem zh9(h:PE X e (tM X.K E ca m)):PE X e (tM X.K E ca (FG Γ e m)):=PE.weak h λσ H Q h=>Lg h
theorem zgt(h:PT X e (Aq X.K E ca m)):PT X e (Aq X.K E ca (FG Γ e m)):=λpins s σ H Q I q=>h pins s σ H Q I (ze4 q)
end
def frzs(Γ:Gm)(s:Stmt):List Nat :=
 ((useS Γ.pk s).filter (Γ.ow.contains ·)).eraseDups.filterMap (CU Γ.N)
def N7(l:List Nat)(m:AE->Option Out):AE->Option Out:=l.foldr (λi m=>AL (FY i) m) m
def DJ:Expr->Bool
 |.ListComp ..=>true
 |.SetComp ..=>true
 |.DictComp ..=>true
 |_=>false
def Fy(Γ:Gm)(x:Str)(px:Pos):Expr->Bool
 |.ListComp _ _ scope p=>Γ.nm.lookup x == some .local && px.line == p.line && !(scope.names.any λ(n,k)=>n == x && (k == .local || k == .cell))
 |_=>false
def J5(Γ:Gm)(x:Str):Bool:=Γ.nm.lookup x == some .cell
def Gn(Γ:Gm)(x:Str)(i:Nat)(m:AE->Option Rs):AE->Option Out:=if Γ.ow.contains x then ET i m else AX m (AK i)
def Cj(c:Str)(ms:AE->Option RsL):AE->Option Out:=λτ=>match ms τ with
 |some (.v ts _)=>if ts.length<=AQ then some (.xc c τ) else none
 |some (.x c)=>some (.xc c τ)
 |none=>none
noncomputable def O6:Expr->Option (Str×Pos×Str×Pos×Expr×Pos)
 |.Call f es ks c=>(match f,es,ks with
  |.Attribute o f a,[e],[]=>(match o with
   |.Name x p=>some (x,p,f,a,e,c)
   |_=>none)
  |_,_,_=>none)
 |_=>none
theorem zfx{t:Expr}{x f:Str}{p a c:Pos}{e:Expr}(h:O6 t=some (x,p,f,a,e,c)):t=.Call (.Attribute (.Name x p) f a) [e] [] c:=by
 unfold O6 at h;split at h
 .split at h
  .split at h
   .cases h;rfl
   .cases h
  .cases h
 .cases h
noncomputable def OM:Expr->Option (Str×Pos×Str×Pos×Pos)
 |.Call f es ks c=>(match f,es,ks with
  |.Attribute o f a,[],[]=>(match o with
   |.Name x p=>some (x,p,f,a,c)
   |_=>none)
  |_,_,_=>none)
 |_=>none
theorem zfn{t:Expr}{x f:Str}{p a c:Pos}(h:OM t=some (x,p,f,a,c)):t=.Call (.Attribute (.Name x p) f a) [] [] c:=by
 unfold OM at h;split at h
 .split at h
  .split at h
   .cases h;rfl
   .cases h
  .cases h
 .cases h
def Lj:Expr->Option ((Str×Pos)×Expr×Pos)
 |.Subscript a k p=>(match Bj a with
  |some x=>some (x,k,p)
  |none=>none)
 |_=>none
theorem ze6{t k:Expr}{x:Str}{q p:Pos}(h:Lj t=some ((x,q),k,p)):t=.Subscript (.Name x q) k p:=by
 unfold Lj at h;split at h
 .split at h
  .rename_i h1;cases h;rw[CJ h1]
  .cases h
 .cases h
def M4(a b:Option Expr):Option (Str×Pos×Expr×List Expr×Pos):=match a,b with
 |some a,none=>(match a with
  |.Call f es ks c=>(match Bj f,es,ks with
   |some (x,p),e::es,[]=>some (x,p,e,es,c)
   |_,_,_=>none)
  |_=>none)
 |_,_=>none
theorem zed{a b:Option Expr}{x:Str}{p c:Pos}{e:Expr}{es:List Expr}(h:M4 a b=some (x,p,e,es,c)):a=some (.Call (.Name x p) (e::es) [] c)/\b=none:=by
 unfold M4 at h;split at h
 .split at h
  .split at h
   .rename_i h1;cases h;exact⟨by rw[CJ h1],rfl⟩
   .cases h
  .cases h
 .cases h
def NQ:Expr->Bool
 |.Dict ks vs _=>ks.isEmpty && vs.isEmpty
 |_=>false
theorem zi8{e:Expr}(h:NQ e=true):∃p,e=.Dict [] [] p:=by
 unfold NQ at h;split at h
 .rename_i ks vs p;rw[ya1]at h;exact⟨p,by rw[yck.mp h.1,yck.mp h.2]⟩
 .cases h
def O3:Expr->Option ((Str×Pos)×Str×Pos)
 |.Attribute o f p=>(match Bj o with
  |some x=>some (x,f,p)
  |none=>none)
 |_=>none
theorem zio{t:Expr}{x f:Str}{q p:Pos}(h:O3 t=some ((x,q),f,p)):t=.Attribute (.Name x q) f p:=by
 unfold O3 at h;split at h
 .split at h
  .rename_i h1;cases h;rw[CJ h1]
  .cases h
 .cases h
def UX(n:Nat)(Γ:Gm)(x f:Str)(e:Expr):Option (AE->Option Out):=match Γ.ox.sf,Γ.var x with
 |some (C,fs),some i=>(match fs.findIdx? (· == f) with
  |some j=>if (fs.take j).contains f || !(decide (j<900)) || DJ e then none else if NQ e then some (DT C fs j i KS) else (dE n Γ e).map (DT C fs j i)
  |none=>none)
 |_,_=>none
def U0(n:Nat)(Γ:Gm)(x f:Str)(k e:Expr):Option (AE->Option Out):=match Γ.ox.sf,Γ.var x with
 |some (C,fs),some i=>(match fs.findIdx? (· == f) with
  |some j=>if Fd k || DJ e then none else (match dE n Γ k,dE n Γ e with
   |some mk,some m=>some (Ht C fs j i mk m)
   |_,_=>none)
  |none=>none)
 |_,_=>none
def OG(n:Nat)(Γ:Gm)(t e:Expr):Option (AE->Option Out):=match t with
    |.Name x px=>if Γ.loc x then (
     match CU Γ.N x,dE n Γ e with
      |some i,some m=>if DJ e && !(Fy Γ x px e) && !(J5 Γ x) then none else some (Gn Γ x i (FG Γ e m))
      |_,_=>none) else none
    |.Tuple ts kt pt=>(
      if NP e || DJ e then none else (match dG Γ (.Tuple ts kt pt),dE n Γ e with
        |some b,some m=>some (AX m b)
        |_,_=>none))
    |.Subscript a j _=>(match Lj a with
      |some ((x,_),k,_) =>
        none
      |none=>(match Bj a with
        |some (x,_)=>if Fd j || DJ e then none else (match Γ.var x,dE n Γ j,dE n Γ e with
          |some i,some mk,some m=>none
          |_,_,_=>none)
        |none=>(match O3 a with
          |some ((x,_),f,_)=>U0 n Γ x f j e
          |none=>none)))
    |.Attribute o f _=>(match Bj o with
      |some (x,_)=>UX n Γ x f e
      |none=>none)
    |_=>none
mutual
def dS:Nat->Gm->Stmt->Option (AE->Option Out)
  |0,_,_=>none
  |n+1,Γ,s=>match s with
    |.Pass _=>some Ak
    |.Break _=>some MY
    |.Continue _=>some MX
    |.Return o _=>(match o with
      |none=>if Γ.mu then none else some MW
      |some e=>if Γ.mu then none else (dE n Γ e).map Ab)
    |.Expr e _=>(match O6 e with
      |some (x,_,f,apos,a,cpos)=>if CZ a && (apos.endLine == cpos.line) then (
       match Γ.var x,dE n Γ a with
        |some i,some m=>if f="append" then some (EU i m) else
          none
        |_,_=>none) else none
      |none=>(match OM e with
        |some (x,_,f,apos,cpos) =>
          none
        |none=>(
          if DJ e then none else (dE n Γ e).map FZ)))
    |.Assign ts e _=>(match ts with
      |[t]=>OG n Γ t e
      |_=>none)
    |.If c a b _=>(
      if EA c then (match dE n Γ c,Av n Γ a,Av n Γ b with
        |some mc,some u,some w=>some (Aj (FG Γ c mc) u w)
        |_,_,_=>none) else none)
    |.For tg it body els _=>if Γ.ox.nr then none else (
      (match els with
        |[]=>(match dI n Γ tg it,dG Γ tg,Av n Γ body with
          |some mi,some b,some u=>some (DR mi b u)
          |_,_,_=>none)
        |_=>none))
    |.While c body els _=>none
    |.Raise a b _ =>
     (match M4 a b with
      |some (c,_,e,es,_)=>if !(Γ.ox.nr) && Γ.ex.contains c && Bt Γ.nm c && CH c then (dA n Γ (e::es)).map (Cj c) else none
      |none=>none)
    |.Try body hs els Ar _=>(match hs,els,Ar with
      |[.ExceptHandler (some t) (some x) (b0::suite) _],[],[]=>(match Bj t with
        |some (W,_)=>if Γ.ox.df && !(Γ.ox.nr) && !(Γ.mu) && (Γ.nm.lookup x == some .local) && Bt Γ.nm W && CH W then (match CU Γ.N x,Γ.ox.xs.lookup W,Av n { Γ with ox:={ Γ.ox with nr:=true } } body,OD n Γ x (b0::suite) with
            |some i,some cs,some u,some h=>some (Gk i cs u h)
            |_,_,_,_=>none) else none
        |none=>none)
      |_,_,_=>none)
    |_=>none
def Av:Nat->Gm->List Stmt->Option (AE->Option Out)
 |0,_,_=>none
 |n+1,Γ,ss=>match ss with
  |[]=>some Ak
  |[s]=>(match dS n Γ s with
   |some m=>some (N7 (frzs Γ s) m)
   |none=>if Γ.ox.no then some Jl else none)
  |s::r=>(match dS n Γ s,Av n Γ r with
   |some m,some ms=>some (N7 (frzs Γ s) (AL m ms))
   |none,some ms=>if Γ.ox.no then some (AL Jl ms) else none
   |_,none=>none)
end
section
variable {X:Cx}{E:L2.St->XK}{ca:Str->Value}{Γ:Gm}{mu:Bool}
theorem MD{BK:List Stmt}{w:AE->Option Out}(h:BD X BK (tS X.K E ca mu w)):∀l:List Nat,BD X BK (tS X.K E ca mu (N7 l w))
 |[]=>h
 |i::r=>s_frz (MD h r)
theorem J6{e:Expr}{t:Option Expr}{l:Nat}{env:Env}(h:DJ e=false):swapsWith e t l env=pure false:=by
 cases e<;>first|rfl|cases h
theorem zba{env:Env}(h:env.scope.kind=.function):env.blockKind=.function:=by
 unfold Env.blockKind;rw[h]
 rfl
theorem ze5(C:CxOk Γ X E ca){elt:Expr}{gens:List Comprehension}{scope:Scope}{p px:Pos}{x:Str}{l:Nat}(h:Fy Γ x px (.ListComp elt gens scope p)=true):swapsWith (.ListComp elt gens scope p) (some (.Name x px)) l X.env=pure true:=by
 have e:swapsWith (.ListComp elt gens scope p) (some (.Name x px)) l X.env=pure (X.env.blockKind == .function && X.env.kindOf x == some .local && px.line == p.line && !(scope.names.any λ(n,k)=>n == x && (k == .local || k == .cell))):=rfl
 rw[e];unfold Fy at h
 simp only[ya1]at h;have k:X.env.kindOf x=some .local:=by
  show X.env.scope.names.lookup x=some .local;rw[C.nm];exact eq_of_beq h.1.1
 rw[zba C.kd,k,h.1.2,h.2]
 rfl
theorem zg8(C:CxOk Γ X E ca){e:Expr}{px:Pos}{x:Str}{l:Nat}(h:J5 Γ x=true):swapsWith e (some (.Name x px)) l X.env=pure false:=by
 have k:X.env.kindOf x=some .cell:=by
  show X.env.scope.names.lookup x=some .cell;rw[C.nm];exact eq_of_beq h
 have c:(some NameKind.cell == some NameKind.local)=false:=rfl;cases e<;>first|rfl|(unfold swapsWith;simp only[k,c,yaf,yav])
theorem Ph{t e:Expr}{l:Nat}{env:Env}(h:DJ e=false):swapsWithSole [t] e l env=pure false:=J6 h
theorem zg9{o k:Expr}{pos:Pos}{env:Env}(h:Fd k=false)(v:Value):assign (.Subscript o k pos) env v=(do
   let ov <- holding [v] (eval o env);let iv <- holding [v,ov] (eval k env)
   standAt pos
   holding [v,ov,iv] (setItem ov iv v)
   release [v,ov,iv] []):=by
 cases k<;>first|rfl|cases h
theorem s_lcS{n:Nat}{elt:Expr}{gens:List Comprehension}{scope:Scope}{p px pos:Pos}{x:Str}{i:Nat}{m:AE->Option Rs}(C:CxOk Γ X E ca)(h:dE n Γ (.ListComp elt gens scope p)=some m)(hw:Fy Γ x px (.ListComp elt gens scope p)=true)(hi:CU Γ.N x=some i) :
  PS X (.Assign [.Name x px] (.ListComp elt gens scope p) pos) (tS X.K E ca mu (Gn Γ x i (FG Γ (.ListComp elt gens scope p) m))):=by
 have lx:X.env.scope.names.lookup x=some .local:=by
  unfold Fy at hw;simp only[ya1]at hw;rw[C.nm];exact eq_of_beq hw.1.1
 have hN:X.N[i]?=some x:=by rw[C.N];exact E4 hi
 have main:PS X (.Assign [.Name x px] (.ListComp elt gens scope p) pos) (λD σ H=>tM X.K E ca m σ H λv H1=>D.nx (σ.set i (some v)) H1):=by
  cases n with
  |zero=>cases h
  |succ n =>
   obtain⟨tg,iter,ifs,rfl,h⟩:=S9 h;cases n with
   |zero=>cases h
   |succ n =>
    obtain⟨caps,mi,b,mt,me,rfl,B,hi',hg,ht,he,hs⟩:=U1 (IU ca n) C h;exact r_lcS B C.calm hi' C.ps C.fr hg ht he hs C.nodup hN lx (ze5 C hw)
 unfold Gn;split
 .exact PS.weak main λD σ H h=>Lg (PU h)
 .exact PS.weak main λD σ H h=>Lg (J1 (g:=HI i) (λ_ _ _ _ z=>Kb z) h)
theorem s_asg{n:Nat}{e:Expr}{px pos:Pos}{x:Str}{i:Nat}{m:AE->Option Rs}(C:CxOk Γ X E ca)(hl:Γ.loc x=true)(hi:CU Γ.N x=some i)(h:dE n Γ e=some m)(hc:(DJ e && !(Fy Γ x px e) && !(J5 Γ x))=false) :
  PS X (.Assign [.Name x px] e pos) (tS X.K E ca mu (Gn Γ x i (FG Γ e m))):=by
 have plain:(∀l,swapsWith e (some (.Name x px)) l X.env=pure false)->PS X (.Assign [.Name x px] e pos) (tS X.K E ca mu (Gn Γ x i (FG Γ e m))):=λsw=>by
  obtain⟨g1,g2,g3⟩:=C.loc hl hi;have he:=zh9 (Γ:=Γ) ((IU ca n).e C h);unfold Gn;split
  .exact zjb C.nodup g1 g2 he (sw _) g3
  .exact Lq C.nodup g1 g2 he (sw _) g3
 cases hcomp:DJ e with
 |false=>exact plain λl=>J6 hcomp
 |true =>
  rw[hcomp]at hc;cases hn:J5 Γ x with
  |true=>exact plain λl=>zg8 C hn
  |false =>
   rw[hn]at hc;have hw:Fy Γ x px e=true:=by simpa using hc
   cases e with
   |ListComp elt gens scope p=>exact s_lcS C h hw hi
   |_=>cases hw
theorem s_rse{c:Str}{e:Expr}{es:List Expr}{ms:AE->Option RsL}{p cpos pos:Pos}(C:CxOk Γ X E ca)(hnr:Γ.ox.nr=false)(hc:c∈Γ.ex)(hg:Bt Γ.nm c=true)(hp:CH c=true)(ha:PA X (e::es) (Bv X.K E ca ms))(hs:∀x∈e::es,CZ x=true) :
  PS X (.Raise (some (.Call (.Name c p) (e::es) [] cpos)) none pos) (tS X.K E ca mu (Cj c ms)):=by
 obtain⟨T,hT⟩:=C.ex c hc;obtain⟨p1,p2,p3⟩:=DG hp;refine PS.weak (zeo T C.calm (C.md hnr) ha (C.gl hg) p1 (Ca (hs e (yah ..))) (Hh hs)) λD σ H h=>?_
 obtain⟨F,τ,R,S,q⟩:=h;refine⟨F,τ,R,S,?_⟩;unfold Cj at q;cases hm:ms τ with
 |none=>simp only[hm]at q
 |some r =>
  simp only[hm]at q;cases r with
  |x c=>exact λF' H' e=>q F' H' σ R e.stp0 (S.ext e)
  |v ts b =>
   intro F' H' xs e1 rs
   by_cases hz:ts.length<=AQ
   .simp only[hz,yeo]at q;refine⟨by rw[<- rs.1,<- DY];exact hz,?_⟩
    have:=q F' H' σ R e1.stp0 (S.ext e1);rw[hT]at this;exact this
   .simp only[hz,yep]at q
structure GoodS(ca:Str->Value)(n:Nat):Prop where
 s:∀{Γ:Gm} {X:Cx} {E:L2.St->XK} {st:Stmt} {m:AE->Option Out},CxOk Γ X E ca->dS n Γ st=some m->PS X st (tS X.K E ca Γ.mu m)
 ss:∀{Γ:Gm} {X:Cx} {E:L2.St->XK} {st:List Stmt} {m:AE->Option Out},CxOk Γ X E ca->Av n Γ st=some m->BD X st (tS X.K E ca Γ.mu m)
end
theorem zih{ca:Str->Value}{n:Nat}{Γ:Gm}{X:Cx}{E:L2.St->XK}{t e:Expr}{pos:Pos}{m:AE->Option Out}(C:CxOk Γ X E ca)(h:OG n Γ t e=some m):PS X (.Assign [t] e pos) (tS X.K E ca Γ.mu m):=by
 have GE:=IU ca n;unfold OG at h;split at h
 .rename_i x px;split at h
  .rename_i hl;split at h
   .rename_i i m1 h1 h2;split at h
    .cases h
    .rename_i hc;cases h;exact s_asg C hl h1 h2 (yb4.mpr hc)
   .cases h
  .cases h
 .rename_i ts kt pt;split at h
  .cases h
  .rename_i hc;split at h
   .rename_i b m1 h1 h2;cases h;have hc':(NP e || DJ e)=false:=yb4.mpr hc
    rw[ybu]at hc';refine zj8 (GE.e C h2) (OF C h1) ?_ ?_ rfl
    .exact Ph hc'.2
    .have ht:=hc'.1;cases e<;>first|rfl|cases ht
   .cases h
 .rename_i a j p3;split at h
  .rename_i x p1 k p2 hsub;have hsub:=ze6 hsub;subst hsub;cases h
  .split at h
   .rename_i x p1 hnm;have hnm:=CJ hnm;subst hnm;split at h
    .cases h
    .rename_i hc;split at h
     .rename_i i mk m1 h1 h2 h3;have hc':(Fd j || DJ e)=false:=yb4.mpr hc
      rw[ybu]at hc';obtain⟨v1,v2,v3,v4⟩:=C.var (pos:=p1) h1;cases h
     .cases h
   .split at h
    .rename_i x p1 f p2 hat;have hat:=zio hat;subst hat;unfold U0 at h;split at h
     .rename_i CC fs i hsf hv;split at h
      .rename_i jj hj;split at h
       .cases h
       .rename_i hc;have hc':(Fd j || DJ e)=false:=yb4.mpr hc
        rw[ybu]at hc';split at h
        .rename_i mk m1 h1 h2;cases h;obtain⟨v1,v2,v3,v4⟩:=C.var (pos:=p1) hv;obtain⟨k1,k2⟩:=C.gx.sf CC fs hsf
         have hf:f∈fs:=by
          obtain⟨q1,q2,_⟩:=ybf.mp hj;rw[<- eq_of_beq q2];exact yb3 q1
         refine s_dpf (by have:=C.room.units;omega) k1 (k2 f hf) hj v1 v2 v3 v4 (GE.e C h2) (GE.e C h1) (Ph hc'.2) ?_ (zg9 hc'.1)
         cases e<;>rfl
        .cases h
      .cases h
     .cases h
    .cases h
 .rename_i o f p2;split at h
  .rename_i x p1 hn;have hn:=CJ hn;subst hn;unfold UX at h;split at h
   .rename_i CC fs i hsf hv;split at h
    .rename_i jj hj;split at h
     .cases h
     .rename_i hc;have hc':((fs.take jj).contains f || !(decide (jj<900)) || DJ e)=false:=yb4.mpr hc
      rw[ybu,ybu,Bool.not_eq_false',yez]at hc';obtain⟨⟨c1,c2⟩,c3⟩:=hc';obtain⟨v1,v2,v3,v4⟩:=C.var (pos:=p1) hv;obtain⟨k1,k2⟩:=C.gx.sf CC fs hsf;obtain⟨q1,q2,_⟩:=ybf.mp hj
      have hf:f∈fs:=by
       rw[<- eq_of_beq q2];exact yb3 q1
      have hg:fs[jj]?=some f:=by rw[ya0 q1];exact congrArg some (eq_of_beq q2)
      split at h
      .rename_i h0;obtain⟨p0,rfl⟩:=zi8 h0;cases h;exact Pq k1 (k2 f hf) hg c1 c2 v1 v2 v3 v4 zjj rfl
      .obtain⟨m1,h1,rfl⟩:=ya2.mp h;exact Pq k1 (k2 f hf) hg c1 c2 v1 v2 v3 v4 (GE.e C h1) (J6 c3)
    .cases h
   .cases h
  .cases h
 .cases h
theorem dS_ok{ca:Str->Value}{n:Nat}(G:GoodS ca n){Γ:Gm}{X:Cx}{E:L2.St->XK}{st:Stmt}{m:AE->Option Out}(C:CxOk Γ X E ca)(h:dS (n+1) Γ st=some m):PS X st (tS X.K E ca Γ.mu m):=by
 have GE:=IU ca n;unfold dS at h;split at h
 .cases h;exact zja
 .cases h;exact zgj
 .cases h;exact zc5
 .split at h
  .split at h
   .rename_i hmu;cases h
   .rename_i hmu;cases h;rw[yb4.mpr hmu];exact zj9
  .split at h
   .rename_i hmu;cases h
   .rename_i hmu;rw[yb4.mpr hmu];obtain⟨m1,h1,rfl⟩:=ya2.mp h;exact Ji (GE.e C h1)
 .split at h
  .rename_i x p f apos e cpos happ;have happ:=zfx happ;subst happ;split at h
   .rename_i hc;rw[ya1]at hc;split at h
    .rename_i i m1 h1 h2;obtain⟨v1,v2,v3,v4⟩:=C.var (pos:=p) h1;have s1:=Ca (es:=[]) (env:=X.env) hc.1;split at h
     .rename_i hf;subst hf;cases h;exact s_app v1 v2 v3 v4 (GE.e C h2) s1 hc.2
     .cases h
    .cases h
   .cases h
  .split at h
   .rename_i x p f apos cpos hclr;have hclr:=zfn hclr;subst hclr;cases h
   ·
    split at h
    .cases h
    .rename_i hc;obtain⟨m1,h1,rfl⟩:=ya2.mp h;exact s_exp (GE.e C h1) (J6 (yb4.mpr hc))
 .split at h
  .exact zih C h
  .cases h
 .rename_i c a b pos;split at h
  .rename_i hok;split at h
   .rename_i mc u w h1 h2 h3;cases h;exact Pp (zgt (GE.t C hok h1)) (G.ss C h2) (G.ss C h3)
   .cases h
  .cases h
 .split at h
  .cases h
  rename_i hnr;split at h
  .split at h
   .rename_i mi b u h1 h2 h3;cases h;exact s_for (C.po (yb4.mpr hnr)) C.calm (GE.i C h1) (OF C h2) (G.ss C h3) (N9 (OE h1))
   .cases h
  .cases h
 .cases h
 ·
  split at h
  .rename_i c p e es cpos hr;obtain⟨rfl,rfl⟩:=zed hr;split at h
   .rename_i hc;simp only[ya1,ybo]at hc;obtain⟨ms,h1,rfl⟩:=ya2.mp h;exact s_rse C hc.1.1.1 (yb5.mp hc.1.1.2) hc.1.2 hc.2 (GE.a C h1) (Ic h1)
   .cases h
  .cases h
 .rename_i body hs els Ar pos;split at h
  .rename_i t x b0 suite hpos;split at h
   .rename_i W np hW;have hW:=CJ hW;subst hW;split at h
    .rename_i hc;simp only[ya1,ybo]at hc;obtain⟨⟨⟨⟨⟨c1,c2⟩,c3⟩,c4⟩,c5⟩,c6⟩:=hc;split at h
     .rename_i i cs u hh h1 h2 h3 h4;cases h;obtain⟨T,hT⟩:=C.gx.xs W cs h2;obtain⟨t1,t2⟩:=C.tr c1;rw[c3];refine s_try (mu:=false) T hT t1 t2 C.nodup (by rw[C.N];exact E4 h1) (by rw[C.nm];exact eq_of_beq c4) (λE' pins xe hp=>?_) (λa=>?_) (C.gl c5) (DG c6).1
      .have C':CxOk { Γ with ox:={ Γ.ox with nr:=true } } (FE X pins xe) E' ca:=⟨C.N,C.nd,C.nm,C.kd,C.calm,C.room,C.ce,C.bl,hp,λz=>(by cases z),λz=>(by cases z),C.fs,C.ex,C.ms,⟨C.gx.co,C.gx.cl,C.gx.mt,C.gx.nw,C.gx.sf,C.gx.xs,C.gx.sb,C.gx.sv,C.gx.ci,C.gx.x2,C.gx.wd⟩,C.tr,C.fr⟩
       have g:=G.ss C' h3;have e:(({ Γ with ox:={ Γ.ox with nr:=true } }:Gm)).mu=false:=c3
       rw[e]at g;exact g
      .have CS:CxS Γ (Cs X a) ca:=⟨C.N,C.nd,C.nm,⟨rfl,C.room.dp,C.room.un⟩,C.bl,C.gx⟩;exact zlm n CS h1 h4
     .cases h
    .cases h
   .cases h
  .cases h
 .cases h
theorem N0(ca:Str->Value):∀n,GoodS ca n
 |0=>⟨(λC h=>by cases h),(λC h=>by cases h)⟩
 |n+1=>by
  have G:=N0 ca n;refine⟨λC h=>dS_ok G C h,λ{Γ X E st m} C h=>?_⟩
  unfold Av at h;cases st with
  |nil=>cases h;exact Ls
  |cons s r =>
   cases r with
   |nil =>
    simp only at h;split at h
    .rename_i m1 h1;cases h;exact MD (Ho (G.s C h1)) _
    .split at h
     .cases h;exact Ho Po
     .cases h
   |cons s2 r =>
    simp only at h;split at h
    .rename_i m1 ms h1 h2;cases h;exact MD (Hr (G.s C h1) (G.ss C h2)) _
    .rename_i ms h1 h2;split at h
     .cases h;exact Hr Po (G.ss C h2)
     .cases h
    .cases h
noncomputable def M3(n:Nat)(u:AE->Option Out)(ts:List T):Option Ru:=match u (ts.map some++List.replicate (n - ts.length) none) with
 |some (.rt t)=>some (.ok t)
 |some (.nx _)=>some (.ok .non)
 |some (.xc c _)=>some (.exc c)
 |_=>none
def BE(k n:Nat)(u:AE->Option Out)(ts:List T):Option Ru:=if ts.length=k then M3 n u ts else none
theorem Lk{F H F' H':Hp}{O':Rg}{R:Nat->Rg}(hR:∀i a,¬ R i a)(s:Stp F H (tot R) F' H' O'):Ext F H F' H' O' where
 hh:=λb u e=>s.kp b u (λ⟨i,z⟩=>hR i b z) e
 ff:=s.ff
 fh:=s.fh
 nb:=λb z=>(s.nw b z).elim (λ⟨i,w⟩=>absurd w (hR i b)) id
 nf:=λb u e=>(s.nf b u e).elim .inl λz=>z.elim (λ⟨i,w⟩=>absurd w (hR i b)) .inr
theorem ze7{K:kA}{F H:Hp}{N:List Str}{ts:List T}{vs:List V}(fh:AY F H)(r:Ae K F ts vs):StR K F H (start N vs) (ts.map some++List.replicate (N.length - ts.length) none) (λ_=>R0):=by
 have hl:=r.1;refine⟨fh,by simp[L2.start,hl],λi t e=>?_,λ_ _ z=>z.elim,λ_ _ _ _ z=>z.elim⟩
 unfold L2.start
 by_cases hi:i<ts.length
 .rw[yas (by simpa using hi),ya7]at e
  obtain⟨t',e1,e2⟩:=ya2.mp e;cases e2;have hv:i<vs.length:=by omega
  refine⟨vs[i],?_,(r.2 i t vs[i] e1 (ya0 hv)).any⟩;rw[yas (by simpa using hv),ya7,ya0 hv]
  rfl
 .rw[yax (by simp;omega)]at e
  obtain⟨h1,h2⟩:=ya8.mp e;simp at h2
theorem Pt{K:kA}{ca:Str->Value}{N ps:List Str}{vs:List V}{H:Hp}{Q:VK}{E:XK}{u:AE->Option Out}(h:Bw K ca (BE ps.length N.length u) vs H Q E):tS K (λ_=>E) ca false u { nx:=λ_ H'=>Q .non H',rt:=Q } (start N vs) H:=by
 obtain⟨F',ts,fh,r,q⟩:=h;refine⟨F',_,_,ze7 fh r,?_⟩;unfold BE at q
 by_cases hl:ts.length=ps.length
 .simp only[hl,yeo]at q;unfold M3 at q;cases ho:u (ts.map some++List.replicate (N.length - ts.length) none) with
  |none=>simp only[ho]at q
  |some o =>
   simp only[ho]at q;cases o with
   |nx τ=>exact λF1 H1 σ1 R1 s1 S1=>q F1 H1 .non R0 ((Lk (λ_ _ z=>z) s1).mono λ_ z=>z.elim) .non
   |rt t=>exact λF1 H1 x B s1 r1=>q F1 H1 x B (Lk (λ_ _ z=>z) s1) r1
   |bk τ=>exact q.elim
   |ct τ=>exact q.elim
   |xc c τ=>exact λF1 H1 σ1 R1 s1 S1=>q F1 H1 ((Lk (λ_ _ z=>z) s1).mono λ_ z=>z.elim)
 .simp only[hl,yep]at q
theorem UA{P:Program}{w:World}{K:kA}{mg:Str->Option Value}{base:Heap}{ca:Str->Value}{x qual:Str}{st:Stmt}{f:Addr}{fd:FuncData}{N ps:List Str}{k n:Nat}{Γ:Gm}{u:AE->Option Out}(F:FunD K x qual st f fd)(S:FnScope N ps (AO st))
  (hΓ:Γ.N=N) (hnm:Γ.nm=(AO st).names) (hce:∀x∈Γ.ce,Γ.nm.lookup x=some .cell) (hlv:Γ.lv=k) (hbl:∀b∈Γ.bl,mg b=none)
  (hfs:∀f F,Γ.fns.lookup f=some F->F.lv<=k/\Nonempty (DefX P w K mg base F.lv f F.ps (Bw K ca F.g))) (hex:∀c∈Γ.ex,∃T:ECls K mg c,ca c=.ref T.C)
  (hms:∀f F,Γ.mus.lookup f=some F->F.lv<=k/\Nonempty (DefX P w K mg base F.lv f F.ps (Hk K ca F.g))) (hmu:Γ.mu=false) (hgx:GxOk Γ.ox k P w K mg base ca) (hu:Av n Γ (Ao st)=some u):FnOk P w K mg base (CG P w) (k+1) f fd ps (Bw K ca (BE ps.length N.length u)):=by
 refine Qt F S (λvs H Q E h=>?_) λcdv A outer s H vs Q E hr h=>?_
 .obtain⟨F',ts,_,r,q⟩:=h;unfold BE at q
  by_cases hl:ts.length=ps.length
  .rw[<- r.1,hl]
  .simp only[hl,yep]at q
 .have C:CxOk Γ (DK (CG P w) P w K mg base N qual (AO st) f cdv A outer s H E) (λ_=>E) ca:=by
   refine⟨hΓ.symm,by rw[hΓ];exact S.nd,hnm.symm,S.kind,rfl,by rw[hlv];exact hr,λy hy=>⟨rfl,hce y hy⟩,hbl,Qi,λ_=>PassesOwn.leaving,λ_=>SQ,λf F e=>by rw[hlv];exact hfs f F e,hex,λf F e=>by rw[hlv];exact hms f F e,by rw[hlv];exact hgx,λ_=>⟨rfl,rfl⟩,⟨_,_,rfl,rfl⟩⟩
  have G:=(N0 ca n).ss C hu;rw[hmu]at G;refine⟨_,G,?_⟩;exact Pt h
def runM(k n:Nat)(u:AE->Option Out)(ts:List T):Option Ru:=if ts.length=k then (match u (ts.map some++List.replicate (n - ts.length) none) with
 |some (.rt t)=>some (.ok t)
 |some (.nx τ)=>(match QB .non τ with
  |some (.rt t)=>some (.ok t)
  |_=>none)
 |some (.xc c _)=>some (.exc c)
 |_=>none) else none
theorem zco{K:kA}{F H:Hp}{N:List Str}{t0:T}{ts:List T}{x0:V}{vs:List V}{A:Rg}(fh:AY F H)(r0:Rp K F H t0 x0 A)(r:Ae K F ts vs):StR K F H (start N (x0::vs)) ((t0::ts).map some++List.replicate (N.length - (t0::ts).length) none) (λi=>if i=0 then A else R0):=by
 have hl:=r.1;refine⟨fh,by simp[L2.start,hl],λi t e=>?_,λi a z=>?_,λi j a hij z1 z2=>?_⟩
 .unfold L2.start
  by_cases hi:i<(t0::ts).length
  .rw[yas (by simpa using hi),ya7]at e
   obtain⟨t',e1,e2⟩:=ya2.mp e;cases e2;cases i with
   |zero =>
    cases e1;exact⟨x0,by simp,r0⟩
   |succ i =>
    have hi':i<ts.length:=by simpa using hi
    have hv:i<vs.length:=by omega
    refine⟨vs[i],?_,(r.2 i t vs[i] (by simpa using e1) (ya0 hv)).any⟩
    rw[yas (by simpa using hv),ya7,yd4,ya0 hv]
    rfl
  .rw[yax (by simp at hi ⊢;omega)]at e
   obtain⟨h1,h2⟩:=ya8.mp e;simp at h2
 .by_cases hi:i=0
  .subst hi;exact⟨t0,rfl⟩
  .simp only[hi,yep]at z;exact z.elim
 .by_cases hi:i=0
  .have hj:¬ j=0:=λz=>hij (hi.trans z.symm)
   simp only[hj,yep]at z2;exact z2
  .simp only[hi,yep]at z1;exact z1
theorem zg4{A:Rg}:tot (λi=>if i=0 then A else R0)=A:=funext λa=>propext ⟨λ⟨i,z⟩=>by
 by_cases hi:i=0
 .simp only[hi,yeo]at z;exact z
 .simp only[hi,yep]at z;exact z.elim,λz=>⟨0,by simpa using z⟩⟩
theorem Am{α:Type}{P:α->Prop}:∀x∈([]:List α),P x:=λ_ h=>by cases h
theorem all_cons{α:Type}{P:α->Prop}{a:α}{l:List α}(h:P a)(r:∀x∈l,P x):∀x∈a::l,P x:=λx hx=>by
 obtain rfl|hx:=ya9.mp hx
 .exact h
 .exact r x hx
theorem JV{P:List Value->Prop}(h:P []):∀us:List Value,us.length=0->P us:=λus e=>by
 cases us with
 |nil=>exact h
 |cons a r=>cases e
theorem EN{P:List Value->Prop}{k:Nat}(h:∀a us,us.length=k->P (a::us)):∀us:List Value,us.length=k+1->P us:=λus e=>by
 cases us with
 |nil=>cases e
 |cons a r=>exact h a r (Nat.succ.inj e)
theorem Cp{P:List Value->Prop}(h:∀a,P [a]):∀us:List Value,us.length=1->P us:=EN λa=>JV (h a)
theorem Gd{P:List Value->Prop}(h:∀a b,P [a,b]):∀us:List Value,us.length=2->P us:=EN λa=>EN λb=>JV (h a b)
theorem Gc{P:List Value->Prop}(h:∀a b c,P [a,b,c]):∀us:List Value,us.length=3->P us:=EN λa=>EN λb=>EN λc=>JV (h a b c)
theorem JW{P:List Value->Prop}(h:∀a b c d,P [a,b,c,d]):∀us:List Value,us.length=4->P us:=EN λa=>EN λb=>EN λc=>EN λd=>JV (h a b c d)
section
variable {P:Program}{w:World}{K:kA}{mg:Str->Option Value}{base:Heap}{ca:Str->Value}{k:Nat}
theorem BS:∀f F,([]:List (Str×Fn)).lookup f=some F->F.lv<=k/\Nonempty (DefX P w K mg base F.lv f F.ps (Bw K ca F.g)):=λ_ _ h=>by cases h
theorem Az{x:Str}{F0:Fn}{l:List (Str×Fn)}(hk:F0.lv<=k)(D:DefX P w K mg base F0.lv x F0.ps (Bw K ca F0.g))(r:∀f F,l.lookup f=some F->F.lv<=k/\Nonempty (DefX P w K mg base F.lv f F.ps (Bw K ca F.g))) :
  ∀f F,((x,F0)::l).lookup f=some F->F.lv<=k/\Nonempty (DefX P w K mg base F.lv f F.ps (Bw K ca F.g)):=λf F h=>by
 rw[yaz]at h;cases hf:f == x with
 |true =>
  rw[hf]at h;cases h;rw[eq_of_beq hf];exact⟨hk,⟨D⟩⟩
 |false=>rw[hf]at h;exact r f F h
theorem Jw:∀f F,([]:List (Str×Fn)).lookup f=some F->F.lv<=k/\Nonempty (DefX P w K mg base F.lv f F.ps (Hk K ca F.g)):=λ_ _ h=>by cases h
def Ja(K:kA):Sp:=λvs H Q _=>∃(a:Addr) (ns:List Int),vs=[.ref a]/\Ag K H a (ns.map V.int)/\ns.length<=63/\∀H',Q (.bl true) H'
def An(ns:List Int):T:=.nd false .rl (ns.map T.int)
theorem Pz{F:Hp}:∀ns:List Int,Ae K F (ns.map T.int) (ns.map V.int)
 |[]=>.nil
 |n::r=>.cons (H:=F) (.int n) (Pz r)
theorem zl1{R:List T->Option Ru}{f:Addr}{fd:FuncData}(F:FnOk P w K mg base (CG P w) k f fd ["_law_script"] (Bw K ca R))(h:∀ns:List Int,ns.length<=63->R [An ns]=some (.ok (.bl true))):FnOk P w K mg base Df k f fd ["_law_script"] (Ja K):=by
 refine⟨λvs H Q E hs=>?_,λA outer s H args us vs Q E hr e0 hb hv hs=>?_⟩
 .obtain⟨a,ns,rfl,_⟩:=hs
  rfl
 .obtain⟨a,ns,rfl,hq,h63,q⟩:=hs;refine yek (F.run A outer s H args us _ Q E0 hr e0 hb hv ⟨H,[An ns],.refl _,.cons (H:=H) (Ae.of_node (k:=.rl) hq (Pz ns)) .nil,?_⟩) λr s' hx=>?_
  .rw[h ns h63];intro F' H' z C e r;rw[r.bl_inv];exact q H'
  .cases r with
   |error v =>
    obtain⟨_,_,_,_,_,_,_,_,_,_,_,_,z⟩:=hx;exact z.elim
   |ok fl=>cases fl<;>exact hx
end
structure CxB(Γ:Gm)(X:Cx)(ca:Str->Value):Prop extends CxS Γ X ca where
 fr:Ft X
 hx:∀pins σ H s scope cl N' C ex xb,Inv X pins σ H s->HX (Af X scope cl N' C s H ex xb)
 ps:BI X EM
def Kr:Expr->Option (Str×Str×Scope)
 |.ListComp e gs sc _=>(match gs with
  |[]=>none
  |g::r=>(match g.ifs with
   |[]=>none
   |c::cs=>(Bj e).bind λa=>(Bj g.target).bind λb=>(Bj g.iter).bind λy=>(Bj c).bind λd=>if (r.isEmpty && cs.isEmpty)=true/\b.1=a.1/\d.1=a.1/\g.is_async=0 then some (a.1,y.1,sc) else none))
 |_=>none
theorem U6{e:Expr}{o y:Str}{sc:Scope}(h:Kr e=some (o,y,sc)):∃p1 p2 p3 p4 pc,e=.ListComp (.Name o p1) [⟨.Name o p2,.Name y p3,[.Name o p4],0⟩] sc pc:=by
 cases e with
 |ListComp e gs sc' pc =>
  cases gs with
  |nil=>cases h
  |cons g r =>
   obtain⟨t,it,ifs,k⟩:=g;cases ifs with
   |nil=>cases h
   |cons c cs =>
    obtain⟨⟨o1,p1⟩,h1,k1⟩:=ya6.mp (show _=some (o,y,sc) from h);obtain⟨⟨o2,p2⟩,h2,k2⟩:=ya6.mp k1;obtain⟨⟨y',p3⟩,h3,k3⟩:=ya6.mp k2;obtain⟨⟨o4,p4⟩,h4,k4⟩:=ya6.mp k3;split at k4
    .rename_i hc;cases k4;obtain⟨e1,e2,e3,e4⟩:=hc;rw[ya1,yck,yck]at e1;exact⟨p1,p2,p3,p4,pc,by rw[CJ h1,show t=.Name o2 p2 from CJ h2,show it=.Name y' p3 from CJ h3,CJ h4,e1.1,e1.2,show o2=o1 from e2,show o4=o1 from e3,show k=0 from e4]⟩
    .cases k4
 |_=>cases h
def OJ(o:Str)(sc:Scope):Bool:=(sc.kind == .function) && CH o && (sc.names.lookup o == some .local) && sc.names.all (λx=>!(x.2 == .free)) && sc.names.all (λx=>!(x.2 == .local) || sc.names.lookup x.1 == some .local)
theorem r_cnt{Γ:Gm}{X:Cx}{ca:Str->Value}{e:Expr}{o y:Str}{sc:Scope}{i:Nat}(C:CxB Γ X ca)(h:Kr e=some (o,y,sc))(ok:OJ o sc=true)(hi:Γ.var y=some i):PE X e (tM X.K EM ca (Bx 1 [] (Ff (AA i)) (AK 0) (AA 0) (AA 0))):=by
 obtain⟨p1,p2,p3,p4,pc,rfl⟩:=U6 h;unfold OJ at ok;simp only[ya1]at ok;obtain⟨⟨⟨⟨k1,k2⟩,k3⟩,k4⟩,k5⟩:=ok;obtain⟨p1',p2',p3'⟩:=DG k2
 have nf:∀z∈sc.names,z.2≠.free:=λz hz w=>by
  have q:=yam.mp k4 z hz;rw[w]at q;cases q
 have lo:∀(env:Env),(relabel sc env).names.lookup o=some .local:=λenv=>by
  rw[Jn,eq_of_beq k3]
  rfl
 have B:BlkOk X sc [o] 1 []:=⟨eq_of_beq k1,λz hz hl=>by
  have q:=yam.mp k5 z hz;simp only[hl,yf0,yde,ycm,yev]at q;exact q,rfl,λk j w=>by simp at w,λz hz w=>absurd w (nf z hz)⟩
 obtain⟨v1,v2,v3,v4⟩:=C.toCxS.var hi;have vn:∀cl A s₀ H₀ ex xb E' (p:Pos),PE (Af X sc cl [o] A s₀ H₀ ex xb) (.Name o p) (tM X.K E' ca (AA 0)):=λcl A s₀ H₀ ex xb E' p=>GD (X:=Af X sc cl [o] A s₀ H₀ ex xb) rfl (.inl (lo _)) p1' p2'
 exact QN B (cq:=HX) (λpins σ H s cl D ex xb I=>C.hx _ _ _ _ _ _ _ _ _ _ I) (zji (GD v1 v2 v3 v4)) C.ps C.fr
  (λcl A s₀ H₀ ex xb E' _=>λpins s σ H v u Q I r h=>Q9 (X:=Af X sc cl [o] A s₀ H₀ ex xb) (show [o].Nodup by simp) rfl (.inl (lo _)) (.inr (lo _)) pins s σ H v u Q I r (Kb h))
  (λcl A s₀ H₀ ex xb E' _=>Q3 (Jo (vn cl A s₀ H₀ ex xb E' _) λ_=>rfl)) (λcl A s₀ H₀ ex xb E' _=>vn cl A s₀ H₀ ex xb E' _) (λ_=>rfl)
theorem zfm{e:Expr}{r:Str×Str×Scope}(h:Kr e=some r):CZ e=true:=by
 obtain⟨p1,p2,p3,p4,pc,rfl⟩:=U6 (o:=r.1) (y:=r.2.1) (sc:=r.2.2) h
 rfl
def Qm:Expr->Option (Expr×Expr)
 |.BoolOp op vs _=>(match op with
  |.Or=>(match vs with
   |[]=>none
   |a::r=>(match r with
    |[]=>none
    |b::s=>if s.isEmpty then some (a,b) else none))
  |.And=>none)
 |_=>none
theorem zk9{e a b:Expr}(h:Qm e=some (a,b)):∃p,e=.BoolOp .Or [a,b] p:=by
 cases e with
 |BoolOp op vs p =>
  cases op with
  |And=>cases h
  |Or =>
   cases vs with
   |nil=>cases h
   |cons a' r =>
    cases r with
    |nil=>cases h
    |cons b' s =>
     cases s with
     |cons _ _=>cases h
     |nil=>cases h;exact⟨p,rfl⟩
 |_=>cases h
def Ri:Expr->Option Expr
 |.UnaryOp op a _=>(match op with
  |.Not=>some a
  |_=>none)
 |_=>none
theorem zhr{e a:Expr}(h:Ri e=some a):∃p,e=.UnaryOp .Not a p:=by
 cases e with
 |UnaryOp op b p =>
  cases op with
  |Not=>cases h;exact⟨p,rfl⟩
  |_=>cases h
 |_=>cases h
noncomputable def SF:Expr->Option (Expr×Expr)
 |.Compare a ops bs _=>(match ops with
  |[]=>none
  |op::r=>(match op with
   |.NotEq=>(match bs with
    |[]=>none
    |b::s=>if r.isEmpty && s.isEmpty then some (a,b) else none)
   |_=>none))
 |_=>none
theorem zks{e a b:Expr}(h:SF e=some (a,b)):∃p,e=.Compare a [.NotEq] [b] p:=by
 cases e with
 |Compare a' ops bs p =>
  cases ops with
  |nil=>cases h
  |cons op r =>
   cases op with
   |NotEq =>
    cases bs with
    |nil=>cases h
    |cons b' s =>
     cases r with
     |cons _ _=>cases h
     |nil =>
      cases s with
      |cons _ _=>cases h
      |nil=>cases h;exact⟨p,rfl⟩
   |_=>cases h
 |_=>cases h
def Sz:Expr->Option Int
 |.Constant c _ _=>(match c with
  |.int k=>some k
  |_=>none)
 |_=>none
theorem zi9{e:Expr}{k:Int}(h:Sz e=some k):∃p q,e=.Constant (.int k) p q:=by
 cases e with
 |Constant c p q =>
  cases c with
  |int k'=>cases h;exact⟨p,q,rfl⟩
  |_=>cases h
 |_=>cases h
def UT(n:Nat)(Γ:Gm)(e:Expr):Option (AE->Option Rs) :=
 (Qm e).bind λv=>(Ri v.1).bind λa=>(SF v.2).bind λc=>(OS c.1).bind λf=>(Sz c.2).bind λk=>(Bj f.1).bind λg=>(Kr f.2).bind λq=>(K3 a).bind λ_=>(dX n Γ a).bind λma =>
  if decide (g.1="len") && Bt Γ.nm g.1 && Γ.bl.contains g.1 && OJ q.1 q.2.2 then (Γ.var q.2.1).map λi=>Br (BO ma) (BB (g2 Cc) (AG (BB (g1 BP) (AG (Bx 1 [] (Ff (AA i)) (AK 0) (AA 0) (AA 0)) AH)) (AG (mC (.int k)) AH))) else none
theorem zlk{n:Nat}{Γ:Gm}{X:Cx}{ca:Str->Value}{e:Expr}{m:AE->Option Rs}(C:CxB Γ X ca)(h:UT n Γ e=some m):PT X e (Aq X.K EM ca m):=by
 obtain⟨⟨v1,v2⟩,h1,k1⟩:=ya6.mp h;obtain⟨a,h2,k2⟩:=ya6.mp k1;obtain⟨⟨c1,c2⟩,h3,k3⟩:=ya6.mp k2;obtain⟨⟨f,l⟩,h4,k4⟩:=ya6.mp k3;obtain⟨k,h5,k5⟩:=ya6.mp k4;obtain⟨⟨g,pg⟩,h6,k6⟩:=ya6.mp k5;obtain⟨⟨o,y,sc⟩,h2',k7⟩:=ya6.mp k6;obtain⟨⟨ia,id,ip,iq,ic⟩,h3',k8⟩:=ya6.mp k7;obtain⟨ma,h4',k9⟩:=ya6.mp k8;obtain⟨p1,rfl⟩:=zk9 h1;obtain⟨p2,e2⟩:=zhr h2;obtain rfl:v1=.UnaryOp .Not a p2:=e2;obtain⟨p3,e3⟩:=zks h3;obtain rfl:v2=.Compare c1 [.NotEq] [c2] p3:=e3;obtain⟨p4,e4⟩:=Uc h4;obtain rfl:c1=.Call f [l] [] p4:=e4;obtain⟨p5,p6,e5⟩:=zi9 h5;obtain rfl:c2=.Constant (.int k) p5 p6:=e5;obtain rfl:f=.Name g pg:=CJ h6
 clear h h1 h2 h3 h4 h5 h6 k1 k2 k3 k4 k5 k6 k7 k8
 split at k9
 .rename_i hc;simp only[ya1,yez]at hc;obtain⟨⟨⟨e6,c2⟩,c3⟩,c4⟩:=hc;obtain rfl:g="len":=e6;obtain⟨i,hi,rfl⟩:=ya2.mp k9;have ha:=(Fj (E:=EM) n).1 C.toCxS h4';have hl:=Sv h3';have hs:=zfm h2';refine(QF (QH (Jo ha ?_)) (QG (QI (Qp C.rm.units) (Gq Ud (C.gl c2) (C.bl _ (yb5.mp c3)) boot_len (QT (r_cnt C h2' c4 hi) QL (Ca hs)) (by decide) (by decide) (Ca hs) rfl) (Gp Qc λ_ _=>.int _) rfl))).pt
  rw[hl];exact λ_=>rfl
 .cases k9
theorem zfj(c d:Bool):MeetsSeq.EqGives (.bool c) (.bool d) (c == d):=by
 intro prog w A E s Q h;unfold eqBool;show wpAny _ _ (if (Value.bool c == Value.bool d)=true then _ else _) Q E s
 by_cases hab:(Value.bool c == Value.bool d)=true
 .rw[if_pos hab];have e:c=d:=by have:=eq_of_beq hab;injection this
  subst e;exact yec (wpAny_rule (yef (by simpa using h)))
 .rw[if_neg hab];exact yec (eq_bool (yea h))
def zgo:V->List V->Hp->VK->Prop:=λx vs H Q=>∃(l:Addr) (ys:List Bool) (y:Bool) (j:Nat),x=.ref l/\vs=[.bl y]/\H l=some (.lst (ys.map V.bl))/\ys.findIdx? (· == y)=some j/\ys.length<1000000/\Q (.int j) H
section
variable {X:Cx}{E:L2.St->XK}{ca:Str->Value}{m mk:AE->Option Rs}{o k:Expr}{pos apos cpos:Pos}
theorem zd5:Om X "list.index" zgo:=by
 intro pins s σ H x vs v us Q I rx rv h;obtain⟨l,ys,y,j,rfl,rfl,hH,hj,hz,q⟩:=h;cases rx;obtain⟨u,rfl,ru⟩:=rv.one;obtain⟨z,its,n,r,hl,e⟩:=I.lstM hH;cases (show u=Value.bool y from ru);obtain⟨hj1,hj2,hj3⟩:=ybf.mp hj;rw[ya5]at hl
 have at_:∀(i:Nat) (hi:i<its.toArray.size),∃(hi':i<ys.length),its.toArray[i]=Value.bool ys[i]:=λi hi=>by
  have hi0:i<its.length:=by simpa using hi
  have hi':i<ys.length:=by omega
  have hx:(ys.map V.bl)[i]?=some (.bl ys[i]):=by rw[ya7,ya0 hi'];rfl
  obtain⟨u,e2,ru⟩:=r.get hx;have eu:u=Value.bool ys[i]:=ru;subst eu;rw[ya0 hi0]at e2;exact⟨hi',by simpa using e2⟩
 let ev:Value->Bool:=λv=>match v with
  |.bool x=>x == y
  |_=>false
 have evs:∀(x:Bool),ev (.bool x)=(x == y):=λ_=>rfl
 have hjs:j<its.toArray.size:=by rw[yai];omega
 refine call_meets F.slot_list_index ⟨_,e,rfl⟩ F.entry_list_index (F.args_list_index_2 _ _) (MeetsSeq.list_index l its.toArray n (.bool y) ev (λy' hy'=>?_) j hjs (by omega) ?_ λm hm hmj=>?_) ⟨e,.int j,H,I.tok _,⟨_,rfl⟩,q⟩
 .obtain⟨i,hi,rfl⟩:=Array.mem_iff_getElem.mp hy';obtain⟨hi',e1⟩:=at_ i hi;rw[e1,evs];exact zfj _ _
 .obtain⟨hi',e1⟩:=at_ j hjs;rw[e1,evs];exact hj2
 .obtain⟨hi',e1⟩:=at_ m hm;rw[e1,evs,yb4];exact hj3 m hmj
noncomputable def HV:List T->Option (List Bool)
 |[]=>some []
 |.bl x::r=>(match HV r with
  |some l=>some (x::l)
  |none=>none)
 |_::_=>none
theorem Uh{K:kA}{F:Hp}:∀{l:List T} {ys:List Bool} {xs:List V},HV l=some ys->Ae K F l xs->xs=ys.map V.bl
 |[],ys,xs,h,r=>by
  cases h;exact r.inv0
 |t::l,ys,xs,h,r=>by
  obtain⟨x,xs',rfl,r1,r2⟩:=r.inv;unfold HV at h;split at h
  .rename_i e;cases e
  .rename_i e;cases e;split at h
   .rename_i hl;cases h;rw[r1.bl_inv,Uh hl r2]
    rfl
   .cases h
  .cases h
def GU(m:AE->Option Rs)(b:Bool):AE->Option Rs:=λτ=>match m τ with
 |some (.v (.nd false .lst l) false)=>(match HV l with
  |some ys=>(match ys.findIdx? (· == b) with
   |some j=>if ys.length<1000000 then some (.v (.int j) false) else none
   |none=>none)
  |none=>none)
 |_=>none
theorem zcb{τ:AE}{b:Bool}{r:Rs}(h:GU m b τ=some r):∃l ys j,m τ=some (.v (.nd false .lst l) false)/\HV l=some ys/\ys.findIdx? (· == b)=some j/\ys.length<1000000/\r=.v (.int j) false:=by
 unfold GU at h;split at h
 .rename_i l hm;split at h
  .rename_i ys hy;split at h
   .rename_i j hj;split at h
    .rename_i hz;exact⟨l,ys,j,hm,hy,hj,hz,(yb0 h).symm⟩
    .cases h
   .cases h
  .cases h
 .cases h
theorem zek{b:Bool}{kc p2}(ho:PE X o (tM X.K E ca m))(hbase:attributeBase o "index" X.env (eval o X.env)=eval o X.env)(hline:(apos.endLine == cpos.line)=true) :
  PE X (.Call (.Attribute o "index" apos) [.Constant (.bool b) kc p2] [] cpos) (tM X.K E ca (GU m b)):=by
 refine PE.weak (Qf PySem.F.plainAttrs_list PySem.F.slot_list_index PySem.F.type_list_index zd5 ho (DV (Qh (b:=b)) EX rfl) hbase rfl hline rfl rfl) λσ H Q h=>?_
 obtain⟨F,τ,R,S,q⟩:=h;refine⟨F,τ,R,S,?_⟩;cases hr:GU m b τ with
 |none=>simp only[hr]at q
 |some r =>
  obtain⟨l,ys,j,hm,hy,hj,hz,rfl⟩:=zcb hr;simp only[hr]at q;rw[hm];intro F1 H1 x B e1 g1;have g1':Rp X.K F1 H1 (.nd false .lst l) x B:=g1;obtain⟨p,rfl⟩:=g1'.ref_inv;obtain⟨xs,hN,hr2⟩:=Ae.node g1';have hF:F1 p=some (.lst xs):=hN;have hxs:=Uh hy hr2;refine⟨.inl ⟨rfl,xs,Ag.of (e1.fh _ _ hF)⟩,?_⟩;exact⟨p,ys,b,j,rfl,rfl,by rw[<- hxs];exact e1.fh _ _ hF,hj,hz,q F1 H1 _ R0 (e1.mono λ_ z=>z.elim) (.int _)⟩
end
def Ug:Expr->Option Bool
 |.Constant c _ _=>(match c with
  |.bool b=>some b
  |_=>none)
 |_=>none
theorem zfv{e:Expr}{k:Bool}(h:Ug e=some k):∃p q,e=.Constant (.bool k) p q:=by
 cases e with
 |Constant c p q =>
  cases c with
  |bool k'=>cases h;exact⟨p,q,rfl⟩
  |_=>cases h
 |_=>cases h
noncomputable def SK:Expr->Option (Expr×Str×Pos×Expr×Pos)
 |.Call f es ks cp=>(match f with
  |.Attribute o a ap=>(match es with
   |[]=>none
   |c::r=>if r.isEmpty && ks.isEmpty then some (o,a,ap,c,cp) else none)
  |_=>none)
 |_=>none
theorem zhu{e o c:Expr}{a:Str}{ap cp:Pos}(h:SK e=some (o,a,ap,c,cp)):e=.Call (.Attribute o a ap) [c] [] cp:=by
 cases e with
 |Call f es ks cp' =>
  cases f with
  |Attribute o' a' ap' =>
   cases es with
   |nil=>cases h
   |cons c' r =>
    cases r with
    |cons _ _=>cases h
    |nil =>
     cases ks with
     |cons _ _=>cases h
     |nil=>cases h;rfl
  |_=>cases h
 |_=>cases h
def Pd:Expr->Option (Expr×Expr)
 |.Subscript a k _=>some (a,k)
 |_=>none
theorem zga{e a k:Expr}(h:Pd e=some (a,k)):∃p,e=.Subscript a k p:=by
 cases e with
 |Subscript a' k' p=>cases h;exact⟨p,rfl⟩
 |_=>cases h
def Kn(n:Nat)(Γ:Gm)(e:Expr):Option (AE->Option Rs) :=
 match (Pd e).bind λs=>(SK s.2).bind λq=>(Ug q.2.2.2.1).map λb=>(s.1,q,b) with
 |some z=>(Bj z.2.1.1).bind λy=>(dX n Γ z.1).bind λma=>if decide (z.2.1.2.1="index") && (z.2.1.2.2.1.endLine == z.2.1.2.2.2.2.line) then (Γ.var y.1).map λi=>AW ma (GU (AA i) z.2.2) else none
 |none=>dX n Γ e
theorem zll{n:Nat}{Γ:Gm}{X:Cx}{ca:Str->Value}{e:Expr}{m:AE->Option Rs}(C:CxB Γ X ca)(h:Kn n Γ e=some m):PE X e (tM X.K EM ca m):=by
 unfold Kn at h;split at h
 .rename_i z hz;obtain⟨⟨a,s⟩,h1,k1⟩:=ya6.mp hz;obtain⟨⟨o,at',ap,c,cp⟩,h2,k2⟩:=ya6.mp k1;obtain⟨b,h3,rfl⟩:=ya2.mp k2;obtain⟨p1,rfl⟩:=zga h1;obtain rfl:s=.Call (.Attribute o at' ap) [c] [] cp:=zhu h2;obtain⟨p2,p3,e3⟩:=zfv h3;obtain rfl:c=.Constant (.bool b) p2 p3:=e3
  clear h1 h2 h3 k1 k2 hz
  obtain⟨⟨y,py⟩,h4,k3⟩:=ya6.mp h;obtain⟨ma,h5,k4⟩:=ya6.mp k3;obtain rfl:o=.Name y py:=CJ h4
  clear h h4 k3
  split at k4
  .rename_i hc;simp only[ya1,yez]at hc;obtain⟨e6,c2⟩:=hc;obtain rfl:at'="index":=e6;obtain⟨i,hi,rfl⟩:=ya2.mp k4;obtain⟨v1,v2,v3,v4⟩:=C.toCxS.var hi;exact QO ((Fj n).1 C.toCxS h5) (zek (GD v1 v2 v3 v4) rfl c2) (Q7 rfl)
  .cases k4
 .exact(Fj n).1 C.toCxS h
def TF:Stmt->Option (Expr×Expr)
 |.If c a b _=>(match a with
  |[]=>none
  |s::r=>if r.isEmpty && b.isEmpty then (GC s).map λe=>(c,e) else none)
 |_=>none
theorem zld{s:Stmt}{c e:Expr}(h:TF s=some (c,e)):∃q p,s=.If c [.Return (some e) q] [] p:=by
 cases s with
 |If c' a b p =>
  cases a with
  |nil=>cases h
  |cons s r =>
   cases r with
   |cons _ _=>cases h
   |nil =>
    cases b with
    |cons _ _=>cases h
    |nil =>
     obtain⟨e',h1,h2⟩:=ya2.mp (show(GC s).map (λe=>(c',e))=some (c,e) from h)
     cases h2;obtain⟨q,rfl⟩:=M7 h1;exact⟨q,p,rfl⟩
 |_=>cases h
def HQ:Nat->Gm->List Stmt->Option (AE->Option Out)
 |0,_,_=>none
 |n+1,Γ,ss=>match ss with
  |[]=>none
  |s::r=>(match GC s with
   |some e=>if r.isEmpty then (Kn n Γ e).map Ab else none
   |none=>(match Ik s with
    |some q=>if Γ.loc q.1 && (Γ.nm.lookup q.1 == some .local) && Mi q.2 then (CU Γ.N q.1).bind λi=>(dX n Γ q.2).bind λm=>(HQ n Γ r).map λms=>AL (AX m (AK i)) ms else none
    |none=>(TF s).bind λq=>(UT n Γ q.1).bind λmc=>(dX n Γ q.2).bind λme=>(HQ n Γ r).map λms=>AL (Aj mc (Ab me) Ak) ms))
theorem OC{ca:Str->Value}:∀n:Nat,∀{Γ:Gm} {X:Cx} {ss:List Stmt} {m:AE->Option Out},CxB Γ X ca->HQ n Γ ss=some m->BD X ss (tS X.K EM ca false m)
 |0,Γ,X,ss,m,C,h=>by cases h
 |n+1,Γ,X,[],m,C,h=>by cases h
 |n+1,Γ,X,s::r,m,C,h=>by
  unfold HQ at h;cases h1:GC s with
  |some e =>
   simp only[h1]at h;obtain⟨p,rfl⟩:=M7 h1;cases r with
   |cons _ _=>cases h
   |nil =>
    obtain⟨m1,h1,rfl⟩:=ya2.mp (show(Kn n Γ e).map Ab=some m from h);exact Ho (Ji (zll C h1))
  |none =>
   cases h2:Ik s with
   |some q =>
    simp only[h1,h2]at h;obtain⟨x,e⟩:=q;obtain⟨px,pa,rfl⟩:=O5 h2
    clear h1 h2
    split at h
    .rename_i hc;simp only[ya1]at hc;obtain⟨i,h3,k2⟩:=ya6.mp h;obtain⟨m1,h4,k3⟩:=ya6.mp k2;obtain⟨ms,h5,rfl⟩:=ya2.mp k3;have hl:X.env.scope.names.lookup x=some .local:=by rw[C.nm];exact eq_of_beq hc.1.2
     exact Hr (Lq (by rw[C.N];exact C.nd) (by rw[C.N];exact E4 h3) (.inl hl) ((Fj n).1 C.toCxS h4) (Pc hc.2) (.inr hl)) (OC n C h5)
    .cases h
   |none =>
    simp only[h1,h2]at h;obtain⟨⟨c,e⟩,h3,k1⟩:=ya6.mp h;obtain⟨mc,h4,k2⟩:=ya6.mp k1;obtain⟨me,h5,k3⟩:=ya6.mp k2;obtain⟨ms,h6,rfl⟩:=ya2.mp k3;obtain⟨q,p,rfl⟩:=zld h3;exact Hr (Pp (zlk C h4) (Ho (Ji ((Fj n).1 C.toCxS h5))) Ls) (OC n C h6)
theorem fnB{P:Program}{w:World}{K:kA}{mg:Str->Option Value}{base:Heap}{ca:Str->Value}{x qual p:Str}{st:Stmt}{f:Addr}{fd:FuncData}{N:List Str}{k n:Nat}{Γ:Gm}{u:AE->Option Out}(F:FunD K x qual st f fd)(S:FnScope N [p] (AO st))
  (hΓ:Γ.N=N) (hnm:Γ.nm=(AO st).names) (hlv:Γ.lv=k) (hbl:∀b∈Γ.bl,mg b=none) (hgx:GxOk Γ.ox k P w K mg base ca) (hu:HQ n Γ (Ao st)=some u):FnS P w K mg base (k+1) f fd p (Bw K ca (BE 1 N.length u)):=by
 refine fnS F S λcdv A outer s H a Q hh hX hr h=>⟨_,OC n (Γ:=Γ) (ca:=ca) ⟨⟨hΓ.symm,by rw[hΓ];exact S.nd,hnm.symm,by rw[hlv];exact hr,hbl,by rw[hlv];exact hgx⟩,⟨_,_,rfl,rfl⟩,λpins σ H' s' scope cl N' C ex xb I=>?_,λ_ _ _ _ _ _ _ h=>?_⟩ hu,Pt (ps:=[p]) h⟩
 .obtain⟨C',hX⟩:=hX;obtain⟨ob,y,r⟩:=hX;exact⟨a,C',hh,ob,I.base.frzs _ _ _ y,r⟩
 .obtain⟨_,_,_,_,_,_,_,_,_,_,_,_,z⟩:=h;exact z.elim
def DU(C:Addr)(fs:List Str)(k n:Nat)(u:AE->Option Out)(p:Addr)(ts:List T):Option Ru:=if ts.length+1=k then (match u ((T.oob p C fs []::ts).map some++List.replicate (n - (ts.length+1)) none) with
 |some (.nx τ)=>(match Er τ 0 C fs with
  |some (q,l)=>if q=p then some (.ok (.obj (.ins C fs) (AV l))) else none
  |none=>none)
 |some (.xc c _)=>some (.exc c)
 |_=>none) else none
open Classical in
def Ep(C:Addr)(fs:List Str)(k n:Nat)(u:AE->Option Out)(ts:List T):Option Ru:=if h:∃r,∀p,DU C fs k n u p ts=some r then some h.choose else none
theorem GB{C:Addr}{fs:List Str}{k n:Nat}{u:AE->Option Out}{ts:List T}{r:Ru}(h:∀p,DU C fs k n u p ts=some r):Ep C fs k n u ts=some r:=by
 have hx:∃r,∀p,DU C fs k n u p ts=some r:=⟨r,h⟩;unfold Ep;rw[dif_pos hx];have e:=(hx.choose_spec 0).symm.trans (h 0);exact e
theorem Pw{C:Addr}{fs:List Str}{k n:Nat}{u:AE->Option Out}{ts:List T}{r:Ru}(h:Ep C fs k n u ts=some r)(p:Addr):DU C fs k n u p ts=some r:=by
 unfold Ep at h;split at h
 .rename_i hx;cases h;exact hx.choose_spec p
 .cases h
theorem Tz{P:Program}{w:World}{K:kA}{mg:Str->Option Value}{base:Heap}{ca:Str->Value}{x qual:Str}{st:Stmt}{f:Addr}{fd:FuncData}{N ps:List Str}{k n:Nat}{Γ:Gm}{u:AE->Option Out}{C:Addr}{fs:List Str}(F:FunD K x qual st f fd)(S:FnScope N ps (AO st))
  (hΓ:Γ.N=N) (hnm:Γ.nm=(AO st).names) (hce:∀x∈Γ.ce,Γ.nm.lookup x=some .cell) (hlv:Γ.lv=k) (hbl:∀b∈Γ.bl,mg b=none)
  (hfs:∀f F,Γ.fns.lookup f=some F->F.lv<=k/\Nonempty (DefX P w K mg base F.lv f F.ps (Bw K ca F.g))) (hex:∀c∈Γ.ex,∃T:ECls K mg c,ca c=.ref T.C)
  (hms:∀f F,Γ.mus.lookup f=some F->F.lv<=k/\Nonempty (DefX P w K mg base F.lv f F.ps (Hk K ca F.g))) (hmu:Γ.mu=false) (hgx:GxOk Γ.ox k P w K mg base ca) (hu:Av n Γ (Ao st)=some u):FnOk P w K mg base (CG P w) (k+1) f fd ps (FU K ca C (Ep C fs ps.length N.length u)):=by
 refine Qt F S (λvs H Q E h=>?_) λcdv A outer s H vs Q E hr h=>?_
 .obtain⟨F',p,dx,ts,vs',_,rfl,_,_,r,q⟩:=h;cases hg:Ep C fs ps.length N.length u ts with
  |none=>rw[hg]at q;exact q.elim
  |some rr =>
   have h0:=Pw hg 0;unfold DU at h0
   by_cases hl:ts.length+1=ps.length
   .rw[yaq,<- r.1,hl]
   .rw[if_neg hl]at h0;cases h0
 .have CC:CxOk Γ (DK (CG P w) P w K mg base N qual (AO st) f cdv A outer s H E) (λ_=>E) ca:=by
   refine⟨hΓ.symm,by rw[hΓ];exact S.nd,hnm.symm,S.kind,rfl,by rw[hlv];exact hr,λy hy=>⟨rfl,hce y hy⟩,hbl,Qi,λ_=>PassesOwn.leaving,λ_=>SQ,λf F e=>by rw[hlv];exact hfs f F e,hex,λf F e=>by rw[hlv];exact hms f F e,by rw[hlv];exact hgx,λ_=>⟨rfl,rfl⟩,⟨_,_,rfl,rfl⟩⟩
  have G:=(N0 ca n).ss CC hu;rw[hmu]at G;refine⟨_,G,?_⟩;obtain⟨F',p,dx,ts,vs',fh,rfl,fp,hp,r,q⟩:=h;have r0:Rp K F' H (.oob p C fs []) (.ref p) (λa=>a=p\/∃j:Nat,R0 a):=.oob (xs:=[]) (λ_=>R0) fp (by rw[List.zip_nil_right];exact hp) rfl (λi t x h=>by simp at h) (λ_ _ _ _ z=>z.elim) (λ_ z=>z) (λ_ _ z=>z.elim)
  have hA:(λa=>a=p\/∃j:Nat,R0 a)=λa=>a=p:=funext λa=>propext ⟨λz=>z.elim id λ⟨_,w⟩=>w.elim,λz=>.inl z⟩
  refine⟨F',_,_,zco fh r0 r,?_⟩;rw[zg4,hA];cases hg:Ep C fs ps.length N.length u ts with
  |none=>rw[hg]at q;exact q.elim
  |some rr =>
   rw[hg]at q;have h0:=Pw hg p;unfold DU at h0
   by_cases hl:ts.length+1=ps.length
   .rw[if_pos hl]at h0;have el:(T.oob p C fs []::ts).length=ts.length+1:=rfl;rw[el];cases ho:u ((T.oob p C fs []::ts).map some++List.replicate (N.length - (ts.length+1)) none) with
    |none=>rw[ho]at h0;cases h0
    |some o =>
     rw[ho]at h0;cases o with
     |nx τ =>
      simp only at h0;intro F1 H1 σ1 R1 s1 S1;cases hoo:Er τ 0 C fs with
      |none=>rw[hoo]at h0;cases h0
      |some ql =>
       obtain⟨q0,l⟩:=ql;rw[hoo]at h0;simp only at h0
       by_cases hq:q0=p
       .rw[if_pos hq]at h0;subst hq;cases h0;have h00:=Md hoo;have S2:=S1.frz h00;obtain⟨y,ey,ry⟩:=S1.rep 0 _ h00;obtain⟨dx2,xs2,Rr,rfl,hA2,fp2,hp2,ro,dp⟩:=ry.oob_inv;have n1:∀a,R1 0 a->F1 a=none:=λa z=>(S1.dom z).1
        have r2:=ry.share (H':=H1) (EF (H:=H1) n1) λa u z q=>by rw[Fg z];exact q
        simp only at q;refine q (frz F1 H1 (R1 0)) H1 ⟨s1.ff.trans (EF n1),HJ S1.fh,s1.kp,λb z=>z.elim,λb u e=>?_⟩ r2
        by_cases hb:R1 0 b
        .exact(s1.nw b ⟨0,hb⟩).elim (λz=>.inr (.inl z)) λz=>.inr (.inr z)
        .rw[FD hb]at e;exact s1.nf b u e
       .rw[if_neg hq]at h0;cases h0
     |rt t=>cases h0
     |bk τ=>cases h0
     |ct τ=>cases h0
     |xc c τ =>
      cases h0;simp only at q;exact λF1 H1 σ1 R1 s1 S1=>q F1 H1 (s1.mono λ_ z=>z.elim)
   .rw[if_neg hl]at h0;cases h0
theorem BY{κ α:Type} [BEq κ]{P:κ->α->Prop}:∀y b,([]:List (κ×α)).lookup y=some b->P y b:=λ_ _ h=>by cases h
theorem AM{κ α:Type} [BEq κ] [LawfulBEq κ]{P:κ->α->Prop}{x:κ}{a:α}{l:List (κ×α)}(h:P x a)(r:∀y b,l.lookup y=some b->P y b):∀y b,((x,a)::l).lookup y=some b->P y b:=λy b e=>by
 rw[yaz]at e;cases hf:y == x with
 |true =>
  rw[hf]at e;cases e;rw[eq_of_beq hf];exact h
 |false=>rw[hf]at e;exact r y b e
theorem M5{K:kA}{F:Hp}:∀ys:List Str,Ae K F (ys.map T.str) (ys.map V.str)
 |[]=>.nil
 |y::r=>.cons (H:=F) (.str y) (M5 r)
theorem Mg{P:Str->Fn->List (Nat×List T)->Prop}:∀x F ds,([]:List (Str×Fn×List (Nat×List T))).lookup x=some (F,ds)->P x F ds:=λ_ _ _ h=>by cases h
theorem Rf{P:Str->Fn->List (Nat×List T)->Prop}{l:List (Str×Fn×List (Nat×List T))}{x0:Str}{F0:Fn}{d0:List (Nat×List T)}(h:P x0 F0 d0)(r:∀x F ds,l.lookup x=some (F,ds)->P x F ds):∀x F ds,((x0,F0,d0)::l).lookup x=some (F,ds)->P x F ds:=λx F ds e=>by
 rw[yaz]at e;cases hf:x == x0 with
 |true =>
  rw[hf]at e;cases e;rw[eq_of_beq hf];exact h
 |false =>
  rw[hf]at e;exact r x F ds e
theorem BQ{G:Gx}{lv:Nat}{P:Program}{w:World}{K:kA}{mg:Str->Option Value}{base:Heap}{ca:Str->Value}
  (co:∀x t,G.co.lookup x=some t->∃u v,mg x=some u/\RelV v u/\∀F:Hp,Rp K F F t v R0:=by exact BY)
  (cl:∀c∈G.cl,Cls K c.2.1/\∀f∈c.2.2,Bo K c.2.1 f:=by exact Am)
  (mt:∀c∈G.mt,c.2.2.2.lv<=lv/\Nonempty (MetX P w K mg base c.2.1 c.1 c.2.2.2.lv c.2.2.2.ps (Bw K ca c.2.2.2.g)):=by exact Am)
  (nw:∀x F ds,G.nw.lookup x=some (F,ds)->F.lv+1<=lv/\∃(C:Addr) (D:NewX P w K mg base x C F.lv F.ps (FU K ca C F.g)),∀k dts,ds.lookup k=some dts->∃dvs us,C8 K D.fd F.ps us/\AU dvs us/\∀H:Hp,Ae K H dts dvs:=by exact Mg)
  (sf:∀C fs,G.sf=some (C,fs)->Cls K C/\∀f∈fs,Bo K C f:=by exact(λ_ _ h=>by cases h))
  (xs:∀W cs,G.xs.lookup W=some cs->∃T:ECls K mg W,∀c C,cs.lookup c=some C->ca c=.ref C/\PySem.W.subIn K (.ref C) (.ref T.C)=some true:=by exact BY)
  (sb:∀D tb,G.sb.lookup D=some tb->∃A:Addr,mg D=some (.ref A)/\∀C b,tb.lookup C=some b->ExcK K C/\PySem.W.kitOne K (.ref C) (.ref A)=some b:=by exact BY)
  (sv:∀D tb,G.sv.lookup D=some tb->mg D=none/\∃t,bootBuiltins D=some (.type t)/\∀C b,tb.lookup C=some b->ExcK K C/\PySem.W.kitOne K (.ref C) (.type t)=some b:=by exact BY)
  (ci:∀x tb,G.ci.lookup x=some tb->∃D:Addr,mg x=some (.ref D)/\(∀C b,tb.lookup C=some b->ICls K C/\PySem.W.kitOne K (.ref C) (.ref D)=some b)/\(JX.all λa=>PySem.W.kitOne K (.type a) (.ref D) == some false)=true:=by exact BY)
  (x2:∀W1 W2 cs,(W1,W2,cs)∈G.x2->∃(T1:ECls K mg W1) (T2:ECls K mg W2),∀c C,cs.lookup c=some C->ca c=.ref C/\PySem.W.subIn K (.ref C) (.ref T1.C)=some false/\PySem.W.subIn K (.ref C) (.ref T2.C)=some true:=by exact(λ_ _ _ h=>by cases h))
  (wd:∀x F,G.wd.lookup x=some F->F.lv<=lv/\∃p,F.ps=[p]/\Nonempty (DefS P w K mg base F.lv x p (Bw K ca F.g)):=by exact BY):GxOk G lv P w K mg base ca:=⟨co,cl,mt,nw,sf,xs,sb,sv,ci,x2,wd⟩
theorem BM{N ps:List Str}{sc:Scope}(h:(sc.kind=.function/\sc.isCoroutine=false/\sc.isGenerator=false)/\N.Nodup/\N.take ps.length=ps/\(∀x∈ps,sc.names.lookup x=some .local\/sc.names.lookup x=some .cell)/\∀y∈sc.names,y.2≠.free):FnScope N ps sc:=⟨h.1.1,h.1.2.1,h.1.2.2,h.2.1,h.2.2.1,h.2.2.2.1,h.2.2.2.2⟩
structure Qx(P:Program)(w:World)(K:kA)(mg:Str->Option Value)(base:Heap)(ca:Str->Value):Prop where
 m:∀(x:Str) (a:Addr),PySem.W.nsIn K mainGlobals x=some (some (.ref a))->mg x=some (.ref a)
def B9{P:Program}{w:World}{K:kA}{mg:Str->Option Value}{base:Heap}{ca:Str->Value}(q:Qx P w K mg base ca){x:Str}{st:Stmt}{oc:Value}{od an:Option Addr}{osl:Array (Option Value)}{dV kV doc pm cdv ct:Value}{Γ:Gm}{f:Fn}{u:AE->Option Out}{N:List Str}(a:Addr){o:Obj}
  (b:C8 K (PySem.W.fnOf x x (Fi st) (Ao st) (AO st) dV kV doc pm an cdv ct) f.ps [])
  (S:FnScope N f.ps (AO st)) (hu:Av 200 Γ (Ao st)=some u) (hbl:∀b∈Γ.bl,mg b=none) (hfs:∀g F,Γ.fns.lookup g=some F->F.lv<=Γ.lv/\Nonempty (DefX P w K mg base F.lv g F.ps (Bw K ca F.g))) (hgx:GxOk Γ.ox Γ.lv P w K mg base ca) (hce:∀x∈Γ.ce,Γ.nm.lookup x=some .cell:=by exact Am) (hex:∀c∈Γ.ex,∃T:ECls K mg c,ca c=.ref T.C:=by exact Am)
  (hms:∀g F,Γ.mus.lookup g=some F->F.lv<=Γ.lv/\Nonempty (DefX P w K mg base F.lv g F.ps (Hk K ca F.g)):=by exact Jw) (ho:o=⟨oc,od,.func (PySem.W.fnOf x x (Fi st) (Ao st) (AO st) dV kV doc pm an cdv ct),osl⟩:=by exact rfl) (l:K.lookup a=some o:=by ext) (c:PySem.W.codeIn K cdv x=true:=by ext) (k:PySem.W.keepIn K (.ref a)=true:=by ext) (m:PySem.W.nsIn K mainGlobals x=some (some (.ref a)):=by ext)
  (hΓ:Γ.N=N:=by rfl) (hnm:Γ.nm=(AO st).names:=by rfl) (hlv:Γ.lv+1=f.lv:=by rfl) (hmu:Γ.mu=false:=by rfl) (hg:f.g=BE f.ps.length N.length u:=by rfl):DefX P w K mg base f.lv x f.ps (Bw K ca f.g) :=
 ⟨a,_,by rw[hg,<- hlv];exact UA (IY (l.trans (congrArg some ho)) c k) S hΓ hnm hce rfl hbl hfs hex hms hmu hgx hu,q.m x a m,k,b⟩
theorem FI{α:Type}{x:α}{l:List α}:Ah (x::l) (0:Int)=some x:=by
 have:Ah (x::l) ((0:Nat):Int)=some x:=LA rfl;exact this
theorem Cu{α:Type}{x y:α}{l:List α}:Ah (x::y::l) (1:Int)=some y:=by
 have:Ah (x::y::l) ((1:Nat):Int)=some y:=LA rfl;exact this
theorem Dt{α:Type}{x y z:α}{l:List α}:Ah (x::y::z::l) (2:Int)=some z:=by
 have:Ah (x::y::z::l) ((2:Nat):Int)=some z:=LA rfl;exact this
abbrev fr(a b:Int):T:=.tup [.int a,.int b]
section
variable {b:T->AE->Option AE}{body:AE->Option Out}{mc:AE->Option Rs}
theorem G0{ts:List T}{τ:AE}(I:Nat->AE->Prop)(h0:I 0 τ)(hs:∀i t τ,ts[i]?=some t->I i τ->∃τ1,b t τ=some τ1/\∃τ2,body τ1=some (.nx τ2)/\I (i+1) τ2):∃τ',Dc b body ts τ=some (.nx τ')/\I ts.length τ':=by
 have key:∀(l:List T) (k:Nat) (τ:AE),ts.drop k=l->k<=ts.length->I k τ->∃τ',Dc b body l τ=some (.nx τ')/\I ts.length τ':=by
  intro l
  induction l with
  |nil =>
   intro k τ hd hk hI
   have:k=ts.length:=by
    have:=congrArg List.length hd;simp at this
    omega
   subst this;exact⟨τ,rfl,hI⟩
  |cons t l ih =>
   intro k τ hd hk hI
   have hlt:k<ts.length:=by
    have:=congrArg List.length hd;simp at this
    omega
   rw[yc4 hlt]at hd;injection hd with h1 h2
   obtain⟨τ1,e1,τ2,e2,hI2⟩:=hs k t τ (by rw[ya0 hlt,h1]) hI
   obtain⟨τ',e3,h3⟩:=ih (k+1) τ2 h2 hlt hI2;exact⟨τ',by unfold Dc;simp only[e1,e2];exact e3,h3⟩
 exact key ts 0 τ rfl (ybe _) h0
theorem zfb{me:AE->Option Rs}{ts:List T}{τ:AE}(I:Nat->AE->Prop)(f:Nat->T)(h0:I 0 τ)(hs:∀i t τ,ts[i]?=some t->I i τ->∃τ1,b t τ=some τ1/\me τ1=some (.v (f i) false)/\I (i+1) τ1) :
  CQ b (mC (.bl true)) me ts τ=some ((List.range ts.length).map f):=by
 have key:∀(l:List T) (k:Nat) (τ:AE),ts.drop k=l->k<=ts.length->I k τ->CQ b (mC (.bl true)) me l τ=some ((List.range' k l.length).map f):=by
  intro l
  induction l with
  |nil=>intro k τ _ _ _;rfl
  |cons t l ih =>
   intro k τ hd hk hI
   have hlt:k<ts.length:=by
    have:=congrArg List.length hd;simp at this
    omega
   rw[yc4 hlt]at hd;injection hd with h1 h2
   obtain⟨τ1,e1,e2,hI2⟩:=hs k t τ (by rw[ya0 hlt,h1]) hI
   have e3:=ih (k+1) τ1 h2 hlt hI2;unfold CQ;simp only[e1,mC,e2,e3];simp[List.range'_succ]
 have:=key ts 0 τ rfl (ybe _) h0;rw[this,<- List.range_eq_range']
end
theorem Mn{i j:Int}(h:GA i=true):GN i j=true:=by unfold GN;rw[h,ydp,ydp]
theorem Jm{i:Int}(h1:-(2 ^ 64)<i)(h2:i<2 ^ 64):GA i=true:=@decide_eq_true _ (Classical.propDecidable _) ⟨h1,h2⟩
theorem Bg{i:Int}(h1:-(10 ^ 70)<i)(h2:i<10 ^ 70):BN i=true:=@decide_eq_true _ (Classical.propDecidable _) ⟨h1,h2⟩
theorem Pr{i:Int}{m:Nat}(h:i.natAbs<=m)(hm:m<10 ^ 70):BN i=true:=Bg (by omega) (by omega)
theorem fm{i j:Int}(h:0<j):i.fmod j=i % j:=Int.fmod_eq_emod_of_nonneg i (by omega)
theorem fd{i j:Int}(h:0<j):i.fdiv j=i / j:=yco i (by omega)
theorem As{i j:Int}:BH (.int i) (.int j)=some (.bl (i == j)):=by
 unfold BH Dq BZ Fh;simp only[T.data,T.pln,PyData.canLay0,PyData.depth,PyData.eqv];simp
theorem Jv{i j:Int}:Cc (.int i) (.int j)=some (.bl (!(i == j))):=by
 unfold Cc Dq BZ Fh;simp only[T.data,T.pln,PyData.canLay0,PyData.depth,PyData.eqv];simp
mutual
def Mm:PyData->Bool
 |.bool _=>false
 |.dict _=>false
 |.list xs=>IH xs
 |.tuple xs=>IH xs
 |_=>true
def IH:List PyData->Bool
 |[]=>true
 |x::xs=>Mm x && IH xs
end
structure Fit(t:T)(n:Nat):Prop where
 fit:BZ t=true
 nb:Mm t.data=true
 dep:t.data.depth<=n
theorem Fit.int(i:Int)(n:Nat):Fit (.int i) n:=⟨rfl,rfl,by simp[T.data,PyData.depth]⟩
theorem Fit.non(n:Nat):Fit .non n:=⟨rfl,rfl,by simp[T.data,PyData.depth]⟩
theorem UH:∀{l:List T} {n:Nat},(∀t∈l,Fit t n)->(DF l=true/\PyData.canLayAll0 (Au l)=true)/\IH (Au l)=true/\PyData.depthAll (Au l)<=n
 |[],n,_=>⟨⟨rfl,rfl⟩,rfl,ybe _⟩
 |t::r,n,h=>by
  obtain⟨h1,h2,h3⟩:=h t (yah ..);obtain⟨⟨g0,g1⟩,g2,g3⟩:=UH (l:=r) (n:=n) λx hx=>h x (yab _ hx)
  unfold BZ at h1;rw[ya1]at h1;refine⟨⟨by rw[DF,h1.1,g0];rfl,by rw[Au,PyData.canLayAll0,h1.2,g1];rfl⟩,by rw[Au,IH,h2,g2];rfl,?_⟩
  rw[Au,PyData.depthAll]
  omega
theorem Fit.nd{o:Bool}{k:Kd}{l:List T}{n:Nat}(h:∀t∈l,Fit t n):Fit (.nd o k l) (n+1):=by
 obtain⟨g1,g2,g3⟩:=UH h;cases k<;>exact⟨by simpa[BZ,T.data,T.pln,PyData.canLay0] using g1,by simpa[T.data,Mm] using g2,by simpa[T.data,PyData.depth] using g3⟩
theorem Fit.tup{l:List T}{n:Nat}(h:∀t∈l,Fit t n):Fit (.tup l) (n+1):=Fit.nd h
theorem Fit.mono{t:T}{n m:Nat}(h:Fit t n)(hm:n<=m):Fit t m:=⟨h.fit,h.nb,yap h.dep hm⟩
theorem Fit.fr(a b:Int):Fit (Pu.fr a b) 1:=Fit.tup λt ht=>by
 simp only[ya9,yac,yf3]at ht
 rcases ht with rfl|rfl<;>exact Fit.int _ _
theorem Jd:∀ns:List Int,AV (ns.map T.int)=ns.map T.int
 |[]=>rfl
 |n::r=>by rw[yau,AV,Jd r];rfl
theorem Je:∀ns:List Int,A7 (ns.map T.int)=true
 |[]=>rfl
 |n::r=>by rw[yau,A7,Je r];rfl
theorem Cg(ns:List Int):(An ns).share=An ns:=by unfold An;rw[T.share,Jd]
theorem Ci(ns:List Int):(An ns).sh=true:=by unfold An;rw[T.sh,Je];rfl
theorem BL{α:Type}{l:List α}{k:Int}{x:α}(h0:0<=k)(h:l[k.toNat]?=some x):Ah l k=some x:=by
 have:Ah l ((k.toNat:Nat):Int)=some x:=LA h
 rwa[Int.toNat_of_nonneg h0]at this
theorem U3{α β:Type}(f:α->β)(l:List α)(lo hi:Option Int):B0 (l.map f) lo hi=(B0 l lo hi).map f:=by
 unfold B0;simp[List.map_drop,ydf]
end Pu
namespace Zm
end Zm
namespace Db
open PySem
def bs(a b:Int):Int:=2 * (a / 2+b / 2)+min (a % 2) (b % 2)
theorem zij(a b:Int):bs a b=bs b a:=by unfold bs;omega
abbrev B:=Option Int
def le:B->B->Prop
 |_,none=>True
 |none,some _=>False
 |some a,some b=>a<=b
def LD:B->B->B
 |some a,some b=>some (bs a b)
 |_,_=>none
def mn:B->B->B
 |none,b=>b
 |some a,none=>some a
 |some a,some b=>some (min a b)
theorem le_refl(a:B):le a a:=by cases a<;>simp[le]
theorem le_trans{a b c:B}(h:le a b)(h':le b c):le a c:=by
 cases a<;>cases b<;>cases c<;>simp_all [le]
 omega
theorem add_comm(a b:B):LD a b=LD b a:=by
 cases a<;>cases b<;>simp[LD,zij]
abbrev Z:=Nat->Nat->B
def free(i j:Nat):B:=if i=0\/i=j then some 1 else none
def z0(f:Z):Z:=λi j=>mn (f i j) (free i j)
def stp(f:Z)(k:Nat):Z:=λi j=>mn (f i j) (LD (f i k) (f k j))
end Db
namespace Pu
open PySem PySem.Spec PyProof.Rows L2 Zw Zx
def mT(n:Nat)(g:Nat->T):List T:=(List.range n).map g
theorem SD:((0:Nat):Int)=0:=rfl
theorem SA:((1:Nat):Int)=1:=rfl
theorem Rz:((2:Nat):Int)=2:=rfl
theorem Ry:((3:Nat):Int)=3:=rfl
theorem Rx:((4:Nat):Int)=4:=rfl
theorem Rw:((5:Nat):Int)=5:=rfl
theorem Rv:((6:Nat):Int)=6:=rfl
theorem Rt:((7:Nat):Int)=7:=rfl
theorem Rq:((8:Nat):Int)=8:=rfl
theorem Ro:((9:Nat):Int)=9:=rfl
theorem SY{k:Nat}(h:k<=100000):(k<=AQ)=True:=yf8 (by unfold AQ;omega)
theorem SX{k:Nat}(h:k<100000):(k<AQ)=True:=yf8 (by unfold AQ;omega)
section
variable {n:Nat}{g h:Nat->T}
theorem EZ:(mT n g).length=n:=by simp[mT]
theorem Mx{i:Nat}(hi:i<n):(mT n g)[i]?=some (g i):=by simp[mT,hi]
theorem IK{i:Nat}{t:T}(e:(mT n g)[i]?=some t):i<n/\t=g i:=by
 have hi:i<n:=by
  rcases Nat.lt_or_ge i n with q|q
  .exact q
  .rw[ybl (by rw[EZ];exact q)]at e
   cases e
 rw[Mx hi]at e;exact⟨hi,by injection e with e;exact e.symm⟩
theorem zkw{l:List T}(hl:l.length=n)(h:∀i,i<n->l[i]?=some (g i)):l=mT n g:=by
 refine List.ext_getElem? λi=>?_
 rcases Nat.lt_or_ge i n with q|q
 .rw[h i q,Mx q]
 .rw[ybl (by omega),ybl (by rw[EZ];exact q)]
theorem zf8(e:∀i,i<n->g i=h i):mT n g=mT n h:=zkw EZ λi hi=>by rw[Mx hi,e i hi]
theorem zkv{t:T}(ht:t∈mT n g):∃i,i<n/\t=g i:=by
 obtain⟨i,hi,e⟩:=yat.mp ht;exact⟨i,ybn.mp hi,e.symm⟩
theorem zcs:AV (mT n g)=mT n λi=>(g i).share:=by
 rw[Dh];unfold mT;rw[yc0]
 rfl
theorem Lo(e:∀i,(g i).sh=true):A7 (mT n g)=true:=by
 rw[Hl,yam];intro t ht;obtain⟨i,-,rfl⟩:=zkv ht;exact e i
theorem zgc(xs:Nat->Int):A7 (mT n λi=>.int (xs i))=true:=Lo λ_=>rfl
theorem zgd(u w:Nat->Int):A7 (mT n λi=>.nd false .tup [.int (u i),.int (w i)])=true:=Lo λ_=>rfl
theorem zkx:mT n g++[g n]=mT (n+1) g:=by
 unfold mT;rw[List.range_succ,yb9]
 rfl
theorem zeg(lo:Int):Dy lo n=mT n λi=>.int (lo+(i:Int)):=rfl
theorem Hx:Dy 0 n=mT n λi=>.int (i:Int):=by
 rw[zeg];refine zf8 λi _=>?_
 rw[Int.zero_add]
variable {b:T->AE->Option AE}{body:AE->Option Out}{me:AE->Option Rs}{τ:AE}
theorem Sb{u w f:Nat->T}{x y:Option T}{cs:AE}(hs:∀i,i<n->me (some (u i)::some (w i)::cs)=some (.v (f i) false)):CQ (Ct 2 (BW (AK 0) (BW (AK 1) DL))) (mC (.bl true)) me (mT n λi=>.tup [u i,w i]) (x::y::cs)=some (mT n f):=by
 have:=zfb (b:=Ct 2 (BW (AK 0) (BW (AK 1) DL))) (me:=me) (ts:=mT n λi=>.tup [u i,w i]) (τ:=x::y::cs) (λ_ τ=>∃x y,τ=x::y::cs) f ⟨x,y,rfl⟩ λi t τ e hI=>by
  obtain⟨hi,rfl⟩:=IK e;obtain⟨x,y,rfl⟩:=hI;exact⟨some (u i)::some (w i)::cs,by simp[Ct,BW,AK,DL],hs i hi,_,_,rfl⟩
 rw[this,EZ]
 rfl
end
def bT:Db.B->T
 |none=>.non
 |some i=>.int i
theorem zim:bT none=.non:=rfl
theorem zil(i:Int):bT (some i)=.int i:=rfl
abbrev rT(n:Nat)(f:Nat->Db.B):T:=.lst (mT n λj=>bT (f j))
theorem bT_sh(b:Db.B):(bT b).sh=true:=by cases b<;>rfl
theorem zfw(b:Db.B):(bT b).share=bT b:=by cases b<;>rfl
theorem zi4{n:Nat}(h:n<=100000):KZ (n:Int)=true:=@decide_eq_true _ (Classical.propDecidable _) ⟨by omega,by omega⟩
theorem Pf:∀ys:List Str,Gi (ys.map T.str)=some ys
 |[]=>rfl
 |y::r=>by
  show(match Gi (r.map T.str) with|some l=>some (y::l)|none=>none)=_
  rw[Pf r]
theorem A2:∀ys:List Str,AV (ys.map T.str)=ys.map T.str
 |[]=>rfl
 |y::r=>by
  show T.str y::AV (r.map T.str)=_;rw[A2 r]
  rfl
theorem Aa:∀ys:List Str,A7 (ys.map T.str)=true
 |[]=>rfl
 |y::r=>by
  show(true && A7 (r.map T.str))=true;rw[Aa r]
  rfl
def LJ(ys:List Str):Prop:=∀y∈ys,PyData.strOk y=true
theorem M9:∀ys:List Str,DF (ys.map T.str)=true
 |[]=>rfl
 |y::r=>by
  show(true && DF (r.map T.str))=true;rw[M9 r]
  rfl
theorem ND:∀{ys:List Str},LJ ys->PyData.canLayAll0 (Au (ys.map T.str))=true/\PyData.depthAll (Au (ys.map T.str))=0
 |[],_=>⟨rfl,rfl⟩
 |y::r,h=>by
  obtain⟨h1,h2⟩:=ND (ys:=r) λx hx=>h x (yab _ hx)
  have h3:=h y (yah ..);rw[yau,Au,PyData.canLayAll0,PyData.depthAll,h1,h2,T.data,PyData.canLay0,h3,PyData.depth];exact⟨rfl,rfl⟩
theorem zlj{x y:Str}(hx:PyData.strOk x=true)(hy:PyData.strOk y=true):BH (.str x) (.str y)=some (.bl (decide (x=y))):=by
 have e:(x == y)=decide (x=y):=by rw[yc1,yev,yez]
 unfold BH Dq BZ Fh;simp only[T.data,T.pln,PyData.canLay0,PyData.depth,PyData.eqv,hx,hy,e];simp
theorem Fit.str{x:Str}(h:PyData.strOk x=true)(n:Nat):Fit (.str x) n:=⟨by unfold BZ;rw[T.pln,T.data,PyData.canLay0,h];rfl,rfl,by simp[T.data,PyData.depth]⟩
theorem VE(x:Str):∀ys:List Str,((Au (ys.map T.str)).any λy=>PyData.eqv y (.str x))=decide (x∈ys)
 |[]=>by simp[Au]
 |y::r=>by
  have e:(y == x)=decide (x=y):=by rw[yc1,yev,yez];exact eq_comm
  rw[yau,Au,ydd,VE x r,T.data,PyData.eqv,e,yc1,ybt,yez,yez,yez,ya9]
theorem zia{ys:List Str}{x:Str}{o:Bool}{k:Kd}(h:LJ ys)(hx:PyData.strOk x=true):Ce (.str x) (.nd o k (ys.map T.str))=some (.bl (decide (x∈ys))):=by
 have ok:Fe (.str x) (ys.map T.str)=true:=by
  obtain⟨h1,h2⟩:=ND h;unfold Fe BZ;rw[M9,h1,h2,T.pln,T.data,PyData.canLay0,hx,PyData.depth]
  rfl
 unfold Ce;simp only;rw[if_pos ok];unfold K7;rw[T.data,VE]
theorem VF{t:T}(ht:t=.non\/∃i,t=.int i):∀ys:List Str,((Au (ys.map T.str)).any λy=>PyData.eqv y t.data)=false
 |[]=>by simp[Au]
 |y::r=>by
  rw[yau,Au,ydd,VF ht r]
  rcases ht with rfl|⟨i,rfl⟩<;>rfl
theorem TC{ys:List Str}{t:T}{o:Bool}{k:Kd}(h:LJ ys)(ht:t=.non\/∃i,t=.int i):Ce t (.nd o k (ys.map T.str))=some (.bl false):=by
 have ok:Fe t (ys.map T.str)=true:=by
  obtain⟨h1,h2⟩:=ND h;unfold Fe BZ;rw[M9,h1,h2]
  rcases ht with rfl|⟨i,rfl⟩<;>rfl
 unfold Ce;simp only;rw[if_pos ok];unfold K7;rw[VF ht]
end Pu
namespace Tx
open PySem PySem.NumText
abbrev cs(x:Str):List Nat:=x.cps.toList
theorem cs_app(x y:Str):cs (x++y)=cs x++cs y:=Array.toList_append
theorem cs_ext{x y:Str}(h:cs x=cs y):x=y:=by
 cases x;cases y;exact congrArg Str.mk (Array.toList_inj.mp h)
theorem cs_len(x:Str):x.length=(cs x).length:=rfl
theorem cut_one{c:Nat}:∀{a b u v:List Nat},a++c::u=b++c::v->c∉a->c∉b->a=b/\u=v
 |[],[],u,v,h,_,_=>⟨rfl,(ycp h).2⟩
 |[],y::b,u,v,h,_,hb=>absurd (by rw[(ycp h).1];exact yah ..) hb
 |x::a,[],u,v,h,ha,_=>absurd (by rw[<- (ycp h).1];exact yah ..) ha
 |x::a,y::b,u,v,h,ha,hb=>by
  obtain⟨e1,e2⟩:=ycp h;obtain⟨e3,e4⟩:=cut_one e2 (λz=>ha (yab _ z)) (λz=>hb (yab _ z))
  exact⟨by rw[e1,e3],e4⟩
noncomputable def isDg(c:Nat):Bool:=decide (48<=c/\c<=57)
def isNum(l:List Nat):Bool:=decide (1<=l.length/\l.length<=60) && l.all isDg && (decide (l=[48]) || decide (l.head?≠some 48))
section
variable {x y:Str}{c:Nat}(hA:∀k,(cs x)[k]?=some c->StrLaws.At x y x.length k)
include hA
end
theorem U4(l:List Nat):cs ⟨l.toArray⟩=l:=rfl
theorem sl_to{x:Str}{a:Nat}(h:a<=(cs x).length):cs (Txt.slice x none (some (a:Int)))=(cs x).take a:=by
 have e:Txt.slice x none (some (a:Int))=StrLaws.sliceText x none (some (a:Int)):=rfl;rw[e,StrLaws.sliceText_to ⟨Int.natCast_nonneg a,Int.ofNat_le.mpr h⟩,U4,List.drop_zero,Int.sub_zero,yba]
theorem sl_from{x:Str}{a:Nat}(h:a<=(cs x).length):cs (Txt.slice x (some (a:Int)) none)=(cs x).drop a:=by
 have e:Txt.slice x (some (a:Int)) none=StrLaws.sliceText x (some (a:Int)) none:=rfl;rw[e,StrLaws.sliceText_from ⟨Int.natCast_nonneg a,Int.ofNat_le.mpr h⟩,U4,yba];refine ycd ?_;rw[ybm]
 omega
end Tx
namespace Tk
open PySem PySem.NumText
abbrev W:=List Nat
noncomputable def mk(w:W):Str:=⟨w.toArray⟩
def Jf(w:W):Bool:=decide (w.getLast?=some 33\/w.getLast?=some 63)
noncomputable def Cd(c:Nat):Bool:=decide (97<=c/\c<=122)
def GL(w:W):Bool:=decide (1<=w.length/\w.length<=8) && w.all Cd
def C9(w:W):Bool:=decide (w=[47]) || GL w
def DD(w:W):Bool:=decide (1<=w.length/\w.length<=60) && w.all λc=>decide (c=47) || Cd c
def FV(w:W):Bool:=decide (w=[]) || (Jf w && GL w.dropLast)
def Bp(l:List W):Bool:=decide l.Nodup
def F6(ns ws:List W):Bool:=ns.all C9 && (Bp ns && ns.all λx=>decide (x∈ws))
def LY(ws:List W):Bool:=decide (ws.length<=7) && (ws.all C9 && Bp ws)
def CN:List W:=[[60],[60,61],[62],[62,61],[61]]
def Bu:List W:=[[60],[60,61]]
inductive K where
 |c (n:Nat)|w (k:Nat)|d (k:Nat)
 deriving DecidableEq
abbrev S:=List K
structure Va where
 n:Nat->W
 u:Nat->W
 hn:∀k,GL (n k)=true
 hi:∀j k,j<4->k<4->n j=n k->j=k
 hu:∀k,Tx.isNum (u k)=true
 h6:2<=digitsVal (u 6)
noncomputable def K.ev(V:Va):K->W
 |.c n=>[n]
 |.w k=>V.n k
 |.d k=>V.u k
def ev(V:Va)(s:S):W:=s.flatMap (K.ev V)
def K.code:K->Nat
 |.c n=>n
 |_=>0
def K.lt:K->Bool
 |.c n=>Cd n
 |.w _=>true
 |_=>false
section
variable {x:Str}{c d:Nat}
end
section
variable (V:Va)
end
section
variable (V:Va)
end
section
variable (V:Va)
theorem nil_iff{α β:Type}{f:α->β}{l:List α}:l.map f≠[] ↔ l≠[]:=⟨λh z=>h (by rw[z];rfl),λh z=>h (List.map_eq_nil_iff.mp z)⟩
end
def Ok(w:W):Prop:=w.length<=50000/\∀c∈w,c<128
theorem Ok.sub{w x:W}(h:Ok w)(s:x.Sublist w):Ok x:=⟨yap s.length_le h.1,λc hc=>h.2 c (s.subset hc)⟩
theorem Jz{a b:W}(h:mk a=mk b):a=b:=congrArg Tx.cs h
theorem zku{a:W}{l:List W}:mk a∈l.map mk ↔ a∈l:=⟨λh=>by
 obtain⟨b,hb,e⟩:=yat.mp h;rw[<- Jz e];exact hb,λh=>yat.mpr ⟨a,h,rfl⟩⟩
def K.as:K->Bool
 |.c n=>decide (n<128)
 |_=>true
end Tk
namespace Tk
inductive Hv where
 |non
 |bl (b:Bool)
 |int (i:Int)
 |str (w:W)
 |lst (l:List Hv)
 |tup (l:List Hv)
 |dic
def Bd:Hv->Bool
 |.str w=>C9 w
 |_=>false
def Dx:Hv->Bool
 |.str w=>DD w
 |_=>false
def Eo:Hv->Bool
 |.str w=>FV w
 |_=>false
def GJ:Hv->Bool
 |.int i=>decide (0<=i)
 |_=>false
def Bs(ws:List W):Hv->Bool
 |.str w=>decide (w∈ws)
 |_=>false
def Dw:Hv->Prop
 |.str w=>Ok w
 |.non=>True
 |.int _=>True
 |_=>False
def F9(ws wd:List W):Hv->Bool
 |.tup [a,b,c]=>Bs ws a && (Bs wd b && GJ c)
 |_=>false
def JF(t:Hv):Prop:=∀a b c,t=.tup [a,b,c]->Dw a/\Dw b
def CB(ws wd:List W):Hv->Bool
 |.lst l=>l.all (F9 ws wd)
 |_=>false
def Ha(t:Hv):Prop:=∀l,t=.lst l->l.length<=1000/\∀k∈l,JF k
def Bf:List Hv->List W
 |[]=>[]
 |.str w::r=>w::Bf r
 |_::r=>Bf r
theorem J8(p:Hv->Bool)(hp:∀t,p t=true->∃w,t=.str w):∀l:List Hv,l.all p=true->l=(Bf l).map Hv.str
 |[],_=>rfl
 |a::r,h=>by
  rw[List.all_cons,ya1]at h;obtain⟨w,rfl⟩:=hp a h.1;have:=J8 p hp r h.2;show Hv.str w::r=Hv.str w::(Bf r).map Hv.str;rw[<- this]
theorem L4(t:Hv)(h:Bd t=true):∃w,t=.str w:=by
 cases t with
 |str w=>exact⟨w,rfl⟩
 |_=>cases h
def CV:Hv->Bool
 |.lst l=>decide (l.length<=7) && (l.all Bd && Bp (Bf l))
 |_=>false
def VM:Hv->Prop
 |.str w=>Ok w
 |.lst _=>True
 |.tup _=>True
 |_=>True
def Ck(ws:List W):Hv->Bool
 |.tup [a,g]=>Dx a && CB ws Bu g
 |_=>false
def EK(t:Hv):Prop:=∀a g,t=.tup [a,g]->VM a/\Ha g
def A6:Hv->W
 |.tup (.str w::_)=>w
 |_=>[]
theorem Qk{ws:List W}{t:Hv}(h:Ck ws t=true):∃g,t=.tup [.str (A6 t),g]:=by
 unfold Ck at h;split at h
 .rename_i a g;rw[ya1]at h;cases a with
  |str w=>exact⟨g,rfl⟩
  |_=>cases h.1
 .cases h
def DC(ws:List W):Hv->Bool
 |.lst l=>!l.isEmpty && (l.all (Ck ws) && Bp (l.map A6))
 |_=>false
def Ip(t:Hv):Prop:=∀l,t=.lst l->l.length<1000/\∀r∈l,EK r
def Cm(ws:List W):Hv->Bool
 |.lst l=>l.all Bd && F6 (Bf l) ws
 |_=>false
def DB:Hv->List Hv
 |.tup [_,.lst g]=>g
 |_=>[]
theorem Qj{ws:List W}{t:Hv}(h:Ck ws t=true):t=.tup [.str (A6 t),.lst (DB t)]:=by
 obtain⟨g,e⟩:=Qk h;rw[e]at h;cases g with
 |lst l=>rw[e];rfl
 |_=>cases (ya1 ..▸h:_/\_).2
def G3(ws ns:List W):Hv->Bool
 |.tup [s,e,g,n,z]=>Bs ns s && (Bs ns e && (CB ws CN g && (Cm ws n && Eo z)))
 |_=>false
def EG(ws ns:List W):Hv->Bool
 |.lst l=>l.all (G3 ws ns)
 |_=>false
def Ef:Hv->List W
 |.lst l=>Bf l
 |_=>[]
def M6:Hv->List W
 |.lst l=>l.map A6
 |_=>[]
def NB:Hv->Nat
 |.lst l=>l.length
 |_=>0
inductive Vh where
 |read|bad|many
def CP(w r d:Hv):Vh:=if CV w && (DC (Ef w) r && EG (Ef w) (M6 r) d) then (if 64<NB r\/200<NB d then .many else .read) else .bad
end Tk
namespace Hd
open PySem PySem.W PySem.Calls PyProof.Rows
def IW(st:SharedT->Thread->Option (SharedT×Thread))(ok:Thread->Bool):Nat->SharedT->Thread->Option SharedT
 |0=>λ_ _=>none
 |n+1=>λs t=>bif through t then some s else bif ok t then (st s t).elim none λx=>IW st ok n x.1 x.2 else none
theorem zid{tb:String->Option Builtin}{p:Program}{w:World}{m:Nat}{ann:Option Value}(n:Nat):∀(s:SharedT) (t:Thread) (r:SharedT),
  IW (stepT (denote tb) p w) (stepOk m ann) n s t=some r->topRun tb p w m ann n s.abs t=some r.abs:=by
 induction n with
 |zero=>intro s t r h;exact nomatch h
 |succ n ih =>
  intro s t r h;rw[IW]at h;dsimp only at h;rw[topRun];cases a:through t with
  |true=>rw[a]at h;cases h;rfl
  |false =>
   rw[a]at h;cases b:stepOk m ann t with
   |false=>rw[b]at h;exact nomatch h
   |true =>
    rw[b]at h;cases c:stepT (denote tb) p w s t with
    |none=>rw[c]at h;exact nomatch h
    |some x=>rw[c]at h;rw[stepT_spec (s':=x.1) (t':=x.2) c];exact ih _ _ _ h
noncomputable def Jg(p q:Program)(loose:List Str)(Xt:Shared->Bool){α:Type}(Yf:Shared->α)(h:Heap)(s:Shared) :=
 ((staticsOk (importedModules p.main.body) h s.heap && namesBound p s.heap && gensDone s && laidKept h s.heap),openSeen q loose (importedModules p.main.body) Xt true s,Yf s)
theorem zhx{p q:Program}{loose:List Str}{Xt:Shared->Bool}{α:Type}{Yf:Shared->α}{Ya:World->α}{N M m:Nat}{ann:Option Value}{bt:Params->BT}{lf:Params->Life}{st:World->SharedT->Thread->Option (SharedT×Thread)}{ok:Thread->Bool}(hst:∀w,stepT (denote treeTable) p w=st w)(hok:stepOk m ann=ok)
  (e:opening p=plainProg p.main.scope.names) (hN:Nat.ble 600 N=true) (f:∀s,fenceModules? p s=some s) (hM:Nat.ble M N=true)
  (hb:∀P,absHeap (bt P) m (lf P)=boot_heap P) (hs:∀P,(boot_heap P).isNs mainGlobals=true) (hz:∀P,(boot_heap P).objs.size=m) (ha:∀P,(boot_heap P).nsMap mainGlobals "__annotations__"=ann)
  (h:∀(w:World) (os:OsState),(IW (st w) ok M ⟨bt w.params,m,lf w.params,Array.mk [],boot_drawn,boot_toks,os⟩ (topStub p)).map (λs=>Jg p q loose Xt Yf (boot_heap w.params) s.abs)=some (true,openGood q loose,Ya w)) :
  LeftO p q loose Xt Yf Ya N true:=λw=>by
 obtain⟨⟨h0,g0,d0,k0,os⟩,hs0,hv⟩:=ya2.mp (boot_open e hN f w);simp only[Prod.mk.injEq]at hv;obtain⟨rfl,rfl,rfl,rfl⟩:=hv;obtain⟨T,hT,hx⟩:=ya2.mp (h w os);rw[<- hst,<- hok]at hT;have r:=topRun_mono (N - M) _ _ _ _ (zid _ _ _ _ hT);rw[Nat.add_sub_cancel' (Nat.le_of_ble_eq_true hM)]at r;have hx1:=congrArg Prod.fst hx;have hx2:=congrArg Prod.snd hx;simp only[Jg]at hx1 hx2;simp only[SharedT.abs,hb]at r hx1 hx2
 have k:topFrom treeTable p w N ⟨boot_heap w.params,Array.mk [],boot_drawn,boot_toks,os⟩=some T.abs:=by
  simp only[topFrom,hs,hz,ha,r];simp only[Option.bind_some,SharedT.abs];rw[hx1]
  rfl
 show((fencedOpening treeTable p w N).bind (topFrom treeTable p w N)).map _=_;rw[hs0];show(topFrom treeTable p w N _).map _=_;rw[k];exact congrArg some hx2
def en(P:Params)(x:String)(k:Nat)(v:Value):DictEntry:=⟨PyData.keyHash P (Str.ofString x),.str (Str.ofString x) k,v⟩
def bt(P:Params):BT:=((boot_heap P).objs.toList.foldl (λ(x:BT×Nat) o=>(x.1.ins x.2 o,x.2+1)) (BT.nil,0)).1
theorem bt_ok(P:Params):absHeap (bt P) 11 (boot_heap P).life=boot_heap P:=by ext
theorem zlz(P:Params):(boot_heap P).nsMap mainGlobals "__annotations__"=some (.ref 6):=by ext
theorem ns_ok(P:Params):(boot_heap P).isNs mainGlobals=true:=by ext
theorem sz_ok(P:Params):(boot_heap P).objs.size=11:=by ext
abbrev go(p:Program)(M:Nat)(w:World)(os:OsState):Option SharedT :=
 IW (Fast.tw10156331382660048174 (Fast.tw11892475500146522536 Fast.tw14364793385576792824) p w) (Fast.tw6613529449190102663 11 (some (.ref 6))) M ⟨bt w.params,11,(boot_heap w.params).life,Array.mk [],boot_drawn,boot_toks,os⟩ (topStub p)
abbrev xt(r:RowW)(q:Program)(s:Shared):Bool:=xlAt q [] s && recOk r.records s
theorem zhy{p q:Program}{r:RowW}{loose:List Str}{α:Type}{Yf:Shared->α}{Ya:World->α}(N M:Nat)
  (e:opening p=plainProg p.main.scope.names) (hN:Nat.ble 600 N=true) (f:∀s,fenceModules? p s=some s) (hM:Nat.ble M N=true)
  (h:∀(w:World) (os:OsState),(go p M w os).map (λs=>Jg p q loose (xt r q) Yf (boot_heap w.params) s.abs)=some (true,openGood q loose,Ya w)):LeftO p q loose (xt r q) Yf Ya N true :=
 zhx (st:=λw=>Fast.tw10156331382660048174 (Fast.tw11892475500146522536 Fast.tw14364793385576792824) p w) (ok:=Fast.tw6613529449190102663 11 (some (.ref 6)))
  (λw=>by rw[Fast.te10156331382660048174,Fast.te11892475500146522536,Fast.te14364793385576792824]) (by rw[Fast.te6613529449190102663]) e hN f hM bt_ok ns_ok sz_ok zlz h
theorem zgi{l:OpenLaw}(h:Fast.tw9446332074065402090 l=true):l.wellSaid=true:=(congrFun Fast.te9446332074065402090 l).trans h
end Hd
set_option maxHeartbeats 4200000
namespace Zl
open PySem L2 Zw Zx Pu
noncomputable section
open Tk
local macro_rules
  |`(tactic| simp![$as,*])=>`(tactic| simp only[BE,M3,AL,AX,ET,FY,Aj,Ab,MW,QB,runM,mMut,FZ,Ak,MY,MX,DR,EU,Cj,GG,zk8,AA,mC,AH,AG,AI,BB,m1,m2,Ac,DW,BO,DX,Br,AW,Bk,Dl,A4,Al,Bx,IL,Hy,Ar,g1,g2,AK,DL,BW,Ct,blk,Kv,HG,Dp,LB,as2,asL,asL2,K4,Ai,Fz,EB,A8,Ap,Hz,C6,Dk,GX,T.isN,T.isB,BP,Ey,LG,KC,maxT,ybj,E9,LC,By,JZ,Hc,J7,T.share,AV,T.sh,A7,T.flat,FI,Cu,Dt,yau,ydo,yaq,ydq,List.replicate,yc9,ycs,ycj,yd2,yd4,List.getElem?_nil,List.set_cons_zero,List.set_cons_succ,yct,SD,SA,Rz,Ry,Rx,Rw,Rv,Rt,Rq,Ro,Int.reduceBEq,Nat.reduceBEq,Nat.reduceAdd,Nat.reduceSub,Nat.reduceLT,Nat.reduceLeDiff,if_true,if_false,ite_true,ite_false,reduceIte,yde,Bool.not_false,ye2,ye3,yaf,yav,ycf,ydp,ydc,ycm,Bool.false_xor,Bool.true_xor,ybz,yd5,decide_true,decide_false,ya9,yac,or_false,or_true,true_or,and_true,true_and,and_self,String.reduceEq,String.reduceBEq,beq_self_eq_true,ne_eq,not_false_eq_true,not_true_eq_false,SY,SX,bT_sh,zfw,EZ,zcs,Int.reduceLT,Int.reduceAdd,yba,zgc,zgd,Lo,implies_true,forall_const,zim,zil,Int.reduceEq,Int.reduceNe,IT,EC,Bl,GS,DT,Er,Ht,IC,KS,E1,E2,Bz,EO,Gk,Cr,Jl,Kd.isLst,Ff,GU,HV,$as,*])
local macro_rules
  |`(tactic| simp_arith! [$as,*] $[$loc:location]?)=>`(tactic| simp (disch:=first|assumption|decide +kernel) only[AL,AX,ET,FY,Aj,Ab,Ak,EU,GG,AA,mC,AH,AG,AI,Ac,BB,m1,m2,AW,Bk,Dl,A4,Al,Ar,g1,g2,AK,Ai,EB,A8,ybj,T.share,AV,T.sh,A7,T.flat,FI,Cu,Dt,yau,ydo,yaq,ydq,yc9,ycs,ycj,yd2,yd4,List.getElem?_nil,List.set_cons_zero,List.set_cons_succ,yct,SD,SA,Rz,Ry,Rx,Rw,Rv,Rt,Rq,Ro,Nat.reduceAdd,Nat.reduceLT,Nat.reduceLeDiff,if_true,if_false,ite_true,ite_false,reduceIte,yde,Bool.not_false,ye2,ye3,yaf,yav,ycf,ydp,ydc,ycm,ybz,yd5,or_false,or_true,true_or,and_true,true_and,and_self,ne_eq,not_false_eq_true,not_true_eq_false,SY,SX,Int.reduceAdd,Int.reduceEq,Int.reduceNe,Bl,$as,*] $[$loc]?)
noncomputable def A9(i:Nat):Stmt:=PySem.Challenge.pw_zonewalk_k22_machines_refused.main.body.getD i (.Pass ⟨0,0,0,0⟩)
def zlr(s:Stmt)(j:Nat):Stmt:=match s with
 |.ClassDef _ _ _ body _ _ _ _ _ _ _=>body.getD j (.Pass ⟨0,0,0,0⟩)
 |_=>.Pass ⟨0,0,0,0⟩
def KD(i j:Nat):Stmt:=zlr (A9 i) j
abbrev B5:Addr:=247
noncomputable def Bn:List Str:=["start","end","guard","noughts","sign"]
abbrev C7:Addr:=301
def Dd:List Str:=["watch_names","stays","door_list"]
def NL:T:=(.nd false .rt [(.str "<"),(.str "<="),(.str ">"),(.str ">="),(.str "=")])
def NM:T:=(.nd false .rt [(.str "<"),(.str "<=")])
def IP:T:=(.int 7)
def IQ:T:=(.int 64)
def IS:T:=(.int 200)
def Km:List (Addr×Bool):=[(247,true),(301,false)]
def JK:List (Str×Addr):=[("WalkError",31),("NoNumber",44),("BadMachine",56),("TooMany",68),("NoMark",99),("NoRoad",111),("NoRoom",123),("NoText",135),("NoRow",147)]
def VA:List (Addr×Bool):=[(31,false),(44,true),(56,false),(68,false),(99,false),(111,false),(123,false),(135,false),(147,false)]
def VC:List (Addr×Bool):=[(31,false),(44,false),(56,true),(68,false),(99,false),(111,false),(123,false),(135,false),(147,false)]
def Uu:List (Addr×Bool):=[(31,false),(44,false),(56,false),(68,true),(99,false),(111,false),(123,false),(135,false),(147,false)]
def Uw:List (Addr×Bool):=[(31,false),(44,false),(56,false),(68,false),(99,false),(111,false),(123,false),(135,false),(147,false)]
def VB:List (Addr×Bool):=[(31,false),(44,false),(56,false),(68,false),(99,true),(111,false),(123,false),(135,false),(147,false)]
def Uz:List (Addr×Bool):=[(31,false),(44,false),(56,false),(68,false),(99,false),(111,true),(123,false),(135,false),(147,false)]
def Uy:List (Addr×Bool):=[(31,false),(44,false),(56,false),(68,false),(99,false),(111,false),(123,true),(135,false),(147,false)]
noncomputable def Uv:List (Addr×Bool):=[(31,false),(44,false),(56,false),(68,false),(99,false),(111,false),(123,false),(135,true),(147,false)]
def Ux:List (Addr×Bool):=[(31,false),(44,false),(56,false),(68,false),(99,false),(111,false),(123,false),(135,false),(147,true)]
def Ut:List (Addr×Bool):=[(31,true),(44,true),(56,true),(68,true),(99,true),(111,true),(123,true),(135,true),(147,true)]
abbrev Hs:Stmt:=A9 39
def SR:AE->Option Out :=
 (AL (AX (A4 (AI (m1 (Cr VC) (AA 0)) (AI (m1 (Cr Uu) (AA 0)) (AI (m1 (Cr VB) (AA 0)) (AI (m1 (Cr VA) (AA 0)) AH))))) (AK 1))
 (AL (AX (m2 Ai (AA 1) (A4 (AI (m1 (Cr Uz) (AA 0)) (AI (m1 (Cr Uy) (AA 0)) (AI (m1 (Cr Ux) (AA 0)) (AI (m1 (Cr Uw) (AA 0)) AH)))))) (AK 1))
 (AL (AX (m2 Ai (AA 1) (A4 (AI (m1 (Cr Uv) (AA 0)) AH))) (AK 1))
 (AL (Aj (Br (BO (m1 (Cr Ut) (AA 0))) (m2 Cc (m1 BP (Bx 1 [] (Ff (AA 1)) (AK 0) (AA 0) (AA 0))) (mC (.int 1)))) (Ab (mC (.str "other"))) Ak)
 (Ab (AW (A4 (AI (mC (.str "bad")) (AI (mC (.str "many")) (AI (mC (.str "")) (AI (mC (.str "")) (AI (mC (.str "")) (AI (mC (.str "")) (AI (mC (.str "")) (AI (mC (.str "")) (AI (mC (.str "")) AH)))))))))) (GU (AA 1) true)))))))
def Iw:List T->Option Ru:=BE 1 2 SR
abbrev UC:Fn:=⟨1,["_law_e"],Iw⟩
abbrev zfg:Gx:=⟨[],[],[],[],false,true,true,none,[],[("BadMachine",VC),("TooMany",Uu),("NoMark",VB),("NoNumber",VA),("NoRoad",Uz),("NoRoom",Uy),("NoRow",Ux),("NoRun",Uw),("NoText",Uv)],[("ValueError",Ut)],true,[],[],[],[],[]⟩
abbrev N3:Gm:=⟨["_law_e","_law_some"],(AO Hs).names,[],0,[],["isinstance","len"],[],[],[],false,[],[],[],zfg⟩
theorem zea:FnScope N3.N UC.ps (AO Hs):=BM (by decide +kernel)
theorem zfo:HQ 200 N3 (Ao Hs)=some SR:=by ext
theorem ze1:Iw [.obj (.exn 56) []]=some (.ok (.str "bad")):=by ext
theorem zck:Iw [.obj (.exn 68) []]=some (.ok (.str "many")):=by ext
abbrev MU:Stmt:=A9 38
def Mv:AE->Option Out :=
 (AL (Aj (m2 (C6 λi j=>decide (i<j)) (AA 1) (m1 BP (AA 0))) (Ab (AW (AA 0) (AA 1))) Ak)
 (Ab (mC (.int 0))))
def Cw:List T->Option Ru:=BE 2 2 Mv
abbrev HM:Fn:=⟨1,["_law_script","_law_k"],Cw⟩
abbrev Tr:Gm:=⟨["_law_script","_law_k"],(AO MU).names,[],0,[],["len"],[],[],[],false,[],[],[],Bm⟩
theorem zbh:FnScope Tr.N HM.ps (AO MU):=BM (by decide +kernel)
theorem zbu:Av 200 Tr (Ao MU)=some Mv:=by ext
theorem E6(ns:List Int){k:Int}(h0:0<=k):Cw [An ns,.int k]=some (.ok (.int (ns.getD k.toNat 0))):=by
 unfold Cw Mv
 by_cases h:k<ns.length
 .have e:ns[k.toNat]?=some (ns.getD k.toNat 0):=by
   rw[yb6,ya0 (by omega)]
   rfl
  have ea:Ah (ns.map T.int) k=some (.int (ns.getD k.toNat 0)):=BL h0 (by rw[ya7,e];rfl)
  have el:decide (k<((ns.map T.int).length:Int))=true:=by simpa using h
  simp![An,Jd,Je,el,ea]
 .have el:decide (k<((ns.map T.int).length:Int))=false:=by simpa using h
  have e:ns.getD k.toNat 0=0:=by
   rw[yb6,ybl (by omega)]
   rfl
  simp![An,Jd,Je,el,e]
abbrev Lr:Stmt:=A9 29
def Et:AE->Option Out :=
 (Ab (DW (m1 (By "list") (AA 0)) (m1 Ey (AA 0)) (AA 0)))
def Du:List T->Option Ru:=BE 1 1 Et
abbrev Na:Fn:=⟨1,["thing"],Du⟩
abbrev TR:Gm:=⟨["thing"],(AO Lr).names,[],0,[],["isinstance","list"],[],[],[],false,[],[],[],Bm⟩
theorem zbc:FnScope TR.N Na.ps (AO Lr):=BM (by decide +kernel)
theorem zbp:Av 200 TR (Ao Lr)=some Et:=by ext
theorem oc_ok(l:List T)(h:A7 l=true):Du [.lst l]=some (.ok (.own l)):=by
 unfold Du Et
 simp![h,AJ _ h]
abbrev Lw:Stmt:=A9 24
def Mq:AE->Option Out :=
 (Ab (E1 E2 E2 (mC (.str "a")) (AA 0) (mC (.str "z"))))
def Ir:List T->Option Ru:=BE 1 1 Mq
abbrev Ke:Fn:=⟨1,["sign"],Ir⟩
abbrev TX:Gm:=⟨["sign"],(AO Lw).names,[],0,[],[],[],[],[],false,[],[],[],Bm⟩
theorem za0:FnScope TX.N Ke.ps (AO Lw):=BM (by decide +kernel)
theorem za1:Av 200 TX (Ao Lw)=some Mq:=by ext
theorem SE{x y:Str}(hx:PyData.strOk x=true)(hy:PyData.strOk y=true):Cc (.str x) (.str y)=some (.bl (!decide (x=y))):=by
 have e:(x == y)=decide (x=y):=by rw[yc1,yev,yez]
 unfold Cc Dq BZ Fh;simp only[T.data,T.pln,PyData.canLay0,PyData.depth,PyData.eqv,hx,hy,e];simp
theorem E3{α:Type}{b:T->AE->Option AE}{me:AE->Option Rs}(f g:α->T)(I:AE->Prop):∀(L:List α) (τ:AE),I τ->(∀x∈L,∀τ,I τ->∃τ1,b (f x) τ=some τ1/\me τ1=some (.v (g x) false)/\I τ1)->CQ b (mC (.bl true)) me (L.map f) τ=some (L.map g)
 |[],_,_,_=>rfl
 |x::L,τ,h,hs=>by
  obtain⟨τ1,e1,e2,h1⟩:=hs x (yah ..) τ h;have k:=E3 f g I L τ1 h1 λu hu=>hs u (yab _ hu)
  have f1:mC (.bl true) τ1=some (.v (.bl true) false):=rfl;rw[yau,yau];unfold CQ;simp only[e1,f1,e2,k]
theorem Dr{α:Type}{p:α->Bool}:∀l:List α,FH (l.map λk=>.bl (p k))=some (l.map p)
 |[]=>rfl
 |a::l=>by
  show(match FH (l.map λk=>.bl (p k)) with|some r=>some (p a::r)|none=>none)=_
  rw[Dr l]
  rfl
theorem zly{x:Str}(h:∀c∈Tx.cs x,c<128):PyData.strOk x=true:=by
 unfold PyData.strOk;rw[<- Array.all_toList,yam];intro c hc;have:=h c hc;exact yer (by omega)
theorem sq{f g:AE->Option Out}{τ τ':AE}{r:Option Out}(h:f τ=some (.nx τ'))(h2:g τ'=r):AL f g τ=r:=by
 unfold AL;rw[h];exact h2
theorem AZ{f g:AE->Option Out}{τ τ':AE}(h:f τ=some (.nx τ')):AL f g τ=g τ':=sq h rfl
noncomputable def Ay:Option Out->Option Ru
 |some (.rt t)=>some (.ok t)
 |some (.nx _)=>some (.ok .non)
 |some (.xc c _)=>some (.exc c)
 |_=>none
theorem Em{f g:AE->Option Out}{τ τ':AE}{c:Str}(h:f τ=some (.xc c τ')):AL f g τ=some (.xc c τ'):=by
 unfold AL;rw[h]
theorem Di{α:Type}(p:α->Bool):∀l:List α,AV (l.map λc=>T.bl (p c))=l.map λc=>T.bl (p c)
 |[]=>rfl
 |a::l=>by
  show T.bl (p a)::AV (l.map λc=>T.bl (p c))=_
  rw[Di p l]
  rfl
abbrev AF(ws:List W):List T:=(ws.map mk).map T.str
theorem Cf(ws:List W):AF ws=ws.map λw=>T.str (mk w):=yc0
theorem E8(a:T)(l:List T):Ah (a::l) 0=some a:=BL (by decide) rfl
theorem HW(a b:T)(l:List T):Ah (a::b::l) 1=some b:=BL (by decide) rfl
theorem Ij(a b c:T)(l:List T):Ah (a::b::c::l) 2=some c:=BL (by decide) rfl
theorem Pl(c:Nat):Ir [.str ⟨#[c]⟩]=some (.ok (.bl (Cd c))):=by
 have a1:((Str.ofString "a").cps.toList)=[97]:=by decide +kernel
 have a2:((Str.ofString "z").cps.toList)=[122]:=by decide +kernel
 have one:∀a b:Nat,([a] < [b]) ↔ a<b:=λa b=>by
  rw[List.cons_lt_cons_iff];exact⟨λh=>h.elim id λz=>absurd z.2 (List.not_lt_nil _),.inl⟩
 have b1:@decide ((#[c]:Array Nat).toList<(Str.ofString "a").cps.toList) (Classical.propDecidable _)=decide (c<97):=by
  rw[yf9,a1];exact one c 97
 have b2:@decide ((Str.ofString "z").cps.toList<(#[c]:Array Nat).toList) (Classical.propDecidable _)=decide (122<c):=by
  rw[yf9,a2];exact one 122 c
 unfold Ir Mq Cd
 by_cases h1:c<97
 .rw[yer h1]at b1;rw[show decide (97<=c/\c<=122)=false from ye8 (by omega)]
  simp![b1]
 .rw[ye8 h1]at b1;rw[show decide (97<=c/\c<=122)=!decide (122<c) by rw[<- decide_not,yf9];omega]
  simp![b1,b2]
abbrev MA:Stmt:=A9 25
def OU:AE->Option Rs :=
 (Ac Ir (AG (AA 0) AH))
def Mr:AE->Option Out :=
 (Ab (DX (E1 E2 E2 (mC (.int 1)) (m1 BP (AA 0)) (mC (.int 8))) (m1 E9 (Bx 1 [] (Bz (AA 0)) (AK 0) (mC (.bl true)) OU))))
def Iu:List T->Option Ru:=BE 1 1 Mr
abbrev Kf:Fn:=⟨2,["text"],Iu⟩
abbrev T4:Gm:=⟨["text"],(AO MA).names,[],1,[("is_small_letter",Ke)],["len","all"],[],[],[],false,[],[],[],Bm⟩
theorem zc2:FnScope T4.N Kf.ps (AO MA):=BM (by decide +kernel)
theorem zcg:Av 200 T4 (Ao MA)=some Mr:=by ext
theorem Jy{w:W}(h:w.length<=50000):(mk w).length<=100000:=by
 have:(mk w).length=w.length:=rfl
 omega
theorem EJ{α:Type}(p:α->Bool)(l:List α):((l.map p).all id)=l.all p:=by rw[yds];rfl
theorem S8{me:AE->Option Rs}{p:Nat->Bool}(w:W)(h:∀c∈w,me [some (.str ⟨#[c]⟩)]=some (.v (.bl (p c)) false)):CQ (AK 0) (mC (.bl true)) me (FW (mk w)) [none]=some (w.map λc=>T.bl (p c)) :=
 E3 (b:=AK 0) (me:=me) (λc=>T.str ⟨#[c]⟩) (λc=>T.bl (p c)) (λτ=>∃o,τ=[o]) w [none] ⟨none,rfl⟩ λc hc τ hI=>by
  obtain⟨o,rfl⟩:=hI;exact⟨[some (.str ⟨#[c]⟩)],rfl,h c hc,_,rfl⟩
theorem Pm{w:W}(h:w.length<=50000):(FW (mk w)).length<=100000:=by
 unfold FW;rw[ya5];exact Jy h
theorem Rn{w:W}(h:w.length<=50000):Iu [.str (mk w)]=some (.ok (.bl (GL w))):=by
 have lc:=S8 (me:=OU) (p:=Cd) w λc _=>by
  unfold OU
  simp![Pl]
 have el:((mk w).length:Int)=(w.length:Int):=rfl;have sl:=Pm h;have ll:=Jy h;unfold Iu Mr GL
 by_cases h1:1<=w.length
 .have d1:decide ((1:Int)<=((mk w).length:Int))=true:=yer (by omega)
  by_cases h2:w.length<=8
  .have d2:decide (((mk w).length:Int)<=8)=true:=yer (by omega)
   rw[yer (show 1<=w.length/\w.length<=8 from⟨h1,h2⟩)]
   simp![lc,sl,ll,d1,d2,Di,Dr,EJ]
  .have d2:decide (((mk w).length:Int)<=8)=false:=ye8 (by omega)
   rw[ye8 (show ¬ (1<=w.length/\w.length<=8) from λz=>h2 z.2)]
   simp![ll,d1,d2]
 .have d1:decide ((1:Int)<=((mk w).length:Int))=false:=ye8 (by omega)
  rw[ye8 (show ¬ (1<=w.length/\w.length<=8) from λz=>h1 z.1)]
  simp![ll,d1]
abbrev Lv:Stmt:=A9 26
def Gw:AE->Option Out :=
 (Ab (DX (m1 (By "str") (AA 0)) (Br (m2 BH (AA 0) (mC (.str "/"))) (Ac Iu (AG (AA 0) AH)))))
def FL:List T->Option Ru:=BE 1 1 Gw
abbrev Kc:Fn:=⟨3,["thing"],FL⟩
abbrev TV:Gm:=⟨["thing"],(AO Lv).names,[],2,[("is_name",Kf)],["isinstance","str"],[],[],[],false,[],[],[],Bm⟩
theorem za4:FnScope TV.N Kc.ps (AO Lv):=BM (by decide +kernel)
theorem za7:Av 200 TV (Ao Lv)=some Gw:=by ext
theorem Gu{w:W}(h:Ok w):PyData.strOk (mk w)=true:=zly h.2
theorem Ny{w v:W}{s:Str}(hs:s=mk v)(h:Ok w)(hv:Ok v):BH (.str (mk w)) (.str s)=some (.bl (decide (w=v))):=by
 rw[hs,zlj (Gu h) (Gu hv)]
 congr 2
 rw[yf9];exact⟨Jz,λh=>by rw[h]⟩
theorem BR{v:W}(h1:v.length<=100)(h2:v.all (λc=>decide (c<128))=true):Ok v:=⟨by omega,λc hc=>yf2 (yam.mp h2 c hc)⟩
theorem Jc:Str.ofString "/"=mk [47]:=Tx.cs_ext (by decide +kernel)
theorem LZ{w:W}(h:Ok w):FL [.str (mk w)]=some (.ok (.bl (C9 w))):=by
 have e:=Ny Jc h (BR (by decide) (by decide))
 have en:=Rn h.1;unfold FL Gw C9;cases hd:decide (w=[47])
 .rw[hd]at e
  simp![e,en]
 .rw[hd]at e
  simp![e]
mutual
def AD:Hv->T
 |.non=>.non
 |.bl b=>.bl b
 |.int i=>.int i
 |.str w=>.str (mk w)
 |.lst l=>.lst (AB l)
 |.tup l=>.tup (AB l)
 |.dic=>.dic [] []
def AB:List Hv->List T
 |[]=>[]
 |a::r=>AD a::AB r
end
mutual
def De:Hv->Prop
 |.str w=>Ok w
 |.lst l=>JG l
 |.tup l=>JG l
 |_=>True
def JG:List Hv->Prop
 |[]=>True
 |a::r=>De a/\JG r
end
theorem BV:∀l:List Hv,AB l=l.map AD
 |[]=>rfl
 |a::r=>by rw[AB,BV r];rfl
mutual
theorem A5:∀t:Hv,(AD t).sh=true
 |.non=>rfl
 |.bl _=>rfl
 |.int _=>rfl
 |.str _=>rfl
 |.lst l=>by rw[AD,T.sh,AS l];rfl
 |.tup l=>by rw[AD,T.sh,AS l];rfl
 |.dic=>rfl
theorem AS:∀l:List Hv,A7 (AB l)=true
 |[]=>rfl
 |a::r=>by rw[AB,A7,A5 a,AS r];rfl
end
theorem Ox{t:Hv}(h:De t):FL [AD t]=some (.ok (.bl (Bd t))):=by
 cases t with
 |str w=>exact LZ h
 |lst l =>
  have s:=AS l;unfold FL Gw Bd AD
  simp![s,AJ _ s]
 |tup l =>
  have s:=AS l;unfold FL Gw Bd AD
  simp![s,AJ _ s]
 |_ =>
  unfold FL Gw Bd AD
  simp![]
abbrev Ly:Stmt:=A9 27
def OT:AE->Option Rs :=
 (Br (m2 BH (AA 0) (mC (.str "/"))) (Ac Ir (AG (AA 0) AH)))
def Gy:AE->Option Out :=
 (AL (Aj (Br (BO (m1 (By "str") (AA 0))) (BO (E1 E2 E2 (mC (.int 1)) (m1 BP (AA 0)) (mC (.int 60))))) (Ab (mC (.bl false))) Ak)
 (Ab (m1 E9 (Bx 1 [] (Bz (AA 0)) (AK 0) (mC (.bl true)) OT))))
def Fl:List T->Option Ru:=BE 1 1 Gy
abbrev Nf:Fn:=⟨2,["thing"],Fl⟩
abbrev TZ:Gm:=⟨["thing"],(AO Ly).names,[],1,[("is_small_letter",Ke)],["isinstance","str","len","all"],[],[],[],false,[],[],[],Bm⟩
theorem za9:FnScope TZ.N Nf.ps (AO Ly):=BM (by decide +kernel)
theorem zaf:Av 200 TZ (Ao Ly)=some Gy:=by ext
theorem rn_ok{w:W}(h:Ok w):Fl [.str (mk w)]=some (.ok (.bl (DD w))):=by
 have lc:=S8 (me:=OT) (p:=λc=>decide (c=47) || Cd c) w λc hc=>by
  have e:=Ny (w:=[c]) Jc ⟨show 1<=50000 by decide,λd hd=>by rw[ya3.mp hd];exact h.2 c hc⟩ (BR (by decide) (by decide))
  have e2:decide ([c]=[47])=decide (c=47):=by
   rw[yf9];exact⟨λz=>(ycp z).1,λz=>by rw[z]⟩
  rw[e2]at e;have e':BH (.str ⟨#[c]⟩) (.str (Str.ofString "/"))=some (.bl (decide (c=47))):=e;unfold OT;cases hd:decide (c=47)
  .rw[hd]at e'
   simp![e',Pl]
  .rw[hd]at e'
   simp![e']
 have el:((mk w).length:Int)=(w.length:Int):=rfl;have sl:=Pm h.1;have ll:=Jy h.1;unfold Fl Gy DD
 by_cases h1:1<=w.length
 .have d1:decide ((1:Int)<=((mk w).length:Int))=true:=yer (by omega)
  by_cases h2:w.length<=60
  .have d2:decide (((mk w).length:Int)<=60)=true:=yer (by omega)
   rw[yer (show 1<=w.length/\w.length<=60 from⟨h1,h2⟩)]
   simp![lc,sl,ll,d1,d2,Di,Dr,EJ]
  .have d2:decide (((mk w).length:Int)<=60)=false:=ye8 (by omega)
   rw[ye8 (show ¬ (1<=w.length/\w.length<=60) from λz=>h2 z.2)]
   simp![ll,d1,d2]
 .have d1:decide ((1:Int)<=((mk w).length:Int))=false:=ye8 (by omega)
  rw[ye8 (show ¬ (1<=w.length/\w.length<=60) from λz=>h1 z.1)]
  simp![ll,d1]
abbrev Lu:Stmt:=A9 13
def Gv:AE->Option Out :=
 (Ab (DX (m1 (By "int") (AA 0)) (BO (m1 (By "bool") (AA 0)))))
def G5:List T->Option Ru:=BE 1 1 Gv
abbrev Nc:Fn:=⟨1,["thing"],G5⟩
abbrev TU:Gm:=⟨["thing"],(AO Lu).names,[],0,[],["isinstance","int","bool"],[],[],[],false,[],[],[],Bm⟩
theorem zbd:FnScope TU.N Nc.ps (AO Lu):=BM (by decide +kernel)
theorem zbq:Av 200 TU (Ao Lu)=some Gv:=by ext
theorem zcl(i:Int):G5 [.int i]=some (.ok (.bl true)):=by simp![G5,Gv]
abbrev Lz:Stmt:=A9 18
def HA:AE->Option Out :=
 (Ab (DX (Ac G5 (AG (AA 0) AH)) (m2 (C6 λi j=>decide (j<=i)) (AA 0) (mC (.int 0)))))
def Fm:List T->Option Ru:=BE 1 1 HA
abbrev Ng:Fn:=⟨2,["thing"],Fm⟩
abbrev T3:Gm:=⟨["thing"],(AO Lz).names,[],1,[("is_whole",Nc)],[],[],[],[],false,[],[],[],Bm⟩
theorem zb1:FnScope T3.N Ng.ps (AO Lz):=BM (by decide +kernel)
theorem zb7:Av 200 T3 (Ao Lz)=some HA:=by ext
theorem zhp(i:Int):Fm [.int i]=some (.ok (.bl (decide (0<=i)))):=by
 unfold Fm HA
 simp![zcl]
theorem zkn(t:Hv):Fm [AD t]=some (.ok (.bl (GJ t))):=by
 cases t with
 |int i=>exact zhp i
 |lst l =>
  have s:=AS l;unfold Fm HA G5 Gv GJ AD
  simp![s,AJ _ s]
 |tup l =>
  have s:=AS l;unfold Fm HA G5 Gv GJ AD
  simp![s,AJ _ s]
 |_ =>
  unfold Fm HA G5 Gv GJ AD
  simp![]
abbrev MB:Stmt:=A9 17
def Eu:AE->Option Out :=
 (AL (Aj (Br (BO (m1 (By "tuple") (AA 0))) (m2 Cc (m1 BP (AA 0)) (mC (.int 3)))) (Ab (mC (.bl false))) Ak)
 (Ab (DX (m2 Ce (AW (AA 0) (mC (.int 0))) (AA 1)) (DX (m2 Ce (AW (AA 0) (mC (.int 1))) (AA 2)) (Ac Fm (AG (AW (AA 0) (mC (.int 2))) AH))))))
def Oa:List T->Option Ru:=BE 3 3 Eu
abbrev Nh:Fn:=⟨3,["thing","watches","words"],Oa⟩
abbrev T5:Gm:=⟨["thing","watches","words"],(AO MB).names,[],2,[("is_number",Ng)],["isinstance","tuple","len"],[],[],[],false,[],[],[],Bm⟩
theorem zc3:FnScope T5.N Nh.ps (AO MB):=BM (by decide +kernel)
theorem zch:Av 200 T5 (Ao MB)=some Eu:=by ext
theorem Lc{ws:List W}(h:∀w∈ws,Ok w):LJ (ws.map mk):=λy hy=>by
 obtain⟨w,hw,rfl⟩:=yat.mp hy;exact Gu (h w hw)
theorem NT{ws:List W}{w:W}{o:Bool}{k:Kd}(h:∀w∈ws,Ok w)(hw:Ok w):Ce (.str (mk w)) (.nd o k (AF ws))=some (.bl (decide (w∈ws))):=by
 rw[zia (Lc h) (Gu hw)]
 congr 2
 rw[yf9];exact zku
abbrev Dn(wd:List W):T:=.nd false .rt (AF wd)
theorem JL:(∀w∈CN,Ok w)/\∀w∈Bu,Ok w:=⟨λw hw=>BR (by revert w;decide) (by revert w;decide),λw hw=>BR (by revert w;decide) (by revert w;decide)⟩
theorem KY:NL=Dn CN/\NM=Dn Bu:=by
 have e1:CN.map mk=(["<","<=",">",">=","="]:List Str):=by decide +kernel
 have e2:Bu.map mk=(["<","<="]:List Str):=by decide +kernel
 unfold Dn AF;rw[e1,e2];exact⟨rfl,rfl⟩
theorem NU{ws:List W}{t:Hv}{o:Bool}{k:Kd}(h:∀w∈ws,Ok w)(ht:Dw t):Ce (AD t) (.nd o k (AF ws))=some (.bl (Bs ws t)):=by
 cases t with
 |str w=>exact NT h ht
 |non=>exact TC (Lc h) (.inl rfl)
 |int i=>exact TC (Lc h) (.inr ⟨i,rfl⟩)
 |_=>exact ht.elim
theorem Aw(l:List Hv):(AB l).length=l.length:=by rw[BV,ya5]
theorem zf9{ws wd:List W}(h:∀w∈ws,Ok w)(hd:∀w∈wd,Ok w){t:Hv}(ht:JF t):Oa [AD t,.lst (AF ws),Dn wd]=some (.ok (.bl (F9 ws wd t))):=by
 show Ay (Eu [some (AD t),some (.lst (AF ws)),some (Dn wd)])=_
 have no:∀l:List Hv,l.length≠3->Ay (Eu [some (AD (.tup l)),some (.lst (AF ws)),some (Dn wd)])=some (.ok (.bl false)):=λl hl=>by
  have s:=AS l;have e:=Aw l;have d:((l.length:Int) == 3)=false:=by rw[yfa];omega
  unfold Eu AD
  simp![s,AJ _ s,e,d,Jv,Ay]
 cases t with
 |tup l =>
  match l with
  |[]=>exact no [] (by decide)
  |[a]=>exact no [a] (show 1≠3 by decide)
  |[a,b]=>exact no [a,b] (show 2≠3 by decide)
  |a::b::c::d::r=>exact no _ (by rw[yaq,yaq,yaq,yaq];omega)
  |[a,b,c] =>
   obtain⟨f1,f2⟩:=ht a b c rfl;have e1:=NU (o:=false) (k:=.lst) h f1;have e2:=NU (o:=false) (k:=.rt) hd f2;have e3:=zkn c;have s1:=A5 a;have s2:=A5 b;have s3:=A5 c;have a1:=E8 (AD a) [AD b,AD c];have a2:=HW (AD a) (AD b) [AD c];have a3:=Ij (AD a) (AD b) (AD c) [];show Ay (Eu [some (.tup [AD a,AD b,AD c]),some (.lst (AF ws)),some (Dn wd)])=some (.ok (.bl (Bs ws a && (Bs wd b && GJ c))));unfold Eu;generalize AD a=x at *;generalize AD b=y at *;generalize AD c=z at *;rw[AZ (τ':=[some (.tup [x,y,z]),some (.lst (AF ws)),some (Dn wd)]) (by simp![Jv,s1,s2,s3])]
   cases h1:Bs ws a
   .rw[h1]at e1
    simp![a1,A2,Aa,e1,s1,s2,s3,AN _ s1,Ay]
   .rw[h1]at e1;cases h2:Bs wd b
    .rw[h2]at e2
     simp![a1,a2,A2,Aa,e1,e2,s1,s2,s3,AN _ s1,AN _ s2,Ay]
    .rw[h2]at e2
     simp![a1,a2,a3,A2,Aa,e1,e2,e3,s1,s2,s3,AN _ s1,AN _ s2,AN _ s3,Ay]
 |lst l =>
  have s:=AS l;unfold Eu F9 AD
  simp![s,AJ _ s,Ay]
 |_ =>
  unfold Eu F9 AD
  simp![Ay]
abbrev MC:Stmt:=A9 19
def OV:AE->Option Rs :=
 (Ac Oa (AG (AA 0) (AG (AA 1) (AG (AA 2) AH))))
def II:AE->Option Out :=
 (Ab (DX (m1 (By "list") (AA 0)) (m1 E9 (Bx 1 [1,2] (Bz (AA 0)) (AK 0) (mC (.bl true)) OV))))
def G6:List T->Option Ru:=BE 3 3 II
abbrev Kg:Fn:=⟨4,["thing","watches","words"],G6⟩
abbrev T6:Gm:=⟨["thing","watches","words"],(AO MC).names,["watches","words"],3,[("is_look",Nh)],["isinstance","list","all"],[],[],[],false,[],[],[],Bm⟩
theorem zbe:FnScope T6.N Kg.ps (AO MC):=BM (by decide +kernel)
theorem zbr:Av 200 T6 (Ao MC)=some II:=by ext
theorem TK{ws wd:List W}(h:∀w∈ws,Ok w)(hd:∀w∈wd,Ok w){t:Hv}(ht:Ha t):G6 [AD t,.lst (AF ws),Dn wd]=some (.ok (.bl (CB ws wd t))):=by
 cases t with
 |lst l =>
  obtain⟨hl,hk⟩:=ht l rfl
  have lc:=E3 (b:=AK 0) (me:=OV) AD (λk=>T.bl (F9 ws wd k)) (λτ=>∃o,τ=[o,some (.lst (AF ws)),some (Dn wd)]) l [none,some (.lst (AF ws)),some (Dn wd)] ⟨none,rfl⟩ λk hm τ hI=>by
   obtain⟨o,rfl⟩:=hI;refine⟨[some (AD k),some (.lst (AF ws)),some (Dn wd)],rfl,?_,_,rfl⟩;have e:=zf9 h hd (hk k hm);have s:=A5 k;unfold OV;generalize AD k=x at *
   simp![A2,Aa,e,s,AN _ s]
  rw[<- BV]at lc;have l1:(AB l).length<=100000:=by rw[Aw];omega
  have hs:=AS l;unfold G6 II CB AD;generalize AB l=L at *
  simp![A2,Aa,hs,AJ _ hs,l1,lc,Di,Dr,EJ]
 |tup l =>
  have s:=AS l;unfold G6 II CB AD
  simp![s,AJ _ s]
 |_ =>
  unfold G6 II CB AD
  simp![]
abbrev MH:Stmt:=A9 33
def Ms:AE->Option Out :=
 (Ab (m2 BH (m1 Ge (AA 0)) (m1 BP (AA 0))))
def HY:List T->Option Ru:=BE 1 1 Ms
abbrev IZ:Fn:=⟨1,["texts"],HY⟩
abbrev Ta:Gm:=⟨["texts"],(AO MH).names,[],0,[],["len","set"],[],[],[],false,[],[],[],Bm⟩
theorem zau:FnScope Ta.N IZ.ps (AO MH):=BM (by decide +kernel)
theorem zax:Av 200 Ta (Ao MH)=some Ms:=by ext
theorem SH{val:Nat->L2.Key}{n:Nat}(h:∀i j,i<n->j<n->val i=val j->i=j):∀k,k<=n->(met val k).length=k/\∀x∈met val k,∃i,i<k/\x=val i
 |0,_=>⟨rfl,λx hx=>by cases hx⟩
 |k+1,hk=>by
  obtain⟨h1,h2⟩:=SH h k (by omega)
  have hn:val k∉met val k:=λz=>by
   obtain⟨i,hi,e⟩:=h2 _ z;have:=h k i (by omega) (by omega) e
   omega
  have e:met val (k+1)=met val k++[val k]:=by
   conv=>lhs;unfold met
   rw[if_neg hn]
  rw[e];refine⟨by rw[yad,ybk,h1],λx hx=>?_⟩
  rcases yaj.mp hx with q|q
  .obtain⟨i,hi,e⟩:=h2 x q;exact⟨i,by omega,e⟩
  .exact⟨k,by omega,ya3.mp q⟩
theorem ziv{ys:List Str}(h:ys.Nodup):Gf ys=ys.length:=by
 unfold Gf;refine(SH (n:=ys.length) (λi j hi hj e=>?_) ys.length (yaa _)).1
 have e':=Sum.inr.inj e;rw[yb6,yb6,ya0 hi,ya0 hj]at e';exact(ye6 h).mp e'
theorem Mp(val:Nat->L2.Key):∀k,(met val k).length<=k/\∀i,i<k->val i∈met val k
 |0=>⟨yaa 0,λi h=>absurd h (Nat.not_lt_zero _)⟩
 |k+1=>by
  obtain⟨h1,h2⟩:=Mp val k
  by_cases hm:val k∈met val k
  .have e:met val (k+1)=met val k:=by
    conv=>lhs;unfold met
    rw[if_pos hm]
   rw[e];refine⟨by omega,λi hi=>?_⟩
   by_cases hik:i=k
   .rw[hik];exact hm
   .exact h2 i (by omega)
  .have e:met val (k+1)=met val k++[val k]:=by
    conv=>lhs;unfold met
    rw[if_neg hm]
   rw[e];refine⟨by rw[yad,ybk];omega,λi hi=>?_⟩
   by_cases hik:i=k
   .rw[hik];exact yak _ (ya3.mpr rfl)
   .exact ybb _ (h2 i (by omega))
theorem SJ(val:Nat->L2.Key):∀k,(met val k).length=k->∀i j,i<j->j<k->val i≠val j
 |0,_,i,j,_,h=>absurd h (Nat.not_lt_zero _)
 |k+1,hk,i,j,hij,hj=>by
  have hm:val k∉met val k:=λhm=>by
   have e:met val (k+1)=met val k:=by
    conv=>lhs;unfold met
    rw[if_pos hm]
   rw[e]at hk;have:=(Mp val k).1
   omega
  have e:met val (k+1)=met val k++[val k]:=by
   conv=>lhs;unfold met
   rw[if_neg hm]
  rw[e,yad,ybk]at hk
  by_cases hjk:j=k
  .intro q;rw[hjk]at q;exact hm (q▸(Mp val k).2 i (by omega))
  .exact SJ val k (by omega) i j hij (by omega)
theorem ziw{ys:List Str}(h:Gf ys=ys.length):ys.Nodup:=by
 unfold Gf at h;have key:=SJ _ _ h;rw[ycq,List.pairwise_iff_getElem];intro i j hi hj hij q;refine key i j hij hj ?_;simp only[yb6,ya0 hi,ya0 hj,Option.getD_some];rw[q]
theorem La{ws:List W}(hl:ws.length<1000):HY [.lst (AF ws)]=some (.ok (.bl (Bp ws))):=by
 have e:(((Gf (ws.map mk):Nat):Int) == (ws.length:Int))=Bp ws:=by
  unfold Bp;rw[yc1,yev,yez]
  have hm:(ws.map mk).Nodup ↔ ws.Nodup:=by
   rw[ycq,ycq,ye5];exact⟨λh=>h.imp λq z=>q (by rw[z]),λh=>h.imp λq z=>q (Jz z)⟩
  rw[<- hm];have hn:(ws.map mk).length=ws.length:=ya5 ..;refine⟨λh=>ziw (by omega),λh=>?_⟩
  rw[ziv h,hn]
 unfold HY Ms
 simp![Ge,A2,Aa,Pf,hl,As,e,ya5]
abbrev ME:Stmt:=A9 32
def Ig:AE->Option Rs :=
 (Ac FL (AG (AA 0) AH))
def GR:AE->Option Out :=
 (AL (Aj (Br (BO (m1 (By "list") (AA 0))) (m2 (C6 λi j=>decide (j<i)) (m1 BP (AA 0)) (mC IP))) (Cj "BadMachine" (AG (mC (.str "a machine's watches are a list of at most seven")) AH)) Ak)
 (Aj (Br (BO (m1 E9 (Bx 1 [] (Bz (AA 0)) (AK 0) (mC (.bl true)) Ig))) (BO (Ac HY (AG (AA 0) AH)))) (Cj "BadMachine" (AG (mC (.str "a machine's watches are unlike names")) AH)) Ak))
def FO:List T->Option Ru:=BE 1 1 GR
abbrev Ni:Fn:=⟨4,["watches"],FO⟩
abbrev za6:Gx:=⟨[("MOST_WATCHES",IP)],[],[],[],false,true,true,none,[],[],[],true,[],[],[],[],[]⟩
abbrev T7:Gm:=⟨["watches"],(AO ME).names,[],3,[("is_watch_name",Kc),("are_unlike",IZ)],["isinstance","list","len","all"],["BadMachine"],[],[],false,[],[],[],za6⟩
theorem za5:FnScope T7.N Ni.ps (AO ME):=BM (by decide +kernel)
theorem za8:Av 200 T7 (Ao ME)=some GR:=by ext
theorem NC{me:AE->Option Rs}{p:W->Bool}{cs:AE}(ws:List W)(h:∀w∈ws,me (some (.str (mk w))::cs)=some (.v (.bl (p w)) false)):CQ (AK 0) (mC (.bl true)) me (AF ws) (none::cs)=some (ws.map λw=>T.bl (p w)):=by
 rw[Cf]
 exact E3 (b:=AK 0) (me:=me) (λw=>T.str (mk w)) (λw=>T.bl (p w)) (λτ=>∃o,τ=o::cs) ws (none::cs) ⟨none,rfl⟩ λw hw τ hI=>by
  obtain⟨o,rfl⟩:=hI;exact⟨some (.str (mk w))::cs,rfl,h w hw,_,rfl⟩
theorem El(ws:List W):(AF ws).length=ws.length:=by rw[ya5,ya5]
def bad(b:Bool):Option Ru:=if b then some (.ok .non) else some (.exc "BadMachine")
theorem cw_ok{ws:List W}(h:∀w∈ws,Ok w)(hl:ws.length<=1000):FO [.lst (AF ws)]=bad (LY ws):=by
 have lc:=NC (me:=Ig) (p:=C9) (cs:=[]) ws λw hw=>by
  unfold Ig
  simp![LZ (h w hw)]
 have l1:ws.length<=100000:=by omega
 unfold FO GR IP LY bad
 by_cases h7:ws.length<=7
 .have e1:decide ((7:Int)<(ws.length:Int))=false:=ye8 (by omega)
  have un:=La (ws:=ws) (by omega)
  rw[yer h7];cases ha:ws.all C9
  .simp![A2,Aa,El,lc,l1,e1,Di,Dr,EJ,ha]
  .cases hu:Bp ws
   .rw[hu]at un
    simp![A2,Aa,El,lc,l1,e1,Di,Dr,EJ,ha,un]
   .rw[hu]at un
    simp![A2,Aa,El,lc,l1,e1,Di,Dr,EJ,ha,un]
 .have e1:decide ((7:Int)<(ws.length:Int))=true:=yer (by omega)
  rw[ye8 h7]
  simp![A2,Aa,El,e1]
theorem K5:∀{l:List Hv},JG l->∀t∈l,De t
 |[],_,_,h=>absurd h (yac)
 |a::r,h,t,ht=>by
  rcases ya9.mp ht with rfl|ht
  .exact h.1
  .exact K5 h.2 t ht
theorem Co(ws:List W):AB (ws.map Hv.str)=AF ws:=by
 rw[BV,Cf,yc0]
 rfl
theorem zln{t:Hv}(h:De t):FO [AD t]=bad (CV t):=by
 cases t with
 |lst l =>
  have ho:=K5 (l:=l) h
  by_cases h7:l.length<=7
  .cases ha:l.all Bd with
   |true =>
    have e:=J8 Bd L4 l ha
    have e2:CV (.lst l)=LY (Bf l):=by
     show(decide (l.length<=7) && (l.all Bd && Bp (Bf l)))=(decide ((Bf l).length<=7) && ((Bf l).all C9 && Bp (Bf l)));have e3:(Bf l).length=l.length:=by rw[congrArg List.length e,ya5]
     have e4:(Bf l).all C9=true:=by
      rw[e,yds]at ha;exact ha
     rw[ha,e3,e4]
    rw[e2,show AD (.lst l)=.lst (AF (Bf l)) by rw[AD,congrArg AB e,Co]]
    refine cw_ok (λw hw=>?_) ?_
    .exact ho (.str w) (by rw[e];exact ybi hw)
    .rw[<- ya5 (f:=Hv.str),<- e]
     omega
   |false =>
    have lc:=E3 (b:=AK 0) (me:=Ig) AD (λk=>T.bl (Bd k)) (λτ=>∃o,τ=[o]) l [none] ⟨none,rfl⟩ λk hm τ hI=>by
     obtain⟨o,rfl⟩:=hI;refine⟨[some (AD k)],rfl,?_,_,rfl⟩;have e:=Ox (ho k hm);have s:=A5 k;unfold Ig;generalize AD k=x at *
     simp![e,s,AN _ s]
    rw[<- BV]at lc;have l0:=Aw l;have l1:l.length<=100000:=by omega
    have hs:=AS l;have e1:decide ((7:Int)<(l.length:Int))=false:=ye8 (by omega)
    rw[show CV (.lst l)=(decide (l.length<=7) && (l.all Bd && Bp (Bf l))) from rfl,ha,yav,yaf];unfold FO GR IP bad AD;generalize AB l=L at *
    simp![hs,AJ _ hs,l0,l1,e1,lc,Di,Dr,EJ,ha]
  .have l0:=Aw l;have hs:=AS l;have e1:decide ((7:Int)<(l.length:Int))=true:=yer (by omega)
   rw[show CV (.lst l)=(decide (l.length<=7) && (l.all Bd && Bp (Bf l))) from rfl,ye8 h7,yav];unfold FO GR IP bad AD;generalize AB l=L at *
   simp![hs,AJ _ hs,l0,e1]
 |tup l =>
  have s:=AS l;unfold FO GR CV bad AD
  simp![s,AJ _ s]
 |_ =>
  unfold FO GR CV bad AD
  simp![]
abbrev MF:Stmt:=A9 34
def Eg:AE->Option Out :=
 (AL (Aj (Br (BO (m1 (By "tuple") (AA 2))) (m2 Cc (m1 BP (AA 2)) (mC (.int 2)))) (Cj "BadMachine" (AG (mC (.str "a room is a tuple of a name and a stay")) AH)) Ak)
 (Aj (Br (BO (Ac Fl (AG (AW (AA 2) (mC (.int 0))) AH))) (BO (Ac G6 (AG (AW (AA 2) (mC (.int 1))) (AG (AA 1) (AG (mC NM) AH)))))) (Cj "BadMachine" (AG (mC (.str "a room has a name, and a stay of the machine's watches")) AH)) Ak))
def Kw:AE->Option Rs :=
 (AW (AA 0) (mC (.int 0)))
def HB:AE->Option Out :=
 (AL (Aj (Br (BO (m1 (By "list") (AA 0))) (m2 BH (m1 BP (AA 0)) (mC (.int 0)))) (Cj "BadMachine" (AG (mC (.str "a machine's rooms are a list of one or more")) AH)) Ak)
 (AL (DR (Bz (AA 0)) (AK 2) Eg)
 (Aj (BO (Ac HY (AG (Bx 1 [] (Bz (AA 0)) (AK 0) (mC (.bl true)) Kw) AH))) (Cj "BadMachine" (AG (mC (.str "no two rooms have one name")) AH)) Ak)))
def Iv:List T->Option Ru:=BE 2 3 HB
abbrev Nj:Fn:=⟨5,["rooms","watches"],Iv⟩
abbrev zam:Gx:=⟨[("STAY_WORDS",NM)],[],[],[],false,true,true,none,[],[],[],true,[],[],[],[],[]⟩
abbrev T8:Gm:=⟨["rooms","watches","room"],(AO MF).names,[],4,[("is_room_name",Nf),("is_guard",Kg),("are_unlike",IZ)],["isinstance","list","len","tuple"],["BadMachine"],[],[],false,[],[],[],zam⟩
theorem zai:FnScope T8.N Nj.ps (AO MF):=BM (by decide +kernel)
theorem zao:Av 200 T8 (Ao MF)=some HB:=by ext
theorem N8{α:Type}{b:T->AE->Option AE}{body:AE->Option Out}{c:Str}(f:α->T)(p:α->Bool)(S:Option T->AE):∀(L:List α) (x:Option T),(∀a∈L,∀x,b (f a) (S x)=some (S (some (f a)))/\body (S (some (f a)))=if p a then some (.nx (S (some (f a)))) else some (.xc c (S (some (f a)))))->∃y,Dc b body (L.map f) (S x)=if L.all p then some (.nx (S y)) else some (.xc c (S y))
 |[],x,_=>⟨x,rfl⟩
 |a::L,x,h=>by
  obtain⟨h1,h2⟩:=h a (yah ..) x;obtain⟨y,hy⟩:=N8 f p S L (some (f a)) λa ha=>h a (yab _ ha)
  rw[yau,List.all_cons];unfold Dc;cases hp:p a
  .rw[hp]at h2;refine⟨some (f a),?_⟩;simp only[h1,h2]
   rfl
  .rw[hp]at h2;refine⟨y,?_⟩;simp only[h1,h2,yeo,hy,ye3]
theorem zgl{t:Hv}(h:VM t):Fl [AD t]=some (.ok (.bl (Dx t))):=by
 cases t with
 |str w=>exact rn_ok h
 |lst l =>
  have s:=AS l;unfold Fl Gy Dx AD
  simp![s,AJ _ s]
 |tup l =>
  have s:=AS l;unfold Fl Gy Dx AD
  simp![s,AJ _ s]
 |_ =>
  unfold Fl Gy Dx AD
  simp![]
theorem zhb{ws:List W}(hw:∀w∈ws,Ok w){RS:T}{r:Hv}(h:EK r):Eg [some RS,some (.lst (AF ws)),some (AD r)]=if Ck ws r then some (.nx [some RS,some (.lst (AF ws)),some (AD r)]) else some (.xc "BadMachine" [some RS,some (.lst (AF ws)),some (AD r)]):=by
 have no:∀l:List Hv,l.length≠2->Eg [some RS,some (.lst (AF ws)),some (AD (.tup l))]=some (.xc "BadMachine" [some RS,some (.lst (AF ws)),some (AD (.tup l))]):=λl hl=>by
  have s:=AS l;have e:=Aw l;have d:((l.length:Int) == 2)=false:=by rw[yfa];omega
  unfold Eg AD;generalize AB l=L at *;exact Em (by simp![s,AJ _ s,e,d,Jv])
 cases r with
 |tup l =>
  match l with
  |[]=>exact no [] (by decide)
  |[a]=>exact no [a] (show 1≠2 by decide)
  |a::b::c::r=>exact no _ (by rw[yaq,yaq,yaq];omega)
  |[a,g] =>
   obtain⟨f1,f2⟩:=h a g rfl;have e1:=zgl f1;have e2:=TK hw JL.2 f2;have s1:=A5 a;have s2:=A5 g;have a1:=E8 (AD a) [AD g];have a2:=HW (AD a) (AD g) [];show Eg [some RS,some (.lst (AF ws)),some (.tup [AD a,AD g])]=if Dx a && CB ws Bu g then some (.nx [some RS,some (.lst (AF ws)),some (.tup [AD a,AD g])]) else some (.xc "BadMachine" [some RS,some (.lst (AF ws)),some (.tup [AD a,AD g])])
   unfold Eg;generalize AD a=x at *;generalize AD g=y at *;rw[AZ (τ':=[some RS,some (.lst (AF ws)),some (.tup [x,y])]) (by simp![Jv,s1,s2])]
   cases h1:Dx a
   .rw[h1]at e1
    simp![a1,e1,s1,s2,AN _ s1]
   .rw[h1]at e1;cases h2:CB ws Bu g
    .rw[h2]at e2
     simp![KY,a1,a2,A2,Aa,e1,e2,s1,s2,AN _ s1,AN _ s2]
    .rw[h2]at e2
     simp![KY,a1,a2,A2,Aa,e1,e2,s1,s2,AN _ s1,AN _ s2]
 |lst l =>
  have s:=AS l;unfold Eg Ck AD;exact Em (by simp![s,AJ _ s])
 |_ =>
  unfold Eg Ck AD;exact Em (by simp![])
theorem zlp{ws:List W}(hw:∀w∈ws,Ok w){t:Hv}(ht:Ip t):Iv [AD t,.lst (AF ws)]=bad (DC ws t):=by
 cases t with
 |lst l =>
  obtain⟨hl,hk⟩:=ht l rfl;have sr:=AS l;have er:=AJ _ sr;obtain⟨y,fo⟩:=N8 (b:=AK 2) (body:=Eg) (c:="BadMachine") AD (Ck ws) (λx=>[some (.lst (AB l)),some (.lst (AF ws)),x]) l none λr hr x=>⟨rfl,zhb hw (hk r hr)⟩
  rw[<- BV]at fo;have un:=La (ws:=l.map A6) (by rw[ya5];exact hl)
  have uz:AV (AF (l.map A6))=AF (l.map A6):=A2 _;have ll:(AB l).length<=100000:=by rw[Aw];omega
  have l0:(((AB l).length:Int) == 0)=l.isEmpty:=by
   cases l with
   |nil=>rfl
   |cons a r =>
    show _=false;rw[yfa,Aw,yaq]
    omega
  have lc:l.all (Ck ws)=true->CQ (AK 0) (mC (.bl true)) Kw (AB l) [none]=some (AF (l.map A6)):=λha=>by
   have k:=E3 (b:=AK 0) (me:=Kw) AD (λr=>T.str (mk (A6 r))) (λτ=>∃o,τ=[o]) l [none] ⟨none,rfl⟩ λr hr τ hI=>by
    obtain⟨o,rfl⟩:=hI;refine⟨[some (AD r)],rfl,?_,_,rfl⟩;obtain⟨g,e⟩:=Qk (yam.mp ha r hr);have s:=A5 g;have a1:=E8 (.str (mk (A6 r))) [AD g];rw[show AD r=.tup [.str (mk (A6 r)),AD g] by rw[congrArg AD e];rfl]
    unfold Kw;generalize AD g=x at *
    simp![a1,s]
   rw[<- BV]at k;rw[k,Cf,yc0]
   rfl
  show Ay (HB [some (.lst (AB l)),some (.lst (AF ws)),none])=bad (!l.isEmpty && (l.all (Ck ws) && Bp (l.map A6)));unfold HB bad;generalize AF (l.map A6)=Z at *;generalize AF ws=A at *;generalize AB l=R at *;cases h0:l.isEmpty
  .rw[h0]at l0;rw[AZ (τ':=[some (.lst R),some (.lst A),none]) (by simp![As,sr,er,l0])]
   cases ha:l.all (Ck ws)
   .rw[ha]at fo;rw[Em (c:="BadMachine") (τ':=[some (.lst R),some (.lst A),y]) (by simp![sr,er,fo])]
    rfl
   .rw[ha]at fo;have lc:=lc ha;rw[AZ (τ':=[some (.lst R),some (.lst A),y]) (by simp![sr,er,fo])]
    cases hu:Bp (l.map A6)
    .rw[hu]at un
     simp![sr,er,lc,un,uz,ll,Ay]
    .rw[hu]at un
     simp![sr,er,lc,un,uz,ll,Ay]
  .rw[h0]at l0;rw[Em (c:="BadMachine") (τ':=[some (.lst R),some (.lst A),none]) (by simp![As,sr,er,l0])]
   rfl
 |tup l =>
  have s:=AS l;unfold Iv HB DC bad AD
  simp![s,AJ _ s]
 |_ =>
  unfold Iv HB DC bad AD
  simp![]
abbrev MI:Stmt:=A9 36
def Ih:AE->Option Rs :=
 (Ac FL (AG (AA 0) AH))
def OW:AE->Option Rs :=
 (m2 Ce (AA 0) (AA 1))
def HD:AE->Option Out :=
 (AL (Aj (Br (BO (m1 (By "list") (AA 0))) (BO (m1 E9 (Bx 1 [] (Bz (AA 0)) (AK 0) (mC (.bl true)) Ih)))) (Ab (mC (.bl false))) Ak)
 (Ab (DX (Ac HY (AG (AA 0) AH)) (m1 E9 (Bx 1 [1] (Bz (AA 0)) (AK 0) (mC (.bl true)) OW)))))
def Fo:List T->Option Ru:=BE 2 2 HD
abbrev Nl:Fn:=⟨4,["thing","watches"],Fo⟩
abbrev Tc:Gm:=⟨["thing","watches"],(AO MI).names,["watches"],3,[("is_watch_name",Kc),("are_unlike",IZ)],["isinstance","list","all"],[],[],[],false,[],[],[],Bm⟩
theorem zak:FnScope Tc.N Nl.ps (AO MI):=BM (by decide +kernel)
theorem zaq:Av 200 Tc (Ao MI)=some HD:=by ext
theorem zko{ns ws:List W}(hw:∀x∈ws,Ok x)(hn:∀x∈ns,Ok x)(hl:ns.length<1000):Fo [.lst (AF ns),.lst (AF ws)]=some (.ok (.bl (F6 ns ws))):=by
 have lc:=NC (me:=Ih) (p:=C9) (cs:=[]) ns λw hx=>by
  unfold Ih
  simp![LZ (hn w hx)]
 have Sb:=NC (me:=OW) (p:=λw=>decide (w∈ws)) (cs:=[some (.lst (AF ws))]) ns λw hx=>by
  have e:=NT (o:=false) (k:=.lst) hw (hn w hx);unfold OW
  simp![A2,Aa,e]
 have l1:ns.length<=100000:=by omega
 have un:=La (ws:=ns) hl;unfold Fo HD F6;cases ha:ns.all C9
 .simp![A2,Aa,El,lc,l1,Di,Dr,EJ,ha]
 .cases hu:Bp ns
  .rw[hu]at un
   simp![A2,Aa,El,lc,l1,Di,Dr,EJ,ha,un]
  .rw[hu]at un
   simp![A2,Aa,El,lc,Sb,l1,Di,Dr,EJ,ha,un]
theorem zhq{ws:List W}(hw:∀w∈ws,Ok w){t:Hv}(h:De t)(hl:∀l,t=.lst l->l.length<1000):Fo [AD t,.lst (AF ws)]=some (.ok (.bl (Cm ws t))):=by
 cases t with
 |lst l =>
  have ho:=K5 (l:=l) h;have hl:=hl l rfl;cases ha:l.all Bd with
  |true =>
   have e:=J8 Bd L4 l ha;have e3:(Bf l).length=l.length:=by rw[congrArg List.length e,ya5]
   rw[show Cm ws (.lst l)=(l.all Bd && F6 (Bf l) ws) from rfl,ha,ye3,show AD (.lst l)=.lst (AF (Bf l)) by rw[AD,congrArg AB e,Co]]
   exact zko hw (λw hw=>ho (.str w) (by rw[e];exact ybi hw)) (by omega)
  |false =>
   have lc:=E3 (b:=AK 0) (me:=Ih) AD (λk=>T.bl (Bd k)) (λτ=>∃o,τ=[o]) l [none] ⟨none,rfl⟩ λk hm τ hI=>by
    obtain⟨o,rfl⟩:=hI;refine⟨[some (AD k)],rfl,?_,_,rfl⟩;have e:=Ox (ho k hm);have s:=A5 k;unfold Ih;generalize AD k=x at *
    simp![e,s,AN _ s]
   rw[<- BV]at lc;have l1:(AB l).length<=100000:=by rw[Aw];omega
   have hs:=AS l;rw[show Cm ws (.lst l)=(l.all Bd && F6 (Bf l) ws) from rfl,ha,yav];unfold Fo HD AD;generalize AB l=L at *
   simp![hs,AJ _ hs,l1,lc,Di,Dr,EJ,ha,A2,Aa]
 |tup l =>
  have s:=AS l;unfold Fo HD Cm AD
  simp![s,AJ _ s]
 |_ =>
  unfold Fo HD Cm AD
  simp![]
abbrev Lx:Stmt:=A9 28
def GQ:AE->Option Out :=
 (AL (Aj (BO (m1 (By "str") (AA 0))) (Ab (mC (.bl false))) Ak)
 (Ab (Br (m2 BH (AA 0) (mC (.str ""))) (DX (m2 Ce (AW (AA 0) (m1 Dk (mC (.int 1)))) (Al (AG (mC (.str "!")) (AG (mC (.str "?")) AH)))) (Ac Iu (AG (Bl (Bk (AA 0) none (some (m1 Dk (mC (.int 1))))) (Bq (AA 0) none (some (m1 Dk (mC (.int 1)))))) AH))))))
def FN:List T->Option Ru:=BE 1 1 GQ
abbrev Nd:Fn:=⟨3,["thing"],FN⟩
abbrev TY:Gm:=⟨["thing"],(AO Lx).names,[],2,[("is_name",Kf)],["isinstance","str"],[],[],[],false,[],[],[],Bm⟩
theorem zc1:FnScope TY.N Nd.ps (AO Lx):=BM (by decide +kernel)
theorem zcf:Av 200 TY (Ao Lx)=some GQ:=by ext
theorem em_mk:Str.ofString ""=mk []:=Tx.cs_ext (by decide +kernel)
theorem zj6{w:W}(h:Ok w):FN [.str (mk w)]=some (.ok (.bl (FV w))):=by
 have e:=Ny em_mk h (BR (by decide) (by decide))
 unfold FV
 by_cases h0:w=[]
 .rw[yer h0]at e ⊢;unfold FN GQ
  simp![e]
 .rw[ye8 h0]at e ⊢
  obtain⟨y,c,rfl⟩:∃y c,w=y++[c]:=by
   rcases List.eq_nil_or_concat w with q|⟨y,c,q⟩
   .exact absurd q h0
   .exact⟨y,c,by rw[q,List.concat_eq_append]⟩
  have hc:c<128:=h.2 c (yak _ (ya3.mpr rfl));have ll:=Jy h.1;have yl:y.length<=50000:=by have:=h.1;rw[yad]at this;omega
  have a1:Ah (mk (y++[c])).cps.toList (-1)=some c:=by
   show Ah (y++[c]) (-1)=some c;unfold Ah Fc;rw[yad,ybk,if_neg (by decide),if_pos (by omega)]
   show(y++[c])[((-1:Int)+((y.length+1:Nat):Int)).toNat]?=some c;rw[show((-1:Int)+((y.length+1:Nat):Int)).toNat=y.length by omega,yax (yaa _),Nat.sub_self]
   rfl
  have sl:Txt.slice (mk (y++[c])) none (some (-1))=mk y:=by
   have hl:(Tx.cs (mk (y++[c]))).length=y.length+1:=by show(y++[c]).length=_;rw[yad];rfl
   have e2:Txt.slice (mk (y++[c])) none (some (-1))=StrLaws.sliceText (mk (y++[c])) none (some (-1)):=rfl;rw[e2,StrLaws.sliceText_neg_hi _ none (by decide) (by rw[Tx.cs_len,hl];omega)]
   have e3:((-1:Int)+((mk (y++[c])).length:Int))=((y.length:Nat):Int):=by rw[Tx.cs_len,hl];omega
   rw[e3];refine Tx.cs_ext ?_;show Tx.cs (Txt.slice (mk (y++[c])) none (some ((y.length:Nat):Int)))=y;rw[Tx.sl_to (by omega)]
   exact List.take_left' rfl
  have tl:Ce (.str (Str.mk #[c])) (.tup [.str (Str.ofString "!"),.str (Str.ofString "?")])=some (.bl (Jf (y++[c]))):=by
   have e1:(([.str (Str.ofString "!"),.str (Str.ofString "?")]:List T))=AF [[33],[63]]:=by
    have:([[33],[63]]:List W).map mk=([Str.ofString "!",Str.ofString "?"]:List Str):=by decide +kernel
    unfold AF;rw[this]
    rfl
   rw[e1];have e2:=NT (ws:=[[33],[63]]) (w:=[c]) (o:=false) (k:=.tup) (λw hw=>BR (by revert w;decide) (by revert w;decide)) ⟨show 1<=50000 by decide,λd hd=>by rw[ya3.mp hd];exact hc⟩
   rw[show(Str.mk #[c])=mk [c] from rfl,e2]
   congr 2
   unfold Jf;rw[yf9,List.getLast?_append];simp
  have en:=Rn yl;rw[List.dropLast_concat];unfold FN GQ;cases hs:Jf (y++[c])
  .rw[hs]at tl
   simp![e,ll,a1,tl,show(-(1:Int))=-1 from rfl]
  .rw[hs]at tl
   simp![e,ll,a1,tl,Bq,sl,en,show(-(1:Int))=-1 from rfl]
theorem zgf{t:Hv}(h:De t):FN [AD t]=some (.ok (.bl (Eo t))):=by
 cases t with
 |str w=>exact zj6 h
 |lst l =>
  have s:=AS l;unfold FN GQ Eo AD
  simp![s,AJ _ s]
 |tup l =>
  have s:=AS l;unfold FN GQ Eo AD
  simp![s,AJ _ s]
 |_ =>
  unfold FN GQ Eo AD
  simp![]
abbrev MG:Stmt:=A9 35
def Fu:AE->Option Out :=
 (AL (Aj (BO (m1 (GY Km) (AA 3))) (Cj "BadMachine" (AG (mC (.str "a machine's doors are doors")) AH)) Ak)
 (AL (Aj (Br (m2 GK (EC B5 Bn 0 (AA 3)) (AA 1)) (m2 GK (EC B5 Bn 1 (AA 3)) (AA 1))) (Cj "BadMachine" (AG (mC (.str "a door leads from one room of the machine to another")) AH)) Ak)
 (AL (Aj (BO (Ac G6 (AG (EC B5 Bn 2 (AA 3)) (AG (AA 2) (AG (mC NL) AH))))) (Cj "BadMachine" (AG (mC (.str "a door's guard is one of the machine's watches")) AH)) Ak)
 (Aj (Br (BO (Ac Fo (AG (EC B5 Bn 3 (AA 3)) (AG (AA 2) AH)))) (BO (Ac FN (AG (EC B5 Bn 4 (AA 3)) AH)))) (Cj "BadMachine" (AG (mC (.str "a door sets watches of the machine, each once, and has at most one sign")) AH)) Ak))))
def IJ:AE->Option Out :=
 (AL (Aj (BO (m1 (By "list") (AA 0))) (Cj "BadMachine" (AG (mC (.str "a machine's doors are a list")) AH)) Ak)
 (DR (Bz (AA 0)) (AK 3) Fu))
def G7:List T->Option Ru:=BE 3 4 IJ
abbrev Nk:Fn:=⟨5,["doors","names","watches"],G7⟩
abbrev zan:Gx:=⟨[("WORDS",NL)],[("Door",B5,Bn)],[],[],false,true,true,none,[],[],[],true,[],[("Door",Km)],[],[],[]⟩
abbrev T9:Gm:=⟨["doors","names","watches","door"],(AO MG).names,[],4,[("is_guard",Kg),("are_noughts",Nl),("is_sign",Nd)],["isinstance","list"],["BadMachine"],[],[],false,[],[],[],zan⟩
theorem zaj:FnScope T9.N Nk.ps (AO MG):=BM (by decide +kernel)
theorem zap:Av 200 T9 (Ao MG)=some IJ:=by ext
def Ed(t:Hv):Prop:=(∃a,t=.tup [a])\/∃s e g n z,t=.tup [s,e,g,n,z]/\Dw s/\Dw e/\Ha g/\(De n/\∀l,n=.lst l->l.length<1000)/\De z
def Ba:Hv->T
 |.tup [s,e,g,n,z]=>.obj (.ins B5 Bn) [AD s,AD e,AD g,AD n,AD z]
 |.tup [a]=>AD a
 |_=>.non
def E7:Hv->T
 |.lst l=>.lst (l.map Ba)
 |t=>AD t
theorem Uq{t:Hv}(h:Ed t):(Ba t).sh=true:=by
 rcases h with ⟨a,rfl⟩|⟨s,e,g,n,z,rfl,_⟩
 .exact A5 a
 .show((AD s).sh && ((AD e).sh && ((AD g).sh && ((AD n).sh && ((AD z).sh && true)))))=true;rw[A5,A5,A5,A5,A5]
  rfl
theorem Kz{l:List Hv}(h:∀t∈l,Ed t):A7 (l.map Ba)=true:=by
 rw[Hl,yam];intro t ht;obtain⟨d,hd,rfl⟩:=yat.mp ht;exact Uq (h d hd)
theorem Rh{ws:List W}{t:Hv}{o:Bool}{k:Kd}(h:∀w∈ws,Ok w)(ht:Dw t):GK (AD t) (.nd o k (AF ws))=some (.bl (!Bs ws t)):=by
 have e:=NU (o:=o) (k:=k) h ht;unfold Ce at e;unfold GK;simp only at e ⊢;split at e
 .rename_i hok;rw[if_pos hok];injection e with e
  injection e with e
  rw[e]
 .cases e
theorem isC_H(a:Hv):GY Km (AD a)=some (.bl false):=by cases a<;>rfl
theorem zlt{ws ns:List W}(hw:∀x∈ws,Ok x)(hn:∀x∈ns,Ok x){DS:T}{t:Hv}(h:Ed t):Fu [some DS,some (.lst (AF ns)),some (.lst (AF ws)),some (Ba t)]=if G3 ws ns t then some (.nx [some DS,some (.lst (AF ns)),some (.lst (AF ws)),some (Ba t)]) else some (.xc "BadMachine" [some DS,some (.lst (AF ns)),some (.lst (AF ws)),some (Ba t)]):=by
 rcases h with ⟨a,rfl⟩|⟨s,e,g,n,z,rfl,fs,fe,fg,fn,fz⟩
 .have e:=isC_H a;have s:=A5 a;show Fu [some DS,some (.lst (AF ns)),some (.lst (AF ws)),some (AD a)]=some (.xc "BadMachine" [some DS,some (.lst (AF ns)),some (.lst (AF ws)),some (AD a)]);unfold Fu;generalize AD a=x at *;exact Em (by simp![s,AN _ s,e])
 .have e1:=Rh (o:=false) (k:=.lst) hn fs;have e2:=Rh (o:=false) (k:=.lst) hn fe;have e3:=TK hw JL.1 fg;have e4:=zhq hw fn.1 fn.2;have e5:=zgf fz;have s1:=A5 s;have s2:=A5 e;have s3:=A5 g;have s4:=A5 n;have s5:=A5 z;have ci:GY Km (.obj (.ins B5 Bn) [AD s,AD e,AD g,AD n,AD z])=some (.bl true):=rfl;show Fu [some DS,some (.lst (AF ns)),some (.lst (AF ws)),some (.obj (.ins B5 Bn) [AD s,AD e,AD g,AD n,AD z])]=if Bs ns s && (Bs ns e && (CB ws CN g && (Cm ws n && Eo z))) then some (.nx [some DS,some (.lst (AF ns)),some (.lst (AF ws)),some (.obj (.ins B5 Bn) [AD s,AD e,AD g,AD n,AD z])]) else some (.xc "BadMachine" [some DS,some (.lst (AF ns)),some (.lst (AF ws)),some (.obj (.ins B5 Bn) [AD s,AD e,AD g,AD n,AD z])])
  unfold Fu;generalize AD s=x1 at *;generalize AD e=x2 at *;generalize AD g=x3 at *;generalize AD n=x4 at *;generalize AD z=x5 at *;rw[AZ (τ':=[some DS,some (.lst (AF ns)),some (.lst (AF ws)),some (.obj (.ins B5 Bn) [x1,x2,x3,x4,x5])]) (by simp![ci,s1,s2,s3,s4,s5,AN _ s1,AN _ s2,AN _ s3,AN _ s4,AN _ s5])]
  cases h1:Bs ns s
  .rw[h1]at e1;exact Em (by simp![A2,Aa,e1,s1,AN _ s1])
  .rw[h1]at e1;cases h2:Bs ns e
   .rw[h2]at e2;exact Em (by simp![A2,Aa,e1,e2,s1,AN _ s1,s2,AN _ s2])
   .rw[h2]at e2;rw[AZ (τ':=[some DS,some (.lst (AF ns)),some (.lst (AF ws)),some (.obj (.ins B5 Bn) [x1,x2,x3,x4,x5])]) (by simp![A2,Aa,e1,e2,s1,AN _ s1,s2,AN _ s2])]
    cases h3:CB ws CN g
    .rw[h3]at e3;exact Em (by simp![KY,A2,Aa,e3,s3,AN _ s3])
    .rw[h3]at e3;rw[AZ (τ':=[some DS,some (.lst (AF ns)),some (.lst (AF ws)),some (.obj (.ins B5 Bn) [x1,x2,x3,x4,x5])]) (by simp![KY,A2,Aa,e3,s3,AN _ s3])]
     cases h4:Cm ws n
     .rw[h4]at e4
      simp![A2,Aa,e4,s4,AN _ s4]
     .rw[h4]at e4;cases h5:Eo z
      .rw[h5]at e5
       simp![A2,Aa,e4,s4,AN _ s4,e5,s5,AN _ s5]
      .rw[h5]at e5
       simp![A2,Aa,e4,s4,AN _ s4,e5,s5,AN _ s5]
theorem zlu{ws ns:List W}(hw:∀x∈ws,Ok x)(hn:∀x∈ns,Ok x){d:Hv}(h:∀l,d=.lst l->∀t∈l,Ed t):G7 [E7 d,.lst (AF ns),.lst (AF ws)]=bad (EG ws ns d):=by
 cases d with
 |lst l =>
  have h:=h l rfl;have sd:=Kz h;have ed:=AJ _ sd;obtain⟨y,fo⟩:=N8 (b:=AK 3) (body:=Fu) (c:="BadMachine") Ba (G3 ws ns) (λx=>[some (.lst (l.map Ba)),some (.lst (AF ns)),some (.lst (AF ws)),x]) l none λd hd x=>⟨rfl,zlt hw hn (h d hd)⟩
  show G7 [.lst (l.map Ba),.lst (AF ns),.lst (AF ws)]=bad (l.all (G3 ws ns));unfold G7 IJ bad;generalize l.map Ba=L at *;cases ha:l.all (G3 ws ns)
  .rw[ha]at fo
   simp![A2,Aa,sd,ed,fo]
  .rw[ha]at fo
   simp![A2,Aa,sd,ed,fo]
 |tup l =>
  have s:=AS l;unfold G7 IJ EG bad E7 AD
  simp![s,AJ _ s,A2,Aa]
 |_ =>
  unfold G7 IJ EG bad E7 AD
  simp![A2,Aa]
abbrev Jk:Stmt:=KD 30 0
def Mw:AE->Option Out :=
 (AL (DT B5 Bn 0 0 (AA 1))
 (AL (DT B5 Bn 1 0 (AA 2))
 (AL (DT B5 Bn 2 0 (Ac Du (AG (AA 3) AH)))
 (AL (DT B5 Bn 3 0 (Ac Du (AG (AA 4) AH)))
 (DT B5 Bn 4 0 (AA 5))))))
def HZ:List T->Option Ru:=Ep B5 Bn 6 6 Mw
abbrev UD:Fn:=⟨2,["self","start","end","guard","noughts","sign"],HZ⟩
abbrev zb6:Gx:=⟨[],[],[],[],false,true,true,some (B5,Bn),[],[],[],true,[],[],[],[],[]⟩
abbrev N4:Gm:=⟨["self","start","end","guard","noughts","sign"],(AO Jk).names,[],1,[("own_copy",Na)],[],[],[],[],false,[],[],[],zb6⟩
theorem zb2:FnScope N4.N UD.ps (AO Jk):=BM (by decide +kernel)
theorem zb8:Av 200 N4 (Ao Jk)=some Mw:=by ext
theorem Qw(t:Hv):∃u:T,Du [AD t]=some (.ok u)/\u.share=AD t:=by
 cases t with
 |lst l=>exact⟨.own (AB l),oc_ok _ (AS l),by rw[T.share,AJ _ (AS l)];rfl⟩
 |tup l =>
  have s:=AS l;refine⟨.tup (AB l),?_,by rw[T.share,AJ _ s];rfl⟩
  unfold Du Et AD
  simp![s,AJ _ s]
 |dic =>
  refine⟨.dic [] [],?_,rfl⟩;unfold Du Et AD
  simp![]
 |non =>
  refine⟨.non,?_,rfl⟩;unfold Du Et AD
  simp![]
 |bl b =>
  refine⟨.bl b,?_,rfl⟩;unfold Du Et AD
  simp![]
 |int i =>
  refine⟨.int i,?_,rfl⟩;unfold Du Et AD
  simp![]
 |str w =>
  refine⟨.str (mk w),?_,rfl⟩;unfold Du Et AD
  simp![]
theorem diH(s e g n z:Hv):HZ [AD s,AD e,AD g,AD n,AD z]=some (.ok (Ba (.tup [s,e,g,n,z]))):=by
 obtain⟨u1,o1,p1⟩:=Qw g;obtain⟨u2,o2,p2⟩:=Qw n;have s1:=A5 s;have s2:=A5 e;have s3:=A5 g;have s4:=A5 n;have s5:=A5 z;show HZ [AD s,AD e,AD g,AD n,AD z]=some (.ok (.obj (.ins B5 Bn) [AD s,AD e,AD g,AD n,AD z]));refine GB λp=>?_
 unfold DU Mw;generalize AD s=x1 at *;generalize AD e=x2 at *;generalize AD g=x3 at *;generalize AD n=x4 at *;generalize AD z=x5 at *
 simp![o1,o2,p1,p2,s1,AN _ s1,s2,AN _ s2,s3,AN _ s3,s4,AN _ s4,s5,AN _ s5]
abbrev Jj:Stmt:=KD 31 0
def OX:AE->Option Rs :=
 (AA 0)
def L5:AE->Option Out :=
 (Ht C7 Dd 1 0 (AA 4) (m1 Ey (AA 5)))
def F7:AE->Option Out :=
 (AL (FZ (Ac FO (AG (AA 1) AH)))
 (AL (FZ (Ac Iv (AG (AA 2) (AG (AA 1) AH))))
 (AL (FZ (Ac G7 (AG (AA 3) (AG (Bx 2 [] (Bz (AA 2)) (Ct 2 (BW (AK 0) (BW (AK 1) DL))) (mC (.bl true)) OX) (AG (AA 1) AH)))))
 (AL (Aj (Br (m2 (C6 λi j=>decide (j<i)) (m1 BP (AA 2)) (mC IQ)) (m2 (C6 λi j=>decide (j<i)) (m1 BP (AA 3)) (mC IS))) (Cj "TooMany" (AG (mC (.str "a machine has at most 64 rooms and at most 200 doors")) AH)) Ak)
 (AL (DT C7 Dd 0 0 (m1 Ey (AA 1)))
 (AL (DT C7 Dd 1 0 KS)
 (AL (DR (Bz (AA 2)) (Ct 2 (BW (AK 4) (BW (AK 5) DL))) L5)
 (DT C7 Dd 2 0 (m1 Ey (AA 3))))))))))
def G8:List T->Option Ru:=Ep C7 Dd 4 6 F7
abbrev UB:Fn:=⟨6,["self","watches","rooms","doors"],G8⟩
abbrev zae:Gx:=⟨[("MOST_ROOMS",IQ),("MOST_DOORS",IS)],[],[],[],false,true,true,some (C7,Dd),[],[],[],true,[],[],[],[],[]⟩
abbrev N2:Gm:=⟨["self","watches","rooms","doors","name","stay"],(AO Jj).names,[],5,[("check_watches",Ni),("check_rooms",Nj),("check_doors",Nk)],["len","list"],["TooMany"],[],[],false,[],[],[],zae⟩
theorem zaa:FnScope N2.N UB.ps (AO Jj):=BM (by decide +kernel)
theorem zag:Av 200 N2 (Ao Jj)=some F7:=by ext
def O7(v:Vh)(r:Option Ru):Prop:=match v with
 |.read=>∃t:T,r=some (.ok t)
 |.bad=>r=some (.exc "BadMachine")
 |.many=>r=some (.exc "TooMany")
def JJ(d:Hv):Prop:=∀l,d=.lst l->∀t∈l,Ed t
theorem Uo{d:Hv}(h:JJ d):(E7 d).sh=true:=by
 cases d with
 |lst l=>exact(by rw[E7,T.sh,Kz (h l rfl)];rfl)
 |tup l=>exact A5 (.tup l)
 |_=>rfl
theorem Ow{w:Hv}(h:CV w=true):w=.lst ((Ef w).map Hv.str):=by
 cases w with
 |lst l =>
  rw[CV,ya1,ya1]at h;exact congrArg Hv.lst (J8 Bd L4 l h.2.1)
 |_=>cases h
theorem wl_ok{w:Hv}(h:CV w=true)(hw:De w):∀x∈Ef w,Ok x:=λx hx=>by
 rw[Ow h]at hw;exact K5 hw (.str x) (ybi hx)
theorem Up(l:List Hv):E7 (.lst l)=.lst (l.map Ba):=rfl
theorem zkt{w r d:Hv}(hw:De w)(hr:Ip r)(hd:JJ d):O7 (CP w r d) (G8 [AD w,AD r,E7 d]):=by
 have cw:=zln hw;have s1:=A5 w;have s2:=A5 r;have s3:=Uo hd;unfold CP;unfold bad at cw;cases h1:CV w
 .rw[h1]at cw;refine GB λp=>?_
  unfold DU F7;generalize AD w=x at *
  simp![s1,AN _ s1,cw]
 .rw[h1]at cw;have how:=wl_ok h1 hw;have ew:AD w=.lst (AF (Ef w)):=by rw[congrArg AD (Ow h1),AD,Co]
  rw[ew]at cw;rw[ew];generalize Ef w=ws at *;have cr:=zlp how hr;unfold bad at cr;cases h2:DC ws r
  .rw[h2]at cr;refine GB λp=>?_
   unfold DU F7;generalize AD r=y at *
   simp![A2,Aa,cw,s2,AN _ s2,cr]
  .rw[h2]at cr;cases r with
   |lst l =>
    obtain⟨hl,hk⟩:=hr l rfl;rw[DC,ya1,ya1]at h2;obtain⟨_,hp,hu⟩:=h2;have hp:=yam.mp hp;have er:∀t∈l,AD t=.tup [.str (mk (A6 t)),.lst (AB (DB t))]:=λt ht=>congrArg AD (Qj (hp t ht))
    have hon:∀x∈l.map A6,Ok x:=λx hx=>by
     obtain⟨t,ht,rfl⟩:=yat.mp hx;exact(hk t ht _ _ (Qj (hp t ht))).1
    have cd:=zlu (ns:=l.map A6) how hon hd;unfold bad at cd;have sr:=AS l;have er2:=AJ _ sr
    have lc:=E3 (b:=Ct 2 (BW (AK 0) (BW (AK 1) DL))) (me:=OX) AD (λr=>T.str (mk (A6 r))) (λτ=>∃x y,τ=[x,y]) l [none,none] ⟨none,none,rfl⟩ λr hr τ hI=>by
     obtain⟨x,y,rfl⟩:=hI;refine⟨[some (.str (mk (A6 r))),some (.lst (AB (DB r)))],by rw[er r hr];simp![],?_,_,_,rfl⟩
     unfold OX
     simp![]
    rw[<- BV,show(l.map λr=>T.str (mk (A6 r)))=AF (l.map A6) by rw[Cf,yc0];rfl]at lc
    have ll:(AB l).length<=100000:=by rw[Aw];omega
    have l1:=Aw l;have lm:l.length<=100000:=by omega
    have z:AD (.lst l)=.lst (AB l):=rfl;rw[z]at cr;rw[z];show O7 (if EG ws (l.map A6) d then (if 64<l.length\/200<NB d then .many else .read) else .bad) _
    cases h3:EG ws (l.map A6) d
    .rw[h3]at cd;refine GB λp=>?_
     unfold DU F7;generalize E7 d=y at *;generalize AB l=L at *
     simp![A2,Aa,cw,sr,er2,cr,s3,AN _ s3,lc,ll,cd]
    .rw[h3]at cd;cases d with
     |lst q =>
      have l2:((q.map Ba).length:Int)=(q.length:Int):=by rw[ya5]
      have sd:=Kz (hd q rfl);have ed:=AJ _ sd;rw[Up]at cd;rw[Up];show O7 (if 64<l.length\/200<q.length then .many else .read) _
      by_cases h64:64<l.length
      .rw[if_pos (.inl h64)];have g1:decide ((64:Int)<(l.length:Int))=true:=yer (by omega)
       refine GB λp=>?_
       unfold DU F7 IQ IS;generalize q.map Ba=Q at *;generalize AB l=L at *
       simp![A2,Aa,cw,sr,er2,cr,sd,ed,lc,lm,cd,l1,l2,g1]
      .have g1:decide ((64:Int)<(l.length:Int))=false:=ye8 (by omega)
       by_cases h200:200<q.length
       .rw[if_pos (.inr h200)];have g2:decide ((200:Int)<(q.length:Int))=true:=yer (by omega)
        refine GB λp=>?_
        unfold DU F7 IQ IS;generalize q.map Ba=Q at *;generalize AB l=L at *
        simp![A2,Aa,cw,sr,er2,cr,sd,ed,lc,lm,cd,l1,l2,g1,g2]
       .have g2:decide ((200:Int)<(q.length:Int))=false:=ye8 (by omega)
        rw[if_neg λz=>z.elim h64 h200]
        have hnd:(l.map A6).Nodup:=yf2 hu;refine⟨.obj (.ins C7 Dd) [.lst (AF ws),.obj (.sdc (l.map λr=>mk (A6 r))) (l.map λr=>.lst (AB (DB r))),.lst (q.map Ba)],GB λp=>?_⟩
        obtain⟨τ,e,x,y,rfl⟩:=G0 (b:=Ct 2 (BW (AK 4) (BW (AK 5) DL))) (body:=L5) (ts:=AB l) (τ:=[some (.oob p C7 Dd [.own (AF ws),.osd [] []]),some (.lst (AF ws)),some (.lst (AB l)),some (.lst (q.map Ba)),none,none])
         (λi τ=>∃x y,τ=[some (.oob p C7 Dd [.own (AF ws),.osd ((l.take i).map λr=>mk (A6 r)) ((l.take i).map λr=>.lst (AB (DB r)))]),some (.lst (AF ws)),some (.lst (AB l)),some (.lst (q.map Ba)),x,y]) ⟨none,none,by rw[List.take_zero];rfl⟩ λi t τ h1 h2=>by
         obtain⟨x,y,rfl⟩:=h2;rw[BV]at h1;have hi:i<l.length:=by simpa using (ya8.mp h1).1
         rw[ya7,ya0 hi]at h1;have et:t=AD l[i]:=(yb0 h1).symm;subst et;have k1:=AS (DB l[i])
         have hno:mk (A6 l[i])∉(l.take i).map λr=>mk (A6 r):=λhm=>by
          obtain⟨r,hr,e⟩:=yat.mp hm;obtain⟨j,hj,ej⟩:=ycl.mp hr;rw[yb2]at hj;rw[List.getElem_take]at ej;have e2:(l.map A6)[j]'(by rw[ya5];omega)=(l.map A6)[i]'(by rw[ya5];exact hi):=by rw[ydg,ydg,ej];exact Jz e
          have:=(ye6 hnd).mp e2
          omega
         have hlen:((l.take i).map λr=>mk (A6 r)).length<100000:=by
          rw[ya5,yb2]
          omega
         have et2:l.take (i+1)=l.take i++[l[i]]:=by rw[List.take_append_getElem]
         refine⟨[some (.oob p C7 Dd [.own (AF ws),.osd ((l.take i).map λr=>mk (A6 r)) ((l.take i).map λr=>.lst (AB (DB r)))]),some (.lst (AF ws)),some (.lst (AB l)),some (.lst (q.map Ba)),some (.str (mk (A6 l[i]))),some (.lst (AB (DB l[i])))],by rw[er l[i] (yb3 hi)];simp![],[some (.oob p C7 Dd [.own (AF ws),.osd ((l.take (i+1)).map λr=>mk (A6 r)) ((l.take (i+1)).map λr=>.lst (AB (DB r)))]),some (.lst (AF ws)),some (.lst (AB l)),some (.lst (q.map Ba)),some (.str (mk (A6 l[i]))),some (.lst (AB (DB l[i])))],?_,_,_,rfl⟩
         rw[et2,yb9,yb9,List.map_singleton,List.map_singleton];unfold L5;generalize AB (DB l[i])=Z at *;generalize mk (A6 l[i])=X at *;generalize ((l.take i).map λr=>mk (A6 r))=K at *
         simp![k1,AJ _ k1,hno,hlen]
        rw[l1,List.take_length]at e
        have es:A7 (l.map λr=>T.lst (AB (DB r)))=true:=by
         rw[Hl,yam];intro t ht;obtain⟨r,_,rfl⟩:=yat.mp ht;show((!false) && A7 (AB (DB r)))=true;rw[AS]
         rfl
        unfold DU F7 IQ IS;generalize (l.map λr=>T.lst (AB (DB r)))=V at *
        generalize q.map Ba=Q at *;generalize AB l=L at *
        simp![A2,Aa,cw,sr,er2,cr,sd,ed,lc,lm,cd,l1,l2,g1,g2,e,AJ _ es]
     |_=>cases h3
   |_=>cases h2
abbrev MQ:Stmt:=A9 42
def JP:AE->Option Out :=
 (AL (AX (m2 Ai (m2 Ap (AA 0) (mC (.int 6720))) (m2 EB (AA 8) (m2 Ai (mC (.int 1)) (m2 A8 (AA 0) (mC (.int 25)))))) (AK 9))
 (AL (Aj (m2 BH (AA 8) (AA 4)) (AX (m2 Ai (AA 9) (m2 A8 (AA 6) (mC (.int 26)))) (AK 9)) Ak)
 (AL (Aj (m2 BH (AA 8) (m2 A8 (m2 Ai (AA 4) (mC (.int 1))) (AA 3))) (AX (m2 Ai (AA 9) (m2 Ap (AA 6) (mC (.int 26)))) (AK 9)) Ak)
 (AX (m2 Ai (AA 7) (AW (AA 2) (m2 A8 (AA 9) (mC (.int 26))))) (AK 7)))))
def JQ:AE->Option Out :=
 (AL (AX (mC (.str "")) (AK 7))
 (AL (DR (Dp (AG (AA 3) AH)) (AK 8) JP)
 (EU 5 (AA 7))))
def Mt:AE->Option Out :=
 (AL (AX (mC (.str "abcdefghijklmnopqrstuvwxyz")) (AK 2))
 (AL (AX (m2 Ai (mC (.int 2)) (m2 A8 (AA 0) (mC (.int 7)))) (AK 3))
 (AL (AX (m2 A8 (m2 A8 (m2 Ap (AA 0) (mC (.int 7))) (mC (.int 840))) (AA 3)) (AK 4))
 (AL (ET 5 (A4 AH))
 (AL (DR (Dp (AG (AA 1) AH)) (AK 6) JQ)
 (Ab (AA 5)))))))
def Iy:List T->Option Ru:=BE 2 10 Mt
abbrev Nt:Fn:=⟨1,["_law_cell","_law_many"],Iy⟩
abbrev Tn:Gm:=⟨["_law_cell","_law_many","_law_letters","_law_size","_law_at","_law_names_here","_law_k","_law_name","_law_j","_law_sign"],(AO MQ).names,[],0,[],["range"],[],["_law_names_here"],[],false,[],[],[],Bm⟩
theorem zcv:FnScope Tn.N Nt.ps (AO MQ):=BM (by decide +kernel)
theorem zdm:Av 200 Tn (Ao MQ)=some Mt:=by ext
structure Nms(f:Nat->W):Prop where
 ab:∀k,∀c∈f k,97<=c/\c<=122
 l2:∀k,2<=(f k).length/\(f k).length<=8
 un:∀j k,j<66->k<66->f j=f k->j=k
abbrev NS(f:Nat->W):List W:=(List.range 66).map f
abbrev Bc(c:Int):Int:=2+c.fmod 7
abbrev CD(c:Int):Int:=((c.fdiv 7).fmod 840).fmod (Bc c)
def Gj(c:Int)(j:Nat):Int:=c.fdiv 6720+(j:Int) * (1+c.fmod 25)
def Hn(c:Int)(k j:Nat):Int:=if ((j:Int) == CD c)=true then Gj c j+(k:Int).fmod 26 else Gj c j
def ES(c:Int)(k j:Nat):Int:=if ((j:Int) == (CD c+1).fmod (Bc c))=true then Hn c k j+(k:Int).fdiv 26 else Hn c k j
def Dj(c:Int)(k j:Nat):Nat:=97+((ES c k j).fmod 26).toNat
def DI(c:Int):Nat:=(Bc c).toNat
def CI(c:Int)(k n:Nat):W:=(List.range n).map (Dj c k)
theorem IG(c:Int):2<=DI c/\DI c<=8/\Bc c=(DI c:Int):=by
 unfold DI Bc;rw[fm (by decide)]
 omega
theorem Hm(c:Int)(k j:Nat):0<=(ES c k j).fmod 26/\(ES c k j).fmod 26<26:=by
 rw[fm (j:=26) (by decide)]
 omega
theorem abc:(Str.ofString "abcdefghijklmnopqrstuvwxyz").cps.toList=(List.range 26).map (97 + ·):=by decide +kernel
theorem zm2{i:Int}(h0:0<=i)(h1:i<26):Ah (Str.ofString "abcdefghijklmnopqrstuvwxyz").cps.toList i=some (97+i.toNat):=by
 rw[abc];refine BL h0 ?_;rw[ya7,ybh (by omega)]
 rfl
theorem zis:(Str.ofString "abcdefghijklmnopqrstuvwxyz").length<=100000:=by decide +kernel
theorem zht(c:Int)(k n:Nat):mk (CI c k n)++⟨#[Dj c k n]⟩=mk (CI c k (n+1)):=by
 show Str.mk (((List.range n).map (Dj c k)).toArray++#[Dj c k n])=Str.mk ((List.range (n+1)).map (Dj c k)).toArray;rw[List.range_succ,yb9];simp
theorem zhs(c:Int)(k n:Nat):(mk (CI c k n)).length=n:=by
 show((List.range n).map (Dj c k)).toArray.size=n;simp
abbrev nT(c:Int)(o:Option T)(k:Nat)(n:T)(j:Option T)(x9:Option T):AE:=[some (.int c),some (.int 66),some (.str "abcdefghijklmnopqrstuvwxyz"),some (.int (Bc c)),some (.int (CD c)),o,some (.int k),some n,j,x9]
theorem w7_ok{c:Int}{k i:Nat}(hi:i<8)(hk:k<66){o x9:Option T}:JP (nT c o k (.str (mk (CI c k i))) (some (.int i)) x9)=some (.nx (nT c o k (.str (mk (CI c k (i+1)))) (some (.int i)) (some (.int (ES c k i))))):=by
 have m1:GN (i:Int) (1+c.fmod 25)=true:=Mn (Jm (by omega) (by omega))
 have t1:BN 6720=true:=Bg (by decide) (by decide)
 have t2:BN 26=true:=Bg (by decide) (by decide)
 have ea:Ah (Str.ofString "abcdefghijklmnopqrstuvwxyz").cps.toList ((ES c k i).fmod 26)=some (Dj c k i):=zm2 (Hm c k i).1 (Hm c k i).2
 have el:(mk (CI c k i)).length+(Str.mk #[Dj c k i]).length<=100000:=by
  rw[zhs];show i+1<=100000
  omega
 have h0:(Bc c≠0)=True:=yf8 (by have:=IG c;omega)
 have h0':(Bc c=0)=False:=yfb (by have:=IG c;omega)
 have ep:=zht c k i;unfold JP;rw[AZ (τ':=nT c o k (.str (mk (CI c k i))) (some (.int i)) (some (.int (Gj c i)))) (by unfold Gj;simp![m1,t1])]
 rw[AZ (τ':=nT c o k (.str (mk (CI c k i))) (some (.int i)) (some (.int (Hn c k i)))) (by
  unfold Hn;cases hb:((i:Int) == CD c)
  .simp![As,hb]
  .simp![As,hb])]
 rw[AZ (τ':=nT c o k (.str (mk (CI c k i))) (some (.int i)) (some (.int (ES c k i)))) (by
  unfold ES;cases hb:((i:Int) == (CD c+1).fmod (Bc c))
  .simp![As,hb,h0,h0']
  .simp![As,hb,t2,h0,h0'])]
 generalize mk (CI c k i)=A at *
 simp![ea,zis,el,ep]
theorem w5_ok{c:Int}{k:Nat}(hk:k<66){l:List T}(hl:l.length<1000){x7 x8 x9:Option T}:∃y8 y9,JQ [some (.int c),some (.int 66),some (.str "abcdefghijklmnopqrstuvwxyz"),some (.int (Bc c)),some (.int (CD c)),some (.own l),some (.int k),x7,x8,x9]=some (.nx (nT c (some (.own (l++[.str (mk (CI c k (DI c)))]))) k (.str (mk (CI c k (DI c)))) y8 y9)):=by
 obtain⟨n1,n8,ne⟩:=IG c
 obtain⟨τ,e,z8,z9,rfl⟩:=G0 (b:=AK 8) (body:=JP) (ts:=mT (DI c) λi=>.int (i:Int)) (τ:=nT c (some (.own l)) k (.str "") x8 x9)
  (λi τ=>∃x8 x9,τ=nT c (some (.own l)) k (.str (mk (CI c k i))) x8 x9) ⟨x8,x9,by rfl⟩ λi t τ h1 h2=>by
   obtain⟨hi,rfl⟩:=IK h1;obtain⟨x8,x9,rfl⟩:=h2;exact⟨_,by simp![],_,w7_ok (by omega) hk (x9:=x9),_,_,rfl⟩
 rw[EZ]at e;have ok:GH (Bc c)=true:=@decide_eq_true _ (Classical.propDecidable _) ⟨by omega,by omega⟩
 have er:Dy 0 (Bc c).toNat=mT (DI c) λi=>.int (i:Int):=Hx
 have ll:l.length<100000:=by omega
 unfold JQ;refine⟨z8,z9,?_⟩
 simp![ok,er,e,ll]
theorem zf5(c:Int):Iy [.int c,.int 66]=some (.ok (.own (mT 66 λk=>.str (mk (CI c k (DI c)))))):=by
 obtain⟨n1,n8,ne⟩:=IG c
 obtain⟨τ,e,z6,z7,z8,z9,rfl⟩:=G0 (b:=AK 6) (body:=JQ) (ts:=mT 66 λi=>.int (i:Int)) (τ:=[some (.int c),some (.int 66),some (.str "abcdefghijklmnopqrstuvwxyz"),some (.int (Bc c)),some (.int (CD c)),some (.own []),none,none,none,none])
  (λi τ=>∃x6 x7 x8 x9,τ=[some (.int c),some (.int 66),some (.str "abcdefghijklmnopqrstuvwxyz"),some (.int (Bc c)),some (.int (CD c)),some (.own (mT i λk=>.str (mk (CI c k (DI c))))),x6,x7,x8,x9]) ⟨_,_,_,_,by rfl⟩ λi t τ h1 h2=>by
   obtain⟨hi,rfl⟩:=IK h1;obtain⟨x6,x7,x8,x9,rfl⟩:=h2;obtain⟨y8,y9,ew⟩:=w5_ok (c:=c) (k:=i) (by omega) (l:=mT i λk=>.str (mk (CI c k (DI c)))) (by rw[EZ];omega) (x7:=x7) (x8:=x8) (x9:=x9)
   rw[zkx (g:=λk=>.str (mk (CI c k (DI c))))]at ew
   exact⟨_,by simp![],_,ew,_,_,_,_,rfl⟩
 rw[EZ]at e;have ok:GH 66=true:=@decide_eq_true _ (Classical.propDecidable _) ⟨by decide,by decide⟩
 have er:Dy 0 (66:Int).toNat=mT 66 λi=>.int (i:Int):=Hx
 have h0:(Bc c≠0)=True:=yf8 (by omega)
 have h0':(Bc c=0)=False:=yfb (by omega)
 have t1:BN 7=true:=Bg (by decide) (by decide)
 unfold Iy Mt
 simp![ok,er,e,h0,h0',t1]
theorem zkp(c:Int):Nms λk=>CI c k (DI c):=by
 obtain⟨n1,n8,ne⟩:=IG c;refine⟨λk s hs=>?_,λk=>?_,λj k hj hk h=>?_⟩
 .obtain⟨j,_,rfl⟩:=yat.mp hs;have:=Hm c k j;unfold Dj
  omega
 .rw[CI,ya5,ybg];exact⟨n1,n8⟩
 .have ha:0<=CD c/\CD c<Bc c:=by
   unfold CD;rw[fm (j:=Bc c) (by omega)]
   exact⟨Int.emod_nonneg _ (by omega),ye0 _ (by omega)⟩
  have hb:0<=(CD c+1).fmod (Bc c)/\(CD c+1).fmod (Bc c)<Bc c/\(CD c+1).fmod (Bc c)≠CD c:=by
   rw[fm (j:=Bc c) (by omega)]
   refine⟨Int.emod_nonneg _ (by omega),ye0 _ (by omega),λz=>?_⟩
   by_cases h1:CD c+1<Bc c
   .rw[Int.emod_eq_of_lt (by omega) h1]at z
    omega
   .have:CD c+1=Bc c:=by omega
    rw[this,Int.emod_self]at z
    omega
  have e:∀a:Nat,a<DI c->(ES c j a).fmod 26=(ES c k a).fmod 26:=λa ha=>by
   have e1:=congrArg (λl:List Nat=>l[a]?) h
   simp only[CI,ya7,ybh ha]at e1;have e2:Dj c j a=Dj c k a:=yb0 e1;have s1:=Hm c j a;have s2:=Hm c k a;unfold Dj at e2
   omega
  obtain⟨a,ea⟩:=yar ha.1;obtain⟨b,eb⟩:=yar hb.1;have e1:=e a (by omega)
  have e2:=e b (by omega)
  have c1:((a:Int) == CD c)=true:=by rw[ea];exact yf0 _
  have c2:((a:Int) == (CD c+1).fmod (Bc c))=false:=by rw[yfa];omega
  have c3:((b:Int) == CD c)=false:=by rw[yfa];omega
  have c4:((b:Int) == (CD c+1).fmod (Bc c))=true:=by rw[eb];exact yf0 _
  simp only[ES,Hn,c1,c2,c3,c4,yeo,ybz,yep]at e1 e2;generalize Gj c a=A at e1;generalize Gj c b=B at e2;rw[fm (j:=26) (by decide),fm (j:=26) (by decide),fm (j:=26) (by decide),fm (j:=26) (by decide)]at e1
  rw[fm (j:=26) (by decide),fm (j:=26) (by decide),yco _ (by decide),yco _ (by decide)]at e2
  omega
theorem nm_ex(c:Int):∃f,Nms f/\Iy [.int c,.int 66]=some (.ok (.own (AF (NS f)))):=by
 refine⟨_,zkp c,?_⟩;rw[zf5,NS,Cf,yc0]
 rfl
abbrev MV:Stmt:=A9 40
def Fv:AE->Option Out :=
 (Aj (m2 BH (m1 BP (AA 2)) (mC (.int 1))) (EU 1 (AW (AA 2) (mC (.int 0)))) (EU 1 (GS HZ [] (AG (AW (AA 2) (mC (.int 0))) (AG (AW (AA 2) (mC (.int 1))) (AG (AW (AA 2) (mC (.int 2))) (AG (AW (AA 2) (mC (.int 3))) (AG (AW (AA 2) (mC (.int 4))) AH))))))))
def Ew:AE->Option Out :=
 (AL (Aj (BO (m1 (By "list") (AA 0))) (Ab (AA 0)) Ak)
 (AL (ET 1 (A4 AH))
 (AL (DR (Bz (AA 0)) (AK 2) Fv)
 (Ab (AA 1)))))
def Eb:List T->Option Ru:=BE 1 3 Ew
abbrev Nx:Fn:=⟨4,["_law_doors"],Eb⟩
abbrev zdh:Gx:=⟨[],[],[],[("Door",UD,[(5,[])])],false,true,true,none,[],[],[],true,[],[],[],[],[]⟩
abbrev Ts:Gm:=⟨["_law_doors","_law_found","_law_one"],(AO MV).names,[],3,[],["isinstance","list","len"],[],["_law_found"],[],false,[],[],[],zdh⟩
theorem zcx:FnScope Ts.N Nx.ps (AO MV):=BM (by decide +kernel)
theorem zdo:Av 200 Ts (Ao MV)=some Ew:=by ext
theorem bu_w{l0 L:List T}{x:Hv}(h:Ed x)(hl:L.length<1000):Fv [some (.lst l0),some (.own L),some (AD x)]=some (.nx [some (.lst l0),some (.own (L++[Ba x])),some (AD x)]):=by
 have l1:L.length<100000:=by omega
 rcases h with ⟨a,rfl⟩|⟨s,e,g,n,z,rfl,_⟩
 .have s:=A5 a;have a1:=E8 (AD a) [];show Fv [some (.lst l0),some (.own L),some (.tup [AD a])]=some (.nx [some (.lst l0),some (.own (L++[AD a])),some (.tup [AD a])]);unfold Fv;generalize AD a=x at *
  simp![As,s,AN _ s,a1,l1]
 .have d:=diH s e g n z;have s1:=A5 s;have s2:=A5 e;have s3:=A5 g;have s4:=A5 n;have s5:=A5 z;have a1:=E8 (AD s) [AD e,AD g,AD n,AD z];have a2:=HW (AD s) (AD e) [AD g,AD n,AD z];have a3:=Ij (AD s) (AD e) (AD g) [AD n,AD z];have a4:Ah [AD s,AD e,AD g,AD n,AD z] 3=some (AD n):=BL (by decide) rfl
  have a5:Ah [AD s,AD e,AD g,AD n,AD z] 4=some (AD z):=BL (by decide) rfl
  have sb:=Uq (t:=.tup [s,e,g,n,z]) (.inr ⟨s,e,g,n,z,rfl,‹_›⟩);generalize eb:Ba (.tup [s,e,g,n,z])=B at *;show Fv [some (.lst l0),some (.own L),some (.tup [AD s,AD e,AD g,AD n,AD z])]=some (.nx [some (.lst l0),some (.own (L++[B])),some (.tup [AD s,AD e,AD g,AD n,AD z])]);unfold Fv;generalize AD s=x1 at *;generalize AD e=x2 at *;generalize AD g=x3 at *;generalize AD n=x4 at *;generalize AD z=x5 at *
  simp![As,d,s1,AN _ s1,s2,AN _ s2,s3,AN _ s3,s4,AN _ s4,s5,AN _ s5,a1,a2,a3,a4,a5,l1,sb,AN _ sb]
theorem zlv{d:Hv}(h:JJ d)(hl:∀l,d=.lst l->l.length<1000):∃u:T,Eb [AD d]=some (.ok u)/\u.share=E7 d:=by
 cases d with
 |lst l =>
  have hl:=hl l rfl;have h:=h l rfl;have s:=AS l;have sb:=Kz h;refine⟨.own (l.map Ba),?_,by rw[T.share,AJ _ sb];rfl⟩
  obtain⟨τ,e,x,rfl⟩:=G0 (b:=AK 2) (body:=Fv) (ts:=AB l) (τ:=[some (.lst (AB l)),some (.own []),none])
   (λi τ=>∃x,τ=[some (.lst (AB l)),some (.own ((l.take i).map Ba)),x]) ⟨none,by rw[List.take_zero];rfl⟩ λi t τ h1 h2=>by
   obtain⟨x,rfl⟩:=h2;rw[BV]at h1;have hi:i<l.length:=by simpa using (ya8.mp h1).1
   rw[ya7,ya0 hi]at h1;have et:t=AD l[i]:=(yb0 h1).symm;subst et;have et2:l.take (i+1)=l.take i++[l[i]]:=by rw[List.take_append_getElem]
   have w:=bu_w (l0:=AB l) (L:=(l.take i).map Ba) (h l[i] (yb3 hi)) (by rw[ya5,yb2];omega)
   refine⟨[some (.lst (AB l)),some (.own ((l.take i).map Ba)),some (AD l[i])],rfl,_,w,some (AD l[i]),?_⟩;rw[et2,yb9]
   rfl
  rw[Aw,List.take_length]at e;unfold Eb Ew AD;generalize l.map Ba=B at *;generalize AB l=L at *
  simp![s,AJ _ s,e,sb,AJ _ sb]
 |tup l =>
  have s:=AS l;refine⟨.tup (AB l),?_,by rw[T.share,AJ _ s];rfl⟩
  unfold Eb Ew AD
  simp![s,AJ _ s]
 |dic =>
  refine⟨.dic [] [],?_,rfl⟩;unfold Eb Ew AD
  simp![]
 |non =>
  refine⟨.non,?_,rfl⟩;unfold Eb Ew AD
  simp![]
 |bl b =>
  refine⟨.bl b,?_,rfl⟩;unfold Eb Ew AD
  simp![]
 |int i =>
  refine⟨.int i,?_,rfl⟩;unfold Eb Ew AD
  simp![]
 |str w =>
  refine⟨.str (mk w),?_,rfl⟩;unfold Eb Ew AD
  simp![]
abbrev MR:Stmt:=A9 41
def KP:AE->Option Out :=
 (AL (AX (mC (.str "made")) (AK 1))
 (AL (AX (Ac Eb (AG (AW (AA 0) (mC (.int 2))) AH)) (AK 2))
 (AL (Gk 3 JK (FZ (GS G8 [] (AG (AW (AA 0) (mC (.int 0))) (AG (AW (AA 0) (mC (.int 1))) (AG (AA 2) AH))))) (AX (Ac Iw (AG (AA 3) AH)) (AK 1)))
 (Ab (AA 1)))))
def Iz:List T->Option Ru:=BE 1 4 KP
abbrev Nu:Fn:=⟨8,["_law_parts"],Iz⟩
abbrev zfh:Gx:=⟨[],[],[],[("Machine",UB,[(3,[])])],false,true,true,none,[("WalkError",JK)],[],[],true,[],[],[],[],[("_law_word",UC)]⟩
abbrev To:Gm:=⟨["_law_parts","_law_word_here","_law_doors","_law_e"],(AO MR).names,[],7,[("_law_built",Nx)],[],[],[],[],false,[],[],[],zfh⟩
theorem zeb:FnScope To.N Nu.ps (AO MR):=BM (by decide +kernel)
theorem zfp:Av 200 To (Ao MR)=some KP:=by ext
def Eh:Vh->Str
 |.read=>"made"
 |.bad=>"bad"
 |.many=>"many"
theorem SN{w r d:Hv}(hw:De w)(hr:Ip r)(hd:JJ d)(hl:∀l,d=.lst l->l.length<1000):Iz [.lst [AD w,AD r,AD d]]=some (.ok (.str (Eh (CP w r d)))):=by
 obtain⟨u,e1,e2⟩:=zlv hd hl;have e3:=zkt hw hr hd;have s1:=A5 w;have s2:=A5 r;have s3:=A5 d;have s4:=Uo hd;have a1:=E8 (AD w) [AD r,AD d];have a2:=HW (AD w) (AD r) [AD d];have a3:=Ij (AD w) (AD r) (AD d) [];have x1:JK.lookup (Str.ofString "BadMachine")=some 56:=rfl;have x2:JK.lookup (Str.ofString "TooMany")=some 68:=rfl;show Ay (KP [some (.lst [AD w,AD r,AD d]),none,none,none])=_;unfold KP;generalize AD w=y1 at *;generalize AD r=y2 at *;generalize AD d=y3 at *;generalize E7 d=y4 at *;rw[AZ (τ':=[some (.lst [y1,y2,y3]),some (.str "made"),none,none]) (by simp![])]
 rw[AZ (τ':=[some (.lst [y1,y2,y3]),some (.str "made"),some y4,none]) (by simp![s1,s2,s3,AN _ s1,AN _ s2,AN _ s3,a3,e1,e2])]
 cases hv:CP w r d
 .rw[hv]at e3;obtain⟨t,e3⟩:=e3
  simp![s1,s2,s3,s4,AN _ s1,AN _ s2,AN _ s3,AN _ s4,a1,a2,e3,Ay,Eh]
 .rw[hv]at e3
  replace e3:G8 [y1,y2,y4]=some (.exc "BadMachine"):=e3
  simp![s1,s2,s3,s4,AN _ s1,AN _ s2,AN _ s3,AN _ s4,a1,a2,e3,x1,ze1,Ay,Eh]
 .rw[hv]at e3
  replace e3:G8 [y1,y2,y4]=some (.exc "TooMany"):=e3
  simp![s1,s2,s3,s4,AN _ s1,AN _ s2,AN _ s3,AN _ s4,a1,a2,e3,x2,zck,Ay,Eh]
abbrev MO:Stmt:=A9 44
def KN:AE->Option Out :=
 (AL (AX (AW (mC (.str "AZ09 _-.!?<=>:;")) (m2 A8 (m2 Ap (AA 0) (mC (.int 8))) (mC (.int 15)))) (AK 2))
 (AL (AX (m2 A8 (m2 Ap (AA 0) (mC (.int 120))) (m2 Ai (m1 BP (AW (AA 1) (mC (.int 0)))) (mC (.int 1)))) (AK 3))
 (AL (AX (A4 (AI (mC (.str "")) (AI (m2 Ai (m2 Ai (Bl (Bk (AW (AA 1) (mC (.int 0))) none (some (AA 3))) (Bq (AW (AA 1) (mC (.int 0))) none (some (AA 3)))) (AA 2)) (Bl (Bk (AW (AA 1) (mC (.int 0))) (some (AA 3)) none) (Bq (AW (AA 1) (mC (.int 0))) (some (AA 3)) none))) (AI (mC .non) (AI (mC (.int 5)) (AI (A4 (AI (mC (.str "a")) AH)) (AI (F8 (AW (AA 1) (mC (.int 0)))) (AI (mC (.str "abcdefghi")) (AI (m2 Ai (AW (AA 1) (mC (.int 0))) (mC (.str "\n"))) AH))))))))) (AK 4))
 (Ab (AW (AA 4) (m2 A8 (AA 0) (mC (.int 8))))))))
def LN:List T->Option Ru:=BE 2 5 KN
abbrev Kh:Fn:=⟨1,["_law_cell","_law_names_here"],LN⟩
abbrev Ti:Gm:=⟨["_law_cell","_law_names_here","_law_sign","_law_at","_law_some"],(AO MO).names,[],0,[],["len"],[],[],[],false,[],[],[],Bm⟩
theorem zbf:FnScope Ti.N Kh.ps (AO MO):=BM (by decide +kernel)
theorem zbs:Av 200 Ti (Ao MO)=some KN:=by ext
inductive Sm:Nat->Hv->Prop
 |non {n:Nat}:Sm n .non
 |bl {n:Nat} {b:Bool}:Sm n (.bl b)
 |int {n:Nat} {i:Int}:Sm n (.int i)
 |str {n:Nat} {w:W} (h:Ok w):Sm n (.str w)
 |lst {n:Nat} {l:List Hv} (h:∀x∈l,Sm n x):Sm (n+1) (.lst l)
 |tup {n:Nat} {l:List Hv} (h:∀x∈l,Sm n x):Sm (n+1) (.tup l)
theorem Sm.mono{n:Nat}{t:Hv}(h:Sm n t):∀{m:Nat},n<=m->Sm m t:=by
 induction h with
 |non=>exact λ_=>.non
 |bl=>exact λ_=>.bl
 |int=>exact λ_=>.int
 |str h=>exact λ_=>.str h
 |lst h ih =>
  intro m hm;obtain⟨m,rfl⟩:∃k,m=k+1:=⟨m - 1,by omega⟩
  exact .lst λx hx=>ih x hx (by omega)
 |tup h ih =>
  intro m hm;obtain⟨m,rfl⟩:∃k,m=k+1:=⟨m - 1,by omega⟩
  exact .tup λx hx=>ih x hx (by omega)
theorem NX:∀{l:List Hv},(∀t∈l,De t)->JG l
 |[],_=>trivial
 |a::r,h=>⟨h a (yah ..),NX λt ht=>h t (yab _ ht)⟩
theorem Sm.ok{n:Nat}{t:Hv}(h:Sm n t):De t:=by
 induction h with
 |str h=>exact h
 |lst h ih=>exact NX ih
 |tup h ih=>exact NX ih
 |_=>trivial
structure FtH(n:Nat)(t:T):Prop where
 p:t.pln=true
 c:t.data.canLay0=true
 e:PyData.eqv t.data t.data=true
 d:t.data.depth<=n
theorem Tv{n:Nat}:∀{l:List T},(∀t∈l,FtH n t)->DF l=true/\PyData.canLayAll0 (Au l)=true/\PyData.eqvAll (Au l) (Au l)=true/\PyData.depthAll (Au l)<=n
 |[],_=>⟨rfl,rfl,rfl,ybe _⟩
 |t::r,h=>by
  obtain⟨h1,h2,h3,h4⟩:=h t (yah ..);obtain⟨g1,g2,g3,g4⟩:=Tv (l:=r) λx hx=>h x (yab _ hx)
  refine⟨by rw[DF,h1,g1];rfl,by rw[Au,PyData.canLayAll0,h2,g2];rfl,by rw[Au,PyData.eqvAll,h3,g3];rfl,?_⟩
  rw[Au,PyData.depthAll]
  omega
theorem Tu{n:Nat}{l:List T}{o:Bool}{k:Kd}(h:∀t∈l,FtH n t):FtH (n+1) (.nd o k l):=by
 obtain⟨g1,g2,g3,g4⟩:=Tv h;cases k<;>exact⟨by simpa[T.pln] using g1,by simpa[T.data,PyData.canLay0] using g2,by simpa[T.data,PyData.eqv] using g3,by simpa[T.data,PyData.depth] using g4⟩
theorem Sm.fit{n:Nat}{t:Hv}(h:Sm n t):FtH n (AD t):=by
 induction h with
 |non=>exact⟨rfl,rfl,rfl,ybe _⟩
 |bl=>rename_i b;exact⟨rfl,rfl,by cases b<;>rfl,ybe _⟩
 |int=>rename_i i;exact⟨rfl,rfl,yf0 i,ybe _⟩
 |str h=>rename_i w;exact⟨rfl,Gu h,yf0 (mk w),ybe _⟩
 |lst h ih =>
  refine Tu λt ht=>?_
  rw[BV]at ht;obtain⟨x,hx,rfl⟩:=yat.mp ht;exact ih x hx
 |tup h ih =>
  refine Tu λt ht=>?_
  rw[BV]at ht;obtain⟨x,hx,rfl⟩:=yat.mp ht;exact ih x hx
theorem zlo{α:Type}(l:List α){k:Nat}(h:k<=l.length):B0 l none (some (k:Int))=l.take k:=by
 unfold B0;rw[HT.sIx_none,HT.sIx_nat,ycb h];simp
theorem OI{α:Type}(l:List α){k:Nat}(h:k<=l.length):B0 l (some (k:Int)) none=l.drop k:=by
 unfold B0;rw[HT.sIx_none,HT.sIx_nat,ycb h];refine ycd ?_;rw[ybm]
 omega
theorem EH(L:List Hv){i:Int}(h0:0<=i)(h1:i<L.length):∃t∈L,Ah (AB L) i=some (AD t):=by
 have hi:i.toNat<L.length:=by omega
 refine⟨L[i.toNat],yb3 hi,BL h0 ?_⟩;rw[BV,ya7,ya0 hi]
 rfl
theorem BF{c:Int}{n:Int}(h:0<n):0<=c.fmod n/\c.fmod n<n:=by
 rw[fm h];exact⟨Int.emod_nonneg _ (by omega),ye0 _ h⟩
theorem CA(a b:List Hv):AB (a++b)=AB a++AB b:=by rw[BV,BV,BV,yb9]
theorem K6(a:List Hv)(n:Nat):(AB a).take n=AB (a.take n):=by rw[BV,BV,ydf]
theorem NY(a:List Hv)(n:Nat):(AB a).drop n=AB (a.drop n):=by rw[BV,BV,List.map_drop]
theorem KA(a b:W):mk a++mk b=mk (a++b):=Tx.cs_ext (by rw[Tx.cs_app];rfl)
theorem L9:∀(w:W),(∀c∈w,97<=c/\c<=122)->Txt.upper (mk w)=mk (w.map (· - 32))
 |[],_=>rfl
 |c::r,h=>by
  have hc:=h c (yah ..);have ih:=L9 r λd hd=>h d (yab _ hd)
  have e:Txt.upper (mk [c])=mk [c - 32]:=(PySem.W.KOpn.upper_one (c:=c) (by omega)).trans (by rw[if_pos hc];rfl)
  rw[show c::r=[c]++r from rfl,<- KA,PySem.W.KOpn.upper_app,e,ih,KA]
  rfl
theorem Jx(a:W):(mk a).length=a.length:=rfl
theorem JD{f:Nat->W}{k:Nat}(h:k<66):Ah (AF (NS f)) (k:Int)=some (.str (mk (f k))):=by
 refine BL (by omega) ?_
 rw[Cf,ya7,NS,ya7,yba,ybh h]
 rfl
section
variable {f:Nat->W}(hf:Nms f)
include hf
theorem DH(k:Nat):Ok (f k):=⟨by have:=hf.l2 k;omega,λc hc=>by have:=hf.ab k c hc;omega⟩
end
def IF(c:Nat):Bool:=!Cd c && !decide (c=47)
theorem Mf{w:W}{c:Nat}(hc:c∈w)(ho:IF c=true):C9 w=false/\DD w=false:=by
 unfold IF at ho;rw[ya1,ybo,ybo,decide_eq_false_iff_not]at ho
 have e1:w.all Cd=false:=by
  rw[ybp];exact⟨c,hc,by rw[ho.1];decide⟩
 have e2:(w.all λc=>decide (c=47) || Cd c)=false:=by
  rw[ybp];exact⟨c,hc,by rw[ho.1,ye8 ho.2];decide⟩
 have e3:decide (w=[47])=false:=ye8 λz=>by
  rw[z]at hc;exact ho.2 (ya3.mp hc)
 unfold C9 DD GL;rw[e1,e2,e3];simp
theorem zd3:(Str.ofString "AZ09 _-.!?<=>:;").cps.toList=[65,90,48,57,32,95,45,46,33,63,60,61,62,58,59]:=by decide +kernel
theorem zkm{i:Int}(h0:0<=i)(h1:i<15):∃c,Ah (Str.ofString "AZ09 _-.!?<=>:;").cps.toList i=some c/\IF c=true/\c<128:=by
 rw[zd3];obtain⟨k,rfl⟩:=yar h0;have hk:k<([65,90,48,57,32,95,45,46,33,63,60,61,62,58,59]:List Nat).length:=by show k<15;omega
 refine⟨_,BL h0 (ya0 hk),?_⟩;have:=(by decide:∀c∈([65,90,48,57,32,95,45,46,33,63,60,61,62,58,59]:List Nat),IF c=true/\c<128)
 exact this _ (yb3 hk)
theorem zho:(Str.ofString "AZ09 _-.!?<=>:;").length<=100000:=by decide +kernel
theorem GW:Str.ofString ""=mk []:=Tx.cs_ext (by decide +kernel)
theorem l_a:Str.ofString "a"=mk [97]:=Tx.cs_ext (by decide +kernel)
theorem NG:Str.ofString "abcdefghi"=mk [97,98,99,100,101,102,103,104,105]:=Tx.cs_ext (by decide +kernel)
theorem l_nl:Str.ofString "\n"=mk [10]:=Tx.cs_ext (by decide +kernel)
theorem Rk{f:Nat->W}(hf:Nms f)(c:Int):∃t,LN [.int c,.lst (AF (NS f))]=some (.ok (AD t))/\Sm 1 t/\Bd t=false/\(t=.str [97,98,99,100,101,102,103,104,105]\/Dx t=false):=by
 obtain⟨i0,i1⟩:=BF (c:=c.fdiv 8) (n:=15) (by decide)
 obtain⟨sg,es,ho,hs⟩:=zkm i0 i1;have hl:=hf.l2 0;have hab:=hf.ab 0;have hok:=DH hf 0;have a0:Ah (AF (NS f)) 0=some (.str (mk (f 0))):=JD (k:=0) (by decide)
 obtain⟨j0,j1⟩:=BF (c:=c.fdiv 120) (n:=((f 0).length:Int)+1) (by omega)
 obtain⟨a,ea⟩:=yar j0;have hal:a<=(f 0).length:=by omega
 have m0:(((f 0).length:Int)+1=0)=False:=yfb (by omega)
 have up:=L9 (f 0) hab;have s1:Txt.slice (mk (f 0)) none (some (a:Int))=mk ((f 0).take a):=Tx.cs_ext (Tx.sl_to hal);have s2:Txt.slice (mk (f 0)) (some (a:Int)) none=mk ((f 0).drop a):=Tx.cs_ext (Tx.sl_from hal);let L:List Hv:=[.str [],.str ((f 0).take a++[sg]++(f 0).drop a),.non,.int 5,.lst [.str [97]],.str ((f 0).map (· - 32)),.str [97,98,99,100,101,102,103,104,105],.str (f 0++[10])];obtain⟨k0,k1⟩:=BF (c:=c) (n:=8) (by decide)
 obtain⟨t,ht,et⟩:=EH L k0 k1;have t8:BN 8=true:=Bg (by decide) (by decide)
 have t120:BN 120=true:=Bg (by decide) (by decide)
 have z1:((f 0).length<=AQ)=True:=yf8 (by unfold AQ;omega)
 have z2:(((f 0).take a).length+1<=AQ)=True:=yf8 (by rw[yb2];unfold AQ;omega)
 have z3:(((f 0).take a++[sg]).length+((f 0).drop a).length<=AQ)=True:=yf8 (by rw[yad,yb2,ybm];show _+1+_<=_;unfold AQ;omega)
 have z4:(((f 0).map (· - 32)).length<=AQ)=True:=yf8 (by rw[ya5];unfold AQ;omega)
 have z5:((f 0).length+1<=AQ)=True:=yf8 (by unfold AQ;omega)
 have g1:(Str.mk #[sg])=mk [sg]:=rfl;have okr:∀w:W,w.length<=20->(∀c∈w,c<128)->Ok w:=λw h1 h2=>⟨by omega,h2⟩
 refine⟨t,?_,?_⟩
 .show Ay (KN [some (.int c),some (.lst (AF (NS f))),none,none,none])=_;unfold KN;have sL:A7 (AB L)=true:=AS L;rw[AZ (τ':=[some (.int c),some (.lst (AF (NS f))),some (.str (mk [sg])),none,none]) (by simp![t8,es,zho,g1])]
  rw[AZ (τ':=[some (.int c),some (.lst (AF (NS f))),some (.str (mk [sg])),some (.int a),none]) (by
   rw[<- ea]
   simp![t120,Aa,A2,a0,Jx,m0,z1]
   )]
  rw[AZ (τ':=[some (.int c),some (.lst (AF (NS f))),some (.str (mk [sg])),some (.int a),some (.lst (AB L))]) (by
   simp![Aa,A2,a0,Jx,z1,z2,z3,z4,z5,s1,s2,KA,up,F8,Bq,GW,l_a,NG,l_nl]
   rfl)]
  have hs:=A5 t;generalize AB L=Z at *
  simp![et,sL,AJ _ sL,hs,AN _ hs,Ay]
 .have P:∀t∈L,Sm 1 t/\Bd t=false/\(t=.str [97,98,99,100,101,102,103,104,105]\/Dx t=false):=by
   intro t ht;simp only[L,ya9,yac,yf3]at ht
   rcases ht with rfl|rfl|rfl|rfl|rfl|rfl|rfl|rfl
   .exact⟨.str (BR (by decide) (by decide)),by decide,.inr (by decide)⟩
   .have:=Mf (w:=(f 0).take a++[sg]++(f 0).drop a) (c:=sg) (by simp) ho
    refine⟨.str (okr _ (by rw[yad,yad,yb2,ybm];show _+1+_<=_;omega) λd hd=>?_),this.1,.inr this.2⟩
    rcases yaj.mp hd with hd|hd
    .rcases yaj.mp hd with hd|hd
     .have:=hab d (yay hd);omega
     .rw[ya3.mp hd];exact hs
    .have:=hab d (yc5 hd);omega
   .exact⟨.non,rfl,.inr rfl⟩
   .exact⟨.int,rfl,.inr rfl⟩
   .refine⟨.lst λx hx=>?_,rfl,.inr rfl⟩
    rw[ya3.mp hx];exact .str (BR (by decide) (by decide))
   .obtain⟨x,hx⟩:=ydt (l:=f 0) (by omega)
    have hx2:=hab x hx
    have:=Mf (w:=(f 0).map (· - 32)) (c:=x - 32) (ybi hx) (by
     have e1:Cd (x - 32)=false:=by
      unfold Cd;exact ye8 (by omega)
     unfold IF;rw[e1,ye8 (by omega)]
     rfl)
    refine⟨.str (okr _ (by rw[ya5];omega) λd hd=>?_),this.1,.inr this.2⟩
    obtain⟨y,hy,rfl⟩:=yat.mp hd;have:=hab y hy;show y - 32<128
    omega
   .exact⟨.str (BR (by decide) (by decide)),by decide,.inl rfl⟩
   .have:=Mf (w:=f 0++[10]) (c:=10) (by simp) (by decide)
    refine⟨.str (okr _ (by rw[yad];show _+1<=_;omega) λd hd=>?_),this.1,.inr this.2⟩
    rcases yaj.mp hd with hd|hd
    .have:=hab d hd;omega
    .rw[ya3.mp hd];decide
  exact P t ht
abbrev MP:Stmt:=A9 45
def KO:AE->Option Out :=
 (AL (AX (AW (AA 1) (m2 A8 (m2 Ap (AA 0) (mC (.int 16))) (m1 BP (AA 1)))) (AK 4))
 (AL (AX (A4 (AI (A4 (AI (AA 4) (AI (mC (.str "<")) (AI (mC (.int 1)) AH)))) (AI (Al (AG (AA 4) (AG (mC (.str "<")) AH))) (AI (Al (AG (AA 4) (AG (mC (.str "<")) (AG (mC (.int 1)) (AG (mC (.int 1)) AH))))) (AI (Al (AG (AW (AA 2) (mC (.int 30))) (AG (mC (.str "<")) (AG (mC (.int 1)) AH)))) (AI (Al (AG (mC .non) (AG (mC (.str "<")) (AG (mC (.int 1)) AH)))) (AI (Al (AG (mC (.str "")) (AG (mC (.str "<=")) (AG (mC (.int 1)) AH)))) AH))))))) (AK 5))
 (AL (AX (m2 Ai (AA 5) (A4 (AI (Al (AG (AA 4) (AG (mC (.str "")) (AG (mC (.int 1)) AH)))) (AI (Al (AG (AA 4) (AG (mC .non) (AG (mC (.int 1)) AH)))) (AI (Al (AG (AA 4) (AG (mC (.str "==")) (AG (mC (.int 1)) AH)))) (AI (Al (AG (AA 4) (AG (mC (.str "=<")) (AG (mC (.int 1)) AH)))) (AI (Al (AG (AA 4) (AG (mC (.str "<")) (AG (m2 Fz (mC (.int 0)) (mC (.int 1))) AH)))) AH))))))) (AK 5))
 (AL (AX (m2 Ai (AA 5) (A4 (AI (Al (AG (AA 4) (AG (mC (.str "<=")) (AG (mC .non) AH)))) (AI (Al (AG (AA 4) (AG (mC (.str "<")) (AG (mC (.bl true)) AH)))) (AI (Al (AG (AA 4) (AG (mC (.str "<")) (AG (mC (.str "1")) AH)))) (AI (mC .non) (AI (Al (AG (F8 (AA 4)) (AG (mC (.str "<")) (AG (mC (.int 0)) AH)))) AH))))))) (AK 5))
 (AL (Aj (m2 BH (AA 3) (mC (.int 2))) (AX (m2 Ai (AA 5) (A4 (AI (Al (AG (AA 4) (AG (mC (.str ">")) (AG (mC (.int 1)) AH)))) (AI (Al (AG (AA 4) (AG (mC (.str ">=")) (AG (mC (.int 0)) AH)))) (AI (Al (AG (AA 4) (AG (mC (.str "=")) (AG (mC (.int 1)) AH)))) AH))))) (AK 5)) Ak)
 (Ab (AW (AA 5) (m2 A8 (AA 0) (m1 BP (AA 5))))))))))
def LO:List T->Option Ru:=BE 4 6 KO
abbrev Ki:Fn:=⟨1,["_law_cell","_law_watches","_law_names_here","_law_words"],LO⟩
abbrev Tj:Gm:=⟨["_law_cell","_law_watches","_law_names_here","_law_words","_law_watch","_law_some"],(AO MP).names,[],0,[],["len"],[],[],[],false,[],[],[],Bm⟩
theorem zbg:FnScope Tj.N Ki.ps (AO MP):=BM (by decide +kernel)
theorem zbt:Av 200 Tj (Ao MP)=some KO:=by ext
abbrev WS(f:Nat->W)(n:Nat):List W:=(List.range n).map f
theorem Il(f:Nat->W)(n:Nat):(AF (WS f n)).length=n:=by rw[Cf,ya5,ya5,ybg]
theorem LH(f:Nat->W){n:Nat}{i:Int}(h0:0<=i)(h1:i<n):∃k,k<n/\Ah (AF (WS f n)) i=some (.str (mk (f k))):=by
 refine⟨i.toNat,by omega,BL h0 ?_⟩
 rw[Cf,ya7,ya7,ybh (by omega)]
 rfl
theorem Fk{f:Nat->W}{n:Nat}{w:W}(h:w∈WS f n):∃k,k<n/\w=f k:=by
 obtain⟨k,hk,rfl⟩:=yat.mp h;exact⟨k,ybn.mp hk,rfl⟩
theorem HE:Str.ofString "<"=mk [60]:=Tx.cs_ext (by decide +kernel)
theorem KW:Str.ofString "<="=mk [60,61]:=Tx.cs_ext (by decide +kernel)
theorem Sd:Str.ofString ">"=mk [62]:=Tx.cs_ext (by decide +kernel)
theorem Se:Str.ofString ">="=mk [62,61]:=Tx.cs_ext (by decide +kernel)
theorem Sf:Str.ofString "="=mk [61]:=Tx.cs_ext (by decide +kernel)
theorem l_ee:Str.ofString "=="=mk [61,61]:=Tx.cs_ext (by decide +kernel)
theorem l_el:Str.ofString "=<"=mk [61,60]:=Tx.cs_ext (by decide +kernel)
theorem l_1:Str.ofString "1"=mk [49]:=Tx.cs_ext (by decide +kernel)
def B7(w x:W):List Hv:=[.lst [.str w,.str [60],.int 1],.tup [.str w,.str [60]],.tup [.str w,.str [60],.int 1,.int 1],.tup [.str x,.str [60],.int 1],.tup [.non,.str [60],.int 1],.tup [.str [],.str [60,61],.int 1]]
def Bh(w:W):List Hv:=[.tup [.str w,.str [],.int 1],.tup [.str w,.non,.int 1],.tup [.str w,.str [61,61],.int 1],.tup [.str w,.str [61,60],.int 1],.tup [.str w,.str [60],.int (0 - 1)]]
def CO(w:W):List Hv:=[.tup [.str w,.str [60,61],.non],.tup [.str w,.str [60],.bl true],.tup [.str w,.str [60],.str [49]],.non,.tup [.str (w.map (· - 32)),.str [60],.int 0]]
def EY(w:W):List Hv:=[.tup [.str w,.str [62],.int 1],.tup [.str w,.str [62,61],.int 0],.tup [.str w,.str [61],.int 1]]
def LQ(ws wd:List W)(t:Hv):Prop:=Sm 1 t/\JF t/\F9 ws wd t=false
theorem Jb{a b c:Hv}(h1:Sm 0 a)(h2:Sm 0 b)(h3:Sm 0 c):∀x∈[a,b,c],Sm 0 x:=λx hx=>by
 simp only[ya9,yac,yf3]at hx
 rcases hx with rfl|rfl|rfl<;>assumption
theorem Cq{ws wd:List W}{a b c:Hv}(h1:Sm 0 a)(h2:Sm 0 b)(h3:Sm 0 c)(f1:Dw a)(f2:Dw b)(h:(Bs ws a && (Bs wd b && GJ c))=false):LQ ws wd (.tup [a,b,c]):=⟨.tup (Jb h1 h2 h3),λa' b' c' e=>by injection e with e;injection e with e1 e;injection e with e2 e;subst e1;subst e2;exact⟨f1,f2⟩,h⟩
theorem EI{a b c:Bool}(h:b=false\/c=false):(a && (b && c))=false:=by rcases h with rfl|rfl<;>simp
section
variable {f:Nat->W}(hf:Nms f){n k:Nat}(hn:n<=7)(hk:k<n)
include hf hn hk
theorem ziu{ws:List W}(hw:ws=WS f n):(f k).map (· - 32)∉ws:=λhm=>by
 subst hw;obtain⟨j,_,e⟩:=Fk hm;obtain⟨x,hx⟩:=ydt (l:=f k) (by have:=hf.l2 k;omega)
 have h1:=hf.ab k x hx;have h2:=hf.ab j (x - 32) (e▸ybi hx)
 omega
theorem zkr{wd:List W}(hd:wd=Bu\/wd=CN):∀t∈B7 (f k) (f 30)++Bh (f k)++CO (f k),LQ (WS f n) wd t:=by
 intro t ht;have ok:Sm 0 (.str (f k)):=.str (DH hf k);have okf:Dw (.str (f k)):=DH hf k;have li:∀w:W,w.length<=100->(w.all λc=>decide (c<128))=true->Sm 0 (.str w):=λw h1 h2=>.str (BR h1 h2)
 have li':∀w:W,w.length<=100->(w.all λc=>decide (c<128))=true->Dw (.str w):=λw h1 h2=>BR h1 h2
 have n1:∀w:W,([]:W)∈wd->False:=λ_ h=>by rcases hd with rfl|rfl<;>revert h<;>decide
 have n2:([61,61]:W)∈wd->False:=λh=>by rcases hd with rfl|rfl<;>revert h<;>decide
 have n3:([61,60]:W)∈wd->False:=λh=>by rcases hd with rfl|rfl<;>revert h<;>decide
 have n30:f 30∉WS f n:=λh=>by
  obtain⟨j,hj,e⟩:=Fk h;have:=hf.un 30 j (by decide) (by omega) e
  omega
 have ne:([]:W)∉WS f n:=λh=>by
  obtain⟨j,hj,e⟩:=Fk h;have:=hf.l2 j;rw[<- e]at this;exact absurd this.1 (by decide)
 have nu:=ziu hf hn hk rfl;unfold B7 Bh CO at ht;simp only[ycj,ycs,ya9,yac,yf3]at ht
 rcases ht with rfl|rfl|rfl|rfl|rfl|rfl|rfl|rfl|rfl|rfl|rfl|rfl|rfl|rfl|rfl|rfl
 .exact⟨.lst (Jb ok (li _ (by decide) (by decide)) .int),λ_ _ _ e=>(by cases e),rfl⟩
 .refine⟨.tup λx hx=>?_,λ_ _ _ e=>(by cases e),rfl⟩
  simp only[ya9,yac,yf3]at hx
  rcases hx with rfl|rfl
  .exact ok
  .exact li _ (by decide) (by decide)
 .refine⟨.tup λx hx=>?_,λ_ _ _ e=>(by cases e),rfl⟩
  simp only[ya9,yac,yf3]at hx
  rcases hx with rfl|rfl|rfl|rfl
  .exact ok
  .exact li _ (by decide) (by decide)
  .exact .int
  .exact .int
 .exact Cq (.str (DH hf 30)) (li _ (by decide) (by decide)) .int (DH hf 30) (li' _ (by decide) (by decide)) (by rw[Bs,ye8 n30];rfl)
 .exact Cq .non (li _ (by decide) (by decide)) .int trivial (li' _ (by decide) (by decide)) rfl
 .exact Cq (li _ (by decide) (by decide)) (li _ (by decide) (by decide)) .int (li' _ (by decide) (by decide)) (li' _ (by decide) (by decide)) (by rw[Bs,ye8 ne];rfl)
 .exact Cq ok (li _ (by decide) (by decide)) .int okf (li' _ (by decide) (by decide)) (EI (.inl (ye8 (n1 []))))
 .exact Cq ok .non .int okf trivial (EI (.inl rfl))
 .exact Cq ok (li _ (by decide) (by decide)) .int okf (li' _ (by decide) (by decide)) (EI (.inl (ye8 n2)))
 .exact Cq ok (li _ (by decide) (by decide)) .int okf (li' _ (by decide) (by decide)) (EI (.inl (ye8 n3)))
 .exact Cq ok (li _ (by decide) (by decide)) .int okf (li' _ (by decide) (by decide)) (EI (.inr (by decide)))
 .exact Cq ok (li _ (by decide) (by decide)) .non okf (li' _ (by decide) (by decide)) (EI (.inr rfl))
 .exact Cq ok (li _ (by decide) (by decide)) .bl okf (li' _ (by decide) (by decide)) (EI (.inr rfl))
 .exact Cq ok (li _ (by decide) (by decide)) (li _ (by decide) (by decide)) okf (li' _ (by decide) (by decide)) (EI (.inr rfl))
 .exact⟨.non,λ_ _ _ e=>(by cases e),rfl⟩
 .have o:Ok ((f k).map (· - 32)):=⟨by rw[ya5];have:=hf.l2 k;omega,λc hc=>by
   obtain⟨y,hy,rfl⟩:=yat.mp hc;have:=hf.ab k y hy;show y - 32<128
   omega⟩
  exact Cq (.str o) (li _ (by decide) (by decide)) .int o (li' _ (by decide) (by decide)) (by rw[Bs,ye8 nu];rfl)
theorem zkq:∀t∈EY (f k),LQ (WS f n) Bu t:=by
 intro t ht;have ok:Sm 0 (.str (f k)):=.str (DH hf k);have okf:Dw (.str (f k)):=DH hf k;have li:∀w:W,w.length<=100->(w.all λc=>decide (c<128))=true->Ok w:=λw h1 h2=>BR h1 h2
 unfold EY at ht;simp only[ya9,yac,yf3]at ht
 rcases ht with rfl|rfl|rfl
 .exact Cq ok (.str (li _ (by decide) (by decide))) .int okf (li [62] (by decide) (by decide)) (EI (.inl (by decide)))
 .exact Cq ok (.str (li _ (by decide) (by decide))) .int okf (li [62,61] (by decide) (by decide)) (EI (.inl (by decide)))
 .exact Cq ok (.str (li _ (by decide) (by decide))) .int okf (li [61] (by decide) (by decide)) (EI (.inl (by decide)))
end
theorem Rl{f:Nat->W}(hf:Nms f){n:Nat}(h1:1<=n)(hn:n<=7)(c:Int){i:Int}{wd:List W}(hi:i=2/\wd=Bu\/i=5/\wd=CN):∃t,LO [.int c,.lst (AF (WS f n)),.lst (AF (NS f)),.int i]=some (.ok (AD t))/\LQ (WS f n) wd t:=by
 obtain⟨i0,i1⟩:=BF (c:=c.fdiv 16) (n:=(n:Int)) (by omega)
 obtain⟨k,hk,ek⟩:=LH f i0 i1;have a30:Ah (AF (NS f)) 30=some (.str (mk (f 30))):=JD (k:=30) (by decide)
 have hl:=hf.l2 k;have up:=L9 (f k) (hf.ab k);have wl:((AF (WS f n)).length:Int)=(n:Int):=by rw[Il]
 have m0:((n:Int)=0)=False:=yfb (by omega)
 have t16:BN 16=true:=Bg (by decide) (by decide)
 have z1:(((f k).map (· - 32)).length<=AQ)=True:=yf8 (by rw[ya5];unfold AQ;omega)
 have A:=zkr hf hn hk (wd:=wd) (by rcases hi with h|h;exact .inl h.2;exact .inr h.2)
 have sA:A7 (AB (B7 (f k) (f 30)))=true:=AS _;have sB:A7 (AB (B7 (f k) (f 30)++Bh (f k)))=true:=AS _;have sC:A7 (AB (B7 (f k) (f 30)++Bh (f k)++CO (f k)))=true:=AS _;have q1:AB (B7 (f k) (f 30))++AB (Bh (f k))=AB (B7 (f k) (f 30)++Bh (f k)):=(CA _ _).symm;have q2:AB (B7 (f k) (f 30)++Bh (f k))++AB (CO (f k))=AB (B7 (f k) (f 30)++Bh (f k)++CO (f k)):=(CA _ _).symm;have bB:AB (Bh (f k))=[.tup [.str (mk (f k)),.str (mk []),.int 1],.tup [.str (mk (f k)),.non,.int 1],.tup [.str (mk (f k)),.str (mk [61,61]),.int 1],.tup [.str (mk (f k)),.str (mk [61,60]),.int 1],.tup [.str (mk (f k)),.str (mk [60]),.int (0 - 1)]]:=rfl;have bC:AB (CO (f k))=[.tup [.str (mk (f k)),.str (mk [60,61]),.non],.tup [.str (mk (f k)),.str (mk [60]),.bl true],.tup [.str (mk (f k)),.str (mk [60]),.str (mk [49])],.non,.tup [.str (mk ((f k).map (· - 32))),.str (mk [60]),.int 0]]:=rfl;have lA:(AB (B7 (f k) (f 30))).length=6:=rfl;have lB:(AB (B7 (f k) (f 30)++Bh (f k))).length=11:=rfl;have lC:(AB (B7 (f k) (f 30)++Bh (f k)++CO (f k))).length=16:=rfl;have y6:(6+5<=AQ)=True:=yf8 (by unfold AQ;omega)
 have y11:(11+5<=AQ)=True:=yf8 (by unfold AQ;omega)
 have y16:(16+3<=AQ)=True:=yf8 (by unfold AQ;omega)
 show ∃t,Ay (KO [some (.int c),some (.lst (AF (WS f n))),some (.lst (AF (NS f))),some (.int i),none,none])=_/\_;unfold KO;rw[AZ (τ':=[some (.int c),some (.lst (AF (WS f n))),some (.lst (AF (NS f))),some (.int i),some (.str (mk (f k))),none]) (by simp![t16,Aa,A2,ek,wl,m0])]
 rw[AZ (τ':=[some (.int c),some (.lst (AF (WS f n))),some (.lst (AF (NS f))),some (.int i),some (.str (mk (f k))),some (.lst (AB (B7 (f k) (f 30))))]) (by
  simp![Aa,A2,a30,HE,KW,GW]
  rfl)]
 rw[AZ (τ':=[some (.int c),some (.lst (AF (WS f n))),some (.lst (AF (NS f))),some (.int i),some (.str (mk (f k))),some (.lst (AB (B7 (f k) (f 30)++Bh (f k))))]) (by
  rw[<- q1,bB]at sB ⊢;generalize AB (B7 (f k) (f 30))=Z at sA lA sB ⊢
  simp![sA,AJ _ sA,sB,AJ _ sB,lA,y6,HE,GW,l_ee,l_el])]
 rw[AZ (τ':=[some (.int c),some (.lst (AF (WS f n))),some (.lst (AF (NS f))),some (.int i),some (.str (mk (f k))),some (.lst (AB (B7 (f k) (f 30)++Bh (f k)++CO (f k))))]) (by
  rw[<- q2,bC]at sC ⊢;generalize AB (B7 (f k) (f 30)++Bh (f k))=Z at sB lB sC ⊢
  simp![sB,AJ _ sB,sC,AJ _ sC,lB,y11,HE,KW,l_1,F8,up,Jx,z1])]
 rcases hi with ⟨rfl,rfl⟩|⟨rfl,rfl⟩
 .have D:=zkq hf hn hk;have sD:A7 (AB (B7 (f k) (f 30)++Bh (f k)++CO (f k)++EY (f k)))=true:=AS _;have q3:AB (B7 (f k) (f 30)++Bh (f k)++CO (f k))++AB (EY (f k))=AB (B7 (f k) (f 30)++Bh (f k)++CO (f k)++EY (f k)):=(CA _ _).symm;have bD:AB (EY (f k))=[.tup [.str (mk (f k)),.str (mk [62]),.int 1],.tup [.str (mk (f k)),.str (mk [62,61]),.int 0],.tup [.str (mk (f k)),.str (mk [61]),.int 1]]:=rfl;obtain⟨j0,j1⟩:=BF (c:=c) (n:=19) (by decide)
  obtain⟨t,ht,et⟩:=EH (B7 (f k) (f 30)++Bh (f k)++CO (f k)++EY (f k)) j0 j1;have lD:((AB (B7 (f k) (f 30)++Bh (f k)++CO (f k)++EY (f k))).length:Int)=19:=rfl;refine⟨t,?_,?_⟩
  .rw[AZ (τ':=[some (.int c),some (.lst (AF (WS f n))),some (.lst (AF (NS f))),some (.int 2),some (.str (mk (f k))),some (.lst (AB (B7 (f k) (f 30)++Bh (f k)++CO (f k)++EY (f k))))]) (by
    rw[<- q3,bD]at sD ⊢;generalize AB (B7 (f k) (f 30)++Bh (f k)++CO (f k))=Z at sC lC sD ⊢
    simp![As,sC,AJ _ sC,sD,AJ _ sD,lC,y16,Sd,Se,Sf])]
   have hs:=A5 t;generalize AB (B7 (f k) (f 30)++Bh (f k)++CO (f k)++EY (f k))=Z at *
   simp![et,lD,sD,AJ _ sD,hs,AN _ hs,Ay]
  .rcases yaj.mp ht with ht|ht
   .exact A t ht
   .exact D t ht
 .obtain⟨j0,j1⟩:=BF (c:=c) (n:=16) (by decide)
  obtain⟨t,ht,et⟩:=EH (B7 (f k) (f 30)++Bh (f k)++CO (f k)) j0 j1;have lD:((AB (B7 (f k) (f 30)++Bh (f k)++CO (f k))).length:Int)=16:=rfl;refine⟨t,?_,A t ht⟩;have hs:=A5 t;generalize AB (B7 (f k) (f 30)++Bh (f k)++CO (f k))=Z at *
  simp![As,et,lD,sC,AJ _ sC,hs,AN _ hs,Ay]
abbrev MJ:Stmt:=A9 46
def KG:AE->Option Out :=
 (AL (AX (A4 (AI (m2 Ai (AA 1) (A4 (AI (AW (AA 1) (m2 A8 (m2 Ap (AA 0) (mC (.int 8))) (m1 BP (AA 1)))) AH))) (AI (m1 EO (AA 1)) (AI (mC .non) (AI (AW (AA 1) (mC (.int 0))) (AI (Bl (Bk (AA 2) (some (mC (.int 10))) (some (mC (.int 18)))) (Bq (AA 2) (some (mC (.int 10))) (some (mC (.int 18))))) AH)))))) (AK 3))
 (AL (AX (m2 Ai (AA 3) (A4 (AI (m2 Ai (Bl (Bk (AA 1) none (some (m1 Dk (mC (.int 1))))) (Bq (AA 1) none (some (m1 Dk (mC (.int 1)))))) (A4 (AI (mC (.str "//")) AH))) (AI (m2 Ai (AA 1) (A4 (AI (mC (.str "a/b")) AH))) (AI (A4 (AI (mC (.str "/")) (AI (mC (.str "/")) AH))) AH))))) (AK 3))
 (AL (Aj (m2 (C6 λi j=>decide (i<j)) (m2 A8 (AA 0) (mC (.int 9))) (mC (.int 8))) (Ab (AW (AA 3) (m2 A8 (AA 0) (mC (.int 9))))) Ak)
 (Ab (m2 Ai (Bl (Bk (AA 1) none (some (m1 Dk (mC (.int 1))))) (Bq (AA 1) none (some (m1 Dk (mC (.int 1)))))) (A4 (AI (Ac LN (AG (m2 Ap (AA 0) (mC (.int 9))) (AG (AA 2) AH))) AH)))))))
def Oc:List T->Option Ru:=BE 3 4 KG
abbrev Nm:Fn:=⟨2,["_law_cell","_law_watches","_law_names_here"],Oc⟩
abbrev Td:Gm:=⟨["_law_cell","_law_watches","_law_names_here","_law_some"],(AO MJ).names,[],1,[("_law_no_name",Kh)],["len","tuple"],[],[],[],false,[],[],[],Bm⟩
theorem za2:FnScope Td.N Nm.ps (AO MJ):=BM (by decide +kernel)
theorem za3:Av 200 Td (Ao MJ)=some KG:=by ext
theorem zii{α:Type}(l:List α):B0 l none (some (-1))=l.take (l.length - 1):=by
 unfold B0
 have e:HT.sIx l.length l.length (some (-1))=l.length - 1:=by
  show(if (-1:Int)<0 then (-1+(l.length:Int)).toNat else min (-1:Int).toNat l.length)=_
  rw[if_pos (by decide)]
  omega
 rw[HT.sIx_none,e];simp
theorem J9(ws:List W)(n:Nat):(AF ws).take n=AF (ws.take n):=by rw[Cf,Cf,ydf]
theorem Hi(a b:List W):AF (a++b)=AF a++AF b:=by rw[Cf,Cf,Cf,yb9]
theorem Ek:∀ws:List W,Bf (ws.map Hv.str)=ws
 |[]=>rfl
 |w::r=>congrArg (w::·) (Ek r)
theorem zfk(f:Nat->W):B0 (AF (NS f)) (some 10) (some 18)=AF (((NS f).drop 10).take 8):=by
 have e:(NS f).length=66:=by rw[ya5,ybg]
 rw[AF,U3,U3,AF];unfold B0;rw[e,show HT.sIx 66 0 (some 10)=10 from rfl,show HT.sIx 66 66 (some 18)=18 from rfl]
theorem ER{ws:List W}(h:∀w∈ws,Ok w):∀x∈ws.map Hv.str,Sm 0 x:=λx hx=>by
 obtain⟨w,hw,rfl⟩:=yat.mp hx;exact .str (h w hw)
theorem l_ss:Str.ofString "//"=mk [47,47]:=Tx.cs_ext (by decide +kernel)
theorem l_asb:Str.ofString "a/b"=mk [97,47,98]:=Tx.cs_ext (by decide +kernel)
def DO(ws:List W)(x y:W)(q:List W):List Hv:=[.lst ((ws++[x]).map .str),.tup (ws.map .str),.non,.str y,.lst (q.map .str)]
def Ee(ws:List W):List Hv:=[.lst ((ws.take (ws.length - 1)++[[47,47]]).map .str),.lst ((ws++[[97,47,98]]).map .str),.lst [.str [47],.str [47]]]
theorem wwA_T(ws:List W)(x y:W)(q:List W):AB (DO ws x y q)=[.lst (AF ws++[.str (mk x)]),.tup (AF ws),.non,.str (mk y),.lst (AF q)]:=by
 unfold DO;simp only[AB,AD,Co,Hi]
 rfl
theorem wwB_T(ws:List W):AB (Ee ws)=[.lst (AF (ws.take (ws.length - 1))++[.str (mk [47,47])]),.lst (AF ws++[.str (mk [97,47,98])]),.lst [.str (mk [47]),.str (mk [47])]]:=by
 unfold Ee;simp only[AB,AD,Co,Hi]
 rfl
theorem LX{l:List Hv}{t:Hv}(ht:t∈l)(h:Bd t=false):CV (.lst l)=false:=by
 have:l.all Bd=false:=by
  rw[ybp];exact⟨t,ht,by rw[h];decide⟩
 show(decide (l.length<=7) && (l.all Bd && Bp (Bf l)))=false;rw[this,yav,yaf]
theorem FK{f:Nat->W}(hf:Nms f)(n:Nat):∀w∈WS f n,Ok w:=λw hw=>by
 obtain⟨k,_,rfl⟩:=Fk hw;exact DH hf k
theorem NS_ok{f:Nat->W}(hf:Nms f):∀w∈NS f,Ok w:=FK hf 66
theorem zas{f:Nat->W}(hf:Nms f){n:Nat}(h1:1<=n)(hn:n<=7)(c:Int):∃u t,Oc [.int c,.lst (AF (WS f n)),.lst (AF (NS f))]=some (.ok u)/\u.share=AD t/\Sm 2 t/\CV t=false:=by
 obtain⟨i0,i1⟩:=BF (c:=c.fdiv 8) (n:=(n:Int)) (by omega)
 obtain⟨k,hk,ek⟩:=LH f i0 i1;have hkm:f k∈WS f n:=ybi (ybn.mpr hk)
 have a0:Ah (AF (WS f n)) 0=some (.str (mk (f 0))):=by
  refine BL (by decide) ?_
  rw[Cf,ya7,ya7,ybh (by show 0<n;omega)]
  rfl
 have wok:=FK hf n;have wsl:(WS f n).length=n:=by rw[ya5,ybg]
 have ck:=zii (AF (WS f n));rw[J9,El]at ck;have c18:=zfk f;have wl:(AF (WS f n)).length=n:=Il f n;have m0:((n:Int)=0)=False:=yfb (by omega)
 have t8:BN 8=true:=Bg (by decide) (by decide)
 have t9:BN 9=true:=Bg (by decide) (by decide)
 have bA:=wwA_T (WS f n) (f k) (f 0) (((NS f).drop 10).take 8);have bB:=wwB_T (WS f n);have sA:A7 (AB (DO (WS f n) (f k) (f 0) (((NS f).drop 10).take 8)))=true:=AS _;have sB:A7 (AB (DO (WS f n) (f k) (f 0) (((NS f).drop 10).take 8))++AB (Ee (WS f n)))=true:=by rw[<- CA];exact AS _
 have lA:(AB (DO (WS f n) (f k) (f 0) (((NS f).drop 10).take 8))).length=5:=by rw[Aw];rfl
 have z1:(n+1<=AQ)=True:=yf8 (by unfold AQ;omega)
 have z2:(5+3<=AQ)=True:=yf8 (by unfold AQ;omega)
 have l2:(AF ((WS f n).take ((WS f n).length - 1))).length=n - 1:=by rw[El,yb2,wsl];omega
 have z3:(n - 1+1<=AQ)=True:=yf8 (by unfold AQ;omega)
 have p1:AV (AF (WS f n)++[.str (mk (f k))])=AF (WS f n)++[.str (mk (f k))]:=by rw[show([.str (mk (f k))]:List T)=AF [f k] from rfl,<- Hi];exact A2 _
 have p2:AV (AF ((WS f n).take ((WS f n).length - 1))++[.str (mk [47,47])])=AF ((WS f n).take ((WS f n).length - 1))++[.str (mk [47,47])]:=by rw[show([.str (mk [47,47])]:List T)=AF [[47,47]] from rfl,<- Hi];exact A2 _
 have p3:AV (AF (WS f n)++[.str (mk [97,47,98])])=AF (WS f n)++[.str (mk [97,47,98])]:=by rw[show([.str (mk [97,47,98])]:List T)=AF [[97,47,98]] from rfl,<- Hi];exact A2 _
 have p4:AV (AF (((NS f).drop 10).take 8))=AF (((NS f).drop 10).take 8):=A2 _;have p5:AV (AF (WS f n))=AF (WS f n):=A2 _;have p6:A7 (AF (WS f n))=true:=Aa _;have p7:AV (AF (NS f))=AF (NS f):=A2 _;have p8:A7 (AF (NS f))=true:=Aa _;have p9:AV (AF ((WS f n).take ((WS f n).length - 1)))=AF ((WS f n).take ((WS f n).length - 1)):=A2 _;show ∃u t,Ay (KG [some (.int c),some (.lst (AF (WS f n))),some (.lst (AF (NS f))),none])=_/\_;unfold KG
 rw[AZ (τ':=[some (.int c),some (.lst (AF (WS f n))),some (.lst (AF (NS f))),some (.lst (AB (DO (WS f n) (f k) (f 0) (((NS f).drop 10).take 8))))]) (by
  rw[bA];generalize AF (((NS f).drop 10).take 8)=Y at *;generalize AF (NS f)=X at *;generalize AF (WS f n)=Z at *
  simp![t8,ek,a0,wl,m0,z1,c18,p1,p4,p5,p6,p7,p8])]
 rw[AZ (τ':=[some (.int c),some (.lst (AF (WS f n))),some (.lst (AF (NS f))),some (.lst (AB (DO (WS f n) (f k) (f 0) (((NS f).drop 10).take 8))++AB (Ee (WS f n))))]) (by
  rw[bB]at sB ⊢;generalize AB (DO (WS f n) (f k) (f 0) (((NS f).drop 10).take 8))=V at *;generalize AF (NS f)=X at *;generalize AF ((WS f n).take ((WS f n).length - 1))=Y at *;generalize AF (WS f n)=Z at *
  simp![ck,lA,l2,wl,z1,z2,z3,p2,p3,p5,p6,p9,sA,AJ _ sA,sB,AJ _ sB,l_ss,l_asb,Jc])]
 by_cases h8:c.fmod 9<8
 .obtain⟨j0,_⟩:=BF (c:=c) (n:=9) (by decide)
  obtain⟨t,ht,et⟩:=EH (DO (WS f n) (f k) (f 0) (((NS f).drop 10).take 8)++Ee (WS f n)) j0 h8;rw[CA]at et;have hs:=A5 t;have d8:decide (c.fmod 9<8)=true:=yer h8;refine⟨AD t,t,?_,AN _ hs,?_⟩
  .generalize AB (DO (WS f n) (f k) (f 0) (((NS f).drop 10).take 8))++AB (Ee (WS f n))=V at *
   simp![et,d8,sB,AJ _ sB,hs,AN _ hs,Ay]
  .have P:∀t∈DO (WS f n) (f k) (f 0) (((NS f).drop 10).take 8)++Ee (WS f n),Sm 2 t/\CV t=false:=by
    intro t ht;unfold DO Ee at ht;simp only[ycj,ycs,ya9,yac,yf3]at ht
    rcases ht with rfl|rfl|rfl|rfl|rfl|rfl|rfl|rfl
    .refine⟨(Sm.lst (ER λw hw=>?_)).mono (by decide),?_⟩
     .rcases yaj.mp hw with hw|hw
      .exact wok w hw
      .rw[ya3.mp hw];exact DH hf k
     .have:Bp (Bf ((WS f n++[f k]).map .str))=false:=by
       rw[Ek];refine ye8 λz=>?_
       exact(yd6.mp z).2.2 _ hkm _ (ya3.mpr rfl) rfl
      show(decide _ && (_ && Bp (Bf ((WS f n++[f k]).map .str))))=false;rw[this,yaf,yaf]
    .exact⟨(Sm.tup (ER wok)).mono (by decide),rfl⟩
    .exact⟨.non,rfl⟩
    .exact⟨.str (DH hf 0),rfl⟩
    .refine⟨(Sm.lst (ER λw hw=>NS_ok hf w (yc5 (yay hw)))).mono (by decide),?_⟩
     have:decide (((((NS f).drop 10).take 8).map Hv.str).length<=7)=false:=ye8 (by
      rw[ya5,yb2,ybm,NS,ya5,ybg]
      decide)
     rw[CV,this,yav]
    .refine⟨(Sm.lst (ER λw hw=>?_)).mono (by decide),LX (t:=.str [47,47]) (by simp) (by decide)⟩
     rcases yaj.mp hw with hw|hw
     .exact wok w (yay hw)
     .rw[ya3.mp hw];exact BR (by decide) (by decide)
    .refine⟨(Sm.lst (ER λw hw=>?_)).mono (by decide),LX (t:=.str [97,47,98]) (by simp) (by decide)⟩
     rcases yaj.mp hw with hw|hw
     .exact wok w hw
     .rw[ya3.mp hw];exact BR (by decide) (by decide)
    .refine⟨(Sm.lst (ER (ws:=[[47],[47]]) λw hw=>?_)).mono (by decide),by decide⟩
     simp only[ya9,yac,yf3,or_self]at hw;rw[hw];exact BR (by decide) (by decide)
   exact P t ht
 .have d8:decide (c.fmod 9<8)=false:=ye8 h8;obtain⟨t,e,ht,hw,_⟩:=Rk hf (c.fdiv 9);have hs:=A5 t;have em:AB (((WS f n).take ((WS f n).length - 1)).map .str++[t])=AF ((WS f n).take ((WS f n).length - 1))++[AD t]:=by rw[CA,Co];rfl
  have sE:A7 (AF ((WS f n).take ((WS f n).length - 1))++[AD t])=true:=by rw[<- em];exact AS _
  refine⟨.own (AF ((WS f n).take ((WS f n).length - 1))++[AD t]),.lst (((WS f n).take ((WS f n).length - 1)).map .str++[t]),?_,?_,.lst λx hx=>?_,LX (t:=t) (by simp) hw⟩
  .generalize AB (DO (WS f n) (f k) (f 0) (((NS f).drop 10).take 8))++AB (Ee (WS f n))=V at *;generalize AD t=T1 at *;generalize AF ((WS f n).take ((WS f n).length - 1))=Y at *;generalize AF (NS f)=X at *;generalize AF (WS f n)=Z at *
   simp![d8,e,t9,ck,l2,z3,p5,p6,p7,p8,p9,hs,AN _ hs,Ay]
  .rw[T.share,AJ _ sE,<- em]
   rfl
  .rcases yaj.mp hx with hx|hx
   .exact(ER (λw hw=>wok w (yay hw)) x hx).mono (by decide)
   .rw[ya3.mp hx];exact ht
abbrev MK:Stmt:=A9 47
def KH:AE->Option Out :=
 (AL (AX (m2 A8 (m2 Ap (AA 0) (mC (.int 12))) (m1 BP (AA 1))) (AK 4))
 (AL (AX (AW (AA 1) (AA 4)) (Ct 2 (BW (AK 7) (BW (AK 8) DL))))
 (AL (AX (mC .non) (AK 5))
 (AL (AX (m2 A8 (AA 0) (mC (.int 12))) (AK 6))
 (AL (Aj (m2 BH (AA 6) (mC (.int 0))) (Ab (AW (A4 (AI (A4 AH) (AI (mC .non) (AI (m1 EO (AA 1)) (AI IL AH))))) (m2 A8 (m2 Ap (AA 0) (mC (.int 12))) (mC (.int 4))))) Ak)
 (AL (Aj (m2 BH (AA 6) (mC (.int 1))) (Ab (m2 Ai (m2 Ai (Bl (Bk (AA 1) none (some (AA 4))) (Bq (AA 1) none (some (AA 4)))) (A4 (AI (Al (AG (AW (AW (AA 1) (m2 A8 (m2 Ap (AA 0) (mC (.int 60))) (m1 BP (AA 1)))) (mC (.int 0))) (AG (A4 AH) AH))) AH))) (Bl (Bk (AA 1) (some (AA 4)) none) (Bq (AA 1) (some (AA 4)) none)))) Ak)
 (AL (Aj (m2 (C6 λi j=>decide (i<j)) (AA 6) (mC (.int 5))) (AX (Al (AG (AA 7) (AG (m2 Ai (AA 8) (A4 (AI (Ac LO (AG (m2 Ap (AA 0) (mC (.int 12))) (AG (AA 2) (AG (AA 3) (AG (mC (.int 2)) AH))))) AH))) AH))) (AK 5)) (Aj (m2 (C6 λi j=>decide (i<j)) (AA 6) (mC (.int 8))) (AL (AX (A4 (AI (Al (AG (AA 7) AH)) (AI (A4 (AI (AA 7) (AI (AA 8) AH))) (AI (AA 7) (AI (Al (AG (AA 7) (AG (AA 8) (AG (AA 8) AH)))) (AI (Al (AG (AA 7) (AG (mC .non) AH))) (AI (Al (AG (AA 7) (AG (m2 Ai (m1 EO (AA 8)) (Al (AG (Al AH) AH))) AH))) AH))))))) (AK 9))
 (AX (AW (AA 9) (m2 A8 (m2 Ap (AA 0) (mC (.int 60))) (mC (.int 6)))) (AK 5))) (Aj (m2 BH (AA 6) (mC (.int 8))) (AX (Al (AG (m2 Ai (m2 EB (mC (.str "a/")) (mC (.int 30))) (mC (.str "a"))) (AG (AA 8) AH))) (AK 5)) (AL (AX (Al (AG (AW (A4 (AI (Ac LN (AG (m2 Ap (AA 0) (mC (.int 12))) (AG (AA 3) AH))) (AI (mC (.str "a b")) (AI (mC (.str "a\\b")) (AI (mC (.str "a1")) AH))))) (m2 A8 (m2 Ap (AA 0) (mC (.int 96))) (mC (.int 4)))) (AG (AA 8) AH))) (AK 5))
 (Aj (m2 BH (AW (AA 5) (mC (.int 0))) (mC (.str "abcdefghi"))) (AX (Al (AG (mC (.int 5)) (AG (AA 8) AH))) (AK 5)) Ak)))))
 (Ab (m2 Ai (m2 Ai (Bl (Bk (AA 1) none (some (AA 4))) (Bq (AA 1) none (some (AA 4)))) (A4 (AI (AA 5) AH))) (Bl (Bk (AA 1) (some (m2 Ai (AA 4) (mC (.int 1)))) none) (Bq (AA 1) (some (m2 Ai (AA 4) (mC (.int 1)))) none)))))))))))
def Od:List T->Option Ru:=BE 4 10 KH
abbrev Nn:Fn:=⟨2,["_law_cell","_law_rooms","_law_watches","_law_names_here"],Od⟩
abbrev Te:Gm:=⟨["_law_cell","_law_rooms","_law_watches","_law_names_here","_law_at","_law_other","_law_way","_law_name","_law_stay","_law_some"],(AO MK).names,[],1,[("_law_no_look",Ki),("_law_no_name",Kh)],["len","tuple"],[],[],[],false,[],[],[],Bm⟩
theorem zab:FnScope Te.N Nn.ps (AO MK):=BM (by decide +kernel)
theorem zah:Av 200 Te (Ao MK)=some KH:=by ext
def G9(ws wd:List W)(g:List Hv):Prop:=g.length<=1/\∀k∈g,∃w o i,k=.tup [.str w,.str o,.int i]/\w∈ws/\o∈wd/\0<=i
def VN(ws:List W)(t:Hv):Prop:=∃w g,t=.tup [.str w,.lst g]/\DD w=true/\Ok w/\G9 ws Bu g
def JH(ws ns:List W)(t:Hv):Prop:=∃s e g n z,t=.tup [.str s,.str e,.lst g,.lst (n.map .str),.str z]/\s∈ns/\e∈ns/\G9 ws CN g/\(∃k,n=ws.take k)/\FV z=true/\Ok z
structure GP(f:Nat->W)(n:Nat)(rs ds:List Hv):Prop where
 nm:Nms f
 n1:1<=n
 n7:n<=7
 r1:1<=rs.length
 r2:rs.length<=100
 rr:∀r∈rs,VN (WS f n) r
 ru:(rs.map A6).Nodup
 r30:f 30∉rs.map A6
 d1:1<=ds.length
 d2:ds.length<=300
 dd:∀d∈ds,JH (WS f n) (rs.map A6) d
theorem Oy{wd:List W}(hd:wd=Bu\/wd=CN):∀o∈wd,Ok o:=by rcases hd with rfl|rfl;exact JL.2;exact JL.1
theorem Ka{ws wd:List W}(hw:∀w∈ws,Ok w)(hd:wd=Bu\/wd=CN){g:List Hv}(h:G9 ws wd g):CB ws wd (.lst g)=true/\(∀k∈g,JF k)/\Sm 2 (.lst g):=by
 refine⟨?_,λk hk=>?_,.lst λk hk=>?_⟩
 .rw[CB,yam];intro k hk;obtain⟨w,o,i,rfl,h1,h2,h3⟩:=h.2 k hk;show(decide (w∈ws) && (decide (o∈wd) && decide (0<=i)))=true;rw[yer h1,yer h2,yer h3]
  rfl
 .obtain⟨w,o,i,rfl,h1,h2,h3⟩:=h.2 k hk;intro a b c e;injection e with e
  injection e with e1 e
  injection e with e2 e
  subst e1;subst e2;exact⟨hw w h1,Oy hd o h2⟩
 .obtain⟨w,o,i,rfl,h1,h2,h3⟩:=h.2 k hk;exact .tup (Jb (.str (hw w h1)) (.str (Oy hd o h2)) .int)
theorem Gr{w:W}{g:Hv}(hw:Ok w)(hg:Ha g):EK (.tup [.str w,g]):=λa b e=>by
 injection e with e
 injection e with e1 e
 injection e with e2 e
 subst e1;subst e2;exact⟨hw,hg⟩
theorem En{n:Nat}{a b:Hv}(h1:Sm n a)(h2:Sm n b):∀x∈[a,b],Sm n x:=λx hx=>by
 simp only[ya9,yac,yf3]at hx
 rcases hx with rfl|rfl<;>assumption
theorem K8{ws:List W}(hw:∀w∈ws,Ok w){t:Hv}(h:VN ws t):Ck ws t=true/\EK t/\Sm 3 t:=by
 obtain⟨w,g,rfl,h1,h2,h3⟩:=h;obtain⟨g1,g2,g3⟩:=Ka hw (.inl rfl) h3;refine⟨?_,Gr h2 λl e=>?_,.tup (En (.str h2) g3)⟩
 .show(DD w && CB ws Bu (.lst g))=true;rw[h1,g1]
  rfl
 .injection e with e
  subst e;exact⟨by have:=h3.1;omega,g2⟩
theorem rs_no{ws:List W}{l:List Hv}{t:Hv}(ht:t∈l)(h:Ck ws t=false):DC ws (.lst l)=false:=by
 have:l.all (Ck ws)=false:=by
  rw[ybp];exact⟨t,ht,by rw[h];decide⟩
 rw[DC,this,yav,yaf]
theorem Lm{f g:AE->Option Out}{τ:AE}{P:AE->Prop}(Q:Option Out->Prop)(h:∃τ',f τ=some (.nx τ')/\P τ')(k:∀τ',P τ'->Q (g τ')):Q (AL f g τ):=by
 obtain⟨τ',e,p⟩:=h;rw[AZ e];exact k τ' p
theorem DA{f g:AE->Option Out}{τ:AE}{t:T}(h:f τ=some (.rt t)):AL f g τ=some (.rt t):=by
 unfold AL;rw[h]
theorem eqH{n:Nat}{x:Hv}(h:Sm n x){v:W}(hv:Ok v):∃b,BH (AD x) (.str (mk v))=some (.bl b)/\(b=false->x≠.str v):=by
 have ft:=h.fit
 have ok:Dq (AD x) (.str (mk v))=true:=by
  have hm:min (AD x).data.depth (T.str (mk v)).data.depth<=60:=yap (Nat.min_le_right ..) (ybe _);have hs:BZ (.str (mk v))=true:=by unfold BZ;rw[T.pln,T.data,PyData.canLay0,Gu hv];rfl
  unfold Dq;rw[hs,yer hm];unfold BZ;rw[ft.p,ft.c]
  rfl
 refine⟨Fh (AD x) (.str (mk v)),by unfold BH;rw[if_pos ok],λe z=>?_⟩
 subst z;exact absurd ((yf0 (mk v)).symm.trans e) (by decide)
abbrev Im:W:=(List.replicate 30 [97,47]).flatten++[97]
theorem l_61:Txt.mul (Str.ofString "a/") 30++Str.ofString "a"=mk Im:=Tx.cs_ext (by decide +kernel)
theorem l_61l:(Txt.mul (Str.ofString "a/") 30).length=60:=by decide +kernel
theorem l_as:(Str.ofString "a/").length=2:=by decide +kernel
theorem l_a1l:(Str.ofString "a").length=1:=by decide +kernel
theorem Sg:Str.ofString "a b"=mk [97,32,98]:=Tx.cs_ext (by decide +kernel)
theorem Sh:Str.ofString "a\\b"=mk [97,92,98]:=Tx.cs_ext (by decide +kernel)
theorem Si:Str.ofString "a1"=mk [97,49]:=Tx.cs_ext (by decide +kernel)
def NoR(ws:List W)(t:Hv):Prop:=Sm 4 t/\EK t/\Ck ws t=false
def LM(ws:List W)(t:Hv):Prop:=(Sm 5 t\/t=.dic)/\Ip t/\DC ws t=false
abbrev DP(c:Int)(rs:List T)(f:Nat->W)(n a:Nat)(w:W)(g:List T)(o x9:Option T):AE:=[some (.int c),some (.lst rs),some (.lst (AF (WS f n))),some (.lst (AF (NS f))),some (.int a),o,some (.int (c.fmod 12)),some (.str (mk w)),some (.lst g),x9]
theorem Px{ws:List W}{l1 l2:List Hv}{o:Hv}(h1:∀r∈l1,Sm 4 r/\EK r)(h2:∀r∈l2,Sm 4 r/\EK r)(ho:Sm 4 o/\EK o)(hl:l1.length+l2.length<=100)(hr:DC ws (.lst (l1++[o]++l2))=false):LM ws (.lst (l1++[o]++l2)):=by
 have hm:∀x∈l1++[o]++l2,Sm 4 x/\EK x:=λx hx=>by
  rcases yaj.mp hx with hx|hx
  .rcases yaj.mp hx with hx|hx
   .exact h1 x hx
   .rw[ya3.mp hx];exact ho
  .exact h2 x hx
 refine⟨.inl (.lst λx hx=>(hm x hx).1),λl e=>?_,hr⟩
 injection e with e
 subst e;exact⟨by rw[yad,yad];show _+1+_<_;omega,λx hx=>(hm x hx).2⟩
theorem zbb{f:Nat->W}{n:Nat}{rs ds:List Hv}(h:GP f n rs ds)(c:Int):∃u t,Od [.int c,.lst (AB rs),.lst (AF (WS f n)),.lst (AF (NS f))]=some (.ok u)/\u.share=AD t/\LM (WS f n) t:=by
 have hok:=FK h.nm n;obtain⟨i0,i1⟩:=BF (c:=c.fdiv 12) (n:=(rs.length:Int)) (by have:=h.r1;omega)
 obtain⟨a,ea⟩:=yar i0;have ha:a<rs.length:=by omega
 obtain⟨w,g,er,hwb,hwo,hg⟩:=h.rr rs[a] (yb3 ha);obtain⟨g1,g2,g3⟩:=Ka hok (.inl rfl) hg;have rl:((AB rs).length:Int)=(rs.length:Int):=by rw[Aw]
 have sr:=AS rs;have sg:=AS g;have m0:((rs.length:Int)=0)=False:=yfb (by have:=h.r1;omega)
 have t12:BN 12=true:=Bg (by decide) (by decide)
 have t60:BN 60=true:=Bg (by decide) (by decide)
 have t96:BN 96=true:=Bg (by decide) (by decide)
 have Cu:Ah (AB rs) (a:Int)=some (.tup [.str (mk w),.lst (AB g)]):=by
  refine BL (by omega) ?_
  rw[BV,ya7,yba,ya0 ha,er]
  rfl
 have lr2:=h.r2;have c1:B0 (AB rs) none (some (a:Int))=AB (rs.take a):=by rw[zlo _ (by rw[Aw];omega),K6]
 have c2:B0 (AB rs) (some (a:Int)) none=AB (rs.drop a):=by rw[OI _ (by rw[Aw];omega),NY]
 have c3:B0 (AB rs) (some ((a:Int)+1)) none=AB (rs.drop (a+1)):=by rw[show(a:Int)+1=((a+1:Nat):Int) by omega,OI _ (by rw[Aw];omega),NY]
 have hrsm:∀r∈rs,Sm 4 r/\EK r:=λr hr=>by
  obtain⟨_,k2,k3⟩:=K8 hok (h.rr r hr);exact⟨k3.mono (by decide),k2⟩
 have n1:(rs.take a).length=a:=by rw[yb2];omega
 have n2:(rs.drop a).length=rs.length - a:=ybm;have n3:(rs.drop (a+1)).length=rs.length - (a+1):=ybm;have st1:=AS (rs.take a);have st2:=AS (rs.drop a);have st3:=AS (rs.drop (a+1));show ∃u t,Ay (KH [some (.int c),some (.lst (AB rs)),some (.lst (AF (WS f n))),some (.lst (AF (NS f))),none,none,none,none,none,none])=_/\_;unfold KH
 rw[AZ (τ':=[some (.int c),some (.lst (AB rs)),some (.lst (AF (WS f n))),some (.lst (AF (NS f))),some (.int a),none,none,none,none,none]) (by
  rw[<- ea];generalize AB rs=R at *
  simp![t12,sr,AJ _ sr,rl,m0])]
 rw[AZ (τ':=[some (.int c),some (.lst (AB rs)),some (.lst (AF (WS f n))),some (.lst (AF (NS f))),some (.int a),none,none,some (.str (mk w)),some (.lst (AB g)),none]) (by
  generalize AB rs=R at *;generalize AB g=G at *
  simp![sr,AJ _ sr,sg,AJ _ sg,Cu])]
 rw[AZ (τ':=[some (.int c),some (.lst (AB rs)),some (.lst (AF (WS f n))),some (.lst (AF (NS f))),some (.int a),some .non,none,some (.str (mk w)),some (.lst (AB g)),none]) (by simp![])]
 rw[AZ (τ':=DP c (AB rs) f n a w (AB g) (some .non) none) (by simp![])]
 by_cases w0:c.fmod 12=0
 .have b0:(c.fmod 12 == 0)=true:=by rw[w0];rfl
  obtain⟨j0,j1⟩:=BF (c:=c.fdiv 12) (n:=4) (by decide)
  have q:∃u t,Ah [T.own [],.non,.tup (AB rs),.dic [] []] ((c.fdiv 12).fmod 4)=some u/\u.share=AD t/\LM (WS f n) t:=by
   have hj:(c.fdiv 12).fmod 4=0\/(c.fdiv 12).fmod 4=1\/(c.fdiv 12).fmod 4=2\/(c.fdiv 12).fmod 4=3:=by omega
   rcases hj with e|e|e|e<;>rw[e]
   .exact⟨_,.lst [],BL (by decide) rfl,rfl,.inl (.lst λx hx=>absurd hx yac),λl e=>(by injection e with e;subst e;exact⟨by decide,λx hx=>absurd hx yac⟩),rfl⟩
   .exact⟨_,.non,BL (by decide) rfl,rfl,.inl .non,λl e=>(by cases e),rfl⟩
   .exact⟨_,.tup rs,BL (by decide) rfl,(by rw[T.share,AJ _ sr];rfl),.inl (.tup λx hx=>(hrsm x hx).1),λl e=>(by cases e),rfl⟩
   .exact⟨_,.dic,BL (by decide) rfl,rfl,.inr rfl,λl e=>(by cases e),rfl⟩
  obtain⟨u,t,e1,e2,e3⟩:=q;refine⟨u,t,?_,e2,e3⟩
  rw[DA (t:=u) (by
   generalize AB rs=R at *
   simp![As,b0,t12,sr,AJ _ sr,e1])]
  rfl
 have b0:(c.fmod 12 == 0)=false:=by rw[yfa];exact w0
 rw[AZ (τ':=DP c (AB rs) f n a w (AB g) (some .non) none) (by simp![As,b0])]
 by_cases w1:c.fmod 12=1
 .have b1:(c.fmod 12 == 1)=true:=by rw[w1];rfl
  obtain⟨j0,j1⟩:=BF (c:=c.fdiv 60) (n:=(rs.length:Int)) (by omega)
  obtain⟨j,ej⟩:=yar j0;have hj:j<rs.length:=by omega
  obtain⟨w',g',er',hwb',hwo',hg'⟩:=h.rr rs[j] (yb3 hj)
  have Dt:Ah (AB rs) (j:Int)=some (.tup [.str (mk w'),.lst (AB g')]):=by
   refine BL (by omega) ?_
   rw[BV,ya7,yba,ya0 hj,er']
   rfl
  have at3:=E8 (.str (mk w')) [.lst (AB g')];have sg':=AS g';have em:AB (rs.take a++[.tup [.str w',.lst []]]++rs.drop a)=AB (rs.take a)++[.tup [.str (mk w'),.lst []]]++AB (rs.drop a):=by rw[CA,CA];rfl
  have sm:A7 (AB (rs.take a)++[.tup [.str (mk w'),.lst []]]++AB (rs.drop a))=true:=by rw[<- em];exact AS _
  have sm1:A7 (AB (rs.take a)++[.tup [.str (mk w'),.lst []]])=true:=by rw[show([.tup [.str (mk w'),.lst []]]:List T)=AB [.tup [.str w',.lst []]] from rfl,<- CA];exact AS _
  have z1:((AB (rs.take a)).length+1<=AQ)=True:=yf8 (by rw[Aw,n1];unfold AQ;omega)
  have z2:((AB (rs.take a)++[T.tup [.str (mk w'),.lst []]]).length+(AB (rs.drop a)).length<=AQ)=True:=yf8 (by rw[yad,Aw,Aw,n1,n2];show _+1+_<=_;unfold AQ;omega)
  refine⟨.own (AB (rs.take a)++[.tup [.str (mk w'),.lst []]]++AB (rs.drop a)),.lst (rs.take a++[.tup [.str w',.lst []]]++rs.drop a),?_,by rw[T.share,AJ _ sm,<- em];rfl,Px (λr hr=>hrsm r (yay hr)) (λr hr=>hrsm r (yc5 hr)) ⟨.tup (En (.str hwo') (.lst λx hx=>absurd hx yac)),Gr hwo' λl e=>by injection e with e;subst e;exact⟨by decide,λx hx=>absurd hx yac⟩⟩ (by omega) ?_⟩
  .rw[DA (t:=.own (AB (rs.take a)++[T.tup [.str (mk w'),.lst []]]++AB (rs.drop a))) (by
    generalize AB (rs.take a)=X1 at *;generalize AB (rs.drop a)=X2 at *;generalize AB g'=G at *;generalize AB rs=R at *
    simp![As,b1,t60,ej,Dt,at3,c1,c2,z1,z2,rl,m0,sm1,AJ _ sm1,sr,AJ _ sr,st1,AJ _ st1,st2,AJ _ st2,sg',AJ _ sg'])]
   rfl
  .have hu:Bp ((rs.take a++[Hv.tup [.str w',.lst []]]++rs.drop a).map A6)=false:=ye8 λz=>by
    rw[yb9,yb9]at z
    have hw:w'∈(rs.take a++rs.drop a).map A6:=by
     rw[List.take_append_drop];exact yat.mpr ⟨rs[j],yb3 hj,by rw[er'];rfl⟩
    rw[yb9]at hw;obtain⟨z1,z2,z3⟩:=yd6.mp z
    rcases yaj.mp hw with hw|hw
    .exact(yd6.mp z1).2.2 w' hw w' (ya3.mpr rfl) rfl
    .exact z3 w' (yak _ (ya3.mpr rfl)) w' hw rfl
   rw[DC,hu,yaf,yaf]
 have b1:(c.fmod 12 == 1)=false:=by rw[yfa];exact w1
 rw[AZ (τ':=DP c (AB rs) f n a w (AB g) (some .non) none) (by simp![As,b1])]
 have hgd:Ha (.lst g):=λl e=>by
  injection e with e
  subst e;exact⟨by have:=hg.1;omega,g2⟩
 refine Lm (P:=λτ=>∃o x9,τ=DP c (AB rs) f n a w (AB g) (some (AD o)) x9/\NoR (WS f n) o) (λr=>∃u t,Ay r=some (.ok u)/\u.share=AD t/\LM (WS f n) t) ?_ ?_
 .by_cases w5:c.fmod 12<5
  .have b5:decide (c.fmod 12<5)=true:=yer w5;obtain⟨t,e1,h1,h2,h3⟩:=Rl h.nm h.n1 h.n7 (c.fdiv 12) (.inl ⟨rfl,rfl⟩);have hs:=A5 t;have em:AB (g++[t])=AB g++[AD t]:=by rw[CA];rfl
   have sm:A7 (AB g++[AD t])=true:=by rw[<- em];exact AS _
   have z1:((AB g).length+1<=AQ)=True:=yf8 (by rw[Aw];have:=hg.1;unfold AQ;omega)
   refine⟨DP c (AB rs) f n a w (AB g) (some (AD (.tup [.str w,.lst (g++[t])]))) none,?_,_,_,rfl,.tup (En (.str hwo) ((Sm.lst (n:=2) λx hx=>?_).mono (by decide))),Gr hwo λl e=>?_,?_⟩
   .show _=some (Out.nx (DP c (AB rs) f n a w (AB g) (some (.tup [.str (mk w),.lst (AB (g++[t]))])) none));rw[em];generalize AD t=T1 at *;generalize AB g=G at *;generalize AB rs=R at *
    simp![b5,t12,e1,hs,AN _ hs,Aa,A2,sg,AJ _ sg,z1,sm,AJ _ sm]
   .rcases yaj.mp hx with hx|hx
    .cases g3 with|lst z=>exact(z x hx).mono (by decide)
    .rw[ya3.mp hx];exact h1.mono (by decide)
   .injection e with e
    subst e;refine⟨by rw[yad];have:=hg.1;show _+1<=_;omega,λx hx=>?_⟩
    rcases yaj.mp hx with hx|hx
    .exact g2 x hx
    .rw[ya3.mp hx];exact h2
   .have:(g++[t]).all (F9 (WS f n) Bu)=false:=by
     rw[ybp];exact⟨t,by simp,by rw[h3];decide⟩
    show(DD w && (g++[t]).all (F9 (WS f n) Bu))=false;rw[this,yaf]
  have b5:decide (c.fmod 12<5)=false:=ye8 w5
  by_cases w8:c.fmod 12<8
  .have b8:decide (c.fmod 12<8)=true:=yer w8;obtain⟨j0,j1⟩:=BF (c:=c.fdiv 60) (n:=6) (by decide)
   obtain⟨o,ho,eo⟩:=EH [.tup [.str w],.lst [.str w,.lst g],.str w,.tup [.str w,.lst g,.lst g],.tup [.str w,.non],.tup [.str w,.tup (g++[.tup []])]] j0 j1;have em:AB (g++[.tup []])=AB g++[.tup []]:=by rw[CA];rfl
   have eL:AB [.tup [.str w],.lst [.str w,.lst g],.str w,.tup [.str w,.lst g,.lst g],.tup [.str w,.non],.tup [.str w,.tup (g++[.tup []])]]=[.tup [.str (mk w)],.lst [.str (mk w),.lst (AB g)],.str (mk w),.tup [.str (mk w),.lst (AB g),.lst (AB g)],.tup [.str (mk w),.non],.tup [.str (mk w),.tup (AB g++[.tup []])]]:=by
    rw[<- em]
    rfl
   have sL:=AS [.tup [.str w],.lst [.str w,.lst g],.str w,.tup [.str w,.lst g,.lst g],.tup [.str w,.non],.tup [.str w,.tup (g++[.tup []])]];have sm:A7 (AB g++[.tup []])=true:=by rw[<- em];exact AS _
   have z1:((AB g).length+1<=AQ)=True:=yf8 (by rw[Aw];have:=hg.1;unfold AQ;omega)
   have hs:=A5 o;rw[eL]at eo sL;refine⟨DP c (AB rs) f n a w (AB g) (some (AD o)) (some (.lst [.tup [.str (mk w)],.lst [.str (mk w),.lst (AB g)],.str (mk w),.tup [.str (mk w),.lst (AB g),.lst (AB g)],.tup [.str (mk w),.non],.tup [.str (mk w),.tup (AB g++[.tup []])]])),?_,_,_,rfl,?_⟩
   .generalize AD o=O at *;generalize AB g=G at *;generalize AB rs=R at *
    simp![b5,b8,t60,eo,hs,AN _ hs,sg,AJ _ sg,z1,sm,AJ _ sm]
   .have g3':Sm 3 (.lst g):=g3.mono (by decide)
    have gt:Sm 3 (.tup (g++[.tup []])):=.tup λx hx=>by
     rcases yaj.mp hx with hx|hx
     .cases g3 with|lst z=>exact(z x hx).mono (by decide)
     .rw[ya3.mp hx];exact .tup λx hx=>absurd hx yac
    simp only[ya9,yac,yf3]at ho
    rcases ho with rfl|rfl|rfl|rfl|rfl|rfl
    .exact⟨.tup λx hx=>(by rw[ya3.mp hx];exact .str hwo),λ_ _ e=>(by cases e),rfl⟩
    .exact⟨.lst (En (.str hwo) g3'),λ_ _ e=>(by cases e),rfl⟩
    .exact⟨.str hwo,λ_ _ e=>(by cases e),rfl⟩
    .refine⟨.tup λx hx=>?_,λ_ _ e=>(by cases e),rfl⟩
     simp only[ya9,yac,yf3,or_self]at hx
     rcases hx with rfl|rfl
     .exact .str hwo
     .exact g3'
    .exact⟨.tup (En (.str hwo) .non),Gr hwo λ_ e=>(by cases e),yaf _⟩
    .exact⟨.tup (En (.str hwo) gt),Gr hwo λ_ e=>(by cases e),yaf _⟩
  have b8:decide (c.fmod 12<8)=false:=ye8 w8
  by_cases w9:c.fmod 12=8
  .have b9:(c.fmod 12 == 8)=true:=by rw[w9];rfl
   have z0:(2<=16)=True:=yf8 (by decide)
   have z1:(60+1<=AQ)=True:=yf8 (by unfold AQ;omega)
   refine⟨DP c (AB rs) f n a w (AB g) (some (AD (.tup [.str Im,.lst g]))) none,?_,_,_,rfl,.tup (En (.str (BR (by decide) (by decide))) (g3.mono (by decide))),Gr (BR (by decide) (by decide)) hgd,?_⟩
   .show _=some (Out.nx (DP c (AB rs) f n a w (AB g) (some (.tup [.str (mk Im),.lst (AB g)])) none));rw[<- l_61];generalize AB g=G at *;generalize AB rs=R at *;have y0:((0:Int)<=30)=True:=yf8 (by decide)
    have y1:((30:Int)<=1000000)=True:=yf8 (by decide)
    have y2:=l_61l;have y3:=l_as;have y4:=l_a1l
    simp![b5,b8,b9,As,sg,AJ _ sg,y0,y1,y2,y3,y4,z0,z1]
   .have:DD Im=false:=by decide
    show(DD Im && CB (WS f n) Bu (.lst g))=false;rw[this,yav]
  have b9:(c.fmod 12 == 8)=false:=by rw[yfa];exact w9
  obtain⟨t,e1,h1,h2,h3⟩:=Rk h.nm (c.fdiv 12);have hs:=A5 t;obtain⟨j0,j1⟩:=BF (c:=c.fdiv 96) (n:=4) (by decide)
  obtain⟨x,hx,ex⟩:=EH [t,.str [97,32,98],.str [97,92,98],.str [97,49]] j0 j1;have eL:AB [t,.str [97,32,98],.str [97,92,98],.str [97,49]]=[AD t,.str (mk [97,32,98]),.str (mk [97,92,98]),.str (mk [97,49])]:=rfl;rw[eL]at ex
  have hx1:Sm 1 x/\(x=.str [97,98,99,100,101,102,103,104,105]\/Dx x=false):=by
   simp only[ya9,yac,yf3]at hx
   rcases hx with rfl|rfl|rfl|rfl
   .exact⟨h1,h3⟩
   .exact⟨.str (BR (by decide) (by decide)),.inr (by decide)⟩
   .exact⟨.str (BR (by decide) (by decide)),.inr (by decide)⟩
   .exact⟨.str (BR (by decide) (by decide)),.inr (by decide)⟩
  obtain⟨b,eb,hb⟩:=eqH hx1.1 (v:=[97,98,99,100,101,102,103,104,105]) (BR (by decide) (by decide))
  have hxs:=A5 x
  have pr:∀y:Hv,Sm 1 y->EK (.tup [y,.lst g]):=λy hy a' b' e=>by
   injection e with e
   injection e with e1 e
   injection e with e2 e
   subst e1;subst e2;refine⟨?_,hgd⟩;cases hy with
   |str h=>exact h
   |_=>trivial
  have FI:=E8 (AD x) [.lst (AB g)];cases b with
  |false =>
   refine⟨DP c (AB rs) f n a w (AB g) (some (AD (.tup [x,.lst g]))) none,?_,_,_,rfl,.tup (En (hx1.1.mono (by decide)) (g3.mono (by decide))),pr x hx1.1,?_⟩
   .show _=some (Out.nx (DP c (AB rs) f n a w (AB g) (some (.tup [AD x,.lst (AB g)])) none));generalize AD x=X at *;generalize AD t=T1 at *;generalize AB g=G at *;generalize AB rs=R at *
    simp![b5,b8,b9,As,t12,t96,e1,ex,hs,AN _ hs,hxs,AN _ hxs,Aa,A2,sg,AJ _ sg,Sg,Sh,Si,NG,FI,eb]
   .show(Dx x && CB (WS f n) Bu (.lst g))=false;rw[hx1.2.resolve_left (hb rfl),yav]
  |true =>
   refine⟨DP c (AB rs) f n a w (AB g) (some (AD (.tup [.int 5,.lst g]))) none,?_,_,_,rfl,.tup (En .int (g3.mono (by decide))),pr (.int 5) .int,rfl⟩
   show _=some (Out.nx (DP c (AB rs) f n a w (AB g) (some (.tup [.int 5,.lst (AB g)])) none));generalize AD x=X at *;generalize AD t=T1 at *;generalize AB g=G at *;generalize AB rs=R at *
   simp![b5,b8,b9,As,t12,t96,e1,ex,hs,AN _ hs,hxs,AN _ hxs,Aa,A2,sg,AJ _ sg,Sg,Sh,Si,NG,FI,eb]
 .rintro τ ⟨o,x9,rfl,h1,h2,h3⟩;have hs:=A5 o;have em:AB (rs.take a++[o]++rs.drop (a+1))=AB (rs.take a)++[AD o]++AB (rs.drop (a+1)):=by rw[CA,CA];rfl
  have sm:A7 (AB (rs.take a)++[AD o]++AB (rs.drop (a+1)))=true:=by rw[<- em];exact AS _
  have sm1:A7 (AB (rs.take a)++[AD o])=true:=by rw[show [AD o]=AB [o] from rfl,<- CA];exact AS _
  have z1:((AB (rs.take a)).length+1<=AQ)=True:=yf8 (by rw[Aw,n1];unfold AQ;omega)
  have z2:((AB (rs.take a)++[AD o]).length+(AB (rs.drop (a+1))).length<=AQ)=True:=yf8 (by rw[yad,Aw,Aw,n1,n3];show _+1+_<=_;unfold AQ;omega)
  refine⟨.own (AB (rs.take a)++[AD o]++AB (rs.drop (a+1))),.lst (rs.take a++[o]++rs.drop (a+1)),?_,by rw[T.share,AJ _ sm,<- em];rfl,Px (λr hr=>hrsm r (yay hr)) (λr hr=>hrsm r (yc5 hr)) ⟨h1,h2⟩ (by omega) (rs_no (t:=o) (by simp) h3)⟩
  generalize AD o=O at *;generalize AB (rs.take a)=X1 at *;generalize AB (rs.drop (a+1))=X2 at *;generalize AB rs=R at *
  simp![c1,c3,z1,z2,sm1,AJ _ sm1,hs,AN _ hs,sr,AJ _ sr,st1,AJ _ st1,st3,AJ _ st3,Ay]
abbrev ML:Stmt:=A9 48
def KI:AE->Option Out :=
 (AL (AX (m2 A8 (AA 0) (mC (.int 9))) (AK 4))
 (AL (AX (AA 1) (Ct 5 (BW (AK 6) (BW (AK 7) (BW (AK 8) (BW (AK 9) (BW (AK 5) DL)))))))
 (AL (Aj (m2 BH (AA 4) (mC (.int 0))) (Ab (Al (AG (AW (A4 (AI (mC .non) (AI (Al (AG (AA 6) (AG (AA 7) (AG (A4 AH) (AG (A4 AH) (AG (mC (.str "")) AH)))))) (AI (AA 6) (AI (A4 (AI (AA 1) AH)) AH))))) (m2 A8 (m2 Ap (AA 0) (mC (.int 9))) (mC (.int 4)))) AH))) Ak)
 (AL (Aj (m2 BH (AA 4) (mC (.int 1))) (Ab (Al (AG (AW (A4 (AI (AW (AA 3) (mC (.int 30))) (AI (mC (.str "")) (AI (mC .non) (AI (mC (.int 0)) AH))))) (m2 A8 (m2 Ap (AA 0) (mC (.int 9))) (mC (.int 4)))) (AG (AA 7) (AG (AA 8) (AG (AA 9) (AG (AA 5) AH))))))) Ak)
 (AL (Aj (m2 BH (AA 4) (mC (.int 2))) (Ab (Al (AG (AA 6) (AG (AW (A4 (AI (AW (AA 3) (mC (.int 30))) (AI (mC (.str "")) (AI (mC .non) (AI (mC (.int 0)) AH))))) (m2 A8 (m2 Ap (AA 0) (mC (.int 9))) (mC (.int 4)))) (AG (AA 8) (AG (AA 9) (AG (AA 5) AH))))))) Ak)
 (AL (Aj (m2 (C6 λi j=>decide (i<j)) (AA 4) (mC (.int 5))) (Ab (Al (AG (AA 6) (AG (AA 7) (AG (m2 Ai (AA 8) (A4 (AI (Ac LO (AG (m2 Ap (AA 0) (mC (.int 9))) (AG (AA 2) (AG (AA 3) (AG (mC (.int 5)) AH))))) AH))) (AG (AA 9) (AG (AA 5) AH))))))) Ak)
 (AL (Aj (m2 BH (AA 4) (mC (.int 5))) (Ab (Al (AG (AA 6) (AG (AA 7) (AG (AW (A4 (AI (mC .non) (AI (m1 EO (AA 8)) (AI (Al (AG (mC (.str "x")) (AG (mC (.str "<")) (AG (mC (.int 1)) AH)))) (AI (mC (.int 0)) AH))))) (m2 A8 (m2 Ap (AA 0) (mC (.int 9))) (mC (.int 4)))) (AG (AA 9) (AG (AA 5) AH))))))) Ak)
 (AL (Aj (m2 BH (AA 4) (mC (.int 6))) (AL (AX (AW (A4 (AI (A4 (AI (AW (AA 2) (mC (.int 0))) (AI (AW (AA 2) (mC (.int 0))) AH))) (AI (A4 (AI (AW (AA 3) (mC (.int 30))) AH)) (AI (A4 (AI (mC .non) AH)) (AI (mC .non) (AI (m1 EO (AA 2)) (AI (AW (AA 2) (mC (.int 0))) (AI (A4 (AI (mC (.int 1)) AH)) AH)))))))) (m2 A8 (m2 Ap (AA 0) (mC (.int 9))) (mC (.int 7)))) (AK 10))
 (Ab (Al (AG (AA 6) (AG (AA 7) (AG (AA 8) (AG (AA 10) (AG (AA 5) AH)))))))) Ak)
 (AL (AX (AW (A4 (AI (mC (.str "!")) (AI (mC (.str "?")) (AI (mC (.str "go")) (AI (mC (.str "go!!")) (AI (mC (.str "go?!")) (AI (mC (.str "!go")) (AI (mC (.str "Go!")) (AI (mC (.str "go ?")) (AI (mC (.str "abcdefghi!")) (AI (mC .non) (AI (mC (.int 0)) (AI (mC (.str "/!")) (AI (mC (.str "a/b?")) AH)))))))))))))) (m2 A8 (m2 Ap (AA 0) (mC (.int 9))) (mC (.int 13)))) (AK 5))
 (Ab (Al (AG (AA 6) (AG (AA 7) (AG (AA 8) (AG (AA 9) (AG (AA 5) AH))))))))))))))))
def Oe:List T->Option Ru:=BE 4 11 KI
abbrev Np:Fn:=⟨2,["_law_cell","_law_door","_law_watches","_law_names_here"],Oe⟩
abbrev Tf:Gm:=⟨["_law_cell","_law_door","_law_watches","_law_names_here","_law_way","_law_sign","_law_begin","_law_end","_law_guard","_law_noughts","_law_wrong"],(AO ML).names,[],1,[("_law_no_look",Ki)],["tuple"],[],[],[],false,[],[],[],Bm⟩
theorem zal:FnScope Tf.N Np.ps (AO ML):=BM (by decide +kernel)
theorem zar:Av 200 Tf (Ao ML)=some KI:=by ext
theorem VD{Us:List T}{L:List Hv}(h:AV Us=AB L){i:Int}(h0:0<=i)(h1:i<L.length):∃u,∃x∈L,Ah Us i=some u/\u.share=AD x:=by
 have hl:Us.length=L.length:=by
  have:=congrArg List.length h
  rwa[Dh,ya5,Aw]at this
 have hi:i.toNat<L.length:=by omega
 have hu:i.toNat<Us.length:=by omega
 refine⟨Us[i.toNat],L[i.toNat],yb3 hi,BL h0 (ya0 hu),?_⟩;have e:=congrArg (λl:List T=>l[i.toNat]?) h
 simp only[Dh,BV,ya7,ya0 hi,ya0 hu,ybj,yd5]at e;exact e
def VI(ws ns:List W)(t:Hv):Prop:=Sm 6 t/\Ed t/\G3 ws ns t=false
def P1(s:Hv):Prop:=Sm 0 s/\Dw s
def P2(g:Hv):Prop:=Sm 3 g/\Ha g
def P3(n:Hv):Prop:=Sm 1 n/\∀l,n=.lst l->l.length<1000
theorem Kj{s e g n z:Hv}(h1:P1 s)(h2:P1 e)(h3:P2 g)(h4:P3 n)(h5:Sm 0 z):Sm 4 (.tup [s,e,g,n,z])/\Ed (.tup [s,e,g,n,z]):=by
 refine⟨.tup λx hx=>?_,.inr ⟨s,e,g,n,z,rfl,h1.2,h2.2,h3.2,⟨h4.1.ok,h4.2⟩,h5.ok⟩⟩
 simp only[ya9,yac,yf3]at hx
 rcases hx with rfl|rfl|rfl|rfl|rfl
 .exact h1.1.mono (by decide)
 .exact h2.1.mono (by decide)
 .exact h3.1
 .exact h4.1.mono (by decide)
 .exact h5.mono (by decide)
theorem HP{ws ns:List W}{s e g n z:Hv}(h1:P1 s)(h2:P1 e)(h3:P2 g)(h4:P3 n)(h5:Sm 0 z)(hb:(Bs ns s && (Bs ns e && (CB ws CN g && (Cm ws n && Eo z))))=false):VI ws ns (.tup [s,e,g,n,z]):=⟨(Kj h1 h2 h3 h4 h5).1.mono (by decide),(Kj h1 h2 h3 h4 h5).2,hb⟩
theorem Jr{w:W}(h:Ok w):P1 (.str w):=⟨.str h,h⟩
theorem p2_gd{ws wd:List W}(hw:∀w∈ws,Ok w)(hd:wd=Bu\/wd=CN){g:List Hv}(h:G9 ws wd g):P2 (.lst g):=by
 obtain⟨_,g2,g3⟩:=Ka hw hd h;refine⟨g3.mono (by decide),λl e=>?_⟩
 injection e with e
 subst e;exact⟨by have:=h.1;omega,g2⟩
theorem Mb{ws:List W}(hw:∀w∈ws,Ok w)(hl:ws.length<1000):P3 (.lst (ws.map .str)):=⟨.lst (ER hw),λl e=>by
 injection e with e
 subst e;rw[ya5];exact hl⟩
theorem zf1{ws:List W}(hb:∀w∈ws,C9 w=true)(hu:ws.Nodup)(k:Nat):Cm ws (.lst ((ws.take k).map .str))=true:=by
 rw[Cm,Ek,yds];have h1:(ws.take k).all (Bd ∘ Hv.str)=true:=yam.mpr λw hw=>hb w (yay hw)
 have h2:(ws.take k).all C9=true:=yam.mpr λw hw=>hb w (yay hw)
 have h3:Bp (ws.take k)=true:=yer (hu.sublist (List.take_sublist k ws));have h4:((ws.take k).all λx=>decide (x∈ws))=true:=yam.mpr λw hw=>yer (yay hw)
 rw[h1,F6,h2,h3,h4]
 rfl
section
variable {f:Nat->W}{n:Nat}{rs ds:List Hv}(h:GP f n rs ds)
include h
theorem GP.no(w:W)(hw:DD w=false):w∉rs.map A6:=λhm=>by
 obtain⟨r,hr,rfl⟩:=yat.mp hm;obtain⟨w,g,rfl,hb,_⟩:=h.rr r hr;exact absurd (hb.symm.trans hw) (by decide)
theorem GP.nok(w:W)(hw:w∈rs.map A6):Ok w:=by
 obtain⟨r,hr,rfl⟩:=yat.mp hw;obtain⟨w,g,rfl,_,ho,_⟩:=h.rr r hr;exact ho
theorem Rm(k:Nat):C9 (f k)=true:=by
 have h1:=h.nm.l2 k;have h2:(f k).all Cd=true:=yam.mpr λc hc=>yer (h.nm.ab k c hc)
 unfold C9 GL;rw[h2,yer (show 1<=(f k).length/\(f k).length<=8 by omega),ye2,ycf]
theorem VH:(WS f n).Nodup:=by
 rw[List.Nodup,ye5];refine List.nodup_range.imp_of_mem λ{i j} hi hj hij e=>hij (h.nm.un i j ?_ ?_ e)
 .have:=ybn.mp hi;have:=h.n7
  omega
 .have:=ybn.mp hj;have:=h.n7
  omega
theorem N5{d:Hv}(hd:JH (WS f n) (rs.map A6) d):∃(s e:W) (g:List Hv) (q:List W) (z:W),d=.tup [.str s,.str e,.lst g,.lst (q.map .str),.str z]/\s∈rs.map A6/\e∈rs.map A6/\CB (WS f n) CN (.lst g)=true/\Cm (WS f n) (.lst (q.map .str))=true/\FV z=true/\P1 (.str s)/\P1 (.str e)/\P2 (.lst g)/\P3 (.lst (q.map .str))/\Ok z/\g.length<=1/\(∀k∈g,JF k):=by
 obtain⟨s,e,g,q,z,rfl,h1,h2,h3,⟨k,rfl⟩,h5,h6⟩:=hd;have hok:=FK h.nm n;obtain⟨k1,k2,k3⟩:=Ka hok (.inr rfl) h3
 have hl:((WS f n).take k).length<1000:=by
  rw[yb2,ya5,ybg];have:=h.n7
  omega
 exact⟨s,e,g,_,z,rfl,h1,h2,k1,zf1 (λw hw=>by obtain⟨j,_,rfl⟩:=Fk hw;exact Rm h j) (VH h) k,h5,Jr (h.nok s h1),Jr (h.nok e h2),p2_gd hok (.inr rfl) h3,Mb (λw hw=>hok w (yay hw)) hl,h6,h3.1,k2⟩
end
theorem l_x:Str.ofString "x"=mk [120]:=Tx.cs_ext (by decide +kernel)
abbrev Pn:List W:=[[33],[63],[103,111],[103,111,33,33],[103,111,63,33],[33,103,111],[71,111,33],[103,111,32,63],[97,98,99,100,101,102,103,104,105,33]]
abbrev Lp:List Hv:=Pn.map .str++[.non,.int 0,.str [47,33],.str [97,47,98,63]]
theorem zgg:(Lp.length:Int)=13:=rfl
theorem sg_T:[T.str "!",.str "?",.str "go",.str "go!!",.str "go?!",.str "!go",.str "Go!",.str "go ?",.str "abcdefghi!",.non,.int 0,.str "/!",.str "a/b?"]=AB Lp:=by
 have e:∀(x:String) (w:W),Tx.cs (Str.ofString x)=w->T.str (Str.ofString x)=.str (mk w):=λx w h=>congrArg T.str (Tx.cs_ext h)
 rw[e "!" [33] (by decide +kernel),e "?" [63] (by decide +kernel),e "go" [103,111] (by decide +kernel),e "go!!" [103,111,33,33] (by decide +kernel),e "go?!" [103,111,63,33] (by decide +kernel),e "!go" [33,103,111] (by decide +kernel),e "Go!" [71,111,33] (by decide +kernel),e "go ?" [103,111,32,63] (by decide +kernel),e "abcdefghi!" [97,98,99,100,101,102,103,104,105,33] (by decide +kernel),e "/!" [47,33] (by decide +kernel),e "a/b?" [97,47,98,63] (by decide +kernel)]
 rfl
abbrev FQ(c:Int)(D:T)(f:Nat->W)(n:Nat)(s e:W)(g q:List T)(z:T)(x:Option T):AE:=[some (.int c),some D,some (.lst (AF (WS f n))),some (.lst (AF (NS f))),some (.int (c.fmod 9)),some z,some (.str (mk s)),some (.str (mk e)),some (.lst g),some (.lst q),x]
theorem zbv{f:Nat->W}{n:Nat}{rs ds:List Hv}(h:GP f n rs ds)(c:Int){d:Hv}(hd:JH (WS f n) (rs.map A6) d):∃t,Oe [.int c,AD d,.lst (AF (WS f n)),.lst (AF (NS f))]=some (.ok (AD t))/\VI (WS f n) (rs.map A6) t:=by
 obtain⟨s,e,g,q,z,ed,hs,he,hg,hq,hz,ps,pe,pg,pq,pz,gl,gk⟩:=N5 h hd;have hok:=FK h.nm n
 have dT:AD d=.tup [.str (mk s),.str (mk e),.lst (AB g),.lst (AF q),.str (mk z)]:=by
  rw[ed,<- Co]
  rfl
 have sd:=A5 d;have sg:=AS g;have sq':A7 (AF q)=true:=Aa _;have eq':AV (AF q)=AF q:=A2 _;have n30:Ah (AF (NS f)) 30=some (.str (mk (f 30))):=JD (k:=30) (by decide)
 have a0:Ah (AF (WS f n)) 0=some (.str (mk (f 0))):=by
  refine BL (by decide) ?_
  rw[Cf,ya7,ya7,ybh (by have:=h.n1;show 0<n;omega)]
  rfl
 have t9:BN 9=true:=Bg (by decide) (by decide)
 obtain⟨i0,i1⟩:=BF (c:=c.fdiv 9) (n:=4) (by decide)
 have sm0:Sm 0 (.str z):=.str pz;have dsm:Sm 4 d:=by rw[ed];exact(Kj ps pe pg pq sm0).1
 have NV:∀w∈rs.map A6,Bs (rs.map A6) (.str w)=true:=λw hw=>yer hw
 have odd:∀x∈[Hv.str (f 30),.str [],.non,.int 0],P1 x/\Bs (rs.map A6) x=false:=by
  intro x hx;simp only[ya9,yac,yf3]at hx
  rcases hx with rfl|rfl|rfl|rfl
  .exact⟨Jr (DH h.nm 30),ye8 h.r30⟩
  .exact⟨Jr (BR (by decide) (by decide)),ye8 (h.no [] (by decide))⟩
  .exact⟨⟨.non,trivial⟩,rfl⟩
  .exact⟨⟨.int,trivial⟩,rfl⟩
 have oddT:AB [Hv.str (f 30),.str [],.non,.int 0]=[.str (mk (f 30)),.str (mk []),.non,.int 0]:=rfl;show ∃t,Ay (KI [some (.int c),some (AD d),some (.lst (AF (WS f n))),some (.lst (AF (NS f))),none,none,none,none,none,none,none])=_/\_;unfold KI;rw[AZ (τ':=[some (.int c),some (AD d),some (.lst (AF (WS f n))),some (.lst (AF (NS f))),some (.int (c.fmod 9)),none,none,none,none,none,none]) (by simp![])]
 rw[AZ (τ':=FQ c (AD d) f n s e (AB g) (AF q) (.str (mk z)) none) (by
  rw[dT];generalize AF q=Q at *;generalize AB g=G at *
  simp![sg,AJ _ sg,sq',eq'])]
 by_cases w0:c.fmod 9=0
 .have b0:(c.fmod 9 == 0)=true:=by rw[w0];rfl
  have eU:AV [.non,.tup [.str (mk s),.str (mk e),.lst [],.lst [],.str (mk [])],.str (mk s),.own [AD d]]=AB [.non,.tup [.str s,.str e,.lst [],.lst [],.str []],.str s,.lst [d]]:=by
   show [T.non,.tup [.str (mk s),.str (mk e),.lst [],.lst [],.str (mk [])],.str (mk s),.lst [(AD d).share]]=_;rw[AN _ sd]
   rfl
  obtain⟨u,x,hx,eu,ex⟩:=VD eU i0 i1;refine⟨.tup [x],?_,.tup λy hy=>?_,.inl ⟨x,rfl⟩,rfl⟩
  .rw[DA (t:=AD (.tup [x])) (by
    show _=some (Out.rt (.tup [AD x]));generalize AD d=D at *;generalize AD x=X at *;generalize AF q=Q at *;generalize AB g=G at *
    simp![As,b0,t9,GW,sd,AN _ sd,eu,ex])]
   rfl
  .rw[ya3.mp hy];simp only[ya9,yac,yf3]at hx
   rcases hx with rfl|rfl|rfl|rfl
   .exact .non
   .refine(Sm.tup (n:=1) λx hx=>?_).mono (by decide)
    simp only[ya9,yac,yf3,or_self]at hx
    rcases hx with rfl|rfl|rfl|rfl|rfl
    .exact ps.1.mono (by decide)
    .exact pe.1.mono (by decide)
    .exact .lst λx hx=>absurd hx yac
    .exact .lst λx hx=>absurd hx yac
    .exact .str (BR (by decide) (by decide))
   .exact ps.1.mono (by decide)
   .exact .lst λx hx=>by rw[ya3.mp hx];exact dsm
 have b0:(c.fmod 9 == 0)=false:=by rw[yfa];exact w0
 rw[AZ (τ':=FQ c (AD d) f n s e (AB g) (AF q) (.str (mk z)) none) (by simp![As,b0])]
 by_cases w1:c.fmod 9=1
 .have b1:(c.fmod 9 == 1)=true:=by rw[w1];rfl
  obtain⟨x,hx,ex⟩:=EH [Hv.str (f 30),.str [],.non,.int 0] i0 i1;rw[oddT]at ex;obtain⟨px,ix⟩:=odd x hx;have hs:=A5 x;refine⟨.tup [x,.str e,.lst g,.lst (q.map .str),.str z],?_,HP px pe pg pq sm0 (by rw[ix,yav])⟩
  rw[DA (t:=.tup [AD x,.str (mk e),.lst (AB g),.lst (AF q),.str (mk z)]) (by
   generalize AD d=D at *;generalize AD x=X at *;generalize AF q=Q at *;generalize AB g=G at *
   simp![As,b1,t9,GW,n30,Aa,A2,hs,AN _ hs,ex,sg,AJ _ sg,sq',eq'])]
  rw[<- Co]
  rfl
 have b1:(c.fmod 9 == 1)=false:=by rw[yfa];exact w1
 rw[AZ (τ':=FQ c (AD d) f n s e (AB g) (AF q) (.str (mk z)) none) (by simp![As,b1])]
 by_cases w2:c.fmod 9=2
 .have b2:(c.fmod 9 == 2)=true:=by rw[w2];rfl
  obtain⟨x,hx,ex⟩:=EH [Hv.str (f 30),.str [],.non,.int 0] i0 i1;rw[oddT]at ex;obtain⟨px,ix⟩:=odd x hx;have hs:=A5 x;refine⟨.tup [.str s,x,.lst g,.lst (q.map .str),.str z],?_,HP ps px pg pq sm0 (by rw[ix,yav,yaf])⟩
  rw[DA (t:=.tup [.str (mk s),AD x,.lst (AB g),.lst (AF q),.str (mk z)]) (by
   generalize AD d=D at *;generalize AD x=X at *;generalize AF q=Q at *;generalize AB g=G at *
   simp![As,b2,t9,GW,n30,Aa,A2,hs,AN _ hs,ex,sg,AJ _ sg,sq',eq'])]
  rw[<- Co]
  rfl
 have b2:(c.fmod 9 == 2)=false:=by rw[yfa];exact w2
 rw[AZ (τ':=FQ c (AD d) f n s e (AB g) (AF q) (.str (mk z)) none) (by simp![As,b2])]
 by_cases w5:c.fmod 9<5
 .have b5:decide (c.fmod 9<5)=true:=yer w5;obtain⟨t,e1,k1,k2,k3⟩:=Rl h.nm h.n1 h.n7 (c.fdiv 9) (.inr ⟨rfl,rfl⟩);have hs:=A5 t;have em:AB (g++[t])=AB g++[AD t]:=by rw[CA];rfl
  have sm:A7 (AB g++[AD t])=true:=by rw[<- em];exact AS _
  have z1:((AB g).length+1<=AQ)=True:=yf8 (by rw[Aw];unfold AQ;omega)
  have bad:CB (WS f n) CN (.lst (g++[t]))=false:=by
   rw[CB,ybp];exact⟨t,by simp,by rw[k3];decide⟩
  refine⟨.tup [.str s,.str e,.lst (g++[t]),.lst (q.map .str),.str z],?_,HP ps pe ⟨.lst λx hx=>?_,λl e=>?_⟩ pq sm0 (by rw[bad,yav,yaf,yaf])⟩
  .rw[DA (t:=.tup [.str (mk s),.str (mk e),.lst (AB g++[AD t]),.lst (AF q),.str (mk z)]) (by
    generalize AD d=D at *;generalize AD t=T1 at *;generalize AF q=Q at *;generalize AB g=G at *
    simp![b5,t9,e1,Aa,A2,hs,AN _ hs,z1,sm,AJ _ sm,sg,AJ _ sg,sq',eq'])]
   rw[<- Co,<- em]
   rfl
  .rcases yaj.mp hx with hx|hx
   .cases pg.1 with|lst z=>exact z x hx
   .rw[ya3.mp hx];exact k1.mono (by decide)
  .injection e with e
   subst e;refine⟨by rw[yad];show _+1<=_;omega,λx hx=>?_⟩
   rcases yaj.mp hx with hx|hx
   .exact gk x hx
   .rw[ya3.mp hx];exact k2
 have b5:decide (c.fmod 9<5)=false:=ye8 w5;rw[AZ (τ':=FQ c (AD d) f n s e (AB g) (AF q) (.str (mk z)) none) (by simp![b5])]
 by_cases w6:c.fmod 9=5
 .have b6:(c.fmod 9 == 5)=true:=by rw[w6];rfl
  obtain⟨x,hx,ex⟩:=EH [.non,.tup g,.tup [.str [120],.str [60],.int 1],.int 0] i0 i1;have eL:AB [.non,.tup g,.tup [.str [120],.str [60],.int 1],.int 0]=[.non,.tup (AB g),.tup [.str (mk [120]),.str (mk [60]),.int 1],.int 0]:=rfl;rw[eL]at ex;have hs:=A5 x
  have px:P2 x/\CB (WS f n) CN x=false:=by
   simp only[ya9,yac,yf3]at hx
   rcases hx with rfl|rfl|rfl|rfl
   .exact⟨⟨.non,λ_ e=>(by cases e)⟩,rfl⟩
   .exact⟨⟨.tup λx hx=>(by cases pg.1 with|lst z=>exact z x hx),λ_ e=>(by cases e)⟩,rfl⟩
   .exact⟨⟨(Sm.tup (Jb (.str (BR (by decide) (by decide))) (.str (BR (by decide) (by decide))) .int)).mono (by decide),λ_ e=>(by cases e)⟩,rfl⟩
   .exact⟨⟨.int,λ_ e=>(by cases e)⟩,rfl⟩
  refine⟨.tup [.str s,.str e,x,.lst (q.map .str),.str z],?_,HP ps pe px.1 pq sm0 (by rw[px.2,yav,yaf,yaf])⟩
  rw[DA (t:=.tup [.str (mk s),.str (mk e),AD x,.lst (AF q),.str (mk z)]) (by
   generalize AD d=D at *;generalize AD x=X at *;generalize AF q=Q at *;generalize AB g=G at *
   simp![As,b6,t9,l_x,HE,hs,AN _ hs,ex,sg,AJ _ sg,sq',eq'])]
  rw[<- Co]
  rfl
 have b6:(c.fmod 9 == 5)=false:=by rw[yfa];exact w6
 rw[AZ (τ':=FQ c (AD d) f n s e (AB g) (AF q) (.str (mk z)) none) (by simp![As,b6])]
 by_cases w7:c.fmod 9=6
 .have b7:(c.fmod 9 == 6)=true:=by rw[w7];rfl
  obtain⟨j0,j1⟩:=BF (c:=c.fdiv 9) (n:=7) (by decide)
  have eU:AV [.own [.str (mk (f 0)),.str (mk (f 0))],.own [.str (mk (f 30))],.own [.non],.non,.tup (AF (WS f n)),.str (mk (f 0)),.own [.int 1]]=AB [.lst ([f 0,f 0].map .str),.lst ([f 30].map .str),.lst [.non],.non,.tup ((WS f n).map .str),.str (f 0),.lst [.int 1]]:=by
   show [T.lst [.str (mk (f 0)),.str (mk (f 0))],.lst [.str (mk (f 30))],.lst [.non],.non,.tup (AV (AF (WS f n))),.str (mk (f 0)),.lst [.int 1]]=_;have e5:AV (AF (WS f n))=AB ((WS f n).map .str):=by rw[A2,Co]
   rw[e5]
   rfl
  obtain⟨u,x,hx,eu,ex⟩:=VD eU j0 j1
  have n30:f 30∉WS f n:=λhm=>by
   obtain⟨j,hj,e⟩:=Fk hm;have:=h.nm.un 30 j (by decide) (by have:=h.n7;omega) e
   have:=h.n7
   omega
  have px:P3 x/\Cm (WS f n) x=false:=by
   have o0:=DH h.nm 0;simp only[ya9,yac,yf3]at hx
   rcases hx with rfl|rfl|rfl|rfl|rfl|rfl|rfl
   .refine⟨Mb (ws:=[f 0,f 0]) (λw hw=>?_) (show 2<1000 by decide),?_⟩
    .simp only[ya9,yac,yf3,or_self]at hw;rw[hw];exact o0
    .have:Bp [f 0,f 0]=false:=ye8 λz=>(ycr.mp z).1 (yah ..)
     rw[Cm,Ek,F6,this,yav,yaf,yaf]
   .refine⟨Mb (ws:=[f 30]) (λw hw=>?_) (show 1<1000 by decide),?_⟩
    .rw[ya3.mp hw];exact DH h.nm 30
    .have:([f 30].all λx=>decide (x∈WS f n))=false:=by
      rw[ybp];exact⟨f 30,ya3.mpr rfl,by rw[ye8 n30];decide⟩
     rw[Cm,Ek,F6,this,yaf,yaf,yaf]
   .exact⟨⟨.lst λx hx=>(by rw[ya3.mp hx];exact .non),λl e=>(by injection e with e;subst e;decide)⟩,rfl⟩
   .exact⟨⟨.non,λ_ e=>(by cases e)⟩,rfl⟩
   .exact⟨⟨.tup (ER hok),λ_ e=>(by cases e)⟩,rfl⟩
   .exact⟨⟨.str o0,λ_ e=>(by cases e)⟩,rfl⟩
   .exact⟨⟨.lst λx hx=>(by rw[ya3.mp hx];exact .int),λl e=>(by injection e with e;subst e;decide)⟩,rfl⟩
  have hs:=A5 x;refine⟨.tup [.str s,.str e,.lst g,x,.str z],?_,HP ps pe pg px.1 sm0 (by rw[px.2,yav,yaf,yaf,yaf])⟩
  rw[DA (t:=.tup [.str (mk s),.str (mk e),.lst (AB g),AD x,.str (mk z)]) (by
   have p5:AV (AF (WS f n))=AF (WS f n):=A2 _;have p6:A7 (AF (WS f n))=true:=Aa _;have n30':Ah (AF (NS f)) 30=some (.str (mk (f 30))):=JD (k:=30) (by decide)
   generalize AD d=D at *;generalize AD x=X at *;generalize AF q=Q at *;generalize AB g=G at *
   simp![As,b7,t9,a0,n30',p5,p6,Aa,A2,hs,AN _ hs,eu,ex,sg,AJ _ sg,sq',eq'])]
  rfl
 have b7:(c.fmod 9 == 6)=false:=by rw[yfa];exact w7
 rw[AZ (τ':=FQ c (AD d) f n s e (AB g) (AF q) (.str (mk z)) none) (by simp![As,b7])]
 obtain⟨j0,j1⟩:=BF (c:=c.fdiv 9) (n:=13) (by decide)
 obtain⟨x,hx,ex⟩:=EH Lp (i:=(c.fdiv 9).fmod 13) j0 (by rw[zgg];exact j1)
 rw[<- sg_T]at ex;have hs:=A5 x
 have px:Sm 0 x/\Eo x=false:=by
  rcases yaj.mp hx with hx|hx
  .obtain⟨w,hw,rfl⟩:=yat.mp hx;have:=(by decide:∀w∈Pn,w.length<=100/\(w.all λc=>decide (c<128))=true/\FV w=false) w hw
   exact⟨.str (BR this.1 this.2.1),this.2.2⟩
  .simp only[ya9,yac,yf3]at hx
   rcases hx with rfl|rfl|rfl|rfl
   .exact⟨.non,rfl⟩
   .exact⟨.int,rfl⟩
   .exact⟨.str (BR (by decide) (by decide)),by decide⟩
   .exact⟨.str (BR (by decide) (by decide)),by decide⟩
 refine⟨.tup [.str s,.str e,.lst g,.lst (q.map .str),x],?_,HP ps pe pg pq px.1 (by rw[px.2,yaf,yaf,yaf,yaf])⟩
 rw[AZ (τ':=FQ c (AD d) f n s e (AB g) (AF q) (AD x) none) (by
  generalize AD d=D at *;generalize AD x=X at *;generalize AF q=Q at *;generalize AB g=G at *
  simp![t9,hs,AN _ hs,ex])]
 show _=some (Ru.ok (.tup [.str (mk s),.str (mk e),.lst (AB g),.lst (AB (q.map .str)),AD x]));rw[Co];generalize AD d=D at *;generalize AD x=X at *;generalize AF q=Q at *;generalize AB g=G at *
 simp![hs,AN _ hs,sg,AJ _ sg,sq',eq',Ay]
abbrev MN:Stmt:=A9 43
def JO:AE->Option Out :=
 (AL (AX (m2 Ap (Ac Cw (AG (AA 0) (AG (mC (.int 4)) AH))) (m2 Ai (AA 5) (mC (.int 1)))) (AK 7))
 (AL (AX (A4 (AI (Al (AG (AW (AA 2) (m2 A8 (AA 7) (m1 BP (AA 2)))) (AG (AW (A4 (AI (mC (.str "<")) (AI (mC (.str "<=")) AH))) (m2 A8 (m2 Ap (AA 7) (mC (.int 7))) (mC (.int 2)))) (AG (m2 EB (m2 A8 (m2 Ap (AA 7) (mC (.int 14))) (mC (.int 3))) (AA 3)) AH)))) AH)) (AK 8))
 (EU 4 (Al (AG (AW (AA 1) (m2 Ai (mC (.int 7)) (AA 5))) (AG (Bl (Bk (AA 8) none (some (m2 A8 (m2 Ap (AA 7) (mC (.int 42))) (mC (.int 2))))) (Bq (AA 8) none (some (m2 A8 (m2 Ap (AA 7) (mC (.int 42))) (mC (.int 2)))))) AH))))))
def JN:AE->Option Out :=
 (AL (AX (m2 Ap (Ac Cw (AG (AA 0) (AG (mC (.int 6)) AH))) (m2 Ai (AA 5) (mC (.int 1)))) (AK 7))
 (AL (AX (A4 (AI (Al (AG (AW (AA 2) (m2 A8 (AA 7) (m1 BP (AA 2)))) (AG (AW (A4 (AI (mC (.str "<")) (AI (mC (.str "<=")) (AI (mC (.str ">")) (AI (mC (.str ">=")) (AI (mC (.str "=")) AH)))))) (m2 A8 (m2 Ap (AA 7) (mC (.int 7))) (mC (.int 5)))) (AG (m2 EB (m2 A8 (m2 Ap (AA 7) (mC (.int 35))) (mC (.int 3))) (AA 3)) AH)))) AH)) (AK 9))
 (AL (AX (AW (AW (AA 4) (m2 A8 (AA 7) (m1 BP (AA 4)))) (mC (.int 0))) (AK 10))
 (AL (AX (AW (AW (AA 4) (m2 A8 (m2 Ap (AA 7) (mC (.int 5))) (m1 BP (AA 4)))) (mC (.int 0))) (AK 11))
 (AL (AX (AW (A4 (AI (mC (.str "")) (AI (mC (.str "go!")) (AI (mC (.str "go?")) AH)))) (m2 A8 (AA 7) (mC (.int 3)))) (AK 12))
 (EU 6 (Al (AG (AA 10) (AG (AA 11) (AG (Bl (Bk (AA 9) none (some (m2 A8 (m2 Ap (AA 7) (mC (.int 105))) (mC (.int 2))))) (Bq (AA 9) none (some (m2 A8 (m2 Ap (AA 7) (mC (.int 105))) (mC (.int 2)))))) (AG (Bl (Bk (AA 2) none (some (m2 A8 (m2 Ap (AA 7) (mC (.int 210))) (mC (.int 3))))) (Bq (AA 2) none (some (m2 A8 (m2 Ap (AA 7) (mC (.int 210))) (mC (.int 3)))))) (AG (AA 12) AH))))))))))))
def KL:AE->Option Out :=
 (AL (AX (Bl (Bk (AA 1) none (some (m2 Ai (mC (.int 1)) (m2 A8 (Ac Cw (AG (AA 0) (AG (mC (.int 1)) AH))) (mC (.int 7)))))) (Bq (AA 1) none (some (m2 Ai (mC (.int 1)) (m2 A8 (Ac Cw (AG (AA 0) (AG (mC (.int 1)) AH))) (mC (.int 7))))))) (AK 2))
 (AL (AX (m2 Ai (mC (.int 1)) (m2 A8 (Ac Cw (AG (AA 0) (AG (mC (.int 2)) AH))) (m2 Hz (mC (.int 10)) (mC (.int 40))))) (AK 3))
 (AL (ET 4 (A4 AH))
 (AL (DR (Dp (AG (m2 Ai (mC (.int 1)) (m2 A8 (Ac Cw (AG (AA 0) (AG (mC (.int 3)) AH))) (mC (.int 5)))) AH)) (AK 5) JO)
 (AL (ET 6 (A4 AH))
 (AL (DR (Dp (AG (m2 Ai (mC (.int 1)) (m2 A8 (Ac Cw (AG (AA 0) (AG (mC (.int 5)) AH))) (mC (.int 6)))) AH)) (AK 5) JN)
 (AL (FY 4) (AL (FY 6) (Ab (A4 (AI (AA 2) (AI (AA 4) (AI (AA 6) AH)))))))))))))
def Og:List T->Option Ru:=BE 2 13 KL
abbrev Nr:Fn:=⟨2,["_law_script","_law_names_here"],Og⟩
abbrev Th:Gm:=⟨["_law_script","_law_names_here","_law_watches","_law_unit","_law_rooms","_law_k","_law_doors","_law_cell","_law_looks","_law_guard","_law_begin","_law_end","_law_sign"],(AO MN).names,[],1,[("_law_cell_at",HM)],["range","len"],[],["_law_rooms","_law_doors"],[],false,[],[],[],Bm⟩
theorem zcu:FnScope Th.N Nr.ps (AO MN):=BM (by decide +kernel)
theorem zdl:Av 200 Th (Ao MN)=some KL:=by ext
theorem Me{m:Nat}(h:m<1000):GH (m:Int)=true:=@decide_eq_true _ (Classical.propDecidable _) ⟨by omega,by omega⟩
theorem HR{α:Type}(l:List α)(k:Nat):B0 l none (some (k:Int))=l.take k:=by
 unfold B0;rw[HT.sIx_none,HT.sIx_nat,List.drop_zero,Nat.sub_zero]
 by_cases h:k<=l.length
 .rw[ycb h]
 .rw[Nat.min_eq_right (by omega),ycd (yaa _),ycd (by omega)]
def Iq(f:Nat->W)(ws:List W)(rs:List Hv):Prop:=∀(j:Nat) (r:Hv),rs[j]?=some r->∃g,r=.tup [.str (f (7+j)),.lst g]/\G9 ws Bu g
theorem Tt{ws wd:List W}{w o:W}{i:Int}(h1:w∈ws)(h2:o∈wd)(h3:0<=i)(m:Nat):G9 ws wd ([Hv.tup [.str w,.str o,.int i]].take m):=by
 refine⟨by rw[yb2];exact yap (Nat.min_le_right ..) (yaa 1),λk hk=>?_⟩
 rw[ya3.mp (yay hk)];exact⟨w,o,i,rfl,h1,h2,h3⟩
theorem zky(w o:W)(i:Int):AB [.tup [.str w,.str o,.int i]]=[.tup [.str (mk w),.str (mk o),.int i]]:=rfl
theorem cut_one{w o:W}{i:Int}{m:Int}(h0:0<=m):B0 [T.tup [.str (mk w),.str (mk o),.int i]] none (some m)=AB ([Hv.tup [.str w,.str o,.int i]].take m.toNat):=by
 obtain⟨k,rfl⟩:=yar h0;rw[HR,<- zky,K6,yba]
theorem w4_ok{ns:List Int}{f:Nat->W}{n k:Nat}{u:Int}(hu:0<u)(h1:1<=n)(hk:k<5){R:List T}(hR:R.length<1000){x7 x8:Option T}:∃g y7 y8,JO [some (An ns),some (.lst (AF (NS f))),some (.lst (AF (WS f n))),some (.int u),some (.own R),some (.int k),none,x7,x8,none,none,none,none]=some (.nx [some (An ns),some (.lst (AF (NS f))),some (.lst (AF (WS f n))),some (.int u),some (.own (R++[.tup [.str (mk (f (7+k))),.lst (AB g)]])),some (.int k),none,y7,y8,none,none,none,none])/\G9 (WS f n) Bu g:=by
 have c4:=E6 ns (k:=4) (by decide)
 generalize ns.getD (4:Int).toNat 0=c at c4;generalize hc:c.fdiv ((k:Int)+1)=d;obtain⟨i0,i1⟩:=BF (c:=d) (n:=(n:Int)) (by omega)
 obtain⟨j,hj,ej⟩:=LH f i0 i1;have hjm:f j∈WS f n:=ybi (ybn.mpr hj);obtain⟨p0,p1⟩:=BF (c:=d.fdiv 7) (n:=2) (by decide)
 obtain⟨o,ho,eo⟩:∃o∈Bu,Ah [T.str "<",.str "<="] ((d.fdiv 7).fmod 2)=some (.str (mk o)):=by
  rw[HE,KW];have h2:(d.fdiv 7).fmod 2=0\/(d.fdiv 7).fmod 2=1:=by omega
  rcases h2 with e|e<;>rw[e]
  .exact⟨[60],by decide,BL (by decide) rfl⟩
  .exact⟨[60,61],by decide,BL (by decide) rfl⟩
 obtain⟨q0,q1⟩:=BF (c:=d.fdiv 14) (n:=3) (by decide)
 obtain⟨r0,r1⟩:=BF (c:=d.fdiv 42) (n:=2) (by decide)
 have mo:GN ((d.fdiv 14).fmod 3) u=true:=Mn (Jm (by omega) (by omega))
 have hi:0<=(d.fdiv 14).fmod 3 * u:=Int.mul_nonneg q0 (by omega)
 have t7:BN 7=true:=Bg (by decide) (by decide)
 have t14:BN 14=true:=Bg (by decide) (by decide)
 have t42:BN 42=true:=Bg (by decide) (by decide)
 have tk:BN ((k:Int)+1)=true:=Pr (m:=10) (by omega) (by decide)
 have k0:((k:Int)+1=0)=False:=yfb (by omega)
 have n0:((n:Int)=0)=False:=yfb (by omega)
 have wl:((AF (WS f n)).length:Int)=(n:Int):=by rw[Il]
 have nk:Ah (AF (NS f)) (7+(k:Int))=some (.str (mk (f (7+k)))):=by rw[show(7:Int)+(k:Int)=((7+k:Nat):Int) by omega];exact JD (by omega)
 have ct:=cut_one (w:=f j) (o:=o) (i:=(d.fdiv 14).fmod 3 * u) r0;have G:=Tt (wd:=Bu) hjm ho hi ((d.fdiv 42).fmod 2).toNat;generalize [Hv.tup [.str (f j),.str o,.int ((d.fdiv 14).fmod 3 * u)]].take ((d.fdiv 42).fmod 2).toNat=g at ct G;have sg:=AS g;have lR:R.length<100000:=by omega
 have p5:AV (AF (WS f n))=AF (WS f n):=A2 _;have p6:A7 (AF (WS f n))=true:=Aa _;have p7:AV (AF (NS f))=AF (NS f):=A2 _;have p8:A7 (AF (NS f))=true:=Aa _;refine⟨g,some (.int d),some (.lst [.tup [.str (mk (f j)),.str (mk o),.int ((d.fdiv 14).fmod 3 * u)]]),?_,G⟩;unfold JO;rw[AZ (τ':=[some (An ns),some (.lst (AF (NS f))),some (.lst (AF (WS f n))),some (.int u),some (.own R),some (.int k),none,some (.int d),x8,none,none,none,none]) (by simp![c4,Ci,Cg,tk,k0,hc])]
 generalize AF (NS f)=X at *;generalize AF (WS f n)=Z at *;generalize AB g=G' at *;rw[AZ (τ':=[some (An ns),some (.lst X),some (.lst Z),some (.int u),some (.own R),some (.int k),none,some (.int d),some (.lst [.tup [.str (mk (f j)),.str (mk o),.int ((d.fdiv 14).fmod 3 * u)]]),none,none,none,none]) (by simp![p5,p6,wl,n0,ej,t7,eo,t14,mo])]
 simp![p7,p8,nk,t42,ct,sg,AJ _ sg,lR]
theorem w9_ok{ns:List Int}{f:Nat->W}{n k:Nat}{u:Int}(hu:0<u)(h1:1<=n)(hk:k<6){rs:List Hv}(hr:Iq f (WS f n) rs)(hr1:1<=rs.length){R:List T}(hR:R.length<1000){x7 x8 x9 x10 x11 x12:Option T}:∃d y7 y9 y10 y11 y12,JN [some (An ns),some (.lst (AF (NS f))),some (.lst (AF (WS f n))),some (.int u),some (.own (AB rs)),some (.int k),some (.own R),x7,x8,x9,x10,x11,x12]=some (.nx [some (An ns),some (.lst (AF (NS f))),some (.lst (AF (WS f n))),some (.int u),some (.own (AB rs)),some (.int k),some (.own (R++[AD d])),y7,x8,y9,y10,y11,y12])/\JH (WS f n) (rs.map A6) d:=by
 have c6:=E6 ns (k:=6) (by decide)
 generalize ns.getD (6:Int).toNat 0=c at c6;generalize hc:c.fdiv ((k:Int)+1)=d;obtain⟨i0,i1⟩:=BF (c:=d) (n:=(n:Int)) (by omega)
 obtain⟨j,hj,ej⟩:=LH f i0 i1;have hjm:f j∈WS f n:=ybi (ybn.mpr hj);obtain⟨p0,p1⟩:=BF (c:=d.fdiv 7) (n:=5) (by decide)
 obtain⟨o,ho,eo⟩:∃o∈CN,Ah [T.str "<",.str "<=",.str ">",.str ">=",.str "="] ((d.fdiv 7).fmod 5)=some (.str (mk o)):=by
  rw[HE,KW,Sd,Se,Sf];have h2:(d.fdiv 7).fmod 5=0\/(d.fdiv 7).fmod 5=1\/(d.fdiv 7).fmod 5=2\/(d.fdiv 7).fmod 5=3\/(d.fdiv 7).fmod 5=4:=by omega
  rcases h2 with e|e|e|e|e<;>rw[e]
  .exact⟨[60],by decide,BL (by decide) rfl⟩
  .exact⟨[60,61],by decide,BL (by decide) rfl⟩
  .exact⟨[62],by decide,BL (by decide) rfl⟩
  .exact⟨[62,61],by decide,BL (by decide) rfl⟩
  .exact⟨[61],by decide,BL (by decide) rfl⟩
 obtain⟨q0,q1⟩:=BF (c:=d.fdiv 35) (n:=3) (by decide)
 obtain⟨r0,r1⟩:=BF (c:=d.fdiv 105) (n:=2) (by decide)
 obtain⟨v0,v1⟩:=BF (c:=d.fdiv 210) (n:=3) (by decide)
 have mo:GN ((d.fdiv 35).fmod 3) u=true:=Mn (Jm (by omega) (by omega))
 have hi:0<=(d.fdiv 35).fmod 3 * u:=Int.mul_nonneg q0 (by omega)
 have rm:∀i:Int,0<=i->i<rs.length->∃w x,w∈rs.map A6/\Ah (AB rs) i=some (.tup [.str (mk w),.lst x])/\A7 x=true:=λi h0 h1=>by
  have hi:i.toNat<rs.length:=by omega
  obtain⟨g,e,_⟩:=hr i.toNat rs[i.toNat] (ya0 hi);refine⟨f (7+i.toNat),AB g,yat.mpr ⟨rs[i.toNat],yb3 hi,by rw[e];rfl⟩,BL h0 ?_,AS g⟩
  rw[BV,ya7,ya0 hi,e]
  rfl
 obtain⟨a0,a1⟩:=BF (c:=d) (n:=(rs.length:Int)) (by omega)
 obtain⟨b0,b1⟩:=BF (c:=d.fdiv 5) (n:=(rs.length:Int)) (by omega)
 obtain⟨ws,xs,hws,es,ss⟩:=rm _ a0 a1;obtain⟨we,xe,hwe,ee,se⟩:=rm _ b0 b1;obtain⟨z0,z1⟩:=BF (c:=d) (n:=3) (by decide)
 obtain⟨z,hz,hzo,ez⟩:∃z,FV z=true/\Ok z/\Ah [T.str "",.str "go!",.str "go?"] (d.fmod 3)=some (.str (mk z)):=by
  have e1:Str.ofString "go!"=mk [103,111,33]:=Tx.cs_ext (by decide +kernel)
  have e2:Str.ofString "go?"=mk [103,111,63]:=Tx.cs_ext (by decide +kernel)
  rw[GW,e1,e2];have h2:d.fmod 3=0\/d.fmod 3=1\/d.fmod 3=2:=by omega
  rcases h2 with e|e|e<;>rw[e]
  .exact⟨[],by decide,BR (by decide) (by decide),BL (by decide) rfl⟩
  .exact⟨[103,111,33],by decide,BR (by decide) (by decide),BL (by decide) rfl⟩
  .exact⟨[103,111,63],by decide,BR (by decide) (by decide),BL (by decide) rfl⟩
 have t5:BN 5=true:=Bg (by decide) (by decide)
 have t7:BN 7=true:=Bg (by decide) (by decide)
 have t35:BN 35=true:=Bg (by decide) (by decide)
 have t105:BN 105=true:=Bg (by decide) (by decide)
 have t210:BN 210=true:=Bg (by decide) (by decide)
 have tk:BN ((k:Int)+1)=true:=Pr (m:=10) (by omega) (by decide)
 have k0:((k:Int)+1=0)=False:=yfb (by omega)
 have n0:((n:Int)=0)=False:=yfb (by omega)
 have m0:((rs.length:Int)=0)=False:=yfb (by omega)
 have wl:((AF (WS f n)).length:Int)=(n:Int):=by rw[Il]
 have rl:((AB rs).length:Int)=(rs.length:Int):=by rw[Aw]
 have ct:=cut_one (w:=f j) (o:=o) (i:=(d.fdiv 35).fmod 3 * u) r0;have G:=Tt (wd:=CN) hjm ho hi ((d.fdiv 105).fmod 2).toNat;generalize [Hv.tup [.str (f j),.str o,.int ((d.fdiv 35).fmod 3 * u)]].take ((d.fdiv 105).fmod 2).toNat=g at ct G;have sg:=AS g;have sr:=AS rs;have lR:R.length<100000:=by omega
 have cq:B0 (AF (WS f n)) none (some ((d.fdiv 210).fmod 3))=AF ((WS f n).take ((d.fdiv 210).fmod 3).toNat):=by
  obtain⟨m,em⟩:=yar v0;rw[em,HR,J9,yba]
 have p5:AV (AF (WS f n))=AF (WS f n):=A2 _;have p6:A7 (AF (WS f n))=true:=Aa _;have pq:AV (AF ((WS f n).take ((d.fdiv 210).fmod 3).toNat))=AF ((WS f n).take ((d.fdiv 210).fmod 3).toNat):=A2 _;have Cu:=E8 (.str (mk ws)) [.lst xs];have Dt:=E8 (.str (mk we)) [.lst xe];refine⟨.tup [.str ws,.str we,.lst g,.lst (((WS f n).take ((d.fdiv 210).fmod 3).toNat).map .str),.str z],some (.int d),some (.lst [.tup [.str (mk (f j)),.str (mk o),.int ((d.fdiv 35).fmod 3 * u)]]),some (.str (mk ws)),some (.str (mk we)),some (.str (mk z)),?_,ws,we,g,_,z,rfl,hws,hwe,G,⟨_,rfl⟩,hz,hzo⟩;rw[show AD (.tup [.str ws,.str we,.lst g,.lst (((WS f n).take ((d.fdiv 210).fmod 3).toNat).map .str),.str z])=.tup [.str (mk ws),.str (mk we),.lst (AB g),.lst (AF ((WS f n).take ((d.fdiv 210).fmod 3).toNat)),.str (mk z)] by rw[<- Co];rfl]
 unfold JN;rw[AZ (τ':=[some (An ns),some (.lst (AF (NS f))),some (.lst (AF (WS f n))),some (.int u),some (.own (AB rs)),some (.int k),some (.own R),some (.int d),x8,x9,x10,x11,x12]) (by simp![c6,Ci,Cg,tk,k0,hc])]
 generalize AF (NS f)=X at *;generalize AF ((WS f n).take ((d.fdiv 210).fmod 3).toNat)=Q at *;generalize AF (WS f n)=Z at *;generalize AB g=G' at *;generalize AB rs=V at *;rw[AZ (τ':=[some (An ns),some (.lst X),some (.lst Z),some (.int u),some (.own V),some (.int k),some (.own R),some (.int d),x8,some (.lst [.tup [.str (mk (f j)),.str (mk o),.int ((d.fdiv 35).fmod 3 * u)]]),x10,x11,x12]) (by simp![p5,p6,wl,n0,ej,t7,eo,t35,mo])]
 rw[AZ (τ':=[some (An ns),some (.lst X),some (.lst Z),some (.int u),some (.own V),some (.int k),some (.own R),some (.int d),x8,some (.lst [.tup [.str (mk (f j)),.str (mk o),.int ((d.fdiv 35).fmod 3 * u)]]),some (.str (mk ws)),x11,x12]) (by simp![sr,AJ _ sr,rl,m0,es,Cu,ss])]
 rw[AZ (τ':=[some (An ns),some (.lst X),some (.lst Z),some (.int u),some (.own V),some (.int k),some (.own R),some (.int d),x8,some (.lst [.tup [.str (mk (f j)),.str (mk o),.int ((d.fdiv 35).fmod 3 * u)]]),some (.str (mk ws)),some (.str (mk we)),x12]) (by simp![t5,sr,AJ _ sr,rl,m0,ee,Dt,se])]
 rw[AZ (τ':=[some (An ns),some (.lst X),some (.lst Z),some (.int u),some (.own V),some (.int k),some (.own R),some (.int d),x8,some (.lst [.tup [.str (mk (f j)),.str (mk o),.int ((d.fdiv 35).fmod 3 * u)]]),some (.str (mk ws)),some (.str (mk we)),some (.str (mk z))]) (by simp![ez])]
 simp![p5,p6,t105,t210,ct,cq,sg,AJ _ sg,pq,lR]
theorem zee{f:Nat->W}(hf:Nms f)(ns:List Int):∃n rs ds,Og [An ns,.lst (AF (NS f))]=some (.ok (.own [.lst (AF (WS f n)),.lst (AB rs),.lst (AB ds)]))/\GP f n rs ds/\rs.length<=5/\ds.length<=6/\Iq f (WS f n) rs:=by
 have c1:=E6 ns (k:=1) (by decide)
 have c2:=E6 ns (k:=2) (by decide)
 have c3:=E6 ns (k:=3) (by decide)
 have c5:=E6 ns (k:=5) (by decide)
 generalize ns.getD (1:Int).toNat 0=d1 at c1;generalize ns.getD (2:Int).toNat 0=d2 at c2;generalize ns.getD (3:Int).toNat 0=d3 at c3;generalize ns.getD (5:Int).toNat 0=d5 at c5;obtain⟨a0,a1⟩:=BF (c:=d1) (n:=7) (by decide)
 obtain⟨b0,b1⟩:=BF (c:=d3) (n:=5) (by decide)
 obtain⟨e0,e1⟩:=BF (c:=d5) (n:=6) (by decide)
 obtain⟨u,hu,hu0⟩:∃u,1+d2.fmod (10 ^ 40)=u/\0<u:=⟨_,rfl,by
  have:=(BF (c:=d2) (n:=10 ^ 40) (by decide +kernel)).1
  omega⟩
 have p40:(0:Int)<=40/\(40:Int)<=1000000/\GA 10=true:=⟨by decide,by decide,Jm (by decide) (by decide)⟩
 have r40:(40:Int).toNat=40:=rfl;have n40:((10:Int) ^ 40=0)=False:=yfb (by decide +kernel)
 obtain⟨n,en⟩:=yar (show 0<=1+d1.fmod 7 by omega)
 obtain⟨m,em⟩:=yar (show 0<=1+d3.fmod 5 by omega)
 obtain⟨q,eq⟩:=yar (show 0<=1+d5.fmod 6 by omega)
 have hn1:1<=n:=by omega
 have hn7:n<=7:=by omega
 have cw:B0 (AF (NS f)) none (some (n:Int))=AF (WS f n):=by
  rw[HR,J9,NS,<- ydf,List.take_range,ycb (by omega)]
 obtain⟨τ,ee,rs,x5,x7,x8,rfl,hrl,hri⟩:=G0 (b:=AK 5) (body:=JO) (ts:=mT m λi=>.int (i:Int)) (τ:=[some (An ns),some (.lst (AF (NS f))),some (.lst (AF (WS f n))),some (.int u),some (.own []),none,none,none,none,none,none,none,none])
  (λi τ=>∃rs x5 x7 x8,τ=[some (An ns),some (.lst (AF (NS f))),some (.lst (AF (WS f n))),some (.int u),some (.own (AB rs)),x5,none,x7,x8,none,none,none,none]/\rs.length=i/\Iq f (WS f n) rs) ⟨[],none,none,none,rfl,rfl,λj r h=>by simp at h⟩ λi t τ h1 h2=>by
   obtain⟨hi,rfl⟩:=IK h1;obtain⟨rs,x5,x7,x8,rfl,hl,hr⟩:=h2;obtain⟨g,y7,y8,ew,hg⟩:=w4_ok (ns:=ns) (f:=f) (n:=n) (k:=i) hu0 hn1 (by omega) (R:=AB rs) (by rw[Aw];omega) (x7:=x7) (x8:=x8)
   refine⟨_,by simp![],_,ew,rs++[.tup [.str (f (7+i)),.lst g]],_,_,_,by rw[CA];rfl,by rw[yad,hl];rfl,λj r hj=>?_⟩
   by_cases hji:j<rs.length
   .rw[yas hji]at hj;exact hr j r hj
   .rw[yax (by omega)]at hj
    have:j - rs.length=0:=by
     have:=(ya8.mp hj).1;simp at this
     omega
    rw[this]at hj;have hj2:j=i:=by omega
    subst hj2;exact⟨g,(yb0 hj).symm,hg⟩
 rw[EZ]at hrl;have hr1:1<=rs.length:=by omega
 obtain⟨τ,ef,ds,y5,y7,y9,y10,y11,y12,rfl,hdl,hdi⟩:=G0 (b:=AK 5) (body:=JN) (ts:=mT q λi=>.int (i:Int)) (τ:=[some (An ns),some (.lst (AF (NS f))),some (.lst (AF (WS f n))),some (.int u),some (.own (AB rs)),x5,some (.own []),x7,x8,none,none,none,none])
  (λi τ=>∃ds x5 x7 x9 x10 x11 x12,τ=[some (An ns),some (.lst (AF (NS f))),some (.lst (AF (WS f n))),some (.int u),some (.own (AB rs)),x5,some (.own (AB ds)),x7,x8,x9,x10,x11,x12]/\ds.length=i/\∀d∈ds,JH (WS f n) (rs.map A6) d) ⟨[],x5,x7,none,none,none,none,rfl,rfl,λd h=>absurd h yac⟩ λi t τ h1 h2=>by
   obtain⟨hi,rfl⟩:=IK h1;obtain⟨ds,x5,x7,x9,x10,x11,x12,rfl,hl,hr⟩:=h2;obtain⟨d,y7,y9,y10,y11,y12,ew,hd⟩:=w9_ok (ns:=ns) (f:=f) (n:=n) (k:=i) hu0 hn1 (by omega) hri hr1 (R:=AB ds) (by rw[Aw];omega) (x7:=x7) (x8:=x8) (x9:=x9) (x10:=x10) (x11:=x11) (x12:=x12)
   refine⟨_,by simp![],_,ew,ds++[d],_,_,_,_,_,_,by rw[CA];rfl,by rw[yad,hl];rfl,λx hx=>?_⟩
   rcases yaj.mp hx with hx|hx
   .exact hr x hx
   .rw[ya3.mp hx];exact hd
 rw[EZ]at hdl
 have fst:∀r∈rs,∃j,j<rs.length/\A6 r=f (7+j):=λr hr=>by
  obtain⟨j,hj,rfl⟩:=ycl.mp hr;obtain⟨g,e,_⟩:=hri j rs[j] (ya0 hj);exact⟨j,hj,by rw[e];rfl⟩
 have hok:∀k,DD (f k)=true:=λk=>by
  have h1:=hf.l2 k
  have h2:((f k).all λc=>decide (c=47) || Cd c)=true:=yam.mpr λc hc=>by
   rw[show Cd c=true from yer (hf.ab k c hc),ycf]
  unfold DD;rw[h2,yer (show 1<=(f k).length/\(f k).length<=60 by omega)]
  rfl
 refine⟨n,rs,ds,?_,⟨hf,hn1,hn7,hr1,by omega,λr hr=>?_,?_,λhm=>?_,by omega,by omega,hdi⟩,by omega,by omega,hri⟩
 .have ok1:=Me (m:=m) (by omega)
  have ok2:=Me (m:=q) (by omega)
  have er1:Dy 0 m=mT m λi=>.int (i:Int):=Hx
  have er2:Dy 0 q=mT q λi=>.int (i:Int):=Hx
  have sr:=AS rs;have sd:=AS ds;have p5:AV (AF (WS f n))=AF (WS f n):=A2 _;have p6:A7 (AF (WS f n))=true:=Aa _;show Ay (KL [some (An ns),some (.lst (AF (NS f))),none,none,none,none,none,none,none,none,none,none,none])=_;unfold KL;rw[AZ (τ':=[some (An ns),some (.lst (AF (NS f))),some (.lst (AF (WS f n))),none,none,none,none,none,none,none,none,none,none]) (by simp![c1,Ci,Cg,Aa,A2,en,cw,p5])]
  generalize AF (NS f)=X at *;generalize AF (WS f n)=Z at *;generalize AB rs=V at *;generalize AB ds=U at *;rw[AZ (τ':=[some (An ns),some (.lst X),some (.lst Z),some (.int u),none,none,none,none,none,none,none,none,none]) (by simp![c2,Ci,Cg,p40,r40,n40,hu])]
  rw[AZ (τ':=[some (An ns),some (.lst X),some (.lst Z),some (.int u),some (.own []),none,none,none,none,none,none,none,none]) (by simp![])]
  rw[AZ (τ':=[some (An ns),some (.lst X),some (.lst Z),some (.int u),some (.own V),x5,none,x7,x8,none,none,none,none]) (by simp![c3,Ci,Cg,em,ok1,er1,ee])]
  rw[AZ (τ':=[some (An ns),some (.lst X),some (.lst Z),some (.int u),some (.own V),x5,some (.own []),x7,x8,none,none,none,none]) (by simp![])]
  rw[AZ (τ':=[some (An ns),some (.lst X),some (.lst Z),some (.int u),some (.own V),y5,some (.own U),y7,x8,y9,y10,y11,y12]) (by simp![c5,Ci,Cg,eq,ok2,er2,ef])]
  simp![p5,p6,sr,AJ _ sr,sd,AJ _ sd,Ay]
 .obtain⟨j,hj,rfl⟩:=ycl.mp hr;obtain⟨g,e,hg⟩:=hri j rs[j] (ya0 hj);exact⟨f (7+j),g,e,hok _,DH hf _,hg⟩
 .rw[List.Nodup,List.pairwise_iff_getElem];intro i j hi hj hij e;rw[ya5]at hi hj;rw[ydg,ydg]at e;obtain⟨g,e1,_⟩:=hri i rs[i] (ya0 hi);obtain⟨g2,e2,_⟩:=hri j rs[j] (ya0 hj);rw[e1,e2]at e;have:=hf.un (7+i) (7+j) (by omega) (by omega) e
  omega
 .obtain⟨r,hr,e⟩:=yat.mp hm;obtain⟨j,hj,e2⟩:=fst r hr;have:=hf.un 30 (7+j) (by decide) (by omega) (e.symm.trans e2)
  omega
abbrev MM:Stmt:=A9 49
def KJ:AE->Option Out :=
 (AL (AX (Ac Cw (AG (AA 0) (AG (mC (.int 8)) AH))) (AK 3))
 (AL (AX (AA 1) (Ct 3 (BW (AK 6) (BW (AK 7) (BW (AK 8) DL)))))
 (AL (AX (m2 A8 (AA 3) (mC (.int 5))) (AK 4))
 (AL (Aj (m2 BH (AA 4) (mC (.int 0))) (Ab (A4 (AI (Ac Oc (AG (m2 Ap (AA 3) (mC (.int 5))) (AG (AA 6) (AG (AA 2) AH)))) (AI (AA 7) (AI (AA 8) AH))))) Ak)
 (AL (Aj (m2 BH (AA 4) (mC (.int 1))) (Ab (A4 (AI (AA 6) (AI (Ac Od (AG (m2 Ap (AA 3) (mC (.int 5))) (AG (AA 7) (AG (AA 6) (AG (AA 2) AH))))) (AI (AA 8) AH))))) Ak)
 (AL (Aj (m2 BH (AA 4) (mC (.int 2))) (Ab (A4 (AI (AA 6) (AI (AA 7) (AI (AW (A4 (AI (mC .non) (AI (m1 EO (AA 8)) (AI (AW (AA 8) (mC (.int 0))) (AI IL AH))))) (m2 A8 (m2 Ap (AA 3) (mC (.int 5))) (mC (.int 4)))) AH))))) Ak)
 (AL (AX (m2 A8 (m2 Ap (AA 3) (mC (.int 5))) (m1 BP (AA 8))) (AK 5))
 (Ab (A4 (AI (AA 6) (AI (AA 7) (AI (m2 Ai (m2 Ai (Bl (Bk (AA 8) none (some (AA 5))) (Bq (AA 8) none (some (AA 5)))) (A4 (AI (Ac Oe (AG (m2 Ap (AA 3) (mC (.int 30))) (AG (AW (AA 8) (AA 5)) (AG (AA 6) (AG (AA 2) AH))))) AH))) (Bl (Bk (AA 8) (some (m2 Ai (AA 5) (mC (.int 1)))) none) (Bq (AA 8) (some (m2 Ai (AA 5) (mC (.int 1)))) none))) AH))))))))))))
def Of:List T->Option Ru:=BE 3 9 KJ
abbrev Nq:Fn:=⟨3,["_law_script","_law_parts","_law_names_here"],Of⟩
abbrev Tg:Gm:=⟨["_law_script","_law_parts","_law_names_here","_law_cell","_law_way","_law_at","_law_watches","_law_rooms","_law_doors"],(AO MM).names,[],2,[("_law_cell_at",HM),("_law_wrong_watches",Nm),("_law_wrong_rooms",Nn),("_law_wrong_door",Np)],["tuple","len"],[],[],[],false,[],[],[],Bm⟩
theorem zc4:FnScope Tg.N Nq.ps (AO MM):=BM (by decide +kernel)
theorem zci:Av 200 Tg (Ao MM)=some KJ:=by ext
structure PtOk(w r d:Hv):Prop where
 sw:Sm 10 w
 sr:Sm 10 r\/r=.dic
 sd:Sm 10 d\/d=.dic
 rr:Ip r
 dd:JJ d
 dl:∀l,d=.lst l->l.length<1000
section
variable {f:Nat->W}{n:Nat}{rs ds:List Hv}(h:GP f n rs ds)
include h
theorem GP.dr(d:Hv)(hd:d∈ds):Sm 4 d/\Ed d/\G3 (WS f n) (rs.map A6) d=true:=by
 obtain⟨s,e,g,q,z,rfl,hs,he,hg,hq,hz,ps,pe,pg,pq,pz,_,_⟩:=N5 h (h.dd d hd);have:=Kj ps pe pg pq (.str pz);refine⟨this.1,this.2,?_⟩;show(decide (s∈rs.map A6) && (decide (e∈rs.map A6) && (CB (WS f n) CN (.lst g) && (Cm (WS f n) (.lst (q.map .str)) && FV z))))=true;rw[yer hs,yer he,hg,hq,hz]
 rfl
theorem GP.pt:PtOk (.lst ((WS f n).map .str)) (.lst rs) (.lst ds):=by
 have hok:=FK h.nm n;refine⟨(Sm.lst (ER hok)).mono (by decide),.inl ((Sm.lst λr hr=>(K8 hok (h.rr r hr)).2.2).mono (by decide)),.inl ((Sm.lst λd hd=>(h.dr d hd).1).mono (by decide)),λl e=>?_,λl e=>?_,λl e=>?_⟩
 .injection e with e
  subst e;exact⟨by have:=h.r2;omega,λr hr=>(K8 hok (h.rr r hr)).2.1⟩
 .injection e with e
  subst e;exact λd hd=>(h.dr d hd).2.1
 .injection e with e
  subst e;have:=h.d2
  omega
theorem GP.hws:CV (.lst ((WS f n).map .str))=true:=by
 have h1:decide (((WS f n).map Hv.str).length<=7)=true:=yer (by rw[ya5,ya5,ybg];exact h.n7)
 have h2:((WS f n).map Hv.str).all Bd=true:=by
  rw[yds];refine yam.mpr λw hw=>?_
  obtain⟨j,_,rfl⟩:=Fk hw;exact Rm h j
 have h3:Bp (WS f n)=true:=yer (VH h);rw[CV,h1,h2,Ek,h3]
 rfl
theorem GP.hrs:DC (WS f n) (.lst rs)=true:=by
 have hok:=FK h.nm n
 have h1:rs.isEmpty=false:=by
  cases rs with
  |nil=>exact absurd h.r1 (by decide)
  |cons=>rfl
 have h2:rs.all (Ck (WS f n))=true:=yam.mpr λr hr=>(K8 hok (h.rr r hr)).1
 have h3:Bp (rs.map A6)=true:=yer h.ru;rw[DC,h1,h2,h3]
 rfl
theorem GP.hds:EG (WS f n) (rs.map A6) (.lst ds)=true:=by
 rw[EG];exact yam.mpr λd hd=>(h.dr d hd).2.2
theorem GP.mach:CP (.lst ((WS f n).map .str)) (.lst rs) (.lst ds)=if 64<rs.length\/200<ds.length then .many else .read:=by
 unfold CP;rw[show Ef (.lst ((WS f n).map .str))=WS f n from Ek _,h.hws,h.hrs,show M6 (.lst rs)=rs.map A6 from rfl,h.hds]
 rfl
theorem GP.bad_r{r d:Hv}(hr:DC (WS f n) r=false):CP (.lst ((WS f n).map .str)) r d=.bad:=by
 unfold CP;rw[show Ef (.lst ((WS f n).map .str))=WS f n from Ek _,hr,yav,yaf]
 rfl
theorem GP.bad_d{d:Hv}(hd:EG (WS f n) (rs.map A6) d=false):CP (.lst ((WS f n).map .str)) (.lst rs) d=.bad:=by
 unfold CP;rw[show Ef (.lst ((WS f n).map .str))=WS f n from Ek _,show M6 (.lst rs)=rs.map A6 from rfl,hd,yaf,yaf]
 rfl
end
theorem bad_w{w r d:Hv}(hw:CV w=false):CP w r d=.bad:=by
 unfold CP;rw[hw,yav]
 rfl
abbrev Hj(ns:List Int)(Z X R D:List T)(c:Int)(a:Option T):AE:=[some (An ns),some (.lst [.lst Z,.lst R,.lst D]),some (.lst X),some (.int c),some (.int (c.fmod 5)),a,some (.lst Z),some (.lst R),some (.lst D)]
theorem zcq{f:Nat->W}{n:Nat}{rs ds:List Hv}(h:GP f n rs ds)(ns:List Int):∃u w r d,Of [An ns,.lst [.lst (AF (WS f n)),.lst (AB rs),.lst (AB ds)],.lst (AF (NS f))]=some (.ok u)/\u.share=.lst [AD w,AD r,AD d]/\PtOk w r d/\CP w r d=.bad:=by
 have hp:=h.pt;have hok:=FK h.nm n;have c8:=E6 ns (k:=8) (by decide)
 generalize ns.getD (8:Int).toNat 0=c at c8;have sr:=AS rs;have sd:=AS ds;have p5:AV (AF (WS f n))=AF (WS f n):=A2 _;have p6:A7 (AF (WS f n))=true:=Aa _;have p7:AV (AF (NS f))=AF (NS f):=A2 _;have p8:A7 (AF (NS f))=true:=Aa _;have t5:BN 5=true:=Bg (by decide) (by decide)
 have t30:BN 30=true:=Bg (by decide) (by decide)
 have eW:AD (.lst ((WS f n).map .str))=.lst (AF (WS f n)):=by rw[AD,Co]
 show ∃u w r d,Ay (KJ [some (An ns),some (.lst [.lst (AF (WS f n)),.lst (AB rs),.lst (AB ds)]),some (.lst (AF (NS f))),none,none,none,none,none,none])=_/\_;unfold KJ;rw[AZ (τ':=[some (An ns),some (.lst [.lst (AF (WS f n)),.lst (AB rs),.lst (AB ds)]),some (.lst (AF (NS f))),some (.int c),none,none,none,none,none]) (by simp![c8,Ci,Cg])]
 rw[AZ (τ':=[some (An ns),some (.lst [.lst (AF (WS f n)),.lst (AB rs),.lst (AB ds)]),some (.lst (AF (NS f))),some (.int c),none,none,some (.lst (AF (WS f n))),some (.lst (AB rs)),some (.lst (AB ds))]) (by
  generalize AB rs=R at *;generalize AB ds=D at *;generalize AF (WS f n)=Z at *
  simp![p5,p6,sr,AJ _ sr,sd,AJ _ sd])]
 rw[AZ (τ':=Hj ns (AF (WS f n)) (AF (NS f)) (AB rs) (AB ds) c none) (by simp![])]
 by_cases w0:c.fmod 5=0
 .have b0:(c.fmod 5 == 0)=true:=by rw[w0];rfl
  obtain⟨u,t,e1,e2,k1,k2⟩:=zas h.nm h.n1 h.n7 (c.fdiv 5);refine⟨.own [u,.lst (AB rs),.lst (AB ds)],t,.lst rs,.lst ds,?_,?_,⟨k1.mono (by decide),hp.sr,hp.sd,hp.rr,hp.dd,hp.dl⟩,bad_w k2⟩
  .rw[DA (t:=.own [u,.lst (AB rs),.lst (AB ds)]) (by
    generalize AB rs=R at *;generalize AB ds=D at *;generalize AF (WS f n)=Z at *;generalize AF (NS f)=X at *
    simp![As,b0,t5,e1,p5,p6,p7,p8,sr,AJ _ sr,sd,AJ _ sd])]
   rfl
  .show T.lst [u.share,.lst (AV (AB rs)),.lst (AV (AB ds))]=_;rw[e2,AJ _ sr,AJ _ sd]
   rfl
 have b0:(c.fmod 5 == 0)=false:=by rw[yfa];exact w0
 rw[AZ (τ':=Hj ns (AF (WS f n)) (AF (NS f)) (AB rs) (AB ds) c none) (by simp![As,b0])]
 by_cases w1:c.fmod 5=1
 .have b1:(c.fmod 5 == 1)=true:=by rw[w1];rfl
  obtain⟨u,t,e1,e2,k1,k2,k3⟩:=zbb h (c.fdiv 5);refine⟨.own [.lst (AF (WS f n)),u,.lst (AB ds)],.lst ((WS f n).map .str),t,.lst ds,?_,?_,⟨hp.sw,k1.imp (λz=>z.mono (by decide)) id,hp.sd,k2,hp.dd,hp.dl⟩,h.bad_r k3⟩
  .rw[DA (t:=.own [.lst (AF (WS f n)),u,.lst (AB ds)]) (by
    generalize AB rs=R at *;generalize AB ds=D at *;generalize AF (WS f n)=Z at *;generalize AF (NS f)=X at *
    simp![As,b1,t5,e1,p5,p6,p7,p8,sr,AJ _ sr,sd,AJ _ sd])]
   rfl
  .show T.lst [.lst (AV (AF (WS f n))),u.share,.lst (AV (AB ds))]=_;rw[e2,p5,AJ _ sd,eW]
   rfl
 have b1:(c.fmod 5 == 1)=false:=by rw[yfa];exact w1
 rw[AZ (τ':=Hj ns (AF (WS f n)) (AF (NS f)) (AB rs) (AB ds) c none) (by simp![As,b1])]
 have ld1:=h.d1;have ld2:=h.d2
 by_cases w2:c.fmod 5=2
 .have b2:(c.fmod 5 == 2)=true:=by rw[w2];rfl
  obtain⟨i0,i1⟩:=BF (c:=c.fdiv 5) (n:=4) (by decide)
  have hd0:0<ds.length:=by omega
  have FI:Ah (AB ds) 0=some (AD ds[0]):=by
   refine BL (by decide) ?_
   rw[BV,ya7,show(0:Int).toNat=0 from rfl,ya0 hd0]
   rfl
  have s0:=A5 ds[0];obtain⟨x,hx,ex⟩:=EH [.non,.tup ds,ds[0],.dic] i0 i1;have eL:AB [.non,.tup ds,ds[0],.dic]=[.non,.tup (AB ds),AD ds[0],.dic [] []]:=rfl;rw[eL]at ex;have hs:=A5 x
  have px:(Sm 10 x\/x=.dic)/\(∀l,x=.lst l->False)/\EG (WS f n) (rs.map A6) x=false:=by
   simp only[ya9,yac,yf3]at hx
   rcases hx with rfl|rfl|hx|rfl
   .exact⟨.inl .non,λ_ e=>(by cases e),rfl⟩
   .exact⟨.inl ((Sm.tup λd hd=>(h.dr d hd).1).mono (by decide)),λ_ e=>(by cases e),rfl⟩
   .obtain⟨s,e,g,q,z,ed,_⟩:=N5 h (h.dd ds[0] (yb3 hd0));refine⟨.inl ?_,λ_ e=>?_,?_⟩
    .rw[hx];exact(h.dr _ (yb3 hd0)).1.mono (by decide)
    .rw[hx,ed]at e;cases e
    .rw[hx,ed];rfl
   .exact⟨.inr rfl,λ_ e=>(by cases e),rfl⟩
  refine⟨.own [.lst (AF (WS f n)),.lst (AB rs),AD x],.lst ((WS f n).map .str),.lst rs,x,?_,?_,⟨hp.sw,hp.sr,px.1,hp.rr,λl e=>(px.2.1 l e).elim,λl e=>(px.2.1 l e).elim⟩,h.bad_d px.2.2⟩
  .rw[DA (t:=.own [.lst (AF (WS f n)),.lst (AB rs),AD x]) (by
    generalize AD ds[0]=D0 at *;generalize AD x=X0 at *;generalize AB rs=R at *;generalize AB ds=D at *;generalize AF (WS f n)=Z at *;generalize AF (NS f)=X at *
    simp![As,b2,t5,FI,ex,s0,AN _ s0,hs,AN _ hs,p5,p6,p7,p8,sr,AJ _ sr,sd,AJ _ sd])]
   rfl
  .show T.lst [.lst (AV (AF (WS f n))),.lst (AV (AB rs)),(AD x).share]=_;rw[AN _ hs,p5,AJ _ sr,eW]
   rfl
 have b2:(c.fmod 5 == 2)=false:=by rw[yfa];exact w2
 rw[AZ (τ':=Hj ns (AF (WS f n)) (AF (NS f)) (AB rs) (AB ds) c none) (by simp![As,b2])]
 obtain⟨i0,i1⟩:=BF (c:=c.fdiv 5) (n:=(ds.length:Int)) (by omega)
 obtain⟨a,ea⟩:=yar i0;have ha:a<ds.length:=by omega
 have dl:((AB ds).length:Int)=(ds.length:Int):=by rw[Aw]
 have m0:((ds.length:Int)=0)=False:=yfb (by omega)
 have FI:Ah (AB ds) (a:Int)=some (AD ds[a]):=by
  refine BL (by omega) ?_
  rw[BV,ya7,yba,ya0 ha]
  rfl
 have s0:=A5 ds[a];obtain⟨t,e1,k1,k2,k3⟩:=zbv h (c.fdiv 30) (h.dd ds[a] (yb3 ha));have hs:=A5 t;have c1:B0 (AB ds) none (some (a:Int))=AB (ds.take a):=by rw[HR,K6]
 have c3:B0 (AB ds) (some ((a:Int)+1)) none=AB (ds.drop (a+1)):=by rw[show(a:Int)+1=((a+1:Nat):Int) by omega,OI _ (by rw[Aw];omega),NY]
 have st1:=AS (ds.take a);have st3:=AS (ds.drop (a+1));have n1:(ds.take a).length=a:=by rw[yb2];omega
 have n3:(ds.drop (a+1)).length=ds.length - (a+1):=ybm;have em:AB (ds.take a++[t]++ds.drop (a+1))=AB (ds.take a)++[AD t]++AB (ds.drop (a+1)):=by rw[CA,CA];rfl
 have sm:A7 (AB (ds.take a)++[AD t]++AB (ds.drop (a+1)))=true:=by rw[<- em];exact AS _
 have sm1:A7 (AB (ds.take a)++[AD t])=true:=by rw[show [AD t]=AB [t] from rfl,<- CA];exact AS _
 have z1:((AB (ds.take a)).length+1<=AQ)=True:=yf8 (by rw[Aw,n1];unfold AQ;omega)
 have z2:((AB (ds.take a)++[AD t]).length+(AB (ds.drop (a+1))).length<=AQ)=True:=yf8 (by rw[yad,Aw,Aw,n1,n3];show _+1+_<=_;unfold AQ;omega)
 have hm:∀x∈ds.take a++[t]++ds.drop (a+1),Sm 6 x/\Ed x:=λx hx=>by
  rcases yaj.mp hx with hx|hx
  .rcases yaj.mp hx with hx|hx
   .have:=h.dr x (yay hx);exact⟨this.1.mono (by decide),this.2.1⟩
   .rw[ya3.mp hx];exact⟨k1,k2⟩
  .have:=h.dr x (yc5 hx);exact⟨this.1.mono (by decide),this.2.1⟩
 refine⟨.own [.lst (AF (WS f n)),.lst (AB rs),.own (AB (ds.take a)++[AD t]++AB (ds.drop (a+1)))],.lst ((WS f n).map .str),.lst rs,.lst (ds.take a++[t]++ds.drop (a+1)),?_,?_,⟨hp.sw,hp.sr,.inl ((Sm.lst λx hx=>(hm x hx).1).mono (by decide)),hp.rr,λl e=>?_,λl e=>?_⟩,h.bad_d ?_⟩
 .rw[AZ (τ':=Hj ns (AF (WS f n)) (AF (NS f)) (AB rs) (AB ds) c (some (.int a))) (by
   rw[<- ea];generalize AB ds=D at *
   simp![t5,sd,AJ _ sd,dl,m0])]
  generalize AD ds[a]=D0 at *;generalize AD t=T1 at *;generalize AB (ds.take a)=X1 at *;generalize AB (ds.drop (a+1))=X2 at *;generalize AB rs=R at *;generalize AB ds=D at *;generalize AF (WS f n)=Z at *;generalize AF (NS f)=X at *
  simp![t30,FI,e1,c1,c3,z1,z2,sm1,AJ _ sm1,s0,AN _ s0,hs,AN _ hs,p5,p6,p7,p8,sr,AJ _ sr,sd,AJ _ sd,st1,AJ _ st1,st3,AJ _ st3,Ay]
 .show T.lst [.lst (AV (AF (WS f n))),.lst (AV (AB rs)),.lst (AV (AB (ds.take a)++[AD t]++AB (ds.drop (a+1))))]=_;rw[AJ _ sm,p5,AJ _ sr,eW,<- em]
  rfl
 .injection e with e
  subst e;exact λx hx=>(hm x hx).2
 .injection e with e
  subst e;rw[yad,yad,n1,n3];show _+1+_<_
  omega
 .rw[EG,ybp];exact⟨t,by simp,by rw[k3];decide⟩
abbrev MT:Stmt:=A9 50
def OY:AE->Option Rs :=
 (Al (AG (m2 Ai (mC (.str "/")) (AA 0)) (AG (A4 AH) AH)))
def KQ:AE->Option Out :=
 (AL (AX (Ac Cw (AG (AA 0) (AG (mC (.int 9)) AH))) (AK 3))
 (AL (AX (AA 1) (Ct 3 (BW (AK 7) (BW (AK 4) (BW (AK 6) DL)))))
 (AL (Aj (m2 BH (m2 A8 (AA 3) (mC (.int 4))) (mC (.int 0))) (Ab (AA 1)) Ak)
 (AL (AX (m2 Ai (AA 4) (Bx 1 [] (Bz (Bl (Bk (AA 2) none (some (m2 Fz (m2 Ai (mC (.int 64)) (m2 A8 (m2 Ap (AA 3) (mC (.int 4))) (mC (.int 2)))) (m1 BP (AA 4))))) (Bq (AA 2) none (some (m2 Fz (m2 Ai (mC (.int 64)) (m2 A8 (m2 Ap (AA 3) (mC (.int 4))) (mC (.int 2)))) (m1 BP (AA 4))))))) (AK 0) (mC (.bl true)) OY)) (AK 4))
 (AL (AX (m2 Ai (mC (.int 200)) (m2 A8 (m2 Ap (AA 3) (mC (.int 8))) (mC (.int 2)))) (AK 5))
 (AL (AX (Bl (Bk (m2 EB (AA 6) (AA 5)) none (some (AA 5))) (Bq (m2 EB (AA 6) (AA 5)) none (some (AA 5)))) (AK 6))
 (AL (Aj (m2 BH (m2 A8 (AA 3) (mC (.int 4))) (mC (.int 1))) (Ab (A4 (AI (AA 7) (AI (AA 4) (AI (AW (AA 1) (mC (.int 2))) AH))))) Ak)
 (AL (Aj (m2 BH (m2 A8 (AA 3) (mC (.int 4))) (mC (.int 2))) (Ab (A4 (AI (AA 7) (AI (AW (AA 1) (mC (.int 1))) (AI (AA 6) AH))))) Ak)
 (Ab (A4 (AI (AA 7) (AI (AA 4) (AI (AA 6) AH)))))))))))))
def Oh:List T->Option Ru:=BE 3 8 KQ
abbrev Nw:Fn:=⟨2,["_law_script","_law_parts","_law_names_here"],Oh⟩
abbrev Tq:Gm:=⟨["_law_script","_law_parts","_law_names_here","_law_cell","_law_rooms","_law_many","_law_doors","_law_watches"],(AO MT).names,[],1,[("_law_cell_at",HM)],["len"],[],[],[],false,[],[],[],Bm⟩
theorem zcw:FnScope Tq.N Nw.ps (AO MT):=BM (by decide +kernel)
theorem zdn:Av 200 Tq (Ao MT)=some KQ:=by ext
theorem l_s:Str.ofString "/"=mk [47]:=Jc
abbrev GZ(ns:List Int)(Z X R D:List T)(c:Int)(r m d:Option T):AE:=[some (An ns),some (.lst [.lst Z,.lst R,.lst D]),some (.lst X),some (.int c),r,m,d,some (.lst Z)]
def B8(f:Nat->W)(k:Nat):List Hv:=(List.range k).map λj=>.tup [.str (47::f j),.lst []]
theorem SG(f:Nat->W)(k:Nat):(B8 f k).map A6=(List.range k).map λj=>47::f j:=by
 rw[B8,yc0]
 rfl
theorem TM{f:Nat->W}{n:Nat}{rs ds:List Hv}(h:GP f n rs ds)(hri:Iq f (WS f n) rs){k:Nat}(hk:k<=65)(hl:rs.length+k<=100):GP f n (rs++B8 f k) ds:=by
 have lM:(B8 f k).length=k:=by rw[B8,ya5,ybg]
 have hfs:∀w∈rs.map A6,∀c∈w,c≠47:=λw hw c hc=>by
  obtain⟨r,hr,rfl⟩:=yat.mp hw;obtain⟨j,hj,rfl⟩:=ycl.mp hr;obtain⟨g,e,_⟩:=hri j rs[j] (ya0 hj);rw[e]at hc;have:=h.nm.ab (7+j) c hc
  omega
 refine⟨h.nm,h.n1,h.n7,by rw[yad];have:=h.r1;omega,by rw[yad,lM];exact hl,λr hr=>?_,?_,λhm=>?_,h.d1,h.d2,λd hd=>?_⟩
 .rcases yaj.mp hr with hr|hr
  .exact h.rr r hr
  .obtain⟨j,_,rfl⟩:=yat.mp hr;have hl2:=h.nm.l2 j;have hab:=h.nm.ab j;refine⟨47::f j,[],rfl,?_,⟨by rw[yaq];omega,λc hc=>?_⟩,ybe _,λk hk=>absurd hk yac⟩
   .have h2:((47::f j).all λc=>decide (c=47) || Cd c)=true:=yam.mpr λc hc=>by
     rcases ya9.mp hc with rfl|hc
     .rfl
     .rw[show Cd c=true from yer (hab c hc),ycf]
    unfold DD;rw[h2,yer (show 1<=(47::f j).length/\(47::f j).length<=60 by rw[yaq];omega)]
    rfl
   .rcases ya9.mp hc with rfl|hc
    .decide
    .have:=hab c hc;omega
 .rw[yb9,SG,yd6];refine⟨h.ru,?_,λa ha b hb e=>?_⟩
  .rw[List.Nodup,ye5];refine List.nodup_range.imp_of_mem λ{i j} hi hj hij e=>hij (h.nm.un i j ?_ ?_ (ycp e).2)
   .have:=ybn.mp hi;omega
   .have:=ybn.mp hj;omega
  .obtain⟨j,_,rfl⟩:=yat.mp hb;exact hfs a ha 47 (by rw[e];exact yah ..) rfl
 .rw[yb9,SG]at hm
  rcases yaj.mp hm with hm|hm
  .exact h.r30 hm
  .obtain⟨j,_,e⟩:=yat.mp hm;have:=h.nm.ab 30 47 (by rw[<- e];exact yah ..)
   omega
 .obtain⟨s,e,g,q,z,rfl,h1,h2,h3⟩:=h.dd d hd;rw[yb9];exact⟨s,e,g,q,z,rfl,ybb _ h1,ybb _ h2,h3⟩
def C1(m:Nat)(ds:List Hv):List Hv:=(List.replicate m ds).flatten.take m
theorem zf6{m:Nat}{ds:List Hv}{d:Hv}(hd:d∈C1 m ds):d∈ds:=by
 obtain⟨l,hl,hd⟩:=List.mem_flatten.mp (yay hd);rw[(List.mem_replicate.mp hl).2]at hd;exact hd
theorem SO{m:Nat}{ds:List Hv}(h:1<=ds.length):(C1 m ds).length=m:=by
 have e:(List.replicate m ds).flatten.length=m * ds.length:=by
  rw[List.length_flatten,List.map_replicate,List.sum_replicate_nat]
 rw[C1,yb2,e,ycb];exact Nat.le_mul_of_pos_right m h
theorem TN{f:Nat->W}{n:Nat}{rs ds:List Hv}(h:GP f n rs ds){m:Nat}(h1:1<=m)(h2:m<=300):GP f n rs (C1 m ds) :=
 ⟨h.nm,h.n1,h.n7,h.r1,h.r2,h.rr,h.ru,h.r30,by rw[SO h.d1];exact h1,by rw[SO h.d1];exact h2,λd hd=>h.dd d (zf6 hd)⟩
theorem rep_T(m:Nat)(ds:List Hv):(List.replicate m (AB ds)).flatten=AB (List.replicate m ds).flatten:=by
 rw[BV,BV,List.map_flatten,List.map_replicate]
theorem zfi{f:Nat->W}{n:Nat}{rs ds:List Hv}(h:GP f n rs ds)(hr5:rs.length<=5)(hd6:ds.length<=6)(hri:Iq f (WS f n) rs)(ns:List Int):∃u rs' ds',Oh [An ns,.lst [.lst (AF (WS f n)),.lst (AB rs),.lst (AB ds)],.lst (AF (NS f))]=some (.ok u)/\u.share=.lst [.lst (AF (WS f n)),.lst (AB rs'),.lst (AB ds')]/\GP f n rs' ds':=by
 have hok:=FK h.nm n;have c9:=E6 ns (k:=9) (by decide)
 generalize ns.getD (9:Int).toNat 0=c at c9;have sr:=AS rs;have sd:=AS ds;have hr1:=h.r1;have hd1:=h.d1;have p5:AV (AF (WS f n))=AF (WS f n):=A2 _;have p6:A7 (AF (WS f n))=true:=Aa _;have p7:AV (AF (NS f))=AF (NS f):=A2 _;have p8:A7 (AF (NS f))=true:=Aa _;have t4:BN 4=true:=Bg (by decide) (by decide)
 have t8:BN 8=true:=Bg (by decide) (by decide)
 obtain⟨a0,a1⟩:=BF (c:=c.fdiv 4) (n:=2) (by decide)
 obtain⟨b0,b1⟩:=BF (c:=c.fdiv 8) (n:=2) (by decide)
 obtain⟨k,ek⟩:=yar (show 0<=64+(c.fdiv 4).fmod 2 - (rs.length:Int) by omega)
 obtain⟨m,em⟩:=yar (show 0<=200+(c.fdiv 8).fmod 2 by omega)
 have hk:k<=65:=by omega
 have hkr:rs.length+k<=65:=by omega
 have rl:((AB rs).length:Int)=(rs.length:Int):=by rw[Aw]
 have cn:B0 (AF (NS f)) none (some (k:Int))=AF (WS f k):=by
  rw[HR,J9,NS,<- ydf,List.take_range,ycb (by omega)]
 have lc:=E3 (b:=AK 0) (me:=OY) (λw:W=>T.str (mk w)) (λw=>.tup [.str (mk (47::w)),.lst []]) (λτ=>∃o,τ=[o]) (WS f k) [none] ⟨none,rfl⟩ λw hw τ hI=>by
  obtain⟨o,rfl⟩:=hI;refine⟨[some (.str (mk w))],rfl,?_,_,rfl⟩;obtain⟨j,_,rfl⟩:=Fk hw;have hl:=h.nm.l2 j;have z:(1+(f j).length<=AQ)=True:=yf8 (by unfold AQ;omega)
  have z1:([47]:W).length=1:=rfl;unfold OY
  simp![l_s,KA,Jx,z,z1]
 rw[<- Cf]at lc
 have eM:((WS f k).map λw=>T.tup [.str (mk (47::w)),.lst []])=AB (B8 f k):=by
  rw[BV,B8,yc0,yc0]
  rfl
 rw[eM]at lc;have lM:(B8 f k).length=k:=by rw[B8,ya5,ybg]
 have sM:=AS (B8 f k);have lW:(AF (WS f k)).length=k:=Il f k;have z1:(k<=AQ)=True:=yf8 (by unfold AQ;omega)
 have z2:((AB rs).length+(AB (B8 f k)).length<=AQ)=True:=yf8 (by rw[Aw,Aw,lM];unfold AQ;omega)
 have eR:AB rs++AB (B8 f k)=AB (rs++B8 f k):=(CA _ _).symm;have sR:=AS (rs++B8 f k);have pW:AV (AF (WS f k))=AF (WS f k):=A2 _;have pW2:A7 (AF (WS f k))=true:=Aa _;have k63m:KZ (m:Int)=true:=zi4 (by omega)
 have z3:((AB ds).length * m<=AQ)=True:=yf8 (by
  rw[Aw];have:ds.length * m<=6 * 201:=Nat.mul_le_mul (by omega) (by omega)
  unfold AQ
  omega)
 have sF:=AS (List.replicate m ds).flatten;have cF:B0 (AB (List.replicate m ds).flatten) none (some (m:Int))=AB (C1 m ds):=by rw[HR,K6];rfl
 have sD:=AS (C1 m ds);have rT:=rep_T m ds;have Cu:=HW (.lst (AF (WS f n))) (.lst (AB rs)) [.lst (AB ds)];have Dt:=Ij (.lst (AF (WS f n))) (.lst (AB rs)) (.lst (AB ds)) [];obtain⟨d0,d1⟩:=BF (c:=c) (n:=4) (by decide)
 have shr:∀{a b:List T},A7 a=true->A7 b=true->(T.own [.lst (AF (WS f n)),.lst a,.lst b]).share=.lst [.lst (AF (WS f n)),.lst a,.lst b]:=λ{a b} ha hb=>by
  show T.lst [.lst (AV (AF (WS f n))),.lst (AV a),.lst (AV b)]=_;rw[p5,AJ _ ha,AJ _ hb]
 show ∃u rs' ds',Ay (KQ [some (An ns),some (.lst [.lst (AF (WS f n)),.lst (AB rs),.lst (AB ds)]),some (.lst (AF (NS f))),none,none,none,none,none])=_/\_;unfold KQ;rw[AZ (τ':=[some (An ns),some (.lst [.lst (AF (WS f n)),.lst (AB rs),.lst (AB ds)]),some (.lst (AF (NS f))),some (.int c),none,none,none,none]) (by simp![c9,Ci,Cg])]
 rw[AZ (τ':=GZ ns (AF (WS f n)) (AF (NS f)) (AB rs) (AB ds) c (some (.lst (AB rs))) none (some (.lst (AB ds)))) (by
  generalize AB rs=R at *;generalize AB ds=D at *;generalize AF (WS f n)=Z at *
  simp![p5,p6,sr,AJ _ sr,sd,AJ _ sd])]
 by_cases w0:c.fmod 4=0
 .have q0:(c.fmod 4 == 0)=true:=by rw[w0];rfl
  refine⟨.lst [.lst (AF (WS f n)),.lst (AB rs),.lst (AB ds)],rs,ds,?_,?_,h⟩
  .rw[DA (t:=.lst [.lst (AF (WS f n)),.lst (AB rs),.lst (AB ds)]) (by
    generalize AB rs=R at *;generalize AB ds=D at *;generalize AF (WS f n)=Z at *
    simp![As,q0,p5,p6,sr,AJ _ sr,sd,AJ _ sd])]
   rfl
  .show T.lst [.lst (AV (AF (WS f n))),.lst (AV (AB rs)),.lst (AV (AB ds))]=_;rw[p5,AJ _ sr,AJ _ sd]
 have q0:(c.fmod 4 == 0)=false:=by rw[yfa];exact w0
 rw[AZ (τ':=GZ ns (AF (WS f n)) (AF (NS f)) (AB rs) (AB ds) c (some (.lst (AB rs))) none (some (.lst (AB ds)))) (by simp![As,q0])]
 rw[AZ (τ':=GZ ns (AF (WS f n)) (AF (NS f)) (AB rs) (AB ds) c (some (.lst (AB (rs++B8 f k)))) none (some (.lst (AB ds)))) (by
  rw[<- eR]at sR ⊢;generalize AF (WS f k)=Y at *;generalize AB (B8 f k)=M at *;generalize AB rs=R at *;generalize AF (NS f)=X at *
  simp![t4,p7,p8,sr,AJ _ sr,rl,ek,cn,pW,pW2,lW,z1,lc,sM,AJ _ sM,z2,sR,AJ _ sR])]
 rw[AZ (τ':=GZ ns (AF (WS f n)) (AF (NS f)) (AB rs) (AB ds) c (some (.lst (AB (rs++B8 f k)))) (some (.int m)) (some (.lst (AB ds)))) (by simp![t8,em])]
 rw[AZ (τ':=GZ ns (AF (WS f n)) (AF (NS f)) (AB rs) (AB ds) c (some (.lst (AB (rs++B8 f k)))) (some (.int m)) (some (.lst (AB (C1 m ds))))) (by
  generalize AB (C1 m ds)=M at *;generalize AB (List.replicate m ds).flatten=V at *;generalize AB ds=D at *
  simp![k63m,z3,rT,sd,AJ _ sd,sF,AJ _ sF,cF,sD,AJ _ sD])]
 have hm1:1<=m:=by omega
 have hm2:m<=300:=by omega
 by_cases w1:c.fmod 4=1
 .have q1:(c.fmod 4 == 1)=true:=by rw[w1];rfl
  refine⟨.own [.lst (AF (WS f n)),.lst (AB (rs++B8 f k)),.lst (AB ds)],rs++B8 f k,ds,?_,shr sR sd,TM h hri hk (by omega)⟩
  rw[DA (t:=.own [.lst (AF (WS f n)),.lst (AB (rs++B8 f k)),.lst (AB ds)]) (by
   generalize AB (rs++B8 f k)=M at *;generalize AB (C1 m ds)=V at *;generalize AB rs=R at *;generalize AB ds=D at *;generalize AF (WS f n)=Z at *
   simp![As,q1,Dt,p5,p6,sr,AJ _ sr,sd,AJ _ sd,sR,AJ _ sR])]
  rfl
 have q1:(c.fmod 4 == 1)=false:=by rw[yfa];exact w1
 rw[AZ (τ':=GZ ns (AF (WS f n)) (AF (NS f)) (AB rs) (AB ds) c (some (.lst (AB (rs++B8 f k)))) (some (.int m)) (some (.lst (AB (C1 m ds))))) (by simp![As,q1])]
 by_cases w2:c.fmod 4=2
 .have q2:(c.fmod 4 == 2)=true:=by rw[w2];rfl
  refine⟨.own [.lst (AF (WS f n)),.lst (AB rs),.lst (AB (C1 m ds))],rs,C1 m ds,?_,shr sr sD,TN h hm1 hm2⟩
  rw[DA (t:=.own [.lst (AF (WS f n)),.lst (AB rs),.lst (AB (C1 m ds))]) (by
   generalize AB (rs++B8 f k)=M at *;generalize AB (C1 m ds)=V at *;generalize AB rs=R at *;generalize AB ds=D at *;generalize AF (WS f n)=Z at *
   simp![As,q2,Cu,p5,p6,sr,AJ _ sr,sd,AJ _ sd,sD,AJ _ sD])]
  rfl
 have q2:(c.fmod 4 == 2)=false:=by rw[yfa];exact w2
 rw[AZ (τ':=GZ ns (AF (WS f n)) (AF (NS f)) (AB rs) (AB ds) c (some (.lst (AB (rs++B8 f k)))) (some (.int m)) (some (.lst (AB (C1 m ds))))) (by simp![As,q2])]
 refine⟨.own [.lst (AF (WS f n)),.lst (AB (rs++B8 f k)),.lst (AB (C1 m ds))],rs++B8 f k,C1 m ds,?_,shr sR sD,TN (TM h hri hk (by omega)) hm1 hm2⟩
 generalize AB (rs++B8 f k)=M at *;generalize AB (C1 m ds)=V at *;generalize AB rs=R at *;generalize AB ds=D at *;generalize AF (WS f n)=Z at *
 simp![p5,p6,sD,AJ _ sD,sR,AJ _ sR,Ay]
abbrev MS:Stmt:=A9 51
def Kx:AE->Option Rs :=
 (DW (m1 (By "list") (AA 0)) (m1 Ey (AA 0)) (AA 0))
def Mu:AE->Option Out :=
 (Ab (Bx 1 [] (Bz (AA 0)) (AK 0) (mC (.bl true)) Kx))
def JA:List T->Option Ru:=BE 1 1 Mu
abbrev Nv:Fn:=⟨1,["_law_parts"],JA⟩
abbrev Tp:Gm:=⟨["_law_parts"],(AO MS).names,[],0,[],["isinstance","list"],[],[],[],false,[],[],[],Bm⟩
theorem zec:FnScope Tp.N Nv.ps (AO MS):=BM (by decide +kernel)
theorem zfq:Av 200 Tp (Ao MS)=some Mu:=by ext
def CK:Hv->T
 |.lst l=>.own (AB l)
 |t=>AD t
theorem NI(t:Hv):(CK t).share=AD t:=by
 cases t with
 |lst l=>rw[CK,T.share,AJ _ (AS l)];rfl
 |_=>exact AN _ (A5 _)
theorem zi3(w r d:Hv):JA [.lst [AD w,AD r,AD d]]=some (.ok (.own [CK w,CK r,CK d])):=by
 have s1:=A5 w;have s2:=A5 r;have s3:=A5 d
 have lc:=E3 (b:=AK 0) (me:=Kx) AD CK (λτ=>∃o,τ=[o]) [w,r,d] [none] ⟨none,rfl⟩ λt _ τ hI=>by
  obtain⟨o,rfl⟩:=hI;refine⟨[some (AD t)],rfl,?_,_,rfl⟩;unfold Kx;cases t with
  |lst l =>
   have s:=AS l;show _=some (Rs.v (.own (AB l)) false);unfold AD
   simp![s,AJ _ s]
  |tup l =>
   have s:=AS l;unfold CK AD
   simp![s,AJ _ s]
  |_ =>
   unfold CK AD
   simp![]
 replace lc:CQ (AK 0) (mC (.bl true)) Kx [AD w,AD r,AD d] [none]=some [CK w,CK r,CK d]:=lc
 have z:(3<=AQ)=True:=yf8 (by unfold AQ;omega)
 unfold JA Mu;generalize AD w=y1 at *;generalize AD r=y2 at *;generalize AD d=y3 at *
 simp![s1,s2,s3,AN _ s1,AN _ s2,AN _ s3,lc,z]
theorem zf4{w r d:Hv}(h1:Sm 10 w\/w=.dic)(h2:Sm 10 r\/r=.dic)(h3:Sm 10 d\/d=.dic):Cc (.lst [AD w,AD r,AD d]) (.lst [AD w,AD r,AD d])=some (.bl false):=by
 have el:∀t:Hv,(Sm 10 t\/t=.dic)->(BZ (AD t) && BZ (AD t) && decide (min (AD t).data.depth (AD t).data.depth<=60) && PyData.eqv (AD t).data (AD t).data || d0 (AD t) && d0 (AD t))=true:=λt ht=>by
  rcases ht with ht|rfl
  .have ft:=ht.fit;have hf:BZ (AD t)=true:=by unfold BZ;rw[ft.p,ft.c];rfl
   rw[hf,ft.e,yer (by have:=ft.d;omega)]
   rfl
  .rfl
 unfold Cc
 by_cases ok:Dq (.lst [AD w,AD r,AD d]) (.lst [AD w,AD r,AD d])=true
 .rw[if_pos ok];unfold Dq at ok;rw[ya1,ya1]at ok;have hc:=(ya1 ..▸ok.1.1:_/\_).2
  replace hc:((AD w).data.canLay0 && ((AD r).data.canLay0 && ((AD d).data.canLay0 && true)))=true:=hc
  rw[ya1,ya1,ya1]at hc
  have nd:∀t:Hv,(Sm 10 t\/t=.dic)->(AD t).data.canLay0=true->PyData.eqv (AD t).data (AD t).data=true:=λt ht hc=>by
   rcases ht with ht|rfl
   .exact ht.fit.e
   .cases hc
  have e:Fh (.lst [AD w,AD r,AD d]) (.lst [AD w,AD r,AD d])=true:=by
   show(PyData.eqv (AD w).data (AD w).data && (PyData.eqv (AD r).data (AD r).data && (PyData.eqv (AD d).data (AD d).data && true)))=true;rw[nd w h1 hc.1,nd r h2 hc.2.1,nd d h3 hc.2.2.1]
   rfl
  rw[e]
  rfl
 .rw[if_neg ok]
  have:FJ [AD w,AD r,AD d] [AD w,AD r,AD d]=true:=by
   unfold FJ FJ FJ;rw[el w h1,el r h2,el d h3]
   rfl
  show(if FJ [AD w,AD r,AD d] [AD w,AD r,AD d]=true then some (T.bl false) else none)=_
  rw[if_pos this]
abbrev Hq:Stmt:=A9 52
def JM:AE->Option Out :=
 (Aj (Br (m2 Cc (Ac Iz (AG (AA 5) AH)) (AA 4)) (Br (m2 Cc (Ac JA (AG (AA 5) AH)) (AA 3)) (m2 Cc (Ac Iz (AG (AA 2) AH)) (mC (.str "made"))))) (Ab (mC (.bl false))) Ak)
def KE:AE->Option Out :=
 (AL (AX (Ac Iy (AG (Ac Cw (AG (AA 0) (AG (mC (.int 0)) AH))) (AG (mC (.int 66)) AH))) (AK 1))
 (AL (AX (Ac Og (AG (AA 0) (AG (AA 1) AH))) (AK 2))
 (AL (AX (AA 2) (AK 3))
 (AL (AX (mC (.str "made")) (AK 4))
 (AL (Aj (m2 BH (m2 A8 (Ac Cw (AG (AA 0) (AG (mC (.int 7)) AH))) (mC (.int 3))) (mC (.int 0))) (AL (AX (Ac Oh (AG (AA 0) (AG (AA 2) (AG (AA 1) AH)))) (AK 3))
 (Aj (Br (m2 (C6 λi j=>decide (j<i)) (m1 BP (AW (AA 3) (mC (.int 1)))) (mC (.int 64))) (m2 (C6 λi j=>decide (j<i)) (m1 BP (AW (AA 3) (mC (.int 2)))) (mC (.int 200)))) (AX (mC (.str "many")) (AK 4)) Ak)) Ak)
 (AL (Aj (m2 Ce (m2 A8 (Ac Cw (AG (AA 0) (AG (mC (.int 7)) AH))) (mC (.int 6))) (Al (AG (mC (.int 0)) (AG (mC (.int 1)) AH)))) (AL (AX (Ac Of (AG (AA 0) (AG (AA 3) (AG (AA 1) AH)))) (AK 3))
 (AX (mC (.str "bad")) (AK 4))) Ak)
 (AL (AX (Ac JA (AG (AA 3) AH)) (AK 5))
 (AL (DR (Dp (AG (mC (.int 2)) AH)) (AK 6) JM)
 (Ab (mC (.bl true)))))))))))
def O9:List T->Option Ru:=BE 1 7 KE
abbrev zli:Fn:=⟨9,["_law_script"],O9⟩
abbrev N1:Gm:=⟨["_law_script","_law_names_here","_law_right_here","_law_parts","_law_due","_law_handed","_law_k"],(AO Hq).names,[],8,[("_law_names",Nt),("_law_cell_at",HM),("_law_right",Nr),("_law_grown",Nw),("_law_spoilt",Nq),("_law_kept",Nv),("_law_made",Nu)],["len","range"],[],[],[],false,[],[],[],Bm⟩
theorem zj7:FnScope N1.N zli.ps (AO Hq):=BM (by decide +kernel)
theorem zls:Av 200 N1 (Ao Hq)=some KE:=by ext
theorem in_01(x:Int):∃b,Ce (.int x) (.tup [.int 0,.int 1])=some (.bl b):=⟨_,rfl⟩
theorem JU(v:Vh):PyData.strOk (Eh v)=true:=by cases v<;>decide +kernel
abbrev Dm(ns:List Int)(X:List T)(A B:T)(s:Str)(h k:Option T):AE:=[some (An ns),some (.lst X),some A,some B,some (.str s),h,k]
theorem law_true(ns:List Int)(h:ns.length<=63):O9 [An ns]=some (.ok (.bl true)):=by
 have c0:=E6 ns (k:=0) (by decide)
 have c7:=E6 ns (k:=7) (by decide)
 generalize ns.getD (0:Int).toNat 0=a0 at c0;generalize ns.getD (7:Int).toNat 0=c at c7;obtain⟨f,hf,en⟩:=nm_ex a0;obtain⟨n,rs,ds,er,hg,hr5,hd6,hri⟩:=zee hf ns;have p7:AV (AF (NS f))=AF (NS f):=A2 _;have p8:A7 (AF (NS f))=true:=Aa _;have p5:AV (AF (WS f n))=AF (WS f n):=A2 _;have p6:A7 (AF (WS f n))=true:=Aa _;have sr:=AS rs;have sd:=AS ds;have eW:AD (.lst ((WS f n).map .str))=.lst (AF (WS f n)):=by rw[AD,Co]
 have mR:Iz [.lst [.lst (AF (WS f n)),.lst (AB rs),.lst (AB ds)]]=some (.ok (.str "made")):=by
  have hp:=hg.pt;have:=SN hp.sw.ok hp.rr hp.dd hp.dl;rw[hg.mach,if_neg (by omega),eW]at this
  exact this
 obtain⟨ib,ein⟩:=in_01 (c.fmod 6);generalize hA:T.lst [.lst (AF (WS f n)),.lst (AB rs),.lst (AB ds)]=A at *
 have sA:A.sh=true:=by
  rw[<- hA];show((!false) && (((!false) && A7 (AF (WS f n))) && (((!false) && A7 (AB rs)) && (((!false) && A7 (AB ds)) && true))))=true;rw[p6,sr,sd]
  rfl
 have oA:(T.own [.lst (AF (WS f n)),.lst (AB rs),.lst (AB ds)]).share=A:=by
  rw[<- hA];show T.lst [.lst (AV (AF (WS f n))),.lst (AV (AB rs)),.lst (AV (AB ds))]=_;rw[p5,AJ _ sr,AJ _ sd]
 generalize hO:T.own [.lst (AF (WS f n)),.lst (AB rs),.lst (AB ds)]=O at *;show Ay (KE [some (An ns),none,none,none,none,none,none])=_;unfold KE;rw[AZ (τ':=[some (An ns),some (.lst (AF (NS f))),none,none,none,none,none]) (by simp![c0,Ci,Cg,en,p7])]
 rw[AZ (τ':=[some (An ns),some (.lst (AF (NS f))),some A,none,none,none,none]) (by
  generalize AF (NS f)=X at *
  simp![Ci,Cg,p7,p8,er,oA])]
 rw[AZ (τ':=[some (An ns),some (.lst (AF (NS f))),some A,some A,none,none,none]) (by simp![sA,AN _ sA])]
 rw[AZ (τ':=Dm ns (AF (NS f)) A A "made" none none) (by simp![])]
 refine Lm (P:=λτ=>∃rs' ds',τ=Dm ns (AF (NS f)) A (.lst [.lst (AF (WS f n)),.lst (AB rs'),.lst (AB ds')]) (Eh (CP (.lst ((WS f n).map .str)) (.lst rs') (.lst ds'))) none none/\GP f n rs' ds') (λr=>Ay r=some (.ok (.bl true))) ?_ ?_
 .by_cases w3:c.fmod 3=0
  .have q3:(c.fmod 3 == 0)=true:=by rw[w3];rfl
   rw[<- hA]at sA;obtain⟨u,rs',ds',e1,e2,hg'⟩:=zfi hg hr5 hd6 hri ns;rw[hA]at e1 sA;have sr':=AS rs';have sd':=AS ds';have l1:((AB rs').length:Int)=(rs'.length:Int):=by rw[Aw]
   have l2:((AB ds').length:Int)=(ds'.length:Int):=by rw[Aw]
   have Cu:=HW (.lst (AF (WS f n))) (.lst (AB rs')) [.lst (AB ds')];have Dt:=Ij (.lst (AF (WS f n))) (.lst (AB rs')) (.lst (AB ds')) [];refine⟨_,?_,rs',ds',rfl,hg'⟩;rw[hg'.mach];generalize AB rs'=R at *;generalize AB ds'=D at *;generalize AF (WS f n)=Z at *;generalize AF (NS f)=X at *
   by_cases h64:64<rs'.length
   .have g1:decide ((64:Int)<(rs'.length:Int))=true:=yer (by omega)
    rw[if_pos (.inl h64)]
    simp![c7,Ci,Cg,As,q3,sA,AN _ sA,p7,p8,e1,e2,Cu,Dt,l1,l2,sr',AJ _ sr',sd',AJ _ sd',g1]
    rfl
   .have g1:decide ((64:Int)<(rs'.length:Int))=false:=ye8 (by omega)
    by_cases h200:200<ds'.length
    .have g2:decide ((200:Int)<(ds'.length:Int))=true:=yer (by omega)
     rw[if_pos (.inr h200)]
     simp![c7,Ci,Cg,As,q3,sA,AN _ sA,p7,p8,e1,e2,Cu,Dt,l1,l2,sr',AJ _ sr',sd',AJ _ sd',g1,g2]
     rfl
    .have g2:decide ((200:Int)<(ds'.length:Int))=false:=ye8 (by omega)
     rw[if_neg (λz=>z.elim h64 h200)]
     simp![c7,Ci,Cg,As,q3,sA,AN _ sA,p7,p8,e1,e2,Cu,Dt,l1,l2,sr',AJ _ sr',sd',AJ _ sd',g1,g2]
     rfl
  .have q3:(c.fmod 3 == 0)=false:=by rw[yfa];exact w3
   refine⟨Dm ns (AF (NS f)) A A "made" none none,by simp![c7,Ci,Cg,As,q3],rs,ds,?_,hg⟩
   rw[hg.mach,if_neg (by omega),hA]
   rfl
 rintro τ ⟨rs',ds',rfl,hg'⟩;have sr':=AS rs';have sd':=AS ds';refine Lm (P:=λτ=>∃w r d,τ=Dm ns (AF (NS f)) A (.lst [AD w,AD r,AD d]) (Eh (CP w r d)) none none/\PtOk w r d) (λr=>Ay r=some (.ok (.bl true))) ?_ ?_
 .cases ib with
  |true =>
   obtain⟨u,w,r,d,e1,e2,hp,hb⟩:=zcq hg' ns;refine⟨Dm ns (AF (NS f)) A (.lst [AD w,AD r,AD d]) "bad" none none,?_,w,r,d,by rw[hb];rfl,hp⟩
   generalize T.lst [AD w,AD r,AD d]=Y at *;generalize AB rs'=R at *;generalize AB ds'=D at *;generalize AF (WS f n)=Z at *;generalize AF (NS f)=X at *
   simp![c7,Ci,Cg,ein,p5,p6,p7,p8,e1,e2,sr',AJ _ sr',sd',AJ _ sd']
  |false =>
   refine⟨Dm ns (AF (NS f)) A (.lst [.lst (AF (WS f n)),.lst (AB rs'),.lst (AB ds')]) (Eh (CP (.lst ((WS f n).map .str)) (.lst rs') (.lst ds'))) none none,by simp![c7,Ci,Cg,ein],_,_,_,?_,hg'.pt⟩
   rw[eW]
   rfl
 rintro τ ⟨w,r,d,rfl,hp⟩;have k1:=zi3 w r d;have k2:=zf4 (.inl hp.sw) hp.sr hp.sd;have k3:=SN hp.sw.ok hp.rr hp.dd hp.dl
 have k4:(T.own [CK w,CK r,CK d]).share=.lst [AD w,AD r,AD d]:=by
  show T.lst [(CK w).share,(CK r).share,(CK d).share]=_;rw[NI,NI,NI]
 have sY:(T.lst [AD w,AD r,AD d]).sh=true:=by
  show((!false) && ((AD w).sh && ((AD r).sh && ((AD d).sh && true))))=true;rw[A5,A5,A5]
  rfl
 have n1:=SE (JU (CP w r d)) (JU (CP w r d));have n2:=SE (JU .read) (JU .read);rw[yer rfl]at n1 n2
 replace n2:Cc (.str "made") (.str "made")=some (.bl (!true)):=n2
 generalize Eh (CP w r d)=V at *;generalize T.lst [AD w,AD r,AD d]=Y at *;generalize T.own [CK w,CK r,CK d]=O2 at *;generalize AF (NS f)=X at *;rw[AZ (τ':=Dm ns X A Y V (some Y) none) (by simp![sY,AN _ sY,k1,k4])]
 have body:∀x,JM (Dm ns X A Y V (some Y) x)=some (.nx (Dm ns X A Y V (some Y) x)):=λx=>by
  unfold JM
  simp![sY,AN _ sY,sA,AN _ sA,k1,k2,k3,k4,mR,n1,n2]
 obtain⟨τ,e,x,rfl⟩:=G0 (b:=AK 6) (body:=JM) (ts:=mT 2 λi=>.int (i:Int)) (τ:=Dm ns X A Y V (some Y) none)
  (λi τ=>∃x,τ=Dm ns X A Y V (some Y) x) ⟨none,rfl⟩ λi t τ h1 h2=>by
   obtain⟨x,rfl⟩:=h2;exact⟨Dm ns X A Y V (some Y) (some t),by simp![],_,body (some t),_,rfl⟩
 have ok:=Me (m:=2) (by decide)
 have er:Dy 0 (2:Int).toNat=mT 2 λi=>.int (i:Int):=Hx
 replace ok:GH 2=true:=ok
 simp![ok,er,e,Ay]
end
end Zl
namespace Zl
open PySem PySem.W L2 Zw Zx Pu Hd
abbrev pw:Program:=PySem.Challenge.pw_zonewalk_k22_machines_refused
abbrev M1:OpenLaw:=PySem.Challenge.rw_zonewalk_k22_machines_refused
abbrev md:String:="__module__"
abbrev fl:String:="__firstlineno__"
abbrev sa:String:="__static_attributes__"
abbrev dc:String:="__doc__"
noncomputable abbrev cf:Str:="/claim/cut.py"
noncomputable def tO(l:List Value):Obj:=⟨(.type "tuple"),none,(.seq (Array.mk l) 0),Array.mk []⟩
noncomputable def dO(l:List DictEntry)(n:Nat):Obj:=⟨(.type "dict"),none,(.dict (Array.mk l) n),Array.mk []⟩
def eb:List Value:=[(.type "ValueError"),(.type "Exception"),(.type "BaseException"),(.type "object")]
noncomputable def yO(a:Str)(b c:List Value)(n:Addr)(d:List Value)(r ta tb:Nat)(w:String):Obj:=⟨(.type "type"),none,(.cls ⟨a,b,c,n,a,true,[],d,false,none,false⟩),Array.mk [(some (.ref r)),none,(some (.str a ta)),(some (.str a tb)),(some (.builtin w)),(some (.bool true))]⟩
def cP(a:Str)(ta:Nat)(b:Str)(tb tf:Nat)(r n k:Int)(r1:Nat)(z:Int)(v1 v2 v3 v4 v5:Value)(x y:Int)(tg:Nat):Obj:=⟨(.type "code"),none,(.fields (Array.mk [(.str a ta),(.str b tb),(.str cf tf),(.int r 0),(.int n 0),(.int 0 0),(.int 0 0),(.int k 0),(.ref r1),(.bool true),(.int z 0),v1,v2,v3,v4,v5,(.int x 0),(.int y 0),(.str cf tg)])),Array.mk []⟩
noncomputable def cO(a:Str)(ta tb tf:Nat)(r n k:Int)(r1:Nat)(z:Int)(r2 r3 r4 r5:Nat)(x y:Int)(tg:Nat):Obj:=cP a ta a tb tf r n k r1 z (.ref r2) .none (.ref r3) (.ref r4) (.ref r5) x y tg
def fO(a b:Str)(s:Stmt)(d:Value)(m:Str)(t c:Nat)(y:Value):Obj:=⟨(.type "function"),none,(.func (fnOf a b (Fi s) (Ao s) (AO s) d .none .none (.str m t) none (.ref c) y)),Array.mk []⟩
def gO(a:Str)(s:Stmt)(m:Str)(t c:Nat):Obj:=fO a a s .none m t c .none
def o2(P:Params):Obj:=⟨.none,none,(.dict (Array.mk []) 0),Array.mk []⟩
def o3(P:Params):Obj:=dO [en P "__name__" 165 (.str "law_zonewalk_k22_machines_refused" 610),en P "__doc__" 166 .none,en P "__package__" 167 .none,en P "__loader__" 168 (.builtin "__main__.__loader__#opaque"),en P "__spec__" 169 .none,en P "__annotations__" 170 (.ref 6),en P "__builtins__" 171 (.ref 4),en P "__file__" 173 (.str "/claim/cut.py" 172),en P "__cached__" 174 .none,en P "_wall" 193 (.ref 21),en P "WalkError" 213 (.ref 31),en P "NoNumber" 229 (.ref 44),en P "BadMachine" 245 (.ref 56),en P "TooMany" 261 (.ref 68),en P "NoRun" 286 (.ref 87),en P "NoMark" 302 (.ref 99),en P "NoRoad" 318 (.ref 111),en P "NoRoom" 334 (.ref 123),en P "NoText" 350 (.ref 135),en P "NoRow" 366 (.ref 147),en P "is_whole" 375 (.ref 156),en P "WORDS" 383 (.ref 157),en P "STAY_WORDS" 386 (.ref 158),en P "is_look" 395 (.ref 165),en P "is_number" 402 (.ref 172),en P "is_guard" 408 (.ref 177),en P "MOST_WATCHES" 412 (.int 7 411),en P "MOST_ROOMS" 414 (.int 64 413),en P "MOST_DOORS" 416 (.int 200 415),en P "is_small_letter" 423 (.ref 184),en P "is_name" 429 (.ref 189),en P "is_watch_name" 436 (.ref 196),en P "is_room_name" 442 (.ref 201),en P "is_sign" 449 (.ref 208),en P "own_copy" 456 (.ref 215),en P "Door" 508 (.ref 247),en P "Machine" 574 (.ref 301),en P "check_watches" 580 (.ref 310),en P "are_unlike" 587 (.ref 317),en P "check_rooms" 593 (.ref 322),en P "check_doors" 603 (.ref 329),en P "are_noughts" 609 (.ref 334),en P "_law_cell_at" 619 (.ref 341),en P "_law_word" 625 (.ref 346),en P "_law_built" 634 (.ref 353),en P "_law_made" 644 (.ref 360),en P "_law_names" 660 (.ref 367),en P "_law_right" 679 (.ref 374),en P "_law_no_name" 690 (.ref 381),en P "_law_no_look" 702 (.ref 388),en P "_law_wrong_watches" 712 (.ref 395),en P "_law_wrong_rooms" 728 (.ref 402),en P "_law_wrong_door" 745 (.ref 409),en P "_law_spoilt" 760 (.ref 416),en P "_law_grown" 766 (.ref 421),en P "_law_kept" 772 (.ref 426),en P "law" 785 (.ref 433)] 57
def o22(P:Params):Obj:=tO [(.type "ValueError")]
def o29(P:Params):Obj:=tO []
def o30(P:Params):Obj:=dO [en P md 203 (.str "zonewalk.errors" 194),en P fl 207 (.int 5 206),en P sa 208 (.ref 29),en P "__weakref__" 210 (.ref 32),en P dc 211 .none] 3
def o31(P:Params):Obj:=yO "WalkError" [(.type "ValueError")] ([(.ref 31)]++eb) 30 [(.ref 44),(.ref 56),(.ref 68),(.ref 87),(.ref 99),(.ref 111),(.ref 123),(.ref 135),(.ref 147)] 22 196 204 "ValueError.__new__"
def o32(P:Params):Obj:=⟨(.type "getset_descriptor"),none,(.fields (Array.mk [(.str "__weakref__" 209),(.ref 31),(.builtin "ExceptionGroup.__weakref__"),.none])),Array.mk []⟩
def o35(P:Params):Obj:=tO [(.ref 31)]
def o42(P:Params):Obj:=tO []
def o43(P:Params):Obj:=dO [en P md 221 (.str "zonewalk.errors" 194),en P fl 225 (.int 7 224),en P sa 226 (.ref 42),en P dc 227 .none] 2
def o44(P:Params):Obj:=yO "NoNumber" [(.ref 31)] ([(.ref 44),(.ref 31)]++eb) 43 [] 35 214 222 "ValueError.__new__"
def o47(P:Params):Obj:=tO [(.ref 31)]
def o54(P:Params):Obj:=tO []
def o55(P:Params):Obj:=dO [en P md 237 (.str "zonewalk.errors" 194),en P fl 241 (.int 9 240),en P sa 242 (.ref 54),en P dc 243 .none] 2
def o56(P:Params):Obj:=yO "BadMachine" [(.ref 31)] ([(.ref 56),(.ref 31)]++eb) 55 [] 47 230 238 "ValueError.__new__"
def o59(P:Params):Obj:=tO [(.ref 31)]
def o66(P:Params):Obj:=tO []
def o67(P:Params):Obj:=dO [en P md 253 (.str "zonewalk.errors" 194),en P fl 257 (.int 11 256),en P sa 258 (.ref 66),en P dc 259 .none] 2
def o68(P:Params):Obj:=yO "TooMany" [(.ref 31)] ([(.ref 68),(.ref 31)]++eb) 67 [] 59 246 254 "ValueError.__new__"
def o71(P:Params):Obj:=tO [(.ref 31)]
def o85(P:Params):Obj:=tO [(.str "step" 282)]
def o86(P:Params):Obj:=dO [en P md 269 (.str "zonewalk.errors" 194),en P fl 273 (.int 13 272),en P "__init__" 281 (.ref 84),en P sa 283 (.ref 85),en P dc 284 .none] 2
def o87(P:Params):Obj:=yO "NoRun" [(.ref 31)] ([(.ref 87),(.ref 31)]++eb) 86 [] 71 262 270 "ValueError.__new__"
def o90(P:Params):Obj:=tO [(.ref 31)]
def o97(P:Params):Obj:=tO []
def o98(P:Params):Obj:=dO [en P md 294 (.str "zonewalk.errors" 194),en P fl 298 (.int 17 297),en P sa 299 (.ref 97),en P dc 300 .none] 2
def o99(P:Params):Obj:=yO "NoMark" [(.ref 31)] ([(.ref 99),(.ref 31)]++eb) 98 [] 90 287 295 "ValueError.__new__"
def o102(P:Params):Obj:=tO [(.ref 31)]
def o109(P:Params):Obj:=tO []
def o110(P:Params):Obj:=dO [en P md 310 (.str "zonewalk.errors" 194),en P fl 314 (.int 19 313),en P sa 315 (.ref 109),en P dc 316 .none] 2
def o111(P:Params):Obj:=yO "NoRoad" [(.ref 31)] ([(.ref 111),(.ref 31)]++eb) 110 [] 102 303 311 "ValueError.__new__"
def o114(P:Params):Obj:=tO [(.ref 31)]
def o121(P:Params):Obj:=tO []
def o122(P:Params):Obj:=dO [en P md 326 (.str "zonewalk.errors" 194),en P fl 330 (.int 21 329),en P sa 331 (.ref 121),en P dc 332 .none] 2
def o123(P:Params):Obj:=yO "NoRoom" [(.ref 31)] ([(.ref 123),(.ref 31)]++eb) 122 [] 114 319 327 "ValueError.__new__"
def o126(P:Params):Obj:=tO [(.ref 31)]
def o133(P:Params):Obj:=tO []
def o134(P:Params):Obj:=dO [en P md 342 (.str "zonewalk.errors" 194),en P fl 346 (.int 23 345),en P sa 347 (.ref 133),en P dc 348 .none] 2
def o135(P:Params):Obj:=yO "NoText" [(.ref 31)] ([(.ref 135),(.ref 31)]++eb) 134 [] 126 335 343 "ValueError.__new__"
def o138(P:Params):Obj:=tO [(.ref 31)]
def o145(P:Params):Obj:=tO []
def o146(P:Params):Obj:=dO [en P md 358 (.str "zonewalk.errors" 194),en P fl 362 (.int 25 361),en P sa 363 (.ref 145),en P dc 364 .none] 2
def o147(P:Params):Obj:=yO "NoRow" [(.ref 31)] ([(.ref 147),(.ref 31)]++eb) 146 [] 138 351 359 "ValueError.__new__"
def o155(_:Params):=cO "is_whole" 369 370 371 28 1 3 150 181 151 152 153 154 373 28 374
def Rc(_:Params):=gO "is_whole" (A9 13) "zonewalk.fractions" 367 155
def Rb(P:Params):Obj:=tO [(.str "<" 378),(.str "<=" 379),(.str ">" 380),(.str ">=" 381),(.str "=" 382)]
def Ra(P:Params):Obj:=tO [(.str "<" 384),(.str "<=" 385)]
def o164(_:Params):=cO "is_look" 387 388 389 33 3 3 159 181 160 161 162 163 393 33 394
def R9(_:Params):=gO "is_look" (A9 17) "zonewalk.looks" 376 164
def o171(_:Params):=cO "is_number" 396 397 398 37 1 3 166 181 167 168 169 170 400 37 401
def R8(_:Params):=gO "is_number" (A9 18) "zonewalk.looks" 376 171
def o176(P:Params):Obj:=cP "is_guard" 403 "is_guard" 404 405 39 3 3 173 181 (.ref 174) .none .none .none (.ref 175) 406 39 407
def R7(_:Params):=gO "is_guard" (A9 19) "zonewalk.looks" 376 176
def o183(_:Params):=cO "is_small_letter" 417 418 419 45 1 3 178 181 179 180 181 182 421 45 422
def R6(_:Params):=gO "is_small_letter" (A9 24) "zonewalk.machines" 409 183
def o188(P:Params):Obj:=cP "is_name" 424 "is_name" 425 426 47 1 3 185 181 (.ref 186) .none .none .none (.ref 187) 427 47 428
def R5(_:Params):=gO "is_name" (A9 25) "zonewalk.machines" 409 188
def o195(_:Params):=cO "is_watch_name" 430 431 432 49 1 3 190 181 191 192 193 194 434 49 435
def RZ(_:Params):=gO "is_watch_name" (A9 26) "zonewalk.machines" 409 195
def o200(P:Params):Obj:=cP "is_room_name" 437 "is_room_name" 438 439 51 1 3 197 181 (.ref 198) .none .none .none (.ref 199) 440 51 441
def RY(_:Params):=gO "is_room_name" (A9 27) "zonewalk.machines" 409 200
def o207(_:Params):=cO "is_sign" 443 444 445 55 1 3 202 181 203 204 205 206 447 55 448
def RX(_:Params):=gO "is_sign" (A9 28) "zonewalk.machines" 409 207
def o214(_:Params):=cO "own_copy" 450 451 452 59 1 3 209 181 210 211 212 213 454 59 455
def RW(_:Params):=gO "own_copy" (A9 29) "zonewalk.machines" 409 214
def RV(P:Params):Obj:=tO [(.str "" 469)]
def o229(P:Params):Obj:=cP "__init__" 470 "Door.__init__" 471 472 63 6 3 224 181 (.ref 225) .none (.ref 226) (.ref 227) (.ref 228) 479 63 480
def RU(_:Params):=fO "__init__" "Door.__init__" (KD 30 0) (.ref 223) "zonewalk.machines" 409 229 .none
def o245(P:Params):Obj:=tO [(.str "end" 496),(.str "guard" 497),(.str "noughts" 498),(.str "sign" 499),(.str "start" 500)]
def o246(P:Params):Obj:=dO [en P md 464 (.str "zonewalk.machines" 409),en P fl 468 (.int 61 467),en P "__init__" 481 (.ref 230),en P "asks" 488 (.ref 237),en P "sets" 495 (.ref 244),en P sa 501 (.ref 245),en P "__dict__" 503 (.ref 248),en P "__weakref__" 505 (.ref 249),en P dc 506 .none] 4
def o247(P:Params):Obj:=⟨(.type "type"),none,(.cls ⟨"Door",[(.type "object")],[(.ref 247),(.type "object")],246,"Door",true,[],[],false,none,false⟩),Array.mk [none,none,(some (.str "Door" 457)),(some (.str "Door" 465)),(some (.builtin "object.__new__")),(some (.bool true))]⟩
def o248(P:Params):Obj:=⟨(.type "getset_descriptor"),none,(.fields (Array.mk [(.str "__dict__" 502),(.ref 247),(.builtin "function.__dict__"),(.builtin "function.__dict__#set")])),Array.mk []⟩
def o249(P:Params):Obj:=⟨(.type "getset_descriptor"),none,(.fields (Array.mk [(.str "__weakref__" 504),(.ref 247),(.builtin "ExceptionGroup.__weakref__"),.none])),Array.mk []⟩
def o262(P:Params):Obj:=cP "__init__" 521 "Machine.__init__" 522 523 77 4 3 259 181 (.ref 260) .none .none .none (.ref 261) 524 77 525
def RT(_:Params):=fO "__init__" "Machine.__init__" (KD 31 0) .none "zonewalk.machines" 409 262 .none
def o299(P:Params):Obj:=tO [(.str "door_list" 564),(.str "stays" 565),(.str "watch_names" 566)]
def o300(P:Params):Obj:=dO [en P md 516 (.str "zonewalk.machines" 409),en P fl 520 (.int 75 519),en P "__init__" 526 (.ref 263),en P "watches" 533 (.ref 270),en P "rooms" 540 (.ref 277),en P "doors" 547 (.ref 284),en P "stay" 555 (.ref 291),en P "watch_number" 563 (.ref 298),en P sa 567 (.ref 299),en P "__dict__" 569 (.ref 302),en P "__weakref__" 571 (.ref 303),en P dc 572 .none] 4
def o301(P:Params):Obj:=⟨(.type "type"),none,(.cls ⟨"Machine",[(.type "object")],[(.ref 301),(.type "object")],300,"Machine",true,[],[],false,none,false⟩),Array.mk [none,none,(some (.str "Machine" 509)),(some (.str "Machine" 517)),(some (.builtin "object.__new__")),(some (.bool true))]⟩
def o302(P:Params):Obj:=⟨(.type "getset_descriptor"),none,(.fields (Array.mk [(.str "__dict__" 568),(.ref 301),(.builtin "function.__dict__"),(.builtin "function.__dict__#set")])),Array.mk []⟩
def o303(P:Params):Obj:=⟨(.type "getset_descriptor"),none,(.fields (Array.mk [(.str "__weakref__" 570),(.ref 301),(.builtin "ExceptionGroup.__weakref__"),.none])),Array.mk []⟩
def o309(P:Params):Obj:=cP "check_watches" 575 "check_watches" 576 577 103 1 3 306 181 (.ref 307) .none .none .none (.ref 308) 578 103 579
def RR(_:Params):=gO "check_watches" (A9 32) "zonewalk.machines" 409 309
def o316(_:Params):=cO "are_unlike" 581 582 583 108 1 3 311 181 312 313 314 315 585 108 586
def RQ(_:Params):=gO "are_unlike" (A9 33) "zonewalk.machines" 409 316
def o321(P:Params):Obj:=cP "check_rooms" 588 "check_rooms" 589 590 110 2 3 318 181 (.ref 319) .none .none .none (.ref 320) 591 110 592
def RP(_:Params):=gO "check_rooms" (A9 34) "zonewalk.machines" 409 321
def o328(_:Params):=cO "check_doors" 594 595 596 120 3 3 323 181 324 325 326 327 601 120 602
def RO(_:Params):=gO "check_doors" (A9 35) "zonewalk.machines" 409 328
def o333(P:Params):Obj:=cP "are_noughts" 604 "are_noughts" 605 606 132 2 3 330 181 (.ref 331) .none .none .none (.ref 332) 607 132 608
def RN(_:Params):=gO "are_noughts" (A9 36) "zonewalk.machines" 409 333
def o340(_:Params):=cO "_law_cell_at" 612 613 614 137 2 3 335 181 336 337 338 339 617 137 618
def RM(_:Params):=gO "_law_cell_at" (A9 38) "law_zonewalk_k22_machines_refused" 610 340
def o345(P:Params):Obj:=cP "_law_word" 620 "_law_word" 621 622 141 1 3 342 181 (.ref 343) .none .none .none (.ref 344) 623 141 624
def RL(_:Params):=gO "_law_word" (A9 39) "law_zonewalk_k22_machines_refused" 610 345
def o352(_:Params):=cO "_law_built" 626 627 628 148 1 3 347 181 348 349 350 351 632 148 633
def RK(_:Params):=gO "_law_built" (A9 40) "law_zonewalk_k22_machines_refused" 610 352
def o359(_:Params):=cO "_law_made" 635 636 637 158 1 3 354 181 355 356 357 358 642 158 643
def RJ(_:Params):=gO "_law_made" (A9 41) "law_zonewalk_k22_machines_refused" 610 359
def o366(_:Params):=cO "_law_names" 645 646 647 166 2 3 361 181 362 363 364 365 658 166 659
def RI(_:Params):=gO "_law_names" (A9 42) "law_zonewalk_k22_machines_refused" 610 366
def o373(_:Params):=cO "_law_right" 661 662 663 182 2 3 368 181 369 370 371 372 677 182 678
def RH(_:Params):=gO "_law_right" (A9 43) "law_zonewalk_k22_machines_refused" 610 373
def o380(_:Params):=cO "_law_no_name" 680 681 682 199 2 3 375 181 376 377 378 379 688 199 689
def RG(_:Params):=gO "_law_no_name" (A9 44) "law_zonewalk_k22_machines_refused" 610 380
def o387(_:Params):=cO "_law_no_look" 691 692 693 204 4 3 382 181 383 384 385 386 700 204 701
def RF(_:Params):=gO "_law_no_look" (A9 45) "law_zonewalk_k22_machines_refused" 610 387
def o394(_:Params):=cO "_law_wrong_watches" 703 704 705 212 3 3 389 181 390 391 392 393 710 212 711
def RE(_:Params):=gO "_law_wrong_watches" (A9 46) "law_zonewalk_k22_machines_refused" 610 394
def o401(_:Params):=cO "_law_wrong_rooms" 713 714 715 218 4 3 396 181 397 398 399 400 726 218 727
def RD(_:Params):=gO "_law_wrong_rooms" (A9 47) "law_zonewalk_k22_machines_refused" 610 401
def o408(_:Params):=cO "_law_wrong_door" 729 730 731 239 4 3 403 181 404 405 406 407 743 239 744
def RC(_:Params):=gO "_law_wrong_door" (A9 48) "law_zonewalk_k22_machines_refused" 610 408
def o415(_:Params):=cO "_law_spoilt" 746 747 748 257 3 3 410 181 411 412 413 414 758 257 759
def RB(_:Params):=gO "_law_spoilt" (A9 49) "law_zonewalk_k22_machines_refused" 610 415
def o420(P:Params):Obj:=cP "_law_grown" 761 "_law_grown" 762 763 269 3 3 417 181 (.ref 418) .none .none .none (.ref 419) 764 269 765
def RA(_:Params):=gO "_law_grown" (A9 50) "law_zonewalk_k22_machines_refused" 610 420
def o425(P:Params):Obj:=cP "_law_kept" 767 "_law_kept" 768 769 282 1 3 422 181 (.ref 423) .none .none .none (.ref 424) 770 282 771
def Qz(_:Params):=gO "_law_kept" (A9 51) "law_zonewalk_k22_machines_refused" 610 425
def o432(_:Params):=cO "law" 773 774 775 284 1 3 427 181 428 429 430 431 783 284 784
def Qy(_:Params):=gO "law" (A9 52) "law_zonewalk_k22_machines_refused" 610 432
def HL(P:Params):Frag:=[(2,o2 P),(3,o3 P),(22,o22 P),(29,o29 P),(30,o30 P),(31,o31 P),(32,o32 P),(35,o35 P),(42,o42 P),(43,o43 P),(44,o44 P),(47,o47 P),(54,o54 P),(55,o55 P),(56,o56 P),(59,o59 P),(66,o66 P),(67,o67 P),(68,o68 P),(71,o71 P),(85,o85 P),(86,o86 P),(87,o87 P),(90,o90 P),(97,o97 P),(98,o98 P),(99,o99 P),(102,o102 P),(109,o109 P),(110,o110 P),(111,o111 P),(114,o114 P),(121,o121 P),(122,o122 P),(123,o123 P),(126,o126 P),(133,o133 P),(134,o134 P),(135,o135 P),(138,o138 P),(145,o145 P),(146,o146 P),(147,o147 P),(155,o155 P),(156,Rc P),(157,Rb P),(158,Ra P),(164,o164 P),(165,R9 P),(171,o171 P),(172,R8 P),(176,o176 P),(177,R7 P),(183,o183 P),(184,R6 P),(188,o188 P),(189,R5 P),(195,o195 P),(196,RZ P),(200,o200 P),(201,RY P),(207,o207 P),(208,RX P),(214,o214 P),(215,RW P),(223,RV P),(229,o229 P),(230,RU P),(245,o245 P),(246,o246 P),(247,o247 P),(248,o248 P),(249,o249 P),(262,o262 P),(263,RT P),(299,o299 P),(300,o300 P),(301,o301 P),(302,o302 P),(303,o303 P),(309,o309 P),(310,RR P),(316,o316 P),(317,RQ P),(321,o321 P),(322,RP P),(328,o328 P),(329,RO P),(333,o333 P),(334,RN P),(340,o340 P),(341,RM P),(345,o345 P),(346,RL P),(352,o352 P),(353,RK P),(359,o359 P),(360,RJ P),(366,o366 P),(367,RI P),(373,o373 P),(374,RH P),(380,o380 P),(381,RG P),(387,o387 P),(388,RF P),(394,o394 P),(395,RE P),(401,o401 P),(402,RD P),(408,o408 P),(409,RC P),(415,o415 P),(416,RB P),(420,o420 P),(421,RA P),(425,o425 P),(426,Qz P),(432,o432 P),(433,Qy P)]
noncomputable def fas:List Addr:=[2,3,22,29,30,31,32,35,42,43,44,47,54,55,56,59,66,67,68,71,85,86,87,90,97,98,99,102,109,110,111,114,121,122,123,126,133,134,135,138,145,146,147,155,156,157,158,164,165,171,172,176,177,183,184,188,189,195,196,200,201,207,208,214,215,223,229,230,245,246,247,248,249,262,263,299,300,301,302,303,309,310,316,317,321,322,328,329,333,334,340,341,345,346,352,353,359,360,366,367,373,374,380,381,387,388,394,395,401,402,408,409,415,416,420,421,425,426,432,433]
def vq:Program:={ pw with main:={ (pw).main with body:=[A9 52] } }
noncomputable def loo:List Str:=[Str.ofString "_wall",Str.ofString "WalkError",Str.ofString "NoNumber",Str.ofString "BadMachine",Str.ofString "TooMany",Str.ofString "NoRun",Str.ofString "NoMark",Str.ofString "NoRoad",Str.ofString "NoRoom",Str.ofString "NoText",Str.ofString "NoRow",Str.ofString "is_whole",Str.ofString "WORDS",Str.ofString "STAY_WORDS",Str.ofString "is_look",Str.ofString "is_number",Str.ofString "is_guard",Str.ofString "MOST_WATCHES",Str.ofString "MOST_ROOMS",Str.ofString "MOST_DOORS",Str.ofString "is_small_letter",Str.ofString "is_name",Str.ofString "is_watch_name",Str.ofString "is_room_name",Str.ofString "is_sign",Str.ofString "own_copy",Str.ofString "Door",Str.ofString "Machine",Str.ofString "check_watches",Str.ofString "are_unlike",Str.ofString "check_rooms",Str.ofString "check_doors",Str.ofString "are_noughts",Str.ofString "_law_cell_at",Str.ofString "_law_word",Str.ofString "_law_built",Str.ofString "_law_made",Str.ofString "_law_names",Str.ofString "_law_right",Str.ofString "_law_no_name",Str.ofString "_law_no_look",Str.ofString "_law_wrong_watches",Str.ofString "_law_wrong_rooms",Str.ofString "_law_wrong_door",Str.ofString "_law_spoilt",Str.ofString "_law_grown",Str.ofString "_law_kept"]
abbrev hk:Hook:=kHook HL fas (λ_=>by ext)
theorem zjc(w:World)(os:OsState):(go pw 3927 w os).map (λs=>Jg pw vq loo (xt M1.row.toRowW vq) hk.obs (boot_heap w.params) s.abs)=some (true,openGood vq loo,hk.val w):=by ext
theorem left:LeftO pw vq loo (xt M1.row.toRowW vq) hk.obs hk.val 8434 true:=zhy 8434 3927 (by ext) (by decide) (λs=>by ext) (by decide) zjc
theorem said:M1.wellSaid=true:=zgi (by ext)
abbrev fr(w:World):Frag:=HL w.params
theorem all_mk{w:World}{h:Heap}{mg:Str->Option Value}{fa:Addr}(X:(HL w.params).In h)(G:h.Ns mainGlobals mg)(hfa:mg "law"=some (.ref fa))
  : ∃fd:FuncData,(∀(s:Shared) (v:Value),BindsTo s fd ⟨[v],[]⟩ [("_law_script",v)])/\∀base:Heap,(HL w.params).In base->base.Ns mainGlobals mg->FnOk pw w (HL w.params) mg base Df 9 fa fd ["_law_script"] (Ja (HL w.params)):=by
 have e:=hfa.symm.trans (mg_of X G (show nsIn (fr w) mainGlobals "law"=some (some (.ref 433)) by ext))
 cases e;have mK:∀(x:Str) (a:Addr),nsIn (fr w) mainGlobals x=some (some (.ref a))->mg x=some (.ref a):=λ_ _ e=>mg_of X G e
 have mN:∀x:Str,nsIn (fr w) mainGlobals x=some none->mg x=none:=λ_ e=>mg_none_of X G e
 have cl_Door:Cls (fr w) B5:=⟨by ext,by ext,by ext,by ext⟩
 have na_Door:∀f∈Bn,Bo (fr w) B5 f:=(all_cons (by unfold Bo;ext) (all_cons (by unfold Bo;ext) (all_cons (by unfold Bo;ext) (all_cons (by unfold Bo;ext) (all_cons (by unfold Bo;ext) Am)))))
 have cl_Machine:Cls (fr w) C7:=⟨by ext,by ext,by ext,by ext⟩
 have na_Machine:∀f∈Dd,Bo (fr w) C7 f:=(all_cons (by unfold Bo;ext) (all_cons (by unfold Bo;ext) (all_cons (by unfold Bo;ext) Am)))
 let ca:Str->Value:=λc=>if c="BadMachine" then .ref 56 else if c="TooMany" then .ref 68 else if c="WalkError" then .ref 31 else if c="NoNumber" then .ref 44 else if c="NoMark" then .ref 99 else if c="NoRoad" then .ref 111 else if c="NoRoom" then .ref 123 else if c="NoText" then .ref 135 else if c="NoRow" then .ref 147 else .none
 have b_isinstance:=mN "isinstance" (by ext)
 have b_len:=mN "len" (by ext)
 have b_list:=mN "list" (by ext)
 have b_all:=mN "all" (by ext)
 have b_str:=mN "str" (by ext)
 have b_int:=mN "int" (by ext)
 have b_bool:=mN "bool" (by ext)
 have b_tuple:=mN "tuple" (by ext)
 have b_set:=mN "set" (by ext)
 have b_range:=mN "range" (by ext)
 have yg:specialIn (fr w) (.builtin "object.__class__") "__get__"=some (some (.builtin "getset_descriptor.__get__")):=by ext
 have yt:takesIn (fr w) (.builtin "object.__class__")=some true:=by ext
 let kC:ECls (fr w) mg "BadMachine":=⟨56,mK "BadMachine" 56 (by ext),⟨by ext,by ext,⟨(clsIn (fr w) 56).getD default,by ext⟩,by ext,by ext,by ext,by ext,by ext,by ext,yg,yt⟩⟩
 have E_BadMachine:∃T:ECls (fr w) mg "BadMachine",ca "BadMachine"=.ref T.C:=⟨kC,by rfl⟩
 let kD:ECls (fr w) mg "TooMany":=⟨68,mK "TooMany" 68 (by ext),⟨by ext,by ext,⟨(clsIn (fr w) 68).getD default,by ext⟩,by ext,by ext,by ext,by ext,by ext,by ext,yg,yt⟩⟩
 have E_TooMany:∃T:ECls (fr w) mg "TooMany",ca "TooMany"=.ref T.C:=⟨kD,by rfl⟩
 let kE:ECls (fr w) mg "WalkError":=⟨31,mK "WalkError" 31 (by ext),⟨by ext,by ext,⟨(clsIn (fr w) 31).getD default,by ext⟩,by ext,by ext,by ext,by ext,by ext,by ext,yg,yt⟩⟩
 have E_WalkError:∃T:ECls (fr w) mg "WalkError",ca "WalkError"=.ref T.C:=⟨kE,by rfl⟩
 let kF:ECls (fr w) mg "NoNumber":=⟨44,mK "NoNumber" 44 (by ext),⟨by ext,by ext,⟨(clsIn (fr w) 44).getD default,by ext⟩,by ext,by ext,by ext,by ext,by ext,by ext,yg,yt⟩⟩
 have E_NoNumber:∃T:ECls (fr w) mg "NoNumber",ca "NoNumber"=.ref T.C:=⟨kF,by rfl⟩
 let kG:ECls (fr w) mg "NoMark":=⟨99,mK "NoMark" 99 (by ext),⟨by ext,by ext,⟨(clsIn (fr w) 99).getD default,by ext⟩,by ext,by ext,by ext,by ext,by ext,by ext,yg,yt⟩⟩
 have E_NoMark:∃T:ECls (fr w) mg "NoMark",ca "NoMark"=.ref T.C:=⟨kG,by rfl⟩
 let kH:ECls (fr w) mg "NoRoad":=⟨111,mK "NoRoad" 111 (by ext),⟨by ext,by ext,⟨(clsIn (fr w) 111).getD default,by ext⟩,by ext,by ext,by ext,by ext,by ext,by ext,yg,yt⟩⟩
 have E_NoRoad:∃T:ECls (fr w) mg "NoRoad",ca "NoRoad"=.ref T.C:=⟨kH,by rfl⟩
 let kI:ECls (fr w) mg "NoRoom":=⟨123,mK "NoRoom" 123 (by ext),⟨by ext,by ext,⟨(clsIn (fr w) 123).getD default,by ext⟩,by ext,by ext,by ext,by ext,by ext,by ext,yg,yt⟩⟩
 have E_NoRoom:∃T:ECls (fr w) mg "NoRoom",ca "NoRoom"=.ref T.C:=⟨kI,by rfl⟩
 let kJ:ECls (fr w) mg "NoText":=⟨135,mK "NoText" 135 (by ext),⟨by ext,by ext,⟨(clsIn (fr w) 135).getD default,by ext⟩,by ext,by ext,by ext,by ext,by ext,by ext,yg,yt⟩⟩
 have E_NoText:∃T:ECls (fr w) mg "NoText",ca "NoText"=.ref T.C:=⟨kJ,by rfl⟩
 let kK:ECls (fr w) mg "NoRow":=⟨147,mK "NoRow" 147 (by ext),⟨by ext,by ext,⟨(clsIn (fr w) 147).getD default,by ext⟩,by ext,by ext,by ext,by ext,by ext,by ext,yg,yt⟩⟩
 have E_NoRow:∃T:ECls (fr w) mg "NoRow",ca "NoRow"=.ref T.C:=⟨kK,by rfl⟩
 have F1:=IY (st:=Hs) (show(fr w).lookup 346=some (RL w.params) by ext) (show codeIn (fr w) (.ref 345) "_law_word"=true by ext) (by ext)
 let T1:Tx (fr w) mg "_law_word" Hs ["_law_e"]:=⟨_,_,F1,mK "_law_word" 346 (by ext),.all (Cp λ_=>rfl)⟩
 have F18:=IY (st:=Jk) (show(fr w).lookup 230=some (RU w.params) by ext) (show codeIn (fr w) (.ref 229) "Door.__init__"=true by ext) (by ext)
 have F19:=IY (st:=Jj) (show(fr w).lookup 263=some (RT w.params) by ext) (show codeIn (fr w) (.ref 262) "Machine.__init__"=true by ext) (by ext)
 have F32:=IY (st:=Hq) (show(fr w).lookup 433=some (Qy w.params) by ext) (show codeIn (fr w) (.ref 432) "law"=true by ext) (by ext)
 let T32:Tx (fr w) mg "law" Hq ["_law_script"]:=⟨_,_,F32,mK "law" 433 (by ext),.all (Cp λ_=>rfl)⟩
 refine⟨T32.fd,λs v=>.of_eq rfl,λbase _ _=>?_⟩
 have q:Qx pw w (fr w) mg base ca:=⟨mK⟩;let D1:DefS pw w (fr w) mg base 1 "_law_word" "_law_e" (Bw (fr w) ca Iw):=⟨T1.f,T1.fd,fnB (n:=200) (Γ:=N3) T1.F zea rfl rfl rfl (all_cons b_isinstance (all_cons b_len Am)) (BQ (sb:=(AM ⟨56,mK "BadMachine" 56 (by ext),(AM ⟨kE.k,by ext⟩ (AM ⟨kF.k,by ext⟩ (AM ⟨kC.k,by ext⟩ (AM ⟨kD.k,by ext⟩ (AM ⟨kG.k,by ext⟩ (AM ⟨kH.k,by ext⟩ (AM ⟨kI.k,by ext⟩ (AM ⟨kJ.k,by ext⟩ (AM ⟨kK.k,by ext⟩ BY)))))))))⟩ (AM ⟨68,mK "TooMany" 68 (by ext),(AM ⟨kE.k,by ext⟩ (AM ⟨kF.k,by ext⟩ (AM ⟨kC.k,by ext⟩ (AM ⟨kD.k,by ext⟩ (AM ⟨kG.k,by ext⟩ (AM ⟨kH.k,by ext⟩ (AM ⟨kI.k,by ext⟩ (AM ⟨kJ.k,by ext⟩ (AM ⟨kK.k,by ext⟩ BY)))))))))⟩ (AM ⟨99,mK "NoMark" 99 (by ext),(AM ⟨kE.k,by ext⟩ (AM ⟨kF.k,by ext⟩ (AM ⟨kC.k,by ext⟩ (AM ⟨kD.k,by ext⟩ (AM ⟨kG.k,by ext⟩ (AM ⟨kH.k,by ext⟩ (AM ⟨kI.k,by ext⟩ (AM ⟨kJ.k,by ext⟩ (AM ⟨kK.k,by ext⟩ BY)))))))))⟩ (AM ⟨44,mK "NoNumber" 44 (by ext),(AM ⟨kE.k,by ext⟩ (AM ⟨kF.k,by ext⟩ (AM ⟨kC.k,by ext⟩ (AM ⟨kD.k,by ext⟩ (AM ⟨kG.k,by ext⟩ (AM ⟨kH.k,by ext⟩ (AM ⟨kI.k,by ext⟩ (AM ⟨kJ.k,by ext⟩ (AM ⟨kK.k,by ext⟩ BY)))))))))⟩ (AM ⟨111,mK "NoRoad" 111 (by ext),(AM ⟨kE.k,by ext⟩ (AM ⟨kF.k,by ext⟩ (AM ⟨kC.k,by ext⟩ (AM ⟨kD.k,by ext⟩ (AM ⟨kG.k,by ext⟩ (AM ⟨kH.k,by ext⟩ (AM ⟨kI.k,by ext⟩ (AM ⟨kJ.k,by ext⟩ (AM ⟨kK.k,by ext⟩ BY)))))))))⟩ (AM ⟨123,mK "NoRoom" 123 (by ext),(AM ⟨kE.k,by ext⟩ (AM ⟨kF.k,by ext⟩ (AM ⟨kC.k,by ext⟩ (AM ⟨kD.k,by ext⟩ (AM ⟨kG.k,by ext⟩ (AM ⟨kH.k,by ext⟩ (AM ⟨kI.k,by ext⟩ (AM ⟨kJ.k,by ext⟩ (AM ⟨kK.k,by ext⟩ BY)))))))))⟩ (AM ⟨147,mK "NoRow" 147 (by ext),(AM ⟨kE.k,by ext⟩ (AM ⟨kF.k,by ext⟩ (AM ⟨kC.k,by ext⟩ (AM ⟨kD.k,by ext⟩ (AM ⟨kG.k,by ext⟩ (AM ⟨kH.k,by ext⟩ (AM ⟨kI.k,by ext⟩ (AM ⟨kJ.k,by ext⟩ (AM ⟨kK.k,by ext⟩ BY)))))))))⟩ (AM ⟨87,mK "NoRun" 87 (by ext),(AM ⟨kE.k,by ext⟩ (AM ⟨kF.k,by ext⟩ (AM ⟨kC.k,by ext⟩ (AM ⟨kD.k,by ext⟩ (AM ⟨kG.k,by ext⟩ (AM ⟨kH.k,by ext⟩ (AM ⟨kI.k,by ext⟩ (AM ⟨kJ.k,by ext⟩ (AM ⟨kK.k,by ext⟩ BY)))))))))⟩ (AM ⟨135,mK "NoText" 135 (by ext),(AM ⟨kE.k,by ext⟩ (AM ⟨kF.k,by ext⟩ (AM ⟨kC.k,by ext⟩ (AM ⟨kD.k,by ext⟩ (AM ⟨kG.k,by ext⟩ (AM ⟨kH.k,by ext⟩ (AM ⟨kI.k,by ext⟩ (AM ⟨kJ.k,by ext⟩ (AM ⟨kK.k,by ext⟩ BY)))))))))⟩ BY)))))))))) (sv:=(AM ⟨mN "ValueError" (by ext),"ValueError",by ext,(AM ⟨kE.k,by ext⟩ (AM ⟨kF.k,by ext⟩ (AM ⟨kC.k,by ext⟩ (AM ⟨kD.k,by ext⟩ (AM ⟨kG.k,by ext⟩ (AM ⟨kH.k,by ext⟩ (AM ⟨kI.k,by ext⟩ (AM ⟨kJ.k,by ext⟩ (AM ⟨kK.k,by ext⟩ BY)))))))))⟩ BY))) zfo,T1.m,T1.F.kp,T1.b⟩
 let D2:=B9 q (f:=HM) (o:=RM w.params) 341 (.all (Gd λ_ _=>rfl)) zbh zbu (all_cons b_len Am) BS BQ
 let D3:=B9 q (f:=Na) (o:=RW w.params) 215 (.all (Cp λ_=>rfl)) zbc zbp (all_cons b_isinstance (all_cons b_list Am)) BS BQ
 let D4:=B9 q (f:=Ke) (o:=R6 w.params) 184 (.all (Cp λ_=>rfl)) za0 za1 Am BS BQ
 let D5:=B9 q (f:=Kf) (o:=R5 w.params) 189 (.all (Cp λ_=>rfl)) zc2 zcg (all_cons b_len (all_cons b_all Am)) (Az (by decide) D4 BS) BQ
 let D6:=B9 q (f:=Kc) (o:=RZ w.params) 196 (.all (Cp λ_=>rfl)) za4 za7 (all_cons b_isinstance (all_cons b_str Am)) (Az (by decide) D5 BS) BQ
 let D7:=B9 q (f:=Nf) (o:=RY w.params) 201 (.all (Cp λ_=>rfl)) za9 zaf (all_cons b_isinstance (all_cons b_str (all_cons b_len (all_cons b_all Am)))) (Az (by decide) D4 BS) BQ
 let D8:=B9 q (f:=Nc) (o:=Rc w.params) 156 (.all (Cp λ_=>rfl)) zbd zbq (all_cons b_isinstance (all_cons b_int (all_cons b_bool Am))) BS BQ
 let D9:=B9 q (f:=Ng) (o:=R8 w.params) 172 (.all (Cp λ_=>rfl)) zb1 zb7 Am (Az (by decide) D8 BS) BQ
 let D10:=B9 q (f:=Nh) (o:=R9 w.params) 165 (.all (Gc λ_ _ _=>rfl)) zc3 zch (all_cons b_isinstance (all_cons b_tuple (all_cons b_len Am))) (Az (by decide) D9 BS) BQ
 let D11:=B9 q (f:=Kg) (o:=R7 w.params) 177 (.all (Gc λ_ _ _=>rfl)) zbe zbr (all_cons b_isinstance (all_cons b_list (all_cons b_all Am))) (Az (by decide) D10 BS) BQ (hce:=(all_cons (by rfl) (all_cons (by rfl) Am)))
 let D12:=B9 q (f:=IZ) (o:=RQ w.params) 317 (.all (Cp λ_=>rfl)) zau zax (all_cons b_len (all_cons b_set Am)) BS BQ
 let D13:=B9 q (f:=Ni) (o:=RR w.params) 310 (.all (Cp λ_=>rfl)) za5 za8 (all_cons b_isinstance (all_cons b_list (all_cons b_len (all_cons b_all Am)))) (Az (by decide) D6 (Az (by decide) D12 BS)) (BQ (co:=(AM ⟨(.int (7) 411),(.int 7),mg_of X G (show nsIn (fr w) mainGlobals "MOST_WATCHES"=some (some (.int (7) 411)) by ext),⟨_,rfl⟩,λF=>.int _⟩ BY))) (hex:=(all_cons E_BadMachine Am))
 let D14:=B9 q (f:=Nj) (o:=RP w.params) 322 (.all (Gd λ_ _=>rfl)) zai zao (all_cons b_isinstance (all_cons b_list (all_cons b_len (all_cons b_tuple Am)))) (Az (by decide) D7 (Az (by decide) D11 (Az (by decide) D12 BS))) (BQ (co:=(AM ⟨_,.ref 158,mK "STAY_WORDS" 158 (by ext),rfl,λF=>Ae.of_node (k:=.rt) (xs:=[.str "<",.str "<="]) (.inr ⟨Ra w.params,_,_,by ext,rfl,rfl,by decide,(.cons ⟨_,rfl⟩ (.cons ⟨_,rfl⟩ .nil))⟩) (M5 ["<","<="])⟩ BY))) (hex:=(all_cons E_BadMachine Am))
 let D15:=B9 q (f:=Nl) (o:=RN w.params) 334 (.all (Gd λ_ _=>rfl)) zak zaq (all_cons b_isinstance (all_cons b_list (all_cons b_all Am))) (Az (by decide) D6 (Az (by decide) D12 BS)) BQ (hce:=(all_cons (by rfl) Am))
 let D16:=B9 q (f:=Nd) (o:=RX w.params) 208 (.all (Cp λ_=>rfl)) zc1 zcf (all_cons b_isinstance (all_cons b_str Am)) (Az (by decide) D5 BS) BQ
 let D17:=B9 q (f:=Nk) (o:=RO w.params) 329 (.all (Gc λ_ _ _=>rfl)) zaj zap (all_cons b_isinstance (all_cons b_list Am)) (Az (by decide) D11 (Az (by decide) D15 (Az (by decide) D16 BS))) (BQ (co:=(AM ⟨_,.ref 157,mK "WORDS" 157 (by ext),rfl,λF=>Ae.of_node (k:=.rt) (xs:=[.str "<",.str "<=",.str ">",.str ">=",.str "="]) (.inr ⟨Rb w.params,_,_,by ext,rfl,rfl,by decide,(.cons ⟨_,rfl⟩ (.cons ⟨_,rfl⟩ (.cons ⟨_,rfl⟩ (.cons ⟨_,rfl⟩ (.cons ⟨_,rfl⟩ .nil)))))⟩) (M5 ["<","<=",">",">=","="])⟩ BY)) (cl:=(all_cons ⟨cl_Door,na_Door⟩ Am)) (ci:=(AM ⟨247,mK "Door" 247 (by ext),(AM ⟨⟨cl_Door,by ext,by ext,by ext,by ext⟩,by ext⟩ (AM ⟨⟨cl_Machine,by ext,by ext,by ext,by ext⟩,by ext⟩ BY)),by ext⟩ BY))) (hex:=(all_cons E_BadMachine Am))
 have K18:FnOk pw w (fr w) mg base (CG pw w) 2 _ _ ["self","start","end","guard","noughts","sign"] (FU (fr w) ca B5 HZ):=Tz (C:=B5) (fs:=Bn) (n:=200) (Γ:=N4) F18 zb2 rfl rfl Am rfl Am (Az (by decide) D3 BS) Am Jw rfl (BQ (sf:=(λC fs h=>by cases h;exact⟨cl_Door,na_Door⟩))) zb8
 let D18:NewX pw w (fr w) mg base "Door" B5 2 ["self","start","end","guard","noughts","sign"] (FU (fr w) ca B5 HZ):=⟨_,_,mK "Door" 247 (by ext),⟨by ext,by ext,by ext,by ext⟩,K18⟩
 have E18:C8 (fr w) D18.fd ["self","start","end","guard","noughts","sign"] []:=λs us X hl=>match us,hl with|[_,_,_,_,_,_],_=>binds_K X rfl (show(fr w).lookup 223=some (RV w.params) by ext) rfl rfl rfl
 have K19:FnOk pw w (fr w) mg base (CG pw w) 6 _ _ ["self","watches","rooms","doors"] (FU (fr w) ca C7 G8):=Tz (C:=C7) (fs:=Dd) (n:=200) (Γ:=N2) F19 zaa rfl rfl Am rfl (all_cons b_len (all_cons b_list Am)) (Az (by decide) D13 (Az (by decide) D14 (Az (by decide) D17 BS))) (all_cons E_TooMany Am) Jw rfl (BQ (co:=(AM ⟨(.int (64) 413),(.int 64),mg_of X G (show nsIn (fr w) mainGlobals "MOST_ROOMS"=some (some (.int (64) 413)) by ext),⟨_,rfl⟩,λF=>.int _⟩ (AM ⟨(.int (200) 415),(.int 200),mg_of X G (show nsIn (fr w) mainGlobals "MOST_DOORS"=some (some (.int (200) 415)) by ext),⟨_,rfl⟩,λF=>.int _⟩ BY))) (sf:=(λC fs h=>by cases h;exact⟨cl_Machine,na_Machine⟩))) zag
 let D19:NewX pw w (fr w) mg base "Machine" C7 6 ["self","watches","rooms","doors"] (FU (fr w) ca C7 G8):=⟨_,_,mK "Machine" 301 (by ext),⟨by ext,by ext,by ext,by ext⟩,K19⟩
 have E19:C8 (fr w) D19.fd ["self","watches","rooms","doors"] []:=.all (JW λ_ _ _ _=>rfl)
 let D20:=B9 q (f:=Nt) (o:=RI w.params) 367 (.all (Gd λ_ _=>rfl)) zcv zdm (all_cons b_range Am) BS BQ
 let D21:=B9 q (f:=Nx) (o:=RK w.params) 353 (.all (Cp λ_=>rfl)) zcx zdo (all_cons b_isinstance (all_cons b_list (all_cons b_len Am))) BS (BQ (nw:=(Rf ⟨by decide,B5,D18,(AM ⟨[],[],E18,.nil,λ_=>.nil⟩ BY)⟩ Mg)))
 let D22:=B9 q (f:=Nu) (o:=RJ w.params) 360 (.all (Cp λ_=>rfl)) zeb zfp Am (Az (by decide) D21 BS) (BQ (nw:=(Rf ⟨by decide,C7,D19,(AM ⟨[],[],E19,.nil,λ_=>.nil⟩ BY)⟩ Mg)) (xs:=(AM ⟨kE,(AM ⟨by rfl,by ext⟩ (AM ⟨by rfl,by ext⟩ (AM ⟨by rfl,by ext⟩ (AM ⟨by rfl,by ext⟩ (AM ⟨by rfl,by ext⟩ (AM ⟨by rfl,by ext⟩ (AM ⟨by rfl,by ext⟩ (AM ⟨by rfl,by ext⟩ (AM ⟨by rfl,by ext⟩ BY)))))))))⟩ BY)) (wd:=(AM ⟨by decide,"_law_e",rfl,⟨D1⟩⟩ BY)))
 let D23:=B9 q (f:=Kh) (o:=RG w.params) 381 (.all (Gd λ_ _=>rfl)) zbf zbs (all_cons b_len Am) BS BQ
 let D24:=B9 q (f:=Ki) (o:=RF w.params) 388 (.all (JW λ_ _ _ _=>rfl)) zbg zbt (all_cons b_len Am) BS BQ
 let D25:=B9 q (f:=Nm) (o:=RE w.params) 395 (.all (Gc λ_ _ _=>rfl)) za2 za3 (all_cons b_len (all_cons b_tuple Am)) (Az (by decide) D23 BS) BQ
 let D26:=B9 q (f:=Nn) (o:=RD w.params) 402 (.all (JW λ_ _ _ _=>rfl)) zab zah (all_cons b_len (all_cons b_tuple Am)) (Az (by decide) D24 (Az (by decide) D23 BS)) BQ
 let D27:=B9 q (f:=Np) (o:=RC w.params) 409 (.all (JW λ_ _ _ _=>rfl)) zal zar (all_cons b_tuple Am) (Az (by decide) D24 BS) BQ
 let D28:=B9 q (f:=Nr) (o:=RH w.params) 374 (.all (Gd λ_ _=>rfl)) zcu zdl (all_cons b_range (all_cons b_len Am)) (Az (by decide) D2 BS) BQ
 let D29:=B9 q (f:=Nq) (o:=RB w.params) 416 (.all (Gc λ_ _ _=>rfl)) zc4 zci (all_cons b_tuple (all_cons b_len Am)) (Az (by decide) D2 (Az (by decide) D25 (Az (by decide) D26 (Az (by decide) D27 BS)))) BQ
 let D30:=B9 q (f:=Nw) (o:=RA w.params) 421 (.all (Gc λ_ _ _=>rfl)) zcw zdn (all_cons b_len Am) (Az (by decide) D2 BS) BQ
 let D31:=B9 q (f:=Nv) (o:=Qz w.params) 426 (.all (Cp λ_=>rfl)) zec zfq (all_cons b_isinstance (all_cons b_list Am)) BS BQ
 have K32:FnOk pw w (fr w) mg base (CG pw w) 9 T32.f T32.fd ["_law_script"] (Bw (fr w) ca O9):=UA (n:=200) (Γ:=N1) T32.F zj7 rfl rfl Am rfl (all_cons b_len (all_cons b_range Am)) (Az (by decide) D20 (Az (by decide) D2 (Az (by decide) D28 (Az (by decide) D30 (Az (by decide) D29 (Az (by decide) D31 (Az (by decide) D22 BS))))))) Am Jw rfl BQ zls
 exact zl1 K32 λns h=>law_true ns h
theorem walk{l:PySem.W.OpenLaw}{q:Program}{loose:List Str}{XP:(Str->Option Value)->Heap->Prop}{YP:World->Heap->Prop}{d:DefRec}{K:Params->kA}(hn:l.most=some 63)(hdf:d.params.defaults=[])
  (hY:∀(w:World) (h:Heap),YP w h->(K w.params).In h)
  (F : ∀ (w : World) (mg : Str -> Option Value) (fa : Addr) (h : Heap), (K w.params).In h -> h.Ns mainGlobals mg -> mg d.name = some (.ref fa) ->
   ∃fd:FuncData,(∀(s:Shared) (u:Value),BindsTo s fd ⟨[u],[]⟩ [("_law_script",u)])/\∀base:Heap,(K w.params).In base->base.Ns mainGlobals mg->FnOk l.prog w (K w.params) mg base Df 9 fa fd ["_law_script"] (Ja (K w.params))) :
  PySem.W.WalkO q loose XP YP l.row.toRowW d [] (λf vs=>PySem.call f vs) :=
 L2.walk_of (n:=63) (k:=9) (x:="_law_script") (CX:=λ_=>Df) (sp:=λw=>Ja (K w.params)) hn (by decide) hdf ⟨rfl,by decide,by decide⟩ hY F (λ_ _ a ns hl _ hS=>⟨a,ns,rfl,hS,hl,λ_=>rfl⟩) λ_ _ _ _ _ z=>z
end Zl
open PySem PySem.W PyProof.Rows
set_option maxRecDepth 100000 in
set_option maxHeartbeats 0 in
theorem PySem.Challenge.cw_zonewalk_k22_machines_refused_holds : PySem.Challenge.rw_zonewalk_k22_machines_refused.Holds := by
 refine holds_law Zl.said λs=>?_
 refine holds_open (q:=Zl.vq) (loose:=Zl.loo) (Xt:=Hd.xt PySem.Challenge.rw_zonewalk_k22_machines_refused.row.toRowW Zl.vq) (XP:=XL Zl.vq []) (Yf:=Zl.hk.obs) (Ya:=Zl.hk.val) (YP:=Zl.hk.says) Zl.left Zl.hk.of Zl.hk.keeps (λs e=>xl_of s (Bool.and_eq_true_iff.mp e).1) XL.keeps (by rfl) (by rfl) (by rfl) (λs e=>recFacts_of (Bool.and_eq_true_iff.mp e).2) (by rfl) s (by decide +kernel) ⟨rfl,rfl,rfl,rfl,rfl,by decide +kernel⟩ ?hw ?hc
 case hw=>w_witness2
 case hc=>exact Zl.walk (l:=PySem.Challenge.rw_zonewalk_k22_machines_refused) rfl rfl (λw h Y=>kIn_of Y) λw mg fa h X G e=>Zl.all_mk X G e
end
