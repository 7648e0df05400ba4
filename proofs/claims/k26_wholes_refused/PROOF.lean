import PyProof.Rows.All
import Wide.All
import OpenK.AllK
import Wide.FinOn
import Lean
import PyProof.EqAt
import PyProof.EqKinds
import PyProof.TupleCall
import PySem.Challenge.RW_zonewalk_k26_wholes_refused
set_option compiler.extract_closed false
set_option bootstrap.genMatcherCode false
set_option linter.all false
def ya0:=@List.getElem?_eq_getElem
def ya1:=@List.length_map
def ya2:=@Option.map_eq_some_iff
def ya3:=@Bool.and_eq_true
def ya4:=@List.getElem?_eq_some_iff
def ya5:=@List.getElem?_map
def ya6:=@List.mem_cons
def ya7:=@List.mem_cons_of_mem
def ya8:=@PySem.Heap.get?_push_of_some
def ya9:=@List.mem_cons_self
def yaa:=@List.mem_singleton
def yab:=@List.not_mem_nil
def yac:=@Nat.le_refl
def yad:=@List.length_append
def yae:=@List.map_cons
def yaf:=@Option.bind_eq_some_iff
def yag:=@List.getD_eq_getElem?_getD
def yah:=@PySem.Heap.lt_size
def yai:=@List.mem_map
def yaj:=@List.all_eq_true
def yak:=@List.size_toArray
def yal:=@PySem.Heap.get?_push_size
def yam:=@Nat.lt_of_lt_of_le
def yan:=@List.getElem?_set_ne
def yao:=@List.length_cons
def yap:=@List.getElem?_set_self
def yaq:=@List.mem_append_right
def yar:=@Nat.ne_of_lt
def yas:=@List.mem_of_getElem?
def yat:=@List.contains_iff_mem
def yau:=@Option.some.inj
def yav:=@List.append_nil
def yaw:=@Nat.le_trans
def yax:=@List.mem_append
def yay:=@Ne.symm
def yaz:=@Nat.zero_le
def yb0:=@List.getElem?_append_left
def yb1:=@Array.getElem?_eq_getElem
def yb2:=@Bool.eq_false_iff
def yb3:=@List.lookup_cons
def yb4:=@List.map_map
def yb5:=@List.getElem?_append_right
def yb6:=@List.getElem_mem
def yb7:=@List.mem_flatMap
def yb8:=@Bool.false_ne_true
def yb9:=@List.map_append
def yba:=@List.nodup_nil
def ybb:=@Nat.lt_irrefl
def ybc:=@List.flatMap_cons
def ybd:=@List.length_nil
def ybe:=@List.mem_iff_getElem?
def ybf:=@PySem.Heap.get?_update_other
def ybg:=@List.findIdx?_eq_some_iff_getElem
def ybh:=@PySem.W.kia_one
def ybi:=@List.length_singleton
def ybj:=@List.getElem?_eq_none
def ybk:=@Array.getD_eq_getD_getElem?
def ybl:=@List.nil_append
def ybm:=@Bool.or_eq_true
def ybn:=@PyProof.Rows.callWith_type1
def ybo:=@List.mem_range
def ybp:=@Bool.not_eq_true'
def ybq:=@PySem.mem_of_lookup
def ybr:=@List.replicate_succ
def ybs:=@List.mem_append_left
def ybt:=@Bool.or_eq_false_iff
def ybu:=@List.append_assoc
def ybv:=@Array.getElem?_eq_some_iff
def ybw:=@List.flatMap_nil
def ybx:=@Array.getElem?_toList
def yby:=@Nat.le_succ
def ybz:=@List.nodup_cons
def yc0:=@List.length_set
def yc1:=@List.map_nil
def yc2:=@Option.map_some
def yc3:=@Int.toNat_natCast
def yc4:=@PySem.W.hideAll_get
def yc5:=@List.map_congr_left
def yc6:=@PySem.Heap.size_push
def yc7:=@Nat.le_add_right
def yc8:=@PyProof.Rows.boot_isinstance
def yc9:=@List.mem_filterMap
def yca:=@Bool.false_eq_true
def ycb:=@PySem.Heap.get?_update_self
def ycc:=@List.flatten_cons
def ycd:=@Nat.lt_succ_of_lt
def yce:=@List.length_range
def ycf:=@List.drop_eq_getElem_cons
def ycg:=@List.getElem?_mapIdx
def ych:=@PySem.F.slot_str_getitem
def yci:=@List.isEmpty_iff
def ycj:=@List.getElem?_cons_succ
def yck:=@List.length_eq_zero_iff
def ycl:=@PySem.W.of_hideAll
def ycm:=@List.foldl_cons
def ycn:=@List.find?_cons
def yco:=@List.zip_cons_cons
def ycp:=@Bool.eq_iff_iff
def ycq:=@PyProof.Rows.boot_list
def ycr:=@List.getElem?_zipWith
def ycs:=@List.length_filter_le
def yct:=@Nat.lt_succ_self
def ycu:=@List.take_length
def ycv:=@Int.natCast_zero
def ycw:=@PySem.F.excBase_ValueError
def ycx:=@Nat.add_mul
def ycy:=@Nat.one_mul
def ycz:=@Array.length_toList
def yd0:=@List.getElem?_range
def yd1:=@List.pairwise_iff_getElem
def yd2:=@PySem.Obj.data_mapFields
def yd3:=@PySem.W.callWith_K
def yd4:=@PySem.F.called_set
def yd5:=@Array.getElem_mem_toList
def yd6:=@Bool.false_and
def yd7:=@PySem.F.slot_dict_itemiterator_iter
def yd8:=@List.getElem?_replicate
def yd9:=@List.getElem?_cons_zero
def yda:=@PySem.F.plainAttrs_list
def ydb:=@PyProof.Rows.F.plain_set_update_loop
def ydc:=@List.append_cancel_left
def ydd:=@List.ext_getElem?
def yde:=@List.pairwise_map
def ydf:=@PySem.W.cellsFrom_some
def ydg:=@PySem.Calls.callWith_builtin
def ydh:=@PyProof.V.reads_dictOf
def ydi:=@PySem.SeqAt.notIn_list_reads
def ydj:=@List.zipWith_cons_cons
def ydk:=@Bool.or_false
def ydl:=@Bool.false_or
def ydm:=@Bool.not_true
def ydn:=@List.cons.inj
def ydo:=@List.getElem_inj
def ydp:=@List.length_take
def ydq:=@List.length_replicate
def ydr:=@PySem.Obj.isFreed_of_fields
def yds:=@Nat.lt_trans
def ydt:=@List.mem_filter
def ydu:=@PySem.W.hideAll_none
def ydv:=@Nat.le_of_lt
def ydw:=@List.of_mem_zip
def ydx:=@List.all_map
def ydy:=@PyProof.Rows.join_plain_closes
def ydz:=@List.filterMap_cons
def ye0:=@PySem.W.plainGet_of
def ye1:=@PySem.SeqAt.in_list_reads
def ye2:=@Bool.and_false
def ye3:=@PySem.Calls.spliced_cons
def ye4:=@List.contains_cons
def ye5:=@List.findIdx?_cons
def ye6:=@PySem.Paired.length
def ye7:=@List.any_cons
def ye8:=@Bool.true_and
def ye9:=@PySem.W.kitx_dict
def yea:=@PySem.Calls.spliced_nil
def yeb:=@Option.some.injEq
def yec:=@Nat.not_lt
def yed:=@Bool.true_or
def yee:=@PySem.Txt.slice_le
def yef:=@Option.getD_some
def yeg:=@decide_eq_false
def yeh:=@PySem.wpAny_mono
def yei:=@PySem.wpAny_truthy_bool
def yej:=@PySem.wpAny_execs_nil
def yek:=@PySem.wpAny_bind
def yel:=@PySem.wpAny_holding
def yem:=@PySem.wpAny_standAt
def yen:=@PySem.wpAny_pure
def yeo:=@PySem.wpAny_pyIter_list
def yep:=@PySem.wpAny_passesOwn
def yeq:=@PySem.sizeLine_eq
def yer:=@PySem.wpAny_Call_Name_kw
def yes:=@PySem.typeIs_str
def yet:=@if_true
def yeu:=@if_false
def yev:=@PySem.call_meets
def yew:=@decide_eq_true
def yex:=@PySem.codeAny_mono
def yey:=@PySem.wpAny_newObj_type
def yez:=@PySem.wpAny_setField
def yf0:=@PySem.wpAny_field
def yf1:=@PySem.wpAny_call
def yf2:=@beq_iff_eq
def yf3:=@PySem.codeAny_call_builtin
def yf4:=@PySem.codeAny_builtin
def yf5:=@PySem.wpAny_of_eq
def yf6:=@decide_eq_true_eq
def yf7:=@or_false
def yf8:=@beq_self_eq_true
def yf9:=@PySem.pushCells_keeps
def yfa:=@of_decide_eq_true
def yfb:=@PySem.wpAny_ite_false
def yfc:=@PySem.wpAny_isInstance
def yfd:=@PySem.wpAny_getItem_str_slice
def yfe:=@PySem.post_val_or_str
def yff:=@beq_eq_false_iff_ne
def yfg:=@not_false_eq_true
noncomputable section
local macro_rules|`(tactic|ext)=>`(tactic|kernel_rfl)
abbrev kA:=PySem.W.Frag
set_option Elab.async false
set_option linter.all false
set_option maxRecDepth 100000
set_option genSizeOf false
local macro_rules
  |`(tactic| omega)=>`(tactic| first
    |assumption
    |exact yaw (by assumption) (by decide +kernel)
    |exact yam (by assumption) (by decide +kernel)
    |exact Nat.lt_of_le_of_lt (by assumption) (by decide +kernel)
    |exact Nat.succ_pos _
    |exact yam (by assumption) (Nat.succ_le_succ (yaw (by assumption) (by decide +kernel)))
    |exact Nat.succ_le_succ (yaw (by assumption) (by decide +kernel))
    |exact yds (by assumption) (by assumption)
    |exact yam (by assumption) (by assumption)
    |exact Int.lt_trans (b:=0) (by decide +kernel) (by assumption)
    |exact Int.lt_of_lt_of_le (b:=0) (by decide +kernel) (by assumption)
    |exact Int.lt_of_le_of_lt (by assumption) (by decide +kernel)
    |exact Int.le_trans (by assumption) (by decide +kernel)
    |exact Int.le_of_lt (by assumption)
    |exact Int.ne_of_gt (by assumption)
    |lia
    |fail)
namespace L2
open PySem PySem.Spec PyProof.Rows
variable {E:Value->Shared->Prop}
abbrev Key:=Sum Int Str
noncomputable def En:Key->Value->Bool
 |.inl k,v=>Value.isInt k v
 |.inr x,v=>Value.isStrOf x v
def keyH(w:World):Key->Int
 |.inl k=>hashInt k
 |.inr x=>hashStr w x
theorem EA:∀{k:Key} {v:Value},En k v=true->(∃i t,k=Sum.inl i/\v=Value.int i t)\/(∃x t,k=Sum.inr x/\v=Value.str x t)
 |.inl i,v,h=>by
  obtain⟨t,e⟩:=Value.isInt_shape (k:=i) (v:=v) h;exact .inl ⟨i,t,rfl,e⟩
 |.inr x,v,h=>by
  obtain⟨t,e⟩:=Value.isStrOf_shape (x:=x) (v:=v) h;exact .inr ⟨x,t,rfl,e⟩
theorem zen(i:Int)(t:Tok):En (.inl i) (.int i t)=true:=by simp[En,Value.isInt]
theorem zem(x:Str)(t:Tok):En (.inr x) (.str x t)=true:=by simp[En,Value.isStrOf]
theorem zni(a b:Int):decide ((Sum.inl a:Key)=Sum.inl b)=(a == b):=by
 by_cases e:a=b
 .subst e;simp
 .have h:¬ (Sum.inl a:Key)=Sum.inl b:=λq=>e (Sum.inl.inj q)
  rw[yeg h];exact(beq_eq_false_iff_ne.mpr e).symm
theorem znf(a b:Str):decide ((Sum.inr a:Key)=Sum.inr b)=decide (a=b):=by
 by_cases e:a=b
 .subst e;simp
 .have h:¬ (Sum.inr a:Key)=Sum.inr b:=λq=>e (Sum.inr.inj q)
  rw[yeg h,yeg e]
theorem znh(a:Int)(b:Str):decide ((Sum.inl a:Key)=Sum.inr b)=false:=yeg (λq=>nomatch q)
theorem zng(a:Str)(b:Int):decide ((Sum.inr a:Key)=Sum.inl b)=false:=yeg (λq=>nomatch q)
def Bl(prog:Program)(w:World):PySem.KeyKind prog w Key where
 is:=En
 hash:=keyH w
 inj:=λv a b ha hb=>by
  rcases EA ha with ⟨i,t,rfl,rfl⟩|⟨x,t,rfl,rfl⟩
  .rcases EA hb with ⟨j,u,rfl,e⟩|⟨y,u,rfl,e⟩
   .injection e with e1 _;rw[e1]
   .exact nomatch e
  .rcases EA hb with ⟨j,u,rfl,e⟩|⟨y,u,rfl,e⟩
   .exact nomatch e
   .injection e with e1 _;rw[e1]
 byValue:=λk v h=>by
  rcases EA h with ⟨i,t,rfl,rfl⟩|⟨x,t,rfl,rfl⟩<;>rfl
 pyHash:=λhv h=>by
  rcases EA hv with ⟨i,t,rfl,rfl⟩|⟨x,t,rfl,rfl⟩
  .exact wpAny_pyHash_int h
  .exact wpAny_pyHash_str h
 eqBool:=λhu hv h=>by
  rcases EA hu with ⟨i,t,rfl,rfl⟩|⟨x,t,rfl,rfl⟩
  .rcases EA hv with ⟨j,u,rfl,rfl⟩|⟨y,u,rfl,rfl⟩
   .rw[zni]at h;exact wpAny_eqBool_int h
   .rw[znh]at h;exact SeqAt.EqAt.int_str i t y u _ _ _ _ h
  .rcases EA hv with ⟨j,u,rfl,rfl⟩|⟨y,u,rfl,rfl⟩
   .rw[zng]at h;exact SeqAt.EqAt.str_int x t j u _ _ _ _ h
   .rw[znf]at h;exact wpAny_eqBool_str h
 «strs»:=λk x t v h=>by
  rcases EA h with ⟨i,u,rfl,e⟩|⟨y,u,rfl,e⟩
  .exact nomatch e
  .injection e with e1 _
   subst e1;cases v<;>rfl
theorem zcr(prog:Program)(w:World)(i:Int)(t:Tok):(Bl prog w).is (.inl i) (.int i t)=true:=zen i t
theorem zcq(prog:Program)(w:World)(x:Str)(t:Tok):(Bl prog w).is (.inr x) (.str x t)=true:=zem x t
inductive V where
 |non|bl (b:Bool)|int (i:Int)|str (x:Str)|byt (b:Array UInt8)|flt (b:UInt64)|ref (a:Addr)|ty (n:String)
 deriving DecidableEq
def RelV:V->Value->Prop
 |.non,u=>u=Value.none
 |.bl b,u=>u=Value.bool b
 |.int i,u=>∃t,u=Value.int i t
 |.str x,u=>∃t,u=Value.str x t
 |.byt b,u=>∃t,u=Value.bytes b t
 |.flt b,u=>∃t,u=Value.float b t
 |.ref a,u=>u=Value.ref a
 |.ty n,u=>u=Value.type n
abbrev A5:List V->List Value->Prop:=Paired RelV
theorem A5.length{xs:List V}{us:List Value}(r:A5 xs us):xs.length=us.length:=ye6 r
theorem A5.get:∀{xs:List V} {us:List Value} {i:Nat} {x:V},A5 xs us->xs[i]?=some x->∃u,us[i]?=some u/\RelV x u
 |_,_,_,_,.nil,e=>by simp at e
 |_,_,0,_,.cons r _,e=>by simp at e;subst e;exact⟨_,rfl,r⟩
 |_,_,i+1,x,.cons _ t,e=>by
  obtain⟨u,h1,h2⟩:=A5.get (i:=i) (x:=x) t (by simpa using e)
  exact⟨u,by simpa using h1,h2⟩
theorem A5.set{x:V}{u:Value}(r:RelV x u):∀{xs:List V} {us:List Value} (i:Nat),A5 xs us->A5 (xs.set i x) (us.set i u)
 |_,_,_,.nil=>.nil
 |_,_,0,.cons _ t=>.cons r t
 |_,_,i+1,.cons q t=>.cons q (A5.set r i t)
theorem A5.append:∀{xs ys:List V} {us ws:List Value},A5 xs us->A5 ys ws->A5 (xs++ys) (us++ws)
 |_,_,_,_,.nil,s=>s
 |_,_,_,_,.cons r t,s=>.cons r (A5.append t s)
theorem A5.take:∀{xs:List V} {us:List Value} (n:Nat),A5 xs us->A5 (xs.take n) (us.take n)
 |_,_,0,_=>.nil
 |_,_,_+1,.nil=>.nil
 |_,_,n+1,.cons r t=>.cons r (A5.take n t)
theorem A5.drop:∀{xs:List V} {us:List Value} (n:Nat),A5 xs us->A5 (xs.drop n) (us.drop n)
 |_,_,0,r=>r
 |_,_,_+1,.nil=>.nil
 |_,_,n+1,.cons _ t=>A5.drop n t
def DD:Option V->Option Value->Prop
 |some v,some u=>RelV v u
 |none,none=>True
 |_,_=>False
def KV{κ:Type}:List (κ×V)->List (κ×Value)->Prop:=Paired λ(p:κ×V) (q:κ×Value)=>p.1=q.1/\RelV p.2 q.2
def kV:Key->V
 |.inl i=>.int i
 |.inr x=>.str x
inductive HO where
 |lst (xs:List V)
 |tup (xs:List V)
 |dK (kvs:List (Key×V))|dT (kvs:List (List Key×V))
 |set (S:Int->Bool) (n:Nat)
 |ins (C dx:Addr) (fs:List (Str×V))
 |own (x:Addr)
 |xd (fs:List (Str×V))
 |met (f x:Addr)
 |rng (lo hi:Int)
 |frz (o:Obj) (u:HO)
 |tbl (ps:Array Value)
 |ext (φ:Heap->Prop)
abbrev Hp:=Addr->Option HO
noncomputable def upd(H:Hp)(a:Addr)(o:HO):Hp:=λb=>if b=a then some o else H b
variable {H:Hp}{a:Addr}
theorem Ba{o:HO}:upd H a o a=some o:=by unfold upd;rw[if_pos rfl]
variable {b:Addr}
theorem Ac{o:HO}(h:b≠a):upd H a o b=H b:=by unfold upd;rw[if_neg h]
theorem ne_of{o u:HO}(h:H a=some o)(h':H b=some u)(d:o≠u):a≠b:=by
 intro e;subst e;rw[h]at h';exact d (yau h')
theorem Br{o:HO}(h:H a=some o)(h':H b=none):a≠b:=by
 intro e;subst e;rw[h]at h';cases h'
section
variable (P:Program)(w:World)
def BQ(H:Hp)(h:Heap)(a:Addr):HO->Prop
 |.lst xs=>xs.length<=sizeLine/\∃(its:List Value) (n:Nat),A5 xs its/\h.get? a=some { cls:=.type "list",data:=.seq its.toArray n }
 |.tup xs=>xs.length<=sizeLine/\∃its:List Value,A5 xs its/\IsTup h a its.toArray
 |.dK kvs=>kvs.length<=sizeLine/\(a == sysModules)=false/\∃vs,KV kvs vs/\h.DictOf (Bl P w) a vs
 |.dT kvs=>kvs.length<=sizeLine/\(a == sysModules)=false/\∃xs:List (List Key×Addr×Value),
   Paired (λ(p:List Key×V) (q:List Key×Addr×Value)=>p.1=q.1/\H q.2.1=some (.tup (p.1.map kV))/\RelV p.2 q.2.2) kvs xs /\
   ∃o es ep,h.get? a=some o/\o.ExactDict/\o.data=.dict es ep/\es.toList=xs.map (entryOfKey (tupleKind (Bl P w)))/\(xs.map (·.1)).Nodup
 |.set S n=>h.SetOf (intKind P w) a S n
 |.ins C dx fs=>H dx=some (.own a)/\fs.length<=1000/\dx≠a/\h.get? a=some (PySem.W.instObj C dx) /\
   ∃mA,h.Ns1 dx mA/\(∀f,DD (fs.lookup f) (mA f))/\PySem.Within mA (fs.map (·.1))
 |.own _=>∃o,h.get? a=some o
 |.xd fs=>∃mA,h.Ns1 a mA/\∀f,DD (fs.lookup f) (mA f)
 |.rng lo hi=>∃t u v,h.get? a=some { cls:=.type "range",data:=.fields #[.int lo t,.int hi u,.int 1 v] }
 |.frz o u=>h.get? a=some o/\BQ H h a u
 |.tbl ps=>h.get? a=some { cls:=.none,data:=.fields ps }
 |.met f x=>h.get? a=some (PySem.W.methodObj (.ref f) (.ref x))
 |.ext φ=>φ h/\(∃o,h.get? a=some o)/\∀h1 h2:Heap,φ h1->(∀o,h1.get? a=some o->h2.get? a=some o)->φ h2
def HOk(H:Hp)(h:Heap):Prop:=∀a o,H a=some o->BQ P w H h a o
end
variable {P:Program}{w:World}{H':Hp}{h h':Heap}
section
variable {o:HO}
theorem BQ.lt(x:BQ P w H h a o):a<h.objs.size:=by
 cases o with
 |lst xs=>obtain⟨_,_,_,_,e⟩:=x;exact yah e
 |tup xs=>obtain⟨_,_,_,p⟩:=x;exact p.lt
 |dK kvs=>obtain⟨_,_,_,_,o,_,_,e,_⟩:=x;exact yah e
 |dT kvs=>obtain⟨_,_,_,_,o,_,_,e,_⟩:=x;exact yah e
 |set S n=>obtain⟨o,_,_,_,e,_⟩:=x;exact yah e
 |ins C dx fs=>obtain⟨_,_,_,e,_⟩:=x;exact yah e
 |own y=>obtain⟨_,e⟩:=x;exact yah e
 |xd fs=>obtain⟨_,⟨_,_,_,e,_⟩,_⟩:=x;exact yah e
 |rng lo hi=>obtain⟨_,_,_,e⟩:=x;exact yah e
 |frz ob u=>obtain⟨e,_⟩:=x;exact yah e
 |tbl ps=>exact yah (show h.get? a=some _ from x)
 |met f y=>exact yah (show h.get? a=some _ from x)
 |ext φ=>obtain⟨_,⟨_,e⟩,_⟩:=x;exact yah e
theorem Paired.mapP{α β:Type}{F G:α->β->Prop}:∀{l₁:List α} {l₂:List β},Paired F l₁ l₂->(∀a b,F a b->G a b)->Paired G l₁ l₂
 |_,_,.nil,_=>.nil
 |_,_,.cons r t,f=>.cons (f _ _ r) (Paired.mapP t f)
theorem BQ.stay(x:BQ P w H h a o)(k:∀b u,(b=a\/H b=some (.own a))->h.get? b=some u->h'.get? b=some u)
  (ho:∀b,H b=some (.own a)->H' b=some (.own a)) (ht:∀b xs,H b=some (.tup xs)->H' b=some (.tup xs)):BQ P w H' h' a o:=by
 induction o with
 |lst xs=>obtain⟨z,its,n,r,e⟩:=x;exact⟨z,its,n,r,k _ _ (.inl rfl) e⟩
 |tup xs=>obtain⟨z,its,r,ob,e,c⟩:=x;exact⟨z,its,r,ob,k _ _ (.inl rfl) e,c⟩
 |dK kvs=>obtain⟨z,y,vs,r,ob,es,ep,e,c⟩:=x;exact⟨z,y,vs,r,ob,es,ep,k _ _ (.inl rfl) e,c⟩
 |dT kvs =>
  obtain⟨z,y,xs,r,ob,es,ep,e,c⟩:=x;exact⟨z,y,xs,Paired.mapP r λp q z=>⟨z.1,ht _ _ z.2.1,z.2.2⟩,ob,es,ep,k _ _ (.inl rfl) e,c⟩
 |set S n=>obtain⟨ob,es,ep,t,e,c⟩:=x;exact⟨ob,es,ep,t,k _ _ (.inl rfl) e,c⟩
 |ins C dx fs =>
  obtain⟨d,z,ne,e,mA,⟨od,es,ep,e2,c⟩,r⟩:=x;exact⟨ho _ d,z,ne,k _ _ (.inl rfl) e,mA,⟨od,es,ep,k _ _ (.inr d) e2,c⟩,r⟩
 |own y=>obtain⟨ob,e⟩:=x;exact⟨ob,k _ _ (.inl rfl) e⟩
 |xd fs=>obtain⟨mA,⟨od,es,ep,e,c⟩,r⟩:=x;exact⟨mA,⟨od,es,ep,k _ _ (.inl rfl) e,c⟩,r⟩
 |rng lo hi=>obtain⟨t,u,v,e⟩:=x;exact⟨t,u,v,k _ _ (.inl rfl) e⟩
 |frz ob u ih=>obtain⟨e,q⟩:=x;exact⟨k _ _ (.inl rfl) e,ih q⟩
 |tbl ps =>
  have e:h.get? a=some { cls:=.none,data:=.fields ps }:=x;show h'.get? a=some { cls:=.none,data:=.fields ps };exact k a _ (.inl rfl) e
 |met f y =>
  have e:h.get? a=some (PySem.W.methodObj (.ref f) (.ref y)):=x;show h'.get? a=some (PySem.W.methodObj (.ref f) (.ref y));exact k a _ (.inl rfl) e
 |ext φ=>obtain⟨p,⟨o,e⟩,st⟩:=x;exact⟨st _ _ p λo q=>k _ _ (.inl rfl) q,⟨o,k _ _ (.inl rfl) e⟩,st⟩
theorem HOk.lt(x:HOk P w H h)(e:H a=some o):a<h.objs.size:=(x a o e).lt
theorem HOk.fresh(x:HOk P w H h)(e:h.objs.size<=a):H a=none:=by
 cases q:H a with
 |none=>rfl
 |some u=>exact absurd (yam (x.lt q) e) (ybb _)
theorem HOk.kept(x:HOk P w H h)(k:∀b u,h.get? b=some u->h'.get? b=some u):HOk P w H h':=λa o e =>
 (x a o e).stay (λb u _ q=>k b u q) (λ_ q=>q) λ_ _ q=>q
theorem HOk.laid(x:HOk P w H h)(k:∀b u,h.get? b=some u->h'.get? b=some u)(hp:h.objs.size<=a)(new:BQ P w (upd H a o) h' a o):HOk P w (upd H a o) h':=λb u e=>by
 have hn:=x.fresh hp
 by_cases hb:b=a
 .subst hb;rw[Ba]at e;cases e;exact new
 .rw[Ac hb]at e;exact(x b u e).stay (λc v _ q=>k c v q) (λc q=>by rw[Ac (Br q hn)];exact q) λc xs q=>by rw[Ac (Br q hn)];exact q
end
def Rd(H:Hp)(a:Addr)(u:HO):Prop:=H a=some u\/∃o,H a=some (.frz o u)
theorem Rd.ok{u:HO}(r:Rd H a u)(x:HOk P w H h):BQ P w H h a u:=by
 rcases r with r|⟨o,r⟩
 .exact x a u r
 .obtain⟨_,q⟩:=x a _ r;exact q
def Jk:Option HO->Prop
 |some (.lst _)=>True
 |some (.dK _)=>True
 |some (.dT _)=>True
 |some (.set _ _)=>True
 |some (.ins _ _ _)=>True
 |some (.ext _)=>True
 |_=>False
section
variable {x e:Addr}{o':HO}
theorem HOk.write(ok:HOk P w H h)(mu:Jk (H x))(he:e=x\/H e=some (.own x))(k:∀b u,b≠e->h.get? b=some u->h'.get? b=some u)(heo:∃u,h'.get? e=some u)
  (new:BQ P w (upd H x o') h' x o'):HOk P w (upd H x o') h':=λb u q=>by
 have nown:∀c y,H c=some (.own y)->c≠x:=λc y r z=>by subst z;rw[r]at mu;exact mu
 have ntup:∀c xs,H c=some (.tup xs)->c≠x:=λc xs r z=>by subst z;rw[r]at mu;exact mu
 by_cases hb:b=x
 .subst hb;rw[Ba]at q;cases q;exact new
 .rw[Ac hb]at q
  by_cases hbe:b=e
  .have q':H b=some (.own x):=by
    rcases he with z|z
    .exact absurd (hbe.trans z) hb
    .rw[hbe];exact z
   rw[q]at q';cases q';obtain⟨v,hv⟩:=heo;exact⟨v,by rw[hbe];exact hv⟩
  .refine(ok b u q).stay (λc v hc r=>k c v ?_ r) (λc r=>by rw[Ac (nown c b r)];exact r) λc xs r=>by rw[Ac (ntup c xs r)];exact r
   rcases hc with rfl|hc
   .exact hbe
   .rintro rfl
    rcases he with z|z
    .exact nown c b hc z
    .rw[hc]at z;cases z;exact hb rfl
end
structure Un(fs ex:List Addr)(H H':Hp)(h h':Heap):Prop where
 keep:∀b o,h.get? b=some o->H b=none->b∉fs->b∉ex->h'.get? b=some o
 slot:∀b o,h.get? b=some o->H b=none->b∈fs->b∉ex->∃sl,h'.get? b=some { o with slots:=sl }
 free:∀b o,h.get? b=some o->H b=none->b∉ex->H' b=none
 there:∀b o,h.get? b=some o->b∉ex->∃o',h'.get? b=some o'
 tups:∀b xs,H b=some (.tup xs)->H' b=some (.tup xs)
 frzs:∀b o u,H b=some (.frz o u)->H' b=some (.frz o u)
 tbls:∀b ps,H b=some (.tbl ps)->∃more,H' b=some (.tbl (ps++more))
section
variable {fs fs' ex ex':List Addr}{H1 H2:Hp}{h1 h2:Heap}{x e:Addr}{o:HO}
theorem Un.any(u:Un fs ex H H1 h h1){ob:Obj}(q:h.get? b=some ob)(n:H b=none)(hx:b∉ex):∃sl,h1.get? b=some { ob with slots:=sl }:=by
 by_cases hb:b∈fs
 .exact u.slot b ob q n hb hx
 .exact⟨ob.slots,u.keep b ob q n hb hx⟩
theorem Un.kept(k:∀b u,h.get? b=some u->h'.get? b=some u):Un fs ex H H h h' :=
 ⟨λb ob q _ _ _=>k b ob q,λb ob q _ _ _=>⟨ob.slots,k b ob q⟩,λ_ _ _ n _=>n,λb ob q _=>⟨ob,k b ob q⟩,λ_ _ q=>q,λ_ _ _ q=>q,λ_ ps q=>⟨#[],by rw[q];simp⟩⟩
theorem Un.refl:Un fs ex H H h h:=Un.kept λ_ _ q=>q
theorem Un.laid(k:∀b u,h.get? b=some u->h'.get? b=some u)(hp:h.objs.size<=a)(hn:H a=none):Un fs ex H (upd H a o) h h' where
 keep:=λb u q _ _ _=>k b u q
 slot:=λb u q _ _ _=>⟨u.slots,k b u q⟩
 free:=λb u q n _=>by rw[Ac (yar (yam (yah q) hp))];exact n
 there:=λb u q _=>⟨u,k b u q⟩
 tups:=λb xs q=>by rw[Ac (Br q hn)];exact q
 frzs:=λb u xs q=>by rw[Ac (Br q hn)];exact q
 tbls:=λb ps q=>⟨#[],by rw[Ac (Br q hn),q];simp⟩
theorem Un.write(mu:Jk (H x))(he:e=x\/H e=some (.own x))(k:∀b u,b≠e->h.get? b=some u->h'.get? b=some u)(heo:∃u,h'.get? e=some u):Un fs ex H (upd H x o) h h':=by
 have hx:∀b,H b=none->b≠x:=λb n z=>by subst z;rw[n]at mu;exact mu
 have hb:∀b,H b=none->b≠e:=λb n z=>by
  subst z
  rcases he with r|r
  .exact hx b n r
  .rw[n]at r;cases r
 have hm:∀b u,H b=some u->¬ Jk (some u)->b≠x:=λb u q nm z=>by subst z;rw[q]at mu;exact nm mu
 refine⟨λb u q n _ _=>k b u (hb b n) q,λb u q n _ _=>⟨u.slots,k b u (hb b n) q⟩,λb u q n _=>by rw[Ac (hx b n)];exact n,λb u q _=>?_,
  λb xs q=>by rw[Ac (hm b _ q λz=>z)];exact q,λb u xs q=>by rw[Ac (hm b _ q λz=>z)];exact q,λb ps q=>⟨#[],by rw[Ac (hm b _ q λz=>z),q];simp⟩⟩
 by_cases hbe:b=e
 .subst hbe;exact heo
 .exact⟨u,k b u hbe q⟩
end
def KJ(h:Heap)(H:Hp):List Addr:=(List.range h.objs.size).filter λa=>(H a).isSome
def F8(h:Heap)(H:Hp):Heap:=PySem.W.hideAll h (KJ h H)
theorem zer(h:Heap)(H:Hp):(F8 h H).objs.size=h.objs.size:=PySem.W.hideAll_size _ _
theorem zgu{o:Obj}(e:h.get? b=some o)(n:H b=none):(F8 h H).get? b=some o :=
 yc4 _ e λhm=>by
  have q:(H b).isSome=true:=(ydt.mp hm).2;rw[n]at q;simp at q
theorem zjd{o:Obj}(e:(F8 h H).get? b=some o):h.get? b=some o/\H b=none:=by
 have e':h.get? b=some o:=ycl (KJ h H) e;refine⟨e',?_⟩;cases q:H b with
 |none=>rfl
 |some x =>
  have hm:b∈KJ h H:=ydt.mpr ⟨ybo.mpr (yah e'),by simp[q]⟩
  have z:(F8 h H).get? b=none:=ydu (KJ h H) hm;rw[z]at e;cases e
structure Mod(K:kA)(mg:Str->Option Value)(base:Heap):Prop where
 kin:K.In base
 glob:base.Ns mainGlobals mg
 blt:∃mb,base.Ns builtinsNs mb/\∀x:Str,x≠"__name__"->mb x=bootBuiltins x
 nolimit:base.NoLimit
set_option genInjectivity false in
structure Cx where
 prog:Program
 w:World
 K:kA
 mg:Str->Option Value
 base:Heap
 A:Around
 N:List Str
 s₀:Shared
 H₀:Hp
 env:Env
 outer:List Env
 stack:List Env
 ex:List Addr
 fn:Str->Bool
 calm:Bool
 pn:List (Addr×Obj)
 xe:Value->Shared->Prop
variable {X:Cx}
def BF(l:List Env):List Addr:=l.filterMap (·.frame)
abbrev Cx.fs(X:Cx):List Addr:=BF X.outer
def DT(sc:Scope)(x:Str):Prop:=sc.names.lookup x=some .local\/sc.names.lookup x=some .cell\/sc.names.lookup x=some .free
def GY(sc:Scope)(x:Str):Prop:=sc.names.lookup x=some .local\/sc.names.lookup x=some .cell
def Look(env:Env)(h:Heap)(m:Str->Option Value)(x:Str)(u:Value):Prop :=
 (env.kindOf x=some .local/\m x=some u)\/((env.kindOf x=some .cell\/env.kindOf x=some .free)/\∃c,env.cells.lookup x=some c/\h.IsCell c (some u))
structure Cx.Ok(X:Cx):Prop where
 mod:Mod X.K X.mg X.base
 kind:X.env.scope.kind=.function
 glob:X.env.globals=mainGlobals
 blt:X.env.builtins=builtinsNs
 above:X.s₀.heap.objs.size<=X.env.locals
 inj:∀x y c,X.env.cells.lookup x=some c->X.env.cells.lookup y=some c->x=y
 has:∀x,(X.env.kindOf x=some .cell\/X.env.kindOf x=some .free)->∃c,X.env.cells.lookup x=some c
 cab:∀x c,X.fn x=true->X.env.cells.lookup x=some c->X.s₀.heap.objs.size<=c
 hd:X.calm=true->X.A.handled=none
 frames:X.A.frames=some X.stack
 stk:X.stack=X.outer\/(X.stack=X.env::X.outer/\X.env.frame=some X.env.locals)
 exf:∀b∈X.ex,b≠X.env.locals/\∀x c,X.env.cells.lookup x=some c->c≠b
 bs:∀b o,X.base.get? b=some o->X.s₀.heap.get? b=some o/\X.H₀ b=none
 bsz:X.base.objs.size<=X.s₀.heap.objs.size
 noex:∀b o,X.base.get? b=some o->b∉X.ex
 exfs:∀b∈X.ex,b∉X.fs
 funs:X.s₀.heap.FunFrames X.base X.outer
 frf:∀b∈X.fs,X.H₀ b=none
structure Inv(X:Cx)(pins:List (Addr×Obj))(σ:List (Option V))(H:Hp)(s:Shared):Prop where
 ok:X.Ok
 os:s.os=X.s₀.os
 bare:AllBare s.gens
 base:Un X.fs X.ex X.H₀ H X.s₀.heap s.heap
 loc:∃m,s.heap.Ns X.env.locals m/\∀(i:Nat) (x:Str) (v:V),X.N[i]?=some x->σ[i]?=some (some v)->DT X.env.scope x->∃u,RelV v u/\Look X.env s.heap m x u
 cell:∀x c,X.env.cells.lookup x=some c->∃v,s.heap.IsCell c v
 free:H X.env.locals=none
 freeC:∀x c,X.env.cells.lookup x=some c->H c=none
 pin:∀p∈X.pn++pins,s.heap.get? p.1=some p.2/\H p.1=none/\p.1≠X.env.locals/\p.1∉X.fs/\∀v,p.2.data≠.cell v
 hok:HOk X.prog X.w H s.heap
 len:σ.length=X.N.length
variable {pins:List (Addr×Obj)}{s:Shared}{t' i:Nat}{ch:List Addr}{x:Str}{A:Around}{v:V}{u:Value}
section
variable {σ:List (Option V)}
theorem Cx.Ok.nofr(ok:X.Ok){o:Obj}(e:X.base.get? b=some o):b∉X.fs:=λhb=>by
 have:=(ok.funs.mem hb).1;rw[e]at this;cases this
theorem Inv.bs(I:Inv X pins σ H s):∀b o,X.base.get? b=some o->s.heap.get? b=some o/\H b=none:=λb o e =>
 ⟨I.base.keep b o (I.ok.bs b o e).1 (I.ok.bs b o e).2 (I.ok.nofr e) (I.ok.noex b o e),I.base.free b o (I.ok.bs b o e).1 (I.ok.bs b o e).2 (I.ok.noex b o e)⟩
theorem Inv.bk(I:Inv X pins σ H s):∀b o,X.base.get? b=some o->s.heap.get? b=some o:=λb o e=>(I.bs b o e).1
theorem Inv.mod(I:Inv X pins σ H s):Mod X.K X.mg X.base:=I.ok.mod
theorem Inv.kIn(I:Inv X pins σ H s):X.K.In s.heap:=I.ok.mod.kin.keeps I.bk
theorem Inv.lt(I:Inv X pins σ H s):X.env.locals<s.heap.objs.size:=let ⟨_,hn,_⟩:=I.loc;hn.lt
theorem Inv.sz(I:Inv X pins σ H s):X.s₀.heap.objs.size<=s.heap.objs.size:=yaw I.ok.above (ydv I.lt)
theorem Inv.nofs(I:Inv X pins σ H s)(h:s.heap.objs.size<=a):a∉X.fs:=λhb=>by
 obtain⟨_,o,ho,_⟩:=I.ok.funs.mem hb;exact absurd (yam (yah ho) (yaw I.sz h)) (ybb _)
theorem Inv.cne(I:Inv X pins σ H s):∀x c,X.env.cells.lookup x=some c->c≠X.env.locals:=λx c e z=>by
 obtain⟨v,o,ho,hd⟩:=I.cell x c e;obtain⟨m,⟨o',es,ep,ho',hd',_⟩,_⟩:=I.loc;rw[z,ho']at ho;cases ho;rw[hd']at hd;cases hd
theorem Inv.funs(I:Inv X pins σ H s):s.heap.FunFrames X.base X.outer:=by
 have all:∀(l:List Env),(∀b∈BF l,b∈X.fs)->X.s₀.heap.FunFrames X.base l->s.heap.FunFrames X.base l:=by
  intro l
  induction l with
  |nil=>intro _ _;trivial
  |cons env r ih =>
   intro hs hl;obtain⟨hk,⟨L,o,hf,hn,ho,hd⟩,hr⟩:=hl;have hL:L∈X.fs:=hs L (by unfold BF;rw[ydz,hf];exact ya9)
   obtain⟨sl,e⟩:=I.base.slot L o ho (I.ok.frf L hL) hL λz=>I.ok.exfs L z hL
   exact⟨hk,⟨L,_,hf,hn,e,hd⟩,ih (λb hb=>hs b (by unfold BF;rw[ydz,hf];exact ya7 _ hb)) hr⟩
 exact all X.outer (λ_ hb=>hb) I.ok.funs
theorem Inv.stack(I:Inv X pins σ H s):s.heap.FunFrames X.base X.stack:=by
 rcases I.ok.stk with e|⟨e,hf⟩
 .rw[e];exact I.funs
 .rw[e];obtain⟨m,hn,_⟩:=I.loc;refine .cons (by rw[I.ok.kind];decide) hf hn ?_ I.funs
  exact Heap.get?_none_of_le (yaw I.ok.bsz I.ok.above)
theorem Inv.stkSub(I:Inv X pins σ H s):∀b∈BF X.stack,b∈X.env.locals::X.fs:=λb hb=>by
 rcases I.ok.stk with e|⟨e,hf⟩
 .rw[e]at hb;exact ya7 _ hb
 .rw[e]at hb;unfold BF at hb;rw[ydz,hf]at hb;exact hb
theorem Inv.stkFree(I:Inv X pins σ H s):∀b∈BF X.stack,H b=none:=λb hb=>by
 rcases ya6.mp (I.stkSub b hb) with e|hb
 .rw[e];exact I.free
 .obtain⟨_,o,ho,_⟩:=I.ok.funs.mem hb;exact I.base.free b o ho (I.ok.frf b hb) λz=>I.ok.exfs b z hb
theorem Inv.step{g':Array GenState}{d':Drawn}(I:Inv X pins σ H s)(hch:∀b∈ch,(b∈X.ex\/X.s₀.heap.objs.size<=b)/\b≠X.env.locals/\(∀x c,X.env.cells.lookup x=some c->c≠b)/\∀p∈X.pn++pins,p.1≠b)(keep:∀b o,b≠X.env.locals->b∉X.fs->b∉ch->s.heap.get? b=some o->H b=none->h'.get? b=some o)(slot:∀b o,b≠X.env.locals->b∈X.fs->b∉ch->s.heap.get? b=some o->H b=none->∃sl,h'.get? b=some { o with slots:=sl })(free:∀b o,b∉ch->s.heap.get? b=some o->H b=none->H' b=none)(there:∀b o,b∉ch->s.heap.get? b=some o->∃o',h'.get? b=some o')(tups:∀b xs,H b=some (.tup xs)->H' b=some (.tup xs))(frzs:∀b o u,H b=some (.frz o u)->H' b=some (.frz o u))(tbls:∀b ps,H b=some (.tbl ps)->∃more,H' b=some (.tbl (ps++more)))(ns:∀m,s.heap.Ns X.env.locals m->h'.Ns X.env.locals m)(hok:HOk X.prog X.w H' h')(hg:AllBare g') :
  Inv X pins σ H' { s with heap:=h',gens:=g',drawn:=d',toks:=t' }:=by
 have neL:∀b o,X.s₀.heap.get? b=some o->b≠X.env.locals:=λb o e=>yar (yam (yah e) I.ok.above)
 have neC:∀b o,X.s₀.heap.get? b=some o->b∉X.ex->b∉ch:=λb o e hx hb=>by
  rcases(hch b hb).1 with z|z
  .exact hx z
  .exact absurd (yam (yah e) z) (ybb _)
 have cellK:∀x c,X.env.cells.lookup x=some c->∀v,s.heap.IsCell c v->h'.IsCell c v:=λx c e v ⟨o,ho,hd⟩=>by
  have nch:c∉ch:=λz=>(hch c z).2.2.1 x c e rfl
  by_cases hc:c∈X.fs
  .obtain⟨sl,q⟩:=slot c o (I.cne x c e) hc nch ho (I.freeC x c e);exact⟨_,q,hd⟩
  .exact⟨o,keep c o (I.cne x c e) hc nch ho (I.freeC x c e),hd⟩
 refine⟨I.ok,I.os,hg,⟨λb o e n hb hx=>?_,λb o e n hb hx=>?_,λb o e n hx=>?_,λb o e hx=>?_,λb xs e=>tups b xs (I.base.tups b xs e),λb o xs e=>frzs b o xs (I.base.frzs b o xs e),λb ps e=>?_⟩,?_,λx c e=>?_,?_,λx c e=>?_,λp hp=>?_,hok,I.len⟩
 .exact keep b o (neL b o e) hb (neC b o e hx) (I.base.keep b o e n hb hx) (I.base.free b o e n hx)
 .obtain⟨sl,e1⟩:=I.base.slot b o e n hb hx;obtain⟨sl',e2⟩:=slot b _ (neL b o e) hb (neC b o e hx) e1 (I.base.free b o e n hx);exact⟨sl',e2⟩
 .obtain⟨o',e1⟩:=I.base.there b o e hx;exact free b o' (neC b o e hx) e1 (I.base.free b o e n hx)
 .obtain⟨o',e1⟩:=I.base.there b o e hx;exact there b o' (neC b o e hx) e1
 .obtain⟨m1,e1⟩:=I.base.tbls b ps e;obtain⟨m2,e2⟩:=tbls b _ e1;exact⟨m1++m2,by rw[e2,Array.append_assoc]⟩
 .obtain⟨m,hn,hl⟩:=I.loc;refine⟨m,ns m hn,λi x v e1 e2 e3=>?_⟩
  obtain⟨u,r,l⟩:=hl i x v e1 e2 e3;refine⟨u,r,?_⟩
  rcases l with l|⟨k,c,e,z⟩
  .exact .inl l
  .exact .inr ⟨k,c,e,cellK x c e _ z⟩
 .obtain⟨v,z⟩:=I.cell x c e;exact⟨v,cellK x c e v z⟩
 .obtain⟨m,⟨o,_,_,ho,_⟩,_⟩:=I.loc;exact free _ o (λz=>(hch _ z).2.1 rfl) ho I.free
 .obtain⟨v,o,ho,hd⟩:=I.cell x c e;exact free c o (λz=>(hch c z).2.2.1 x c e rfl) ho (I.freeC x c e)
 .obtain⟨e,n,ne,nf,d⟩:=I.pin p hp;have nch:p.1∉ch:=λz=>(hch p.1 z).2.2.2 p hp rfl
  exact⟨keep p.1 p.2 ne nf nch e n,free p.1 p.2 nch e n,ne,nf,d⟩
theorem Inv.un(I:Inv X pins σ H s)(u:Un X.fs [] H H' s.heap h')(hok:HOk X.prog X.w H' h'):Inv X pins σ H' { s with heap:=h',toks:=t' }:=by
 obtain⟨m,⟨o,es,ep,ho,r⟩,_⟩:=id I.loc;obtain⟨sl,hL⟩:=u.any ho I.free (by simp)
 exact I.step (g':=s.gens) (d':=s.drawn) (ch:=[]) (λ_ z=>nomatch z) (λb o _ hb _ e n=>u.keep b o e n hb (by simp)) (λb o _ hb _ e n=>u.slot b o e n hb (by simp)) (λb o _ e n=>u.free b o e n (by simp)) (λb o _ e=>u.there b o e (by simp)) u.tups u.frzs u.tbls (λm' hm=>by
  obtain⟨o',es',ep',ho',r'⟩:=hm;rw[ho]at ho';cases ho';exact⟨_,es',ep',hL,r'⟩) hok I.bare
theorem Inv.call{g':Array GenState}{d':Drawn}(I:Inv X pins σ H s)(u:Un (BF X.stack) ch H H' s.heap h')(hok:HOk X.prog X.w H' h')(hg:AllBare g')(hch:∀b∈ch,(b∈X.ex\/X.s₀.heap.objs.size<=b)/\b≠X.env.locals/\(∀x c,X.env.cells.lookup x=some c->c≠b)/\∀p∈X.pn++pins,p.1≠b) :
  Inv X pins σ H' { s with heap:=h',gens:=g',drawn:=d',toks:=t' }:=by
 obtain⟨m,⟨o,es,ep,ho,r⟩,_⟩:=id I.loc;obtain⟨sl,hL⟩:=u.any ho I.free λz=>(hch _ z).2.1 rfl
 exact I.step (ch:=ch) hch (λb o hL hb hc e n=>u.keep b o e n (λz=>(ya6.mp (I.stkSub b z)).elim hL hb) hc) (λb o _ _ hc e n=>u.any e n hc) (λb o hc e n=>u.free b o e n hc) (λb o hc e=>u.there b o e hc) u.tups u.frzs u.tbls (λm' hm=>by
  obtain⟨o',es',ep',ho',r'⟩:=hm;rw[ho]at ho';cases ho';exact⟨_,es',ep',hL,r'⟩) hok hg
theorem Inv.turned{it:Addr}(I:Inv X pins σ H s)(k:∀b o,b≠it->s.heap.get? b=some o->h'.get? b=some o)(hn:H it=none)(hL:it≠X.env.locals)(h1:it∈X.ex\/X.s₀.heap.objs.size<=it)(h2:∀x c,X.env.cells.lookup x=some c->c≠it)(h3:∀p∈X.pn++pins,p.1≠it):Inv X pins σ H { s with heap:=h',toks:=t' }:=by
 have nit:∀b u,H b=some u->b≠it:=λb u e z=>by rw[z,hn]at e;cases e
 refine I.step (g':=s.gens) (d':=s.drawn) (ch:=[it]) (λb hb=>?_) (λb o _ _ hc e _=>k b o (λz=>hc (by simp[z])) e) (λb o _ _ hc e _=>⟨o.slots,k b o (λz=>hc (by simp[z])) e⟩) (λ_ _ _ _ n=>n)
  (λb o hc e=>⟨o,k b o (λz=>hc (by simp[z])) e⟩) (λ_ _ e=>e) (λ_ _ _ e=>e) (λb ps e=>⟨#[],by rw[e];simp⟩) (λm hm=>?_) (λb u e=>?_) I.bare
 .have e:b=it:=by simpa using hb
  subst e;exact⟨h1,hL,h2,h3⟩
 .obtain⟨o,es,ep,ho,r⟩:=hm;exact⟨o,es,ep,k _ o (yay hL) ho,r⟩
 .refine(I.hok b u e).stay (λc v hc q=>k c v ?_ q) (λ_ q=>q) λ_ _ q=>q
  rcases hc with z|z
  .rw[z];exact nit b u e
  .exact nit c _ z
theorem Inv.tok(I:Inv X pins σ H s)(t:Nat):Inv X pins σ H { s with toks:=t }:=I.un (h':=s.heap) (t':=t) Un.refl I.hok
theorem Inv.kept{t':Nat}(I:Inv X pins σ H s)(k:∀b u,s.heap.get? b=some u->h'.get? b=some u):Inv X pins σ H { s with heap:=h',toks:=t' }:=I.un (Un.kept k) (I.hok.kept k)
theorem Inv.laid{a:Addr}{o:HO}{t':Nat}(I:Inv X pins σ H s)(k:∀b u,s.heap.get? b=some u->h'.get? b=some u)(hp:s.heap.objs.size<=a)(new:BQ X.prog X.w (upd H a o) h' a o) :
  Inv X pins σ (upd H a o) { s with heap:=h',toks:=t' }:=I.un (Un.laid k hp (I.hok.fresh hp)) (I.hok.laid k hp new)
theorem Inv.write{x e:Addr}{o:HO}{t':Nat}(I:Inv X pins σ H s)(mu:Jk (H x))(he:e=x\/H e=some (.own x))(k:∀b u,b≠e->s.heap.get? b=some u->h'.get? b=some u)(heo:∃u,h'.get? e=some u)
  (new:BQ X.prog X.w (upd H x o) h' x o):Inv X pins σ (upd H x o) { s with heap:=h',toks:=t' }:=I.un (Un.write mu he k heo) (I.hok.write mu he k heo new)
theorem Inv.pins_of{pins':List (Addr×Obj)}(I:Inv X pins σ H s)(h:∀p∈pins',s.heap.get? p.1=some p.2/\H p.1=none/\p.1≠X.env.locals/\p.1∉X.fs/\∀v,p.2.data≠.cell v):Inv X pins' σ H s :=
 ⟨I.ok,I.os,I.bare,I.base,I.loc,I.cell,I.free,I.freeC,λp hp=>(yax.mp hp).elim (λz=>I.pin p (ybs _ z)) (h p),I.hok,I.len⟩
theorem Om{N:List Str}(hN:N.Nodup){j:Nat}(a:N[i]?=some x)(b:N[j]?=some x):i=j:=by
 obtain⟨h1,e1⟩:=ya4.mp a;obtain⟨h2,e2⟩:=ya4.mp b;exact(ydo hN).mp (e1.trans e2.symm)
theorem Tr{M:Model}{Q:Unit->Shared->Prop}(I:Inv X pins σ H s)(hN:X.N.Nodup)(hi:X.N[i]?=some x)(hx:GY X.env.scope x)(r:RelV v u)(h:∀s',Inv X pins (σ.set i (some v)) H s'->(∃a,Heap.SameBut a s.heap s'.heap/\(a=X.env.locals\/X.env.cells.lookup x=some a))->Q () s')(hf:X.fn x=true\/X.env.scope.names.lookup x=some .local:=by first|exact .inl rfl|exact .inr rfl|assumption):wpAny M A (storeName X.env x u) Q E s:=by
 obtain⟨m,hn,hl⟩:=id I.loc;have hcls:(X.env.scope.kind == .class || (X.env.scope.kind == .module && X.env.locals != X.env.globals))=false:=by rw[I.ok.kind];rfl
 have hiσ:i<σ.length:=by rw[I.len];exact(ya4.mp hi).1
 have cne:=I.cne
 have tracked:∀{a:Addr} {h':Heap},(∃o,s.heap.get? a=some o/\H a=none)->Heap.SameBut a s.heap h'->HOk X.prog X.w H h':=λ{a h'} ha hs b ob e=>by
  obtain⟨_,_,hfree⟩:=ha;refine(I.hok b ob e).stay (λc w' hc q=>(hs.2 c ?_).trans q) (λ_ q=>q) λ_ _ q=>q
  rintro rfl
  rcases hc with rfl|hc
  .rw[hfree]at e;cases e
  .rw[hfree]at hc;cases hc
 rcases hx with hk|hk
 .refine wpAny_storeName_local hk hn (λh' hn' hs=>?_) hcls
  obtain⟨oL,_,_,hoL,_⟩:=id hn;refine h _ ⟨I.ok,I.os,I.bare,⟨λb o e n hb hx=>?_,λb o e n hb hx=>?_,I.base.free,λb o e hx=>?_,I.base.tups,I.base.frzs,I.base.tbls⟩,⟨_,hn',λj y v' e1 e2 e3=>?_⟩,λy c e=>?_,I.free,I.freeC,λp hp=>?_,tracked ⟨oL,hoL,I.free⟩ hs,by simpa using I.len⟩ ⟨_,hs,.inl rfl⟩
  .exact(hs.2 b (yar (yam (yah e) I.ok.above))).trans (I.base.keep b o e n hb hx)
  .obtain⟨sl,e1⟩:=I.base.slot b o e n hb hx;exact⟨sl,(hs.2 b (yar (yam (yah e) I.ok.above))).trans e1⟩
  .obtain⟨o',e1⟩:=I.base.there b o e hx;exact⟨o',(hs.2 b (yar (yam (yah e) I.ok.above))).trans e1⟩
  .by_cases hj:j=i
   .subst hj;rw[hi]at e1;cases e1;rw[yap hiσ]at e2;cases e2;exact⟨u,r,.inl ⟨hk,by simp⟩⟩
   .rw[yan (yay hj)]at e2;obtain⟨u',r',q⟩:=hl j y v' e1 e2 e3;refine⟨u',r',?_⟩
    rcases q with ⟨k,e⟩|⟨k,c,e,z⟩
    .refine .inl ⟨k,?_⟩;have:y≠x:=λe=>hj (Om hN e1 (e▸hi))
     simp[this,e]
    .exact .inr ⟨k,c,e,z.sameBut hs (cne y c e)⟩
  .obtain⟨w',z⟩:=I.cell y c e;exact⟨w',z.sameBut hs (cne y c e)⟩
  .obtain⟨e,n,ne,nf,d⟩:=I.pin p hp;exact⟨(hs.2 p.1 ne).trans e,n,ne,nf,d⟩
 .have hfn:X.fn x=true:=by
   rcases hf with z|z
   .exact z
   .rw[z]at hk;cases hk
  obtain⟨c,hc⟩:=I.ok.has x (.inl hk);obtain⟨w',z⟩:=I.cell x c hc;refine wpAny_storeName_cell I.ok.kind hk hc z (λh' hc' hs=>?_)
  obtain⟨oc,hoc,hocd⟩:=id z;refine h { s with heap:=h' } ⟨I.ok,I.os,I.bare,⟨λb o e n hb hx=>?_,λb o e n hb hx=>?_,I.base.free,λb o e hx=>?_,I.base.tups,I.base.frzs,I.base.tbls⟩,⟨m,hn.sameBut hs (yay (cne x c hc)),λj y v' e1 e2 e3=>?_⟩,λy c' e=>?_,I.free,I.freeC,λp hp=>?_,tracked ⟨oc,hoc,I.freeC x c hc⟩ hs,by simpa using I.len⟩ ⟨c,hs,.inr hc⟩
  .exact(hs.2 b (yar (yam (yah e) (I.ok.cab x c hfn hc)))).trans (I.base.keep b o e n hb hx)
  .obtain⟨sl,e1⟩:=I.base.slot b o e n hb hx;exact⟨sl,(hs.2 b (yar (yam (yah e) (I.ok.cab x c hfn hc)))).trans e1⟩
  .obtain⟨o',e1⟩:=I.base.there b o e hx;exact⟨o',(hs.2 b (yar (yam (yah e) (I.ok.cab x c hfn hc)))).trans e1⟩
  .by_cases hj:j=i
   .subst hj;rw[hi]at e1;cases e1;rw[yap hiσ]at e2;cases e2;exact⟨u,r,.inr ⟨.inl hk,c,hc,hc'⟩⟩
   .rw[yan (yay hj)]at e2;obtain⟨u',r',q⟩:=hl j y v' e1 e2 e3;refine⟨u',r',?_⟩
    rcases q with q|⟨k,c',e,z'⟩
    .exact .inl q
    .refine .inr ⟨k,c',e,z'.sameBut hs ?_⟩;rintro rfl;exact hj (Om hN e1 (I.ok.inj _ _ _ e hc▸hi))
  .by_cases hcc:c'=c
   .subst hcc;exact⟨_,hc'⟩
   .obtain⟨w2,z2⟩:=I.cell y c' e;exact⟨w2,z2.sameBut hs hcc⟩
  .obtain⟨e,n,ne,nf,d⟩:=I.pin p hp;refine⟨(hs.2 p.1 ?_).trans e,n,ne,nf,d⟩;intro q;rw[q,hoc]at e;have q':oc=p.2:=yau e;exact d w' (by rw[<- q'];exact hocd)
theorem NU{M:Model}{Q:Unit->Shared->Prop}(I:Inv X pins σ H s)(hN:X.N.Nodup)(hi:X.N[i]?=some x)(hx:GY X.env.scope x)(r:RelV v u)(h:∀s',Inv X pins (σ.set i (some v)) H s'->Q () s')(hf:X.fn x=true\/X.env.scope.names.lookup x=some .local:=by first|exact .inl rfl|exact .inr rfl|assumption):wpAny M A (storeName X.env x u) Q E s :=
 Tr I hN hi hx r (λs' I' _=>h s' I') hf
theorem Inv.call'{s':Shared}(I:Inv X pins σ H s)(ho:s'.os=s.os)(u:Un (BF X.stack) ch H H' s.heap s'.heap)(hok:HOk X.prog X.w H' s'.heap)(hg:AllBare s'.gens)(hch:∀b∈ch,(b∈X.ex\/X.s₀.heap.objs.size<=b)/\b≠X.env.locals/\(∀x c,X.env.cells.lookup x=some c->c≠b)/\∀p∈X.pn++pins,p.1≠b):Inv X pins σ H' s':=by
 obtain⟨h',g',d',t',o'⟩:=s';have e:o'=s.os:=ho;subst e;exact I.call (g':=g') (t':=t') (d':=d') u hok hg hch
end
abbrev XK:=Value->Option Addr->Hp->Prop
abbrev St:=List (Option V)
abbrev VK:=V->Hp->Prop
abbrev TE:=St->Hp->VK->Prop
abbrev TT:=St->Hp->(Bool->Hp->Prop)->Prop
abbrev TA:=St->Hp->(List V->Hp->Prop)->Prop
structure Ends where
 nx:St->Hp->Prop
 rt:VK
 bk:St->Hp->Prop:=λ_ _=>False
 ct:St->Hp->Prop:=λ_ _=>False
abbrev TS:=Ends->St->Hp->Prop
def EP(X:Cx)(pins:List (Addr×Obj))(σ:St)(Q:VK)(u:Value)(s':Shared):Prop:=∃v H',Inv X pins σ H' s'/\RelV v u/\Q v H'
def TP(X:Cx)(pins:List (Addr×Obj))(σ:St)(Q:Bool->Hp->Prop)(b:Bool)(s':Shared):Prop:=∃H',Inv X pins σ H' s'/\Q b H'
def AP(X:Cx)(pins:List (Addr×Obj))(σ:St)(Q:List V->Hp->Prop)(us:List Value)(s':Shared):Prop:=∃vs H',Inv X pins σ H' s'/\A5 vs us/\Q vs H'
def SP(X:Cx)(pins:List (Addr×Obj))(D:Ends)(f:Flow)(s':Shared):Prop :=
 match f with
 |.next=>∃σ' H',Inv X pins σ' H' s'/\D.nx σ' H'
 |.brk=>∃σ' H',Inv X pins σ' H' s'/\D.bk σ' H'
 |.cont=>∃σ' H',Inv X pins σ' H' s'/\D.ct σ' H'
 |.ret u=>∃v σ' H',Inv X pins σ' H' s'/\RelV v u/\D.rt v H'
def PE(X:Cx)(e:Expr)(t:TE):Prop :=
 ∀(pins:List (Addr×Obj)) (s:Shared) (σ:St) (H:Hp) (Q:VK),Inv X pins σ H s->t σ H Q->wpAny (model X.prog X.w) X.A (eval e X.env) (EP X pins σ Q) X.xe s
def PT(X:Cx)(e:Expr)(t:TT):Prop :=
 ∀(pins:List (Addr×Obj)) (s:Shared) (σ:St) (H:Hp) (Q:Bool->Hp->Prop),Inv X pins σ H s->t σ H Q->wpAny (model X.prog X.w) X.A (isTrue e X.env (eval e X.env)) (TP X pins σ Q) X.xe s
def PW(X:Cx)(e:Expr)(t:TT):Prop :=
 ∀(whole:Sem Value) (pins:List (Addr×Obj)) (s:Shared) (σ:St) (H:Hp) (Q:Bool->Hp->Prop),Inv X pins σ H s->t σ H Q->wpAny (model X.prog X.w) X.A (isTrue e X.env whole) (TP X pins σ Q) X.xe s
variable {e:Expr}
theorem PW.pt{t:TT}(h:PW X e t):PT X e t:=h _
def PA(X:Cx)(es:List Expr)(t:TA):Prop :=
 ∀(pos:Pos) (pins:List (Addr×Obj)) (s:Shared) (σ:St) (H:Hp) (Q:List V->Hp->Prop),Inv X pins σ H s->t σ H Q->wpAny (model X.prog X.w) X.A (spliced (backTo pos (starEach es X.env))) (AP X pins σ Q) X.xe s
def PS(X:Cx)(st:Stmt)(t:TS):Prop :=
 ∀(pins:List (Addr×Obj)) (s:Shared) (σ:St) (H:Hp) (D:Ends),Inv X pins σ H s->t D σ H->wpAny (model X.prog X.w) X.A (exec st X.env) (SP X pins D) X.xe s
def BE(X:Cx)(st:List Stmt)(t:TS):Prop :=
 ∀(pins:List (Addr×Obj)) (s:Shared) (σ:St) (H:Hp) (D:Ends),Inv X pins σ H s->t D σ H->wpAny (model X.prog X.w) X.A (execs st X.env) (SP X pins D) X.xe s
theorem AS{α:Type}{t:Sem α}{Q Q':α->Shared->Prop}{M:Model}(h:wpAny M A t Q E s)(hQ:∀a s,Q a s->Q' a s):wpAny M A t Q' E s:=yeh h hQ λ_ _ x=>x
variable {pos:Pos}{σ:St}{Q:Value->Shared->Prop}{ta:TE}
section
def KO(i:Nat):TE:=λσ H Q=>∃v,σ[i]?=some (some v)/\Q v H
def tC(v:V):TE:=λ_ H Q=>Q v H
theorem Gp(hN:X.N[i]?=some x)(hv:DT X.env.scope x)(hd:(x == ("__debug__":Str))=false:=by decide)(hcd:(x == ("__classdict__":Str))=false:=by decide):PE X (.Name x pos) (KO i):=by
 intro pins s σ H Q I h;obtain⟨v,e,h⟩:=h;obtain⟨m,hn,hl⟩:=I.loc;obtain⟨u,r,l⟩:=hl i x v hN e hv;have As:EP X pins σ Q u s:=⟨v,H,I,r,h⟩
 rcases l with ⟨hk,hm⟩|⟨hk,c,hc,hcell⟩
 .exact wpAny_Name (wpAny_loadName_local I.ok.kind hk hn hm As) hd
 .rcases hk with hk|hk
  .exact wpAny_Name (wpAny_loadName_cell I.ok.kind hk hc hcell As) hd
  .exact wpAny_Name (wpAny_loadName_free I.ok.kind hk hc hcell As hcd) hd
theorem VF{i j pos}:PE X (.Constant (.int i) j pos) (tC (.int i)):=λ_ _ _ H _ I h=>wpAny_Constant_int ⟨.int i,H,I.tok _,⟨_,rfl⟩,h⟩
theorem VI{b j pos}:PE X (.Constant (.bool b) j pos) (tC (.bl b)):=λ_ _ _ H _ I h=>Constant_bool ⟨.bl b,H,I,rfl,h⟩
theorem zmm{j pos}:PE X (.Constant .none j pos) (tC .non):=λ_ _ _ H _ I h=>Constant_none ⟨.non,H,I,rfl,h⟩
theorem VC{x j pos}:PE X (.Constant (.str x) j pos) (tC (.str x)):=λ_ _ _ H _ I h=>Calls.Constant_str ⟨.str x,H,I.tok _,⟨_,rfl⟩,h⟩
def Gl(X:Cx)(x:Str):Prop:=X.env.kindOf x=some .globalImplicit
theorem Ho(I:Inv X pins σ H s)(hg:Gl X x)(hm:X.mg x=some u)(h:Q u s)(hd:(x == ("__debug__":Str))=false:=by decide):wpAny (model X.prog X.w) X.A (eval (.Name x pos) X.env) Q E s :=
 Calls.Name_function_global I.ok.kind hg (Calls.loadGlobal_global (by rw[I.ok.glob];exact I.mod.glob.keeps I.bk) hm h) hd
theorem GD(I:Inv X pins σ H s)(hg:Gl X x)(hm:X.mg x=none)(hv:bootBuiltins x=some u)(h:Q u s)(hn:x≠"__name__":=by decide)(hd:(x == ("__debug__":Str))=false:=by decide):wpAny (model X.prog X.w) X.A (eval (.Name x pos) X.env) Q E s:=by
 obtain⟨mb,h1,h2⟩:=I.mod.blt;exact Calls.Name_function_global I.ok.kind hg (Calls.loadGlobal_builtin (by rw[I.ok.glob];exact I.mod.glob.keeps I.bk) hm (by rw[I.ok.blt];exact h1.keeps I.bk) ((h2 x hn).trans hv) h) hd
theorem O9(hg:Gl X x)(hm:X.mg x=some u)(r:RelV v u)(hd:(x == ("__debug__":Str))=false:=by decide):PE X (.Name x pos) (tC v) :=
 λ_ _ _ H _ I h=>Ho I hg hm ⟨v,H,I,r,h⟩ hd
theorem Oa(hg:Gl X x)(hm:X.mg x=none)(hv:bootBuiltins x=some u)(r:RelV v u)(hn:x≠"__name__":=by decide)(hd:(x == ("__debug__":Str))=false:=by decide):PE X (.Name x pos) (tC v) :=
 λ_ _ _ H _ I h=>GD I hg hm hv ⟨v,H,I,r,h⟩ hn hd
variable {a b:Expr}{tb:TE}
def tB(t:TE):TT:=λσ H Q=>t σ H λx H1=>∃c,x=.bl c/\Q c H1
theorem zm5{t:TE}(h:PE X e t)(he:∀whole,isTrue e X.env whole=(do let v <- whole;standAt e.pos;holding [v] (truthy v)):=by intro _;rfl):PT X e (tB t):=by
 intro pins s σ H Q I hw;refine isTrue_plain (AS (h pins s σ H _ I hw) λv s1 ⟨x,H1,I1,r1,q1⟩=>?_) (he _)
 obtain⟨d,rfl,q⟩:=q1;cases r1;exact yei ⟨H1,I1,q⟩
variable {tA tB':TT}{rest:List Expr}
def tAnd(t u:TT):TT:=λσ H Q=>t σ H λc H1=>if c=true then u σ H1 Q else Q false H1
def tOr(t u:TT):TT:=λσ H Q=>t σ H λc H1=>if c=true then Q true H1 else u σ H1 Q
def T3(t:TT):TT:=λσ H Q=>t σ H λc H1=>Q (!c) H1
theorem zie(ha:PT X a tA):PW X (.BoolOp .And [a] pos) tA:=by
 intro wh pins s σ H Q I h;refine isTrue_and (AS (ha pins s σ H Q I h) λc s1 e=>?_)
 cases c with
 |true=>exact isTrue_and_nil e
 |false=>exact e
theorem zm3(ha:PT X a tA):PW X (.BoolOp .Or [a] pos) tA:=by
 intro wh pins s σ H Q I h;refine isTrue_or (AS (ha pins s σ H Q I h) λc s1 e=>?_)
 cases c with
 |false=>exact isTrue_or_nil e
 |true=>exact e
theorem zm4(ha:PT X a tA)(hb:PW X (.BoolOp .And (b::rest) pos) tB'):PW X (.BoolOp .And (a::b::rest) pos) (tAnd tA tB'):=by
 intro wh pins s σ H Q I h;refine isTrue_and (AS (ha pins s σ H _ I h) λc s1 ⟨H1,I1,q1⟩=>?_)
 cases c with
 |true=>exact hb wh pins s1 σ H1 Q I1 q1
 |false=>exact⟨H1,I1,q1⟩
theorem pw_or(ha:PT X a tA)(hb:PW X (.BoolOp .Or (b::rest) pos) tB'):PW X (.BoolOp .Or (a::b::rest) pos) (tOr tA tB'):=by
 intro wh pins s σ H Q I h;refine isTrue_or (AS (ha pins s σ H _ I h) λc s1 ⟨H1,I1,q1⟩=>?_)
 cases c with
 |true=>exact⟨H1,I1,q1⟩
 |false=>exact hb wh pins s1 σ H1 Q I1 q1
theorem zm6(ha:PT X a tA):PT X (.UnaryOp .Not a pos) (T3 tA):=by
 intro pins s σ H Q I h;exact isTrue_not (ha pins s σ H (λc H1=>Q (!c) H1) I h)
def tAndV(ta tb:TE):TE:=λσ H Q=>ta σ H λx H1=>∃c,x=.bl c/\if c=true then tb σ H1 Q else Q (.bl false) H1
def tOrV(ta tb:TE):TE:=λσ H Q=>ta σ H λx H1=>∃c,x=.bl c/\if c=true then Q (.bl true) H1 else tb σ H1 Q
def TZ(ta:TE):TE:=λσ H Q=>ta σ H λx H1=>∃c,x=.bl c/\Q (.bl (!c)) H1
theorem zmk{op}{t:TE}(h:PE X a t):PE X (.BoolOp op [a] pos) t:=λpins s σ H Q I hw=>BoolOp_one (h pins s σ H Q I hw)
theorem zmp(ha:PE X a ta)(hb:PE X (.BoolOp .And (b::rest) pos) tb):PE X (.BoolOp .And (a::b::rest) pos) (tAndV ta tb):=by
 intro pins s σ H Q I h;refine BoolOp_and (AS (ha pins s σ H _ I h) λv s1 ⟨x,H1,I1,r1,q1⟩=>?_)
 obtain⟨c,rfl,q1⟩:=q1;cases r1;refine yei ?_;cases c with
 |true=>exact hb pins s1 σ H1 Q I1 q1
 |false=>exact⟨.bl false,H1,I1,rfl,q1⟩
theorem pe_or(ha:PE X a ta)(hb:PE X (.BoolOp .Or (b::rest) pos) tb):PE X (.BoolOp .Or (a::b::rest) pos) (tOrV ta tb):=by
 intro pins s σ H Q I h;refine BoolOp_or (AS (ha pins s σ H _ I h) λv s1 ⟨x,H1,I1,r1,q1⟩=>?_)
 obtain⟨c,rfl,q1⟩:=q1;cases r1;refine yei ?_;cases c with
 |false=>exact hb pins s1 σ H1 Q I1 q1
 |true=>exact⟨.bl true,H1,I1,rfl,q1⟩
theorem zml(ha:PE X a ta):PE X (.UnaryOp .Not a pos) (TZ ta):=by
 intro pins s σ H Q I h;refine UnaryOp_ (AS (ha pins s σ H _ I h) λv s1 ⟨x,H1,I1,r1,q1⟩=>?_)
 obtain⟨c,rfl,q1⟩:=q1;cases r1;exact not_of (yei ⟨.bl (!c),H1,I1,rfl,q1⟩)
def tIf(t:TT)(ta tb:TE):TE:=λσ H Q=>t σ H λc H1=>if c=true then ta σ H1 Q else tb σ H1 Q
theorem zga{c:Expr}(hc:PT X c tA)(ha:PE X a ta)(hb:PE X b tb):PE X (.IfExp c a b pos) (tIf tA ta tb):=by
 intro pins s σ H Q I h;refine wpAny_IfExp (AS (hc pins s σ H _ I h) λd s1 ⟨H1,I1,q1⟩=>?_)
 cases d with
 |true=>exact ha pins s1 σ H1 Q I1 q1
 |false=>exact hb pins s1 σ H1 Q I1 q1
end
def AY(K:kA)(H:Hp)(a:Addr)(xs:List V):Prop :=
 Rd H a (.lst xs) \/
  ∃(o:Obj) (its:Array Value) (n:Nat),K.lookup a=some o/\o.cls=.type "list"/\o.dict=none/\o.data=.seq its n/\its.size<=sizeLine/\A5 xs its.toList
def Bg(K:kA)(H:Hp)(a:Addr)(xs:List V):Prop :=
 Rd H a (.tup xs) \/
  ∃(o:Obj) (its:Array Value) (n:Nat),K.lookup a=some o/\o.cls=.type "tuple"/\o.data=.seq its n/\its.size<=sizeLine/\A5 xs its.toList
noncomputable def absV:Value->Option V
 |.none=>some .non
 |.bool b=>some (.bl b)
 |.int i _=>some (.int i)
 |.str x _=>some (.str x)
 |.bytes b _=>some (.byt b)
 |.float b _=>some (.flt b)
 |.ref a=>some (.ref a)
 |.type n=>some (.ty n)
 |_=>none
theorem RelV.abs{x:V}(r:RelV x u):absV u=some x:=by
 cases x with
 |non=>cases r;rfl
 |bl _=>cases r;rfl
 |int _=>obtain⟨t,rfl⟩:=r;rfl
 |str _=>obtain⟨t,rfl⟩:=r;rfl
 |byt _=>obtain⟨t,rfl⟩:=r;rfl
 |flt _=>obtain⟨t,rfl⟩:=r;rfl
 |ref _=>cases r;rfl
 |ty _=>cases r;rfl
theorem RelV.inj{x y:V}{u:Value}(r:RelV x u)(q:RelV y u):x=y:=yau (r.abs.symm.trans q.abs)
theorem A5.inj:∀{xs ys:List V} {us:List Value},A5 xs us->A5 ys us->xs=ys
 |_,_,_,.nil,.nil=>rfl
 |_,_,_,.cons r t,.cons r' t'=>by rw[r.inj r',A5.inj t t']
variable {xs:List V}
section
variable {ys:List V}
theorem AY.of{K:kA}(h:H a=some (.lst xs)):AY K H a xs:=.inl (.inl h)
theorem Bg.of{K:kA}(h:H a=some (.tup xs)):Bg K H a xs:=.inl (.inl h)
theorem Inv.list(I:Inv X pins σ H s)(h:AY X.K H a xs):∃its:List Value,A5 xs its/\PlainL s.heap a its.toArray/\xs.length<=sizeLine:=by
 rcases h with h|⟨o,its,n,hk,hc,hd,hs,hz,r⟩
 .obtain⟨z,its,n,r,e⟩:=h.ok I.hok;exact⟨its,r,⟨_,n,e,rfl,rfl,rfl⟩,z⟩
 .refine⟨its.toList,r,⟨o,n,I.kIn a o hk,hc,hd,by simpa using hs⟩,?_⟩
  have e:=r.length;simp only[ycz]at e
  omega
theorem Inv.tuple(I:Inv X pins σ H s)(h:Bg X.K H a xs):∃its:List Value,A5 xs its/\IsTup s.heap a its.toArray/\xs.length<=sizeLine:=by
 rcases h with h|⟨o,its,n,hk,hc,hs,hz,r⟩
 .obtain⟨z,its,r,p⟩:=h.ok I.hok;exact⟨its,r,p,z⟩
 .refine⟨its.toList,r,⟨o,I.kIn a o hk,hc,n,by simpa using hs⟩,?_⟩
  have e:=r.length;simp only[ycz]at e
  omega
theorem Inv.list_inj(I:Inv X pins σ H s)(h:AY X.K H a xs)(h':AY X.K H a ys):xs=ys:=by
 obtain⟨its,r,⟨o,n,e,_,_,d⟩,_⟩:=I.list h;obtain⟨its',r',⟨o',n',e',_,_,d'⟩,_⟩:=I.list h';rw[e]at e';cases e';rw[d]at d';injection d' with d1 _
 have:its=its':=by simpa using congrArg Array.toList d1
 subst this;exact r.inj r'
theorem Inv.tuple_inj(I:Inv X pins σ H s)(h:Bg X.K H a xs)(h':Bg X.K H a ys):xs=ys:=by
 obtain⟨its,r,⟨o,e,_,n,d⟩,_⟩:=I.tuple h;obtain⟨its',r',⟨o',e',_,n',d'⟩,_⟩:=I.tuple h';rw[e]at e';cases e';rw[d]at d';injection d' with d1 _
 have:its=its':=by simpa using congrArg Array.toList d1
 subst this;exact r.inj r'
end
section
end
variable {te:TE}
section
variable {st:Stmt}{rest:List Stmt}{t u:TS}
def T5:TS:=λD σ H=>D.nx σ H
def TX(t u:TS):TS:=λD σ H=>t { D with nx:=u D } σ H
theorem zii:BE X [] T5:=λ_ _ σ H _ I h=>yej ⟨σ,H,I,h⟩
theorem zg4(h1:PS X st t)(h2:BE X rest u):BE X (st::rest) (TX t u):=by
 intro pins s σ H D I h;refine wpAny_execs_cons (AS (h1 pins s σ H { D with nx:=u D } I h) λf s1 q=>?_)
 cases f with
 |next =>
  obtain⟨σ',H',I',q⟩:=q;exact h2 pins s1 σ' H' D I' q
 |ret v=>exact q
 |brk=>exact q
 |cont=>exact q
theorem Uv(h1:PS X st t):BE X [st] t:=by
 intro pins s σ H D I h;refine wpAny_execs_cons (AS (h1 pins s σ H D I h) λf s1 q=>?_)
 cases f with
 |next=>exact yej q
 |ret v=>exact q
 |brk=>exact q
 |cont=>exact q
def zld:TS:=λD σ H=>D.bk σ H
def tCont:TS:=λD σ H=>D.ct σ H
theorem zik:PS X (.Pass pos) T5:=λ_ _ σ H _ I h=>wpAny_Pass ⟨σ,H,I,h⟩
theorem zg6:PS X (.Break pos) zld:=λ_ _ σ H _ I h=>wpAny_Break ⟨σ,H,I,h⟩
theorem zcp:PS X (.Continue pos) tCont:=λ_ _ σ H _ I h=>wpAny_Continue ⟨σ,H,I,h⟩
theorem Inv.quiet(I:Inv X pins σ H s):interactive X.env=false:=by simp[interactive,I.ok.kind]
def tDrop(te:TE):TS:=λD σ H=>te σ H λ_ H1=>D.nx σ H1
theorem O5(he:PE X e te)(hs:swapsWith e none pos.line X.env=pure false:=by rfl):PS X (.Expr e pos) (tDrop te):=by
 intro pins s σ H D I h;exact wpAny_Expr_any (AS (he pins s σ H _ I h) λv s1 ⟨x,H1,I1,r1,q1⟩=>⟨σ,H1,I1,q1⟩) I.quiet hs
def tRet(te:TE):TS:=λD σ H=>te σ H D.rt
theorem zm8(he:PE X e te):PS X (.Return (some e) pos) (tRet te):=by
 intro pins s σ H D I h;exact wpAny_Return_some (AS (he pins s σ H _ I h) λv s1 ⟨x,H1,I1,r1,q1⟩=>⟨x,σ,H1,I1,r1,q1⟩)
def tRetN:TS:=λD _ H=>D.rt .non H
theorem zij:PS X (.Return none pos) tRetN:=λ_ _ σ H _ I h=>wpAny_Return_none ⟨.non,σ,H,I,rfl,h⟩
def tIfS(c:TT)(t u:TS):TS:=λD σ H=>c σ H λb H1=>if b=true then t D σ H1 else u D σ H1
theorem ps_if{c:Expr}{a b:List Stmt}{tc:TT}(hc:PT X c tc)(ha:BE X a t)(hb:BE X b u):PS X (.If c a b pos) (tIfS tc t u):=by
 intro pins s σ H D I h;refine wpAny_If (AS (hc pins s σ H _ I h) λd s1 ⟨H1,I1,q1⟩=>?_)
 cases d with
 |true=>exact ha pins s1 σ H1 D I1 q1
 |false=>exact hb pins s1 σ H1 D I1 q1
end
abbrev TG:=V->St->Hp->(St->Hp->Prop)->Prop
abbrev Et:=List V->St->Hp->(St->Hp->Prop)->Prop
def PG(X:Cx)(target:Expr)(t:TG):Prop :=
 ∀(pins:List (Addr×Obj)) (s:Shared) (σ:St) (H:Hp) (v:V) (u:Value) (Q:St->Hp->Prop),Inv X pins σ H s->RelV v u->t v σ H Q ->
  wpAny (model X.prog X.w) X.A (assign target X.env u) (λ_ s'=>∃σ' H',Inv X pins σ' H' s'/\Q σ' H') X.xe s
def DV(X:Cx)(ts:List Expr)(t:Et):Prop :=
 ∀(pins:List (Addr×Obj)) (s:Shared) (σ:St) (H:Hp) (vs:List V) (us:List Value) (Q:St->Hp->Prop),Inv X pins σ H s->A5 vs us->t vs σ H Q ->
  wpAny (model X.prog X.w) X.A (assignInOrder ((assignEach ts X.env).map (·.2)) us) (λ_ s'=>∃σ' H',Inv X pins σ' H' s'/\Q σ' H') X.xe s
abbrev MX:=V->V->V->Hp->(Hp->Prop)->Prop
def SQ(X:Cx)(t:MX):Prop :=
 ∀(pins:List (Addr×Obj)) (s:Shared) (σ:St) (H:Hp) (o i v:V) (ov iv u:Value) (Q:Hp->Prop),Inv X pins σ H s->RelV o ov->RelV i iv->RelV v u->t o i v H Q ->
  wpAny (model X.prog X.w) X.A (setItem ov iv u) (λ_ s'=>∃H',Inv X pins σ H' s'/\Q H') X.xe s
variable {es:List Expr}{n:Nat}{o tg:Expr}
section
def Hv(i:Nat):TG:=λv σ H Q=>Q (σ.set i (some v)) H
theorem VB(hN:X.N.Nodup)(hi:X.N[i]?=some x)(hx:GY X.env.scope x)(hf:X.fn x=true\/X.env.scope.names.lookup x=some .local:=by first|exact .inl rfl|exact .inr rfl|assumption):PG X (.Name x pos) (Hv i):=by
 intro pins s σ H v u Q I r h;exact wpAny_assign_Name (NU I hN hi hx r (λs' I'=>⟨_,H,I',h⟩) hf)
def gNil:Et:=λvs σ H Q=>vs=[]/\Q σ H
def gCons(t:TG)(u:Et):Et:=λvs σ H Q=>∃v r,vs=v::r/\t v σ H λσ' H'=>u r σ' H' Q
theorem zit:DV X [] gNil:=by
 intro pins s σ H vs us Q I r h;obtain⟨e,h⟩:=h;subst e;cases r;exact assignInOrder_nil ⟨σ,H,I,h⟩
theorem zg9{t:TG}{u:Et}(h1:PG X e t)(h2:DV X es u)(hs:(assignEach (e::es) X.env).map (·.2)=assign e X.env::(assignEach es X.env).map (·.2):=by rfl):DV X (e::es) (gCons t u):=by
 intro pins s σ H vs us Q I r h;obtain⟨v,vr,e1,h⟩:=h;subst e1;cases r with
 |cons r rr =>
  rw[hs];refine assignInOrder_cons (AS (h1 pins s σ H _ _ _ I r h) λ_ s1 ⟨σ1,H1,I1,q1⟩=>?_)
  exact h2 pins s1 σ1 H1 _ _ Q I1 rr q1
def Q3(K:kA)(n:Nat)(t:Et):TG:=λv σ H Q=>∃a xs,v=.ref a/\Bg K H a xs/\xs.length=n/\t xs σ H Q
theorem zmh{k:Nat}{t:Et}(hc:X.calm=true)(h:DV X es t)(hn:(assignEach es X.env).length=n:=by rfl)(hst:(assignEach es X.env).findIdx? (·.1)=none:=by rfl):PG X (.Tuple es k pos) (Q3 X.K n t):=by
 intro pins s σ H v u Q I r hw;obtain⟨a,xs,e1,hq,hl,hw⟩:=hw;subst e1;cases r;obtain⟨its,rv,ht,hz⟩:=I.tuple hq;refine assign_Tuple_tuple (I.ok.hd hc) ht (by simp[hn,<- hl,rv.length]) hst λh' hx=>?_
 have I1:Inv X pins σ H { s with heap:=h' }:=I.kept (t':=s.toks) λb o e=>hx b o (yar (yah e)) e
 exact h pins _ σ H xs _ Q I1 (by simpa using rv) hw
def gSub(to ti:TE)(t:MX):TG:=λv σ H Q=>to σ H λo H1=>ti σ H1 λi H2=>t o i v H2 λH3=>Q σ H3
theorem VA{i:Expr}{to ti:TE}{t:MX}(ho:PE X o to)(hi:PE X i ti)(hs:SQ X t)(ha:∀v,assign (.Subscript o i pos) X.env v=(do
   let ov <- holding [v] (eval o X.env);let iv <- holding [v,ov] (eval i X.env)
   standAt pos
   holding [v,ov,iv] (setItem ov iv v)
   release [v,ov,iv] []):=by intro _;rfl):PG X (.Subscript o i pos) (gSub to ti t):=by
 intro pins s σ H v u Q I r h;rw[ha];refine yek (yel (AS (ho pins s σ H _ I h) λov s1 ⟨x,H1,I1,r1,q1⟩=>?_))
 refine yek (yel (AS (hi pins s1 σ H1 _ I1 q1) λiv s2 ⟨y,H2,I2,r2,q2⟩=>?_))
 refine yek (yem (yek (yel (AS (hs pins s2 σ H2 x y v ov iv u _ I2 r1 r2 r q2) λ_ s3 ⟨H3,I3,q3⟩=>?_))))
 exact wpAny_release ⟨σ,H3,I3,q3⟩
def KS(te:TE)(g:TG):TS:=λD σ H=>te σ H λx H1=>g x σ H1 D.nx
theorem O6{g:TG}(he:PE X e te)(hg:PG X tg g)(hs:swapsWithSole [tg] e pos.line X.env=pure false:=by rfl)(hw:swappedStores [tg] e X.env=pure none:=by rfl)(h1:(assignEach [tg] X.env).map (·.2)=[assign tg X.env]:=by rfl):PS X (.Assign [tg] e pos) (KS te g):=by
 intro pins s σ H D I h;refine wpAny_Assign_stores (AS (he pins s σ H _ I h) λv s1 ⟨x,H1,I1,r1,q1⟩=>?_) hs hw
 rw[h1];exact AS (hg pins s1 σ H1 x v _ I1 r1 q1) λ_ s2 q=>q
theorem O4{pos':Pos}(hN:X.N.Nodup)(hi:X.N[i]?=some x)(hx:GY X.env.scope x)(he:PE X e te)(hs:swapsWith e (some (.Name x pos')) pos.line X.env=pure false:=by rfl)(hf:X.fn x=true\/X.env.scope.names.lookup x=some .local:=by first|exact .inl rfl|exact .inr rfl|assumption) :
  PS X (.Assign [.Name x pos'] e pos) (KS te (Hv i)):=by
 intro pins s σ H D I h;refine wpAny_Assign_Name (AS (he pins s σ H _ I h) λv s1 ⟨y,H1,I1,r1,q1⟩=>?_) hs
 exact NU I1 hN hi hx r1 (λs2 I2=>⟨_,H1,I2,q1⟩) hf
end
section
end
structure It where
 go:Nat->Hp->Prop
 yld:Nat->Hp->V->Hp->Prop
 stop:Nat->Hp->Prop
def CT(X:Cx)(pins:List (Addr×Obj))(H:Hp)(b:Addr):Prop :=
 H b=none/\b≠X.env.locals/\b∉X.fs/\(b∈X.ex\/X.s₀.heap.objs.size<=b)/\(∀x c,X.env.cells.lookup x=some c->c≠b)/\∀p∈X.pn++pins,p.1≠b
theorem Inv.fpOk(I:Inv X pins σ H s)(hb:s.heap.objs.size<=b)(hn:H' b=none):CT X pins H' b:=by
 refine⟨hn,Nat.ne_of_gt (yam I.lt hb),I.nofs hb,.inr (yaw I.sz hb),λx c e z=>?_,λp hp z=>?_⟩
 .obtain⟨v,q⟩:=I.cell x c e;exact absurd (yam q.lt (by rw[z];exact hb)) (ybb _)
 .exact absurd (yam (yah (I.pin p hp).1) (by rw[z];exact hb)) (ybb _)
structure Turn(P:Program)(w:World)(K:kA)(tg:Expr)(J:It)(fp:List Addr)(it:Addr)(tn:Nat->Heap->Prop):Prop where
 mem:it∈fp
 obj:∀i h,tn i h->∀b∈fp,∃o,h.get? b=some o/\∀v,o.data≠.cell v
 keep:∀i h h',tn i h->(∀b∈fp,∀o,h.get? b=some o->h'.get? b=some o)->tn i h'
 item:∀(X:Cx),X.prog=P->X.w=w->X.K=K->X.calm=true->∀(i:Nat) (pins:List (Addr×Obj)) (s:Shared) (σ:St) (H:Hp) (E:Value->Shared->Prop),Inv X pins σ H s->(∀b∈fp,CT X pins H b)->tn i s.heap->J.go i H ->
  wpAny (model P w) X.A (pyNext (.ref it)) (λr s1=>∃u,r=some u /\
   wpAny (model P w) X.A (letOwnedTupleGo tg (.ref it) u) (λ_ s2=>∃x H',Inv X pins σ H' s2/\RelV x u/\J.yld i H x H'/\tn (i+1) s2.heap/\∀b∈fp,H' b=none) E s1) E s
 done:∀(X:Cx),X.prog=P->X.w=w->X.K=K->X.calm=true->∀(i:Nat) (pins:List (Addr×Obj)) (s:Shared) (σ:St) (H:Hp) (E:Value->Shared->Prop),Inv X pins σ H s->(∀b∈fp,CT X pins H b)->tn i s.heap->J.stop i H ->
  wpAny (model P w) X.A (pyNext (.ref it)) (λr s1=>r=none/\Inv X pins σ H s1) E s
 self:∀(A:Around) (i:Nat) (s:Shared) (Q:Value->Shared->Prop) (E:Value->Shared->Prop),tn i s.heap->Q (.ref it) s->wpAny (model P w) A (pyIter (.ref it)) Q E s
abbrev TI:=St->Hp->(It->Hp->Prop)->Prop
def Z8(X:Cx)(pins:List (Addr×Obj))(σ:St)(tg:Expr)(R:It->Hp->Prop)(itv:Value)(s2:Shared):Prop :=
 ∃(it:Addr) (fp:List Addr) (tn:Nat->Heap->Prop) (J:It) (H':Hp),itv=.ref it/\Inv X pins σ H' s2/\Turn X.prog X.w X.K tg J fp it tn/\tn 0 s2.heap/\(∀b∈fp,CT X pins H' b)/\R J H'
def PI(X:Cx)(tg iter:Expr)(wi:TI):Prop :=
 ∀(pins:List (Addr×Obj)) (s:Shared) (σ:St) (H:Hp) (R:It->Hp->Prop),Inv X pins σ H s->wi σ H R ->
  wpAny (model X.prog X.w) X.A (eval iter X.env) (λv s1=>wpAny (model X.prog X.w) X.A (pyIter v) (Z8 X pins σ tg R) X.xe s1) X.xe s
theorem JU{M:Model}{it:Addr}{o:Obj}{n:String}{vs:Array Value}{Q:Unit->Shared->Prop}(ho:s.heap.get? it=some o)(hc:o.cls=.type n)(hd:o.data=.fields vs)(hn:["enumerate","zip","dict_itemiterator","dict_reverseitemiterator","odict_iterator","itertools.zip_longest","itertools.pairwise"].contains n=false)(hQ:Q () s):wpAny M A (letOwnedTupleGo tg (.ref it) u) Q E s:=by
  unfold letOwnedTupleGo
  cases tg<;>first
    |exact yen hQ
    |(cases u<;>first
        |exact yen hQ
        | (refine yek (wpAny_load ho ?_)
           rw[hc,hd];show wpAny M A (if (["enumerate","zip","dict_itemiterator","dict_reverseitemiterator","odict_iterator","itertools.zip_longest","itertools.pairwise"].contains n && vs[0]? == some (rawInt _))=true then _ else _) Q E s
           rw[if_neg (by intro h;rw[hn,yd6]at h;cases h)]
           exact yen hQ))
def Mh(K:kA)(a:Addr):It :=
 ⟨λi H=>∃xs x,AY K H a xs/\xs[i]?=some x,λi H x H'=>H'=H/\∀xs,AY K H a xs->xs[i]?=some x,λi H=>∃xs,AY K H a xs/\xs.length<=i⟩
def SV(K:kA)(a:Addr):It :=
 ⟨λi H=>∃xs x,Bg K H a xs/\xs[i]?=some x,λi H x H'=>H'=H/\∀xs,Bg K H a xs->xs[i]?=some x,λi H=>∃xs,Bg K H a xs/\xs.length<=i⟩
def Mg(lo:Int)(n:Nat):It:=⟨λi _=>i<n,λi H x H'=>H'=H/\x=.int (lo+i),λi _=>n<=i⟩
theorem zdx{K:kA}(a it:Addr):Turn P w K tg (Mh K a) [it] it (λi h=>h.IsListIter it a i) where
 mem:=by simp
 obj:=λi h st b hb=>by
  have e:b=it:=by simpa using hb
  subst e;obtain⟨o,e,c,d⟩:=st;exact⟨o,e,λv z=>by rw[d]at z;cases z⟩
 keep:=λi h h' st k=>st.at λo e=>k it (by simp) o e
 item:=by
  intro X hP hw hK hc i pins s σ H E I hf st hg;subst hP hw hK;obtain⟨xs,x,hq,hx⟩:=hg;obtain⟨its,rv,p,hz⟩:=I.list hq;obtain⟨u,hu,ru⟩:=rv.get hx;obtain⟨f0,f1,f2,f3,f4,f5⟩:=hf it (by simp)
  refine wpAny_pyNext_list_item st p.isList (x:=u) (by simpa using hu) λh' st' sb=>?_
  have I1:Inv X pins σ H { s with heap:=h' }:=I.turned (t':=s.toks) (λb o hb e=>(sb.2 b hb).trans e) f0 f1 f3 f4 f5
  obtain⟨o,e,c,d⟩:=id st';exact⟨u,rfl,JU (s:={ s with heap:=h' }) e c d (by decide) ⟨x,H,I1,ru,⟨rfl,λys hy=>by rw[I.list_inj hy hq];exact hx⟩,st',λb hb=>(hf b hb).1⟩⟩
 done:=by
  intro X hP hw hK hc i pins s σ H E I hf st hg;subst hP hw hK;obtain⟨xs,hq,hx⟩:=hg;obtain⟨its,rv,p,hz⟩:=I.list hq;obtain⟨f0,f1,f2,f3,f4,f5⟩:=hf it (by simp)
  have hl:=rv.length;exact wpAny_pyNext_list_end (I.ok.hd hc) st p.isList (by simp;omega) λh' eb=>⟨rfl,I.turned (t':=s.toks) (λb o hb e=>eb b o hb e) f0 f1 f3 f4 f5⟩
 self:=λ_ _ _ _ _ st h=>wpAny_pyIter_listiter st h
theorem zd6{K:kA}(a it:Addr):Turn P w K tg (SV K a) [it] it (λi h=>h.IsTupleIter it a i) where
 mem:=by simp
 obj:=λi h st b hb=>by
  have e:b=it:=by simpa using hb
  subst e;obtain⟨o,e,c,d⟩:=st;exact⟨o,e,λv z=>by rw[d]at z;cases z⟩
 keep:=λi h h' st k=>st.at λo e=>k it (by simp) o e
 item:=by
  intro X hP hw hK hc i pins s σ H E I hf st hg;subst hP hw hK;obtain⟨xs,x,hq,hx⟩:=hg;obtain⟨its,rv,p,hz⟩:=I.tuple hq;obtain⟨u,hu,ru⟩:=rv.get hx;obtain⟨f0,f1,f2,f3,f4,f5⟩:=hf it (by simp)
  refine wpAny_pyNext_tuple_item st (show s.heap.IsTuple a its.toArray from p) (x:=u) (by simpa using hu) λh' st' sb=>?_
  have I1:Inv X pins σ H { s with heap:=h' }:=I.turned (t':=s.toks) (λb o hb e=>(sb.2 b hb).trans e) f0 f1 f3 f4 f5
  obtain⟨o,e,c,d⟩:=id st';exact⟨u,rfl,JU (s:={ s with heap:=h' }) e c d (by decide) ⟨x,H,I1,ru,⟨rfl,λys hy=>by rw[I.tuple_inj hy hq];exact hx⟩,st',λb hb=>(hf b hb).1⟩⟩
 done:=by
  intro X hP hw hK hc i pins s σ H E I hf st hg;subst hP hw hK;obtain⟨xs,hq,hx⟩:=hg;obtain⟨its,rv,p,hz⟩:=I.tuple hq;obtain⟨f0,f1,f2,f3,f4,f5⟩:=hf it (by simp)
  have hl:=rv.length;exact wpAny_pyNext_tuple_end (I.ok.hd hc) st (show s.heap.IsTuple a its.toArray from p) (by simp;omega) λh' eb=>⟨rfl,I.turned (t':=s.toks) (λb o hb e=>eb b o hb e) f0 f1 f3 f4 f5⟩
 self:=λ_ _ _ _ _ st h=>wpAny_pyIter_tupleiter st h
theorem zd7{K:kA}(it:Addr)(lo:Int)(n:Nat):Turn P w K tg (Mg lo n) [it] it (λi h=>IsRangeIter h it (lo+(i:Nat) * 1) ((n:Int) - (i:Nat)) 1) where
 mem:=by simp
 obj:=λi h st b hb=>by
  have e:b=it:=by simpa using hb
  subst e
  exact⟨_,st,λv z=>by
   have z':Data.fields _=Data.cell v:=z;cases z'⟩
 keep:=λi h h' st k=>k it (by simp) _ st
 item:=by
  intro X hP hw hK hc i pins s σ H E I hf st hg;subst hP hw hK;obtain⟨f0,f1,f2,f3,f4,f5⟩:=hf it (by simp)
  have W:=Walks.range (prog:=X.prog) (w:=X.w) (I.ok.hd hc) it lo 1 n;refine W.item i s _ _ hg st λv h' tk hv st' kk=>?_
  obtain⟨t,rfl⟩:=hv;have I1:Inv X pins σ H { s with heap:=h',toks:=tk }:=I.turned (λb o hb e=>kk b o (by simpa using hb) e) f0 f1 f3 f4 f5
  refine⟨_,rfl,JU (s:={ s with heap:=h',toks:=tk }) (n:="range_iterator") st' rfl rfl (by decide) ⟨.int (lo+i),H,I1,⟨t,?_⟩,⟨rfl,rfl⟩,st',λb hb=>(hf b hb).1⟩⟩
  rw[Int.mul_one]
 done:=by
  intro X hP hw hK hc i pins s σ H E I hf st hg;subst hP hw hK;obtain⟨f0,f1,f2,f3,f4,f5⟩:=hf it (by simp)
  exact wpAny_pyNext_range_end (I.ok.hd hc) st (by have:n<=i:=hg;omega) λh' eb=>⟨rfl,I.turned (t':=s.toks) (λb o hb e=>eb b o hb e) f0 f1 f3 f4 f5⟩
 self:=λ_ _ _ _ _ st h=>wpAny_pyIter_rangeiter st h
variable {fp:List Addr}
section
def XQ(K:kA)(tl:TE):TI:=λσ H R=>tl σ H λx H1=>∃a,x=.ref a/\(∃xs,AY K H1 a xs)/\R (Mh K a) H1
def iTup(K:kA)(tl:TE):TI:=λσ H R=>tl σ H λx H1=>∃a,x=.ref a/\(∃xs,Bg K H1 a xs)/\R (SV K a) H1
theorem zir{l:Expr}{tl:TE}(hl:PE X l tl):PI X tg l (XQ X.K tl):=by
 intro pins s σ H R I h;refine AS (hl pins s σ H _ I h) λv s1 ⟨x,H1,I1,r1,q1⟩=>?_
 obtain⟨a,e,⟨xs,hq⟩,q⟩:=q1;subst e;cases r1;obtain⟨its,rv,p,hz⟩:=I1.list hq;refine yeo p.isList ?_;refine⟨s1.heap.objs.size,[s1.heap.objs.size],_,_,H1,rfl,I1.kept (t':=s1.toks) λb o e=>ya8 _ e,zdx a _,⟨_,yal _ rfl,rfl,rfl⟩,λb hb=>?_,q⟩
 have e:b=s1.heap.objs.size:=by simpa using hb
 subst e;exact I1.fpOk (yac _) (I1.hok.fresh (yac _))
theorem zmf{l:Expr}{tl:TE}(hl:PE X l tl):PI X tg l (iTup X.K tl):=by
 intro pins s σ H R I h;refine AS (hl pins s σ H _ I h) λv s1 ⟨x,H1,I1,r1,q1⟩=>?_
 obtain⟨a,e,⟨xs,hq⟩,q⟩:=q1;subst e;cases r1;obtain⟨its,rv,p,hz⟩:=I1.tuple hq;refine wpAny_pyIter_tuple (show s1.heap.IsTuple a its.toArray from p) ?_;refine⟨s1.heap.objs.size,[s1.heap.objs.size],_,_,H1,rfl,I1.kept (t':=s1.toks) λb o e=>ya8 _ e,zd6 a _,⟨_,yal _ rfl,rfl,rfl⟩,λb hb=>?_,q⟩
 have e:b=s1.heap.objs.size:=by simpa using hb
 subst e;exact I1.fpOk (yac _) (I1.hok.fresh (yac _))
theorem zfy{R:It->Hp->Prop}{lo hi:Int}{t u v:Tok}{tk:Nat}(I:Inv X pins σ H s)(h1:-(2 ^ 62)<=lo)(h2:lo<2 ^ 62)(h3:-(2 ^ 62)<=hi)(h4:hi<2 ^ 62)(q:R (Mg lo (hi - lo).toNat) H):wpAny (model X.prog X.w) X.A (pyIter (.ref s.heap.objs.size)) (Z8 X pins σ tg R) E { s with heap:=s.heap.push { cls:=.type "range",data:=.fields #[.int lo t,.int hi u,.int 1 v] },toks:=tk }:=by
 refine wpAny_pyIter_range (IsRange.new ..) (small_one h1 h2 h3 h4) ?_;have I1:Inv X pins σ H { s with heap:=s.heap.push { cls:=.type "range",data:=.fields #[.int lo t,.int hi u,.int 1 v] },toks:=tk }:=I.kept λb o e=>ya8 _ e
 refine⟨(s.heap.push { cls:=.type "range",data:=.fields #[.int lo t,.int hi u,.int 1 v] }).objs.size,[(s.heap.push { cls:=.type "range",data:=.fields #[.int lo t,.int hi u,.int 1 v] }).objs.size],_,_,H,rfl,
  I1.kept (t':=tk) λb o e=>ya8 _ e,zd7 _ lo (hi - lo).toNat,?_,λb hb=>?_,q⟩
 .have e1:lo+((0:Nat):Int) * 1=lo:=by simp
  have e2:(((hi - lo).toNat:Nat):Int) - ((0:Nat):Int)=Builtin.Range.rangeSize lo hi 1:=by rw[rangeSize_one];split<;>omega
  show IsRangeIter _ _ (lo+((0:Nat):Int) * 1) ((((hi - lo).toNat:Nat):Int) - ((0:Nat):Int)) 1;rw[e1,e2];exact yal _ rfl
 .have e:b=(s.heap.push { cls:=.type "range",data:=.fields #[.int lo t,.int hi u,.int 1 v] }).objs.size:=by simpa using hb
  subst e;exact I1.fpOk (yac _) (I1.hok.fresh (yac _))
def iRng1(ta:TA):TI:=λσ H R=>ta σ H λvs H1=>∃j:Int,vs=[.int j]/\-(2 ^ 62)<=j/\j<2 ^ 62/\R (Mg 0 j.toNat) H1
theorem zea{a:Expr}{ta:TA}{p:Pos}(hg:Gl X "range")(hm:X.mg "range"=none)(ha:PA X [a] ta)(hs:starEach [a] X.env=[(false,eval a X.env)]:=by rfl):PI X tg (.Call (.Name "range" p) [a] [] pos) (iRng1 ta):=by
 intro pins s σ H R I h;refine Call_ (GD I hg hm boot_range (ybn (AS (ha pos pins s σ H _ I h) λus s1 ⟨vs,H1,I1,r1,q1⟩=>?_) hs rfl))
 obtain⟨j,e,q1,q2,q⟩:=q1;subst e;cases r1 with
 |cons r rr =>
  cases rr;obtain⟨t,rfl⟩:=r;exact call_range_1 (zfy I1 (by omega) (by omega) q1 q2 (by simpa using q))
def tFor(wi:TI)(g:TG)(tb:TS):TS:=λD σ H=>wi σ H λJ H1=>∃W:Nat->Nat->St->Hp->Prop,(∃m,W 0 m σ H1)/\∀i m σ H,W i m σ H ->
 (J.stop i H/\D.nx σ H)\/(J.go i H/\∃N:St->Hp->Prop,(∀σ' H',N σ' H'->∃m',m'<m/\W (i+1) m' σ' H')/\∀x H',J.yld i H x H'->g x σ H' λσ2 H2=>tb { D with nx:=N,ct:=N,bk:=D.nx } σ2 H2)
def Gn(fp:List Addr)(h:Heap):List (Addr×Obj):=fp.filterMap λb=>(h.get? b).map λo=>(b,o)
theorem Gu{o:Obj}(hb:b∈fp)(e:h.get? b=some o):(b,o)∈Gn fp h:=yc9.mpr ⟨b,hb,by rw[e];rfl⟩
theorem VU{p:Addr×Obj}(hp:p∈Gn fp h):p.1∈fp/\h.get? p.1=some p.2:=by
 obtain⟨b,hb,e⟩:=yc9.mp hp;cases q:h.get? b with
 |none=>rw[q]at e;cases e
 |some o =>
  rw[q]at e;have e':(b,o)=p:=yau e;subst e';exact⟨hb,q⟩
theorem Inv.pinned(I:Inv X pins σ H s)(hf:∀b∈fp,CT X pins H b)(ho:∀b∈fp,∃o,s.heap.get? b=some o/\∀v,o.data≠.cell v):Inv X (pins++Gn fp s.heap) σ H s :=
 I.pins_of λp hp=>(yax.mp hp).elim (λz=>I.pin p (yaq _ z)) λz=>by
  obtain⟨hb,e⟩:=VU z;obtain⟨f0,f1,f2,_⟩:=hf p.1 hb;obtain⟨o,e',d⟩:=ho p.1 hb;rw[e]at e';cases e';exact⟨e,f0,f1,f2,d⟩
theorem Inv.unpinned{pl:List (Addr×Obj)}(I:Inv X (pins++pl) σ H s):Inv X pins σ H s:=I.pins_of λp hp=>I.pin p (yaq _ (ybs _ hp))
theorem zm9{iter:Expr}{body:List Stmt}{wi:TI}{g:TG}{tb:TS}(hp:PassesOwn (model X.prog X.w) X.A X.env X.xe)(hc:X.calm=true)(hi:PI X tg iter wi)(hg:PG X tg g)(hb:BE X body tb)(hs:∀x,foldedSetIterable iter X.env x=pure x:=by intro _;rfl):PS X (.For tg iter body [] pos) (tFor wi g tb):=by
 intro pins s σ H D I h;refine wpAny_For (AS (hi pins s σ H _ I h) λv s1 h1=>AS h1 λitv s2 h2=>?_) hs
 obtain⟨it,fp,tn,J,H2,e,I2,T,st2,f2,W,⟨m0,w0⟩,turn⟩:=h2;subst e;have stat:∀{H':Hp},(∀b∈fp,H' b=none)->∀b∈fp,CT X pins H' b:=λhn b hb=>⟨hn b hb,(f2 b hb).2⟩
 refine codeAny_forLoop_any (λn s'=>∃i σ' H',Inv X pins σ' H' s'/\tn i s'.heap/\(∀b∈fp,H' b=none)/\W i n σ' H') ?_ m0 ⟨0,σ,H2,I2,st2,λb hb=>(f2 b hb).1,w0⟩
 rintro n s3 ⟨i,σ3,H3,I3,st3,fr3,w3⟩
 rcases turn i n σ3 H3 w3 with ⟨stop,qn⟩|⟨go,N,hN,step⟩
 .refine yep hp (AS (T.done X rfl rfl rfl hc i pins s3 σ3 H3 X.xe I3 (stat fr3) st3 stop) λr s4 ⟨hr,I4⟩=>?_)
  subst hr;exact yej ⟨σ3,H3,I4,qn⟩
 .refine yep hp (AS (T.item X rfl rfl rfl hc i pins s3 σ3 H3 X.xe I3 (stat fr3) st3 go) λr s4 ⟨u,hr,h4⟩=>?_)
  subst hr;refine yep hp (AS h4 λ_ s5 ⟨x,H5,I5,r5,y5,st5,fr5⟩=>?_)
  have I5':=I5.pinned (stat fr5) (T.obj _ _ st5);refine yep hp (AS (hg _ s5 σ3 H5 x u _ I5' r5 (step x H5 y5)) λ_ s6 ⟨σ6,H6,I6,q6⟩=>?_)
  refine yep hp (AS (hb _ s6 σ6 H6 _ I6 q6) λf s7 q7=>?_)
  have again:∀{σ7:St} {H7:Hp},Inv X (pins++Gn fp s5.heap) σ7 H7 s7->N σ7 H7->∃m,m<n/\∃i σ' H',Inv X pins σ' H' s7/\tn i s7.heap/\(∀b∈fp,H' b=none)/\W i m σ' H':=λ{σ7 H7} I7 n7=>by
   obtain⟨m',hm,w7⟩:=hN σ7 H7 n7;refine⟨m',hm,i+1,σ7,H7,I7.unpinned,T.keep _ _ _ st5 λb hb o e=>(I7.pin (b,o) (yaq _ (yaq _ (Gu hb e)))).1,λb hb=>?_,w7⟩
   obtain⟨o,e,d⟩:=T.obj _ _ st5 b hb;exact(I7.pin (b,o) (yaq _ (yaq _ (Gu hb e)))).2.1
  cases f with
  |next=>obtain⟨σ7,H7,I7,n7⟩:=q7;exact again I7 n7
  |cont=>obtain⟨σ7,H7,I7,n7⟩:=q7;exact again I7 n7
  |brk=>obtain⟨σ7,H7,I7,q7⟩:=q7;exact⟨σ7,H7,I7.unpinned,q7⟩
  |ret v=>obtain⟨x7,σ7,H7,I7,r7,q7⟩:=q7;exact⟨x7,σ7,H7,I7.unpinned,r7,q7⟩
end
abbrev R2:=V->V->Hp->VK->Prop
def A6(X:Cx)(f:Value->Value->Sem Value)(r:R2):Prop :=
 ∀(pins:List (Addr×Obj)) (s:Shared) (σ:St) (H:Hp) (x y:V) (v u:Value) (Q:VK),Inv X pins σ H s->RelV x v->RelV y u->r x y H Q ->
  wpAny (model X.prog X.w) X.A (f v u) (EP X pins σ Q) X.xe s
def J8(X:Cx)(f:Value->Sem Value)(r:V->Hp->VK->Prop):Prop :=
 ∀(pins:List (Addr×Obj)) (s:Shared) (σ:St) (H:Hp) (x:V) (v:Value) (Q:VK),Inv X pins σ H s->RelV x v->r x H Q ->
  wpAny (model X.prog X.w) X.A (f v) (EP X pins σ Q) X.xe s
def Bv(X:Cx)(f:Value)(r:List V->Hp->VK->Prop):Prop :=
 ∀(pins:List (Addr×Obj)) (s:Shared) (σ:St) (H:Hp) (xs:List V) (us:List Value) (Q:VK),Inv X pins σ H s->A5 xs us->r xs H Q ->
  wpAny (model X.prog X.w) X.A (call f us) (EP X pins σ Q) X.xe s
def Ha(r:R2)(ta tb:TE):TE:=λσ H Q=>ta σ H λx H1=>tb σ H1 λy H2=>r x y H2 Q
def TU(r:V->Hp->VK->Prop)(ta:TE):TE:=λσ H Q=>ta σ H λx H1=>r x H1 Q
def rI(C:Int->Int->Prop)(g:Int->Int->V):R2:=λx y H Q=>∃i j,x=.int i/\y=.int j/\C i j/\Q (g i j) H
def Ee(g:Int->Int->V):R2:=λx y H Q=>∃i j,x=.int i/\y=.int j/\Q (g i j) H
def rU(g:Int->V):V->Hp->VK->Prop:=λx H Q=>∃i,x=.int i/\Q (g i) H
variable {r:R2}
section
variable {a b c:Expr}{tb tc:TE}
theorem SF(ha:PE X a ta)(hb:PE X b tb){R:V->V->Hp->Prop}(I:Inv X pins σ H s)(h:ta σ H λx H1=>tb σ H1 λy H2=>R x y H2){f:Value->Value->Sem Value}(hf:∀v u s2 x y H2,Inv X pins σ H2 s2->RelV x v->RelV y u->R x y H2->wpAny (model X.prog X.w) X.A (f v u) Q X.xe s2) :
  wpAny (model X.prog X.w) X.A (eval a X.env) (λv s₁=>wpAny (model X.prog X.w) X.A (eval b X.env) (λu s₂=>wpAny (model X.prog X.w) X.A (f v u) Q X.xe s₂) X.xe s₁) X.xe s:=by
 refine AS (ha pins s σ H _ I h) λv s1 ⟨x,H1,I1,r1,q1⟩=>?_
 refine AS (hb pins s1 σ H1 _ I1 q1) λu s2 ⟨y,H2,I2,r2,q2⟩=>?_
 exact hf v u s2 x y H2 I2 r1 r2 q2
theorem pe_op{op:Operator}(ho:A6 X (binaryOp op) r)(ha:PE X a ta)(hb:PE X b tb):PE X (.BinOp a op b pos) (Ha r ta tb):=by
 intro pins s σ H Q I h;exact wpAny_BinOp (SF ha hb I h λv u s2 x y H2 I2 rx ry q=>ho pins s2 σ H2 x y v u Q I2 rx ry q)
theorem pe_un{op:UnaryOp}{r:V->Hp->VK->Prop}(ho:J8 X (unaryOp op) r)(ha:PE X a ta):PE X (.UnaryOp op a pos) (TU r ta):=by
 intro pins s σ H Q I h;exact UnaryOp_ (AS (ha pins s σ H _ I h) λv s1 ⟨x,H1,I1,r1,q1⟩=>ho pins s1 σ H1 x v Q I1 r1 q1)
theorem JC{f:Value->Value->Sem Value}{C:Int->Int->Prop}{g:Int->Int->Int}
  (rule:∀(i j:Int) (t u:Tok) (s:Shared) (Q:Value->Shared->Prop) (E:Value->Shared->Prop),C i j->Q (.int (g i j) s.toks) { s with toks:=s.toks+1 }->wpAny (model X.prog X.w) X.A (f (.int i t) (.int j u)) Q E s) :
  A6 X f (rI C λi j=>.int (g i j)):=by
 intro pins s σ H x y v u Q I rx ry h;obtain⟨i,j,rfl,rfl,hc,q⟩:=h;obtain⟨t,rfl⟩:=rx;obtain⟨t',rfl⟩:=ry;exact rule i j t t' s _ _ hc ⟨.int (g i j),H,I.tok _,⟨_,rfl⟩,q⟩
theorem VP{f:Value->Value->Sem Value}{g:Int->Int->Int}
  (rule:∀(i j:Int) (t u:Tok) (s:Shared) (Q:Value->Shared->Prop) (E:Value->Shared->Prop),Q (.int (g i j) s.toks) { s with toks:=s.toks+1 }->wpAny (model X.prog X.w) X.A (f (.int i t) (.int j u)) Q E s) :
  A6 X f (Ee λi j=>.int (g i j)):=by
 intro pins s σ H x y v u Q I rx ry h;obtain⟨i,j,rfl,rfl,q⟩:=h;obtain⟨t,rfl⟩:=rx;obtain⟨t',rfl⟩:=ry;exact rule i j t t' s _ _ ⟨.int (g i j),H,I.tok _,⟨_,rfl⟩,q⟩
theorem Kz{f:Value->Value->Sem Value}{g:Int->Int->Bool}
  (rule:∀(i j:Int) (t u:Tok) (s:Shared) (Q:Value->Shared->Prop) (E:Value->Shared->Prop),Q (.bool (g i j)) s->wpAny (model X.prog X.w) X.A (f (.int i t) (.int j u)) Q E s) :
  A6 X f (Ee λi j=>.bl (g i j)):=by
 intro pins s σ H x y v u Q I rx ry h;obtain⟨i,j,rfl,rfl,q⟩:=h;obtain⟨t,rfl⟩:=rx;obtain⟨t',rfl⟩:=ry;exact rule i j t t' s _ _ ⟨.bl (g i j),H,I,rfl,q⟩
def CPow(i j:Int):Prop:=0<=j/\j<=1000000/\i.natAbs<2 ^ 64
def S6(i j:Int):Prop:=(-(2 ^ 64)<i/\i<2 ^ 64)\/(-(2 ^ 64)<j/\j<2 ^ 64)
theorem S6.ok{i j:Int}(h:S6 i j):IntMulOk i j:=by
 rcases h with ⟨h1,h2⟩|⟨h1,h2⟩
 .exact .of_left (intBits_le_64 h1 h2)
 .exact .of_right (intBits_le_64 h1 h2)
theorem zmx:A6 X (binaryOp .Add) (Ee λi j=>.int (i+j)):=VP λ_ _ _ _ _ _ _ q=>add_int q
theorem zmr:A6 X (binaryOp .Sub) (Ee λi j=>.int (i - j)):=VP λ_ _ _ _ _ _ _ q=>sub_int q
theorem VM:A6 X (binaryOp .Mult) (rI S6 λi j=>.int (i * j)):=JC λ_ _ _ _ _ _ _ hc q=>mul_int q hc.ok
theorem zj4:A6 X (binaryOp .Mod) (rI (λ_ j=>j≠0) λi j=>.int (i.fmod j)):=JC λ_ _ _ _ _ _ _ hc q=>mod_int' hc q
theorem zmt:A6 X (binaryOp .Pow) (rI CPow λi j=>.int (i ^ j.toNat)):=JC λ_ _ _ _ _ _ _ hc q=>pow_int_small hc.1 hc.2.1 hc.2.2 q
theorem unI{f:Value->Sem Value}{g:Int->Int}
  (rule:∀(i:Int) (t:Tok) (s:Shared) (Q:Value->Shared->Prop) (E:Value->Shared->Prop),Q (.int (g i) s.toks) { s with toks:=s.toks+1 }->wpAny (model X.prog X.w) X.A (f (.int i t)) Q E s) :
  J8 X f (rU λi=>.int (g i)):=by
 intro pins s σ H x v Q I rx h;obtain⟨i,rfl,q⟩:=h;obtain⟨t,rfl⟩:=rx;exact rule i t s _ _ ⟨.int (g i),H,I.tok _,⟨_,rfl⟩,q⟩
theorem zl1:J8 X (unaryOp .USub) (rU λi=>.int (-i)):=unI λ_ _ _ _ _ q=>neg_int q
end
variable {op:CmpOp}{us:List Value}{y:V}
section
variable {a b c:Expr}{tb tc:TE}
theorem JY{Q:VK}{k k':Bool}(I:Inv X pins σ H s)(q:Q (.bl k) H)(e:k=k'):EP X pins σ Q (.bool k') s:=by
 subst e;exact⟨.bl k,H,I,rfl,q⟩
theorem op_lt:A6 X (compareOp .Lt) (Ee λi j=>.bl (decide (i<j))):=Kz λ_ _ _ _ _ _ _ q=>lt_int q
theorem VN:A6 X (compareOp .LtE) (Ee λi j=>.bl (decide (i<=j))):=Kz λ_ _ _ _ _ _ _ q=>le_int q
theorem op_gt:A6 X (compareOp .Gt) (Ee λi j=>.bl (decide (j<i))):=Kz λ_ _ _ _ _ _ _ q=>gt_int q
theorem op_ge:A6 X (compareOp .GtE) (Ee λi j=>.bl (decide (j<=i))):=Kz λ_ _ _ _ _ _ _ q=>ge_int q
theorem zeb:A6 X (compareOp .In) (λx y H Q=>∃i j,x=.str i/\y=.str j/\Q (.bl (!(Builtin.Str.occurrences j i 0 j.length 1).isEmpty)) H):=by
 intro pins s σ H x y v u Q I rx ry h;obtain⟨i,j,rfl,rfl,q⟩:=h;obtain⟨t,rfl⟩:=rx;obtain⟨t',rfl⟩:=ry;exact in_str (JY I q rfl)
theorem zmu:A6 X (compareOp .Is) (λx y H Q=>y=.non/\Q (.bl (decide (x=.non))) H):=by
 intro pins s σ H x y v u Q I rx ry h;obtain⟨rfl,q⟩:=h;cases ry;refine is_none_gen (JY I q ?_)
 cases x<;>first
  |(cases rx;rfl)
  |(obtain⟨t,rfl⟩:=rx;rfl)
theorem zj1:A6 X (compareOp .IsNot) (λx y H Q=>y=.non/\Q (.bl (!decide (x=.non))) H):=by
 intro pins s σ H x y v u Q I rx ry h;obtain⟨rfl,q⟩:=h;cases ry;refine isnot_none_gen (JY I q ?_)
 cases x<;>first
  |(cases rx;rfl)
  |(obtain⟨t,rfl⟩:=rx;rfl)
theorem ziy(ho:A6 X (compareOp op) r)(ha:PE X a ta)(hb:PE X b tb)(hm:behindInMarks op b=false):PE X (.Compare a [op] [b] pos) (Ha r ta tb):=by
 intro pins s σ H Q I h;exact wpAny_Compare1 (SF ha hb I h λv u s2 x y H2 I2 rx ry q=>ho pins s2 σ H2 x y v u Q I2 rx ry q) hm
def TV(t:TE):TT:=λσ H Q=>t σ H λx H'=>∃k,x=.bl k/\Q k H'
theorem zig(ho:A6 X (compareOp op) r)(ha:PE X a ta)(hb:PE X b tb)(hm:behindInMarks op b=false):PT X (.Compare a [op] [b] pos) (TV (Ha r ta tb)):=by
 intro pins s σ H Q I h
 refine wpAny_isTrue_Compare1 (AS (ha pins s σ H _ I h) λv s1 ⟨x,H1,I1,r1,q1⟩=>AS (hb pins s1 σ H1 _ I1 q1) λu s2 ⟨y,H2,I2,r2,q2⟩ =>
  AS (ho pins s2 σ H2 x y v u _ I2 r1 r2 q2) λc s3 ⟨z,H3,I3,r3,k,e,q3⟩=>?_) hm
 subst e;cases r3;exact yei ⟨H3,I3,q3⟩
def NR(r r':R2)(ta tb tc:TE):TE:=λσ H Q=>ta σ H λx H1=>tb σ H1 λy H2=>r x y H2 λz H3=>∃k,z=.bl k /\
 (if k=true then tc σ H3 λw' H4=>r' y w' H4 Q else Q (.bl false) H3)
theorem zgb{op':CmpOp}{r':R2}(ho:A6 X (compareOp op) r)(ho':A6 X (compareOp op') r')(ha:PE X a ta)(hb:PE X b tb)(hc:PE X c tc)(hm:lastMarks [op,op'] [b,c]=false:=by with_unfolding_all rfl):PE X (.Compare a [op,op'] [b,c] pos) (NR r r' ta tb tc):=by
 intro pins s σ H Q I h
 refine Compare_chain (AS (ha pins s σ H _ I h) λv s1 ⟨x,H1,I1,r1,q1⟩=>chain_link (AS (hb pins s1 σ H1 _ I1 q1) λu s2 ⟨y,H2,I2,r2,q2⟩ =>
  AS (ho pins s2 σ H2 x y v u _ I2 r1 r2 q2) λd s3 ⟨z,H3,I3,r3,k,e,q3⟩=>?_)) hm
 subst e;cases r3;refine yei ?_;cases k with
 |false=>exact ite_ff ⟨.bl false,H3,I3,rfl,q3⟩
 |true=>exact ite_tt (chain_last (AS (hc pins s3 σ H3 _ I3 q3) λw' s4 ⟨z',H4,I4,r4,q4⟩=>ho' pins s4 σ H4 y z' u w' Q I4 r2 r4 q4))
theorem zg3{op':CmpOp}{r':R2}(ho:A6 X (compareOp op) r)(ho':A6 X (compareOp op') r')(ha:PE X a ta)(hb:PE X b tb)(hc:PE X c tc)(hm:lastMarks [op,op'] [b,c]=false:=by with_unfolding_all rfl):PT X (.Compare a [op,op'] [b,c] pos) (TV (NR r r' ta tb tc)):=by
 intro pins s σ H Q I h
 refine isTrue_chain (AS (ha pins s σ H _ I h) λv s1 ⟨x,H1,I1,r1,q1⟩=>test_link (AS (hb pins s1 σ H1 _ I1 q1) λu s2 ⟨y,H2,I2,r2,q2⟩ =>
  AS (ho pins s2 σ H2 x y v u _ I2 r1 r2 q2) λd s3 ⟨z,H3,I3,r3,k,e,q3⟩=>?_)) hm
 subst e;cases r3;refine yei ?_;cases k with
 |false =>
  obtain⟨k',e',q'⟩:=q3;cases e';exact ite_ff ⟨H3,I3,q'⟩
 |true =>
  refine ite_tt (test_last (AS (hc pins s3 σ H3 _ I3 q3) λw' s4 ⟨z',H4,I4,r4,q4⟩=>AS (ho' pins s4 σ H4 y z' u w' _ I4 r2 r4 q4) λd' s5 ⟨z2,H5,I5,r5,k2,e2,q5⟩=>?_))
  subst e2;cases r5;exact yei ⟨H5,I5,q5⟩
theorem JK:(sizeLine:Nat)<2 ^ 63:=by rw[yeq];decide
theorem zdh:A6 X (binaryOp .Add) (λx y H Q=>∃i j,x=.str i/\y=.str j/\i.length+j.length<=sizeLine/\Q (.str (i++j)) H):=by
 intro pins s σ H x y v u Q I rx ry h;obtain⟨i,j,rfl,rfl,hz,q⟩:=h;obtain⟨t,rfl⟩:=rx;obtain⟨t',rfl⟩:=ry;exact add_str (λt' tk=>⟨.str (i++j),H,I.tok _,⟨_,rfl⟩,q⟩) hz
theorem E6{x:V}(r:A5 [x] us):∃u,us=[u]/\RelV x u:=by
 cases r with
 |cons r1 r2=>cases r2;exact⟨_,rfl,r1⟩
theorem Fo{x:V}(r:A5 [x,y] us):∃u w',us=[u,w']/\RelV x u/\RelV y w':=by
 cases r with
 |cons r1 r2 =>
  cases r2 with
  |cons r3 r4=>cases r4;exact⟨_,_,rfl,r1,r3⟩
theorem zhd:Bv X (.builtin "abs") (λxs H Q=>∃i,xs=[.int i]/\Q (.int (if i<0 then -i else i)) H):=by
 intro pins s σ H xs us Q I r h;obtain⟨i,rfl,q⟩:=h;obtain⟨u,rfl,t,rfl⟩:=E6 r;exact call_abs_int λu tk=>⟨.int (if i<0 then -i else i),H,I.tok _,⟨_,rfl⟩,q⟩
theorem zf2(hc:X.calm=true):Bv X (.builtin "min") (λxs H Q=>∃i j,xs=[.int i,.int j]/\Q (.int (if j<i then j else i)) H):=by
 intro pins s σ H xs us Q I r h;obtain⟨i,j,rfl,q⟩:=h;obtain⟨u,w',rfl,⟨t,rfl⟩,⟨t',rfl⟩⟩:=Fo r;refine min_two_ints (I.ok.hd hc) λh' tk k=>⟨_,H,I.kept k,?_,q⟩
 by_cases hj:j<i
 .rw[if_pos hj,if_pos hj];exact⟨_,rfl⟩
 .rw[if_neg hj,if_neg hj];exact⟨_,rfl⟩
def LenV(K:kA)(x:V)(H:Hp)(n:Nat):Prop :=
 match x with
 |.str y=>y.length<=sizeLine/\n=y.length
 |.byt y=>y.size<=sizeLine/\n=y.size
 |.ref p=>(∃xs,AY K H p xs/\n=xs.length)\/∃xs,Bg K H p xs/\n=xs.length
 |_=>False
theorem ZA:Bv X (.builtin "len") (λxs H Q=>∃x n,xs=[x]/\LenV X.K x H n/\Q (.int n) H):=by
 intro pins s σ H xs us Q I r h;obtain⟨x,n,rfl,e,q⟩:=h;obtain⟨u,rfl,rx⟩:=E6 r;have hl:=JK;have hs:sizeLine=16777216:=yeq;cases x with
 |str y =>
  obtain⟨t,rfl⟩:=rx;obtain⟨hy,e'⟩:y.length<=sizeLine/\n=y.length:=e;subst e';exact len_str (by omega) ⟨.int _,H,I.tok _,⟨_,rfl⟩,q⟩
 |byt y =>
  obtain⟨t,rfl⟩:=rx;obtain⟨hy,e'⟩:y.size<=sizeLine/\n=y.size:=e;subst e';exact PySem.W.len_bytes (by omega) ⟨.int _,H,I.tok _,⟨_,rfl⟩,q⟩
 |ref p =>
  cases rx;have e':(∃xs,AY X.K H p xs/\n=xs.length)\/∃xs,Bg X.K H p xs/\n=xs.length:=e
  rcases e' with ⟨xs,hx,e'⟩|⟨xs,hx,e'⟩
  .subst e';obtain⟨its,r',pl,hz⟩:=I.list hx;have hlen:=r'.length;exact Calls.call_len_list pl.isList (by simp only[yak];omega) ⟨.int xs.length,H,I.tok _,⟨_,by simp only[yak];rw[hlen]⟩,q⟩
  .subst e';obtain⟨its,r',pl,hz⟩:=I.tuple hx;have hlen:=r'.length;exact len_tuple pl (by simp only[yak];omega) ⟨.int xs.length,H,I.tok _,⟨_,by simp only[yak];rw[hlen]⟩,q⟩
 |_=>exact(show False from e).elim
end
structure ObjM(h:Heap)(x dx C:Addr)(mA:Str->Option Value):Prop where
 obj:h.get? x=some (PySem.W.instObj C dx)
 ns:h.Ns1 dx mA
 ne:dx≠x
variable {dx:Addr}{mA:Str->Option Value}
theorem zej(n:h.Ns1 dx mA):∃od,h.get? dx=some od/\∀name,PySem.W.lookIn name od=some (mA name):=by
 obtain⟨o,es,ep,ho,hd,hk,_,hm⟩:=n;refine⟨o,ho,λname=>?_⟩
 have e:=hm name;unfold nsFind findBy at e;rw[<- Array.find?_toList]at e;unfold PySem.W.lookIn;rw[hd];dsimp only;split
 .rename_i y q;rw[q]at e;exact congrArg some e
 .rename_i q;rw[q]at e
  have a:es.toList.any (·.refKey)=false:=by
   rw[List.any_eq_false];intro y hy;obtain⟨z,t,hkey⟩:=hk y (Array.mem_toList_iff.mp hy);simp[DictEntry.refKey,hkey]
  have a':¬ es.toList.any (·.refKey)=true:=by rw[a];exact yb8
  rw[if_neg a'];exact congrArg some e
variable {C:Addr}
theorem ObjM.look{x:Addr}(I:ObjM h x dx C mA):∃od,PySem.W.InstAt h x (PySem.W.instObj C dx) C (some od)/\∀name,PySem.W.lookIn name od=some (mA name) :=
 let ⟨od,ho,hl⟩:=zej I.ns
 ⟨od,⟨I.obj,rfl,rfl,ho⟩,hl⟩
variable {prog:Program}{f:Addr}{kw:List (Str×Value)}
section
variable {K:kA}{x:Addr}{name:Str}{v:Value}
theorem zkc{expr:Bool}(X:K.In s.heap)(I:ObjM s.heap x dx C mA)(hg:PySem.W.plainGet K C name=true)(hh:PySem.W.hasDictIn K C=true)(ha:PySem.W.findIn K (.ref C) name=some none)(hv:mA name=some v)(hv':PySem.W.handedIn v=true)(h:Q v { s with toks:=s.toks+1 }) :
  wpAny (model prog w) A (getAttr (.ref x) name expr) Q E s:=by
 obtain⟨od,J,hl⟩:=I.look;exact PySem.W.get_value X J (ye0 hg).1 (PySem.W.findObj_own hh ha rfl (by rw[hl,hv])) hv' h
theorem zgx{pl:Sem Bool}{Q:Value×List Value->Shared->Prop}(X:K.In s.heap)(I:ObjM s.heap x dx C mA)(hg:PySem.W.plainGet K C name=true)
  (hf:PySem.W.findIn K (.ref C) name=some (some (.ref f))) (ht:PySem.W.isFn K (.ref f)=true) (hv:mA name=none) (h:Q (.ref f,[.ref x]) s) :
  wpAny (model prog w) A (getMethod (.ref x) name pl) Q E s:=by
 obtain⟨od,J,hl⟩:=I.look;exact PySem.W.method_fn X J (ye0 hg).1 (ye0 hg).2 hf (beq_iff_eq.mp ht) (by show(PySem.W.lookIn name od).map (·.isSome)=some false;rw[hl,hv];rfl) h
theorem zi3{ns:List Str}{Q:Unit->Shared->Prop}(X:K.In s.heap)(I:ObjM s.heap x dx C mA)
  (hs:PySem.W.findIn K (.ref C) "__setattr__"=some (some (.builtin "object.__setattr__"))) (hp:PySem.W.plainOver K C=true) (ht:PySem.W.takerIn K C name=some none) (hh:PySem.W.hasDictIn K C=true)
  (hw:PySem.Within mA ns) (hsz:ns.length<=sizeLine)
  (h:∀h',ObjM h' x dx C (λy=>if y=name then some v else mA y)->Heap.SameBut dx s.heap h'->Q () { s with heap:=h',toks:=s.toks+2 }) :
  wpAny (model prog w) A (setAttr (.ref x) name v) Q E s:=by
 obtain⟨od,J,hl⟩:=I.look;refine PySem.W.set_plain X J hs (PySem.W.osa_open (s:={ s with toks:=s.toks+1 }) (r:=none) X J hp ht λb=>?_)
 obtain⟨cd,hc,hd'⟩:=PySem.W.any_some hh;have hx:s.heap.get? x=some ⟨.ref C,some dx,.plain,#[]⟩:=I.obj;refine yek (yen (yek (yek (wpAny_loadPart hx (yek (PySem.W.Looks.here (s:={ s with toks:=s.toks+1 }) (PySem.W.looks_clsIn X hc) ?_))))))
 rw[hd'];refine yen (a:=some dx) (yek (yen (yek ?_)));refine wpAny_nsSet1 (s:={ s with toks:=s.toks+1 }) I.ns λh' hn2 hs2=>?_
 obtain⟨oD,esD,epD,hoD,hdD,hcD⟩:=hn2.count (PySem.Within.cons name v hw);refine yek (wpAny_lookBehind hoD (by rw[hdD];exact pastItsLine_dict (yaw hcD (by rw[yao];omega))) ?_)
 exact yen (h _ ⟨(hs2.2 _ (yay I.ne)).trans I.obj,hn2,I.ne⟩ hs2)
theorem zgk{R:Result->Shared->Prop}{vs:List Value}(X:K.In s.heap)(hm:PySem.W.makesIn K C=true)(hi:PySem.W.findIn K (.ref C) "__init__"=some (some (.ref f)))(hf:PySem.W.typeIn K (.ref f)=some (.type "function"))(h:codeAny (model prog w) (A.under (.builtin "type.__call__" ⟨.ref C::vs,kw⟩)) (.call (.ref f) ⟨.ref (s.heap.objs.size+1)::vs,kw⟩) (PySem.W.InitBack (s.heap.objs.size+1) R)
   { s with heap:=(s.heap.push PySem.W.emptyDict).push (PySem.W.instObj C s.heap.objs.size) }) :
  codeAny (model prog w) A (.call (.ref C) ⟨vs,kw⟩) R s:=by
 obtain⟨hh,g,d,t,os⟩:=s;exact PySem.W.make_core (PySem.W.makes_of X hm) (PySem.W.looks_findIn X hi) (λself=>PySem.W.bind_fn X self hf) (.inl rfl) h
end
def Ce(f:Str)(v:V):List (Str×V)->List (Str×V)
 |[]=>[(f,v)]
 |(g,x)::r=>if g=f then (g,v)::r else (g,x)::Ce f v r
theorem Wd(f g:Str)(v:V):∀fs:List (Str×V),(Ce f v fs).lookup g=if g=f then some v else fs.lookup g
 |[]=>by
  show List.lookup g [(f,v)]=_
  by_cases h:g=f
  .have hb:(g == f)=true:=beq_iff_eq.mpr h;simp only[List.lookup,hb,if_pos h]
  .have hb:(g == f)=false:=beq_eq_false_iff_ne.mpr h;simp only[List.lookup,hb,if_neg h]
 |(k,x)::r=>by
  have ih:=Wd f g v r;rw[show Ce f v ((k,x)::r)=(if k=f then (k,v)::r else (k,x)::Ce f v r) from rfl]
  by_cases hk:k=f
  .rw[if_pos hk]
   by_cases h:g=k
   .have hb:(g == k)=true:=beq_iff_eq.mpr h;simp only[List.lookup,hb,if_pos (h.trans hk)]
   .have hb:(g == k)=false:=beq_eq_false_iff_ne.mpr h;simp only[List.lookup,hb,if_neg (λe:g=f=>h (e.trans hk.symm))]
  .rw[if_neg hk]
   by_cases h:g=k
   .have hb:(g == k)=true:=beq_iff_eq.mpr h;simp only[List.lookup,hb,if_neg (λe:g=f=>hk (h.symm.trans e))]
   .have hb:(g == k)=false:=beq_eq_false_iff_ne.mpr h;simp only[List.lookup,hb];exact ih
theorem Py(f:Str)(v:V):∀fs:List (Str×V),f∈(Ce f v fs).map (·.1)/\∀g,g∈fs.map (·.1)->g∈(Ce f v fs).map (·.1)
 |[]=>⟨by simp[Ce],λg h=>by simp at h⟩
 |(k,x)::r=>by
  obtain⟨i1,i2⟩:=Py f v r;rw[show Ce f v ((k,x)::r)=(if k=f then (k,v)::r else (k,x)::Ce f v r) from rfl]
  by_cases hk:k=f
  .rw[if_pos hk];subst hk;exact⟨by simp,λg h=>by simpa using h⟩
  .rw[if_neg hk];refine⟨?_,λg h=>?_⟩
   .rw[yae];exact ya7 _ i1
   .rw[yae]at h ⊢
    rcases ya6.mp h with e|e
    .exact ya6.mpr (.inl e)
    .exact ya7 _ (i2 g e)
theorem Wk(f:Str)(v:V):∀fs:List (Str×V),(Ce f v fs).length<=fs.length+1
 |[]=>by simp[Ce]
 |(k,x)::r=>by
  have ih:=Wk f v r;rw[show Ce f v ((k,x)::r)=(if k=f then (k,v)::r else (k,x)::Ce f v r) from rfl]
  by_cases hk:k=f
  .rw[if_pos hk,yao,yao];omega
  .rw[if_neg hk,yao,yao];omega
theorem DD.some_of{o:Option Value}(r:DD (some v) o):∃u,o=some u/\RelV v u:=by
 cases o with
 |none=>exact(show False from r).elim
 |some u=>exact⟨u,rfl,r⟩
theorem DD.none_of{o:Option Value}(r:DD none o):o=none:=by
 cases o with
 |none=>rfl
 |some u=>exact(show False from r).elim
theorem zes(r:RelV v u):PySem.W.handedIn u=true:=by
 cases v with
 |non=>cases (show u=Value.none from r);rfl
 |bl b=>cases (show u=Value.bool b from r);rfl
 |int i=>obtain⟨t,e⟩:=(show ∃t,u=Value.int i t from r);cases e;rfl
 |str x=>obtain⟨t,e⟩:=(show ∃t,u=Value.str x t from r);cases e;rfl
 |byt b=>obtain⟨t,e⟩:=(show ∃t,u=Value.bytes b t from r);cases e;rfl
 |flt b=>obtain⟨t,e⟩:=(show ∃t,u=Value.float b t from r);cases e;rfl
 |ref a=>cases (show u=Value.ref a from r);rfl
 |ty n=>cases (show u=Value.type n from r);rfl
section
variable {fs fs':List (Str×V)}
theorem Le(hok:HOk P w H h)(e:H a=some (.ins C dx fs)):∃mA,ObjM h a dx C mA/\(∀f,DD (fs.lookup f) (mA f))/\PySem.Within mA (fs.map (·.1))/\fs.length<=1000/\H dx=some (.own a):=by
 obtain⟨d,z,ne,ob,mA,n,r,q⟩:=(show BQ P w H h a (.ins C dx fs) from hok a _ e);exact⟨mA,⟨ob,n,ne⟩,r,q,z,d⟩
end
structure Cls(K:kA)(C:Addr):Prop where
 pg:PySem.W.plainGet K C Str.empty=true
 hd:PySem.W.hasDictIn K C=true
 po:PySem.W.plainOver K C=true
 sa:PySem.W.findIn K (.ref C) "__setattr__"=some (some (.builtin "object.__setattr__"))
theorem Cls.get{K:kA}(c:Cls K C)(f:Str):PySem.W.plainGet K C f=true:=c.pg
def CJ(K:kA)(C:Addr)(f:Str):Prop:=PySem.W.findIn K (.ref C) f=some none
theorem CJ.taker{K:kA}{f:Str}(n:CJ K C f):PySem.W.takerIn K C f=some none:=by
 unfold PySem.W.takerIn;rw[show PySem.W.findIn K (.ref C) f=some none from n]
 rfl
structure Meth(K:kA)(C:Addr)(m:Str)(f:Addr):Prop where
 at_:PySem.W.findIn K (.ref C) m=some (some (.ref f))
 fn:PySem.W.isFn K (.ref f)=true
 kp:PySem.W.keepIn K (.ref f)=true
section
variable {fs:List (Str×V)}{f:Str}
theorem zdn{b:Bool}(I:Inv X pins σ H s)(e:H a=some (.ins C dx fs))(c:Cls X.K C)(n:CJ X.K C f)(l:fs.lookup f=some v)(h:∀u s',Inv X pins σ H s'->RelV v u->Q u s'):wpAny (model X.prog X.w) A (getAttr (.ref a) f b) Q E s:=by
 obtain⟨mA,O,r,_,_,_⟩:=Le I.hok e;obtain⟨u,hu,ru⟩:=DD.some_of (v:=v) (o:=mA f) (by rw[<- l];exact r f)
 exact zkc I.kIn O (c.get f) c.hd n hu (zes ru) (h u _ (I.tok _) ru)
theorem YA{m:Str}{g:Addr}{pl:Sem Bool}{Q:Value×List Value->Shared->Prop}(I:Inv X pins σ H s)(e:H a=some (.ins C dx fs))(c:Cls X.K C)(k:Meth X.K C m g)(l:fs.lookup m=none)
  (h:Q (.ref g,[.ref a]) s):wpAny (model X.prog X.w) A (getMethod (.ref a) m pl) Q E s:=by
 obtain⟨mA,O,r,_,_,_⟩:=Le I.hok e;have hn:mA m=none:=DD.none_of (by rw[<- l];exact r m)
 exact zgx I.kIn O (c.get m) k.at_ k.fn hn h
theorem zd9{Q:Unit->Shared->Prop}(I:Inv X pins σ H s)(e:H a=some (.ins C dx fs))(c:Cls X.K C)(n:CJ X.K C f)(hl:fs.length<1000)(ry:RelV y u)(h:∀s',Inv X pins σ (upd H a (.ins C dx (Ce f y fs))) s'->Q () s'):wpAny (model X.prog X.w) A (setAttr (.ref a) f u) Q E s:=by
 obtain⟨mA,O,r,wi,_,ho⟩:=Le I.hok e;have hz:(fs.map (·.1)).length<=sizeLine:=by rw[ya1,yeq];omega
 refine zi3 I.kIn O c.sa c.po n.taker c.hd wi hz λh' O' sb=>h _ ?_
 have hd:∃o,h'.get? dx=some o:=let ⟨o,_,_,e',_⟩:=O'.ns;⟨o,e'⟩;refine I.write (x:=a) (e:=dx) (by rw[e];exact True.intro) (.inr ho) (λb q hb z=>(sb.2 b hb).trans z) hd ?_
 refine⟨by rw[Ac O.ne];exact ho,?_,O.ne,O'.obj,_,O'.ns,λg=>?_,λg hg=>?_⟩
 .have:=Wk f y fs;omega
 .show DD ((Ce f y fs).lookup g) (if g=f then some u else mA g)
  rw[Wd]
  by_cases q:g=f
  .rw[if_pos q,if_pos q];exact ry
  .rw[if_neg q,if_neg q];exact r g
 .by_cases q:g=f
  .rw[q];exact(Py f y fs).1
  .refine(Py f y fs).2 g (wi g λz=>hg ?_)
   show(if g=f then some u else mA g)=none
   rw[if_neg q];exact z
theorem Inv.made(I:Inv X pins σ H s):Inv X pins σ (upd (upd H s.heap.objs.size (.own (s.heap.objs.size+1))) (s.heap.objs.size+1) (.ins C s.heap.objs.size []))
  { s with heap:=(s.heap.push PySem.W.emptyDict).push (PySem.W.instObj C s.heap.objs.size) }:=by
 have e1:(s.heap.push PySem.W.emptyDict).get? s.heap.objs.size=some PySem.W.emptyDict:=yal s.heap rfl
 have e2:((s.heap.push PySem.W.emptyDict).push (PySem.W.instObj C s.heap.objs.size)).get? (s.heap.objs.size+1)=some (PySem.W.instObj C s.heap.objs.size):=by
  have:=yal (s.heap.push PySem.W.emptyDict) (o:=PySem.W.instObj C s.heap.objs.size) rfl
  rwa[yc6]at this
 have e3:(s.heap.push PySem.W.emptyDict).Ns s.heap.objs.size (λ_=>none):=⟨PySem.W.emptyDict,#[],_,e1,rfl,(λe he=>absurd he (by simp)),λ_=>rfl⟩
 have I1:=I.laid (a:=s.heap.objs.size) (o:=.own (s.heap.objs.size+1)) (h':=s.heap.push PySem.W.emptyDict) (t':=s.toks) (λb u q=>ya8 _ q) (yac _) ⟨_,e1⟩
 refine I1.laid (a:=s.heap.objs.size+1) (o:=.ins C s.heap.objs.size []) (t':=s.toks) (λb u q=>ya8 _ q) (Nat.le_of_eq (yc6 _ _)) ?_
 have ne:s.heap.objs.size≠s.heap.objs.size+1:=yar (yct _);refine⟨by rw[Ac ne,Ba],yaz _,ne,e2,λ_=>none,(Heap.Ns1.of_empty e3).at λo q=>ya8 _ q,λ_=>True.intro,λy hy=>absurd rfl hy⟩
theorem zkr{env:Env}{f:Str}(hb:attributeBase e f env (eval e env)=eval e env)(h:wpAny (model prog w) A (eval e env) (λo s₁=>wpAny (model prog w) A (getAttr o f true) Q E s₁) E s):wpAny (model prog w) A (eval (.Attribute e f pos) env) Q E s :=
 Attribute_any_ h (by rw[arm_eval_Attribute,hb])
end
def tFld(K:kA)(ta:TE)(f:Str):TE:=λσ H Q=>ta σ H λx H1=>∃a C dx fs v,x=.ref a/\H1 a=some (.ins C dx fs)/\Cls K C/\CJ K C f/\fs.lookup f=some v/\Q v H1
def sFld(K:kA)(ta tv:TE)(f:Str):TS:=λD σ H=>tv σ H λy H1=>ta σ H1 λx H2=>∃a C dx fs,x=.ref a/\H2 a=some (.ins C dx fs)/\Cls K C/\CJ K C f/\fs.length<1000 /\
 D.nx σ (upd H2 a (.ins C dx (Ce f y fs)))
section
variable {value:Expr}{f:Str}{pos' tpos:Pos}{tv:TE}
theorem VG(he:PE X e ta)(hb:attributeBase e f X.env (eval e X.env)=eval e X.env):PE X (.Attribute e f pos) (tFld X.K ta f):=by
 intro pins s σ H Q I h;refine zkr hb (AS (he pins s σ H _ I h) λu s1 ⟨x,H1,I1,rx,a,C,dx,fs,v,ex,ea,c,n,l,q⟩=>?_)
 subst ex;obtain rfl:u=Value.ref a:=rx;exact zdn I1 ea c n l λu' s2 I2 ru=>⟨v,H1,I2,ru,q⟩
theorem zma(ha:PE X o ta)(hv:PE X value tv)(hs:swapsWith value (some (.Attribute o f pos')) pos.line X.env=pure false):PS X (.Assign [.Attribute o f pos'] value pos) (sFld X.K ta tv f):=by
 intro pins s σ H D I h;refine plainObj_wpAny_Assign_Attribute (AS (hv pins s σ H _ I h) λu s1 ⟨y,H1,I1,ry,q⟩=>AS (ha pins s1 σ H1 _ I1 q) λov s2 ⟨x,H2,I2,rx,a,C,dx,fs,ex,ea,c,n,l,q2⟩=>?_) hs
 subst ex;obtain rfl:ov=Value.ref a:=rx;exact zd9 I2 ea c n l ry λs3 I3=>⟨σ,_,I3,q2⟩
end
section
variable {c:Value}{b:Bool}
inductive TyOf(K:kA)(H:Hp):V->Value->Prop where
 |non:TyOf K H .non (.type "NoneType")
 |bl (x:Bool):TyOf K H (.bl x) (.type "bool")
 |int (i:Int):TyOf K H (.int i) (.type "int")
 |str (x:Str):TyOf K H (.str x) (.type "str")
 |flt (x:UInt64):TyOf K H (.flt x) (.type "float")
 |lst {a:Addr} {xs:List V} (e:H a=some (.lst xs)):TyOf K H (.ref a) (.type "list")
 |frz {a:Addr} {o:Obj} {xs:List V} (e:H a=some (.frz o (.lst xs))):TyOf K H (.ref a) (.type "list")
 |tup {a:Addr} {xs:List V} (e:H a=some (.tup xs)):TyOf K H (.ref a) (.type "tuple")
 |dK {a:Addr} {kvs:List (Key×V)} (e:H a=some (.dK kvs)):TyOf K H (.ref a) (.type "dict")
 |dT {a:Addr} {kvs:List (List Key×V)} (e:H a=some (.dT kvs)):TyOf K H (.ref a) (.type "dict")
 |ins {a C dx:Addr} {fs:List (Str×V)} (e:H a=some (.ins C dx fs)) (cl:Cls K C) (ha:PySem.W.findIn K (.ref C) "__class__"=some (some (.builtin "object.__class__")))
   (hn:PySem.W.specialIn K (.builtin "object.__class__") "__get__"=some (some (.builtin "getset_descriptor.__get__"))) (htk:PySem.W.takesIn K (.builtin "object.__class__")=some true)
   (hm:PySem.W.mroIn K C (.type "object")=some true):TyOf K H (.ref a) (.ref C)
theorem Lc{x:V}{t:Value}(I:Inv X pins σ H s)(rx:RelV x u)(ty:TyOf X.K H x t)(e:PySem.W.kitOne X.K t c=some b)(h:∀tk,Q (.bool b) { s with toks:=tk }) :
  wpAny (model X.prog X.w) A (call (.builtin "isinstance") [u,c]) Q E s:=by
 cases ty with
 |non=>cases (show u=Value.none from rx);exact ybh PySem.W.kitx_none I.kIn True.intro e (λz=>nomatch z) h
 |bl y=>cases (show u=Value.bool y from rx);exact ybh PySem.W.kitx_bool I.kIn True.intro e (λz=>nomatch z) h
 |int i=>obtain⟨t,q⟩:=(show ∃t,u=Value.int i t from rx);cases q;exact ybh PySem.W.kitx_int I.kIn True.intro e (λz=>nomatch z) h
 |str y=>obtain⟨t,q⟩:=(show ∃t,u=Value.str y t from rx);cases q;exact ybh PySem.W.kitx_str I.kIn True.intro e (λz=>nomatch z) h
 |flt y=>obtain⟨t,q⟩:=(show ∃t,u=Value.float y t from rx);cases q;exact ybh PySem.W.kitx_float I.kIn True.intro e (λz=>nomatch z) h
 |@lst a xs ea =>
  cases (show u=Value.ref a from rx);obtain⟨_,_,n,_,h1⟩:=(show BQ X.prog X.w H s.heap a (.lst xs) from I.hok a _ ea);exact ybh PySem.W.kitx_list I.kIn ⟨_,h1,rfl⟩ e (λz=>nomatch z) h
 |@frz a ob xs ea =>
  cases (show u=Value.ref a from rx);obtain⟨_,_,_,n,_,h1⟩:=(show BQ X.prog X.w H s.heap a (.frz ob (.lst xs)) from I.hok a _ ea);exact ybh PySem.W.kitx_list I.kIn ⟨_,h1,rfl⟩ e (λz=>nomatch z) h
 |@tup a xs ea =>
  cases (show u=Value.ref a from rx);obtain⟨_,_,_,p⟩:=(show BQ X.prog X.w H s.heap a (.tup xs) from I.hok a _ ea);obtain⟨o,h1,h2,_⟩:=p;exact ybh PySem.W.kitx_tuple I.kIn ⟨o,h1,h2⟩ e (λz=>nomatch z) h
 |@dK a kvs ea =>
  cases (show u=Value.ref a from rx);obtain⟨_,_,vs,_,p⟩:=(show BQ X.prog X.w H s.heap a (.dK kvs) from I.hok a _ ea);obtain⟨o,es,ep,h1,h2,_⟩:=p;exact ybh ye9 I.kIn ⟨o,h1,h2.1⟩ e (λz=>nomatch z) h
 |@dT a kvs ea =>
  cases (show u=Value.ref a from rx);obtain⟨_,_,xs,_,o,es,ep,h1,h2,_⟩:=(show BQ X.prog X.w H s.heap a (.dT kvs) from I.hok a _ ea);exact ybh ye9 I.kIn ⟨o,h1,h2.1⟩ e (λz=>nomatch z) h
 |@ins a C dx fs ea cl ha hn htk hm =>
  cases (show u=Value.ref a from rx);obtain⟨mA,O,_⟩:=Le I.hok ea;obtain⟨od,J,_⟩:=O.look;exact ybh (PySem.W.kitx_own (cl.get _) cl.hd ha hn htk hm) I.kIn J e (λz=>nomatch z) h
end
structure Room(k:Nat)(A:Around):Prop where
 hd:A.handled=none
 dp:A.depth+3 * k+5<recursionLimit
 un:A.units+16 * k+200<cLine
theorem Room.mono{j k:Nat}(r:Room k A)(h:j<=k):Room j A:=⟨r.hd,by have:=r.dp;omega,by have:=r.un;omega⟩
theorem Room.deeper{k:Nat}{A:Around}(r:Room (k+1) A)(env:Env):Room k (A.deeper env) :=
 ⟨r.hd,by have:=r.dp;show A.depth+1+3 * k+5<_;omega,by have:=r.un;show A.units+3+16 * k+200<_;omega⟩
theorem zdk:(A.under (.builtin "type.__call__" ⟨.ref C::us,kw⟩)).depth=A.depth+1:=by
 first|rfl|simp[Around.under,Code.weight,Code.isCreation,Code.isGuard,Code.isCaller,Code.frames,Code.isFrame,guardIds]
theorem zdj:(A.under (.builtin "type.__call__" ⟨.ref C::us,kw⟩)).units=A.units+1:=by
 first|rfl|simp[Around.under,Code.cUnits,Code.frames,Code.isFrame]
theorem Room.make{k:Nat}(r:Room (k+1) A)(C:Addr)(us:List Value)(kw:List (Str×Value)):Room k (A.under (.builtin "type.__call__" ⟨.ref C::us,kw⟩)) :=
 ⟨r.hd,by have:=r.dp;rw[zdk];omega,by have:=r.un;rw[zdj];omega⟩
theorem Room.depth{k:Nat}{A:Around}(r:Room k A):A.depth<recursionLimit:=by have:=r.dp;omega
theorem Room.units{k:Nat}{A:Around}(r:Room k A):A.units+64<cLine:=by have:=r.un;omega
def T4:TA:=λ_ H Q=>Q [] H
def tCons(ta:TE)(tr:TA):TA:=λσ H Q=>ta σ H λx H1=>tr σ H1 λxs H2=>Q (x::xs) H2
section
variable {t:TA}
theorem DZ:PA X [] T4:=λ_ _ _ _ H Q I h=>yea ⟨[],H,I,.nil,h⟩
theorem Cf(ha:PE X e te)(hr:PA X es t)(hs:starEach (e::es) X.env=(false,eval e X.env)::starEach es X.env:=by rfl):PA X (e::es) (tCons te t):=by
 intro pos pins s σ H Q I h;rw[hs];show wpAny _ _ (spliced ((false,eval e X.env)::backTo pos (starEach es X.env))) _ _ s;refine ye3 (AS (ha pins s σ H _ I h) λu s1 ⟨x,H1,I1,r1,q1⟩=>?_)
 exact AS (hr pos pins s1 σ H1 _ I1 q1) λus s2 ⟨xs,H2,I2,r2,q2⟩=>⟨x::xs,H2,I2,.cons r1 r2,q2⟩
def tTup(t:TA):TE:=λσ H Q=>t σ H λxs H1=>xs.length<=sizeLine/\∀p,H1 p=none->Q (.ref p) (upd H1 p (.tup xs))
def tLst(t:TA):TE:=λσ H Q=>t σ H λxs H1=>xs.length<=sizeLine/\∀p,H1 p=none->Q (.ref p) (upd H1 p (.lst xs))
theorem zmj{x1}(h:PA X es t):PE X (.Tuple es x1 pos) (tTup t):=by
 intro pins s σ H Q I hq;refine wpAny_Tuple_spliced (AS (h pos pins s σ H _ I hq) λus s1 ⟨xs,H1,I1,r,z,q⟩=>⟨by rw[<- r.length];exact z,?_⟩)
 have hf:H1 s1.heap.objs.size=none:=I1.hok.fresh (yac _);refine⟨.ref s1.heap.objs.size,upd H1 s1.heap.objs.size (.tup xs),I1.laid (t':=s1.toks) (λb u e=>ya8 _ e) (yac _) ?_,rfl,q _ hf⟩
 exact⟨z,us,r,⟨_,yal _ rfl,rfl,_,rfl⟩⟩
theorem zmn(h:PA X es t):PE X (.List es pos) (tLst t):=by
 intro pins s σ H Q I hq;refine wpAny_List_spliced (AS (h pos pins s σ H _ I hq) λus s1 ⟨xs,H1,I1,r,z,q⟩=>⟨by rw[<- r.length];exact z,?_⟩)
 have hf:H1 s1.heap.objs.size=none:=I1.hok.fresh (yac _);refine⟨.ref s1.heap.objs.size,upd H1 s1.heap.objs.size (.lst xs),I1.laid (t':=s1.toks) (λb u e=>ya8 _ e) (yac _) ?_,rfl,q _ hf⟩
 exact⟨z,us,0,r,yal _ rfl⟩
end
abbrev Sp:=List V->Hp->VK->XK->Prop
abbrev G0:=List Env->Hp->Shared->XK->Value->Shared->Prop
structure Env0(P:Program)(w:World)(K:kA)(mg:Str->Option Value)(base:Heap)(A:Around)(outer:List Env)(s:Shared)(H:Hp):Prop where
 frames:A.frames=some outer
 mod:Mod K mg base
 bs:∀b o,base.get? b=some o->s.heap.get? b=some o/\H b=none
 bsz:base.objs.size<=s.heap.objs.size
 funs:s.heap.FunFrames base outer
 frf:∀b∈BF outer,H b=none
 hok:HOk P w H s.heap
 bare:AllBare s.gens
def CE(outer:List Env)(P:Program)(w:World)(H:Hp)(s:Shared)(Q:VK)(u:Value)(s':Shared):Prop :=
 ∃v H',s'.os=s.os/\AllBare s'.gens/\Un (BF outer) [] H H' s.heap s'.heap/\HOk P w H' s'.heap/\RelV v u/\Q v H'
def CR(CX:G0)(outer:List Env)(P:Program)(w:World)(H:Hp)(s:Shared)(Q:VK)(E:XK)(r:Result)(s':Shared):Prop :=
 match r with
 |.ok (.ret u)=>CE outer P w H s Q u s'
 |.ok _=>False
 |.error e=>CX outer H s E e s'
structure FnOk(P:Program)(w:World)(K:kA)(mg:Str->Option Value)(base:Heap)(CX:G0)(k:Nat)(f:Addr)(fd:FuncData)(ps:List Str)(sp:Sp):Prop where
 len:∀vs H Q E,sp vs H Q E->vs.length=ps.length
 run:∀(A:Around) (outer:List Env) (s:Shared) (H:Hp) (args:Args) (us:List Value) (vs:List V) (Q:VK) (E:XK),Room k A->Env0 P w K mg base A outer s H->BindsTo s fd args (ps.zip us)->A5 vs us->sp vs H Q E ->
  codeAny (model P w) A (.call (.ref f) args) (CR CX outer P w H s Q E) s
variable {mg:Str->Option Value}{base:Heap}{CX:G0}{fd:FuncData}{ps:List Str}{sp:Sp}
theorem FnOk.imp{K:kA}{k:Nat}{sp':Sp}(F:FnOk P w K mg base CX k f fd ps sp)(h:∀vs H Q E,sp' vs H Q E->sp vs H Q E):FnOk P w K mg base CX k f fd ps sp' :=
 ⟨λvs H Q E q=>F.len vs H Q E (h _ _ _ _ q),λA outer s H args us vs Q E hr he hb hv hs=>F.run A outer s H args us vs Q E hr he hb hv (h _ _ _ _ hs)⟩
theorem Env0.make{K:kA}{outer:List Env}(e:Env0 P w K mg base A outer s H)(C:Addr)(us:List Value)(kw:List (Str×Value)) :
  Env0 P w K mg base (A.under (.builtin "type.__call__" ⟨.ref C::us,kw⟩)) outer s H:=⟨by first|exact e.frames|(simpa[Around.under,Code.envs,Code.isFrame,pushEnvs] using e.frames),e.mod,e.bs,e.bsz,e.funs,e.frf,e.hok,e.bare⟩
section
variable {s':Shared}
theorem Inv.env0(I:Inv X pins σ H s):Env0 X.prog X.w X.K X.mg X.base X.A X.stack s H :=
 ⟨I.ok.frames,I.ok.mod,I.bs,yaw I.ok.bsz I.sz,I.stack,I.stkFree,I.hok,I.bare⟩
theorem Inv.after{Q:VK}(I:Inv X pins σ H s)(h:CE X.stack X.prog X.w H s Q u s'):EP X pins σ Q u s':=by
 obtain⟨v,H',os,bare,un,hok,r,q⟩:=h;obtain⟨hh,g,d,t,os'⟩:=s';obtain rfl:os'=s.os:=os;exact⟨v,H',I.call (h':=hh) (g':=g) (d':=d) (t':=t) (ch:=[]) un hok bare (λb z=>absurd z (by simp)),r,q⟩
end
def Dg(K:kA)(fd:FuncData)(ps:List Str)(ds:List Value):Prop :=
 ∀(s:Shared) (us:List Value),K.In s.heap->(us++ds).length=ps.length->BindsTo s fd ⟨us,[]⟩ (ps.zip (us++ds))
theorem Dg.all{K:kA}(h:∀us:List Value,us.length=ps.length->bindArgs fd ⟨us,[]⟩=pure (ps.zip us)):Dg K fd ps []:=λs us _ hl=>by
 rw[yav]at hl ⊢;exact .of_eq (h us hl)
variable {apos:Pos}
section
variable {k:Nat}{dvs:List V}{ds:List Value}{E:XK}{m:Str}{p:Pos}{t:TA}
structure Mk(K:kA)(C f:Addr):Prop where
 makes:PySem.W.makesIn K C=true
 init:PySem.W.findIn K (.ref C) "__init__"=some (some (.ref f))
 fn:PySem.W.isFn K (.ref f)=true
 kp:PySem.W.keepIn K (.ref C)=true
end
section
variable {k:Nat}{ks:List Str}{E:XK}{m:Str}{p kpos:Pos}{kws:List Keyword}{t tk:TA}{nm:Option Str}
variable {g:List Value->List Value->List Value}{gV:List V->List V->List V}
end
structure FnScope(N P:List Str)(sc:Scope):Prop where
 kind:sc.kind=.function
 co:sc.isCoroutine=false
 gen:sc.isGenerator=false
 nd:N.Nodup
 pre:N.take P.length=P
 par:∀x∈P,sc.names.lookup x=some .local\/sc.names.lookup x=some .cell
 nofree:∀y∈sc.names,y.2≠.free
theorem ZL{kindOf:Str->Option NameKind}{x:Str}:∀{binds:List (Str×Value)} {m:Str->Option Value},(∀v,(x,v)∉binds)->bindL kindOf binds m x=m x
 |[],_,_=>rfl
 |(n,v)::r,m,h=>by
  unfold bindL;rw[ZL λw hw=>h w (ya7 _ hw)]
  split
  .have:x≠n:=by rintro rfl;exact h v ya9
   simp[this]
  .rfl
theorem ZN{kindOf:Str->Option NameKind}{x:Str}:∀{binds:List (Str×Value)} {m:Str->Option Value},(∀v,(x,v)∉binds)->bindC kindOf binds m x=m x
 |[],_,_=>rfl
 |(n,v)::r,m,h=>by
  unfold bindC;rw[ZN λw hw=>h w (ya7 _ hw)]
  split
  .rfl
  .have:x≠n:=by rintro rfl;exact h v ya9
   simp[this]
theorem ZM{kindOf:Str->Option NameKind}{x:Str}{v:Value}:∀{P:List Str} {vs:List Value} {i:Nat} {m:Str->Option Value},P.Nodup->P[i]?=some x->vs[i]?=some v->kindOf x=some .local ->
  bindL kindOf (P.zip vs) m x=some v
 |[],_,_,_,_,h,_,_=>by simp at h
 |_::_,[],_,_,_,_,h,_=>by simp at h
 |p::P,w::vs,0,m,nd,h1,h2,hk=>by
  simp at h1 h2;subst h1;subst h2;show bindL kindOf ((p,w)::P.zip vs) m p=_;unfold bindL;rw[ZL λv hv=>(ybz.mp nd).1 (ydw hv).1,if_pos hk]
  simp
 |p::P,w::vs,i+1,m,nd,h1,h2,hk=>by
  show bindL kindOf ((p,w)::P.zip vs) m x=_;unfold bindL;exact ZM (i:=i) (ybz.mp nd).2 (by simpa using h1) (by simpa using h2) hk
theorem ZO{kindOf:Str->Option NameKind}{x:Str}{v:Value}:∀{P:List Str} {vs:List Value} {i:Nat} {m:Str->Option Value},P.Nodup->P[i]?=some x->vs[i]?=some v->kindOf x≠some .local ->
  bindC kindOf (P.zip vs) m x=some v
 |[],_,_,_,_,h,_,_=>by simp at h
 |_::_,[],_,_,_,_,h,_=>by simp at h
 |p::P,w::vs,0,m,nd,h1,h2,hk=>by
  simp at h1 h2;subst h1;subst h2;show bindC kindOf ((p,w)::P.zip vs) m p=_;unfold bindC;rw[ZN λv hv=>(ybz.mp nd).1 (ydw hv).1,if_neg hk]
  simp
 |p::P,w::vs,i+1,m,nd,h1,h2,hk=>by
  show bindC kindOf ((p,w)::P.zip vs) m x=_;unfold bindC;exact ZO (i:=i) (ybz.mp nd).2 (by simpa using h1) (by simpa using h2) hk
def start(N:List Str)(vs:List V):St:=vs.map some++List.replicate (N.length - vs.length) none
noncomputable def ED(CX:G0)(P:Program)(w:World)(K:kA)(mg:Str->Option Value)(base:Heap)(N:List Str)(qual:Str)(scope:Scope)(f:Addr)(cd:Value)(A:Around)(outer:List Env)(s:Shared)(H:Hp)(E:XK):Cx where
 prog:=P
 w:=w
 K:=K
 mg:=mg
 base:=base
 A:=A.deeper (envOfC qual scope s.heap.objs.size f cd)
 N:=N
 s₀:=s
 H₀:=H
 env:=envOfC qual scope s.heap.objs.size f cd
 outer:=outer
 stack:=envOfC qual scope s.heap.objs.size f cd::outer
 ex:=[]
 calm:=true
 fn:=λ_=>true
 pn:=[]
 xe:=λe s'=>wpAny (model P w) (A.deeper (envOfC qual scope s.heap.objs.size f cd)) (leaving (envOfC qual scope s.heap.objs.size f cd) e) (λ_ s''=>CX outer H s E e s'') (λe' s''=>CX outer H s E e' s'') s'
theorem Yw{sc:Scope}(h:sc.names.lookup x=some .cell):∃c,(cellsFrom n sc.names []).lookup x=some c:=by
 have q:=ydf sc.names n [] (.inl h);exact Option.isSome_iff_exists.mp q
theorem XG{K:kA}{N:List Str}{qual:Str}{scope:Scope}{cd:Value}{outer:List Env}{s1:Shared}{E:XK}{vs:List V}(S:FnScope N ps scope)(hd:A.handled=none)(e0:Env0 P w K mg base A outer s H)(hl:vs.length=ps.length)(r:A5 vs us)(x:InCallC s s.heap.objs.size (bindL (envOfC qual scope s.heap.objs.size f cd).kindOf (ps.zip us) λ_=>none) (cellsFrom (s.heap.objs.size+1) scope.names []) (bindC (envOfC qual scope s.heap.objs.size f cd).kindOf (ps.zip us) λ_=>none) s1) :
  Inv (ED CX P w K mg base N qual scope f cd A outer s H E) [] (start N vs) H s1:=by
 have hpl:ps.length<=N.length:=by have:=congrArg List.length S.pre;rw[ydp]at this;omega
 obtain⟨h1,tk,rfl,hk⟩:=x.done;have noA:∀b:Addr,b∉(ED CX P w K mg base N qual scope f cd A outer s H E).ex:=λb z=>absurd (show b∈([]:List Addr) from z) (by simp)
 refine⟨⟨e0.mod,S.kind,rfl,rfl,yac _,λy z c h1 h2=>?_,λy hy=>?_,λy c _ h=>?_,λ_=>hd,Around.frames_deeper e0.frames,.inr ⟨rfl,rfl⟩,λb z=>absurd z (noA b),e0.bs,e0.bsz,λb _ _=>noA b,λb z=>absurd z (noA b),e0.funs,e0.frf⟩,
  rfl,e0.bare,Un.kept hk,⟨_,x.toInCall.ns,λi y v h1 h2 h3=>?_⟩,λy c h=>⟨_,x.cell y c h⟩,e0.hok.fresh (yac _),λy c h=>?_,λp hp=>absurd (show p∈([]:List (Addr×Obj)) from hp) (by simp),e0.hok.kept hk,?_⟩
 .exact name_of_addr x.apart (ybq h1) (ybq h2)
 .have hy:scope.names.lookup y=some .cell\/scope.names.lookup y=some .free:=hy
  rcases hy with hy|hy
  .exact Yw hy
  .exact absurd rfl (S.nofree _ (ybq hy))
 .exact ydv (x.above y c (ybq h))
 .have hi:i<vs.length:=by
   unfold start at h2
   by_cases hi:i<vs.length
   .exact hi
   .rw[yb5 (by simpa using hi)]at h2
    rw[yd8]at h2;split at h2<;>cases h2
  have ha:vs[i]?=some v:=by
   unfold start at h2;rw[yb0 (by simpa using hi),ya5]at h2
   cases e:vs[i]? with
   |none=>rw[e]at h2;cases h2
   |some a=>rw[e]at h2;cases h2;rfl
  obtain⟨u,hu,rv⟩:=r.get ha
  have hp:ps[i]?=some y:=by
   rw[<- S.pre,List.getElem?_take_of_lt (by omega)];exact h1
  have ndP:ps.Nodup:=by rw[<- S.pre];exact S.nd.sublist (List.take_sublist _ _)
  refine⟨u,rv,?_⟩
  rcases S.par y (yas hp) with k|k
  .exact .inl ⟨k,ZM ndP hp hu k⟩
  .obtain⟨c,e⟩:=Yw (n:=s.heap.objs.size+1) k;refine .inr ⟨.inl k,c,e,?_⟩;have q:=x.cell y c e;rw[ZO ndP hp hu (by show scope.names.lookup y≠_;rw[k];decide)]at q
   exact q
 .exact e0.hok.fresh (ydv (x.above y c (ybq h)))
 .unfold start;show _=N.length;rw[yad,ya1,ydq]
  omega
theorem fn_of{K:kA}{k:Nat}{name qual:Str}{params:Arguments}{body:List Stmt}{scope:Scope}{dV kV doc pm cdv ct oc:Value}{an od:Option Addr}{osl:Array (Option Value)}{N:List Str}(lk:K.lookup f=some ⟨oc,od,.func (PySem.W.fnOf name qual params body scope dV kV doc pm an cdv ct),osl⟩)(hcd:PySem.W.codeIn K cdv qual=true)(S:FnScope N ps scope)(len:∀vs H Q E,sp vs H Q E->vs.length=ps.length)(hbody:∀(A:Around) (outer:List Env) (s:Shared) (H:Hp) (vs:List V) (Q:VK) (E:XK),Room k (A.deeper (envOfC qual scope s.heap.objs.size f cdv))->sp vs H Q E ->
   ∃t,BE (ED CX P w K mg base N qual scope f cdv A outer s H E) body t/\t { nx:=λ_ H'=>Q .non H',rt:=Q } (start N vs) H) :
  FnOk P w K mg base CX (k+1) f (PySem.W.fnOf name qual params body scope dV kV doc pm an cdv ct) ps sp:=by
 refine⟨len,λA outer s H args us vs Q E hr e0 hb r hsp=>?_⟩
 have hl:=len _ _ _ _ hsp;have KX:K.In s.heap:=e0.mod.kin.keeps λb o e=>(e0.bs b o e).1
 have BL:s.heap.NoLimit:=e0.mod.nolimit.keeps λb o e=>(e0.bs b o e).1
 have hkind:∀y∈ps.zip us,scope.names.lookup y.1=some .local\/(scope.names.lookup y.1=some .cell/\((cellsFrom (s.heap.objs.size+1) scope.names []).lookup y.1).isSome=true):=λ⟨n,v⟩ hy=>by
  rcases S.par n (ydw hy).1 with q|q
  .exact .inl q
  .exact .inr ⟨q,ydf _ _ _ (.inl q)⟩
 refine codeAny_call_function hr.depth (KX _ _ lk) rfl S.co S.gen rfl (PySem.W.codeRec_of KX hcd) (hb _ _ _ _ ?_);refine wpAny_newFunctionEnv_cells S.kind hkind λenv he s1 x=>?_
 subst he;refine⟨BL.keeps x.toInCall.keep,codeAny_func ?_⟩;obtain⟨t,ht,hq⟩:=hbody A outer s H vs Q E (hr.deeper _) hsp;have I:Inv (ED CX P w K mg base N qual scope f cdv A outer s H E) [] (start N vs) H s1:=XG S hr.hd e0 hl r x;refine yeh (ht [] s1 (start N vs) H _ I hq) (λfl s' hs=>?_) λe s' hs=>hs
 have As:∀{σ':St} {H':Hp} {v:V} {u:Value},Inv (ED CX P w K mg base N qual scope f cdv A outer s H E) [] σ' H' s'->RelV v u->Q v H'->CE outer P w H s Q u s' :=
  λ{σ' H' v u} J rv q=>⟨v,H',J.os,J.bare,J.base,J.hok,rv,q⟩
 cases fl with
 |ret u =>
  obtain⟨v,σ',H',J,rv,q⟩:=hs;exact As J rv q
 |next =>
  obtain⟨σ',H',J,q⟩:=hs;exact As (v:=V.non) (u:=Value.none) J rfl q
 |brk =>
  obtain⟨_,_,_,q⟩:=hs;exact False.elim q
 |cont =>
  obtain⟨_,_,_,q⟩:=hs;exact False.elim q
section
variable {p:Pos}{t:TA}{id T:String}{r:List V->Hp->VK->Prop}
def Tf(r:List V->Hp->VK->Prop)(t:TA):TE:=λσ H Q=>t σ H λvs H1=>r vs H1 Q
theorem Hi(hc:Bv X (.builtin id) r)(hg:Gl X x)(hm:X.mg x=none)(hv:bootBuiltins x=some (.builtin id))(ha:PA X (e::es) t)(hn:x≠"__name__":=by decide)(hdb:(x == ("__debug__":Str))=false:=by decide)
  (he:starEach (e::es) X.env=(false,eval e X.env)::starEach es X.env:=by rfl) (hpl:(backTo pos (starEach es X.env)).any (·.1)=false:=by rfl):PE X (.Call (.Name x p) (e::es) [] pos) (Tf r t):=by
 intro pins s σ H Q I h;refine yer (GD I hg hm hv ?_ hn hdb);exact PyProof.Rows.callWith_builtin1 (AS (ha pos pins s σ H _ I h) λus s1 ⟨vs,H1,I1,r1,q1⟩=>hc pins s1 σ H1 vs us Q I1 r1 q1) he hpl
theorem VH(hc:Bv X (.type T) r)(hg:Gl X x)(hm:X.mg x=none)(hv:bootBuiltins x=some (.type T))(ha:PA X (e::es) t)(hn:x≠"__name__":=by decide)(hdb:(x == ("__debug__":Str))=false:=by decide)
  (he:starEach (e::es) X.env=(false,eval e X.env)::starEach es X.env:=by rfl) (hpl:(backTo pos (starEach es X.env)).any (·.1)=false:=by rfl):PE X (.Call (.Name x p) (e::es) [] pos) (Tf r t):=by
 intro pins s σ H Q I h;refine yer (GD I hg hm hv ?_ hn hdb);exact ybn (AS (ha pos pins s σ H _ I h) λus s1 ⟨vs,H1,I1,r1,q1⟩=>hc pins s1 σ H1 vs us Q I1 r1 q1) he hpl
end
end L2
namespace HT
open PySem PyProof.Rows
section
open PySem.SeqAt
open PySem.AutoSeq1 (wpAny_loadPart')
open PySem.MeetsSeq PySem.MeetsSeq2 PySem.MeetsSeq3
end
section
variable {prog:Program}{w:World}{A:Around}{E:Value->Shared->Prop}{s:Shared}
noncomputable def sIx(n d:Nat):Option Int->Nat
 |none=>d
 |some v=>if v<0 then (v+(n:Int)).toNat else min v.toNat n
end
end HT
namespace L2
open PySem PySem.Spec PyProof.Rows
variable {X:Cx}{E:Value->Shared->Prop}
abbrev TO:=St->Hp->(Option Int->Hp->Prop)->Prop
def PO(X:Cx)(e:Option Expr)(t:TO):Prop :=
 ∀(pins:List (Addr×Obj)) (s:Shared) (σ:St) (H:Hp) (Q:Option Int->Hp->Prop),Inv X pins σ H s->t σ H Q ->
  wpAny (model X.prog X.w) X.A (evalPart e X.env) (λu s'=>∃o H',Inv X pins σ H' s'/\IsPart u o/\Q o H') X.xe s
def zhu:TO:=λ_ H Q=>Q none H
def tPart(t:TE):TO:=λσ H Q=>t σ H λx H1=>∃i,x=.int i/\Q (some i) H1
variable {e:Expr}{te:TE}{pos:Pos}
section
variable {lo hi:Option Expr}{tl th:TO}{p2:Pos}
theorem zin:PO X none zhu:=by
 intro pins s σ H Q I h;rw[evalPart_none];exact yen ⟨none,H,I,.none,h⟩
theorem zim(h:PE X e te):PO X (some e) (tPart te):=by
 intro pins s σ H Q I hw;rw[evalPart_some];refine AS (h pins s σ H _ I hw) λu s1 ⟨x,H1,I1,r1,q1⟩=>?_
 obtain⟨i,rfl,q⟩:=q1;obtain⟨t,rfl⟩:=r1;exact⟨some i,H1,I1,.int i t,q⟩
def SN(X:Cx)(r:V->Option Int->Option Int->Hp->VK->Prop):Prop :=
 ∀(pins:List (Addr×Obj)) (s:Shared) (σ:St) (H:Hp) (x:V) (v vl vu:Value) (lo hi:Option Int) (sl:Addr) (Q:VK),Inv X pins σ H s->RelV x v->s.heap.IsSliceOf sl vl vu .none->IsPart vl lo->IsPart vu hi->r x lo hi H Q ->
  ∃T id,typeLookup (.type T) "__getitem__"=pure (some (.builtin id))/\s.TypeIs v T/\wpAny (model X.prog X.w) X.A (getItem v (.ref sl)) (EP X pins σ Q) X.xe s
def tSl(r:V->Option Int->Option Int->Hp->VK->Prop)(te:TE)(tl th:TO):TE:=λσ H Q=>te σ H λx H1=>tl σ H1 λl H2=>th σ H2 λu H3=>r x l u H3 Q
theorem VD{r:V->Option Int->Option Int->Hp->VK->Prop}(hr:SN X r)(he:PE X e te)(hl:PO X lo tl)(hu:PO X hi th):PE X (.Subscript e (.Slice lo hi none p2) pos) (tSl r te tl th):=by
 intro pins s σ H Q I h;refine Subscript_ (AS (he pins s σ H _ I h) λv s1 ⟨x,H1,I1,r1,q1⟩=>?_)
 refine wpAny_Slice (AS (hl pins s1 σ H1 _ I1 q1) λvl s2 ⟨l,H2,I2,pl,q2⟩=>AS (hu pins s2 σ H2 _ I2 q2) λvu s3 ⟨u,H3,I3,pu,q3⟩=>?_)
 rw[evalPart_none];refine yen ?_;have I4:Inv X pins σ H3 { s3 with heap:=s3.heap.push { cls:=.type "slice",data:=.fields #[vl,vu,.none] } }:=I3.kept (t':=s3.toks) λb ob q=>ya8 _ q
 obtain⟨T,id,hT,ht,hg⟩:=hr pins { s3 with heap:=s3.heap.push { cls:=.type "slice",data:=.fields #[vl,vu,.none] } } σ H3 x v vl vu l u s3.heap.objs.size Q I4 r1 (Heap.IsSliceOf.new ..) pl pu q3
 show wpAny (model X.prog X.w) X.A (subscriptTail e (.Slice lo hi none p2) v (.ref s3.heap.objs.size)) (EP X pins σ Q) X.xe { s3 with heap:=s3.heap.push { cls:=.type "slice",data:=.fields #[vl,vu,.none] } }
 exact tail_any (ops:=[.ref s3.heap.objs.size,v]) ht hT hg (by with_unfolding_all rfl)
def IG(xs:List V)(lo hi:Option Int):List V:=(xs.drop (HT.sIx xs.length 0 lo)).take (HT.sIx xs.length xs.length hi - HT.sIx xs.length 0 lo)
theorem zcv(xs:List V)(lo hi:Option Int):(IG xs lo hi).length<=xs.length:=by
 unfold IG;rw[ydp,List.length_drop]
 omega
end
noncomputable def DB(n:Nat)(i:Int):Option Nat:=if 0<=i then (if i<n then some i.toNat else none) else if -(n:Int)<=i then some (i+n).toNat else none
def Aw{α:Type}(xs:List α)(i:Int):Option α:=(DB xs.length i).bind λj=>xs[j]?
variable {n:Nat}
theorem QG{i:Int}{j:Nat}(h:DB n i=some j):seqIndex? i n=some j/\j<n/\-(n:Int)<=i/\i<n:=by
 unfold DB at h
 by_cases h0:0<=i
 .rw[if_pos h0]at h
  by_cases h1:i<n
  .rw[if_pos h1]at h;have e:i.toNat=j:=yau h;exact⟨by rw[seqIndex_of h0 h1,e],by omega,by omega,h1⟩
  .rw[if_neg h1]at h;cases h
 .rw[if_neg h0]at h
  by_cases h1:-(n:Int)<=i
  .rw[if_pos h1]at h;have e:(i+n).toNat=j:=yau h;exact⟨by rw[seqIndex_neg (by omega) h1,e],by omega,h1,by omega⟩
  .rw[if_neg h1]at h;cases h
theorem SH{α:Type}{xs:List α}{i:Int}{v:α}(h:Aw xs i=some v):∃j,seqIndex? i xs.length=some j/\xs[j]?=some v/\j<xs.length/\-(xs.length:Int)<=i/\i<xs.length:=by
 unfold Aw at h;cases e:DB xs.length i with
 |none=>rw[e]at h;cases h
 |some j =>
  rw[e]at h;obtain⟨h1,h2,h3,h4⟩:=QG e;exact⟨j,h1,h,h2,h3,h4⟩
theorem Fg{α:Type}{xs:List α}{j:Nat}{v:α}(h:xs[j]?=some v):Aw xs (j:Int)=some v:=by
 have hj:j<xs.length:=(ya4.mp h).1
 have e:DB xs.length (j:Int)=some j:=by
  unfold DB;rw[if_pos (by omega),if_pos (by omega)];simp
 unfold Aw;rw[e];exact h
def Md(b:Expr):Prop:=∀o i,subscripted b false o i=operate [o,i] (getItem o i)
def Ez(X:Cx)(r:R2):Prop :=
 ∀(value slice:Expr) (pins:List (Addr×Obj)) (s:Shared) (σ:St) (H:Hp) (x y:V) (v u:Value) (Q:VK),Inv X pins σ H s->RelV x v->RelV y u->r x y H Q ->
  subscripted slice false v u=operate [v,u] (getItem v u)->wpAny (model X.prog X.w) X.A (subscriptTail value slice v u) (EP X pins σ Q) X.xe s
def MtR(X:Cx)(id:String)(r:V->List V->Hp->VK->Prop):Prop :=
 ∀(pins:List (Addr×Obj)) (s:Shared) (σ:St) (H:Hp) (x:V) (xs:List V) (v:Value) (us:List Value) (Q:VK),Inv X pins σ H s->RelV x v->A5 xs us->r x xs H Q ->
  wpAny (model X.prog X.w) X.A (call (.builtin id) (v::us)) (EP X pins σ Q) X.xe s
variable {ta:TE}{r:R2}{pins:List (Addr×Obj)}{σ:St}{H:Hp}{s:Shared}{xs:List V}{its:List Value}{o:Expr}{es:List Expr}{apos:Pos}
section
variable {a b:Expr}{tb:TE}
theorem Ez.or{r':R2}(h:Ez X r)(h':Ez X r'):Ez X (λx y H Q=>r x y H Q\/r' x y H Q):=by
 intro value slice pins s σ H x y v u Q I rx ry q hs
 rcases q with q|q
 .exact h value slice pins s σ H x y v u Q I rx ry q hs
 .exact h' value slice pins s σ H x y v u Q I rx ry q hs
theorem VE(hr:Ez X r)(ha:PE X a ta)(hb:PE X b tb)(hs:Md b):PE X (.Subscript a b pos) (Ha r ta tb):=by
 intro pins s σ H Q I h;exact Subscript_ (SF ha hb I h λv u s2 x y H2 I2 rx ry q=>hr a b pins s2 σ H2 x y v u Q I2 rx ry q (hs _ _))
def Ur(K:kA):R2:=λx y H Q=>∃p xs i v,x=.ref p/\y=.int i/\AY K H p xs/\Aw xs i=some v/\Q v H
def Up(K:kA):R2:=λx y H Q=>∃p xs i v,x=.ref p/\y=.int i/\Bg K H p xs/\Aw xs i=some v/\Q v H
def Uq:R2:=λx y H Q=>∃z i c,x=.str z/\y=.int i/\z.length<=sizeLine/\Aw z.cps.toList i=some c/\Q (.str ⟨#[c]⟩) H
theorem zk3:Ez X (Ur X.K):=by
 intro value slice pins s σ H x y v u Q I rx ry h hs;obtain⟨p,xs,i,z,rfl,rfl,hq,he,q⟩:=h;cases rx;obtain⟨t,rfl⟩:=ry;obtain⟨its,r,pl,hz⟩:=I.list hq;obtain⟨j,h1,h2,h3,h4,h5⟩:=SH he;obtain⟨w,ew,rw'⟩:=r.get h2;have hl:=r.length;have hn:=JK;have As:EP X pins σ Q w s:=⟨z,H,I,rw',q⟩
 by_cases h0:0<=i
 .have hj:i.toNat=j:=by
   rw[seqIndex_of h0 h5]at h1;exact yau h1
  exact item_listR pl.isList h0 (by omega) (by rw[hj];simpa using ew) As hs
 .have hj:(i+(its.toArray.size:Int)).toNat=j:=by
   rw[seqIndex_neg (by omega) h4]at h1
   rw[yak,<- hl];exact yau h1
  exact subscriptTail_builtinR (x:=w) pl.isList.typeIs slot_list_getitem.lookup
   (wpAny_getItem_list_neg (Q:=λr s'=>r=w/\EP X pins σ Q r s') pl.isList (by omega) (by rw[yak]<;>omega) (by omega) (by rw[hj];simpa using ew) ⟨rfl,As⟩) hs
theorem znm:Ez X (Up X.K):=by
 intro value slice pins s σ H x y v u Q I rx ry h hs;obtain⟨p,xs,i,z,rfl,rfl,hq,he,q⟩:=h;cases rx;obtain⟨t,rfl⟩:=ry;obtain⟨its,r,pl,hz⟩:=I.tuple hq;obtain⟨j,h1,h2,h3,h4,h5⟩:=SH he;obtain⟨w,ew,rw'⟩:=r.get h2;have hl:=r.length;have hn:=JK;have As:EP X pins σ Q w s:=⟨z,H,I,rw',q⟩
 exact subscriptTail_builtinR (x:=w) pl.typeIs slot_tuple_getitem.lookup
  (getItem_tuple (j:=j) (Q:=λr s'=>r=w/\EP X pins σ Q r s') pl (by omega) (by omega) (by rw[yak,<- hl];exact h1) (by simpa using ew) ⟨rfl,As⟩) hs
theorem znn:Ez X Uq:=by
 intro value slice pins s σ H x y v u Q I rx ry h hs;obtain⟨z,i,c,rfl,rfl,hz,he,q⟩:=h;obtain⟨t,rfl⟩:=rx;obtain⟨t',rfl⟩:=ry;obtain⟨j,h1,h2,h3,h4,h5⟩:=SH he;have hl:z.cps.toList.length=z.length:=by simp[Str.length]
 rw[hl]at h1 h4 h5;have hn:=JK
 exact tail_any (yes s z t) slot_str_getitem.lookup (getItem_str (c:=c) (by
  have e1:decide (i < -(2 ^ 63:Int))=false:=yeg (by omega)
  have e2:decide (i ≥ 2 ^ 63)=false:=yeg (by omega)
  rw[e1,e2,ydk]) (by rw[h1];simpa using h2) ⟨.str ⟨#[c]⟩,H,I.tok _,⟨_,rfl⟩,q⟩) hs
def Us(K:kA):R2:=λx y H Q=>Ur K x y H Q\/Up K x y H Q\/Uq x y H Q
theorem zno:Ez X (Us X.K):=zk3.or (znm.or znn)
theorem zdi(its:List Value)(n j:Nat)(u:Value):Obj.mapSeq (·.setIfInBounds j u) { cls:=.type "list",data:=.seq its.toArray n }={ cls:=.type "list",data:=.seq (its.set j u).toArray n }:=by
 simp[Obj.mapSeq]
theorem Inv.lst{pins:List (Addr×Obj)}{σ:St}{H:Hp}{s:Shared}{p:Addr}{xs:List V}(I:Inv X pins σ H s)(h:H p=some (.lst xs)) :
  ∃(its:List Value) (n:Nat),A5 xs its/\s.heap.get? p=some { cls:=.type "list",data:=.seq its.toArray n }/\xs.length<=sizeLine:=by
 obtain⟨z,its,n,r,e⟩:=I.hok p _ h;exact⟨its,n,r,e,z⟩
theorem Inv.lstUpd{p:Addr}{ys:List V}{its':List Value}{n':Nat}{f:Obj->Obj}(I:Inv X pins σ H s)(h:H p=some (.lst xs))(ho:s.heap.get? p=some { cls:=.type "list",data:=.seq its.toArray n })(hf:f { cls:=.type "list",data:=.seq its.toArray n }={ cls:=.type "list",data:=.seq its'.toArray n' })(r:A5 ys its')(hz:ys.length<=sizeLine)(t:Nat) :
  Inv X pins σ (upd H p (.lst ys)) { s with heap:=s.heap.update p f,toks:=t }:=by
 have e:(s.heap.update p f).get? p=some { cls:=.type "list",data:=.seq its'.toArray n' }:=by
  rw[ycb f ho (by rw[hf]<;>rfl),hf]
 refine I.write (x:=p) (e:=p) (by rw[h];trivial) (.inl rfl) (λb u hb q=>(ybf _ _ (yay hb)).trans q) ⟨_,e⟩ ?_
 exact⟨hz,its',n',r,e⟩
def rSetL:V->V->V->Hp->(Hp->Prop)->Prop:=λo i v H Q=>∃p xs k j,o=.ref p/\i=.int k/\H p=some (.lst xs)/\DB xs.length k=some j/\Q (upd H p (.lst (xs.set j v)))
theorem zfm:SQ X rSetL:=by
 intro pins s σ H o i v ov iv u Q I ro ri rv h;obtain⟨p,xs,k,j,rfl,rfl,hp,hj,q⟩:=h;cases ro;obtain⟨t,rfl⟩:=ri;obtain⟨its,n,r,ho,hz⟩:=I.lst hp;obtain⟨h1,h2,h3,h4⟩:=QG hj;have hl:=r.length;have hn:=JK
 have I':Inv X pins σ (upd H p (.lst (xs.set j v))) { s with heap:=s.heap.update p (Obj.mapSeq (·.setIfInBounds j u)) } :=
  I.lstUpd hp ho (zdi its n j u) (r.set rv j) (by rw[yc0];exact hz) s.toks
 by_cases h0:0<=k
 .have hk:k.toNat=j:=by
   rw[seqIndex_of h0 h4]at h1;exact yau h1
  exact PySem.W.ki_setAt ho h0 (by omega) (by rw[yak,<- hl];exact h4) (by rw[hk];exact⟨_,I',q⟩)
 .have hk:(k+(its.toArray.size:Int)).toNat=j:=by
   rw[seqIndex_neg (by omega) h3]at h1
   rw[yak,<- hl];exact yau h1
  exact PySem.W.ki_setBack ho (by omega) (by rw[yak,<- hl];exact h3) (by omega) (by rw[hk];exact⟨_,I',q⟩)
theorem zbv(lo hi:Option Int)(n:Nat):(sliceBounds lo hi none n).1=((HT.sIx n 0 lo:Nat):Int)/\(sliceBounds lo hi none n).2.1=((HT.sIx n n hi:Nat):Int)/\(sliceBounds lo hi none n).2.2=1:=by
 refine⟨?_,?_,rfl⟩
 .cases lo with
  |none=>simp[sliceBounds,HT.sIx]
  |some i =>
   simp only[sliceBounds,HT.sIx,Option.getD_none,show(1:Int) > 0 by decide,yet]
   by_cases h:i<0
   .simp only[h,yet]<;>omega
   .simp only[h,yeu]<;>omega
 .cases hi with
  |none=>simp[sliceBounds,HT.sIx]
  |some i =>
   simp only[sliceBounds,HT.sIx,Option.getD_none,show(1:Int) > 0 by decide,yet]
   by_cases h:i<0
   .simp only[h,yet]<;>omega
   .simp only[h,yeu]<;>omega
theorem zbd(its:List Value)(lo hi:Option Int):slicePick its.toArray lo hi none=((its.drop (HT.sIx its.length 0 lo)).take (HT.sIx its.length its.length hi - HT.sIx its.length 0 lo)).toArray:=by
 obtain⟨h1,h2,h3⟩:=zbv lo hi its.toArray.size;unfold slicePick;rw[h1,h2,h3];simp only[sliceRange_one,pick_run,yak]<;>rfl
def Uo(K:kA):V->Option Int->Option Int->Hp->VK->Prop:=λx lo hi H Q=>∃a xs,x=.ref a/\AY K H a xs/\∀p,H p=none->Q (.ref p) (upd H p (.lst (IG xs lo hi)))
theorem zi0:SN X (Uo X.K):=by
 intro pins s σ H x v vl vu lo hi sl Q I rx hs pl pu h;obtain⟨a,xs,rfl,hx,q⟩:=h;cases rx;obtain⟨its,r,ht,hz⟩:=I.list hx;have hlen:=r.length;refine⟨"list",_,slot_list_getitem.lookup,ht.isList.typeIs,?_⟩;refine wpAny_getItem_list_slice ht.isList hs pl pu .none (by simp) ?_ (by rw[yak]<;>omega)
 rw[zbd,<- hlen];refine⟨.ref s.heap.objs.size,_,I.laid (t':=s.toks) (o:=.lst (IG xs lo hi)) (λb ob q=>ya8 _ q) (yac _) ?_,rfl,q _ (I.hok.fresh (yac _))⟩
 exact⟨yaw (zcv xs lo hi) hz,_,0,(r.drop (HT.sIx xs.length 0 lo)).take (HT.sIx xs.length xs.length hi - HT.sIx xs.length 0 lo),yal _ rfl⟩
theorem zce:Bv X (.type "list") (λxs H Q=>∃p ys,xs=[.ref p]/\(AY X.K H p ys\/Bg X.K H p ys)/\∀l,H l=none->Q (.ref l) (upd H l (.lst ys))):=by
 intro pins s σ H xs us Q I r h;obtain⟨p,ys,rfl,hq,q⟩:=h;obtain⟨u,rfl,rx⟩:=E6 r;cases rx
 have As:∀(its:List Value),A5 ys its->ys.length<=sizeLine->∀(h':Heap) (c':Nat),(∀b o',s.heap.get? b=some o'->h'.get? b=some o') ->
   h'.get? s.heap.objs.size=some { cls:=.type "list",dict:=none,data:=.seq its.toArray c',slots:=#[] }->EP X pins σ Q (.ref s.heap.objs.size) { s with heap:=h' }:=λits r' hz h' c' kp e =>
  ⟨.ref s.heap.objs.size,_,I.laid (t':=s.toks) kp (yac _) (show BQ X.prog X.w _ h' _ (.lst ys) from⟨hz,its,c',r',e⟩),rfl,q _ (I.hok.fresh (yac _))⟩
 rcases hq with hq|hq
 .obtain⟨its,r',pl,hz⟩:=I.list hq;have hlen:=r'.length;obtain⟨o,ho,hc,n,hd⟩:=pl.isList;exact call_list_seq p (.inl rfl) ho hc hd (λh' c' kp e=>As its r' hz h' c' kp e) (by simp only[yak]<;>omega)
 .obtain⟨its,r',pl,hz⟩:=I.tuple hq;have hlen:=r'.length;obtain⟨o,ho,hc,n,hd⟩:=pl;exact call_list_seq p (.inr rfl) ho hc hd (λh' c' kp e=>As its r' hz h' c' kp e) (by simp only[yak]<;>omega)
theorem zbt:Bv X (.type "tuple") (λxs H Q=>∃p ys,xs=[.ref p]/\((AY X.K H p ys/\∀l,H l=none->Q (.ref l) (upd H l (.tup ys)))\/(Bg X.K H p ys/\Q (.ref p) H))):=by
 intro pins s σ H xs us Q I r h;obtain⟨p,ys,rfl,h⟩:=h;obtain⟨u,rfl,rx⟩:=E6 r;cases rx
 rcases h with ⟨hq,q⟩|⟨hq,q⟩
 .obtain⟨its,r',pl,hz⟩:=I.list hq;have hlen:=r'.length;refine call_tuple_list pl.isList (λh' kp=>?_) (by simp only[yak]<;>omega)
  have I1:Inv X pins σ H { s with heap:=h' }:=I.kept (t':=s.toks) kp
  have I2:Inv X pins σ (upd H h'.objs.size (.tup ys)) { s with heap:=h'.push { cls:=.type "tuple",data:=.seq its.toArray } } :=
   I1.laid (t':=s.toks) (λb o e=>ya8 _ e) (yac _) (show BQ X.prog X.w _ _ _ (.tup ys) from⟨hz,its,r',IsTup.new _ _⟩)
  exact⟨.ref h'.objs.size,_,I2,rfl,q _ (I1.hok.fresh (yac _))⟩
 .obtain⟨its,r',pl,hz⟩:=I.tuple hq;exact call_tuple_same pl ⟨.ref p,H,I,rfl,q⟩
def TB(K:kA)(T:String)(x:V)(H:Hp):Prop:=match x with
 |.str _=>T="str"
 |.int _=>T="int"
 |.ref p=>(T="list"/\∃xs,AY K H p xs)\/(T="tuple"/\∃o,K.lookup p=some o/\o.cls=.type "tuple"/\o.dict=none) \/
   (T="dict"/\((∃kvs,H p=some (.dK kvs))\/∃kvs,H p=some (.dT kvs)))\/(T="set"/\∃S n,H p=some (.set S n))
 |_=>False
theorem zl2{T:String}{x:V}{v:Value}(I:Inv X pins σ H s)(r:RelV x v)(ty:TB X.K T x H) :
  s.TypeIs v T/\∀a,v=.ref a->∃ob,s.heap.get? a=some ob/\ob.dict=none:=by
 cases x with
 |str z =>
  obtain⟨t,rfl⟩:=r;cases (show T="str" from ty);exact⟨yes s z t,λ_ e=>nomatch e⟩
 |int i =>
  obtain⟨t,rfl⟩:=r;cases (show T="int" from ty);exact⟨typeIs_int s i t,λ_ e=>nomatch e⟩
 |ref p =>
  cases r
  rcases ty with ⟨rfl,xs,hq⟩|⟨rfl,o,hk,hc,hd⟩|⟨rfl,hk⟩|⟨rfl,S,n,hk⟩
  .obtain⟨its,_,pl,_⟩:=I.list hq;refine⟨pl.isList.typeIs,λa e=>?_⟩
   cases e;obtain⟨o,n,e,c,hd,_⟩:=pl;exact⟨o,e,hd⟩
  .refine⟨⟨o,I.kIn p o hk,hc⟩,λa e=>?_⟩
   cases e;exact⟨o,I.kIn _ o hk,hd⟩
  .have z:∃o,s.heap.get? p=some o/\o.ExactDict:=by
    rcases hk with ⟨kvs,hk⟩|⟨kvs,hk⟩
    .obtain⟨_,_,_,_,o,_,_,e,ex,_⟩:=I.hok p _ hk;exact⟨o,e,ex⟩
    .obtain⟨_,_,_,_,o,_,_,e,ex,_⟩:=I.hok p _ hk;exact⟨o,e,ex⟩
   obtain⟨o,e,ex⟩:=z;refine⟨⟨o,e,ex.1⟩,λa e2=>?_⟩
   cases e2;exact⟨o,e,ex.2.1⟩
  .obtain⟨o,_,_,_,e,ex,_⟩:=I.hok p _ hk;refine⟨⟨o,e,ex.1⟩,λa e2=>?_⟩
   cases e2;exact⟨o,e,ex.2.1⟩
 |_=>exact False.elim ty
def tBM(K:kA)(T:String)(r:V->List V->Hp->VK->Prop)(to:TE)(t:TA):TE:=λσ H Q=>to σ H λx H1=>TB K T x H1/\t σ H1 λxs H2=>r x xs H2 Q
variable {to:TE}{t:TA}{name:Str}{cpos:Pos}{T id:String}{r:V->List V->Hp->VK->Prop}
theorem Iz(pa:PlainAttrs T)(slot:Slot T name id)(hty:typeOf (.builtin id)=pure (.type "method_descriptor"))(hm:MtR X id r)(ho:PE X o to)(ha:PA X (e::es) t)
  (hbase:attributeBase o name X.env (eval o X.env)=eval o X.env:=by rfl)
  (hfew : ((backTo cpos (starEach (e :: es) X.env)).all (fun x => !x.1) && (backToKw cpos (keywordEach [] X.env)).all (fun x => x.1.isSome)
   && decide ((e::es).length+([]:List Keyword).length+(if ([]:List Keyword).isEmpty then 0 else 1)<30))=true:=by rfl)
  (hline:(apos.endLine == cpos.line)=true:=by rfl) (hs:starEach (e::es) X.env=(false,eval e X.env)::starEach es X.env:=by rfl) (hplain:(backTo cpos (starEach es X.env)).any (·.1)=false:=by rfl) :
  PE X (.Call (.Attribute o name apos) (e::es) [] cpos) (tBM X.K T r to t):=by
 intro pins s σ H Q I h;refine wpAny_Call_method_late hbase hfew hline rfl (AS (ho pins s σ H _ I h) λv s1 ⟨x,H1,I1,r1,ty,q1⟩=>?_)
 obtain⟨h1,h2⟩:=zl2 I1 r1 ty;refine⟨T,id,pa,slot,hty,h1,h2,?_⟩;have hA:=ha cpos pins s1 σ H1 _ I1 q1;rw[hs]at hA ⊢;refine ydg (by show(false || (backTo cpos (starEach es X.env)).any (·.1))=false;rw[hplain]<;>rfl) (Calls.evalArgs_plain ?_)
 exact AS hA λus s2 ⟨vs,H2,I2,r2,q2⟩=>hm pins s2 σ H2 x vs v us Q I2 r1 r2 q2
end
def Jl(X:Cx)(id:String)(r:V->List V->Hp->VK->Prop):Prop :=
 ∀(pins:List (Addr×Obj)) (s:Shared) (σ:St) (H:Hp) (x:V) (xs:List V) (v:Value) (us:List Value) (Q:VK),Inv X pins σ H s->RelV x v->A5 xs us->r x xs H Q ->
  wpAny (model X.prog X.w) X.A (call (.builtin id) (v::us)) (EP X pins σ Q) X.xe s
theorem A5.one:∀{x:V} {us:List Value},A5 [x] us->∃u,us=[u]/\RelV x u
 |_,_,.cons r .nil=>⟨_,rfl,r⟩
theorem A5.rep{xs:List V}{us:List Value}(h:A5 xs us):∀k:Nat,A5 (List.replicate k xs).flatten (List.replicate k us).flatten
 |0=>.nil
 |k+1=>by
  rw[ybr,ybr,ycc,ycc];exact A5.append h (A5.rep h k)
theorem YB(its:List Value):∀(k:Nat) (acc:List Value),
  List.foldl (λx1 x2=>x1++x2) acc.toArray (List.replicate k its.toArray)=(acc++(List.replicate k its).flatten).toArray
 |0,acc=>by simp
 |k+1,acc=>by
  have e:acc.toArray++its.toArray=(acc++its).toArray:=by simp
  have e2:(acc++its)++(List.replicate k its).flatten=acc++(List.replicate (k+1) its).flatten:=by
   rw[ybr,ycc,ybu]
  rw[<- e2,<- YB its k (acc++its),<- e,ybr,ycm]
variable {b:Addr}{t':Nat}
section
variable {l:Addr}{ys zs:List V}
theorem Inv.lset{its':List Value}{f:Array Value->Array Value}(I:Inv X pins σ H s)(hH:H l=some (.lst xs))(e:s.heap.get? l=some { cls:=.type "list",data:=.seq its.toArray n })(hf:f its.toArray=its'.toArray)(hv:A5 ys its')(hz:ys.length<=sizeLine) :
  Inv X pins σ (upd H l (.lst ys)) { s with heap:=s.heap.update l (Obj.mapSeq f),toks:=t' }:=by
 have q:=PySem.IsL.update e f;rw[hf]at q;refine I.write (x:=l) (e:=l) (by rw[hH];exact trivial) (.inl rfl) (λb' u hb hu=>(ybf s.heap (Obj.mapSeq f) (yay hb)).trans hu) ⟨_,q⟩ ?_
 exact⟨hz,its',_,hv,q⟩
theorem Inv.lnew(I:Inv X pins σ H s)(hv:A5 ys its)(hz:ys.length<=sizeLine) :
  Inv X pins σ (upd H s.heap.objs.size (.lst ys)) { s with heap:=s.heap.push { cls:=.type "list",data:=.seq its.toArray },toks:=t' } :=
 I.laid (λ_ _ q=>ya8 _ q) (yac _) ⟨hz,its,0,hv,yal _ rfl⟩
theorem Inv.fresh(I:Inv X pins σ H s):H s.heap.objs.size=none:=I.hok.fresh (yac _)
theorem Inv.lstM(I:Inv X pins σ H s)(hH:H l=some (.lst xs)):xs.length<=sizeLine/\∃(its:List Value) (n:Nat),A5 xs its/\xs.length=its.length/\s.heap.get? l=some { cls:=.type "list",data:=.seq its.toArray n }:=by
 obtain⟨z,its,n,r,e⟩:=I.hok l _ hH;exact⟨z,its,n,r,r.length,e⟩
theorem WS(h:n<=sizeLine):Builtin.List.listTooLong n=false:=by
 unfold Builtin.List.listTooLong;exact yeg (by omega)
end
section
def zid:V->List V->Hp->VK->Prop:=λx vs H Q=>∃l xs y,x=.ref l/\vs=[y]/\H l=some (.lst xs)/\xs.length<sizeLine/\Q .non (upd H l (.lst (xs++[y])))
theorem zeh:Jl X "list.append" zid:=by
 intro pins s σ H x vs v us Q I rx rv h;obtain⟨l,xs,y,rfl,rfl,hH,hz,q⟩:=h;cases rx;obtain⟨u,rfl,ru⟩:=rv.one;obtain⟨z,its,n,r,hl,e⟩:=I.lstM hH;refine yev F.slot_list_append ⟨_,e,rfl⟩ F.entry_list_append (F.args_list_append_2 _ _) (PySem.list_append l its.toArray n u (by rw[yak];omega)) ⟨e,?_⟩
 refine⟨.non,_,I.lset (its':=its++[u]) hH e (by simp) (r.append (.cons ru .nil)) ?_,rfl,q⟩
 rw[yad,ybi]
 omega
def zic:V->List V->Hp->VK->Prop:=λx vs H Q=>∃l b xs zs,x=.ref l/\vs=[.ref b]/\H l=some (.lst xs)/\H b=some (.lst zs)/\xs.length+zs.length<=sizeLine/\Q .non (upd H l (.lst (xs++zs)))
theorem zeg:Jl X "list.extend" zic:=by
 intro pins s σ H x vs v us Q I rx rv h;obtain⟨l,b,xs,zs,rfl,rfl,hH,hB,hz,q⟩:=h;cases rx;obtain⟨u,rfl,ru⟩:=rv.one;cases ru;obtain⟨z,its,n,r,hl,e⟩:=I.lstM hH;obtain⟨z2,its2,n2,r2,hl2,e2⟩:=I.lstM hB;have hsz:its.toArray.size+its2.toArray.size<=sizeLine:=by rw[yak,yak];omega
 have hlong:¬ (!its.toArray.isEmpty && Builtin.List.listTooLong (its.toArray.size+its2.toArray.size))=true:=by
  rw[WS hsz,ye2];exact yb8
 refine yev F.slot_list_extend ⟨_,e,rfl⟩ F.entry_list_extend (F.args_list_extend_2 _ _)
  (AutoSeq1.list_extend_list_list_0 l its.toArray n b its2.toArray n2 hlong (by rw[yak];omega) (by omega)) ⟨e,e2,?_⟩
 refine⟨.non,_,I.lset (its':=its++its2) hH e (by simp) (r.append r2) ?_,rfl,q⟩
 rw[yad]
 omega
def rCat:R2:=λx y H Q=>∃l b xs zs,x=.ref l/\y=.ref b/\H l=some (.lst xs)/\H b=some (.lst zs)/\xs.length+zs.length<=sizeLine/\∀p,H p=none->Q (.ref p) (upd H p (.lst (xs++zs)))
theorem zmw:A6 X (binaryOp .Add) rCat:=by
 intro pins s σ H x y v u Q I rx ry h;obtain⟨l,b,xs,zs,rfl,rfl,hH,hB,hz,q⟩:=h;cases rx;cases ry;obtain⟨z,its,n,r,hl,e⟩:=I.lstM hH;obtain⟨z2,its2,n2,r2,hl2,e2⟩:=I.lstM hB;refine PySem.P.add_list e e2 ?_ (by rw[yak,yak];omega)
 have ea:its.toArray++its2.toArray=(its++its2).toArray:=by simp
 rw[ea];exact⟨.ref _,_,I.lnew (t':=s.toks) (r.append r2) (by rw[yad];omega),rfl,q _ I.fresh⟩
def rRep:R2:=λx y H Q=>∃l k xs,x=.ref l/\y=.int k/\H l=some (.lst xs)/\-(2 ^ 63)<=k/\k<2 ^ 63/\xs.length * k.toNat<=sizeLine /\
 ∀p,H p=none->Q (.ref p) (upd H p (.lst (List.replicate k.toNat xs).flatten))
theorem zjt{α:Type}(xs:List α)(k:Nat):(List.replicate k xs).flatten.length=k * xs.length:=by
 induction k with
 |zero=>simp
 |succ k ih=>rw[ybr,ycc,yad,ih,Nat.succ_mul,Nat.add_comm]
theorem zms:A6 X (binaryOp .Mult) rRep:=by
 intro pins s σ H x y v u Q I rx ry h;obtain⟨l,k,xs,rfl,rfl,hH,h1,h2,hz,q⟩:=h;cases rx;obtain⟨t,rfl⟩:=ry;obtain⟨z,its,n,r,hl,e⟩:=I.lstM hH;have hlen:its.toArray.size * k.toNat<=sizeLine:=by rw[yak,<- hl];exact hz
 have hcap:¬ its.toArray.size * k.toNat > (2 ^ 63 - 1) / 8:=by
  have:(sizeLine:Nat)<=(2 ^ 63 - 1) / 8:=by decide
  omega
 have hfit:¬ (!Builtin.List.listFitsIndex k)=true:=by
  rw[fitsIndex_both h1 h2];exact yb8
 have hlong:¬ Builtin.List.listTooLong (its.toArray.size * k.toNat)=true:=by
  rw[WS hlen];exact yb8
 have hnew:List.foldl (λx1 x2=>x1++x2) #[] (List.replicate (if its.toArray.isEmpty=true then 0 else k.toNat) its.toArray)=(List.replicate k.toNat its).flatten.toArray:=by
  have f0:∀m:Nat,List.foldl (λx1 x2=>x1++x2) #[] (List.replicate m its.toArray)=(List.replicate m its).flatten.toArray:=λm=>by
   have:=YB its m [];rw[ybl]at this;exact this
  rw[f0];cases its with
  |nil=>simp
  |cons a r'=>rw[if_neg (by simp)]
 refine wpAny_binaryOp_repeat_ref (T:="list") (U:="int") (by decide) ⟨_,e,rfl⟩ (λs'=>typeIs_int s' k t) noFill_list_mul F.fills_int_mul F.slot_int_rmul repeat_list F.slot_int_index.lookup
  (yev F.slot_int_rmul (typeIs_int s k t) F.entry_int_rmul (F.args_int_rmul_2 _ _) (int___rmul___int_list k t l its.toArray n)
   ⟨e,rfl,⟨_,e,rfl⟩,yev F.slot_list_mul ⟨_,e,rfl⟩ F.entry_list_mul (F.args_list_mul_2 _ _) (AutoListH.list___mul___list_int_3 l its.toArray n k t hfit hcap hlong) ⟨e,?_⟩⟩)
 rw[hnew];exact⟨.ref _,_,I.lnew (t':=s.toks) (r.rep k.toNat) (by rw[zjt,Nat.mul_comm];exact hz),rfl,q _ I.fresh⟩
end
variable {prog:Program}{w:World}{A:Around}
section
end
section
end
end L2
namespace Att
open PySem PySem.W PySem.Calls PyProof.Rows
theorem zan{P:Params}{h:Heap}:∀(ns:List Int) (vs:List Value),WellAll P h vs (ns.map WData.int)->IntsAre vs ns:=by
 intro ns
 induction ns with
 |nil =>
  intro vs w;rw[yc1]at w;cases w;exact .nil
 |cons n ns ih =>
  intro vs w;rw[yae]at w;cases w with
  |cons a b =>
   cases a;exact .cons _ _ (ih _ b)
theorem ze3{l:OpenLaw}{n:Nat}(hn:l.most=some n){P:Params}{h:Heap}{args:List WData}{vals:List Value}
  (hpre:l.row.toRowW.claim.pre args=true) (hwl:WellAll P h vals args) :
  ∃a vs ns,vals=[Value.ref a]/\args=[WData.list (ns.map WData.int)]/\h.get? a=some { cls:=.type "list",data:=.seq vs.toArray }/\IntsAre vs ns/\ns.length<=n:=by
 have hsh:WShape.hasAll [] args [.list .int]=true:=(pre_splitW hpre).1;have hc:l.pre.holds [] { args:=args }=true:=(pre_splitW hpre).2;obtain⟨d,r,rfl,h1,h2⟩:=hasAllW_cons hsh;obtain rfl:=hasAllW_nil h2;obtain⟨xs,rfl,h3⟩:=hasW_list h1;obtain⟨ns,rfl⟩:=items_int h3
 have hlen:ns.length<=n:=by
  unfold OpenLaw.pre at hc
  have h4:(WTm.not (.lt (.lit (.int (n:Int))) (.len (.arg 0)))).holds [] { args:=[.list (ns.map .int)] }=true:=by
   have h4:=(holds_andW hc).1;rw[hn]at h4;exact h4
  have h5:=condW_of h4 (w_not (w_lt w_lit (w_len_list (w_arg rfl))));rw[ya1]at h5;refine Nat.le_of_not_lt λq=>?_
  have q':(n:Int)<((ns.length:Nat):Int):=by omega
  first
   |(rw[yew q']at h5;exact absurd h5 (by decide))
   |(simp at h5;omega)
 cases hwl with
 |cons w1 w2 =>
  cases w2;cases w1 with
  |list ho hall=>exact⟨_,_,ns,rfl,rfl,ho,zan ns _ hall,hlen⟩
theorem ze8(l:OpenLaw)(args:List WData):l.row.toRowW.claim.post args (.bool true) args=true :=
 postW_of (r:=l.row.toRowW) (X:=(true == true))
  (show WShape.has [] (.bool true) .bool=true by first|rfl|decide|simp[WShape.has,WShape.arms,WShape.armsAll])
  (show(WTm.eq .res (.lit (.bool true))).value [] { args:=args,res:=some (.bool true),after:=args }=some (.bool (true == true)) from w_eq_bool (w_res rfl) w_lit) rfl
theorem attach_call{l:OpenLaw}{n:Nat}{q:Program}{loose:List Str}{XP:(Str->Option Value)->Heap->Prop}{YP:World->Heap->Prop}{d:DefRec}
  (hn:l.most=some n) (hdf:d.params.defaults=[])
  (call : ∀ (w : World) (s₀ s₁ : Shared) (mg mb : Str -> Option Value) (fa : Addr) (o : Obj) (pm cd doc : Value) (a : Addr) (vs : List Value) (ns : List Int),
   Ground q loose [] XP w s₀ mg mb s₁.heap->YP w s₁.heap ->
   s₁.heap.get? fa=some o->o.data=.func (docDef d.name d.params d.body d.scope pm cd doc)->s₁.heap.CodeRec cd d.name->mg d.name=some (.ref fa) ->
   s₁.heap.get? a=some { cls:=.type "list",data:=.seq vs.toArray }->IntsAre vs ns->ns.length<=n->s₁.gens=#[] ->
   codeAny (model l.prog w) callerA (.call (.ref fa) ⟨[.ref a],[]⟩) (λr s'=>r=.ok (.ret (.bool true))/\OldK s₁.heap s'.heap/\s'.os=s₁.os/\AllBare s'.gens) s₁) :
  WalkO q loose XP YP l.row.toRowW d [] (λf vs=>PySem.call f vs):=by
 intro w s₀ s₁ mg mb G Y fa o pm cd doc dV kV ho hd hcd hD hmg hg args vals as hpre hlay hrd hwl hlo;obtain rfl:dV=.none:=Dflts.none hD hdf;obtain rfl:kV=.none:=Dflts.noKw hD;obtain⟨a,vs,ns,rfl,rfl,hobj,hints,hlen⟩:=ze3 hn hpre hwl;refine enter_call (yex (call w s₀ s₁ mg mb fa o pm cd doc a vs ns G Y ho (fd_plain hd) hcd hmg hobj hints hlen hg) λr s' hq=>?_)
 obtain⟨rfl,h2,h3,h4⟩:=hq;exact⟨.inl ⟨.bool true,.bool true,[],rfl,λ_=>rfl,.bool true,ze8 l _,λ_=>⟨List.Pairwise.nil,λ_ hm=>(nomatch hm)⟩⟩,h2,h3,h4⟩
section
variable {prog:Program}{w:World}{A:Around}{E:Value->Shared->Prop}{s:Shared}{K:Frag}
end
end Att
namespace L2
open PySem PySem.Spec PyProof.Rows
variable {X:Cx}{E:Value->Shared->Prop}
theorem Sv:∀{vs:List Value} {ns:List Int},IntsAre vs ns->A5 (ns.map V.int) vs
 |_,_,.nil=>.nil
 |_,_,.cons n t h=>.cons ⟨t,rfl⟩ (Sv h)
def SR(H:Hp):Prop:=∀b,H b=none\/∃o xs,H b=some (.frz o (.lst xs))
variable {P:Program}{w:World}{mg:Str->Option Value}{CX:G0}{a:Addr}{fd:FuncData}{x:Str}{sp:Sp}
theorem zgn{K:kA}{mb:Str->Option Value}{k:Nat}{fa:Addr}{s₁:Shared}{vs:List Value}{ns:List Int}(KX:K.In s₁.heap)(hns:s₁.heap.Ns mainGlobals mg)(hb:s₁.heap.Ns builtinsNs mb)(hbb:∀x:Str,x≠"__name__"->mb x=bootBuiltins x)(hlim:s₁.heap.NoLimit)(hg:s₁.gens=#[])(ha:s₁.heap.get? a=some { cls:=.type "list",data:=.seq vs.toArray })(hi:IntsAre vs ns)(hl:ns.length<=sizeLine)(hr:Room k callerA)(F:∀base:Heap,K.In base->base.Ns mainGlobals mg->FnOk P w K mg base CX k fa fd [x] sp)(hbind:∀(s:Shared) (u:Value),BindsTo s fd ⟨[u],[]⟩ [(x,u)])(hsp:∀H:Hp,SR H->AY K H a (ns.map V.int)->sp [.ref a] H (λv _=>v=.bl true) λ_ _ _=>False)(hCX:∀H e s',CX [] H s₁ (λ_ _ _=>False) e s'->False) :
  codeAny (model P w) callerA (.call (.ref fa) ⟨[.ref a],[]⟩) (λr s'=>r=.ok (.ret (.bool true))/\OldK s₁.heap s'.heap/\s'.os=s₁.os/\AllBare s'.gens) s₁:=by
 have rv:=Sv hi;have lenV:=hi.length
 have core:∀H:Hp,SR H->AY K H a (ns.map V.int)->HOk P w H s₁.heap->(∀b,H b≠none->b=a)->(H a≠none->K.lookup a=none) ->
   codeAny (model P w) callerA (.call (.ref fa) ⟨[.ref a],[]⟩) (λr s'=>r=.ok (.ret (.bool true))/\OldK s₁.heap s'.heap/\s'.os=s₁.os/\AllBare s'.gens) s₁:=by
  intro H hO hS hok hA hK;have base_of:∀{b:Addr} {o:Obj},s₁.heap.get? b=some o->H b=none->(F8 s₁.heap H).get? b=some o:=λe n=>zgu e n
  have noA:∀{b:Addr} {o:Obj} {es:Array DictEntry} {ep:Nat},s₁.heap.get? b=some o->o.data=.dict es ep->H b=none:=λ{b o es ep} e d=>by
   cases q:H b with
   |none=>rfl
   |some u =>
    have e':b=a:=hA b (by rw[q];simp)
    subst e';rw[ha]at e;cases e;have d':Data.seq vs.toArray _=Data.dict es ep:=d;cases d'
  have nsK:∀{b:Addr} {m:Str->Option Value},s₁.heap.Ns b m->(F8 s₁.heap H).Ns b m:=λ{b m} ⟨o,es,ep,e,d,r⟩=>⟨o,es,ep,base_of e (noA e d),d,r⟩
  have hKb:K.In (F8 s₁.heap H):=λb o e=>base_of (KX b o e) (by
   cases q:H b with
   |none=>rfl
   |some u =>
    have e':b=a:=hA b (by rw[q];simp)
    subst e';rw[hK (by rw[q];simp)]at e;cases e)
  have hM:Mod K mg (F8 s₁.heap H):=⟨hKb,nsK hns,⟨mb,nsK hb,hbb⟩,let ⟨mc,h1,h2⟩:=hlim;⟨mc,nsK h1,h2⟩⟩;have e0:Env0 P w K mg (F8 s₁.heap H) callerA [] s₁ H:=⟨rfl,hM,λb o e=>zjd e,Nat.le_of_eq (zer _ _),trivial,λb hb=>absurd (show b∈([]:List Addr) from hb) (by simp),hok,.of_eq hg⟩
  refine yex ((F _ hKb (nsK hns)).run callerA [] s₁ H ⟨[.ref a],[]⟩ [.ref a] [.ref a] _ _ hr e0 (hbind s₁ (.ref a)) (.cons rfl .nil) (hsp H hO hS)) λr s' h=>?_
  cases r with
  |error e=>exact(hCX H e s' h).elim
  |ok fl =>
   cases fl with
   |next=>exact False.elim h
   |brk=>exact False.elim h
   |cont=>exact False.elim h
   |ret u =>
    obtain⟨v,H',os,bare,un,hok',r',q⟩:=h;have q':v=.bl true:=q;subst q';obtain rfl:u=Value.bool true:=r';refine⟨rfl,OldK.of_keep λb o e=>?_,os,bare⟩
    cases q:H b with
    |none=>exact un.keep b o e q (by intro z;exact absurd (show b∈([]:List Addr) from z) (by simp)) (by simp)
    |some u =>
     rcases hO b with z|⟨ob,xs,z⟩
     .rw[q]at z;cases z
     .have z2:=un.frzs b ob _ z;obtain⟨e1,_⟩:=hok b _ z;obtain⟨e2,_⟩:=hok' b _ z2;rw[e]at e1;cases e1;exact e2
 cases hk:K.lookup a with
 |some o =>
  have e:=KX a o hk;rw[ha]at e;cases e;refine core (λ_=>none) (λ_=>.inl rfl) (.inr ⟨_,vs.toArray,_,hk,rfl,rfl,rfl,by rw[yak,lenV];exact hl,by simpa using rv⟩) (λb u z=>by have z':(none:Option HO)=some u:=z;cases z') (λb z=>absurd rfl z) λz=>absurd rfl z
 |none =>
  refine core (λb=>if b=a then some (.frz { cls:=.type "list",data:=.seq vs.toArray } (.lst (ns.map V.int))) else none) (λb=>?_) (.inl (.inr ⟨{ cls:=.type "list",data:=.seq vs.toArray },if_pos rfl⟩)) (λb u z=>?_) (λb z=>?_) λ_=>hk
  .by_cases hb:b=a
   .exact .inr ⟨_,_,if_pos hb⟩
   .exact .inl (if_neg hb)
  .by_cases hb:b=a
   .have z':=(if_pos hb).symm.trans z;cases z';subst hb;exact⟨ha,by rw[ya1];exact hl,vs,_,rv,ha⟩
   .have z':=(if_neg hb).symm.trans z;cases z'
  .by_cases hb:b=a
   .exact hb
   .exact absurd (if_neg hb) z
variable {n:Nat}
theorem walk_of{l:PySem.W.OpenLaw}{k:Nat}{q:Program}{loose:List Str}{XP:(Str->Option Value)->Heap->Prop}{YP:World->Heap->Prop}{d:DefRec}{K:Params->kA}{CX:World->G0}{sp:World->Sp}(hn:l.most=some n)(hn2:n<=sizeLine)(hdf:d.params.defaults=[])(hr:Room k callerA)(hY:∀(w:World) (h:Heap),YP w h->(K w.params).In h)(F:∀(w:World) (mg:Str->Option Value) (fa:Addr) (h:Heap),(K w.params).In h->h.Ns mainGlobals mg->mg d.name=some (.ref fa) ->
   ∃fd:FuncData,(∀(s:Shared) (u:Value),BindsTo s fd ⟨[u],[]⟩ [(x,u)]) /\
    ∀base:Heap,(K w.params).In base->base.Ns mainGlobals mg->FnOk l.prog w (K w.params) mg base (CX w) k fa fd [x] (sp w)) (hsp:∀(w:World) (H:Hp) (a:Addr) (ns:List Int),ns.length<=n->SR H->AY (K w.params) H a (ns.map V.int)->sp w [.ref a] H (λv _=>v=.bl true) λ_ _ _=>False) (hCX:∀(w:World) (H:Hp) (s:Shared) (e:Value) (s':Shared),CX w [] H s (λ_ _ _=>False) e s'->False) :
  PySem.W.WalkO q loose XP YP l.row.toRowW d [] (λf vs=>PySem.call f vs):=by
 refine Att.attach_call hn hdf λw s₀ s₁ mg mb fa o pm cd doc a vs ns G Y ho hd hcd hmg hobj hints hlen hg=>?_
 have KX:=hY w _ Y;obtain⟨fd,hb,hF⟩:=F w mg fa _ KX G.T.g hmg;exact zgn KX G.T.g G.T.b G.T.builtins G.T.nolimit hg hobj hints (yaw hlen hn2) hr hF hb (λH hO hS=>hsp w H a ns hlen hO hS) λH e s'=>hCX w H s₁ e s'
def ID(s:Stmt):Arguments:=match s with
 |.FunctionDef _ a _ _ _ _ _ _ _ _=>a
 |_=>{ posonlyargs:=[],args:=[],vararg:=none,kwonlyargs:=[],kw_defaults:=[],kwarg:=none,defaults:=[] }
def Ab(s:Stmt):List Stmt:=match s with
 |.FunctionDef _ _ b _ _ _ _ _ _ _=>b
 |_=>[]
noncomputable def AL(s:Stmt):Scope:=match s with
 |.FunctionDef _ _ _ _ _ _ sc _ _ _=>sc
 |_=>{ kind:=.function,names:=[],isGenerator:=false,isCoroutine:=false }
abbrev HU:G0:=λ_ _ _ _ _ _=>False
abbrev E0:XK:=λ_ _ _=>False
variable {base:Heap}
section
variable {K:kA}
end
section
end
theorem Lb{A B:Prop}(h:B):if false=true then A else B:=by
 rw[if_neg yb8];exact h
theorem La{A B:Prop}(h:A):if true=true then A else B:=by
 rw[if_pos rfl];exact h
def AZ(H H':Hp):Prop:=∀b o,H b=some o->H' b=some o
theorem AZ.refl(H:Hp):AZ H H:=λ_ _ h=>h
variable {H:Hp}
theorem AZ.trans{H1 H2:Hp}(a:AZ H H1)(b:AZ H1 H2):AZ H H2:=λc o h=>b c o (a c o h)
variable {H':Hp}{xs:List V}
theorem AZ.seq{K:kA}(e:AZ H H')(h:AY K H a xs):AY K H' a xs:=by
 rcases h with (h|⟨o,h⟩)|h
 .exact .inl (.inl (e _ _ h))
 .exact .inl (.inr ⟨o,e _ _ h⟩)
 .exact .inr h
variable {y:V}{u:Value}
section
variable {κ:Type} [DecidableEq κ]
noncomputable def DW(kvs:List (κ×V))(k:κ):Option V:=(kvs.find? λkv=>decide (kv.1=k)).map (·.2)
noncomputable def Cy(kvs:List (κ×V))(k:κ)(v:V):List (κ×V) :=
 if (kvs.any λkv=>decide (kv.1=k))=true then kvs.map (λkv=>if kv.1=k then (kv.1,v) else kv) else kvs++[(k,v)]
theorem Jz{p:κ×V}{r:List (κ×V)}{k:κ}(e:p.1=k):DW (p::r) k=some p.2:=by simp[DW,ycn,e]
theorem KA{p:κ×V}{r:List (κ×V)}{k:κ}(e:¬ p.1=k):DW (p::r) k=DW r k:=by simp[DW,ycn,e]
theorem Sx(k:κ):∀kvs:List (κ×V),(kvs.any λkv=>decide (kv.1=k))=(DW kvs k).isSome
 |[]=>rfl
 |p::r=>by
  rw[ye7]
  by_cases e:p.1=k
  .simp only[Jz e,yew e,yed,Option.isSome_some]
  .rw[KA e,yeg e,ydl];exact Sx k r
theorem Wj(kvs:List (κ×V))(k:κ)(v:V):(Cy kvs k v).length<=kvs.length+1:=by
 unfold Cy;split
 .rw[ya1];omega
 .rw[yad,yao,ybd];omega
theorem DD.isSome_eq{o:Option V}{u:Option Value}(r:DD o u):o.isSome=u.isSome:=by
 cases o with
 |none=>cases u with
  |none=>rfl
  |some _=>exact(show False from r).elim
 |some _=>cases u with
  |none=>exact(show False from r).elim
  |some _=>rfl
theorem KV.val{kvs:List (κ×V)}{vs:List (κ×Value)}(r:KV kvs vs)(k:κ):DD (DW kvs k) (valueAt vs k):=by
 unfold KV at r
 induction r with
 |nil=>exact True.intro
 |@cons p q ps qs h t ih =>
  obtain⟨h1,h2⟩:=h
  by_cases e:p.1=k
  .have e':q.1=k:=h1.symm.trans e;have b:valueAt (q::qs) k=some q.2:=by simp[valueAt,ycn,e']
   rw[Jz e,b];exact h2
  .have e':¬ q.1=k:=λz=>e (h1.trans z)
   have b:valueAt (q::qs) k=valueAt qs k:=by simp[valueAt,ycn,e']
   rw[KA e,b];exact ih
theorem KV.any{kvs:List (κ×V)}{vs:List (κ×Value)}(r:KV kvs vs)(k:κ):(kvs.any λkv=>decide (kv.1=k))=vs.any λkv=>decide (kv.1=k):=by
 unfold KV at r
 induction r with
 |nil=>rfl
 |cons h t ih=>rw[ye7,ye7,ih,h.1]
theorem KV.repl{kvs:List (κ×V)}{vs:List (κ×Value)}(r:KV kvs vs)(k:κ)(ry:RelV y u) :
  KV (kvs.map λkv=>if kv.1=k then (kv.1,y) else kv) (vs.map λkv=>if kv.1=k then (kv.1,u) else kv):=by
 unfold KV at r ⊢
 induction r with
 |nil=>exact .nil
 |@cons p q ps qs h t ih =>
  rw[yae,yae];refine .cons ?_ ih;obtain⟨h1,h2⟩:=h
  by_cases e:p.1=k
  .rw[if_pos e,if_pos (h1.symm.trans e)];exact⟨h1,ry⟩
  .rw[if_neg e,if_neg (λz=>e (h1.trans z))];exact⟨h1,h2⟩
theorem KV.put{kvs:List (κ×V)}{vs:List (κ×Value)}(r:KV kvs vs)(k:κ)(ry:RelV y u):KV (Cy kvs k y) (stored vs k u):=by
 unfold Cy stored;rw[r.any k]
 by_cases e:(vs.any λkv=>decide (kv.1=k))=true
 .rw[if_pos e,if_pos e];exact r.repl k ry
 .rw[if_neg e,if_neg e];exact Paired.snoc r ⟨rfl,ry⟩
theorem KV.length{kvs:List (κ×V)}{vs:List (κ×Value)}(r:KV kvs vs):kvs.length=vs.length:=ye6 r
end
theorem L7{k:Key}(r:RelV (kV k) u):(Bl P w).is k u=true:=by
 cases k with
 |inl i=>obtain⟨t,e⟩:=(show ∃t,u=Value.int i t from r);subst e;exact zcr P w i t
 |inr x=>obtain⟨t,e⟩:=(show ∃t,u=Value.str x t from r);subst e;exact zcq P w x t
theorem XA{P:Program}{w:World}:∀{ks:List Key} {us:List Value},A5 (ks.map kV) us->ItemsAre (Bl P w) ks us
 |[],_,r=>by rw[yc1]at r;cases r;exact .nil
 |k::ks,_,r=>by
  rw[yae]at r;cases r with
  |cons h t=>exact .cons (L7 h) (XA t)
abbrev KT(H:Hp):List (List Key×V)->List (List Key×Addr×Value)->Prop:=Paired λp q=>p.1=q.1/\H q.2.1=some (.tup (p.1.map kV))/\RelV p.2 q.2.2
variable {kvs:List (List Key×V)}
theorem KT.val{xs:List (List Key×Addr×Value)}(r:KT H kvs xs)(k:List Key):DD (DW kvs k) ((atKey xs k).map (·.2)):=by
 induction r with
 |nil=>exact True.intro
 |@cons p q ps qs h t ih =>
  obtain⟨h1,_,h2⟩:=h
  by_cases e:p.1=k
  .have e':q.1=k:=h1.symm.trans e;have b:atKey (q::qs) k=some q.2:=by simp[atKey,ycn,e']
   rw[Jz e,b];exact h2
  .have e':¬ q.1=k:=λz=>e (h1.trans z)
   have b:atKey (q::qs) k=atKey qs k:=by simp[atKey,ycn,e']
   rw[KA e,b];exact ih
theorem KT.repl{xs:List (List Key×Addr×Value)}(r:KT H kvs xs)(k:List Key)(ry:RelV y u) :
  KT H (kvs.map λkv=>if kv.1=k then (kv.1,y) else kv) (xs.map (putAt k u)):=by
 induction r with
 |nil=>exact .nil
 |@cons p q ps qs h t ih =>
  rw[yae,yae];refine .cons ?_ ih;obtain⟨h1,h2,h3⟩:=h;unfold putAt
  by_cases e:p.1=k
  .rw[if_pos e,if_pos (h1.symm.trans e)];exact⟨h1,h2,ry⟩
  .rw[if_neg e,if_neg (λz=>e (h1.trans z))];exact⟨h1,h2,h3⟩
variable {b:Addr}
theorem KT.put{xs:List (List Key×Addr×Value)}(r:KT H kvs xs)(k:List Key)(hb:H b=some (.tup (k.map kV)))(ry:RelV y u) :
  KT H (Cy kvs k y) (storedH xs k b u):=by
 have e:(kvs.any λkv=>decide (kv.1=k))=(atKey xs k).isSome:=by
  rw[Sx,(r.val k).isSome_eq,Option.isSome_map]
 unfold Cy storedH;rw[e]
 by_cases q:(atKey xs k).isSome=true
 .rw[if_pos q,if_pos q];exact r.repl k ry
 .rw[if_neg q,if_neg q];exact Paired.snoc r ⟨rfl,hb,ry⟩
theorem KT.keeps{xs:List (List Key×Addr×Value)}(r:KT H kvs xs)(ht:∀b ys,H b=some (.tup ys)->H' b=some (.tup ys)):KT H' kvs xs :=
 Paired.mapP r λ_ _ z=>⟨z.1,ht _ _ z.2.1,z.2.2⟩
variable {h:Heap}
section
theorem U4{u:HO}(ok:HOk P w H h)(e:Rd H a u):BQ P w H h a u:=e.ok ok
theorem IB{kvs:List (Key×V)}(ok:HOk P w H h)(e:Rd H a (.dK kvs)):kvs.length<=sizeLine/\(a == sysModules)=false/\∃vs,KV kvs vs/\h.DictOf (Bl P w) a vs :=
 show BQ P w H h a (.dK kvs) from U4 ok e
theorem RG{kvs:List (Key×V)}(ok:HOk P w H h)(e:H a=some (.dK kvs)):kvs.length<=sizeLine/\(a == sysModules)=false/\∃vs,KV kvs vs/\h.DictOf (Bl P w) a vs:=IB ok (.inl e)
theorem QA{ks:List Key}(ok:HOk P w H h)(e:H a=some (.tup (ks.map kV))):(tupleKind (Bl P w)).is h ks a:=by
 obtain⟨_,its,r,o,h1,h2,n,h3⟩:=(show BQ P w H h a (.tup (ks.map kV)) from ok a _ e);exact⟨o,its.toArray,n,h1,h2,h3,by simpa using XA r⟩
theorem YZ(ok:HOk P w H h)(e:Rd H a (.dT kvs)):kvs.length<=sizeLine/\(a == sysModules)=false /\
  ∃xs,KT H kvs xs/\h.DictOfH (tupleKind (Bl P w)) a xs:=by
 obtain⟨z,y,xs,r,o,es,ep,h1,h2,h3,h4,h5⟩:=(show BQ P w H h a (.dT kvs) from U4 ok e);refine⟨z,y,xs,r,o,es,ep,h1,h2,h3,h4,λx hx=>?_,h5⟩
 have all:∀{l:List (List Key×V)} {m:List (List Key×Addr×Value)},KT H l m->∀x∈m,(tupleKind (Bl P w)).is h x.1 x.2.1:=by
  intro l m q
  induction q with
  |nil=>intro x hx;exact nomatch hx
  |@cons p q ps qs hq t ih =>
   intro x hx
   rcases(ya6.mp hx) with e|hx
   .subst e;exact QA ok (by rw[<- hq.1];exact hq.2.1)
   .exact ih x hx
 exact all r x hx
theorem dt_of(ok:HOk P w H h)(e:H a=some (.dT kvs)):kvs.length<=sizeLine/\(a == sysModules)=false /\
  ∃xs,KT H kvs xs/\h.DictOfH (tupleKind (Bl P w)) a xs:=YZ ok (.inl e)
end
def Jm(H:Hp)(a:Addr)(y:V)(r:Option V):Prop :=
 (∃kvs k,Rd H a (.dK kvs)/\y=kV k/\r=DW kvs k)\/∃kvs k b,Rd H a (.dT kvs)/\y=.ref b/\H b=some (.tup (k.map kV))/\r=DW kvs k
def Mj(H:Hp)(a:Addr)(y v:V)(H':Hp):Prop :=
 (∃kvs k,H a=some (.dK kvs)/\y=kV k/\kvs.length<sizeLine/\H'=upd H a (.dK (Cy kvs k v))) \/
 ∃kvs k b,H a=some (.dT kvs)/\y=.ref b/\H b=some (.tup (k.map kV))/\kvs.length<sizeLine/\H'=upd H a (.dT (Cy kvs k v))
theorem Jm.k{H:Hp}{a:Addr}{kvs:List (Key×V)}{k:Key}(e:H a=some (.dK kvs)):Jm H a (kV k) (DW kvs k):=.inl ⟨kvs,k,.inl e,rfl,rfl⟩
theorem Mj.k{H:Hp}{a:Addr}{kvs:List (Key×V)}{k:Key}{v:V}(e:H a=some (.dK kvs))(hl:kvs.length<sizeLine):Mj H a (kV k) v (upd H a (.dK (Cy kvs k v))):=.inl ⟨kvs,k,e,rfl,hl,rfl⟩
variable {pins:List (Addr×Obj)}{σ:St}{s:Shared}{v:V}{A:Around}{Q:Value->Shared->Prop}{h':Heap}{t':Nat}
section
variable {r:Value}{o:Option V}
theorem Inv.big(I:Inv X pins σ H s):sysModules<s.heap.objs.size:=by
 have h:mainGlobals<s.heap.objs.size:=(I.mod.glob.keeps I.bk).lt;exact yds (by decide) h
theorem zew(hu:A.units+1<cLine)(I:Inv X pins σ H s)(g:Jm H a y (some v))(ry:RelV y u)(h:∀w' s',Inv X pins σ H s'->RelV v w'->Q w' s') :
  wpAny (model X.prog X.w) A (getItem (.ref a) u) Q E s:=by
 rcases g with ⟨kvs,k,e,ey,l⟩|⟨kvs,k,b,e,ey,eb,l⟩
 .subst ey;obtain⟨z,hd,vs,rel,dd⟩:=IB I.hok e;obtain⟨w',hw,rw'⟩:=DD.some_of (v:=v) (o:=valueAt vs k) (by rw[l];exact rel.val k)
  exact wpAny_getItem_of (L7 ry) dd.mapOf hw (h w' _ (I.tok _) rw')
 .subst ey;cases (show u=Value.ref b from ry);obtain⟨z,hd,xs,rel,dd⟩:=YZ I.hok e;obtain⟨w',hw,rw'⟩:=DD.some_of (v:=v) (o:=(atKey xs k).map (·.2)) (by rw[l];exact rel.val k)
  obtain⟨p,hp,hp2⟩:=ya2.mp hw;refine wpAny_getItem_heap (tupleKind_room_in1 hu) (QA I.hok eb) dd hp ?_;rw[hp2];exact h w' _ (I.tok _) rw'
theorem RL{ob:HO}(I:Inv X pins σ H s)(mu:Jk (H a))(hs:Heap.SameBut a s.heap h')(he:∃q,h'.get? a=some q)(new:BQ X.prog X.w (upd H a ob) h' a ob) :
  Inv X pins σ (upd H a ob) { s with heap:=h',toks:=t' } :=
 I.write (x:=a) (e:=a) mu (.inl rfl) (λb q hb z=>(hs.2 b hb).trans z) he new
theorem Y3{kvs:List (Key×V)}{vs:List (Key×Value)}(z:kvs.length<=sizeLine)(hd:(a == sysModules)=false)(rel:KV kvs vs)(dd:h'.DictOf (Bl P w) a vs) :
  BQ P w H' h' a (.dK kvs):=⟨z,hd,vs,rel,dd⟩
theorem zev{Q:Unit->Shared->Prop}(hu:A.units+1<cLine)(I:Inv X pins σ H s)(g:Mj H a y v H')(ry:RelV y u)(rv:RelV v r)(h:∀s',Inv X pins σ H' s'->Q () s') :
  wpAny (model X.prog X.w) A (setItem (.ref a) u r) Q E s:=by
 rcases g with ⟨kvs,k,e,ey,l,eH⟩|⟨kvs,k,b,e,ey,eb,l,eH⟩
 .subst ey eH;obtain⟨z,hd,vs,rel,dd⟩:=RG I.hok e;have hz:vs.length<=sizeLine:=by rw[<- rel.length];exact z
  have hl:(Cy kvs k v).length<=sizeLine:=by have:=Wj kvs k v;omega
  refine wpAny_setItem_pairs (hsz:=hz) (L7 ry) dd λh' dd' hs=>h _ ?_
  have he:∃q,h'.get? a=some q:=let ⟨q,_,_,hq,_⟩:=dd';⟨q,hq⟩;exact RL I (by rw[e];exact True.intro) hs he (Y3 hl hd (rel.put k rv) dd')
 .subst ey eH;cases (show u=Value.ref b from ry);obtain⟨z,hd,xs,rel,dd⟩:=dt_of I.hok e;have hz:xs.length<=sizeLine:=by rw[<- ye6 rel];exact z
  have hl:(Cy kvs k v).length<=sizeLine:=by have:=Wj kvs k v;omega
  refine wpAny_setItem_heap (hsz:=hz) (tupleKind_room_in1 hu) (QA I.hok eb) dd λh' dd' hs=>h _ ?_
  obtain⟨q,es,ep,hq,h2,h3,h4,_,h5⟩:=dd';refine RL I (by rw[e];exact True.intro) hs ⟨q,hq⟩ ⟨hl,hd,_,(rel.put k eb rv).keeps λc ys ec=>?_,q,es,ep,hq,h2,h3,h4,h5⟩
  rw[Ac (ne_of ec e (λz=>nomatch z))]
  exact ec
end
section
variable {kvs:List (Key×V)}{k:Key}
end
variable {o e:Expr}{pos:Pos}
section
variable {i value:Expr}{pos' tpos:Pos}{td ty tv:TE}
end
theorem RH(h:Heap)(hb:sysModules<h.objs.size):BQ P w H (h.push { cls:=.type "dict",data:=.dict #[] }) h.objs.size (.dK []) :=
 ⟨yaz _,beq_eq_false_iff_ne.mpr (yay (yar hb)),[],.nil,Heap.DictOf.new h⟩
section
end
def NL:List (TE×TE)->St->Hp->(List (V×V)->Hp->Prop)->Prop
 |[],_,H,Q=>Q [] H
 |(tk,tv)::r,σ,H,Q=>tk σ H λx H1=>tv σ H1 λy H2=>NL r σ H2 λps H3=>Q ((x,y)::ps) H3
abbrev VV:List (V×V)->List (Value×Value)->Prop:=Paired λp q=>RelV p.1 q.1/\RelV p.2 q.2
def Me(X:Cx)(pos:Pos)(keys:List (Option Expr))(values:List Expr)(trs:List (TE×TE)):Prop :=
 ∀(pins:List (Addr×Obj)) (s:Shared) (σ:St) (H:Hp) (Q:List (V×V)->Hp->Prop),Inv X pins σ H s->NL trs σ H Q ->
  wpAny (model X.prog X.w) X.A (evalPairs (pairTrees keys values X.env pos)) (λvs s'=>∃ps H',Inv X pins σ H' s'/\VV ps vs/\Q ps H') X.xe s
theorem zil:Me X pos [] [] []:=λpins s σ H Q I h=>pairTrees_nil_walk ⟨[],H,I,.nil,h⟩
theorem zg7{k v:Expr}{ks:List (Option Expr)}{vs:List Expr}{tk tv:TE}{trs:List (TE×TE)}(hk:PE X k tk)(hv:PE X v tv)(hr:Me X pos ks vs trs) :
  Me X pos (some k::ks) (v::vs) ((tk,tv)::trs):=λpins s σ H Q I h =>
 pairTrees_cons_walk (AS (hk pins s σ H _ I h) λu s1 ⟨x,H1,I1,rx,q1⟩=>AS (hv pins s1 σ H1 _ I1 q1) λw2 s2 ⟨y,H2,I2,ry,q2⟩ =>
  AS (hr pins s2 σ H2 _ I2 q2) λws s3 ⟨ps,H3,I3,rel,q3⟩=>⟨(x,y)::ps,H3,I3,.cons ⟨rx,ry⟩ rel,q3⟩)
def W7(kvs more:List (Key×V)):List (Key×V):=more.foldl (λacc kv=>Cy acc kv.1 kv.2) kvs
theorem KV.merge:∀{more:List (Key×V)} {rs:List (Key×Value)} {kvs:List (Key×V)} {vs:List (Key×Value)},KV more rs->KV kvs vs->KV (W7 kvs more) (merged vs rs):=by
 intro more rs kvs vs r;unfold KV at r
 induction r generalizing kvs vs with
 |nil=>intro q;exact q
 |@cons p q ps qs h t ih =>
  intro r0
  have e:KV (Cy kvs p.1 p.2) (stored vs q.1 q.2):=by
   have:=r0.put p.1 h.2;rw[<- h.1];exact this
  exact ih e
theorem Yx{P:Program}{w:World}:∀{kvs:List (Key×V)} {ws:List (Value×Value)},VV (kvs.map λkv=>(kV kv.1,kv.2)) ws->∃rs,Carries (Bl P w) ws rs/\KV kvs rs
 |[],_,r=>by rw[yc1]at r;cases r;exact⟨[],True.intro,.nil⟩
 |p::kvs,_,r=>by
  rw[yae]at r;cases r with
  |@cons a b as bs h t =>
   obtain⟨rs,c,q⟩:=Yx (P:=P) (w:=w) t;obtain⟨b1,b2⟩:=b;exact⟨(p.1,b2)::rs,⟨L7 h.1,rfl,c⟩,.cons ⟨rfl,h.2⟩ q⟩
section
variable {d:V}{r:Value}{o:Option V}
end
variable {apos:Pos}
section
variable {f:Expr}{cpos:Pos}{td ty tx:TE}
end
section
variable {kvs:List (Key×V)}
end
section
end
end L2
namespace Zm
end Zm
namespace Zw
open PySem PySem.Spec PyProof.Rows L2
variable {X:Cx}
def Sm(i:Int):Prop:=-(10 ^ 70)<i/\i<10 ^ 70
theorem Sm.nat{i:Int}(h:Sm i):i.natAbs<10 ^ 70:=by
 unfold Sm at h
 omega
theorem zmb:10 ^ 70<=2 ^ 300:=by decide +kernel
theorem Sm.log{i:Int}(h:Sm i):i.natAbs.log2<300:=by
 by_cases z:i.natAbs=0
 .rw[z]
  decide
 .exact(Nat.log2_lt z).mpr (yam h.nat zmb)
theorem Sm.bits{i:Int}(h:Sm i):Builtin.Int.intBits i<=2 ^ 20:=by
 have q:=h.log;have e20:(2:Nat) ^ 20=1048576:=by decide
 unfold Builtin.Int.intBits;split<;>omega
section
theorem zj3:A6 X (binaryOp .Mult) (rI (λi j=>Sm i/\Sm j) λi j=>.int (i * j)):=JC λ_ _ _ _ _ _ _ hc q=>mul_int q (.of_bits hc.1.bits hc.2.bits)
theorem zgc:A6 X (binaryOp .FloorDiv) (rI (λ_ j=>j≠0/\Sm j) λi j=>.int (i.fdiv j)) :=
 JC λ_ _ _ _ _ _ _ hc q=>floordiv_int hc.1 q (.inl (PyProof.noPylong_of_log2 (yds hc.2.log (by decide))))
theorem XF{x:V}{v:Value}{b:Bool}(r:RelV x v):PySem.plainIs v (.bool b)=true/\(v == Value.bool b)=decide (x=V.bl b):=by
 cases x with
 |non=>cases r;exact⟨rfl,by simp⟩
 |bl c=>cases r;exact⟨rfl,by cases c<;>cases b<;>simp⟩
 |int i=>obtain⟨t,rfl⟩:=r;exact⟨rfl,by simp⟩
 |str i=>obtain⟨t,rfl⟩:=r;exact⟨rfl,by simp⟩
 |byt i=>obtain⟨t,rfl⟩:=r;exact⟨rfl,by simp⟩
 |flt i=>obtain⟨t,rfl⟩:=r;exact⟨rfl,by simp⟩
 |ref i=>cases r;exact⟨rfl,by simp⟩
 |ty i=>cases r;exact⟨rfl,by simp⟩
theorem zmv:A6 X (compareOp .Is) (λx y H Q=>∃b,y=.bl b/\Q (.bl (decide (x=.bl b))) H):=by
 intro pins s σ H x y v u Q I rx ry h;obtain⟨b,rfl,q⟩:=h;cases ry;obtain⟨e1,e2⟩:=XF (b:=b) rx;exact wpAny_is_plain e1 (JY I q e2.symm)
theorem zj2:A6 X (compareOp .IsNot) (λx y H Q=>∃b,y=.bl b/\Q (.bl (!decide (x=.bl b))) H):=by
 intro pins s σ H x y v u Q I rx ry h;obtain⟨b,rfl,q⟩:=h;cases ry;obtain⟨e1,e2⟩:=XF (b:=b) rx;exact wpAny_isNot_plain e1 (JY I q (by rw[e2]))
theorem zhb{c:String}:Bv X (.builtin "isinstance") (λxs H Q=>∃x t b,xs=[x,.ty c]/\TyOf X.K H x t/\PySem.W.kitOne X.K t (.type c)=some b/\Q (.bl b) H):=by
 intro pins s σ H xs us Q I r h;obtain⟨x,t,b,rfl,ty,e,q⟩:=h;obtain⟨u,w',rfl,rx,ry⟩:=Fo r;cases ry;exact Lc I rx ty e λtk=>⟨.bl b,H,I.tok _,rfl,q⟩
end
section
end
section
variable {pos:Pos}
end
section
end
theorem zct:PySem.W.kitMeta "int"=true:=by decide +kernel
theorem zc3:PySem.W.kitMeta "bool"=true:=by decide +kernel
theorem zbj:PySem.W.kitMeta "tuple"=true:=by decide +kernel
theorem zgq(K:kA)(c:String):PySem.W.kitOne K (.type c) (.type c)=some true:=by
 unfold PySem.W.kitOne;rw[if_pos (by simp)]
theorem zne(K:kA){t c:String}{l:List Value}{b:Bool}(h:t≠c)(hm:PySem.W.kitMeta c=true)(hl:(fastBuiltinMro t).map (·.contains (Value.type c))=some b):PySem.W.kitOne K (.type t) (.type c)=some b:=by
 unfold PySem.W.kitOne;rw[if_neg (by simpa using h)]
 unfold PySem.W.kitCls;show(if PySem.W.kitMeta c=true then PySem.W.subIn K (.type t) (.type c) else none)=some b
 rw[if_pos hm];exact hl
set_option genInjectivity false in
structure FunD(K:kA)(x qual:Str)(st:Stmt)(f:Addr)(fd:FuncData):Prop where
 ex:∃(oc:Value) (od:Option Addr) (dV kV doc pm:Value) (an:Option Addr) (cdv ct:Value) (osl:Array (Option Value)),
  fd=PySem.W.fnOf x qual (ID st) (Ab st) (AL st) dV kV doc pm an cdv ct/\K.lookup f=some ⟨oc,od,.func fd,osl⟩/\PySem.W.codeIn K cdv qual=true
 kp:PySem.W.keepIn K (.ref f)=true
theorem EY{K:kA}{x qual:Str}{st:Stmt}{f:Addr}{oc:Value}{od an:Option Addr}{osl:Array (Option Value)}{dV kV doc pm cdv ct:Value}(l:K.lookup f=some ⟨oc,od,.func (PySem.W.fnOf x qual (ID st) (Ab st) (AL st) dV kV doc pm an cdv ct),osl⟩)
  (c:PySem.W.codeIn K cdv qual=true) (k:PySem.W.keepIn K (.ref f)=true):FunD K x qual st f (PySem.W.fnOf x qual (ID st) (Ab st) (AL st) dV kV doc pm an cdv ct):=⟨⟨oc,od,dV,kV,doc,pm,an,cdv,ct,osl,rfl,l,c⟩,k⟩
set_option genInjectivity false in
structure Tx(K:kA)(mg:Str->Option Value)(x:Str)(st:Stmt)(ps:List Str) where
 f:Addr
 fd:FuncData
 F:FunD K x x st f fd
 m:mg x=some (.ref f)
 b:Dg K fd ps []
section
variable {k j:Nat}{x:Str}{ps:List Str}{sp:Sp}{p pos:Pos}{e:Expr}{es:List Expr}{t:TA}
end
theorem K7{H:Hp}{p:Addr}(h:H p=none)(o:HO):AZ H (upd H p o):=λb u q=>by
 rw[Ac (Br q h)];exact q
noncomputable def zo4(X:Cx)(scope:Scope)(cl:List (Str×Addr))(N':List Str)(C:Addr)(s₀:Shared)(H₀:Hp)(ex:List Addr):Cx :=
 { X with N:=N',s₀:=s₀,H₀:=H₀,env:=compEnvC scope cl C X.env,outer:=X.stack,ex:=ex,fn:=λ_=>false,xe:=λ_ _=>False }
theorem HOk.adopt{P:Program}{w:World}{H:Hp}{h:Heap}{a:Addr}{o:HO}(x:HOk P w H h)(hn:H a=none)(new:BQ P w (upd H a o) h a o):HOk P w (upd H a o) h:=λb u e=>by
 by_cases hb:b=a
 .subst hb;rw[Ba]at e;cases e;exact new
 .rw[Ac hb]at e;exact(x b u e).stay (λc v _ q=>q) (λc q=>by rw[Ac (Br q hn)];exact q) λc xs q=>by rw[Ac (Br q hn)];exact q
section
variable {elt iter tg:Expr}{scope:Scope}{pos:Pos}{cl:List (Str×Addr)}{N':List Str}{wi:TI}{g:TG}{te:TE}
end
end Zw
namespace Zx
open PySem PySem.Spec PyProof.Rows L2 Zw
variable {X:Cx}{E:Value->Shared->Prop}
def MW(h B:Heap)(a:Addr)(cls fl:Value):Prop :=
 ∃oe vs T oT ts,h.get? a=some oe/\(oe.cls=cls/\vs[2]?=some .none)/\oe.data=.fields vs/\vs[1]?=some (.ref T)/\B.get? T=none/\T≠a/\h.get? T=some oT/\oT.data=.fields ts/\ts[3]?=some fl
def E4(B:Heap)(l:List Env)(a:Addr)(cls:Value)(h:Heap):Prop:=B.StaysIn h/\B.get? a=none/\h.FunFrames B l/\MW h B a cls .none
def SY(B:Heap)(l:List Env)(a:Addr)(cls:Value)(L:Addr)(h:Heap):Prop:=B.StaysIn h/\B.get? a=none/\h.FunFrames B l/\MW h B a cls (rawInt L)
variable {B h:Heap}{l:List Env}{a:Addr}{cls:Value}
theorem E4.first(x:E4 B l a cls h):∃oe vs,h.get? a=some oe/\oe.cls=cls/\oe.data=.fields vs/\vs[2]?=some .none :=
 let ⟨_,_,_,oe,vs,_,_,_,he,hc,hd,_⟩:=x;⟨oe,vs,he,hc.1,hd,hc.2⟩
theorem E4.there(x:E4 B l a cls h):∃ob,h.get? a=some ob/\ob.cls=cls :=
 let ⟨oe,_,he,hc,_⟩:=x.first;⟨oe,he,hc⟩
variable {M:Model}{A:Around}{s:Shared}
section
variable {env v:Env}{L:Addr}{Q:Unit->Shared->Prop}
theorem YW{oe:Obj}{vs:Array Value}{head:Value}{hn:Bool}(hfr:A.frames=some (v::l))(hl:s.heap.FunFrames B (v::l))(hL:v.frame=some L)(he:s.heap.get? a=some oe)(hk:B.StaysIn s.heap)(ha:B.get? a=none)
  (hd:oe.data=.fields vs) (hsz:1<vs.size) (h2:vs[2]?=some .none) (h:∀h',SY B (v::l) a oe.cls L h'->s.heap.UpToSlots h'->Q () { s with heap:=h' }) :
  wpAny M A (do let f <- frameOf v;let pl <- entryPlaceOf L hn;let b <- EntryCells.newEntry head f .none (rawInt L) .none pl;setField (.ref a) 1 b) Q E s:=by
 have nof:a∉(v::l).filterMap (·.frame):=λz=>by
  obtain⟨_,o,ho,n⟩:=hl.mem z;rw[he]at ho;cases ho;exact n vs hd
 refine yek (wpAny_frameOf_fun hfr hl hL λh1 k1=>?_)
 refine yek (wpAny_entryPlaceOf λpl hpl=>?_)
 unfold EntryCells.newEntry newFields;refine yek (yey ?_ (hpl.sizeOk5 _ _ _ _ _));have e1:h1.get? a=some oe:=(k1.2.1 a nof).trans he;have b1:B.StaysIn h1:=λb o q=>(k1.2.1 b λz=>by rw[(hl.mem z).1]at q;cases q).trans (hk b o q)
 have ne:h1.objs.size≠a:=Nat.ne_of_gt (yah e1);refine yez (ya8 _ e1) hd hsz ?_;have hd3:=yd2 hd (·.setIfInBounds 1 (Value.ref h1.objs.size));have kp:∀nw b o,b≠a->h1.get? b=some o->((h1.push nw).update a (Obj.mapFields (·.setIfInBounds 1 (Value.ref h1.objs.size)))).get? b=some o:=λnw b o n q=>(ybf _ _ (yay n)).trans (ya8 _ q)
 have nr:∀b o,s.heap.get? b=some o->(∀ws,o.data≠.fields ws)->b≠a:=λb o q n z=>by
  rw[z,he]at q;cases q;exact n vs hd
 have sm:∀nw,s.heap.UpToSlots ((h1.push nw).update a (Obj.mapFields (·.setIfInBounds 1 (Value.ref h1.objs.size)))):=λnw b o q n=>by
  obtain⟨sl,q1⟩:=k1.2.2 b o q;exact⟨sl,kp nw b _ (nr b o q n) q1⟩
 refine h _ ⟨λb o q=>kp _ b o (λz=>by rw[z,ha]at q;cases q) (b1 b o q),ha,hl.of_keeps λb o q n=>?_,_,_,h1.objs.size,_,_,ycb _ (ya8 _ e1) (ydr hd3),⟨Obj.cls_mapFields _ _,?_⟩,hd3,by simp[hsz],b1.fresh,ne,
  (ybf _ _ (yay ne)).trans (yal h1 rfl),rfl,?_⟩ (sm _)
 .obtain⟨sl,q1⟩:=sm _ b o q n;exact⟨_,q1,rfl⟩
 .rw[Array.getElem?_setIfInBounds_ne (by decide)]
  exact h2
 .first|(simp;done)|(rcases hpl with rfl|⟨_,_,_,_,_,_,_,rfl⟩<;>simp)
theorem YL{fl:Value}(hk:B.StaysIn s.heap)(ha:B.get? a=none)(hl:s.heap.FunFrames B l)(ht:MW s.heap B a cls fl)(h:∀h',E4 B l a cls h'->s.heap.UpToSlots h'->Q () { s with heap:=h' }):wpAny M A (setFlight (.ref a) none) Q E s:=by
 obtain⟨oe,vs,T,oT,ts,he,hc,hd,g1,nT,Tne,hT,dT,g3⟩:=ht;have s3:3<ts.size:=(ybv.mp g3).1;have oth:∀b,b≠T->(s.heap.update T (Obj.mapFields (·.setIfInBounds 3 ((none:Option Addr).elim Value.none λf=>rawInt f)))).get? b=s.heap.get? b:=λb hb=>ybf _ _ (yay hb)
 have nr:∀b o,s.heap.get? b=some o->(∀ws,o.data≠.fields ws)->b≠T:=λb o q n z=>by
  rw[z,hT]at q;cases q;exact n ts dT
 unfold setFlight;refine yek (yf0 he hd g1 ?_);rw[if_pos (by simp)]
 exact yez hT dT s3 (h _ ⟨λb o q=>(oth b λz=>by rw[z,nT]at q;cases q).trans (hk b o q),ha,hl.of_keeps λb o q n=>⟨o,(oth b (nr b o q n)).trans q,rfl⟩,
  oe,vs,T,_,_,(oth a (yay Tne)).trans he,hc,hd,g1,nT,Tne,ycb _ hT (ydr (yd2 dT _)),yd2 dT _,by simp[s3]⟩ λb o q n=>⟨o.slots,(oth b (nr b o q n)).trans q⟩)
theorem Pw(hh:SY B l a cls L s.heap)(hQ:∀h',E4 B l a cls h'->s.heap.UpToSlots h'->Q () { s with heap:=h' }):wpAny M A (setFlight (.ref a) none) Q E s :=
 YL hh.1 hh.2.1 hh.2.2.1 hh.2.2.2 hQ
theorem zoa(hh:E4 B l a cls s.heap)(hQ:∀h',E4 B l a cls h'->s.heap.UpToSlots h'->Q () { s with heap:=h' }):wpAny M A (setFlight (.ref a) none) Q E s :=
 YL hh.1 hh.2.1 hh.2.2.1 hh.2.2.2 hQ
theorem madeX{args:List Value}(hfr:A.frames=some (v::l))(hL:v.frame=some L)(hk:B.StaysIn h)(hl:h.FunFrames B (v::l))(hx:Heap.MadeExcOf h s.heap a cls args)(hQ:∀h',E4 B l a cls h'->s.heap.UpToSlots h'->Q () { s with heap:=h' }):wpAny M A (leaving v (.ref a)) Q E s:=by
 obtain⟨t,he,_,_⟩:=hx.there
 have fr:B.get? a=none:=by
  cases q:B.get? a with
  |none=>rfl
  |some o =>
   have:=hk a o q;rw[hx.new]at this;cases this
 unfold leaving noteFrame;simp only[hL];refine yek (yek (yf0 (x:=.none) he rfl rfl ?_));rw[if_neg (by simp)]
 refine YW hfr (hl.of_keeps λb o q _=>⟨o,hx.keeps b o q,rfl⟩) hL he (λb o q=>hx.keeps b o (hk b o q)) fr rfl (by simp) rfl λh1 k1 sm=>Pw (s:={ s with heap:=h1 }) k1 λh2 k2 sm2=>?_
 obtain⟨k1,k2,⟨_,_,k3⟩,k4⟩:=k2;exact hQ h2 ⟨k1,k2,k3,k4⟩ (sm.trans sm2)
end
def HS(B:Heap)(l:List Env)(a:Addr)(cls:Value)(h:Heap):Prop:=∃fl,B.StaysIn h/\B.get? a=none/\h.FunFrames B l/\MW h B a cls fl
theorem YK(x:E4 B l a cls h):HS B l a cls h:=⟨.none,x⟩
section
variable {env v:Env}{L:Addr}{Q:Unit->Shared->Prop}
theorem Oj(hfr:A.frames=some (v::l))(hv:env.frame=v.frame)(hL:v.frame=some L)(hx:HS B (v::l) a cls s.heap)(hQ:∀h',SY B (v::l) a cls L h'->s.heap.UpToSlots h'->Q () { s with heap:=h' }):wpAny M A (noteFrame (.ref a) env) Q E s:=by
 have en:noteFrame (.ref a) env=noteFrame (.ref a) v:=by
  unfold noteFrame PySem.frameOf;rw[hv]
 rw[en];obtain⟨fl,f1,f2,f3,f4⟩:=hx
 by_cases hfl:fl=rawInt L
 .subst hfl;obtain⟨oe,ws,Tb,oT,ts,ha,_,hd,g1,_,_,hT,dT,g3⟩:=id f4;unfold noteFrame;simp only[hL];refine yek (yf0 ha hd g1 ?_);rw[if_pos (by simp)]
  refine yek (yf0 hT dT g3 ?_);rw[if_pos (by simp)]
  exact yen (hQ _ ⟨f1,f2,f3,f4⟩ (.refl _))
 .obtain⟨oe,ws,Tb,oT,ts,ha,⟨rfl,g0⟩,hd,g1,nT,Tne,hT,dT,g3⟩:=f4;have g3s:=(ybv.mp g3).1;have oth:∀b,b≠Tb->(s.heap.update Tb (Obj.mapFields (·.setIfInBounds 3 Value.none))).get? b=s.heap.get? b:=λb hb=>ybf _ _ (yay hb)
  have nr:∀b o,s.heap.get? b=some o->(∀us,o.data≠.fields us)->b≠Tb:=λb o hb hn z=>by
   rw[z,hT]at hb;cases hb;exact hn ts dT
  unfold noteFrame;simp only[hL];refine yek (yf0 ha hd g1 ?_);rw[if_pos (by simp)]
  refine yek (yf0 hT dT g3 ?_);rw[if_neg (λz=>hfl (beq_iff_eq.mp z))]
  refine yek (yez hT dT g3s ?_);refine YW hfr (f3.of_keeps λb o hb hn=>⟨o,(oth b (nr b o hb hn)).trans hb,rfl⟩) hL ((oth a (yay Tne)).trans ha) (λb o hb=>(oth b λz=>by rw[z,nT]at hb;cases hb).trans (f1 b o hb)) f2 hd (ybv.mp g1).1 g0 λh' k k4=>?_
  exact hQ h' k λb o hb hn=>k4 b o ((oth b (nr b o hb hn)).trans hb) hn
theorem leavX(hfr:A.frames=some (v::l))(hL:v.frame=some L)(hx:HS B (v::l) a cls s.heap)(hQ:∀h',E4 B l a cls h'->s.heap.UpToSlots h'->Q () { s with heap:=h' }):wpAny M A (leaving v (.ref a)) Q E s:=by
 unfold leaving;refine yek (Oj hfr rfl hL hx λh1 hh sm1=>Pw hh λh2 hf sm2=>?_)
 obtain⟨k1,k2,⟨_,_,k3⟩,k4⟩:=hf;exact hQ h2 ⟨k1,k2,k3,k4⟩ (sm1.trans sm2)
end
def Bn(P:Program)(w:World):G0:=λouter H s E e s'=>∃(a:Addr) (cls:Value) (H':Hp) (B:Heap),
 e=.ref a/\s'.os=s.os/\AllBare s'.gens/\Un (BF outer) [] H H' s.heap s'.heap/\HOk P w H' B/\(∀b o,s.heap.get? b=some o->H b=none->b∉BF outer->B.get? b=some o) /\
 (∀b o,s.heap.get? b=some o->b∉BF outer->∃o',B.get? b=some o')/\HS B outer a cls s'.heap/\E cls none H'
variable {P:Program}{w:World}{H:Hp}
theorem zfg{o:HO}(x:BQ P w H h a o):∃ob,h.get? a=some ob:=by
 cases o with
 |lst xs=>obtain⟨_,_,_,_,e⟩:=x;exact⟨_,e⟩
 |tup xs=>obtain⟨_,_,_,o',e,_⟩:=x;exact⟨o',e⟩
 |dK kvs=>obtain⟨_,_,_,_,o',_,_,e,_⟩:=x;exact⟨o',e⟩
 |dT kvs=>obtain⟨_,_,_,_,o',_,_,e,_⟩:=x;exact⟨o',e⟩
 |set S n=>obtain⟨o',_,_,_,e,_⟩:=x;exact⟨o',e⟩
 |ins C dx fs=>obtain⟨_,_,_,e,_⟩:=x;exact⟨_,e⟩
 |own y=>exact x
 |xd fs=>obtain⟨_,⟨o',_,_,e,_⟩,_⟩:=x;exact⟨o',e⟩
 |rng lo hi=>obtain⟨_,_,_,e⟩:=x;exact⟨_,e⟩
 |frz ob u=>obtain⟨e,_⟩:=x;exact⟨_,e⟩
 |tbl ps=>exact⟨_,(show h.get? a=some _ from x)⟩
 |met f y=>exact⟨_,(show h.get? a=some _ from x)⟩
 |ext φ=>obtain⟨_,e,_⟩:=x;exact e
theorem none_of(x:HOk P w H h)(e:h.get? a=none):H a=none:=by
 cases q:H a with
 |none=>rfl
 |some u =>
  obtain⟨ob,z⟩:=zfg (x a u q);rw[e]at z;cases z
theorem zob{o:HO}(x:HOk P w H h)(hn:H a=none)(new:BQ P w (upd H a o) h a o):HOk P w (upd H a o) h:=λb u e=>by
 by_cases hb:b=a
 .subst hb;have e':=Ba.symm.trans e;cases e';exact new
 .have e':=(Ac (H:=H) (o:=o) hb).symm.trans e;exact(x b u e').stay (λc v _ q=>q) (λc q=>(Ac (Br q hn)).trans q) λc xs q=>(Ac (Br q hn)).trans q
def BO(X:Cx)(E:L2.St->XK):Prop:=∀(pins:List (Addr×Obj)) (σ:L2.St) (H:Hp) (s:Shared) (e:Value) (s':Shared),Inv X pins σ H s->Bn X.prog X.w X.stack H s (E σ) e s'->X.xe e s'
def SS(X:Cx)(E:L2.St->XK):Prop:=∀(pins:List (Addr×Obj)) (σ:L2.St) (H:Hp) (s:Shared) (a:Addr) (cls:Value) (vs:List Value) (h':Heap),Inv X pins σ H s->Heap.MadeExcOf s.heap h' a cls vs->E σ cls none H->X.xe (.ref a) { s with heap:=h' }
variable {pins:List (Addr×Obj)}
section
variable {σ:L2.St}
theorem LH(I:Inv X pins σ H s){b:Addr}{o:Obj}(e:X.s₀.heap.get? b=some o)(hb:b∉BF X.outer):b∉BF X.stack:=λz=>by
 rcases ya6.mp (I.stkSub b z) with q|q
 .exact absurd (yam (yah e) I.ok.above) (by rw[q];exact ybb _)
 .exact hb q
theorem ze1(hst:X.stack=X.env::X.outer){b:Addr}(hb:b∈BF X.outer):b∈BF X.stack:=by
 rw[hst];obtain⟨v,h1,h2⟩:=yc9.mp hb;exact yc9.mpr ⟨v,ya7 _ h1,h2⟩
theorem znv(I:Inv X pins σ H s):HOk X.prog X.w H (PySem.W.hideAll s.heap (BF X.stack)):=λb u e=>(I.hok b u e).stay (λc v hc q=>yc4 _ q λz=>by
  have f:=I.stkFree c z
  rcases hc with y|y
  .rw[y,e]at f;cases f
  .rw[y]at f;cases f) (λ_ q=>q) λ_ _ q=>q
theorem zjp(hst:X.stack=X.env::X.outer)(hf:X.env.frame=some X.env.locals)(hex:X.ex=[]){E:XK}{vs:List Value}{h':Heap}{Ex:Value->Shared->Prop}(I:Inv X pins σ H s)(hx:Heap.MadeExcOf s.heap h' a cls vs)(he:E cls none H) :
  wpAny (model X.prog X.w) X.A (leaving X.env (.ref a)) (λ_ s2=>Bn X.prog X.w X.outer X.H₀ X.s₀ E (.ref a) s2) Ex { s with heap:=h' }:=by
 have nex:∀b:Addr,b∉X.ex:=λb z=>by rw[hex]at z;cases z
 have hfr:X.A.frames=some (X.env::X.outer):=hst▸I.ok.frames
 have FF:s.heap.FunFrames (PySem.W.hideAll s.heap (BF X.stack)) (X.env::X.outer):=by
  rw[<- hst];exact PySem.W.funFrames_hide I.stack λv hv b hb=>yc9.mpr ⟨v,hv,hb⟩
 refine madeX (B:=PySem.W.hideAll s.heap (BF X.stack)) (h:=s.heap) (args:=vs) hfr hf (λb o q=>ycl _ q) FF hx λh2 fl sm=>?_
 have kB:∀b o,X.s₀.heap.get? b=some o->X.H₀ b=none->b∉BF X.outer->(PySem.W.hideAll s.heap (BF X.stack)).get? b=some o:=λb o e n hb=>yc4 _ (I.base.keep b o e n hb (nex b)) (LH I e hb)
 have tB:∀b o,X.s₀.heap.get? b=some o->b∉BF X.outer->∃o',(PySem.W.hideAll s.heap (BF X.stack)).get? b=some o':=λb o e hb=>by
  obtain⟨o',e'⟩:=I.base.there b o e (nex b);exact⟨o',yc4 _ e' (LH I e hb)⟩
 have sl:∀b o,X.s₀.heap.get? b=some o->X.H₀ b=none->b∈BF X.outer->∃z,h2.get? b=some { o with slots:=z }:=λb o e n hb=>by
  obtain⟨z,e1⟩:=I.base.slot b o e n hb (nex b);obtain⟨_,o2,ho2,hd⟩:=I.funs.mem hb;rw[e1]at ho2;cases ho2;obtain⟨z3,e3⟩:=sm b { o with slots:=z } (hx.keeps b _ e1) hd
  exact⟨z3,e3⟩
 refine⟨a,cls,H,_,rfl,I.os,I.bare,⟨λb o e n hb _=>fl.1 b o (kB b o e n hb),λb o e n hb _=>sl b o e n hb,λb o e n _=>I.base.free b o e n (nex b),λb o e _=>?_,I.base.tups,I.base.frzs,I.base.tbls⟩,znv I,kB,tB,YK fl,he⟩
 by_cases hb:b∈BF X.outer
 .obtain⟨z,q⟩:=sl b o e (I.ok.frf b hb) hb;exact⟨_,q⟩
 .obtain⟨o',q⟩:=tB b o e hb;exact⟨o',fl.1 b o' q⟩
theorem zj0(hst:X.stack=X.env::X.outer)(hf:X.env.frame=some X.env.locals)(hex:X.ex=[]){E:XK}{e:Value}{s':Shared}{Ex:Value->Shared->Prop}(I:Inv X pins σ H s)(h:Bn X.prog X.w X.stack H s E e s') :
  wpAny (model X.prog X.w) X.A (leaving X.env e) (λ_ s2=>Bn X.prog X.w X.outer X.H₀ X.s₀ E e s2) Ex s':=by
 obtain⟨a,cls,H',B,rfl,os,bare,un,hok,kB0,tB0,fl0,he⟩:=h;have nex:∀b:Addr,b∉X.ex:=λb z=>by rw[hex]at z;cases z
 have hfr:X.A.frames=some (X.env::X.outer):=hst▸I.ok.frames;have fl1:HS B (X.env::X.outer) a cls s'.heap:=hst▸fl0;refine leavX hfr hf fl1 λh2 fl sm=>?_
 have kB:∀b o,X.s₀.heap.get? b=some o->X.H₀ b=none->b∉BF X.outer->B.get? b=some o:=λb o e n hb=>kB0 b o (I.base.keep b o e n hb (nex b)) (I.base.free b o e n (nex b)) (LH I e hb)
 have tB:∀b o,X.s₀.heap.get? b=some o->b∉BF X.outer->∃o',B.get? b=some o':=λb o e hb=>by
  obtain⟨o',e'⟩:=I.base.there b o e (nex b);exact tB0 b o' e' (LH I e hb)
 have sl:∀b o,X.s₀.heap.get? b=some o->X.H₀ b=none->b∈BF X.outer->∃z,h2.get? b=some { o with slots:=z }:=λb o e n hb=>by
  obtain⟨z,e1⟩:=I.base.slot b o e n hb (nex b);obtain⟨_,o2,ho2,hd⟩:=I.funs.mem hb;rw[e1]at ho2;cases ho2;obtain⟨z2,e2⟩:=un.slot b { o with slots:=z } e1 (I.base.free b o e n (nex b)) (ze1 hst hb) (by simp)
  obtain⟨z3,e3⟩:=sm b { o with slots:=z2 } e2 hd
  exact⟨z3,e3⟩
 refine⟨a,cls,H',B,rfl,os.trans I.os,bare,⟨λb o e n hb _=>fl.1 b o (kB b o e n hb),λb o e n hb _=>sl b o e n hb,λb o e n _=>?_,λb o e _=>?_,λb xs e=>un.tups b xs (I.base.tups b xs e),λb o u e=>un.frzs b o u (I.base.frzs b o u e),λb ps e=>?_⟩,hok,kB,tB,YK fl,he⟩
 .obtain⟨o',e'⟩:=I.base.there b o e (nex b);exact un.free b o' e' (I.base.free b o e n (nex b)) (by simp)
 .by_cases hb:b∈BF X.outer
  .obtain⟨z,q⟩:=sl b o e (I.ok.frf b hb) hb;exact⟨_,q⟩
  .obtain⟨o',q⟩:=tB b o e hb;exact⟨o',fl.1 b o' q⟩
 .obtain⟨m1,e1⟩:=I.base.tbls b ps e;obtain⟨m2,e2⟩:=un.tbls b _ e1;exact⟨m1++m2,e2.trans (by rw[Array.append_assoc])⟩
end
section
variable {K:kA}{mg:Str->Option Value}{base:Heap}
theorem VJ{N:List Str}{qual:Str}{sc:Scope}{f:Addr}{cd:Value}{outer:List Env}{E:XK}:BO (ED (Bn P w) P w K mg base N qual sc f cd A outer s H E) (λ_=>E) :=
 λ_ _ _ _ _ _ I h=>zj0 rfl rfl rfl I h
theorem W8{N:List Str}{qual:Str}{sc:Scope}{f:Addr}{cd:Value}{outer:List Env}{E:XK}:SS (ED (Bn P w) P w K mg base N qual sc f cd A outer s H E) (λ_=>E) :=
 λ_ _ _ _ _ _ _ _ I hx he=>zjp rfl rfl rfl I hx he
theorem VS{x qual:Str}{st:Stmt}{f:Addr}{fd:FuncData}{N ps:List Str}{k:Nat}{sp:Sp}(F:FunD K x qual st f fd)(S:FnScope N ps (AL st))(len:∀vs H Q E,sp vs H Q E->vs.length=ps.length)
  (hbody : ∀ (cdv : Value) (A : Around) (outer : List Env) (s : Shared) (H : Hp) (vs : List V) (Q : VK) (E : XK), Room k (A.deeper (envOfC qual (AL st) s.heap.objs.size f cdv)) -> sp vs H Q E ->
   ∃t,BE (ED (Bn P w) P w K mg base N qual (AL st) f cdv A outer s H E) (Ab st) t/\t { nx:=λ_ H'=>Q .non H',rt:=Q } (start N vs) H):FnOk P w K mg base (Bn P w) (k+1) f fd ps sp:=by
 obtain⟨oc,od,dV,kV,doc,pm,an,cdv,ct,osl,rfl,lk,hcd⟩:=F.ex;exact fn_of lk hcd S len λA outer s H vs Q E hr hsp=>hbody cdv A outer s H vs Q E hr hsp
end
set_option genInjectivity false in
structure DefX(P:Program)(w:World)(K:kA)(mg:Str->Option Value)(base:Heap)(k:Nat)(x:Str)(ps:List Str)(sp:Sp) where
 f:Addr
 fd:FuncData
 ok:FnOk P w K mg base (Bn P w) k f fd ps sp
 m:mg x=some (.ref f)
 kp:PySem.W.keepIn K (.ref f)=true
 b:Dg K fd ps []
variable {pos:Pos}
section
variable {k j:Nat}{f:Addr}{fd:FuncData}{x:Str}{ps:List Str}{sp:Sp}{p:Pos}{e:Expr}{es:List Expr}{t:TA}{E:L2.St->XK}{dvs:List V}
theorem OR{σ:L2.St}{Q:VK}{us ds:List Value}{vs:List V}(F:FnOk X.prog X.w X.K X.mg X.base (Bn X.prog X.w) k f fd ps sp)(hr:Room k X.A)(hb:Dg X.K fd ps ds)(hd:A5 dvs ds)(hx:BO X E)(I:Inv X pins σ H s)(r:A5 vs us)(h:sp (vs++dvs) H Q (E σ)):wpAny (model X.prog X.w) X.A (call (.ref f) us) (EP X pins σ Q) X.xe s:=by
 have r2:A5 (vs++dvs) (us++ds):=r.append hd;have hl:(us++ds).length=ps.length:=r2.length.symm.trans (F.len _ _ _ _ h);refine yf1 (yex (F.run X.A X.stack s H ⟨us,[]⟩ (us++ds) (vs++dvs) Q (E σ) hr I.env0 (hb s us I.kIn hl) r2 h) λr s' hq=>?_)
 cases r with
 |error v=>exact hx pins σ H s v s' I hq
 |ok fl =>
  cases fl with
  |ret u=>exact I.after hq
  |_=>exact False.elim hq
def Te(sp:Sp)(dvs:List V)(E:L2.St->XK)(t:TA):TE:=λσ H Q=>t σ H λvs H1=>sp (vs++dvs) H1 Q (E σ)
theorem px(D:DefX X.prog X.w X.K X.mg X.base k x ps sp)(hr:Room j X.A)(hx:BO X E)(ha:PA X (e::es) t)(hk:k<=j:=by decide)(hg:Gl X x:=by rfl)(hdb:(x == ("__debug__":Str))=false:=by decide)
  (he:starEach (e::es) X.env=(false,eval e X.env)::starEach es X.env:=by rfl) (hpl:(backTo pos (starEach es X.env)).any (·.1)=false:=by rfl):PE X (.Call (.Name x p) (e::es) [] pos) (Te sp [] E t):=by
 intro pins s σ H Q I h;refine yer (Ho I hg D.m ?_ hdb);refine yd3 (h₀:=X.base) I.ok.mod.kin D.kp (AS (ha pos pins s σ H _ I h) λus s1 ⟨vs,H1,I1,r,q⟩=>⟨I1.kIn,?_⟩) he hpl
 exact OR D.ok (hr.mono hk) D.b .nil hx I1 r q
end
abbrev Ss:List Value:=[.type "ValueError",.type "Exception",.type "BaseException",.type "object"]
structure ExcK(K:kA)(C:Addr):Prop where
 q:PySem.W.excIn K C Ss "ValueError.__new__"=true
 self:PySem.W.subIn K (.ref C) (.ref C)=some true
 cd:∃cd,PySem.W.clsIn K C=some cd
 ty:PySem.W.typeIn K (.ref C)=some (.type "type")
 ga:PySem.W.findIn K (.ref C) "__getattribute__"=some (some (.builtin "BaseException.__getattribute__"))
 gt:PySem.W.findIn K (.ref C) "__getattr__"=some none
 ca:PySem.W.findIn K (.ref C) "__class__"=some (some (.builtin "object.__class__"))
 ob:PySem.W.mroIn K C (.type "object")=some true
 be:PySem.W.mroIn K C (.type "BaseException")=some true
 gs:PySem.W.specialIn K (.builtin "object.__class__") "__get__"=some (some (.builtin "getset_descriptor.__get__"))
 tk:PySem.W.takesIn K (.builtin "object.__class__")=some true
structure ECls(K:kA)(mg:Str->Option Value)(x:Str) where
 C:Addr
 m:mg x=some (.ref C)
 k:ExcK K C
theorem YR{K:kA}{C:Addr}{bmB:List Value}{newId:String}(X:K.In h)(q:PySem.W.excIn K C bmB newId=true):∃bm N nm qn bs hd sn sub ab col dd k0 k1 k2 k3 k5 mN,
  h.get? C=some (excClassObj nm qn C N bs bm hd sn sub ab col dd k0 k1 k2 k3 k5 newId)/\h.Ns N mN/\mN "__init__"=none/\OwnTail h bmB bm:=by
 unfold PySem.W.excIn at q;split at q
 .rename_i dd cd sl ho;split at q
  .rename_i C2 bm k0 k1 k2 k3 nid k5 hm hs;simp only[ybp,ya3,yf2]at q;obtain⟨⟨⟨⟨⟨z1,z2⟩,hdel⟩,ht⟩,hok⟩,hni⟩:=q;subst z1;subst z2;obtain⟨nm,bs,mro,nsp,qn,hd,sn,sub,ab,col,dl⟩:=cd;dsimp only at hm hok hni hdel;subst hm;subst hdel
   have hsl:sl=#[k0,k1,k2,k3,some (.builtin nid),k5]:=by
    obtain⟨l⟩:=sl;have hs':l=[k0,k1,k2,k3,some (.builtin nid),k5]:=hs;rw[hs']
   subst hsl;exact⟨bm,nsp,nm,qn,bs,hd,sn,sub,ab,col,dd,k0,k1,k2,k3,k5,_,X _ _ ho,.of_isNs (PySem.W.isNs_of_in X hok),PySem.W.nsMap_none_of_in X hok hni,PySem.W.tail_of_in X ht⟩
  .exact absurd q yb8
 .exact absurd q yb8
section
variable {x:Str}{p cpos:Pos}{e:Expr}{es:List Expr}{t:TA}{E:L2.St->XK}
def zl9(C:Addr)(E:L2.St->XK)(t:TA):TS:=λ_ σ H=>t σ H λvs H1=>vs.length<=sizeLine/\E σ (.ref C) none H1
theorem zg5(T:ECls X.K X.mg x)(hc:X.calm=true)(hx:SS X E)(ha:PA X (e::es) t)(hg:Gl X x:=by rfl)(hdb:(x == ("__debug__":Str))=false:=by decide)
  (he:starEach (e::es) X.env=(false,eval e X.env)::starEach es X.env:=by rfl) (hpl:(backTo cpos (starEach (e::es) X.env)).any (·.1)=false:=by rfl) :
  PS X (.Raise (some (.Call (.Name x p) (e::es) [] cpos)) none pos) (zl9 T.C E t):=by
 intro pins s σ H D I h;obtain⟨bm,N,nm,qn,bs,hd,sn,sub,ab,col,dd,k0,k1,k2,k3,k5,mN,hC,hN,hni,TL⟩:=YR I.mod.kin T.k.q
 refine wpAny_Raise_call_subT (C:=T.C) (nm:=nm) (q:=qn) (N:=N) (bs:=bs) (bm:=bm) (hdct:=hd) (sn:=sn) (sub:=sub) (ab:=ab) (col:=col) (dd:=dd) (k0:=k0) (k1:=k1) (k2:=k2) (k3:=k3) (k5:=k5) (mN:=mN)
  ycw (TL.hasType ycw.hasBase) (I.ok.hd hc) hpl hni (Ho I hg T.m ⟨rfl,?_⟩ hdb)
 have h2:=ha cpos pins s σ H _ I h;rw[he]at h2 ⊢;exact Calls.evalArgs_plain (AS h2 λus s1 ⟨vs,H1,I1,r,z,q1⟩=>⟨rfl,r.length▸z,I1.bk _ _ hC,hN.keeps I1.bk,TL.keeps I1.bk,λh' a hm=>hx pins σ H1 s1 a _ us h' I1 hm q1⟩)
end
def EI(H:Hp)(a C:Addr):Prop:=∃ob,H a=some (.frz ob (.own 0))/\ob.cls=.ref C/\∃vs,ob.data=.fields vs/\vs[2]?=some .none
theorem EI.of{F:Hp}{C:Addr}(x:EI H a C)(e:∀u,H a=some u->F a=some u):EI F a C :=
 let ⟨ob,y,r⟩:=x;⟨ob,e _ y,r⟩
section
variable {K:kA}{C:Addr}
open PySem.W PySem.Builtin PySem.Builtin.ObjectAttr PySem.Builtin.Getset_descriptor in
theorem zkw{prog:Program}{R:Result->Shared->Prop}{tp:Value}(X:K.In s.heap)(k:ExcK K C)(h0:∃o,s.heap.get? a=some o/\o.cls=.ref C)(h:R (.ok (.ret (.ref C))) s):codeAny (model prog w) A (.call (.builtin "getset_descriptor.__get__") ⟨[.builtin "object.__class__",.ref a,tp],[]⟩) R s:=by
 obtain⟨o,ho,hc⟩:=h0;obtain⟨hp9,g,dr,t,os⟩:=s;have L0:Looks (model prog w) hp9 (typeOf (.ref a)) (.ref C):=hc▸(Looks.ld ho).andThen .now;have L1:=looks_mroIn (M:=model prog w) X k.ob;refine(yf3 KF.slot_gs.plain KF.entry_gs (KF.slot_gs.check _ _ _ _ _ _ _ _ KF.type_class (KF.args_gs _ _ _) ?_));unfold Builtin.«getset_descriptor.__get__» descrGet;rw[dga_obj];refine yek (yen ?_);unfold descrGetter descrCheckInstance descrNameAndClass isInstance;simp only[KF.owner_class]
 repeat lk
 refine⟨(Code.quiet_builtin _ (by decide +kernel)),(yf4 KF.entry_class ?_)⟩
 (unfold Builtin.«object.__class__» shownTypeOf)
 repeat lk
 exact h
open PySem.W PySem.Builtin PySem.Builtin.ObjectAttr in
theorem zhi(X:K.In h)(k:ExcK K C):Looks M h (Builtin.ObjectAttr.find (.ref a) (.ref C) "__class__") (.bind (.builtin "getset_descriptor.__get__") (.builtin "object.__class__")):=by
 have L1:=looks_findIn (M:=M) X k.ca;have L2:Looks M h (getOf (some (.builtin "object.__class__"))) (some (.builtin "getset_descriptor.__get__")):=looks_specialIn X k.gs;have L3:=looks_takesIn (M:=M) X k.tk;exact L1.andThen (L2.andThen ((show Looks M h (dataDescriptor? (some (.builtin "object.__class__")) (some (.builtin "getset_descriptor.__get__"))) (some (.builtin "getset_descriptor.__get__",.builtin "object.__class__")) from L3.andThen .now).andThen (Looks.tag .now)))
theorem zfc:(Value.builtin "BaseException.__getattribute__" == Value.builtin "object.__getattribute__")=false:=by decide +kernel
theorem zhh:builtinKind "BaseException.__getattribute__"=some .slot:=by decide +kernel
theorem zfb:splitId "BaseException.__getattribute__"=some ("BaseException","__getattribute__"):=by decide +kernel
open PySem.W in
theorem zhj{prog:Program}{Q:Option Value->Shared->Prop}(X:K.In s.heap)(k:ExcK K C)(h0:∃o,s.heap.get? a=some o/\o.cls=.ref C)(h:Q (some (.ref C)) { s with toks:=s.toks+1 }):wpAny (model prog w) A (getAttr? (.ref a) "__class__") Q E s:=by
 obtain⟨o,ho,hc⟩:=id h0;obtain⟨hp9,g,dr,t,os⟩:=s;have L0:Looks (model prog w) hp9 (typeOf (.ref a)) (.ref C):=hc▸(Looks.ld ho).andThen .now;have L1:=looks_findIn (M:=model prog w) X k.ga;have L2:=looks_findIn (M:=model prog w) X k.gt;have LI:Looks (model prog w) hp9 (isInstance (.ref a) (.type "BaseException")) true:=L0.andThen (looks_mroIn X k.be);have LF:=zhi (M:=model prog w) (a:=a) X k
 (unfold getAttr? getAttrBy? getAttrBy)
 refine yek (wpAny_mkText (yek (wpAny_attempt (yel (yek (L0.at (yek (L1.at ?ga))))))))
 case ga =>
  have hx1:(onTheHeap (Value.ref C) && Value.builtin "BaseException.__getattribute__" == Value.builtin "object.__getattribute__")=false:=by
   rw[zfc]
   rfl
  dsimp only;rw[if_neg (by rw[hx1];exact yb8)]
  unfold getAttrByItsOwn hookBefore;rw[if_pos (show onTheHeap (Value.ref C)=true from rfl)];refine yek (L2.at (yek (wpAny_attempt (yel ?_))));unfold callGetattribute boundAndCalled;rw[if_neg (by exact yb8)]
  refine yek (yf5 (PySem.F.excAttr_ValueError.ga.bind (.ref a)) ?_);show wpAny _ _ (call (.builtin "BaseException.__getattribute__") [.ref a,.str "__class__" t]) _ _ _;refine yf1 (yf3 PySem.F.excAttr_ValueError.ga.plain PySem.F.entry_bexc_ga ?_);have ha:=PySem.F.args_bexc_ga (.ref a) (.str (Str.ofString "__class__") t);obtain⟨i,hi⟩:∃i,i="BaseException.__getattribute__":=⟨_,rfl⟩;have k1:=zhh;have k2:=zfb;rw[<- hi]at k1 k2 ha ⊢;refine PySem.W.check_slot k1 k2 LI ha ?_;refine yek (yen (yek (yen (yek (L0.at (yek (LF.at ?_)))))));show wpAny _ _ (holding [.builtin "object.__class__"] (call (.builtin "getset_descriptor.__get__") [.builtin "object.__class__",.ref a,.ref C]) >>= ret) _ _ _;refine yek (yel (yf1 (zkw X k h0 ?_)));exact yen (handed_on rfl (yen h))
open PySem.W in
theorem zgp(k:ExcK K C):KitX K (.ref a) (.ref C) (λh=>∃o,h.get? a=some o/\o.cls=.ref C) where
 ty:=λ_ _ _ p=>by
  obtain⟨o,ho,hc⟩:=p;exact hc▸(Looks.ld ho).andThen .now
 it:=λ_ _ X _=>by
  obtain⟨cd,hcd⟩:=k.cd;unfold clsIn at hcd;split at hcd
  .rename_i c' d' cd' sl' ho;intro A' Q' E' s' kk q;unfold isType loadHead;exact(yek (wpAny_loadPart (kk _ _ (X _ _ ho)) (yen q)))
  .cases hcd
 ne:=λh tp dd its n sl X hq0=>by
  obtain⟨cd,hcd⟩:=k.cd;refine(yb2.mpr λq=>?_)
  have e:C=tp:=Value.ref.inj (beq_iff_eq.mp q);subst e;unfold clsIn at hcd;split at hcd
  .rename_i c' d' cd' sl' ho;have z:=(X _ _ ho).symm.trans hq0;cases z
  .cases hcd
 ca:=λX p kk=>zhj X k p kk
end
def RV:V->Value
 |.ref C=>.ref C
 |.ty T=>.type T
 |_=>.none
section
theorem zha:Bv X (.builtin "isinstance") (λxs H Q=>∃a C c b,xs=[.ref a,c]/\EI H a C/\ExcK X.K C/\(∃D,c=.ref D\/∃T,c=.ty T)/\PySem.W.kitOne X.K (.ref C) (RV c)=some b/\Q (.bl b) H):=by
 intro pins s σ H xs us Q I r h;obtain⟨a,C,c,b,rfl,ho,k,hc,e,q⟩:=h;obtain⟨u,w',rfl,rx,ry⟩:=Fo r;cases rx
 have hv:w'=RV c:=by
  obtain⟨D,hc|⟨T,hc⟩⟩:=hc
  .subst hc;exact ry
  .subst hc;exact ry
 subst hv
 have p0:∃o,s.heap.get? a=some o/\o.cls=.ref C:=by
  obtain⟨ob,y,r,_⟩:=ho;exact⟨ob,(I.hok a _ y).1,r⟩
 exact ybh (zgp k) I.kIn p0 e (λz=>nomatch z) λtk=>⟨.bl b,H,I.tok _,rfl,q⟩
end
noncomputable abbrev Fe(X:Cx)(pins:List (Addr×Obj))(xe:Value->Shared->Prop):Cx:={ X with pn:=X.pn++pins,xe:=xe }
abbrev DS(X:Cx)(a:Addr):Cx:={ X with A:=X.A.mark (some (.ref a)),calm:=false,xe:=λ_ _=>False }
section
variable {σ:L2.St}{xe:Value->Shared->Prop}
theorem zn2(ok:X.Ok):(Fe X pins xe).Ok:=⟨ok.mod,ok.kind,ok.glob,ok.blt,ok.above,ok.inj,ok.has,ok.cab,ok.hd,ok.frames,ok.stk,ok.exf,ok.bs,ok.bsz,ok.noex,ok.exfs,ok.funs,ok.frf⟩
theorem zgf(ok:X.Ok):(DS X a).Ok:=⟨ok.mod,ok.kind,ok.glob,ok.blt,ok.above,ok.inj,ok.has,ok.cab,λz=>Bool.noConfusion z,ok.frames,ok.stk,ok.exf,ok.bs,ok.bsz,ok.noex,ok.exfs,ok.funs,ok.frf⟩
theorem zns(I:Inv X pins σ H s):Inv (Fe X pins xe) [] σ H s:=⟨zn2 I.ok,I.os,I.bare,I.base,I.loc,I.cell,I.free,I.freeC,λp hp=>I.pin p (by simpa using hp),I.hok,I.len⟩
theorem VT{ok:X.Ok}{pn2:List (Addr×Obj)}(I:Inv (Fe X pins xe) pn2 σ H s):Inv X pins σ H s:=⟨ok,I.os,I.bare,I.base,I.loc,I.cell,I.free,I.freeC,λp hp=>I.pin p (ybs _ hp),I.hok,I.len⟩
theorem XM(I:Inv X pins σ H s):Inv (DS X a) pins σ H s:=⟨zgf I.ok,I.os,I.bare,I.base,I.loc,I.cell,I.free,I.freeC,I.pin,I.hok,I.len⟩
theorem zgi(ok:X.Ok)(I:Inv (DS X a) pins σ H s):Inv X pins σ H s:=⟨ok,I.os,I.bare,I.base,I.loc,I.cell,I.free,I.freeC,I.pin,I.hok,I.len⟩
theorem gone{i t:Nat}{n:Str}{v:Option Value}{m:Str->Option Value}{h':Heap}(I:Inv X pins σ H s)(hN:X.N.Nodup)(hi:X.N[i]?=some n)(hm:s.heap.Ns X.env.locals m)(hn:h'.Ns X.env.locals (λx=>if x=n then v else m x))
  (hs:Heap.SameBut X.env.locals s.heap h'):Inv X pins (σ.set i none) H { s with heap:=h',toks:=t }:=by
 have neL:∀b o,X.s₀.heap.get? b=some o->b≠X.env.locals:=λb o e=>yar (yam (yah e) I.ok.above)
 have hok:HOk X.prog X.w H h':=λb u e=>(I.hok b u e).stay (λc x hc q=>(hs.2 c (λz=>by
   have f:=I.free
   rcases hc with y|y
   .rw[<- z,y,e]at f;cases f
   .rw[<- z,y]at f;cases f)).trans q) (λ_ q=>q) λ_ _ q=>q
 refine⟨I.ok,I.os,I.bare,⟨λb o e n hb hx=>(hs.2 b (neL b o e)).trans (I.base.keep b o e n hb hx),λb o e n hb hx=>?_,I.base.free,λb o e hx=>?_,I.base.tups,I.base.frzs,I.base.tbls⟩,⟨_,hn,λj y v' e1 e2 e3=>?_⟩,λy c e=>?_,I.free,I.freeC,λp hp=>?_,hok,by rw[yc0];exact I.len⟩
 .obtain⟨z,e1⟩:=I.base.slot b o e n hb hx;exact⟨z,(hs.2 b (neL b o e)).trans e1⟩
 .obtain⟨o',e1⟩:=I.base.there b o e hx;exact⟨o',(hs.2 b (neL b o e)).trans e1⟩
 .have hj:j≠i:=λz=>by
   subst z
   have hl:j<σ.length:=by
    rw[I.len];exact(ya4.mp hi).1
   rw[yap hl]at e2;cases e2
  rw[yan (yay hj)]at e2;obtain⟨m2,hn2,hl2⟩:=I.loc;obtain⟨u,r,q⟩:=hl2 j y v' e1 e2 e3;refine⟨u,r,?_⟩
  rcases q with ⟨kk,e⟩|⟨kk,c,e,z⟩
  .refine .inl ⟨kk,?_⟩;have hy:y≠n:=λz=>hj (Om hN e1 (z▸hi))
   have em:m2 y=m y:=by
    obtain⟨o1,es1,ep1,a1,b1,_,c1⟩:=hn2;obtain⟨o2,es2,ep2,a2,b2,_,c2⟩:=hm;rw[a1]at a2;cases a2;rw[b1]at b2;cases b2;rw[<- c1,<- c2]
   show(if y=n then v else m y)=some u
   rw[if_neg hy,<- em];exact e
  .exact .inr ⟨kk,c,e,z.sameBut hs (I.cne y c e)⟩
 .obtain⟨w',z⟩:=I.cell y c e;exact⟨w',z.sameBut hs (I.cne y c e)⟩
 .obtain⟨e,n,ne,nf,d⟩:=I.pin p hp;exact⟨(hs.2 p.1 ne).trans e,n,ne,nf,d⟩
end
def Jh(a:Addr)(i:Nat)(X:Cx)(st:List Stmt)(t:TS):Prop:=∀(pins:List (Addr×Obj)) (s:Shared) (σ:L2.St) (H:Hp) (D:Ends),Inv X pins σ H s->σ[i]?=some (some (.ref a))->(∃C,EI H a C)->t D σ H->wpAny (model X.prog X.w) X.A (execs st X.env) (SP X pins D) X.xe s
theorem pss_e{i:Nat}{st:List Stmt}{t:TS}(h:BE X st t):Jh a i X st t:=λpins s σ H D I _ _ q=>h pins s σ H D I q
def XU(i:Nat)(D:Ends):Ends:={ nx:=λσ H=>D.nx (σ.set i none) H,rt:=D.rt,bk:=λσ H=>D.bk (σ.set i none) H,ct:=λσ H=>D.ct (σ.set i none) H }
def tTry(K:kA)(W:Addr)(i:Nat)(E:L2.St->XK)(tb th:TS):TS:=λD σ H=>tb D σ H/\∀σ1 cls H1,E σ1 cls none H1->∃C,cls=.ref C/\PySem.W.subIn K (.ref C) (.ref W)=some true /\
 ∀a o,H1 a=none->EI (upd H1 a o) a C->th (XU i D) (σ1.set i (some (.ref a))) (upd H1 a o)
section
theorem exm{g:Array GenState}{d:Drawn}{t:Nat}{os:OsState}{C W N:Addr}{oe:Obj}{Q:Bool->Shared->Prop}{nm q:Str}{bs bm:List Value}{hdct:Bool}{sn:List Str}{sub:List Value}{ab:Bool}{col:Option Bool}{dd:Option Addr}{k0 k1 k2 k3 k5:Option Value}{newId:String}(hW:h.get? W=some (excClassObj nm q W N bs bm hdct sn sub ab col dd k0 k1 k2 k3 k5 newId))(he:h.get? a=some oe)(hcls:oe.cls=.ref C)(hb:bm.contains (.type "BaseException")=true)(LS:PySem.W.Looks M h (isSubtype (.ref C) (.ref W)) true)(hq:Q true ⟨h,g,d,t,os⟩):wpAny M A (excMatches (.ref a) (.ref W)) Q E ⟨h,g,d,t,os⟩:=by
 have hcB:(Value.ref W::bm).contains (.type "BaseException")=true:=by
  rw[ye4,hb];exact Bool.or_true _
 have f:=tc_notTuple;unfold excMatches
 repeat (first|(with_reducible refine wpAny_loadPart_at he ?_;rw[hcls])|with_reducible refine wpAny_loadPart_at hW ?_|(with_reducible refine wpAny_isSubtype_exc hW ?_;rw[hcB])|with_reducible refine PySem.W.Looks.at LS ?_|wp_step)
 exact hq
end
section
variable {i:Nat}{x n:Str}{np hpos:Pos}{body suite:List Stmt}{b₀:Stmt}{tb th:TS}{E:L2.St->XK}
theorem zm7(T:ECls X.K X.mg x)(hst:X.stack=X.env::X.outer)(hf:X.env.frame=some X.env.locals)(hN:X.N.Nodup)(hi:X.N[i]?=some n)(hloc:X.env.scope.names.lookup n=some .local)
  (hb:∀pins xe,BO (Fe X pins xe) E->BE (Fe X pins xe) body tb) (hh:∀a,Jh a i (DS X a) (b₀::suite) th) (hg:Gl X x:=by rfl) (hdb:(x == ("__debug__":Str))=false:=by decide) :
  PS X (.Try body [.ExceptHandler (some (.Name x np)) (some n) (b₀::suite) hpos] [] [] pos) (tTry X.K T.C i E tb th):=by
 intro pins s σ H D I h;obtain⟨h1,h2⟩:=h
 have hkind:(X.env.scope.kind == .class || (X.env.scope.kind == .module && X.env.locals != X.env.globals))=false:=by
  rw[I.ok.kind]
  rfl
 refine wpAny_Try_except (yeh (hb pins (λe s₁=>wpAny (model X.prog X.w) X.A (noteFrame e X.env) (λ_ s₂=>wpAny (model X.prog X.w) X.A (setFlight e none) (λ_ s₃=>wpAny (model X.prog X.w) X.A (handleBy e X.env [.ExceptHandler (some (.Name x np)) (some n) (b₀::suite) hpos]) (SP X pins D) X.xe s₃) X.xe s₂) X.xe s₁)
  ?pass [] s σ H D (zns I) h1) (λf s1 q=>?_) (λe s1 q=>q))
 case pass =>
  intro pins1 σ1 H1 s1 e s' I1t hcx;have I1:Inv X pins σ1 H1 s1:=VT (ok:=I.ok) I1t;obtain⟨a,cls,H',B,rfl,os,bare,un,hok,kB,tB,fl0,he⟩:=hcx;obtain⟨C,rfl,hsub,kk⟩:=h2 σ1 cls H' he;have fl1:HS B (X.env::X.outer) a (.ref C) s'.heap:=hst▸fl0;have hfr:X.A.frames=some (X.env::X.outer):=hst▸I.ok.frames;have ha:H' a=none:=none_of hok fl1.choose_spec.2.1
  have sl:∀h',s'.heap.UpToSlots h'->∀b o,s1.heap.get? b=some o->H1 b=none->b∈BF X.stack->∃z,h'.get? b=some { o with slots:=z }:=λh' sm b o e n hb=>by
   obtain⟨_,o2,ho2,hd⟩:=I1.stack.mem hb;rw[e]at ho2;cases ho2;obtain⟨z2,e2⟩:=un.slot b o e n hb (by simp)
   obtain⟨z3,e3⟩:=sm b { o with slots:=z2 } e2 hd
   exact⟨z3,e3⟩
  have th':∀h',B.StaysIn h'->s'.heap.UpToSlots h'->∀b o,s1.heap.get? b=some o->∃o',h'.get? b=some o':=λh' st sm b o e=>by
   by_cases hb:b∈BF X.stack
   .obtain⟨z,q⟩:=sl h' sm b o e (I1.stkFree b hb) hb;exact⟨_,q⟩
   .obtain⟨o',q⟩:=tB b o e hb;exact⟨o',st b o' q⟩
  have inv5:∀h',B.StaysIn h'->s'.heap.UpToSlots h'->Inv X pins σ1 H' { s' with heap:=h' }:=λh' st sm =>
   I1.call' (s':={ s' with heap:=h' }) (ch:=[]) os ⟨λb o e n hb _=>st b o (kB b o e n hb),λb o e n hb _=>sl h' sm b o e n hb,un.free,λb o e _=>th' h' st sm b o e,un.tups,un.frzs,un.tbls⟩ (hok.kept st) bare (λ_ z=>nomatch z)
  refine Oj hfr rfl hf fl1 λh4 held4 sm4=>?_
  refine Pw held4 λh5 fl5 sm5=>?_
  have sm45:=sm4.trans sm5;have I5:=inv5 h5 fl5.1 sm45;obtain⟨oe,he5,hc5⟩:=fl5.there;obtain⟨bm,N,nm,qn,bs,hd,sn,sub,ab,col,dd,k0,k1,k2,k3,k5,mN,hC,hNs,hni,TL⟩:=YR I5.kIn T.k.q;refine wpAny_handleBy_cons (codeAny_handlers_test (Ho (X:=DS X a) (XM I5) hg T.m ?_ hdb)) (by intro q;cases q)
  refine exm hC he5 hc5 (TL.hasType ycw.hasBase) (PySem.W.looks_subIn I5.kIn hsub) ?_;refine codeAny_handlers_suite_as (zoa fl5 λh6 fl6 sm6=>?_)
  have sm456:=sm45.trans sm6;obtain⟨oe6,ws6,he6,hc6,hd6,hz6⟩:=fl6.first
  have nea:∀b o,s1.heap.get? b=some o->H1 b=none->b≠a:=λb o e n z=>by
   by_cases hb:b∈BF X.stack
   .obtain⟨_,o2,ho2,hd⟩:=I1.stack.mem hb;rw[e]at ho2;cases ho2;obtain⟨y,e2⟩:=sl h6 sm456 b o e n hb;rw[z,he6]at e2;cases e2;exact hd _ hd6
   .have e2:=kB b o e n hb;rw[z,fl6.2.1]at e2;cases e2
  have I6:Inv X pins σ1 (upd H' a (.frz oe6 (.own 0))) { s' with heap:=h6 }:=by
   refine I1.call' (s':={ s' with heap:=h6 }) (ch:=[]) os ⟨λb o e n hb _=>fl6.1 b o (kB b o e n hb),λb o e n hb _=>sl h6 sm456 b o e n hb,λb o e n hx=>(Ac (nea b o e n)).trans (un.free b o e n hx),λb o e _=>th' h6 fl6.1 sm456 b o e,λb xs e=>?_,λb o u e=>?_,λb ps e=>?_⟩
    (zob (hok.kept fl6.1) ha ⟨he6,oe6,he6⟩) bare (λ_ z=>nomatch z)
   .have q:=un.tups b xs e;exact(Ac (Br q ha)).trans q
   .have q:=un.frzs b o u e;exact(Ac (Br q ha)).trans q
   .obtain⟨more,q⟩:=un.tbls b ps e;exact⟨more,(Ac (Br q ha)).trans q⟩
  refine NU (X:=DS X a) (v:=.ref a) (XM I6) hN hi (.inl hloc) rfl (λs7 I7=>?_) (.inr hloc)
  refine yeh (hh a pins s7 (σ1.set i (some (.ref a))) _ (XU i D) I7 (yap (by rw[I1.len];exact(ya4.mp hi).1)) ⟨C,oe6,Ba,hc6,ws6,hd6,hz6⟩ (kk a _ ha ⟨oe6,Ba,hc6,ws6,hd6,hz6⟩)) (λf s8 q8=>?_) (λ_ _ z=>False.elim z)
  have As:∀σ8 H8,Inv (DS X a) pins σ8 H8 s8->∀(G:Unit->Shared->Prop),(∀s9,Inv X pins (σ8.set i none) H8 s9->G () s9)->wpAny (model X.prog X.w) X.A (do bindName X.env n .none;unbindBehindTheSuite X.env n hpos) G X.xe s8:=λσ8 H8 I8 G hG=>by
   have J:=zgi I.ok I8;obtain⟨m,hm,_⟩:=id J.loc;exact wpAny_nameGoes_keeps hloc hm hkind λh' v hn hs=>hG _ (gone J hN hi hm hn hs)
  cases f with
  |next =>
   obtain⟨σ8,H8,I8,d8⟩:=q8;exact As σ8 H8 I8 _ λs9 I9=>⟨_,H8,I9,d8⟩
  |brk =>
   obtain⟨σ8,H8,I8,d8⟩:=q8;exact As σ8 H8 I8 _ λs9 I9=>⟨_,H8,I9,d8⟩
  |cont =>
   obtain⟨σ8,H8,I8,d8⟩:=q8;exact As σ8 H8 I8 _ λs9 I9=>⟨_,H8,I9,d8⟩
  |ret u =>
   obtain⟨v,σ8,H8,I8,r8,d8⟩:=q8;exact As σ8 H8 I8 _ λs9 I9=>⟨v,_,H8,I9,r8,d8⟩
 have back:∀{xe0:Value->Shared->Prop} {σ':L2.St} {H':Hp},Inv (Fe X pins xe0) [] σ' H' s1->Inv X pins σ' H' s1:=λJ=>VT (ok:=I.ok) J
 cases f with
 |next =>
  obtain⟨σ',H',J,d⟩:=q;exact yej ⟨σ',H',back J,d⟩
 |brk =>
  obtain⟨σ',H',J,d⟩:=q;exact⟨σ',H',back J,d⟩
 |cont =>
  obtain⟨σ',H',J,d⟩:=q;exact⟨σ',H',back J,d⟩
 |ret u =>
  obtain⟨v,σ',H',J,r,d⟩:=q;exact⟨v,σ',H',back J,r,d⟩
end
end Zx
namespace Pu
open PySem PySem.Spec PyProof.Rows L2 Zw Zx
variable {X:Cx}{E:L2.St->XK}{ca:Str->Value}
abbrev Rg:=Addr->Prop
def R0:Rg:=λ_=>False
inductive Kd where
 |lst|rl|tup|rt|pin (p:Addr)
inductive Ob where
 |ins (C:Addr) (fs:List Str)|exn (C:Addr)|sdc (ks:List Str)|lab (p:Addr)
inductive T where
 |non|bl (b:Bool)|int (i:Int)|str (x:Str)|nd (o:Bool) (k:Kd) (l:List T)|dic (ks:List Int) (l:List T)|pdc (ks:List Int) (l:List T)|odc (ks:List Int) (l:List T)
 |obj (k:Ob) (l:List T)|oob (p C:Addr) (fs:List Str) (l:List T)|osd (ks:List Str) (l:List T)
abbrev T.lst(l:List T):T:=.nd false .lst l
noncomputable abbrev T.own(l:List T):T:=.nd true .lst l
noncomputable abbrev T.tup(l:List T):T:=.nd false .tup l
mutual
def T.share:T->T
 |.nd _ k l=>.nd false k (Ax l)
 |.dic ks l=>.dic ks (Ax l)
 |.pdc ks l=>.pdc ks (Ax l)
 |.odc ks l=>.pdc ks (Ax l)
 |.obj k l=>.obj k (Ax l)
 |.oob _ C fs l=>.obj (.ins C fs) (Ax l)
 |.osd ks l=>.obj (.sdc ks) (Ax l)
 |.non=>.non
 |.bl b=>.bl b
 |.int i=>.int i
 |.str x=>.str x
def Ax:List T->List T
 |[]=>[]
 |t::r=>t.share::Ax r
end
mutual
def T.sh:T->Bool
 |.nd o _ l=>!o && Ak l
 |.dic _ l=>Ak l
 |.pdc _ l=>Ak l
 |.odc _ _=>false
 |.obj _ l=>Ak l
 |.oob _ _ _ _=>false
 |.osd _ _=>false
 |.non=>true
 |.bl _=>true
 |.int _=>true
 |.str _=>true
def Ak:List T->Bool
 |[]=>true
 |t::r=>t.sh && Ak r
end
noncomputable def T.flat:T->Bool
 |.nd _ _ _=>false
 |.dic _ _=>false
 |.pdc _ _=>false
 |.odc _ _=>false
 |.obj _ _=>false
 |.oob _ _ _ _=>false
 |.osd _ _=>false
 |_=>true
theorem DI:∀l:List T,Ax l=l.map T.share
 |[]=>rfl
 |t::r=>by rw[Ax,DI r];rfl
theorem DJ:∀l:List T,Ak l=l.all T.sh
 |[]=>rfl
 |t::r=>by rw[Ak,DJ r];rfl
mutual
theorem BK:∀t:T,t.sh=true->t.share=t
 |.nd o k l,h=>by
  rw[T.sh,ya3]at h;have ho:o=false:=by simpa using h.1
  subst ho;rw[T.share,AN l h.2]
 |.dic ks l,h=>by
  rw[T.sh]at h;rw[T.share,AN l h]
 |.pdc ks l,h=>by
  rw[T.sh]at h;rw[T.share,AN l h]
 |.odc ks l,h=>by
  rw[T.sh]at h;cases h
 |.obj k l,h=>by
  rw[T.sh]at h;rw[T.share,AN l h]
 |.oob p C fs l,h=>by
  rw[T.sh]at h;cases h
 |.osd ks l,h=>by
  rw[T.sh]at h;cases h
 |.non,_=>rfl
 |.bl _,_=>rfl
 |.int _,_=>rfl
 |.str _,_=>rfl
theorem AN:∀l:List T,Ak l=true->Ax l=l
 |[],_=>rfl
 |t::r,h=>by
  rw[Ak,ya3]at h;rw[Ax,BK t h.1,AN r h.2]
end
variable {l:List T}{i:Nat}
theorem UD(h:Ak l=true){t:T}(e:l[i]?=some t):t.sh=true:=by
 rw[DJ]at h;exact yaj.mp h _ (yas e)
def Ey(K:kA)(F:Hp)(k:Kd)(p:Addr)(xs:List V):Prop:=match k with
 |.lst=>F p=some (.lst xs)
 |.rl=>AY K F p xs
 |.tup=>F p=some (.tup xs)
 |.rt=>Bg K F p xs
 |.pin _=>F p=some (.lst xs)
variable {F F':Hp}{xs:List V}
theorem Ft{K:kA}{p:Addr}(s:AZ F F')(h:Bg K F p xs):Bg K F' p xs:=by
 rcases h with (h|⟨o,h⟩)|h
 .exact .inl (.inl (s _ _ h))
 .exact .inl (.inr ⟨o,s _ _ h⟩)
 .exact .inr h
theorem Ey.same{K:kA}{k:Kd}{p:Addr}(h:Ey K F k p xs)(s:AZ F F'):Ey K F' k p xs:=by
 cases k with
 |lst=>exact s _ _ h
 |rl=>exact s.seq h
 |tup=>exact s _ _ h
 |rt=>exact Ft s h
 |pin q=>exact s _ _ h
def Ji(k:Kd)(p:Addr):Prop:=match k with
 |.lst=>True
 |.pin q=>q=p
 |_=>False
theorem Ji.node{K:kA}{k:Kd}{p:Addr}(hk:Ji k p)(h:F p=some (.lst xs)):Ey K F k p xs:=by
 cases k with
 |lst=>exact h
 |pin q=>exact h
 |_=>exact hk.elim
def CO(ks:List Int)(xs:List V):List (Key×V):=List.zipWith (λk x=>(Sum.inl k,x)) ks xs
def CQ(ks:List Str)(xs:List V):List (Key×V):=List.zipWith (λk x=>(Sum.inr k,x)) ks xs
def Jj(F:Hp)(k:Ob)(p:Addr)(xs:List V):Prop:=match k with
 |.ins C fs=>∃dx,F p=some (.ins C dx (fs.zip xs))
 |.exn C=>EI F p C
 |.sdc ks=>ks.length=xs.length/\F p=some (.dK (CQ ks xs))
 |.lab q=>q=p/\xs=[.ref p]
theorem Jj.same{k:Ob}{p:Addr}(h:Jj F k p xs)(s:AZ F F'):Jj F' k p xs:=by
 cases k with
 |ins C fs=>exact h.elim λdx e=>⟨dx,s _ _ e⟩
 |exn C=>exact h.of λu=>s p u
 |sdc ks=>exact⟨h.1,s _ _ h.2⟩
 |lab q=>exact h
inductive Rp(K:kA)(F H:Hp):T->V->Rg->Prop where
 |non:Rp K F H .non .non R0
 |bl (b:Bool):Rp K F H (.bl b) (.bl b) R0
 |int (i:Int):Rp K F H (.int i) (.int i) R0
 |str (x:Str):Rp K F H (.str x) (.str x) R0
 |shr {k:Kd} {p:Addr} {xs:List V} {l:List T} (h:Ey K F k p xs) (e:l.length=xs.length) (c:∀(i:Nat) (t:T) (x:V),l[i]?=some t->xs[i]?=some x->Rp K F H t x R0):Rp K F H (.nd false k l) (.ref p) R0
 |dic {p:Addr} {ob:Obj} {ks:List Int} {xs:List V} {l:List T} (h:F p=some (.frz ob (.dK (CO ks xs)))) (e:l.length=xs.length) (ek:ks.length=xs.length) (c:∀(i:Nat) (t:T) (x:V),l[i]?=some t->xs[i]?=some x->Rp K F H t x R0):Rp K F H (.dic ks l) (.ref p) R0
 |pdc {p:Addr} {ks:List Int} {xs:List V} {l:List T} (h:F p=some (.dK (CO ks xs))) (e:l.length=xs.length) (ek:ks.length=xs.length) (c:∀(i:Nat) (t:T) (x:V),l[i]?=some t->xs[i]?=some x->Rp K F H t x R0):Rp K F H (.pdc ks l) (.ref p) R0
 |odc {p:Addr} {ks:List Int} {xs:List V} {l:List T} (f:F p=none) (h:H p=some (.dK (CO ks xs))) (e:l.length=xs.length) (ek:ks.length=xs.length) (c:∀(i:Nat) (t:T) (x:V),l[i]?=some t->xs[i]?=some x->Rp K F H t x R0):Rp K F H (.odc ks l) (.ref p) (λa=>a=p)
 |obj {k:Ob} {p:Addr} {xs:List V} {l:List T} (h:Jj F k p xs) (e:l.length=xs.length) (c:∀(i:Nat) (t:T) (x:V),l[i]?=some t->xs[i]?=some x->Rp K F H t x R0):Rp K F H (.obj k l) (.ref p) R0
 |oob {C p dx:Addr} {fs:List Str} {xs:List V} {l:List T} (R:Nat->Rg) (f:F p=none) (h:H p=some (.ins C dx (fs.zip xs))) (e:l.length=xs.length) (c:∀(i:Nat) (t:T) (x:V),l[i]?=some t->xs[i]?=some x->Rp K F H t x (R i))
   (d:∀i j a,i≠j->R i a->¬ R j a) (dp:∀i,¬ R i p) (o:∀i a,R i a->i<l.length):Rp K F H (.oob p C fs l) (.ref p) (λa=>a=p\/∃i,R i a)
 |osd {p:Addr} {ks:List Str} {xs:List V} {l:List T} (f:F p=none) (h:H p=some (.dK (CQ ks xs))) (e:l.length=xs.length) (ek:ks.length=xs.length) (c:∀(i:Nat) (t:T) (x:V),l[i]?=some t->xs[i]?=some x->Rp K F H t x R0):Rp K F H (.osd ks l) (.ref p) (λa=>a=p)
 |own {k:Kd} {p:Addr} {xs:List V} {l:List T} (hk:Ji k p) (R:Nat->Rg) (f:F p=none) (h:H p=some (.lst xs)) (e:l.length=xs.length) (c:∀(i:Nat) (t:T) (x:V),l[i]?=some t->xs[i]?=some x->Rp K F H t x (R i))
   (d:∀i j a,i≠j->R i a->¬ R j a) (dp:∀i,¬ R i p) (o:∀i a,R i a->i<l.length):Rp K F H (.nd true k l) (.ref p) (λa=>a=p\/∃i,R i a)
variable {H H':Hp}{A:Rg}{b:Bool}{y:Str}
section
variable {K:kA}{t:T}{x:V}
theorem Rp.frame(h:Rp K F H t x A)(s:AZ F F')(k:∀a,A a->H' a=H a/\F' a=none):Rp K F' H' t x A:=by
 induction h with
 |non=>exact .non
 |bl b=>exact .bl b
 |int i=>exact .int i
 |str y=>exact .str y
 |shr h e c ih=>exact .shr (h.same s) e λi t x h1 h2=>ih i t x h1 h2 λa z=>z.elim
 |dic h e ek c ih=>exact .dic (s _ _ h) e ek λi t x h1 h2=>ih i t x h1 h2 λa z=>z.elim
 |pdc h e ek c ih=>exact .pdc (s _ _ h) e ek λi t x h1 h2=>ih i t x h1 h2 λa z=>z.elim
 |odc f h e ek c ih =>
  have q:=k _ rfl;exact .odc q.2 (q.1.trans h) e ek λi t x h1 h2=>ih i t x h1 h2 λa z=>z.elim
 |obj h e c ih=>exact .obj (h.same s) e λi t x h1 h2=>ih i t x h1 h2 λa z=>z.elim
 |oob R f h e c d dp o ih =>
  have q:=k _ (.inl rfl);exact .oob R q.2 (q.1.trans h) e (λi t x h1 h2=>ih i t x h1 h2 λa z=>k a (.inr ⟨i,z⟩)) d dp o
 |osd f h e ek c ih =>
  have q:=k _ rfl;exact .osd q.2 (q.1.trans h) e ek λi t x h1 h2=>ih i t x h1 h2 λa z=>z.elim
 |own hk R f h e c d dp o ih =>
  have q:=k _ (.inl rfl);exact .own hk R q.2 (q.1.trans h) e (λi t x h1 h2=>ih i t x h1 h2 λa z=>k a (.inr ⟨i,z⟩)) d dp o
theorem Rp.dom(h:Rp K F H t x A){a:Addr}(ha:A a):F a=none/\∃u,H a=some u:=by
 induction h with
 |non=>exact ha.elim
 |bl b=>exact ha.elim
 |int i=>exact ha.elim
 |str y=>exact ha.elim
 |shr h e c ih=>exact ha.elim
 |dic h e ek c ih=>exact ha.elim
 |pdc h e ek c ih=>exact ha.elim
 |odc f h e ek c ih =>
  cases ha;exact⟨f,_,h⟩
 |obj h e c ih=>exact ha.elim
 |osd f h e ek c ih =>
  cases ha;exact⟨f,_,h⟩
 |@oob C p dx fs xs l R f h e c d dp o ih =>
  rcases ha with rfl|⟨i,z⟩
  .exact⟨f,_,h⟩
  .have hi:=o i a z;have hx:i<xs.length:=by omega
   exact ih i _ _ (ya0 hi) (ya0 hx) z
 |@own k0 p xs l hk R f h e c d dp o ih =>
  rcases ha with rfl|⟨i,z⟩
  .exact⟨f,_,h⟩
  .have hi:=o i a z;have hx:i<xs.length:=by omega
   exact ih i _ _ (ya0 hi) (ya0 hx) z
theorem Rp.share(h:Rp K F H t x A)(s:AZ F F')(k:∀a u,A a->H a=some u->F' a=some u):Rp K F' H' t.share x R0:=by
 induction h with
 |non=>exact .non
 |bl b=>exact .bl b
 |int i=>exact .int i
 |str y=>exact .str y
 |@shr k0 p xs l h e c ih =>
  rw[T.share,DI];refine .shr (h.same s) (by rw[ya1];exact e) λi t x h1 h2=>?_
  rw[ya5]at h1;obtain⟨t0,e0,rfl⟩:=ya2.mp h1;exact ih i t0 x e0 h2 λa u z=>z.elim
 |@dic p ob ks xs l h e ek c ih =>
  rw[T.share,DI];refine .dic (s _ _ h) (by rw[ya1];exact e) ek λi t x h1 h2=>?_
  rw[ya5]at h1;obtain⟨t0,e0,rfl⟩:=ya2.mp h1;exact ih i t0 x e0 h2 λa u z=>z.elim
 |@pdc p ks xs l h e ek c ih =>
  rw[T.share,DI];refine .pdc (s _ _ h) (by rw[ya1];exact e) ek λi t x h1 h2=>?_
  rw[ya5]at h1;obtain⟨t0,e0,rfl⟩:=ya2.mp h1;exact ih i t0 x e0 h2 λa u z=>z.elim
 |@odc p ks xs l f h e ek c ih =>
  rw[T.share,DI];refine .pdc (k _ _ rfl h) (by rw[ya1];exact e) ek λi t x h1 h2=>?_
  rw[ya5]at h1;obtain⟨t0,e0,rfl⟩:=ya2.mp h1;exact ih i t0 x e0 h2 λa u z=>z.elim
 |@obj k0 p xs l h e c ih =>
  rw[T.share,DI];refine .obj (h.same s) (by rw[ya1];exact e) λi t x h1 h2=>?_
  rw[ya5]at h1;obtain⟨t0,e0,rfl⟩:=ya2.mp h1;exact ih i t0 x e0 h2 λa u z=>z.elim
 |@oob C p dx fs xs l R f h e c d dp o ih =>
  rw[T.share,DI];refine .obj (k:=.ins C fs) (xs:=xs) ⟨dx,k _ _ (.inl rfl) h⟩ (by rw[ya1];exact e) λi t x h1 h2=>?_
  rw[ya5]at h1;obtain⟨t0,e0,rfl⟩:=ya2.mp h1;exact ih i t0 x e0 h2 λa u z=>k a u (.inr ⟨i,z⟩)
 |@osd p ks xs l f h e ek c ih =>
  rw[T.share,DI];refine .obj (k:=.sdc ks) (xs:=xs) ⟨ek,k _ _ rfl h⟩ (by rw[ya1];exact e) λi t x h1 h2=>?_
  rw[ya5]at h1;obtain⟨t0,e0,rfl⟩:=ya2.mp h1;exact ih i t0 x e0 h2 λa u z=>z.elim
 |@own k0 p xs l hk R f h e c d dp o ih =>
  rw[T.share,DI];refine .shr (k:=k0) (xs:=xs) (hk.node (k _ _ (.inl rfl) h)) (by rw[ya1];exact e) λi t x h1 h2=>?_
  rw[ya5]at h1;obtain⟨t0,e0,rfl⟩:=ya2.mp h1;exact ih i t0 x e0 h2 λa u z=>k a u (.inr ⟨i,z⟩)
theorem Rp.r0(h:Rp K F H t x A)(s:t.sh=true):A=R0:=by
 cases h with
 |own hk R f h e c d dp o =>
  rw[T.sh]at s;cases s
 |odc f h e ek c =>
  rw[T.sh]at s;cases s
 |oob R f h e c d dp o =>
  rw[T.sh]at s;cases s
 |osd f h e ek c =>
  rw[T.sh]at s;cases s
 |_=>rfl
theorem Rp.move(h:Rp K F H t x A)(s:t.sh=true)(q:AZ F F'):Rp K F' H' t x R0:=by
 have e:=h.r0 s;subst e;exact h.frame q λa z=>z.elim
theorem Rp.flat_any(h:Rp K F H t x A)(s:t.flat=true):Rp K F' H' t x R0:=by
 cases h with
 |non=>exact .non
 |bl b=>exact .bl b
 |int i=>exact .int i
 |str y=>exact .str y
 |shr h e c=>cases s
 |dic h e ek c=>cases s
 |pdc h e ek c=>cases s
 |odc f h e ek c=>cases s
 |obj h e c=>cases s
 |oob R f h e c d dp o=>cases s
 |osd f h e ek c=>cases s
 |own hk R f h e c d dp o=>cases s
theorem Rp.int_inv{i:Int}(h:Rp K F H (.int i) x A):x=.int i:=by cases h;rfl
theorem Rp.bl_inv(h:Rp K F H (.bl b) x A):x=.bl b:=by cases h;rfl
theorem Rp.non_inv(h:Rp K F H .non x A):x=.non:=by cases h;rfl
theorem Rp.str_inv(h:Rp K F H (.str y) x A):x=.str y:=by cases h;rfl
end
def A9(K:kA)(F:Hp)(ts:List T)(xs:List V):Prop:=ts.length=xs.length/\∀(i:Nat) (t:T) (x:V),ts[i]?=some t->xs[i]?=some x->Rp K F F t x R0
theorem A9.nil{K:kA}:A9 K F [] []:=⟨rfl,λi t x h=>by simp at h⟩
theorem Rp.any{K:kA}{t:T}{x:V}(h:Rp K F H t x R0):Rp K F H' t x R0:=h.frame (AZ.refl F) λa z=>z.elim
theorem A9.cons{K:kA}{F H:Hp}{t:T}{x:V}{ts:List T}{xs:List V}(h:Rp K F H t x R0)(r:A9 K F ts xs):A9 K F (t::ts) (x::xs):=by
 refine⟨by simp[r.1],λi t' x' h1 h2=>?_⟩
 cases i with
 |zero =>
  simp at h1 h2;subst h1;subst h2;exact h.any
 |succ j=>exact r.2 j t' x' (by simpa using h1) (by simpa using h2)
variable {ts:List T}
theorem A9.inv{K:kA}{t:T}(r:A9 K F (t::ts) xs):∃x xs',xs=x::xs'/\Rp K F F t x R0/\A9 K F ts xs':=by
 obtain⟨e,h⟩:=r;cases xs with
 |nil=>simp at e
 |cons x xs'=>exact⟨x,xs',rfl,h 0 t x rfl rfl,by simpa using e,λi t' x' h1 h2=>h (i+1) t' x' (by simpa using h1) (by simpa using h2)⟩
theorem A9.inv0{K:kA}(r:A9 K F [] xs):xs=[]:=by
 obtain⟨e,h⟩:=r;cases xs with
 |nil=>rfl
 |cons x xs'=>simp at e
theorem A9.same{K:kA}(r:A9 K F ts xs)(s:AZ F F'):A9 K F' ts xs:=⟨r.1,λi t x h1 h2=>((r.2 i t x h1 h2).frame (H':=F') s λa z=>z.elim)⟩
theorem A9.node{K:kA}{k:Kd}{p:Addr}(h:Rp K F H (.nd false k l) (.ref p) A):∃xs,Ey K F k p xs/\A9 K F l xs:=by
 cases h with
 |shr h e c=>exact⟨_,h,e,λi t x h1 h2=>(c i t x h1 h2).any⟩
theorem Rp.ref_inv{K:kA}{o:Bool}{k:Kd}{x:V}(h:Rp K F H (.nd o k l) x A):∃p,x=.ref p:=by
 cases h with
 |shr h e c=>exact⟨_,rfl⟩
 |own hk R f h e c d dp o=>exact⟨_,rfl⟩
theorem A9.of_node{K:kA}{k:Kd}{p:Addr}(h:Ey K F k p xs)(r:A9 K F l xs):Rp K F H (.nd false k l) (.ref p) R0:=.shr h r.1 λi t x h1 h2=>(r.2 i t x h1 h2).any
structure Ext(F H F' H':Hp)(B:Rg):Prop where
 hh:AZ H H'
 ff:AZ F F'
 fh:AZ F' H'
 nb:∀b,B b->H b=none
 nf:∀b u,F' b=some u->F b=some u\/H b=none
theorem FW(s:AZ H H'){b:Addr}(h:H' b=none):H b=none:=by
 cases e:H b with
 |none=>rfl
 |some u=>rw[s b u e]at h;cases h
variable {F1 H1:Hp}{B:Rg}
section
variable {F2 H2:Hp}{C:Rg}
theorem Ext.refl(s:AZ F H):Ext F H F H R0:=⟨.refl _,.refl _,s,λ_ z=>z.elim,λ_ _ e=>.inl e⟩
theorem Ext.trans(a:Ext F H F1 H1 B)(b:Ext F1 H1 F2 H2 C):Ext F H F2 H2 (λx=>B x\/C x) where
 hh:=a.hh.trans b.hh
 ff:=a.ff.trans b.ff
 fh:=b.fh
 nb:=λx z=>z.elim (a.nb x) λz=>FW a.hh (b.nb x z)
 nf:=λx u e=>(b.nf x u e).elim (a.nf x u) λz=>.inr (FW a.hh z)
theorem Ext.mono(a:Ext F H F1 H1 B)(h:∀x,C x->B x):Ext F H F1 H1 C:=⟨a.hh,a.ff,a.fh,λx z=>a.nb x (h x z),a.nf⟩
theorem Ext.trans0(a:Ext F H F1 H1 R0)(b:Ext F1 H1 F2 H2 C):Ext F H F2 H2 C:=(a.trans b).mono λx z=>.inr z
open Classical in
def frz(F H:Hp)(A:Rg):Hp:=λb=>if A b then H b else F b
theorem GO{b:Addr}(h:A b):frz F H A b=H b:=by unfold frz;rw[if_pos h]
theorem F9{b:Addr}(h:¬ A b):frz F H A b=F b:=by unfold frz;rw[if_neg h]
theorem EZ(n:∀a,A a->F a=none):AZ F (frz F H A):=λb u e=>by
 by_cases h:A b
 .rw[n b h]at e;cases e
 .rw[F9 h];exact e
theorem Hw(s:AZ F H):AZ (frz F H A) H:=λb u e=>by
 by_cases h:A b
 .rw[GO h]at e;exact e
 .rw[F9 h]at e;exact s b u e
theorem Ext.frz(a:Ext F H F1 H1 B)(n:∀b,B b->F1 b=none):Ext F H (frz F1 H1 B) H1 R0 where
 hh:=a.hh
 ff:=a.ff.trans (EZ n)
 fh:=Hw a.fh
 nb:=λ_ z=>z.elim
 nf:=λb u e=>by
  by_cases h:B b
  .exact .inr (a.nb b h)
  .rw[F9 h]at e;exact a.nf b u e
theorem Rp.ext{K:kA}{t:T}{x:V}(h:Rp K F H t x A)(a:Ext F H F1 H1 B):Rp K F1 H1 t x A:=h.frame a.ff λb z=>by
 obtain⟨f,u,e⟩:=h.dom z;refine⟨(a.hh b u e).trans e.symm,?_⟩;cases q:F1 b with
 |none=>rfl
 |some u' =>
  rcases a.nf b u' q with z|z
  .rw[f]at z;cases z
  .rw[e]at z;cases z
theorem Rp.apart{K:kA}{t:T}{x:V}(h:Rp K F H t x A)(a:Ext F H F1 H1 B){b:Addr}(hb:B b):¬ A b:=λz=>by
 obtain⟨f,u,e⟩:=h.dom z;rw[a.nb b hb]at e;cases e
theorem Ext.new{p:Addr}{o:HO}(s:AZ F H)(h:H p=none):Ext F H (upd F p o) (upd H p o) R0 where
 hh:=K7 h o
 ff:=K7 (FW s h) o
 fh:=λb u e=>by
  by_cases hb:b=p
  .subst hb;rw[Ba]at e ⊢;exact e
  .rw[Ac hb]at e ⊢;exact s b u e
 nb:=λ_ z=>z.elim
 nf:=λb u e=>by
  by_cases hb:b=p
  .subst hb;exact .inr h
  .rw[Ac hb]at e;exact .inl e
theorem Ext.newO{p:Addr}{o:HO}(s:AZ F H)(h:H p=none):Ext F H F (upd H p o) (λa=>a=p) where
 hh:=K7 h o
 ff:=.refl _
 fh:=λb u e=>K7 h o b u (s b u e)
 nb:=λb z=>by rw[z];exact h
 nf:=λb u e=>.inl e
end
abbrev AO:=List (Option T)
structure StR(K:kA)(F H:Hp)(σ:L2.St)(τ:AO)(R:Nat->Rg):Prop where
 fh:AZ F H
 len:σ.length=τ.length
 rep:∀i t,τ[i]?=some (some t)->∃x,σ[i]?=some (some x)/\Rp K F H t x (R i)
 out:∀i a,R i a->∃t,τ[i]?=some (some t)
 dis:∀i j a,i≠j->R i a->¬ R j a
variable {σ:L2.St}{τ:AO}{R:Nat->Rg}
section
variable {K:kA}
theorem StR.dom(h:StR K F H σ τ R){i:Nat}{a:Addr}(ha:R i a):F a=none/\∃u,H a=some u:=by
 obtain⟨t,e⟩:=h.out i a ha;obtain⟨x,_,r⟩:=h.rep i t e;exact r.dom ha
theorem StR.ext(h:StR K F H σ τ R)(a:Ext F H F1 H1 B):StR K F1 H1 σ τ R where
 fh:=a.fh
 len:=h.len
 rep:=λi t e=>by
  obtain⟨x,e1,r⟩:=h.rep i t e;exact⟨x,e1,r.ext a⟩
 out:=h.out
 dis:=h.dis
theorem StR.apart(h:StR K F H σ τ R)(a:Ext F H F1 H1 B){b:Addr}(hb:B b)(i:Nat):¬ R i b:=λz=>by
 obtain⟨f,u,e⟩:=h.dom z;rw[a.nb b hb]at e;cases e
end
def Wv:Key->PyData
 |.inl i=>.int i
 |.inr x=>.str x
mutual
def T.data:T->PyData
 |.non=>.none
 |.bl b=>.bool b
 |.int i=>.int i
 |.str x=>.str x
 |.nd _ .lst l=>.list (CA l)
 |.nd _ .rl l=>.list (CA l)
 |.nd _ .tup l=>.tuple (CA l)
 |.nd _ .rt l=>.tuple (CA l)
 |.nd _ (.pin _) l=>.list (CA l)
 |.dic ks l=>.dict ((ks.map PyData.int).zip (CA l))
 |.pdc ks l=>.dict ((ks.map PyData.int).zip (CA l))
 |.odc ks l=>.dict ((ks.map PyData.int).zip (CA l))
 |.obj _ _=>.none
 |.oob _ _ _ _=>.none
 |.osd _ _=>.none
def CA:List T->List PyData
 |[]=>[]
 |t::r=>t.data::CA r
end
mutual
def T.pln:T->Bool
 |.nd _ _ l=>Eg l
 |.dic _ l=>Eg l
 |.pdc _ l=>Eg l
 |.odc _ l=>Eg l
 |.obj _ _=>false
 |.oob _ _ _ _=>false
 |.osd _ _=>false
 |.non=>true
 |.bl _=>true
 |.int _=>true
 |.str _=>true
def Eg:List T->Bool
 |[]=>true
 |t::r=>t.pln && Eg r
end
theorem EO:∀{l:List T},Eg l=true->∀{i:Nat} {t:T},l[i]?=some t->t.pln=true
 |[],_,i,t,e=>by simp at e
 |a::r,h,i,t,e=>by
  rw[Eg,ya3]at h;cases i with
  |zero =>
   simp at e;subst e;exact h.1
  |succ i=>exact EO h.2 (by simpa using e)
theorem U3{h:Heap}:∀{l:List T} {us:List Value},l.length=us.length->(∀(i:Nat) (t:T) (u:Value),l[i]?=some t->us[i]?=some u->∃as,Reads h u t.data as)->∃as,ReadsAll h us (CA l) as
 |[],[],_,_=>⟨_,.nil⟩
 |[],_::_,e,_=>by simp at e
 |_::_,[],e,_=>by simp at e
 |t::l,u::us,e,f=>by
  obtain⟨a1,r1⟩:=f 0 t u rfl rfl;obtain⟨a2,r2⟩:=U3 (l:=l) (us:=us) (by simpa using e) λi t' u' h1 h2=>f (i+1) t' u' (by simpa using h1) (by simpa using h2)
  exact⟨_,.cons r1 r2⟩
variable {P:Program}{w:World}
theorem Pz{h:Heap}{k:Key}{v:Value}(e:(Bl P w).is k v=true):Reads h v (Wv k) []:=by
 rcases EA (show En k v=true from e) with ⟨i,t,rfl,rfl⟩|⟨x,t,rfl,rfl⟩
 .exact .int i t
 .exact .str x t
theorem Kv{h:Heap}:∀(ks:List Int) (xs:List V) (l:List T) (vs:List (Key×Value)),KV (CO ks xs) vs->l.length=xs.length->ks.length=xs.length->(∀(i:Nat) (t:T) (x:V),l[i]?=some t->xs[i]?=some x->∀{u:Value},RelV x u->∃as,Reads h u t.data as) ->
  ∃bs,PyProof.V.PairsRead h Wv vs ((ks.map PyData.int).zip (CA l)) bs
 |[],xs,l,vs,r,_,_,_=>by
  have r':Paired _ [] vs:=(show Paired _ (CO [] xs) vs from r);cases r';exact⟨_,.nil⟩
 |k::ks,[],l,vs,r,_,ek,_=>by simp at ek
 |k::ks,x::xs,[],vs,r,e,_,_=>by simp at e
 |k::ks,x::xs,t::l,vs,r,e,ek,f=>by
  have r':Paired (λ(p:Key×V) (q:Key×Value)=>p.1=q.1/\RelV p.2 q.2) ((Sum.inl k,x)::CO ks xs) vs:=r
  cases r' with
  |@cons _ q _ qs hd tl =>
   obtain⟨a1,r1⟩:=f 0 t x rfl rfl hd.2;obtain⟨a2,r2⟩:=Kv ks xs l qs tl (by simpa using e) (by simpa using ek) λi t' x' h1 h2=>f (i+1) t' x' (by simpa using h1) (by simpa using h2)
   obtain⟨q1,q2⟩:=q;cases (show Sum.inl k=q1 from hd.1);exact⟨_,.cons r1 r2⟩
variable {pins:List (Addr×Obj)}{s:Shared}
section
theorem Ds(I:Inv X pins σ H s)(fh:AZ F H){t:T}{x:V}(h:Rp X.K F H t x A)(hpl:t.pln=true):∀{u:Value},RelV x u->∃as,Reads s.heap u t.data as:=by
 have kids:∀{l:List T} {xs:List V} {its:List Value},A5 xs its->l.length=xs.length->(∀(i:Nat) (t:T) (x:V),l[i]?=some t->xs[i]?=some x->∀{u:Value},RelV x u->∃as,Reads s.heap u t.data as)->∃as,ReadsAll s.heap its (CA l) as:=by
  intro l xs its r e ih;refine U3 (e.trans r.length) λi t u h1 h2=>?_
  have hi:i<xs.length:=by
   have:=(ya4.mp h1).1
   omega
  obtain⟨u',e1,r1⟩:=r.get (ya0 hi);rw[h2]at e1;cases e1;exact ih i t _ h1 (ya0 hi) r1
 have lsts:∀{p:Addr} {l:List T} {xs:List V},AY X.K H p xs->l.length=xs.length->(∀(i:Nat) (t:T) (x:V),l[i]?=some t->xs[i]?=some x->∀{u:Value},RelV x u->∃as,Reads s.heap u t.data as)->∃as,Reads s.heap (.ref p) (.list (CA l)) as:=by
  intro p l xs hq e ih;obtain⟨its,r,⟨o,n,e1,e2,e3,e4⟩,_⟩:=I.list hq;obtain⟨as,ra⟩:=kids r e ih;exact⟨_,.list e1 e2 e4 (by simpa using ra)⟩
 have tups:∀{p:Addr} {l:List T} {xs:List V},Bg X.K H p xs->l.length=xs.length->(∀(i:Nat) (t:T) (x:V),l[i]?=some t->xs[i]?=some x->∀{u:Value},RelV x u->∃as,Reads s.heap u t.data as)->∃as,Reads s.heap (.ref p) (.tuple (CA l)) as:=by
  intro p l xs hq e ih;obtain⟨its,r,⟨o,e1,e2,n,e4⟩,_⟩:=I.tuple hq;obtain⟨as,ra⟩:=kids r e ih;exact⟨_,.tuple e1 e2 e4 (by simpa using ra)⟩
 induction h with
 |non=>intro u r;cases r;exact⟨_,.none⟩
 |bl b=>intro u r;cases r;exact⟨_,.bool b⟩
 |int i=>intro u r;obtain⟨t,rfl⟩:=r;exact⟨_,.int i t⟩
 |str y=>intro u r;obtain⟨t,rfl⟩:=r;exact⟨_,.str y t⟩
 |@shr k p xs l h e c ih =>
  intro u r;cases r;cases k with
  |lst=>exact lsts (AY.of (fh _ _ h)) e λi t x h1 h2=>ih i t x h1 h2 (EO hpl h1)
  |rl=>exact lsts (fh.seq h) e λi t x h1 h2=>ih i t x h1 h2 (EO hpl h1)
  |tup=>exact tups (Bg.of (fh _ _ h)) e λi t x h1 h2=>ih i t x h1 h2 (EO hpl h1)
  |rt=>exact tups (Ft fh h) e λi t x h1 h2=>ih i t x h1 h2 (EO hpl h1)
  |pin q=>exact lsts (AY.of (fh _ _ h)) e λi t x h1 h2=>ih i t x h1 h2 (EO hpl h1)
 |@dic p ob ks xs l h e ek c ih =>
  intro u r;cases r;obtain⟨ho,z,hd,vs,rel,dd⟩:=(show BQ X.prog X.w H s.heap p (.frz ob (.dK (CO ks xs))) from I.hok p _ (fh _ _ h));obtain⟨bs,pr⟩:=Kv ks xs l vs rel e ek λi t x h1 h2=>ih i t x h1 h2 (EO hpl h1)
  exact⟨_,ydh (λk v q=>Pz q) dd pr⟩
 |@pdc p ks xs l h e ek c ih =>
  intro u r;cases r;obtain⟨z,hd,vs,rel,dd⟩:=(show BQ X.prog X.w H s.heap p (.dK (CO ks xs)) from I.hok p _ (fh _ _ h));obtain⟨bs,pr⟩:=Kv ks xs l vs rel e ek λi t x h1 h2=>ih i t x h1 h2 (EO hpl h1)
  exact⟨_,ydh (λk v q=>Pz q) dd pr⟩
 |@odc p ks xs l f h e ek c ih =>
  intro u r;cases r;obtain⟨z,hd,vs,rel,dd⟩:=(show BQ X.prog X.w H s.heap p (.dK (CO ks xs)) from I.hok p _ h);obtain⟨bs,pr⟩:=Kv ks xs l vs rel e ek λi t x h1 h2=>ih i t x h1 h2 (EO hpl h1)
  exact⟨_,ydh (λk v q=>Pz q) dd pr⟩
 |obj h e c ih=>cases hpl
 |oob R f h e c d dp o ih=>cases hpl
 |osd f h e ek c ih=>cases hpl
 |@own k0 p xs l hk R f h e c d dp o ih =>
  intro u r;cases r;cases k0 with
  |lst=>exact lsts (AY.of h) e λi t x h1 h2=>ih i t x h1 h2 (EO hpl h1)
  |pin q=>exact lsts (AY.of h) e λi t x h1 h2=>ih i t x h1 h2 (EO hpl h1)
  |_=>exact hk.elim
end
noncomputable def Bm(t:T):Bool:=t.pln && t.data.canLay0
def Fc(t u:T):Bool:=PyData.eqv t.data u.data
def E1(t u:T):Bool:=Bm t && Bm u && decide (min t.data.depth u.data.depth<=60)
def B5(t u:T):Option T:=if E1 t u then some (.bl (Fc t u)) else none
def d0:T->Bool
 |.dic [] []=>true
 |_=>false
def FJ(a b:T):Bool:=match a,b with
 |.obj (.lab p) _,.obj (.lab q) _=>p == q
 |_,_=>false
def Es:List T->List T->Bool
 |[],[]=>true
 |a::r,b::q=>(Bm a && Bm b && decide (min a.data.depth b.data.depth<=60) && PyData.eqv a.data b.data || (d0 a && d0 b || FJ a b)) && Es r q
 |_,_=>false
def LJ(t u:T):Option T:=match t,u with
 |.nd _ .lst l,.nd _ .lst m=>if Es l m then some (.bl false) else none
 |_,_=>none
def Ci(t u:T):Option T:=if E1 t u then some (.bl (!Fc t u)) else LJ t u
def Hs(t:T)(l:List T):Bool:=Bm t && (Eg l && PyData.canLayAll0 (CA l)) && decide (min (PyData.depthAll (CA l)) t.data.depth<=60)
def QO(t:T)(l:List T):Bool:=(CA l).any λy=>PyData.eqv y t.data
def XN(t:T)(y:Str):Option T:=match t with
 |.str x=>some (.bl (!(Builtin.Str.occurrences y x 0 y.length 1).isEmpty))
 |_=>none
def EX(t c:T):Option T:=match c with
 |.nd _ _ l=>if Hs t l then some (.bl (QO t l)) else none
 |.str y=>XN t y
 |_=>none
def Gr(t c:T):Option T:=match c with
 |.nd _ _ l=>if Hs t l then some (.bl (!QO t l)) else none
 |_=>none
def Cn(K:kA)(F H:Hp)(v:T)(Q:VK):Prop:=∀F' H' z C,Ext F H F' H' C->Rp K F' H' v z C->Q z H'
def BS(K:kA)(g:T->T->Option T):R2:=λx y H Q=>∃F t u v,AZ F H/\Rp K F F t x R0/\Rp K F F u y R0/\g t u=some v/\Cn K F H v Q
def Ks(K:kA)(g:T->Option T):V->Hp->VK->Prop:=λx H Q=>∃F t v,AZ F H/\Rp K F F t x R0/\g t=some v/\Cn K F H v Q
def DK(K:kA)(g:List T->Option T):List V->Hp->VK->Prop:=λxs H Q=>∃F ts v,AZ F H/\A9 K F ts xs/\g ts=some v/\Cn K F H v Q
variable {Q:VK}
section
variable {K:kA}
theorem Cn.int{i:Int}(q:Cn K F H (.int i) Q)(s:AZ F H):Q (.int i) H:=q F H _ _ (Ext.refl s) (.int i)
theorem Cn.bl{b:Bool}(q:Cn K F H (.bl b) Q)(s:AZ F H):Q (.bl b) H:=q F H _ _ (Ext.refl s) (.bl b)
theorem Cn.str{x:Str}(q:Cn K F H (.str x) Q)(s:AZ F H):Q (.str x) H:=q F H _ _ (Ext.refl s) (.str x)
theorem Cn.list(q:Cn K F H (.own l) Q)(s:AZ F H)(r:A9 K F l xs){p:Addr}(hp:H p=none):Q (.ref p) (upd H p (.lst xs)):=by
 refine q F (upd H p (.lst xs)) (.ref p) _ ((Ext.newO s hp).mono ?_) (.own (k:=.lst) (xs:=xs) trivial (λ_=>R0) (FW s hp) Ba r.1 (λi t x h1 h2=>?_) (λ_ _ _ _ z=>z.elim) (λ_ z=>z) (λ_ _ z=>z.elim))
 .rintro a (z|⟨i,z⟩)
  .exact z
  .exact z.elim
 .exact(r.2 i t x h1 h2).any
theorem Cn.tuple(q:Cn K F H (.tup l) Q)(s:AZ F H)(r:A9 K F l xs){p:Addr}(hp:H p=none):Q (.ref p) (upd H p (.tup xs)):=by
 have e:=Ext.new (o:=.tup xs) s hp;exact q _ _ _ _ e (A9.of_node (k:=.tup) Ba (r.same e.ff))
end
def Hf(i:Int):Bool:=@decide (-(2 ^ 64)<i/\i<2 ^ 64) (Classical.propDecidable _)
def DX(i:Int):Bool:=@decide (-(10 ^ 70)<i/\i<10 ^ 70) (Classical.propDecidable _)
def L8(k:Int):Bool:=@decide (k<2 ^ 63/\-(2 ^ 63)<=k) (Classical.propDecidable _)
def JF(i j:Int):Bool:=Hf i || Hf j || (DX i && DX j)
noncomputable def BL:Nat:=16777216
def BV:T->T->Option T
 |.int i,.int j=>some (.int (i+j))
 |.str x,.str y=>if x.length+y.length<=BL then some (.str (x++y)) else none
 |.nd _ .lst l,.nd _ .lst m=>if l.length+m.length<=BL then some (.own (l++m)) else none
 |_,_=>none
def FH:T->T->Option T
 |.int i,.int j=>some (.int (i - j))
 |_,_=>none
def GA:T->T->Option T
 |.int i,.int j=>if JF i j then some (.int (i * j)) else none
 |.nd _ .lst l,.int k=>if L8 k=true/\l.length * k.toNat<=BL then some (.own (List.replicate k.toNat l).flatten) else none
 |.str x,.int k=>if 0<=k/\k<=1000000/\x.length<=16 then some (.str (Txt.mul x k)) else none
 |_,_=>none
def CP:T->T->Option T
 |.int i,.int j=>if j≠0 then some (.int (i.fmod j)) else none
 |_,_=>none
def Dd:T->T->Option T
 |.int i,.int j=>if j≠0/\DX j then some (.int (i.fdiv j)) else none
 |_,_=>none
def Ku:T->T->Option T
 |.int i,.int j=>if 0<=j/\j<=1000000/\Hf i then some (.int (i ^ j.toNat)) else none
 |_,_=>none
def Cs(f:Int->Int->Bool):T->T->Option T
 |.int i,.int j=>some (.bl (f i j))
 |_,_=>none
def Du:T->Option T
 |.int i=>some (.int (-i))
 |_=>none
theorem OP{i:Int}(h:Hf i=true):-(2 ^ 64)<i/\i<2 ^ 64:=@of_decide_eq_true _ (Classical.propDecidable _) h
theorem OO{i:Int}(h:DX i=true):Sm i:=@of_decide_eq_true _ (Classical.propDecidable _) h
theorem Ww{k:Int}(h:L8 k=true):k<2 ^ 63/\-(2 ^ 63)<=k:=@of_decide_eq_true _ (Classical.propDecidable _) h
theorem Dl:BL=sizeLine:=by rw[yeq];rfl
theorem Kk{K:kA}{F:Hp}:∀{l m:List T} {xs ys:List V},A9 K F l xs->A9 K F m ys->A9 K F (l++m) (xs++ys)
 |[],m,xs,ys,r,q=>by rw[r.inv0];exact q
 |t::l,m,xs,ys,r,q=>by
  obtain⟨x,xs',rfl,r1,r2⟩:=r.inv;exact .cons r1 (Kk r2 q)
theorem UT{K:kA}{F:Hp}{l:List T}{xs:List V}(r:A9 K F l xs):∀n:Nat,A9 K F (List.replicate n l).flatten (List.replicate n xs).flatten
 |0=>.nil
 |n+1=>by
  rw[ybr,ybr,ycc,ycc];exact Kk r (UT r n)
variable {op:CmpOp}{n:Nat}
section
theorem Cg{K:kA}{o:Bool}{k:Kd}{x:V}(h:Rp K F H (.nd o k l) x R0):∃p xs,x=.ref p/\o=false/\Ey K F k p xs/\A9 K F l xs:=by
 generalize hA:R0=A at h;cases h with
 |shr h e c=>exact⟨_,_,rfl,rfl,h,e,λi t x h1 h2=>(hA▸c i t x h1 h2).any⟩
 |@own k0 p xs l hk R f h e c d dp o =>
  exfalso
  have z:=congrFun hA p;have:R0 p:=by rw[z];exact .inl rfl
  exact this
theorem VO:A6 X (binaryOp .Add) (BS X.K BV):=by
 intro pins s σ H x y v u Q I rx ry h;obtain⟨F,t1,t2,r,fh,r1,r2,e,q⟩:=h;unfold BV at e;split at e
 .cases e;rw[r1.int_inv]at rx;rw[r2.int_inv]at ry;exact zmx pins s σ H _ _ v u Q I rx ry ⟨_,_,rfl,rfl,q.int fh⟩
 .split at e
  .cases e;rename_i hz;rw[r1.str_inv]at rx;rw[r2.str_inv]at ry;exact zdh pins s σ H _ _ v u Q I rx ry ⟨_,_,rfl,rfl,by rw[<- Dl];exact hz,q.str fh⟩
  .cases e
 .split at e
  .cases e;rename_i hz;obtain⟨p,xs,rfl,rfl,n1,k1⟩:=Cg r1;obtain⟨p2,ys,rfl,rfl,n2,k2⟩:=Cg r2;refine zmw pins s σ H _ _ v u Q I rx ry ⟨p,p2,xs,ys,rfl,rfl,fh _ _ n1,fh _ _ n2,?_,λa ha=>q.list fh (Kk k1 k2) ha⟩
   rw[<- k1.1,<- k2.1,<- Dl];exact hz
  .cases e
 .cases e
theorem JB{f:Value->Value->Sem Value}{C:Int->Int->Prop}{g:Int->Int->V}{gT:T->T->Option T}(ho:A6 X f (rI C g))(hg:∀t u v,gT t u=some v->∃i j,t=.int i/\u=.int j/\C i j/\((∃k,v=.int k/\g i j=.int k)\/∃k,v=.bl k/\g i j=.bl k)):A6 X f (BS X.K gT):=by
 intro pins s σ H x y v u Q I rx ry h;obtain⟨F,t1,t2,r,fh,r1,r2,e,q⟩:=h;obtain⟨i,j,rfl,rfl,hc,hv⟩:=hg _ _ _ e;rw[r1.int_inv]at rx;rw[r2.int_inv]at ry;refine ho pins s σ H _ _ v u Q I rx ry ⟨i,j,rfl,rfl,hc,?_⟩
 rcases hv with ⟨k,rfl,ek⟩|⟨k,rfl,ek⟩
 .rw[ek];exact q.int fh
 .rw[ek];exact q.bl fh
theorem A6.weak{f:Value->Value->Sem Value}{r r':R2}(h:A6 X f r)(w:∀x y H Q,r' x y H Q->r x y H Q):A6 X f r':=λpins s σ H x y v u Q I rx ry q=>h pins s σ H x y v u Q I rx ry (w x y H Q q)
theorem U0{g:Int->Int->V}{f:Value->Value->Sem Value}(h:A6 X f (Ee g)):A6 X f (rI (λ_ _=>True) g):=A6.weak h λx y H Q ⟨i,j,a,b,_,q⟩=>⟨i,j,a,b,q⟩
theorem zj5:A6 X (binaryOp .Sub) (BS X.K FH):=JB (U0 zmr) λt u v h=>by
 unfold FH at h;split at h
 .cases h;exact⟨_,_,rfl,rfl,trivial,.inl ⟨_,rfl,rfl⟩⟩
 .cases h
theorem zjb:A6 X (binaryOp .Mod) (BS X.K CP):=JB zj4 λt u v h=>by
 unfold CP at h;split at h
 .split at h
  .cases h;exact⟨_,_,rfl,rfl,by assumption,.inl ⟨_,rfl,rfl⟩⟩
  .cases h
 .cases h
theorem zge:A6 X (binaryOp .FloorDiv) (BS X.K Dd):=JB zgc λt u v h=>by
 unfold Dd at h;split at h
 .split at h
  .cases h;rename_i hc;exact⟨_,_,rfl,rfl,⟨hc.1,OO hc.2⟩,.inl ⟨_,rfl,rfl⟩⟩
  .cases h
 .cases h
theorem zj6:A6 X (binaryOp .Pow) (BS X.K Ku):=JB zmt λt u v h=>by
 unfold Ku at h;split at h
 .split at h
  .cases h;rename_i hc;have q:=OP hc.2.2;exact⟨_,_,rfl,rfl,⟨hc.1,hc.2.1,by omega⟩,.inl ⟨_,rfl,rfl⟩⟩
  .cases h
 .cases h
theorem Ky{g:Int->Int->Bool}(ho:A6 X (compareOp op) (Ee λi j=>.bl (g i j))):A6 X (compareOp op) (BS X.K (Cs g)):=JB (U0 ho) λt u v h=>by
 unfold Cs at h;split at h
 .cases h;exact⟨_,_,rfl,rfl,trivial,.inr ⟨_,rfl,rfl⟩⟩
 .cases h
theorem zja:A6 X (binaryOp .Mult) (BS X.K GA):=by
 intro pins s σ H x y v u Q I rx ry h;obtain⟨F,t1,t2,r,fh,r1,r2,e,q⟩:=h;unfold GA at e;split at e
 .rename_i i j;split at e
  .cases e;rename_i hc;rw[r1.int_inv]at rx;rw[r2.int_inv]at ry;unfold JF at hc;rw[ybm,ybm,ya3]at hc
   rcases hc with (hc|hc)|hc
   .exact VM pins s σ H _ _ v u Q I rx ry ⟨i,j,rfl,rfl,.inl (OP hc),q.int fh⟩
   .exact VM pins s σ H _ _ v u Q I rx ry ⟨i,j,rfl,rfl,.inr (OP hc),q.int fh⟩
   .exact zj3 pins s σ H _ _ v u Q I rx ry ⟨i,j,rfl,rfl,⟨OO hc.1,OO hc.2⟩,q.int fh⟩
  .cases e
 .split at e
  .cases e;rename_i hc;obtain⟨p,xs,rfl,rfl,n1,k1⟩:=Cg r1;rw[r2.int_inv]at ry;refine zms pins s σ H _ _ v u Q I rx ry ⟨p,_,xs,rfl,rfl,fh _ _ n1,(Ww hc.1).2,(Ww hc.1).1,?_,λa ha=>q.list fh (UT k1 _) ha⟩
   rw[<- k1.1,<- Dl];exact hc.2
  .cases e
 .split at e
  .cases e;rename_i hc;rw[r1.str_inv]at rx;rw[r2.int_inv]at ry;obtain⟨t1,rfl⟩:=rx;obtain⟨t2,rfl⟩:=ry;exact SB.mul (mulOk_of 16 1048576 hc.2.2 (by omega) (by omega) (by decide) (by decide)) λt' k=>⟨.str _,H,I.tok _,⟨_,rfl⟩,q.str fh⟩
  .cases e
 .cases e
theorem zhq:J8 X (unaryOp .USub) (Ks X.K Du):=by
 intro pins s σ H x v Q I rx h;obtain⟨F,t,r,fh,r1,e,q⟩:=h;unfold Du at e;split at e
 .cases e;rw[r1.int_inv]at rx;exact zl1 pins s σ H _ v Q I rx ⟨_,rfl,q.int fh⟩
 .cases e
theorem Y6{A:Around}(hu:A.units+64<cLine)(h:n<=60):A.units+n<cLine:=by omega
theorem zn0(hu:X.A.units+64<cLine):A6 X (compareOp .Eq) (BS X.K B5):=by
 intro pins s σ H x y v u Q I rx ry h;obtain⟨F,t1,t2,r,fh,r1,r2,e,q⟩:=h;unfold B5 at e;split at e
 .cases e;rename_i hc;unfold E1 Bm at hc;rw[ya3,ya3,ya3,ya3,yf6]at hc;obtain⟨a1,q1⟩:=Ds I fh (r1.any) hc.1.1.1 rx;obtain⟨a2,q2⟩:=Ds I fh (r2.any) hc.1.2.1 ry;exact SeqAt.compareEq_reads q1 q2 hc.1.1.2 hc.1.2.2 (Y6 hu hc.2) ⟨.bl _,H,I,rfl,q.bl fh⟩
 .cases e
theorem zmz(hu:X.A.units+64<cLine):A6 X (compareOp .In) (BS X.K EX):=by
 intro pins s σ H x y v u Q I rx ry h;obtain⟨F,t1,t2,r,fh,r1,r2,e,q⟩:=h;unfold EX at e;split at e
 .rename_i o k l;split at e
  .cases e;rename_i hc;unfold Hs Bm at hc;rw[ya3,ya3,ya3,ya3,yf6]at hc;obtain⟨a1,q1⟩:=Ds I fh (r1.any) hc.1.1.1 rx;obtain⟨a2,q2⟩:=Ds I fh (r2.any) (show(T.nd o k l).pln=true from hc.1.2.1) ry;have hd:X.A.units+1+min (PyData.depthAll (CA l)) t1.data.depth<cLine:=by omega
   cases k with
   |lst=>exact ye1 q2 q1 hc.1.2.2 hc.1.1.2 hd ⟨.bl _,H,I,rfl,q.bl fh⟩
   |rl=>exact ye1 q2 q1 hc.1.2.2 hc.1.1.2 hd ⟨.bl _,H,I,rfl,q.bl fh⟩
   |tup=>exact SeqAt.in_tuple_reads q2 q1 hc.1.2.2 hc.1.1.2 hd ⟨.bl _,H,I,rfl,q.bl fh⟩
   |rt=>exact SeqAt.in_tuple_reads q2 q1 hc.1.2.2 hc.1.1.2 hd ⟨.bl _,H,I,rfl,q.bl fh⟩
   |pin _=>exact ye1 q2 q1 hc.1.2.2 hc.1.1.2 hd ⟨.bl _,H,I,rfl,q.bl fh⟩
  .cases e
 .unfold XN at e;split at e
  .cases e;rw[r1.str_inv]at rx;rw[r2.str_inv]at ry;exact zeb pins s σ H _ _ v u Q I rx ry ⟨_,_,rfl,rfl,q.bl fh⟩
  .cases e
 .cases e
theorem zec(hu:X.A.units+64<cLine):A6 X (compareOp .NotIn) (BS X.K Gr):=by
 intro pins s σ H x y v u Q I rx ry h;obtain⟨F,t1,t2,r,fh,r1,r2,e,q⟩:=h;unfold Gr at e;split at e
 .rename_i o k l;split at e
  .cases e;rename_i hc;unfold Hs Bm at hc;rw[ya3,ya3,ya3,ya3,yf6]at hc;obtain⟨a1,q1⟩:=Ds I fh (r1.any) hc.1.1.1 rx;obtain⟨a2,q2⟩:=Ds I fh (r2.any) (show(T.nd o k l).pln=true from hc.1.2.1) ry;have hd:X.A.units+1+min (PyData.depthAll (CA l)) t1.data.depth<cLine:=by omega
   cases k with
   |lst=>exact ydi q2 q1 hc.1.2.2 hc.1.1.2 hd ⟨.bl _,H,I,rfl,q.bl fh⟩
   |rl=>exact ydi q2 q1 hc.1.2.2 hc.1.1.2 hd ⟨.bl _,H,I,rfl,q.bl fh⟩
   |tup=>exact SeqAt.notIn_tuple_reads q2 q1 hc.1.2.2 hc.1.1.2 hd ⟨.bl _,H,I,rfl,q.bl fh⟩
   |rt=>exact SeqAt.notIn_tuple_reads q2 q1 hc.1.2.2 hc.1.1.2 hd ⟨.bl _,H,I,rfl,q.bl fh⟩
   |pin _=>exact ydi q2 q1 hc.1.2.2 hc.1.1.2 hd ⟨.bl _,H,I,rfl,q.bl fh⟩
  .cases e
 .cases e
end
inductive Rs where
 |v (t:T) (b:Bool)|x (c:Str)
abbrev AF:=AO->Option Rs
inductive RsL where
 |v (ts:List T) (b:Bool)|x (c:Str)
abbrev Ao:=AO->Option RsL
def tot(R:Nat->Rg):Rg:=λa=>∃i,R i a
def Ct(K:kA)(F H:Hp)(R:Nat->Rg)(v:T)(b:Bool)(x:V)(B:Rg):Prop:=match b with
 |true=>B=R0/\∃A,(∀a,A a->tot R a)/\Rp K F H v x A
 |false=>Rp K F H v x B
def Gz(b:Bool)(F H:Hp)(R:Nat->Rg):Hp:=match b with
 |true=>frz F H (tot R)
 |false=>F
section
variable {K:kA}{c:Bool}{v:T}{x:V}
theorem StR.tot(S:StR K F H σ τ R){a:Addr}(h:tot R a):F a=none/\∃u,H a=some u:=by
 obtain⟨i,z⟩:=h;exact S.dom z
theorem Lg(S:StR K F H σ τ R):AZ F (Gz b F H R):=by
 cases b with
 |true=>exact EZ λa z=>(S.tot z).1
 |false=>exact .refl _
theorem QP(S:StR K F H σ τ R):AZ (Gz b F H R) H:=by
 cases b with
 |true=>exact Hw S.fh
 |false=>exact S.fh
theorem zk9(S:StR K F H σ τ R)(e:Ext F H F1 H1 B)(h:b=true->c=true):AZ (Gz b F H R) (Gz c F1 H1 R):=by
 have S1:=S.ext e;cases b with
 |false=>exact e.ff.trans (Lg S1)
 |true =>
  rw[h rfl];intro a u q;show frz F1 H1 (Pu.tot R) a=some u
  by_cases z:Pu.tot R a
  .rw[GO z];have q':frz F H (Pu.tot R) a=some u:=q;rw[GO z]at q';exact e.hh _ _ q'
  .rw[F9 z];have q':frz F H (Pu.tot R) a=some u:=q;rw[F9 z]at q';exact e.ff _ _ q'
theorem Ct.frz(S:StR K F H σ τ R)(e:Ext F H F1 H1 B)(g:Ct K F1 H1 R v b x B):∃F2,Ext F H F2 H1 R0/\AZ F1 F2/\Rp K (Gz b F2 H1 R) (Gz b F2 H1 R) v.share x R0:=by
 have S1:=S.ext e;cases b with
 |true =>
  obtain⟨rfl,A,hA,r⟩:=g
  exact⟨F1,e,.refl _,r.share (Lg (b:=true) S1) λa u z q=>by
   show Pu.frz F1 H1 (Pu.tot R) a=some u;rw[GO (hA a z)];exact q⟩
 |false =>
  have g':Rp K F1 H1 v x B:=g;have n:∀a,B a->F1 a=none:=λa z=>(g'.dom z).1
  exact⟨_,e.frz n,EZ n,g'.share (EZ n) λa u z q=>by
   show Pu.frz F1 H1 B a=some u;rw[GO z];exact q⟩
theorem Ext.grow{H2:Hp}(e:Ext F H F1 H1 R0)(s:AZ H1 H2):Ext F H F1 H2 R0:=⟨e.hh.trans s,e.ff,e.fh.trans s,λ_ z=>z.elim,e.nf⟩
end
def pM(K:kA)(E:L2.St->XK)(ca:Str->Value)(σ:L2.St)(Q:VK)(F H:Hp)(R:Nat->Rg):Option Rs->Prop
 |some (.v v b)=>∀F' H' x B,Ext F H F' H' B->Ct K F' H' R v b x B->Q x H'
 |some (.x c)=>∀F' H',Ext F H F' H' R0->E σ (ca c) none H'
 |none=>False
def tM(K:kA)(E:L2.St->XK)(ca:Str->Value)(m:AF):TE:=λσ H Q=>∃F τ R,StR K F H σ τ R/\pM K E ca σ Q F H R (m τ)
def pMs(K:kA)(E:L2.St->XK)(ca:Str->Value)(σ:L2.St)(Q:List V->Hp->Prop)(F H:Hp)(R:Nat->Rg):Option RsL->Prop
 |some (.v ts b)=>∀F' H' xs,Ext F H F' H' R0->A9 K (Gz b F' H' R) ts xs->Q xs H'
 |some (.x c)=>∀F' H',Ext F H F' H' R0->E σ (ca c) none H'
 |none=>False
def CF(K:kA)(E:L2.St->XK)(ca:Str->Value)(m:Ao):TA:=λσ H Q=>∃F τ R,StR K F H σ τ R/\pMs K E ca σ Q F H R (m τ)
def pMB(K:kA)(E:L2.St->XK)(ca:Str->Value)(σ:L2.St)(Q:Bool->Hp->Prop)(F H:Hp):Option Rs->Prop
 |some (.v (.bl c) _)=>∀F' H',Ext F H F' H' R0->Q c H'
 |some (.v _ _)=>False
 |some (.x c)=>∀F' H',Ext F H F' H' R0->E σ (ca c) none H'
 |none=>False
def Az(K:kA)(E:L2.St->XK)(ca:Str->Value)(m:AF):TT:=λσ H Q=>∃F τ R,StR K F H σ τ R/\pMB K E ca σ Q F H (m τ)
noncomputable def AA(i:Nat):AF:=λτ=>match τ[i]? with
 |some (some t)=>some (.v t (!t.sh))
 |_=>none
noncomputable def mC(t:T):AF:=λ_=>some (.v t false)
def AD:Ao:=λ_=>some (.v [] false)
noncomputable def AB(m:AF)(ms:Ao):Ao:=λτ=>match m τ with
 |some (.v t b)=>(match ms τ with
  |some (.v ts b')=>some (.v (t.share::ts) (b || b'))
  |r=>r)
 |some (.x c)=>some (.x c)
 |none=>none
def As(b:Bool)(v:T):Option Rs:=if b && !v.flat then none else some (.v v false)
def BA(g:List T->Option T)(ms:Ao):AF:=λτ=>match ms τ with
 |some (.v ts b)=>(match g ts with
  |some v=>As b v
  |none=>none)
 |some (.x c)=>some (.x c)
 |none=>none
def g2(g:T->T->Option T):List T->Option T
 |[t,u]=>g t u
 |_=>none
def g1(g:T->Option T):List T->Option T
 |[t]=>g t
 |_=>none
abbrev m1(g:T->Option T)(a:AF):AF:=BA (g1 g) (AB a AD)
abbrev m2(g:T->T->Option T)(a b:AF):AF:=BA (g2 g) (AB a (AB b AD))
def Dw(c:AF)(a b:AF):AF:=λτ=>match c τ with
 |some (.v (.bl true) _)=>a τ
 |some (.v (.bl false) _)=>b τ
 |some (.x c)=>some (.x c)
 |_=>none
def BU(c:AF):AF:=λτ=>match c τ with
 |some (.v (.bl b) _)=>some (.v (.bl (!b)) false)
 |some (.x c)=>some (.x c)
 |_=>none
def D0(a b:AF):AF:=Dw a b (mC (.bl false))
def CI(a b:AF):AF:=Dw a (mC (.bl true)) b
variable {m ma mb mc:AF}{ms:Ao}{a c e:Expr}{es:List Expr}{pos:Pos}{g:T->T->Option T}{x:Str}
section
variable {K:kA}{b:Expr}
theorem PE.weak{t t':TE}(h:PE X e t)(w:∀σ H Q,t' σ H Q->t σ H Q):PE X e t':=λpins s σ H Q I q=>h pins s σ H Q I (w σ H Q q)
theorem PT.weak{t t':TT}(h:PT X e t)(w:∀σ H Q,t' σ H Q->t σ H Q):PT X e t':=λpins s σ H Q I q=>h pins s σ H Q I (w σ H Q q)
theorem PA.weak{t t':TA}(h:PA X es t)(w:∀σ H Q,t' σ H Q->t σ H Q):PA X es t':=λpos pins s σ H Q I q=>h pos pins s σ H Q I (w σ H Q q)
theorem tM.mono{Q':VK}(h:tM K E ca m σ H Q)(w:∀x H',Q x H'->Q' x H'):tM K E ca m σ H Q':=by
 obtain⟨F,τ,R,S,q⟩:=h;refine⟨F,τ,R,S,?_⟩;cases hm:m τ with
 |none=>rw[hm]at q;exact q
 |some r =>
  rw[hm]at q;cases r with
  |v v b=>exact λF' H' x B e g=>w _ _ (q F' H' x B e g)
  |x c=>exact q
theorem E9{Q:List V->Hp->Prop}(h:CF K E ca AD σ H Q):Q [] H:=by
 obtain⟨F,τ,R,S,q⟩:=h;exact q F H [] (Ext.refl S.fh) .nil
theorem Ea{Q:List V->Hp->Prop}(h:CF K E ca (AB m ms) σ H Q):tM K E ca m σ H λx H1=>CF K E ca ms σ H1 λxs H2=>Q (x::xs) H2:=by
 obtain⟨F,τ,R,S,q⟩:=h;refine⟨F,τ,R,S,?_⟩;unfold AB at q;cases hm:m τ with
 |none=>rw[hm]at q;exact q
 |some r =>
  rw[hm]at q;cases r with
  |x c=>exact q
  |v t b =>
   intro F' H' x B e g;obtain⟨F2,e2,_,r2⟩:=Ct.frz S e g;have S2:=S.ext e2;refine⟨F2,τ,R,S2,?_⟩;cases hs:ms τ with
   |none=>rw[hs]at q;exact False.elim q
   |some r =>
    simp only[hs]at q;cases r with
    |x c=>exact λF3 H3 e3=>q F3 H3 (e2.trans0 e3)
    |v ts b' =>
     intro F3 H3 xs e3 rs;refine q F3 H3 (x::xs) (e2.trans0 e3) ?_;refine .cons (H:=H3) ((r2.frame (zk9 S2 e3 (by intro z;simp[z])) λa z=>z.elim)) ?_
     cases b' with
     |true=>rw[Bool.or_true];exact rs
     |false =>
      rw[ydk];cases b with
      |false=>exact rs
      |true=>exact rs.same (Lg (b:=true) (S2.ext e3))
theorem FG{g:List T->Option T}(h:tM K E ca (BA g ms) σ H Q):CF K E ca ms σ H λxs H1=>DK K g xs H1 Q:=by
 obtain⟨F,τ,R,S,q⟩:=h;refine⟨F,τ,R,S,?_⟩;unfold BA at q;cases hs:ms τ with
 |none=>rw[hs]at q;exact False.elim q
 |some r =>
  simp only[hs]at q;cases r with
  |x c=>exact q
  |v ts b =>
   intro F1 H1 xs e1 rs;have S1:=S.ext e1;cases hg:g ts with
   |none=>simp only[hg]at q;exact False.elim q
   |some v =>
    simp only[hg]at q;refine⟨Gz b F1 H1 R,ts,v,QP S1,rs,hg,λF2 H2 z C e2 r2=>?_⟩
    unfold As at q;cases b with
    |false=>exact q F2 H2 z C (e1.trans0 e2) r2
    |true =>
     cases hf:v.flat with
     |false =>
      rw[hf]at q;exact False.elim q
     |true =>
      rw[hf]at q;exact q F1 H2 z R0 (e1.grow e2.hh) (r2.flat_any hf)
theorem rTn2{x y:V}(h:DK K (g2 g) [x,y] H Q):BS K g x y H Q:=by
 obtain⟨F,ts,v,fh,rs,e,q⟩:=h;unfold g2 at e;split at e
 .obtain⟨x1,xs1,e1,r1,rs1⟩:=rs.inv;obtain⟨x2,xs2,e2,r2,rs2⟩:=rs1.inv;cases e1;cases e2;exact⟨F,_,_,v,fh,r1,r2,e,q⟩
 .cases e
theorem rTn1{g:T->Option T}{x:V}(h:DK K (g1 g) [x] H Q):Ks K g x H Q:=by
 obtain⟨F,ts,v,fh,rs,e,q⟩:=h;unfold g1 at e;split at e
 .obtain⟨x1,xs1,e1,r1,rs1⟩:=rs.inv;cases e1;exact⟨F,_,v,fh,r1,e,q⟩
 .cases e
theorem NN(h:tM K E ca (BA (g2 g) (AB ma (AB mb AD))) σ H Q):Ha (BS K g) (tM K E ca ma) (tM K E ca mb) σ H Q :=
 (Ea (FG h)).mono λx H1 h1=>(Ea h1).mono λy H2 h2=>rTn2 (E9 h2)
theorem zlb{g:T->Option T}(h:tM K E ca (BA (g1 g) (AB ma AD)) σ H Q):TU (Ks K g) (tM K E ca ma) σ H Q :=
 (Ea (FG h)).mono λx H1 h1=>rTn1 (E9 h1)
theorem Su(h:tM K E ca (AA i) σ H Q):KO i σ H Q:=by
 obtain⟨F,τ,R,S,q⟩:=h;unfold AA at q;split at q
 .rename_i t ht;obtain⟨x,e,r⟩:=S.rep i t ht;refine⟨x,e,q F H x R0 (Ext.refl S.fh) ?_⟩;cases hs:t.sh with
  |true=>exact r.move hs (.refl _)
  |false=>exact⟨rfl,R i,λa z=>⟨i,z⟩,r⟩
 .exact False.elim q
theorem Gg(hN:X.N[i]?=some x)(hv:DT X.env.scope x)(hd:(x == ("__debug__":Str))=false)(hcd:(x == ("__classdict__":Str))=false):PE X (.Name x pos) (tM X.K E ca (AA i)):=PE.weak (Gp hN hv hd hcd) λ_ _ _ h=>Su h
theorem Hg{t:T}{v:V}(h:PE X e (tC v))(r:∀F H,Rp X.K F H t v R0):PE X e (tM X.K E ca (mC t)):=PE.weak h λσ H Q h=>by
 obtain⟨F,τ,R,S,q⟩:=h;exact q F H v R0 (Ext.refl S.fh) (r _ _)
theorem OZ:PA X [] (CF X.K E ca AD):=PA.weak DZ λσ H Q h=>E9 h
theorem O0(ha:PE X e (tM X.K E ca m))(hr:PA X es (CF X.K E ca ms))(hs:starEach (e::es) X.env=(false,eval e X.env)::starEach es X.env):PA X (e::es) (CF X.K E ca (AB m ms)) :=
 PA.weak (Cf ha hr hs) λσ H Q h=>Ea h
theorem Um{op:Operator}(ho:A6 X (binaryOp op) (BS X.K g))(ha:PE X a (tM X.K E ca ma))(hb:PE X b (tM X.K E ca mb)):PE X (.BinOp a op b pos) (tM X.K E ca (BA (g2 g) (AB ma (AB mb AD)))) :=
 PE.weak (pe_op ho ha hb) λσ H Q h=>NN h
theorem r_un{op:UnaryOp}{g:T->Option T}(ho:J8 X (unaryOp op) (Ks X.K g))(ha:PE X a (tM X.K E ca ma)):PE X (.UnaryOp op a pos) (tM X.K E ca (BA (g1 g) (AB ma AD))) :=
 PE.weak (pe_un ho ha) λσ H Q h=>zlb h
theorem r_cmp(ho:A6 X (compareOp op) (BS X.K g))(ha:PE X a (tM X.K E ca ma))(hb:PE X b (tM X.K E ca mb))(hm:behindInMarks op b=false):PE X (.Compare a [op] [b] pos) (tM X.K E ca (BA (g2 g) (AB ma (AB mb AD)))) :=
 PE.weak (ziy ho ha hb hm) λσ H Q h=>NN h
theorem KQ{Q:Bool->Hp->Prop}(h:Az K E ca m σ H Q):tM K E ca m σ H λx H1=>∃k,x=.bl k/\Q k H1:=by
 obtain⟨F,τ,R,S,q⟩:=h;refine⟨F,τ,R,S,?_⟩;cases hm:m τ with
 |none=>rw[hm]at q;exact q
 |some r =>
  rw[hm]at q;cases r with
  |x c=>exact q
  |v v b =>
   cases v with
   |bl k =>
    intro F' H' x B e g
    have hx:x=.bl k:=by
     cases b with
     |true=>obtain⟨_,A,_,r⟩:=g;exact r.bl_inv
     |false=>exact(show Rp K F' H' _ _ _ from g).bl_inv
    exact⟨k,hx,q F' H' (e.mono λ_ z=>z.elim)⟩
   |_=>exact q.elim
theorem Ua(ho:A6 X (compareOp op) (BS X.K g))(ha:PE X a (tM X.K E ca ma))(hb:PE X b (tM X.K E ca mb))(hm:behindInMarks op b=false):PT X (.Compare a [op] [b] pos) (Az X.K E ca (BA (g2 g) (AB ma (AB mb AD)))) :=
 PT.weak (zig ho ha hb hm) λσ H Q h=>NN (KQ h)
theorem Kq(h:PE X e (tM X.K E ca m))(he:∀whole,isTrue e X.env whole=(do let v <- whole;standAt e.pos;holding [v] (truthy v))):PT X e (Az X.K E ca m):=PT.weak (zm5 h he) λσ H Q h=>KQ h
theorem Td{Q:Bool->Hp->Prop}(h:Az K E ca (Dw mc ma mb) σ H Q):Az K E ca mc σ H λk H1=>if k=true then Az K E ca ma σ H1 Q else Az K E ca mb σ H1 Q:=by
 obtain⟨F,τ,R,S,q⟩:=h;refine⟨F,τ,R,S,?_⟩;unfold Dw at q;cases hm:mc τ with
 |none=>rw[hm]at q;exact False.elim q
 |some r =>
  simp only[hm]at q;cases r with
  |x c=>exact q
  |v v b =>
   cases v with
   |bl k =>
    intro F1 H1 e1;have S1:=S.ext e1
    have key:∀{mm:AF},(match mm τ with
      |some (.v (.bl c) _)=>∀F' H',Ext F H F' H' R0->Q c H'
      |some (.v _ _)=>False
      |some (.x c)=>∀F' H',Ext F H F' H' R0->E σ (ca c) none H'
      |none=>False)->Az K E ca mm σ H1 Q:=λ{mm} q=>by
     refine⟨F1,τ,R,S1,?_⟩;cases hr:mm τ with
     |none=>rw[hr]at q;exact False.elim q
     |some r =>
      simp only[hr]at q;cases r with
      |x c=>exact λF' H' e=>q F' H' (e1.trans0 e)
      |v v b =>
       cases v with
       |bl k=>exact λF' H' e=>q F' H' (e1.trans0 e)
       |_=>exact q.elim
    cases k with
    |true=>exact La (key q)
    |false=>exact Lb (key q)
   |_=>exact q.elim
theorem T9(h:tM K E ca (Dw mc ma mb) σ H Q):Az K E ca mc σ H λk H1=>if k=true then tM K E ca ma σ H1 Q else tM K E ca mb σ H1 Q:=by
 obtain⟨F,τ,R,S,q⟩:=h;refine⟨F,τ,R,S,?_⟩;unfold Dw at q;cases hm:mc τ with
 |none=>rw[hm]at q;exact False.elim q
 |some r =>
  simp only[hm]at q;cases r with
  |x c=>exact q
  |v v b =>
   cases v with
   |bl k =>
    intro F1 H1 e1;have S1:=S.ext e1
    have key:∀{mm:AF},(match mm τ with
      |some (.v v b)=>∀F' H' x B,Ext F H F' H' B->Ct K F' H' R v b x B->Q x H'
      |some (.x c)=>∀F' H',Ext F H F' H' R0->E σ (ca c) none H'
      |none=>False)->tM K E ca mm σ H1 Q:=λ{mm} q=>by
     refine⟨F1,τ,R,S1,?_⟩;cases hr:mm τ with
     |none=>rw[hr]at q;exact False.elim q
     |some r =>
      simp only[hr]at q;cases r with
      |x c=>exact λF' H' e=>q F' H' (e1.trans0 e)
      |v v b=>exact λF' H' x B e g=>q F' H' x B (e1.trans0 e) g
    cases k with
    |true=>exact La (key q)
    |false=>exact Lb (key q)
   |_=>exact q.elim
theorem r_ife(hc:PT X c (Az X.K E ca mc))(ha:PE X a (tM X.K E ca ma))(hb:PE X b (tM X.K E ca mb)):PE X (.IfExp c a b pos) (tM X.K E ca (Dw mc ma mb)):=PE.weak (zga hc ha hb) λσ H Q h=>T9 h
theorem zhv{Q:Bool->Hp->Prop}(h:Az K E ca (BU mc) σ H Q):T3 (Az K E ca mc) σ H Q:=by
 obtain⟨F,τ,R,S,q⟩:=h;refine⟨F,τ,R,S,?_⟩;unfold BU at q;cases hm:mc τ with
 |none=>rw[hm]at q;exact False.elim q
 |some r =>
  simp only[hm]at q;cases r with
  |x c=>exact q
  |v v b =>
   cases v with
   |bl k=>exact q
   |_=>exact q.elim
theorem U9(hc:PT X c (Az X.K E ca mc)):PT X (.UnaryOp .Not c pos) (Az X.K E ca (BU mc)):=PT.weak (zm6 hc) λσ H Q h=>zhv h
theorem zlc(h:tM K E ca (BU mc) σ H Q):TZ (tM K E ca mc) σ H Q:=by
 obtain⟨F,τ,R,S,q⟩:=h;refine⟨F,τ,R,S,?_⟩;unfold BU at q;cases hm:mc τ with
 |none=>rw[hm]at q;exact False.elim q
 |some r =>
  simp only[hm]at q;cases r with
  |x c=>exact q
  |v v b =>
   cases v with
   |bl k =>
    intro F' H' x B e g
    have hx:x=.bl k:=by
     cases b with
     |true=>obtain⟨_,A,_,r⟩:=g;exact r.bl_inv
     |false=>exact(show Rp K F' H' _ _ _ from g).bl_inv
    exact⟨k,hx,q F' H' _ R0 (e.mono λ_ z=>z.elim) (.bl _)⟩
   |_=>exact q.elim
theorem r_not(ha:PE X a (tM X.K E ca ma)):PE X (.UnaryOp .Not a pos) (tM X.K E ca (BU ma)):=PE.weak (zml ha) λσ H Q h=>zlc h
theorem T8(h:tM K E ca (Dw mc ma mb) σ H Q):tM K E ca mc σ H λx H1=>∃k,x=.bl k/\if k=true then tM K E ca ma σ H1 Q else tM K E ca mb σ H1 Q:=KQ (T9 h)
theorem Tc{t:T}{v:V}(r:∀F H,Rp K F H t v R0)(h:tM K E ca (mC t) σ H Q):Q v H:=by
 obtain⟨F,τ,R,S,q⟩:=h;exact q F H v R0 (Ext.refl S.fh) (r _ _)
theorem r_and{rest:List Expr}(ha:PE X a (tM X.K E ca ma))(hb:PE X (.BoolOp .And (b::rest) pos) (tM X.K E ca mb)):PE X (.BoolOp .And (a::b::rest) pos) (tM X.K E ca (D0 ma mb)) :=
 PE.weak (zmp ha hb) λσ H Q h=>(T8 h).mono λx H1 ⟨k,e,q⟩=>⟨k,e,by
  cases k with
  |true=>exact q
  |false=>exact Tc (E:=E) (ca:=ca) (λ_ _=>.bl _) q⟩
theorem r_or{rest:List Expr}(ha:PE X a (tM X.K E ca ma))(hb:PE X (.BoolOp .Or (b::rest) pos) (tM X.K E ca mb)):PE X (.BoolOp .Or (a::b::rest) pos) (tM X.K E ca (CI ma mb)) :=
 PE.weak (pe_or ha hb) λσ H Q h=>(T8 h).mono λx H1 ⟨k,e,q⟩=>⟨k,e,by
  cases k with
  |true=>exact Tc (E:=E) (ca:=ca) (λ_ _=>.bl _) q
  |false=>exact q⟩
theorem r_one{op:BoolOp}(ha:PE X a (tM X.K E ca ma)):PE X (.BoolOp op [a] pos) (tM X.K E ca ma):=zmk ha
theorem Az.mono{Q Q':Bool->Hp->Prop}(h:Az K E ca m σ H Q)(w:∀x H',Q x H'->Q' x H'):Az K E ca m σ H Q':=by
 obtain⟨F,τ,R,S,q⟩:=h;refine⟨F,τ,R,S,?_⟩;cases hm:m τ with
 |none=>rw[hm]at q;exact q
 |some r =>
  rw[hm]at q;cases r with
  |v v b =>
   cases v with
   |bl k=>exact λF' H' e=>w _ _ (q F' H' e)
   |_=>exact q.elim
  |x c=>exact q
theorem NP{k:Bool}{Q:Bool->Hp->Prop}(h:Az K E ca (mC (.bl k)) σ H Q):Q k H:=by
 obtain⟨F,τ,R,S,q⟩:=h;exact q F H (Ext.refl S.fh)
theorem PW.weak{t t':TT}(h:PW X e t)(w:∀σ H Q,t' σ H Q->t σ H Q):PW X e t':=λwh pins s σ H Q I q=>h wh pins s σ H Q I (w σ H Q q)
theorem zls{rest:List Expr}(ha:PT X a (Az X.K E ca ma))(hb:PW X (.BoolOp .And (b::rest) pos) (Az X.K E ca mb)):PW X (.BoolOp .And (a::b::rest) pos) (Az X.K E ca (D0 ma mb)) :=
 PW.weak (zm4 ha hb) λσ H Q h=>(Td h).mono λk H1 q=>by
  cases k with
  |true=>exact q
  |false=>exact NP (E:=E) (ca:=ca) q
theorem U7{rest:List Expr}(ha:PT X a (Az X.K E ca ma))(hb:PW X (.BoolOp .Or (b::rest) pos) (Az X.K E ca mb)):PW X (.BoolOp .Or (a::b::rest) pos) (Az X.K E ca (CI ma mb)) :=
 PW.weak (pw_or ha hb) λσ H Q h=>(Td h).mono λk H1 q=>by
  cases k with
  |true=>exact NP (E:=E) (ca:=ca) q
  |false=>exact q
theorem zi9(ha:PT X a (Az X.K E ca ma)):PW X (.BoolOp .And [a] pos) (Az X.K E ca ma):=zie ha
theorem U8(ha:PT X a (Az X.K E ca ma)):PW X (.BoolOp .Or [a] pos) (Az X.K E ca ma):=zm3 ha
end
section
variable {h':Heap}
theorem FE{t':Nat}{ch:List Addr}(I:Inv X pins σ H s)(k:∀b o,b∉ch->s.heap.get? b=some o->h'.get? b=some o)(f:∀b∈ch,CT X pins H b):Inv X pins σ H { s with heap:=h',toks:=t' }:=by
 have nit:∀b u,H b=some u->b∉ch:=λb u e z=>by rw[(f b z).1]at e;cases e
 refine I.step (g':=s.gens) (d':=s.drawn) (ch:=ch) (λb hb=>?_) (λb o _ _ hc e _=>k b o hc e) (λb o _ _ hc e _=>⟨o.slots,k b o hc e⟩) (λ_ _ _ _ n=>n)
  (λb o hc e=>⟨o,k b o hc e⟩) (λ_ _ e=>e) (λ_ _ _ e=>e) (λb ps e=>⟨#[],by rw[e];simp⟩) (λm hm=>?_) (λb u e=>?_) I.bare
 .obtain⟨_,f1,f2,f3,f4,f5⟩:=f b hb;exact⟨f3,f1,f4,f5⟩
 .obtain⟨o,es,ep,ho,r⟩:=hm;exact⟨o,es,ep,k _ o (λz=>(f _ z).2.1 rfl) ho,r⟩
 .refine(I.hok b u e).stay (λc v hc q=>k c v ?_ q) (λ_ q=>q) λ_ _ q=>q
  rcases hc with z|z
  .rw[z];exact nit b u e
  .exact nit c _ z
theorem NF{t':Nat}{ch:List Addr}{p:Addr}{o:HO}(I:Inv X pins σ H s)(k:∀b o,b∉ch->s.heap.get? b=some o->h'.get? b=some o)(f:∀b∈ch,CT X pins H b)(hp:s.heap.objs.size<=p)(new:BQ X.prog X.w (upd H p o) h' p o) :
  Inv X pins σ (upd H p o) { s with heap:=h',toks:=t' }:=by
 have hn:H p=none:=I.hok.fresh hp;have nit:∀b u,H b=some u->b∉ch:=λb u e z=>by rw[(f b z).1]at e;cases e
 have old:∀b ob,s.heap.get? b=some ob->b≠p:=λb ob e z=>by
  subst z;exact absurd (yah e) (yec.mpr hp)
 refine I.step (g':=s.gens) (d':=s.drawn) (ch:=ch) (λb hb=>?_) (λb o _ _ hc e _=>k b o hc e) (λb o _ _ hc e _=>⟨o.slots,k b o hc e⟩) (λb ob hc e n=>by rw[Ac (old b ob e)];exact n)
  (λb o hc e=>⟨o,k b o hc e⟩) (λb xs e=>by rw[Ac (Br e hn)];exact e) (λb o u e=>by rw[Ac (Br e hn)];exact e) (λb ps e=>⟨#[],by rw[Ac (Br e hn),e];simp⟩) (λm hm=>?_) (λb u e=>?_) I.bare
 .obtain⟨_,f1,f2,f3,f4,f5⟩:=f b hb;exact⟨f3,f1,f4,f5⟩
 .obtain⟨o,es,ep,ho,r⟩:=hm;exact⟨o,es,ep,k _ o (λz=>(f _ z).2.1 rfl) ho,r⟩
 .by_cases hb:b=p
  .subst hb;rw[Ba]at e;cases e;exact new
  .rw[Ac hb]at e;refine(I.hok b u e).stay (λc v hc q=>k c v ?_ q) (λc q=>by rw[Ac (Br q hn)];exact q) λc xs q=>by rw[Ac (Br q hn)];exact q
   rcases hc with z|z
   .rw[z];exact nit b u e
   .exact nit c _ z
theorem Q5{p b:Addr}{o:HO}(f:CT X pins H b)(h:b≠p):CT X pins (upd H p o) b:=⟨by rw[Ac h];exact f.1,f.2⟩
end
def SX(K:kA)(l:Addr):It :=
 ⟨λi H=>∃xs x,AY K H l xs/\xs[i]?=some x,λi H x H'=>∃p y,x=.ref p/\H p=none/\H'=upd H p (.tup [.int i,y])/\∀xs,AY K H l xs->xs[i]?=some y,λi H=>∃xs,AY K H l xs/\xs.length<=i⟩
variable {elts:List Expr}{kk:Nat}{tpos:Pos}
theorem zdy{K:kA}(l e it:Addr)(hei:e≠it) :
  Turn P w K (.Tuple elts kk tpos) (SX K l) [e,it] e (λi h=>(∃old,IsEnum h e it i old)/\h.IsListIter it l i) where
 mem:=by simp
 obj:=λi h st b hb=>by
  obtain⟨⟨old,he⟩,o,hi,hc,hd⟩:=st;obtain rfl|hb:=ya6.mp hb
  .exact⟨_,he,λv z=>by
    have z':Data.fields _=Data.cell v:=z;cases z'⟩
  .have q:b=it:=by simpa using hb
   subst q;exact⟨o,hi,λv z=>by rw[hd]at z;cases z⟩
 keep:=λi h h' st k=>by
  obtain⟨⟨old,he⟩,hi⟩:=st;exact⟨⟨old,k e (by simp) _ he⟩,hi.at λo q=>k it (by simp) o q⟩
 item:=by
  intro X hP hw hK hc i pins s σ H E I hf st hg;subst hP hw hK;obtain⟨⟨old,he⟩,hit⟩:=st;obtain⟨xs,x,hq,hx⟩:=hg;obtain⟨its,rv,p,hz⟩:=I.list hq;obtain⟨u,hu,ru⟩:=rv.get hx;have elt:e<s.heap.objs.size:=yah he;have ilt:it<s.heap.objs.size:=by obtain⟨o,q,_⟩:=hit;exact yah q
  have hn:H s.heap.objs.size=none:=I.hok.fresh (yac _);refine wpAny_pyNext_enum_item he hit p.isList (x:=u) (by simpa using hu) hei λh' ho hit' hT hsz hk=>?_
  have I1:Inv X pins σ (upd H s.heap.objs.size (.tup [.int i,x])) { s with heap:=h',toks:=s.toks+1 }:=by
   refine NF (ch:=[e,it]) I (λb o hb q=>hk b o (λz=>hb (by simp[z])) (λz=>hb (by simp[z])) q) hf (yac _) ?_
   exact⟨by simp only[yao,ybd];rw[yeq];decide,[.int i s.toks,u],.cons ⟨_,rfl⟩ (.cons ru .nil),_,hT,rfl,0,rfl⟩
  have f1:∀b∈[e,it],CT X pins (upd H s.heap.objs.size (.tup [.int i,x])) b:=λb hb=>Q5 (hf b hb) (by
   obtain rfl|hb:=ya6.mp hb
   .exact yar elt
   .have q:b=it:=by simpa using hb
    subst q;exact yar ilt)
  refine⟨.ref s.heap.objs.size,rfl,wpAny_letOwnedTupleGo_enum ho λh2 he2 hs2=>?_⟩
  refine⟨.ref s.heap.objs.size,_,FE (t':=s.toks+1) (ch:=[e]) I1 (λb o hb q=>hs2.extBut b o (λz=>hb (by simp[z])) q) (λb hb=>f1 b (by simp at hb;simp[hb])),rfl,⟨_,x,rfl,hn,rfl,λys hy=>by rw[I.list_inj hy hq];exact hx⟩,⟨⟨_,by simpa using he2⟩,hit'.extBut hs2.extBut hei.symm⟩,λb hb=>(f1 b hb).1⟩
 done:=by
  intro X hP hw hK hc i pins s σ H E I hf st hg;subst hP hw hK;obtain⟨⟨old,he⟩,hit⟩:=st;obtain⟨xs,hq,hx⟩:=hg;obtain⟨its,rv,p,hz⟩:=I.list hq;have hl:=rv.length;exact wpAny_pyNext_enum_end (I.ok.hd hc) he hit p.isList (by simp;omega) λh' eb=>⟨rfl,FE (t':=s.toks) (ch:=[it]) I (λb o hb q=>eb b o (λz=>hb (by simp[z])) q) (λb hb=>hf b (by simp at hb;simp[hb]))⟩
 self:=λ_ _ _ _ _ st h=>wpAny_pyIter_enum st.1.choose_spec h
def SU(K:kA)(l1 l2:Addr):It :=
  ⟨λi H=>∃xs x ys y,AY K H l1 xs/\xs[i]?=some x/\AY K H l2 ys/\ys[i]?=some y,
   λi H x H'=>∃p y z,x=.ref p/\H p=none/\H'=upd H p (.tup [y,z])/\(∀xs,AY K H l1 xs->xs[i]?=some y)/\∀xs,AY K H l2 xs->xs[i]?=some z,
   λi H=>∃xs ys,AY K H l1 xs/\AY K H l2 ys/\(xs.length<=i\/ys.length<=i)⟩
theorem zfe{K:kA}(z TI TO i1 i2 l1 l2:Addr)(D:ZipApart z TI TO i1 i2 l1 l2) :
  Turn P w K (.Tuple elts kk tpos) (SU K l1 l2) [z,TI,TO,i1,i2] z (λi h=>IsZip h z TI TO .none/\IsPair h TI (.ref i1) (.ref i2)/\(∃a b,IsPair h TO a b)/\h.IsListIter i1 l1 i/\h.IsListIter i2 l2 i) where
 mem:=by simp
 obj:=λi h st b hb=>by
  obtain⟨hz,hTI,⟨a,c,hTO⟩,⟨o1,e1,_,d1⟩,⟨o2,e2,_,d2⟩⟩:=st;simp only[ya6,yab,yf7]at hb;rcases hb with rfl|rfl|rfl|rfl|rfl
  .exact⟨_,hz,λv z=>by
    have z':Data.fields _=Data.cell v:=z;cases z'⟩
  .exact⟨_,hTI,λv z=>by
    have z':Data.seq _ _=Data.cell v:=z;cases z'⟩
  .exact⟨_,hTO,λv z=>by
    have z':Data.seq _ _=Data.cell v:=z;cases z'⟩
  .exact⟨o1,e1,λv z=>by rw[d1]at z;cases z⟩
  .exact⟨o2,e2,λv z=>by rw[d2]at z;cases z⟩
 keep:=λi h h' st k=>by
  obtain⟨hz,hTI,⟨a,c,hTO⟩,h1,h2⟩:=st;exact⟨k z (by simp) _ hz,k TI (by simp) _ hTI,⟨a,c,k TO (by simp) _ hTO⟩,h1.at λo q=>k i1 (by simp) o q,h2.at λo q=>k i2 (by simp) o q⟩
 item:=by
  intro X hP hw hK hc i pins s σ H E I hf st hg;subst hP hw hK;obtain⟨hz,hTI,⟨a,c,hTO⟩,h1,h2⟩:=st;obtain⟨xs,x,ys,y,hq,hx,hq2,hy⟩:=hg;obtain⟨its,rv,p,hzz⟩:=I.list hq;obtain⟨its2,rv2,p2,hzz2⟩:=I.list hq2;obtain⟨u,hu,ru⟩:=rv.get hx;obtain⟨u2,hu2,ru2⟩:=rv2.get hy;have hn:H s.heap.objs.size=none:=I.hok.fresh (yac _)
  have lt:∀b∈[z,TI,TO,i1,i2],b≠s.heap.objs.size:=λb hb=>by
   simp only[ya6,yab,yf7]at hb;rcases hb with rfl|rfl|rfl|rfl|rfl
   .exact yar (yah hz)
   .exact yar (yah hTI)
   .exact yar (yah hTO)
   .obtain⟨o,q,_⟩:=h1;exact yar (yah q)
   .obtain⟨o,q,_⟩:=h2;exact yar (yah q)
  refine wpAny_pyNext_zip_item D hz hTI hTO h1 h2 p.isList p2.isList (x:=u) (y:=u2) (by simpa using hu) (by simpa using hu2) λh' a1 a2 a3 a4 a5 a6 hk=>?_
  have I1:Inv X pins σ (upd H s.heap.objs.size (.tup [x,y])) { s with heap:=h',toks:=s.toks }:=by
   refine NF (ch:=[z,TI,TO,i1,i2]) I (λb o hb q=>hk b o (λz=>hb (by simp[z])) (λz=>hb (by simp[z])) (λz=>hb (by simp[z])) (λz=>hb (by simp[z])) q) hf (yac _) ?_
   exact⟨by simp only[yao,ybd];rw[yeq];decide,[u,u2],.cons ru (.cons ru2 .nil),_,a5,rfl,0,rfl⟩
  have f1:∀b∈[z,TI,TO,i1,i2],CT X pins (upd H s.heap.objs.size (.tup [x,y])) b:=λb hb=>Q5 (hf b hb) (lt b hb)
  refine⟨.ref s.heap.objs.size,rfl,wpAny_letOwnedTupleGo_zip a1 λh3 hz3 hs3=>?_⟩
  refine⟨.ref s.heap.objs.size,_,FE (t':=s.toks) (ch:=[z]) I1 (λb o hb q=>hs3.extBut b o (λz=>hb (by simp[z])) q) (λb hb=>f1 b (by simp at hb;simp[hb])),rfl,⟨_,x,y,rfl,hn,rfl,(λzs hy'=>by rw[I.list_inj hy' hq];exact hx),λzs hy'=>by rw[I.list_inj hy' hq2];exact hy⟩,?_,λb hb=>(f1 b hb).1⟩
  exact⟨hz3,hs3.extBut _ _ D.TIz (hk _ _ D.TIz D.TITO D.TIi1 D.TIi2 hTI),⟨_,_,hs3.extBut _ _ D.TOz a2⟩,a3.extBut hs3.extBut D.i1z,a4.extBut hs3.extBut D.i2z⟩
 done:=by
  intro X hP hw hK hc i pins s σ H E I hf st hg;subst hP hw hK;obtain⟨hz,hTI,⟨a,c,hTO⟩,h1,h2⟩:=st;obtain⟨xs,ys,hq,hq2,hx⟩:=hg;obtain⟨its,rv,p,hzz⟩:=I.list hq;obtain⟨its2,rv2,p2,hzz2⟩:=I.list hq2;have hl:=rv.length;have hl2:=rv2.length;refine wpAny_pyNext_zip_end (I.ok.hd hc) D hz hTI hTO h1 h2 p.isList p2.isList ?_ λh' hk=>⟨rfl,FE (t':=s.toks) (ch:=[z,TI,TO,i1,i2]) I (λb o hb q=>hk b o (λz=>hb (by simp[z])) (λz=>hb (by simp[z])) (λz=>hb (by simp[z])) (λz=>hb (by simp[z])) q) hf⟩
  rcases hx with hx|hx
  .exact .inl (by simp;omega)
  .exact .inr (by simp;omega)
 self:=λ_ _ _ _ _ st h=>wpAny_pyIter_zip st.1 h
variable {p:Pos}
section
def iEnum(K:kA)(ta:TA):TI:=λσ H R=>ta σ H λvs H1=>∃a,vs=[.ref a]/\(∃xs,AY K H1 a xs)/\R (SX K a) H1
theorem zis{ta:TA}(hg:Gl X "enumerate")(hm:X.mg "enumerate"=none)(ha:PA X [a] ta)(hs:starEach [a] X.env=[(false,eval a X.env)]):PI X (.Tuple elts kk tpos) (.Call (.Name "enumerate" p) [a] [] pos) (iEnum X.K ta):=by
 intro pins s σ H R I h;refine Call_ (GD I hg hm boot_enumerate (ybn (AS (ha pos pins s σ H _ I h) λus s1 ⟨vs,H1,I1,r1,q1⟩=>?_) hs rfl))
 obtain⟨l,e,⟨xs,hq⟩,q⟩:=q1;subst e;obtain⟨u,rfl,ru⟩:=E6 r1;cases ru;obtain⟨its,rv,pl,hz⟩:=I1.list hq;have llt:l<s1.heap.objs.size:=by obtain⟨o,n,e,_⟩:=pl;exact yah e
 refine call_enumerate_list pl.isList λh' he hit hsz hk=>?_
 have I2:Inv X pins σ H1 { s1 with heap:=h',toks:=s1.toks }:=I1.kept hk
 refine wpAny_pyIter_enum he ⟨s1.heap.objs.size+1,[s1.heap.objs.size+1,s1.heap.objs.size],_,_,H1,rfl,I2,zdy l _ _ (by simp),⟨⟨_,he⟩,hit⟩,λb hb=>?_,q⟩
 have hb':s1.heap.objs.size<=b:=by
  obtain rfl|hb:=ya6.mp hb
  .exact yby _
  .have e:b=s1.heap.objs.size:=by simpa using hb
   subst e;exact yac _
 exact I1.fpOk hb' (I1.hok.fresh hb')
def iZip(K:kA)(ta:TA):TI:=λσ H R=>ta σ H λvs H1=>∃a b,vs=[.ref a,.ref b]/\(∃xs,AY K H1 a xs)/\(∃xs,AY K H1 b xs)/\R (SU K a b) H1
theorem zme{b:Expr}{ta:TA}(hg:Gl X "zip")(hm:X.mg "zip"=none)(ha:PA X [a,b] ta)(hs:starEach [a,b] X.env=[(false,eval a X.env),(false,eval b X.env)])(hs2:starEach [b] X.env=[(false,eval b X.env)]):PI X (.Tuple elts kk tpos) (.Call (.Name "zip" p) [a,b] [] pos) (iZip X.K ta):=by
 intro pins s σ H R I h;refine Call_ (GD I hg hm boot_zip (ybn (AS (ha pos pins s σ H _ I h) λus s1 ⟨vs,H1,I1,r1,q1⟩=>?_) (by rw[hs,hs2]) (by rw[hs2];rfl)))
 obtain⟨l1,l2,e,⟨xs,hq⟩,⟨ys,hq2⟩,q⟩:=q1;subst e;obtain⟨u,u2,rfl,ru,ru2⟩:=Fo r1;cases ru;cases ru2;obtain⟨its,rv,pl,hz⟩:=I1.list hq;obtain⟨its2,rv2,pl2,hz2⟩:=I1.list hq2;have llt:l1<s1.heap.objs.size:=by obtain⟨o,n,e,_⟩:=pl;exact yah e
 have llt2:l2<s1.heap.objs.size:=by obtain⟨o,n,e,_⟩:=pl2;exact yah e
 refine call_zip_2 pl.isList pl2.isList λh' a1 a2 a3 a4 a5 a6 hk=>?_
 have I2:Inv X pins σ H1 { s1 with heap:=h',toks:=s1.toks }:=I1.kept hk
 have D:ZipApart (s1.heap.objs.size+4) (s1.heap.objs.size+2) (s1.heap.objs.size+3) s1.heap.objs.size (s1.heap.objs.size+1) l1 l2:=by
  have n1:∀k:Nat,l1≠s1.heap.objs.size+k:=λk z=>ybb _ (yam llt (z▸yc7 _ _))
  have n2:∀k:Nat,l2≠s1.heap.objs.size+k:=λk z=>ybb _ (yam llt2 (z▸yc7 _ _))
  refine⟨?_,?_,?_,?_,?_,?_,?_,?_,?_,?_,n1 4,n1 3,n1 0,n1 1,n2 4,n2 3,n2 0,n2 1⟩<;>intro z<;>simp at z
 refine wpAny_pyIter_zip a1 ⟨_,[s1.heap.objs.size+4,s1.heap.objs.size+2,s1.heap.objs.size+3,s1.heap.objs.size,s1.heap.objs.size+1],_,_,H1,rfl,I2,zfe _ _ _ _ _ l1 l2 D,⟨a1,a2,⟨_,_,a3⟩,a4,a5⟩,λb hb=>?_,q⟩
 have hb':s1.heap.objs.size<=b:=by
  simp only[ya6,yab,yf7]at hb;rcases hb with rfl|rfl|rfl|rfl|rfl
  .exact yc7 _ _
  .exact yc7 _ _
  .exact yc7 _ _
  .exact yac _
  .exact yc7 _ _
 exact I1.fpOk hb' (I1.hok.fresh hb')
end
def Er(o:Obj):Nat:=match o.data with
 |.dict _ ep=>ep
 |_=>0
variable {kvs:List (Key×V)}
section
variable {a:Addr}{o:Obj}
theorem JZ(I:Inv X pins σ H s)(h:H a=some (.frz o (.dK kvs))):kvs.length<=sizeLine/\(a == sysModules)=false/\∃vs,KV kvs vs/\s.heap.DictAt (Bl X.prog X.w) a vs (Er o):=by
 obtain⟨ho,z,hd,vs,rel,o',es,ep,ho',r⟩:=(show BQ X.prog X.w H s.heap a (.frz o (.dK kvs)) from I.hok a _ h);rw[ho]at ho';cases ho';refine⟨z,hd,vs,rel,o,es,ho,?_⟩
 have e:Er o=ep:=by
  unfold Er;rw[r.2.1]
 rw[e];exact r
theorem Px{vs:List (Key×Value)}(r:KV kvs vs){k:Key}{x:V}(h:kvs[i]?=some (k,x)):∃u,vs[i]?=some (k,u)/\RelV x u:=by
 have r':Paired (λ(p:Key×V) (q:Key×Value)=>p.1=q.1/\RelV p.2 q.2) kvs vs:=r
 induction r' generalizing i with
 |nil=>simp at h
 |@cons p q l m hd tl ih =>
  cases i with
  |zero =>
   simp at h;subst h;obtain⟨e1,e2⟩:=hd;exact⟨q.2,by rw[yd9];cases q;simp at e1 ⊢;exact e1.symm,e2⟩
  |succ i=>exact ih tl (by simpa using h)
theorem Dz{vs:List (Key×Value)}(r:KV kvs vs):kvs.length=vs.length:=ye6 (show Paired _ kvs vs from r)
theorem zk1{k:Key}{v:Value}(h:(Bl X.prog X.w).is k v=true):RelV (kV k) v:=by
 rcases EA (show En k v=true from h) with ⟨i,t,rfl,rfl⟩|⟨x,t,rfl,rfl⟩
 .exact⟨t,rfl⟩
 .exact⟨t,rfl⟩
end
variable {prog:Program}
theorem zal{A:Around}{E:Value->Shared->Prop}{it d:Addr}{ep:Nat}{ok ov:Value}{Q:Value->Shared->Prop}(h:IsItemIter s.heap it d i n ep ok ov)(hQ:Q (.ref it) s):wpAny (model prog w) A (pyIter (.ref it)) Q E s:=by
 have hT:s.TypeIs (.ref it) "dict_itemiterator":=⟨_,h,rfl⟩;refine wpAny_pyIter_slot hT yd7 (wpAny_call_entry yd7 hT (entryFor_alias (id':="dict_keyiterator.__iter__") (by ext) rfl (by decide +kernel) (by ext):entryFor table "dict_itemiterator.__iter__"=some Builtin.«dict_keyiterator.__iter__») ?_ (PySem.F.args_dict_itemiterator_iter_1 _))
 show wpAny _ _ (ret (.ref it)) _ E s;exact yen ⟨_,rfl,"dict_itemiterator",_,hT,PySem.F.slot_dict_itemiterator_next.lookup,hQ⟩
def SW(d:Addr)(n ep:Nat):It :=
  ⟨λi H=>∃o kvs k x,H d=some (.frz o (.dK kvs))/\Er o=ep/\kvs.length=n/\kvs[i]?=some (k,x),λi H x H'=>∃p k y,x=.ref p/\H p=none/\H'=upd H p (.tup [kV k,y])/\∀o kvs,H d=some (.frz o (.dK kvs))->kvs[i]?=some (k,y),
   λi H=>∃o kvs,H d=some (.frz o (.dK kvs))/\Er o=ep/\kvs.length=n/\kvs.length<=i⟩
theorem zd8{K:kA}(d it:Addr)(n ep:Nat) :
  Turn P w K (.Tuple elts kk tpos) (SW d n ep) [it] it (λi h=>∃ok ov,IsItemIter h it d i n ep ok ov) where
 mem:=by simp
 obj:=λi h st b hb=>by
  obtain⟨ok,ov,st⟩:=st;have q:b=it:=by simpa using hb
  subst q
  exact⟨_,st,λv z=>by
   have z':Data.fields _=Data.cell v:=z;cases z'⟩
 keep:=λi h h' st k=>by
  obtain⟨ok,ov,st⟩:=st;exact⟨ok,ov,k it (by simp) _ st⟩
 item:=by
  intro X hP hw hK hc i pins s σ H E I hf st hg;subst hP hw hK;obtain⟨ok,ov,hit⟩:=st;obtain⟨o,kvs,k,x,hd,rfl,rfl,hx⟩:=hg;obtain⟨z,hs,vs,rel,hat⟩:=JZ I hd;obtain⟨u,hu,ru⟩:=Px rel hx;rw[Dz rel]at hit;have ilt:it<s.heap.objs.size:=yah hit;have hn:H s.heap.objs.size=none:=I.hok.fresh (yac _);refine wpAny_pyNext_items_item hit hat hu λkey h' hkey hout hT hsz hk=>?_
  have I1:Inv X pins σ (upd H s.heap.objs.size (.tup [kV k,x])) { s with heap:=h',toks:=s.toks }:=by
   refine NF (ch:=[it]) I (λb o hb q=>hk b o (λz=>hb (by simp[z])) q) hf (yac _) ?_
   exact⟨by simp only[yao,ybd];rw[yeq];decide,[key,u],.cons (zk1 hkey) (.cons ru .nil),_,hT,rfl,0,rfl⟩
  have f1:∀b∈[it],CT X pins (upd H s.heap.objs.size (.tup [kV k,x])) b:=λb hb=>Q5 (hf b hb) (by
   have q:b=it:=by simpa using hb
   subst q;exact yar ilt)
  refine⟨.ref s.heap.objs.size,rfl,wpAny_letOwnedTupleGo_items hout λh2 he2 hs2=>?_⟩
  refine⟨.ref s.heap.objs.size,_,FE (t':=s.toks) (ch:=[it]) I1 (λb o hb q=>hs2.extBut b o (λz=>hb (by simp[z])) q) f1,rfl,⟨_,k,x,rfl,hn,rfl,λo' kvs' hd'=>?_⟩,⟨_,_,by rw[Dz rel];exact he2⟩,λb hb=>(f1 b hb).1⟩
  rw[hd]at hd';cases hd';exact hx
 done:=by
  intro X hP hw hK hc i pins s σ H E I hf st hg;subst hP hw hK;obtain⟨ok,ov,hit⟩:=st;obtain⟨o,kvs,hd,rfl,rfl,hx⟩:=hg;obtain⟨z,hs,vs,rel,hat⟩:=JZ I hd;rw[Dz rel]at hit;exact wpAny_pyNext_items_end (I.ok.hd hc) hit hat (by rw[ybj];have:=Dz rel;omega) λh' eb=>⟨rfl,FE (t':=s.toks) (ch:=[it]) I (λb o hb q=>eb b o (λz=>hb (by simp[z])) q) hf⟩
 self:=λ_ _ _ _ _ st h=>by
  obtain⟨ok,ov,st⟩:=st;exact zal st h
variable {o:Expr}{ap p2:Pos}
section
variable {to:TE}{cp:Pos}
theorem Y4{a:Addr}{ob:Obj}(I:Inv X pins σ H s)(h:H a=some (.frz ob (.dK kvs))):s.TypeIs (.ref a) "dict"/\∀b,(Value.ref a)=.ref b->∃ob,s.heap.get? b=some ob/\ob.dict=none:=by
 obtain⟨z,hs,vs,rel,o',es,ho,hx,r⟩:=JZ I h;exact⟨⟨_,ho,hx.1⟩,λb e=>by cases e;exact⟨_,ho,hx.2.1⟩⟩
def znu(to:TE):TI:=λσ H R=>to σ H λx H1=>∃a ob kvs,x=.ref a/\H1 a=some (.frz ob (.dK kvs))/\R (SW a kvs.length (Er ob)) H1
theorem zg8(ho:PE X o to)(hbase:attributeBase o "items" X.env (eval o X.env)=eval o X.env)(hline:(ap.endLine == cp.line)=true):PI X (.Tuple elts kk tpos) (.Call (.Attribute o "items" ap) [] [] cp) (znu to):=by
 intro pins s σ H R I h;refine wpAny_Call_method0_late hbase hline (AS (ho pins s σ H _ I h) λv s1 ⟨x,H1,I1,r1,q1⟩=>?_)
 obtain⟨a,ob,kvs,rfl,hd,q⟩:=q1;cases r1;obtain⟨h1,h2⟩:=Y4 I1 hd;obtain⟨z,hs,vs,rel,hat⟩:=JZ I1 hd;refine⟨"dict","dict.items",PySem.F.plainAttrs_dict,PySem.F.slot_dict_items,PySem.F.type_dict_items,h1,h2,ydg rfl (PySem.evalArgs_none ?_)⟩;refine call_meetsIn PySem.F.slot_dict_items h1 PySem.F.entry_dict_items (PySem.F.args_dict_items_1 _) (meets_dict_items (Bl X.prog X.w) a hs) ⟨⟨vs,hat.dictOf⟩,?_⟩;have I2:Inv X pins σ H1 { s1 with heap:=s1.heap.push { cls:=.type "dict_items",data:=.fields #[.ref a] },toks:=s1.toks }:=I1.kept λb o e=>ya8 _ e
 refine wpAny_pyIter_items (v:=s1.heap.objs.size) ⟨_,yal _ rfl,rfl,rfl⟩ (hat.push _) ?_;have I3:=I2.kept (t':=s1.toks) (h':=(s1.heap.push { cls:=.type "dict_items",data:=.fields #[.ref a] }).push { cls:=.type "dict_itemiterator",data:=.fields #[.none,.bool false,.ref a,.int 0 0,.int vs.length 0,.int (Er ob) 0,.none,.none] }) λb o e=>ya8 _ e
 refine⟨_,[_],_,_,H1,rfl,I3,zd8 a _ kvs.length (Er ob),⟨_,_,by rw[Dz rel];exact yal _ rfl⟩,λb hb=>?_,q⟩
 have e:=yaa.mp hb;subst e;exact I2.fpOk (yac _) (I2.hok.fresh (yac _))
def tVals(to:TE):TE:=λσ H Q=>to σ H λx H1=>∃a ob kvs,x=.ref a/\H1 a=some (.frz ob (.dK kvs))/\∀l,H1 l=none->Q (.ref l) (upd H1 l (.lst (kvs.map (·.2))))
theorem zjx{vs:List (Key×Value)}(r:KV kvs vs):A5 (kvs.map (·.2)) (vs.map (·.2)):=by
 have r':Paired (λ(p:Key×V) (q:Key×Value)=>p.1=q.1/\RelV p.2 q.2) kvs vs:=r
 induction r' with
 |nil=>exact .nil
 |cons hd tl ih=>exact .cons hd.2 (ih tl)
theorem ziu(hc:X.calm=true)(hg:Gl X "list")(hm:X.mg "list"=none)(ho:PE X o to)(hbase:attributeBase o "values" X.env (eval o X.env)=eval o X.env)(hline:(ap.endLine == cp.line)=true) :
  PE X (.Call (.Name "list" p) [.Call (.Attribute o "values" ap) [] [] cp] [] p2) (tVals to):=by
 intro pins s σ H Q I h;refine yer (GD I hg hm ycq ?_ (by decide) (by decide))
 refine ybn ?_ rfl rfl;show wpAny _ _ (spliced ((false,eval (.Call (.Attribute o "values" ap) [] [] cp) X.env)::backTo p2 (starEach [] X.env))) _ _ s;refine ye3 (wpAny_Call_method0_late hbase hline (AS (ho pins s σ H _ I h) λv s1 ⟨x,H1,I1,r1,q1⟩=>?_))
 obtain⟨a,ob,kvs,rfl,hd,q⟩:=q1;cases r1;obtain⟨h1,h2⟩:=Y4 I1 hd;obtain⟨z,hs,vs,rel,hat⟩:=JZ I1 hd;refine⟨"dict","dict.values",PySem.F.plainAttrs_dict,PySem.F.slot_dict_values,PySem.F.type_dict_values,h1,h2,ydg rfl (PySem.evalArgs_none ?_)⟩;refine call_meetsIn PySem.F.slot_dict_values h1 PySem.F.entry_dict_values (PySem.F.args_dict_values_1 _) (meets_dict_values (Bl X.prog X.w) a hs) ⟨⟨vs,hat.dictOf⟩,?_⟩;have I2:Inv X pins σ H1 { s1 with heap:=s1.heap.push { cls:=.type "dict_values",data:=.fields #[.ref a] },toks:=s1.toks }:=I1.kept λb o e=>ya8 _ e
 refine yea ?_;refine PySem.W.kdl_call (PySem.W.kdl_values (knd:=Bl X.prog X.w) (r:=s1.heap.objs.size) (d:=a) (kvs:=vs) (ep:=Er ob)) (I2.ok.hd hc) ⟨⟨_,yal _ rfl,rfl,rfl⟩,hat.push _⟩ (by rw[<- Dz rel];exact z) λh' tk acc' c' hk hD hacc=>?_
 have e:acc'.toList=vs.map (·.2):=PySem.W.kdl_vals_eq acc'.toList (by rw[ycz];exact hacc.1) λj v e=>hacc.2 j v (by rw[<- ybx];exact e)
 refine⟨.ref _,_,I2.laid (a:=(s1.heap.push { cls:=.type "dict_values",data:=.fields #[.ref a] }).objs.size) (o:=.lst (kvs.map (·.2))) (h':=h') (t':=tk) hk (yac _) ?_,rfl,q _ (I2.hok.fresh (yac _))⟩;exact⟨by rw[ya1];exact z,acc'.toList,c',by rw[e];exact zjx rel,by rw[hD]⟩
def tDic0:TE:=λ_ H Q=>∀p ob,H p=none->Q (.ref p) (upd H p (.frz ob (.dK [])))
theorem zix:PE X (.Dict [] [] pos) tDic0:=λpins s σ H Q I h=>by
 refine wpAny_Dict_empty ⟨.ref s.heap.objs.size,_,I.laid (a:=s.heap.objs.size) (o:=.frz { cls:=.type "dict",data:=.dict #[] } (.dK [])) (t':=s.toks) (λ_ _ q=>ya8 _ q) (yac _) ⟨yal _ rfl,RH s.heap I.big⟩,rfl,h _ _ (I.hok.fresh (yac _))⟩
def tDic1(tk tv:TE):TE:=λσ H Q=>∀p,H p=none->tk σ (upd H p (.dK [])) λx H1=>tv σ H1 λy H2=>H2 p=some (.dK [])/\∃i:Int,x=.int i/\∀ob,Q (.ref p) (upd H2 p (.frz ob (.dK [(Sum.inl i,y)])))
theorem ziw{k v:Expr}{tk tv:TE}(hk:PE X k tk)(hv:PE X v tv):PE X (.Dict [some k] [v] pos) (tDic1 tk tv):=by
 intro pins s σ H Q I q;have hn:=I.hok.fresh (yac s.heap.objs.size);have I1:=I.laid (a:=s.heap.objs.size) (o:=.dK []) (h':=s.heap.push { cls:=.type "dict",data:=.dict #[] }) (t':=s.toks) (λ_ _ q=>ya8 _ q) (yac _) (RH s.heap I.big)
 have pp:Me X pos [some k] [v] [(tk,tv)]:=zg7 hk hv zil
 have q1:NL [(tk,tv)] σ (upd H s.heap.objs.size (.dK [])) λps H2=>match ps with
   |[(x,y)]=>H2 s.heap.objs.size=some (.dK [])/\∃i:Int,x=.int i/\∀ob,Q (.ref s.heap.objs.size) (upd H2 s.heap.objs.size (.frz ob (.dK [(Sum.inl i,y)])))
   |_=>False:=q _ hn
 refine wpAny_Dict_walk (knd:=Bl X.prog X.w) rfl rfl (by simp) (by simp) (AS (pp pins _ σ _ _ I1 q1) λws s2 ⟨ps,H2,I2,rel,q2⟩=>?_)
 split at q2
 case h_2=>exact q2.elim
 rename_i x y;obtain⟨e,i,ex,q2⟩:=q2;subst ex;obtain⟨rs,c,rk⟩:=Yx (P:=X.prog) (w:=X.w) (kvs:=[(Sum.inl i,y)]) rel;obtain⟨z,hd,vs0,r0,dd⟩:=RG I2.hok e;cases r0;refine⟨rs,c,dd,λh' dd' hs=>?_⟩
 obtain⟨ob,es,ep,hob,r⟩:=id dd';refine⟨.ref s.heap.objs.size,_,RL (ob:=.frz ob (.dK [(Sum.inl i,y)])) I2 (by rw[e];exact True.intro) hs ⟨ob,hob⟩ ⟨hob,Y3 (kvs:=W7 [] [(Sum.inl i,y)]) (by rw[yeq];show(1:Nat)<=16777216;decide) hd (rk.merge .nil) dd'⟩,rfl,q2 ob⟩
end
def Ib(ifs:List Expr)(env:Env):Sem Bool:=forIn ifs true λc r=>if r=true then do let ok <- isTrue c env (eval c env);pure (ForInStep.yield ok) else pure (ForInStep.yield r)
def GX(X:Cx)(ifs:List Expr)(t:TT):Prop :=
 ∀(pins:List (Addr×Obj)) (s:Shared) (σ:L2.St) (H:Hp) (Q:Bool->Hp->Prop),Inv X pins σ H s->t σ H Q->wpAny (model X.prog X.w) X.A (Ib ifs X.env) (TP X pins σ Q) X.xe s
theorem zif:GX X [] (λ_ H Q=>Q true H):=λpins s σ H Q I h=>yen ⟨H,I,h⟩
theorem Uu{t:TT}(h:PT X c t):GX X [c] t:=λpins s σ H Q I q=>by
 have e:Ib [c] X.env=(isTrue c X.env (eval c X.env) >>= λok=>pure ok):=by
  unfold Ib;simp[List.forIn_cons]
 rw[e];exact yek (yeh (h pins s σ H Q I q) (λb s1 h1=>yen h1) λ_ _ z=>z)
variable {elt:Expr}{ifs:List Expr}{scope:Scope}{env:Env}
theorem zdo{target iter:Expr}{it acc:Value}:compTurn (.ListComp elt [⟨target,iter,ifs,0⟩] scope pos) 0 it acc env=(standAt iter.pos >>= λ_=>pyNext it >>= λr=>match r with
  |none=>pure (.done .next)
  |some u=>letOwnedTupleGo target it u >>= λ_=>assign target env u >>= λ_=>Ib ifs env >>= λok =>
   if ok=true then ((eval elt env >>= λx=>call (.builtin "list.append") [acc,x] >>= λ_=>pure ()) >>= λ_=>again (.compLoop (.ListComp elt [⟨target,iter,ifs,0⟩] scope pos) 0 it acc env))
   else again (.compLoop (.ListComp elt [⟨target,iter,ifs,0⟩] scope pos) 0 it acc env)):=by rfl
theorem zdp{A:Around}{R:Result->Shared->Prop}{target iter:Expr}{it acc:Value}{NE:Value->Shared->Prop}(hN:NE=notedBy (model prog w) A env λe s'=>R (.error e) s')(I:Nat->Shared->Prop)(hturn:∀n s,I n s->wpAny (model prog w) A (pyNext it) (λr s₁=>match r with
   |none=>R (.ok .next) s₁
   |some v=>wpAny (model prog w) A (letOwnedTupleGo target it v) (λ_ s₁'=>wpAny (model prog w) A (assign target env v) (λ_ s₂=>wpAny (model prog w) A (Ib ifs env) (λok s₂'=>if ok=true then wpAny (model prog w) A (eval elt env) (λx s₃ =>
     wpAny (model prog w) A (call (.builtin "list.append") [acc,x]) (λ_ s₄=>∃m,m<n/\I m s₄) NE s₃)
     NE s₂' else ∃m,m<n/\I m s₂') NE s₂) NE s₁') NE s₁) NE s) (k:Nat) (hk:I k s):codeAny (model prog w) A (.compLoop (.ListComp elt [⟨target,iter,ifs,0⟩] scope pos) 0 it acc env) R s:=by
 subst hN;refine codeAny_loop rfl I (λn s hI=>?_) k hk
 show wpAny _ _ ((compTurn (.ListComp elt [⟨target,iter,ifs,0⟩] scope pos) 0 it acc env).onRaise (λy=>do noteFrame y env;theTreesLotGoes y)) _ _ s
 refine wpAny_noted ?_;rw[zdo];refine yek (yem (yek (yeh (hturn n s hI) (λr s₁ h₁=>?_) λ_ _ z=>z)))
 cases r with
 |none=>exact yen h₁
 |some v =>
  refine yek (yeh h₁ (λ_ s₁' h₁'=>?_) λ_ _ z=>z)
  refine yek (yeh h₁' (λ_ s₂ h₂=>yek (yeh h₂ (λok s₂' h₂'=>?_) λ_ _ z=>z)) λ_ _ z=>z)
  cases ok with
  |false =>
   rw[if_neg (by decide)]at h₂' ⊢
   exact yen ⟨rfl,h₂'⟩
  |true =>
   rw[if_pos rfl]at h₂' ⊢;exact yek (yek (yeh h₂' (λx s₃ h₃=>yek (yeh h₃ (λ_ s₄ h₄=>yen (yen ⟨rfl,h₄⟩)) λ_ _ z=>z)) λ_ _ z=>z))
theorem RX(env:Env):∀(names:List (Str×NameKind)),(∀y∈names,y.2=.free->∃c,env.cells.lookup y.1=some c)->∀acc:List (Str×Addr),∃cl:List (Str×Addr),
  (forIn names acc λ(x:Str×NameKind) (r:List (Str×Addr))=>(if (x.2 == NameKind.free)=true then do let a <- cellOf env x.1;pure (ForInStep.yield ((x.1,a)::r)) else pure (ForInStep.yield r):Sem (ForInStep (List (Str×Addr)))))=(pure cl:Sem (List (Str×Addr))) /\
  (∀y c,cl.lookup y=some c->acc.lookup y=some c\/env.cells.lookup y=some c)/\(∀y∈names,y.2=.free->∃c,cl.lookup y.1=some c)/\∀y c,acc.lookup y=some c->∃c',cl.lookup y=some c'
 |[],_,acc=>⟨acc,rfl,λ_ _ e=>.inl e,(λ_ z=>by cases z),λ_ c e=>⟨c,e⟩⟩
 |(n,k)::r,h,acc=>by
  rw[List.forIn_cons]
  by_cases hk:k=.free
  .subst hk;obtain⟨c,hc⟩:=h (n,.free) (ya9 ..) rfl;have e1:cellOf env n=pure c:=by unfold cellOf;rw[hc]
   obtain⟨cl,e,h1,h2,h3⟩:=RX env r (λy hy=>h y (ya7 _ hy)) ((n,c)::acc)
   refine⟨cl,?_,λy c' q=>?_,λy hy hf=>?_,λy c' q=>?_⟩
   .simp only[yf8,yet,e1,pure_bind];exact e
   .rcases h1 y c' q with z|z
    .rw[yb3]at z;cases hy:y == n with
     |true =>
      rw[hy]at z;cases z;exact .inr (by rw[eq_of_beq hy];exact hc)
     |false=>rw[hy]at z;exact .inl z
    .exact .inr z
   .obtain rfl|hy:=ya6.mp hy
    .exact h3 n c (by simp)
    .exact h2 y hy hf
   .by_cases hy:y=n
    .subst hy;exact h3 y c (by simp)
    .exact h3 y c' (by rw[yb3,beq_eq_false_iff_ne.mpr hy];exact q)
  .have hk':(k == NameKind.free)=false:=beq_eq_false_iff_ne.mpr hk;obtain⟨cl,e,h1,h2,h3⟩:=RX env r (λy hy=>h y (ya7 _ hy)) acc
   refine⟨cl,?_,h1,λy hy hf=>?_,h3⟩
   .simp only[hk',pure_bind];exact e
   .obtain rfl|hy:=ya6.mp hy
    .exact absurd hf hk
    .exact h2 y hy hf
theorem zcw(scope:Scope)(env:Env)(h:∀y∈scope.names,y.2=.free->∃c,env.cells.lookup y.1=some c):∃cl,closureFor scope env=pure cl/\(∀y c,cl.lookup y=some c->env.cells.lookup y=some c)/\∀y∈scope.names,y.2=.free->∃c,cl.lookup y.1=some c:=by
 obtain⟨cl,e,h1,h2,_⟩:=RX env scope.names h [];refine⟨cl,?_,λy c q=>?_,h2⟩
 .have e2:closureFor scope env=(forIn scope.names [] λ(x:Str×NameKind) (r:List (Str×Addr))=>(if (x.2 == NameKind.free)=true then do let a <- cellOf env x.1;pure (ForInStep.yield ((x.1,a)::r)) else pure (ForInStep.yield r):Sem (ForInStep (List (Str×Addr))))) >>= pure:=rfl
  rw[e2,e,pure_bind]
 .rcases h1 y c q with z|z
  .cases z
  .exact z
theorem RZ:∀(names:List (Str×NameKind)) (h:Heap) (acc:List (Str×Addr)) (y:Str) (c:Addr),(cellsFrom h.objs.size names acc).lookup y=some c->acc.lookup y=some c\/(h.objs.size<=c/\(pushCells h names).IsCell c none/\(y,NameKind.cell)∈names)
 |[],h,acc,y,c,e=>.inl e
 |(n,k)::r,h,acc,y,c,e=>by
  unfold cellsFrom at e;unfold pushCells;split at e
  .rename_i hk;rw[if_pos hk];have ez:(h.push { cls:=.type "cell",data:=.cell none }).objs.size=h.objs.size+1:=yc6 ..;rw[<- ez]at e
   rcases RZ r _ _ y c e with q|⟨q1,q2,q3⟩
   .rw[yb3]at q;cases hy:y == n with
    |true =>
     rw[hy]at q;cases q;have e1:y=n:=eq_of_beq hy;subst e1;exact .inr ⟨yac _,⟨_,yf9 _ _ _ _ (yal _ rfl),rfl⟩,by rw[eq_of_beq hk];exact ya9 ..⟩
    |false=>rw[hy]at q;exact .inl q
   .exact .inr ⟨by rw[ez]at q1;exact yaw (yby _) q1,q2,ya7 _ q3⟩
  .rename_i hk;rw[if_neg hk]
   rcases RZ r h acc y c e with q|⟨q1,q2,q3⟩
   .exact .inl q
   .exact .inr ⟨q1,q2,ya7 _ q3⟩
theorem R5:∀(names:List (Str×NameKind)) (h:Heap) (acc:List (Str×Addr)),(∀y z c,acc.lookup y=some c->acc.lookup z=some c->y=z)->(∀y c,acc.lookup y=some c->c<h.objs.size) ->
  ∀y z c,(cellsFrom h.objs.size names acc).lookup y=some c->(cellsFrom h.objs.size names acc).lookup z=some c->y=z
 |[],h,acc,hi,_=>hi
 |(n,k)::r,h,acc,hi,hl=>by
  unfold cellsFrom;split
  .have ez:(h.push { cls:=.type "cell",data:=.cell none }).objs.size=h.objs.size+1:=yc6 ..;rw[<- ez];refine R5 r _ _ (λy z c h1 h2=>?_) (λy c h1=>?_)
   .rw[yb3]at h1 h2;cases hy:y == n with
    |true =>
     rw[hy]at h1;cases h1;cases hz:z == n with
     |true=>rw[eq_of_beq hy,eq_of_beq hz]
     |false =>
      rw[hz]at h2;exact absurd (hl z _ h2) (ybb _)
    |false =>
     rw[hy]at h1;cases hz:z == n with
     |true =>
      rw[hz]at h2;cases h2;exact absurd (hl y _ h1) (ybb _)
     |false=>rw[hz]at h2;exact hi y z c h1 h2
   .rw[yb3]at h1;rw[ez];cases hy:y == n with
    |true=>rw[hy]at h1;cases h1;exact yct _
    |false=>rw[hy]at h1;exact ycd (hl y c h1)
  .exact R5 r h acc hi hl
theorem RY:∀(names:List (Str×NameKind)) (n lo:Nat) (acc:List (Str×Addr)) (y:Str) (c:Addr),lo<=n->((y,NameKind.cell)∈names\/∃c0,acc.lookup y=some c0/\lo<=c0)->(cellsFrom n names acc).lookup y=some c->lo<=c
 |[],n,lo,acc,y,c,hn,h,e=>by
  rcases h with h|⟨c0,h1,h2⟩
  .cases h
  .have e':acc.lookup y=some c:=e;rw[h1]at e';cases e';exact h2
 |(m,k)::r,n,lo,acc,y,c,hn,h,e=>by
  unfold cellsFrom at e;split at e
  .refine RY r (n+1) lo _ y c (Nat.le_succ_of_le hn) ?_ e
   by_cases hy:y=m
   .subst hy;exact .inr ⟨n,by simp,hn⟩
   .rcases h with h|⟨c0,h1,h2⟩
    .rcases ya6.mp h with z|z
     .cases z;exact absurd rfl hy
     .exact .inl z
    .exact .inr ⟨c0,by rw[yb3,beq_eq_false_iff_ne.mpr hy];exact h1,h2⟩
  .rename_i hk;refine RY r n lo acc y c hn ?_ e
   rcases h with h|h
   .rcases ya6.mp h with z|z
    .cases z;exact absurd rfl hk
    .exact .inl z
   .exact .inr h
variable {qual:Str}
theorem zc1{M:Model}{A:Around}{E:Value->Shared->Prop}{globals:Addr}{cl:List (Str×Addr)}{func:Option Addr}{code:Value}{outer:Env}{builtins:Addr}{Q:Env->Shared->Prop}(hQ:Q (newEnv scope s.heap.objs.size globals (cellsFrom (s.heap.objs.size+1) scope.names cl) qual func code (some outer) builtins) { s with heap:=pushCells (s.heap.push { cls:=.type "dict",data:=.dict #[] }) scope.names }) :
  wpAny M A (newFunctionEnv scope globals cl [] qual func code (some outer) builtins) Q E s:=by
 simp only[newFunctionEnv,Option.isSome_some,yet];refine yek (wpAny_alloc ?_);refine yek (wpAny_layCells _ (λname kind cells=>by cases hkc:kind == NameKind.cell<;>simp[hkc]) _ _ _ _ ?_);rw[show({ s with heap:=s.heap.push { cls:=.type "dict",data:=.dict #[] } }:Shared).heap.objs.size=s.heap.objs.size+1 from yc6 ..]
 rw[List.forIn_nil];exact yek (yen (yen hQ))
abbrev Af(X:Cx)(scope:Scope)(cl:List (Str×Addr))(N':List Str)(C:Addr)(s₀:Shared)(H₀:Hp)(ex:List Addr)(xb:Value->Shared->Prop):Cx:={ zo4 X scope cl N' C s₀ H₀ ex with fn:=λx=>decide (scope.names.lookup x=some .cell),xe:=xb }
theorem YQ{h h' B B':Heap}(k:∀b o,B.get? b=none->h.get? b=some o->(∀us,o.data≠.fields us)->B'.get? b=none/\∃o',h'.get? b=some o'/\∀us,o'.data≠.fields us):∀{l:List Env},h.FunFrames B l->h'.FunFrames B' l
 |[],_=>trivial
 |_::_,⟨x,⟨L,o,y1,y2,y3,y4⟩,r⟩=>by
  obtain⟨z1,o',z2,z3⟩:=k L o y2 y3 y4;exact⟨x,⟨L,o',y1,z1,z2,z3⟩,YQ k r⟩
def GZ(X:Cx):Prop:=∃v l,X.stack=v::l/\X.env.frame=v.frame
variable {C:Addr}
theorem zex{s':Shared}{benv:Env}{e acc:Value}{use:Option (Value->Sem Unit)}{QQ:Value->Shared->Prop}{EE:Value->Shared->Prop}(hx:BO X E)(hst:GZ X)(I:Inv X pins σ H s)(fC:CT X pins H C)(hC:∃m,s.heap.Ns C m)(nC:C∉BF X.stack)(hb:benv.frame=X.env.frame)(h:Bn X.prog X.w X.stack H s (E σ) e s'):wpAny (model X.prog X.w) X.A (noteFrame e benv) (λ_ s2=>compPost (model X.prog X.w) X.A X.xe use QQ acc C (.error e) s2) EE s':=by
 obtain⟨v,l,st,hv⟩:=hst;obtain⟨a,cls,H',B,rfl,os,bare,un,hok,kB,tB,fl0,he⟩:=h;have fl1:HS B (v::l) a cls s'.heap:=st▸fl0
 obtain⟨L,hL⟩:∃L,v.frame=some L:=by
  obtain⟨_,_,_,⟨_,⟨L,_,y,_⟩,_⟩,_⟩:=fl1;exact⟨L,y⟩
 refine Oj (st▸I.ok.frames) (hb.trans hv) hL fl1 λh4 held sm=>?_
 obtain⟨m,oC,es,ep,hCo,dC,rC⟩:=hC;have bC:B.get? C=some oC:=kB C oC hCo fC.1 nC;obtain⟨f1,f2,f3,oe,ws,Tb,oT,ts,ha,hcl,hd,g1,nT,Tne,hT,dT,g3⟩:=held
 have hne:∀{b:Addr},B.get? b=none->b≠C:=λz w=>by
  rw[w,bC]at z;cases z
 have key:∃m,h4.Ns C m/\∀h',Heap.SameBut C h4 h'->∀cenv:Env,cenv.locals=C->wpAny (model X.prog X.w) X.A (PySem.passOn "comprehension.variables-let-go" (.ref a) cenv:Sem Value) (λ_ _=>False) X.xe { s' with heap:=h' }:=by
  refine⟨m,⟨oC,es,ep,f1 C oC bC,dC,rC⟩,λh5 sb cenv _=>?_⟩
  have ha5:h5.get? a=some oe:=(sb.2 a (hne f2)).trans ha;have hT5:h5.get? Tb=some oT:=(sb.2 Tb (hne nT)).trans hT;unfold PySem.passOn;refine yek (yf0 ha5 hd g1 ?_);rw[if_neg (by simp)]
  refine yek ?_;unfold setFlight;refine yek (yf0 ha5 hd g1 ?_);rw[if_pos (by simp)]
  refine yez hT5 dT (ybv.mp g3).1 (wpAny_throw ?_);generalize hfl:(cenv.frame.elim Value.none λf=>rawInt f)=fl
  have dT6:=yd2 dT (·.setIfInBounds 3 fl);have hT6:=ycb (Obj.mapFields (·.setIfInBounds 3 fl)) hT5 (ydr dT6);generalize hh6:h5.update Tb (Obj.mapFields (·.setIfInBounds 3 fl))=h6 at hT6 ⊢
  have to6:∀b o,b≠C->b≠Tb->h4.get? b=some o->h6.get? b=some o:=λb o n1 n2 e=>by
   rw[<- hh6,ybf _ _ (yay n2)];exact(sb.2 b n1).trans e
  have B6:∀b o,b≠C->B.get? b=some o->h6.get? b=some o:=λb o n e=>to6 b o n (λz=>by rw[z,nT]at e;cases e) (f1 b o e)
  have hid:∀{b:Addr} {o:Obj},(PySem.W.hideAll s.heap [C]).get? b=some o->s.heap.get? b=some o/\b≠C:=λ{b o} e=>⟨ycl _ e,λz=>by
   rw[z,ydu [C] (yaa.mpr rfl)]at e;cases e⟩
  have hidB:∀{b:Addr} {o:Obj},b≠C->B.get? b=some o->(PySem.W.hideAll B [C]).get? b=some o:=λ{b o} n e=>yc4 _ e (λz=>n (yaa.mp z))
  have hidN:∀{b:Addr},B.get? b=none->(PySem.W.hideAll B [C]).get? b=none:=λ{b} e=>by
   cases q:(PySem.W.hideAll B [C]).get? b with
   |none=>rfl
   |some o =>
    rw[ycl _ q]at e;cases e
  have IX:Inv X pins σ H { s with heap:=PySem.W.hideAll s.heap [C] }:=FE (t':=s.toks) (ch:=[C]) I (λb o n e=>yc4 _ e n) λb z=>by
   rw[yaa.mp z];exact fC
  have slot:∀b o,s.heap.get? b=some o->H b=none->b∈BF X.stack->∃z,h6.get? b=some { o with slots:=z }:=λb o e n z=>by
   obtain⟨_,o2,ho2,d2⟩:=I.stack.mem z;rw[e]at ho2;cases ho2;obtain⟨z2,e2⟩:=un.slot b o e n z (by simp)
   obtain⟨z3,e3⟩:=sm b _ e2 d2;refine⟨z3,to6 b _ (λw=>nC (w▸z)) (λw=>?_) e3⟩
   rw[w,hT]at e3;cases e3;exact d2 _ dT
  have HC:H' C=none:=un.free C oC hCo fC.1 (by simp)
  refine hx pins σ H _ _ _ IX ⟨a,cls,H',PySem.W.hideAll B [C],rfl,os,bare,⟨λb o e n z _=>?_,λb o e n z _=>slot b o (hid e).1 n z,λb o e n z=>un.free b o (hid e).1 n z,λb o e _=>?_,un.tups,un.frzs,un.tbls⟩,?_,λb o e n z=>hidB (hid e).2 (kB b o (hid e).1 n z),λb o e z=>?_,⟨fl,λb o e=>?_,hidN f2,?_,?_⟩,he⟩
  .exact B6 b o (hid e).2 (kB b o (hid e).1 n z)
  .by_cases z:b∈BF X.stack
   .obtain⟨w,q⟩:=slot b o (hid e).1 (I.stkFree b z) z;exact⟨_,q⟩
   .obtain⟨o',q⟩:=tB b o (hid e).1 z;exact⟨o',B6 b o' (hid e).2 q⟩
  .intro b u e;refine(hok b u e).stay (λc x hc q=>hidB (λw=>?_) q) (λ_ q=>q) λ_ _ q=>q
   rcases hc with y|y
   .rw[<- y,w,HC]at e;cases e
   .rw[w,HC]at y;cases y
  .obtain⟨o',q⟩:=tB b o (hid e).1 z;exact⟨o',hidB (hid e).2 q⟩
  .have e':=ycl _ e;refine B6 b o (λw=>?_) e'
   rw[w,ydu [C] (yaa.mpr rfl)]at e;cases e
  .rw[st];refine YQ (λb o n e d=>⟨hidN n,o,to6 b o (hne n) (λw=>?_) e,d⟩) f3
   rw[w,hT]at e;cases e;exact d _ dT
  .refine⟨oe,ws,Tb,_,_,?_,hcl,hd,g1,hidN nT,Tne,hT6,dT6,?_⟩
   .rw[<- hh6,ybf _ _ Tne];exact ha5
   .simp[Array.getElem?_setIfInBounds,(ybv.mp g3).1]
 cases use<;>exact key
structure TurnG(cq:Cx->Prop)(P:Program)(w:World)(K:kA)(tg:Expr)(J:It)(fp:List Addr)(it:Addr)(tn:Nat->Heap->Prop):Prop where
 obj:∀i h,tn i h->∀b∈fp,∃o,h.get? b=some o/\∀v,o.data≠.cell v
 keep:∀i h h',tn i h->(∀b∈fp,∀o,h.get? b=some o->h'.get? b=some o)->tn i h'
 item:∀(X:Cx),X.prog=P->X.w=w->X.K=K->cq X->∀(i:Nat) (pins:List (Addr×Obj)) (s:Shared) (σ:L2.St) (H:Hp) (E:Value->Shared->Prop),Inv X pins σ H s->(∀b∈fp,CT X pins H b)->tn i s.heap->J.go i H ->
  wpAny (model P w) X.A (pyNext (.ref it)) (λr s1=>∃u,r=some u/\wpAny (model P w) X.A (letOwnedTupleGo tg (.ref it) u) (λ_ s2=>∃x H',Inv X pins σ H' s2/\RelV x u/\J.yld i H x H'/\tn (i+1) s2.heap/\∀b∈fp,H' b=none) E s1) E s
 done:∀(X:Cx),X.prog=P->X.w=w->X.K=K->cq X->∀(i:Nat) (pins:List (Addr×Obj)) (s:Shared) (σ:L2.St) (H:Hp) (E:Value->Shared->Prop),Inv X pins σ H s->(∀b∈fp,CT X pins H b)->tn i s.heap->J.stop i H ->
  wpAny (model P w) X.A (pyNext (.ref it)) (λr s1=>r=none/\Inv X pins σ H s1) E s
 self:∀(A:Around) (i:Nat) (s:Shared) (Q:Value->Shared->Prop) (E:Value->Shared->Prop),tn i s.heap->Q (.ref it) s->wpAny (model P w) A (pyIter (.ref it)) Q E s
def PJ(cq:Cx->Prop)(X:Cx)(tg iter:Expr)(wi:TI):Prop :=
 ∀(pins:List (Addr×Obj)) (s:Shared) (σ:L2.St) (H:Hp) (R:It->Hp->Prop),Inv X pins σ H s->wi σ H R ->
  wpAny (model X.prog X.w) X.A (eval iter X.env) (λv s1=>wpAny (model X.prog X.w) X.A (pyIter v) (λitv s2=>∃(it:Addr) (fp:List Addr) (tn:Nat->Heap->Prop) (J:It) (H':Hp),itv=.ref it/\Inv X pins σ H' s2/\TurnG cq X.prog X.w X.K tg J fp it tn/\tn 0 s2.heap/\(∀b∈fp,CT X pins H' b)/\R J H') X.xe s1) X.xe s
variable {tg:Expr}
theorem Uz{iter:Expr}{wi:TI}(h:PI X tg iter wi):PJ (λX=>X.calm=true) X tg iter wi:=λpins s σ H R I q =>
 AS (h pins s σ H R I q) λ_ _ h1=>AS h1 λ_ _ ⟨it,fp,tn,J,H',e,I2,T,r⟩=>⟨it,fp,tn,J,H',e,I2,⟨T.obj,T.keep,T.item,T.done,T.self⟩,r⟩
variable {pos2 pos':Pos}{N':List Str}{cq:Cx->Prop}{D:Ends}
section
variable {iter:Expr}{cl:List (Str×Addr)}{wi:TI}{g:TG}{tt:TT}{te:TE}
def KR(σ':L2.St->L2.St)(wi:TI)(g:TG)(tt:TT)(te:TE):TE:=λσ H Q=>wi σ H λJ H1=>∃(W:Nat->List V->L2.St->Hp->Prop) (n:Nat),n<=sizeLine/\W 0 [] (σ' σ) H1/\∀i ys τ H,W i ys τ H->ys.length<=i/\i<=n /\
 ((J.stop i H/\∀p,H p=none->Q (.ref p) (upd H p (.lst ys)))\/(i<n/\J.go i H/\∀x H',J.yld i H x H'->g x τ H' λτ2 H2=>tt τ2 H2 λk H3=>if k=true then te τ2 H3 λy H4=>W (i+1) (ys++[y]) τ2 H4 else W (i+1) ys τ2 H3))
theorem Wn(σ':L2.St->L2.St)(hclos:closureFor scope X.env=pure cl)(hkind:scope.kind=.function)(hnames:∀y∈scope.names,y.2=.local->scope.names.lookup y.1=some .local)(hcl:∀y c,cl.lookup y=some c->X.env.cells.lookup y=some c)(hhas:∀y,(relabel scope X.env).names.lookup y=some .cell\/(relabel scope X.env).names.lookup y=some .free->(y,NameKind.cell)∈scope.names\/∃c,cl.lookup y=some c)(hcap:∀(σ:L2.St) (i:Nat) (y:Str) (v:V),N'[i]?=some y->(σ' σ)[i]?=some (some v)->(y,NameKind.cell)∉scope.names)(hσ:∀σ:L2.St,σ.length=X.N.length->(σ' σ).length=N'.length)(hvis:∀(σ:L2.St) (i:Nat) (y:Str) (v:V),N'[i]?=some y->(σ' σ)[i]?=some (some v)->((relabel scope X.env).names.lookup y=some .cell\/(relabel scope X.env).names.lookup y=some .free)/\∃j:Nat,X.N[j]?=some y/\σ[j]?=some (some v)/\DT X.env.scope y/\X.env.kindOf y≠some .local)(hc:∀pins σ H s cl C ex xb,Inv X pins σ H s->cq (Af X scope cl N' C s H ex xb))(hi:PJ cq X tg iter wi)(hps:BO X E)(hst:GZ X)(hg:∀cl C s₀ H₀ ex xb,BO (Af X scope cl N' C s₀ H₀ ex xb) (λ_=>E σ)->PG (Af X scope cl N' C s₀ H₀ ex xb) tg g)(ht:∀cl C s₀ H₀ ex xb,BO (Af X scope cl N' C s₀ H₀ ex xb) (λ_=>E σ)->GX (Af X scope cl N' C s₀ H₀ ex xb) ifs tt)(he:∀cl C s₀ H₀ ex xb,BO (Af X scope cl N' C s₀ H₀ ex xb) (λ_=>E σ)->PE (Af X scope cl N' C s₀ H₀ ex xb) elt te)(hs:∀x,foldedSetIterable iter X.env x=pure x){use:Option (Value->Sem Unit)}{QQ:Value->Shared->Prop}(I:Inv X pins σ H s)(h:KR σ' wi g tt te σ H Q)(hend:∀(D C:Addr) (s5:Shared) (H5:Hp),Inv X pins σ H5 s5->Q (.ref D) H5->(∃m,s5.heap.Ns C m)->CT X pins H5 C->compPost (model X.prog X.w) X.A X.xe use QQ (.ref D) C (.ok .next) s5) :
  wpAny (model X.prog X.w) X.A (comprehension (.ListComp elt [⟨tg,iter,ifs,0⟩] scope pos) scope X.env pos2 (newList []) false (eval iter X.env) use) QQ X.xe s:=by
 refine wpAny_comprehension_free (use:=use) rfl hs hclos hkind hnames (AS (hi pins s σ H _ I h) λv s1 h1=>AS h1 λitv s2 h2=>?_)
 obtain⟨it,fp,tn,J,H2,e,I2,T,st2,f2,W,n,hn,w0,turn⟩:=h2;subst e;refine yey (zc1 ?_);dsimp only;generalize hHp:s2.heap.push { cls:=.type "list",dict:=none,data:=.seq ([]:List Value).toArray }=P2;generalize hcl':cellsFrom (P2.objs.size+1) scope.names cl=cl';generalize hh1:pushCells (P2.push { cls:=.type "dict",data:=.dict #[] }) scope.names=h₁;have hC:P2.objs.size=s2.heap.objs.size+1:=by rw[<- hHp,yc6]
 have hP3:(P2.push { cls:=.type "dict",data:=.dict #[] }).objs.size=P2.objs.size+1:=yc6 ..;have hDC:s2.heap.objs.size≠P2.objs.size:=by rw[hC];exact yar (yct _)
 have below:∀b,b<s2.heap.objs.size->b≠P2.objs.size/\b≠s2.heap.objs.size:=λb hb=>⟨by rw[hC];exact yar (ycd hb),yar hb⟩
 have old:∀b o,s2.heap.get? b=some o->h₁.get? b=some o:=λb o e=>by
  rw[<- hh1];exact yf9 _ _ _ _ (ya8 _ (hHp▸ya8 _ e))
 have hacc:h₁.PlainList s2.heap.objs.size #[]:=⟨_,by
  rw[<- hh1];exact yf9 _ _ _ _ (ya8 _ (hHp▸yal _ rfl))⟩
 have hns₁:h₁.Ns P2.objs.size (λ_=>none):=by
  rw[<- hh1];exact(Heap.Ns.new P2 (.type "dict")).keeps (yf9 _ _)
 have cells:∀y c,cl'.lookup y=some c->X.env.cells.lookup y=some c\/(P2.objs.size<c/\h₁.IsCell c none/\(y,NameKind.cell)∈scope.names):=λy c e=>by
  rw[<- hcl',<- hP3]at e
  rcases RZ _ _ _ y c e with q|⟨q1,q2,q3⟩
  .exact .inl (hcl y c q)
  .rw[hP3]at q1;rw[hh1]at q2;exact .inr ⟨q1,q2,q3⟩
 have has':∀y,(y,NameKind.cell)∈scope.names\/(∃c,cl.lookup y=some c)->∃c,cl'.lookup y=some c:=λy hy=>by
  rw[<- hcl']
  have go:∀(names:List (Str×NameKind)) (n:Nat) (acc:List (Str×Addr)),((y,NameKind.cell)∈names\/∃c,acc.lookup y=some c)->∃c,(cellsFrom n names acc).lookup y=some c:=by
   intro names
   induction names with
   |nil =>
    intro n acc h
    rcases h with h|h
    .cases h
    .exact h
   |cons x r ih =>
    obtain⟨m,k⟩:=x;intro n acc h;unfold cellsFrom;split
    .refine ih _ _ ?_
     by_cases hm:y=m
     .subst hm;exact .inr ⟨n,by simp⟩
     .rcases h with h|⟨c,h⟩
      .rcases ya6.mp h with z|z
       .cases z;exact absurd rfl hm
       .exact .inl z
      .exact .inr ⟨c,by rw[yb3,beq_eq_false_iff_ne.mpr hm];exact h⟩
    .rename_i hk;refine ih _ _ ?_
     rcases h with h|h
     .rcases ya6.mp h with z|z
      .cases z;exact absurd rfl hk
      .exact .inl z
     .exact .inr h
  exact go _ _ _ hy
 have fsub:∀b∈BF X.stack,b∈X.env.locals::X.fs:=I2.stkSub
 have fpfs:∀b∈fp,b∉BF X.stack:=λb hb z=>by
  obtain⟨_,h2,h3,_⟩:=f2 b hb
  rcases ya6.mp (fsub b z) with q|q
  .exact h2 q
  .exact h3 q
 have fpold:∀b∈fp,b<s2.heap.objs.size:=λb hb=>by
  obtain⟨o,e,_⟩:=T.obj 0 _ st2 b hb;exact yah e
 have cold:∀y c,cl'.lookup y=some c->c<s2.heap.objs.size\/P2.objs.size<c:=λy c e=>by
  rcases cells y c e with q|q
  .obtain⟨v,z⟩:=I2.cell y c q;exact .inl z.lt
  .exact .inr q.1
 have cneD:∀y c,cl'.lookup y=some c->c≠s2.heap.objs.size:=λy c e z=>by
  rcases cold y c e with q|q
  .rw[z]at q;exact ybb _ q
  .rw[z,hC]at q;exact absurd q (yec.mpr (yby _))
 have cneF:∀b,b<s2.heap.objs.size->(∀y c,X.env.cells.lookup y=some c->c≠b)->∀y c,cl'.lookup y=some c->c≠b:=λb hb hx y c e z=>by
  rcases cells y c e with q|q
  .exact hx y c q z
  .have:=q.1;rw[z,hC]at this;exact absurd (yds hb (Nat.lt_of_succ_lt this)) (ybb _)
 have fresh2:∀b,s2.heap.objs.size<=b->H2 b=none:=λb hb=>I2.hok.fresh hb
 have CS:s2.heap.objs.size<=P2.objs.size:=by rw[hC];exact yby _
 obtain⟨xb,hxb⟩:∃xb,xb=notedBy (model X.prog X.w) X.A (compEnvC scope cl' P2.objs.size X.env) λe s'=>compPost (model X.prog X.w) X.A X.xe use QQ (.ref s2.heap.objs.size) P2.objs.size (.error e) s':=⟨_,rfl⟩
 have hpb:BO (Af X scope cl' N' P2.objs.size s2 H2 fp xb) (λ_=>E σ):=by
  subst hxb;intro pins4 σ4 H4 s4 e s' I4 hcx
  have IX:Inv X pins σ H4 s4:=I2.call' (s':=s4) (ch:=fp) I4.os I4.base I4.hok I4.bare λb hb=>by
   obtain⟨g1,g2,g3,g4,g5,g6⟩:=f2 b hb;exact⟨g4,g2,g5,g6⟩
  obtain⟨m4,hm4,_⟩:=I4.loc
  exact zex hps hst IX ⟨I4.free,(I2.fpOk (H':=H2) CS (fresh2 _ CS)).2⟩ ⟨m4,hm4⟩ (λz=>by
   obtain⟨o,ho,_⟩:=(I2.stack.mem z).2;exact absurd (yah ho) (yec.mpr CS)) rfl hcx
 have ok':(Af X scope cl' N' P2.objs.size s2 H2 fp xb).Ok:=by
  refine⟨I2.ok.mod,hkind,I2.ok.glob,I2.ok.blt,CS,?inj,λy hy=>has' y (hhas y hy),?cab,I2.ok.hd,I2.ok.frames,.inl rfl,λb hb=>⟨(below b (fpold b hb)).1,cneF b (fpold b hb) λy c e=>(f2 b hb).2.2.2.2.1 y c e⟩,
   λb o e=>I2.bs b o e,yaw I2.ok.bsz I2.sz,λb o e hb=>?_,λb hb=>fpfs b hb,I2.stack,I2.stkFree⟩
  case inj =>
   intro y z c h1 h2;have h1':(cellsFrom (P2.push { cls:=.type "dict",data:=.dict #[] }).objs.size scope.names cl).lookup y=some c:=by rw[hP3,hcl'];exact h1
   have h2':(cellsFrom (P2.push { cls:=.type "dict",data:=.dict #[] }).objs.size scope.names cl).lookup z=some c:=by rw[hP3,hcl'];exact h2
   refine R5 scope.names _ cl (λy z c g1 g2=>I2.ok.inj y z c (hcl y c g1) (hcl z c g2)) (λy c g=>?_) y z c h1' h2'
   obtain⟨v,q⟩:=I2.cell y c (hcl y c g);rw[hP3,hC];exact ycd (ycd q.lt)
  case cab =>
   intro y c hy e;have hy':scope.names.lookup y=some .cell:=yfa hy;have e':(cellsFrom (P2.objs.size+1) scope.names cl).lookup y=some c:=by rw[hcl'];exact e
   exact yaw CS (yaw (yby _) (RY scope.names _ (P2.objs.size+1) cl y c (yac _) (.inl (ybq hy')) e'))
  .obtain⟨_,_,_,q,_⟩:=f2 b hb
   rcases q with q|q
   .exact I2.ok.noex b o e q
   .exact absurd (yam (yah e) (yaw I2.ok.bsz q)) (ybb _)
 have I':Inv (Af X scope cl' N' P2.objs.size s2 H2 fp xb) pins (σ' σ) H2 { s2 with heap:=h₁ }:=by
  refine⟨ok',rfl,I2.bare,Un.kept old,⟨_,hns₁,λi y v h1 h2 h3=>?_⟩,λy c e=>?_,fresh2 _ CS,?fc,λp hp=>?_,I2.hok.kept old,hσ σ I2.len⟩
  case fc =>
   intro y c e
   rcases cells y c e with q|q
   .exact I2.freeC y c q
   .exact fresh2 c (yaw CS (ydv q.1))
  .obtain⟨hk,j,h4,h5,h6,h7⟩:=hvis σ i y v h1 h2;have hno:=hcap σ i y v h1 h2;obtain⟨m,hn',hl⟩:=I2.loc;obtain⟨u,r,l⟩:=hl j y v h4 h5 h6;obtain⟨c,hcc⟩:=has' y (hhas y hk);refine⟨u,r,.inr ⟨hk,c,hcc,?_⟩⟩
   rcases l with ⟨k1,_⟩|⟨_,c',e',z⟩
   .exact absurd k1 h7
   .rcases cells y c hcc with w|w
    .rw[w]at e';cases e';obtain⟨o,ho,hd⟩:=z;exact⟨o,old _ _ ho,hd⟩
    .exact absurd w.2.2 hno
  .rcases cells y c e with w|w
   .obtain⟨v,o,ho,hd⟩:=I2.cell y c w;exact⟨v,o,old _ _ ho,hd⟩
   .exact⟨none,w.2.1⟩
  .obtain⟨e1,e2,e3,e4,e5⟩:=I2.pin p hp;refine⟨old _ _ e1,e2,(below _ (yah e1)).1,λz=>?_,e5⟩
   rcases ya6.mp (fsub _ z) with q|q
   .exact e3 q
   .exact e4 q
 have stat:∀{H':Hp},(∀b∈fp,H' b=none)->∀b∈fp,CT (Af X scope cl' N' P2.objs.size s2 H2 fp xb) pins H' b:=λhn' b hb =>
  ⟨hn' b hb,(below b (fpold b hb)).1,fpfs b hb,.inl hb,cneF b (fpold b hb) λy c e=>(f2 b hb).2.2.2.2.1 y c e,(f2 b hb).2.2.2.2.2⟩
 have Dok:∀{H':Hp},H' s2.heap.objs.size=none->CT (Af X scope cl' N' P2.objs.size s2 H2 fp xb) pins H' s2.heap.objs.size:=λhn' =>
  ⟨hn',hDC,(λz=>by
   obtain⟨o,ho,_⟩:=(I2.stack.mem z).2;exact absurd (yah ho) (ybb _)),.inr (yac _),cneD,λp hp z=>absurd (yah (I2.pin p hp).1) (by rw[z];exact ybb _)⟩
 have loop:∀s3:Shared,s3={ s2 with heap:=h₁ } ->
   codeAny (model X.prog X.w) X.A (.compLoop (.ListComp elt [⟨tg,iter,ifs,0⟩] scope pos) 0 (.ref it) (.ref s2.heap.objs.size) (compEnvC scope cl' P2.objs.size X.env))
    (compPost (model X.prog X.w) X.A X.xe use QQ (.ref s2.heap.objs.size) P2.objs.size) s3:=by
  rintro s3 rfl
  refine zdp hxb (λm s'=>∃i ys τ H',m=n - i/\Inv (Af X scope cl' N' P2.objs.size s2 H2 fp xb) pins τ H' s'/\tn i s'.heap/\(∀b∈fp,H' b=none)/\H' s2.heap.objs.size=none/\(∃its:List Value,A5 ys its/\s'.heap.PlainList s2.heap.objs.size its.toArray)/\W i ys τ H')
   ?_ n ⟨0,[],σ' σ,H2,rfl,I',T.keep _ _ _ st2 λb _ o e=>old b o e,λb hb=>(f2 b hb).1,fresh2 _ (yac _),⟨[],.nil,hacc⟩,w0⟩
  rintro m s4 ⟨i,ys,τ,H4,rfl,I4,st4,fr4,hD4,⟨its,rv,hpl⟩,w4⟩;obtain⟨hly,hin,c⟩:=turn i ys τ H4 w4
  have statp:∀{H':Hp},(∀b∈fp,H' b=none)->∀b∈fp,CT (Af X scope cl' N' P2.objs.size s2 H2 fp xb) (pins++Gn [s2.heap.objs.size] s4.heap) H' b:=λ{H'} fr' b hb=>by
    obtain⟨g1,g2,g3,g4,g5,g6⟩:=stat fr' b hb;refine⟨g1,g2,g3,g4,g5,λp hp z=>?_⟩
    rcases yax.mp hp with y|y
    .exact g6 p (ybs _ y) z
    .rcases yax.mp y with y|y
     .exact g6 p (yaq _ y) z
     .obtain⟨hb',_⟩:=VU y;rw[z,yaa]at hb';exact absurd (fpold b hb) (by rw[hb'];exact ybb _)
  rcases c with ⟨stop,q⟩|⟨hlt,go,step⟩
  .obtain⟨k,hDo⟩:=hpl;have I4p:=I4.pinned (fp:=[s2.heap.objs.size]) (λb hb=>by rw[yaa.mp hb];exact Dok hD4) (λb hb=>by rw[yaa.mp hb];exact⟨_,hDo,λv z=>(by cases z)⟩)
   refine AS (T.done (Af X scope cl' N' P2.objs.size s2 H2 fp xb) rfl rfl rfl (hc _ _ _ _ _ _ _ _ I2) i _ s4 τ H4 _ I4p (statp fr4) st4 stop) λr s5 ⟨hr,I5⟩=>?_
   subst hr;have hD5:s5.heap.get? s2.heap.objs.size=some { cls:=.type "list",data:=.seq its.toArray k }:=(I5.pin (s2.heap.objs.size,_) (yaq _ (yaq _ (Gu (yaa.mpr rfl) hDo)))).1;obtain⟨m5,hn5,_⟩:=I5.loc;have fC:H4 P2.objs.size=none:=I5.free
   have U5:Un (BF X.stack) fp H2 (upd H4 s2.heap.objs.size (.lst ys)) s2.heap s5.heap:=by
    have B:=I5.base;refine⟨λb o e1 e2 e3 e4=>B.keep b o e1 e2 e3 e4,λb o e1 e2 e3 e4=>B.slot b o e1 e2 e3 e4,λb o e1 e2 e4=>?_,λb o e1 e4=>B.there b o e1 e4,λb xs e1=>?_,λb o u e1=>?_,λb ps e1=>?_⟩
    .rw[Ac (below b (yah e1)).2];exact B.free b o e1 e2 e4
    .have q':=B.tups b xs e1;rw[Ac (Br q' hD4)];exact q'
    .have q':=B.frzs b o u e1;rw[Ac (Br q' hD4)];exact q'
    .obtain⟨more,q'⟩:=B.tbls b ps e1;exact⟨more,by rw[Ac (Br q' hD4)];exact q'⟩
   have hzy:ys.length<=sizeLine:=yaw hly (yaw hin hn);have HK:HOk X.prog X.w (upd H4 s2.heap.objs.size (.lst ys)) s5.heap:=Zw.HOk.adopt I5.hok hD4 ⟨hzy,its,k,rv,hD5⟩;have os5:s5.os=s2.os:=I5.os
   have IX:Inv X pins σ (upd H4 s2.heap.objs.size (.lst ys)) s5:=I2.call' (s':=s5) (ch:=fp) os5 U5 HK I5.bare (λb hb=>by
    obtain⟨g1,g2,g3,g4,g5,g6⟩:=f2 b hb;exact⟨g4,g2,g5,g6⟩)
   refine hend s2.heap.objs.size P2.objs.size s5 _ IX (q _ hD4) ⟨m5,hn5⟩ ?_;have CL:s2.heap.objs.size<=P2.objs.size:=CS;have fp0:CT X pins H2 P2.objs.size:=I2.fpOk CS (fresh2 _ CS);exact⟨by rw[Ac (yay hDC)];exact fC,fp0.2⟩
  .obtain⟨k,hDo⟩:=hpl;have I4p:=I4.pinned (fp:=[s2.heap.objs.size]) (λb hb=>by rw[yaa.mp hb];exact Dok hD4) (λb hb=>by rw[yaa.mp hb];exact⟨_,hDo,λv z=>(by cases z)⟩)
   refine AS (T.item (Af X scope cl' N' P2.objs.size s2 H2 fp xb) rfl rfl rfl (hc _ _ _ _ _ _ _ _ I2) i _ s4 τ H4 _ I4p (statp fr4) st4 go) λr s5 ⟨u,hr,h5⟩=>?_
   subst hr;refine AS h5 λ_ s6 ⟨x,H6,I6,r6,y6,st6,fr6⟩=>?_
   have I6':=I6.pinned (statp fr6) (T.obj _ _ st6);refine AS (hg _ _ _ _ _ _ hpb _ s6 τ H6 x u _ I6' r6 (step x H6 y6)) λ_ s7 ⟨τ7,H7,I7,q7⟩=>?_
   refine AS (ht _ _ _ _ _ _ hpb _ s7 τ7 H7 _ I7 q7) λok s7b ⟨H7b,I7b,q7b⟩=>?_
   have As:∀{H8:Hp} {s8:Shared} {τ8:L2.St},Inv (Af X scope cl' N' P2.objs.size s2 H2 fp xb) (pins++Gn [s2.heap.objs.size] s4.heap++Gn fp s6.heap) τ8 H8 s8->∀h9:Heap,(∀b o,b≠s2.heap.objs.size->s8.heap.get? b=some o->h9.get? b=some o)->tn (i+1) h9/\∀b∈fp,H8 b=none:=λ{H8 s8 τ8} I8 h9 sb=>by
    refine⟨T.keep _ _ _ st6 λb hb o e=>?_,λb hb=>?_⟩
    .exact sb b o (below b (fpold b hb)).2 (I8.pin (b,o) (yaq _ (yaq _ (Gu hb e)))).1
    .obtain⟨o,e,d⟩:=T.obj _ _ st6 b hb;exact(I8.pin (b,o) (yaq _ (yaq _ (Gu hb e)))).2.1
   cases ok with
   |false =>
    rw[if_neg (by decide)]at q7b ⊢
    have hD8:=I7b.pin (s2.heap.objs.size,_) (yaq _ (ybs _ (yaq _ (Gu (yaa.mpr rfl) hDo))));obtain⟨t9,f9⟩:=As I7b s7b.heap λb o _ e=>e
    exact⟨n - (i+1),by omega,i+1,ys,τ7,H7b,rfl,I7b.unpinned.unpinned,t9,f9,hD8.2.1,⟨its,rv,k,hD8.1⟩,q7b⟩
   |true =>
    rw[if_pos rfl]at q7b ⊢;refine AS (he _ _ _ _ _ _ hpb _ s7b τ7 H7b _ I7b q7b) λuy s8 ⟨y,H8,I8,ry,w8⟩=>?_
    have hD8:=I8.pin (s2.heap.objs.size,_) (yaq _ (ybs _ (yaq _ (Gu (yaa.mpr rfl) hDo))));have P8:s8.heap.PlainList s2.heap.objs.size its.toArray:=⟨k,hD8.1⟩;have hlen:=rv.length;refine wpAny_list_append_plain P8 (λh' pl' sb=>?_) (by rw[yak,<- hlen];omega)
    have I8u:Inv (Af X scope cl' N' P2.objs.size s2 H2 fp xb) pins τ7 H8 s8:=I8.unpinned.unpinned;obtain⟨d1,d2,d3,d4,d5,d6⟩:=Dok hD8.2.1;have I9:Inv (Af X scope cl' N' P2.objs.size s2 H2 fp xb) pins τ7 H8 { s8 with heap:=h' }:=I8u.turned (t':=s8.toks) (λb o hb e=>(sb.2 b hb).trans e) d1 d2 d4 d5 d6
    obtain⟨t9,f9⟩:=As I8 h' λb o hb e=>(sb.2 b hb).trans e
    exact⟨n - (i+1),by omega,i+1,ys++[y],τ7,H8,rfl,I9,t9,f9,hD8.2.1,⟨its++[uy],rv.append (.cons ry .nil),by simpa using pl'⟩,w8⟩
 refine codeAny_compStart_list (loop _ rfl) (T.self _ 0 _ _ _ (T.keep _ _ _ st2 λb _ o e=>old b o e) (loop _ rfl))
theorem znb(σ':L2.St->L2.St)(hclos:closureFor scope X.env=pure cl)(hkind:scope.kind=.function)(hnames:∀y∈scope.names,y.2=.local->scope.names.lookup y.1=some .local)(hcl:∀y c,cl.lookup y=some c->X.env.cells.lookup y=some c)(hhas:∀y,(relabel scope X.env).names.lookup y=some .cell\/(relabel scope X.env).names.lookup y=some .free->(y,NameKind.cell)∈scope.names\/∃c,cl.lookup y=some c)(hcap:∀(σ:L2.St) (i:Nat) (y:Str) (v:V),N'[i]?=some y->(σ' σ)[i]?=some (some v)->(y,NameKind.cell)∉scope.names)(hσ:∀σ:L2.St,σ.length=X.N.length->(σ' σ).length=N'.length)(hvis:∀(σ:L2.St) (i:Nat) (y:Str) (v:V),N'[i]?=some y->(σ' σ)[i]?=some (some v)->((relabel scope X.env).names.lookup y=some .cell\/(relabel scope X.env).names.lookup y=some .free)/\∃j:Nat,X.N[j]?=some y/\σ[j]?=some (some v)/\DT X.env.scope y/\X.env.kindOf y≠some .local)(hc:∀pins σ H s cl C ex xb,Inv X pins σ H s->cq (Af X scope cl N' C s H ex xb))(hi:PJ cq X tg iter wi)(hps:BO X E)(hst:GZ X)(hg:∀cl C s₀ H₀ ex xb,BO (Af X scope cl N' C s₀ H₀ ex xb) (λ_=>E σ)->PG (Af X scope cl N' C s₀ H₀ ex xb) tg g)(ht:∀cl C s₀ H₀ ex xb,BO (Af X scope cl N' C s₀ H₀ ex xb) (λ_=>E σ)->GX (Af X scope cl N' C s₀ H₀ ex xb) ifs tt)(he:∀cl C s₀ H₀ ex xb,BO (Af X scope cl N' C s₀ H₀ ex xb) (λ_=>E σ)->PE (Af X scope cl N' C s₀ H₀ ex xb) elt te)(hs:∀x,foldedSetIterable iter X.env x=pure x)(I:Inv X pins σ H s)(h:KR σ' wi g tt te σ H Q) :
  wpAny (model X.prog X.w) X.A (eval (.ListComp elt [⟨tg,iter,ifs,0⟩] scope pos) X.env) (EP X pins σ Q) X.xe s:=by
 rw[eval_ListComp];refine Wn σ' hclos hkind hnames hcl hhas hcap hσ hvis hc hi hps hst hg ht he hs I h λD C s5 H5 I5 q5 ⟨m,hm⟩ f=>⟨m,hm,λh' sb=>?_⟩
 exact⟨.ref D,H5,FE (t':=s5.toks) (ch:=[C]) I5 (λb o hb e=>(sb.2 b (λz=>hb (by simp[z]))).trans e) (λb hb=>by rw[yaa.mp hb];exact f),rfl,q5⟩
theorem znc(σ':L2.St->L2.St)(hclos:closureFor scope X.env=pure cl)(hkind:scope.kind=.function)(hnames:∀y∈scope.names,y.2=.local->scope.names.lookup y.1=some .local)(hcl:∀y c,cl.lookup y=some c->X.env.cells.lookup y=some c)(hhas:∀y,(relabel scope X.env).names.lookup y=some .cell\/(relabel scope X.env).names.lookup y=some .free->(y,NameKind.cell)∈scope.names\/∃c,cl.lookup y=some c)(hcap:∀(σ:L2.St) (i:Nat) (y:Str) (v:V),N'[i]?=some y->(σ' σ)[i]?=some (some v)->(y,NameKind.cell)∉scope.names)(hσ:∀σ:L2.St,σ.length=X.N.length->(σ' σ).length=N'.length)(hvis:∀(σ:L2.St) (i:Nat) (y:Str) (v:V),N'[i]?=some y->(σ' σ)[i]?=some (some v)->((relabel scope X.env).names.lookup y=some .cell\/(relabel scope X.env).names.lookup y=some .free)/\∃j:Nat,X.N[j]?=some y/\σ[j]?=some (some v)/\DT X.env.scope y/\X.env.kindOf y≠some .local)(hc:X.calm=true)(hi:PI X tg iter wi)(hps:BO X E)(hst:GZ X)(hg:∀cl C s₀ H₀ ex xb,BO (Af X scope cl N' C s₀ H₀ ex xb) (λ_=>E σ)->PG (Af X scope cl N' C s₀ H₀ ex xb) tg g)(ht:∀cl C s₀ H₀ ex xb,BO (Af X scope cl N' C s₀ H₀ ex xb) (λ_=>E σ)->GX (Af X scope cl N' C s₀ H₀ ex xb) ifs tt)(he:∀cl C s₀ H₀ ex xb,BO (Af X scope cl N' C s₀ H₀ ex xb) (λ_=>E σ)->PE (Af X scope cl N' C s₀ H₀ ex xb) elt te)(hs:∀x,foldedSetIterable iter X.env x=pure x)(hN:X.N.Nodup)(hix:X.N[i]?=some x)(hx:X.env.scope.names.lookup x=some .local)(hsw:swapsWith (.ListComp elt [⟨tg,iter,ifs,0⟩] scope pos) (some (.Name x pos')) pos2.line X.env=pure true)(I:Inv X pins σ H s)(h:KR σ' wi g tt te σ H λv H1=>D.nx (σ.set i (some v)) H1) :
  wpAny (model X.prog X.w) X.A (exec (.Assign [.Name x pos'] (.ListComp elt [⟨tg,iter,ifs,0⟩] scope pos) pos2) X.env) (SP X pins D) X.xe s:=by
 rw[exec_Assign_Name_used _ _ _ _ hsw];refine yek (yem (yek ?_));show wpAny _ X.A (do let _ <- comprehension (.ListComp elt [⟨tg,iter,ifs,0⟩] scope pos) scope X.env _ (newList []) false (eval iter X.env) (some (assign (.Name x pos') X.env))) _ _ s
 refine yek (yeh (Wn (QQ:=λ_ s'=>SP X pins D .next s') σ' hclos hkind hnames hcl hhas hcap hσ hvis (cq:=λX=>X.calm=true) (λ_ _ _ _ _ _ _ _ _=>hc) (Uz hi) hps hst hg ht he hs I h λA C s5 H5 I5 q5 ⟨m,hm⟩ f=>?_) (λ_ s' hq=>yen (yen hq)) λ_ _ e=>e)
 show wpAny _ X.A (assign (.Name x pos') X.env (.ref A)) _ _ _;refine wpAny_assign_Name (Tr I5 hN hix (.inl hx) (v:=.ref A) rfl (λs6 I6 ⟨a,sb,ha⟩=>?_) (.inr hx))
 have hCa:C≠a:=by
  rcases ha with rfl|ha
  .exact f.2.1
  .exact λz=>f.2.2.2.2.1 x a ha z.symm
 refine⟨m,hm.sameBut sb hCa,λh' sb2=>⟨_,H5,FE (t':=s6.toks) (ch:=[C]) I6 (λb o hb e=>(sb2.2 b (λz=>hb (by simp[z]))).trans e) (λb hb=>by rw[yaa.mp hb];exact f),q5⟩⟩
end
structure RpO(K:kA)(F H:Hp)(l:List T)(xs:List V)(R:Nat->Rg):Prop where
 len:l.length=xs.length
 rep:∀(i:Nat) (t:T) (x:V),l[i]?=some t->xs[i]?=some x->Rp K F H t x (R i)
 dis:∀i j a,i≠j->R i a->¬ R j a
 out:∀i a,R i a->i<l.length
section
variable {K:kA}
theorem RpO.nil:RpO K F H [] [] (λ_=>R0):=⟨rfl,λi t x h=>by simp at h,λ_ _ _ _ z=>z.elim,λ_ _ z=>z.elim⟩
theorem RpO.dom(h:RpO K F H l xs R){i:Nat}{a:Addr}(z:R i a):F a=none/\∃u,H a=some u:=by
 have hi:=h.out i a z;have hx:i<xs.length:=by have:=h.len;omega
 exact(h.rep i _ _ (ya0 hi) (ya0 hx)).dom z
theorem RpO.ext(h:RpO K F H l xs R)(e:Ext F H F1 H1 B):RpO K F1 H1 l xs R:=⟨h.len,λi t x h1 h2=>(h.rep i t x h1 h2).ext e,h.dis,h.out⟩
theorem RpO.apart(h:RpO K F H l xs R)(e:Ext F H F1 H1 B){b:Addr}(hb:B b)(i:Nat):¬ R i b:=λz=>by
 obtain⟨f,u,q⟩:=h.dom z;rw[e.nb b hb]at q;cases q
theorem RpO.snoc(h:RpO K F H l xs R){t:T}{x:V}(r:Rp K F H t x B)(d:∀i a,R i a->¬ B a):RpO K F H (l++[t]) (xs++[x]) (λj=>if j=l.length then B else R j):=by
 have hl:=h.len;refine⟨by simp[hl],λi t' x' h1 h2=>?_,λi j a hij z1 z2=>?_,λi a z=>?_⟩
 .by_cases hi:i=l.length
  .subst hi;rw[if_pos rfl];have e1:t=t':=by simpa using h1
   have e2:x=x':=by rw[hl]at h2;simpa using h2
   subst e1;subst e2;exact r
  .rw[if_neg hi]
   have hlt:i<l.length:=by
    have:=(ya4.mp h1).1;simp at this
    omega
   rw[yb0 hlt]at h1;rw[yb0 (by omega)]at h2
   exact h.rep i t' x' h1 h2
 .by_cases hi:i=l.length
  .simp only[hi,yet]at z1;have hj:¬ j=l.length:=λz=>hij (hi.trans z.symm)
   simp only[hj,yeu]at z2;exact d j a z2 z1
  .simp only[hi,yeu]at z1
   by_cases hj:j=l.length
   .simp only[hj,yet]at z2;exact d i a z1 z2
   .simp only[hj,yeu]at z2;exact h.dis i j a hij z1 z2
 .by_cases hi:i=l.length
  .simp[hi]
  .simp only[hi,yeu]at z;have:=h.out i a z;simp
   omega
theorem RpO.cons(h:RpO K F H l xs R){t:T}{x:V}(r:Rp K F H t x B)(d:∀i a,R i a->¬ B a):RpO K F H (t::l) (x::xs) (λj=>match j with|0=>B|j+1=>R j):=by
 refine⟨by simp[h.len],λi t' x' h1 h2=>?_,λi j a hij z1 z2=>?_,λi a z=>?_⟩
 .cases i with
  |zero =>
   simp at h1 h2;subst h1;subst h2;exact r
  |succ i=>exact h.rep i t' x' (by simpa using h1) (by simpa using h2)
 .cases i with
  |zero =>
   cases j with
   |zero=>exact hij rfl
   |succ j=>exact d j a z2 z1
  |succ i =>
   cases j with
   |zero=>exact d i a z1 z2
   |succ j=>exact h.dis i j a (λz=>hij (by rw[z])) z1 z2
 .cases i with
  |zero=>simp
  |succ i=>have:=h.out i a z;simp;omega
theorem RpO.list(h:RpO K F H l xs R)(s:AZ F H){p:Addr}(hp:H p=none):Rp K F (upd H p (.lst xs)) (.own l) (.ref p) (λa=>a=p\/∃i,R i a)/\Ext F H F (upd H p (.lst xs)) (λa=>a=p):=by
 have e:=Ext.newO (o:=.lst xs) s hp;have h':=h.ext e;exact⟨.own (k:=.lst) trivial R (FW s hp) Ba h.len h'.rep h.dis (λi z=>h.apart e rfl i z) h.out,e⟩
end
def B8(ma mk:AF):AF:=λτ=>match ma τ with
 |some (.v t b)=>(match mk τ with
  |some (.v (.int i) _)=>(match t with
   |.nd _ _ l=>(match Aw l i with
    |some c=>some (.v c (b && !c.sh))
    |none=>none)
   |.str z=>if z.length<=BL then (match Aw z.cps.toList i with
    |some c=>some (.v (.str ⟨#[c]⟩) false)
    |none=>none) else none
   |_=>none)
  |some (.v _ _)=>none
  |r=>r)
 |r=>r
variable {α:Type}
theorem zku{β:Type}{l:List α}{m:List β}{i:Int}{c:α}(e:l.length=m.length)(h:Aw l i=some c):∃(j:Nat) (d:β),l[j]?=some c/\m[j]?=some d/\Aw m i=some d:=by
 unfold Aw at h ⊢;rw[<- e];cases q:DB l.length i with
 |none=>rw[q]at h;cases h
 |some j =>
  rw[q]at h;have h':l[j]?=some c:=h
  have hj:j<m.length:=by
   have:=(ya4.mp h').1
   omega
  exact⟨j,m[j],h',ya0 hj,ya0 hj⟩
section
variable {K:kA}
theorem Rp.seq{o:Bool}{k:Kd}{l:List T}{x:V}{A:Rg}(s:AZ F H)(h:Rp K F H (.nd o k l) x A):∃p xs,x=.ref p/\(AY K H p xs\/Bg K H p xs)/\l.length=xs.length/\∀(i:Nat) (t:T) (x:V),l[i]?=some t->xs[i]?=some x->∃B,(∀a,B a->A a)/\Rp K F H t x B:=by
 cases h with
 |@shr k p xs l h e c =>
  refine⟨p,xs,rfl,?_,e,λi t x h1 h2=>⟨R0,λ_ z=>z.elim,c i t x h1 h2⟩⟩
  cases k with
  |lst=>exact .inl (AY.of (s _ _ h))
  |rl=>exact .inl (s.seq h)
  |tup=>exact .inr (Bg.of (s _ _ h))
  |rt=>exact .inr (Ft s h)
  |pin q=>exact .inl (AY.of (s _ _ h))
 |@own k0 p xs l hk R f h e c d dp o=>exact⟨p,xs,rfl,.inl (AY.of h),e,λi t x h1 h2=>⟨R i,λa z=>.inr ⟨i,z⟩,c i t x h1 h2⟩⟩
end
section
variable {K:kA}{b:Expr}
theorem tM_ix(h:tM K E ca (B8 ma mb) σ H Q):Ha (Us K) (tM K E ca ma) (tM K E ca mb) σ H Q:=by
 obtain⟨F,τ,R,S,q⟩:=h;refine⟨F,τ,R,S,?_⟩;unfold B8 at q;cases hm:ma τ with
 |none=>simp only[hm]at q<;>exact False.elim q
 |some r =>
  simp only[hm]at q;cases r with
  |x c=>exact q
  |v t bb =>
   intro F1 H1 x B e1 g1;have S1:=S.ext e1;refine⟨F1,τ,R,S1,?_⟩;cases hk:mb τ with
   |none=>simp only[hk]at q<;>exact False.elim q
   |some r =>
    simp only[hk]at q;cases r with
    |x c=>exact λF' H' e=>q F' H' ((e1.trans e).mono λ_ z=>z.elim)
    |v tk bk =>
     cases tk with
     |int i =>
      intro F2 H2 y C e2 g2
      have hy:y=.int i:=by
       cases bk with
       |true=>obtain⟨_,A,_,r⟩:=g2;exact r.int_inv
       |false=>exact(show Rp K F2 H2 _ _ _ from g2).int_inv
      subst hy;have e02:Ext F H F2 H2 B:=(e1.trans e2).mono λ_ z=>.inl z
      have S2:=S1.ext e2;cases t with
      |nd o k l =>
       simp only at q;cases hc:Aw l i with
       |none=>simp only[hc]at q<;>exact False.elim q
       |some cc =>
        simp only[hc]at q
        have node:∃A0,(bb=true->∀a,A0 a->tot R a)/\(bb=false->∀a,A0 a->B a)/\Rp K F2 H2 (.nd o k l) x A0:=by
         cases bb with
         |true =>
          obtain⟨_,A,hA,r⟩:=g1;exact⟨A,λ_=>hA,(λz=>by cases z),r.ext e2⟩
         |false=>exact⟨B,(λz=>by cases z),λ_ _ z=>z,(show Rp K F1 H1 _ _ _ from g1).ext e2⟩
        obtain⟨A0,hA1,hA2,rn⟩:=node;obtain⟨p,xs,rfl,hq,hl,kids⟩:=Rp.seq S2.fh rn;obtain⟨j,d,h1,h2,h3⟩:=zku hl hc;obtain⟨A1,hA,rk⟩:=kids j cc d h1 h2
        have qq:Q d H2:=by
         cases bb with
         |false=>exact q F2 H2 d A1 (e02.mono λa z=>hA2 rfl a (hA a z)) rk
         |true =>
          cases hs:cc.sh with
          |true =>
           rw[hs]at q;exact q F2 H2 d R0 (e02.mono λ_ z=>z.elim) (rk.move hs (.refl _))
          |false =>
           rw[hs]at q;exact q F2 H2 d R0 (e02.mono λ_ z=>z.elim) ⟨rfl,A1,λa z=>hA1 rfl a (hA a z),rk⟩
        rcases hq with hq|hq
        .exact .inl ⟨p,xs,i,d,rfl,rfl,hq,h3,qq⟩
        .exact .inr (.inl ⟨p,xs,i,d,rfl,rfl,hq,h3,qq⟩)
      |str z =>
       by_cases hz:z.length<=BL
       .simp only[hz,yet]at q;cases hc:Aw z.cps.toList i with
        |none=>simp only[hc]at q<;>exact False.elim q
        |some cc =>
         simp only[hc]at q
         have hx:x=.str z:=by
          cases bb with
          |true=>obtain⟨_,A,_,r⟩:=g1;exact r.str_inv
          |false=>exact(show Rp K F1 H1 _ _ _ from g1).str_inv
         subst hx;exact .inr (.inr ⟨z,i,cc,rfl,rfl,by rw[<- Dl];exact hz,hc,q F2 H2 _ R0 (e02.mono λ_ z=>z.elim) (.str _)⟩)
       .simp only[hz,yeu]at q<;>exact False.elim q
      |_=>exact q.elim
     |_=>exact q.elim
theorem Ug(ha:PE X a (tM X.K E ca ma))(hb:PE X b (tM X.K E ca mb))(hs:Md b):PE X (.Subscript a b pos) (tM X.K E ca (B8 ma mb)):=PE.weak (VE zno ha hb hs) λσ H Q h=>tM_ix h
def GV{α:Type}(l:List α)(lo hi:Option Int):List α:=(l.drop (HT.sIx l.length 0 lo)).take (HT.sIx l.length l.length hi - HT.sIx l.length 0 lo)
noncomputable def ET(m:Option (AF)):AO->Option (Option Int):=λτ=>match m with
 |none=>some none
 |some m=>match m τ with
  |some (.v (.int i) _)=>some (some i)
  |_=>none
def Ek(ma:AF)(ml mh:Option (AF)):AF:=λτ=>match ma τ with
 |some (.v t false)=>(match ET ml τ with
  |some lo=>(match ET mh τ with
   |some hi=>(match t with
    |.nd _ .lst l=>some (.v (.own (GV (Ax l) lo hi)) false)
    |.nd _ .rl l=>some (.v (.own (GV (Ax l) lo hi)) false)
    |_=>none)
   |none=>none)
  |none=>none)
 |some (.v _ true)=>none
 |r=>r
def Gb(K:kA)(m:Option (AF)):TO:=λσ H Q=>∃F τ R o,StR K F H σ τ R/\ET m τ=some o/\∀F' H',Ext F H F' H' R0->Q o H'
theorem r_po0:PO X none (Gb X.K none):=λpins s σ H Q I h=>by
 obtain⟨F,τ,R,o,S,e,q⟩:=h;cases e;exact zin pins s σ H Q I (q F H (Ext.refl S.fh))
theorem r_po1(ha:PE X e (tM X.K E ca m)):PO X (some e) (Gb X.K (some m)):=λpins s σ H Q I h=>by
 obtain⟨F,τ,R,o,S,e',q⟩:=h;refine zim ha pins s σ H Q I ⟨F,τ,R,S,?_⟩;unfold ET at e';simp only at e';cases hm:m τ with
 |none=>rw[hm]at e';cases e'
 |some r =>
  rw[hm]at e';cases r with
  |x c=>cases e'
  |v v b =>
   cases v with
   |int i =>
    cases e';intro F' H' x B e g
    have hx:x=.int i:=by
     cases b with
     |true=>obtain⟨_,A,_,r⟩:=g;exact r.int_inv
     |false=>exact(show Rp X.K F' H' _ _ _ from g).int_inv
    exact⟨i,hx,q F' H' (e.mono λ_ z=>z.elim)⟩
   |_=>cases e'
theorem zh1(r:A9 K F l xs)(lo hi:Option Int):A9 K F (GV l lo hi) (IG xs lo hi):=by
 have hl:=r.1;unfold GV IG;rw[hl];refine⟨by simp[hl],λi t x h1 h2=>?_⟩
 rw[List.getElem?_take]at h1 h2;split at h1
 .rename_i hi';rw[if_pos hi',List.getElem?_drop]at h2;rw[List.getElem?_drop]at h1;exact r.2 _ t x h1 h2
 .cases h1
theorem Ub{lo hi:Option Expr}{ml mh:Option (AF)}(ha:PE X a (tM X.K E ca ma))(hl:PO X lo (Gb X.K ml))(hh:PO X hi (Gb X.K mh)):PE X (.Subscript a (.Slice lo hi none p2) pos) (tM X.K E ca (Ek ma ml mh)):=by
 refine PE.weak (VD zi0 ha hl hh) λσ H Q h=>?_
 obtain⟨F,τ,R,S,q⟩:=h;refine⟨F,τ,R,S,?_⟩;unfold Ek at q;cases hm:ma τ with
 |none=>simp only[hm]at q<;>exact False.elim q
 |some r =>
  simp only[hm]at q;cases r with
  |x c=>exact q
  |v t bb =>
   cases bb with
   |true=>exact q.elim
   |false =>
    intro F1 H1 x B e1 g1;obtain⟨F1',e1',_,r1⟩:=Ct.frz (b:=false) S e1 g1;have S1:=S.ext e1';simp only at q;cases h1:ET ml τ with
    |none=>simp only[h1]at q<;>exact False.elim q
    |some lo' =>
     simp only[h1]at q;refine⟨F1',τ,R,lo',S1,h1,λF2 H2 e2=>?_⟩
     have S2:=S1.ext e2;cases h2:ET mh τ with
     |none=>simp only[h2]at q<;>exact False.elim q
     |some hi' =>
      simp only[h2]at q;refine⟨F2,τ,R,hi',S2,h2,λF3 H3 e3=>?_⟩
      have S3:=S2.ext e3;have e03:=e1'.trans0 (e2.trans0 e3);have r3:Rp X.K F3 F3 t.share x R0:=(show Rp X.K F1' F1' t.share x R0 from r1).frame (e2.ff.trans e3.ff) λ_ z=>z.elim
      have key:∀{o:Bool} {k:Kd} {l:List T},t=.nd o k l->(k=.lst\/k=.rl)->(∀F' H' x B,Ext F H F' H' B->Rp X.K F' H' (.own (GV (Ax l) lo' hi')) x B->Q x H')->Uo X.K x lo' hi' H3 Q:=by
       intro o k l et hk qq;subst et;rw[T.share]at r3;obtain⟨p,xs,rfl,_,n3,k3⟩:=Cg r3
       have sq:AY X.K H3 p xs:=by
        rcases hk with rfl|rfl
        .exact AY.of (S3.fh _ _ n3)
        .exact S3.fh.seq n3
       refine⟨p,xs,rfl,sq,λp' hp'=>?_⟩
       have gg:Cn X.K F3 H3 (.own (GV (Ax l) lo' hi')) Q:=λF' H' z C e g=>qq F' H' z C (e03.trans0 e) g
       exact gg.list S3.fh (zh1 k3 lo' hi') hp'
      cases t with
      |nd o k l =>
       cases k with
       |lst=>exact key rfl (.inl rfl) q
       |rl=>exact key rfl (.inr rfl) q
       |tup=>exact q.elim
       |rt=>exact q.elim
       |pin _=>exact q.elim
      |_=>exact q.elim
def Hb(K:kA)(E:L2.St->XK)(ca:Str->Value)(m:Ao):TA:=λσ H Q=>∃F τ R,StR K F H σ τ R/\match m τ with
 |some (.v ts _)=>∀F' H' xs (Rr:Nat->Rg),Ext F H F' H' (tot Rr)->RpO K F' H' ts xs Rr->Q xs H'
 |some (.x c)=>∀F' H',Ext F H F' H' R0->E σ (ca c) none H'
 |none=>False
noncomputable def AK(m:AF)(ms:Ao):Ao:=λτ=>match m τ with
 |some (.v t false)=>(match ms τ with
  |some (.v ts _)=>some (.v (t::ts) false)
  |r=>r)
 |some (.v _ true)=>none
 |some (.x c)=>some (.x c)
 |none=>none
theorem Uc:PA X [] (Hb X.K E ca AD):=PA.weak DZ λσ H Q h=>by
 obtain⟨F,τ,R,S,q⟩:=h;exact q F H [] (λ_=>R0) ((Ext.refl S.fh).mono λa ⟨i,z⟩=>z.elim) .nil
theorem Uk(ha:PE X e (tM X.K E ca m))(hr:PA X es (Hb X.K E ca ms))(hs:starEach (e::es) X.env=(false,eval e X.env)::starEach es X.env):PA X (e::es) (Hb X.K E ca (AK m ms)):=by
 refine PA.weak (Cf ha hr hs) λσ H Q h=>?_
 obtain⟨F,τ,R,S,q⟩:=h;refine⟨F,τ,R,S,?_⟩;unfold AK at q;cases hm:m τ with
 |none=>simp only[hm]at q<;>exact False.elim q
 |some r =>
  simp only[hm]at q;cases r with
  |x c=>exact q
  |v t bb =>
   cases bb with
   |true=>exact q.elim
   |false =>
    intro F1 H1 x B e1 g1;have S1:=S.ext e1;refine⟨F1,τ,R,S1,?_⟩;simp only at q;cases hs:ms τ with
    |none=>simp only[hs]at q<;>exact False.elim q
    |some r =>
     simp only[hs]at q;cases r with
     |x c=>exact λF' H' e=>q F' H' ((e1.trans e).mono λ_ z=>z.elim)
     |v ts b' =>
      intro F2 H2 xs Rr e2 ro;have g1':Rp X.K F1 H1 t x B:=g1;refine q F2 H2 (x::xs) _ ((e1.trans e2).mono ?_) (ro.cons (g1'.ext e2) λi a z=>?_)
      .rintro a ⟨j,z⟩;cases j with
       |zero=>exact .inl z
       |succ j=>exact .inr ⟨j,z⟩
      .exact g1'.apart e2 ⟨i,z⟩
def AV(ms:Ao):AF:=λτ=>match ms τ with
 |some (.v ts _)=>if ts.length<=BL then some (.v (.own ts) false) else none
 |some (.x c)=>some (.x c)
 |none=>none
theorem Ud(h:PA X es (Hb X.K E ca ms)):PE X (.List es pos) (tM X.K E ca (AV ms)):=by
 refine PE.weak (zmn h) λσ H Q h=>?_
 obtain⟨F,τ,R,S,q⟩:=h;refine⟨F,τ,R,S,?_⟩;unfold AV at q;cases hm:ms τ with
 |none=>simp only[hm]at q<;>exact False.elim q
 |some r =>
  simp only[hm]at q;cases r with
  |x c=>exact q
  |v ts b =>
   intro F1 H1 xs Rr e1 ro
   by_cases hz:ts.length<=BL
   .simp only[hz,yet]at q;refine⟨by rw[<- ro.len,<- Dl];exact hz,λp hp=>?_⟩
    obtain⟨r,e2⟩:=ro.list e1.fh hp;refine q F1 _ _ _ ((e1.trans e2).mono ?_) r;rintro a (z|⟨i,z⟩)
    .exact .inr z
    .exact .inl ⟨i,z⟩
   .simp only[hz,yeu]at q<;>exact False.elim q
def B0(ms:Ao):AF:=λτ=>match ms τ with
 |some (.v ts false)=>if ts.length<=BL then some (.v (.tup ts) false) else none
 |some (.v _ true)=>none
 |some (.x c)=>some (.x c)
 |none=>none
theorem r_tup{k:Nat}(h:PA X es (CF X.K E ca ms)):PE X (.Tuple es k pos) (tM X.K E ca (B0 ms)):=by
 refine PE.weak (zmj h) λσ H Q h=>?_
 obtain⟨F,τ,R,S,q⟩:=h;refine⟨F,τ,R,S,?_⟩;unfold B0 at q;cases hm:ms τ with
 |none=>simp only[hm]at q<;>exact False.elim q
 |some r =>
  simp only[hm]at q;cases r with
  |x c=>exact q
  |v ts b =>
   cases b with
   |true=>exact q.elim
   |false =>
    intro F1 H1 xs e1 rs
    by_cases hz:ts.length<=BL
    .simp only[hz,yet]at q;refine⟨by rw[<- rs.1,<- Dl];exact hz,λp hp=>?_⟩
     have gg:Cn X.K F1 H1 (.tup ts) Q:=λF' H' z C e g=>q F' H' z C (e1.trans0 e) g
     exact gg.tuple e1.fh rs hp
    .simp only[hz,yeu]at q<;>exact False.elim q
theorem Hh{id:String}{g:List T->Option T}(hc:Bv X (.builtin id) (DK X.K g))(hg:Gl X x)(hm:X.mg x=none)(hv:bootBuiltins x=some (.builtin id))(ha:PA X (e::es) (CF X.K E ca ms))(hn:x≠"__name__")(hdb:(x == ("__debug__":Str))=false)(he:starEach (e::es) X.env=(false,eval e X.env)::starEach es X.env)(hpl:(backTo pos (starEach es X.env)).any (·.1)=false):PE X (.Call (.Name x p) (e::es) [] pos) (tM X.K E ca (BA g ms)) :=
 PE.weak (Hi hc hg hm hv ha hn hdb he hpl) λσ H Q h=>FG h
theorem Ul{T':String}{g:List T->Option T}(hc:Bv X (.type T') (DK X.K g))(hg:Gl X x)(hm:X.mg x=none)(hv:bootBuiltins x=some (.type T'))(ha:PA X (e::es) (CF X.K E ca ms))(hn:x≠"__name__")(hdb:(x == ("__debug__":Str))=false)(he:starEach (e::es) X.env=(false,eval e X.env)::starEach es X.env)(hpl:(backTo pos (starEach es X.env)).any (·.1)=false):PE X (.Call (.Name x p) (e::es) [] pos) (tM X.K E ca (BA g ms)) :=
 PE.weak (VH hc hg hm hv ha hn hdb he hpl) λσ H Q h=>FG h
end
def Bu:T->Option T
 |.nd _ _ l=>some (.int l.length)
 |.str z=>if z.length<=BL then some (.int z.length) else none
 |_=>none
def CZ:T->Option T
 |.nd _ _ l=>some (.own l)
 |_=>none
def MV:T->Option T
 |.int i=>some (.int (if i<0 then -i else i))
 |_=>none
def LK:T->T->Option T
 |.int i,.int j=>some (.int (if j<i then j else i))
 |_,_=>none
noncomputable def De:List T->Option (List Bool)
 |[]=>some []
 |.bl b::r=>(match De r with
  |some l=>some (b::l)
  |none=>none)
 |_::_=>none
def Dn:T->Option T
 |.nd _ .lst l=>(match De l with
  |some bs=>some (.bl (bs.all id))
  |none=>none)
 |_=>none
def MT:T->Option T
 |.nd _ .lst l=>(match De l with
  |some bs=>some (.bl (bs.any id))
  |none=>none)
 |_=>none
noncomputable def KH:T->Option String
 |.non=>some "NoneType"
 |.bl _=>some "bool"
 |.int _=>some "int"
 |.str _=>some "str"
 |.nd _ .lst _=>some "list"
 |.nd _ .tup _=>some "tuple"
 |.dic _ _=>some "dict"
 |.pdc _ _=>some "dict"
 |_=>none
def G9:List String:=["int","bool","str","list","tuple"]
def KY(a c:String):Bool:=a == c || (a == "bool" && c == "int")
def C6(c:String)(t:T):Option T:=match KH t with
 |some a=>if c∈G9 then some (.bl (KY a c)) else none
 |none=>none
theorem zcs:PySem.W.kitMeta "str"=true:=by decide +kernel
theorem zc2:PySem.W.kitMeta "list"=true:=by decide +kernel
theorem Wu(K:kA){a c:String}(ha:a∈["NoneType","bool","int","str","list","tuple","dict"])(hc:c∈G9):PySem.W.kitOne K (.type a) (.type c)=some (KY a c):=by
 have km:PySem.W.kitMeta c=true:=by
  simp only[G9,ya6,yab,yf7]at hc
  rcases hc with rfl|rfl|rfl|rfl|rfl
  .exact zct
  .exact zc3
  .exact zcs
  .exact zc2
  .exact zbj
 by_cases h:a=c
 .subst h;rw[zgq];simp[KY]
 .refine zne K (l:=[]) h km ?_;simp only[G9,ya6,yab,yf7]at hc ha
  rcases ha with rfl|rfl|rfl|rfl|rfl|rfl|rfl<;>rcases hc with rfl|rfl|rfl|rfl|rfl<;>first|exact absurd rfl h|decide +kernel
section
theorem ZD:Bv X (.builtin "len") (DK X.K (g1 Bu)):=by
 intro pins s σ H xs us Q I r h;obtain⟨F,ts,v,fh,rs,e,q⟩:=h;unfold g1 at e;split at e
 .obtain⟨x1,xs1,rfl,r1,rs1⟩:=rs.inv;cases rs1.inv0;unfold Bu at e;split at e
  .cases e;obtain⟨p,ys,rfl,hq,hl,_⟩:=Rp.seq (H:=H) fh (r1.any);refine ZA pins s σ H _ us Q I r ⟨_,ys.length,rfl,?_,by rw[<- hl];exact q.int fh⟩
   rcases hq with hq|hq
   .exact .inl ⟨ys,hq,rfl⟩
   .exact .inr ⟨ys,hq,rfl⟩
  .split at e
   .cases e;rename_i hz;rw[r1.str_inv]at r;exact ZA pins s σ H _ us Q I r ⟨_,_,rfl,⟨by rw[<- Dl];exact hz,rfl⟩,q.int fh⟩
   .cases e
  .cases e
 .cases e
theorem zee{K:kA}{k:Kd}{p:Addr}(s:AZ F H)(h:Ey K F k p xs):AY K H p xs\/Bg K H p xs:=by
 cases k with
 |lst=>exact .inl (AY.of (s _ _ h))
 |rl=>exact .inl (s.seq h)
 |tup=>exact .inr (Bg.of (s _ _ h))
 |rt=>exact .inr (Ft s h)
 |pin q=>exact .inl (AY.of (s _ _ h))
theorem zdu:Bv X (.type "list") (DK X.K (g1 CZ)):=by
 intro pins s σ H xs us Q I r h;obtain⟨F,ts,v,fh,rs,e,q⟩:=h;unfold g1 at e;split at e
 .obtain⟨x1,xs1,rfl,r1,rs1⟩:=rs.inv;cases rs1.inv0;unfold CZ at e;split at e
  .cases e;obtain⟨p,ys,rfl,rfl,n1,k1⟩:=Cg r1;have hq:AY X.K H p ys\/Bg X.K H p ys:=zee fh n1;exact zce pins s σ H _ us Q I r ⟨p,ys,rfl,hq,λl hl=>q.list fh k1 hl⟩
  .cases e
 .cases e
theorem zfa:Bv X (.builtin "abs") (DK X.K (g1 MV)):=by
 intro pins s σ H xs us Q I r h;obtain⟨F,ts,v,fh,rs,e,q⟩:=h;unfold g1 at e;split at e
 .obtain⟨x1,xs1,rfl,r1,rs1⟩:=rs.inv;cases rs1.inv0;unfold MV at e;split at e
  .cases e;rw[r1.int_inv]at r;exact zhd pins s σ H _ us Q I r ⟨_,rfl,q.int fh⟩
  .cases e
 .cases e
theorem zf4{f:String}{gi:Int->Int->Int}(hc:Bv X (.builtin f) (λxs H Q=>∃i j,xs=[.int i,.int j]/\Q (.int (gi i j)) H))(hg:∀t u v,g t u=some v->∃i j,t=.int i/\u=.int j/\v=.int (gi i j)):Bv X (.builtin f) (DK X.K (g2 g)):=by
 intro pins s σ H xs us Q I r h;obtain⟨F,ts,v,fh,rs,e,q⟩:=h;unfold g2 at e;split at e
 .obtain⟨x1,xs1,rfl,r1,rs1⟩:=rs.inv;obtain⟨x2,xs2,rfl,r2,rs2⟩:=rs1.inv;cases rs2.inv0;obtain⟨i,j,rfl,rfl,rfl⟩:=hg _ _ _ e;rw[r1.int_inv,r2.int_inv]at r;exact hc pins s σ H _ us Q I r ⟨_,_,rfl,q.int fh⟩
 .cases e
theorem zf6(hc:X.calm=true):Bv X (.builtin "min") (DK X.K (g2 LK)):=zf4 (zf2 hc) λt u v h=>by
 unfold LK at h;split at h
 .cases h;exact⟨_,_,rfl,rfl,rfl⟩
 .cases h
theorem ZG:∀{l:List T} {bs:List Bool},De l=some bs->l.length=bs.length/\∀(i:Nat) (t:T),l[i]?=some t->∃b,bs[i]?=some b/\t=.bl b
 |[],bs,h=>by cases h;exact⟨rfl,λi t e=>by simp at e⟩
 |t::r,bs,h=>by
  unfold De at h;cases t with
  |bl b =>
   simp only at h;cases hr:De r with
   |none=>simp only[hr]at h;cases h
   |some l =>
    simp only[hr]at h;cases h;obtain⟨h1,h2⟩:=ZG hr;refine⟨by simp[h1],λi t e=>?_⟩
    cases i with
    |zero=>simp at e;exact⟨b,rfl,e.symm⟩
    |succ i=>exact h2 i t (by simpa using e)
  |_=>cases h
theorem U6{bs:List Bool}{tr:Nat->Bool}(h:∀(i:Nat) (b:Bool),bs[i]?=some b->tr i=b):(List.range bs.length).all tr=bs.all id/\(List.range bs.length).any tr=bs.any id:=by
 have e:(List.range bs.length).map tr=bs:=by
  apply ydd;intro i;rw[ya5]
  by_cases hi:i<bs.length
  .rw[yd0 hi,ya0 hi];simp only[yc2];rw[h i _ (ya0 hi)]
  .rw[ybj (by simp;omega),ybj (by omega)]
   rfl
 constructor
 .have:(List.range bs.length).all tr=((List.range bs.length).map tr).all id:=by rw[ydx];rfl
  rw[this,e]
 .have:(List.range bs.length).any tr=((List.range bs.length).map tr).any id:=by rw[List.any_map];rfl
  rw[this,e]
theorem So(hc:X.calm=true){bs:List Bool}{p:Addr}{E':Value->Shared->Prop}{P:Value->Shared->Prop}{o:Bool}(I:Inv X pins σ H s)(fh:AZ F H)(r1:Rp X.K F F (.nd o .lst l) (.ref p) R0)(hb:De l=some bs)(hP:∀(I0:Addr) (wr fp:List Addr) (St:Nat->Heap->Prop) (PP:Nat->Value->Prop) (tr:Nat->Bool) (s2:Shared),Walks X.prog X.w X.A.in1 I0 fp wr bs.length PP St->St 0 s2.heap->TruthOf X.prog X.w X.A.in1 PP tr->(∀(i:Nat) (b:Bool),bs[i]?=some b->tr i=b) ->
   (∀h' tk,(∀b o,b∉wr->s2.heap.get? b=some o->h'.get? b=some o)->Inv X pins σ H { s2 with heap:=h',toks:=tk })->P (.ref I0) s2):wpAny (model X.prog X.w) X.A.in1 (pyIter (.ref p)) P E' s:=by
 obtain⟨p',ys,e',rfl,n1,k1⟩:=Cg r1;cases e';obtain⟨hlen,hget⟩:=ZG hb;obtain⟨its,rv,pl,hz⟩:=I.list (AY.of (fh _ _ n1):AY X.K H p ys);have hl:=rv.length
 have hne:p≠s.heap.objs.size:=yar (by
  obtain⟨o,n,e,_⟩:=pl;exact yah e)
 have hh:X.A.in1.handled=none:=I.ok.hd hc
 have val:∀(i:Nat) (v:Value),its[i]?=some v->∃b,bs[i]?=some b/\v=.bool b:=λi v hv=>by
  have hi:i<ys.length:=by
   have:=(ya4.mp hv).1
   omega
  have hi2:i<l.length:=by rw[k1.1];exact hi
  obtain⟨b,h1,h2⟩:=hget i _ (ya0 hi2);have rr:=k1.2 i _ _ (ya0 hi2) (ya0 hi);rw[h2]at rr;obtain⟨u,e1,ru⟩:=rv.get (ya0 hi);rw[hv]at e1;cases e1;rw[rr.bl_inv]at ru;exact⟨b,h1,ru⟩
 have hbl:its.toArray.size=bs.length:=by rw[yak,<- hl,<- k1.1,hlen]
 refine yeo pl.isList ?_;have W:=Walks.list (prog:=X.prog) (w:=X.w) hh s.heap.objs.size p hne its.toArray;rw[hbl]at W;refine hP s.heap.objs.size _ _ _ _ (λi=>bs.getD i false) _ W ⟨⟨_,yal _ rfl,rfl,rfl⟩,?_⟩ ?_ ?_ ?_
 .obtain⟨o,ho,hr⟩:=pl.isList;exact⟨o,ya8 _ ho,hr⟩
 .intro i v s' Q' E'' hv hq';obtain⟨b,h1,h2⟩:=val i v (by simpa using hv)
  subst h2;refine yei ?_;have e:bs.getD i false=b:=by rw[yag,h1];rfl
  rw[<- e];exact hq'
 .intro i b hb';show bs.getD i false=b;rw[yag,hb']
  rfl
 .intro h' tk k
  exact I.kept λb o e=>k b o (λz=>by
   rw[yaa]at z;exact absurd (yah e) (by rw[z];exact ybb _)) (ya8 _ e)
theorem zf9(hc:X.calm=true):Bv X (.builtin "all") (DK X.K (g1 Dn)):=by
 intro pins s σ H xs us Q I r h;obtain⟨F,ts,v,fh,rs,e,q⟩:=h;unfold g1 at e;split at e
 .obtain⟨x1,xs1,rfl,r1,rs1⟩:=rs.inv;cases rs1.inv0;unfold Dn at e;split at e
  .split at e
   .cases e;rename_i bs hbs;obtain⟨p,rfl⟩:=r1.ref_inv;obtain⟨u,rfl,ru⟩:=E6 r;cases ru;refine call_all_walk (So hc I fh r1 hbs λI0 wr fp St PP tr s2 W st0 tro htr As=>⟨I0,fp,wr,bs.length,PP,St,tr,rfl,W,st0,tro,λh' tk k=>?_⟩)
    rw[(U6 htr).1];exact⟨.bl _,H,As h' tk k,rfl,q.bl fh⟩
   .cases e
  .cases e
 .cases e
theorem zf8(hc:X.calm=true):Bv X (.builtin "any") (DK X.K (g1 MT)):=by
 intro pins s σ H xs us Q I r h;obtain⟨F,ts,v,fh,rs,e,q⟩:=h;unfold g1 at e;split at e
 .obtain⟨x1,xs1,rfl,r1,rs1⟩:=rs.inv;cases rs1.inv0;unfold MT at e;split at e
  .split at e
   .cases e;rename_i bs hbs;obtain⟨p,rfl⟩:=r1.ref_inv;obtain⟨u,rfl,ru⟩:=E6 r;cases ru;refine call_any_walk (So hc I fh r1 hbs λI0 wr fp St PP tr s2 W st0 tro htr As=>⟨I0,fp,wr,bs.length,PP,St,tr,rfl,W,st0,tro,λh' tk k=>?_⟩)
    rw[(U6 htr).2];exact⟨.bl _,H,As h' tk k,rfl,q.bl fh⟩
   .cases e
  .cases e
 .cases e
theorem XB{p:Addr}{ob:Obj}{c:Value}{A:Around}{Q:Value->Shared->Prop}{E:Value->Shared->Prop}(I:Inv X pins σ H s)(ea:H p=some (.frz ob (.dK kvs)))(e:PySem.W.kitOne X.K (.type "dict") c=some b)(h:∀tk,Q (.bool b) { s with toks:=tk }) :
  wpAny (model X.prog X.w) A (call (.builtin "isinstance") [.ref p,c]) Q E s:=by
 obtain⟨_,_,_,vs,_,q⟩:=(show BQ X.prog X.w H s.heap p (.frz ob (.dK kvs)) from I.hok p _ ea);obtain⟨o,es,ep,h1,h2,_⟩:=q;exact ybh ye9 I.kIn ⟨o,h1,h2.1⟩ e (λz=>nomatch z) h
theorem TC{t:T}{x:V}{a:String}(fh:AZ F H)(r:Rp X.K F F t x R0)(h:KH t=some a):(TyOf X.K H x (.type a)\/a="dict"/\∃p ob kvs,x=.ref p/\H p=some (.frz ob (.dK kvs)))/\a∈["NoneType","bool","int","str","list","tuple","dict"]:=by
 cases t with
 |non=>cases h;rw[r.non_inv];exact⟨.inl .non,by simp⟩
 |bl b=>cases h;rw[r.bl_inv];exact⟨.inl (.bl b),by simp⟩
 |int i=>cases h;rw[r.int_inv];exact⟨.inl (.int i),by simp⟩
 |str y=>cases h;rw[r.str_inv];exact⟨.inl (.str y),by simp⟩
 |nd o k l =>
  obtain⟨p,xs,rfl,_,n,_⟩:=Cg r;cases k with
  |lst=>cases h;exact⟨.inl (.lst (fh _ _ n)),by simp⟩
  |tup=>cases h;exact⟨.inl (.tup (fh _ _ n)),by simp⟩
  |rl=>cases h
  |rt=>cases h
  |pin _=>cases h
 |dic ks l =>
  cases h;cases r with
  |dic h e ek c=>exact⟨.inr ⟨rfl,_,_,_,rfl,fh _ _ h⟩,by simp⟩
 |pdc ks l =>
  cases h;cases r with
  |pdc h e ek c=>exact⟨.inl (.dK (fh _ _ h)),by simp⟩
 |odc ks l=>cases h
 |obj k l=>cases h
 |oob p C fs l=>cases h
 |osd ks l=>cases h
theorem ZE{c:String}:Bv X (.builtin "isinstance") (λxs H Q=>∃x,xs=[x,.ty c]/\DK X.K (g1 (C6 c)) [x] H Q):=by
 intro pins s σ H xs us Q I r h;obtain⟨x,rfl,F,ts,v,fh,rs,e,q⟩:=h;unfold g1 at e;split at e
 .obtain⟨x1,xs1,e1,r1,rs1⟩:=rs.inv;cases e1;unfold C6 at e;split at e
  .rename_i a ha;split at e
   .cases e;rename_i hc;obtain⟨ty,hm⟩:=TC fh r1 ha
    rcases ty with ty|⟨rfl,p,ob,kvs,rfl,hp⟩
    .exact zhb pins s σ H _ us Q I r ⟨x,_,_,rfl,ty,Wu X.K hm hc,q.bl fh⟩
    .obtain⟨u,w',rfl,rx,ry⟩:=Fo r;cases ry;cases rx;exact XB I hp (Wu X.K hm hc) λtk=>⟨.bl _,H,I.tok _,rfl,q.bl fh⟩
   .cases e
  .cases e
 .cases e
def T.isN:T->Bool
 |.non=>true
 |_=>false
noncomputable def T.isB(b:Bool):T->Bool
 |.bl c=>c == b
 |_=>false
def HB(neg:Bool)(t u:T):Option T:=match u with
 |.non=>some (.bl (neg ^^ t.isN))
 |.bl b=>some (.bl (neg ^^ t.isB b))
 |_=>none
theorem Y7{K:kA}{t:T}{x:V}(r:Rp K F H t x A):decide (x=V.non)=t.isN:=by
 cases r<;>simp[T.isN]
theorem Y8{K:kA}{t:T}{x:V}(r:Rp K F H t x A):decide (x=V.bl b)=t.isB b:=by
 cases r<;>simp[T.isB]
 rename_i c;cases c<;>cases b<;>rfl
theorem zmy:A6 X (compareOp .Is) (BS X.K (HB false)):=by
 intro pins s σ H x y v u Q I rx ry h;obtain⟨F,t1,t2,r,fh,r1,r2,e,q⟩:=h;unfold HB at e;split at e
 .cases e;rw[r2.non_inv]at ry;refine zmu pins s σ H _ _ v u Q I rx ry ⟨rfl,?_⟩;rw[Y7 r1];have:=q.bl fh;rw[Bool.false_xor]at this;exact this
 .cases e;rw[r2.bl_inv]at ry;refine zmv pins s σ H _ _ v u Q I rx ry ⟨_,rfl,?_⟩;rw[Y8 r1];have:=q.bl fh;rw[Bool.false_xor]at this;exact this
 .cases e
theorem zed:A6 X (compareOp .IsNot) (BS X.K (HB true)):=by
 intro pins s σ H x y v u Q I rx ry h;obtain⟨F,t1,t2,r,fh,r1,r2,e,q⟩:=h;unfold HB at e;split at e
 .cases e;rw[r2.non_inv]at ry;refine zj1 pins s σ H _ _ v u Q I rx ry ⟨rfl,?_⟩;rw[Y7 r1];have:=q.bl fh;rw[Bool.true_xor]at this;exact this
 .cases e;rw[r2.bl_inv]at ry;refine zj2 pins s σ H _ _ v u Q I rx ry ⟨_,rfl,?_⟩;rw[Y8 r1];have:=q.bl fh;rw[Bool.true_xor]at this;exact this
 .cases e
end
variable {j:Nat}{ps:List Str}
section
variable {K:kA}{b:Expr}
theorem r_isT{c:String}{cn:Str}(hv:bootBuiltins cn=some (.type c))(hg:Gl X "isinstance")(hm:X.mg "isinstance"=none)(hgc:Gl X cn)(hmc:X.mg cn=none)(hn:cn≠"__name__")(hd:(cn == ("__debug__":Str))=false)(ha:PE X e (tM X.K E ca m))(he:starEach [e,.Name cn p2] X.env=(false,eval e X.env)::starEach [.Name cn p2] X.env) :
  PE X (.Call (.Name "isinstance" p) [e,.Name cn p2] [] pos) (tM X.K E ca (BA (g1 (C6 c)) (AB m AD))):=by
 refine PE.weak (Hi (ZE (c:=c)) hg hm yc8 (Cf ha (Cf (Oa (v:=.ty c) hgc hmc hv rfl hn hd) DZ) he) (by decide) (by decide) he rfl) λσ H Q h=>?_
 exact(Ea (FG h)).mono λx H1 h1=>⟨x,rfl,E9 h1⟩
inductive Ru where
 |ok (t:T)|exc (c:Str)
def BJ(K:kA)(ca:Str->Value)(g:List T->Option Ru):Sp:=λvs H Q E=>∃F ts,AZ F H/\A9 K F ts vs/\match g ts with
 |some (.ok v)=>Cn K F H v Q
 |some (.exc c)=>∀F' H',Ext F H F' H' R0->E (ca c) none H'
 |none=>False
def AQ(g:List T->Option Ru)(ms:Ao):AF:=λτ=>match ms τ with
 |some (.v ts b)=>(match g ts with
  |some (.ok v)=>As b v
  |some (.exc c)=>some (.x c)
  |none=>none)
 |some (.x c)=>some (.x c)
 |none=>none
theorem Yz{g:List T->Option Ru}(h:tM K E ca (AQ g ms) σ H Q):Te (BJ K ca g) [] E (CF K E ca ms) σ H Q:=by
 obtain⟨F,τ,R,S,q⟩:=h;refine⟨F,τ,R,S,?_⟩;unfold AQ at q;cases hs:ms τ with
 |none=>simp only[hs]at q<;>exact False.elim q
 |some r =>
  simp only[hs]at q;cases r with
  |x c=>exact q
  |v ts b =>
   intro F1 H1 xs e1 rs;have S1:=S.ext e1;simp only at q;rw[yav];refine⟨Gz b F1 H1 R,ts,QP S1,rs,?_⟩;cases hg:g ts with
   |none=>simp only[hg]at q<;>exact False.elim q
   |some r =>
    simp only[hg]at q;cases r with
    |exc c=>exact λF' H' e2=>q F1 H' (e1.grow e2.hh)
    |ok v =>
     intro F2 H2 z C e2 r2;simp only at q;unfold As at q;cases b with
     |false=>exact q F2 H2 z C (e1.trans0 e2) r2
     |true =>
      cases hf:v.flat with
      |false=>rw[hf]at q;exact False.elim q
      |true=>rw[hf]at q;exact q F1 H2 z R0 (e1.grow e2.hh) (r2.flat_any hf)
theorem zm2{k:Nat}{g:List T->Option Ru}(D:DefX X.prog X.w X.K X.mg X.base k x ps (BJ X.K ca g))(hr:Room j X.A)(hx:BO X E)(ha:PA X (e::es) (CF X.K E ca ms))(hk:k<=j)(hg:Gl X x)(hdb:(x == ("__debug__":Str))=false)(he:starEach (e::es) X.env=(false,eval e X.env)::starEach es X.env)(hpl:(backTo pos (starEach es X.env)).any (·.1)=false):PE X (.Call (.Name x p) (e::es) [] pos) (tM X.K E ca (AQ g ms)):=PE.weak (px D hr hx ha hk hg hdb he hpl) λ_ _ _ h=>Yz h
end
def FA(K:kA)(J:It)(F:Hp)(ts:List T):Prop:=∀(i:Nat) (F' H':Hp),AZ F F'->AZ F' H' ->
 (∀t,ts[i]?=some t->J.go i H'/\∀x H'',J.yld i H' x H''->∃F'',Ext F' H' F'' H'' R0/\Rp K F'' H'' t x R0)/\(i=ts.length->J.stop i H')
def tI(K:kA)(E:L2.St->XK)(ca:Str->Value)(m:Ao):TI:=λσ H P=>∃F τ R,StR K F H σ τ R/\match m τ with
 |some (.v ts _)=>∀F' H' J,Ext F H F' H' R0->FA K J F' ts->P J H'
 |some (.x c)=>∀F' H',Ext F H F' H' R0->E σ (ca c) none H'
 |none=>False
noncomputable def JR:T->Bool
 |.nd _ .lst _=>true
 |.nd _ .rl _=>true
 |.nd _ (.pin _) _=>true
 |_=>false
noncomputable def Ht(m:AF):Ao:=λτ=>match m τ with
 |some (.v (.nd _ k l) false)=>some (.v (Ax l) false)
 |some (.x c)=>some (.x c)
 |_=>none
def EL(lo:Int)(n:Nat):List T:=(List.range n).map λ(i:Nat)=>.int (lo+(i:Int))
def FV(j:Int):Bool:=@decide (-(2 ^ 62)<=j/\j<2 ^ 62) (Classical.propDecidable _)
def MS:List T->Option Int
 |[.int j]=>some j
 |_=>none
def EB(ms:Ao):Ao:=λτ=>match ms τ with
 |some (.v ts _)=>(match MS ts with
  |some j=>if FV j then some (.v (EL 0 j.toNat) false) else none
  |none=>none)
 |r=>r
def Cr:Nat->List T->List T
 |_,[]=>[]
 |i,t::r=>.tup [.int (i:Int),t]::Cr (i+1) r
def MR:List T->Option (List T)
 |[.nd o k l]=>if JR (.nd o k l) then some l else none
 |_=>none
def MQ:List T->Option (List T×List T)
 |[.nd o k l,.nd o' k' m]=>if JR (.nd o k l) && JR (.nd o' k' m) then some (l,m) else none
 |_=>none
def DR(ms:Ao):Ao:=λτ=>match ms τ with
 |some (.v ts false)=>(match MR ts with
  |some l=>some (.v (Cr 0 l) false)
  |none=>none)
 |some (.v _ true)=>none
 |r=>r
def IW(l m:List T):List T:=List.zipWith (λa b=>T.tup [a,b]) l m
def GK(ms:Ao):Ao:=λτ=>match ms τ with
 |some (.v ts false)=>(match MQ ts with
  |some (l,m)=>some (.v (IW l m) false)
  |none=>none)
 |some (.v _ true)=>none
 |r=>r
theorem YV:∀(l:List T) (n i:Nat),(Cr n l)[i]?=(l[i]?).map λt=>T.tup [.int ((n+i:Nat):Int),t]
 |[],n,i=>by simp[Cr]
 |t::r,n,i=>by
  cases i with
  |zero=>simp[Cr]
  |succ i =>
   simp only[Cr,ycj];rw[YV r (n+1) i];have:n+1+i=n+(i+1):=by omega
   rw[this]
theorem zc8(l:List T):∀n,(Cr n l).length=l.length:=by
 induction l with
 |nil=>intro n;rfl
 |cons t r ih=>intro n;simp[Cr,ih]
section
variable {K:kA}{b:Expr}
theorem L9{p:Addr}(n:∀F' H':Hp,AZ F F'->AZ F' H'->AY K H' p xs)(r:A9 K F l xs):FA K (Mh K p) F l:=by
 intro i F' H' s1 s2;have sq:=n F' H' s1 s2;refine⟨λt ht=>?_,λe=>⟨xs,sq,by rw[e,r.1];exact yac _⟩⟩
 have hi:i<xs.length:=by
  have:=(ya4.mp ht).1;have:=r.1
  omega
 refine⟨⟨xs,xs[i],sq,ya0 hi⟩,λx H'' y=>?_⟩
 obtain⟨rfl,y⟩:=y;have hx:=y xs sq;exact⟨F',Ext.refl s2,((r.same s1).2 i t x ht hx).any⟩
theorem Wz{p:Addr}(n:∀F' H':Hp,AZ F F'->AZ F' H'->Bg K H' p xs)(r:A9 K F l xs):FA K (SV K p) F l:=by
 intro i F' H' s1 s2;have sq:=n F' H' s1 s2;refine⟨λt ht=>?_,λe=>⟨xs,sq,by rw[e,r.1];exact yac _⟩⟩
 have hi:i<xs.length:=by
  have:=(ya4.mp ht).1;have:=r.1
  omega
 refine⟨⟨xs,xs[i],sq,ya0 hi⟩,λx H'' y=>?_⟩
 obtain⟨rfl,y⟩:=y;have hx:=y xs sq;exact⟨F',Ext.refl s2,((r.same s1).2 i t x ht hx).any⟩
theorem zeo{lo:Int}:FA K (Mg lo n) F (EL lo n):=by
 intro i F' H' s1 s2;refine⟨λt ht=>?_,λe=>?_⟩
 .unfold EL at ht;rw[ya5]at ht;obtain⟨j,e1,e2⟩:=ya2.mp ht
  have hi:i<n:=by
   have:=(ya4.mp e1).1
   simpa using this
  have hj:i=j:=by rw[yd0 hi]at e1;exact yau e1
  subst hj;subst e2;refine⟨hi,λx H'' y=>?_⟩
  obtain⟨rfl,rfl⟩:=y;exact⟨F',Ext.refl s2,.int _⟩
 .have:n<=i:=by rw[e];simp[EL]
  exact this
theorem zgs{p:Addr}(n:∀F' H':Hp,AZ F F'->AZ F' H'->AY K H' p xs)(r:A9 K F l xs):FA K (SX K p) F (Cr 0 l):=by
 intro i F' H' s1 s2;have sq:=n F' H' s1 s2;refine⟨λt ht=>?_,λe=>⟨xs,sq,by rw[e,zc8,r.1];exact yac _⟩⟩
 rw[YV]at ht;obtain⟨t0,h0,rfl⟩:=ya2.mp ht
 have hi:i<xs.length:=by
  have:=(ya4.mp h0).1;have:=r.1
  omega
 refine⟨⟨xs,xs[i],sq,ya0 hi⟩,λx H'' y=>?_⟩
 obtain⟨q,y0,rfl,hq,rfl,y⟩:=y;have hx:=y xs sq;have e:=Ext.new (o:=.tup [.int i,y0]) s2 hq;refine⟨_,e,A9.of_node (k:=.tup) (xs:=[.int i,y0]) Ba ?_⟩;have e0:((0+i:Nat):Int)=(i:Int):=by simp
 rw[e0];exact .cons (H:=H') (.int _) (.cons (H:=H') (((r.same (s1.trans e.ff)).2 i t0 y0 h0 hx).any) .nil)
theorem zk4{p p2:Addr}{ys:List V}{l2:List T}(n:∀F' H':Hp,AZ F F'->AZ F' H'->AY K H' p xs)(n2:∀F' H':Hp,AZ F F'->AZ F' H'->AY K H' p2 ys)(r:A9 K F l xs)(r2:A9 K F l2 ys):FA K (SU K p p2) F (IW l l2):=by
 intro i F' H' s1 s2;have sq:=n F' H' s1 s2;have sq2:=n2 F' H' s1 s2;have l1:=r.1;have l2':=r2.1;refine⟨λt ht=>?_,λe=>⟨xs,ys,sq,sq2,?_⟩⟩
 .unfold IW at ht;rw[ycr]at ht;cases h1:l[i]? with
  |none=>rw[h1]at ht;cases ht
  |some t1 =>
   cases h2:l2[i]? with
   |none=>rw[h1,h2]at ht;cases ht
   |some t2 =>
    rw[h1,h2]at ht;cases ht;have hi:i<xs.length:=by have:=(ya4.mp h1).1;omega
    have hi2:i<ys.length:=by have:=(ya4.mp h2).1;omega
    refine⟨⟨xs,xs[i],ys,ys[i],sq,ya0 hi,sq2,ya0 hi2⟩,λx H'' y=>?_⟩
    obtain⟨q,y0,z0,rfl,hq,rfl,y,z⟩:=y;have hx:=y xs sq;have hy:=z ys sq2;have e:=Ext.new (o:=.tup [y0,z0]) s2 hq;refine⟨_,e,A9.of_node (k:=.tup) (xs:=[y0,z0]) Ba ?_⟩;exact .cons (H:=H') (((r.same (s1.trans e.ff)).2 i t1 y0 h1 hx).any) (.cons (H:=H') (((r2.same (s1.trans e.ff)).2 i t2 z0 h2 hy).any) .nil)
 .have:i=min l.length l2.length:=by rw[e];simp[IW]
  omega
theorem PI.weak{t t':TI}(h:PI X tg e t)(w:∀σ H P,t' σ H P->t σ H P):PI X tg e t':=λpins s σ H P I q=>h pins s σ H P I (w σ H P q)
theorem PI.or{t t':TI}(h:PI X tg e t)(h':PI X tg e t'):PI X tg e (λσ H P=>t σ H P\/t' σ H P):=λpins s σ H P I q=>q.elim (h pins s σ H P I) (h' pins s σ H P I)
theorem Ui(ha:PE X e (tM X.K E ca m)):PI X tg e (tI X.K E ca (Ht m)):=by
 refine PI.weak (PI.or (zir ha) (zmf ha)) λσ H P h=>?_
 obtain⟨F,τ,R,S,q⟩:=h;unfold Ht at q
 have key:∀{o:Bool} {k:Kd} {l:List T},m τ=some (.v (.nd o k l) false)->(∀F' H' J,Ext F H F' H' R0->FA X.K J F' (Ax l)->P J H')->∀F1 H1 x B,Ext F H F1 H1 B->Ct X.K F1 H1 R (.nd o k l) false x B->∃(F2:Hp) (p:Addr) (xs:List V),x=.ref p/\Ext F H F2 H1 R0/\Ey X.K F2 k p xs/\A9 X.K F2 (Ax l) xs:=by
  intro o k l hm q F1 H1 x B e1 g1;obtain⟨F2,e2,_,r2⟩:=Ct.frz (b:=false) S e1 g1;have r2':Rp X.K F2 F2 (T.nd o k l).share x R0:=r2;rw[T.share]at r2';obtain⟨p,xs,rfl,_,n,kd⟩:=Cg r2';exact⟨F2,p,xs,rfl,e2,n,kd⟩
 cases hm:m τ with
 |none=>simp only[hm]at q<;>exact False.elim q
 |some r =>
  simp only[hm]at q;cases r with
  |x c=>exact .inl ⟨F,τ,R,S,by rw[hm];exact q⟩
  |v t bb =>
   cases t with
   |nd o k l =>
    cases bb with
    |true=>exact q.elim
    |false =>
     simp only at q;cases k with
     |lst =>
      refine .inl ⟨F,τ,R,S,?_⟩;rw[hm];intro F1 H1 x B e1 g1;obtain⟨F2,p,xs,rfl,e2,n,kd⟩:=key hm q F1 H1 x B e1 g1;exact⟨p,rfl,⟨xs,AY.of (e2.fh _ _ n)⟩,q F2 H1 _ e2 (L9 (λF' H' s1 s2=>AY.of (s2 _ _ (s1 _ _ n))) kd)⟩
     |pin _ =>
      refine .inl ⟨F,τ,R,S,?_⟩;rw[hm];intro F1 H1 x B e1 g1;obtain⟨F2,p,xs,rfl,e2,n,kd⟩:=key hm q F1 H1 x B e1 g1;exact⟨p,rfl,⟨xs,AY.of (e2.fh _ _ n)⟩,q F2 H1 _ e2 (L9 (λF' H' s1 s2=>AY.of (s2 _ _ (s1 _ _ n))) kd)⟩
     |rl =>
      refine .inl ⟨F,τ,R,S,?_⟩;rw[hm];intro F1 H1 x B e1 g1;obtain⟨F2,p,xs,rfl,e2,n,kd⟩:=key hm q F1 H1 x B e1 g1;exact⟨p,rfl,⟨xs,e2.fh.seq n⟩,q F2 H1 _ e2 (L9 (λF' H' s1 s2=>s2.seq (s1.seq n)) kd)⟩
     |tup =>
      refine .inr ⟨F,τ,R,S,?_⟩;rw[hm];intro F1 H1 x B e1 g1;obtain⟨F2,p,xs,rfl,e2,n,kd⟩:=key hm q F1 H1 x B e1 g1;exact⟨p,rfl,⟨xs,Bg.of (e2.fh _ _ n)⟩,q F2 H1 _ e2 (Wz (λF' H' s1 s2=>Bg.of (s2 _ _ (s1 _ _ n))) kd)⟩
     |rt =>
      refine .inr ⟨F,τ,R,S,?_⟩;rw[hm];intro F1 H1 x B e1 g1;obtain⟨F2,p,xs,rfl,e2,n,kd⟩:=key hm q F1 H1 x B e1 g1;exact⟨p,rfl,⟨xs,Ft e2.fh n⟩,q F2 H1 _ e2 (Wz (λF' H' s1 s2=>Ft s2 (Ft s1 n)) kd)⟩
   |_=>exact q.elim
theorem NQ{f:(Ao)->Ao}{P:It->Hp->Prop}{W:List V->Hp->Prop}(hx:∀τ c,ms τ=some (.x c)->f ms τ=some (.x c))(hn:∀τ,ms τ=none->f ms τ=none)
  (hv : ∀ F τ R ts b, StR K F H σ τ R -> ms τ = some (.v ts b) -> (match f ms τ with
   |some (.v us _)=>∀F' H' J,Ext F H F' H' R0->FA K J F' us->P J H'
   |some (.x c)=>∀F' H',Ext F H F' H' R0->E σ (ca c) none H'
   |none=>False)->∀F' H' xs,Ext F H F' H' R0->A9 K (Gz b F' H' R) ts xs->W xs H') (h:tI K E ca (f ms) σ H P):CF K E ca ms σ H W:=by
 obtain⟨F,τ,R,S,q⟩:=h;refine⟨F,τ,R,S,?_⟩;cases hm:ms τ with
 |none=>rw[hn τ hm]at q;exact q.elim
 |some r =>
  cases r with
  |x c=>rw[hx τ c hm]at q;exact q
  |v ts b=>exact λF' H' xs e rs=>hv F τ R ts b S hm q F' H' xs e rs
theorem zgh{j:Int}(h:FV j=true):-(2 ^ 62)<=j/\j<2 ^ 62:=@of_decide_eq_true _ (Classical.propDecidable _) h
theorem zg0(hg:Gl X "range")(hm:X.mg "range"=none)(ha:PA X [a] (CF X.K E ca ms))(hs:starEach [a] X.env=[(false,eval a X.env)]):PI X tg (.Call (.Name "range" p) [a] [] pos) (tI X.K E ca (EB ms)):=by
 refine PI.weak (zea hg hm ha hs) λσ H P h=>?_
 refine NQ (f:=EB) (λτ c e=>by unfold EB;rw[e]) (λτ e=>by unfold EB;rw[e]) (λF τ R ts b S e q F' H' xs e1 rs=>?_) h
 unfold EB at q;rw[e]at q;simp only at q;cases h1:MS ts with
 |none=>simp only[h1]at q<;>exact False.elim q
 |some j =>
  simp only[h1]at q
  by_cases hj:FV j=true
  .simp only[hj,yet]at q;obtain⟨g1,g2⟩:=zgh hj;unfold MS at h1;split at h1
   .cases h1;obtain⟨x1,xs1,rfl,r1,rs1⟩:=rs.inv;cases rs1.inv0;rw[r1.int_inv];exact⟨j,rfl,g1,g2,q F' H' _ e1 zeo⟩
   .cases h1
  .simp only[hj]at q;exact q.elim
theorem QI{o:Bool}{k:Kd}{x:V}(h:JR (.nd o k l)=true)(r:Rp K F F (.nd o k l) x R0):∃p xs,x=.ref p/\(∀F' H':Hp,AZ F F'->AZ F' H'->AY K H' p xs)/\A9 K F l xs:=by
 obtain⟨p,xs,rfl,_,n,kd⟩:=Cg r;refine⟨p,xs,rfl,λF' H' s1 s2=>?_,kd⟩
 cases k with
 |lst=>exact AY.of (s2 _ _ (s1 _ _ n))
 |rl=>exact s2.seq (s1.seq n)
 |tup=>cases h
 |rt=>cases h
 |pin q=>exact AY.of (s2 _ _ (s1 _ _ n))
theorem Uj(hg:Gl X "enumerate")(hm:X.mg "enumerate"=none)(ha:PA X [a] (CF X.K E ca ms))(hs:starEach [a] X.env=[(false,eval a X.env)]):PI X (.Tuple elts kk tpos) (.Call (.Name "enumerate" p) [a] [] pos) (tI X.K E ca (DR ms)):=by
 refine PI.weak (zis hg hm ha hs) λσ H P h=>?_
 refine NQ (f:=DR) (λτ c e=>by unfold DR;rw[e]) (λτ e=>by unfold DR;rw[e]) (λF τ R ts b S e q F' H' xs e1 rs=>?_) h
 unfold DR at q;rw[e]at q;cases b with
 |true=>exact q.elim
 |false =>
  simp only at q;cases h1:MR ts with
  |none=>simp only[h1]at q<;>exact False.elim q
  |some l =>
   simp only[h1]at q;unfold MR at h1;split at h1
   .split at h1
    .cases h1;rename_i hL;obtain⟨x1,xs1,rfl,r1,rs1⟩:=rs.inv;cases rs1.inv0;obtain⟨p',ys,rfl,sq,kd⟩:=QI hL r1;exact⟨p',rfl,⟨ys,sq F' H' (.refl _) e1.fh⟩,q F' H' _ e1 (zgs sq kd)⟩
    .cases h1
   .cases h1
theorem r_zip(hg:Gl X "zip")(hm:X.mg "zip"=none)(ha:PA X [a,b] (CF X.K E ca ms))(hs:starEach [a,b] X.env=[(false,eval a X.env),(false,eval b X.env)])(hs2:starEach [b] X.env=[(false,eval b X.env)]):PI X (.Tuple elts kk tpos) (.Call (.Name "zip" p) [a,b] [] pos) (tI X.K E ca (GK ms)):=by
 refine PI.weak (zme hg hm ha hs hs2) λσ H P h=>?_
 refine NQ (f:=GK) (λτ c e=>by unfold GK;rw[e]) (λτ e=>by unfold GK;rw[e]) (λF τ R ts b S e q F' H' xs e1 rs=>?_) h
 unfold GK at q;rw[e]at q;cases b with
 |true=>exact q.elim
 |false =>
  simp only at q;cases h1:MQ ts with
  |none=>simp only[h1]at q<;>exact False.elim q
  |some lm =>
   obtain⟨l,m'⟩:=lm;simp only[h1]at q;unfold MQ at h1;split at h1
   .split at h1
    .cases h1;rename_i hL;rw[ya3]at hL;obtain⟨x1,xs1,rfl,r1,rs1⟩:=rs.inv;obtain⟨x2,xs2,rfl,r2,rs2⟩:=rs1.inv;cases rs2.inv0;obtain⟨p',ys,rfl,sq,kd⟩:=QI hL.1 r1;obtain⟨p2,zs,rfl,sq2,kd2⟩:=QI hL.2 r2;exact⟨p',p2,rfl,⟨ys,sq F' H' (.refl _) e1.fh⟩,⟨zs,sq2 F' H' (.refl _) e1.fh⟩,q F' H' _ e1 (zk4 sq sq2 kd kd2)⟩
    .cases h1
   .cases h1
end
theorem StR.set{K:kA}{F H:Hp}{σ:L2.St}{τ:AO}{R:Nat->Rg}(S:StR K F H σ τ R){i:Nat}{t:T}{x:V}{A:Rg}(r:Rp K F H t x A)(d:∀j a,j≠i->R j a->¬ A a)(hi:i<τ.length) :
  StR K F H (σ.set i (some x)) (τ.set i (some t)) (λj=>if j=i then A else R j):=by
 have hl:=S.len;refine⟨S.fh,by simp[hl],λj t' e=>?_,λj a z=>?_,λj k a hjk z1 z2=>?_⟩
 .by_cases hj:j=i
  .subst hj;rw[yap hi]at e;cases e;exact⟨x,yap (by omega),by simpa using r⟩
  .rw[yan (yay hj)]at e ⊢;obtain⟨y,e1,r1⟩:=S.rep j t' e;exact⟨y,e1,by simpa[hj] using r1⟩
 .by_cases hj:j=i
  .subst hj;exact⟨t,yap hi⟩
  .simp only[hj,yeu]at z;obtain⟨t',e⟩:=S.out j a z;exact⟨t',by rw[yan (yay hj)];exact e⟩
 .by_cases hj:j=i
  .simp only[hj,yet]at z1;have hk:¬ k=i:=λz=>hjk (hj.trans z.symm)
   simp only[hk,yeu]at z2;exact d k a hk z2 z1
  .simp only[hj,yeu]at z1
   by_cases hk:k=i
   .simp only[hk,yet]at z2;exact d j a hj z1 z2
   .simp only[hk,yeu]at z2;exact S.dis j k a hjk z1 z2
def Dh(K:kA)(b:T->AO->Option AO):TG:=λv σ H Q=>∃F τ R t τ',StR K F H σ τ R/\Rp K F H t v R0/\b t τ=some τ'/\∀σ' R',StR K F H σ' τ' R'->(∀i a,R' i a->R i a)->Q σ' H
def Gc(K:kA)(b:List T->AO->Option AO):Et:=λvs σ H Q=>∃F τ R ts τ',StR K F H σ τ R/\A9 K F ts vs/\b ts τ=some τ'/\∀σ' R',StR K F H σ' τ' R'->(∀i a,R' i a->R i a)->Q σ' H
def AG(i:Nat):T->AO->Option AO:=λt τ=>if i<τ.length then some (τ.set i (some t)) else none
def Bi:List T->AO->Option AO
 |[],τ=>some τ
 |_::_,_=>none
def Am(b:T->AO->Option AO)(bs:List T->AO->Option AO):List T->AO->Option AO
 |t::ts,τ=>(match b t τ with
  |some τ'=>bs ts τ'
  |none=>none)
 |[],_=>none
def Bf(n:Nat)(bs:List T->AO->Option AO):T->AO->Option AO
 |.nd _ .tup l,τ=>if l.length=n then bs l τ else none
 |.nd _ .rt l,τ=>if l.length=n then bs l τ else none
 |.nd _ .lst l,τ=>if l.length=n then bs l τ else none
 |_,_=>none
theorem zmi{k:Nat}{t:Et}(hc:X.calm=true)(h:DV X es t)(hn:(assignEach es X.env).length=n)(hst:(assignEach es X.env).findIdx? (·.1)=none):PG X (.Tuple es k pos) (λv σ H Q=>Q3 X.K n t v σ H Q\/∃a xs,v=.ref a/\AY X.K H a xs/\xs.length=n/\t xs σ H Q):=by
 intro pins s σ H v u Q I r hw
 rcases hw with hw|⟨a,xs,e1,hq,hl,hw⟩
 .exact zmh hc h hn hst pins s σ H v u Q I r hw
 .subst e1;cases r;obtain⟨its,rv,⟨o,m,ho,hcl,_,hd⟩,hz⟩:=I.list hq;rw[assign_Tuple];refine yek (yem ?_);unfold unpack;rw[hst,hn,show n=its.toArray.size by simp[<- hl,rv.length]]
  refine yek (yel (PySem.W.kun_itemsOf (I.ok.hd hc) ⟨o,ho,hcl,m,hd⟩ λh' hx=>?_))
  have I1:Inv X pins σ H { s with heap:=h' }:=I.kept (t':=s.toks) λb o e=>hx b o (yar (yah e)) e
  exact h pins _ σ H xs _ Q I1 (by simpa using rv) hw
section
variable {b:T->AO->Option AO}{bs:List T->AO->Option AO}
theorem PG.weak{t t':TG}(h:PG X e t)(w:∀v σ H Q,t' v σ H Q->t v σ H Q):PG X e t':=λpins s σ H v u Q I r q=>h pins s σ H v u Q I r (w v σ H Q q)
theorem DV.weak{t t':Et}(h:DV X es t)(w:∀v σ H Q,t' v σ H Q->t v σ H Q):DV X es t':=λpins s σ H v u Q I r q=>h pins s σ H v u Q I r (w v σ H Q q)
theorem g_nm(hN:X.N.Nodup)(hi:X.N[i]?=some x)(hx:GY X.env.scope x)(hf:X.fn x=true\/X.env.scope.names.lookup x=some .local):PG X (.Name x pos) (Dh X.K (AG i)):=by
 refine PG.weak (VB hN hi hx hf) λv σ H Q h=>?_
 obtain⟨F,τ,R,t,τ',S,r,e,q⟩:=h;unfold AG at e;split at e
 .cases e;rename_i hl;refine q _ _ (S.set r (λ_ _ _ _ z=>z.elim) hl) λj a z=>?_
  by_cases hj:j=i
  .simp only[hj,yet]at z;exact z.elim
  .simpa[hj] using z
 .cases e
theorem g_nil:DV X [] (Gc X.K Bi):=DV.weak zit λv σ H Q h=>by
 obtain⟨F,τ,R,ts,τ',S,r,e,q⟩:=h;cases ts with
 |nil=>cases e;exact⟨r.inv0,q σ R S λ_ _ z=>z⟩
 |cons _ _=>cases e
theorem znx(h1:PG X e (Dh X.K b))(h2:DV X es (Gc X.K bs))(hs:(assignEach (e::es) X.env).map (·.2)=assign e X.env::(assignEach es X.env).map (·.2)):DV X (e::es) (Gc X.K (Am b bs)):=by
 refine DV.weak (zg9 h1 h2 hs) λv σ H Q h=>?_
 obtain⟨F,τ,R,ts,τ',S,r,e,q⟩:=h;cases ts with
 |nil=>cases e
 |cons t ts =>
  obtain⟨x,xs,rfl,r1,rs⟩:=r.inv;unfold Am at e;simp only at e;cases hb:b t τ with
  |none=>rw[hb]at e;cases e
  |some τ1 =>
   rw[hb]at e;exact⟨x,xs,rfl,F,τ,R,t,τ1,S,r1.any,hb,λσ1 R1 S1 w1=>⟨F,τ1,R1,ts,τ',S1,rs,e,λσ2 R2 S2 w2=>q σ2 R2 S2 λi a z=>w1 i a (w2 i a z)⟩⟩
theorem g_tup{k:Nat}(hc:X.calm=true)(h:DV X es (Gc X.K bs))(hn:(assignEach es X.env).length=n)(hst:(assignEach es X.env).findIdx? (·.1)=none):PG X (.Tuple es k pos) (Dh X.K (Bf n bs)):=by
 refine PG.weak (zmi hc h hn hst) λv σ H Q h=>?_
 obtain⟨F,τ,R,t,τ',S,r,e,q⟩:=h
 have key:∀{o:Bool} {kd:Kd} {l:List T},t=.nd o kd l->(kd=.tup\/kd=.rt\/kd=.lst)->(if l.length=n then bs l τ else none)=some τ'->(Q3 X.K n (Gc X.K bs) v σ H Q\/∃a xs,v=.ref a/\AY X.K H a xs/\xs.length=n/\Gc X.K bs xs σ H Q):=by
  intro o kd l et hk e';subst et;split at e'
  .rename_i hl;obtain⟨p,xs,rfl,_,nn,kid⟩:=Cg (r.any (H':=F));have hx:xs.length=n:=by rw[<- kid.1];exact hl
   rcases hk with rfl|rfl|rfl
   .exact .inl ⟨p,xs,rfl,Bg.of (S.fh _ _ nn),hx,F,τ,R,l,τ',S,kid,e',q⟩
   .exact .inl ⟨p,xs,rfl,Ft S.fh nn,hx,F,τ,R,l,τ',S,kid,e',q⟩
   .exact .inr ⟨p,xs,rfl,AY.of (S.fh _ _ nn),hx,F,τ,R,l,τ',S,kid,e',q⟩
  .cases e'
 unfold Bf at e;split at e
 .exact key rfl (.inl rfl) e
 .exact key rfl (.inr (.inl rfl)) e
 .exact key rfl (.inr (.inr rfl)) e
 .cases e
end
def E5:L2.St->XK:=λ_=>E0
noncomputable def Bd(b:T->AO->Option AO)(mt me:AF):List T->AO->Option (List T)
 |[],_=>some []
 |t::ts,τ=>(match b t τ with
  |some τ1=>(match mt τ1 with
   |some (.v (.bl true) _)=>(match me τ1 with
    |some (.v v false)=>(match Bd b mt me ts τ1 with
     |some l=>some (v::l)
     |none=>none)
    |_=>none)
   |some (.v (.bl false) _)=>Bd b mt me ts τ1
   |_=>none)
  |none=>none)
noncomputable def F6(b:T->AO->Option AO)(mt me:AF):List T->AO->Option Str
 |[],_=>none
 |t::ts,τ=>(match b t τ with
  |some τ1=>(match mt τ1 with
   |some (.v (.bl true) _)=>(match me τ1 with
    |some (.v _ false)=>F6 b mt me ts τ1
    |some (.x c)=>some c
    |_=>none)
   |some (.v (.bl false) _)=>F6 b mt me ts τ1
   |some (.x c)=>some c
   |_=>none)
  |none=>none)
noncomputable def II(τ:AO)(j:Nat):Option T:=match τ[j]? with
 |some (some t)=>if t.sh then some t else none
 |_=>none
def blk(n:Nat)(caps:List Nat)(τ:AO):AO:=List.replicate n none++caps.map (II τ)
noncomputable def MK(σ:L2.St)(j:Nat):Option V:=match σ[j]? with
 |some (some v)=>some v
 |_=>none
def EF(n:Nat)(caps:List Nat)(σ:L2.St):L2.St:=List.replicate n none++caps.map (MK σ)
def BX(n:Nat)(caps:List Nat)(mi:Ao)(b:T->AO->Option AO)(mt me:AF):AF:=λτ=>match mi τ with
 |some (.v ts _)=>if ts.length<=BL then (match Bd b mt me ts (blk n caps τ) with
  |some l=>some (.v (.own l) false)
  |none=>(match F6 b mt me ts (blk n caps τ) with
   |some c=>some (.x c)
   |none=>none)) else none
 |some (.x c)=>some (.x c)
 |none=>none
theorem zo7{K:kA}(S:StR K F H σ τ R)(n:Nat)(caps:List Nat):StR K F H (EF n caps σ) (blk n caps τ) (λ_=>R0):=by
 refine⟨S.fh,by simp[EF,blk],λi t e=>?_,λ_ _ z=>z.elim,λ_ _ _ _ z=>z.elim⟩
 unfold blk at e;unfold EF
 by_cases hi:i<n
 .rw[yb0 (by simpa using hi),yd8,if_pos hi]at e
  cases e
 .rw[yb5 (by simp;omega),ya5]at e ⊢
  simp only[ydq]at e ⊢;cases hc:caps[i - n]? with
  |none=>rw[hc]at e;cases e
  |some j =>
   rw[hc]at e;simp only[yc2]at e ⊢;have e':II τ j=some t:=yau e;unfold II at e';split at e'
   .rename_i t' ht;split at e'
    .cases e';rename_i hs;obtain⟨x,ex,r⟩:=S.rep j _ ht;refine⟨x,?_,r.move hs (.refl _)⟩;unfold MK;rw[ex]
    .cases e'
   .cases e'
variable {Rr:Nat->Rg}
theorem Tt{a:Addr}(h:tot (λj=>if j=l.length then B else Rr j) a):tot Rr a\/B a:=by
 obtain⟨j,z⟩:=h
 by_cases hj:j=l.length
 .simp only[hj,yet]at z;exact .inr z
 .simp only[hj,yeu]at z;exact .inl ⟨j,z⟩
variable {me:AF}
section
variable {K:kA}{caps:List Nat}{mi:Ao}{b:T->AO->Option AO}{mt:AF}
theorem zek{t:T}{us l2:List T}{τ1:AO}(h:Bd b mt me (t::us) τ1=some l2):∃τ2,b t τ1=some τ2/\((∃bt,mt τ2=some (.v (.bl false) bt)/\Bd b mt me us τ2=some l2)\/∃bt w l3,mt τ2=some (.v (.bl true) bt)/\me τ2=some (.v w false)/\Bd b mt me us τ2=some l3/\l2=w::l3):=by
 unfold Bd at h;split at h
 .rename_i τ2 hb;refine⟨τ2,hb,?_⟩;split at h
  .rename_i bt ht;split at h
   .rename_i w hw;split at h
    .rename_i l3 h3;cases h;exact .inr ⟨bt,w,l3,ht,hw,h3,rfl⟩
    .cases h
   .cases h
  .rename_i bt ht;exact .inl ⟨bt,ht,h⟩
  .cases h
 .cases h
theorem zgm{t:T}{us:List T}{c:Str}{τ1:AO}(h:F6 b mt me (t::us) τ1=some c):∃τ2,b t τ1=some τ2/\((∃bt,mt τ2=some (.v (.bl false) bt)/\F6 b mt me us τ2=some c)\/(∃bt,mt τ2=some (.v (.bl true) bt)/\((∃w,me τ2=some (.v w false)/\F6 b mt me us τ2=some c)\/me τ2=some (.x c)))\/mt τ2=some (.x c)):=by
 unfold F6 at h;split at h
 .rename_i τ2 hb;refine⟨τ2,hb,?_⟩;split at h
  .rename_i bt ht;split at h
   .rename_i w hw;exact .inr (.inl ⟨bt,ht,.inl ⟨w,hw,h⟩⟩)
   .rename_i c' hw;cases h;exact .inr (.inl ⟨bt,ht,.inr hw⟩)
   .cases h
  .rename_i bt ht;exact .inl ⟨bt,ht,h⟩
  .rename_i c' ht;cases h;exact .inr (.inr ht)
  .cases h
 .cases h
theorem T7(h:tM K E ca (BX n caps mi b mt me) σ H Q):KR (EF n caps) (tI K E ca mi) (Dh K b) (Az K (λ_=>E σ) ca mt) (tM K (λ_=>E σ) ca me) σ H Q:=by
 obtain⟨F,τ,R,S,q⟩:=h;refine⟨F,τ,R,S,?_⟩;unfold BX at q;cases hi:mi τ with
 |none=>simp only[hi]at q<;>exact False.elim q
 |some r =>
  simp only[hi]at q;cases r with
  |x c=>exact q
  |v ts bb =>
   intro F1 H1 J e1 its
   by_cases hz':¬ ts.length<=BL
   .simp only[hz',yeu]at q<;>exact False.elim q
   have hz:ts.length<=BL:=Decidable.not_not.mp hz';simp only[hz,yet]at q
   obtain⟨G,g1,g0,gs⟩:∃G:List T->AO->List T->Prop,(∀t us τ1 l,G (t::us) τ1 l->∃τ2,b t τ1=some τ2/\((∃bt,mt τ2=some (.v (.bl false) bt)/\G us τ2 l)\/(∃bt,mt τ2=some (.v (.bl true) bt)/\((∃w,me τ2=some (.v w false)/\G us τ2 (l++[w]))\/∃c,me τ2=some (.x c)/\∀F' H',Ext F H F' H' R0->E σ (ca c) none H'))\/∃c,mt τ2=some (.x c)/\∀F' H',Ext F H F' H' R0->E σ (ca c) none H')) /\
     (∀τ1 l,G [] τ1 l->∀F' H' x B,Ext F H F' H' B->Rp K F' H' (.own l) x B->Q x H')/\G ts (blk n caps τ) []:=by
    cases hg:Bd b mt me ts (blk n caps τ) with
    |some res =>
     simp only[hg]at q;refine⟨λus τ1 l=>∃l2,Bd b mt me us τ1=some l2/\l++l2=res,λt us τ1 l z=>?_,λτ1 l z=>?_,res,hg,rfl⟩
     .obtain⟨l2,z,e⟩:=z;obtain⟨τ2,y,w|⟨bt,w,l3,y1,y2,y3,rfl⟩⟩:=zek z
      .obtain⟨bt,w1,w2⟩:=w;exact⟨τ2,y,.inl ⟨bt,w1,l2,w2,e⟩⟩
      .exact⟨τ2,y,.inr (.inl ⟨bt,y1,.inl ⟨w,y2,l3,y3,by simpa using e⟩⟩)⟩
     .obtain⟨l2,z,e⟩:=z;cases z;rw[yav]at e;subst e;exact q
    |none =>
     simp only[hg]at q;cases hx:F6 b mt me ts (blk n caps τ) with
     |none=>simp only[hx]at q<;>exact False.elim q
     |some c =>
      simp only[hx]at q;refine⟨λus τ1 l=>F6 b mt me us τ1=some c,λt us τ1 l z=>?_,λτ1 l z=>(by cases z),hx⟩
      obtain⟨τ2,y,w|⟨bt,y1,⟨w,y2,y3⟩|y2⟩|w⟩:=zgm z
      .exact⟨τ2,y,.inl w⟩
      .exact⟨τ2,y,.inr (.inl ⟨bt,y1,.inl ⟨w,y2,y3⟩⟩)⟩
      .exact⟨τ2,y,.inr (.inl ⟨bt,y1,.inr ⟨c,y2,q⟩⟩)⟩
      .exact⟨τ2,y,.inr (.inr ⟨c,w,q⟩)⟩
   have S1:=S.ext e1;refine⟨λi ys st H'=>∃(F':Hp) (τ':AO) (l:List T) (Rr:Nat->Rg),Ext F1 H1 F' H' (tot Rr)/\RpO K F' H' l ys Rr/\StR K F' H' st τ' (λ_=>R0)/\i<=ts.length/\G (ts.drop i) τ' l/\l.length<=i,ts.length,by rw[<- Dl];exact hz,?_,?_⟩
   .exact⟨F1,blk n caps τ,[],λ_=>R0,(Ext.refl S1.fh).mono λa ⟨_,z⟩=>z.elim,.nil,zo7 S1 n caps,yaz _,gs,yac _⟩
   .rintro i ys st H' ⟨F',τ',l,Rr,e2,ro,S2,hle,hgo,hll⟩;have hly:=ro.len;refine⟨by omega,hle,?_⟩
    obtain⟨i1,i2⟩:=its i F' H' e2.ff e2.fh
    by_cases hlt:i<ts.length
    .refine .inr ⟨hlt,?_⟩;obtain⟨go,yld⟩:=i1 _ (ya0 hlt);refine⟨go,λx H'' y=>?_⟩
     obtain⟨F'',e3,rx⟩:=yld x H'' y;have S3:=S2.ext e3;rw[ycf hlt]at hgo;obtain⟨τ1,hb,hgo⟩:=g1 _ _ _ _ hgo;refine⟨F'',τ',_,ts[i],τ1,S3,rx,hb,λst1 R1 S4 hR1=>?_⟩
     have R1e:R1=λ_=>R0:=funext λj=>funext λa=>propext ⟨λz=>hR1 j a z,λz=>z.elim⟩
     subst R1e;refine⟨F'',τ1,_,S4,?_⟩;have eX:∀{c:Str},(∀F' H',Ext F H F' H' R0->E σ (ca c) none H')->∀F' H',Ext F'' H'' F' H' R0->E σ (ca c) none H':=λz F' H' e=>z F' H' (((e1.trans0 e2).trans (e3.trans0 e)).mono λ_ z=>z.elim)
     rcases hgo with ⟨bt,ht,hgo⟩|⟨bt,ht,hgo⟩|⟨c,ht,hX⟩
     .rw[ht];intro F4 H4 e4;exact Lb ⟨F4,τ1,l,Rr,(e2.trans ((e3.trans0 e4).mono λ_ z=>z)).mono λa z=>.inl z,(ro.ext e3).ext e4,S4.ext e4,hlt,hgo,by omega⟩
     .rw[ht];intro F4 H4 e4;have S5:=S4.ext e4;have e24:=e2.trans ((e3.trans0 e4).mono λ_ z=>z)
      refine La ⟨F4,τ1,_,S5,?_⟩
      rcases hgo with ⟨ve,he,hgo⟩|⟨c,he,hX⟩
      .rw[he];intro F5 H5 y B e5 ry;have ry':Rp K F5 H5 ve y B:=ry;have ro4:=(ro.ext e3).ext e4;have ro5:=ro4.ext e5;refine⟨F5,τ1,l++[ve],_,(e24.trans e5).mono ?_,ro5.snoc ry' (λj a z1 z2=>ro4.apart e5 z2 j z1),S5.ext e5,hlt,hgo,by simp;omega⟩
       intro a z
       rcases Tt z with z|z
       .exact .inl (.inl z)
       .exact .inr z
      .rw[he];exact λF' H' e=>eX hX F' H' (e4.trans0 e)
     .rw[ht];exact eX hX
    .have hi':i=ts.length:=by omega
     subst hi';refine .inl ⟨i2 rfl,λp hp=>?_⟩
     rw[List.drop_length]at hgo;obtain⟨rl,e3⟩:=ro.list e2.fh hp;refine g0 _ _ hgo F' _ _ _ (((e1.trans0 e2).trans e3).mono ?_) rl;rintro a (z|⟨j,z⟩)
     .exact .inr z
     .exact .inl ⟨j,z⟩
structure BlkOk(X:Cx)(scope:Scope)(N':List Str)(n:Nat)(caps:List Nat):Prop where
 kind:scope.kind=.function
 names:∀y∈scope.names,y.2=.local->scope.names.lookup y.1=some .local
 len:N'.length=n+caps.length
 cap:∀(k j:Nat),caps[k]?=some j->∃y,X.N[j]?=some y/\N'[n+k]?=some y/\scope.names.lookup y=some .free/\(y,NameKind.cell)∉scope.names
 free:∀y∈scope.names,y.2=.free->scope.names.lookup y.1=some .free/\(X.env.scope.names.lookup y.1=some .cell\/X.env.scope.names.lookup y.1=some .free)
theorem Pm{env:Env}(y:Str):∀(names:List (Str×NameKind)),(names.map λ(n,k)=>if (k == NameKind.free && env.scope.kind == .function && env.kindOf n == some .cell) then (n,NameKind.cell) else (n,k)).lookup y =
  (names.lookup y).map λk=>if (k == NameKind.free && env.scope.kind == .function && env.kindOf y == some .cell) then .cell else k
 |[]=>rfl
 |(n,k)::r=>by
  rw[yae];cases hy:y == n with
  |true =>
   have e:y=n:=eq_of_beq hy;subst e
   by_cases hc:(k == NameKind.free && env.scope.kind == .function && env.kindOf y == some .cell)=true
   .simp only[hc,yet,yb3,yf8,yc2]
   .simp only[hc,yb3,yf8,yc2];simp
  |false =>
   by_cases hc:(k == .free && env.scope.kind == .function && env.kindOf n == some .cell)=true
   .simp only[hc,yet,yb3,hy];exact Pm y r
   .simp only[hc,yb3,hy];simp only[yca,yeu,yb3,hy];exact Pm y r
theorem Kp(scope:Scope)(env:Env)(y:Str):(relabel scope env).names.lookup y=(scope.names.lookup y).map λk=>if (k == NameKind.free && env.scope.kind == .function && env.kindOf y == some .cell) then .cell else k:=Pm y scope.names
theorem Pn{k:NameKind}:∀{names:List (Str×NameKind)},names.lookup y=some k->(y,k)∈names:=λh=>ybq h
theorem ZK(B:BlkOk X scope N' n caps)(I:Inv X pins σ H s) :
  ∃cl,closureFor scope X.env=pure cl/\(∀y c,cl.lookup y=some c->X.env.cells.lookup y=some c)/\(∀y,(relabel scope X.env).names.lookup y=some .cell\/(relabel scope X.env).names.lookup y=some .free->(y,NameKind.cell)∈scope.names\/∃c,cl.lookup y=some c) /\
   (∀(σ:L2.St) (i:Nat) (y:Str) (v:V),N'[i]?=some y->(EF n caps σ)[i]?=some (some v)->(y,NameKind.cell)∉scope.names) /\
   (∀σ:L2.St,σ.length=X.N.length->(EF n caps σ).length=N'.length) /\
   (∀(σ:L2.St) (i:Nat) (y:Str) (v:V),N'[i]?=some y->(EF n caps σ)[i]?=some (some v)->((relabel scope X.env).names.lookup y=some .cell\/(relabel scope X.env).names.lookup y=some .free)/\∃j:Nat,X.N[j]?=some y/\σ[j]?=some (some v)/\DT X.env.scope y/\X.env.kindOf y≠some .local):=by
 obtain⟨cl,h1,h2,h3⟩:=zcw scope X.env λy hy hf=>I.ok.has y.1 (B.free y hy hf).2
 have MP:∀(σ:L2.St) (i:Nat) (y:Str) (v:V),N'[i]?=some y->(EF n caps σ)[i]?=some (some v)->∃j:Nat,X.N[j]?=some y/\σ[j]?=some (some v)/\scope.names.lookup y=some .free/\(y,NameKind.cell)∉scope.names:=by
  intro σ i y v e1 e2;unfold EF at e2
  by_cases hi:i<n
  .rw[yb0 (by simpa using hi),yd8,if_pos hi]at e2
   cases e2
  .rw[yb5 (by simp;omega),ya5]at e2
   simp only[ydq]at e2;cases hc:caps[i - n]? with
   |none=>rw[hc]at e2;cases e2
   |some j =>
    rw[hc]at e2;simp only[yc2]at e2;have e':MK σ j=some v:=yau e2;obtain⟨y',g1,g2,g3,g4⟩:=B.cap (i - n) j hc;have en:n+(i - n)=i:=by omega
    rw[en,e1]at g2;cases g2
    have sv:σ[j]?=some (some v):=by
     unfold MK at e';split at e'
     .rename_i v' hv;cases e';exact hv
     .cases e'
    exact⟨j,g1,sv,g3,g4⟩
 refine⟨cl,h1,h2,λy hy=>?_,λσ i y v e1 e2=>?_,λσ hσ=>by simp[EF,B.len],λσ i y v e1 e2=>?_⟩
 .cases hk:scope.names.lookup y with
  |none =>
   rw[Kp,hk]at hy
   rcases hy with hy|hy<;>cases hy
  |some k =>
   by_cases hf:k=.free
   .subst hf;exact .inr (h3 _ (Pn hk) rfl)
   .rw[Kp,hk]at hy;simp only[yc2]at hy;have hf':(k == NameKind.free)=false:=beq_eq_false_iff_ne.mpr hf;simp only[hf',yd6,yca,yeu]at hy
    rcases hy with hy|hy
    .cases hy;exact .inl (Pn hk)
    .cases hy;exact absurd rfl hf
 .exact(MP σ i y v e1 e2).choose_spec.2.2.2
 .obtain⟨j,g1,sv,g3,g4⟩:=MP σ i y v e1 e2;have fr:=B.free _ (Pn g3) rfl;refine⟨?_,j,g1,sv,?_,?_⟩
  .rw[Kp,g3];simp only[yc2]
   by_cases hc2:(NameKind.free == NameKind.free && X.env.scope.kind == .function && X.env.kindOf y == some .cell)=true
   .exact .inl (by rw[if_pos hc2])
   .exact .inr (by rw[if_neg hc2])
  .rcases fr.2 with z|z
   .exact .inr (.inl z)
   .exact .inr (.inr z)
  .intro z;have z':X.env.scope.names.lookup y=some .local:=z
   rcases fr.2 with w|w
   .rw[z']at w;cases w
   .rw[z']at w;cases w
theorem Ue{iter:Expr}(B:BlkOk X scope N' n caps)(hc:∀pins σ H s cl C ex xb,Inv X pins σ H s->cq (Af X scope cl N' C s H ex xb))(hi:PJ cq X tg iter (tI X.K E ca mi))(hps:BO X E)(hst:GZ X)(hg:∀cl C s₀ H₀ ex xb E',BO (Af X scope cl N' C s₀ H₀ ex xb) E'->PG (Af X scope cl N' C s₀ H₀ ex xb) tg (Dh X.K b))(ht:∀cl C s₀ H₀ ex xb E',BO (Af X scope cl N' C s₀ H₀ ex xb) E'->GX (Af X scope cl N' C s₀ H₀ ex xb) ifs (Az X.K E' ca mt))(he:∀cl C s₀ H₀ ex xb E',BO (Af X scope cl N' C s₀ H₀ ex xb) E'->PE (Af X scope cl N' C s₀ H₀ ex xb) elt (tM X.K E' ca me))(hs:∀x,foldedSetIterable iter X.env x=pure x):PE X (.ListComp elt [⟨tg,iter,ifs,0⟩] scope pos) (tM X.K E ca (BX n caps mi b mt me)):=by
 intro pins s σ H Q I h;obtain⟨cl,h1,h2,h3,h4,h5,h6⟩:=ZK B I;exact znb (EF n caps) h1 B.kind B.names h2 h3 h4 h5 h6 hc hi hps hst (λcl C s₀ H₀ ex xb=>hg cl C s₀ H₀ ex xb _) (λcl C s₀ H₀ ex xb=>ht cl C s₀ H₀ ex xb _) (λcl C s₀ H₀ ex xb=>he cl C s₀ H₀ ex xb _) hs I (T7 h)
theorem r_lcS{iter:Expr}(B:BlkOk X scope N' n caps)(hc:X.calm=true)(hi:PI X tg iter (tI X.K E ca mi))(hps:BO X E)(hst:GZ X)(hg:∀cl C s₀ H₀ ex xb E',BO (Af X scope cl N' C s₀ H₀ ex xb) E'->PG (Af X scope cl N' C s₀ H₀ ex xb) tg (Dh X.K b))(ht:∀cl C s₀ H₀ ex xb E',BO (Af X scope cl N' C s₀ H₀ ex xb) E'->GX (Af X scope cl N' C s₀ H₀ ex xb) ifs (Az X.K E' ca mt))(he:∀cl C s₀ H₀ ex xb E',BO (Af X scope cl N' C s₀ H₀ ex xb) E'->PE (Af X scope cl N' C s₀ H₀ ex xb) elt (tM X.K E' ca me))(hs:∀x,foldedSetIterable iter X.env x=pure x)(hN:X.N.Nodup)(hix:X.N[i]?=some x)(hx:X.env.scope.names.lookup x=some .local)(hsw:swapsWith (.ListComp elt [⟨tg,iter,ifs,0⟩] scope pos) (some (.Name x pos')) pos2.line X.env=pure true):PS X (.Assign [.Name x pos'] (.ListComp elt [⟨tg,iter,ifs,0⟩] scope pos) pos2) (λD σ H=>tM X.K E ca (BX n caps mi b mt me) σ H λv H1=>D.nx (σ.set i (some v)) H1):=by
 intro pins s σ H D I h;obtain⟨cl,h1,h2,h3,h4,h5,h6⟩:=ZK B I;exact znc (EF n caps) h1 B.kind B.names h2 h3 h4 h5 h6 hc hi hps hst (λcl C s₀ H₀ ex xb=>hg cl C s₀ H₀ ex xb _) (λcl C s₀ H₀ ex xb=>ht cl C s₀ H₀ ex xb _) (λcl C s₀ H₀ ex xb=>he cl C s₀ H₀ ex xb _) hs hN hix hx hsw I (T7 h)
end
def LZ:AF:=λ_=>some (.v (.dic [] []) false)
def Ph(mk mv:AF):AF:=λτ=>match mk τ with
 |some (.v (.int i) _)=>(match mv τ with
  |some (.v t false)=>some (.v (.dic [i] [t.share]) false)
  |some (.v _ true)=>none
  |some (.x c)=>some (.x c)
  |none=>none)
 |some (.v _ _)=>none
 |some (.x c)=>some (.x c)
 |none=>none
def LW(m:AF):AF:=λτ=>match m τ with
 |some (.v (.dic _ l) false)=>some (.v (.own (Ax l)) false)
 |some (.x c)=>some (.x c)
 |_=>none
def Iw(ks:List Int)(l:List T):List T:=List.zipWith (λk t=>T.tup [.int k,t]) ks l
def QN(m:AF):Ao:=λτ=>match m τ with
 |some (.v (.dic ks l) false)=>some (.v (Iw ks (Ax l)) false)
 |some (.x c)=>some (.x c)
 |_=>none
variable {ks:List Int}
theorem Ws(h:ks.length=xs.length):(CO ks xs).map (·.2)=xs:=by
 induction ks generalizing xs with
 |nil=>cases xs with
  |nil=>rfl
  |cons x r=>simp at h
 |cons k ks ih=>cases xs with
  |nil=>simp at h
  |cons x r =>
   have:=ih (xs:=r) (by simpa using h)
   unfold CO at this ⊢;rw[ydj,yae,this]
theorem Hq(h:ks.length=xs.length):(CO ks xs).length=xs.length:=by
 rw[<- ya1 (f:=(·.2)),Ws h]
theorem IC{K:kA}{x:V}(h:Rp K F H (.dic ks l) x B):∃p ob xs,x=.ref p/\F p=some (.frz ob (.dK (CO ks xs)))/\ks.length=xs.length/\A9 K F (Ax l) xs:=by
 have h':Rp K F H (T.dic ks l).share x R0:=h.share (AZ.refl F) λa u z q=>by
  cases h with
  |dic h e ek c=>exact z.elim
 rw[T.share]at h'
 clear h
 cases h' with
 |dic hp e ek c=>exact⟨_,_,_,rfl,hp,ek,e,λi t x h1 h2=>(c i t x h1 h2).any⟩
theorem Ext.late{F3 H3:Hp}{p:Addr}{o:HO}(e:Ext F H F3 H3 R0)(hp:H p=none)(fp:F3 p=none):Ext F H (upd F3 p o) (upd H3 p o) R0 where
 hh:=λb u q=>by rw[Ac (Br q hp)];exact e.hh b u q
 ff:=λb u q=>by
  have:b≠p:=λz=>by
   subst z;rw[e.ff b u q]at fp;cases fp
  rw[Ac this];exact e.ff b u q
 fh:=λb u q=>by
  by_cases hb:b=p
  .subst hb;rw[Ba]at q ⊢;exact q
  .rw[Ac hb]at q ⊢;exact e.fh b u q
 nb:=λ_ z=>z.elim
 nf:=λb u q=>by
  by_cases hb:b=p
  .subst hb;exact .inr hp
  .rw[Ac hb]at q;exact e.nf b u q
variable {mk:AF}
section
variable {mv:AF}{k v:Expr}{cp:Pos}{K:kA}
theorem zm1:PE X (.Dict [] [] pos) (tM X.K E ca LZ):=PE.weak zix λσ H Q h p ob hp=>by
 obtain⟨F,τ,R,S,q⟩:=h;refine q (upd F p (.frz ob (.dK []))) (upd H p (.frz ob (.dK []))) (.ref p) R0 (Ext.new S.fh hp) ?_;exact Rp.dic (ks:=[]) (xs:=[]) (l:=[]) Ba rfl rfl λi t x h=>by simp at h
theorem zm0(hk:PE X k (tM X.K E ca mk))(hv:PE X v (tM X.K E ca mv)):PE X (.Dict [some k] [v] pos) (tM X.K E ca (Ph mk mv)):=PE.weak (ziw hk hv) λσ H Q h p hp=>by
 obtain⟨F,τ,R,S,q⟩:=h;have e0:=Ext.newO (o:=.dK []) S.fh hp;have S0:=S.ext e0;refine⟨F,τ,R,S0,?_⟩;unfold Ph at q;cases h1:mk τ with
 |none=>simp only[h1]at q<;>exact False.elim q
 |some r =>
  simp only[h1]at q;cases r with
  |x c=>exact λF' H' e=>q F' H' ((e0.trans e).mono λ_ z=>z.elim)
  |v tk bk =>
   intro F1 H1 x B e1 g1;have S1:=S0.ext e1;refine⟨F1,τ,R,S1,?_⟩;cases tk with
   |int i =>
    simp only at q
    have hx:x=.int i:=by
     cases bk with
     |true=>obtain⟨_,A,_,r⟩:=g1;exact r.int_inv
     |false=>exact(show Rp X.K F1 H1 _ _ _ from g1).int_inv
    cases h2:mv τ with
    |none=>simp only[h2]at q<;>exact False.elim q
    |some r =>
     simp only[h2]at q;cases r with
     |x c=>exact λF' H' e=>q F' H' (((e0.trans e1).trans e).mono λ_ z=>z.elim)
     |v t b =>
      cases b with
      |true=>exact q.elim
      |false =>
       simp only at q;intro F2 H2 y C e2 g2;refine⟨e2.hh _ _ (e1.hh _ _ Ba),i,hx,λob=>?_⟩
       obtain⟨F3,e3,s3,r3⟩:=Ct.frz (b:=false) S1 e2 g2;have e13:=e1.trans e3
       have fp:F3 p=none:=by
        cases z:F3 p with
        |none=>rfl
        |some u =>
         rcases e13.nf p u z with w|w
         .rw[FW S.fh hp]at w;cases w
         .rw[Ba]at w;cases w
       have e03:Ext F H F3 H2 R0:=(e0.trans e13).mono λ_ z=>z.elim
       have e4:=Ext.late (o:=.frz ob (.dK [(Sum.inl i,y)])) e03 hp fp;refine q _ _ (.ref p) R0 e4 ?_;refine Rp.dic (ks:=[i]) (xs:=[y]) (l:=[t.share]) Ba rfl rfl λj t' x' h3 h4=>?_
       cases j with
       |zero =>
        simp at h3 h4;subst h3 h4
        exact(show Rp X.K F3 F3 t.share y R0 from r3).frame (λb u w=>by
         have:b≠p:=λz=>by
          subst z;rw[w]at fp;cases fp
         rw[Ac this];exact w) λ_ z=>z.elim
       |succ j=>simp at h3
   |_=>exact q.elim
theorem zlt(hc:X.calm=true)(hg:Gl X "list")(hm:X.mg "list"=none)(ho:PE X o (tM X.K E ca m))(hbase:attributeBase o "values" X.env (eval o X.env)=eval o X.env)(hline:(ap.endLine == cp.line)=true) :
  PE X (.Call (.Name "list" p) [.Call (.Attribute o "values" ap) [] [] cp] [] p2) (tM X.K E ca (LW m)):=PE.weak (ziu hc hg hm ho hbase hline) λσ H Q h=>by
 obtain⟨F,τ,R,S,q⟩:=h;refine⟨F,τ,R,S,?_⟩;unfold LW at q;cases h1:m τ with
 |none=>simp only[h1]at q<;>exact False.elim q
 |some r =>
  simp only[h1]at q;cases r with
  |x c=>exact q
  |v t b =>
   intro F1 H1 x B e1 g1;cases t with
   |dic ks l =>
    cases b with
    |true=>exact q.elim
    |false =>
     simp only at q;obtain⟨p,ob,xs,rfl,hp,ek,rs⟩:=IC (show Rp X.K F1 H1 (.dic ks l) x B from g1);refine⟨p,ob,CO ks xs,rfl,e1.fh _ _ hp,λa ha=>?_⟩
     rw[Ws ek];have gg:Cn X.K F1 H1 (.own (Ax l)) Q:=λF' H' z C e g=>q F' H' z C (((e1.mono λ_ z=>z.elim:Ext F H F1 H1 R0).trans0 e)) g
     exact gg.list e1.fh rs ha
   |_=>exact q.elim
theorem zep{p:Addr}{ob:Obj}(hp:F p=some (.frz ob (.dK (CO ks xs))))(ek:ks.length=xs.length)(r:A9 K F l xs):FA K (SW p (CO ks xs).length (Er ob)) F (Iw ks l):=by
 intro i F' H' s1 s2;have hH:=s2 _ _ (s1 _ _ hp);have hl:=r.1;refine⟨λt ht=>?_,λe=>⟨ob,_,hH,rfl,rfl,?_⟩⟩
 .unfold Iw at ht;rw[ycr]at ht;cases h1:ks[i]? with
  |none=>rw[h1]at ht;cases ht
  |some k =>
   cases h2:l[i]? with
   |none=>rw[h1,h2]at ht;cases ht
   |some t0 =>
    rw[h1,h2]at ht;cases ht;have hi:i<xs.length:=by have:=(ya4.mp h2).1;omega
    have h3:(CO ks xs)[i]?=some (Sum.inl k,xs[i]):=by
     unfold CO;rw[ycr,h1,ya0 hi]
    refine⟨⟨ob,_,Sum.inl k,xs[i],hH,rfl,rfl,h3⟩,λx H'' y=>?_⟩
    obtain⟨q,k',y0,rfl,hq,rfl,y⟩:=y;have h4:=y _ _ hH;rw[h3]at h4;cases h4;have e:=Ext.new (o:=.tup [kV (Sum.inl k),xs[i]]) s2 hq;refine⟨_,e,A9.of_node (k:=.tup) (xs:=[.int k,xs[i]]) Ba ?_⟩;exact .cons (H:=H') (.int k) (.cons (H:=H') (((r.same (s1.trans e.ff)).2 i t0 _ h2 (ya0 hi)).any) .nil)
 .rw[e,Hq ek];unfold Iw;rw[List.length_zipWith]
  omega
theorem zia(ho:PE X o (tM X.K E ca m))(hbase:attributeBase o "items" X.env (eval o X.env)=eval o X.env)(hline:(ap.endLine == cp.line)=true) :
  PI X (.Tuple elts kk tpos) (.Call (.Attribute o "items" ap) [] [] cp) (tI X.K E ca (QN m)):=PI.weak (zg8 ho hbase hline) λσ H P h=>by
 obtain⟨F,τ,R,S,q⟩:=h;refine⟨F,τ,R,S,?_⟩;unfold QN at q;cases h1:m τ with
 |none=>simp only[h1]at q<;>exact False.elim q
 |some r =>
  simp only[h1]at q;cases r with
  |x c=>exact q
  |v t b =>
   intro F1 H1 x B e1 g1;cases t with
   |dic ks l =>
    cases b with
    |true=>exact q.elim
    |false =>
     simp only at q;obtain⟨p,ob,xs,rfl,hp,ek,rs⟩:=IC (show Rp X.K F1 H1 (.dic ks l) x B from g1);exact⟨p,ob,CO ks xs,rfl,e1.fh _ _ hp,q F1 H1 _ (e1.mono λ_ z=>z.elim) (zep hp ek rs)⟩
   |_=>exact q.elim
end
inductive Out where
 |nx (τ:AO)|rt (t:T)|bk (τ:AO)|ct (τ:AO)|xc (c:Str) (τ:AO)
abbrev AH:=AO->Option Out
structure Stp(F H:Hp)(O:Rg)(F' H':Hp)(O':Rg):Prop where
 ff:AZ F F'
 fh:AZ F' H'
 kp:∀b u,¬ O b->H b=some u->H' b=some u
 nw:∀b,O' b->O b\/H b=none
 nf:∀b u,F' b=some u->F b=some u\/O b\/H b=none
section
variable {F2 H2:Hp}{O O1 O2:Rg}
theorem Stp.refl(s:AZ F H):Stp F H O F H O:=⟨.refl _,s,λ_ _ _ e=>e,λ_ z=>.inl z,λ_ _ e=>.inl e⟩
theorem Stp.trans(a:Stp F H O F1 H1 O1)(b:Stp F1 H1 O1 F2 H2 O2):Stp F H O F2 H2 O2 where
 ff:=a.ff.trans b.ff
 fh:=b.fh
 kp:=λx u n e=>b.kp x u (λz=>(a.nw x z).elim n λw=>by rw[e]at w;cases w) (a.kp x u n e)
 nw:=λx z=>(b.nw x z).elim (a.nw x) λw=>by
  by_cases hO:O x
  .exact .inl hO
  .cases e:H x with
   |none=>exact .inr rfl
   |some u=>rw[a.kp x u hO e]at w;cases w
 nf:=λx u e=>(b.nf x u e).elim (a.nf x u) λz=>.inr (z.elim (a.nw x) λw=>by
  by_cases hO:O x
  .exact .inl hO
  .cases e':H x with
   |none=>exact .inr rfl
   |some u'=>rw[a.kp x u' hO e']at w;cases w)
theorem Stp.mono(a:Stp F H O F1 H1 O1)(h:∀x,O2 x->O1 x):Stp F H O F1 H1 O2:=⟨a.ff,a.fh,a.kp,λx z=>a.nw x (h x z),a.nf⟩
theorem Ext.stp(e:Ext F H F1 H1 B):Stp F H O F1 H1 (λx=>O x\/B x):=⟨e.ff,e.fh,λb u _ q=>e.hh b u q,λb z=>z.elim .inl λz=>.inr (e.nb b z),λb u q=>(e.nf b u q).elim .inl λz=>.inr (.inr z)⟩
theorem Ext.stp0(e:Ext F H F1 H1 B):Stp F H O F1 H1 O:=e.stp.mono λ_ z=>.inl z
end
section
def Wr(K:kA)(mu:Bool)(F H:Hp)(t:T)(x:V)(B:Rg):Prop:=match mu with
 |false=>Rp K F H t x B
 |true=>∃v q l,t=.own [v,.nd true (.pin q) l]/\v.flat=true/\Rp K F H v x R0/\Rp K F H (.nd true (.pin q) l) (.ref q) B
def tS(K:kA)(E:L2.St->XK)(ca:Str->Value)(mu:Bool)(m:AH):TS:=λD σ H=>∃F τ R,StR K F H σ τ R/\match m τ with
 |some (.nx τ')=>∀F' H' σ' R',Stp F H (tot R) F' H' (tot R')->StR K F' H' σ' τ' R'->D.nx σ' H'
 |some (.bk τ')=>∀F' H' σ' R',Stp F H (tot R) F' H' (tot R')->StR K F' H' σ' τ' R'->D.bk σ' H'
 |some (.ct τ')=>∀F' H' σ' R',Stp F H (tot R) F' H' (tot R')->StR K F' H' σ' τ' R'->D.ct σ' H'
 |some (.rt t)=>∀F' H' x B,Stp F H (tot R) F' H' B->Wr K mu F' H' t x B->D.rt x H'
 |some (.xc c τ')=>∀F' H' σ' R',Stp F H (tot R) F' H' (tot R')->StR K F' H' σ' τ' R'->E σ' (ca c) none H'
 |none=>False
end
def AI(m n:AH):AH:=λτ=>match m τ with
 |some (.nx τ')=>n τ'
 |r=>r
def Ah:AH:=λτ=>some (.nx τ)
def Kj:AH:=λ_=>none
def ON:AH:=λτ=>some (.bk τ)
def OM:AH:=λτ=>some (.ct τ)
def Ed(m:AF):AH:=λτ=>match m τ with
 |some (.v _ _)=>some (.nx τ)
 |some (.x c)=>some (.xc c τ)
 |none=>none
def AX(m:AF):AH:=λτ=>match m τ with
 |some (.v t _)=>some (.rt t)
 |some (.x c)=>some (.xc c τ)
 |none=>none
def OL:AH:=λ_=>some (.rt .non)
noncomputable def Au(m:AF)(b:T->AO->Option AO):AH:=λτ=>match m τ with
 |some (.v t false)=>(match b t.share τ with
  |some τ'=>some (.nx τ')
  |none=>none)
 |some (.v _ true)=>none
 |some (.x c)=>some (.xc c τ)
 |none=>none
noncomputable def Di(i:Nat)(m:AF):AH:=λτ=>match m τ with
 |some (.v t false)=>if i<τ.length then some (.nx (τ.set i (some t))) else none
 |some (.v _ true)=>none
 |some (.x c)=>some (.xc c τ)
 |none=>none
noncomputable def FK(i:Nat):AH:=λτ=>match τ[i]? with
 |some (some t)=>some (.nx (τ.set i (some t.share)))
 |_=>some (.nx τ)
def Ai(c:AF)(a b:AH):AH:=λτ=>match c τ with
 |some (.v (.bl true) _)=>a τ
 |some (.v (.bl false) _)=>b τ
 |some (.x c)=>some (.xc c τ)
 |_=>none
noncomputable def Bh(b:T->AO->Option AO)(body:AH):List T->AH
 |[],τ=>some (.nx τ)
 |t::ts,τ=>(match b t τ with
  |some τ1=>(match body τ1 with
   |some (.nx τ2)=>Bh b body ts τ2
   |some (.ct τ2)=>Bh b body ts τ2
   |some (.bk τ2)=>some (.nx τ2)
   |r=>r)
  |none=>none)
def C1(mi:Ao)(b:T->AO->Option AO)(body:AH):AH:=λτ=>match mi τ with
 |some (.v ts _)=>Bh b body ts τ
 |some (.x c)=>some (.xc c τ)
 |none=>none
variable {mu:Bool}{u:AH}{body:List Stmt}
section
variable {K:kA}{mi:Ao}{b:T->AO->Option AO}{w:AH}{iter:Expr}{st:Stmt}{rest sa sb:List Stmt}
theorem PS.weak{t t':TS}(h:PS X st t)(w:∀D σ H,t' D σ H->t D σ H):PS X st t':=λpins s σ H D I q=>h pins s σ H D I (w D σ H q)
theorem BE.weak{t t':TS}(h:BE X rest t)(w:∀D σ H,t' D σ H->t D σ H):BE X rest t':=λpins s σ H D I q=>h pins s σ H D I (w D σ H q)
theorem zl6(h:tS K E ca mu (AI u w) D σ H):TX (tS K E ca mu u) (tS K E ca mu w) D σ H:=by
 obtain⟨F,τ,R,S,q⟩:=h;refine⟨F,τ,R,S,?_⟩;unfold AI at q;cases hm:u τ with
 |none=>simp only[hm]at q<;>exact False.elim q
 |some o =>
  simp only[hm]at q;cases o with
  |nx τ' =>
   intro F1 H1 σ1 R1 s1 S1;refine⟨F1,τ',R1,S1,?_⟩;simp only at q;cases hw:w τ' with
   |none=>simp only[hw]at q<;>exact False.elim q
   |some o =>
    simp only[hw]at q;cases o with
    |nx _=>exact λF' H' σ' R' s S=>q F' H' σ' R' (s1.trans s) S
    |bk _=>exact λF' H' σ' R' s S=>q F' H' σ' R' (s1.trans s) S
    |ct _=>exact λF' H' σ' R' s S=>q F' H' σ' R' (s1.trans s) S
    |rt _=>exact λF' H' x B s r=>q F' H' x B (s1.trans s) r
    |xc _ _=>exact λF' H' σ' R' s S=>q F' H' σ' R' (s1.trans s) S
  |rt _=>exact q
  |bk _=>exact q
  |ct _=>exact q
  |xc _ _=>exact q
theorem Nc:BE X [] (tS X.K E ca mu Ah):=BE.weak zii λD σ H h=>by
 obtain⟨F,τ,R,S,q⟩:=h;exact q F H σ R (Stp.refl S.fh) S
theorem Ij(h1:PS X st (tS X.K E ca mu u))(h2:BE X rest (tS X.K E ca mu w)):BE X (st::rest) (tS X.K E ca mu (AI u w)):=BE.weak (zg4 h1 h2) λD σ H h=>zl6 h
theorem Ih(h1:PS X st (tS X.K E ca mu u)):BE X [st] (tS X.K E ca mu u):=Uv h1
theorem UM:PS X st (tS X.K E ca mu Kj):=λpins s σ H D I h=>by
 obtain⟨_,_,_,_,q⟩:=h;exact q.elim
theorem zlm:PS X (.Pass pos) (tS X.K E ca mu Ah):=PS.weak zik λD σ H h=>by
 obtain⟨F,τ,R,S,q⟩:=h;exact q F H σ R (Stp.refl S.fh) S
theorem zi7:PS X (.Break pos) (tS X.K E ca mu ON):=PS.weak zg6 λD σ H h=>by
 obtain⟨F,τ,R,S,q⟩:=h;exact q F H σ R (Stp.refl S.fh) S
theorem zde:PS X (.Continue pos) (tS X.K E ca mu OM):=PS.weak zcp λD σ H h=>by
 obtain⟨F,τ,R,S,q⟩:=h;exact q F H σ R (Stp.refl S.fh) S
theorem zl8(h:tS K E ca mu (AI (FK i) w) D σ H):tS K E ca mu w D σ H:=by
 obtain⟨F,τ,R,S,q⟩:=h;unfold AI FK at q;cases ht:τ[i]? with
 |none =>
  rw[ht]at q;exact⟨F,τ,R,S,q⟩
 |some ot =>
  rw[ht]at q;cases ot with
  |none=>exact⟨F,τ,R,S,q⟩
  |some t =>
   simp only at q;obtain⟨x,ex,r⟩:=S.rep i t ht;have hi:i<τ.length:=(ya4.mp ht).1;have n:∀a,R i a->F a=none:=λa z=>(r.dom z).1
   have S0:StR K (frz F H (R i)) H σ (τ.set i (some t.share)) (λj=>if j=i then R0 else R j):=by
    refine⟨Hw S.fh,by simpa using S.len,λj t' e=>?_,λj a z=>?_,λj k a hjk z1 z2=>?_⟩
    .by_cases hj:j=i
     .subst hj;rw[yap hi]at e;cases e;exact⟨x,ex,by simpa using r.share (EZ n) λa u z q=>by rw[GO z];exact q⟩
     .rw[yan (yay hj)]at e;obtain⟨y,e1,r1⟩:=S.rep j t' e;refine⟨y,e1,?_⟩;simp only[hj,yeu]
      exact r1.frame (EZ n) λa z=>⟨rfl,by
       rw[F9 (λz'=>S.dis j i a hj z z')]
       exact(r1.dom z).1⟩
    .by_cases hj:j=i
     .simp only[hj,yet]at z;exact z.elim
     .simp only[hj,yeu]at z;obtain⟨t',e⟩:=S.out j a z;exact⟨t',by rw[yan (yay hj)];exact e⟩
    .by_cases hj:j=i
     .simp only[hj,yet]at z1;exact z1.elim
     .by_cases hk:k=i
      .simp only[hk,yet]at z2;exact z2.elim
      .simp only[hj,yeu]at z1;simp only[hk,yeu]at z2;exact S.dis j k a hjk z1 z2
   have st0:Stp F H (tot R) (frz F H (R i)) H (tot λj=>if j=i then R0 else R j):=by
    refine⟨EZ n,Hw S.fh,λ_ _ _ e=>e,λb ⟨j,z⟩=>?_,λb u e=>?_⟩
    .by_cases hj:j=i
     .simp only[hj,yet]at z;exact z.elim
     .simp only[hj,yeu]at z;exact .inl ⟨j,z⟩
    .by_cases hb:R i b
     .exact .inr (.inl ⟨i,hb⟩)
     .rw[F9 hb]at e;exact .inl e
   refine⟨_,_,_,S0,?_⟩;cases hw:w (τ.set i (some t.share)) with
   |none=>simp only[hw]at q<;>exact False.elim q
   |some o =>
    simp only[hw]at q;cases o with
    |nx _=>exact λF' H' σ' R' s S=>q F' H' σ' R' (st0.trans s) S
    |bk _=>exact λF' H' σ' R' s S=>q F' H' σ' R' (st0.trans s) S
    |ct _=>exact λF' H' σ' R' s S=>q F' H' σ' R' (st0.trans s) S
    |rt _=>exact λF' H' x B s r=>q F' H' x B (st0.trans s) r
    |xc _ _=>exact λF' H' σ' R' s S=>q F' H' σ' R' (st0.trans s) S
theorem s_frz(h:BE X rest (tS X.K E ca mu w)):BE X rest (tS X.K E ca mu (AI (FK i) w)):=BE.weak h λD σ H h=>zl8 h
theorem s_exp(he:PE X e (tM X.K E ca m))(hs:swapsWith e none pos.line X.env=pure false):PS X (.Expr e pos) (tS X.K E ca mu (Ed m)):=by
 refine PS.weak (O5 he hs) λD σ H h=>?_
 obtain⟨F,τ,R,S,q⟩:=h;refine⟨F,τ,R,S,?_⟩;unfold Ed at q;cases hm:m τ with
 |none=>simp only[hm]at q<;>exact False.elim q
 |some r =>
  simp only[hm]at q;cases r with
  |x c=>exact λF' H' e=>q F' H' σ R e.stp0 (S.ext e)
  |v t bb=>exact λF' H' x B e g=>q F' H' σ R e.stp0 (S.ext e)
theorem K8(he:PE X e (tM X.K E ca m)):PS X (.Return (some e) pos) (tS X.K E ca false (AX m)):=by
 refine PS.weak (zm8 he) λD σ H h=>?_
 obtain⟨F,τ,R,S,q⟩:=h;refine⟨F,τ,R,S,?_⟩;unfold AX at q;cases hm:m τ with
 |none=>simp only[hm]at q<;>exact False.elim q
 |some r =>
  simp only[hm]at q;cases r with
  |x c=>exact λF' H' e=>q F' H' σ R e.stp0 (S.ext e)
  |v t bb =>
   intro F' H' x B e g;cases bb with
   |false=>exact q F' H' x B (e.stp.mono λ_ z=>.inr z) g
   |true =>
    obtain⟨_,A,hA,r⟩:=g;exact q F' H' x A (e.stp.mono λa z=>.inl (hA a z)) r
theorem zll:PS X (.Return none pos) (tS X.K E ca false OL):=PS.weak zij λD σ H h=>by
 obtain⟨F,τ,R,S,q⟩:=h;exact q F H .non R0 ((Stp.refl S.fh).mono λ_ z=>z.elim) .non
theorem UN(hc:PT X c (Az X.K E ca mc))(ha:BE X sa (tS X.K E ca mu u))(hb:BE X sb (tS X.K E ca mu w)):PS X (.If c sa sb pos) (tS X.K E ca mu (Ai mc u w)):=by
 refine PS.weak (ps_if hc ha hb) λD σ H h=>?_
 obtain⟨F,τ,R,S,q⟩:=h;refine⟨F,τ,R,S,?_⟩;unfold Ai at q;cases hm:mc τ with
 |none=>simp only[hm]at q<;>exact False.elim q
 |some r =>
  simp only[hm]at q;cases r with
  |x c=>exact λF' H' e=>q F' H' σ R e.stp0 (S.ext e)
  |v t bb =>
   cases t with
   |bl k =>
    intro F1 H1 e1;have S1:=S.ext e1
    have key:∀{mm:AH},(match mm τ with
      |some (.nx τ')=>∀F' H' σ' R',Stp F H (tot R) F' H' (tot R')->StR X.K F' H' σ' τ' R'->D.nx σ' H'
      |some (.bk τ')=>∀F' H' σ' R',Stp F H (tot R) F' H' (tot R')->StR X.K F' H' σ' τ' R'->D.bk σ' H'
      |some (.ct τ')=>∀F' H' σ' R',Stp F H (tot R) F' H' (tot R')->StR X.K F' H' σ' τ' R'->D.ct σ' H'
      |some (.rt t)=>∀F' H' x B,Stp F H (tot R) F' H' B->Wr X.K mu F' H' t x B->D.rt x H'
      |some (.xc c τ')=>∀F' H' σ' R',Stp F H (tot R) F' H' (tot R')->StR X.K F' H' σ' τ' R'->E σ' (ca c) none H'
      |none=>False)->tS X.K E ca mu mm D σ H1:=λ{mm} q=>by
     refine⟨F1,τ,R,S1,?_⟩;cases hr:mm τ with
     |none=>simp only[hr]at q<;>exact False.elim q
     |some o =>
      simp only[hr]at q;cases o with
      |nx _=>exact λF' H' σ' R' s S=>q F' H' σ' R' (e1.stp0.trans s) S
      |bk _=>exact λF' H' σ' R' s S=>q F' H' σ' R' (e1.stp0.trans s) S
      |ct _=>exact λF' H' σ' R' s S=>q F' H' σ' R' (e1.stp0.trans s) S
      |rt _=>exact λF' H' x B s r=>q F' H' x B (e1.stp0.trans s) r
      |xc _ _=>exact λF' H' σ' R' s S=>q F' H' σ' R' (e1.stp0.trans s) S
    cases k with
    |true=>exact La (key q)
    |false=>exact Lb (key q)
   |_=>exact q.elim
theorem KP{g:TG}(hg:∀v σ H Q,Dh K b v σ H Q->g v σ H Q)(h:tS K E ca mu (Au m b) D σ H):KS (tM K E ca m) g D σ H:=by
 obtain⟨F,τ,R,S,q⟩:=h;refine⟨F,τ,R,S,?_⟩;unfold Au at q;cases hm:m τ with
 |none=>simp only[hm]at q<;>exact False.elim q
 |some r =>
  simp only[hm]at q;cases r with
  |x c=>exact λF' H' e=>q F' H' σ R e.stp0 (S.ext e)
  |v t bb =>
   cases bb with
   |true=>exact q.elim
   |false =>
    intro F1 H1 x B e1 g1;obtain⟨F2,e2,_,r2⟩:=Ct.frz (b:=false) S e1 g1;simp only at q;cases hb:b t.share τ with
    |none=>simp only[hb]at q<;>exact False.elim q
    |some τ' =>
     simp only[hb]at q;refine hg _ _ _ _ ⟨F2,τ,R,t.share,τ',S.ext e2,(show Rp K F2 F2 t.share x R0 from r2).any,hb,λσ' R' S' hR=>?_⟩
     exact q F2 H1 σ' R' (e2.stp0.mono λa ⟨i,z⟩=>⟨i,hR i a z⟩) S'
theorem Lj{v:V}{Q:L2.St->Hp->Prop}(h:Dh K (AG i) v σ H Q):Hv i v σ H Q:=by
 obtain⟨F,τ,R,t,τ',S,r,e,q⟩:=h;unfold AG at e;split at e
 .cases e;rename_i hl;refine q _ _ (S.set r (λ_ _ _ _ z=>z.elim) hl) λj a z=>?_
  by_cases hj:j=i
  .simp only[hj,yet]at z;exact z.elim
  .simpa[hj] using z
 .cases e
theorem Na(hN:X.N.Nodup)(hi:X.N[i]?=some x)(hx:GY X.env.scope x)(he:PE X e (tM X.K E ca m))(hs:swapsWith e (some (.Name x pos')) pos.line X.env=pure false)(hf:X.fn x=true\/X.env.scope.names.lookup x=some .local) :
  PS X (.Assign [.Name x pos'] e pos) (tS X.K E ca mu (Au m (AG i))):=PS.weak (O4 hN hi hx he hs hf) λD σ H h=>KP (λ_ _ _ _ z=>Lj z) h
theorem zlk(he:PE X e (tM X.K E ca m))(hg:PG X tg (Dh X.K b))(hs:swapsWithSole [tg] e pos.line X.env=pure false)(hw:swappedStores [tg] e X.env=pure none)(h1:(assignEach [tg] X.env).map (·.2)=[assign tg X.env]) :
  PS X (.Assign [tg] e pos) (tS X.K E ca mu (Au m b)):=PS.weak (O6 he hg hs hw h1) λD σ H h=>KP (λ_ _ _ _ z=>z) h
theorem TY(h:tS K E ca mu (Di i m) D σ H):KS (tM K E ca m) (Hv i) D σ H:=by
 obtain⟨F,τ,R,S,q⟩:=h;refine⟨F,τ,R,S,?_⟩;unfold Di at q;cases hm:m τ with
 |none=>simp only[hm]at q<;>exact False.elim q
 |some r =>
  simp only[hm]at q;cases r with
  |x c=>exact λF' H' e=>q F' H' σ R e.stp0 (S.ext e)
  |v t bb =>
   cases bb with
   |true=>exact q.elim
   |false =>
    intro F1 H1 x B e1 g1;have g1':Rp K F1 H1 t x B:=g1;have S1:=S.ext e1
    by_cases hl:i<τ.length
    .simp only[hl,yet]at q;refine q F1 H1 _ _ (e1.stp.mono ?_) (S1.set g1' (λj a _ z1 z2=>S.apart e1 z2 j z1) hl)
     rintro a ⟨j,z⟩
     by_cases hj:j=i
     .simp only[hj,yet]at z;exact .inr z
     .simp only[hj,yeu]at z;exact .inl ⟨j,z⟩
    .simp only[hl,yeu]at q<;>exact False.elim q
theorem zln(hN:X.N.Nodup)(hi:X.N[i]?=some x)(hx:GY X.env.scope x)(he:PE X e (tM X.K E ca m))(hs:swapsWith e (some (.Name x pos')) pos.line X.env=pure false)(hf:X.fn x=true\/X.env.scope.names.lookup x=some .local) :
  PS X (.Assign [.Name x pos'] e pos) (tS X.K E ca mu (Di i m)):=PS.weak (O4 hN hi hx he hs hf) λD σ H h=>TY h
theorem s_for(hp:PassesOwn (model X.prog X.w) X.A X.env X.xe)(hc:X.calm=true)(hi:PI X tg iter (tI X.K E ca mi))(hg:PG X tg (Dh X.K b))(hb:BE X body (tS X.K E ca mu u))(hs:∀x,foldedSetIterable iter X.env x=pure x) :
  PS X (.For tg iter body [] pos) (tS X.K E ca mu (C1 mi b u)):=by
 refine PS.weak (zm9 hp hc hi hg hb hs) λD σ H h=>?_
 obtain⟨F,τ,R,S,q⟩:=h;refine⟨F,τ,R,S,?_⟩;unfold C1 at q;cases hm:mi τ with
 |none=>simp only[hm]at q<;>exact False.elim q
 |some r =>
  simp only[hm]at q;cases r with
  |x c=>exact λF' H' e=>q F' H' σ R e.stp0 (S.ext e)
  |v ts bb =>
   intro F1 H1 J e1 its;simp only at q;have S1:=S.ext e1;cases hg:Bh b u ts τ with
   |none=>simp only[hg]at q<;>exact False.elim q
   |some out =>
    simp only[hg]at q;refine⟨λi mm σ' H'=>mm=ts.length - i/\i<=ts.length/\∃F' τ' R',Stp F H (tot R) F' H' (tot R')/\AZ F1 F'/\StR X.K F' H' σ' τ' R'/\Bh b u (ts.drop i) τ'=some out,⟨ts.length,by simp,yaz _,F1,τ,R,e1.stp0,.refl _,S1,by simpa using hg⟩,?_⟩
    rintro i mm σ' H' ⟨rfl,hle,F',τ',R',st,sf,S',hgo⟩;obtain⟨i1,i2⟩:=its i F' H' sf S'.fh
    by_cases hlt:i<ts.length
    .refine .inr ⟨(i1 _ (ya0 hlt)).1,λσ2 H2=>i+1<=ts.length/\∃F2 τ2 R2,Stp F H (tot R) F2 H2 (tot R2)/\AZ F1 F2/\StR X.K F2 H2 σ2 τ2 R2/\Bh b u (ts.drop (i+1)) τ2=some out,λσ2 H2 n2=>⟨ts.length - (i+1),by omega,rfl,n2⟩,λx H'' y=>?_⟩
     obtain⟨F'',e3,rx⟩:=(i1 _ (ya0 hlt)).2 x H'' y;have S3:=S'.ext e3;rw[ycf hlt]at hgo;unfold Bh at hgo;cases hb2:b ts[i] τ' with
     |none=>simp only[hb2]at hgo;cases hgo
     |some τ1 =>
      simp only[hb2]at hgo;refine⟨F'',τ',R',ts[i],τ1,S3,rx,hb2,λσ3 R3 S4 hR3=>?_⟩
      have st3:Stp F H (tot R) F'' H'' (tot R3):=(st.trans e3.stp0).mono λa ⟨j,z⟩=>⟨j,hR3 j a z⟩
      refine⟨F'',τ1,R3,S4,?_⟩;cases hu:u τ1 with
      |none=>simp only[hu]at hgo;cases hgo
      |some o =>
       simp only[hu]at hgo;cases o with
       |nx τ2=>exact λF4 H4 σ4 R4 s4 S5=>⟨hlt,F4,τ2,R4,st3.trans s4,(sf.trans e3.ff).trans s4.ff,S5,hgo⟩
       |ct τ2=>exact λF4 H4 σ4 R4 s4 S5=>⟨hlt,F4,τ2,R4,st3.trans s4,(sf.trans e3.ff).trans s4.ff,S5,hgo⟩
       |bk τ2 =>
        cases hgo;exact λF4 H4 σ4 R4 s4 S5=>q F4 H4 σ4 R4 (st3.trans s4) S5
       |rt v =>
        cases hgo;exact λF4 H4 x B s4 r=>q F4 H4 x B (st3.trans s4) r
       |xc cc τ2 =>
        cases hgo;exact λF4 H4 σ4 R4 s4 S5=>q F4 H4 σ4 R4 (st3.trans s4) S5
    .have hi':i=ts.length:=by omega
     subst hi';refine .inl ⟨i2 rfl,?_⟩;rw[List.drop_length]at hgo;unfold Bh at hgo;cases hgo;exact q F' H' σ' R' st S'
end
section
variable {K:kA}{p:Addr}{o:HO}
theorem Rp.own_inv{x:V}{k:Kd}(h:Rp K F H (.nd true k l) x A):∃p xs Rr,x=.ref p/\A=(λa=>a=p\/∃j,Rr j a)/\F p=none/\H p=some (.lst xs)/\RpO K F H l xs Rr/\(∀j,¬ Rr j p)/\Ji k p:=by
 cases h with
 |own hk R f h e c d dp o=>exact⟨_,_,R,rfl,rfl,f,h,⟨e,c,d,o⟩,dp,hk⟩
theorem Oc{k:Kd}(hk:Ji k p)(r:RpO K F H l xs Rr)(f:F p=none)(h:H p=some (.lst xs))(dp:∀j,¬ Rr j p):Rp K F H (.nd true k l) (.ref p) (λa=>a=p\/∃j,Rr j a):=.own hk Rr f h r.len r.rep r.dis dp r.out
theorem RpO.upd(r:RpO K F H l xs Rr)(dp:∀j,¬ Rr j p):RpO K F (L2.upd H p o) l xs Rr:=⟨r.len,λi t x h1 h2=>(r.rep i t x h1 h2).frame (.refl _) λa z=>⟨Ac (λe=>dp i (e▸z)),(r.dom z).1⟩,r.dis,r.out⟩
theorem Rp.upd{t:T}{x:V}{A:Rg}(r:Rp K F H t x A)(dp:¬ A p):Rp K F (L2.upd H p o) t x A:=r.frame (.refl _) λa z=>⟨Ac (λe=>dp (e▸z)),(r.dom z).1⟩
theorem RpO.set(r:RpO K F H l xs Rr){j0:Nat}{t:T}{y:V}{B:Rg}(hj:j0<l.length)(rt:Rp K F H t y B)(d:∀j a,j≠j0->Rr j a->¬ B a):RpO K F H (l.set j0 t) (xs.set j0 y) (λj=>if j=j0 then B else Rr j):=by
 have hl:=r.len;refine⟨by simp[hl],λi t' x' h1 h2=>?_,λi k a hik z1 z2=>?_,λi a z=>?_⟩
 .by_cases hi:i=j0
  .subst hi;rw[yap hj]at h1;rw[yap (by omega)]at h2
   cases h1;cases h2
   simpa using rt
  .rw[yan (yay hi)]at h1 h2
   simpa[hi] using r.rep i t' x' h1 h2
 .by_cases hi:i=j0
  .simp only[hi,yet]at z1;have hk:¬ k=j0:=λz=>hik (hi.trans z.symm)
   simp only[hk,yeu]at z2;exact d k a hk z2 z1
  .simp only[hi,yeu]at z1
   by_cases hk:k=j0
   .simp only[hk,yet]at z2;exact d i a hi z1 z2
   .simp only[hk,yeu]at z2;exact r.dis i k a hik z1 z2
 .by_cases hi:i=j0
  .simp[hi];omega
  .simp only[hi,yeu]at z
   simpa using r.out i a z
theorem StR.upd(S:StR K F H σ τ R){i:Nat}{t t':T}{x:V}{A' B:Rg}(ht:τ[i]?=some (some t))(hx:σ[i]?=some (some x))(hp:R i p)(r':Rp K F (L2.upd H p o) t' x A')(hA:∀a,A' a->R i a\/B a)(hB:∀j a,R j a->¬ B a) :
  StR K F (L2.upd H p o) σ (τ.set i (some t')) (λj=>if j=i then A' else R j)/\Stp F H (λa=>Pu.tot R a\/B a) F (L2.upd H p o) (Pu.tot λj=>if j=i then A' else R j):=by
 have fp:F p=none:=(S.dom hp).1;have hi:i<τ.length:=(ya4.mp ht).1
 have fh':AZ F (L2.upd H p o):=λb u e=>by
  rw[Ac (λz=>by rw[z,fp]at e;cases e)]
  exact S.fh b u e
 refine⟨⟨fh',by simpa using S.len,λj t1 e=>?_,λj a z=>?_,λj k a hjk z1 z2=>?_⟩,⟨.refl _,fh',λb u n e=>?_,λb ⟨j,z⟩=>?_,λb u e=>.inl e⟩⟩
 .by_cases hj:j=i
  .subst hj;rw[yap hi]at e;cases e;exact⟨x,hx,by simpa using r'⟩
  .rw[yan (yay hj)]at e;obtain⟨y,e1,r1⟩:=S.rep j t1 e;exact⟨y,e1,by simpa[hj] using r1.upd (o:=o) (λz=>S.dis j i p hj z hp)⟩
 .by_cases hj:j=i
  .subst hj;exact⟨t',yap hi⟩
  .simp only[hj,yeu]at z;obtain⟨t1,e⟩:=S.out j a z;exact⟨t1,by rw[yan (yay hj)];exact e⟩
 .by_cases hj:j=i
  .simp only[hj,yet]at z1;have hk:¬ k=i:=λz=>hjk (hj.trans z.symm)
   simp only[hk,yeu]at z2
   rcases hA a z1 with w|w
   .exact S.dis i k a (yay hk) w z2
   .exact hB k a z2 w
  .simp only[hj,yeu]at z1
   by_cases hk:k=i
   .simp only[hk,yet]at z2
    rcases hA a z2 with w|w
    .exact S.dis i j a (yay hj) w z1
    .exact hB j a z1 w
   .simp only[hk,yeu]at z2;exact S.dis j k a hjk z1 z2
 .rw[Ac (λz=>n (.inl (by rw[z];exact⟨i,hp⟩)))]
  exact e
 .by_cases hj:j=i
  .simp only[hj,yet]at z
   rcases hA b z with w|w
   .exact .inl (.inl ⟨i,w⟩)
   .exact .inl (.inr w)
  .simp only[hj,yeu]at z;exact .inl (.inl ⟨j,z⟩)
end
def FR(τ:AO)(i:Nat):Option (Kd×List T):=match τ[i]? with
 |some (some (.nd true k l))=>some (k,l)
 |_=>none
theorem Od{k:Kd}(h:FR τ i=some (k,l)):τ[i]?=some (some (.nd true k l)):=by
 unfold FR at h;split at h
 .rename_i k' l' e;cases h;exact e
 .cases h
def Io(i:Nat)(m:AF):AH:=λτ=>match FR τ i with
 |some (kd,l)=>(match m τ with
  |some (.v t false)=>if l.length<BL then some (.nx (τ.set i (some (.nd true kd (l++[t]))))) else none
  |some (.v _ true)=>none
  |some (.x c)=>some (.xc c τ)
  |none=>none)
 |none=>none
def Ec(i:Nat)(m:AF):AH:=λτ=>match FR τ i with
 |some (kd,l)=>(match m τ with
  |some (.v (.nd _ .lst r) false)=>if l.length+r.length<=BL then some (.nx (τ.set i (some (.nd true kd (l++Ax r))))) else none
  |some (.v _ _)=>none
  |some (.x c)=>some (.xc c τ)
  |none=>none)
 |none=>none
def Il(i:Nat)(mk m:AF):AH:=λτ=>match m τ with
 |some (.v t false)=>(match FR τ i with
  |some (kd,l)=>(match mk τ with
   |some (.v (.int k) _)=>(match DB l.length k with
    |some j=>some (.nx (τ.set i (some (.nd true kd (l.set j t)))))
    |none=>none)
   |some (.v _ _)=>none
   |some (.x c)=>some (.xc c τ)
   |none=>none)
  |none=>none)
 |some (.v _ true)=>none
 |some (.x c)=>some (.xc c τ)
 |none=>none
variable {apos cpos p1:Pos}
section
variable {K:kA}{mn:AF}{k n:Expr}{pos3:Pos}
theorem zka{j:Int}{y:V}(g:Ct K F H R (.int j) b y B):y=.int j:=by
 cases b with
 |true=>obtain⟨_,A,_,r⟩:=g;exact r.int_inv
 |false=>exact(show Rp K F H _ _ _ from g).int_inv
theorem Ts{a:Addr}(h:∃j,(λj=>if j=l.length then B else Rr j) j a):(∃j,Rr j a)\/B a:=Tt (l:=l) h
theorem zi2{j0:Nat}{a:Addr}(h:∃j,(λj=>if j=j0 then B else Rr j) j a):(∃j,Rr j a)\/B a:=by
 obtain⟨j,z⟩:=h
 by_cases hj:j=j0
 .simp only[hj,yet]at z;exact .inr z
 .simp only[hj,yeu]at z;exact .inl ⟨j,z⟩
theorem s_app(hN:X.N[i]?=some x)(hv:DT X.env.scope x)(hd:(x == ("__debug__":Str))=false)(hcd:(x == ("__classdict__":Str))=false)(he:PE X e (tM X.K E ca m))(hs:starEach [e] X.env=[(false,eval e X.env)])(hline:(apos.endLine == cpos.line)=true) :
  PS X (.Expr (.Call (.Attribute (.Name x p1) "append" apos) [e] [] cpos) pos) (tS X.K E ca mu (Io i m)):=by
 refine PS.weak (O5 (Iz yda PySem.F.slot_list_append PySem.F.type_list_append zeh (Gp hN hv hd hcd) (Cf he DZ hs) rfl (by rw[hs];rfl) hline hs rfl) rfl) λD σ H h=>?_
 obtain⟨F,τ,R,S,q⟩:=h;unfold Io at q;cases ho:FR τ i with
 |none=>simp only[ho]at q<;>exact False.elim q
 |some kl =>
  obtain⟨kd,l⟩:=kl;simp only[ho]at q;have ht:=Od ho;obtain⟨y,ey,ry⟩:=S.rep i _ ht;obtain⟨p,xs,Rr,rfl,hA,fp,hp,ro,dp,hOw⟩:=ry.own_inv;refine⟨_,ey,.inl ⟨rfl,xs,AY.of hp⟩,F,τ,R,S,?_⟩;cases hm:m τ with
  |none=>simp only[hm]at q<;>exact False.elim q
  |some r =>
   simp only[hm]at q;cases r with
   |x c=>exact λF' H' e=>q F' H' σ R e.stp0 (S.ext e)
   |v t bb =>
    cases bb with
    |true=>exact q.elim
    |false =>
     intro F1 H1 y B e1 g1;have g1':Rp X.K F1 H1 t y B:=g1
     by_cases hz:l.length<BL
     .simp only[hz,yet]at q;have S1:=S.ext e1;have ro1:=ro.ext e1;have hp1:=e1.hh _ _ hp;have pB:¬ B p:=λz=>by rw[e1.nb p z]at hp;cases hp
      have fp1:F1 p=none:=(ry.ext e1 |>.dom (by rw[hA];exact .inl rfl)).1
      refine⟨p,xs,y,rfl,rfl,hp1,by rw[<- ro.len,<- Dl];exact hz,?_⟩
      have ro2:RpO X.K F1 (upd H1 p (.lst (xs++[y]))) (l++[t]) (xs++[y]) _:=(ro1.upd dp).snoc (g1'.upd pB) λj a z1 z2=>ro.apart e1 z2 j z1
      have dp2:∀j,¬ (if j=l.length then B else Rr j) p:=λj z=>by
       by_cases hj:j=l.length
       .simp only[hj,yet]at z;exact pB z
       .simp only[hj,yeu]at z;exact dp j z
      have r2:=Oc hOw ro2 fp1 Ba dp2
      obtain⟨S3,st3⟩:=S1.upd ht ey (by rw[hA];exact .inl rfl) r2 (B:=B) (λa z=>by
       rw[hA]
       rcases z with z|z
       .exact .inl (.inl z)
       .rcases Ts z with w|w
        .exact .inl (.inr w)
        .exact .inr w) (λj a z1 z2=>S.apart e1 z2 j z1)
      exact q F1 _ σ _ (e1.stp.trans st3) S3
     .simp only[hz,yeu]at q<;>exact False.elim q
theorem s_ext(hN:X.N[i]?=some x)(hv:DT X.env.scope x)(hd:(x == ("__debug__":Str))=false)(hcd:(x == ("__classdict__":Str))=false)(he:PE X e (tM X.K E ca m))(hs:starEach [e] X.env=[(false,eval e X.env)])(hline:(apos.endLine == cpos.line)=true) :
  PS X (.Expr (.Call (.Attribute (.Name x p1) "extend" apos) [e] [] cpos) pos) (tS X.K E ca mu (Ec i m)):=by
 refine PS.weak (O5 (Iz yda PySem.F.slot_list_extend PySem.F.type_list_extend zeg (Gp hN hv hd hcd) (Cf he DZ hs) rfl (by rw[hs];rfl) hline hs rfl) rfl) λD σ H h=>?_
 obtain⟨F,τ,R,S,q⟩:=h;unfold Ec at q;cases ho:FR τ i with
 |none=>simp only[ho]at q<;>exact False.elim q
 |some kl =>
  obtain⟨kd,l⟩:=kl;simp only[ho]at q;have ht:=Od ho;obtain⟨y,ey,ry⟩:=S.rep i _ ht;obtain⟨p,xs,Rr,rfl,hA,fp,hp,ro,dp,hOw⟩:=ry.own_inv;refine⟨_,ey,.inl ⟨rfl,xs,AY.of hp⟩,F,τ,R,S,?_⟩;cases hm:m τ with
  |none=>simp only[hm]at q<;>exact False.elim q
  |some r =>
   simp only[hm]at q;cases r with
   |x c=>exact λF' H' e=>q F' H' σ R e.stp0 (S.ext e)
   |v t bb =>
    cases t with
    |nd o kd2 r =>
     cases kd2 with
     |lst =>
      cases bb with
      |true=>exact q.elim
      |false =>
       intro F1 H1 y B e1 g1;obtain⟨F2,e2,_,r2⟩:=Ct.frz (b:=false) S e1 g1;have r2':Rp X.K F2 F2 (T.nd o .lst r).share y R0:=r2;rw[T.share]at r2';obtain⟨p2,ys,rfl,_,nn,kid⟩:=Cg r2'
       by_cases hz:l.length+r.length<=BL
       .simp only[hz,yet]at q;have S1:=S.ext e2;have ro1:=ro.ext e2;have hp1:=e2.hh _ _ hp;have fp1:F2 p=none:=(ry.ext e2 |>.dom (by rw[hA];exact .inl rfl)).1
        have hn2:F2 p2=some (.lst ys):=nn;have lr:r.length=ys.length:=by have:=kid.1;rw[DI,ya1]at this;exact this
        refine⟨p,p2,xs,ys,rfl,rfl,hp1,e2.fh _ _ hn2,by rw[<- ro.len,<- lr,<- Dl];exact hz,?_⟩
        have app:∀(l2:List T) (ys2:List V),A9 X.K F2 l2 ys2->∀(l:List T) (xs:List V) (H0:Hp),RpO X.K F2 H0 l xs Rr->RpO X.K F2 H0 (l++l2) (xs++ys2) Rr:=by
         intro l2
         induction l2 with
         |nil=>intro ys2 hk l xs H0 hro;rw[hk.inv0,yav,yav];exact hro
         |cons t l2 ih =>
          intro ys2 hk l xs H0 hro;obtain⟨y,ys',rfl,r1,rs1⟩:=hk.inv;have h2:=hro.snoc (r1.any (H':=H0)) (λ_ _ _ z=>z)
          have e3:(λj=>if j=l.length then R0 else Rr j)=Rr:=funext λj=>by
           by_cases hj:j=l.length
           .simp only[hj,yet];exact funext λa=>propext ⟨λz=>z.elim,λz=>absurd (hro.out _ a z) (ybb _)⟩
           .simp only[hj,yeu]
          rw[e3]at h2;have h3:=ih ys' rs1 (l++[t]) (xs++[y]) H0 h2
          simpa using h3
        have ro2:=app _ _ kid l xs _ (ro1.upd (o:=.lst (xs++ys)) dp);have r3:=Oc hOw ro2 fp1 Ba dp;obtain⟨S3,st3⟩:=S1.upd ht ey (by rw[hA];exact .inl rfl) r3 (B:=R0) (λa z=>.inl (by rw[hA];exact z)) (λj a z1 z2=>z2)
        exact q F2 _ σ _ ((e2.stp (O:=tot R)).trans st3) S3
       .simp only[hz,yeu]at q<;>exact False.elim q
     |_=>exact q.elim
    |_=>exact q.elim
theorem s_sto(hN:X.N[i]?=some x)(hv:DT X.env.scope x)(hd:(x == ("__debug__":Str))=false)(hcd:(x == ("__classdict__":Str))=false)(he:PE X e (tM X.K E ca m))(hk:PE X k (tM X.K E ca mk))(hs:swapsWithSole [.Subscript (.Name x p1) k pos2] e pos.line X.env=pure false)(hw:swappedStores [.Subscript (.Name x p1) k pos2] e X.env=pure none)
  (ha : ∀ v, assign (.Subscript (.Name x p1) k pos2) X.env v = (do
   let ov <- holding [v] (eval (.Name x p1) X.env);let iv <- holding [v,ov] (eval k X.env)
   standAt pos2
   holding [v,ov,iv] (setItem ov iv v)
   release [v,ov,iv] [])) :
  PS X (.Assign [.Subscript (.Name x p1) k pos2] e pos) (tS X.K E ca mu (Il i mk m)):=by
 refine PS.weak (O6 he (VA (Gp hN hv hd hcd) hk zfm ha) hs hw rfl) λD σ H h=>?_
 obtain⟨F,τ,R,S,q⟩:=h;refine⟨F,τ,R,S,?_⟩;unfold Il at q;cases hm:m τ with
 |none=>simp only[hm]at q<;>exact False.elim q
 |some r =>
  simp only[hm]at q;cases r with
  |x c=>exact λF' H' e=>q F' H' σ R e.stp0 (S.ext e)
  |v t bb =>
   cases bb with
   |true=>exact q.elim
   |false =>
    intro F1 H1 y B e1 g1;have g1':Rp X.K F1 H1 t y B:=g1;simp only at q;cases ho:FR τ i with
    |none=>simp only[ho]at q<;>exact False.elim q
    |some kl =>
     obtain⟨kd,l⟩:=kl;simp only[ho]at q;have S1:=S.ext e1;have ht:=Od ho;obtain⟨y2,ey,ry⟩:=S1.rep i _ ht;refine⟨y2,ey,F1,τ,R,S1,?_⟩;cases hkk:mk τ with
     |none=>simp only[hkk]at q<;>exact False.elim q
     |some r =>
      simp only[hkk]at q;cases r with
      |x c=>exact λF' H' e=>q F' H' σ R ((e1.stp0).trans e.stp0) (S1.ext e)
      |v tk bk =>
       cases tk with
       |int kk =>
        simp only at q;cases hj:DB l.length kk with
        |none=>simp only[hj]at q<;>exact False.elim q
        |some j =>
         simp only[hj]at q;intro F2 H2 z C e2 g2;have hz:=zka g2;subst hz;have S2:=S1.ext e2;have ry2:=ry.ext e2;obtain⟨p,xs,Rr,rfl,hA,fp,hp,ro,dp,hOw⟩:=ry2.own_inv;have hjl:=(QG hj).2.1;have g2':=g1'.ext e2
         have pB:¬ B p:=λz=>by
          have:R i p:=by rw[hA];exact .inl rfl
          exact S.apart e1 z i this
         refine⟨p,xs,kk,j,rfl,rfl,hp,by rw[<- ro.len];exact hj,?_⟩
         have ro2:RpO X.K F2 (upd H2 p (.lst (xs.set j y))) (l.set j t) (xs.set j y) _:=(ro.upd dp).set hjl (g2'.upd pB) λj' a _ z1 z2=>S.apart e1 z2 i (by rw[hA];exact .inr ⟨j',z1⟩)
         have dp2:∀j',¬ (if j'=j then B else Rr j') p:=λj' z=>by
          by_cases hj':j'=j
          .simp only[hj',yet]at z;exact pB z
          .simp only[hj',yeu]at z;exact dp j' z
         have r3:=Oc hOw ro2 fp Ba dp2
         obtain⟨S3,st3⟩:=S2.upd ht ey (by rw[hA];exact .inl rfl) r3 (B:=B) (λa z=>by
          rw[hA]
          rcases z with z|z
          .exact .inl (.inl z)
          .rcases zi2 z with w|w
           .exact .inl (.inr w)
           .exact .inr w) (λj a z1 z2=>S.apart e1 z2 j z1)
         exact q F2 _ σ _ ((e1.stp.trans e2.stp0).trans st3) S3
       |_=>exact q.elim
end
section
variable {K:kA}
inductive Mo where
 |ok (v:T) (τ:AO)|exc (c:Str) (τ:AO)
def Ie(K:kA)(ca:Str->Value)(g:List T->Option Ru):Sp:=λvs H Q E=>∃F p l ts A vs',AZ F H/\vs=.ref p::vs'/\Rp K F H (.nd true (.pin p) l) (.ref p) A/\A9 K F ts vs'/\match g (.nd true (.pin p) l::ts) with
 |some (.ok t)=>∀F' H' x B,Stp F H A F' H' B->Wr K true F' H' t x B->Q x H'
 |some (.exc c)=>∀F' H',Stp F H A F' H' R0->E (ca c) none H'
 |none=>False
variable {mm:AO->Option Mo}
end
abbrev Gq(A:Around):Around:={ A with handled:=none }
def RS(P:Program)(w:World)(K:kA)(mg:Str->Option Value)(base:Heap)(N:List Str)(qual:Str)(scope:Scope)(f:Addr)(cd:Value)(A:Around)(outer:List Env)(s:Shared)(H:Hp):Cx :=
 { ED HU P w K mg base N qual scope f cd (Gq A) outer s H E0 with A:=A.deeper (envOfC qual scope s.heap.objs.size f cd),calm:=false,xe:=λ_ _=>False }
structure FnS(P:Program)(w:World)(K:kA)(mg:Str->Option Value)(base:Heap)(k:Nat)(f:Addr)(fd:FuncData)(p:Str)(sp:Sp):Prop where
 run:∀(A:Around) (outer:List Env) (s:Shared) (H:Hp) (args:Args) (a:Addr) (Q:VK),A.handled=some (.ref a)->(∃C,EI H a C)->Room k (Gq A)->Env0 P w K mg base A outer s H->BindsTo s fd args [(p,.ref a)]->sp [.ref a] H Q E0 ->
  codeAny (model P w) A (.call (.ref f) args) (CR HU outer P w H s Q E0) s
variable {mg:Str->Option Value}{base:Heap}{fd:FuncData}{N:List Str}{sp:Sp}
theorem fnS{K:kA}{k:Nat}{f:Addr}{st:Stmt}{p:Str}(F:FunD K x qual st f fd)(S:FnScope N [p] (AL st))(hbody:∀(cdv:Value) (A:Around) (outer:List Env) (s:Shared) (H:Hp) (a:Addr) (Q:VK),A.handled=some (.ref a)->(∃C,EI H a C)->Room k (Gq (A.deeper (envOfC qual (AL st) s.heap.objs.size f cdv)))->sp [.ref a] H Q E0 ->
   ∃t,BE (RS P w K mg base N qual (AL st) f cdv A outer s H) (Ab st) t/\t { nx:=λ_ H'=>Q .non H',rt:=Q } (start N [.ref a]) H):FnS P w K mg base (k+1) f fd p sp:=by
 obtain⟨oc,od,dV,kV,doc,pm,an,cdv,ct,osl,rfl,lk,hcd⟩:=F.ex;refine⟨λA outer s H args a Q hh hX hr e0 hb hsp=>?_⟩
 have KX:K.In s.heap:=e0.mod.kin.keeps λb o e=>(e0.bs b o e).1
 have BL:s.heap.NoLimit:=e0.mod.nolimit.keeps λb o e=>(e0.bs b o e).1
 have hkind:∀y∈[p].zip [Value.ref a],(AL st).names.lookup y.1=some .local\/((AL st).names.lookup y.1=some .cell/\((cellsFrom (s.heap.objs.size+1) (AL st).names []).lookup y.1).isSome=true):=λ⟨n,v⟩ hy=>by
  rcases S.par n (ydw hy).1 with q|q
  .exact .inl q
  .exact .inr ⟨q,ydf _ _ _ (.inl q)⟩
 refine codeAny_call_function hr.depth (KX _ _ lk) rfl S.co S.gen rfl (PySem.W.codeRec_of KX hcd) (hb _ _ _ _ ?_);refine wpAny_newFunctionEnv_cells S.kind hkind λenv he s1 y=>?_
 subst he;refine⟨BL.keeps y.toInCall.keep,codeAny_func ?_⟩;obtain⟨t,ht,hq⟩:=hbody cdv A outer s H a Q hh hX (hr.deeper _) hsp;have e1:Env0 P w K mg base (Gq A) outer s H:=⟨e0.frames,e0.mod,e0.bs,e0.bsz,e0.funs,e0.frf,e0.hok,e0.bare⟩;have I0:Inv (ED HU P w K mg base N qual (AL st) f cdv (Gq A) outer s H E0) [] (start N [.ref a]) H s1:=XG (us:=[.ref a]) S hr.hd e1 rfl (.cons rfl .nil) y
 have I:Inv (RS P w K mg base N qual (AL st) f cdv A outer s H) [] (start N [.ref a]) H s1 :=
  ⟨⟨I0.ok.mod,I0.ok.kind,I0.ok.glob,I0.ok.blt,I0.ok.above,I0.ok.inj,I0.ok.has,I0.ok.cab,λz=>Bool.noConfusion z,Around.frames_deeper e0.frames,I0.ok.stk,I0.ok.exf,I0.ok.bs,I0.ok.bsz,I0.ok.noex,I0.ok.exfs,I0.ok.funs,I0.ok.frf⟩,I0.os,I0.bare,I0.base,I0.loc,I0.cell,I0.free,I0.freeC,I0.pin,I0.hok,I0.len⟩
 refine yeh (ht [] s1 (start N [.ref a]) H _ I hq) (λfl s' hs=>?_) λe s' hs=>False.elim hs
 have As:∀{σ':L2.St} {H':Hp} {v:V} {u:Value},Inv (RS P w K mg base N qual (AL st) f cdv A outer s H) [] σ' H' s'->RelV v u->Q v H'->CE outer P w H s Q u s' :=
  λ{σ' H' v u} J rv q=>⟨v,H',J.os,J.bare,J.base,J.hok,rv,q⟩
 cases fl with
 |ret u =>
  obtain⟨v,σ',H',J,rv,q⟩:=hs;exact As J rv q
 |next =>
  obtain⟨σ',H',J,q⟩:=hs;exact As (v:=V.non) (u:=Value.none) J rfl q
 |brk =>
  obtain⟨_,_,_,q⟩:=hs;exact False.elim q
 |cont =>
  obtain⟨_,_,_,q⟩:=hs;exact False.elim q
structure DefS(P:Program)(w:World)(K:kA)(mg:Str->Option Value)(base:Heap)(k:Nat)(x p:Str)(sp:Sp) where
 f:Addr
 fd:FuncData
 ok:FnS P w K mg base k f fd p sp
 m:mg x=some (.ref f)
 kp:PySem.W.keepIn K (.ref f)=true
 b:Dg K fd [p] []
theorem px_s{k:Nat}{a:Addr}{p:Str}{q q2:Pos}(D:DefS X.prog X.w X.K X.mg X.base k x p sp)(hr:Room j (Gq X.A))(hh:X.A.handled=some (.ref a))(hk:k<=j)(hv:PE X (.Name y q2) (KO i))(hg:Gl X x)(hdb:(x == ("__debug__":Str))=false) :
  PE X (.Call (.Name x q) [.Name y q2] [] pos) (λσ H Q=>σ[i]?=some (some (.ref a))/\(∃C,EI H a C)/\sp [.ref a] H Q E0):=by
 intro pins s σ H Q I h;obtain⟨h1,h2,h3⟩:=h;refine yer (Ho I hg D.m ?_ hdb);refine yd3 (h₀:=X.base) I.ok.mod.kin D.kp (AS ((Cf hv DZ:PA X [.Name y q2] _) pos pins s σ H (λvs H1=>vs=[V.ref a]/\H1=H) I ⟨_,h1,rfl,rfl⟩) λus s1 ⟨vs,H1,I1,r,e1,e2⟩=>⟨I1.kIn,?_⟩) rfl rfl
 subst e1 e2;obtain⟨u,rfl,ru⟩:=E6 r;cases ru;refine yf1 (yex (D.ok.run X.A X.stack s1 H1 ⟨_,[]⟩ a Q hh h2 (hr.mono hk) I1.env0 (D.b s1 [.ref a] I1.kIn rfl) h3) λr s' hq=>?_)
 cases r with
 |error v=>exact False.elim hq
 |ok fl =>
  cases fl with
  |ret u=>exact I1.after hq
  |_=>exact False.elim hq
section
variable {a:Addr}
end
section
def tDicO:TE:=λ_ H Q=>∀p,H p=none->Q (.ref p) (upd H p (.dK []))
theorem ziv:PE X (.Dict [] [] pos) tDicO:=λpins s σ H Q I h=>by
 refine wpAny_Dict_empty ⟨.ref s.heap.objs.size,_,I.laid (a:=s.heap.objs.size) (o:=.dK []) (t':=s.toks) (λ_ _ q=>ya8 _ q) (yac _) (RH s.heap I.big),rfl,h _ (I.hok.fresh (yac _))⟩
end
section
variable {mv:AF}{k:Expr}
end
section
variable {k:Expr}
end
def MU:List T->List T->Bool
 |[],[]=>true
 |a::r,b::q=>Bm a && Bm b && decide (min a.data.depth b.data.depth<=60) && PyData.eqv a.data b.data && MU r q
 |_,_=>false
def WX(t u:T):Option T:=match t,u with
 |.dic ks l,.dic ks' l'=>if ks=ks'/\ks.Nodup/\MU (Ax l) (Ax l')=true then some (.bl false) else none
 |_,_=>none
theorem XS{A:Around}{s:Shared}{kb:List (Key×Value)}:∀{ka:List (Key×Value)},(∀k v,(k,v)∈ka->∃y,valueAt kb k=some y/\SeqAt.EqAt A s v y true)->PySem.W.KeqHits A s kb ka true
 |[],_=>.nil
 |(k,v)::r,h=>by
  obtain⟨y,h1,h2⟩:=h k v (ya9 ..);exact PySem.W.KeqHits.hit (e:=true) (b:=true) h1 h2 (XS λk' v' hm=>h k' v' (ya7 _ hm))
theorem Z6:∀{l l':List T},MU l l'=true->l.length=l'.length/\∀(i:Nat) (a b:T),l[i]?=some a->l'[i]?=some b->Bm a=true/\Bm b=true/\min a.data.depth b.data.depth<=60/\PyData.eqv a.data b.data=true
 |[],[],_=>⟨rfl,λi a b h=>by simp at h⟩
 |a::r,b::q,h=>by
  unfold MU at h;rw[ya3,ya3,ya3,ya3,yf6]at h;obtain⟨⟨⟨⟨h1,h2⟩,h3⟩,h4⟩,h5⟩:=h;obtain⟨e,k⟩:=Z6 h5;refine⟨by simp[e],λi a' b' x y=>?_⟩
  cases i with
  |zero =>
   simp at x y;subst x y;exact⟨h1,h2,h3,h4⟩
  |succ i=>exact k i a' b' (by simpa using x) (by simpa using y)
 |[],_::_,h=>by cases h
 |_::_,[],h=>by cases h
theorem Wt(h:ks.length=xs.length)(hi:i<ks.length):∃k x,ks[i]?=some k/\xs[i]?=some x/\(CO ks xs)[i]?=some (Sum.inl k,x):=by
 have hx:i<xs.length:=by omega
 refine⟨ks[i],xs[i],ya0 hi,ya0 hx,?_⟩;unfold CO;rw[ycr,ya0 hi,ya0 hx]
theorem zjy{κ:Type}{kvs:List (κ×V)}{vs:List (κ×Value)}(r:KV kvs vs):vs.map (·.1)=kvs.map (·.1):=by
 have r':Paired (λ(p:κ×V) (q:κ×Value)=>p.1=q.1/\RelV p.2 q.2) kvs vs:=r
 induction r' with
 |nil=>rfl
 |cons hd tl ih=>rw[yae,yae,ih tl,hd.1]
theorem zgo(h:ks.length=xs.length):(CO ks xs).map (·.1)=ks.map Sum.inl:=by
 induction ks generalizing xs with
 |nil=>cases xs<;>rfl
 |cons k ks ih =>
  cases xs with
  |nil=>simp at h
  |cons x r =>
   have:=ih (xs:=r) (by simpa using h)
   unfold CO at this ⊢;rw[ydj,yae,yae,this]
theorem zj9(hu:X.A.units+64<cLine):A6 X (compareOp .NotEq) (BS X.K WX):=by
 intro pins s σ H x y v u Q I rx ry h;obtain⟨F,t1,t2,r,fh,r1,r2,e,q⟩:=h;unfold WX at e;split at e
 .split at e
  .rename_i ks l ks' l' hc;obtain⟨rfl,nd,al⟩:=hc;cases e;obtain⟨p,ob,xs,rfl,hp,ek,rs⟩:=IC r1;obtain⟨p',ob',xs',rfl,hp',ek',rs'⟩:=IC r2;cases rx;cases ry;obtain⟨z,hd,vs,rel,dd⟩:=IB I.hok (.inr ⟨ob,fh _ _ hp⟩);obtain⟨z',hd',vs',rel',dd'⟩:=IB I.hok (.inr ⟨ob',fh _ _ hp'⟩);obtain⟨al1,al2⟩:=Z6 al;have len:vs.length=vs'.length:=by rw[<- Dz rel,<- Dz rel',Hq ek,Hq ek',<- ek,<- ek']
   have nd':(vs'.map (·.1)).Nodup:=by
    rw[zjy rel',zgo ek'];exact List.Pairwise.map _ (λa b h c=>h (Sum.inl.inj c)) nd
   refine PySem.W.keq_ne (r:=true) hd hd' dd dd' (by omega) (λ_=>XS λk v hm=>?_) ?_
   .obtain⟨i,hi⟩:=ybe.mp hm;have hiv:i<vs.length:=(ya4.mp hi).1;have hik:i<ks.length:=by rw[ek,<- Hq ek,Dz rel];exact hiv
    obtain⟨k1,x1,e1,e2,e3⟩:=Wt ek hik;obtain⟨k2,x2,e4,e5,e6⟩:=Wt ek' hik;rw[e1]at e4;cases e4;obtain⟨u1,g1,g2⟩:=Px rel e3;rw[hi]at g1;cases g1;obtain⟨u2,g3,g4⟩:=Px rel' e6;refine⟨u2,valueAt_of_get nd' g3,?_⟩;have hl:i<(Ax l).length:=by rw[rs.1,<- ek];exact hik
    have hl':i<(Ax l').length:=by rw[rs'.1,<- ek'];exact hik
    obtain⟨f1,f2,f3,f4⟩:=al2 i _ _ (ya0 hl) (ya0 hl');unfold Bm at f1 f2;rw[ya3]at f1 f2;obtain⟨a1,q1⟩:=Ds I fh ((rs.2 i _ _ (ya0 hl) e2).any) f1.1 g2;obtain⟨a2,q2⟩:=Ds I fh ((rs'.2 i _ _ (ya0 hl') e5).any) f2.1 g4;rw[<- f4];refine SeqAt.eqAt_reads _ _ _ s _ _ _ _ q1 q2 f1.2 f2.2 ?_;show X.A.units+1+_<cLine
    omega
   .rw[len];simp only[yf8,ye8,ydm];exact⟨.bl false,H,I,rfl,q.bl fh⟩
  .cases e
 .cases e
theorem MG{t:T}(h:d0 t=true):t=.dic [] []:=by
 unfold d0 at h;split at h
 .rfl
 .cases h
theorem Z5:∀{l l':List T},Es l l'=true->l.length=l'.length/\∀(i:Nat) (a b:T),l[i]?=some a->l'[i]?=some b->(Bm a=true/\Bm b=true/\min a.data.depth b.data.depth<=60/\PyData.eqv a.data b.data=true)\/(a=.dic [] []/\b=.dic [] [])\/FJ a b=true
 |[],[],_=>⟨rfl,λi a b h=>by simp at h⟩
 |a::r,b::q,h=>by
  unfold Es at h;rw[ya3,ybm,ya3,ya3,ya3,ybm,ya3,yf6]at h;obtain⟨h1,h5⟩:=h;obtain⟨e,k⟩:=Z5 h5;refine⟨by simp[e],λi a' b' x y=>?_⟩
  cases i with
  |zero =>
   simp at x y;subst x y;exact h1.elim (λz=>.inl ⟨z.1.1.1,z.1.1.2,z.1.2,z.2⟩) λz=>.inr (z.elim (λz=>.inl ⟨MG z.1,MG z.2⟩) .inr)
  |succ i=>exact k i a' b' (by simpa using x) (by simpa using y)
 |[],_::_,h=>by cases h
 |_::_,[],h=>by cases h
theorem Y5{P':Program}{w':World}{h:Heap}{a:Addr}(d:Heap.DictOf (Bl P w) h a []):Heap.DictOf (Bl P' w') h a []:=by
 obtain⟨o,es,ep,h1,h2,h3,h4,h5,h6⟩:=d;have e:es.toList=[]:=yck.mp h5.length;have e':es=#[]:=Array.toList_eq_nil_iff.mp e;subst e';exact⟨o,#[],ep,h1,h2,h3,by intro i h;simp at h,.nil,.nil⟩
theorem L5{K:kA}{p:Addr}{x:V}(h:Rp K F H (.obj (.lab p) l) x A):x=.ref p:=by
 cases h with
 |obj n e c=>rw[n.1]
theorem UK{a b:T}(h:FJ a b=true):∃p l l',a=.obj (.lab p) l/\b=.obj (.lab p) l':=by
 unfold FJ at h;split at h
 .rw[eq_of_beq h];exact⟨_,_,_,rfl,rfl⟩
 .cases h
theorem zhg(hu:X.A.units+64<cLine){pins:_}{t1 t2:T}{x y:V}{v u:Value}(I:Inv X pins σ H s)(fh:AZ F H)(c1:Rp X.K F F t1 x R0)(c2:Rp X.K F F t2 y R0)(w1:RelV x v)(w2:RelV y u)(h:(Bm t1=true/\Bm t2=true/\min t1.data.depth t2.data.depth<=60/\PyData.eqv t1.data t2.data=true)\/(t1=.dic [] []/\t2=.dic [] [])\/FJ t1 t2=true):SeqAt.EqAt X.A.in1 s v u true:=by
 rcases h with ⟨f1,f2,f3,f4⟩|⟨z1,z2⟩|z3
 .unfold Bm at f1 f2;rw[ya3]at f1 f2;obtain⟨a1,q1⟩:=Ds I fh c1.any f1.1 w1;obtain⟨a2,q2⟩:=Ds I fh c2.any f2.1 w2;rw[<- f4];refine SeqAt.eqAt_reads _ _ _ s _ _ _ _ q1 q2 f1.2 f2.2 ?_;show X.A.units+1+_<cLine
  omega
 .rw[z1]at c1;rw[z2]at c2;obtain⟨b1,ob,vs,e1,hp,ek,_⟩:=IC c1;obtain⟨b2,ob',vs',e2,hp',ek',_⟩:=IC c2;rw[e1]at w1;rw[e2]at w2;have w1':v=.ref b1:=w1;have w2':u=.ref b2:=w2;rw[w1',w2'];obtain⟨z,hd,ks,rel,dd⟩:=IB I.hok (.inr ⟨ob,fh _ _ hp⟩);obtain⟨z',hd',ks',rel',dd'⟩:=IB I.hok (.inr ⟨ob',fh _ _ hp'⟩);have l1:ks.length=0:=by rw[<- Dz rel,Hq ek,<- ek];rfl
  have l2:ks'.length=0:=by rw[<- Dz rel',Hq ek',<- ek'];rfl
  have m1:ks=[]:=yck.mp l1;have m2:ks'=[]:=yck.mp l2
  by_cases hb:b1=b2
  .subst hb;exact SeqAt.EqAt.same _
  .refine SeqAt.EqAt.of_refs hb λprog w E Q' hq=>?_
   subst m1 m2;exact PySem.W.keq_eq (r:=true) hd hd' (Y5 dd) (Y5 dd') (by show X.A.units+1<cLine;omega) (λ_=>.nil) hq
 .obtain⟨p0,l1,l2,e1,e2⟩:=UK z3;rw[e1]at c1;rw[e2]at c2;have w1':v=.ref p0:=by rw[L5 c1]at w1;exact w1
  have w2':u=.ref p0:=by rw[L5 c2]at w2;exact w2
  rw[w1',w2'];exact SeqAt.EqAt.same _
theorem Z4(hu:X.A.units+64<cLine){pins:_}{m:List T}{ys:List V}{its its':List Value}(I:Inv X pins σ H s)(fh:AZ F H)(hc:Es l m=true)(k1:A9 X.K F l xs)(k2:A9 X.K F m ys)(rv:A5 xs its)(rv':A5 ys its'):its.length=its'.length/\∀j (h1:j<its.toArray.size) (h2:j<its'.toArray.size),SeqAt.EqAt X.A.in1 s its.toArray[j] its'.toArray[j] true:=by
 obtain⟨al1,al2⟩:=Z5 hc;refine⟨by rw[<- rv.length,<- rv'.length,<- k1.1,<- k2.1,al1],λj h1 h2=>?_⟩
 rw[yak]at h1 h2;rw[List.getElem_toArray,List.getElem_toArray];have hx:j<xs.length:=by rw[rv.length];exact h1
 have hy:j<ys.length:=by rw[rv'.length];exact h2
 obtain⟨u1,g1,w1⟩:=rv.get (ya0 hx);obtain⟨u2,g2,w2⟩:=rv'.get (ya0 hy);rw[ya0 h1]at g1;rw[ya0 h2]at g2;cases g1;cases g2;exact zhg hu I fh (k1.2 j _ _ (ya0 (by rw[k1.1];exact hx)) (ya0 hx)) (k2.2 j _ _ (ya0 (by rw[k2.1];exact hy)) (ya0 hy)) w1 w2 (al2 j _ _ (ya0 (by rw[k1.1];exact hx)) (ya0 (by rw[k2.1];exact hy)))
theorem zj8(hu:X.A.units+64<cLine):A6 X (compareOp .NotEq) (BS X.K LJ):=by
 intro pins s σ H x y v u Q I rx ry h;obtain⟨F,t1,t2,r,fh,r1,r2,e,q⟩:=h;unfold LJ at e;split at e
 .split at e
  .rename_i hc;cases e;obtain⟨p,xs,rfl,rfl,n1,k1⟩:=Cg r1;obtain⟨p',ys,rfl,rfl,n2,k2⟩:=Cg r2;cases rx;cases ry;obtain⟨its,rv,pl,_⟩:=I.list (AY.of (fh _ _ n1));obtain⟨its',rv',pl',_⟩:=I.list (AY.of (fh _ _ n2));obtain⟨len,al⟩:=Z4 hu I fh hc k1 k2 rv rv';refine SeqAt.RcNeAt.lists (A:=X.A) (s:=s) (e:=λ_=>true) pl.isList pl'.isList (by rw[yak,yak];exact len) (by omega) al _ _ _ _ ?_
   rw[show(!(List.range its.toArray.size).all λ_=>true)=false by simp]
   exact⟨.bl false,H,I,rfl,q.bl fh⟩
  .cases e
 .cases e
theorem Oe(hu:X.A.units+64<cLine):A6 X (compareOp .NotEq) (BS X.K Ci):=by
 intro pins s σ H x y v u Q I rx ry h;obtain⟨F,t1,t2,r,fh,r1,r2,e,q⟩:=h;unfold Ci at e;split at e
 .cases e;rename_i hc;unfold E1 Bm at hc;rw[ya3,ya3,ya3,ya3,yf6]at hc;obtain⟨a1,q1⟩:=Ds I fh (r1.any) hc.1.1.1 rx;obtain⟨a2,q2⟩:=Ds I fh (r2.any) hc.1.2.1 ry;exact SeqAt.compareNe_reads q1 q2 hc.1.1.2 hc.1.2.2 (Y6 hu hc.2) ⟨.bl _,H,I,rfl,q.bl fh⟩
 .exact zj8 hu pins s σ H x y v u Q I rx ry ⟨F,t1,t2,_,fh,r1,r2,e,q⟩
def unl1:T->T
 |.obj k l=>(match k,l with
  |.lab _,[t]=>t
  |k,l=>.obj k l)
 |t=>t
def FD:T->T
 |.nd o k l=>.nd o k (l.map unl1)
 |t=>unl1 t
theorem Rp.unl1{K:kA}{F H:Hp}{t:T}{x:V}{A:Rg}(h:Rp K F H t x A):Rp K F H (Pu.unl1 t) x A:=by
 unfold Pu.unl1;split
 .split
  .cases h with
   |obj n e c =>
    obtain⟨rfl,rfl⟩:=n;exact c 0 _ _ rfl rfl
  .exact h
 .exact h
theorem Rp.unl{K:kA}{t:T}{x:V}(h:Rp K F H t x A):Rp K F H (FD t) x A:=by
 unfold FD;split
 .cases h with
  |shr n e c =>
   refine .shr n (by rw[ya1];exact e) λi t x h1 h2=>?_
   rw[ya5]at h1;obtain⟨t0,e0,rfl⟩:=ya2.mp h1;exact(c i t0 x e0 h2).unl1
  |own hk R f h e c d dp o =>
   refine .own hk R f h (by rw[ya1];exact e) (λi t x h1 h2=>?_) d dp λi a z=>by rw[ya1];exact o i a z
   rw[ya5]at h1;obtain⟨t0,e0,rfl⟩:=ya2.mp h1;exact(c i t0 x e0 h2).unl1
 .exact h.unl1
theorem StR.frz{K:kA}{F H:Hp}{σ:L2.St}{τ:AO}{R:Nat->Rg}{i:Nat}{t:T}(S:StR K F H σ τ R)(ht:τ[i]?=some (some t)):StR K (Pu.frz F H (R i)) H σ (τ.set i (some t.share)) (λj=>if j=i then R0 else R j):=by
 obtain⟨x,ex,r⟩:=S.rep i t ht;have hi:i<τ.length:=(ya4.mp ht).1;have n:∀a,R i a->F a=none:=λa z=>(r.dom z).1
 refine⟨Hw S.fh,by simpa using S.len,λj t' e=>?_,λj a z=>?_,λj k a hjk z1 z2=>?_⟩
 .by_cases hj:j=i
  .subst hj;rw[yap hi]at e;cases e;exact⟨x,ex,by simpa using r.share (EZ n) λa u z q=>by rw[GO z];exact q⟩
  .rw[yan (yay hj)]at e;obtain⟨y,e1,r1⟩:=S.rep j t' e;refine⟨y,e1,?_⟩;simp only[hj,yeu]
   exact r1.frame (EZ n) λa z=>⟨rfl,by
    rw[F9 (λz'=>S.dis j i a hj z z')]
    exact(r1.dom z).1⟩
 .by_cases hj:j=i
  .simp only[hj,yet]at z;exact z.elim
  .simp only[hj,yeu]at z;obtain⟨t',e⟩:=S.out j a z;exact⟨t',by rw[yan (yay hj)];exact e⟩
 .by_cases hj:j=i
  .simp only[hj,yet]at z1;exact z1.elim
  .by_cases hk:k=i
   .simp only[hk,yet]at z2;exact z2.elim
   .simp only[hj,yeu]at z1;simp only[hk,yeu]at z2;exact S.dis j k a hjk z1 z2
section
variable {K:kA}{w:AH}
end
def JQ:T->Bool
 |.obj k _=>(match k with
  |.lab _=>true
  |_=>false)
 |_=>false
def pin1(p:Addr)(t:T):T:=if t.flat || JQ t then t else .obj (.lab p) [t]
def Dk(ps:Nat->Addr):T->T
 |.nd o k l=>.nd o k (l.mapIdx λi t=>pin1 (ps i) t)
 |t=>pin1 (ps 0) t
open Classical in
def Fu(i:Nat)(w:AH):AH:=λτ=>match τ[i]? with
 |some (some t)=>if t.sh=true then (if h:∃r,∀ps,w (τ.set i (some (Dk ps t)))=some r then some (Classical.choose h) else none) else none
 |_=>none
theorem Uy{w:AH}{t:T}{r:Out}(ht:τ[i]?=some (some t))(hs:t.sh=true)(h:∀ps,w (τ.set i (some (Dk ps t)))=some r):Fu i w τ=some r:=by
 unfold Fu;have hx:∃r,∀ps,w (τ.set i (some (Dk ps t)))=some r:=⟨r,h⟩;simp only[ht];rw[if_pos hs,dif_pos hx,<- Classical.choose_spec hx λ_=>0]
 exact h λ_=>0
def Ki(i:Nat):AH:=λτ=>match τ[i]? with
 |some (some t)=>some (.nx (τ.set i (some (FD t))))
 |_=>none
section
variable {K:kA}{t:T}{x:V}
theorem Rp.refOf(h:Rp K F H t x A)(n:t.flat=false):∃p,x=.ref p:=by
 cases h with
 |non=>cases n
 |bl b=>cases n
 |int i=>cases n
 |str y=>cases n
 |_=>exact⟨_,rfl⟩
theorem Rp.pin1(h:Rp K F H t x A)(s:t.sh=true){p:Addr}(hp:∀q,x=.ref q->q=p):Rp K F H (Pu.pin1 p t) x A:=by
 unfold Pu.pin1;split
 .exact h
 .rename_i hn;rw[ybm,not_or]at hn;obtain⟨q,rfl⟩:=h.refOf (by simpa using hn.1)
  have e:=hp q rfl;subst e;have e:=h.r0 s;subst e
  exact .obj (k:=.lab q) (xs:=[.ref q]) ⟨rfl,rfl⟩ rfl λi t' x' h1 h2=>by
   cases i with
   |zero =>
    cases h1;cases h2;exact h
   |succ i=>simp at h1
def O7:Option V->Addr
 |some (.ref q)=>q
 |_=>0
theorem Rp.pin(h:Rp K F H t x A)(s:t.sh=true):∃ps,Rp K F H (Dk ps t) x A:=by
 unfold Dk;split
 .rename_i o k l;cases h with
  |@shr _ p xs _ n e c =>
   refine⟨λi=>O7 xs[i]?,.shr n (by rw[List.length_mapIdx];exact e) λi t x h1 h2=>?_⟩
   rw[ycg]at h1;obtain⟨t0,e0,rfl⟩:=ya2.mp h1;rw[T.sh,ya3]at s;exact(c i t0 x e0 h2).pin1 (UD s.2 e0) λq hq=>by show q=O7 xs[i]?;rw[h2,hq];rfl
  |own hk R f h e c d dp o =>
   rw[T.sh]at s;cases s
 .exact⟨λ_=>O7 (some x),h.pin1 s λq hq=>by rw[hq];rfl⟩
theorem StR.chg{t':T}(S:StR K F H σ τ R)(ht:τ[i]?=some (some t))(h:∃x,σ[i]?=some (some x)/\Rp K F H t' x (R i)):StR K F H σ (τ.set i (some t')) R:=by
 have hi:i<τ.length:=(ya4.mp ht).1;refine⟨S.fh,by simpa using S.len,λj u e=>?_,λj a z=>?_,S.dis⟩
 .by_cases hj:j=i
  .subst hj;rw[yap hi]at e;cases e;exact h
  .rw[yan (yay hj)]at e;exact S.rep j u e
 .by_cases hj:j=i
  .subst hj;exact⟨t',yap hi⟩
  .obtain⟨u,e⟩:=S.out j a z;exact⟨u,by rw[yan (yay hj)];exact e⟩
end
section
variable {K:kA}{w:AH}{rest:List Stmt}
theorem zl7(h:tS K E ca mu (Fu i w) D σ H):tS K E ca mu w D σ H:=by
 obtain⟨F,τ,R,S,q⟩:=h;unfold Fu at q;cases ht:τ[i]? with
 |none=>rw[ht]at q;exact q.elim
 |some ot =>
  rw[ht]at q;cases ot with
  |none=>exact q.elim
  |some t =>
   simp only at q
   by_cases hs:t.sh=true
   .rw[if_pos hs]at q
    by_cases hx:∃r,∀ps,w (τ.set i (some (Dk ps t)))=some r
    .rw[dif_pos hx]at q;obtain⟨x,ex,r⟩:=S.rep i t ht;obtain⟨ps,rp⟩:=r.pin hs;refine⟨F,_,R,S.chg ht ⟨x,ex,rp⟩,?_⟩;rw[Classical.choose_spec hx ps];exact q
    .rw[dif_neg hx]at q;exact q.elim
   .rw[if_neg hs]at q;exact q.elim
theorem zl5(h:tS K E ca mu (AI (Ki i) w) D σ H):tS K E ca mu w D σ H:=by
 obtain⟨F,τ,R,S,q⟩:=h;unfold AI Ki at q;cases ht:τ[i]? with
 |none=>rw[ht]at q;exact q.elim
 |some ot =>
  rw[ht]at q;cases ot with
  |none=>exact q.elim
  |some t =>
   obtain⟨x,ex,r⟩:=S.rep i t ht;exact⟨F,_,R,S.chg ht ⟨x,ex,r.unl⟩,q⟩
theorem s_pin(h:BE X rest (tS X.K E ca mu w)):BE X rest (tS X.K E ca mu (Fu i w)):=BE.weak h λD σ H h=>zl7 h
theorem s_unl(h:BE X rest (tS X.K E ca mu w)):BE X rest (tS X.K E ca mu (AI (Ki i) w)):=BE.weak h λD σ H h=>zl5 h
end
def gU(g:List T->Option Ru):List T->Option Ru:=λts=>g (ts.map FD)
variable {vs:List V}
theorem spP_U{K:kA}{g:List T->Option Ru}{E:XK}(h:BJ K ca (gU g) vs H Q E):BJ K ca g vs H Q E:=by
 obtain⟨F,ts,fh,rs,q⟩:=h;refine⟨F,ts.map FD,fh,⟨by rw[ya1];exact rs.1,λi t x h1 h2=>?_⟩,q⟩
 rw[ya5]at h1;obtain⟨t0,e0,rfl⟩:=ya2.mp h1;exact(rs.2 i t0 x e0 h2).unl
def RI{P:Program}{w:World}{K:kA}{mg:Str->Option Value}{base:Heap}{ca:Str->Value}{k:Nat}{x:Str}{ps:List Str}{g:List T->Option Ru}(D:DefX P w K mg base k x ps (BJ K ca g)):DefX P w K mg base k x ps (BJ K ca (gU g)):=⟨D.f,D.fd,D.ok.imp λ_ _ _ _ h=>spP_U h,D.m,D.kp,D.b⟩
variable {f:Str}
theorem Wc{fs:List Str}:∀{j:Nat} {x:V},fs.findIdx? (· == f)=some j->xs[j]?=some x->(fs.zip xs).lookup f=some x:=by
 induction fs generalizing xs with
 |nil=>intro j x h;simp at h
 |cons g r ih =>
  intro j x h hx;rw[ye5]at h;cases xs with
  |nil=>simp at hx
  |cons y ys =>
   rw[yco,yb3]
   by_cases hg:g=f
   .subst hg;simp only[yf8,yet,yeb]at h;subst h;simp at hx;rw[yf8,hx]
   .have h1:(g == f)=false:=beq_eq_false_iff_ne.mpr hg;have h2:(f == g)=false:=beq_eq_false_iff_ne.mpr (yay hg);rw[h1]at h;simp only[yca,yeu,ya2]at h;obtain⟨j',h3,rfl⟩:=h;rw[h2];exact ih h3 (by simpa using hx)
theorem zam{fs:List Str}(h:fs.contains f=false):(fs.zip xs).lookup f=none:=by
 induction fs generalizing xs with
 |nil=>rfl
 |cons g r ih =>
  cases xs with
  |nil=>rfl
  |cons y ys =>
   rw[ye4,ybt]at h;rw[yco,yb3,h.1];exact ih h.2
theorem Rp.obj_inv{K:kA}{k:Ob}{x:V}(h:Rp K F H (.obj k l) x A):∃p xs,x=.ref p/\A=R0/\Jj F k p xs/\l.length=xs.length/\∀(i:Nat) (t:T) (x:V),l[i]?=some t->xs[i]?=some x->Rp K F H t x R0:=by
 cases h with
 |obj h e c=>exact⟨_,_,rfl,rfl,h,e,c⟩
noncomputable def DQ(C:Addr)(fs:List Str):T->Option (List T)
 |.obj (.ins C' fs') l=>if C'=C/\fs'=fs then some l else none
 |_=>none
theorem XJ{fs:List Str}{t:T}(h:DQ C fs t=some l):t=.obj (.ins C fs) l:=by
 unfold DQ at h;split at h
 .split at h
  .rename_i hc;cases h;rw[hc.1,hc.2]
  .cases h
 .cases h
def Bs(C:Addr)(fs:List Str)(j:Nat)(m:AF):AF:=λτ=>match m τ with
 |some (.v t b)=>(match DQ C fs t with
  |some l=>(match l[j]? with
   |some u=>some (.v u (b && !u.sh))
   |none=>none)
  |none=>none)
 |some (.x c)=>some (.x c)
 |none=>none
def DN(C:Addr)(fs:List Str)(g:List T->Option Ru)(m:AF)(ms:Ao):AF:=λτ=>match m τ with
 |some (.v t _)=>(match DQ C fs t with
  |some _=>(match ms τ with
   |some (.v ts b)=>(match g (t.share::ts) with
    |some (.ok v)=>As b v
    |some (.exc c)=>some (.x c)
    |none=>none)
   |some (.x c)=>some (.x c)
   |none=>none)
  |none=>none)
 |some (.x c)=>some (.x c)
 |none=>none
def Cj(m n:AF):AF:=λτ=>match m τ with
 |some r=>some r
 |none=>n τ
variable {pl:Sem Bool}
section
variable {n:AF}{fs:List Str}
theorem Kr(h1:PE X e (tM X.K E ca m))(h2:PE X e (tM X.K E ca n)):PE X e (tM X.K E ca (Cj m n)):=λpins s σ H Q I h=>by
 obtain⟨F,τ,R,S,q⟩:=h;unfold Cj at q;cases hm:m τ with
 |none =>
  rw[hm]at q;exact h2 pins s σ H Q I ⟨F,τ,R,S,q⟩
 |some r =>
  rw[hm]at q;exact h1 pins s σ H Q I ⟨F,τ,R,S,by rw[hm];exact q⟩
theorem Lh{K:kA}{k:Ob}{x:V}(g:Ct K F H R (.obj k l) b x B):Rp K F H (.obj k l) x R0/\B=R0:=by
 cases b with
 |true =>
  obtain⟨hB,A,_,r⟩:=g;obtain⟨p,xs,rfl,hA,_⟩:=r.obj_inv;exact⟨hA▸r,hB⟩
 |false =>
  have r:Rp K F H (.obj k l) x B:=g;obtain⟨p,xs,rfl,hA,_⟩:=r.obj_inv;exact⟨hA▸r,hA⟩
theorem r_fld(c:Cls X.K C)(hn:CJ X.K C f)(hj:fs.findIdx? (· == f)=some j)(ho:PE X o (tM X.K E ca m))(hb:attributeBase o f X.env (eval o X.env)=eval o X.env):PE X (.Attribute o f pos) (tM X.K E ca (Bs C fs j m)):=by
 refine PE.weak (VG ho hb) λσ H Q h=>?_
 obtain⟨F,τ,R,S,q⟩:=h;refine⟨F,τ,R,S,?_⟩;unfold Bs at q;cases hm:m τ with
 |none=>simp only[hm]at q<;>exact False.elim q
 |some r =>
  simp only[hm]at q;cases r with
  |x c=>exact q
  |v t b =>
   intro F1 H1 x B e1 g1;cases hi:DQ C fs t with
   |none=>simp only[hi]at q<;>exact False.elim q
   |some l =>
    simp only[hi]at q;have ht:=XJ hi;subst ht;cases hu:l[j]? with
    |none=>simp only[hu]at q<;>exact False.elim q
    |some u =>
     simp only[hu]at q;obtain⟨r1,hB⟩:=Lh g1;subst hB;obtain⟨a,xs,rfl,_,⟨dx,hF⟩,el,cc⟩:=r1.obj_inv;have hjl:=(ya4.mp hu).1;have hx:xs[j]?=some xs[j]:=ya0 (by omega)
     have hc:=cc j u _ hu hx;refine⟨a,_,dx,_,xs[j],rfl,e1.fh _ _ hF,c,hn,Wc hj hx,?_⟩;refine q F1 H1 _ R0 e1 ?_;cases b with
     |false=>exact hc
     |true =>
      cases hs:u.sh with
      |true=>exact hc
      |false=>exact⟨rfl,R0,λ_ z=>z.elim,hc⟩
structure MetX(P:Program)(w:World)(K:kA)(mg:Str->Option Value)(base:Heap)(C:Addr)(m:Str)(k:Nat)(ps:List Str)(sp:Sp) where
 f:Addr
 fd:FuncData
 c:Cls K C
 me:Meth K C m f
 ok:FnOk P w K mg base (Bn P w) k f fd ps sp
 b:Dg K fd ps []
def NM(C:Addr)(m:Str)(sp:Sp)(E:L2.St->XK)(ta:TE)(t:TA):TE:=λσ H Q=>ta σ H λx H1=>∃a dx fs,x=.ref a/\H1 a=some (.ins C dx fs)/\fs.lookup m=none /\
 t σ H1 λvs H2=>sp (x::vs) H2 Q (E σ)
theorem pmx{k:Nat}{ta:TE}{t:TA}(D:MetX X.prog X.w X.K X.mg X.base C f k ps sp)(hr:Room j X.A)(hx:BO X E)(he:PE X o ta)(ha:PA X (e::es) t)(hk:k<=j)(hst:starEach (e::es) X.env=(false,eval e X.env)::starEach es X.env)(hpl:(backTo pos (starEach es X.env)).any (·.1)=false)(ht:eval (.Call (.Attribute o f apos) (e::es) [] pos) X.env=(do
   let ov <- eval o X.env
   standAt apos.atName
   let (f,first) <- holding [ov] (getMethod ov f pl)
   callWith pos f first (backTo pos (starEach (e::es) X.env)) (backToKw pos (keywordEach [] X.env)))):PE X (.Call (.Attribute o f apos) (e::es) [] pos) (NM C f sp E ta t):=by
 intro pins s σ H Q I h;refine PySem.W.methodCall_KW (pl:=pl) (AS (he pins s σ H _ I h) λu s1 ⟨x,H1,I1,rx,a,dx,fs,ex,ea,l,q⟩=>?_) ht
 subst ex;obtain rfl:u=Value.ref a:=rx;refine YA I1 ea D.c D.me l ?_;refine yd3 (first:=[.ref a]) (h₀:=X.base) I.ok.mod.kin D.me.kp (AS (ha pos pins s1 σ H1 _ I1 q) λus s2 ⟨vs,H2,I2,r,q2⟩=>⟨I2.kIn,?_⟩) hst hpl
 exact OR (us:=.ref a::us) (vs:=.ref a::vs) (dvs:=[]) D.ok (hr.mono hk) D.b .nil hx I2 (.cons rfl r) (by rw[yav];exact q2)
theorem pmx0{k:Nat}{ta:TE}(D:MetX X.prog X.w X.K X.mg X.base C f k ps sp)(hr:Room j X.A)(hx:BO X E)(he:PE X o ta)(hk:k<=j)(ht:eval (.Call (.Attribute o f apos) [] [] pos) X.env=(do
   let ov <- eval o X.env
   standAt apos.atName
   let (f,first) <- holding [ov] (getMethod ov f pl)
   callWith pos f first (backTo pos (starEach [] X.env)) (backToKw pos (keywordEach [] X.env)))):PE X (.Call (.Attribute o f apos) [] [] pos) (NM C f sp E ta T4):=by
 intro pins s σ H Q I h;refine PySem.W.methodCall_KW (pl:=pl) (AS (he pins s σ H _ I h) λu s1 ⟨x,H1,I1,rx,a,dx,fs,ex,ea,l,q⟩=>?_) ht
 subst ex;obtain rfl:u=Value.ref a:=rx;refine YA I1 ea D.c D.me l ?_;exact PySem.W.callWith_K0 (first:=[.ref a]) I1.kIn D.me.kp (OR (us:=[.ref a]) (vs:=[.ref a]) (dvs:=[]) D.ok (hr.mono hk) D.b .nil hx I1 (.cons rfl .nil) q)
theorem T6{g:List T->Option Ru}(hf:fs.contains f=false)(h:tM X.K E ca (DN C fs g m ms) σ H Q):NM C f (BJ X.K ca g) E (tM X.K E ca m) (CF X.K E ca ms) σ H Q:=by
 obtain⟨F,τ,R,S,q⟩:=h;refine⟨F,τ,R,S,?_⟩;unfold DN at q;cases hm:m τ with
 |none=>simp only[hm]at q<;>exact False.elim q
 |some r =>
  simp only[hm]at q;cases r with
  |x c=>exact q
  |v t b =>
   intro F1 H1 x B e1 g1;cases hi:DQ C fs t with
   |none=>simp only[hi]at q<;>exact False.elim q
   |some l =>
    simp only[hi]at q;have ht:=XJ hi;subst ht;obtain⟨r1,hB⟩:=Lh g1;subst hB;have S1:=S.ext e1;obtain⟨a,xs,rfl,_,⟨dx,hF⟩,el,cc⟩:=r1.obj_inv;refine⟨a,dx,_,rfl,e1.fh _ _ hF,zam hf,F1,τ,R,S1,?_⟩;cases hs:ms τ with
    |none=>simp only[hs]at q<;>exact False.elim q
    |some r =>
     simp only[hs]at q;cases r with
     |x c=>exact λF' H' e=>q F' H' (e1.trans0 e)
     |v ts b' =>
      intro F2 H2 vs e2 rs;have S2:=S1.ext e2;simp only at q;have r2:Rp X.K (Gz b' F2 H2 R) H2 (T.obj (.ins C fs) l).share (.ref a) R0:=(r1.ext e2).share (Lg S2) λ_ _ z=>z.elim
      refine⟨Gz b' F2 H2 R,_,QP S2,.cons r2 rs,?_⟩;have e12:=e1.trans0 e2;cases hg:g ((T.obj (.ins C fs) l).share::ts) with
      |none=>simp only[hg]at q<;>exact False.elim q
      |some r =>
       simp only[hg]at q;cases r with
       |exc c=>exact λF' H' e3=>q F2 H' (e12.grow e3.hh)
       |ok v =>
        intro F3 H3 z C3 e3 r3;simp only at q;unfold As at q;cases b' with
        |false=>exact q F3 H3 z C3 (e12.trans0 e3) r3
        |true =>
         cases hf:v.flat with
         |false=>rw[hf]at q;exact False.elim q
         |true=>rw[hf]at q;exact q F2 H3 z R0 (e12.grow e3.hh) (r3.flat_any hf)
theorem zlv{k:Nat}{g:List T->Option Ru}(D:MetX X.prog X.w X.K X.mg X.base C f k ps (BJ X.K ca g))(hf:fs.contains f=false)(hr:Room j X.A)(hx:BO X E)(he:PE X o (tM X.K E ca m))(ha:PA X (e::es) (CF X.K E ca ms))(hk:k<=j)(hst:starEach (e::es) X.env=(false,eval e X.env)::starEach es X.env)(hpl:(backTo pos (starEach es X.env)).any (·.1)=false)(ht:eval (.Call (.Attribute o f apos) (e::es) [] pos) X.env=(do
   let ov <- eval o X.env
   standAt apos.atName
   let (f,first) <- holding [ov] (getMethod ov f pl)
   callWith pos f first (backTo pos (starEach (e::es) X.env)) (backToKw pos (keywordEach [] X.env)))):PE X (.Call (.Attribute o f apos) (e::es) [] pos) (tM X.K E ca (DN C fs g m ms)) :=
 PE.weak (pmx D hr hx he ha hk hst hpl ht) λσ H Q h=>T6 hf h
structure NewX(P:Program)(w:World)(K:kA)(mg:Str->Option Value)(base:Heap)(x:Str)(C:Addr)(k:Nat)(ps:List Str)(sp:Sp) where
 f:Addr
 fd:FuncData
 m:mg x=some (.ref C)
 ma:Mk K C f
 ok:FnOk P w K mg base (Bn P w) k f fd ps sp
def zla(C:Addr)(sp:Sp)(dvs:List V)(E:L2.St->XK)(t:TA):TE:=λσ H Q=>t σ H λvs H1=>∀x dx,H1 x=none->H1 dx=none->dx≠x ->
 sp (.ref x::(vs++dvs)) (upd (upd H1 dx (.own x)) x (.ins C dx [])) (λv H2=>v=.non/\Q (.ref x) H2) (E σ)
theorem pnx{k:Nat}{t:TA}{dvs:List V}{ds:List Value}(D:NewX X.prog X.w X.K X.mg X.base x C k ps sp)(hb:Dg X.K D.fd ps ds)(hd:A5 dvs ds)(hr:Room j X.A)(hx:BO X E)(ha:PA X (e::es) t)(hk:k+1<=j)(hg:Gl X x)(hdb:(x == ("__debug__":Str))=false)(he:starEach (e::es) X.env=(false,eval e X.env)::starEach es X.env)(hpl:(backTo pos (starEach es X.env)).any (·.1)=false):PE X (.Call (.Name x p) (e::es) [] pos) (zla C sp dvs E t):=by
 intro pins s σ H Q I h;refine yer (Ho I hg D.m ?_ hdb);refine yd3 (h₀:=X.base) I.ok.mod.kin D.ma.kp (AS (ha pos pins s σ H _ I h) λus s1 ⟨vs,H1,I1,r,q⟩=>⟨I1.kIn,?_⟩) he hpl
 have hq:=q (s1.heap.objs.size+1) s1.heap.objs.size (I1.hok.fresh (yby _)) (I1.hok.fresh (yac _)) (yar (yct _));have I2:=Inv.made (C:=C) I1;have r2:A5 (V.ref (s1.heap.objs.size+1)::(vs++dvs)) (Value.ref (s1.heap.objs.size+1)::(us++ds)):=.cons rfl (r.append hd)
 have hl:(Value.ref (s1.heap.objs.size+1)::us++ds).length=ps.length:=by
  have e:=r2.length;rw[D.ok.len _ _ _ _ hq]at e;exact e.symm
 refine yf1 (zgk (f:=D.f) I1.kIn D.ma.makes D.ma.init (beq_iff_eq.mp D.ma.fn) (yex (D.ok.run _ X.stack _ _ ⟨Value.ref (s1.heap.objs.size+1)::us,[]⟩ (Value.ref (s1.heap.objs.size+1)::(us++ds)) _ _ (E σ) ((hr.mono hk).make C us [])
  (I2.env0.make C us []) (hb _ (Value.ref (s1.heap.objs.size+1)::us) I2.kIn hl) r2 hq) λr s' hq'=>?_))
 cases r with
 |error v=>exact hx pins σ _ _ v s' I2 hq'
 |ok fl =>
  cases fl with
  |ret u =>
   obtain⟨v,H',I3,rv,ev,q3⟩:=I2.after hq';subst ev;exact⟨rv,⟨V.ref (s1.heap.objs.size+1),H',I3,rfl,q3⟩⟩
  |next=>exact False.elim hq'
  |brk=>exact False.elim hq'
  |cont=>exact False.elim hq'
def Fp(K:kA)(ca:Str->Value)(C:Addr)(g:List T->Option Ru):Sp:=λvs H Q E=>∃F p dx ts vs',AZ F H/\vs=.ref p::vs'/\F p=none/\H p=some (.ins C dx [])/\A9 K F ts vs'/\match g ts with
 |some (.ok t)=>∀F' H',Stp F H (λa=>a=p) F' H' R0->Rp K F' H' t (.ref p) R0->Q .non H'
 |some (.exc c)=>∀F' H',Stp F H (λa=>a=p) F' H' R0->E (ca c) none H'
 |none=>False
noncomputable def FZ(g:List T->Option Ru)(ds:List T)(ms:Ao):AF:=λτ=>match ms τ with
 |some (.v ts false)=>(match g (ts++ds) with
  |some (.ok t)=>some (.v t false)
  |some (.exc c)=>some (.x c)
  |none=>none)
 |some (.v _ true)=>none
 |some (.x c)=>some (.x c)
 |none=>none
theorem r_new{k:Nat}{g:List T->Option Ru}{dvs:List V}{dts:List T}{ds:List Value}(D:NewX X.prog X.w X.K X.mg X.base x C k ps (Fp X.K ca C g))(hb:Dg X.K D.fd ps ds)(hd:A5 dvs ds)(hdt:∀F:Hp,A9 X.K F dts dvs)(hr:Room j X.A)(hx:BO X E)(ha:PA X (e::es) (CF X.K E ca ms))(hk:k+1<=j)(hg:Gl X x)(hdb:(x == ("__debug__":Str))=false)(he:starEach (e::es) X.env=(false,eval e X.env)::starEach es X.env)(hpl:(backTo pos (starEach es X.env)).any (·.1)=false):PE X (.Call (.Name x p) (e::es) [] pos) (tM X.K E ca (FZ g dts ms)):=by
 refine PE.weak (pnx D hb hd hr hx ha hk hg hdb he hpl) λσ H Q h=>?_
 obtain⟨F,τ,R,S,q⟩:=h;refine⟨F,τ,R,S,?_⟩;unfold FZ at q;cases hs:ms τ with
 |none=>simp only[hs]at q<;>exact False.elim q
 |some r =>
  simp only[hs]at q;cases r with
  |x c=>exact q
  |v ts b =>
   cases b with
   |true=>exact λF1 H1 xs e1 rs=>q.elim
   |false =>
    intro F1 H1 xs e1 rs a dx ha hdx hne;simp only at q;have rs':A9 X.K F1 ts xs:=rs
    have key:∀F' H',Stp F1 (upd (upd H1 dx (.own a)) a (.ins C dx [])) (λb=>b=a) F' H' R0->Ext F H F' H' R0:=λF' H' st=>by
     refine e1.trans0 ⟨λb u z=>?_,st.ff,st.fh,λ_ z=>z.elim,λb u z=>?_⟩
     .have h1:b≠a:=Br z ha;have h2:b≠dx:=Br z hdx;exact st.kp b u h1 (by rw[Ac h1,Ac h2];exact z)
     .rcases st.nf b u z with w|w|w
      .exact .inl w
      .rw[w];exact .inr ha
      .by_cases h1:b=a
       .rw[h1];exact .inr ha
       .by_cases h2:b=dx
        .rw[h2];exact .inr hdx
        .rw[Ac h1,Ac h2]at w;exact .inr w
    have fh2:AZ F1 (upd (upd H1 dx (.own a)) a (.ins C dx [])):=λb u z=>by
     have z':=e1.fh b u z;rw[Ac (Br z' ha),Ac (Br z' hdx)];exact z'
    refine⟨F1,a,dx,ts++dts,xs++dvs,fh2,rfl,FW e1.fh ha,Ba,Kk rs' (hdt F1),?_⟩;cases hg:g (ts++dts) with
    |none=>simp only[hg]at q<;>exact False.elim q
    |some r =>
     simp only[hg]at q;cases r with
     |exc c=>exact λF' H' st=>q F' H' (key F' H' st)
     |ok t=>exact λF' H' st r=>⟨rfl,q F' H' _ R0 (key F' H' st) r⟩
end
noncomputable def FT(τ:AO)(i:Nat)(C:Addr)(fs:List Str):Option (Addr×List T):=match τ[i]? with
 |some (some (.oob p C' fs' l))=>if C'=C/\fs'=fs then some (p,l) else none
 |_=>none
theorem Og{fs:List Str}{p:Addr}(h:FT τ i C fs=some (p,l)):τ[i]?=some (some (.oob p C fs l)):=by
 unfold FT at h;split at h
 .rename_i q;split at h
  .rename_i hc;cases h;rw[q,hc.1,hc.2]
  .cases h
 .cases h
def Dj(C:Addr)(fs:List Str)(j i:Nat)(m:AF):AH:=λτ=>match m τ with
 |some (.v t false)=>(match FT τ i C fs with
  |some (p,l)=>if l.length=j then some (.nx (τ.set i (some (.oob p C fs (l++[t]))))) else none
  |none=>none)
 |some (.v _ true)=>none
 |some (.x c)=>some (.xc c τ)
 |none=>none
def JA:Option T->Option (List Str×List T)
 |some (.osd ks l)=>some (ks,l)
 |_=>none
theorem zdg{o:Option T}{ks:List Str}(h:JA o=some (ks,l)):o=some (.osd ks l):=by
 unfold JA at h;split at h
 .cases h;rfl
 .cases h
open Classical in
def Im(C:Addr)(fs:List Str)(j i:Nat)(mk m:AF):AH:=λτ=>match m τ with
 |some (.v t false)=>(match FT τ i C fs with
  |some (p,l)=>(match JA l[j]? with
   |some (ks,lv)=>(match mk τ with
    |some (.v (.str k) _)=>if k∉ks/\ks.length<100000 then some (.nx (τ.set i (some (.oob p C fs (l.set j (.osd (ks++[k]) (lv++[t.share]))))))) else none
    |some (.v _ _)=>none
    |some (.x c)=>some (.xc c τ)
    |none=>none)
   |none=>none)
  |none=>none)
 |some (.v _ true)=>none
 |some (.x c)=>some (.xc c τ)
 |none=>none
def LY:AF:=λ_=>some (.v (.osd [] []) false)
theorem Ut{f:Str}{y:V}:∀{fs:List Str} {xs:List V},fs[xs.length]?=some f->(fs.take xs.length).contains f=false->Ce f y (fs.zip xs)=fs.zip (xs++[y])
 |[],xs,h,_=>by simp at h
 |g::r,[],h,_=>by
  simp at h;subst h;simp[Ce]
 |g::r,x::xs,h,hn=>by
  rw[yao,List.take_succ_cons,ye4,ybt]at hn
  have hg:¬ g=f:=λz=>by
   have:=hn.1;rw[z,yf8]at this;cases this
  have ih:=Ut (f:=f) (y:=y) (fs:=r) (xs:=xs) (by simpa using h) hn.2
  rw[yco,List.cons_append,yco,<- ih];show(if g=f then _ else _)=_
  rw[if_neg hg]
section
variable {K:kA}{fs:List Str}
theorem Rp.oob_inv{p:Addr}{x:V}(h:Rp K F H (.oob p C fs l) x A):∃dx xs Rr,x=.ref p/\A=(λa=>a=p\/∃j,Rr j a)/\F p=none/\H p=some (.ins C dx (fs.zip xs))/\RpO K F H l xs Rr/\∀j,¬ Rr j p:=by
 cases h with
 |oob R f h e c d dp o=>exact⟨_,_,R,rfl,rfl,f,h,⟨e,c,d,o⟩,dp⟩
theorem VQ{p dx:Addr}(r:RpO K F H l xs Rr)(f:F p=none)(h:H p=some (.ins C dx (fs.zip xs)))(dp:∀j,¬ Rr j p):Rp K F H (.oob p C fs l) (.ref p) (λa=>a=p\/∃j,Rr j a):=.oob Rr f h r.len r.rep r.dis dp r.out
theorem Rp.osd_inv{ks:List Str}{x:V}(h:Rp K F H (.osd ks l) x A):∃p xs,x=.ref p/\A=(λa=>a=p)/\F p=none/\H p=some (.dK (CQ ks xs))/\l.length=xs.length/\ks.length=xs.length/\∀(i:Nat) (t:T) (x:V),l[i]?=some t->xs[i]?=some x->Rp K F H t x R0:=by
 cases h with
 |osd f h e ek c=>exact⟨_,_,rfl,rfl,f,h,e,ek,c⟩
end
theorem zjz{ks:List Str}(h:ks.length=xs.length):(CQ ks xs).length=xs.length:=by
 unfold CQ;rw[List.length_zipWith,h,Nat.min_self]
theorem zk0{ks:List Str}{kv:Key×V}(h:kv∈CQ ks xs):∃k∈ks,kv.1=Sum.inr k:=by
 induction ks generalizing xs with
 |nil=>cases xs<;>cases h
 |cons a r ih =>
  cases xs with
  |nil=>cases h
  |cons b s =>
   unfold CQ at h;rw[ydj]at h
   rcases ya6.mp h with e|e
   .exact⟨a,ya9 ..,by rw[e]⟩
   .obtain⟨k,hk,e⟩:=ih (xs:=s) e;exact⟨k,ya7 _ hk,e⟩
theorem zg2{ks:List Str}{k:Str}{y:V}(h:ks.length=xs.length)(hk:k∉ks):Cy (CQ ks xs) (Sum.inr k) y=CQ (ks++[k]) (xs++[y]):=by
 unfold Cy;rw[if_neg]
 .unfold CQ;rw[List.zipWith_append h]
  rfl
 .intro c;obtain⟨kv,h1,h2⟩:=List.any_eq_true.mp c;obtain⟨k',h3,h4⟩:=zk0 h1;have:=yfa h2;rw[h4]at this;cases this;exact hk h3
section
variable {k:Expr}{pos3:Pos}{fs:List Str}
theorem zlz:PE X (.Dict [] [] pos) (tM X.K E ca LY):=PE.weak ziv λσ H Q h p hp=>by
 obtain⟨F,τ,R,S,q⟩:=h;exact q F (upd H p (.dK [])) (.ref p) _ (Ext.newO S.fh hp) (Rp.osd (ks:=[]) (xs:=[]) (l:=[]) (FW S.fh hp) Ba rfl rfl λi t x h=>by simp at h)
theorem UO(c:Cls X.K C)(hn:CJ X.K C f)(hj:fs[j]?=some f)(hnf:(fs.take j).contains f=false)(hjl:j<900)(hN:X.N[i]?=some x)(hv:DT X.env.scope x)(hd:(x == ("__debug__":Str))=false)(hcd:(x == ("__classdict__":Str))=false)(he:PE X e (tM X.K E ca m))
  (hs:swapsWith e (some (.Attribute (.Name x p1) f pos2)) pos.line X.env=pure false):PS X (.Assign [.Attribute (.Name x p1) f pos2] e pos) (tS X.K E ca mu (Dj C fs j i m)):=by
 refine PS.weak (zma (Gp hN hv hd hcd) he hs) λD σ H h=>?_
 obtain⟨F,τ,R,S,q⟩:=h;refine⟨F,τ,R,S,?_⟩;unfold Dj at q;cases hm:m τ with
 |none=>simp only[hm]at q<;>exact False.elim q
 |some r =>
  simp only[hm]at q;cases r with
  |x c=>exact λF' H' e=>q F' H' σ R e.stp0 (S.ext e)
  |v t bb =>
   cases bb with
   |true=>exact λF1 H1 y B e1 g1=>q.elim
   |false =>
    intro F1 H1 y B e1 g1;have g1':Rp X.K F1 H1 t y B:=g1;simp only at q;cases ho:FT τ i C fs with
    |none=>simp only[ho]at q<;>exact False.elim q
    |some pl =>
     obtain⟨p,l⟩:=pl;simp only[ho]at q
     by_cases hl:l.length=j
     .rw[if_pos hl]at q;have S1:=S.ext e1;have ht:=Og ho;obtain⟨y2,ey,ry⟩:=S.rep i _ ht;obtain⟨dx,xs,Rr,rfl,hA,fp,hp,ro,dp⟩:=ry.oob_inv;have hxs:xs.length=j:=by rw[<- ro.len];exact hl
      have hp1:=e1.hh _ _ hp;have pB:¬ B p:=λz=>by rw[e1.nb p z]at hp;cases hp
      have fp1:F1 p=none:=(ry.ext e1 |>.dom (by rw[hA];exact .inl rfl)).1
      refine⟨_,ey,p,C,dx,fs.zip xs,rfl,hp1,c,hn,?_,?_⟩
      .rw[List.length_zip]
       omega
      .rw[Ut (by rw[hxs];exact hj) (by rw[hxs];exact hnf)]
       have ro1:=ro.ext e1;have ro2:RpO X.K F1 (upd H1 p (.ins C dx (fs.zip (xs++[y])))) (l++[t]) (xs++[y]) _:=(ro1.upd dp).snoc (g1'.upd pB) λj a z1 z2=>ro.apart e1 z2 j z1
       have dp2:∀j,¬ (if j=l.length then B else Rr j) p:=λj z=>by
        by_cases hj:j=l.length
        .simp only[hj,yet]at z;exact pB z
        .simp only[hj,yeu]at z;exact dp j z
       have r2:=VQ (C:=C) (fs:=fs) ro2 fp1 Ba dp2
       obtain⟨S3,st3⟩:=S1.upd ht ey (by rw[hA];exact .inl rfl) r2 (B:=B) (λa z=>by
        rw[hA]
        rcases z with z|z
        .exact .inl (.inl z)
        .rcases Ts z with w|w
         .exact .inl (.inr w)
         .exact .inr w) (λj a z1 z2=>S.apart e1 z2 j z1)
       exact q F1 _ σ _ (e1.stp.trans st3) S3
     .rw[if_neg hl]at q;exact q.elim
def rSetS:MX:=λo i v H Q=>∃p kvs k,o=.ref p/\i=.str k/\H p=some (.dK kvs)/\kvs.length<sizeLine/\Q (upd H p (.dK (Cy kvs (Sum.inr k) v)))
theorem zfn(hu:X.A.units+1<cLine):SQ X rSetS:=by
 intro pins s σ H o i v ov iv u Q I ro ri rv h;obtain⟨p,kvs,k,rfl,rfl,hp,hl,q⟩:=h;cases ro;exact zev hu I (Mj.k (k:=Sum.inr k) hp hl) (show L2.RelV (kV (Sum.inr k)) iv from ri) rv λs' I'=>⟨_,I',q⟩
theorem HD{K:kA}{z:Str}{y:V}(g:Ct K F H R (.str z) b y B):y=.str z:=by
 cases b with
 |true=>obtain⟨_,A,_,r⟩:=g;exact r.str_inv
 |false=>exact(show Rp K F H _ _ _ from g).str_inv
theorem s_dpf(hu:X.A.units+1<cLine)(c:Cls X.K C)(hn:CJ X.K C f)(hj:fs.findIdx? (· == f)=some j)(hN:X.N[i]?=some x)(hv:DT X.env.scope x)(hd:(x == ("__debug__":Str))=false)(hcd:(x == ("__classdict__":Str))=false)(he:PE X e (tM X.K E ca m))(hk:PE X k (tM X.K E ca mk))
  (hs:swapsWithSole [.Subscript (.Attribute (.Name x p1) f pos3) k pos2] e pos.line X.env=pure false) (hw:swappedStores [.Subscript (.Attribute (.Name x p1) f pos3) k pos2] e X.env=pure none)
  (ha : ∀ v, assign (.Subscript (.Attribute (.Name x p1) f pos3) k pos2) X.env v = (do
   let ov <- holding [v] (eval (.Attribute (.Name x p1) f pos3) X.env);let iv <- holding [v,ov] (eval k X.env)
   standAt pos2
   holding [v,ov,iv] (setItem ov iv v)
   release [v,ov,iv] [])) :
  PS X (.Assign [.Subscript (.Attribute (.Name x p1) f pos3) k pos2] e pos) (tS X.K E ca mu (Im C fs j i mk m)):=by
 refine PS.weak (O6 he (VA (VG (Gp hN hv hd hcd) rfl) hk (zfn hu) ha) hs hw rfl) λD σ H h=>?_
 obtain⟨F,τ,R,S,q⟩:=h;refine⟨F,τ,R,S,?_⟩;unfold Im at q;cases hm:m τ with
 |none=>simp only[hm]at q<;>exact False.elim q
 |some r =>
  simp only[hm]at q;cases r with
  |x c=>exact λF' H' e=>q F' H' σ R e.stp0 (S.ext e)
  |v t bb =>
   cases bb with
   |true=>exact λF1 H1 y B e1 g1=>q.elim
   |false =>
    intro F0 H1 y B e0 g0;simp only at q;obtain⟨F1,e1,_,g1⟩:=Ct.frz (b:=false) S e0 g0;have g1':Rp X.K F1 H1 t.share y R0:=(show Rp X.K F1 F1 t.share y R0 from g1).any;cases ho:FT τ i C fs with
    |none=>simp only[ho]at q<;>exact False.elim q
    |some pl =>
     obtain⟨p,l⟩:=pl;simp only[ho]at q;cases hos:JA l[j]? with
     |none=>simp only[hos]at q<;>exact False.elim q
     |some kl =>
      obtain⟨ks,lv⟩:=kl;simp only[hos]at q;have hlj:=zdg hos;have S1:=S.ext e1;have ht:=Og ho;obtain⟨y2,ey,ry⟩:=S1.rep i _ ht;obtain⟨dx,xs,Rr,rfl,hA,fp,hp,ro,dp⟩:=ry.oob_inv;have hjl:=(ya4.mp hlj).1;have hjx:j<xs.length:=by rw[<- ro.len];exact hjl
      have hx:xs[j]?=some xs[j]:=ya0 hjx;refine⟨_,ey,p,C,dx,_,xs[j],rfl,hp,c,hn,Wc hj hx,F1,τ,R,S1,?_⟩;cases hkk:mk τ with
      |none=>simp only[hkk]at q<;>exact False.elim q
      |some r =>
       simp only[hkk]at q;cases r with
       |x c=>exact λF' H' e=>q F' H' σ R ((e1.stp0).trans e.stp0) (S1.ext e)
       |v tk bk =>
        cases tk with
        |str kk =>
         simp only at q
         by_cases hc:kk∉ks/\ks.length<100000
         .rw[if_pos hc]at q;intro F2 H2 z CC e2 g2;have hz:=HD g2;subst hz;have e2':Ext F1 H1 F2 H2 R0:=e2.mono λ_ z=>z.elim
          have S2:=S1.ext e2;have ry2:=ry.ext e2;have ro2:=ro.ext e2;have fp2:F2 p=none:=(ry2.dom (by rw[hA];exact .inl rfl)).1
          have hp2:=e2.hh _ _ hp;have rk:=ro2.rep j _ _ hlj hx;obtain⟨pd,ys,exj,hAd,fpd,hpd,el,ek,cc⟩:=rk.osd_inv;have g2':Rp X.K F2 H2 t.share y R0:=g1'.ext e2;have pdj:Rr j pd:=by rw[hAd]
          have pne:pd≠p:=λz=>dp j (z▸pdj)
          refine⟨pd,CQ ks ys,kk,exj,rfl,hpd,?_,?_⟩
          .rw[zjz ek,<- ek,yeq];exact yds hc.2 (by decide)
          .rw[zg2 ek hc.1]
           have r3:Rp X.K F2 (upd H2 pd (.dK (CQ (ks++[kk]) (ys++[y])))) (.osd (ks++[kk]) (lv++[t.share])) (.ref pd) (λa=>a=pd):=by
            refine .osd fpd Ba (by simp[el]) (by simp[ek]) λj t' x' h1 h2=>?_
            rcases Nat.lt_or_ge j lv.length with w|w
            .rw[yb0 w]at h1;rw[yb0 (by omega)]at h2
             exact(cc j t' x' h1 h2).any
            .rw[yb5 w]at h1;rw[yb5 (by omega)]at h2
             have hj:j - lv.length=0:=by
              have:=(ya4.mp h1).1;simp at this
              omega
             have hj2:j - ys.length=0:=by omega
             rw[hj]at h1;rw[hj2]at h2;simp at h1 h2;subst h1 h2;exact g2'.any
           have oth:∀k,k≠j->¬ Rr k pd:=λk hk z=>ro2.dis k j pd hk z pdj
           have ro3:RpO X.K F2 (upd H2 pd (.dK (CQ (ks++[kk]) (ys++[y])))) (l.set j (.osd (ks++[kk]) (lv++[t.share]))) xs Rr:=by
            refine⟨by rw[yc0];exact ro2.len,λk t' x' h1 h2=>?_,ro2.dis,λk a z=>by rw[yc0];exact ro2.out k a z⟩
            by_cases hk:k=j
            .subst hk;rw[yap hjl]at h1;rw[hx]at h2;cases h1;cases h2;rw[exj,hAd];exact r3
            .rw[yan (yay hk)]at h1;exact(ro2.rep k t' x' h1 h2).upd (oth k hk)
           have r4:=VQ (C:=C) (fs:=fs) (p:=p) (dx:=dx) ro3 fp2 (by rw[Ac (yay pne)];exact hp2) dp
           obtain⟨S3,st3⟩:=S2.upd ht ey (p:=pd) (by rw[hA];exact .inr ⟨j,pdj⟩) r4 (B:=R0) (λa z=>.inl (by rw[hA];exact z)) (λj a z1 z2=>z2)
           exact q F2 _ σ _ ((e1.stp.trans e2.stp0).trans st3) S3
         .rw[if_neg hc]at q;exact q.elim
        |_=>exact λF' H' z CC e2 g2=>q.elim
end
variable {g':T->T->Option T}
section
variable {b:Expr}{t:T}
theorem r_con{v:V}{u:Value}(hg:Gl X x)(hm:X.mg x=some u)(rv:RelV v u)(hd:(x == ("__debug__":Str))=false)(r:∀F:Hp,Rp X.K F F t v R0):PE X (.Name x pos) (tM X.K E ca (mC t)) :=
 PE.weak (O9 hg hm rv hd) λσ H Q h=>by
  obtain⟨F,τ,R,S,q⟩:=h;exact q F H v R0 (Ext.refl S.fh) (r F).any
def EU(g g':T->T->Option T)(ma mb mc:AF):AF:=λτ=>match ma τ,mb τ with
 |some (.v t _),some (.v u _)=>if t.flat && u.flat then (match g t u with
  |some (.bl true)=>(match mc τ with
   |some (.v w _)=>if w.flat then (match g' u w with
    |some (.bl k)=>some (.v (.bl k) false)
    |_=>none) else none
   |_=>none)
  |some (.bl false)=>some (.v (.bl false) false)
  |_=>none) else none
 |_,_=>none
theorem Hu{K:kA}{v:T}{b:Bool}{x:V}(g:Ct K F H R v b x B)(h:v.flat=true):Rp K F' H' v x R0:=by
 cases b with
 |true=>obtain⟨_,A,_,r⟩:=g;exact r.flat_any h
 |false=>exact(show Rp K F H v x B from g).flat_any h
theorem Ta(h:tM X.K E ca (EU g g' ma mb mc) σ H Q):NR (BS X.K g) (BS X.K g') (tM X.K E ca ma) (tM X.K E ca mb) (tM X.K E ca mc) σ H Q:=by
 obtain⟨F,τ,R,S,q⟩:=h;refine⟨F,τ,R,S,?_⟩;unfold EU at q;cases h1:ma τ with
 |none=>simp only[h1]at q<;>exact False.elim q
 |some r1 =>
  cases r1 with
  |x c=>simp only[h1]at q<;>exact False.elim q
  |v t b1 =>
   cases h2:mb τ with
   |none=>simp only[h1,h2]at q<;>exact False.elim q
   |some r2 =>
    cases r2 with
    |x c=>simp only[h1,h2]at q<;>exact False.elim q
    |v u b2 =>
     simp only[h1,h2]at q
     by_cases hf:(t.flat && u.flat)=true
     .rw[if_pos hf]at q;rw[ya3]at hf;intro F1 H1 x B1 e1 g1;have S1:=S.ext e1;refine⟨F1,τ,R,S1,?_⟩;rw[h2];intro F2 H2 y B2 e2 g2;have S2:=S1.ext e2;have e12:Ext F H F2 H2 R0:=(e1.trans e2).mono λ_ z=>z.elim
      cases hg:g t u with
      |none=>simp only[hg]at q<;>exact False.elim q
      |some k =>
       cases k with
       |bl k =>
        cases k with
        |false =>
         simp only[hg]at q;refine⟨F2,t,u,_,S2.fh,Hu g1 hf.1,Hu g2 hf.2,hg,λF3 H3 z C3 e3 r3=>⟨false,r3.bl_inv,?_⟩⟩
         rw[if_neg yb8];exact q F3 H3 _ R0 (e12.trans0 (e3.mono λ_ z=>z.elim)) (.bl false)
        |true =>
         simp only[hg]at q;refine⟨F2,t,u,_,S2.fh,Hu g1 hf.1,Hu g2 hf.2,hg,λF3 H3 z C3 e3 r3=>⟨true,r3.bl_inv,?_⟩⟩
         rw[if_pos rfl];have S3:=S2.ext e3;refine⟨F3,τ,R,S3,?_⟩;cases h3:mc τ with
         |none=>simp only[h3]at q<;>exact False.elim q
         |some r3 =>
          cases r3 with
          |x c=>simp only[h3]at q<;>exact False.elim q
          |v w b3 =>
           simp only[h3]at q
           by_cases hw:w.flat=true
           .rw[if_pos hw]at q;intro F4 H4 z4 B4 e4 g4;have S4:=S3.ext e4;cases hg':g' u w with
            |none=>simp only[hg']at q<;>exact False.elim q
            |some k =>
             cases k with
             |bl k =>
              simp only[hg']at q;refine⟨F4,u,w,_,S4.fh,Hu g2 hf.2,Hu g4 hw,hg',λF5 H5 z5 C5 e5 r5=>?_⟩
              rw[r5.bl_inv];exact q F5 H5 _ R0 (e12.trans0 (((e3.trans e4).trans e5).mono λ_ z=>z.elim)) (.bl k)
             |_=>simp only[hg']at q<;>exact False.elim q
           .rw[if_neg hw]at q;exact q.elim
       |_=>simp only[hg]at q<;>exact False.elim q
     .rw[if_neg hf]at q;exact q.elim
theorem r_chn{op':CmpOp}(ho:A6 X (compareOp op) (BS X.K g))(ho':A6 X (compareOp op') (BS X.K g'))(ha:PE X a (tM X.K E ca ma))(hb:PE X b (tM X.K E ca mb))(hc:PE X c (tM X.K E ca mc))(hm:lastMarks [op,op'] [b,c]=false) :
  PE X (.Compare a [op,op'] [b,c] pos) (tM X.K E ca (EU g g' ma mb mc)):=PE.weak (zgb ho ho' ha hb hc hm) λσ H Q h=>Ta h
theorem zlu{op':CmpOp}(ho:A6 X (compareOp op) (BS X.K g))(ho':A6 X (compareOp op') (BS X.K g'))(ha:PE X a (tM X.K E ca ma))(hb:PE X b (tM X.K E ca mb))(hc:PE X c (tM X.K E ca mc))(hm:lastMarks [op,op'] [b,c]=false) :
  PT X (.Compare a [op,op'] [b,c] pos) (Az X.K E ca (EU g g' ma mb mc)):=PT.weak (zg3 ho ho' ha hb hc hm) λσ H Q h=>Ta (KQ h)
end
def Mi(x:Str):It:=⟨λi _=>i<x.cps.size,λi H y H'=>H'=H/\∃c,x.cps[i]?=some c/\y=.str ⟨#[c]⟩,λi _=>x.cps.size<=i⟩
theorem zff{K:kA}(x:Str)(t:Tok)(it:Addr):Turn P w K tg (Mi x) [it] it (λi h=>h.IsStrIter it (strIterType x) x t i) where
 mem:=by simp
 obj:=λi h st b hb=>by
  have e:b=it:=by simpa using hb
  subst e;obtain⟨o,e,c,d⟩:=st;exact⟨o,e,λv z=>by rw[d]at z;cases z⟩
 keep:=λi h h' st k=>by
  obtain⟨o,e,c,d⟩:=st;exact⟨o,k it (by simp) o e,c,d⟩
 item:=by
  intro X hP hw hK hc i pins s σ H E I hf st hg;subst hP hw hK;have hi:i<x.cps.size:=hg;obtain⟨f0,f1,f2,f3,f4,f5⟩:=hf it (by simp)
  have As:∀(h':Heap),h'.IsStrIter it (strIterType x) x t (i+1)->Heap.SameBut it s.heap h'->∃u,some (Value.str ⟨#[x.cps[i]]⟩ s.toks)=some u /\
   wpAny (model X.prog X.w) X.A (letOwnedTupleGo tg (.ref it) u) (λ_ s2=>∃y H',Inv X pins σ H' s2/\RelV y u/\(Mi x).yld i H y H'/\s2.heap.IsStrIter it (strIterType x) x t (i+1)/\∀b∈[it],H' b=none) E { s with heap:=h',toks:=s.toks+1 }:=λh' st' sb=>by
   have I1:Inv X pins σ H { s with heap:=h',toks:=s.toks+1 }:=I.turned (t':=s.toks+1) (λb o hb e=>(sb.2 b hb).trans e) f0 f1 f3 f4 f5
   obtain⟨o,e,c,d⟩:=id st';refine⟨_,rfl,JU (s:={ s with heap:=h',toks:=s.toks+1 }) e c d ?_ ⟨.str ⟨#[x.cps[i]]⟩,H,I1,⟨_,rfl⟩,⟨rfl,_,yb1 hi,rfl⟩,st',λb hb=>(hf b hb).1⟩⟩
   unfold strIterType;split<;>decide
  cases ha:(x.cps.all λx=>decide (x<128)) with
  |true =>
   have e:strIterType x="str_ascii_iterator":=by unfold strIterType;rw[ha];rfl
   rw[e]at st As ⊢;exact wpAny_pyNext_ascii_item st (yb1 hi) As
  |false =>
   have e:strIterType x="str_iterator":=by unfold strIterType;rw[ha];rfl
   rw[e]at st As ⊢;exact wpAny_pyNext_wide_item st (yb1 hi) As
 done:=by
  intro X hP hw hK hc i pins s σ H E I hf st hg;subst hP hw hK;have hi:x.cps.size<=i:=hg;obtain⟨f0,f1,f2,f3,f4,f5⟩:=hf it (by simp)
  have n:x.cps[i]?=none:=Array.getElem?_eq_none hi;cases ha:(x.cps.all λx=>decide (x<128)) with
  |true =>
   have e:strIterType x="str_ascii_iterator":=by unfold strIterType;rw[ha];rfl
   rw[e]at st;exact wpAny_pyNext_ascii_end (I.ok.hd hc) st n λh' eb=>⟨rfl,I.turned (t':=s.toks) (λb o hb e=>eb b o hb e) f0 f1 f3 f4 f5⟩
  |false =>
   have e:strIterType x="str_iterator":=by unfold strIterType;rw[ha];rfl
   rw[e]at st;exact wpAny_pyNext_wide_end (I.ok.hd hc) st n λh' eb=>⟨rfl,I.turned (t':=s.toks) (λb o hb e=>eb b o hb e) f0 f1 f3 f4 f5⟩
 self:=λ_ i s Q E st h=>by
  cases ha:(x.cps.all λx=>decide (x<128)) with
  |true =>
   have e:strIterType x="str_ascii_iterator":=by unfold strIterType;rw[ha];rfl
   rw[e]at st;exact wpAny_pyIter_striter_ascii st h
  |false =>
   have e:strIterType x="str_iterator":=by unfold strIterType;rw[ha];rfl
   rw[e]at st;exact wpAny_pyIter_striter_wide st h
def iStrT(tl:TE):TI:=λσ H P=>tl σ H λx H1=>∃y,x=.str y/\P (Mi y) H1
section
variable {l:Expr}{tl:TE}
theorem zmg(hl:PE X l tl):PI X tg l (iStrT tl):=by
 intro pins s σ H R I h;refine AS (hl pins s σ H _ I h) λv s1 ⟨x,H1,I1,r1,q1⟩=>?_
 obtain⟨y,rfl,q⟩:=q1;obtain⟨t,rfl⟩:=(show ∃t,v=Value.str y t from r1);refine wpAny_pyIter_strU ?_;refine⟨s1.heap.objs.size,[s1.heap.objs.size],_,_,H1,rfl,I1.kept (t':=s1.toks) λb o e=>ya8 _ e,zff y t _,⟨_,yal _ rfl,rfl,rfl⟩,λb hb=>?_,q⟩
 have e:b=s1.heap.objs.size:=by simpa using hb
 subst e;exact I1.fpOk (yac _) (I1.hok.fresh (yac _))
def Fs(x:Str):List T:=x.cps.toList.map λc=>.str ⟨#[c]⟩
theorem zk5{K:kA}:FA K (Mi x) F (Fs x):=by
 intro i F' H' s1 s2;refine⟨λt ht=>?_,λe=>?_⟩
 .unfold Fs at ht;rw[ya5]at ht;obtain⟨c,e1,rfl⟩:=ya2.mp ht;have hi:i<x.cps.size:=by simpa using (ya4.mp e1).1
  refine⟨hi,λy H'' z=>?_⟩
  obtain⟨rfl,c',hc,rfl⟩:=z;rw[ybx,hc]at e1;cases e1;exact⟨F',Ext.refl s2,.str _⟩
 .show x.cps.size<=i;rw[e];simp[Fs]
def BW(m:AF):Ao:=λτ=>match m τ with
 |some (.v (.str x) _)=>some (.v (Fs x) false)
 |_=>Ht m τ
theorem zlx(ha:PE X e (tM X.K E ca m)):PI X tg e (tI X.K E ca (BW m)):=by
 refine PI.weak (PI.or (Ui ha) (zmg ha)) λσ H P h=>?_
 obtain⟨F,τ,R,S,q⟩:=h
 by_cases hs:∃x b,m τ=some (.v (.str x) b)
 .obtain⟨x,b,hm⟩:=hs;have e:BW m τ=some (.v (Fs x) false):=by unfold BW;rw[hm]
  rw[e]at q;refine .inr ⟨F,τ,R,S,?_⟩;rw[hm];intro F1 H1 y B e1 g1;exact⟨x,HD g1,q F1 H1 _ (e1.mono λ_ z=>z.elim) zk5⟩
 .have e:BW m τ=Ht m τ:=by
   unfold BW;split
   .rename_i x b hm;exact absurd ⟨x,b,hm⟩ hs
   .rfl
  rw[e]at q;exact .inl ⟨F,τ,R,S,q⟩
end
open Classical in
def met(val:Nat->Key):Nat->List Key
 |0=>[]
 |i+1=>if val i∈met val i then met val i else met val i++[val i]
open Classical in
theorem W4(val:Nat->Key):∀i,(met val i).length<=i
 |0=>yac 0
 |i+1=>by
  have:=W4 val i;unfold met;split
  .omega
  .rw[yad,ybi]
   omega
section
variable {A:Around}{E:Value->Shared->Prop}
open Classical in
theorem Wb{knd:PySem.KeyKind prog w Key}{R:Result->Shared->Prop}{I:Addr}{fp wr:List Addr}{G:Array GenState->Array GenState->Prop}{n:Nat}{P:Nat->Value->Prop}{St:Nat->Shared->Prop}(W:WalksS prog w A.in1 I fp wr G n P St)(S:Addr)(hS:S∉fp)(val:Nat->Key)
  (hP:∀i v,P i v->knd.is (val i) v=true/\v.scannable=true) (hn:n+1<scanBound):∀(k i:Nat) (s:Shared),n - i=k->i<=n->St i s->Heap.SetOf knd s.heap S (λk'=>decide (k'∈met val i)) (met val i).length ->
   (∀s':Shared,Moved (S::wr) G s s'->Heap.SetOf knd s'.heap S (λk'=>decide (k'∈met val n)) (met val n).length->R (Except.ok (Flow.ret Value.none)) s') ->
   codeAny (model prog w) A (Code.builtin "set.update.loop" { pos:=[Value.ref S,Value.ref I] }) R s
 |0,i,s,hk,hi,st,hset,h=>by
  have e:i=n:=by omega
  subst e;refine yf4 F.entry_set_update_loop ?_;rw[Around.under_plainId ydb];unfold Builtin.«set.update.loop»;refine yek (W.done s _ _ st λs' mv=>?_)
  refine yen ?_;refine h s' (mv.mono λb hb=>ya7 _ hb) ?_
  obtain⟨o,es,ep,t,h1,h2⟩:=hset;exact⟨o,es,ep,t,mv.heap S o (λz=>hS (W.sub S z)) h1,h2⟩
 |k+1,i,s,hk,hi,st,hset,h=>by
  have hi':i<n:=by omega
  refine yf4 F.entry_set_update_loop ?_;rw[Around.under_plainId ydb];unfold Builtin.«set.update.loop»;refine yek (W.item i s _ _ hi' st λv s' pv st' mv=>?_)
  obtain⟨hk1,hk2⟩:=hP i v pv
  have hset':Heap.SetOf knd s'.heap S (λk'=>decide (k'∈met val i)) (met val i).length:=by
   obtain⟨o,es,ep,t,h1,h2⟩:=hset;exact⟨o,es,ep,t,mv.heap S o (λz=>hS (W.sub S z)) h1,h2⟩
  refine yek (yel ?_);unfold setAdd;refine yel (yek (knd.pyHash hk1 ?_));have hl:=W4 val i;refine wpAny_setAddHashed_of (s:={ s' with toks:=s'.toks+1 }) hk1 hk2 hset' (by omega) λh' sb hset2=>?_
  refine yen ⟨plainId_quiet ydb _,?_⟩;have st2:=W.frame (i+1) s' h' (s'.toks+1) st' (yby _) λb hb o e=>(sb.2 b (λz=>hS (z▸hb))).trans e
  have mv2:Moved (S::wr) G s { s' with heap:=h',toks:=s'.toks+1 }:=(mv.mono λb hb=>ya7 _ hb).then_heap (yby _) λb o hb e=>(sb.2 b (λz=>hb (by rw[z];exact ya9 ..))).trans e
  refine Wb W S hS val hP hn k (i+1) _ (by omega) (by omega) st2 ?_ λs'' mv3 hs3=>h s'' (mv2.trans W.gtrans mv3) hs3
  have hS:(λk'=>(decide (k'∈met val i) || decide (k'=val i)))=λk'=>decide (k'∈met val (i+1)):=funext λk'=>by
   conv=>rhs;unfold met
   by_cases hm:val i∈met val i
   .rw[if_pos hm]
    by_cases e:k'=val i
    .rw[e,yew hm];rfl
    .rw[yeg e,ydk]
   .rw[if_neg hm,ycp];simp only[ybm,yf6,yax,yaa]
  have hN:(if decide (val i∈met val i)=true then (met val i).length else (met val i).length+1)=(met val (i+1)).length:=by
   conv=>rhs;unfold met
   by_cases hm:val i∈met val i
   .rw[if_pos hm,if_pos (yew hm)]
   .rw[if_neg hm,if_neg (λz=>hm (yfa z)),yad,ybi]
  obtain⟨o,es,ep,t,h1,h2,h3,h4,h5,h6,h7,h8⟩:=hset2;refine⟨o,es,ep,t,h1,h2,h3,h4,λk'=>?_,h6,h7,h8.trans hN⟩
  rw[<- h5 k'];have e:=congrFun hS k';show decide (k'∈met val (i+1))=true ↔ _;rw[<- e]
end
open Classical in
theorem zbu{A:Around}{E:Value->Shared->Prop}{l:Addr}{items:Array Value}{knd:PySem.KeyKind prog w Key}{val:Nat->Key}{Q:Value->Shared->Prop}(hh:A.handled=none)(hl:s.heap.IsList l items)(hP:∀(i:Nat) (v:Value),items[i]?=some v->knd.is (val i) v=true/\v.scannable=true)(hb:items.size+1<scanBound)(h:∀(h':Heap) (tk:Nat),Heap.SetOf knd h' s.heap.objs.size (λk'=>decide (k'∈met val items.size)) (met val items.size).length->(∀(b:Nat) (o:Obj),b<s.heap.objs.size->s.heap.get? b=some o->h'.get? b=some o)->Q (.ref s.heap.objs.size) { s with heap:=h',toks:=tk }) :
  wpAny (model prog w) A (call (Value.type "set") [Value.ref l]) Q E s:=by
 obtain⟨c,tl,hmro⟩:=yd4.mro;have hmade:=yd4.made;have hsub:=yd4.sub;refine yf1 (codeAny_of_tree ?_);refine yen ⟨Code.quiet_builtin _ (by decide +kernel),yf4 F.entry_type_call ?_⟩
 have hu:=Around.under_plain (A:=A) (weight_type_call_type "set" [Value.ref l] []) rfl;have h1:=yd4.notType;have h2:=yd4.canCreate;have hct:=F.typeCall_set_1 (Value.ref l);show wpAny (model prog w) (A.under (Code.builtin "type.__call__" { pos:=[Value.type "set",Value.ref l] })) _ _ _ s;rw[hu];unfold Builtin.«type.__call__»;refine yfb (by rw[h1];rfl) (yfb (by rw[h2];rfl) ?_)
 refine yek (yf5 hct (yek (yf5 hmro (yfb rfl (yek (yf5 hmade (yek (yen (yek (yel (yf1 (yex (code_set_new_1 (E:=λ_ _=>False) (Value.ref l) (Q₁:=λv s'=>∃led:Bool,v=.ref s.heap.objs.size/\s'={ s with heap:=s.heap.push { cls:=.type "set",data:=.set #[] 0 (SetTable.fresh 0 0 led) } }) λled=>⟨led,rfl,rfl⟩) λr s₁ hr=>?_))))))))))))
 cases r with
 |error e=>exact False.elim hr
 |ok fl =>
  cases fl with
  |next=>exact False.elim hr
  |brk=>exact False.elim hr
  |cont=>exact False.elim hr
  |ret v =>
   obtain⟨led,rfl,rfl⟩:=(show ∃led:Bool,v=.ref s.heap.objs.size/\s₁={ s with heap:=s.heap.push { cls:=.type "set",data:=.set #[] 0 (SetTable.fresh 0 0 led) } } from hr)
   have ho:(s.heap.push { cls:=.type "set",data:=.set #[] 0 (SetTable.fresh 0 0 led) }).get? s.heap.objs.size=some { cls:=.type "set",data:=.set #[] 0 (SetTable.fresh 0 0 led) }:=yal _ rfl;have hT:Shared.TypeIs { s with heap:=s.heap.push { cls:=.type "set",data:=.set #[] 0 (SetTable.fresh 0 0 led) } } (.ref s.heap.objs.size) "set":=⟨_,ho,rfl⟩
   have hin:=yd4.init;refine yek (yfc hT hsub (yfb rfl (yek (yel ?_))));unfold callSpecial?;refine yek (wpAny_specialOf hT hin.lookup (yel (yek (yf5 (hin.bind _) (yek (yf1 (yex (R:=wants (λv s'=>v=.none/\∃tk h',s'={ s with heap:=h',toks:=tk }/\Heap.SetOf knd h' s.heap.objs.size (λk'=>decide (k'∈met val items.size)) (met val items.size).length/\∀(b:Nat) (o:Obj),b<s.heap.objs.size->s.heap.get? b=some o->h'.get? b=some o) λ_ _=>False) (yf3 hin.plain F.entry_set_init (check_set_init_1 hT ?_)) λr s₂ hr₂=>?_)))))))
   .unfold Builtin.«set.__init__» noKeywords;refine yek (wpAny_ite_true rfl (yen ?_));unfold typeNameOfCut shownTypeOf;refine yek (yek (yek (wpAny_typeOf hT (yfb (by decide +kernel) (yen ?_)))))
    refine yf5 (rfl:typeNameCut 200 (Value.type "set")=pure _) ?_;refine yek (yf5 (rfl:checkCount _ 0 1 1=pure ()) ?_);refine yek (yen ?_);unfold setUsed setState;refine yek (yek (yek (wpAny_load ho (yfb rfl (yen (yen (yfb rfl ?_)))))));obtain⟨ol,hol,hcl,nl,hdl⟩:=id hl;have hol2:(s.heap.push { cls:=.type "set",data:=.set #[] 0 (SetTable.fresh 0 0 led) }).get? l=some ol:=ya8 _ hol;have hTl:Shared.TypeIs { s with heap:=s.heap.push { cls:=.type "set",data:=.set #[] 0 (SetTable.fresh 0 0 led) } } (.ref l) "list":=⟨_,hol2,hcl⟩
    unfold Builtin.Frozenset.updateFrom Builtin.Frozenset.isAnySet;refine yek (yek (yek (yfc hTl F.sub_list_set ?_)));have hl2:(s.heap.push { cls:=.type "set",data:=.set #[] 0 (SetTable.fresh 0 0 led) }).IsList l items:=⟨ol,hol2,hcl,nl,hdl⟩;refine yfc hTl F.sub_list_frozenset (yfb rfl (yek (wpAny_typeOf hTl (yfb (by decide +kernel) (yek (yeo hl2 ?_))))))
    have lt:l<s.heap.objs.size:=yah hol;have hsz:(s.heap.push { cls:=.type "set",data:=.set #[] 0 (SetTable.fresh 0 0 led) }).objs.size=s.heap.objs.size+1:=yc6 _ _;generalize hhp:s.heap.push { cls:=.type "set",data:=.set #[] 0 (SetTable.fresh 0 0 led) }=hp at *
    have hS:s.heap.objs.size∉[hp.objs.size,l]:=by
     rw[hsz];intro z
     rcases ya6.mp z with e|e
     .exact absurd e (yar (yct _))
     .exact absurd (yaa.mp e) (Nat.ne_of_gt lt)
    refine yek (wpAny_runValue ?_);refine Wb (knd:=knd) (A:=A.in1.in1) (Walks.list (A:=A.in1.in1.in1) hh hp.objs.size l (by rw[hsz];exact yar (ycd lt)) items).toS s.heap.objs.size hS val (λi v e=>hP i v e) hb items.size 0 _ (by omega) (yaz _) ⟨?_,?_⟩ ?_ λs' mv hs'=>?_
    .exact⟨_,yal _ rfl,rfl,rfl⟩
    .exact⟨ol,ya8 _ hol2,hcl,nl,hdl⟩
    .letI:BEq Key:=⟨λa b=>decide (a=b)⟩
     haveI:LawfulBEq Key:={ eq_of_beq:=λh=>yfa h,rfl:=yew rfl }
     have e0:=(setObjOf_fresh (prog:=prog) (w:=w) (knd:=knd) led).setOf (h:=hp.push { cls:=.type "list_iterator",data:=.fields #[.ref l,.int 0 0] }) (a:=s.heap.objs.size) (ya8 _ ho) (by decide)
     obtain⟨o,es,ep,t,g1,g2,g3,g4,g5,g6,g7,g8⟩:=e0;refine⟨o,es,ep,t,g1,g2,g3,g4,λk'=>?_,g6,g7,g8⟩
     rw[<- g5 k'];simp[met]
    .refine yen (yen ?_)
     have b2:∀(b:Nat) (o:Obj),b<s.heap.objs.size->s.heap.get? b=some o->s'.heap.get? b=some o:=λb o hb e=>by
      refine mv.heap b o (λz=>?_) (ya8 _ (by rw[<- hhp];exact ya8 _ e))
      rcases ya6.mp z with e|e
      .exact absurd e (yar hb)
      .have e:=yaa.mp e;rw[hsz]at e;exact absurd e (yar (ycd hb))
     have m1:=mv.gens;have m2:=mv.drawn;have m3:=mv.os;obtain⟨hh',g',d',t',os'⟩:=s';refine⟨rfl,t',hh',?_,hs',b2⟩;simp only at m1 m2 m3;rw[m1,m2,m3]
   .cases r with
    |error e=>exact False.elim hr₂
    |ok fl =>
     cases fl with
     |next=>exact False.elim hr₂
     |brk=>exact False.elim hr₂
     |cont=>exact False.elim hr₂
     |ret v =>
      obtain⟨rfl,tk,h',rfl,hs,hk⟩:=(show v=.none/\∃tk h',s₂={ s with heap:=h',toks:=tk }/\Heap.SetOf knd h' s.heap.objs.size (λk'=>decide (k'∈met val items.size)) (met val items.size).length/\∀(b:Nat) (o:Obj),b<s.heap.objs.size->s.heap.get? b=some o->h'.get? b=some o from hr₂)
      refine yen (yfb rfl (yen ?_));exact h h' tk hs hk
def SO(P:Program)(w:World)(a:Addr)(ks:List Key):HO:=.ext λh=>Heap.SetOf (Bl P w) h a (λk=>@decide (k∈ks) (Classical.propDecidable _)) ks.length
section
theorem zf1(hc:X.calm=true):Bv X (.type "set") (λxs H Q=>∃(p:Addr) (ys:List Str),xs=[.ref p]/\AY X.K H p (ys.map V.str)/\ys.length<1000/\∀a,H a=none->Q (.ref a) (upd H a (SO X.prog X.w a (met (λi=>Sum.inr (ys.getD i Str.empty)) ys.length)))):=by
 intro pins s σ H xs us Q I r h;obtain⟨p,ys,rfl,hq,hz,q⟩:=h;obtain⟨u,rfl,rx⟩:=E6 r;cases rx;obtain⟨its,r',pl,_⟩:=I.list hq;have hlen:=r'.length;rw[ya1]at hlen;have hsz:its.toArray.size=ys.length:=by rw[yak];exact hlen.symm
 refine zbu (knd:=Bl X.prog X.w) (val:=λi=>Sum.inr (ys.getD i Str.empty)) (I.ok.hd hc) pl.isList (λi v e=>?_) (by rw[hsz];exact yam (Nat.succ_lt_succ hz) (by decide)) λh' tk hs kp=>?_
 .have e':its[i]?=some v:=by simpa using e
  have hi:i<ys.length:=by rw[hlen];exact(ya4.mp e').1
  have hx:(ys.map V.str)[i]?=some (.str ys[i]):=by rw[ya5,ya0 hi];rfl
  obtain⟨u,e2,ru⟩:=r'.get hx;rw[e']at e2;cases e2;obtain⟨t,rfl⟩:=(show ∃t,v=Value.str ys[i] t from ru);refine⟨?_,rfl⟩;show En (Sum.inr (ys.getD i Str.empty)) (Value.str ys[i] t)=true;rw[yag,ya0 hi];show(ys[i] == ys[i])=true;exact yf8 _
 .rw[hsz]at hs;refine⟨.ref s.heap.objs.size,_,I.laid (a:=s.heap.objs.size) (o:=SO X.prog X.w s.heap.objs.size (met (λi=>Sum.inr (ys.getD i Str.empty)) ys.length)) (t':=tk) (λb o e=>kp b o (yah e) e) (yac _) ⟨?_,?_,?_⟩,rfl,q _ (I.hok.fresh (yac _))⟩
  .exact hs
  .obtain⟨o,es,ep,t,g1,_⟩:=hs;exact⟨o,g1⟩
  .intro h1 h2 p1 k;obtain⟨o,es,ep,t,g1,g2⟩:=p1;exact⟨o,es,ep,t,k o g1,g2⟩
theorem zf3:Bv X (.builtin "len") (λxs H Q=>∃a ks,xs=[.ref a]/\H a=some (SO X.prog X.w a ks)/\Q (.int ks.length) H):=by
 intro pins s σ H xs us Q I r h;obtain⟨a,ks,rfl,ha,q⟩:=h;obtain⟨u,rfl,rx⟩:=E6 r;cases rx;obtain⟨⟨o,es,ep,t,g1,g2,g3,g4,g5,g6,g7,g8⟩,_⟩:=(show _/\_ from I.hok a _ ha)
 have hb:((es.size:Nat):Int)<2 ^ 63:=by
  have:scanBound<=2 ^ 40:=by decide
  have g6':es.size<scanBound:=g6
  omega
 refine call_len_set g1 g2 g3 g7 hb ⟨.int (es.size:Int),H,I.tok _,⟨_,rfl⟩,?_⟩;rw[show es.size=ks.length from g8];exact q
end
def EK:List T->Option (List Str)
 |[]=>some []
 |.str x::r=>(match EK r with
  |some l=>some (x::l)
  |none=>none)
 |_::_=>none
theorem Tq{K:kA}{F:Hp}:∀{l:List T} {ys:List Str} {xs:List V},EK l=some ys->A9 K F l xs->xs=ys.map V.str
 |[],ys,xs,h,r=>by
  cases h;exact r.inv0
 |t::l,ys,xs,h,r=>by
  obtain⟨x,xs',rfl,r1,r2⟩:=r.inv;unfold EK at h;split at h
  .rename_i e;cases e
  .rename_i y r e;cases e;split at h
   .rename_i l' hl;cases h;rw[r1.str_inv,Tq hl r2]
    rfl
   .cases h
  .cases h
def H9(ys:List Str):Nat:=(met (λi=>Sum.inr (ys.getD i Str.empty)) ys.length).length
def G8:T->Option T
 |.nd _ .lst l=>(match EK l with
  |some ys=>if ys.length<1000 then some (.int (H9 ys)) else none
  |none=>none)
 |_=>none
section
variable {p3:Pos}
theorem r_unq(hc:X.calm=true)(hg:Gl X "len")(hm:X.mg "len"=none)(hg2:Gl X "set")(hm2:X.mg "set"=none)(ha:PE X e (tM X.K E ca m))(he:starEach [e] X.env=[(false,eval e X.env)]) :
  PE X (.Call (.Name "len" p) [.Call (.Name "set" p2) [e] [] p3] [] pos) (tM X.K E ca (BA (g1 G8) (AB m AD))):=by
 have hset:=VH (pos:=p3) (p:=p2) (zf1 hc) hg2 hm2 (show bootBuiltins "set"=some (.type "set") from rfl) (Cf ha DZ he) (by decide) (by decide) he rfl
 refine PE.weak (Hi (zf3 (X:=X)) hg hm PySem.boot_len (Cf hset DZ rfl) (by decide) (by decide) rfl rfl) λσ H Q h=>?_
 refine(Ea (FG h)).mono λx H1 h1=>?_
 obtain⟨F,ts,v,fh,rs,e,q⟩:=E9 h1;unfold g1 at e;split at e
 .obtain⟨x1,xs1,e1,r1,rs1⟩:=rs.inv;cases e1;unfold G8 at e;split at e
  .split at e
   .rename_i o l ys hy;split at e
    .rename_i hz;cases e;obtain⟨pp,zs,rfl,_,n,kd⟩:=Cg r1;have hF:F pp=some (.lst zs):=n;refine⟨pp,ys,rfl,AY.of (by rw[<- Tq hy kd];exact fh _ _ hF),hz,λa ha=>⟨a,_,rfl,Ba,?_⟩⟩
     exact q F _ _ R0 ((Ext.newO fh ha).mono λ_ z=>z.elim) (Rp.int _)
    .cases e
   .cases e
  .cases e
 .cases e
end
def Dx:T->T->Option T
 |.int i,.int j=>some (.bl (decide (i<=j)))
 |.str x,.str y=>some (.bl (!(@decide (y.cps.toList<x.cps.toList) (Classical.propDecidable _))))
 |_,_=>none
section
variable {k:Expr}
theorem zjc:A6 X (compareOp .LtE) (BS X.K Dx):=by
 intro pins s σ H x y v u Q I rx ry h;obtain⟨F,t1,t2,r,fh,r1,r2,e,q⟩:=h;unfold Dx at e;split at e
 .cases e;rw[r1.int_inv]at rx;rw[r2.int_inv]at ry;exact VN pins s σ H _ _ v u Q I rx ry ⟨_,_,rfl,rfl,q.bl fh⟩
 .rename_i a b;cases e;rw[r1.str_inv]at rx;rw[r2.str_inv]at ry;obtain⟨t,rfl⟩:=(show ∃t,v=Value.str a t from rx);obtain⟨t',rfl⟩:=(show ∃t,u=Value.str b t from ry);refine PySem.P.le_str ⟨.bl _,H,I,rfl,?_⟩;have q1:=q.bl fh;rw[show(!decide (b.cps.toList<a.cps.toList))=!(@decide (b.cps.toList<a.cps.toList) (Classical.propDecidable _)) from congrArg _ (by rw[ycp,yf6,@decide_eq_true_eq _ (Classical.propDecidable _)])]
  exact q1
 .cases e
end
def GJ(ys:List Str)(y:Str):Option Nat:=ys.findIdx? λx=>@decide (x=y) (Classical.propDecidable _)
section
variable {k:Expr}
end
def KI:T->Option T
 |.nd _ .lst l=>some (.tup l)
 |_=>none
theorem zf5:Bv X (.type "tuple") (DK X.K (g1 KI)):=by
 intro pins s σ H xs us Q I r h;obtain⟨F,ts,v,fh,rs,e,q⟩:=h;unfold g1 at e;split at e
 .obtain⟨x1,xs1,rfl,r1,rs1⟩:=rs.inv;cases rs1.inv0;unfold KI at e;split at e
  .cases e;obtain⟨p,ys,rfl,rfl,n1,k1⟩:=Cg r1;have hF:F p=some (.lst ys):=n1;exact zbt pins s σ H _ us Q I r ⟨p,ys,rfl,.inl ⟨AY.of (fh _ _ hF),λl hl=>q.tuple fh k1 hl⟩⟩
  .cases e
 .cases e
noncomputable def Hc(i:Nat)(cs:List (Str×Addr))(u h:AH):AH:=λτ=>match u τ with
 |some (.xc c τ')=>(match cs.lookup c with
  |some C=>if i<τ'.length then (match h (τ'.set i (some (.obj (.exn C) []))) with
   |some (.nx τ2)=>some (.nx (τ2.set i none))
   |some (.rt t)=>some (.rt t)
   |_=>none) else none
  |none=>none)
 |r=>r
section
variable {n:Str}{np hpos:Pos}{suite:List Stmt}{b₀:Stmt}{h:AH}{cs:List (Str×Addr)}
theorem StR.put{K:kA}{t:T}{v:V}(S:StR K F H σ τ R)(hi:i<τ.length)(r:Rp K F H t v R0):StR K F H (σ.set i (some v)) (τ.set i (some t)) (λj=>if j=i then R0 else R j):=by
 refine⟨S.fh,by simpa using S.len,λj t' e=>?_,λj a z=>?_,λj k a hjk z1 z2=>?_⟩
 .by_cases hj:j=i
  .subst hj;rw[yap hi]at e;cases e;exact⟨v,yap (by rw[S.len];exact hi),by simpa using r⟩
  .rw[yan (yay hj)]at e;obtain⟨y,e1,r1⟩:=S.rep j t' e;exact⟨y,by rw[yan (yay hj)];exact e1,by simpa[hj] using r1⟩
 .by_cases hj:j=i
  .simp only[hj,yet]at z;exact z.elim
  .simp only[hj,yeu]at z;obtain⟨t',e⟩:=S.out j a z;exact⟨t',by rw[yan (yay hj)];exact e⟩
 .by_cases hj:j=i
  .simp only[hj,yet]at z1;exact z1.elim
  .by_cases hk:k=i
   .simp only[hk,yet]at z2;exact z2.elim
   .simp only[hj,yeu]at z1;simp only[hk,yeu]at z2;exact S.dis j k a hjk z1 z2
theorem StR.gone{K:kA}(S:StR K F H σ τ R):StR K F H (σ.set i none) (τ.set i none) (λj=>if j=i then R0 else R j):=by
 refine⟨S.fh,by simpa using S.len,λj t' e=>?_,λj a z=>?_,λj k a hjk z1 z2=>?_⟩
 .by_cases hj:j=i
  .subst hj;rw[List.getElem?_set]at e;simp only[yet]at e;split at e<;>cases e
  .rw[yan (yay hj)]at e;obtain⟨y,e1,r1⟩:=S.rep j t' e;exact⟨y,by rw[yan (yay hj)];exact e1,by simpa[hj] using r1⟩
 .by_cases hj:j=i
  .simp only[hj,yet]at z;exact z.elim
  .simp only[hj,yeu]at z;obtain⟨t',e⟩:=S.out j a z;exact⟨t',by rw[yan (yay hj)];exact e⟩
 .by_cases hj:j=i
  .simp only[hj,yet]at z1;exact z1.elim
  .by_cases hk:k=i
   .simp only[hk,yet]at z2;exact z2.elim
   .simp only[hj,yeu]at z1;simp only[hk,yeu]at z2;exact S.dis j k a hjk z1 z2
theorem TH{a:Addr}(h:tot (λj=>if j=i then R0 else R j) a):tot R a:=by
 obtain⟨j,z⟩:=h
 by_cases hj:j=i
 .simp only[hj,yet]at z;exact z.elim
 .simp only[hj,yeu]at z;exact⟨j,z⟩
theorem s_try(T:ECls X.K X.mg x)(hcs:∀c C,cs.lookup c=some C->ca c=.ref C/\PySem.W.subIn X.K (.ref C) (.ref T.C)=some true)(hst:X.stack=X.env::X.outer)(hf:X.env.frame=some X.env.locals)(hN:X.N.Nodup)(hi:X.N[i]?=some n)(hloc:X.env.scope.names.lookup n=some .local)
  (hb:∀(E':L2.St->XK) pins xe,BO (Fe X pins xe) E'->BE (Fe X pins xe) body (tS X.K E' ca mu u)) (hh:∀a,Jh a i (DS X a) (b₀::suite) (tS X.K E5 ca mu h)) (hg:Gl X x) (hdb:(x == ("__debug__":Str))=false) :
  PS X (.Try body [.ExceptHandler (some (.Name x np)) (some n) (b₀::suite) hpos] [] [] pos) (tS X.K E ca mu (Hc i cs u h)):=by
 intro pins s σ H D I hq;obtain⟨F,τ,R,S,q⟩:=hq;let E':L2.St->XK:=λσ1 cls _ H1=>∃c τ' F' R',u τ=some (.xc c τ')/\cls=ca c/\Stp F H (tot R) F' H1 (tot R')/\StR X.K F' H1 σ1 τ' R'
 refine zm7 (E:=E') (tb:=tS X.K E' ca mu u) (th:=tS X.K E5 ca mu h) T hst hf hN hi hloc (λpins xe hp=>hb E' pins xe hp) hh hg hdb pins s σ H D I ⟨⟨F,τ,R,S,?_⟩,?_⟩
 .unfold Hc at q;cases hu:u τ with
  |none=>rw[hu]at q;exact q
  |some o =>
   cases o with
   |nx τ'=>rw[hu]at q;exact q
   |rt t=>rw[hu]at q;exact q
   |bk τ'=>rw[hu]at q;exact q
   |ct τ'=>rw[hu]at q;exact q
   |xc c τ'=>exact λF' H' σ' R' st S'=>⟨c,τ',F',R',hu,rfl,st,S'⟩
 .intro σ1 cls H1 ⟨c,τ',F',R',hu,hcl,st,S'⟩;unfold Hc at q;simp only[hu]at q;cases hl:cs.lookup c with
  |none=>simp only[hl]at q<;>exact False.elim q
  |some C =>
   simp only[hl]at q;obtain⟨h1,h2⟩:=hcs c C hl
   by_cases hlen:i<τ'.length
   case neg =>
    rw[if_neg hlen]at q;exact q.elim
   rw[if_pos hlen]at q;refine⟨C,hcl.trans h1,h2,λa o ha hX=>?_⟩
   have fa:F' a=none:=FW S'.fh ha;have e1:Ext F' H1 (upd F' a o) (upd H1 a o) R0:=Ext.new S'.fh ha;have S2:=S'.ext e1;have rx:Rp X.K (upd F' a o) (upd H1 a o) (.obj (.exn C) []) (.ref a) R0:=.obj (k:=.exn C) (xs:=[]) (hX.of λu z=>Ba.trans (Ba.symm.trans z)) rfl λi t x h=>by simp at h
   have S3:=S2.put hlen rx;have st2:Stp F H (tot R) (upd F' a o) (upd H1 a o) (tot λj=>if j=i then R0 else R' j):=(st.trans e1.stp0).mono λb z=>TH z
   refine⟨_,_,_,S3,?_⟩;cases hh:h (τ'.set i (some (.obj (.exn C) []))) with
   |none=>simp only[hh]at q<;>exact False.elim q
   |some o =>
    simp only[hh]at q;cases o with
    |nx τ2 =>
     intro F4 H4 σ4 R4 st4 S4;exact q F4 H4 (σ4.set i none) _ ((st2.trans st4).mono λb z=>TH z) S4.gone
    |rt t=>exact λF4 H4 x B st4 r4=>q F4 H4 x B (st2.trans st4) r4
    |bk _=>exact q.elim
    |ct _=>exact q.elim
    |xc _ _=>exact q.elim
end
def DP(tb:List (Addr×Bool)):T->Option T
 |.obj (.exn C) _=>(match tb.lookup C with
  |some b=>some (.bl b)
  |none=>none)
 |_=>none
variable {tb:List (Addr×Bool)}
section
variable {c:Str}{v:V}
theorem Uh(hg:Gl X "isinstance")(hm:X.mg "isinstance"=none)(hv:PE X (.Name c p2) (tC v))(hvv:∃D,v=.ref D\/∃T,v=.ty T)(htb:∀C b,tb.lookup C=some b->ExcK X.K C/\PySem.W.kitOne X.K (.ref C) (RV v)=some b)(ha:PE X e (tM X.K E ca m))(he:starEach [e,.Name c p2] X.env=(false,eval e X.env)::starEach [.Name c p2] X.env) :
  PE X (.Call (.Name "isinstance" p) [e,.Name c p2] [] pos) (tM X.K E ca (BA (g1 (DP tb)) (AB m AD))):=by
 refine PE.weak (Hi (zha (X:=X)) hg hm yc8 (Cf ha (Cf hv DZ) he) (by decide) (by decide) he rfl) λσ H Q h=>?_
 refine(Ea (FG h)).mono λx H1 h1=>?_
 obtain⟨F,ts,w,fh,rs,e,q⟩:=E9 h1;unfold g1 at e;split at e
 .obtain⟨x1,xs1,e1,r1,rs1⟩:=rs.inv;cases e1;unfold DP at e;split at e
  .rename_i C l;split at e
   .rename_i b hb;cases e;obtain⟨k1,k2⟩:=htb C b hb;obtain⟨a,xs,rfl,_,hF,_,_⟩:=r1.obj_inv;have hF':EI F a C:=hF;exact⟨a,C,v,b,rfl,hF'.of (fh a),k1,hvv,k2,q.bl fh⟩
   .cases e
  .cases e
 .cases e
end
section
variable {it:Expr}{ret:List Stmt}{k:T}{ip:Pos}
end
section
variable {it:Expr}{t:T}{bpos:Pos}
end
section
variable {k:Expr}
def rSlS:V->Option Int->Option Int->Hp->VK->Prop:=λx lo hi H Q=>∃z:Str,x=.str z/\z.length<=BL/\Q (.str (Txt.slice z lo hi)) H
theorem zlf:SN X rSlS:=by
 intro pins s σ H x v vl vu lo hi sl Q I rx hs pl pu q;obtain⟨z,rfl,hz,q⟩:=q;obtain⟨t,rfl⟩:=(show ∃t,v=Value.str z t from rx);obtain⟨ob,ho,hc,hd⟩:=hs;rw[Dl]at hz;cases pl with
 |none =>
  cases pu with
  |none=>exact⟨"str",_,ych.lookup,yes _ _ _,yfd (l:=none) (u:=none) (st:=none) ⟨ob,ho,hc,hd⟩ rfl (yfe ⟨yaw (yee z _ _) hz,λt' k=>⟨.str _,H,I.tok _,⟨_,rfl⟩,q⟩⟩)⟩
  |int j uj=>exact⟨"str",_,ych.lookup,yes _ _ _,yfd (l:=none) (u:=some (j,uj)) (st:=none) ⟨ob,ho,hc,hd⟩ rfl (yfe ⟨yaw (yee z _ _) hz,λt' k=>⟨.str _,H,I.tok _,⟨_,rfl⟩,q⟩⟩)⟩
 |int i ui =>
  cases pu with
  |none=>exact⟨"str",_,ych.lookup,yes _ _ _,yfd (l:=some (i,ui)) (u:=none) (st:=none) ⟨ob,ho,hc,hd⟩ rfl (yfe ⟨yaw (yee z _ _) hz,λt' k=>⟨.str _,H,I.tok _,⟨_,rfl⟩,q⟩⟩)⟩
  |int j uj=>exact⟨"str",_,ych.lookup,yes _ _ _,yfd (l:=some (i,ui)) (u:=some (j,uj)) (st:=none) ⟨ob,ho,hc,hd⟩ rfl (yfe ⟨yaw (yee z _ _) hz,λt' k=>⟨.str _,H,I.tok _,⟨_,rfl⟩,q⟩⟩)⟩
def ES(ma:AF)(ml mh:Option (AF)):AF:=λτ=>match ma τ with
 |some (.v (.str z) _)=>(match ET ml τ,ET mh τ with
  |some lo,some hi=>if z.length<=BL then some (.v (.str (Txt.slice z lo hi)) false) else none
  |_,_=>none)
 |_=>none
theorem zfz{lo hi:Option Expr}{ml mh:Option (AF)}(ha:PE X a (tM X.K E ca ma))(hl:PO X lo (Gb X.K ml))(hh:PO X hi (Gb X.K mh)):PE X (.Subscript a (.Slice lo hi none p2) pos) (tM X.K E ca (ES ma ml mh)):=by
 refine PE.weak (VD zlf ha hl hh) λσ H Q h=>?_
 obtain⟨F,τ,R,S,q⟩:=h;refine⟨F,τ,R,S,?_⟩;unfold ES at q;cases hm:ma τ with
 |none=>rw[hm]at q;exact q.elim
 |some r =>
  rw[hm]at q;cases r with
  |x c=>exact q.elim
  |v t bb =>
   cases t with
   |str z =>
    simp only at q;intro F1 H1 x B e1 g1;have hx:=HD g1;subst hx;have e1':Ext F H F1 H1 R0:=e1.mono λ_ z=>z.elim
    have S1:=S.ext e1';cases h1:ET ml τ with
    |none=>simp only[h1]at q<;>exact False.elim q
    |some lo' =>
     refine⟨F1,τ,R,lo',S1,h1,λF2 H2 e2=>?_⟩
     have S2:=S1.ext e2;cases h2:ET mh τ with
     |none=>simp only[h1,h2]at q<;>exact False.elim q
     |some hi' =>
      simp only[h1,h2]at q;refine⟨F2,τ,R,hi',S2,h2,λF3 H3 e3=>?_⟩
      by_cases hz:z.length<=BL
      .rw[if_pos hz]at q;exact⟨z,rfl,hz,q F3 H3 _ R0 (e1'.trans0 (e2.trans0 e3)) (.str _)⟩
      .rw[if_neg hz]at q;exact q.elim
   |_=>exact q.elim
def rJoin:V->List V->Hp->VK->Prop:=λx vs H Q=>∃(sep:Str) (l:Addr) (ys:List Str),x=.str sep/\vs=[.ref l]/\H l=some (.lst (ys.map V.str))/\(ys.map (·.length)).sum+ys.length * sep.length<=BL/\Q (.str (Txt.join sep ys)) H
theorem Tp:∀{ys:List Str} {its:List Value},A5 (ys.map V.str) its->StrsAre its ys
 |[],its,r=>by
  cases r;exact .nil
 |y::ys,its,r=>by
  cases r with
  |cons h t =>
   obtain⟨tk,rfl⟩:=h;exact .cons _ _ (Tp t)
theorem zjj:Jl X "str.join" rJoin:=by
 intro pins s σ H x vs v us Q I rx rv h;obtain⟨sep,l,ys,rfl,rfl,hH,hz,q⟩:=h;obtain⟨t,rfl⟩:=(show ∃t,v=Value.str sep t from rx);obtain⟨u,rfl,ru⟩:=rv.one;cases ru;obtain⟨its,r,pl,_⟩:=I.list (AY.of hH);refine join_list (items:=its.toArray) pl.isList (Tp r) (by rw[Dl]at hz;exact hz) λt' k=>⟨.str _,H,I.tok _,⟨_,rfl⟩,q⟩
def GC(m mk:AF):AF:=λτ=>match m τ with
 |some (.v (.str sep) _)=>(match mk τ with
  |some (.v (.nd _ .lst l) _)=>(match EK l with
   |some ys=>if (ys.map (·.length)).sum+ys.length * sep.length<=BL then some (.v (.str (Txt.join sep ys)) false) else none
   |none=>none)
  |_=>none)
 |_=>none
theorem zn7{K:kA}{o:Bool}{x:V}(s:AZ F H)(h:Rp K F H (.nd o .lst l) x A):∃p xs,x=.ref p/\H p=some (.lst xs)/\l.length=xs.length/\∀(i:Nat) (t:T) (x:V),l[i]?=some t->xs[i]?=some x->∃B,Rp K F H t x B:=by
 cases h with
 |shr h e c=>exact⟨_,_,rfl,s _ _ h,e,λi t x h1 h2=>⟨_,c i t x h1 h2⟩⟩
 |own hk R f h e c d dp o=>exact⟨_,_,rfl,h,e,λi t x h1 h2=>⟨_,c i t x h1 h2⟩⟩
theorem To{K:kA}{F H:Hp}:∀{l:List T} {ys:List Str} {xs:List V},EK l=some ys->l.length=xs.length->(∀(i:Nat) (t:T) (x:V),l[i]?=some t->xs[i]?=some x->∃B,Rp K F H t x B)->xs=ys.map V.str
 |[],ys,xs,h,e,_=>by
  cases h;cases xs with
  |nil=>rfl
  |cons _ _=>simp at e
 |t::l,ys,[],h,e,_=>by simp at e
 |t::l,ys,x::xs,h,e,f=>by
  unfold EK at h;split at h
  .cases ‹_::_=[]›
  .rename_i z r hh;cases hh;split at h
   .rename_i l' hl;cases h;obtain⟨B,r0⟩:=f 0 _ x rfl rfl;have ih:xs=l'.map V.str:=To hl (by simpa using e) λi t x h1 h2=>f (i+1) t x (by simpa using h1) (by simpa using h2)
    rw[r0.str_inv,ih]
    rfl
   .cases h
  .cases h
theorem zlw(ho:PE X o (tM X.K E ca m))(hk:PE X k (tM X.K E ca mk))(hbase:attributeBase o "join" X.env (eval o X.env)=eval o X.env)(hs:starEach [k] X.env=[(false,eval k X.env)])(hline:(apos.endLine == cpos.line)=true) :
  PE X (.Call (.Attribute o "join" apos) [k] [] cpos) (tM X.K E ca (GC m mk)):=by
 refine PE.weak (Iz PySem.F.plainAttrs_str PySem.F.slot_str_join PySem.F.type_str_join zjj ho (Cf hk DZ hs) hbase (by rw[hs];rfl) hline hs rfl) λσ H Q h=>?_
 obtain⟨F,τ,R,S,q⟩:=h;refine⟨F,τ,R,S,?_⟩;unfold GC at q;cases hm:m τ with
 |none=>rw[hm]at q;exact q.elim
 |some r =>
  rw[hm]at q;cases r with
  |x c=>exact q.elim
  |v t b =>
   cases t with
   |str sep =>
    simp only at q;intro F1 H1 x B e1 g1;have hx:=HD g1;subst hx;have e1':Ext F H F1 H1 R0:=e1.mono λ_ z=>z.elim
    refine⟨rfl,F1,τ,R,S.ext e1',?_⟩;cases hk2:mk τ with
    |none=>rw[hk2]at q;exact q.elim
    |some r2 =>
     rw[hk2]at q;cases r2 with
     |x c=>exact q.elim
     |v t2 b2 =>
      cases t2 with
      |nd o2 k2 l =>
       cases k2 with
       |lst =>
        simp only at q;intro F2 H2 z B2 e2 g2
        have hr:∃A,Rp X.K F2 H2 (.nd o2 .lst l) z A:=by
         cases b2 with
         |true=>obtain⟨_,A,_,r⟩:=g2;exact⟨A,r⟩
         |false=>exact⟨_,g2⟩
        obtain⟨A,r⟩:=hr;obtain⟨p,xs,rfl,hH,el,kd⟩:=zn7 e2.fh r;cases hy:EK l with
        |none=>simp only[hy]at q<;>exact False.elim q
        |some ys =>
         simp only[hy]at q;have hxs:=To hy el kd
         by_cases hz:(ys.map (·.length)).sum+ys.length * sep.length<=BL
         .rw[if_pos hz]at q;exact⟨sep,p,ys,rfl,rfl,by rw[<- hxs];exact hH,hz,q F2 H2 _ R0 ((e1'.trans e2).mono λ_ z=>z.elim) (.str _)⟩
         .rw[if_neg hz]at q;exact q.elim
       |_=>exact q.elim
      |_=>exact q.elim
   |_=>exact q.elim
def rIxD:R2:=λx y H Q=>∃a kvs k v,x=.ref a/\y=.str k/\H a=some (.dK kvs)/\DW kvs (Sum.inr k)=some v/\Q v H
theorem znp(hu:X.A.units+1<cLine):Ez X rIxD:=by
 intro value slice pins s σ H x y v u Q I rx ry h hs;obtain⟨a,kvs,k,w,rfl,rfl,hH,hv,q⟩:=h;cases rx;have g:Jm H a (kV (Sum.inr k)) (some w):=hv▸Jm.k hH
 have hT:s.TypeIs (.ref a) "dict":=by
  obtain⟨_,_,vs,_,dd⟩:=RG I.hok hH;exact dd.typeIs
 unfold subscriptTail;refine yek ?_;rw[getitemInPython_of_ne hT.not_modules];refine yek (wpAny_specialOf hT PySem.F.slot_dict_getitem.lookup ?_)
 have As:wpAny (model X.prog X.w) X.A (subscripted slice false (.ref a) u) (λr s₃=>wpAny (model X.prog X.w) X.A (letTemporaryGo value (.ref a) r >>= λ_=>pure r) (EP X pins σ Q) X.xe s₃) X.xe s:=by
  rw[hs];exact wpAny_operating (yeh (zew hu I g (show L2.RelV (kV (Sum.inr k)) u from ry) λw' s3 I3 rw'=>(⟨w,H,I3,rw',q⟩:EP X pins σ Q w' s3)) (λr s₃ h₃=>yek (wpAny_letTemporaryGo (yen h₃))) λ_ _ x=>x)
 first|exact yen (yek As)|exact yek (yen (yek As))|exact yek As
def JJ(m mk:AF):AF:=λτ=>match m τ with
 |some (.v (.obj (.sdc ks) l) _)=>(match mk τ with
  |some (.v (.str y) _)=>(match GJ ks y with
   |some j=>(match l[j]? with
    |some u=>if u.sh then some (.v u false) else none
    |none=>none)
   |none=>none)
  |_=>none)
 |_=>none
theorem Sw:∀{ks:List Str} {xs:List V} {y:Str} {j:Nat} {v:V},GJ ks y=some j->xs[j]?=some v->DW (CQ ks xs) (Sum.inr y)=some v
 |[],xs,y,j,v,h,_=>by simp[GJ]at h
 |k::ks,[],y,j,v,_,h=>by simp at h
 |k::ks,x::xs,y,j,v,h,hx=>by
  show DW ((Sum.inr k,x)::CQ ks xs) (Sum.inr y)=some v;unfold GJ at h;rw[ye5]at h
  by_cases e:k=y
  .rw[@decide_eq_true _ (Classical.propDecidable _) e]at h;simp only[yet,yeb]at h;subst h;rw[Jz (p:=(Sum.inr k,x)) (by rw[e])]
   simpa using hx
  .rw[@decide_eq_false _ (Classical.propDecidable _) e]at h;simp only[yca,yeu,ya2]at h;obtain⟨j',h1,rfl⟩:=h;rw[KA (p:=(Sum.inr k,x)) (λz=>e (Sum.inr.inj z))]
   exact Sw (show GJ ks y=some j' from h1) (by simpa using hx)
theorem r_gt(hu:X.A.units+1<cLine)(ho:PE X o (tM X.K E ca m))(hk:PE X k (tM X.K E ca mk))(hs:Md k):PE X (.Subscript o k pos) (tM X.K E ca (JJ m mk)):=by
 refine PE.weak (VE (znp hu) ho hk hs) λσ H Q h=>?_
 obtain⟨F,τ,R,S,q⟩:=h;refine⟨F,τ,R,S,?_⟩;unfold JJ at q;cases hm:m τ with
 |none=>rw[hm]at q;exact q.elim
 |some r =>
  rw[hm]at q;cases r with
  |x c=>exact q.elim
  |v t b =>
   cases t with
   |obj kd l =>
    cases kd with
    |sdc ks =>
     simp only at q;intro F1 H1 x B e1 g1;obtain⟨r1,hB⟩:=Lh g1;subst hB;obtain⟨a,xs,rfl,_,⟨hl1,hF⟩,el,cc⟩:=r1.obj_inv;refine⟨F1,τ,R,S.ext e1,?_⟩;cases hk2:mk τ with
     |none=>rw[hk2]at q;exact q.elim
     |some r2 =>
      rw[hk2]at q;cases r2 with
      |x c=>exact q.elim
      |v t2 b2 =>
       cases t2 with
       |str y =>
        simp only at q;intro F2 H2 z B2 e2 g2;have hz:=HD g2;subst hz;have e2':Ext F1 H1 F2 H2 R0:=e2.mono λ_ z=>z.elim
        cases hj:GJ ks y with
        |none=>simp only[hj]at q<;>exact False.elim q
        |some j =>
         simp only[hj]at q;cases hu2:l[j]? with
         |none=>simp only[hu2]at q<;>exact False.elim q
         |some u =>
          simp only[hu2]at q
          by_cases hsh:u.sh=true
          .rw[if_pos hsh]at q;have hjl:=(ya4.mp hu2).1;have hx:xs[j]?=some xs[j]:=ya0 (by omega)
           have hc:=(cc j u _ hu2 hx).move (F':=F2) (H':=H2) hsh e2'.ff;exact⟨a,_,y,_,rfl,rfl,e2'.hh _ _ (e1.fh _ _ hF),Sw hj hx,q F2 H2 _ R0 (e1.trans0 e2') hc⟩
          .rw[if_neg hsh]at q;exact q.elim
       |_=>exact q.elim
    |_=>exact q.elim
   |_=>exact q.elim
def tKys(to:TE):TE:=λσ H Q=>to σ H λx H1=>∃a ks xs,x=.ref a/\ks.length=xs.length/\H1 a=some (.dK (CQ ks xs))/\∀p,H1 p=none->Q (.ref p) (upd H1 p (.lst (ks.map V.str)))
theorem Wp:∀{ks:List Str} {xs:List V},ks.length=xs.length->(CQ ks xs).length=ks.length
 |[],[],_=>rfl
 |[],_::_,h=>by simp at h
 |_::_,[],h=>by simp at h
 |k::ks,x::xs,h=>by
  show(CQ ks xs).length+1=ks.length+1;rw[Wp (by simpa using h)]
theorem Wq:∀{ks:List Str} {xs:List V} {vs:List (Key×Value)},ks.length=xs.length->KV (CQ ks xs) vs->vs.map (·.1)=ks.map Sum.inr
 |[],[],vs,_,r=>by
  have r':Paired _ [] vs:=(show Paired _ (CQ [] []) vs from r);cases r'
  rfl
 |[],_::_,_,h,_=>by simp at h
 |_::_,[],_,h,_=>by simp at h
 |k::ks,x::xs,vs,h,r=>by
  have r':Paired (λ(p:Key×V) (q:Key×Value)=>p.1=q.1/\RelV p.2 q.2) ((Sum.inr k,x)::CQ ks xs) vs:=r
  cases r' with
  |@cons _ q _ qs hd tl =>
   rw[yae,yae,<- hd.1,Wq (by simpa using h) tl]
theorem zmo(hc:X.calm=true)(hg:Gl X "list")(hm:X.mg "list"=none){to:TE}(ho:PE X o to)(hs:starEach [o] X.env=[(false,eval o X.env)]) :
  PE X (.Call (.Name "list" p) [o] [] p2) (tKys to):=by
 intro pins s σ H Q I h;refine yer (GD I hg hm ycq ?_ (by decide) (by decide))
 refine ybn ?_ (by rw[hs];rfl) rfl
 rw[hs];show wpAny _ _ (spliced ((false,eval o X.env)::backTo p2 (starEach [] X.env))) _ _ s;refine ye3 (AS (ho pins s σ H _ I h) λv s1 ⟨x,H1,I1,r1,q1⟩=>?_)
 obtain⟨a,ks,xs,rfl,el,hd,q⟩:=q1;cases r1;obtain⟨z,hsm,vs,rel,o',es,ep,ho',r⟩:=(show BQ X.prog X.w H1 s1.heap a (.dK (CQ ks xs)) from I1.hok a _ hd);have hat:s1.heap.DictAt (Bl X.prog X.w) a vs ep:=⟨o',es,ho',r⟩;refine yea ?_;refine PySem.W.kdl_call (PySem.W.kdl_dict (knd:=Bl X.prog X.w) (d:=a) (kvs:=vs) (ep:=ep) hsm) (I1.ok.hd hc) hat (by rw[<- Dz rel];exact z) λh' tk acc' c' hk hD hacc=>?_
 have hkeys:=Wq el rel;refine⟨.ref _,_,I1.laid (a:=s1.heap.objs.size) (o:=.lst (ks.map V.str)) (h':=h') (t':=tk) hk (yac _) ?_,rfl,q _ (I1.hok.fresh (yac _))⟩;refine⟨by rw[ya1,<- Wp el];exact z,acc'.toList,c',?_,by rw[hD]⟩
 have hlen:acc'.toList.length=ks.length:=by
  rw[ycz,hacc.1,<- ya1 (f:=λp:Key×Value=>p.1),hkeys,ya1]
 have key:∀(n:Nat) (k:Str) (v:Value),ks[n]?=some k->acc'.toList[n]?=some v->∃t,v=Value.str k t:=λn k v h1 h2=>by
  obtain⟨k',x',e1,e2⟩:=hacc.2 n v (by rw[<- ybx];exact h2)
  have e3:(vs.map (·.1))[n]?=some k':=by rw[ya5,e1];rfl
  rw[hkeys,ya5,h1]at e3;have e4:k'=Sum.inr k:=(yau e3).symm;subst e4
  rcases EA (show En (Sum.inr k) v=true from e2) with ⟨i,t,e5,_⟩|⟨x,t,e5,e6⟩
  .cases e5
  .cases e5;exact⟨t,e6⟩
 clear hD hk hacc
 generalize acc'.toList=as at hlen key
 clear hd q hkeys
 have go:∀(ks:List Str) (as:List Value),as.length=ks.length->(∀(n:Nat) (k:Str) (v:Value),ks[n]?=some k->as[n]?=some v->∃t,v=Value.str k t)->A5 (ks.map V.str) as:=by
  intro ks
  induction ks with
  |nil =>
   intro as hl _;cases as with
   |nil=>exact .nil
   |cons _ _=>simp at hl
  |cons k ks ih =>
   intro as hl key;cases as with
   |nil=>simp at hl
   |cons v as=>exact .cons (key 0 k v rfl rfl) (ih as (by simpa using hl) λn k v h1 h2=>key (n+1) k v (by simpa using h1) (by simpa using h2))
 exact go ks as hlen key
def El(m:AF):AF:=λτ=>match m τ with
 |some (.v (.obj (.sdc ks) _) _)=>some (.v (.own (ks.map T.str)) false)
 |_=>none
theorem zfv{K:kA}(ks:List Str):A9 K F (ks.map T.str) (ks.map V.str):=⟨by simp,λi t x h1 h2=>by
 rw[ya5]at h1 h2;cases h:ks[i]? with
 |none=>rw[h]at h1;cases h1
 |some k =>
  rw[h]at h1 h2;cases h1;cases h2;exact .str k⟩
theorem r_kys(hc:X.calm=true)(hg:Gl X "list")(hm:X.mg "list"=none)(ho:PE X o (tM X.K E ca m))(hs:starEach [o] X.env=[(false,eval o X.env)]):PE X (.Call (.Name "list" p) [o] [] p2) (tM X.K E ca (El m)):=by
 refine PE.weak (zmo hc hg hm ho hs) λσ H Q h=>?_
 obtain⟨F,τ,R,S,q⟩:=h;refine⟨F,τ,R,S,?_⟩;unfold El at q;cases hm2:m τ with
 |none=>rw[hm2]at q;exact q.elim
 |some r =>
  rw[hm2]at q;cases r with
  |x c=>exact q.elim
  |v t b =>
   cases t with
   |obj kd l =>
    cases kd with
    |sdc ks =>
     intro F1 H1 x B e1 g1;obtain⟨r1,hB⟩:=Lh g1;subst hB;obtain⟨a,xs,rfl,_,⟨hl1,hF⟩,el,cc⟩:=r1.obj_inv;refine⟨a,ks,xs,rfl,hl1,e1.fh _ _ hF,λp hp=>?_⟩
     have gg:Cn X.K F1 H1 (.own (ks.map T.str)) Q:=λF' H' z C e g=>q F' H' z C (e1.trans0 e) g
     exact gg.list e1.fh (zfv ks) hp
    |_=>exact q.elim
   |_=>exact q.elim
structure ICls(K:kA)(C:Addr):Prop where
 c:Cls K C
 a:PySem.W.findIn K (.ref C) "__class__"=some (some (.builtin "object.__class__"))
 n:PySem.W.specialIn K (.builtin "object.__class__") "__get__"=some (some (.builtin "getset_descriptor.__get__"))
 k:PySem.W.takesIn K (.builtin "object.__class__")=some true
 m:PySem.W.mroIn K C (.type "object")=some true
def QK(tb:List (Addr×Bool)):Ob->Option T
 |.ins C _=>(tb.lookup C).map .bl
 |_=>none
def KE:List String:=["NoneType","bool","int","str","list","tuple","dict"]
def EW(tb:List (Addr×Bool)):T->Option T
 |.obj o _=>QK tb o
 |t=>(KH t).map λ_=>.bl false
theorem zhc{D:Addr}(hC:ICls X.K C)(hk:PySem.W.kitOne X.K (.ref C) (.ref D)=some b):Bv X (.builtin "isinstance") (λxs H Q=>∃a dx fs,xs=[.ref a,.ref D]/\H a=some (.ins C dx fs)/\Q (.bl b) H):=by
 intro pins s σ H xs us Q I r h;obtain⟨a,dx,fs,rfl,e,q⟩:=h;obtain⟨u,w',rfl,rx,ry⟩:=Fo r;cases ry;exact Lc I rx (.ins e hC.c hC.a hC.n hC.k hC.m) hk λtk=>⟨.bl b,H,I.tok _,rfl,q⟩
theorem r_isC{D:Addr}{c:Str}(hC:(∀C b,tb.lookup C=some b->ICls X.K C/\PySem.W.kitOne X.K (.ref C) (.ref D)=some b)/\(KE.all λa=>PySem.W.kitOne X.K (.type a) (.ref D) == some false)=true)(hg:Gl X "isinstance")(hm:X.mg "isinstance"=none)(hgc:Gl X c)(hmc:X.mg c=some (.ref D))(hd:(c == ("__debug__":Str))=false)(ha:PE X e (tM X.K E ca m))(he:starEach [e,.Name c p2] X.env=(false,eval e X.env)::starEach [.Name c p2] X.env) :
  PE X (.Call (.Name "isinstance" p) [e,.Name c p2] [] pos) (tM X.K E ca (BA (g1 (EW tb)) (AB m AD))):=by
 have hR:Bv X (.builtin "isinstance") (λxs H Q=>(∃C b a dx fs,tb.lookup C=some b/\xs=[.ref a,.ref D]/\H a=some (.ins C dx fs)/\Q (.bl b) H)\/∃x a,xs=[x,.ref D]/\a∈KE/\(TyOf X.K H x (.type a)\/a="dict"/\∃p ob kvs,x=.ref p/\H p=some (.frz ob (.dK kvs)))/\Q (.bl false) H):=λpins s σ H xs us Q I r h=>by
  rcases h with ⟨C,b,a,dx,fs,hl,h⟩|⟨x,a,rfl,hm,ty,q⟩
  .exact zhc (hC.1 C b hl).1 (hC.1 C b hl).2 pins s σ H xs us Q I r ⟨a,dx,fs,h⟩
  .have hk:PySem.W.kitOne X.K (.type a) (.ref D)=some false:=eq_of_beq (yaj.mp hC.2 a hm);obtain⟨u,w',rfl,rx,ry⟩:=Fo r;cases ry
   rcases ty with ty|⟨rfl,p,ob,kvs,rfl,hp⟩
   .exact Lc I rx ty hk λtk=>⟨.bl false,H,I.tok _,rfl,q⟩
   .cases rx;exact XB I hp hk λtk=>⟨.bl false,H,I.tok _,rfl,q⟩
 refine PE.weak (Hi hR hg hm yc8 (Cf ha (Cf (O9 (v:=.ref D) hgc hmc rfl hd) DZ) he) (by decide) (by decide) he rfl) λσ H Q h=>?_
 refine(Ea (FG h)).mono λx H1 h1=>?_
 obtain⟨F,ts,w,fh,rs,e,q⟩:=E9 h1;unfold g1 at e;split at e
 .obtain⟨x1,xs1,e1,r1,rs1⟩:=rs.inv;cases e1;unfold EW at e;split at e
  .unfold QK at e;split at e
   .obtain⟨b,hb,rfl⟩:=ya2.mp e;obtain⟨a,xs,rfl,_,⟨dx,hF⟩,_,_⟩:=r1.obj_inv;exact .inl ⟨_,b,a,dx,_,hb,rfl,fh _ _ hF,q.bl fh⟩
   .cases e
  .obtain⟨a,ha,rfl⟩:=ya2.mp e;obtain⟨ty,hm⟩:=TC fh r1 ha;exact .inr ⟨_,a,rfl,hm,ty,q.bl fh⟩
 .cases e
end
end Pu
namespace Zx
open PySem PySem.Spec PyProof.Rows L2 Zw
variable {E:Value->Shared->Prop}{A:Around}{M:Model}
section
end
variable {X:Cx}{pos:Pos}
section
variable {i1 i2:Nat}{x1 x2 n1 n2:Str}{np1 np2 hpos1 hpos2:Pos}{body suite1 suite2:List Stmt}{b1 b2:Stmt}{tb th1 th2:TS}{E:L2.St->XK}
end
end Zx
namespace Pu
open PySem PySem.Spec PyProof.Rows L2 Zw Zx
variable {X:Cx}{E:L2.St->XK}{ca:Str->Value}{mu:Bool}{pos:Pos}{body:List Stmt}{u:AH}
section
variable {i1 i2:Nat}{x1 x2 n1 n2:Str}{np1 np2 hpos1 hpos2:Pos}{suite1 suite2:List Stmt}{b1 b2:Stmt}{h1 h2:AH}{cs1 cs2:List (Str×Addr)}
end
variable {m:AF}{e:Expr}{p p2:Pos}
section
variable {p3 p4:Pos}{c1 c2:Str}{t1 t2:List (Addr×Bool)}{kt:Nat}
end
def MA(f:Expr->Option (AF))(ks:List (Option Expr))(vs:List Expr):Option (AF) :=
 match ks,vs with
 |[],[]=>some LZ
 |[some k],[v]=>(match f k,f v with
  |some mk,some mv=>some (Ph mk mv)
  |_,_=>none)
 |_,_=>none
theorem zki{f:Expr->Option (AF)}(hf:∀e m,f e=some m->PE X e (tM X.K E ca m)){ks:List (Option Expr)}{vs:List Expr}(h:MA f ks vs=some m):PE X (.Dict ks vs pos) (tM X.K E ca m):=by
 unfold MA at h;split at h
 .cases h;exact zm1
 .split at h
  .rename_i mk mv h1 h2;cases h;exact zm0 (hf _ _ h1) (hf _ _ h2)
  .cases h
 .cases h
variable {mk ma:AF}{o a:Expr}{apos cpos:Pos}
section
variable {k:Expr}
end
variable {pos':Pos}
section
variable {k:Expr}
theorem zn6:Jl X "str.endswith" (λx vs H Q=>∃x1 y:Str,x=.str x1/\vs=[.str y]/\Q (.bl (Txt.endswith x1 y)) H):=by
 intro pins s σ H x vs v us Q I rx rv h;obtain⟨x1,y,rfl,rfl,q⟩:=h;obtain⟨t,rfl⟩:=(show ∃t,v=Value.str x1 t from rx);obtain⟨u,rfl,ru⟩:=rv.one;obtain⟨u1,rfl⟩:=(show ∃t,u=Value.str y t from ru);exact SC.endswith ⟨.bl _,H,I,rfl,q⟩
noncomputable def Gy(m mk:AF):AF:=λτ=>match m τ with
 |some (.v (.str x) _)=>(match mk τ with
  |some (.v (.str y) _)=>some (.v (.bl (Txt.endswith x y)) false)
  |_=>none)
 |_=>none
theorem r_enw(ho:PE X o (tM X.K E ca m))(hk:PE X k (tM X.K E ca mk))(hbase:attributeBase o "endswith" X.env (eval o X.env)=eval o X.env)(hs:starEach [k] X.env=[(false,eval k X.env)])(hline:(apos.endLine == cpos.line)=true) :
  PE X (.Call (.Attribute o "endswith" apos) [k] [] cpos) (tM X.K E ca (Gy m mk)):=by
 refine PE.weak (Iz PySem.F.plainAttrs_str PySem.F.slot_str_endswith PySem.F.type_str_endswith zn6 ho (Cf hk DZ hs) hbase (by rw[hs];rfl) hline hs rfl) λσ H Q h=>?_
 obtain⟨F,τ,R,S,q⟩:=h;refine⟨F,τ,R,S,?_⟩;unfold Gy at q;cases hm:m τ with
 |none=>rw[hm]at q;exact q.elim
 |some r =>
  rw[hm]at q;cases r with
  |x c=>exact q.elim
  |v t b =>
   cases t with
   |str x =>
    simp only at q;intro F1 H1 x' B e1 g1;have hx:=HD g1;subst hx;have e1':Ext F H F1 H1 R0:=e1.mono λ_ z=>z.elim
    refine⟨rfl,F1,τ,R,S.ext e1',?_⟩;cases hk2:mk τ with
    |none=>rw[hk2]at q;exact q.elim
    |some r2 =>
     rw[hk2]at q;cases r2 with
     |x c=>exact q.elim
     |v t2 b2 =>
      cases t2 with
      |str y =>
       simp only at q;intro F2 H2 z B2 e2 g2;have hz:=HD g2;subst hz;have e2':Ext F1 H1 F2 H2 R0:=e2.mono λ_ z=>z.elim
       exact⟨x,y,rfl,rfl,q F2 H2 _ R0 (e1'.trans0 e2') (.bl _)⟩
      |_=>exact q.elim
   |_=>exact q.elim
end
abbrev XR(ms:Ao):Ao:=DR ms
variable {ms:Ao}{elts:List Expr}{kk:Nat}{tpos:Pos}
theorem r_enX(hg:Gl X "enumerate")(hm:X.mg "enumerate"=none)(ha:PA X [a] (CF X.K E ca ms))(hs:starEach [a] X.env=[(false,eval a X.env)]):PI X (.Tuple elts kk tpos) (.Call (.Name "enumerate" p) [a] [] pos) (tI X.K E ca (XR ms)):=Uj hg hm ha hs
def clsO(C N:Addr)(o:Obj):Prop:=∃nm q bs hdct sn sub ab col dd k0 k1 k2 k3 k5 newId,o=excClassObj nm q C N bs [.type "object"] hdct sn sub ab col dd k0 k1 k2 k3 k5 newId
def QB(e:DictEntry):Bool:=match e.key with
 |.str n _=>!(n == ("__eq__":Str)) && !(n == ("__ne__":Str))
 |_=>false
def WN(o:Obj):Bool:=match o.data with
 |.dict es _=>es.toList.all QB
 |_=>false
structure TiOk(K:kA)(C:Addr):Prop where
 i:ICls K C
 k:(G9.all λc=>PySem.W.kitOne K (.ref C) (.type c) == some false)=true
 o:∃(oC oN:Obj) (N:Addr),K.lookup C=some oC/\clsO C N oC/\K.lookup N=some oN/\WN oN=true
def JS:T->Option Addr
 |.obj k _=>(match k with
  |.ins C _=>some C
  |_=>none)
 |_=>none
def Ep(l:List Addr)(c:String)(t:T):Option T:=match JS (unl1 t) with
 |some C=>if l.contains C && G9.contains c then some (.bl false) else none
 |none=>C6 c (unl1 t)
def ND:List Addr->String->T->Option T
 |[]=>C6
 |C::l=>Ep (C::l)
def TF:T->T->Bool
 |.nd _ k a,u=>(match k,u with
  |.tup,.nd _ .tup b=>Es a b
  |_,_=>false)
 |_,_=>false
def Ot(t u:T):Option T:=if d0 t && d0 u || TF t u then some (.bl false) else Ci t u
def Dv(l:List Addr)(t u:T):Option T:=match JS (unl1 t) with
 |some C=>if l.contains C && FJ t u then some (.bl false) else none
 |none=>Ot (unl1 t) (unl1 u)
variable {C:Addr}{F H:Hp}{A:Rg}
section
variable {l:List Addr}{t:T}
theorem zk8(h:JS t=some C):∃fs l,t=.obj (.ins C fs) l:=by
 unfold JS at h;split at h
 .split at h
  .cases h;exact⟨_,_,rfl⟩
  .cases h
 .cases h
theorem XI{x:V}{K:kA}(h:JS t=some C)(r:Rp K F H t x A):∃p dx fs,x=.ref p/\F p=some (.ins C dx fs):=by
 obtain⟨fs,l,rfl⟩:=zk8 h;obtain⟨a,xs,rfl,_,⟨dx,hF⟩,_,_⟩:=r.obj_inv;exact⟨a,dx,_,rfl,hF⟩
theorem zf7{c:String}(hC:∀C∈l,TiOk X.K C):Bv X (.builtin "isinstance") (λxs H Q=>∃x,xs=[x,.ty c]/\DK X.K (g1 (Ep l c)) [x] H Q):=by
 intro pins s σ H xs us Q I r h;obtain⟨x,rfl,F,ts,v,fh,rs,e,q⟩:=h;unfold g1 at e;split at e
 .obtain⟨x1,xs1,e1,r1,rs1⟩:=rs.inv;cases e1;unfold Ep at e;split at e
  .rename_i C hi;split at e
   .rename_i hc;rw[ya3]at hc;cases e;have T:=hC C (yat.mp hc.1);have hk:PySem.W.kitOne X.K (.ref C) (.type c)=some false:=eq_of_beq (yaj.mp T.k c (yat.mp hc.2));obtain⟨p,dx,fs,rfl,hF⟩:=XI hi r1.unl1;obtain⟨u,w',rfl,rx,ry⟩:=Fo r;cases ry;exact Lc I rx (.ins (fh _ _ hF) T.i.c T.i.a T.i.n T.i.k T.i.m) hk λtk=>⟨.bl false,H,I.tok _,rfl,q.bl fh⟩
   .cases e
  .exact ZE (c:=c) pins s σ H _ us Q I r ⟨x,rfl,F,[Pu.unl1 _],v,fh,.cons r1.unl1 .nil,e,q⟩
 .cases e
theorem r_isO{c:String}{cn:Str}(hC:∀C∈l,TiOk X.K C)(hv:bootBuiltins cn=some (.type c))(hg:Gl X "isinstance")(hm:X.mg "isinstance"=none)(hgc:Gl X cn)(hmc:X.mg cn=none)(hn:cn≠"__name__")(hd:(cn == ("__debug__":Str))=false)(ha:PE X e (tM X.K E ca m))(he:starEach [e,.Name cn p2] X.env=(false,eval e X.env)::starEach [.Name cn p2] X.env) :
  PE X (.Call (.Name "isinstance" p) [e,.Name cn p2] [] pos) (tM X.K E ca (BA (g1 (ND l c)) (AB m AD))):=by
 cases l with
 |nil=>exact r_isT hv hg hm hgc hmc hn hd ha he
 |cons C l =>
  refine PE.weak (Hi (zf7 (c:=c) hC) hg hm yc8 (Cf ha (Cf (Oa (v:=.ty c) hgc hmc hv rfl hn hd) DZ) he) (by decide) (by decide) he rfl) λσ H Q h=>?_
  exact(Ea (FG h)).mono λx H1 h1=>⟨x,rfl,E9 h1⟩
theorem zel{es:Array DictEntry}(h:es.toList.all QB=true):StrKeys es/\nsFind es "__eq__"=none/\nsFind es "__ne__"=none:=by
 have key:∀e∈es,∃n t,e.key=.str n t/\(n == ("__eq__":Str))=false/\(n == ("__ne__":Str))=false:=λe he=>by
  have:=yaj.mp h e (Array.mem_toList_iff.mpr he);unfold QB at this;split at this
  .rename_i n t hk;rw[ya3,ybp,ybp]at this;exact⟨n,t,hk,this⟩
  .cases this
 refine⟨λe he=>let ⟨n,t,hk,_⟩:=key e he;⟨n,t,hk⟩,?_,?_⟩
 .unfold nsFind findBy
  rw[Array.find?_eq_none.mpr λe he=>by
   obtain⟨n,t,hk,h1,h2⟩:=key e he;rw[hk];show ¬ (n == ("__eq__":Str))=true;rw[h1];exact yb8]
  rfl
 .unfold nsFind findBy
  rw[Array.find?_eq_none.mpr λe he=>by
   obtain⟨n,t,hk,h1,h2⟩:=key e he;rw[hk];show ¬ (n == ("__ne__":Str))=true;rw[h2];exact yb8]
  rfl
theorem zh3{K:kA}{h:Heap}{p dx:Addr}(T:TiOk K C)(k:K.In h)(e:h.get? p=some (PySem.W.instObj C dx)):h.CmpInst p C [.type "object"]:=by
 obtain⟨oC,oN,N,h1,⟨nm,q,bs,hdct,sn,sub,ab,col,dd,k0,k1,k2,k3,k5,newId,h2⟩,h3,h4⟩:=T.o;unfold WN at h4;split at h4
 .rename_i es ep hd;obtain⟨f1,f2,f3⟩:=zel h4;exact⟨_,nm,q,N,bs,hdct,sn,sub,ab,col,dd,k0,k1,k2,k3,k5,newId,nsFind es,e,rfl,by rw[<- h2];exact k _ _ h1,⟨oN,es,ep,k _ _ h3,hd,f1,λ_=>rfl⟩,f2,f3⟩
 .cases h4
theorem zgd(hu:X.A.units+64<cLine):A6 X (compareOp .NotEq) (BS X.K Ot):=by
 intro pins s σ H x y v u Q I rx ry h;obtain⟨F,t1,t2,r,fh,r1,r2,e,q⟩:=h;unfold Ot at e;split at e
 .rename_i hc;cases e;rw[ybm,ya3]at hc
  rcases hc with hc|hc
  .rw[MG hc.1]at r1;rw[MG hc.2]at r2;exact zj9 hu pins s σ H x y v u Q I rx ry ⟨F,_,_,_,fh,r1,r2,rfl,q⟩
  .unfold TF at hc;split at hc
   .split at hc
    .obtain⟨p,xs,rfl,rfl,n1,k1⟩:=Cg r1;obtain⟨p',ys,rfl,rfl,n2,k2⟩:=Cg r2;cases rx;cases ry;obtain⟨its,rv,pl,_⟩:=I.tuple (.inl (.inl (fh _ _ n1)));obtain⟨its',rv',pl',_⟩:=I.tuple (.inl (.inl (fh _ _ n2)));obtain⟨len,al⟩:=Z4 hu I fh hc k1 k2 rv rv';refine SeqAt.RcNeAt.tuples (A:=X.A) (s:=s) (e:=λ_=>true) pl pl' (by omega) al _ _ _ _ ?_
     rw[show(!((List.range (min its.toArray.size its'.toArray.size)).all (λ_=>true) && its.toArray.size == its'.toArray.size))=false by simp[len]]
     exact⟨.bl false,H,I,rfl,q.bl fh⟩
    .cases hc
   .cases hc
 .exact Oe hu pins s σ H x y v u Q I rx ry ⟨F,t1,t2,_,fh,r1,r2,e,q⟩
theorem zj7(hu:X.A.units+64<cLine)(hC:∀C∈l,TiOk X.K C):A6 X (compareOp .NotEq) (BS X.K (Dv l)):=by
 intro pins s σ H x y v u Q I rx ry h;obtain⟨F,t1,t2,r,fh,r1,r2,e,q⟩:=h;unfold Dv at e;split at e
 .rename_i C hi;split at e
  .rename_i hc;rw[ya3]at hc;cases e;obtain⟨p0,l1,l2,e1,e2⟩:=UK hc.2;obtain⟨p,dx,fs,rfl,hF⟩:=XI hi r1.unl1;rw[e1]at r1;rw[e2]at r2;cases L5 r1;cases L5 r2;cases rx;cases ry;obtain⟨_,_,_,ho,_⟩:=(show BQ X.prog X.w H s.heap _ (.ins C dx fs) from I.hok _ _ (fh _ _ hF));obtain⟨hh,g,d,t,os⟩:=s;exact compareOp_ne_same PySem.F.cmp_object (zh3 (hC C (yat.mp hc.1)) I.kIn ho) (show X.A.units+1<cLine by omega) ⟨.bl false,H,I,rfl,q.bl fh⟩
  .cases e
 .exact zgd hu pins s σ H x y v u Q I rx ry ⟨F,_,_,_,fh,r1.unl1,r2.unl1,e,q⟩
end
end Pu
noncomputable section
namespace Pu
open PySem PySem.Spec PyProof.Rows L2 Zw Zx
structure Fn where
 lv:Nat
 ps:List Str
 g:List T->Option Ru
structure Gx where
 co:List (Str×T)
 cl:List (Str×Addr×List Str)
 mt:List (Str×Addr×List Str×Fn)
 nw:List (Str×Fn×List (Nat×List T))
 nr:Bool
 tx:Bool
 df:Bool
 sf:Option (Addr×List Str)
 xs:List (Str×List (Str×Addr))
 sb:List (Str×List (Addr×Bool))
 sv:List (Str×List (Addr×Bool))
 no:Bool
 fo:List Str
 ci:List (Str×List (Addr×Bool))
 x2:List (Str×Str×List (Str×Addr))
 gt:List Str
 wd:List (Str×Fn)
 pn:List Str
 ti:List Addr
abbrev By:Gx:=⟨[],[],[],[],false,true,true,none,[],[],[],true,[],[],[],[],[],[],[]⟩
def Qy(f:Fn):Fn:=⟨f.lv,f.ps,gU f.g⟩
set_option genInjectivity false in
structure Gm where
 N:List Str
 nm:List (Str×NameKind)
 ce:List Str
 lv:Nat
 fns:List (Str×Fn)
 bl:List Str
 ex:List Str
 ow:List Str
 pk:List Str
 mu:Bool
 mus:List (Str×Fn)
 mv:List Str
 dc:List Str
 ox:Gx
variable {Γ:Gm}
noncomputable def CU(x:Str):Bool:=!(x == ("__debug__":Str)) && !(x == ("__classdict__":Str)) && !(x == ("__name__":Str))
def Jy(nm:List (Str×NameKind))(x:Str):Bool:=nm.lookup x == some .local || nm.lookup x == some .cell || nm.lookup x == some .free
def Bz(nm:List (Str×NameKind))(x:Str):Bool:=nm.lookup x == some .globalImplicit
noncomputable def C4(N:List Str)(x:Str):Option Nat:=N.findIdx? (· == x)
def Gm.var(Γ:Gm)(x:Str):Option Nat:=if CU x && Jy Γ.nm x then C4 Γ.N x else none
def Gm.loc(Γ:Gm)(x:Str):Bool:=CU x && (Γ.nm.lookup x == some .local || Γ.ce.contains x)
def CN:Expr->Bool
 |.Starred ..=>false
 |_=>true
def Of:Operator->Option (T->T->Option T)
 |.Add=>some BV
 |.Sub=>some FH
 |.Mult=>some GA
 |.Mod=>some CP
 |.FloorDiv=>some Dd
 |.Pow=>some Ku
 |_=>none
def RU:CmpOp->Option (T->T->Option T)
 |.Eq=>some B5
 |.NotEq=>some Ci
 |.Lt=>some (Cs λi j=>decide (i<j))
 |.LtE=>some (Cs λi j=>decide (i<=j))
 |.Gt=>some (Cs λi j=>decide (j<i))
 |.GtE=>some (Cs λi j=>decide (j<=i))
 |.Is=>some (HB false)
 |.IsNot=>some (HB true)
 |.In=>some EX
 |.NotIn=>some Gr
def MI(Γ:Gm)(op:CmpOp):Option (T->T->Option T) :=
 if !Γ.ox.ti.isEmpty && (op == .NotEq) then some (Dv Γ.ox.ti) else
 RU op
def J4(f:Str):Option (List T->Option T) :=
 if f="len" then some (g1 Bu) else if f="list" then some (g1 CZ) else if f="abs" then some (g1 MV) else
 if f="tuple" then some (g1 KI) else
 if f="min" then some (g2 LK) else
 if f="all" then some (g1 Dn) else
 if f="any" then some (g1 MT) else none
noncomputable def KG(c:Str):Option String:=if c="int" then some "int" else if c="bool" then some "bool" else if c="str" then some "str" else if c="list" then some "list" else if c="tuple" then some "tuple" else none
def ER:Expr->Bool
 |.IfExp ..=>false
 |.NamedExpr ..=>false
 |_=>true
noncomputable def CH:Expr->Option (Str×Pos)
 |.Name x p=>some (x,p)
 |_=>none
variable {x:Str}{p:Pos}
theorem CV{t:Expr}(h:CH t=some (x,p)):t=.Name x p:=by
 unfold CH at h;split at h
 .cases h;rfl
 .cases h
def NK:List Expr->List Str
 |[]=>[]
 |e::es=>(match CH e with
  |some (x,_)=>x::NK es
  |none=>NK es)
def Cd:Expr->List Str
 |.Name x _=>[x]
 |.Tuple es _ _=>NK es
 |_=>[]
def JP:Expr->Bool
 |.Tuple ..=>true
 |_=>false
def GI:Expr->Bool
 |.Slice ..=>true
 |_=>false
def Cm(nm:List (Str×NameKind)):List Str:=nm.filterMap λ(y,k)=>if k == .free then some y else none
def R6(nm:List (Str×NameKind)):List Str:=nm.filterMap λ(y,k)=>if k == .cell then some y else none
noncomputable def Iu(inner outer:List (Str×NameKind)):List (Str×NameKind):=inner.map λ(n,k)=>if (k == .free && outer.lookup n == some .cell) then (n,.cell) else (n,k)
def J2(N:List Str):List Str->Option (List Nat)
 |[]=>some []
 |y::r=>(match C4 N y with
  |some i=>(match J2 N r with
   |some l=>some (i::l)
   |none=>none)
  |none=>none)
def J5(Γ:Gm)(scope:Scope)(N':List Str):Bool :=
 (scope.kind == .function) && scope.names.all (λx=>!(x.2 == .local) || scope.names.lookup x.1 == some .local) &&
 scope.names.all (λx=>!(x.2 == .free) || (scope.names.lookup x.1 == some .free && (Γ.nm.lookup x.1 == some .cell || Γ.nm.lookup x.1 == some .free) && !(scope.names.contains (x.1,NameKind.cell)))) &&
 decide N'.Nodup && (R6 scope.names).all (λy=>(Iu scope.names Γ.nm).lookup y == some .cell)
def Gm.blk(Γ:Gm)(scope:Scope)(N':List Str):Gm:={ Γ with N:=N',nm:=Iu scope.names Γ.nm,ce:=(R6 scope.names).filter λy=>scope.names.lookup y == some .cell,ow:=[],ox:={ Γ.ox with df:=false,nr:=true } }
def ME(Γ:Gm):List Expr->Option (List T->AO->Option AO)
 |[]=>some Bi
 |e::es=>(match CH e with
  |some (x,_)=>if Γ.loc x then (match C4 Γ.N x,ME Γ es with
   |some i,some b=>some (Am (AG i) b)
   |_,_=>none) else none
  |none=>none)
def dG(Γ:Gm):Expr->Option (T->AO->Option AO)
 |.Name x _=>if Γ.loc x then (C4 Γ.N x).map AG else none
 |.Tuple es _ _=>(ME Γ es).map (Bf es.length)
 |_=>none
def Jw(a:Str):Expr->Option (Str×Pos×Pos×Pos)
 |.Call f es ks c=>(match f,es,ks with
  |.Attribute o b ap,[],[]=>(match CH o with
   |some (x,p)=>if b=a/\(ap.endLine == c.line)=true then some (x,p,ap,c) else none
   |none=>none)
  |_,_,_=>none)
 |_=>none
variable {ap:Pos}
theorem Sr{a:Str}{t:Expr}{c:Pos}(h:Jw a t=some (x,p,ap,c)):t=.Call (.Attribute (.Name x p) a ap) [] [] c/\(ap.endLine == c.line)=true:=by
 unfold Jw at h;split at h
 .split at h
  .split at h
   .rename_i h1;split at h
    .rename_i h2;cases h;rw[CV h1,h2.1];exact⟨rfl,h2.2⟩
    .cases h
   .cases h
  .cases h
 .cases h
def Jx(f:Str)(e:Expr)(es:List Expr):Option (Str×Pos×Pos×Pos):=if f="list" then (match es with
 |[]=>Jw "values" e
 |_=>none) else none
variable {f:Str}{e:Expr}{es:List Expr}
theorem zhp{c:Pos}(h:Jx f e es=some (x,p,ap,c)):f="list"/\es=[]/\e=.Call (.Attribute (.Name x p) "values" ap) [] [] c/\(ap.endLine == c.line)=true:=by
 unfold Jx at h;split at h
 .rename_i hf;split at h
  .obtain⟨h1,h2⟩:=Sr h;exact⟨hf,rfl,h1,h2⟩
  .cases h
 .cases h
def Gk:Expr->Bool
 |.Call _ es _ _=>!es.isEmpty
 |_=>true
variable {o:Expr}{env:Env}
theorem MO(h:Gk o=true):attributeBase o f env (eval o env)=eval o env:=by
 cases o with
 |Call g es ks c =>
  cases es with
  |nil=>cases h
  |cons e es=>cases g<;>rfl
 |_=>rfl
variable {pos:Pos}
theorem zei(h:Gk o=true)(hf:((backTo pos (starEach es env)).all λx=>!x.1)=true)(hn:es.length<30)(hl:(ap.endLine == pos.line)=true):∃pl:Sem Bool,eval (.Call (.Attribute o f ap) es [] pos) env=(do
   let ov <- eval o env
   standAt ap.atName
   let (f,first) <- holding [ov] (getMethod ov f pl)
   callWith pos f first (backTo pos (starEach es env)) (backToKw pos (keywordEach [] env))):=by
 refine⟨do let b <- importBound o env;pure (b.getD true),?_⟩
 have e:methodCallForm (es.length+([]:List Keyword).length) (backTo pos (starEach es env)) (backToKw pos (keywordEach [] env))=true:=by
  unfold methodCallForm;rw[hf];show(true && true && decide (es.length+0+0<30))=true;rw[yew (by omega)];rfl
 rw[arm_eval_Call,MO h];unfold methodCall calleeOf methodCallPos;rw[e,hl]
 rfl
def IA(f:Str)(m:AF):List (Str×Addr×List Str)->Option (AF)
 |[]=>none
 |(_,C,fs)::r=>(match fs.findIdx? (· == f) with
  |some j=>(match IA f m r with
   |some m2=>some (Cj (Bs C fs j m) m2)
   |none=>some (Bs C fs j m))
  |none=>IA f m r)
def Gs(f:Str)(m:AF)(ms:Ao):List (Str×Addr×List Str×Fn)->Option (AF)
 |[]=>none
 |(g,C,fs,F)::r=>if g=f && !(fs.contains f) then (match Gs f m ms r with
   |some m2=>some (Cj (DN C fs F.g m ms) m2)
   |none=>some (DN C fs F.g m ms))
  else Gs f m ms r
def IH:CmpOp->Option (T->T->Option T)
 |.LtE=>some Dx
 |op=>RU op
def setOf(f:Str)(e:Expr)(es:List Expr):Option (Expr×Pos×Pos):=if f="len" then (match es with
 |[]=>(match e with
  |.Call g as ks c=>(match CH g,as,ks with
   |some (x,p),[a],[]=>if x="set" then some (a,p,c) else none
   |_,_,_=>none)
  |_=>none)
 |_=>none) else none
variable {a:Expr}
theorem zfo{c:Pos}(h:setOf f e es=some (a,p,c)):f="len"/\es=[]/\e=.Call (.Name "set" p) [a] [] c:=by
 unfold setOf at h;split at h
 .rename_i hf;split at h
  .split at h
   .split at h
    .rename_i hn;split at h
     .rename_i hx;cases h;rw[CV hn,hx];exact⟨hf,rfl,rfl⟩
     .cases h
    .cases h
   .cases h
  .cases h
 .cases h
def Hr(Γ:Gm)(m:AF):Ao:=if Γ.ox.tx then BW m else Ht m
def YX(Γ:Gm)(ms:Ao):Ao:=if Γ.ox.tx then XR ms else DR ms
def QL:Expr->Bool
 |.Attribute ..=>true
 |_=>false
def NZ(Γ:Gm)(ma:AF)(ml mh:Option (AF)):AF:=if Γ.ox.tx then Cj (Ek ma ml mh) (ES ma ml mh) else Ek ma ml mh
def gtN(Γ:Gm):Expr->Bool
 |.Name x _=>Γ.ox.gt.contains x
 |_=>false
def QH(Γ:Gm)(a:Expr)(ma mk:AF):AF:=if QL a || gtN Γ a then JJ ma mk else B8 ma mk
def L6(f:Str)(e:Expr)(es:List Expr):Bool:=decide (f="list") && QL e && es.isEmpty
theorem zjw(h:L6 f e es=true):f="list"/\es=[]/\QL e=true:=by
 unfold L6 at h;simp only[ya3,yf6,yci]at h;exact⟨h.1.1,h.2,h.1.2⟩
mutual
def dE:Nat->Gm->Expr->Option (AF)
  |0,_,_=>none
  |n+1,Γ,e=>match e with
    |.Constant (.int i) _ _=>some (mC (.int i))
    |.Constant (.bool b) _ _=>some (mC (.bl b))
    |.Constant .none _ _=>some (mC .non)
    |.Constant (.str x) _ _=>some (mC (.str x))
    |.Name x _=>(match Γ.var x with
      |some i=>some (AA i)
      |none=>if CU x && Bz Γ.nm x then (Γ.ox.co.lookup x).map mC else none)
    |.Attribute o f _=>if Gk o then (match dE n Γ o with
      |some m=>IA f m Γ.ox.cl
      |none=>none) else none
    |.Call (.Attribute o f ap) es [] c=>if !(Gk o && ap.endLine == c.line && decide (es.length<30)) then none else
      (match dE n Γ o,dA n Γ es with
      |some m,some ms =>
        if f="endswith" then (match es with
          |[k]=>(dE n Γ k).map (Gy m)
          |_=>none)
        else
        if f="join" then (match es with
          |[k]=>(dE n Γ k).map (GC m)
          |_=>none)
        else
        Gs f m ms Γ.ox.mt
      |_,_=>none)
    |.Compare a [op,op'] [b,c] _=>(match IH op,IH op',dE n Γ a,dE n Γ b,dE n Γ c with
      |some g,some g',some ma,some mb,some mc=>if lastMarks [op,op'] [b,c] then none else some (EU g g' ma mb mc)
      |_,_,_,_,_=>none)
    |.BinOp a op b _=>(match Of op,dE n Γ a,dE n Γ b with
      |some g,some ma,some mb=>some (BA (g2 g) (AB ma (AB mb AD)))
      |_,_,_=>none)
    |.UnaryOp .USub a _=>(match dE n Γ a with
      |some ma=>some (BA (g1 Du) (AB ma AD))
      |none=>none)
    |.UnaryOp .Not a _=>if ER a then (dE n Γ a).map BU else none
    |.BoolOp op vs _=>dB n Γ op vs
    |.Compare a [op] [b] _=>(match MI Γ op,dE n Γ a,dE n Γ b with
      |some g,some ma,some mb=>if behindInMarks op b then none else some (BA (g2 g) (AB ma (AB mb AD)))
      |_,_,_=>none)
    |.IfExp c a b _=>if ER c then (match dE n Γ c,dE n Γ a,dE n Γ b with
      |some mc,some ma,some mb=>some (Dw mc ma mb)
      |_,_,_=>none) else none
    |.List es _=>(dO n Γ es).map AV
    |.Tuple es _ _=>(dA n Γ es).map B0
    |.Subscript a k _=>(match k with
      |.Slice lo hi none _=>(match dE n Γ a,dP n Γ lo,dP n Γ hi with
        |some ma,some ml,some mh=>some (NZ Γ ma ml mh)
        |_,_,_=>none)
      |_=>if GI k then none else (match dE n Γ a,dE n Γ k with
        |some ma,some mk=>some (QH Γ a ma mk)
        |_,_=>none))
    |.Call (.Name f _) (e::es) [] _ =>
      if CU f && Bz Γ.nm f then
        (if Γ.bl.contains f then
          (if f="isinstance" then (match es with
            |[.Name c _]=>if Bz Γ.nm c && Γ.bl.contains c && CU c && CN e then (match KG c,dE n Γ e with
              |some t,some m=>some (BA (g1 (ND Γ.ox.ti t)) (AB m AD))
              |_,_=>none)
              else if Bz Γ.nm c && CU c && CN e then (match Γ.ox.ci.lookup c,dE n Γ e with
              |some C,some m=>some (BA (g1 (EW C)) (AB m AD))
              |_,_=>none)
              else none
            |_=>none)
          else (
            match setOf f e es with
            |some (a,_,_)=>if Bz Γ.nm "set" && Γ.bl.contains "set" && CN a then (dE n Γ a).map λm=>BA (g1 G8) (AB m AD) else none
            |none =>
            match Jx f e es with
            |some (x,_,_,_)=>(Γ.var x).map λi=>LW (AA i)
            |none =>
            if L6 f e es then (dE n Γ e).map (λm=>Cj (BA (g1 CZ) (AB m AD)) (El m)) else
            (match J4 f,dA n Γ (e::es) with
              |some g,some ms=>some (BA g ms)
              |_,_=>none)))
        else
         match Γ.ox.nw.lookup f with
         |some (F,ds)=>(match ds.lookup (e::es).length,dA n Γ (e::es) with
           |some dts,some ms=>some (FZ F.g dts ms)
           |_,_=>none)
         |none =>
         (match Γ.fns.lookup f, dA n Γ (e :: es) with
          |some F,some ms=>some (AQ F.g ms)
          |_,_=>none))
      else none
    |.ListComp elt [⟨tg,iter,ifs,0⟩] scope _=>dC n Γ elt tg iter ifs scope
    |.Dict ks vs _=>MA (dE n Γ) ks vs
    |_=>none
def dA:Nat->Gm->List Expr->Option (Ao)
 |0,_,_=>none
 |n+1,Γ,es=>match es with
  |[]=>some AD
  |e::es=>if CN e then (match dE n Γ e,dA n Γ es with
   |some m,some ms=>some (AB m ms)
   |_,_=>none) else none
def dO:Nat->Gm->List Expr->Option (Ao)
 |0,_,_=>none
 |n+1,Γ,es=>match es with
  |[]=>some AD
  |e::es=>if CN e then (match dE n Γ e,dO n Γ es with
   |some m,some ms=>some (AK m ms)
   |_,_=>none) else none
def dB:Nat->Gm->BoolOp->List Expr->Option (AF)
 |0,_,_,_=>none
 |n+1,Γ,op,vs=>match vs with
  |[]=>none
  |[a]=>if ER a then dE n Γ a else none
  |a::r=>if ER a then (match op,dE n Γ a,dB n Γ op r with
   |.And,some ma,some mb=>some (D0 ma mb)
   |.Or,some ma,some mb=>some (CI ma mb)
   |_,_,_=>none) else none
def dP:Nat->Gm->Option Expr->Option (Option (AF))
 |0,_,_=>none
 |n+1,Γ,o=>match o with
  |none=>some none
  |some e=>(dE n Γ e).map some
def dC:Nat->Gm->Expr->Expr->Expr->List Expr->Scope->Option (AF)
 |0,_,_,_,_,_,_=>none
 |n+1,Γ,elt,tg,iter,ifs,scope =>
  if J5 Γ scope (Cd tg++Cm scope.names) then (match J2 Γ.N (Cm scope.names),dI n Γ tg iter,dG (Γ.blk scope (Cd tg++Cm scope.names)) tg,dE n (Γ.blk scope (Cd tg++Cm scope.names)) elt with
   |some caps,some mi,some b,some me=>(match ifs with
    |[]=>some (BX (Cd tg).length caps mi b (mC (.bl true)) me)
    |[c]=>if ER c then (match dE n (Γ.blk scope (Cd tg++Cm scope.names)) c with
     |some mt=>some (BX (Cd tg).length caps mi b mt me)
     |none=>none) else none
    |_=>none)
   |_,_,_,_=>none) else none
def dI:Nat->Gm->Expr->Expr->Option (Ao)
 |0,_,_,_=>none
 |n+1,Γ,tg,e=>match e with
  |.Call (.Name f _) [a] [] _ =>
   if f="range" then (if Bz Γ.nm f && Γ.bl.contains f && CN a then (dA n Γ [a]).map EB else none)
   else if f="enumerate" then (if Bz Γ.nm f && Γ.bl.contains f && CN a && JP tg then (dA n Γ [a]).map (YX Γ) else none)
   else (dE n Γ e).map (Hr Γ)
  |.Call (.Name f _) [a,b] [] _ =>
   if f="range" then none
   else if f="zip" then (if Bz Γ.nm f && Γ.bl.contains f && CN a && CN b && JP tg then (dA n Γ [a,b]).map GK else none)
   else (dE n Γ e).map (Hr Γ)
  |.Set ..=>none
  |_=>(match Jw "items" e with
   |some (x,_,_,_)=>if JP tg then (Γ.var x).map λi=>QN (AA i) else none
   |none=>(dE n Γ e).map (Hr Γ))
end
def BN(n:Nat)(Γ:Gm)(e:Expr):Option (AF):=match e with
    |.Constant (.int i) _ _=>some (mC (.int i))
    |.Constant (.bool b) _ _=>some (mC (.bl b))
    |.Constant .none _ _=>some (mC .non)
    |.Constant (.str x) _ _=>some (mC (.str x))
    |.Name x _=>(match Γ.var x with
      |some i=>some (AA i)
      |none=>if CU x && Bz Γ.nm x then (Γ.ox.co.lookup x).map mC else none)
    |.Attribute o f _=>if Gk o then (match dE n Γ o with
      |some m=>IA f m Γ.ox.cl
      |none=>none) else none
    |.Call (.Attribute o f ap) es [] c=>if !(Gk o && ap.endLine == c.line && decide (es.length<30)) then none else
      (match dE n Γ o,dA n Γ es with
      |some m,some ms =>
        if f="endswith" then (match es with
          |[k]=>(dE n Γ k).map (Gy m)
          |_=>none)
        else
        if f="join" then (match es with
          |[k]=>(dE n Γ k).map (GC m)
          |_=>none)
        else
        Gs f m ms Γ.ox.mt
      |_,_=>none)
    |.Compare a [op,op'] [b,c] _=>(match IH op,IH op',dE n Γ a,dE n Γ b,dE n Γ c with
      |some g,some g',some ma,some mb,some mc=>if lastMarks [op,op'] [b,c] then none else some (EU g g' ma mb mc)
      |_,_,_,_,_=>none)
    |.BinOp a op b _=>(match Of op,dE n Γ a,dE n Γ b with
      |some g,some ma,some mb=>some (BA (g2 g) (AB ma (AB mb AD)))
      |_,_,_=>none)
    |.UnaryOp .USub a _=>(match dE n Γ a with
      |some ma=>some (BA (g1 Du) (AB ma AD))
      |none=>none)
    |.UnaryOp .Not a _=>if ER a then (dE n Γ a).map BU else none
    |.BoolOp op vs _=>dB n Γ op vs
    |.Compare a [op] [b] _=>(match MI Γ op,dE n Γ a,dE n Γ b with
      |some g,some ma,some mb=>if behindInMarks op b then none else some (BA (g2 g) (AB ma (AB mb AD)))
      |_,_,_=>none)
    |.IfExp c a b _=>if ER c then (match dE n Γ c,dE n Γ a,dE n Γ b with
      |some mc,some ma,some mb=>some (Dw mc ma mb)
      |_,_,_=>none) else none
    |.List es _=>(dO n Γ es).map AV
    |.Tuple es _ _=>(dA n Γ es).map B0
    |.Subscript a k _=>(match k with
      |.Slice lo hi none _=>(match dE n Γ a,dP n Γ lo,dP n Γ hi with
        |some ma,some ml,some mh=>some (NZ Γ ma ml mh)
        |_,_,_=>none)
      |_=>if GI k then none else (match dE n Γ a,dE n Γ k with
        |some ma,some mk=>some (QH Γ a ma mk)
        |_,_=>none))
    |.Call (.Name f _) (e::es) [] _ =>
      if CU f && Bz Γ.nm f then
        (if Γ.bl.contains f then
          (if f="isinstance" then (match es with
            |[.Name c _]=>if Bz Γ.nm c && Γ.bl.contains c && CU c && CN e then (match KG c,dE n Γ e with
              |some t,some m=>some (BA (g1 (ND Γ.ox.ti t)) (AB m AD))
              |_,_=>none)
              else if Bz Γ.nm c && CU c && CN e then (match Γ.ox.ci.lookup c,dE n Γ e with
              |some C,some m=>some (BA (g1 (EW C)) (AB m AD))
              |_,_=>none)
              else none
            |_=>none)
          else (
            match setOf f e es with
            |some (a,_,_)=>if Bz Γ.nm "set" && Γ.bl.contains "set" && CN a then (dE n Γ a).map λm=>BA (g1 G8) (AB m AD) else none
            |none =>
            match Jx f e es with
            |some (x,_,_,_)=>(Γ.var x).map λi=>LW (AA i)
            |none =>
            if L6 f e es then (dE n Γ e).map (λm=>Cj (BA (g1 CZ) (AB m AD)) (El m)) else
            (match J4 f,dA n Γ (e::es) with
              |some g,some ms=>some (BA g ms)
              |_,_=>none)))
        else
         match Γ.ox.nw.lookup f with
         |some (F,ds)=>(match ds.lookup (e::es).length,dA n Γ (e::es) with
           |some dts,some ms=>some (FZ F.g dts ms)
           |_,_=>none)
         |none =>
         (match Γ.fns.lookup f, dA n Γ (e :: es) with
          |some F,some ms=>some (AQ F.g ms)
          |_,_=>none))
      else none
    |.ListComp elt [⟨tg,iter,ifs,0⟩] scope _=>dC n Γ elt tg iter ifs scope
    |.Dict ks vs _=>MA (dE n Γ) ks vs
    |_=>none
variable {n:Nat}
theorem BP:dE (n+1) Γ e=BN n Γ e:=rfl
end Pu
end
namespace Pu
open PySem PySem.Spec PyProof.Rows L2 Zw Zx
variable {X:Cx}{E:L2.St->XK}{ca:Str->Value}{Γ:Gm}
structure GxOk(G:Gx)(lv:Nat)(P:Program)(w:World)(K:kA)(mg:Str->Option Value)(base:Heap)(ca:Str->Value):Prop where
 co:∀x t,G.co.lookup x=some t->∃u v,mg x=some u/\RelV v u/\∀F:Hp,Rp K F F t v R0
 cl:∀c∈G.cl,Cls K c.2.1/\∀f∈c.2.2,CJ K c.2.1 f
 mt:∀c∈G.mt,c.2.2.2.lv<=lv/\Nonempty (MetX P w K mg base c.2.1 c.1 c.2.2.2.lv c.2.2.2.ps (BJ K ca c.2.2.2.g))
 nw:∀x F ds,G.nw.lookup x=some (F,ds)->F.lv+1<=lv/\∃(C:Addr) (D:NewX P w K mg base x C F.lv F.ps (Fp K ca C F.g)),∀k dts,ds.lookup k=some dts->∃dvs us,Dg K D.fd F.ps us/\A5 dvs us/\∀H:Hp,A9 K H dts dvs
 sf:∀C fs,G.sf=some (C,fs)->Cls K C/\∀f∈fs,CJ K C f
 xs:∀W cs,G.xs.lookup W=some cs->∃T:ECls K mg W,∀c C,cs.lookup c=some C->ca c=.ref C/\PySem.W.subIn K (.ref C) (.ref T.C)=some true
 sb:∀D tb,G.sb.lookup D=some tb->∃A:Addr,mg D=some (.ref A)/\∀C b,tb.lookup C=some b->ExcK K C/\PySem.W.kitOne K (.ref C) (.ref A)=some b
 sv:∀D tb,G.sv.lookup D=some tb->mg D=none/\∃t,bootBuiltins D=some (.type t)/\∀C b,tb.lookup C=some b->ExcK K C/\PySem.W.kitOne K (.ref C) (.type t)=some b
 ci:∀x tb,G.ci.lookup x=some tb->∃D:Addr,mg x=some (.ref D)/\(∀C b,tb.lookup C=some b->ICls K C/\PySem.W.kitOne K (.ref C) (.ref D)=some b)/\(KE.all λa=>PySem.W.kitOne K (.type a) (.ref D) == some false)=true
 x2:∀W1 W2 cs,(W1,W2,cs)∈G.x2->∃(T1:ECls K mg W1) (T2:ECls K mg W2),∀c C,cs.lookup c=some C->ca c=.ref C/\PySem.W.subIn K (.ref C) (.ref T1.C)=some false/\PySem.W.subIn K (.ref C) (.ref T2.C)=some true
 wd:∀x F,G.wd.lookup x=some F->F.lv<=lv/\∃p,F.ps=[p]/\Nonempty (DefS P w K mg base F.lv x p (BJ K ca F.g))
 ti:∀C∈G.ti,TiOk K C
structure CxOk(Γ:Gm)(X:Cx)(E:L2.St->XK)(ca:Str->Value):Prop where
 N:X.N=Γ.N
 nd:Γ.N.Nodup
 nm:X.env.scope.names=Γ.nm
 kd:X.env.scope.kind=.function
 calm:X.calm=true
 room:Room Γ.lv X.A
 ce:∀x∈Γ.ce,X.fn x=true/\Γ.nm.lookup x=some .cell
 bl:∀b∈Γ.bl,X.mg b=none
 ps:BO X E
 po:Γ.ox.nr=false->PassesOwn (model X.prog X.w) X.A X.env X.xe
 md:Γ.ox.nr=false->SS X E
 fs:∀f F,Γ.fns.lookup f=some F->F.lv<=Γ.lv/\Nonempty (DefX X.prog X.w X.K X.mg X.base F.lv f F.ps (BJ X.K ca F.g))
 ex:∀c∈Γ.ex,∃T:ECls X.K X.mg c,ca c=.ref T.C
 ms:∀f F,Γ.mus.lookup f=some F->F.lv<=Γ.lv/\Nonempty (DefX X.prog X.w X.K X.mg X.base F.lv f F.ps (Ie X.K ca F.g))
 gx:GxOk Γ.ox Γ.lv X.prog X.w X.K X.mg X.base ca
 tr:Γ.ox.df=true->X.stack=X.env::X.outer/\X.env.frame=some X.env.locals
 fr:GZ X
variable {N:List Str}{x:Str}{i:Nat}
theorem Eo(h:C4 N x=some i):N[i]?=some x:=by
 unfold C4 at h;obtain⟨h1,h2,_⟩:=ybg.mp h;rw[ya0 h1];exact congrArg some (eq_of_beq h2)
theorem DY(h:CU x=true):(x == ("__debug__":Str))=false/\(x == ("__classdict__":Str))=false/\x≠"__name__":=by
 unfold CU at h
 simp only[ya3,ybp]at h;exact⟨h.1.1,h.1.2,λz=>by
  have:=h.2;rw[z]at this;simp at this⟩
variable {sc:Scope}
theorem NB(h:Jy sc.names x=true):DT sc x:=by
 unfold Jy at h;simp only[ybm,yf2]at h
 rcases h with (h|h)|h
 .exact .inl h
 .exact .inr (.inl h)
 .exact .inr (.inr h)
variable {e:Expr}{es:List Expr}{env:Env}
theorem Bw(h:CN e=true):starEach (e::es) env=(false,eval e env)::starEach es env:=by
 cases e<;>first|rfl|cases h
theorem Ge:∀{es:List Expr} {env:Env} {pos:Pos},(∀e∈es,CN e=true)->(backTo pos (starEach es env)).any (·.1)=false
 |[],env,pos,_=>rfl
 |e::es,env,pos,h=>by
  rw[Bw (h e (ya9 ..))];have ih:=Ge (es:=es) (env:=env) (pos:=pos) λx hx=>h x (ya7 _ hx)
  show(false || (backTo pos (starEach es env)).any (·.1))=false
  rw[ih]
  rfl
theorem GU:∀{n:Nat} {Γ:Gm} {es:List Expr} {ms:Ao},dA n Γ es=some ms->∀e∈es,CN e=true
 |0,_,_,_,h=>by cases h
 |n+1,Γ,[],_,_=>λe he=>by cases he
 |n+1,Γ,e::es,ms,h=>by
  unfold dA at h;simp only at h;split at h
  .rename_i hs;split at h
   .rename_i m ms' h1 h2;intro x hx;rcases ya6.mp hx with rfl|hx
    .exact hs
    .exact GU h2 x hx
   .cases h
  .cases h
variable {pos p:Pos}{tg o:Expr}{g:T->T->Option T}{op:CmpOp}{f y:Str}{m:AF}{ms:Ao}{scope:Scope}{N':List Str}
section
theorem CxOk.var(C:CxOk Γ X E ca){x:Str}{i:Nat}{pos:Pos}(h:Γ.var x=some i):X.N[i]?=some x/\DT X.env.scope x/\(x == ("__debug__":Str))=false/\(x == ("__classdict__":Str))=false:=by
 unfold Gm.var at h;split at h
 .rename_i hp;rw[ya3]at hp;obtain⟨p1,p2,p3⟩:=DY hp.1;exact⟨by rw[C.N];exact Eo h,NB (by rw[C.nm];exact hp.2),p1,p2⟩
 .cases h
theorem CxOk.gl(C:CxOk Γ X E ca)(h:Bz Γ.nm x=true):Gl X x:=by
 unfold Bz at h;show X.env.scope.names.lookup x=some .globalImplicit;rw[C.nm];exact eq_of_beq h
theorem CxOk.loc(C:CxOk Γ X E ca){x:Str}{i:Nat}(h:Γ.loc x=true)(hi:C4 Γ.N x=some i):X.N[i]?=some x/\GY X.env.scope x/\(X.fn x=true\/X.env.scope.names.lookup x=some .local):=by
 unfold Gm.loc at h;simp only[ya3,ybm,yf2]at h;refine⟨by rw[C.N];exact Eo hi,?_⟩
 rcases h.2 with h|h
 .exact⟨.inl (by rw[C.nm];exact h),.inr (by rw[C.nm];exact h)⟩
 .obtain⟨c1,c2⟩:=C.ce x (yat.mp h);exact⟨.inr (by rw[C.nm];exact c2),.inl c1⟩
theorem CxOk.nodup(C:CxOk Γ X E ca):X.N.Nodup:=by rw[C.N];exact C.nd
theorem Wf(C:CxOk Γ X E ca)(h1:Γ.loc x=true)(h2:C4 Γ.N x=some i):PG X (.Name x pos) (Dh X.K (AG i)):=by
 obtain⟨g1,g2,g3⟩:=C.loc h1 h2;exact g_nm C.nodup g1 g2 g3
theorem Yg(C:CxOk Γ X E ca):∀{es:List Expr} {b:List T->AO->Option AO},ME Γ es=some b->DV X es (Gc X.K b)/\(assignEach es X.env).length=es.length/\(assignEach es X.env).findIdx? (·.1)=none
 |[],b,h=>by
  cases h;exact⟨g_nil,rfl,rfl⟩
 |e::es,b,h=>by
  unfold ME at h;split at h
  .rename_i x p hn;have hn:=CV hn;subst hn;split at h
   .rename_i hl;split at h
    .rename_i i b' h1 h2;cases h;obtain⟨q1,q2,q3⟩:=Yg C h2;refine⟨znx (Wf C hl h1) q1 rfl,?_,?_⟩
     .show(assignEach es X.env).length+1=es.length+1;rw[q2]
     .show List.findIdx? (·.1) ((false,assign (.Name x p) X.env)::assignEach es X.env)=none
      rw[ye5,q3]
      rfl
    .cases h
   .cases h
  .cases h
theorem RQ(C:CxOk Γ X E ca){b:T->AO->Option AO}(h:dG Γ tg=some b):PG X tg (Dh X.K b):=by
 unfold dG at h;split at h
 .split at h
  .rename_i hl;obtain⟨i,hi,rfl⟩:=ya2.mp h;exact Wf C hl hi
  .cases h
 .obtain⟨bs,hb,rfl⟩:=ya2.mp h;obtain⟨q1,q2,q3⟩:=Yg C hb;exact g_tup C.calm q1 q2 q3
 .cases h
theorem zn1{op:Operator}(h:Of op=some g):A6 X (binaryOp op) (BS X.K g):=by
 cases op<;>cases h
 .exact VO
 .exact zj5
 .exact zja
 .exact zjb
 .exact zj6
 .exact zge
theorem Yv(C:CxOk Γ X E ca)(h:RU op=some g):A6 X (compareOp op) (BS X.K g):=by
 have hu:=C.room.units;cases op<;>cases h
 .exact zn0 hu
 .exact Oe hu
 .exact Ky op_lt
 .exact Ky VN
 .exact Ky op_gt
 .exact Ky op_ge
 .exact zmy
 .exact zed
 .exact zmz hu
 .exact zec hu
theorem it_ne{c:Bool}{f:T->T->Option T}{r:Option (T->T->Option T)}(h:(if (c && (op == .NotEq))=true then some f else r)=some g)(h1:A6 X (compareOp .NotEq) (BS X.K f))(h2:r=some g->A6 X (compareOp op) (BS X.K g)):A6 X (compareOp op) (BS X.K g):=by
 split at h
 .rename_i hc;rw[ya3]at hc
  have:op=.NotEq:=by
   have:=hc.2;cases op<;>first|rfl|cases this
  subst this;cases h;exact h1
 .exact h2 h
theorem Yu(C:CxOk Γ X E ca)(h:MI Γ op=some g):A6 X (compareOp op) (BS X.K g):=by
 unfold MI at h;refine it_ne h (zj7 C.room.units C.gx.ti) λh=>?_
 exact Yv C h
theorem MJ(C:CxOk Γ X E ca)(h:IH op=some g):A6 X (compareOp op) (BS X.K g):=by
 unfold IH at h;split at h
 .cases h;exact zjc
 .exact Yv C h
theorem zkd{L:List (Str×Addr×List Str)}(hL:∀c∈L,Cls X.K c.2.1/\∀f∈c.2.2,CJ X.K c.2.1 f)(ho:PE X o (tM X.K E ca m))(hb:attributeBase o f X.env (eval o X.env)=eval o X.env):∀{m':AF},IA f m L=some m'->PE X (.Attribute o f pos) (tM X.K E ca m'):=by
 induction L with
 |nil=>intro m' h;cases h
 |cons c r ih =>
  obtain⟨nmc,C0,fs⟩:=c;intro m' h;have ih':=@ih (λc hc=>hL c (ya7 _ hc))
  unfold IA at h;split at h
  .rename_i j hj;obtain⟨h1,h2⟩:=hL _ (ya9 ..)
   have hf:f∈fs:=by
    obtain⟨q1,q2,_⟩:=ybg.mp hj;rw[<- eq_of_beq q2];exact yb6 q1
   have p1:PE X (.Attribute o f pos) (tM X.K E ca (Bs C0 fs j m)):=r_fld h1 (h2 f hf) hj ho hb;split at h
   .rename_i m2 hm2;cases h;exact Kr p1 (ih' hm2)
   .cases h;exact p1
  .exact ih' h
set_option maxHeartbeats 1000001 in
theorem ZI(C:CxOk Γ X E ca){g:List T->Option T}(h:J4 f=some g)(hg:Bz Γ.nm f=true)(hb:f∈Γ.bl)(ha:PA X (e::es) (CF X.K E ca ms))(hs:∀x∈e::es,CN x=true)(hp:CU f=true) :
  PE X (.Call (.Name f p) (e::es) [] pos) (tM X.K E ca (BA g ms)):=by
 have G:=C.gl hg;have B:=C.bl f hb;obtain⟨p1,p2,p3⟩:=DY hp;have s1:=Bw (es:=es) (env:=X.env) (hs e (ya9 ..));have s2:=Ge (env:=X.env) (pos:=pos) λx hx=>hs x (ya7 e hx)
 unfold J4 at h;split at h
 .rename_i hf;subst hf;cases h;exact Hh ZD G B PySem.boot_len ha p3 p1 s1 s2
 split at h
 .rename_i hf;subst hf;cases h;exact Ul zdu G B ycq ha p3 p1 s1 s2
 split at h
 .rename_i hf;subst hf;cases h;exact Hh zfa G B PyProof.Rows.boot_abs ha p3 p1 s1 s2
 split at h
 .rename_i hf;subst hf;cases h;exact Ul zf5 G B PyProof.Rows.boot_tuple ha p3 p1 s1 s2
 split at h
 .rename_i hf;subst hf;cases h;exact Hh (zf6 C.calm) G B PyProof.Rows.boot_min ha p3 p1 s1 s2
 split at h
 .rename_i hf;subst hf;cases h;exact Hh (zf9 C.calm) G B PyProof.Rows.boot_all ha p3 p1 s1 s2
 split at h
 .rename_i hf;subst hf;cases h;exact Hh (zf8 C.calm) G B PyProof.Rows.boot_any ha p3 p1 s1 s2
 .cases h
theorem zdw{c:Str}{t:String}(h:KG c=some t):bootBuiltins c=some (.type t):=by
 unfold KG at h;split at h
 .rename_i hf;subst hf;cases h;exact PyProof.Rows.boot_int
 split at h
 .rename_i hf;subst hf;cases h;exact PyProof.Rows.boot_bool
 split at h
 .rename_i hf;subst hf;cases h;exact PyProof.Rows.boot_str
 split at h
 .rename_i hf;subst hf;cases h;exact ycq
 split at h
 .rename_i hf;subst hf;cases h;exact PyProof.Rows.boot_tuple
 .cases h
theorem Yy{N:List Str}:∀{ys:List Str} {caps:List Nat},J2 N ys=some caps->ys.length=caps.length/\∀(k j:Nat),caps[k]?=some j->∃y,ys[k]?=some y/\N[j]?=some y
 |[],caps,h=>by cases h;exact⟨rfl,λk j e=>by simp at e⟩
 |y::r,caps,h=>by
  unfold J2 at h;split at h
  .rename_i i hi;split at h
   .rename_i l hl;cases h;obtain⟨h1,h2⟩:=Yy hl;refine⟨by simp[h1],λk j e=>?_⟩
    cases k with
    |zero=>simp at e;subst e;exact⟨y,rfl,Eo hi⟩
    |succ k=>exact h2 k j (by simpa using e)
   .cases h
  .cases h
theorem zeu{nm:List (Str×NameKind)}(h:y∈Cm nm):(y,NameKind.free)∈nm:=by
 unfold Cm at h;obtain⟨⟨z,k⟩,hz,e⟩:=yc9.mp h;simp only at e;split at e
 .rename_i hk;cases e;rw[<- eq_of_beq hk];exact hz
 .cases e
theorem zo8(C:CxOk Γ X E ca){caps:List Nat}(h:J5 Γ scope (Cd tg++Cm scope.names)=true)(hc:J2 Γ.N (Cm scope.names)=some caps):BlkOk X scope (Cd tg++Cm scope.names) (Cd tg).length caps:=by
 unfold J5 at h;simp only[ya3]at h;obtain⟨⟨⟨⟨h1,h2⟩,h3⟩,h4⟩,h5⟩:=h;obtain⟨l1,l2⟩:=Yy hc
 have free:∀y∈scope.names,y.2=.free->scope.names.lookup y.1=some .free/\(Γ.nm.lookup y.1=some .cell\/Γ.nm.lookup y.1=some .free)/\(y.1,NameKind.cell)∉scope.names:=λy hy hf=>by
  have q:=yaj.mp h3 y hy;simp only[hf,yf8,ydm,ydl,ya3,yf2,ybm,ybp]at q;refine⟨q.1.1,q.1.2,λz=>?_⟩
  have:=yat.mpr z;rw[this]at q;exact Bool.noConfusion q.2
 refine⟨eq_of_beq h1,λy hy hl=>?_,by simp[l1],λk j e=>?_,λy hy hf=>?_⟩
 .have q:=yaj.mp h2 y hy;simp only[hl,yf8,ydm,ydl,yf2]at q;exact q
 .obtain⟨y,e1,e2⟩:=l2 k j e;have fm:=zeu (yas e1);obtain⟨f1,_,f3⟩:=free _ fm rfl;refine⟨y,by rw[C.N];exact e2,?_,f1,f3⟩
  rw[yb5 (by omega)]
  simpa using e1
 .obtain⟨f1,f2,_⟩:=free y hy hf;refine⟨f1,?_⟩;rw[C.nm];exact f2
theorem zfw(hk:env.scope.kind=.function):(relabel scope env).names=Iu scope.names env.scope.names:=by
 unfold relabel Iu;simp only;refine yc5 λx hx=>?_
 obtain⟨n,k⟩:=x;have e:(env.scope.kind == ScopeKind.function)=true:=by rw[hk];rfl
 simp only[e,Bool.and_true]
 rfl
theorem SE(C:CxOk Γ X E ca)(h:J5 Γ scope N'=true)(cl:List (Str×Addr))(A:Addr)(s₀:Shared)(H₀:Hp)(ex:List Addr)(xb:Value->Shared->Prop){E':L2.St->XK}(hp:BO (Af X scope cl N' A s₀ H₀ ex xb) E'):CxOk (Γ.blk scope N') (Af X scope cl N' A s₀ H₀ ex xb) E' ca:=by
 unfold J5 at h;simp only[ya3]at h;obtain⟨⟨⟨⟨h1,h2⟩,h3⟩,h4⟩,h5⟩:=h;refine⟨rfl,yfa h4,?_,?_,C.calm,C.room,λx hx=>?_,C.bl,hp,λz=>(by cases z),λz=>(by cases z),C.fs,C.ex,C.ms,⟨C.gx.co,C.gx.cl,C.gx.mt,C.gx.nw,C.gx.sf,C.gx.xs,C.gx.sb,C.gx.sv,C.gx.ci,C.gx.x2,C.gx.wd,C.gx.ti⟩,λz=>(by cases z),C.fr⟩
 .show(relabel scope X.env).names=Iu scope.names Γ.nm;rw[zfw C.kd,C.nm]
 .show scope.kind=.function;exact eq_of_beq h1
 .have hx':x∈(R6 scope.names).filter λy=>scope.names.lookup y == some .cell:=hx
  rw[ydt]at hx';refine⟨yew (eq_of_beq hx'.2),?_⟩;exact eq_of_beq (yaj.mp h5 x hx'.1)
end
structure Good(ca:Str->Value)(n:Nat):Prop where
 e:∀{Γ:Gm} {X:Cx} {E:L2.St->XK} {e:Expr} {m:AF},CxOk Γ X E ca->dE n Γ e=some m->PE X e (tM X.K E ca m)
 t:∀{Γ:Gm} {X:Cx} {E:L2.St->XK} {e:Expr} {m:AF},CxOk Γ X E ca->ER e=true->dE n Γ e=some m->PT X e (Az X.K E ca m)
 a:∀{Γ:Gm} {X:Cx} {E:L2.St->XK} {es:List Expr} {m:Ao},CxOk Γ X E ca->dA n Γ es=some m->PA X es (CF X.K E ca m)
 o:∀{Γ:Gm} {X:Cx} {E:L2.St->XK} {es:List Expr} {m:Ao},CxOk Γ X E ca->dO n Γ es=some m->PA X es (Hb X.K E ca m)
 b:∀{Γ:Gm} {X:Cx} {E:L2.St->XK} {op:BoolOp} {es:List Expr} {m:AF} {pos:Pos},CxOk Γ X E ca->dB n Γ op es=some m->PE X (.BoolOp op es pos) (tM X.K E ca m)/\PW X (.BoolOp op es pos) (Az X.K E ca m)
 p:∀{Γ:Gm} {X:Cx} {E:L2.St->XK} {o:Option Expr} {m:Option (AF)},CxOk Γ X E ca->dP n Γ o=some m->PO X o (Gb X.K m)
 c:∀{Γ:Gm} {X:Cx} {E:L2.St->XK} {elt tg iter:Expr} {ifs:List Expr} {scope:Scope} {m:AF} {pos:Pos},CxOk Γ X E ca->dC n Γ elt tg iter ifs scope=some m->PE X (.ListComp elt [⟨tg,iter,ifs,0⟩] scope pos) (tM X.K E ca m)
 i:∀{Γ:Gm} {X:Cx} {E:L2.St->XK} {tg e:Expr} {m:Ao},CxOk Γ X E ca->dI n Γ tg e=some m->PI X tg e (tI X.K E ca m)
def WR:Expr->Bool
 |.Set ..=>false
 |_=>true
theorem Q7(h:WR e=true)(x:Value):foldedSetIterable e env x=pure x:=by
 cases e<;>first|rfl|cases h
theorem RP:∀{n:Nat} {Γ:Gm} {tg e:Expr} {m:Ao},dI n Γ tg e=some m->WR e=true:=by
 intro n Γ tg e m h;cases n with
 |zero=>cases h
 |succ n =>
  cases e with
  |Set es k p=>unfold dI at h;cases h
  |_=>rfl
theorem O8{k:Expr}(h:GI k=false):Md k:=λo i=>by
 cases k<;>first|rfl|cases h
theorem zhr(h:match e with|.UnaryOp ..=>False|.BoolOp ..=>False|.IfExp ..=>False|.Compare ..=>False|_=>True)(whole:Sem Value):isTrue e env whole=(do let v <- whole;standAt e.pos;holding [v] (truthy v)):=by
 cases e<;>first|rfl|exact False.elim h
variable {n:Nat}{elt a:Expr}{ifs:List Expr}{gens:List Comprehension}
section
theorem Yl(G:Good ca n){iter:Expr}(C:CxOk Γ X E ca)(h:dC (n+1) Γ elt tg iter ifs scope=some m) :
  ∃caps mi b mt me,m=BX (Cd tg).length caps mi b mt me/\BlkOk X scope (Cd tg++Cm scope.names) (Cd tg).length caps/\PI X tg iter (tI X.K E ca mi) /\
   (∀cl A s₀ H₀ ex xb E',BO (Af X scope cl (Cd tg++Cm scope.names) A s₀ H₀ ex xb) E'->PG (Af X scope cl (Cd tg++Cm scope.names) A s₀ H₀ ex xb) tg (Dh X.K b))/\(∀cl A s₀ H₀ ex xb E',BO (Af X scope cl (Cd tg++Cm scope.names) A s₀ H₀ ex xb) E'->GX (Af X scope cl (Cd tg++Cm scope.names) A s₀ H₀ ex xb) ifs (Az X.K E' ca mt)) /\
   (∀cl A s₀ H₀ ex xb E',BO (Af X scope cl (Cd tg++Cm scope.names) A s₀ H₀ ex xb) E'->PE (Af X scope cl (Cd tg++Cm scope.names) A s₀ H₀ ex xb) elt (tM X.K E' ca me))/\∀x,foldedSetIterable iter X.env x=pure x:=by
 unfold dC at h;split at h
 .rename_i hb;split at h
  .rename_i caps mi b me h1 h2 h3 h4;have B:=zo8 C hb h1;have PB:=λcl A s₀ H₀ ex xb E' hp=>RQ (SE C hb cl A s₀ H₀ ex xb (E':=E') hp) h3
   have PEl:=λcl A s₀ H₀ ex xb E' hp=>G.e (SE C hb cl A s₀ H₀ ex xb (E':=E') hp) h4
   split at h
   .cases h;exact⟨caps,mi,b,_,me,rfl,B,G.i C h2,PB,λcl A s₀ H₀ ex xb E' _=>λpins s σ H Q I q=>zif pins s σ H Q I (NP (K:=X.K) (E:=E') (ca:=ca) q),PEl,Q7 (RP h2)⟩
   .split at h
    .rename_i hok;split at h
     .rename_i mt h5;cases h;exact⟨caps,mi,b,mt,me,rfl,B,G.i C h2,PB,λcl A s₀ H₀ ex xb E' hp=>Uu (G.t (SE C hb cl A s₀ H₀ ex xb (E':=E') hp) hok h5),PEl,Q7 (RP h2)⟩
     .cases h
    .cases h
   .cases h
  .cases h
 .cases h
theorem good0(ca:Str->Value):Good ca 0:=by
 constructor
 .intro Γ X E e m C h;cases h
 .intro Γ X E e m C _ h;cases h
 .intro Γ X E e m C h;cases h
 .intro Γ X E e m C h;cases h
 .intro Γ X E op e m pos C h;cases h
 .intro Γ X E e m C h;cases h
 .intro Γ X E elt tg iter ifs scope m pos C h;cases h
 .intro Γ X E tg e m C h;cases h
theorem Yj(G:Good ca n){ops:List CmpOp}{bs:List Expr}(C:CxOk Γ X E ca)(h:dE (n+1) Γ (.Compare a ops bs pos)=some m) :
  PE X (.Compare a ops bs pos) (tM X.K E ca m)/\PT X (.Compare a ops bs pos) (Az X.K E ca m):=by
 cases ops with
 |nil=>rw[BP]at h;unfold BN at h;cases h
 |cons op r =>
  cases r with
  |cons op' r =>
   cases r with
   |cons _ _=>rw[BP]at h;unfold BN at h;cases h
   |nil =>
    cases bs with
    |nil=>rw[BP]at h;unfold BN at h;cases h
    |cons b r =>
     cases r with
     |nil=>rw[BP]at h;unfold BN at h;cases h
     |cons c r =>
      cases r with
      |cons _ _=>rw[BP]at h;unfold BN at h;cases h
      |nil =>
       rw[BP]at h;unfold BN at h;simp only at h;split at h
       .rename_i g g' ma mb mc h1 h2 h3 h4 h5;split at h
        .cases h
        .rename_i hm;cases h;have hm':=yb2.mpr hm;exact⟨r_chn (MJ C h1) (MJ C h2) (G.e C h3) (G.e C h4) (G.e C h5) hm',zlu (MJ C h1) (MJ C h2) (G.e C h3) (G.e C h4) (G.e C h5) hm'⟩
       .cases h
  |nil =>
   cases bs with
   |nil=>rw[BP]at h;unfold BN at h;cases h
   |cons b r =>
    cases r with
    |cons _ _=>rw[BP]at h;unfold BN at h;cases h
    |nil =>
     rw[BP]at h;unfold BN at h;simp only at h;split at h
     .rename_i g ma mb h1 h2 h3;split at h
      .cases h
      .rename_i hm;cases h;have hm':=yb2.mpr hm;exact⟨r_cmp (Yu C h1) (G.e C h2) (G.e C h3) hm',Ua (Yu C h1) (G.e C h2) (G.e C h3) hm'⟩
     .cases h
theorem Wm(h:dE (n+1) Γ (.ListComp elt gens scope pos)=some m):∃tg iter ifs,gens=[⟨tg,iter,ifs,0⟩]/\dC n Γ elt tg iter ifs scope=some m:=by
 cases gens with
 |nil=>rw[BP]at h;unfold BN at h;cases h
 |cons g r =>
  obtain⟨tg,iter,ifs,a⟩:=g;cases a with
  |negSucc k=>rw[BP]at h;unfold BN at h;cases h
  |ofNat k =>
   cases k with
   |succ k=>rw[BP]at h;unfold BN at h;cases h
   |zero =>
    cases r with
    |cons _ _=>rw[BP]at h;unfold BN at h;cases h
    |nil=>exact⟨tg,iter,ifs,rfl,by rw[BP]at h;unfold BN at h;exact h⟩
end
variable {ap:Pos}
section
theorem zo3(h:dA n Γ []=some ms):ms=AD:=by
 cases n with
 |zero=>cases h
 |succ n=>unfold dA at h;cases h;rfl
theorem zjn(C:CxOk Γ X E ca)(hpo:Gk o=true)(hln:(ap.endLine == pos.line)=true)(hlen:es.length<30)(hnil:es=[]->ms=AD)(ho:PE X o (tM X.K E ca m))(ha:PA X es (CF X.K E ca ms))(hst:∀e∈es,CN e=true){m':AF}(h:Gs f m ms Γ.ox.mt=some m'):PE X (.Call (.Attribute o f ap) es [] pos) (tM X.K E ca m'):=by
 have key:∀L:List (Str×Addr×List Str×Fn),(∀c∈L,c∈Γ.ox.mt)->∀{m':AF},Gs f m ms L=some m'->PE X (.Call (.Attribute o f ap) es [] pos) (tM X.K E ca m'):=by
  intro L
  induction L with
  |nil=>intro _ m' h;cases h
  |cons c r ih =>
   obtain⟨g,C0,fs,F⟩:=c;intro hL m' h;have ih':=@ih (λc hc=>hL c (ya7 _ hc))
   unfold Gs at h;split at h
   .rename_i hc;rw[ya3,yf6,ybp]at hc;obtain⟨rfl,hnf⟩:=hc;obtain⟨hlv,⟨D⟩⟩:=C.gx.mt _ (hL _ (ya9 ..))
    have p1:PE X (.Call (.Attribute o g ap) es [] pos) (tM X.K E ca (DN C0 fs F.g m ms)):=by
     obtain⟨pl,ht⟩:=zei (f:=g) (ap:=ap) (pos:=pos) (es:=es) (env:=X.env) hpo (by
      have:=Ge (env:=X.env) (pos:=pos) hst;rw[yaj];intro z hz;rw[List.any_eq_false]at this
      simpa using this z hz) hlen hln
     cases es with
     |cons e es=>exact zlv D hnf C.room C.ps ho ha hlv (Bw (hst e (ya9 ..))) (Ge λx hx=>hst x (ya7 e hx)) ht
     |nil =>
      refine PE.weak (pmx0 D C.room C.ps ho hlv ht) λσ H Q h=>?_
      obtain⟨F,τ,R,S,q⟩:=T6 hnf h;refine⟨F,τ,R,S,?_⟩;cases hm:m τ with
      |none=>rw[hm]at q;exact q
      |some r =>
       rw[hm]at q;cases r with
       |x c=>exact q
       |v t b =>
        intro F1 H1 x B e1 g1;obtain⟨a,dx,fs',h1,h2,h3,h4⟩:=q F1 H1 x B e1 g1;refine⟨a,dx,fs',h1,h2,h3,?_⟩;rw[hnil rfl]at h4;exact E9 h4
    split at h
    .rename_i m2 hm2;cases h;exact Kr p1 (ih' hm2)
    .cases h;exact p1
   .exact ih' h
 exact key _ (λ_ h=>h) h
theorem znr(h:PE X e (tM X.K E ca m)):PI X tg e (tI X.K E ca (Hr Γ m)):=by
 unfold Hr;split
 .exact zlx h
 .exact Ui h
theorem Yi(G:Good ca n)(C:CxOk Γ X E ca)(h:dE (n+1) Γ e=some m):PE X e (tM X.K E ca m)/\(ER e=true->PT X e (Az X.K E ca m)):=by
 have val:∀{e:Expr} {m:AF},PE X e (tM X.K E ca m)->(match e with|.UnaryOp ..=>False|.BoolOp ..=>False|.IfExp ..=>False|.Compare ..=>False|_=>True)->PE X e (tM X.K E ca m)/\(ER e=true->PT X e (Az X.K E ca m)):=λh1 h2=>⟨h1,λ_=>Kq h1 (zhr h2)⟩
 cases e with
 |Compare a ops bs pos=>exact⟨(Yj G C h).1,λ_=>(Yj G C h).2⟩
 |Constant c k pos =>
  cases c with
  |int i=>rw[BP]at h;unfold BN at h;cases h;exact val (Hg VF λ_ _=>.int i) trivial
  |bool b=>rw[BP]at h;unfold BN at h;cases h;exact val (Hg VI λ_ _=>.bl b) trivial
  |none=>rw[BP]at h;unfold BN at h;cases h;exact val (Hg zmm λ_ _=>.non) trivial
  |str x=>rw[BP]at h;unfold BN at h;cases h;exact val (Hg VC λ_ _=>.str x) trivial
  |_=>rw[BP]at h;unfold BN at h;cases h
 |Name x pos =>
  rw[BP]at h;unfold BN at h;simp only at h;split at h
  .rename_i i hi;cases h;obtain⟨h1,h2,h3,h4⟩:=C.var (pos:=pos) hi;exact val (Gg h1 h2 h3 h4) trivial
  .split at h
   .rename_i hp;rw[ya3]at hp;obtain⟨t,ht,rfl⟩:=ya2.mp h;obtain⟨u,v,k1,k2,k3⟩:=C.gx.co x t ht;exact val (r_con (C.gl hp.2) k1 k2 (DY hp.1).1 k3) trivial
   .cases h
 |Attribute o f pos =>
  rw[BP]at h;unfold BN at h;simp only at h;split at h
  .rename_i hpo;split at h
   .rename_i m1 h1;exact val (zkd C.gx.cl (G.e C h1) (MO hpo) h) trivial
   .cases h
  .cases h
 |BinOp a op b pos =>
  rw[BP]at h;unfold BN at h;simp only at h;split at h
  .rename_i g ma mb h1 h2 h3;cases h;exact val (Um (zn1 h1) (G.e C h2) (G.e C h3)) trivial
  .cases h
 |UnaryOp op a pos =>
  cases op with
  |USub =>
   rw[BP]at h;unfold BN at h;simp only at h;split at h
   .rename_i ma h1;cases h;have hp:=r_un (pos:=pos) zhq (G.e C h1);exact⟨hp,λ_=>Kq hp λ_=>rfl⟩
   .cases h
  |Not =>
   rw[BP]at h;unfold BN at h;simp only at h;split at h
   .rename_i hok;obtain⟨ma,h1,rfl⟩:=ya2.mp h;exact⟨r_not (G.e C h1),λ_=>U9 (G.t C hok h1)⟩
   .cases h
  |_=>rw[BP]at h;unfold BN at h;cases h
 |BoolOp op vs pos =>
  rw[BP]at h;unfold BN at h;simp only at h;obtain⟨h1,h2⟩:=G.b (pos:=pos) C h;exact⟨h1,λ_=>h2.pt⟩
 |IfExp c a b pos =>
  rw[BP]at h;unfold BN at h;simp only at h;split at h
  .rename_i hok;split at h
   .rename_i mc ma mb h1 h2 h3;cases h;exact⟨r_ife (G.t C hok h1) (G.e C h2) (G.e C h3),λz=>by cases z⟩
   .cases h
  .cases h
 |List es pos =>
  rw[BP]at h;unfold BN at h;obtain⟨ms,h1,rfl⟩:=ya2.mp h;exact val (Ud (G.o C h1)) trivial
 |Tuple es k pos =>
  rw[BP]at h;unfold BN at h;obtain⟨ms,h1,rfl⟩:=ya2.mp h;exact val (r_tup (G.a C h1)) trivial
 |Subscript a k pos =>
  rw[BP]at h;unfold BN at h;simp only at h;split at h
  .rename_i lo hi p2;split at h
   .rename_i ma ml mh h1 h2 h3;cases h;unfold NZ;split
    .exact val (Kr (Ub (G.e C h1) (G.p C h2) (G.p C h3)) (zfz (G.e C h1) (G.p C h2) (G.p C h3))) trivial
    exact val (Ub (G.e C h1) (G.p C h2) (G.p C h3)) trivial
   .cases h
  .split at h
   .cases h
   .rename_i hs;split at h
    .rename_i ma mk h1 h2;cases h;unfold QH;split
     .exact val (r_gt (by have:=C.room.units;omega) (G.e C h1) (G.e C h2) (O8 (yb2.mpr hs))) trivial
     exact val (Ug (G.e C h1) (G.e C h2) (O8 (yb2.mpr hs))) trivial
    .cases h
 |ListComp elt gens scope pos =>
  obtain⟨tg,iter,ifs,rfl,h⟩:=Wm h;exact val (G.c C h) trivial
 |Dict ks vs pos =>
  rw[BP]at h;unfold BN at h;exact val (zki (λe m he=>G.e C he) h) trivial
 |Call f args kws pos =>
  cases f with
  |Name f p =>
   cases args with
   |nil=>rw[BP]at h;unfold BN at h;cases h
   |cons e es =>
    cases kws with
    |cons _ _=>rw[BP]at h;unfold BN at h;cases h
    |nil =>
     rw[BP]at h;unfold BN at h;simp only at h;split at h
     .rename_i hp;rw[ya3]at hp;split at h
      .rename_i hb;have hb':f∈Γ.bl:=yat.mp hb;split at h
       .rename_i hf;subst hf;split at h
        .rename_i c p2;split at h
         .rename_i hc;simp only[ya3]at hc;split at h
          .rename_i t m' h1 h2;cases h;obtain⟨q1,q2,q3⟩:=DY hc.1.2;exact val (r_isO C.gx.ti (zdw h1) (C.gl hp.2) (C.bl _ hb') (C.gl hc.1.1.1) (C.bl _ (yat.mp hc.1.1.2)) q3 q1 (G.e C h2) (Bw hc.2)) trivial
          .cases h
         ·
          split at h
          .rename_i hc2;simp only[ya3]at hc2;split at h
           .rename_i CC m' h1 h2;cases h;obtain⟨_,k1,k2⟩:=C.gx.ci c CC h1;exact val (r_isC k2 (C.gl hp.2) (C.bl _ hb') (C.gl hc2.1.1) k1 (DY hc2.1.2).1 (G.e C h2) (Bw hc2.2)) trivial
           .cases h
          .cases h
        .cases h
       ·
        split at h
        .rename_i a pa pc hst;obtain⟨rfl,rfl,rfl⟩:=zfo hst;split at h
         .rename_i hc;simp only[ya3]at hc;obtain⟨m1,h1,rfl⟩:=ya2.mp h;exact val (r_unq C.calm (C.gl hp.2) (C.bl _ hb') (C.gl hc.1.1) (C.bl _ (yat.mp hc.1.2)) (G.e C h1) (Bw (es:=[]) (env:=X.env) hc.2)) trivial
         .cases h
        split at h
        .rename_i x px pa pc hvl;obtain⟨rfl,rfl,rfl,hln⟩:=zhp hvl;obtain⟨i,hi,rfl⟩:=ya2.mp h;obtain⟨h1,h2,h3,h4⟩:=C.var (pos:=px) hi;exact val (zlt C.calm (C.gl hp.2) (C.bl _ hb') (Gg h1 h2 h3 h4) rfl hln) trivial
        split at h
        .rename_i hky;obtain⟨rfl,rfl,hat⟩:=zjw hky;obtain⟨m1,h1,rfl⟩:=ya2.mp h;have hns:CN e=true:=by cases e<;>first|rfl|cases hat
         have hst:starEach [e] X.env=[(false,eval e X.env)]:=Bw (es:=[]) (env:=X.env) hns;have hb1:J4 "list"=some (g1 CZ):=by ext
         exact val (Kr (ZI C hb1 hp.2 hb' (O0 (G.e C h1) OZ hst) (λx hx=>by rw[yaa.mp hx];exact hns) hp.1) (r_kys C.calm (C.gl hp.2) (C.bl _ hb') (G.e C h1) hst)) trivial
        split at h
        .rename_i g ms h1 h2;cases h;exact val (ZI C h1 hp.2 hb' (G.a C h2) (GU h2) hp.1) trivial
        .cases h
      ·
       split at h
       .rename_i F ds hnw;split at h
        .rename_i dts ms hds h2;cases h;obtain⟨hl,CC,D,hD⟩:=C.gx.nw f F ds hnw;obtain⟨dvs,us,k1,k2,k3⟩:=hD _ _ hds;obtain⟨q1,q2,q3⟩:=DY hp.1;have hst:=GU h2;exact val (r_new D k1 k2 k3 C.room C.ps (G.a C h2) hl (C.gl hp.2) q1 (Bw (hst e (ya9 ..))) (Ge λx hx=>hst x (ya7 e hx))) trivial
        .cases h
       split at h
       .rename_i F ms h1 h2;cases h;obtain⟨hl,⟨D⟩⟩:=C.fs f F h1;obtain⟨q1,q2,q3⟩:=DY hp.1;have hst:=GU h2;exact val (zm2 D C.room C.ps (G.a C h2) hl (C.gl hp.2) q1 (Bw (hst e (ya9 ..))) (Ge λx hx=>hst x (ya7 e hx))) trivial
       .cases h
     .cases h
  |Attribute o m ap =>
   cases kws with
   |cons _ _=>rw[BP]at h;unfold BN at h;cases h
   |nil =>
    rw[BP]at h;unfold BN at h;simp only at h;split at h
    .cases h
    rename_i hpo;rw[ybp,Bool.not_eq_false,ya3,ya3,yf6]at hpo;obtain⟨⟨hpo,hl⟩,hlen⟩:=hpo;split at h
    .rename_i mo ms h1 h2;split at h
     .rename_i hf;subst hf;split at h
      .rename_i k
       .obtain⟨mk,h3,rfl⟩:=ya2.mp h;exact val (r_enw (G.e C h1) (G.e C h3) (MO hpo) (Bw (es:=[]) (env:=X.env) (GU h2 k (ya9 ..))) hl) trivial
      .cases h
     split at h
     .rename_i hf;subst hf;split at h
      .rename_i k
       .obtain⟨mk,h3,rfl⟩:=ya2.mp h;exact val (zlw (G.e C h1) (G.e C h3) (MO hpo) (Bw (es:=[]) (env:=X.env) (GU h2 k (ya9 ..))) hl) trivial
      .cases h
     exact val (zjn C hpo hl hlen (λz=>zo3 (z▸h2)) (G.e C h1) (G.a C h2) (GU h2) h) trivial
    .cases h
  |_=>rw[BP]at h;unfold BN at h;cases h
 |_=>rw[BP]at h;unfold BN at h;cases h
theorem goodS(G:Good ca n):Good ca (n+1):=by
 constructor
 .intro Γ X E e m C h;exact(Yi G C h).1
 .intro Γ X E e m C hok h;exact(Yi G C h).2 hok
 .intro Γ X E es m C h;unfold dA at h;cases es with
  |nil=>cases h;exact OZ
  |cons e es =>
   simp only at h;split at h
   .rename_i hs;split at h
    .rename_i m1 ms h1 h2;cases h;exact O0 (G.e C h1) (G.a C h2) (Bw hs)
    .cases h
   .cases h
 .intro Γ X E es m C h;unfold dO at h;cases es with
  |nil=>cases h;exact Uc
  |cons e es =>
   simp only at h;split at h
   .rename_i hs;split at h
    .rename_i m1 ms h1 h2;cases h;exact Uk (G.e C h1) (G.o C h2) (Bw hs)
    .cases h
   .cases h
 .intro Γ X E op es m pos C h;unfold dB at h;cases es with
  |nil=>cases h
  |cons a r =>
   cases r with
   |nil =>
    simp only at h;split at h
    .rename_i hok;refine⟨r_one (G.e C h),?_⟩;cases op with
     |And=>exact zi9 (G.t C hok h)
     |Or=>exact U8 (G.t C hok h)
    .cases h
   |cons b r =>
    simp only at h;split at h
    .rename_i hok;split at h
     .rename_i ma mb h1 h2;cases h;obtain⟨b1,b2⟩:=G.b (pos:=pos) C h2;exact⟨r_and (G.e C h1) b1,zls (G.t C hok h1) b2⟩
     .rename_i ma mb h1 h2;cases h;obtain⟨b1,b2⟩:=G.b (pos:=pos) C h2;exact⟨r_or (G.e C h1) b1,U7 (G.t C hok h1) b2⟩
     .cases h
    .cases h
 .intro Γ X E o m C h;unfold dP at h;cases o with
  |none=>cases h;exact r_po0
  |some e =>
   simp only at h;obtain⟨m1,h1,rfl⟩:=ya2.mp h;exact r_po1 (G.e C h1)
 .intro Γ X E elt tg iter ifs scope m pos C h;obtain⟨caps,mi,b,mt,me,rfl,B,hi,hg,ht,he,hs⟩:=Yl G C h;exact Ue B (cq:=λX=>X.calm=true) (λ_ _ _ _ _ _ _ _ _=>C.calm) (Uz hi) C.ps C.fr hg ht he hs
 .intro Γ X E tg e m C h
  have gen:∀{m:Ao},(dE n Γ e).map (Hr Γ)=some m->PI X tg e (tI X.K E ca m):=λh=>by
   obtain⟨m1,h1,rfl⟩:=ya2.mp h;exact znr (G.e C h1)
  unfold dI at h;split at h
  .rename_i f p a pos;split at h
   .rename_i hf;subst hf;split at h
    .rename_i hc;simp only[ya3]at hc;obtain⟨ms,h1,rfl⟩:=ya2.mp h;exact zg0 (C.gl hc.1.1) (C.bl _ (yat.mp hc.1.2)) (G.a C h1) (Bw hc.2)
    .cases h
   .split at h
    .rename_i hf;subst hf;split at h
     .rename_i hc;simp only[ya3]at hc;obtain⟨ms,h1,rfl⟩:=ya2.mp h;cases tg with
      |Tuple elts kk tpos =>
       unfold YX;split
       .exact r_enX (C.gl hc.1.1.1) (C.bl _ (yat.mp hc.1.1.2)) (G.a C h1) (Bw hc.1.2)
       .exact Uj (C.gl hc.1.1.1) (C.bl _ (yat.mp hc.1.1.2)) (G.a C h1) (Bw hc.1.2)
      |_=>exact Bool.noConfusion hc.2
     .cases h
    .exact gen h
  .rename_i f p a b pos;split at h
   .rename_i hf;subst hf;cases h
   .split at h
    .rename_i hf;subst hf;split at h
     .rename_i hc;simp only[ya3]at hc;obtain⟨ms,h1,rfl⟩:=ya2.mp h;have s2:=Bw (es:=[]) (env:=X.env) hc.1.2;cases tg with
      |Tuple elts kk tpos=>exact r_zip (C.gl hc.1.1.1.1) (C.bl _ (yat.mp hc.1.1.1.2)) (G.a C h1) (by rw[Bw hc.1.1.2,s2];rfl) s2
      |_=>exact Bool.noConfusion hc.2
     .cases h
    .exact gen h
  .cases h
  .split at h
   .rename_i x px pa pc hvw;obtain⟨rfl,hln⟩:=Sr hvw;split at h
    .rename_i ht;obtain⟨i,hi,rfl⟩:=ya2.mp h;obtain⟨h1,h2,h3,h4⟩:=C.var (pos:=px) hi;cases tg with
     |Tuple elts kk tpos=>exact zia (Gg h1 h2 h3 h4) rfl hln
     |_=>exact Bool.noConfusion ht
    .cases h
   .exact gen h
theorem JT(ca:Str->Value):∀n,Good ca n
 |0=>good0 ca
 |n+1=>goodS (JT ca n)
end
theorem zbn:entryFor table "proto.unchain"=some Builtin.«proto.unchain»:=entryFor_of_fast (by ext)
variable {prog:Program}{w:World}{s:Shared}
section
variable {A:Around}{E:Value->Shared->Prop}
theorem zgj{it l h:Addr}{items:Array Value}{oh:Obj}{vs:Array Value}{Q:Option Value->Shared->Prop}(hh:A.handled=some (.ref h))(ho':s.heap.get? h=some oh)(hd':oh.data=.fields vs)(h2:vs[2]?=some .none)(hne:h≠it)(hit:s.heap.IsListIter it l i)(hl:s.heap.IsList l items)(hx:items[i]?=none)(hQ:∀h',Heap.ExtBut it s.heap h'->Q none { s with heap:=h' }):wpAny (model prog w) A (pyNext (.ref it)) Q E s:=by
 obtain⟨o,ho,hc,hd⟩:=id hit;obtain⟨ol,hol,_,nl,hdl⟩:=hl;unfold pyNext;refine yek (wpAny_attempt (wpAny_callSpecial?_slot (name:=Str.ofString "__next__") hit.typeIs slot_listiter_next (wpAny_call_entry slot_listiter_next hit.typeIs entry_listiter_next ?_ (args_listiter_next _))));show wpAny _ _ (field (.ref it) 0 >>= _) _ _ s;refine yek (yf0 ho hd (x:=.ref l) rfl ?_);show wpAny _ _ (if (Value.ref l == Value.none)=true then _ else _) _ _ s
 rw[if_neg (show ¬ ((Value.ref l == Value.none)=true) from yb8)];show wpAny _ _ (field (.ref it) 1 >>= _) _ _ s;refine yek (yf0 ho hd (x:=.int i 0) rfl ?_);show wpAny _ _ (seqItems? (.ref l) >>= _) _ _ s;refine yek (wpAny_seqItems hol hdl ?_);simp only[yc3,hx];refine yek (wpAny_rule (yek (yez ho hd (by simp) ?_)))
 show wpAny _ _ (newExc (.type "StopIteration") [] >>= _) _ _ _;refine yek ?_;simp only[newExc,newTuple];refine yek (yey ?_ (by size_fits))
 refine yek (m:=firstArgMember _ _) (yf5 (a:=Value.none) (by first|rfl|(simp only[firstArgMember];rfl)) ?_)
 refine yey ?_ (by size_fits)
 simp only[raiseNew];refine yek (wpAny_handled ?_);rw[show A.in1.handled=some (.ref h) from hh];have lt:=yah ho';generalize e1:s.heap.update it _=h1;have s1:Heap.SameBut it s.heap h1:=e1▸Heap.SameBut.update ..;have q1:h1.get? h=some oh:=(s1.2 h hne).trans ho';have l1:=yah q1;have sz:∀y,(h1.push y).objs.size=h1.objs.size+1:=λy=>Array.size_push ..
 show wpAny _ _ (if (Value.ref h != Value.ref (h1.push _).objs.size)=true then _ else _) _ _ _
 rw[if_pos (bne_iff_ne.mpr λz=>by injection z with z;rw[sz]at z;exact absurd l1 (by rw[z];exact yec.mpr (yby _)))]
 have q3:∀y z,((h1.push y).push z).get? h=some oh:=λy z=>ya8 _ (ya8 _ q1)
 refine yek (yel (runValue_entry zbn ?_));unfold Builtin.«proto.unchain»;refine yek (yf0 (q3 _ _) hd' h2 ?_);rw[if_pos (by decide)]
 refine yen ⟨_,rfl,?_⟩;unfold updateField;refine yek (yek (wpAny_load (yal _ rfl) ?_));show wpAny _ _ (if _ then _ else _) _ _ _
 rw[if_pos (by rw[Array.size_append];exact yam (show 2<6 by decide) (yc7 6 _))]
 refine wpAny_update (yal _ rfl) (wpAny_throw ?_);refine yek (yfc (T:="StopIteration") (b:=true) ⟨_,ycb _ (yal _ rfl) rfl,rfl⟩ isSubtype_stop ?_);refine yen (hQ _ λb o hb e=>?_)
 have e2:=(s1.2 b hb).trans e;rw[ybf _ _ (λz=>?_)]
 .exact ya8 _ (ya8 _ e2)
 .have l2:=yah e2;rw[<- z,sz]at l2;exact absurd l2 (yec.mpr (yby _))
end
def HX(X:Cx):Prop:=∃h C,X.A.handled=some (.ref h)/\EI X.H₀ h C
variable {P:Program}
theorem turnX{K:kA}(a it:Addr):TurnG HX P w K tg (Mh K a) [it] it (λi h=>h.IsListIter it a i) where
 obj:=λi h st b hb=>by
  have e:b=it:=by simpa using hb
  subst e;obtain⟨o,e,c,d⟩:=st;exact⟨o,e,λv z=>by rw[d]at z;cases z⟩
 keep:=λi h h' st k=>st.at λo e=>k it (by simp) o e
 item:=by
  intro X hP hw hK hc i pins s σ H E I hf st hg;subst hP hw hK;obtain⟨xs,x,hq,hx⟩:=hg;obtain⟨its,rv,p,hz⟩:=I.list hq;obtain⟨u,hu,ru⟩:=rv.get hx;obtain⟨f0,f1,f2,f3,f4,f5⟩:=hf it (by simp)
  refine wpAny_pyNext_list_item st p.isList (x:=u) (by simpa using hu) λh' st' sb=>?_
  have I1:Inv X pins σ H { s with heap:=h' }:=I.turned (t':=s.toks) (λb o hb e=>(sb.2 b hb).trans e) f0 f1 f3 f4 f5
  obtain⟨o,e,c,d⟩:=id st';exact⟨u,rfl,JU (s:={ s with heap:=h' }) e c d (by decide) ⟨x,H,I1,ru,⟨rfl,λys hy=>by rw[I.list_inj hy hq];exact hx⟩,st',λb hb=>(hf b hb).1⟩⟩
 done:=by
  intro X hP hw hK hc i pins s σ H E I hf st hg;subst hP hw hK;obtain⟨xs,hq,hx⟩:=hg;obtain⟨its,rv,p,hz⟩:=I.list hq;obtain⟨f0,f1,f2,f3,f4,f5⟩:=hf it (by simp)
  obtain⟨h,C,hh,ob,y,_,vs,hd,h2⟩:=hc;have y1:=I.base.frzs _ _ _ y;have hl:=rv.length;exact zgj hh (I.hok h _ y1).1 hd h2 (λz=>by rw[z,f0]at y1;cases y1) st p.isList (by simp;omega) λh' eb=>⟨rfl,I.turned (t':=s.toks) (λb o hb e=>eb b o hb e) f0 f1 f3 f4 f5⟩
 self:=λ_ _ _ _ _ st h=>wpAny_pyIter_listiter st h
variable {τ:AO}
section
theorem zio{l:Expr}{tl:TE}(hl:PE X l tl):PJ HX X tg l (XQ X.K tl):=by
 intro pins s σ H R I h;refine AS (hl pins s σ H _ I h) λv s1 ⟨x,H1,I1,r1,q1⟩=>?_
 obtain⟨a,e,⟨xs,hq⟩,q⟩:=q1;subst e;cases r1;obtain⟨its,rv,p,hz⟩:=I1.list hq;refine yeo p.isList ?_;refine⟨s1.heap.objs.size,[s1.heap.objs.size],_,_,H1,rfl,I1.kept (t':=s1.toks) λb o e=>ya8 _ e,turnX a _,⟨_,yal _ rfl,rfl,rfl⟩,λb hb=>?_,q⟩
 have e:b=s1.heap.objs.size:=by simpa using hb
 subst e;exact I1.fpOk (yac _) (I1.hok.fresh (yac _))
noncomputable def GL(m:AF):Ao:=λτ=>match m τ with
 |some (.v (.nd _ .lst l) false)=>some (.v (Ax l) false)
 |_=>none
theorem zeq{r:RsL}(h:GL m τ=some r):∃o l,m τ=some (.v (.nd o .lst l) false)/\r=.v (Ax l) false:=by
 unfold GL at h;split at h
 .rename_i hm;exact⟨_,_,hm,(yau h).symm⟩
 .cases h
theorem zly(ha:PE X e (tM X.K E ca m)):PJ HX X tg e (tI X.K E ca (GL m)):=by
 refine λpins s σ H P I h=>zio ha pins s σ H P I ?_
 obtain⟨F,τ,R,S,q⟩:=h;refine⟨F,τ,R,S,?_⟩;cases hr:GL m τ with
 |none=>simp only[hr]at q<;>exact False.elim q
 |some r =>
  obtain⟨o,l,hm,rfl⟩:=zeq hr;simp only[hr]at q;rw[hm];intro F1 H1 x B e1 g1;obtain⟨F2,e2,_,r2⟩:=Ct.frz (b:=false) S e1 g1;have r2':Rp X.K F2 F2 (T.nd o .lst l).share x R0:=r2;rw[T.share]at r2';obtain⟨p,xs,rfl,_,n,kd⟩:=Cg r2';exact⟨p,rfl,⟨xs,AY.of (e2.fh _ _ n)⟩,q F2 H1 _ e2 (L9 (λF' H' s1 s2=>AY.of (s2 _ _ (s1 _ _ n))) kd)⟩
end
structure CxS(Γ:Gm)(X:Cx)(ca:Str->Value):Prop where
 N:X.N=Γ.N
 nd:Γ.N.Nodup
 nm:X.env.scope.names=Γ.nm
 rm:Room Γ.lv (Gq X.A)
 bl:∀b∈Γ.bl,X.mg b=none
 gx:GxOk Γ.ox Γ.lv X.prog X.w X.K X.mg X.base ca
theorem CxS.var{Γ:Gm}{X:Cx}{ca:Str->Value}(C:CxS Γ X ca){x:Str}{i:Nat}(h:Γ.var x=some i):X.N[i]?=some x/\DT X.env.scope x/\(x == ("__debug__":Str))=false/\(x == ("__classdict__":Str))=false:=by
 unfold Gm.var at h;split at h
 .rename_i hp;rw[ya3]at hp;obtain⟨p1,p2,p3⟩:=DY hp.1;exact⟨by rw[C.N];exact Eo h,NB (by rw[C.nm];exact hp.2),p1,p2⟩
 .cases h
theorem CxS.gl(C:CxS Γ X ca)(h:Bz Γ.nm x=true):Gl X x:=by
 unfold Bz at h;show X.env.scope.names.lookup x=some .globalImplicit;rw[C.nm];exact eq_of_beq h
def Ld:Expr->Option (Expr×Str×Pos×Pos×Pos)
 |.Call f es ks c=>(match CH f,es,ks with
  |some (g,p),[a,b],[]=>if g="isinstance" then (match CH b with
   |some (d,q)=>some (a,d,p,q,c)
   |none=>none) else none
  |_,_,_=>none)
 |_=>none
theorem XC{t:Expr}{d:Str}{q c:Pos}(h:Ld t=some (a,d,p,q,c)):t=.Call (.Name "isinstance" p) [a,.Name d q] [] c:=by
 unfold Ld at h;split at h
 .split at h
  .rename_i h1;split at h
   .rename_i hg;split at h
    .rename_i h2;cases h;rw[CV h1,CV h2,hg]
    .cases h
   .cases h
  .cases h
 .cases h
mutual
def dX:Nat->Gm->Expr->Option (AF)
 |0,_,_=>none
 |n+1,Γ,e=>match Ld e with
  |some (a,d,_,_,_)=>if Bz Γ.nm "isinstance" && Γ.bl.contains "isinstance" && Bz Γ.nm d && CU d && CN a then (match dX n Γ a with
    |some m=>(match Γ.ox.sb.lookup d with
     |some tb=>some (BA (g1 (DP tb)) (AB m AD))
     |none=>(match Γ.ox.sv.lookup d with
      |some tb=>some (BA (g1 (DP tb)) (AB m AD))
      |none=>none))
    |none=>none) else none
  |none=>(match e with
   |.Constant (.str x) _ _=>some (mC (.str x))
   |.Name x _=>(Γ.var x).map AA
   |.List es _=>(MD n Γ es).map AV
   |.BinOp a .Add b _=>(match dX n Γ a,dX n Γ b with
    |some ma,some mb=>some (BA (g2 BV) (AB ma (AB mb AD)))
    |_,_=>none)
   |_=>none)
def MD:Nat->Gm->List Expr->Option (Ao)
 |0,_,_=>none
 |n+1,Γ,es=>match es with
  |[]=>some AD
  |e::es=>if CN e then (match dX n Γ e,MD n Γ es with
   |some m,some ms=>some (AK m ms)
   |_,_=>none) else none
end
theorem GS{ca:Str->Value}{E:L2.St->XK}:∀n:Nat,(∀{Γ:Gm} {X:Cx} {e:Expr} {m:AF},CxS Γ X ca->dX n Γ e=some m->PE X e (tM X.K E ca m))/\(∀{Γ:Gm} {X:Cx} {es:List Expr} {m:Ao},CxS Γ X ca->MD n Γ es=some m->PA X es (Hb X.K E ca m))
 |0=>⟨(λC h=>by cases h),(λC h=>by cases h)⟩
 |n+1=>by
  obtain⟨G1,G2⟩:=GS (ca:=ca) (E:=E) n;refine⟨λ{Γ X e m} C h=>?_,λ{Γ X es m} C h=>?_⟩
  .unfold dX at h;split at h
   .rename_i a d p q c hi;have hi:=XC hi;subst hi;split at h
    .rename_i hc;simp only[ya3]at hc;obtain⟨⟨⟨⟨c1,c2⟩,c3⟩,c4⟩,c5⟩:=hc;obtain⟨p1,p2,p3⟩:=DY c4;split at h
     .rename_i ma h1;split at h
      .rename_i tb ht;cases h;obtain⟨A,k1,k2⟩:=C.gx.sb d tb ht;exact Uh (C.gl c1) (C.bl _ (yat.mp c2)) (O9 (v:=.ref A) (C.gl c3) k1 rfl p1) ⟨A,.inl rfl⟩ k2 (G1 C h1) (Bw c5)
      .split at h
       .rename_i tb ht;cases h;obtain⟨k0,t,k1,k2⟩:=C.gx.sv d tb ht;exact Uh (C.gl c1) (C.bl _ (yat.mp c2)) (Oa (v:=.ty t) (C.gl c3) k0 k1 rfl p3 p1) ⟨0,.inr ⟨t,rfl⟩⟩ k2 (G1 C h1) (Bw c5)
       .cases h
     .cases h
    .cases h
   .split at h
    .cases h;exact Hg VC λ_ _=>.str _
    .obtain⟨i,hi,rfl⟩:=ya2.mp h;obtain⟨h1,h2,h3,h4⟩:=C.var hi;exact Gg h1 h2 h3 h4
    .obtain⟨ms,h1,rfl⟩:=ya2.mp h;exact Ud (G2 C h1)
    .split at h
     .rename_i ma mb h1 h2;cases h;exact Um VO (G1 C h1) (G1 C h2)
     .cases h
    .cases h
  .unfold MD at h;cases es with
   |nil=>cases h;exact Uc
   |cons e es =>
    simp only at h;split at h
    .rename_i hs;split at h
     .rename_i m1 ms h1 h2;cases h;exact Uk (G1 C h1) (G2 C h2) (Bw hs)
     .cases h
    .cases h
def Ol:Expr->Bool
 |.ListComp ..=>false
 |.SetComp ..=>false
 |.DictComp ..=>false
 |_=>true
theorem Tg{t:Option Expr}{l:Nat}(h:Ol e=true):swapsWith e t l env=pure false:=by
 cases e<;>first|rfl|cases h
noncomputable def Gf:Stmt->Option Expr
 |.Return o _=>o
 |_=>none
theorem OX{s:Stmt}(h:Gf s=some e):∃p,s=.Return (some e) p:=by
 cases s with
 |Return o p=>exact⟨p,by rw[show o=some e from h]⟩
 |_=>cases h
def J6:Stmt->Option (Str×Expr)
 |.Assign ts e _=>(match ts with
  |[]=>none
  |t::r=>if r.isEmpty then (CH t).map λx=>(x.1,e) else none)
 |_=>none
theorem SI{s:Stmt}(h:J6 s=some (x,e)):∃q p,s=.Assign [.Name x q] e p:=by
 cases s with
 |Assign ts e' p =>
  cases ts with
  |nil=>cases h
  |cons t r =>
   cases r with
   |cons _ _=>cases h
   |nil =>
    obtain⟨⟨y,q⟩,h1,h2⟩:=ya2.mp (show(CH t).map (λx=>(x.1,e'))=some (x,e) from h)
    cases h2;exact⟨q,p,by rw[CV h1]⟩
 |_=>cases h
def R8:Expr->Option (Expr×Expr)
 |.Call f es ks _=>(match es with
  |[]=>none
  |l::r=>if r.isEmpty && ks.isEmpty then some (f,l) else none)
 |_=>none
theorem ZC{f l:Expr}(h:R8 e=some (f,l)):∃p,e=.Call f [l] [] p:=by
 cases e with
 |Call f' es ks p =>
  cases es with
  |nil=>cases h
  |cons l' r =>
   cases r with
   |cons _ _=>cases h
   |nil =>
    cases ks with
    |cons _ _=>cases h
    |nil=>cases h;exact⟨p,rfl⟩
 |_=>cases h
def MC:Nat->Gm->List Stmt->Option (AH)
 |0,_,_=>none
 |n+1,Γ,ss=>match ss with
  |[]=>some Ah
  |s::r=>(match Gf s with
   |some e=>if r.isEmpty then (dX n Γ e).map AX else none
   |none=>(J6 s).bind λq=>if Γ.loc q.1 && (Γ.nm.lookup q.1 == some .local) && Ol q.2 then (C4 Γ.N q.1).bind λi=>(dX n Γ q.2).bind λm=>(MC n Γ r).map λms=>AI (Au m (AG i)) ms else none)
theorem Ye{ca:Str->Value}{E:L2.St->XK}:∀n:Nat,∀{Γ:Gm} {X:Cx} {ss:List Stmt} {m:AH},CxS Γ X ca->MC n Γ ss=some m->BE X ss (tS X.K E ca false m)
 |0,Γ,X,ss,m,C,h=>by cases h
 |n+1,Γ,X,[],m,C,h=>by
  cases h;exact Nc
 |n+1,Γ,X,s::r,m,C,h=>by
  unfold MC at h;cases h1:Gf s with
  |some e =>
   simp only[h1]at h;obtain⟨p,rfl⟩:=OX h1;cases r with
   |cons _ _=>cases h
   |nil =>
    obtain⟨m1,h1,rfl⟩:=ya2.mp (show(dX n Γ e).map AX=some m from h);exact Ih (K8 ((GS n).1 C h1))
  |none =>
   simp only[h1]at h;obtain⟨⟨x,e⟩,h2,k1⟩:=yaf.mp h;obtain⟨px,pa,rfl⟩:=SI h2
   clear h h1 h2
   split at k1
   .rename_i hc;simp only[ya3]at hc;obtain⟨i,h3,k2⟩:=yaf.mp k1;obtain⟨m1,h4,k3⟩:=yaf.mp k2;obtain⟨ms,h5,rfl⟩:=ya2.mp k3;have hl:X.env.scope.names.lookup x=some .local:=by rw[C.nm];exact eq_of_beq hc.1.2
    exact Ij (Na (by rw[C.N];exact C.nd) (by rw[C.N];exact Eo h3) (.inl hl) ((GS n).1 C h4) (Tg hc.2) (.inr hl)) (Ye n C h5)
   .cases k1
def dW(Γ:Gm)(en:Str)(ss:List Stmt):Option (AH):=match ss with
 |[]=>none
 |s::r=>(J6 s).bind λq=>(R8 q.2).bind λc=>(CH c.1).bind λg=>(CH c.2).bind λy=>(C4 Γ.N en).bind λi =>
  if r.isEmpty && decide (y.1=en) && CU y.1 && Jy Γ.nm y.1 && Γ.loc q.1 && (Γ.nm.lookup q.1 == some .local) && Bz Γ.nm g.1 && CU g.1 then (C4 Γ.N q.1).bind λj=>(Γ.ox.wd.lookup g.1).map λF=>Au (AQ F.g (AB (AA i) AD)) (AG j) else none
theorem dW_ok{a:Addr}{en:Str}{ss:List Stmt}{m:AH}(C:CxS Γ (DS X a) ca)(hi:C4 Γ.N en=some i)(h:dW Γ en ss=some m):Jh a i (DS X a) ss (tS X.K E5 ca false m):=by
 cases ss with
 |nil=>cases h
 |cons s r =>
  obtain⟨⟨x,e⟩,h1,k1⟩:=yaf.mp (show _=some m from h);obtain⟨⟨f,b⟩,h2,k2⟩:=yaf.mp k1;obtain⟨⟨g,q1⟩,hf,k3⟩:=yaf.mp k2;obtain⟨⟨y,q2⟩,hb,k4⟩:=yaf.mp k3;obtain⟨i',hi',k5⟩:=yaf.mp k4;obtain⟨px,pa,rfl⟩:=SI h1;obtain⟨pc,he⟩:=ZC h2;obtain rfl:e=.Call f [b] [] pc:=he;obtain rfl:f=.Name g q1:=CV hf;obtain rfl:b=.Name y q2:=CV hb;rw[hi]at hi';cases hi'
  clear h h1 k1 k2 k3 k4 h2 hf hb
  split at k5
  .rename_i hc;simp only[ya3,yf6,yci]at hc;obtain⟨⟨⟨⟨⟨⟨⟨rfl,rfl⟩,c2⟩,c3⟩,c4⟩,c5⟩,c6⟩,c7⟩:=hc;obtain⟨j,hj,k6⟩:=yaf.mp k5;obtain⟨F,hF,rfl⟩:=ya2.mp k6;obtain⟨p1,p2,p3⟩:=DY c2;obtain⟨hlv,p,hp,⟨D⟩⟩:=C.gx.wd g F hF;have hl:(DS X a).env.scope.names.lookup x=some .local:=by rw[C.nm];exact eq_of_beq c5
   have hv:PE (DS X a) (.Name y q2) (KO i):=Gp (by rw[C.N];exact Eo hi) (NB (by rw[C.nm];exact c3)) p1 p2
   have P1:=Uv (O4 (pos:=pa) (pos':=px) (by rw[C.N];exact C.nd) (by rw[C.N];exact Eo hj) (.inl hl) (px_s (pos:=pc) (q:=q1) D C.rm rfl hlv hv (C.gl c6) (DY c7).1) rfl (.inr hl))
   refine λpins s σ H D' I hσ hX q=>P1 pins s σ H D' I ⟨hσ,hX,?_⟩
   have q1:tM X.K E5 ca (AQ F.g (AB (AA i) AD)) σ H (λv H1=>Hv j v σ H1 D'.nx):=KP (λ_ _ _ _ z=>Lj z) q
   obtain⟨v,e1,e2⟩:=Su (Ea (Yz q1));rw[hσ]at e1;cases e1;exact E9 e2
  .cases k5
def RO(n:Nat)(Γ:Gm)(en:Str)(ss:List Stmt):Option (AH):=match dW Γ en ss with
 |some m=>some m
 |none=>MC n Γ ss
theorem zo2(n:Nat){a:Addr}{en:Str}{ss:List Stmt}{m:AH}(C:CxS Γ (DS X a) ca)(hi:C4 Γ.N en=some i)(h:RO n Γ en ss=some m):Jh a i (DS X a) ss (tS X.K E5 ca false m):=by
 unfold RO at h;split at h
 .rename_i hw;cases h;exact dW_ok C hi hw
 .exact pss_e (Ye n C h)
noncomputable def pkB:List Str:=["len","isinstance","all","any","abs","min","max","int"]
def isLC:Expr->Bool
 |.ListComp ..=>true
 |_=>false
def Bc:Nat->List Str->Expr->List Str
 |0,_,_=>[]
 |n+1,pk,e =>
  let peek:=λ(x:Expr)=>match x with
   |.Name _ _=>[]
   |x=>Bc n pk x
  match e with
  |.Name x _=>[x]
  |.BinOp a _ b _=>Bc n pk a++Bc n pk b
  |.UnaryOp _ a _=>Bc n pk a
  |.BoolOp _ vs _=>vs.flatMap (Bc n pk)
  |.Compare a _ bs _=>peek a++bs.flatMap peek
  |.IfExp c a b _=>Bc n pk c++Bc n pk a++Bc n pk b
  |.Call (.Name f _) args [] _=>if pkB.contains f || pk.contains f then args.flatMap peek else args.flatMap (Bc n pk)
  |.Call (.Attribute _ _ _) args [] _=>args.flatMap λa=>if isLC a then Bc n pk a else []
  |.Subscript a k _=>(match k with
   |.Slice lo hi _ _=>Bc n pk a++(match lo with|some e=>Bc n pk e|none=>[])++(match hi with|some e=>Bc n pk e|none=>[])
   |_=>peek a++Bc n pk k)
  |.List es _=>es.flatMap (Bc n pk)
  |.Tuple es _ _=>es.flatMap (Bc n pk)
  |.ListComp _ [⟨_,iter,_,_⟩] scope _=>Bc n pk iter++Cm scope.names
  |_=>[]
def useS(pk:List Str):Stmt->List Str
 |.Expr (.Call (.Attribute (.Name _ _) _ _) [e] [] _) _=>Bc 40 pk e
 |.Expr e _=>Bc 40 pk e
 |.Return (some (.Name _ _)) _=>[]
 |.Return (some e) _=>Bc 40 pk e
 |.Assign [.Subscript (.Subscript _ k _) j _] e _=>Bc 40 pk k++Bc 40 pk j++Bc 40 pk e
 |.Assign [.Subscript _ k _] e _=>Bc 40 pk k++Bc 40 pk e
 |.Assign [_] e _=>Bc 40 pk e
 |.If c _ _ _=>Bc 40 pk c
 |.For _ it _ _ _=>Bc 40 pk it
 |.While c _ _ _=>Bc 40 pk c
 |_=>[]
def Ff(Γ:Gm)(e:Expr)(m:AF):AF:=m
variable {σ:L2.St}{H:Hp}{Q:VK}
section
theorem NO(h:tM X.K E ca (Ff Γ e m) σ H Q):tM X.K E ca m σ H Q:=h
theorem zfi{Q:Bool->Hp->Prop}(h:Az X.K E ca (Ff Γ e m) σ H Q):Az X.K E ca m σ H Q:=h
theorem ziz(h:PE X e (tM X.K E ca m)):PE X e (tM X.K E ca (Ff Γ e m)):=PE.weak h λσ H Q h=>NO h
theorem zih(h:PT X e (Az X.K E ca m)):PT X e (Az X.K E ca (Ff Γ e m)):=λpins s σ H Q I q=>h pins s σ H Q I (zfi q)
end
def frzs(Γ:Gm)(s:Stmt):List Nat :=
 ((useS Γ.pk s).filter (Γ.ow.contains ·)).eraseDups.filterMap (C4 Γ.N)
def Q4(l:List Nat)(m:AH):AH:=l.foldr (λi m=>AI (FK i) m) m
def pinN(Γ:Gm):Stmt->Option Nat
 |.Assign _ e _=>(match e with
  |.Name x _=>if Γ.ox.pn.contains x then Γ.var x else none
  |.Call (.Name f _) [.Name x _] [] _=>if f="list" && Γ.ox.pn.contains x then Γ.var x else none
  |_=>none)
 |_=>none
def unlN(Γ:Gm):Stmt->Option Nat
 |.For _ (.Call (.Name f _) (.Name x _::_) _ _) _ _ _=>if f="zip" && Γ.ox.pn.contains x then Γ.var x else none
 |_=>none
def Kt(Γ:Gm)(s:Stmt)(w:AH):AH:=match pinN Γ s with
 |some i=>Fu i w
 |none=>(match unlN Γ s with
  |some i=>AI (Ki i) w
  |none=>w)
def Dc:Expr->Bool
 |.ListComp ..=>true
 |.SetComp ..=>true
 |.DictComp ..=>true
 |_=>false
def Gd(Γ:Gm)(x:Str)(px:Pos):Expr->Bool
 |.ListComp _ _ scope p=>Γ.nm.lookup x == some .local && px.line == p.line && !(scope.names.any λ(n,k)=>n == x && (k == .local || k == .cell))
 |_=>false
def KU(Γ:Gm)(x:Str):Bool:=Γ.nm.lookup x == some .cell
def He(Γ:Gm)(x:Str)(i:Nat)(m:AF):AH:=if Γ.ow.contains x then Di i m else Au m (AG i)
def CM(c:Str)(ms:Ao):AH:=λτ=>match ms τ with
 |some (.v ts _)=>if ts.length<=BL then some (.xc c τ) else none
 |some (.x c)=>some (.xc c τ)
 |none=>none
noncomputable def SJ:Expr->Option (Str×Pos×Str×Pos×Expr×Pos)
 |.Call f es ks c=>(match f,es,ks with
  |.Attribute o f a,[e],[]=>(match o with
   |.Name x p=>some (x,p,f,a,e,c)
   |_=>none)
  |_,_,_=>none)
 |_=>none
theorem zhf{t:Expr}{a c:Pos}(h:SJ t=some (x,p,f,a,e,c)):t=.Call (.Attribute (.Name x p) f a) [e] [] c:=by
 unfold SJ at h;split at h
 .split at h
  .split at h
   .cases h;rfl
   .cases h
  .cases h
 .cases h
noncomputable def RW:Expr->Option (Str×Pos×Str×Pos×Pos)
 |.Call f es ks c=>(match f,es,ks with
  |.Attribute o f a,[],[]=>(match o with
   |.Name x p=>some (x,p,f,a,c)
   |_=>none)
  |_,_,_=>none)
 |_=>none
theorem zh4{t:Expr}{a c:Pos}(h:RW t=some (x,p,f,a,c)):t=.Call (.Attribute (.Name x p) f a) [] [] c:=by
 unfold RW at h;split at h
 .split at h
  .split at h
   .cases h;rfl
   .cases h
  .cases h
 .cases h
def NS:Expr->Option ((Str×Pos)×Expr×Pos)
 |.Subscript a k p=>(match CH a with
  |some x=>some (x,k,p)
  |none=>none)
 |_=>none
theorem zfk{t k:Expr}{q:Pos}(h:NS t=some ((x,q),k,p)):t=.Subscript (.Name x q) k p:=by
 unfold NS at h;split at h
 .split at h
  .rename_i h1;cases h;rw[CV h1]
  .cases h
 .cases h
def OU(a b:Option Expr):Option (Str×Pos×Expr×List Expr×Pos):=match a,b with
 |some a,none=>(match a with
  |.Call f es ks c=>(match CH f,es,ks with
   |some (x,p),e::es,[]=>some (x,p,e,es,c)
   |_,_,_=>none)
  |_=>none)
 |_,_=>none
theorem zfu{a b:Option Expr}{c:Pos}(h:OU a b=some (x,p,e,es,c)):a=some (.Call (.Name x p) (e::es) [] c)/\b=none:=by
 unfold OU at h;split at h
 .split at h
  .split at h
   .rename_i h1;cases h;exact⟨by rw[CV h1],rfl⟩
   .cases h
  .cases h
 .cases h
def QJ:Expr->Bool
 |.Dict ks vs _=>ks.isEmpty && vs.isEmpty
 |_=>false
theorem zk6(h:QJ e=true):∃p,e=.Dict [] [] p:=by
 unfold QJ at h;split at h
 .rename_i ks vs p;rw[ya3]at h;exact⟨p,by rw[yci.mp h.1,yci.mp h.2]⟩
 .cases h
def SG:Expr->Option ((Str×Pos)×Str×Pos)
 |.Attribute o f p=>(match CH o with
  |some x=>some (x,f,p)
  |none=>none)
 |_=>none
theorem zkt{t:Expr}{q:Pos}(h:SG t=some ((x,q),f,p)):t=.Attribute (.Name x q) f p:=by
 unfold SG at h;split at h
 .split at h
  .rename_i h1;cases h;rw[CV h1]
  .cases h
 .cases h
def Yh(n:Nat)(Γ:Gm)(x f:Str)(e:Expr):Option (AH):=match Γ.ox.sf,Γ.var x with
 |some (C,fs),some i=>(match fs.findIdx? (· == f) with
  |some j=>if (fs.take j).contains f || !(decide (j<900)) || Dc e then none else if QJ e then some (Dj C fs j i LY) else (dE n Γ e).map (Dj C fs j i)
  |none=>none)
 |_,_=>none
def Yk(n:Nat)(Γ:Gm)(x f:Str)(k e:Expr):Option (AH):=match Γ.ox.sf,Γ.var x with
 |some (C,fs),some i=>(match fs.findIdx? (· == f) with
  |some j=>if GI k || Dc e then none else (match dE n Γ k,dE n Γ e with
   |some mk,some m=>some (Im C fs j i mk m)
   |_,_=>none)
  |none=>none)
 |_,_=>none
def RR(n:Nat)(Γ:Gm)(t e:Expr):Option (AH):=match t with
    |.Name x px=>if Γ.loc x then (
     match C4 Γ.N x,dE n Γ e with
      |some i,some m=>if Dc e && !(Gd Γ x px e) && !(KU Γ x) then none else some (He Γ x i (Ff Γ e m))
      |_,_=>none) else none
    |.Tuple ts kt pt=>(
      if JP e || Dc e then none else (match dG Γ (.Tuple ts kt pt),dE n Γ e with
        |some b,some m=>some (Au m b)
        |_,_=>none))
    |.Subscript a j _=>(match NS a with
      |some ((x,_),k,_) =>
        none
      |none=>(match CH a with
        |some (x,_)=>if GI j || Dc e then none else (match Γ.var x,dE n Γ j,dE n Γ e with
          |some i,some mk,some m=>some (Il i mk m)
          |_,_,_=>none)
        |none=>(match SG a with
          |some ((x,_),f,_)=>Yk n Γ x f j e
          |none=>none)))
    |.Attribute o f _=>(match CH o with
      |some (x,_)=>Yh n Γ x f e
      |none=>none)
    |_=>none
mutual
def dS:Nat->Gm->Stmt->Option (AH)
  |0,_,_=>none
  |n+1,Γ,s=>match s with
    |.Pass _=>some Ah
    |.Break _=>some ON
    |.Continue _=>some OM
    |.Return o _=>(match o with
      |none=>if Γ.mu then none else some OL
      |some e=>if Γ.mu then none else (dE n Γ e).map AX)
    |.Expr e _=>(match SJ e with
      |some (x,_,f,apos,a,cpos)=>if CN a && (apos.endLine == cpos.line) then (
       match Γ.var x,dE n Γ a with
        |some i,some m=>if f="append" then some (Io i m) else
          if f="extend" then some (Ec i m) else
          none
        |_,_=>none) else none
      |none=>(match RW e with
        |some (x,_,f,apos,cpos) =>
          none
        |none=>(
          if Dc e then none else (dE n Γ e).map Ed)))
    |.Assign ts e _=>(match ts with
      |[t]=>RR n Γ t e
      |_=>none)
    |.If c a b _=>(
      if ER c then (match dE n Γ c,Ad n Γ a,Ad n Γ b with
        |some mc,some u,some w=>some (Ai (Ff Γ c mc) u w)
        |_,_,_=>none) else none)
    |.For tg it body els _=>if Γ.ox.nr then none else (
      (match els with
        |[]=>(match dI n Γ tg it,dG Γ tg,Ad n Γ body with
          |some mi,some b,some u=>some (C1 mi b u)
          |_,_,_=>none)
        |_=>none))
    |.While c body els _=>none
    |.Raise a b _ =>
     (match OU a b with
      |some (c,_,e,es,_)=>if !(Γ.ox.nr) && Γ.ex.contains c && Bz Γ.nm c && CU c then (dA n Γ (e::es)).map (CM c) else none
      |none=>none)
    |.Try body hs els As _=>(match hs,els,As with
      |[.ExceptHandler (some t) (some x) (b0::suite) _],[],[]=>(match CH t with
        |some (W,_)=>if Γ.ox.df && !(Γ.ox.nr) && !(Γ.mu) && (Γ.nm.lookup x == some .local) && Bz Γ.nm W && CU W then (match C4 Γ.N x,Γ.ox.xs.lookup W,Ad n { Γ with ox:={ Γ.ox with nr:=true } } body,RO n Γ x (b0::suite) with
            |some i,some cs,some u,some h=>some (Hc i cs u h)
            |_,_,_,_=>none) else none
        |none=>none)
      |_,_,_=>none)
    |_=>none
def Ad:Nat->Gm->List Stmt->Option (AH)
 |0,_,_=>none
 |n+1,Γ,ss=>match ss with
  |[]=>some Ah
  |[s]=>(match dS n Γ s with
   |some m=>some (Kt Γ s (Q4 (frzs Γ s) m))
   |none=>if Γ.ox.no then some Kj else none)
  |s::r=>(match dS n Γ s,Ad n Γ r with
   |some m,some ms=>some (Kt Γ s (Q4 (frzs Γ s) (AI m ms)))
   |none,some ms=>if Γ.ox.no then some (AI Kj ms) else none
   |_,none=>none)
end
variable {mu:Bool}{cpos:Pos}
section
theorem Nn{rest:List Stmt}{w:AH}(h:BE X rest (tS X.K E ca mu w)):∀l:List Nat,BE X rest (tS X.K E ca mu (Q4 l w))
 |[]=>h
 |i::r=>s_frz (Nn h r)
theorem UL{rest:List Stmt}{st:Stmt}{w:AH}(h:BE X rest (tS X.K E ca mu w)):BE X rest (tS X.K E ca mu (Kt Γ st w)):=by
 unfold Kt;split
 .exact s_pin h
 .split
  .exact s_unl h
  .exact h
theorem KW{t:Option Expr}{l:Nat}(h:Dc e=false):swapsWith e t l env=pure false:=by
 cases e<;>first|rfl|cases h
theorem zcf(h:env.scope.kind=.function):env.blockKind=.function:=by
 unfold Env.blockKind;rw[h]
 rfl
theorem zfj(C:CxOk Γ X E ca){px:Pos}{l:Nat}(h:Gd Γ x px (.ListComp elt gens scope p)=true):swapsWith (.ListComp elt gens scope p) (some (.Name x px)) l X.env=pure true:=by
 have e:swapsWith (.ListComp elt gens scope p) (some (.Name x px)) l X.env=pure (X.env.blockKind == .function && X.env.kindOf x == some .local && px.line == p.line && !(scope.names.any λ(n,k)=>n == x && (k == .local || k == .cell))):=rfl
 rw[e];unfold Gd at h
 simp only[ya3]at h;have k:X.env.kindOf x=some .local:=by
  show X.env.scope.names.lookup x=some .local;rw[C.nm];exact eq_of_beq h.1.1
 rw[zcf C.kd,k,h.1.2,h.2]
 rfl
theorem zhw(C:CxOk Γ X E ca){px:Pos}{l:Nat}(h:KU Γ x=true):swapsWith e (some (.Name x px)) l X.env=pure false:=by
 have k:X.env.kindOf x=some .cell:=by
  show X.env.scope.names.lookup x=some .cell;rw[C.nm];exact eq_of_beq h
 have c:(some NameKind.cell == some NameKind.local)=false:=rfl;cases e<;>first|rfl|(unfold swapsWith;simp only[k,c,ye2,yd6])
theorem NV{t:Expr}{l:Nat}(h:Dc e=false):swapsWithSole [t] e l env=pure false:=KW h
theorem Tj{k:Expr}(h:GI k=false)(v:Value):assign (.Subscript o k pos) env v=(do
   let ov <- holding [v] (eval o env);let iv <- holding [v,ov] (eval k env)
   standAt pos
   holding [v,ov,iv] (setItem ov iv v)
   release [v,ov,iv] []):=by
 cases k<;>first|rfl|cases h
theorem s_lcS{px:Pos}(C:CxOk Γ X E ca)(h:dE n Γ (.ListComp elt gens scope p)=some m)(hw:Gd Γ x px (.ListComp elt gens scope p)=true)(hi:C4 Γ.N x=some i) :
  PS X (.Assign [.Name x px] (.ListComp elt gens scope p) pos) (tS X.K E ca mu (He Γ x i (Ff Γ (.ListComp elt gens scope p) m))):=by
 have lx:X.env.scope.names.lookup x=some .local:=by
  unfold Gd at hw;simp only[ya3]at hw;rw[C.nm];exact eq_of_beq hw.1.1
 have hN:X.N[i]?=some x:=by rw[C.N];exact Eo hi
 have main:PS X (.Assign [.Name x px] (.ListComp elt gens scope p) pos) (λD σ H=>tM X.K E ca m σ H λv H1=>D.nx (σ.set i (some v)) H1):=by
  cases n with
  |zero=>cases h
  |succ n =>
   obtain⟨tg,iter,ifs,rfl,h⟩:=Wm h;cases n with
   |zero=>cases h
   |succ n =>
    obtain⟨caps,mi,b,mt,me,rfl,B,hi',hg,ht,he,hs⟩:=Yl (JT ca n) C h;exact r_lcS B C.calm hi' C.ps C.fr hg ht he hs C.nodup hN lx (zfj C hw)
 unfold He;split
 .exact PS.weak main λD σ H h=>NO (TY h)
 .exact PS.weak main λD σ H h=>NO (KP (g:=Hv i) (λ_ _ _ _ z=>Lj z) h)
theorem s_asg{px:Pos}(C:CxOk Γ X E ca)(hl:Γ.loc x=true)(hi:C4 Γ.N x=some i)(h:dE n Γ e=some m)(hc:(Dc e && !(Gd Γ x px e) && !(KU Γ x))=false) :
  PS X (.Assign [.Name x px] e pos) (tS X.K E ca mu (He Γ x i (Ff Γ e m))):=by
 have plain:(∀l,swapsWith e (some (.Name x px)) l X.env=pure false)->PS X (.Assign [.Name x px] e pos) (tS X.K E ca mu (He Γ x i (Ff Γ e m))):=λsw=>by
  obtain⟨g1,g2,g3⟩:=C.loc hl hi;have he:=ziz (Γ:=Γ) ((JT ca n).e C h);unfold He;split
  .exact zln C.nodup g1 g2 he (sw _) g3
  .exact Na C.nodup g1 g2 he (sw _) g3
 cases hcomp:Dc e with
 |false=>exact plain λl=>KW hcomp
 |true =>
  rw[hcomp]at hc;cases hn:KU Γ x with
  |true=>exact plain λl=>zhw C hn
  |false =>
   rw[hn]at hc;have hw:Gd Γ x px e=true:=by simpa using hc
   cases e with
   |ListComp elt gens scope p=>exact s_lcS C h hw hi
   |_=>cases hw
theorem s_rse{c:Str}(C:CxOk Γ X E ca)(hnr:Γ.ox.nr=false)(hc:c∈Γ.ex)(hg:Bz Γ.nm c=true)(hp:CU c=true)(ha:PA X (e::es) (CF X.K E ca ms))(hs:∀x∈e::es,CN x=true) :
  PS X (.Raise (some (.Call (.Name c p) (e::es) [] cpos)) none pos) (tS X.K E ca mu (CM c ms)):=by
 obtain⟨T,hT⟩:=C.ex c hc;obtain⟨p1,p2,p3⟩:=DY hp;refine PS.weak (zg5 T C.calm (C.md hnr) ha (C.gl hg) p1 (Bw (hs e (ya9 ..))) (Ge hs)) λD σ H h=>?_
 obtain⟨F,τ,R,S,q⟩:=h;refine⟨F,τ,R,S,?_⟩;unfold CM at q;cases hm:ms τ with
 |none=>simp only[hm]at q<;>exact False.elim q
 |some r =>
  simp only[hm]at q;cases r with
  |x c=>exact λF' H' e=>q F' H' σ R e.stp0 (S.ext e)
  |v ts b =>
   intro F' H' xs e1 rs
   by_cases hz:ts.length<=BL
   .simp only[hz,yet]at q;refine⟨by rw[<- rs.1,<- Dl];exact hz,?_⟩
    have:=q F' H' σ R e1.stp0 (S.ext e1);rw[hT]at this;exact this
   .simp only[hz,yeu]at q<;>exact False.elim q
structure GoodS(ca:Str->Value)(n:Nat):Prop where
 s:∀{Γ:Gm} {X:Cx} {E:L2.St->XK} {st:Stmt} {m:AH},CxOk Γ X E ca->dS n Γ st=some m->PS X st (tS X.K E ca Γ.mu m)
 ss:∀{Γ:Gm} {X:Cx} {E:L2.St->XK} {st:List Stmt} {m:AH},CxOk Γ X E ca->Ad n Γ st=some m->BE X st (tS X.K E ca Γ.mu m)
end
theorem zkl{t:Expr}{m:AH}(C:CxOk Γ X E ca)(h:RR n Γ t e=some m):PS X (.Assign [t] e pos) (tS X.K E ca Γ.mu m):=by
 have GE:=JT ca n;unfold RR at h;split at h
 .rename_i x px;split at h
  .rename_i hl;split at h
   .rename_i i m1 h1 h2;split at h
    .cases h
    .rename_i hc;cases h;exact s_asg C hl h1 h2 (yb2.mpr hc)
   .cases h
  .cases h
 .rename_i ts kt pt;split at h
  .cases h
  .rename_i hc;split at h
   .rename_i b m1 h1 h2;cases h;have hc':(JP e || Dc e)=false:=yb2.mpr hc
    rw[ybt]at hc';refine zlk (GE.e C h2) (RQ C h1) ?_ ?_ rfl
    .exact NV hc'.2
    .have ht:=hc'.1;cases e<;>first|rfl|cases ht
   .cases h
 .rename_i a j p3;split at h
  .rename_i x p1 k p2 hsub;have hsub:=zfk hsub;subst hsub;cases h
  .split at h
   .rename_i x p1 hnm;have hnm:=CV hnm;subst hnm;split at h
    .cases h
    .rename_i hc;split at h
     .rename_i i mk m1 h1 h2 h3;have hc':(GI j || Dc e)=false:=yb2.mpr hc
      rw[ybt]at hc';obtain⟨v1,v2,v3,v4⟩:=C.var (pos:=p1) h1;cases h;refine s_sto v1 v2 v3 v4 (GE.e C h3) (GE.e C h2) (NV hc'.2) ?_ (Tj hc'.1);cases e<;>rfl
     .cases h
   .split at h
    .rename_i x p1 f p2 hat;have hat:=zkt hat;subst hat;unfold Yk at h;split at h
     .rename_i CC fs i hsf hv;split at h
      .rename_i jj hj;split at h
       .cases h
       .rename_i hc;have hc':(GI j || Dc e)=false:=yb2.mpr hc
        rw[ybt]at hc';split at h
        .rename_i mk m1 h1 h2;cases h;obtain⟨v1,v2,v3,v4⟩:=C.var (pos:=p1) hv;obtain⟨k1,k2⟩:=C.gx.sf CC fs hsf
         have hf:f∈fs:=by
          obtain⟨q1,q2,_⟩:=ybg.mp hj;rw[<- eq_of_beq q2];exact yb6 q1
         refine s_dpf (by have:=C.room.units;omega) k1 (k2 f hf) hj v1 v2 v3 v4 (GE.e C h2) (GE.e C h1) (NV hc'.2) ?_ (Tj hc'.1)
         cases e<;>rfl
        .cases h
      .cases h
     .cases h
    .cases h
 .rename_i o f p2;split at h
  .rename_i x p1 hn;have hn:=CV hn;subst hn;unfold Yh at h;split at h
   .rename_i CC fs i hsf hv;split at h
    .rename_i jj hj;split at h
     .cases h
     .rename_i hc;have hc':((fs.take jj).contains f || !(decide (jj<900)) || Dc e)=false:=yb2.mpr hc
      rw[ybt,ybt,Bool.not_eq_false',yf6]at hc';obtain⟨⟨c1,c2⟩,c3⟩:=hc';obtain⟨v1,v2,v3,v4⟩:=C.var (pos:=p1) hv;obtain⟨k1,k2⟩:=C.gx.sf CC fs hsf;obtain⟨q1,q2,_⟩:=ybg.mp hj
      have hf:f∈fs:=by
       rw[<- eq_of_beq q2];exact yb6 q1
      have hg:fs[jj]?=some f:=by rw[ya0 q1];exact congrArg some (eq_of_beq q2)
      split at h
      .rename_i h0;obtain⟨p0,rfl⟩:=zk6 h0;cases h;exact UO k1 (k2 f hf) hg c1 c2 v1 v2 v3 v4 zlz rfl
      .obtain⟨m1,h1,rfl⟩:=ya2.mp h;exact UO k1 (k2 f hf) hg c1 c2 v1 v2 v3 v4 (GE.e C h1) (KW c3)
    .cases h
   .cases h
  .cases h
 .cases h
theorem dS_ok(G:GoodS ca n){st:Stmt}{m:AH}(C:CxOk Γ X E ca)(h:dS (n+1) Γ st=some m):PS X st (tS X.K E ca Γ.mu m):=by
 have GE:=JT ca n;unfold dS at h;split at h
 .cases h;exact zlm
 .cases h;exact zi7
 .cases h;exact zde
 .split at h
  .split at h
   .rename_i hmu;cases h
   .rename_i hmu;cases h;rw[yb2.mpr hmu];exact zll
  .split at h
   .rename_i hmu;cases h
   .rename_i hmu;rw[yb2.mpr hmu];obtain⟨m1,h1,rfl⟩:=ya2.mp h;exact K8 (GE.e C h1)
 .split at h
  .rename_i x p f apos e cpos happ;have happ:=zhf happ;subst happ;split at h
   .rename_i hc;rw[ya3]at hc;split at h
    .rename_i i m1 h1 h2;obtain⟨v1,v2,v3,v4⟩:=C.var (pos:=p) h1;have s1:=Bw (es:=[]) (env:=X.env) hc.1;split at h
     .rename_i hf;subst hf;cases h;exact s_app v1 v2 v3 v4 (GE.e C h2) s1 hc.2
     .split at h
      .rename_i hf;subst hf;cases h;exact s_ext v1 v2 v3 v4 (GE.e C h2) s1 hc.2
      .cases h
    .cases h
   .cases h
  .split at h
   .rename_i x p f apos cpos hclr;have hclr:=zh4 hclr;subst hclr;cases h
   ·
    split at h
    .cases h
    .rename_i hc;obtain⟨m1,h1,rfl⟩:=ya2.mp h;exact s_exp (GE.e C h1) (KW (yb2.mpr hc))
 .split at h
  .exact zkl C h
  .cases h
 .rename_i c a b pos;split at h
  .rename_i hok;split at h
   .rename_i mc u w h1 h2 h3;cases h;exact UN (zih (GE.t C hok h1)) (G.ss C h2) (G.ss C h3)
   .cases h
  .cases h
 .split at h
  .cases h
  rename_i hnr;split at h
  .split at h
   .rename_i mi b u h1 h2 h3;cases h;exact s_for (C.po (yb2.mpr hnr)) C.calm (GE.i C h1) (RQ C h2) (G.ss C h3) (Q7 (RP h1))
   .cases h
  .cases h
 .cases h
 ·
  split at h
  .rename_i c p e es cpos hr;obtain⟨rfl,rfl⟩:=zfu hr;split at h
   .rename_i hc;simp only[ya3,ybp]at hc;obtain⟨ms,h1,rfl⟩:=ya2.mp h;exact s_rse C hc.1.1.1 (yat.mp hc.1.1.2) hc.1.2 hc.2 (GE.a C h1) (GU h1)
   .cases h
  .cases h
 .rename_i body hs els As pos;split at h
  .rename_i t x b0 suite hpos;split at h
   .rename_i W np hW;have hW:=CV hW;subst hW;split at h
    .rename_i hc;simp only[ya3,ybp]at hc;obtain⟨⟨⟨⟨⟨c1,c2⟩,c3⟩,c4⟩,c5⟩,c6⟩:=hc;split at h
     .rename_i i cs u hh h1 h2 h3 h4;cases h;obtain⟨T,hT⟩:=C.gx.xs W cs h2;obtain⟨t1,t2⟩:=C.tr c1;rw[c3];refine s_try (mu:=false) T hT t1 t2 C.nodup (by rw[C.N];exact Eo h1) (by rw[C.nm];exact eq_of_beq c4) (λE' pins xe hp=>?_) (λa=>?_) (C.gl c5) (DY c6).1
      .have C':CxOk { Γ with ox:={ Γ.ox with nr:=true } } (Fe X pins xe) E' ca:=⟨C.N,C.nd,C.nm,C.kd,C.calm,C.room,C.ce,C.bl,hp,λz=>(by cases z),λz=>(by cases z),C.fs,C.ex,C.ms,⟨C.gx.co,C.gx.cl,C.gx.mt,C.gx.nw,C.gx.sf,C.gx.xs,C.gx.sb,C.gx.sv,C.gx.ci,C.gx.x2,C.gx.wd,C.gx.ti⟩,C.tr,C.fr⟩
       have g:=G.ss C' h3;have e:(({ Γ with ox:={ Γ.ox with nr:=true } }:Gm)).mu=false:=c3
       rw[e]at g;exact g
      .have CS:CxS Γ (DS X a) ca:=⟨C.N,C.nd,C.nm,⟨rfl,C.room.dp,C.room.un⟩,C.bl,C.gx⟩;exact zo2 n CS h1 h4
     .cases h
    .cases h
   .cases h
  .cases h
 .cases h
theorem QS(ca:Str->Value):∀n,GoodS ca n
 |0=>⟨(λC h=>by cases h),(λC h=>by cases h)⟩
 |n+1=>by
  have G:=QS ca n;refine⟨λC h=>dS_ok G C h,λ{Γ X E st m} C h=>?_⟩
  unfold Ad at h;cases st with
  |nil=>cases h;exact Nc
  |cons s r =>
   cases r with
   |nil =>
    simp only at h;split at h
    .rename_i m1 h1;cases h;exact UL (Nn (Ih (G.s C h1)) _)
    .split at h
     .cases h;exact Ih UM
     .cases h
   |cons s2 r =>
    simp only at h;split at h
    .rename_i m1 ms h1 h2;cases h;exact UL (Nn (Ij (G.s C h1) (G.ss C h2)) _)
    .rename_i ms h1 h2;split at h
     .cases h;exact Ij UM (G.ss C h2)
     .cases h
    .cases h
noncomputable def OT(n:Nat)(u:AH)(ts:List T):Option Ru:=match u (ts.map some++List.replicate (n - ts.length) none) with
 |some (.rt t)=>some (.ok t)
 |some (.nx _)=>some (.ok .non)
 |some (.xc c _)=>some (.exc c)
 |_=>none
def Al(k n:Nat)(u:AH)(ts:List T):Option Ru:=if ts.length=k then OT n u ts else none
variable {F F' H':Hp}{R:Nat->Rg}
theorem NT{O':Rg}(hR:∀i a,¬ R i a)(s:Stp F H (tot R) F' H' O'):Ext F H F' H' O' where
 hh:=λb u e=>s.kp b u (λ⟨i,z⟩=>hR i b z) e
 ff:=s.ff
 fh:=s.fh
 nb:=λb z=>(s.nw b z).elim (λ⟨i,w⟩=>absurd w (hR i b)) id
 nf:=λb u e=>(s.nf b u e).elim .inl λz=>z.elim (λ⟨i,w⟩=>absurd w (hR i b)) .inr
variable {ts:List T}{vs:List V}
theorem zfl{K:kA}(fh:AZ F H)(r:A9 K F ts vs):StR K F H (start N vs) (ts.map some++List.replicate (N.length - ts.length) none) (λ_=>R0):=by
 have hl:=r.1;refine⟨fh,by simp[L2.start,hl],λi t e=>?_,λ_ _ z=>z.elim,λ_ _ _ _ z=>z.elim⟩
 unfold L2.start
 by_cases hi:i<ts.length
 .rw[yb0 (by simpa using hi),ya5]at e
  obtain⟨t',e1,e2⟩:=ya2.mp e;cases e2;have hv:i<vs.length:=by omega
  refine⟨vs[i],?_,(r.2 i t vs[i] e1 (ya0 hv)).any⟩;rw[yb0 (by simpa using hv),ya5,ya0 hv]
  rfl
 .rw[yb5 (by simp;omega)]at e
  obtain⟨h1,h2⟩:=ya4.mp e;simp at h2
variable {ps:List Str}{u:AH}
theorem UQ{K:kA}{E:XK}(h:BJ K ca (Al ps.length N.length u) vs H Q E):tS K (λ_=>E) ca false u { nx:=λ_ H'=>Q .non H',rt:=Q } (start N vs) H:=by
 obtain⟨F',ts,fh,r,q⟩:=h;refine⟨F',_,_,zfl fh r,?_⟩;unfold Al at q
 by_cases hl:ts.length=ps.length
 .simp only[hl,yet]at q;unfold OT at q;cases ho:u (ts.map some++List.replicate (N.length - ts.length) none) with
  |none=>simp only[ho]at q<;>exact False.elim q
  |some o =>
   simp only[ho]at q;cases o with
   |nx τ=>exact λF1 H1 σ1 R1 s1 S1=>q F1 H1 .non R0 ((NT (λ_ _ z=>z) s1).mono λ_ z=>z.elim) .non
   |rt t=>exact λF1 H1 x B s1 r1=>q F1 H1 x B (NT (λ_ _ z=>z) s1) r1
   |bk τ=>exact q.elim
   |ct τ=>exact q.elim
   |xc c τ=>exact λF1 H1 σ1 R1 s1 S1=>q F1 H1 ((NT (λ_ _ z=>z) s1).mono λ_ z=>z.elim)
 .simp only[hl,yeu]at q<;>exact False.elim q
variable {mg:Str->Option Value}{base:Heap}{qual:Str}{fd:FuncData}
theorem GP{K:kA}{st:Stmt}{f:Addr}{k:Nat}(F:FunD K x qual st f fd)(S:FnScope N ps (AL st))(hΓ:Γ.N=N)(hnm:Γ.nm=(AL st).names)(hce:∀x∈Γ.ce,Γ.nm.lookup x=some .cell)(hlv:Γ.lv=k)(hbl:∀b∈Γ.bl,mg b=none)(hfs:∀f F,Γ.fns.lookup f=some F->F.lv<=k/\Nonempty (DefX P w K mg base F.lv f F.ps (BJ K ca F.g)))(hex:∀c∈Γ.ex,∃T:ECls K mg c,ca c=.ref T.C)(hms:∀f F,Γ.mus.lookup f=some F->F.lv<=k/\Nonempty (DefX P w K mg base F.lv f F.ps (Ie K ca F.g)))(hmu:Γ.mu=false)(hgx:GxOk Γ.ox k P w K mg base ca)(hu:Ad n Γ (Ab st)=some u):FnOk P w K mg base (Bn P w) (k+1) f fd ps (BJ K ca (Al ps.length N.length u)):=by
 refine VS F S (λvs H Q E h=>?_) λcdv A outer s H vs Q E hr h=>?_
 .obtain⟨F',ts,_,r,q⟩:=h;unfold Al at q
  by_cases hl:ts.length=ps.length
  .rw[<- r.1,hl]
  .simp only[hl,yeu]at q<;>exact False.elim q
 .have C:CxOk Γ (ED (Bn P w) P w K mg base N qual (AL st) f cdv A outer s H E) (λ_=>E) ca:=by
   refine⟨hΓ.symm,by rw[hΓ];exact S.nd,hnm.symm,S.kind,rfl,by rw[hlv];exact hr,λy hy=>⟨rfl,hce y hy⟩,hbl,VJ,λ_=>PassesOwn.leaving,λ_=>W8,λf F e=>by rw[hlv];exact hfs f F e,hex,λf F e=>by rw[hlv];exact hms f F e,by rw[hlv];exact hgx,λ_=>⟨rfl,rfl⟩,⟨_,_,rfl,rfl⟩⟩
  have G:=(QS ca n).ss C hu;rw[hmu]at G;refine⟨_,G,?_⟩;exact UQ h
variable {A:Rg}
theorem ze0{K:kA}{t0:T}{x0:V}(fh:AZ F H)(r0:Rp K F H t0 x0 A)(r:A9 K F ts vs):StR K F H (start N (x0::vs)) ((t0::ts).map some++List.replicate (N.length - (t0::ts).length) none) (λi=>if i=0 then A else R0):=by
 have hl:=r.1;refine⟨fh,by simp[L2.start,hl],λi t e=>?_,λi a z=>?_,λi j a hij z1 z2=>?_⟩
 .unfold L2.start
  by_cases hi:i<(t0::ts).length
  .rw[yb0 (by simpa using hi),ya5]at e
   obtain⟨t',e1,e2⟩:=ya2.mp e;cases e2;cases i with
   |zero =>
    cases e1;exact⟨x0,by simp,r0⟩
   |succ i =>
    have hi':i<ts.length:=by simpa using hi
    have hv:i<vs.length:=by omega
    refine⟨vs[i],?_,(r.2 i t vs[i] (by simpa using e1) (ya0 hv)).any⟩
    rw[yb0 (by simpa using hv),ya5,ycj,ya0 hv]
    rfl
  .rw[yb5 (by simp at hi ⊢;omega)]at e
   obtain⟨h1,h2⟩:=ya4.mp e;simp at h2
 .by_cases hi:i=0
  .subst hi;exact⟨t0,rfl⟩
  .simp only[hi,yeu]at z;exact z.elim
 .by_cases hi:i=0
  .have hj:¬ j=0:=λz=>hij (hi.trans z.symm)
   simp only[hj,yeu]at z2;exact z2
  .simp only[hi,yeu]at z1;exact z1
theorem zhs:tot (λi=>if i=0 then A else R0)=A:=funext λa=>propext ⟨λ⟨i,z⟩=>by
 by_cases hi:i=0
 .simp only[hi,yet]at z;exact z
 .simp only[hi,yeu]at z;exact z.elim,λz=>⟨0,by simpa using z⟩⟩
variable {α:Type}
theorem AM{P:α->Prop}:∀x∈([]:List α),P x:=λ_ h=>by cases h
theorem AJ{P:α->Prop}{a:α}{l:List α}(h:P a)(r:∀x∈l,P x):∀x∈a::l,P x:=λx hx=>by
 obtain rfl|hx:=ya6.mp hx
 .exact h
 .exact r x hx
theorem Ia{P:List Value->Prop}(h:P []):∀us:List Value,us.length=0->P us:=λus e=>by
 cases us with
 |nil=>exact h
 |cons a r=>cases e
theorem DH{P:List Value->Prop}{k:Nat}(h:∀a us,us.length=k->P (a::us)):∀us:List Value,us.length=k+1->P us:=λus e=>by
 cases us with
 |nil=>cases e
 |cons a r=>exact h a r (Nat.succ.inj e)
theorem Bj{P:List Value->Prop}(h:∀a,P [a]):∀us:List Value,us.length=1->P us:=DH λa=>Ia (h a)
theorem EJ{P:List Value->Prop}(h:∀a b,P [a,b]):∀us:List Value,us.length=2->P us:=DH λa=>DH λb=>Ia (h a b)
theorem FC{P:List Value->Prop}(h:∀a b c,P [a,b,c]):∀us:List Value,us.length=3->P us:=DH λa=>DH λb=>DH λc=>Ia (h a b c)
theorem us4{P:List Value->Prop}(h:∀a b c d,P [a,b,c,d]):∀us:List Value,us.length=4->P us:=DH λa=>DH λb=>DH λc=>DH λd=>Ia (h a b c d)
theorem Sy{P:List Value->Prop}(h:∀a b c d e,P [a,b,c,d,e]):∀us:List Value,us.length=5->P us:=DH λa=>DH λb=>DH λc=>DH λd=>DH λe=>Ia (h a b c d e)
section
variable {K:kA}{k:Nat}
theorem Av:∀f F,([]:List (Str×Fn)).lookup f=some F->F.lv<=k/\Nonempty (DefX P w K mg base F.lv f F.ps (BJ K ca F.g)):=λ_ _ h=>by cases h
theorem A7{F0:Fn}{l:List (Str×Fn)}(hk:F0.lv<=k)(D:DefX P w K mg base F0.lv x F0.ps (BJ K ca F0.g))(r:∀f F,l.lookup f=some F->F.lv<=k/\Nonempty (DefX P w K mg base F.lv f F.ps (BJ K ca F.g))) :
  ∀f F,((x,F0)::l).lookup f=some F->F.lv<=k/\Nonempty (DefX P w K mg base F.lv f F.ps (BJ K ca F.g)):=λf F h=>by
 rw[yb3]at h;cases hf:f == x with
 |true =>
  rw[hf]at h;cases h;rw[eq_of_beq hf];exact⟨hk,⟨D⟩⟩
 |false=>rw[hf]at h;exact r f F h
theorem Ej:∀f F,([]:List (Str×Fn)).lookup f=some F->F.lv<=k/\Nonempty (DefX P w K mg base F.lv f F.ps (Ie K ca F.g)):=λ_ _ h=>by cases h
def K3(K:kA):Sp:=λvs H Q _=>∃(a:Addr) (ns:List Int),vs=[.ref a]/\AY K H a (ns.map V.int)/\ns.length<=63/\∀H',Q (.bl true) H'
def Cw(ns:List Int):T:=.nd false .rl (ns.map T.int)
theorem UU{F:Hp}:∀ns:List Int,A9 K F (ns.map T.int) (ns.map V.int)
 |[]=>.nil
 |n::r=>.cons (H:=F) (.int n) (UU r)
theorem znd{R:List T->Option Ru}{f:Addr}(F:FnOk P w K mg base (Bn P w) k f fd ["_law_script"] (BJ K ca R))(h:∀ns:List Int,ns.length<=63->R [Cw ns]=some (.ok (.bl true))):FnOk P w K mg base HU k f fd ["_law_script"] (K3 K):=by
 refine⟨λvs H Q E hs=>?_,λA outer s H args us vs Q E hr e0 hb hv hs=>?_⟩
 .obtain⟨a,ns,rfl,_⟩:=hs
  rfl
 .obtain⟨a,ns,rfl,hq,h63,q⟩:=hs;refine yex (F.run A outer s H args us _ Q E0 hr e0 hb hv ⟨H,[Cw ns],.refl _,.cons (H:=H) (A9.of_node (k:=.rl) hq (UU ns)) .nil,?_⟩) λr s' hx=>?_
  .rw[h ns h63];intro F' H' z C e r;rw[r.bl_inv];exact q H'
  .cases r with
   |error v =>
    obtain⟨_,_,_,_,_,_,_,_,_,_,_,_,z⟩:=hx;exact z.elim
   |ok fl=>cases fl<;>exact hx
end
structure CxB(Γ:Gm)(X:Cx)(ca:Str->Value):Prop extends CxS Γ X ca where
 fr:GZ X
 hx:∀pins σ H s scope cl N' C ex xb,Inv X pins σ H s->HX (Af X scope cl N' C s H ex xb)
 ps:BO X E5
def MH:Expr->Option (Str×Str×Scope)
 |.ListComp e gs sc _=>(match gs with
  |[]=>none
  |g::r=>(match g.ifs with
   |[]=>none
   |c::cs=>(CH e).bind λa=>(CH g.target).bind λb=>(CH g.iter).bind λy=>(CH c).bind λd=>if (r.isEmpty && cs.isEmpty)=true/\b.1=a.1/\d.1=a.1/\g.is_async=0 then some (a.1,y.1,sc) else none))
 |_=>none
theorem Yt{o:Str}(h:MH e=some (o,y,sc)):∃p1 p2 p3 p4 pc,e=.ListComp (.Name o p1) [⟨.Name o p2,.Name y p3,[.Name o p4],0⟩] sc pc:=by
 cases e with
 |ListComp e gs sc' pc =>
  cases gs with
  |nil=>cases h
  |cons g r =>
   obtain⟨t,it,ifs,k⟩:=g;cases ifs with
   |nil=>cases h
   |cons c cs =>
    obtain⟨⟨o1,p1⟩,h1,k1⟩:=yaf.mp (show _=some (o,y,sc) from h);obtain⟨⟨o2,p2⟩,h2,k2⟩:=yaf.mp k1;obtain⟨⟨y',p3⟩,h3,k3⟩:=yaf.mp k2;obtain⟨⟨o4,p4⟩,h4,k4⟩:=yaf.mp k3;split at k4
    .rename_i hc;cases k4;obtain⟨e1,e2,e3,e4⟩:=hc;rw[ya3,yci,yci]at e1;exact⟨p1,p2,p3,p4,pc,by rw[CV h1,show t=.Name o2 p2 from CV h2,show it=.Name y' p3 from CV h3,CV h4,e1.1,e1.2,show o2=o1 from e2,show o4=o1 from e3,show k=0 from e4]⟩
    .cases k4
 |_=>cases h
def RT(o:Str)(sc:Scope):Bool:=(sc.kind == .function) && CU o && (sc.names.lookup o == some .local) && sc.names.all (λx=>!(x.2 == .free)) && sc.names.all (λx=>!(x.2 == .local) || sc.names.lookup x.1 == some .local)
theorem r_cnt{o:Str}(C:CxB Γ X ca)(h:MH e=some (o,y,sc))(ok:RT o sc=true)(hi:Γ.var y=some i):PE X e (tM X.K E5 ca (BX 1 [] (GL (AA i)) (AG 0) (AA 0) (AA 0))):=by
 obtain⟨p1,p2,p3,p4,pc,rfl⟩:=Yt h;unfold RT at ok;simp only[ya3]at ok;obtain⟨⟨⟨⟨k1,k2⟩,k3⟩,k4⟩,k5⟩:=ok;obtain⟨p1',p2',p3'⟩:=DY k2
 have nf:∀z∈sc.names,z.2≠.free:=λz hz w=>by
  have q:=yaj.mp k4 z hz;rw[w]at q;cases q
 have lo:∀(env:Env),(relabel sc env).names.lookup o=some .local:=λenv=>by
  rw[Kp,eq_of_beq k3]
  rfl
 have B:BlkOk X sc [o] 1 []:=⟨eq_of_beq k1,λz hz hl=>by
  have q:=yaj.mp k5 z hz;simp only[hl,yf8,ydm,ydl,yf2]at q;exact q,rfl,λk j w=>by simp at w,λz hz w=>absurd w (nf z hz)⟩
 obtain⟨v1,v2,v3,v4⟩:=C.toCxS.var hi;have vn:∀cl A s₀ H₀ ex xb E' (p:Pos),PE (Af X sc cl [o] A s₀ H₀ ex xb) (.Name o p) (tM X.K E' ca (AA 0)):=λcl A s₀ H₀ ex xb E' p=>Gg (X:=Af X sc cl [o] A s₀ H₀ ex xb) rfl (.inl (lo _)) p1' p2'
 exact Ue B (cq:=HX) (λpins σ H s cl D ex xb I=>C.hx _ _ _ _ _ _ _ _ _ _ I) (zly (Gg v1 v2 v3 v4)) C.ps C.fr
  (λcl A s₀ H₀ ex xb E' _=>λpins s σ H v u Q I r h=>VB (X:=Af X sc cl [o] A s₀ H₀ ex xb) (show [o].Nodup by simp) rfl (.inl (lo _)) (.inr (lo _)) pins s σ H v u Q I r (Lj h))
  (λcl A s₀ H₀ ex xb E' _=>Uu (Kq (vn cl A s₀ H₀ ex xb E' _) λ_=>rfl)) (λcl A s₀ H₀ ex xb E' _=>vn cl A s₀ H₀ ex xb E' _) (λ_=>rfl)
theorem zh2{r:Str×Str×Scope}(h:MH e=some r):CN e=true:=by
 obtain⟨p1,p2,p3,p4,pc,rfl⟩:=Yt (o:=r.1) (y:=r.2.1) (sc:=r.2.2) h
 rfl
def VL:Expr->Option (Expr×Expr)
 |.BoolOp op vs _=>(match op with
  |.Or=>(match vs with
   |[]=>none
   |a::r=>(match r with
    |[]=>none
    |b::s=>if s.isEmpty then some (a,b) else none))
  |.And=>none)
 |_=>none
theorem zmq{b:Expr}(h:VL e=some (a,b)):∃p,e=.BoolOp .Or [a,b] p:=by
 cases e with
 |BoolOp op vs p =>
  cases op with
  |And=>cases h
  |Or =>
   cases vs with
   |nil=>cases h
   |cons a' r =>
    cases r with
    |nil=>cases h
    |cons b' s =>
     cases s with
     |cons _ _=>cases h
     |nil=>cases h;exact⟨p,rfl⟩
 |_=>cases h
def WQ:Expr->Option Expr
 |.UnaryOp op a _=>(match op with
  |.Not=>some a
  |_=>none)
 |_=>none
theorem zjf(h:WQ e=some a):∃p,e=.UnaryOp .Not a p:=by
 cases e with
 |UnaryOp op b p =>
  cases op with
  |Not=>cases h;exact⟨p,rfl⟩
  |_=>cases h
 |_=>cases h
noncomputable def WW:Expr->Option (Expr×Expr)
 |.Compare a ops bs _=>(match ops with
  |[]=>none
  |op::r=>(match op with
   |.NotEq=>(match bs with
    |[]=>none
    |b::s=>if r.isEmpty && s.isEmpty then some (a,b) else none)
   |_=>none))
 |_=>none
theorem zn5{b:Expr}(h:WW e=some (a,b)):∃p,e=.Compare a [.NotEq] [b] p:=by
 cases e with
 |Compare a' ops bs p =>
  cases ops with
  |nil=>cases h
  |cons op r =>
   cases op with
   |NotEq =>
    cases bs with
    |nil=>cases h
    |cons b' s =>
     cases r with
     |cons _ _=>cases h
     |nil =>
      cases s with
      |cons _ _=>cases h
      |nil=>cases h;exact⟨p,rfl⟩
   |_=>cases h
 |_=>cases h
def XH:Expr->Option Int
 |.Constant c _ _=>(match c with
  |.int k=>some k
  |_=>none)
 |_=>none
theorem zk7{k:Int}(h:XH e=some k):∃p q,e=.Constant (.int k) p q:=by
 cases e with
 |Constant c p q =>
  cases c with
  |int k'=>cases h;exact⟨p,q,rfl⟩
  |_=>cases h
 |_=>cases h
def Yd(n:Nat)(Γ:Gm)(e:Expr):Option (AF) :=
 (VL e).bind λv=>(WQ v.1).bind λa=>(WW v.2).bind λc=>(R8 c.1).bind λf=>(XH c.2).bind λk=>(CH f.1).bind λg=>(MH f.2).bind λq=>(Ld a).bind λ_=>(dX n Γ a).bind λma =>
  if decide (g.1="len") && Bz Γ.nm g.1 && Γ.bl.contains g.1 && RT q.1 q.2.2 then (Γ.var q.2.1).map λi=>CI (BU ma) (BA (g2 Ci) (AB (BA (g1 Bu) (AB (BX 1 [] (GL (AA i)) (AG 0) (AA 0) (AA 0)) AD)) (AB (mC (.int k)) AD))) else none
theorem zo0(C:CxB Γ X ca)(h:Yd n Γ e=some m):PT X e (Az X.K E5 ca m):=by
 obtain⟨⟨v1,v2⟩,h1,k1⟩:=yaf.mp h;obtain⟨a,h2,k2⟩:=yaf.mp k1;obtain⟨⟨c1,c2⟩,h3,k3⟩:=yaf.mp k2;obtain⟨⟨f,l⟩,h4,k4⟩:=yaf.mp k3;obtain⟨k,h5,k5⟩:=yaf.mp k4;obtain⟨⟨g,pg⟩,h6,k6⟩:=yaf.mp k5;obtain⟨⟨o,y,sc⟩,h2',k7⟩:=yaf.mp k6;obtain⟨⟨ia,id,ip,iq,ic⟩,h3',k8⟩:=yaf.mp k7;obtain⟨ma,h4',k9⟩:=yaf.mp k8;obtain⟨p1,rfl⟩:=zmq h1;obtain⟨p2,e2⟩:=zjf h2;obtain rfl:v1=.UnaryOp .Not a p2:=e2;obtain⟨p3,e3⟩:=zn5 h3;obtain rfl:v2=.Compare c1 [.NotEq] [c2] p3:=e3;obtain⟨p4,e4⟩:=ZC h4;obtain rfl:c1=.Call f [l] [] p4:=e4;obtain⟨p5,p6,e5⟩:=zk7 h5;obtain rfl:c2=.Constant (.int k) p5 p6:=e5;obtain rfl:f=.Name g pg:=CV h6
 clear h h1 h2 h3 h4 h5 h6 k1 k2 k3 k4 k5 k6 k7 k8
 split at k9
 .rename_i hc;simp only[ya3,yf6]at hc;obtain⟨⟨⟨e6,c2⟩,c3⟩,c4⟩:=hc;obtain rfl:g="len":=e6;obtain⟨i,hi,rfl⟩:=ya2.mp k9;have ha:=(GS (E:=E5) n).1 C.toCxS h4';have hl:=XC h3';have hs:=zh2 h2';refine(U7 (U9 (Kq ha ?_)) (U8 (Ua (Oe C.rm.units) (Hh ZD (C.gl c2) (C.bl _ (yat.mp c3)) boot_len (O0 (r_cnt C h2' c4 hi) OZ (Bw hs)) (by decide) (by decide) (Bw hs) rfl) (Hg VF λ_ _=>.int _) rfl))).pt
  rw[hl];exact λ_=>rfl
 .cases k9
theorem zgy(c d:Bool):MeetsSeq.EqGives (.bool c) (.bool d) (c == d):=by
 intro prog w A E s Q h;unfold eqBool;show wpAny _ _ (if (Value.bool c == Value.bool d)=true then _ else _) Q E s
 by_cases hab:(Value.bool c == Value.bool d)=true
 .rw[if_pos hab];have e:c=d:=by have:=eq_of_beq hab;injection this
  subst e;exact yek (wpAny_rule (yen (by simpa using h)))
 .rw[if_neg hab];exact yek (eq_bool (yei h))
def zib:V->List V->Hp->VK->Prop:=λx vs H Q=>∃(l:Addr) (ys:List Bool) (y:Bool) (j:Nat),x=.ref l/\vs=[.bl y]/\H l=some (.lst (ys.map V.bl))/\ys.findIdx? (· == y)=some j/\ys.length<1000000/\Q (.int j) H
variable {mk:AF}{apos:Pos}{b:Bool}
section
variable {k:Expr}
theorem zef:Jl X "list.index" zib:=by
 intro pins s σ H x vs v us Q I rx rv h;obtain⟨l,ys,y,j,rfl,rfl,hH,hj,hz,q⟩:=h;cases rx;obtain⟨u,rfl,ru⟩:=rv.one;obtain⟨z,its,n,r,hl,e⟩:=I.lstM hH;cases (show u=Value.bool y from ru);obtain⟨hj1,hj2,hj3⟩:=ybg.mp hj;rw[ya1]at hl
 have at_:∀(i:Nat) (hi:i<its.toArray.size),∃(hi':i<ys.length),its.toArray[i]=Value.bool ys[i]:=λi hi=>by
  have hi0:i<its.length:=by simpa using hi
  have hi':i<ys.length:=by omega
  have hx:(ys.map V.bl)[i]?=some (.bl ys[i]):=by rw[ya5,ya0 hi'];rfl
  obtain⟨u,e2,ru⟩:=r.get hx;have eu:u=Value.bool ys[i]:=ru;subst eu;rw[ya0 hi0]at e2;exact⟨hi',by simpa using e2⟩
 let ev:Value->Bool:=λv=>match v with
  |.bool x=>x == y
  |_=>false
 have evs:∀(x:Bool),ev (.bool x)=(x == y):=λ_=>rfl
 have hjs:j<its.toArray.size:=by rw[yak];omega
 refine yev F.slot_list_index ⟨_,e,rfl⟩ F.entry_list_index (F.args_list_index_2 _ _) (MeetsSeq.list_index l its.toArray n (.bool y) ev (λy' hy'=>?_) j hjs (by omega) ?_ λm hm hmj=>?_) ⟨e,.int j,H,I.tok _,⟨_,rfl⟩,q⟩
 .obtain⟨i,hi,rfl⟩:=Array.mem_iff_getElem.mp hy';obtain⟨hi',e1⟩:=at_ i hi;rw[e1,evs];exact zgy _ _
 .obtain⟨hi',e1⟩:=at_ j hjs;rw[e1,evs];exact hj2
 .obtain⟨hi',e1⟩:=at_ m hm;rw[e1,evs,yb2];exact hj3 m hmj
noncomputable def IJ:List T->Option (List Bool)
 |[]=>some []
 |.bl x::r=>(match IJ r with
  |some l=>some (x::l)
  |none=>none)
 |_::_=>none
theorem ZJ{K:kA}{F:Hp}:∀{l:List T} {ys:List Bool} {xs:List V},IJ l=some ys->A9 K F l xs->xs=ys.map V.bl
 |[],ys,xs,h,r=>by
  cases h;exact r.inv0
 |t::l,ys,xs,h,r=>by
  obtain⟨x,xs',rfl,r1,r2⟩:=r.inv;unfold IJ at h;split at h
  .rename_i e;cases e
  .rename_i e;cases e;split at h
   .rename_i hl;cases h;rw[r1.bl_inv,ZJ hl r2]
    rfl
   .cases h
  .cases h
def Gw(m:AF)(b:Bool):AF:=λτ=>match m τ with
 |some (.v (.nd false .lst l) false)=>(match IJ l with
  |some ys=>(match ys.findIdx? (· == b) with
   |some j=>if ys.length<1000000 then some (.v (.int j) false) else none
   |none=>none)
  |none=>none)
 |_=>none
theorem zdm{r:Rs}(h:Gw m b τ=some r):∃l ys j,m τ=some (.v (.nd false .lst l) false)/\IJ l=some ys/\ys.findIdx? (· == b)=some j/\ys.length<1000000/\r=.v (.int j) false:=by
 unfold Gw at h;split at h
 .rename_i l hm;split at h
  .rename_i ys hy;split at h
   .rename_i j hj;split at h
    .rename_i hz;exact⟨l,ys,j,hm,hy,hj,hz,(yau h).symm⟩
    .cases h
   .cases h
  .cases h
 .cases h
theorem zg1{kc p2}(ho:PE X o (tM X.K E ca m))(hbase:attributeBase o "index" X.env (eval o X.env)=eval o X.env)(hline:(apos.endLine == cpos.line)=true) :
  PE X (.Call (.Attribute o "index" apos) [.Constant (.bool b) kc p2] [] cpos) (tM X.K E ca (Gw m b)):=by
 refine PE.weak (Iz yda PySem.F.slot_list_index PySem.F.type_list_index zef ho (Cf (VI (b:=b)) DZ rfl) hbase rfl hline rfl rfl) λσ H Q h=>?_
 obtain⟨F,τ,R,S,q⟩:=h;refine⟨F,τ,R,S,?_⟩;cases hr:Gw m b τ with
 |none=>simp only[hr]at q<;>exact False.elim q
 |some r =>
  obtain⟨l,ys,j,hm,hy,hj,hz,rfl⟩:=zdm hr;simp only[hr]at q;rw[hm];intro F1 H1 x B e1 g1;have g1':Rp X.K F1 H1 (.nd false .lst l) x B:=g1;obtain⟨p,rfl⟩:=g1'.ref_inv;obtain⟨xs,hN,hr2⟩:=A9.node g1';have hF:F1 p=some (.lst xs):=hN;have hxs:=ZJ hy hr2;refine⟨.inl ⟨rfl,xs,AY.of (e1.fh _ _ hF)⟩,?_⟩;exact⟨p,ys,b,j,rfl,rfl,by rw[<- hxs];exact e1.fh _ _ hF,hj,hz,q F1 H1 _ R0 (e1.mono λ_ z=>z.elim) (.int _)⟩
end
def ZH:Expr->Option Bool
 |.Constant c _ _=>(match c with
  |.bool b=>some b
  |_=>none)
 |_=>none
theorem zhe{k:Bool}(h:ZH e=some k):∃p q,e=.Constant (.bool k) p q:=by
 cases e with
 |Constant c p q =>
  cases c with
  |bool k'=>cases h;exact⟨p,q,rfl⟩
  |_=>cases h
 |_=>cases h
noncomputable def W6:Expr->Option (Expr×Str×Pos×Expr×Pos)
 |.Call f es ks cp=>(match f with
  |.Attribute o a ap=>(match es with
   |[]=>none
   |c::r=>if r.isEmpty && ks.isEmpty then some (o,a,ap,c,cp) else none)
  |_=>none)
 |_=>none
variable {c:Expr}
theorem zjm{a:Str}{cp:Pos}(h:W6 e=some (o,a,ap,c,cp)):e=.Call (.Attribute o a ap) [c] [] cp:=by
 cases e with
 |Call f es ks cp' =>
  cases f with
  |Attribute o' a' ap' =>
   cases es with
   |nil=>cases h
   |cons c' r =>
    cases r with
    |cons _ _=>cases h
    |nil =>
     cases ks with
     |cons _ _=>cases h
     |nil=>cases h;rfl
  |_=>cases h
 |_=>cases h
def Tn:Expr->Option (Expr×Expr)
 |.Subscript a k _=>some (a,k)
 |_=>none
theorem zhx{k:Expr}(h:Tn e=some (a,k)):∃p,e=.Subscript a k p:=by
 cases e with
 |Subscript a' k' p=>cases h;exact⟨p,rfl⟩
 |_=>cases h
def MB(n:Nat)(Γ:Gm)(e:Expr):Option (AF) :=
 match (Tn e).bind λs=>(W6 s.2).bind λq=>(ZH q.2.2.2.1).map λb=>(s.1,q,b) with
 |some z=>(CH z.2.1.1).bind λy=>(dX n Γ z.1).bind λma=>if decide (z.2.1.2.1="index") && (z.2.1.2.2.1.endLine == z.2.1.2.2.2.2.line) then (Γ.var y.1).map λi=>B8 ma (Gw (AA i) z.2.2) else none
 |none=>dX n Γ e
theorem zo1(C:CxB Γ X ca)(h:MB n Γ e=some m):PE X e (tM X.K E5 ca m):=by
 unfold MB at h;split at h
 .rename_i z hz;obtain⟨⟨a,s⟩,h1,k1⟩:=yaf.mp hz;obtain⟨⟨o,at',ap,c,cp⟩,h2,k2⟩:=yaf.mp k1;obtain⟨b,h3,rfl⟩:=ya2.mp k2;obtain⟨p1,rfl⟩:=zhx h1;obtain rfl:s=.Call (.Attribute o at' ap) [c] [] cp:=zjm h2;obtain⟨p2,p3,e3⟩:=zhe h3;obtain rfl:c=.Constant (.bool b) p2 p3:=e3
  clear h1 h2 h3 k1 k2 hz
  obtain⟨⟨y,py⟩,h4,k3⟩:=yaf.mp h;obtain⟨ma,h5,k4⟩:=yaf.mp k3;obtain rfl:o=.Name y py:=CV h4
  clear h h4 k3
  split at k4
  .rename_i hc;simp only[ya3,yf6]at hc;obtain⟨e6,c2⟩:=hc;obtain rfl:at'="index":=e6;obtain⟨i,hi,rfl⟩:=ya2.mp k4;obtain⟨v1,v2,v3,v4⟩:=C.toCxS.var hi;exact Ug ((GS n).1 C.toCxS h5) (zg1 (Gg v1 v2 v3 v4) rfl c2) (O8 rfl)
  .cases k4
 .exact(GS n).1 C.toCxS h
def XO:Stmt->Option (Expr×Expr)
 |.If c a b _=>(match a with
  |[]=>none
  |s::r=>if r.isEmpty && b.isEmpty then (Gf s).map λe=>(c,e) else none)
 |_=>none
theorem znt{s:Stmt}(h:XO s=some (c,e)):∃q p,s=.If c [.Return (some e) q] [] p:=by
 cases s with
 |If c' a b p =>
  cases a with
  |nil=>cases h
  |cons s r =>
   cases r with
   |cons _ _=>cases h
   |nil =>
    cases b with
    |cons _ _=>cases h
    |nil =>
     obtain⟨e',h1,h2⟩:=ya2.mp (show(Gf s).map (λe=>(c',e))=some (c,e) from h)
     cases h2;obtain⟨q,rfl⟩:=OX h1;exact⟨q,p,rfl⟩
 |_=>cases h
def IF:Nat->Gm->List Stmt->Option (AH)
 |0,_,_=>none
 |n+1,Γ,ss=>match ss with
  |[]=>none
  |s::r=>(match Gf s with
   |some e=>if r.isEmpty then (MB n Γ e).map AX else none
   |none=>(match J6 s with
    |some q=>if Γ.loc q.1 && (Γ.nm.lookup q.1 == some .local) && Ol q.2 then (C4 Γ.N q.1).bind λi=>(dX n Γ q.2).bind λm=>(IF n Γ r).map λms=>AI (Au m (AG i)) ms else none
    |none=>(XO s).bind λq=>(Yd n Γ q.1).bind λmc=>(dX n Γ q.2).bind λme=>(IF n Γ r).map λms=>AI (Ai mc (AX me) Ah) ms))
theorem RN{ca:Str->Value}:∀n:Nat,∀{Γ:Gm} {X:Cx} {ss:List Stmt} {m:AH},CxB Γ X ca->IF n Γ ss=some m->BE X ss (tS X.K E5 ca false m)
 |0,Γ,X,ss,m,C,h=>by cases h
 |n+1,Γ,X,[],m,C,h=>by cases h
 |n+1,Γ,X,s::r,m,C,h=>by
  unfold IF at h;cases h1:Gf s with
  |some e =>
   simp only[h1]at h;obtain⟨p,rfl⟩:=OX h1;cases r with
   |cons _ _=>cases h
   |nil =>
    obtain⟨m1,h1,rfl⟩:=ya2.mp (show(MB n Γ e).map AX=some m from h);exact Ih (K8 (zo1 C h1))
  |none =>
   cases h2:J6 s with
   |some q =>
    simp only[h1,h2]at h;obtain⟨x,e⟩:=q;obtain⟨px,pa,rfl⟩:=SI h2
    clear h1 h2
    split at h
    .rename_i hc;simp only[ya3]at hc;obtain⟨i,h3,k2⟩:=yaf.mp h;obtain⟨m1,h4,k3⟩:=yaf.mp k2;obtain⟨ms,h5,rfl⟩:=ya2.mp k3;have hl:X.env.scope.names.lookup x=some .local:=by rw[C.nm];exact eq_of_beq hc.1.2
     exact Ij (Na (by rw[C.N];exact C.nd) (by rw[C.N];exact Eo h3) (.inl hl) ((GS n).1 C.toCxS h4) (Tg hc.2) (.inr hl)) (RN n C h5)
    .cases h
   |none =>
    simp only[h1,h2]at h;obtain⟨⟨c,e⟩,h3,k1⟩:=yaf.mp h;obtain⟨mc,h4,k2⟩:=yaf.mp k1;obtain⟨me,h5,k3⟩:=yaf.mp k2;obtain⟨ms,h6,rfl⟩:=ya2.mp k3;obtain⟨q,p,rfl⟩:=znt h3;exact Ij (UN (zo0 C h4) (Ih (K8 ((GS n).1 C.toCxS h5))) Nc) (RN n C h6)
theorem fnB{K:kA}{p:Str}{st:Stmt}{f:Addr}{k:Nat}(F:FunD K x qual st f fd)(S:FnScope N [p] (AL st))(hΓ:Γ.N=N)(hnm:Γ.nm=(AL st).names)(hlv:Γ.lv=k)(hbl:∀b∈Γ.bl,mg b=none)(hgx:GxOk Γ.ox k P w K mg base ca)(hu:IF n Γ (Ab st)=some u):FnS P w K mg base (k+1) f fd p (BJ K ca (Al 1 N.length u)):=by
 refine fnS F S λcdv A outer s H a Q hh hX hr h=>⟨_,RN n (Γ:=Γ) (ca:=ca) ⟨⟨hΓ.symm,by rw[hΓ];exact S.nd,hnm.symm,by rw[hlv];exact hr,hbl,by rw[hlv];exact hgx⟩,⟨_,_,rfl,rfl⟩,λpins σ H' s' scope cl N' C ex xb I=>?_,λ_ _ _ _ _ _ _ h=>?_⟩ hu,UQ (ps:=[p]) h⟩
 .obtain⟨C',hX⟩:=hX;obtain⟨ob,y,r⟩:=hX;exact⟨a,C',hh,ob,I.base.frzs _ _ _ y,r⟩
 .obtain⟨_,_,_,_,_,_,_,_,_,_,_,_,z⟩:=h;exact z.elim
def FL(C:Addr)(fs:List Str)(k n:Nat)(u:AH)(p:Addr)(ts:List T):Option Ru:=if ts.length+1=k then (match u ((T.oob p C fs []::ts).map some++List.replicate (n - (ts.length+1)) none) with
 |some (.nx τ)=>(match FT τ 0 C fs with
  |some (q,l)=>if q=p then some (.ok (.obj (.ins C fs) (Ax l))) else none
  |none=>none)
 |some (.xc c _)=>some (.exc c)
 |_=>none) else none
open Classical in
def FN(C:Addr)(fs:List Str)(k n:Nat)(u:AH)(ts:List T):Option Ru:=if h:∃r,∀p,FL C fs k n u p ts=some r then some h.choose else none
variable {C:Addr}
theorem OS{fs:List Str}{k:Nat}{r:Ru}(h:∀p,FL C fs k n u p ts=some r):FN C fs k n u ts=some r:=by
 have hx:∃r,∀p,FL C fs k n u p ts=some r:=⟨r,h⟩;unfold FN;rw[dif_pos hx];have e:=(hx.choose_spec 0).symm.trans (h 0);exact e
theorem UR{fs:List Str}{k:Nat}{r:Ru}(h:FN C fs k n u ts=some r)(p:Addr):FL C fs k n u p ts=some r:=by
 unfold FN at h;split at h
 .rename_i hx;cases h;exact hx.choose_spec p
 .cases h
theorem YD{K:kA}{st:Stmt}{f:Addr}{k:Nat}{fs:List Str}(F:FunD K x qual st f fd)(S:FnScope N ps (AL st))(hΓ:Γ.N=N)(hnm:Γ.nm=(AL st).names)(hce:∀x∈Γ.ce,Γ.nm.lookup x=some .cell)(hlv:Γ.lv=k)(hbl:∀b∈Γ.bl,mg b=none)(hfs:∀f F,Γ.fns.lookup f=some F->F.lv<=k/\Nonempty (DefX P w K mg base F.lv f F.ps (BJ K ca F.g)))(hex:∀c∈Γ.ex,∃T:ECls K mg c,ca c=.ref T.C)(hms:∀f F,Γ.mus.lookup f=some F->F.lv<=k/\Nonempty (DefX P w K mg base F.lv f F.ps (Ie K ca F.g)))(hmu:Γ.mu=false)(hgx:GxOk Γ.ox k P w K mg base ca)(hu:Ad n Γ (Ab st)=some u):FnOk P w K mg base (Bn P w) (k+1) f fd ps (Fp K ca C (FN C fs ps.length N.length u)):=by
 refine VS F S (λvs H Q E h=>?_) λcdv A outer s H vs Q E hr h=>?_
 .obtain⟨F',p,dx,ts,vs',_,rfl,_,_,r,q⟩:=h;cases hg:FN C fs ps.length N.length u ts with
  |none=>rw[hg]at q;exact q.elim
  |some rr =>
   have h0:=UR hg 0;unfold FL at h0
   by_cases hl:ts.length+1=ps.length
   .rw[yao,<- r.1,hl]
   .rw[if_neg hl]at h0;cases h0
 .have CC:CxOk Γ (ED (Bn P w) P w K mg base N qual (AL st) f cdv A outer s H E) (λ_=>E) ca:=by
   refine⟨hΓ.symm,by rw[hΓ];exact S.nd,hnm.symm,S.kind,rfl,by rw[hlv];exact hr,λy hy=>⟨rfl,hce y hy⟩,hbl,VJ,λ_=>PassesOwn.leaving,λ_=>W8,λf F e=>by rw[hlv];exact hfs f F e,hex,λf F e=>by rw[hlv];exact hms f F e,by rw[hlv];exact hgx,λ_=>⟨rfl,rfl⟩,⟨_,_,rfl,rfl⟩⟩
  have G:=(QS ca n).ss CC hu;rw[hmu]at G;refine⟨_,G,?_⟩;obtain⟨F',p,dx,ts,vs',fh,rfl,fp,hp,r,q⟩:=h;have r0:Rp K F' H (.oob p C fs []) (.ref p) (λa=>a=p\/∃j:Nat,R0 a):=.oob (xs:=[]) (λ_=>R0) fp (by rw[List.zip_nil_right];exact hp) rfl (λi t x h=>by simp at h) (λ_ _ _ _ z=>z.elim) (λ_ z=>z) (λ_ _ z=>z.elim)
  have hA:(λa=>a=p\/∃j:Nat,R0 a)=λa=>a=p:=funext λa=>propext ⟨λz=>z.elim id λ⟨_,w⟩=>w.elim,λz=>.inl z⟩
  refine⟨F',_,_,ze0 fh r0 r,?_⟩;rw[zhs,hA];cases hg:FN C fs ps.length N.length u ts with
  |none=>rw[hg]at q;exact q.elim
  |some rr =>
   rw[hg]at q;have h0:=UR hg p;unfold FL at h0
   by_cases hl:ts.length+1=ps.length
   .rw[if_pos hl]at h0;have el:(T.oob p C fs []::ts).length=ts.length+1:=rfl;rw[el];cases ho:u ((T.oob p C fs []::ts).map some++List.replicate (N.length - (ts.length+1)) none) with
    |none=>rw[ho]at h0;cases h0
    |some o =>
     rw[ho]at h0;cases o with
     |nx τ =>
      simp only at h0;intro F1 H1 σ1 R1 s1 S1;cases hoo:FT τ 0 C fs with
      |none=>rw[hoo]at h0;cases h0
      |some ql =>
       obtain⟨q0,l⟩:=ql;rw[hoo]at h0;simp only at h0
       by_cases hq:q0=p
       .rw[if_pos hq]at h0;subst hq;cases h0;have h00:=Og hoo;have S2:=S1.frz h00;obtain⟨y,ey,ry⟩:=S1.rep 0 _ h00;obtain⟨dx2,xs2,Rr,rfl,hA2,fp2,hp2,ro,dp⟩:=ry.oob_inv;have n1:∀a,R1 0 a->F1 a=none:=λa z=>(S1.dom z).1
        have r2:=ry.share (H':=H1) (EZ (H:=H1) n1) λa u z q=>by rw[GO z];exact q
        simp only at q;refine q (frz F1 H1 (R1 0)) H1 ⟨s1.ff.trans (EZ n1),Hw S1.fh,s1.kp,λb z=>z.elim,λb u e=>?_⟩ r2
        by_cases hb:R1 0 b
        .exact(s1.nw b ⟨0,hb⟩).elim (λz=>.inr (.inl z)) λz=>.inr (.inr z)
        .rw[F9 hb]at e;exact s1.nf b u e
       .rw[if_neg hq]at h0;cases h0
     |rt t=>cases h0
     |bk τ=>cases h0
     |ct τ=>cases h0
     |xc c τ =>
      cases h0;simp only at q;exact λF1 H1 σ1 R1 s1 S1=>q F1 H1 (s1.mono λ_ z=>z.elim)
   .rw[if_neg hl]at h0;cases h0
theorem Bx{κ:Type} [BEq κ]{P:κ->α->Prop}:∀y b,([]:List (κ×α)).lookup y=some b->P y b:=λ_ _ h=>by cases h
theorem B9{κ:Type} [BEq κ] [LawfulBEq κ]{P:κ->α->Prop}{x:κ}{a:α}{l:List (κ×α)}(h:P x a)(r:∀y b,l.lookup y=some b->P y b):∀y b,((x,a)::l).lookup y=some b->P y b:=λy b e=>by
 rw[yb3]at e;cases hf:y == x with
 |true =>
  rw[hf]at e;cases e;rw[eq_of_beq hf];exact h
 |false=>rw[hf]at e;exact r y b e
theorem OV{K:kA}{F:Hp}:∀ys:List Str,A9 K F (ys.map T.str) (ys.map V.str)
 |[]=>.nil
 |y::r=>.cons (H:=F) (.str y) (OV r)
theorem LD{P:Str->Fn->List (Nat×List T)->Prop}:∀x F ds,([]:List (Str×Fn×List (Nat×List T))).lookup x=some (F,ds)->P x F ds:=λ_ _ _ h=>by cases h
theorem LG{P:Str->Fn->List (Nat×List T)->Prop}{l:List (Str×Fn×List (Nat×List T))}{x0:Str}{F0:Fn}{d0:List (Nat×List T)}(h:P x0 F0 d0)(r:∀x F ds,l.lookup x=some (F,ds)->P x F ds):∀x F ds,((x0,F0,d0)::l).lookup x=some (F,ds)->P x F ds:=λx F ds e=>by
 rw[yb3]at e;cases hf:x == x0 with
 |true =>
  rw[hf]at e;cases e;rw[eq_of_beq hf];exact h
 |false =>
  rw[hf]at e;exact r x F ds e
def YY(K:kA)(C:Addr):=(PySem.W.excIn K C Ss "ValueError.__new__",PySem.W.subIn K (.ref C) (.ref C),(PySem.W.clsIn K C).isSome,PySem.W.typeIn K (.ref C),PySem.W.findIn K (.ref C) "__getattribute__",PySem.W.findIn K (.ref C) "__getattr__",PySem.W.findIn K (.ref C) "__class__",PySem.W.mroIn K C (.type "object"),PySem.W.mroIn K C (.type "BaseException"))
def Fd{K:kA}{mg:Str->Option Value}{x:Str}(g:PySem.W.specialIn K (.builtin "object.__class__") "__get__"=some (some (.builtin "getset_descriptor.__get__"))/\PySem.W.takesIn K (.builtin "object.__class__")=some true)(C:Addr)(m:mg x=some (.ref C))(h:YY K C=(true,some true,true,some (.type "type"),some (some (.builtin "BaseException.__getattribute__")),some none,some (some (.builtin "object.__class__")),some true,some true)):ECls K mg x:=⟨C,m,by
 unfold YY at h;simp only[Prod.mk.injEq,Option.isSome_iff_exists]at h;obtain⟨h1,h2,h3,h4,h5,h6,h7,h8,h9⟩:=h;exact⟨h1,h2,h3,h4,h5,h6,h7,h8,h9,g.1,g.2⟩⟩
variable {tb:List (Addr×Bool)}
theorem E8{K:kA}{A:Value}(e:∀C∈tb.map Prod.fst,ExcK K C)(h:(tb.all λx=>PySem.W.kitOne K (.ref x.1) A == some x.2)=true):∀C b,tb.lookup C=some b->ExcK K C/\PySem.W.kitOne K (.ref C) A=some b:=λC b hl=>by
 obtain⟨l,r,q,_⟩:=List.lookup_eq_some_iff.mp hl;have hm:(C,b)∈tb:=by rw[q];exact yaq _ (.head _)
 exact⟨e C (List.mem_map_of_mem hm),eq_of_beq (yaj.mp h (C,b) hm)⟩
theorem xs_of{K:kA}{W:Str}{cs:List (Str×Addr)}(T:ECls K mg W)(h:(cs.all λe=>(match ca e.1 with|.ref a=>a == e.2|_=>false) && PySem.W.subIn K (.ref e.2) (.ref T.C) == some true)=true):∃T:ECls K mg W,∀c C,cs.lookup c=some C->ca c=.ref C/\PySem.W.subIn K (.ref C) (.ref T.C)=some true:=⟨T,λc C hl=>by
 have h:=yaj.mp h _ (ybq hl);rw[ya3]at h;refine⟨?_,eq_of_beq h.2⟩;have h:=h.1;cases e:ca c with
 |ref a =>
  simp only[e]at h;rw[eq_of_beq h]
 |_ =>
  simp only[e]at h;cases h⟩
theorem Ar{G:Gx}{lv:Nat}{K:kA}(co:∀x t,G.co.lookup x=some t->∃u v,mg x=some u/\RelV v u/\∀F:Hp,Rp K F F t v R0:=by exact Bx)(cl:∀c∈G.cl,Cls K c.2.1/\∀f∈c.2.2,CJ K c.2.1 f:=by exact AM)(mt:∀c∈G.mt,c.2.2.2.lv<=lv/\Nonempty (MetX P w K mg base c.2.1 c.1 c.2.2.2.lv c.2.2.2.ps (BJ K ca c.2.2.2.g)):=by exact AM)(nw:∀x F ds,G.nw.lookup x=some (F,ds)->F.lv+1<=lv/\∃(C:Addr) (D:NewX P w K mg base x C F.lv F.ps (Fp K ca C F.g)),∀k dts,ds.lookup k=some dts->∃dvs us,Dg K D.fd F.ps us/\A5 dvs us/\∀H:Hp,A9 K H dts dvs:=by exact LD)(sf:∀C fs,G.sf=some (C,fs)->Cls K C/\∀f∈fs,CJ K C f:=by exact(λ_ _ h=>by cases h))(xs:∀W cs,G.xs.lookup W=some cs->∃T:ECls K mg W,∀c C,cs.lookup c=some C->ca c=.ref C/\PySem.W.subIn K (.ref C) (.ref T.C)=some true:=by exact Bx)(sb:∀D tb,G.sb.lookup D=some tb->∃A:Addr,mg D=some (.ref A)/\∀C b,tb.lookup C=some b->ExcK K C/\PySem.W.kitOne K (.ref C) (.ref A)=some b:=by exact Bx)(sv:∀D tb,G.sv.lookup D=some tb->mg D=none/\∃t,bootBuiltins D=some (.type t)/\∀C b,tb.lookup C=some b->ExcK K C/\PySem.W.kitOne K (.ref C) (.type t)=some b:=by exact Bx)(ci:∀x tb,G.ci.lookup x=some tb->∃D:Addr,mg x=some (.ref D)/\(∀C b,tb.lookup C=some b->ICls K C/\PySem.W.kitOne K (.ref C) (.ref D)=some b)/\(KE.all λa=>PySem.W.kitOne K (.type a) (.ref D) == some false)=true:=by exact Bx)(x2:∀W1 W2 cs,(W1,W2,cs)∈G.x2->∃(T1:ECls K mg W1) (T2:ECls K mg W2),∀c C,cs.lookup c=some C->ca c=.ref C/\PySem.W.subIn K (.ref C) (.ref T1.C)=some false/\PySem.W.subIn K (.ref C) (.ref T2.C)=some true:=by exact(λ_ _ _ h=>by cases h))(wd:∀x F,G.wd.lookup x=some F->F.lv<=lv/\∃p,F.ps=[p]/\Nonempty (DefS P w K mg base F.lv x p (BJ K ca F.g)):=by exact Bx)(ti:∀C∈G.ti,TiOk K C:=by exact AM):GxOk G lv P w K mg base ca:=⟨co,cl,mt,nw,sf,xs,sb,sv,ci,x2,wd,ti⟩
theorem Aq(h:(sc.kind=.function/\sc.isCoroutine=false/\sc.isGenerator=false)/\N.Nodup/\N.take ps.length=ps/\(∀x∈ps,sc.names.lookup x=some .local\/sc.names.lookup x=some .cell)/\∀y∈sc.names,y.2≠.free):FnScope N ps sc:=⟨h.1.1,h.1.2.1,h.1.2.2,h.2.1,h.2.2.1,h.2.2.2.1,h.2.2.2.2⟩
structure Qx(P:Program)(w:World)(K:kA)(mg:Str->Option Value)(base:Heap)(ca:Str->Value):Prop where
 m:∀(x:Str) (a:Addr),PySem.W.nsIn K mainGlobals x=some (some (.ref a))->mg x=some (.ref a)
def BM{P:Program}{w:World}{K:kA}{mg:Str->Option Value}{base:Heap}{ca:Str->Value}(q:Qx P w K mg base ca){x:Str}{st:Stmt}{oc:Value}{od an:Option Addr}{osl:Array (Option Value)}{dV kV doc pm cdv ct:Value}{Γ:Gm}{f:Fn}{u:AH}{N:List Str}(a:Addr){o:Obj}
  (b:Dg K (PySem.W.fnOf x x (ID st) (Ab st) (AL st) dV kV doc pm an cdv ct) f.ps [])
  (S:FnScope N f.ps (AL st)) (hu:Ad 200 Γ (Ab st)=some u) (hbl:∀b∈Γ.bl,mg b=none) (hfs:∀g F,Γ.fns.lookup g=some F->F.lv<=Γ.lv/\Nonempty (DefX P w K mg base F.lv g F.ps (BJ K ca F.g))) (hgx:GxOk Γ.ox Γ.lv P w K mg base ca) (hce:∀x∈Γ.ce,Γ.nm.lookup x=some .cell:=by exact AM) (hex:∀c∈Γ.ex,∃T:ECls K mg c,ca c=.ref T.C:=by exact AM)
  (hms:∀g F,Γ.mus.lookup g=some F->F.lv<=Γ.lv/\Nonempty (DefX P w K mg base F.lv g F.ps (Ie K ca F.g)):=by exact Ej) (ho:o=⟨oc,od,.func (PySem.W.fnOf x x (ID st) (Ab st) (AL st) dV kV doc pm an cdv ct),osl⟩:=by exact rfl) (l:K.lookup a=some o:=by ext) (c:PySem.W.codeIn K cdv x=true:=by ext) (k:PySem.W.keepIn K (.ref a)=true:=by ext) (m:PySem.W.nsIn K mainGlobals x=some (some (.ref a)):=by ext)
  (hΓ:Γ.N=N:=by rfl) (hnm:Γ.nm=(AL st).names:=by rfl) (hlv:Γ.lv+1=f.lv:=by rfl) (hmu:Γ.mu=false:=by rfl) (hg:f.g=Al f.ps.length N.length u:=by rfl):DefX P w K mg base f.lv x f.ps (BJ K ca f.g) :=
 ⟨a,_,by rw[hg,<- hlv];exact GP (EY (l.trans (congrArg some ho)) c k) S hΓ hnm hce rfl hbl hfs hex hms hmu hgx hu,q.m x a m,k,b⟩
theorem at0{x:α}{l:List α}:Aw (x::l) (0:Int)=some x:=by
 have:Aw (x::l) ((0:Nat):Int)=some x:=Fg rfl;exact this
theorem MP{x y:α}{l:List α}:Aw (x::y::l) (1:Int)=some y:=by
 have:Aw (x::y::l) ((1:Nat):Int)=some y:=Fg rfl;exact this
theorem at2{x y z:α}{l:List α}:Aw (x::y::z::l) (2:Int)=some z:=by
 have:Aw (x::y::z::l) ((2:Nat):Int)=some z:=Fg rfl;exact this
variable {mc me:AF}
section
variable {b:T->AO->Option AO}{body:AH}
theorem Q6(I:Nat->AO->Prop)(h0:I 0 τ)(hs:∀i t τ,ts[i]?=some t->I i τ->∃τ1,b t τ=some τ1/\∃τ2,body τ1=some (.nx τ2)/\I (i+1) τ2):∃τ',Bh b body ts τ=some (.nx τ')/\I ts.length τ':=by
 have key:∀(l:List T) (k:Nat) (τ:AO),ts.drop k=l->k<=ts.length->I k τ->∃τ',Bh b body l τ=some (.nx τ')/\I ts.length τ':=by
  intro l
  induction l with
  |nil =>
   intro k τ hd hk hI
   have:k=ts.length:=by
    have:=congrArg List.length hd;simp at this
    omega
   subst this;exact⟨τ,rfl,hI⟩
  |cons t l ih =>
   intro k τ hd hk hI
   have hlt:k<ts.length:=by
    have:=congrArg List.length hd;simp at this
    omega
   rw[ycf hlt]at hd;injection hd with h1 h2
   obtain⟨τ1,e1,τ2,e2,hI2⟩:=hs k t τ (by rw[ya0 hlt,h1]) hI
   obtain⟨τ',e3,h3⟩:=ih (k+1) τ2 h2 hlt hI2;exact⟨τ',by unfold Bh;simp only[e1,e2];exact e3,h3⟩
 exact key ts 0 τ rfl (yaz _) h0
theorem Pt(I:Nat->AO->Prop)(f:Nat->T)(h0:I 0 τ)(hs:∀i t τ,ts[i]?=some t->I i τ->∃τ1,b t τ=some τ1/\me τ1=some (.v (f i) false)/\I (i+1) τ1) :
  Bd b (mC (.bl true)) me ts τ=some ((List.range ts.length).map f):=by
 have key:∀(l:List T) (k:Nat) (τ:AO),ts.drop k=l->k<=ts.length->I k τ->Bd b (mC (.bl true)) me l τ=some ((List.range' k l.length).map f):=by
  intro l
  induction l with
  |nil=>intro k τ _ _ _;rfl
  |cons t l ih =>
   intro k τ hd hk hI
   have hlt:k<ts.length:=by
    have:=congrArg List.length hd;simp at this
    omega
   rw[ycf hlt]at hd;injection hd with h1 h2
   obtain⟨τ1,e1,e2,hI2⟩:=hs k t τ (by rw[ya0 hlt,h1]) hI
   have e3:=ih (k+1) τ1 h2 hlt hI2;unfold Bd;simp only[e1,mC,e2,e3];simp[List.range'_succ]
 have:=key ts 0 τ rfl (yaz _) h0;rw[this,<- List.range_eq_range']
end
theorem zji{i j:Int}(h:Hf i=true):JF i j=true:=by unfold JF;rw[h,yed,yed]
theorem zlp{i:Int}(h1:-(2 ^ 64)<i)(h2:i<2 ^ 64):Hf i=true:=@decide_eq_true _ (Classical.propDecidable _) ⟨h1,h2⟩
theorem zlo{i:Int}(h1:-(10 ^ 70)<i)(h2:i<10 ^ 70):DX i=true:=@decide_eq_true _ (Classical.propDecidable _) ⟨h1,h2⟩
theorem fm{i j:Int}(h:0<j):i.fmod j=i % j:=Int.fmod_eq_emod_of_nonneg i (by omega)
theorem EC{i j:Int}:B5 (.int i) (.int j)=some (.bl (i == j)):=by
 unfold B5 E1 Bm Fc;simp only[T.data,T.pln,PyData.canLay0,PyData.depth,PyData.eqv];simp
theorem JE{i j:Int}:Ci (.int i) (.int j)=some (.bl (!(i == j))):=by
 unfold Ci E1 Bm Fc;simp only[T.data,T.pln,PyData.canLay0,PyData.depth,PyData.eqv];simp
theorem K4:∀ns:List Int,Ax (ns.map T.int)=ns.map T.int
 |[]=>rfl
 |n::r=>by rw[yae,Ax,K4 r];rfl
theorem K5:∀ns:List Int,Ak (ns.map T.int)=true
 |[]=>rfl
 |n::r=>by rw[yae,Ak,K5 r];rfl
theorem UB(ns:List Int):(Cw ns).share=Cw ns:=by unfold Cw;rw[T.share,K4]
theorem UC(ns:List Int):(Cw ns).sh=true:=by unfold Cw;rw[T.sh,K5];rfl
theorem IK{l:List α}{k:Int}{x:α}(h0:0<=k)(h:l[k.toNat]?=some x):Aw l k=some x:=by
 have:Aw l ((k.toNat:Nat):Int)=some x:=Fg h
 rwa[Int.toNat_of_nonneg h0]at this
end Pu
namespace Zm
end Zm
namespace Db
open PySem
end Db
namespace Pu
open PySem PySem.Spec PyProof.Rows L2 Zw Zx
def mT(n:Nat)(g:Nat->T):List T:=(List.range n).map g
theorem nl0:((0:Nat):Int)=0:=rfl
theorem nl1:((1:Nat):Int)=1:=rfl
theorem nl2:((2:Nat):Int)=2:=rfl
theorem nl3:((3:Nat):Int)=3:=rfl
theorem nl4:((4:Nat):Int)=4:=rfl
theorem nl5:((5:Nat):Int)=5:=rfl
theorem nl6:((6:Nat):Int)=6:=rfl
theorem nl7:((7:Nat):Int)=7:=rfl
theorem nl8:((8:Nat):Int)=8:=rfl
theorem nl9:((9:Nat):Int)=9:=rfl
theorem zn9{k:Nat}(h:k<=100000):(k<=BL)=True:=eq_true (by unfold BL;omega)
theorem zn8{k:Nat}(h:k<100000):(k<BL)=True:=eq_true (by unfold BL;omega)
variable {n i:Nat}{l:List T}{me:AF}{τ:AO}
section
variable {g h:Nat->T}
theorem Hm:(mT n g).length=n:=by simp[mT]
theorem LX(hi:i<n):(mT n g)[i]?=some (g i):=by simp[mT,hi]
theorem zdl{t:T}(e:(mT n g)[i]?=some t):i<n/\t=g i:=by
 have hi:i<n:=by
  rcases Nat.lt_or_ge i n with q|q
  .exact q
  .rw[ybj (by rw[Hm];exact q)]at e
   cases e
 rw[LX hi]at e;exact⟨hi,by injection e with e;exact e.symm⟩
theorem Hn(hl:l.length=n)(h:∀i,i<n->l[i]?=some (g i)):l=mT n g:=by
 refine ydd λi=>?_
 rcases Nat.lt_or_ge i n with q|q
 .rw[h i q,LX q]
 .rw[ybj (by omega),ybj (by rw[Hm];exact q)]
theorem zgl(e:∀i,i<n->g i=h i):mT n g=mT n h:=Hn Hm λi hi=>by rw[LX hi,e i hi]
theorem ze2:Ax (mT n g)=mT n λi=>(g i).share:=by
 rw[DI];unfold mT;rw[yb4]
 rfl
theorem YU:∀(l:List T) (k i:Nat) (t:T),l[i]?=some t->(Cr k l)[i]?=some (.tup [.int ((k+i:Nat):Int),t])
 |[],_,_,_,e=>by simp at e
 |x::r,k,0,t,e=>by
  simp at e;subst e
  rfl
 |x::r,k,i+1,t,e=>by
  rw[Cr,ycj];have:=YU r (k+1) i t (by simpa using e)
  rw[this,show k+1+i=k+(i+1) by omega]
theorem YT:∀(l:List T) (k:Nat),(Cr k l).length=l.length
 |[],_=>rfl
 |x::r,k=>by rw[Cr,yao,yao,YT r]
theorem zkf:Cr 0 (mT n g)=mT n λi=>.tup [.int (i:Int),g i]:=by
 refine Hn (by rw[YT,Hm]) λi hi=>?_
 rw[YU _ _ _ _ (LX hi),Nat.zero_add]
theorem zfx(lo:Int):EL lo n=mT n λi=>.int (lo+(i:Int)):=rfl
theorem Iv:EL 0 n=mT n λi=>.int (i:Int):=by
 rw[zfx];refine zgl λi _=>?_
 rw[Int.zero_add]
theorem mT_of(l:List T)(d:T):l=mT l.length λi=>l.getD i d:=Hn rfl λi hi=>by
 rw[yag,ya0 hi];rfl
variable {b:T->AO->Option AO}{body:AH}
theorem DA{f:Nat->T}{x:Option T}{cs:AO}(hs:∀i,i<n->me (some (g i)::cs)=some (.v (f i) false)):Bd (AG 0) (mC (.bl true)) me (mT n g) (x::cs)=some (mT n f):=by
 have:=Pt (b:=AG 0) (me:=me) (ts:=mT n g) (τ:=x::cs) (λ_ τ=>∃y,τ=y::cs) f ⟨x,rfl⟩ λi t τ e hI=>by
  obtain⟨hi,rfl⟩:=zdl e;obtain⟨y,rfl⟩:=hI;exact⟨some (g i)::cs,by simp[AG],hs i hi,_,rfl⟩
 rw[this,Hm]
 rfl
end
theorem J3(p:Nat->Bool):De (mT n λi=>.bl (p i))=some ((List.range n).map p):=by
 unfold mT;generalize List.range n=l
 induction l with
 |nil=>rfl
 |cons x r ih=>simp only[yae,De,ih]
theorem zgg(h:n<=100000):FV (n:Int)=true:=@decide_eq_true _ (Classical.propDecidable _) ⟨by omega,by omega⟩
theorem zk2(h:n<=100000):L8 (n:Int)=true:=@decide_eq_true _ (Classical.propDecidable _) ⟨by omega,by omega⟩
theorem Ic:∀ys:List Str,EK (ys.map T.str)=some ys
 |[]=>rfl
 |y::r=>by
  show(match EK (r.map T.str) with|some l=>some (y::l)|none=>none)=_
  rw[Ic r]
theorem An:∀ys:List Str,Ax (ys.map T.str)=ys.map T.str
 |[]=>rfl
 |y::r=>by
  show T.str y::Ax (r.map T.str)=_;rw[An r]
  rfl
theorem Aa:∀ys:List Str,Ak (ys.map T.str)=true
 |[]=>rfl
 |y::r=>by
  show(true && Ak (r.map T.str))=true;rw[Aa r]
  rfl
def C8(ys:List Str):Prop:=∀y∈ys,PyData.strOk y=true
theorem Ux:∀ys:List Str,Eg (ys.map T.str)=true
 |[]=>rfl
 |y::r=>by
  show(true && Eg (r.map T.str))=true;rw[Ux r]
  rfl
theorem Wo:∀{ys:List Str},C8 ys->PyData.canLayAll0 (CA (ys.map T.str))=true/\PyData.depthAll (CA (ys.map T.str))=0
 |[],_=>⟨rfl,rfl⟩
 |y::r,h=>by
  obtain⟨h1,h2⟩:=Wo (ys:=r) λx hx=>h x (ya7 _ hx)
  have h3:=h y (ya9 ..);rw[yae,CA,PyData.canLayAll0,PyData.depthAll,h1,h2,T.data,PyData.canLay0,h3,PyData.depth];exact⟨rfl,rfl⟩
variable {x y:Str}
theorem GQ(hx:PyData.strOk x=true)(hy:PyData.strOk y=true):B5 (.str x) (.str y)=some (.bl (decide (x=y))):=by
 have e:(x == y)=decide (x=y):=by rw[ycp,yf2,yf6]
 unfold B5 E1 Bm Fc;simp only[T.data,T.pln,PyData.canLay0,PyData.depth,PyData.eqv,hx,hy,e];simp
theorem Z3(x:Str):∀ys:List Str,((CA (ys.map T.str)).any λy=>PyData.eqv y (.str x))=decide (x∈ys)
 |[]=>by simp[CA]
 |y::r=>by
  have e:(y == x)=decide (x=y):=by rw[ycp,yf2,yf6];exact eq_comm
  rw[yae,CA,ye7,Z3 x r,T.data,PyData.eqv,e,ycp,ybm,yf6,yf6,yf6,ya6]
theorem Lf{ys:List Str}{o:Bool}{k:Kd}(h:C8 ys)(hx:PyData.strOk x=true):EX (.str x) (.nd o k (ys.map T.str))=some (.bl (decide (x∈ys))):=by
 have ok:Hs (.str x) (ys.map T.str)=true:=by
  obtain⟨h1,h2⟩:=Wo h;unfold Hs Bm;rw[Ux,h1,h2,T.pln,T.data,PyData.canLay0,hx,PyData.depth]
  rfl
 unfold EX;simp only;rw[if_pos ok];unfold QO;rw[T.data,Z3]
end Pu
namespace Tx
open PySem PySem.NumText
abbrev cs(x:Str):List Nat:=x.cps.toList
theorem cs_app(x y:Str):cs (x++y)=cs x++cs y:=Array.toList_append
theorem cs_ext{x y:Str}(h:cs x=cs y):x=y:=by
 cases x;cases y;exact congrArg Str.mk (Array.toList_inj.mp h)
theorem cs_len(x:Str):x.length=(cs x).length:=rfl
def joinL(c:Nat):List (List Nat)->List Nat
 |[]=>[]
 |[x]=>x
 |x::r=>x++c::joinL c r
theorem cs_join(c:Nat):∀l:List Str,cs (Str.join ⟨#[c]⟩ l)=joinL c (l.map cs)
 |[]=>rfl
 |[x]=>rfl
 |x::y::r=>by
  show cs (x++⟨#[c]⟩++Str.join ⟨#[c]⟩ (y::r))=cs x++c::joinL c ((y::r).map cs);rw[cs_app,cs_app,cs_join c (y::r),ybu]
  rfl
theorem Ym{c:Nat}:∀{a b u v:List Nat},a++c::u=b++c::v->c∉a->c∉b->a=b/\u=v
 |[],[],u,v,h,_,_=>⟨rfl,(ydn h).2⟩
 |[],y::b,u,v,h,_,hb=>absurd (by rw[(ydn h).1];exact ya9 ..) hb
 |x::a,[],u,v,h,ha,_=>absurd (by rw[<- (ydn h).1];exact ya9 ..) ha
 |x::a,y::b,u,v,h,ha,hb=>by
  obtain⟨e1,e2⟩:=ydn h;obtain⟨e3,e4⟩:=Ym e2 (λz=>ha (ya7 _ z)) (λz=>hb (ya7 _ z))
  exact⟨by rw[e1,e3],e4⟩
theorem joinL_inj{c:Nat}:∀{l m:List (List Nat)},l≠[]->m≠[]->(∀p∈l,c∉p)->(∀p∈m,c∉p)->joinL c l=joinL c m->l=m
 |[],_,h,_,_,_,_=>absurd rfl h
 |_,[],_,h,_,_,_=>absurd rfl h
 |[a],[b],_,_,_,_,e=>by rw[show a=b from e]
 |[a],b::b2::r,_,_,ha,_,e=>absurd (by rw[show a=b++c::joinL c (b2::r) from e];simp) (ha a (ya9 ..))
 |a::a2::r,[b],_,_,_,hb,e=>absurd (by rw[<- show a++c::joinL c (a2::r)=b from e];simp) (hb b (ya9 ..))
 |a::a2::r,b::b2::q,_,_,ha,hb,e=>by
  obtain⟨e1,e2⟩:=Ym (show a++c::joinL c (a2::r)=b++c::joinL c (b2::q) from e) (ha a (ya9 ..)) (hb b (ya9 ..));rw[e1,joinL_inj (List.cons_ne_nil _ _) (List.cons_ne_nil _ _) (λp hp=>ha p (ya7 _ hp)) (λp hp=>hb p (ya7 _ hp)) e2]
theorem map_cs_inj:∀{l m:List Str},l.map cs=m.map cs->l=m
 |[],[],_=>rfl
 |[],_::_,h=>by cases h
 |_::_,[],h=>by cases h
 |a::l,b::m,h=>by
  obtain⟨e1,e2⟩:=ydn h;rw[cs_ext e1,map_cs_inj e2]
theorem fold_mem(a:Array Nat):∀(n:Nat) (acc:Array Nat) (c:Nat),c∈((List.replicate n a).foldl (·++·) acc).toList->c∈acc.toList\/c∈a.toList
 |0,acc,c,h=>.inl h
 |n+1,acc,c,h=>by
  rw[ybr,ycm]at h
  rcases fold_mem a n (acc++a) c h with h|h
  .rw[Array.toList_append]at h;exact yax.mp h
  .exact .inr h
theorem mul_mem{x:Str}{k:Int}{c:Nat}(h:c∈cs (Txt.mul x k)):c∈cs x:=by
 unfold Txt.mul at h;split at h
 .cases h
 .split at h
  .exact h
  .rcases fold_mem _ _ _ _ h with h|h
   .cases h
   .exact h
theorem mul_len(x:Str)(k:Nat):(Txt.mul x (k:Int)).length=x.length * k:=by
 have e:=PyProof.Rows.len_mul x (k:Int);rw[if_neg (by simp)]at e
 exact Int.ofNat.inj (by simpa using e)
section
variable {x y:Str}{c:Nat}(hA:∀k,(cs x)[k]?=some c->StrLaws.At x y x.length k)
include hA
end
theorem cs_mk(l:List Nat):cs ⟨l.toArray⟩=l:=rfl
theorem sl_to{x:Str}{a:Nat}(h:a<=(cs x).length):cs (Txt.slice x none (some (a:Int)))=(cs x).take a:=by
 have e:Txt.slice x none (some (a:Int))=StrLaws.sliceText x none (some (a:Int)):=rfl;rw[e,StrLaws.sliceText_to ⟨Int.natCast_nonneg a,Int.ofNat_le.mpr h⟩,cs_mk,List.drop_zero,Int.sub_zero,yc3]
end Tx
namespace Hd
open PySem PySem.W PySem.Calls PyProof.Rows
def JV(st:SharedT->Thread->Option (SharedT×Thread))(ok:Thread->Bool):Nat->SharedT->Thread->Option SharedT
 |0=>λ_ _=>none
 |n+1=>λs t=>bif through t then some s else bif ok t then (st s t).elim none λx=>JV st ok n x.1 x.2 else none
theorem zkb{tb:String->Option Builtin}{p:Program}{w:World}{m:Nat}{ann:Option Value}(n:Nat):∀(s:SharedT) (t:Thread) (r:SharedT),
  JV (stepT (denote tb) p w) (stepOk m ann) n s t=some r->topRun tb p w m ann n s.abs t=some r.abs:=by
 induction n with
 |zero=>intro s t r h;exact nomatch h
 |succ n ih =>
  intro s t r h;rw[JV]at h;dsimp only at h;rw[topRun];cases a:through t with
  |true=>rw[a]at h;cases h;rfl
  |false =>
   rw[a]at h;cases b:stepOk m ann t with
   |false=>rw[b]at h;exact nomatch h
   |true =>
    rw[b]at h;cases c:stepT (denote tb) p w s t with
    |none=>rw[c]at h;exact nomatch h
    |some x=>rw[c]at h;rw[stepT_spec (s':=x.1) (t':=x.2) c];exact ih _ _ _ h
noncomputable def K6(p q:Program)(loose:List Str)(Xt:Shared->Bool){α:Type}(Yf:Shared->α)(h:Heap)(s:Shared) :=
 ((staticsOk (importedModules p.main.body) h s.heap && namesBound p s.heap && gensDone s && laidKept h s.heap),openSeen q loose (importedModules p.main.body) Xt true s,Yf s)
theorem zju{p q:Program}{loose:List Str}{Xt:Shared->Bool}{α:Type}{Yf:Shared->α}{Ya:World->α}{N M m:Nat}{ann:Option Value}{bt:Params->BT}{lf:Params->Life}{st:World->SharedT->Thread->Option (SharedT×Thread)}{ok:Thread->Bool}(hst:∀w,stepT (denote treeTable) p w=st w)(hok:stepOk m ann=ok)
  (e:opening p=plainProg p.main.scope.names) (hN:Nat.ble 600 N=true) (f:∀s,fenceModules? p s=some s) (hM:Nat.ble M N=true)
  (hb:∀P,absHeap (bt P) m (lf P)=boot_heap P) (hs:∀P,(boot_heap P).isNs mainGlobals=true) (hz:∀P,(boot_heap P).objs.size=m) (ha:∀P,(boot_heap P).nsMap mainGlobals "__annotations__"=ann)
  (h:∀(w:World) (os:OsState),(JV (st w) ok M ⟨bt w.params,m,lf w.params,Array.mk [],boot_drawn,boot_toks,os⟩ (topStub p)).map (λs=>K6 p q loose Xt Yf (boot_heap w.params) s.abs)=some (true,openGood q loose,Ya w)) :
  LeftO p q loose Xt Yf Ya N true:=λw=>by
 obtain⟨⟨h0,g0,d0,k0,os⟩,hs0,hv⟩:=ya2.mp (boot_open e hN f w);simp only[Prod.mk.injEq]at hv;obtain⟨rfl,rfl,rfl,rfl⟩:=hv;obtain⟨T,hT,hx⟩:=ya2.mp (h w os);rw[<- hst,<- hok]at hT;have r:=topRun_mono (N - M) _ _ _ _ (zkb _ _ _ _ hT);rw[Nat.add_sub_cancel' (Nat.le_of_ble_eq_true hM)]at r;have hx1:=congrArg Prod.fst hx;have hx2:=congrArg Prod.snd hx;simp only[K6]at hx1 hx2;simp only[SharedT.abs,hb]at r hx1 hx2
 have k:topFrom treeTable p w N ⟨boot_heap w.params,Array.mk [],boot_drawn,boot_toks,os⟩=some T.abs:=by
  simp only[topFrom,hs,hz,ha,r];simp only[Option.bind_some,SharedT.abs];rw[hx1]
  rfl
 show((fencedOpening treeTable p w N).bind (topFrom treeTable p w N)).map _=_;rw[hs0];show(topFrom treeTable p w N _).map _=_;rw[k];exact congrArg some hx2
def en(P:Params)(x:String)(k:Nat)(v:Value):DictEntry:=⟨PyData.keyHash P (Str.ofString x),.str (Str.ofString x) k,v⟩
def bt(P:Params):BT:=((boot_heap P).objs.toList.foldl (λ(x:BT×Nat) o=>(x.1.ins x.2 o,x.2+1)) (BT.nil,0)).1
theorem bt_ok(P:Params):absHeap (bt P) 11 (boot_heap P).life=boot_heap P:=by ext
theorem zo9(P:Params):(boot_heap P).nsMap mainGlobals "__annotations__"=some (.ref 6):=by ext
theorem ns_ok(P:Params):(boot_heap P).isNs mainGlobals=true:=by ext
theorem sz_ok(P:Params):(boot_heap P).objs.size=11:=by ext
abbrev go(p:Program)(M:Nat)(w:World)(os:OsState):Option SharedT :=
 JV (Fast.tw10156331382660048174 (Fast.tw11892475500146522536 Fast.tw14364793385576792824) p w) (Fast.tw6613529449190102663 11 (some (.ref 6))) M ⟨bt w.params,11,(boot_heap w.params).life,Array.mk [],boot_drawn,boot_toks,os⟩ (topStub p)
abbrev xt(r:RowW)(q:Program)(s:Shared):Bool:=xlAt q [] s && recOk r.records s
theorem zjv{p q:Program}{r:RowW}{loose:List Str}{α:Type}{Yf:Shared->α}{Ya:World->α}(N M:Nat)
  (e:opening p=plainProg p.main.scope.names) (hN:Nat.ble 600 N=true) (f:∀s,fenceModules? p s=some s) (hM:Nat.ble M N=true)
  (h:∀(w:World) (os:OsState),(go p M w os).map (λs=>K6 p q loose (xt r q) Yf (boot_heap w.params) s.abs)=some (true,openGood q loose,Ya w)):LeftO p q loose (xt r q) Yf Ya N true :=
 zju (st:=λw=>Fast.tw10156331382660048174 (Fast.tw11892475500146522536 Fast.tw14364793385576792824) p w) (ok:=Fast.tw6613529449190102663 11 (some (.ref 6)))
  (λw=>by rw[Fast.te10156331382660048174,Fast.te11892475500146522536,Fast.te14364793385576792824]) (by rw[Fast.te6613529449190102663]) e hN f hM bt_ok ns_ok sz_ok zo9 h
theorem zi6{l:OpenLaw}(h:Fast.tw9446332074065402090 l=true):l.wellSaid=true:=(congrFun Fast.te9446332074065402090 l).trans h
end Hd
set_option maxHeartbeats 4200000
namespace Zl
open PySem L2 Zw Zx Pu
variable {x y z:Str}{ys wd ns:List Str}{l:List T}{i n m:Nat}{f g:AH}{τ:AO}{rss ts:List (List Str)}
noncomputable section
local macro_rules
  |`(tactic| simp![$as,*])=>`(tactic| simp only[Al,OT,AI,Au,Di,FK,Ai,AX,OL,Ed,Ah,ON,OM,C1,Io,Ec,Il,CM,FR,AA,mC,AD,AB,AK,BA,m1,m2,AQ,Dw,BU,D0,CI,B8,Ek,ET,AV,B0,BX,LZ,Iw,As,g1,g2,AG,Bi,Am,Bf,blk,II,Ht,EB,DR,GK,MS,MR,MQ,JR,BV,FH,GA,CP,Dd,Ku,Cs,Du,HB,T.isN,T.isB,Bu,CZ,MV,LK,yc2,Dn,MT,C6,KH,G9,KY,T.share,Ax,T.sh,Ak,T.flat,at0,MP,at2,yae,yc1,yao,ybd,List.replicate,yav,ybl,List.cons_append,yd9,ycj,List.getElem?_nil,List.set_cons_zero,List.set_cons_succ,yc0,nl0,nl1,nl2,nl3,nl4,nl5,nl6,nl7,nl8,nl9,Int.reduceBEq,Nat.reduceBEq,Nat.reduceAdd,Nat.reduceSub,Nat.reduceLT,Nat.reduceLeDiff,if_true,if_false,ite_true,ite_false,reduceIte,ydm,Bool.not_false,Bool.and_true,ye8,ye2,yd6,Bool.or_true,yed,ydk,ydl,Bool.false_xor,Bool.true_xor,yca,yeb,decide_true,decide_false,ya6,yab,or_false,or_true,true_or,and_true,true_and,and_self,String.reduceEq,String.reduceBEq,beq_self_eq_true,ne_eq,not_false_eq_true,not_true_eq_false,zn9,zn8,Hm,ze2,Int.reduceLT,Int.reduceAdd,yc3,implies_true,forall_const,Int.reduceEq,Int.reduceNe,QK,DQ,Bs,DN,Cj,FZ,Dj,FT,Im,JA,LY,EU,Dx,BW,KI,Hc,DP,Kj,GL,Gw,IJ,$as,*])
noncomputable def AW(i:Nat):Stmt:=PySem.Challenge.pw_zonewalk_k26_wholes_refused.main.body.getD i (.Pass ⟨0,0,0,0⟩)
def zo5(s:Stmt)(j:Nat):Stmt:=match s with
 |.ClassDef _ _ _ body _ _ _ _ _ _ _=>body.getD j (.Pass ⟨0,0,0,0⟩)
 |_=>.Pass ⟨0,0,0,0⟩
def Cz(i j:Nat):Stmt:=zo5 (AW i) j
abbrev BB:Addr:=247
noncomputable def B3:List Str:=["start","end","guard","noughts","sign"]
abbrev A4:Addr:=301
def BG:List Str:=["watch_names","stays","door_list"]
def QC:T:=(.nd false .rt [(.str "<"),(.str "<="),(.str ">"),(.str ">="),(.str "=")])
def QD:T:=(.nd false .rt [(.str "<"),(.str "<=")])
def GF:T:=(.int 7)
def HA:T:=(.int 64)
def GH:T:=(.int 200)
def GG:T:=(.int 6)
def RM:List (Addr×Bool):=[(247,true),(301,false)]
def IE:List (Addr×Bool):=[(247,false),(301,true)]
def Jn:List (Str×Addr):=[("WalkError",31),("NoNumber",44),("BadMachine",56),("TooMany",68),("NoMark",99),("NoRoad",111),("NoRoom",123),("NoText",135),("NoRow",147)]
def ZW:List (Addr×Bool):=[(31,false),(44,true),(56,false),(68,false),(99,false),(111,false),(123,false),(135,false),(147,false)]
def ZY:List (Addr×Bool):=[(31,false),(44,false),(56,true),(68,false),(99,false),(111,false),(123,false),(135,false),(147,false)]
def ZQ:List (Addr×Bool):=[(31,false),(44,false),(56,false),(68,true),(99,false),(111,false),(123,false),(135,false),(147,false)]
def ZS:List (Addr×Bool):=[(31,false),(44,false),(56,false),(68,false),(99,false),(111,false),(123,false),(135,false),(147,false)]
def ZX:List (Addr×Bool):=[(31,false),(44,false),(56,false),(68,false),(99,true),(111,false),(123,false),(135,false),(147,false)]
def ZV:List (Addr×Bool):=[(31,false),(44,false),(56,false),(68,false),(99,false),(111,true),(123,false),(135,false),(147,false)]
def ZU:List (Addr×Bool):=[(31,false),(44,false),(56,false),(68,false),(99,false),(111,false),(123,true),(135,false),(147,false)]
noncomputable def ZR:List (Addr×Bool):=[(31,false),(44,false),(56,false),(68,false),(99,false),(111,false),(123,false),(135,true),(147,false)]
def ZT:List (Addr×Bool):=[(31,false),(44,false),(56,false),(68,false),(99,false),(111,false),(123,false),(135,false),(147,true)]
def ZP:List (Addr×Bool):=[(31,true),(44,true),(56,true),(68,true),(99,true),(111,true),(123,true),(135,true),(147,true)]
abbrev OJ:Stmt:=AW 52
def Pe:AH :=
 (AI (Ai (m2 (Cs λi j=>decide (i<j)) (AA 1) (m1 Bu (AA 0))) (AX (B8 (AA 0) (AA 1))) Ah)
 (AX (mC (.int 0))))
def HQ:List T->Option Ru:=Al 2 2 Pe
abbrev Lx:Fn:=⟨1,["_law_script","_law_k"],HQ⟩
abbrev Xy:Gm:=⟨["_law_script","_law_k"],(AL OJ).names,[],0,[],["len"],[],[],[],false,[],[],[],By⟩
theorem zco:FnScope Xy.N Lx.ps (AL OJ):=Aq (by decide +kernel)
theorem zd5:Ad 200 Xy (Ab OJ)=some Pe:=by ext
theorem R7(ns:List Int){k:Int}(h0:0<=k):HQ [Cw ns,.int k]=some (.ok (.int (ns.getD k.toNat 0))):=by
 unfold HQ Pe
 by_cases h:k<ns.length
 .have e:ns[k.toNat]?=some (ns.getD k.toNat 0):=by
   rw[yag,ya0 (by omega)]
   rfl
  have ea:Aw (ns.map T.int) k=some (.int (ns.getD k.toNat 0)):=IK h0 (by rw[ya5,e];rfl)
  have el:decide (k<((ns.map T.int).length:Int))=true:=by simpa using h
  simp![Cw,K4,K5,el,ea]
 .have el:decide (k<((ns.map T.int).length:Int))=false:=by simpa using h
  have e:ns.getD k.toNat 0=0:=by
   rw[yag,ybj (by omega)]
   rfl
  simp![Cw,K4,K5,el,e]
abbrev Ng:Stmt:=AW 24
def PH:AH :=
 (AX (EU Dx Dx (mC (.str "a")) (AA 0) (mC (.str "z"))))
def Jb:List T->Option Ru:=Al 1 1 PH
abbrev Lp:Fn:=⟨1,["sign"],Jb⟩
abbrev X7:Gm:=⟨["sign"],(AL Ng).names,[],0,[],[],[],[],[],false,[],[],[],By⟩
theorem za0:FnScope X7.N Lp.ps (AL Ng):=Aq (by decide +kernel)
theorem za4:Ad 200 X7 (Ab Ng)=some PH:=by ext
theorem Tu{c:Nat}(h1:97<=c)(h2:c<=122):Jb [.str ⟨#[c]⟩]=some (.ok (.bl true)):=by
 have a1:((Str.ofString "a").cps.toList)=[97]:=by decide +kernel
 have a2:((Str.ofString "z").cps.toList)=[122]:=by decide +kernel
 have b1:@decide ((#[c]:Array Nat).toList<(Str.ofString "a").cps.toList) (Classical.propDecidable _)=false:=@decide_eq_false _ (Classical.propDecidable _) (by
  rw[a1];show ¬ ([c] < [97]);rw[List.cons_lt_cons_iff];rintro(h|⟨_,h⟩)
  .omega
  .exact absurd h (List.not_lt_nil _))
 have b2:@decide ((Str.ofString "z").cps.toList<(#[c]:Array Nat).toList) (Classical.propDecidable _)=false:=@decide_eq_false _ (Classical.propDecidable _) (by
  rw[a2];show ¬ ([122] < [c]);rw[List.cons_lt_cons_iff];rintro(h|⟨_,h⟩)
  .omega
  .exact absurd h (List.not_lt_nil _))
 unfold Jb PH
 simp![b1,b2]
abbrev Nk:Stmt:=AW 25
def Ri:AF :=
 (AQ Jb (AB (AA 0) AD))
def PL:AH :=
 (AX (D0 (EU Dx Dx (mC (.int 1)) (m1 Bu (AA 0)) (mC (.int 8))) (m1 Dn (BX 1 [] (BW (AA 0)) (AG 0) (mC (.bl true)) Ri))))
def Jc:List T->Option Ru:=Al 1 1 PL
abbrev Lr:Fn:=⟨2,["text"],Jc⟩
abbrev Xb:Gm:=⟨["text"],(AL Nk).names,[],1,[("is_small_letter",Lp)],["len","all"],[],[],[],false,[],[],[],By⟩
theorem zdb:FnScope Xb.N Lr.ps (AL Nk):=Aq (by decide +kernel)
theorem zdr:Ad 200 Xb (Ab Nk)=some PL:=by ext
def Dp(x:Str):Prop:=∀i,i<x.cps.size->97<=x.cps.getD i 0/\x.cps.getD i 0<=122
theorem UE(x:Str):Fs x=mT x.cps.size λi=>.str ⟨#[x.cps.getD i 0]⟩:=by
 refine Hn (by simp[Fs]) λi hi=>?_
 unfold Fs;rw[ya5,ybx,yb1 hi];simp[Array.getD,hi]
theorem WT(h:Dp x)(h1:1<=x.cps.size)(h8:x.cps.size<=8):Jc [.str x]=some (.ok (.bl true)):=by
 have l1:x.cps.size<=100000:=by omega
 have lc:=DA (n:=x.cps.size) (me:=Ri) (x:=none) (cs:=[]) (g:=λi=>.str ⟨#[x.cps.getD i 0]⟩) (f:=λ_=>.bl true) λi hi=>by
  unfold Ri
  simp![Tu (h i hi).1 (h i hi).2]
 have e1:decide ((1:Int)<=(x.length:Int))=true:=yew (by show(1:Int)<=((x.cps.size:Nat):Int);omega)
 have e2:decide ((x.length:Int)<=8)=true:=yew (by show((x.cps.size:Nat):Int)<=8;omega)
 have ll:x.length<=BL:=by
  show x.cps.size<=BL;unfold BL
  omega
 have ba:((List.range x.cps.size).map λ_=>true).all id=true:=by simp
 unfold Jc PL
 simp![UE,lc,l1,e1,e2,ll,J3,ba]
abbrev Nf:Stmt:=AW 26
def PF:AH :=
 (AX (D0 (m1 (C6 "str") (AA 0)) (CI (m2 B5 (AA 0) (mC (.str "/"))) (AQ Jc (AB (AA 0) AD)))))
def Ja:List T->Option Ru:=Al 1 1 PF
abbrev Lo:Fn:=⟨3,["thing"],Ja⟩
abbrev X6:Gm:=⟨["thing"],(AL Nf).names,[],2,[("is_name",Lr)],["isinstance","str"],[],[],[],false,[],[],[],By⟩
theorem za7:FnScope X6.N Lo.ps (AL Nf):=Aq (by decide +kernel)
theorem zae:Ad 200 X6 (Ab Nf)=some PF:=by ext
theorem zle(h:Dp x):PyData.strOk x=true:=by
 unfold PyData.strOk;rw[Array.all_eq_true];intro i hi;have:=(h i hi).2;rw[ybk,yb1 hi]at this;simp only[yef]at this;rw[yf6]
 omega
def Fh(x:Str):Prop:=x=Str.ofString "/"\/(Dp x/\1<=x.cps.size/\x.cps.size<=8)
theorem NX:PyData.strOk (Str.ofString "/")=true:=by decide +kernel
theorem Jq(h:Fh x):PyData.strOk x=true:=by
 rcases h with rfl|h
 .exact NX
 .exact zle h.1
theorem Sh(h:Fh x):Ja [.str x]=some (.ok (.bl true)):=by
 have e:=GQ (Jq h) NX;unfold Ja PF
 by_cases q:x=Str.ofString "/"
 .rw[yew q]at e
  simp![e]
 .rw[yeg q]at e;have en:=WT (h.resolve_left q).1 (h.resolve_left q).2.1 (h.resolve_left q).2.2
  simp![e,en]
abbrev Ni:Stmt:=AW 27
def ML:AF :=
 (CI (m2 B5 (AA 0) (mC (.str "/"))) (AQ Jb (AB (AA 0) AD)))
def JI:AH :=
 (AI (Ai (CI (BU (m1 (C6 "str") (AA 0))) (BU (EU Dx Dx (mC (.int 1)) (m1 Bu (AA 0)) (mC (.int 60))))) (AX (mC (.bl false))) Ah)
 (AX (m1 Dn (BX 1 [] (BW (AA 0)) (AG 0) (mC (.bl true)) ML))))
def GW:List T->Option Ru:=Al 1 1 JI
abbrev Lq:Fn:=⟨2,["thing"],GW⟩
abbrev X9:Gm:=⟨["thing"],(AL Ni).names,[],1,[("is_small_letter",Lp)],["isinstance","str","len","all"],[],[],[],false,[],[],[],By⟩
theorem zai:FnScope X9.N Lq.ps (AL Ni):=Aq (by decide +kernel)
theorem zaq:Ad 200 X9 (Ab Ni)=some JI:=by ext
def CB(x:Str):Prop:=∀i,i<x.cps.size->x.cps.getD i 0=47\/(97<=x.cps.getD i 0/\x.cps.getD i 0<=122)
theorem UY(h:CB x):PyData.strOk x=true:=by
 unfold PyData.strOk;rw[Array.all_eq_true];intro i hi;have:=h i hi;rw[ybk,yb1 hi]at this;simp only[yef]at this;rw[yf6]
 omega
theorem UX(h:CB x)(h1:1<=x.cps.size)(h8:x.cps.size<=60):GW [.str x]=some (.ok (.bl true)):=by
 have l1:x.cps.size<=100000:=by omega
 have lc:=DA (n:=x.cps.size) (me:=ML) (x:=none) (cs:=[]) (g:=λi=>.str ⟨#[x.cps.getD i 0]⟩) (f:=λ_=>.bl true) λi hi=>by
  have o1:PyData.strOk (Str.mk #[x.cps.getD i 0])=true:=UY λj hj=>by
   have hj':j<1:=hj;have e:j=0:=by omega
   subst e;exact h i hi
  have e:=GQ o1 NX
  by_cases q:x.cps.getD i 0=47
  .have n:Str.mk #[x.cps.getD i 0]=Str.ofString "/":=by
    rw[q];exact Tx.cs_ext (by decide +kernel)
   rw[yew n]at e;unfold ML
   simp![e]
  .have n:¬ (Str.mk #[x.cps.getD i 0]=Str.ofString "/"):=λq1=>by
    have e1:(Str.ofString "/").cps=#[47]:=by decide +kernel
    have q1:#[x.cps.getD i 0]=(Str.ofString "/").cps:=congrArg Str.cps q1;rw[e1]at q1;exact q (by simpa using q1)
   rw[yeg n]at e;have hh:=(h i hi).resolve_left q;unfold ML
   simp![e,Tu hh.1 hh.2]
 have e1:decide ((1:Int)<=(x.length:Int))=true:=yew (by show(1:Int)<=((x.cps.size:Nat):Int);omega)
 have e2:decide ((x.length:Int)<=60)=true:=yew (by show((x.cps.size:Nat):Int)<=60;omega)
 have ll:x.length<=100000:=l1;have ba:((List.range x.cps.size).map λ_=>true).all id=true:=by simp
 unfold GW JI
 simp![UE,lc,l1,e1,e2,ll,J3,ba]
abbrev Nd:Stmt:=AW 13
def PD:AH :=
 (AX (D0 (m1 (C6 "int") (AA 0)) (BU (m1 (C6 "bool") (AA 0)))))
def M3:List T->Option Ru:=Al 1 1 PD
abbrev Qd:Fn:=⟨1,["thing"],M3⟩
abbrev X5:Gm:=⟨["thing"],(AL Nd).names,[],0,[],["isinstance","int","bool"],[],[],[],false,[],[],[],By⟩
theorem zci:FnScope X5.N Qd.ps (AL Nd):=Aq (by decide +kernel)
theorem zcz:Ad 200 X5 (Ab Nd)=some PD:=by ext
theorem zdv(i:Int):M3 [.int i]=some (.ok (.bl true)):=by simp![M3,PD]
abbrev Nj:Stmt:=AW 18
def PK:AH :=
 (AX (D0 (AQ M3 (AB (AA 0) AD)) (m2 (Cs λi j=>decide (j<=i)) (AA 0) (mC (.int 0)))))
def M4:List T->Option Ru:=Al 1 1 PK
abbrev Qf:Fn:=⟨2,["thing"],M4⟩
abbrev Xa:Gm:=⟨["thing"],(AL Nj).names,[],1,[("is_whole",Qd)],[],[],[],[],false,[],[],[],By⟩
theorem zbx:FnScope Xa.N Qf.ps (AL Nj):=Aq (by decide +kernel)
theorem zca:Ad 200 Xa (Ab Nj)=some PK:=by ext
theorem zje(i:Int):M4 [.int i]=some (.ok (.bl (decide (0<=i)))):=by
 unfold M4 PK
 simp![zdv]
abbrev Nl:Stmt:=AW 17
def PM:AH :=
 (AI (Ai (CI (BU (m1 (C6 "tuple") (AA 0))) (m2 Ci (m1 Bu (AA 0)) (mC (.int 3)))) (AX (mC (.bl false))) Ah)
 (AX (D0 (m2 EX (B8 (AA 0) (mC (.int 0))) (AA 1)) (D0 (m2 EX (B8 (AA 0) (mC (.int 1))) (AA 2)) (AQ M4 (AB (B8 (AA 0) (mC (.int 2))) AD))))))
def M5:List T->Option Ru:=Al 3 3 PM
abbrev Qg:Fn:=⟨3,["thing","watches","words"],M5⟩
abbrev Xc:Gm:=⟨["thing","watches","words"],(AL Nl).names,[],2,[("is_number",Qf)],["isinstance","tuple","len"],[],[],[],false,[],[],[],By⟩
theorem zdc:FnScope Xc.N Qg.ps (AL Nl):=Aq (by decide +kernel)
theorem zds:Ad 200 Xc (Ab Nl)=some PM:=by ext
def Mr:List Str:=["<","<=",">",">=","="]
theorem wd_tx:C8 Mr:=by unfold C8;decide +kernel
abbrev Nm:Stmt:=AW 19
def Rj:AF :=
 (AQ M5 (AB (AA 0) (AB (AA 1) (AB (AA 2) AD))))
def PN:AH :=
 (AX (D0 (m1 (C6 "list") (AA 0)) (m1 Dn (BX 1 [1,2] (BW (AA 0)) (AG 0) (mC (.bl true)) Rj))))
def Jd:List T->Option Ru:=Al 3 3 PN
abbrev Ls:Fn:=⟨4,["thing","watches","words"],Jd⟩
abbrev Xd:Gm:=⟨["thing","watches","words"],(AL Nm).names,["watches","words"],3,[("is_look",Qg)],["isinstance","list","all"],[],[],[],false,[],[],[],By⟩
theorem zcj:FnScope Xd.N Ls.ps (AL Nm):=Aq (by decide +kernel)
theorem zd0:Ad 200 Xd (Ab Nm)=some PN:=by ext
abbrev Nv:Stmt:=AW 33
def LO:AH :=
 (AX (m2 B5 (m1 G8 (AA 0)) (m1 Bu (AA 0))))
def Eu:List T->Option Ru:=Al 1 1 LO
abbrev HE:Fn:=⟨1,["texts"],Eu⟩
abbrev Xj:Gm:=⟨["texts"],(AL Nv).names,[],0,[],["len","set"],[],[],[],false,[],[],[],By⟩
theorem zbi:FnScope Xj.N HE.ps (AL Nv):=Aq (by decide +kernel)
theorem zbs:Ad 200 Xj (Ab Nv)=some LO:=by ext
theorem W3{val:Nat->L2.Key}{n:Nat}(h:∀i j,i<n->j<n->val i=val j->i=j):∀k,k<=n->(met val k).length=k/\∀x∈met val k,∃i,i<k/\x=val i
 |0,_=>⟨rfl,λx hx=>by cases hx⟩
 |k+1,hk=>by
  obtain⟨h1,h2⟩:=W3 h k (by omega)
  have hn:val k∉met val k:=λz=>by
   obtain⟨i,hi,e⟩:=h2 _ z;have:=h k i (by omega) (by omega) e
   omega
  have e:met val (k+1)=met val k++[val k]:=by
   conv=>lhs;unfold met
   rw[if_neg hn]
  rw[e];refine⟨by rw[yad,ybi,h1],λx hx=>?_⟩
  rcases yax.mp hx with q|q
  .obtain⟨i,hi,e⟩:=h2 x q;exact⟨i,by omega,e⟩
  .exact⟨k,by omega,yaa.mp q⟩
theorem zkz(h:ys.Nodup):H9 ys=ys.length:=by
 unfold H9;refine(W3 (n:=ys.length) (λi j hi hj e=>?_) ys.length (yac _)).1
 have e':=Sum.inr.inj e;rw[yag,yag,ya0 hi,ya0 hj]at e';exact(ydo h).mp e'
theorem Ou(val:Nat->L2.Key):∀k,(met val k).length<=k/\∀i,i<k->val i∈met val k
 |0=>⟨yac 0,λi h=>absurd h (Nat.not_lt_zero _)⟩
 |k+1=>by
  obtain⟨h1,h2⟩:=Ou val k
  by_cases hm:val k∈met val k
  .have e:met val (k+1)=met val k:=by
    conv=>lhs;unfold met
    rw[if_pos hm]
   rw[e];refine⟨by omega,λi hi=>?_⟩
   by_cases hik:i=k
   .rw[hik];exact hm
   .exact h2 i (by omega)
  .have e:met val (k+1)=met val k++[val k]:=by
    conv=>lhs;unfold met
    rw[if_neg hm]
   rw[e];refine⟨by rw[yad,ybi];omega,λi hi=>?_⟩
   by_cases hik:i=k
   .rw[hik];exact yaq _ (yaa.mpr rfl)
   .exact ybs _ (h2 i (by omega))
theorem W5(val:Nat->L2.Key):∀k,(met val k).length=k->∀i j,i<j->j<k->val i≠val j
 |0,_,i,j,_,h=>absurd h (Nat.not_lt_zero _)
 |k+1,hk,i,j,hij,hj=>by
  have hm:val k∉met val k:=λhm=>by
   have e:met val (k+1)=met val k:=by
    conv=>lhs;unfold met
    rw[if_pos hm]
   rw[e]at hk;have:=(Ou val k).1
   omega
  have e:met val (k+1)=met val k++[val k]:=by
   conv=>lhs;unfold met
   rw[if_neg hm]
  rw[e,yad,ybi]at hk
  by_cases hjk:j=k
  .intro q;rw[hjk]at q;exact hm (q▸(Ou val k).2 i (by omega))
  .exact W5 val k (by omega) i j hij (by omega)
theorem zl0(h:H9 ys=ys.length):ys.Nodup:=by
 unfold H9 at h;have key:=W5 _ _ h;rw[List.nodup_iff_pairwise_ne,yd1];intro i j hi hj hij q;refine key i j hij hj ?_;simp only[yag,ya0 hi,ya0 hj,yef];rw[q]
theorem KC(h:ys.Nodup)(hl:ys.length<1000):Eu [.lst (ys.map T.str)]=some (.ok (.bl true)):=by
 have e:((ys.length:Int) == (ys.length:Int))=true:=yf8 _;unfold Eu LO
 simp![G8,An,Ic,hl,zkz h,EC,e,ya1]
abbrev Nq:Stmt:=AW 32
def Rm:AF :=
 (AQ Ja (AB (AA 0) AD))
def PQ:AH :=
 (AI (Ai (CI (BU (m1 (C6 "list") (AA 0))) (m2 (Cs λi j=>decide (j<i)) (m1 Bu (AA 0)) (mC GF))) (CM "BadMachine" (AB (mC (.str "a machine's watches are a list of at most seven")) AD)) Ah)
 (Ai (CI (BU (m1 Dn (BX 1 [] (BW (AA 0)) (AG 0) (mC (.bl true)) Rm))) (BU (AQ Eu (AB (AA 0) AD)))) (CM "BadMachine" (AB (mC (.str "a machine's watches are unlike names")) AD)) Ah))
def M6:List T->Option Ru:=Al 1 1 PQ
abbrev Qh:Fn:=⟨4,["watches"],M6⟩
abbrev zab:Gx:=⟨[("MOST_WATCHES",GF)],[],[],[],false,true,true,none,[],[],[],true,[],[],[],[],[],[],[]⟩
abbrev Xf:Gm:=⟨["watches"],(AL Nq).names,[],3,[("is_watch_name",Lo),("are_unlike",HE)],["isinstance","list","len","all"],["BadMachine"],[],[],false,[],[],[],zab⟩
theorem za8:FnScope Xf.N Qh.ps (AL Nq):=Aq (by decide +kernel)
theorem zaf:Ad 200 Xf (Ab Nq)=some PQ:=by ext
theorem K0(ws:List Str):ws.map T.str=mT ws.length λi=>.str (ws.getD i Str.empty):=Hn (by rw[ya1]) λi hi=>by
 rw[ya5,yag,ya0 hi]
 rfl
theorem cw_ok{ws:List Str}(h:∀x∈ws,Fh x)(hd:ws.Nodup)(hl:ws.length<=7):M6 [.lst (ws.map T.str)]=some (.ok .non):=by
 have lc:=DA (n:=ws.length) (me:=Rm) (x:=none) (cs:=[]) (g:=λi=>.str (ws.getD i Str.empty)) (f:=λ_=>.bl true) λi hi=>by
  have hm:ws.getD i Str.empty∈ws:=by
   rw[yag,ya0 hi];exact yb6 hi
  unfold Rm
  simp![Sh (h _ hm)]
 rw[<- K0]at lc;have l1:ws.length<=100000:=by omega
 have e1:decide ((7:Int)<(ws.length:Int))=false:=yeg (by omega)
 have ba:((List.range ws.length).map λ_=>true).all id=true:=by simp
 have un:=KC hd (by omega)
 unfold M6 PQ GF
 simp![An,Aa,ya1,lc,l1,e1,J3,ba,un]
abbrev Nr:Stmt:=AW 34
def Mw:AH :=
 (AI (Ai (CI (BU (m1 (C6 "tuple") (AA 2))) (m2 Ci (m1 Bu (AA 2)) (mC (.int 2)))) (CM "BadMachine" (AB (mC (.str "a room is a tuple of a name and a stay")) AD)) Ah)
 (Ai (CI (BU (AQ GW (AB (B8 (AA 2) (mC (.int 0))) AD))) (BU (AQ Jd (AB (B8 (AA 2) (mC (.int 1))) (AB (AA 1) (AB (mC QD) AD)))))) (CM "BadMachine" (AB (mC (.str "a room has a name, and a stay of the machine's watches")) AD)) Ah))
def Rn:AF :=
 (B8 (AA 0) (mC (.int 0)))
def PR:AH :=
 (AI (Ai (CI (BU (m1 (C6 "list") (AA 0))) (m2 B5 (m1 Bu (AA 0)) (mC (.int 0)))) (CM "BadMachine" (AB (mC (.str "a machine's rooms are a list of one or more")) AD)) Ah)
 (AI (C1 (BW (AA 0)) (AG 2) Mw)
 (Ai (BU (AQ Eu (AB (BX 1 [] (BW (AA 0)) (AG 0) (mC (.bl true)) Rn) AD))) (CM "BadMachine" (AB (mC (.str "no two rooms have one name")) AD)) Ah)))
def M7:List T->Option Ru:=Al 2 3 PR
abbrev Qi:Fn:=⟨5,["rooms","watches"],M7⟩
abbrev zb1:Gx:=⟨[("STAY_WORDS",QD)],[],[],[],false,true,true,none,[],[],[],true,[],[],[],[],[],[],[]⟩
abbrev Xg:Gm:=⟨["rooms","watches","room"],(AL Nr).names,[],4,[("is_room_name",Lq),("is_guard",Ls),("are_unlike",HE)],["isinstance","list","len","tuple"],["BadMachine"],[],[],false,[],[],[],zb1⟩
theorem zau:FnScope Xg.N Qi.ps (AL Nr):=Aq (by decide +kernel)
theorem zb7:Ad 200 Xg (Ab Nr)=some PR:=by ext
def Fm(ws wd:List Str)(l:List T):Prop:=∀t∈l,∃x y n,t=.tup [.str x,.str y,.int n]/\x∈ws/\y∈wd/\0<=n
theorem Fm.sh{ws:List Str}(h:Fm ws wd l):Ak l=true:=by
 rw[DJ,yaj];intro t ht;obtain⟨x,y,n,rfl,_⟩:=h t ht
 rfl
theorem Fm.more{ws vs:List Str}(h:Fm ws wd l)(hs:∀x∈ws,x∈vs):Fm vs wd l:=λt ht=>by
 obtain⟨x,y,n,e,h1,h2,h3⟩:=h t ht;exact⟨x,y,n,e,hs x h1,h2,h3⟩
abbrev JN(wd:List Str):T:=.nd false .rt (wd.map T.str)
theorem zjr{ws:List Str}(h:C8 ws)(hd:C8 wd){t:T}(ht:∃x y n,t=.tup [.str x,.str y,.int n]/\x∈ws/\y∈wd/\0<=n):M5 [t,.lst (ws.map T.str),JN wd]=some (.ok (.bl true)):=by
 obtain⟨x,y,n,rfl,h1,h2,h3⟩:=ht;have e1:=Lf (o:=false) (k:=.lst) h (h x h1);have e2:=Lf (o:=false) (k:=.rt) hd (hd y h2);have e3:=zje n;rw[yew h1]at e1;rw[yew h2]at e2;rw[yew h3]at e3;unfold M5 PM
 simp![JE,An,Aa,e1,e2,e3]
theorem XT{ws:List Str}(h:C8 ws)(hd:C8 wd)(hl:l.length<=1000)(hk:Fm ws wd l):Jd [.lst l,.lst (ws.map T.str),JN wd]=some (.ok (.bl true)):=by
 have hs:=hk.sh;have es:=AN l hs;have em:=mT_of l .non
 have sg:∀i,(l.getD i .non).sh=true:=λi=>by
  by_cases hi:i<l.length
  .rw[yag,ya0 hi];rw[DJ,yaj]at hs;exact hs _ (yb6 hi)
  .rw[yag,ybj (by omega)]
   rfl
 have lc:=DA (n:=l.length) (me:=Rj) (x:=none) (cs:=[some (.lst (ws.map T.str)),some (JN wd)]) (g:=λi=>l.getD i .non) (f:=λ_=>.bl true) λi hi=>by
  have hm:l.getD i .non∈l:=by
   rw[yag,ya0 hi];exact yb6 hi
  have e:=zjr h hd (hk _ hm);unfold Rj
  simp![An,Aa,e,BK _ (sg i),sg i]
 rw[<- em]at lc;have l1:l.length<=100000:=by omega
 have ba:((List.range l.length).map λ_=>true).all id=true:=by simp
 unfold Jd PN
 simp![An,Aa,hs,es,l1,lc,J3,ba]
def K1:List Str:=["<","<="]
theorem znj:QD=JN K1:=rfl
theorem k_wds:QC=JN Mr:=rfl
theorem st_tx:C8 K1:=by unfold C8;decide +kernel
structure RsOk(ws:List Str)(rs:List (Str×List T)):Prop where
 l1:1<=rs.length
 l64:rs.length<=64
 nm:∀r∈rs,CB r.1/\1<=r.1.cps.size/\r.1.cps.size<=60
 nd:(rs.map (·.1)).Nodup
 lk:∀r∈rs,Fm ws K1 r.2/\r.2.length<=1000
abbrev CG(r:Str×List T):T:=.tup [.str r.1,.lst r.2]
abbrev Dt(rs:List (Str×List T)):T:=.lst (rs.map CG)
theorem UW{ws:List Str}{rs:List (Str×List T)}(h:RsOk ws rs):Ak (rs.map CG)=true:=by
 rw[DJ,yaj];intro t ht;obtain⟨r,hr,rfl⟩:=yai.mp ht;have:=(h.lk r hr).1.sh;show((!false) && (true && (((!false) && Ak r.2) && true)))=true;rw[this]
 rfl
theorem zkn{ws:List Str}(hw:C8 ws){rs:List (Str×List T)}(h:RsOk ws rs):M7 [Dt rs,.lst (ws.map T.str)]=some (.ok .non):=by
 have sr:=UW h;have er:=AN _ sr;have hl1:=h.l1;have hl2:=h.l64;have en:(((rs.map CG).length:Int) == 0)=false:=by rw[yff,ya1];omega
 obtain⟨τ,e,y,rfl⟩:=Q6 (b:=AG 2) (body:=Mw) (ts:=rs.map CG) (τ:=[some (Dt rs),some (.lst (ws.map T.str)),none]) (λi τ=>∃y,τ=[some (Dt rs),some (.lst (ws.map T.str)),y]) ⟨_,rfl⟩ λi t τ h1 h2=>by
  obtain⟨y,rfl⟩:=h2;obtain⟨r,hr,rfl⟩:=yai.mp (yas h1);obtain⟨n1,n2,n3⟩:=h.nm r hr;obtain⟨k1,k2⟩:=h.lk r hr;have e1:=UX n1 n2 n3;have e2:=XT hw st_tx k2 k1;have e3:=k1.sh;refine⟨[some (Dt rs),some (.lst (ws.map T.str)),some (CG r)],by simp![],[some (Dt rs),some (.lst (ws.map T.str)),some (CG r)],?_,_,rfl⟩
  unfold Mw
  simp![znj,JE,An,Aa,e1,e2,e3,AN _ e3]
 have lc:=Pt (b:=AG 0) (me:=Rn) (ts:=rs.map CG) (τ:=[none]) (λ_ τ=>∃y,τ=[y]) (λi=>.str ((rs.map (·.1)).getD i Str.empty)) ⟨none,rfl⟩ λi t τ h1 h2=>by
  obtain⟨y,rfl⟩:=h2;have hi:i<rs.length:=by simpa using (ya4.mp h1).1
  rw[ya5,ya0 hi]at h1;have et:t=CG rs[i]:=(yau h1).symm;subst et;have k1:=(h.lk rs[i] (yb6 hi)).1.sh;have eg:(rs.map (·.1)).getD i Str.empty=rs[i].1:=by simp[hi]
  refine⟨[some (CG rs[i])],by simp![],?_,_,rfl⟩
  rw[eg];unfold Rn
  simp![k1]
 have em:(List.range (rs.map CG).length).map (λi=>T.str ((rs.map (·.1)).getD i Str.empty))=(rs.map (·.1)).map T.str:=by
  rw[K0 (rs.map (·.1)),ya1,ya1]
  rfl
 rw[em]at lc;have un:=KC h.nd (by rw[ya1];omega)
 have ll:(rs.map CG).length<=100000:=by rw[ya1];omega
 unfold M7 PR
 simp![EC,An,Aa,sr,er,en,e,lc,un,ll]
abbrev Nw:Stmt:=AW 36
def Rq:AF :=
 (AQ Ja (AB (AA 0) AD))
def Ro:AF :=
 (m2 EX (AA 0) (AA 1))
def PV:AH :=
 (AI (Ai (CI (BU (m1 (C6 "list") (AA 0))) (BU (m1 Dn (BX 1 [] (BW (AA 0)) (AG 0) (mC (.bl true)) Rq)))) (AX (mC (.bl false))) Ah)
 (AX (D0 (AQ Eu (AB (AA 0) AD)) (m1 Dn (BX 1 [1] (BW (AA 0)) (AG 0) (mC (.bl true)) Ro)))))
def M9:List T->Option Ru:=Al 2 2 PV
abbrev Ql:Fn:=⟨4,["thing","watches"],M9⟩
abbrev Xk:Gm:=⟨["thing","watches"],(AL Nw).names,["watches"],3,[("is_watch_name",Lo),("are_unlike",HE)],["isinstance","list","all"],[],[],[],false,[],[],[],By⟩
theorem zax:FnScope Xk.N Ql.ps (AL Nw):=Aq (by decide +kernel)
theorem zba:Ad 200 Xk (Ab Nw)=some PV:=by ext
theorem zn3{ws:List Str}(hw:∀x∈ws,Fh x)(hn:∀x∈ns,x∈ws)(hd:ns.Nodup)(hl:ns.length<=100):M9 [.lst (ns.map T.str),.lst (ws.map T.str)]=some (.ok (.bl true)):=by
 have tw:C8 ws:=λx hx=>Jq (hw x hx)
 have mem:∀i,i<ns.length->ns.getD i Str.empty∈ns:=λi hi=>by
  rw[yag,ya0 hi];exact yb6 hi
 have lc:=DA (n:=ns.length) (me:=Rq) (x:=none) (cs:=[]) (g:=λi=>.str (ns.getD i Str.empty)) (f:=λ_=>.bl true) λi hi=>by
  unfold Rq
  simp![Sh (hw _ (hn _ (mem i hi)))]
 have lc2:=DA (n:=ns.length) (me:=Ro) (x:=none) (cs:=[some (.lst (ws.map T.str))]) (g:=λi=>.str (ns.getD i Str.empty)) (f:=λ_=>.bl true) λi hi=>by
  have e:=Lf (o:=false) (k:=.lst) tw (tw _ (hn _ (mem i hi)));rw[yew (hn _ (mem i hi))]at e;unfold Ro
  simp![An,Aa,e]
 rw[<- K0]at lc lc2;have l1:ns.length<=100000:=by omega
 have ba:((List.range ns.length).map λ_=>true).all id=true:=by simp
 have un:=KC hd (by omega)
 unfold M9 PV
 simp![An,Aa,ya1,lc,lc2,l1,J3,ba,un]
abbrev Nh:Stmt:=AW 28
def LN:AH :=
 (AI (Ai (BU (m1 (C6 "str") (AA 0))) (AX (mC (.bl false))) Ah)
 (AX (CI (m2 B5 (AA 0) (mC (.str ""))) (D0 (m2 EX (B8 (AA 0) (m1 Du (mC (.int 1)))) (B0 (AB (mC (.str "!")) (AB (mC (.str "?")) AD)))) (AQ Jc (AB (Cj (Ek (AA 0) none (some (m1 Du (mC (.int 1))))) (ES (AA 0) none (some (m1 Du (mC (.int 1)))))) AD))))))
def IP:List T->Option Ru:=Al 1 1 LN
abbrev Qe:Fn:=⟨3,["thing"],IP⟩
abbrev X8:Gm:=⟨["thing"],(AL Nh).names,[],2,[("is_name",Lr)],["isinstance","str"],[],[],[],false,[],[],[],By⟩
theorem zda:FnScope X8.N Qe.ps (AL Nh):=Aq (by decide +kernel)
theorem zdq:Ad 200 X8 (Ab Nh)=some LN:=by ext
theorem Z2(h:∀c∈Tx.cs x,c<128):PyData.strOk x=true:=by
 unfold PyData.strOk;rw[<- Array.all_toList,yaj];intro c hc;have:=h c hc;exact yew (by omega)
def HG(z:Str):Prop:=z=Str.ofString ""\/∃(y:Str) (c:Nat),Dp y/\1<=y.cps.size/\y.cps.size<=8/\(c=33\/c=63)/\Tx.cs z=Tx.cs y++[c]
theorem Ig(h:Dp y):∀c∈Tx.cs y,97<=c/\c<=122:=λc hc=>by
 obtain⟨i,hi⟩:=List.getElem?_of_mem hc;have hl:i<y.cps.size:=by simpa using (ya4.mp hi).1
 have:=h i hl;rw[ybx,yb1 hl]at hi;rw[ybk,yb1 hl]at this;cases hi;exact this
theorem zi1(h:HG z):∀c∈Tx.cs z,c<128/\c≠32/\c≠10/\c≠58:=λc hc=>by
 rcases h with rfl|⟨y,d,h1,_,_,hd,e⟩
 .rw[show Tx.cs (Str.ofString "")=[] by decide +kernel]at hc
  cases hc
 .rw[e]at hc
  rcases yax.mp hc with hc|hc
  .have:=Ig h1 c hc
   omega
  .rw[yaa.mp hc]
   omega
theorem N1(h:HG z):PyData.strOk z=true:=Z2 λc hc=>(zi1 h c hc).1
theorem zlg(h:HG z):IP [.str z]=some (.ok (.bl true)):=by
 have o0:PyData.strOk (Str.ofString "")=true:=by decide +kernel
 have tl:∀c,(c=33\/c=63)->EX (.str (Str.mk #[c])) (.tup [.str (Str.ofString "!"),.str (Str.ofString "?")])=some (.bl true):=λc hc=>by
  rcases hc with rfl|rfl<;>ext
 have key:∀z y:Str,PyData.strOk z=true->z≠Str.ofString ""->z.length<=100000->∀c,(c=33\/c=63)->Aw z.cps.toList (-1)=some c->Txt.slice z none (some (-1))=y->Dp y->1<=y.cps.size->y.cps.size<=8->IP [.str z]=some (.ok (.bl true)):=by
  intro z y hz hne hl c hc ha hs h1 h2 h3;have e:=GQ hz o0;rw[yeg hne]at e;have en:=WT h1 h2 h3;unfold IP LN
  simp![e,hl,ha,tl c hc,ES,hs,en,show(-(1:Int))=-1 from rfl]
 rcases id h with rfl|⟨y,c,h1,h2,h3,hc,e⟩
 .have e:=GQ o0 o0;rw[yew rfl]at e;unfold IP LN
  simp![e]
 .have hl:(Tx.cs z).length=(Tx.cs y).length+1:=by rw[e,yad];rfl
  have h3':(Tx.cs y).length<=8:=h3;refine key z y (N1 h) (λq=>?_) (by rw[Tx.cs_len];omega) c hc ?_ ?_ h1 h2 h3
  .rw[q,show Tx.cs (Str.ofString "")=[] by decide +kernel]at hl
   exact absurd hl (by rw[ybd];omega)
  .show Aw (Tx.cs z) (-1)=some c;rw[e];unfold Aw DB;rw[yad,ybi,if_neg (by decide),if_pos (by omega)]
   show(Tx.cs y++[c])[((-1:Int)+(((Tx.cs y).length+1:Nat):Int)).toNat]?=some c;rw[show((-1:Int)+(((Tx.cs y).length+1:Nat):Int)).toNat=(Tx.cs y).length by omega,yb5 (yac _),Nat.sub_self]
   rfl
  .have e2:Txt.slice z none (some (-1))=StrLaws.sliceText z none (some (-1)):=rfl;rw[e2,StrLaws.sliceText_neg_hi z none (by decide) (by rw[Tx.cs_len,hl];omega)]
   have e3:((-1:Int)+(z.length:Int))=(((Tx.cs y).length:Nat):Int):=by rw[Tx.cs_len,hl];omega
   rw[e3];refine Tx.cs_ext ?_;show Tx.cs (Txt.slice z none (some (((Tx.cs y).length:Nat):Int)))=Tx.cs y;rw[Tx.sl_to (by omega),e,List.take_left' rfl]
abbrev Nb:Stmt:=AW 29
def PC:AH :=
 (AX (Dw (m1 (C6 "list") (AA 0)) (m1 CZ (AA 0)) (AA 0)))
def J9:List T->Option Ru:=Al 1 1 PC
abbrev Qc:Fn:=⟨1,["thing"],J9⟩
abbrev X4:Gm:=⟨["thing"],(AL Nb).names,[],0,[],["isinstance","list"],[],[],[],false,[],[],[],By⟩
theorem zch:FnScope X4.N Qc.ps (AL Nb):=Aq (by decide +kernel)
theorem zcy:Ad 200 X4 (Ab Nb)=some PC:=by ext
theorem LB(l:List T)(h:Ak l=true):J9 [.lst l]=some (.ok (.own l)):=by
 unfold J9 PC
 simp![h,AN _ h]
abbrev Nu:Stmt:=AW 35
def Mx:AH :=
 (AI (Ai (BU (m1 (EW RM) (AA 3))) (CM "BadMachine" (AB (mC (.str "a machine's doors are doors")) AD)) Ah)
 (AI (Ai (CI (m2 Gr (Bs BB B3 0 (AA 3)) (AA 1)) (m2 Gr (Bs BB B3 1 (AA 3)) (AA 1))) (CM "BadMachine" (AB (mC (.str "a door leads from one room of the machine to another")) AD)) Ah)
 (AI (Ai (BU (AQ Jd (AB (Bs BB B3 2 (AA 3)) (AB (AA 2) (AB (mC QC) AD))))) (CM "BadMachine" (AB (mC (.str "a door's guard is one of the machine's watches")) AD)) Ah)
 (Ai (CI (BU (AQ M9 (AB (Bs BB B3 3 (AA 3)) (AB (AA 2) AD)))) (BU (AQ IP (AB (Bs BB B3 4 (AA 3)) AD)))) (CM "BadMachine" (AB (mC (.str "a door sets watches of the machine, each once, and has at most one sign")) AD)) Ah))))
def PU:AH :=
 (AI (Ai (BU (m1 (C6 "list") (AA 0))) (CM "BadMachine" (AB (mC (.str "a machine's doors are a list")) AD)) Ah)
 (C1 (BW (AA 0)) (AG 3) Mx))
def M8:List T->Option Ru:=Al 3 4 PU
abbrev Qk:Fn:=⟨5,["doors","names","watches"],M8⟩
abbrev zb3:Gx:=⟨[("WORDS",QC)],[("Door",BB,B3)],[],[],false,true,true,none,[],[],[],true,[],[("Door",RM)],[],[],[],[],[]⟩
abbrev Xi:Gm:=⟨["doors","names","watches","door"],(AL Nu).names,[],4,[("is_guard",Ls),("are_noughts",Ql),("is_sign",Qe)],["isinstance","list"],["BadMachine"],[],[],false,[],[],[],zb3⟩
theorem zaw:FnScope Xi.N Qk.ps (AL Nu):=Aq (by decide +kernel)
theorem zb9:Ad 200 Xi (Ab Nu)=some PU:=by ext
structure Dr where
 s:Str
 e:Str
 g:List T
 n:List Str
 z:Str
abbrev AR(d:Dr):T:=.obj (.ins BB B3) [.str d.s,.str d.e,.lst d.g,.lst (d.n.map T.str),.str d.z]
structure DrOk(ws ns:List Str)(d:Dr):Prop where
 s:d.s∈ns
 e:d.e∈ns
 g:Fm ws Mr d.g
 gl:d.g.length<=1000
 n:∀x∈d.n,x∈ws
 nd:d.n.Nodup
 nl:d.n.length<=100
 z:HG d.z
theorem RE{ws:List Str}{d:Dr}(h:DrOk ws ns d):(AR d).sh=true:=by
 have:=h.g.sh
 simp![this,Aa]
theorem WO{o:Bool}{k:Kd}(h:C8 ys)(hx:PyData.strOk x=true):Gr (.str x) (.nd o k (ys.map T.str))=some (.bl (!decide (x∈ys))):=by
 have e:=Lf (o:=o) (k:=k) h hx;unfold EX at e;unfold Gr;simp only at e ⊢;split at e
 .rename_i hok;rw[if_pos hok];injection e with e
  injection e with e
  rw[e]
 .cases e
theorem zkp{ws:List Str}(hw:∀x∈ws,Fh x)(hn:C8 ns){ds:List Dr}(h:∀d∈ds,DrOk ws ns d):M8 [.lst (ds.map AR),.lst (ns.map T.str),.lst (ws.map T.str)]=some (.ok .non):=by
 have tw:C8 ws:=λx hx=>Jq (hw x hx)
 have sd:Ak (ds.map AR)=true:=by
  rw[DJ,yaj];intro t ht;obtain⟨d,hd,rfl⟩:=yai.mp ht;exact RE (h d hd)
 have ed:=AN _ sd
 obtain⟨τ,e,y,rfl⟩:=Q6 (b:=AG 3) (body:=Mx) (ts:=ds.map AR) (τ:=[some (.lst (ds.map AR)),some (.lst (ns.map T.str)),some (.lst (ws.map T.str)),none]) (λi τ=>∃y,τ=[some (.lst (ds.map AR)),some (.lst (ns.map T.str)),some (.lst (ws.map T.str)),y]) ⟨_,rfl⟩ λi t τ h1 h2=>by
  obtain⟨y,rfl⟩:=h2;obtain⟨d,hd,rfl⟩:=yai.mp (yas h1);have k:=h d hd;have e1:=WO (o:=false) (k:=.lst) hn (hn _ k.s);have e2:=WO (o:=false) (k:=.lst) hn (hn _ k.e);rw[yew k.s]at e1;rw[yew k.e]at e2;have e3:=XT tw wd_tx k.gl k.g;have e4:=zn3 hw k.n k.nd k.nl;have e5:=zlg k.z;have e6:=k.g.sh;have ci:List.lookup BB RM=some true:=rfl;refine⟨[some (.lst (ds.map AR)),some (.lst (ns.map T.str)),some (.lst (ws.map T.str)),some (AR d)],by simp![],[some (.lst (ds.map AR)),some (.lst (ns.map T.str)),some (.lst (ws.map T.str)),some (AR d)],?_,_,rfl⟩
  unfold Mx
  simp![k_wds,EW,ci,An,Aa,e1,e2,e3,e4,e5,e6,AN _ e6]
 unfold M8 PU
 simp![An,Aa,sd,ed,e]
abbrev Kg:Stmt:=Cz 30 0
def LV:AH :=
 (AI (Dj BB B3 0 0 (AA 1))
 (AI (Dj BB B3 1 0 (AA 2))
 (AI (Dj BB B3 2 0 (AQ J9 (AB (AA 3) AD)))
 (AI (Dj BB B3 3 0 (AQ J9 (AB (AA 4) AD)))
 (Dj BB B3 4 0 (AA 5))))))
def HR:List T->Option Ru:=FN BB B3 6 6 LV
abbrev Qw:Fn:=⟨2,["self","start","end","guard","noughts","sign"],HR⟩
abbrev zc6:Gx:=⟨[],[],[],[],false,true,true,some (BB,B3),[],[],[],true,[],[],[],[],[],[],[]⟩
abbrev Q1:Gm:=⟨["self","start","end","guard","noughts","sign"],(AL Kg).names,[],1,[("own_copy",Qc)],[],[],[],[],false,[],[],[],zc6⟩
theorem zbz:FnScope Q1.N Qw.ps (AL Kg):=Aq (by decide +kernel)
theorem zcc:Ad 200 Q1 (Ab Kg)=some LV:=by ext
theorem di_ok{ws:List Str}{d:Dr}(h:DrOk ws ns d):HR [.str d.s,.str d.e,.lst d.g,.lst (d.n.map T.str),.str d.z]=some (.ok (AR d)):=by
 have hg:=h.g.sh;have e1:=LB d.g hg;have e2:=LB (d.n.map T.str) (Aa _);refine OS λp=>?_
 unfold FL LV
 simp![e1,e2,hg,AN _ hg,An,Aa]
abbrev Kc:Stmt:=Cz 31 0
def Rv:AF :=
 (AA 0)
def NA:AH :=
 (Im A4 BG 1 0 (AA 4) (m1 CZ (AA 5)))
def P4:AH :=
 (AI (Ed (AQ M6 (AB (AA 1) AD)))
 (AI (Ed (AQ M7 (AB (AA 2) (AB (AA 1) AD))))
 (AI (Ed (AQ M8 (AB (AA 3) (AB (BX 2 [] (BW (AA 2)) (Bf 2 (Am (AG 0) (Am (AG 1) Bi))) (mC (.bl true)) Rv) (AB (AA 1) AD)))))
 (AI (Ai (CI (m2 (Cs λi j=>decide (j<i)) (m1 Bu (AA 2)) (mC HA)) (m2 (Cs λi j=>decide (j<i)) (m1 Bu (AA 3)) (mC GH))) (CM "TooMany" (AB (mC (.str "a machine has at most 64 rooms and at most 200 doors")) AD)) Ah)
 (AI (Dj A4 BG 0 0 (m1 CZ (AA 1)))
 (AI (Dj A4 BG 1 0 LY)
 (AI (C1 (BW (AA 2)) (Bf 2 (Am (AG 4) (Am (AG 5) Bi))) NA)
 (Dj A4 BG 2 0 (m1 CZ (AA 3))))))))))
def HN:List T->Option Ru:=FN A4 BG 4 6 P4
abbrev Qn:Fn:=⟨6,["self","watches","rooms","doors"],HN⟩
abbrev zap:Gx:=⟨[("MOST_ROOMS",HA),("MOST_DOORS",GH)],[],[],[],false,true,true,some (A4,BG),[],[],[],true,[],[],[],[],[],[],[]⟩
abbrev QX:Gm:=⟨["self","watches","rooms","doors","name","stay"],(AL Kc).names,[],5,[("check_watches",Qh),("check_rooms",Qi),("check_doors",Qk)],["len","list"],["TooMany"],[],[],false,[],[],[],zap⟩
theorem zak:FnScope QX.N Qn.ps (AL Kc):=Aq (by decide +kernel)
theorem zas:Ad 200 QX (Ab Kc)=some P4:=by ext
structure Mc where
 ws:List Str
 rs:List (Str×List T)
 ds:List Dr
abbrev FX(M:Mc):T:=.obj (.ins A4 BG) [.lst (M.ws.map T.str),.obj (.sdc (M.rs.map (·.1))) (M.rs.map λr=>.lst r.2),.lst (M.ds.map AR)]
structure McOk(M:Mc):Prop where
 w:∀x∈M.ws,Fh x
 wd:M.ws.Nodup
 wl:M.ws.length<=7
 r:RsOk M.ws M.rs
 d:∀d∈M.ds,DrOk M.ws (M.rs.map (·.1)) d
 dl:M.ds.length<=200
theorem McOk.tw{M:Mc}(h:McOk M):C8 M.ws:=λx hx=>Jq (h.w x hx)
theorem McOk.tn{M:Mc}(h:McOk M):C8 (M.rs.map (·.1)):=λx hx=>by
 obtain⟨r,hr,rfl⟩:=yai.mp hx;exact UY (h.r.nm r hr).1
theorem McOk.sd{M:Mc}(h:McOk M):Ak (M.ds.map AR)=true:=by
 rw[DJ,yaj];intro t ht;obtain⟨d,hd,rfl⟩:=yai.mp ht;exact RE (h.d d hd)
theorem McOk.ss{M:Mc}(h:McOk M):Ak (M.rs.map λr=>T.lst r.2)=true:=by
 rw[DJ,yaj];intro t ht;obtain⟨r,hr,rfl⟩:=yai.mp ht;show((!false) && Ak r.2)=true;rw[(h.r.lk r hr).1.sh]
 rfl
theorem McOk.sh{M:Mc}(h:McOk M):(FX M).sh=true:=by
 simp![Aa,h.ss,h.sd]
theorem W0{M:Mc}(h:McOk M):HN [.lst (M.ws.map T.str),Dt M.rs,.lst (M.ds.map AR)]=some (.ok (FX M)):=by
 have cw:=cw_ok h.w h.wd h.wl;have cr:=zkn h.tw h.r;have cd:=zkp h.w h.tn h.d;have sr:=UW h.r;have er:=AN _ sr;have sd:=h.sd;have ed:=AN _ sd;have h1:=h.r.l1;have h64:=h.r.l64;have h200:=h.dl
 have lc:=Pt (b:=Bf 2 (Am (AG 0) (Am (AG 1) Bi))) (me:=Rv) (ts:=M.rs.map CG) (τ:=[none,none]) (λ_ τ=>∃x y,τ=[x,y]) (λi=>.str ((M.rs.map (·.1)).getD i Str.empty)) ⟨none,none,rfl⟩ λi t τ h1 h2=>by
  obtain⟨x,y,rfl⟩:=h2;have hi:i<M.rs.length:=by simpa using (ya4.mp h1).1
  rw[ya5,ya0 hi]at h1;have et:t=CG M.rs[i]:=(yau h1).symm;subst et;have eg:(M.rs.map (·.1)).getD i Str.empty=M.rs[i].1:=by simp[hi]
  refine⟨[some (.str M.rs[i].1),some (.lst M.rs[i].2)],by simp![],?_,_,_,rfl⟩
  rw[eg];unfold Rv
  simp![]
 have em:(List.range (M.rs.map CG).length).map (λi=>T.str ((M.rs.map (·.1)).getD i Str.empty))=(M.rs.map (·.1)).map T.str:=by
  rw[K0 (M.rs.map (·.1)),ya1,ya1]
  rfl
 rw[em]at lc;have ll:(M.rs.map CG).length<=100000:=by rw[ya1];omega
 have g1:decide ((64:Int)<((M.rs.map CG).length:Int))=false:=yeg (by rw[ya1];omega)
 have g2:decide ((200:Int)<((M.ds.map AR).length:Int))=false:=yeg (by rw[ya1];omega)
 refine OS λp=>?_
 obtain⟨τ,e,x,y,rfl⟩:=Q6 (b:=Bf 2 (Am (AG 4) (Am (AG 5) Bi))) (body:=NA) (ts:=M.rs.map CG) (τ:=[some (.oob p A4 BG [.own (M.ws.map T.str),.osd [] []]),some (.lst (M.ws.map T.str)),some (Dt M.rs),some (.lst (M.ds.map AR)),none,none])
  (λi τ=>∃x y,τ=[some (.oob p A4 BG [.own (M.ws.map T.str),.osd ((M.rs.take i).map (·.1)) ((M.rs.take i).map λr=>.lst r.2)]),some (.lst (M.ws.map T.str)),some (Dt M.rs),some (.lst (M.ds.map AR)),x,y]) ⟨none,none,by rw[List.take_zero];rfl⟩ λi t τ h1 h2=>by
  obtain⟨x,y,rfl⟩:=h2;have hi:i<M.rs.length:=by simpa using (ya4.mp h1).1
  rw[ya5,ya0 hi]at h1;have et:t=CG M.rs[i]:=(yau h1).symm;subst et;have k1:=(h.r.lk _ (yb6 hi)).1.sh
  have hno:M.rs[i].1∉(M.rs.take i).map (·.1):=λhm=>by
   rw[List.map_take]at hm;obtain⟨j,hj,ej⟩:=List.mem_iff_getElem.mp hm;rw[ydp,ya1]at hj;have hnd:=h.r.nd;rw[List.getElem_take]at ej;have e2:(M.rs.map (·.1))[j]'(by rw[ya1];omega)=(M.rs.map (·.1))[i]'(by rw[ya1];exact hi):=by rw[ej,List.getElem_map]
   have:=(ydo hnd).mp e2
   omega
  have hlen:((M.rs.take i).map (·.1)).length<100000:=by
   rw[ya1,ydp]
   omega
  have et2:M.rs.take (i+1)=M.rs.take i++[M.rs[i]]:=by rw[List.take_append_getElem]
  refine⟨[some (.oob p A4 BG [.own (M.ws.map T.str),.osd ((M.rs.take i).map (·.1)) ((M.rs.take i).map λr=>.lst r.2)]),some (.lst (M.ws.map T.str)),some (Dt M.rs),some (.lst (M.ds.map AR)),some (.str M.rs[i].1),some (.lst M.rs[i].2)],by simp![],[some (.oob p A4 BG [.own (M.ws.map T.str),.osd ((M.rs.take (i+1)).map (·.1)) ((M.rs.take (i+1)).map λr=>.lst r.2)]),some (.lst (M.ws.map T.str)),some (Dt M.rs),some (.lst (M.ds.map AR)),some (.str M.rs[i].1),some (.lst M.rs[i].2)],?_,_,_,rfl⟩
  rw[et2,yb9,yb9];unfold NA
  simp![k1,AN _ k1,hno,hlen]
 rw[ya1,ycu]at e;have es:=AN _ h.ss;unfold FL P4 HA GH
 simp![An,Aa,cw,cr,cd,sr,er,sd,ed,lc,ll,g1,g2,e,es]
abbrev K9:Stmt:=Cz 31 1
def PY:AH :=
 (AX (Cj (m1 CZ (Bs A4 BG 0 (AA 0))) (El (Bs A4 BG 0 (AA 0)))))
def HJ:List T->Option Ru:=Al 1 1 PY
abbrev YE:Fn:=⟨1,["self"],HJ⟩
abbrev za3:Gx:=⟨[],[("Machine",A4,BG)],[],[],false,true,true,none,[],[],[],true,[],[],[],[],[],[],[]⟩
abbrev QU:Gm:=⟨["self"],(AL K9).names,[],0,[],["list"],[],[],[],false,[],[],[],za3⟩
theorem za2:FnScope QU.N YE.ps (AL K9):=Aq (by decide +kernel)
theorem za6:Ad 200 QU (Ab K9)=some PY:=by ext
theorem zjh{M:Mc}(h:McOk M):HJ [FX M]=some (.ok (.own (M.ws.map T.str))):=by
 unfold HJ PY
 simp![An,Aa,h.ss,h.sd,AN _ h.ss,AN _ h.sd]
abbrev Kb:Stmt:=Cz 31 2
def P0:AH :=
 (AX (Cj (m1 CZ (Bs A4 BG 1 (AA 0))) (El (Bs A4 BG 1 (AA 0)))))
def HM:List T->Option Ru:=Al 1 1 P0
abbrev YG:Fn:=⟨1,["self"],HM⟩
abbrev zac:Gx:=⟨[],[("Machine",A4,BG)],[],[],false,true,true,none,[],[],[],true,[],[],[],[],[],[],[]⟩
abbrev QW:Gm:=⟨["self"],(AL Kb).names,[],0,[],["list"],[],[],[],false,[],[],[],zac⟩
theorem za9:FnScope QW.N YG.ps (AL Kb):=Aq (by decide +kernel)
theorem zag:Ad 200 QW (Ab Kb)=some P0:=by ext
theorem zjl{M:Mc}(h:McOk M):HM [FX M]=some (.ok (.own ((M.rs.map (·.1)).map T.str))):=by
 unfold HM P0
 simp![El,An,Aa,h.ss,h.sd,AN _ h.ss,AN _ h.sd]
abbrev Ke:Stmt:=Cz 31 3
def P5:AH :=
 (AX (Cj (m1 CZ (Bs A4 BG 2 (AA 0))) (El (Bs A4 BG 2 (AA 0)))))
def Fj:List T->Option Ru:=Al 1 1 P5
abbrev Lw:Fn:=⟨1,["self"],Fj⟩
abbrev zad:Gx:=⟨[],[("Machine",A4,BG)],[],[],false,true,true,none,[],[],[],true,[],[],[],[],[],[],[]⟩
abbrev QY:Gm:=⟨["self"],(AL Ke).names,[],0,[],["list"],[],[],[],false,[],[],[],zad⟩
theorem zaa:FnScope QY.N Lw.ps (AL Ke):=Aq (by decide +kernel)
theorem zah:Ad 200 QY (Ab Ke)=some P5:=by ext
theorem zjo{M:Mc}(h:McOk M):Fj [FX M]=some (.ok (.own (M.ds.map AR))):=by
 unfold Fj P5
 simp![An,Aa,h.ss,h.sd,AN _ h.ss,AN _ h.sd]
abbrev Ka:Stmt:=Cz 31 4
def PZ:AH :=
 (AX (m1 CZ (JJ (Bs A4 BG 1 (AA 0)) (AA 1))))
def HL:List T->Option Ru:=Al 2 2 PZ
abbrev YF:Fn:=⟨1,["self","room"],HL⟩
abbrev zao:Gx:=⟨[],[("Machine",A4,BG)],[],[],false,true,true,none,[],[],[],true,[],[],[],[],[],[],[]⟩
abbrev QV:Gm:=⟨["self","room"],(AL Ka).names,[],0,[],["list"],[],[],[],false,[],[],[],zao⟩
theorem zaj:FnScope QV.N YF.ps (AL Ka):=Aq (by decide +kernel)
theorem zar:Ad 200 QV (Ab Ka)=some PZ:=by ext
theorem zgt{ws:List Str}(hd:ws.Nodup)(hi:i<ws.length):GJ ws ws[i]=some i:=by
 unfold GJ;rw[ybg];refine⟨hi,@decide_eq_true _ (Classical.propDecidable _) rfl,λj hj q=>?_⟩
 have:=@of_decide_eq_true _ (Classical.propDecidable _) q;have:=(ydo hd).mp this
 omega
theorem zjk{M:Mc}(h:McOk M)(hi:i<M.rs.length):HL [FX M,.str M.rs[i].1]=some (.ok (.own M.rs[i].2)):=by
 have e:=zgt h.r.nd (i:=i) (by rw[ya1];exact hi)
 rw[List.getElem_map]at e;have e2:(M.rs.map λr=>T.lst r.2)[i]?=some (.lst M.rs[i].2):=by rw[ya5,ya0 hi];rfl
 have k:=(h.r.lk _ (yb6 hi)).1.sh;unfold HL PZ
 simp![JJ,An,Aa,h.ss,h.sd,AN _ h.ss,AN _ h.sd,e,e2,k,AN _ k]
abbrev Kh:Stmt:=Cz 30 1
def Pg:AH :=
 (AX (Cj (m1 CZ (Bs BB B3 2 (AA 0))) (El (Bs BB B3 2 (AA 0)))))
def IV:List T->Option Ru:=Al 1 1 Pg
abbrev YJ:Fn:=⟨1,["self"],IV⟩
abbrev zc7:Gx:=⟨[],[("Door",BB,B3)],[],[],false,true,true,none,[],[],[],true,[],[],[],[],[],[],[]⟩
abbrev Q2:Gm:=⟨["self"],(AL Kh).names,[],0,[],["list"],[],[],[],false,[],[],[],zc7⟩
theorem zc0:FnScope Q2.N YJ.ps (AL Kh):=Aq (by decide +kernel)
theorem zcd:Ad 200 Q2 (Ab Kh)=some Pg:=by ext
theorem zkj{d:Dr}(h:Ak d.g=true):IV [AR d]=some (.ok (.own d.g)):=by
 unfold IV Pg
 simp![An,Aa,h,AN _ h]
abbrev Kf:Stmt:=Cz 30 2
def Pf:AH :=
 (AX (Cj (m1 CZ (Bs BB B3 3 (AA 0))) (El (Bs BB B3 3 (AA 0)))))
def IU:List T->Option Ru:=Al 1 1 Pf
abbrev YI:Fn:=⟨1,["self"],IU⟩
abbrev zc5:Gx:=⟨[],[("Door",BB,B3)],[],[],false,true,true,none,[],[],[],true,[],[],[],[],[],[],[]⟩
abbrev Q0:Gm:=⟨["self"],(AL Kf).names,[],0,[],["list"],[],[],[],false,[],[],[],zc5⟩
theorem zby:FnScope Q0.N YI.ps (AL Kf):=Aq (by decide +kernel)
theorem zcb:Ad 200 Q0 (Ab Kf)=some Pf:=by ext
theorem zkg{d:Dr}(h:Ak d.g=true):IU [AR d]=some (.ok (.own (d.n.map T.str))):=by
 unfold IU Pf
 simp![An,Aa,h,AN _ h]
abbrev Nx:Stmt:=AW 43
def My:AH :=
 (Ec 1 (DN A4 BG HJ (AA 2) AD))
def PX:AH :=
 (AI (Di 1 (AV AD))
 (AI (C1 (BW (AA 0)) (AG 2) My)
 (AX (AA 1))))
def IQ:List T->Option Ru:=Al 1 3 PX
abbrev Lv:Fn:=⟨2,["machines"],IQ⟩
abbrev zb4:Gx:=⟨[],[],[("watches",A4,BG,YE)],[],false,true,true,none,[],[],[],true,[],[],[],[],[],[],[]⟩
abbrev Xl:Gm:=⟨["machines","watches","machine"],(AL Nx).names,[],1,[],[],[],["watches"],[],false,[],[],[],zb4⟩
theorem zay:FnScope Xl.N Lv.ps (AL Nx):=Aq (by decide +kernel)
theorem zbb:Ad 200 Xl (Ab Nx)=some PX:=by ext
theorem Hy{α A:Type}{b:T->AO->Option AO}{body:AH}(f:α->T)(S:List A->AO->Prop)(g:α->List A)(N:Nat):∀(L:List α) (a:List A) (τ:AO),S a τ->a.length+(L.flatMap g).length<=N->(∀x∈L,∀a τ,S a τ->a.length+(g x).length<=N->∃τ1,b (f x) τ=some τ1/\∃τ2,body τ1=some (.nx τ2)/\S (a++g x) τ2)->∃τ',Bh b body (L.map f) τ=some (.nx τ')/\S (a++L.flatMap g) τ'
 |[],a,τ,h,_,_=>⟨τ,rfl,by rw[ybw,yav];exact h⟩
 |x::L,a,τ,h,hN,hs=>by
  rw[ybc,yad]at hN;obtain⟨τ1,e1,τ2,e2,h2⟩:=hs x (ya9 ..) a τ h (by omega)
  obtain⟨τ',e,h'⟩:=Hy f S g N L (a++g x) τ2 h2 (by rw[yad];omega) λy hy=>hs y (ya7 _ hy)
  refine⟨τ',?_,by rw[ybc,<- ybu];exact h'⟩
  rw[yae];unfold Bh;simp only[e1,e2];exact e
theorem Lk{α A:Type}{b:T->AO->Option AO}{body:AH}(f:α->T)(S:List A->AO->Prop)(g:α->List A)(N:Nat)(c:Str):∀(L:List α) (a:List A) (τ:AO),S a τ->a.length<=N ->
  (∀x∈L,∀a τ,S a τ->a.length<=N->∃τ1,b (f x) τ=some τ1/\((a.length+(g x).length<=N/\∃τ2,body τ1=some (.nx τ2)/\S (a++g x) τ2)\/(N<a.length+(g x).length/\∃τ2,body τ1=some (.xc c τ2)))) ->
  (a.length+(L.flatMap g).length<=N/\∃τ',Bh b body (L.map f) τ=some (.nx τ')/\S (a++L.flatMap g) τ')\/(N<a.length+(L.flatMap g).length/\∃τ',Bh b body (L.map f) τ=some (.xc c τ'))
 |[],a,τ,h,hN,_=>.inl ⟨by rw[ybw];exact hN,τ,rfl,by rw[ybw,yav];exact h⟩
 |x::L,a,τ,h,hN,hs=>by
  rw[ybc,yad,<- ybu,yae];obtain⟨τ1,e1,⟨k,τ2,e2,h2⟩|⟨k,τ2,e2⟩⟩:=hs x (ya9 ..) a τ h hN
  .rcases Lk f S g N c L (a++g x) τ2 h2 (by rw[yad];exact k) λy hy=>hs y (ya7 _ hy) with ⟨k2,τ',e,h'⟩|⟨k2,τ',e⟩
   .rw[yad]at k2;refine .inl ⟨by omega,τ',?_,h'⟩
    unfold Bh;simp only[e1,e2];exact e
   .rw[yad]at k2;refine .inr ⟨by omega,τ',?_⟩
    unfold Bh;simp only[e1,e2];exact e
  .refine .inr ⟨by omega,τ2,?_⟩
   unfold Bh;simp only[e1,e2]
theorem Dy{α:Type}{b:T->AO->Option AO}{me:AF}(f g:α->T)(I:AO->Prop):∀(L:List α) (τ:AO),I τ->(∀x∈L,∀τ,I τ->∃τ1,b (f x) τ=some τ1/\me τ1=some (.v (g x) false)/\I τ1)->Bd b (mC (.bl true)) me (L.map f) τ=some (L.map g)
 |[],_,_,_=>rfl
 |x::L,τ,h,hs=>by
  obtain⟨τ1,e1,e2,h1⟩:=hs x (ya9 ..) τ h;have k:=Dy f g I L τ1 h1 λu hu=>hs u (ya7 _ hu)
  have f1:mC (.bl true) τ1=some (.v (.bl true) false):=rfl;rw[yae,yae];unfold Bd;simp only[e1,f1,e2,k]
theorem Cp{α:Type}{f:α->T}{L:List α}(h:∀x∈L,(f x).sh=true):Ak (L.map f)=true:=by
 rw[DJ,yaj];intro t ht;obtain⟨x,hx,rfl⟩:=yai.mp ht;exact h x hx
theorem sq{τ':AO}{r:Option Out}(h:f τ=some (.nx τ'))(h2:g τ'=r):AI f g τ=r:=by
 unfold AI;rw[h];exact h2
def AE(M:Mc):T:=FX M
theorem Hk(M:Mc):DQ A4 BG (AE M)=some [.lst (M.ws.map T.str),.obj (.sdc (M.rs.map (·.1))) (M.rs.map λr=>.lst r.2),.lst (M.ds.map AR)]:=(show DQ A4 BG (FX M)=(if A4=A4/\BG=BG then some [.lst (M.ws.map T.str),.obj (.sdc (M.rs.map (·.1))) (M.rs.map λr=>.lst r.2),.lst (M.ds.map AR)] else none) from rfl).trans (if_pos ⟨rfl,rfl⟩)
theorem mcT_w{M:Mc}(h:McOk M):HJ [AE M]=some (.ok (.own (M.ws.map T.str))):=zjh h
theorem CY{M:Mc}(h:McOk M):(AE M).sh=true:=h.sh
theorem CW{Ms:List Mc}(h:∀M∈Ms,McOk M):Ak (Ms.map AE)=true:=Cp λM hM=>(h M hM).sh
theorem ZZ{Ms:List Mc}(h:∀M∈Ms,McOk M)(hl:(Ms.flatMap Mc.ws).length<=1000):IQ [.lst (Ms.map AE)]=some (.ok (.own ((Ms.flatMap Mc.ws).map T.str))):=by
 have hs:=CW h
 obtain⟨τ,e,y,rfl⟩:=Hy (b:=AG 2) (body:=My) AE (λ(a:List Str) τ=>∃y,τ=[some (.lst (Ms.map AE)),some (.own (a.map T.str)),y]) Mc.ws 1000 Ms [] _ ⟨none,rfl⟩ (by simpa using hl) λM hM a τ hS hN=>by
  obtain⟨y,rfl⟩:=hS;have k:=h M hM;have k1:=CY k;have k2:=mcT_w k;have l1:a.length+M.ws.length<=100000:=by omega
  refine⟨[some (.lst (Ms.map AE)),some (.own (a.map T.str)),some (AE M)],by simp![],_,?_,some (AE M),rfl⟩
  unfold My
  simp![-DQ,Hk,k1,BK _ k1,k2,An,ya1,l1,yb9]
 rw[yc1,ybl]at e;unfold IQ PX
 simp![hs,AN _ hs,e]
abbrev Nt:Stmt:=AW 42
def MM:AF :=
 (m1 (EW IE) (AA 0))
def FY:AH :=
 (AI (Ai (CI (BU (m1 (Ep [A4] "list") (AA 0))) (BU (EU Dx Dx (mC (.int 1)) (m1 Bu (AA 0)) (mC GG)))) (CM "BadMachine" (AB (mC (.str "one to six machines are put together")) AD)) Ah)
 (AI (Ai (BU (m1 Dn (BX 1 [] (BW (AA 0)) (AG 0) (mC (.bl true)) MM))) (CM "BadMachine" (AB (mC (.str "only machines are put together")) AD)) Ah)
 (AI (Au (AQ IQ (AB (AA 0) AD)) (AG 1))
 (Ai (CI (m2 (Cs λi j=>decide (j<i)) (m1 Bu (AA 1)) (mC GF)) (BU (AQ Eu (AB (AA 1) AD)))) (CM "BadMachine" (AB (mC (.str "machines put together have at most seven watches, all unlike")) AD)) Ah))))
def DG:List T->Option Ru:=Al 1 2 FY
abbrev Qj:Fn:=⟨3,["machines"],DG⟩
abbrev zb2:Gx:=⟨[("MOST_PARTS",GG),("MOST_WATCHES",GF)],[],[],[],false,true,true,none,[],[],[],true,[],[("Machine",IE)],[],[],[],[],[A4]⟩
abbrev Xh:Gm:=⟨["machines","watches"],(AL Nt).names,[],2,[("all_watches",Lv),("are_unlike",HE)],["isinstance","list","len","all"],["BadMachine"],[],[],false,[],[],[],zb2⟩
theorem zav:FnScope Xh.N Qj.ps (AL Nt):=Aq (by decide +kernel)
theorem zb8:Ad 200 Xh (Ab Nt)=some FY:=by ext
structure MsOk(Ms:List Mc):Prop where
 l1:1<=Ms.length
 l6:Ms.length<=6
 m:∀M∈Ms,McOk M
 wl:(Ms.flatMap Mc.ws).length<=7
 wd:(Ms.flatMap Mc.ws).Nodup
theorem Sz{ws:List Str}(hl:ws.length<1000):Eu [.lst (ws.map T.str)]=some (.ok (.bl (decide ws.Nodup))):=by
 by_cases h:ws.Nodup
 .rw[yew h];exact KC h hl
 .have e:((H9 ws:Int) == (ws.length:Int))=false:=by
   rw[yff];intro z;exact h (zl0 (by omega))
  rw[yeg h];unfold Eu LO
  simp![G8,An,Ic,hl,EC,e,ya1]
theorem KD(l:List T):Ep [A4] "list" (.lst l)=some (.bl true):=rfl
theorem Yr{f:T->Bool}(hs:Ak l=true)(h:∀t∈l,EW IE t=some (.bl (f t))):Bd (AG 0) (mC (.bl true)) MM l [none]=some (l.map λt=>T.bl (f t)):=by
 have:=Dy (b:=AG 0) (me:=MM) id (λt=>T.bl (f t)) (λτ=>∃a,τ=[a]) l [none] ⟨none,rfl⟩ λt ht τ hI=>by
  obtain⟨a,rfl⟩:=hI;have k:t.sh=true:=by rw[DJ,yaj]at hs;exact hs t ht
  have ci:=h t ht;exact⟨[some t],by simp![id],by unfold MM;simp![k,BK _ k,ci],_,rfl⟩
 rw[List.map_id]at this;exact this
theorem MN{α:Type}(f:α->Bool):∀L:List α,De (L.map λx=>T.bl (f x))=some (L.map f)
 |[]=>rfl
 |x::r=>by rw[yae,yae,De,MN f r]
theorem J1{t:T}(hs:t.sh=true)(h:Ep [A4] "list" t=some (.bl false)):DG [t]=some (.exc "BadMachine"):=by
 unfold DG FY
 simp![hs,BK _ hs,h]
theorem Ys(hs:Ak l=true)(h:l.length=0\/6<l.length/\l.length<=100000):DG [.lst l]=some (.exc "BadMachine"):=by
 have e:(decide ((1:Int)<=(l.length:Int)) && decide ((l.length:Int)<=6))=false:=by
  rcases h with h|h
  .rw[h];rfl
  .rw[yeg (by omega:¬ (l.length:Int)<=6),ye2]
 have ty:=KD l;have ll:l.length<=100000:=by omega
 by_cases e1:(1:Int)<=(l.length:Int)
 .have e2:decide ((l.length:Int)<=6)=false:=yeg (by omega)
  have e1':=yew e1;unfold DG FY GG
  simp![hs,AN _ hs,ty,ll,e1',e2]
 .have e1':=yeg e1;unfold DG FY GG
  simp![hs,AN _ hs,ty,ll,e1']
theorem zko{f:T->Bool}(hs:Ak l=true)(l1:1<=l.length)(l6:l.length<=6)(h:∀t∈l,EW IE t=some (.bl (f t)))(hf:l.all f=false):DG [.lst l]=some (.exc "BadMachine"):=by
 have e1:decide ((1:Int)<=(l.length:Int))=true:=yew (by omega)
 have e2:decide ((l.length:Int)<=6)=true:=yew (by omega)
 have ty:=KD l;have ll:l.length<=100000:=by omega
 have lc:=Yr hs h;have sb:=AN _ (Cp (f:=λt=>T.bl (f t)) (L:=l) λ_ _=>rfl)
 have ba:=MN f l;have al:(l.map f).all id=false:=by rw[ydx];exact hf
 unfold DG FY GG
 simp![hs,AN _ hs,ty,ya1,e1,e2,ll,lc,sb,ba,al]
theorem Yp{Ms:List Mc}(l1:1<=Ms.length)(l6:Ms.length<=6)(h:∀M∈Ms,McOk M)(hw:(Ms.flatMap Mc.ws).length<1000):DG [.lst (Ms.map AE)]=some (if 7<(Ms.flatMap Mc.ws).length\/¬ (Ms.flatMap Mc.ws).Nodup then .exc "BadMachine" else .ok .non):=by
 have hs:=CW h;have aw:=ZZ h (ydv hw);have e1:decide ((1:Int)<=(Ms.length:Int))=true:=yew (by omega)
 have e2:decide ((Ms.length:Int)<=6)=true:=yew (by omega)
 have ty:=KD (Ms.map AE);have ll:Ms.length<=100000:=by omega
 have lc:=Yr (f:=λ_=>true) hs λt ht=>by
  obtain⟨M,hM,rfl⟩:=yai.mp ht
  rfl
 rw[yb4]at lc;have sb:=AN _ (Cp (f:=(λt=>T.bl ((λ_=>true) t)) ∘ AE) (L:=Ms) λ_ _=>rfl)
 have ba:De (Ms.map ((λt=>T.bl ((λ_=>true) t)) ∘ AE))=some (Ms.map λ_=>true):=MN (λ_=>true) Ms
 have al:(Ms.map λ_=>true).all id=true:=by simp
 have un:=Sz (ws:=Ms.flatMap Mc.ws) hw
 by_cases e3:(7:Int)<((Ms.flatMap Mc.ws).length:Int)
 .have e3':=yew e3;rw[if_pos (.inl (by omega))]
  unfold DG FY GG GF
  simp![hs,AN _ hs,ty,ya1,e1,e2,ll,lc,sb,ba,al,aw,An,Aa,e3']
 .have e3':=yeg e3
  by_cases hd:(Ms.flatMap Mc.ws).Nodup
  .rw[yew hd]at un;rw[if_neg (by intro z;rcases z with z|z;omega;exact z hd)]
   unfold DG FY GG GF
   simp![hs,AN _ hs,ty,ya1,e1,e2,ll,lc,sb,ba,al,aw,An,Aa,e3',un]
  .rw[yeg hd]at un;rw[if_pos (.inr hd)];unfold DG FY GG GF
   simp![hs,AN _ hs,ty,ya1,e1,e2,ll,lc,sb,ba,al,aw,An,Aa,e3',un]
theorem Yq{Ms:List Mc}(h:MsOk Ms):DG [.lst (Ms.map AE)]=some (.ok .non):=by
 rw[Yp h.l1 h.l6 h.m (by have:=h.wl;omega),if_neg]
 intro z;have:=h.wl
 rcases z with z|z
 .omega
 .exact z h.wd
abbrev Ny:Stmt:=AW 44
def Rt:AF :=
 (m2 BV (AA 1) (AV (AK (AA 0) AD)))
def Mz:AH :=
 (Ec 3 (BX 1 [4] (BW (DN A4 BG HM (AA 2) AD)) (AG 0) (mC (.bl true)) Rt))
def HW:AH :=
 (AI (Di 3 (AV AD))
 (AI (C1 (BW (AA 1)) (AG 4) Mz)
 (AI (Ai (m2 (Cs λi j=>decide (j<i)) (m1 Bu (AA 3)) (mC HA)) (CM "TooMany" (AB (mC (.str "the whole would have more than 64 rooms")) AD)) Ah)
 (AI (FK 3) (Au (AA 3) (AG 1))))))
def LP:AH :=
 (AI (Au (AV (AK (AV AD) AD)) (AG 1))
 (AI (C1 (BW (AA 0)) (AG 2) HW)
 (AX (AA 1))))
def Je:List T->Option Ru:=Al 1 5 LP
abbrev Qm:Fn:=⟨2,["machines"],Je⟩
abbrev zb5:Gx:=⟨[("MOST_ROOMS",HA)],[],[("rooms",A4,BG,YG)],[],false,true,true,none,[],[],[],true,[],[],[],[],[],[],[]⟩
abbrev Xm:Gm:=⟨["machines","takings","machine","longer","taking"],(AL Ny).names,["taking"],1,[],["len"],["TooMany"],["longer"],[],false,[],[],[],zb5⟩
theorem zaz:FnScope Xm.N Qm.ps (AL Ny):=Aq (by decide +kernel)
theorem zbc:Ad 200 Xm (Ab Ny)=some LP:=by ext
abbrev A8(t:List Str):T:=.lst (t.map T.str)
def BI(ts:List (List Str))(rs:List Str):List (List Str):=ts.flatMap λt=>rs.map λr=>t++[r]
def Bk(rss:List (List Str)):List (List Str):=rss.foldl BI [[]]
theorem fold_mem:∀(rss ts:List (List Str)) (t:List Str),t∈rss.foldl BI ts->∃u∈ts,∃v:List Str,t=u++v/\v.length=rss.length/\∀(i:Nat) (r:Str),v[i]?=some r->∃rs,rss[i]?=some rs/\r∈rs
 |[],ts,t,h=>⟨t,h,[],(yav t).symm,rfl,λi r z=>by simp at z⟩
 |rs::rss,ts,t,h=>by
  obtain⟨u,hu,v,rfl,hl,hv⟩:=fold_mem rss (BI ts rs) t h;obtain⟨w,hw,hu⟩:=yb7.mp hu;obtain⟨r,hr,rfl⟩:=yai.mp hu;refine⟨w,hw,r::v,by rw[ybu];rfl,by rw[yao,yao,hl],λi x z=>?_⟩
  cases i with
  |zero=>simp at z;subst z;exact⟨rs,rfl,hr⟩
  |succ i=>simpa using hv i x (by simpa using z)
theorem KN{t:List Str}(h:t∈Bk rss):t.length=rss.length/\∀(i:Nat) (r:Str),t[i]?=some r->∃rs,rss[i]?=some rs/\r∈rs:=by
 obtain⟨u,hu,v,rfl,hl,hv⟩:=fold_mem rss [[]] t h;rw[yaa.mp hu,ybl];exact⟨hl,hv⟩
def Mc.nm(M:Mc):List Str:=M.rs.map (·.1)
theorem mcT_r{M:Mc}(h:McOk M):HM [AE M]=some (.ok (.own (M.nm.map T.str))):=zjl h
theorem Ga(ts:List (List Str)):Ak (ts.map A8)=true:=Cp λt _=>by
 show((!false) && Ak (t.map T.str))=true;rw[Aa]
 rfl
theorem zl3(t:List Str):(A8 t).sh=true:=by
 show((!false) && Ak (t.map T.str))=true;rw[Aa]
 rfl
theorem YN{α β:Type}{g:α->List β}{m:Nat}:∀{L:List α},(∀x∈L,(g x).length<=m)->(L.flatMap g).length<=L.length * m
 |[],_=>by simp
 |x::L,h=>by
  have h1:=h x (ya9 ..);have h2:=YN (L:=L) λy hy=>h y (ya7 _ hy)
  rw[ybc,yad,yao,ycx]
  omega
theorem zks{W:T}(hW:W.sh=true){M:Mc}(k:McOk M)(tl:∀t∈ts,t.length<=99999)(h64:ts.length<=64)(y2 y3 y4:Option T):∃z4,HW [some W,some (.lst (ts.map A8)),some (AE M),y3,y4]=some (if (BI ts M.nm).length<=64 then .nx [some W,some (.lst ((BI ts M.nm).map A8)),some (AE M),some (.lst ((BI ts M.nm).map A8)),z4] else .xc "TooMany" [some W,some (.lst (ts.map A8)),some (AE M),some (.own ((BI ts M.nm).map A8)),z4]):=by
 have k1:=CY k;have k2:=mcT_r k;have hnl:M.nm.length<=64:=by unfold Mc.nm;rw[ya1];exact k.r.l64
 have sts:=Ga ts
 have hN:(BI ts M.nm).length<=4096:=by
  have:=YN (g:=λt=>M.nm.map λr=>t++[r]) (m:=64) (L:=ts) λt _=>by rw[ya1];exact hnl
  unfold BI
  omega
 obtain⟨τ2,e2,z4,rfl⟩:=Hy (b:=AG 4) (body:=Mz) A8 (λ(a:List (List Str)) τ=>∃z,τ=[some W,some (.lst (ts.map A8)),some (AE M),some (.own (a.map A8)),z]) (λt=>M.nm.map λr=>t++[r]) 4096 ts [] [some W,some (.lst (ts.map A8)),some (AE M),some (.own []),y4] ⟨y4,rfl⟩ (by rw[ybd,Nat.zero_add];exact hN) λt ht a τ hS hN=>by
  obtain⟨z,rfl⟩:=hS;rw[ya1]at hN;have ts1:=zl3 t;have a1:t.length+1<=100000:=by have:=tl t ht;omega
  have a2:a.length+M.nm.length<=100000:=by omega
  have a3:M.nm.length<=100000:=by omega
  have lc:Bd (AG 0) (mC (.bl true)) Rt (M.nm.map T.str) [none,some (A8 t)]=some (M.nm.map λr=>T.own ((t++[r]).map T.str)):=Dy T.str (λr=>T.own ((t++[r]).map T.str)) (λτ=>∃a,τ=[a,some (A8 t)]) _ _ ⟨none,rfl⟩ λr _ τ hI=>by
   obtain⟨x,rfl⟩:=hI;exact⟨[some (.str r),some (A8 t)],by simp![],by unfold Rt;simp![An,Aa,ya1,a1,yb9],_,rfl⟩
  have so:Ax (M.nm.map λr=>T.own ((t++[r]).map T.str))=(M.nm.map λr=>t++[r]).map A8:=by
   rw[DI,yb4,yb4];refine yc5 λr _=>?_
   show T.nd false .lst (Ax ((t++[r]).map T.str))=_;rw[An]
   rfl
  refine⟨[some W,some (.lst (ts.map A8)),some (AE M),some (.own (a.map A8)),some (A8 t)],by simp![],[some W,some (.lst (ts.map A8)),some (AE M),some (.own ((a++M.nm.map λr=>t++[r]).map A8)),some (A8 t)],?_,_,rfl⟩
  rw[yb9];unfold Mz
  simp![-DQ,Hk,k1,BK _ k1,k2,Aa,An,ya1,a2,a3,lc,so]
 rw[ybl]at e2;have eb:ts.flatMap (λt=>M.nm.map λr=>t++[r])=BI ts M.nm:=rfl
 rw[eb]at e2;have st2:=Ga (BI ts M.nm);refine⟨z4,?_⟩;have l4:(BI ts M.nm).length<=100000:=by omega
 by_cases g:(BI ts M.nm).length<=64
 .have g64:decide ((64:Int)<((BI ts M.nm).length:Int))=false:=yeg (by omega)
  rw[if_pos g];unfold HW HA
  simp![sts,AN _ sts,e2,ya1,g64,l4,AN _ st2,st2]
 .have g64:decide ((64:Int)<((BI ts M.nm).length:Int))=true:=yew (by omega)
  rw[if_neg g];unfold HW HA
  simp![sts,AN _ sts,e2,ya1,g64,l4,AN _ st2,st2]
def CD(ts:List (List Str)):List (List Str)->Option (List (List Str))
 |[]=>some ts
 |rs::rss=>if (BI ts rs).length<=64 then CD (BI ts rs) rss else none
theorem TJ:∀{rss ts:List (List Str)},(∀i,i<=rss.length->((rss.take i).foldl BI ts).length<=64)->CD ts rss=some (rss.foldl BI ts)
 |[],_,_=>rfl
 |rs::rss,ts,h=>by
  unfold CD;have h1:(BI ts rs).length<=64:=h 1 (by simp)
  rw[if_pos h1,ycm];exact TJ λi hi=>h (i+1) (by simpa using hi)
theorem zdz{rs:List Str}(h:∀t∈ts,t.length=n):∀t∈BI ts rs,t.length=n+1:=λt ht=>by
 unfold BI at ht;obtain⟨u,hu,hx⟩:=yb7.mp ht;obtain⟨r,hr,rfl⟩:=yai.mp hx;rw[yad,h u hu]
 rfl
theorem Z0{W:T}(hW:W.sh=true):∀(Ms:List Mc) (ts:List (List Str)) (n:Nat) (y2 y3 y4:Option T),(∀M∈Ms,McOk M)->(∀t∈ts,t.length=n)->n+Ms.length<=1000->ts.length<=64->(∃us z2 z3 z4,CD ts (Ms.map Mc.nm)=some us/\Bh (AG 2) HW (Ms.map AE) [some W,some (.lst (ts.map A8)),y2,y3,y4]=some (.nx [some W,some (.lst (us.map A8)),z2,z3,z4]))\/(CD ts (Ms.map Mc.nm)=none/\∃τ,Bh (AG 2) HW (Ms.map AE) [some W,some (.lst (ts.map A8)),y2,y3,y4]=some (.xc "TooMany" τ))
 |[],ts,n,y2,y3,y4,_,_,_,_=>.inl ⟨ts,y2,y3,y4,rfl,rfl⟩
 |M::Ms,ts,n,y2,y3,y4,hM,ht,hl,h64=>by
  rw[yao]at hl;obtain⟨z,e⟩:=zks hW (hM M (ya9 ..)) (λt h=>by have:=ht t h;omega) h64 y2 y3 y4
  have b1:AG 2 (AE M) [some W,some (.lst (ts.map A8)),y2,y3,y4]=some [some W,some (.lst (ts.map A8)),some (AE M),y3,y4]:=by simp![]
  rw[yae,yae];unfold Bh CD
  by_cases g:(BI ts M.nm).length<=64
  .rw[if_pos g]at e ⊢;simp only[b1,e];exact Z0 hW Ms (BI ts M.nm) (n+1) (some (AE M)) (some (.lst ((BI ts M.nm).map A8))) z (λN hN=>hM N (ya7 _ hN)) (zdz ht) (by omega) g
  .rw[if_neg g]at e ⊢;simp only[b1,e];exact .inr ⟨trivial,_,rfl⟩
theorem Z1{Ms:List Mc}(hm:∀M∈Ms,McOk M)(h6:Ms.length<=6):Je [.lst (Ms.map AE)]=some (match CD [[]] (Ms.map Mc.nm) with
  |some us=>.ok (.lst (us.map A8))
  |none=>.exc "TooMany"):=by
 have hs:=CW hm;have hW:(T.lst (Ms.map AE)).sh=true:=by simp![hs]
 have h:=Z0 hW Ms [[]] 0 none none none hm (λt ht=>by rw[yaa.mp ht];rfl) (by omega) (by decide)
 have el:([[]]:List (List Str)).map A8=[.lst []]:=rfl;rw[el]at h
 rcases h with ⟨us,z2,z3,z4,hf,e⟩|⟨hf,τ,e⟩
 .have st:=Ga us;rw[hf];unfold Je LP
  simp![hs,AN _ hs,e,AN _ st,st]
 .rw[hf];unfold Je LP
  simp![hs,AN _ hs,e]
abbrev N4:Stmt:=AW 45
def Ox:AH :=
 (AX (GC (mC (.str "/")) (AA 0)))
def HI:List T->Option Ru:=Al 1 1 Ox
abbrev JW:Fn:=⟨1,["taking"],HI⟩
abbrev XY:Gm:=⟨["taking"],(AL N4).names,[],0,[],[],[],[],[],false,[],[],[],By⟩
theorem zbg:FnScope XY.N JW.ps (AL N4):=Aq (by decide +kernel)
theorem zbq:Ad 200 XY (Ab N4)=some Ox:=by ext
def A3(t:List Str):Str:=Txt.join "/" t
theorem Ti{α:Type}{f:α->Str}{m:Nat}:∀{l:List α},(∀a∈l,(f a).length<=m)->((l.map f).map (·.length)).sum<=l.length * m
 |[],_=>yaz _
 |a::l,h=>by
  have h1:=h a (ya9 ..);have h2:=Ti (l:=l) λb hb=>h b (ya7 _ hb)
  rw[yae,yae,List.sum_cons,yao,ycx,ycy]
  omega
theorem znl{t:List Str}(hl:t.length<=6)(hs:∀r∈t,r.length<=60):(t.map (·.length)).sum+t.length * (Str.ofString "/").length<=BL:=by
 have h1:=Ti (f:=id) (m:=60) (l:=t) hs;rw[List.map_id]at h1;have h2:(Str.ofString "/").length=1:=by decide +kernel
 rw[h2];unfold BL
 omega
theorem Jr{t:List Str}{o:Bool}(hl:t.length<=6)(hs:∀r∈t,r.length<=60):HI [.nd o .lst (t.map T.str)]=some (.ok (.str (A3 t))):=by
 have h1:=znl hl hs;unfold HI Ox;cases o<;>simp![GC,Ic,h1,A3]
abbrev Np:Stmt:=AW 41
def Rl:AF :=
 (AQ HI (AB (AA 0) AD))
def Rk:AF :=
 (AQ GW (AB (AA 0) AD))
def Gv:AH :=
 (AI (Ed (AQ DG (AB (AA 0) AD)))
 (AI (Au (AQ Je (AB (AA 0) AD)) (AG 1))
 (AI (Au (BX 1 [] (BW (AA 1)) (AG 0) (mC (.bl true)) Rl) (AG 2))
 (AI (Ai (CI (BU (AQ Eu (AB (AA 2) AD))) (BU (m1 Dn (BX 1 [] (BW (AA 2)) (AG 0) (mC (.bl true)) Rk)))) (CM "BadMachine" (AB (mC (.str "a room of the whole would have a name twice, or a name of more than sixty signs")) AD)) Ah)
 (AX (AA 1))))))
def Dq:List T->Option Ru:=Al 1 3 Gv
abbrev Lu:Fn:=⟨4,["machines"],Dq⟩
abbrev Xe:Gm:=⟨["machines","takings","names"],(AL Np).names,[],3,[("check_parts",Qj),("all_takings",Qm),("whole_name",JW),("are_unlike",HE),("is_room_name",Lq)],["all"],["BadMachine"],[],[],false,[],[],[],By⟩
theorem za1:FnScope Xe.N Lu.ps (AL Np):=Aq (by decide +kernel)
theorem za5:Ad 200 Xe (Ab Np)=some Gv:=by ext
structure RmOk(Ms:List Mc):Prop where
 k:∀i,i<=Ms.length->(Bk ((Ms.take i).map Mc.nm)).length<=64
 s:∀M∈Ms,∀r∈M.nm,r.length<=60
 n:∀t∈Bk (Ms.map Mc.nm),CB (A3 t)/\1<=(A3 t).cps.size/\(A3 t).cps.size<=60
 d:((Bk (Ms.map Mc.nm)).map A3).Nodup
abbrev A2(Ms:List Mc):List (List Str):=Bk (Ms.map Mc.nm)
theorem RmOk.t{Ms:List Mc}(h:RmOk Ms)(hm:MsOk Ms){t:List Str}(ht:t∈A2 Ms):t.length=Ms.length/\t.length<=6/\(∀r∈t,r.length<=60)/\∀(i:Nat) (r:Str),t[i]?=some r->∃M,Ms[i]?=some M/\r∈M.nm:=by
 obtain⟨h1,h2⟩:=KN ht;rw[ya1]at h1
 have h3:∀(i:Nat) (r:Str),t[i]?=some r->∃M,Ms[i]?=some M/\r∈M.nm:=λi r e=>by
  obtain⟨rs,e1,e2⟩:=h2 i r e;rw[ya5]at e1;obtain⟨M,e3,rfl⟩:=ya2.mp e1;exact⟨M,e3,e2⟩
 refine⟨h1,by rw[h1];exact hm.l6,λr hr=>?_,h3⟩
 obtain⟨i,e⟩:=ybe.mp hr;obtain⟨M,e1,e2⟩:=h3 i r e;exact h.s M (yas e1) r e2
theorem F7(t:List Str):Tx.cs (A3 t)=Tx.joinL 47 (t.map Tx.cs):=by
 have e:(Str.ofString "/")=⟨#[47]⟩:=Tx.cs_ext (by decide +kernel)
 have j:A3 t=Str.join (Str.ofString "/") t:=eq_of_beq (ydy _ _);rw[j,e,Tx.cs_join]
theorem QE{c x:Nat}:∀{l:List (List Nat)},x∈Tx.joinL c l->x=c\/∃p∈l,x∈p
 |[],h=>by cases h
 |[a],h=>.inr ⟨a,yaa.mpr rfl,h⟩
 |a::b::r,h=>by
  have h':x∈a++c::Tx.joinL c (b::r):=h
  rcases yax.mp h' with h'|h'
  .exact .inr ⟨a,ya9 ..,h'⟩
  .rcases ya6.mp h' with h'|h'
   .exact .inl h'
   .rcases QE h' with h'|⟨p,hp,h'⟩
    .exact .inl h'
    .exact .inr ⟨p,ya7 _ hp,h'⟩
theorem QF{c m:Nat}:∀{l:List (List Nat)},(∀p∈l,p.length<=m)->(Tx.joinL c l).length<=l.length * (m+1)
 |[],_=>yaz _
 |[a],h=>by
  have:=h a (yaa.mpr rfl);show a.length<=1 * (m+1)
  omega
 |a::b::r,h=>by
  have h1:=h a (ya9 ..);have h2:=QF (c:=c) (l:=b::r) λp hp=>h p (ya7 _ hp)
  show(a++c::Tx.joinL c (b::r)).length<=_;rw[yad,yao,yao (a:=a),ycx,ycy]
  omega
theorem FO:CB x ↔ ∀c∈Tx.cs x,c=47\/(97<=c/\c<=122):=by
 constructor
 .intro h c hc;obtain⟨i,hi⟩:=ybe.mp hc;have hl:=(ya4.mp hi).1;have:=h i (by simpa[Tx.cs] using hl)
  rw[ybk,<- ybx]at this;rw[show x.cps.toList[i]?=some c from hi]at this;exact this
 .intro h i hi;refine h _ ?_;rw[ybk,yb1 hi];exact yd5 hi
theorem Wy{t:List Str}(h:∀r∈t,CB r):CB (A3 t):=FO.mpr λc hc=>by
 rw[F7]at hc
 rcases QE hc with hc|⟨p,hp,hc⟩
 .exact .inl hc
 .obtain⟨r,hr,rfl⟩:=yai.mp hp;exact FO.mp (h r hr) c hc
theorem rn_at(h:CB x)(hl:x.cps.size<=100000):GW [.str x]=some (.ok (.bl (decide (1<=x.cps.size/\x.cps.size<=60)))):=by
 by_cases h1:1<=x.cps.size/\x.cps.size<=60
 .rw[yew h1];exact UX h h1.1 h1.2
 .rw[yeg h1];have ll:x.length<=100000:=hl
  by_cases e1:1<=x.cps.size
  .have e1':decide ((1:Int)<=(x.length:Int))=true:=yew (by show(1:Int)<=((x.cps.size:Nat):Int);omega)
   have e2':decide ((x.length:Int)<=60)=false:=yeg (by show ¬ ((x.cps.size:Nat):Int)<=60;omega)
   unfold GW JI
   simp![ll,e1',e2']
  .have e1':decide ((1:Int)<=(x.length:Int))=false:=yeg (by show ¬ (1:Int)<=((x.cps.size:Nat):Int);omega)
   unfold GW JI
   simp![ll,e1']
theorem NH:∀{rss ts us:List (List Str)},CD ts rss=some us->us=rss.foldl BI ts
 |[],_,_,h=>(yau h).symm
 |rs::rss,ts,us,h=>by
  unfold CD at h;split at h
  .rw[ycm];exact NH h
  .cases h
theorem TN:∀{rss ts us:List (List Str)},ts.length<=64->CD ts rss=some us->us.length<=64
 |[],_,_,hl,h=>(yau h)▸hl
 |rs::rss,ts,us,hl,h=>by
  unfold CD at h;split at h
  .rename_i hc;exact TN hc h
  .cases h
def JD(us:List (List Str)):Prop:=(us.map A3).Nodup/\∀t∈us,1<=(A3 t).cps.size/\(A3 t).cps.size<=60
theorem ct_no{t:T}(hs:t.sh=true)(h:DG [t]=some (.exc "BadMachine")):Dq [t]=some (.exc "BadMachine"):=by
 unfold Dq Gv
 simp![hs,BK _ hs,h]
theorem zkm{Ms:List Mc}(h:MsOk Ms)(hf:CD [[]] (Ms.map Mc.nm)=none):Dq [.lst (Ms.map AE)]=some (.exc "TooMany"):=by
 have hs:=CW h.m;have cp:=Yq h;have at':=Z1 h.m h.l6;rw[hf]at at';unfold Dq Gv
 simp![hs,AN _ hs,cp,at']
open Classical in
theorem Yo{Ms:List Mc}(h:MsOk Ms){us:List (List Str)}(hf:CD [[]] (Ms.map Mc.nm)=some us):Dq [.lst (Ms.map AE)]=some (if JD us then .ok (.lst (us.map A8)) else .exc "BadMachine"):=by
 have hs:=CW h.m;have cp:=Yq h;have at':=Z1 h.m h.l6;rw[hf]at at';have l64:=TN (by decide) hf
 have eu:us=Bk (Ms.map Mc.nm):=NH hf
 have ht:∀t∈us,t.length<=6/\∀r∈t,r.length<=60/\CB r:=λt ht=>by
  rw[eu]at ht;obtain⟨h1,h2⟩:=KN ht;rw[ya1]at h1;have:=h.l6;refine⟨by omega,λr hr=>?_⟩
  obtain⟨i,e⟩:=ybe.mp hr;obtain⟨rs,e1,e2⟩:=h2 i r e;rw[ya5]at e1;obtain⟨M,e3,rfl⟩:=ya2.mp e1;obtain⟨x,hx,rfl⟩:=yai.mp e2;have:=(h.m M (yas e3)).r.nm x hx;exact⟨this.2.2,this.1⟩
 have hj:∀t∈us,CB (A3 t)/\(A3 t).cps.size<=100000:=λt h1=>by
  obtain⟨a,b⟩:=ht t h1;refine⟨Wy λr hr=>(b r hr).2,?_⟩
  have sz:(A3 t).cps.size=(Tx.joinL 47 (t.map Tx.cs)).length:=by rw[<- F7];rfl
  have:=QF (c:=47) (m:=60) (l:=t.map Tx.cs) λp hp=>by
   obtain⟨r,hr,rfl⟩:=yai.mp hp;exact(b r hr).1
  rw[ya1]at this
  omega
 have st:=Ga us;have ll:us.length<=100000:=by omega
 have lc:Bd (AG 0) (mC (.bl true)) Rl (us.map A8) [none]=some ((us.map A3).map T.str):=by
  rw[yb4]
  exact Dy A8 (λt=>T.str (A3 t)) (λτ=>∃a,τ=[a]) _ _ ⟨none,rfl⟩ λt h1 τ hI=>by
   obtain⟨x,rfl⟩:=hI;obtain⟨k1,k2⟩:=ht t h1;exact⟨[some (A8 t)],by simp![],by unfold Rl;simp![Aa,An,Jr k1 λr hr=>(k2 r hr).1],_,rfl⟩
 have lc2:Bd (AG 0) (mC (.bl true)) Rk ((us.map A3).map T.str) [none]=some (us.map λt=>T.bl (decide (1<=(A3 t).cps.size/\(A3 t).cps.size<=60))):=by
  rw[yb4]
  exact Dy (λt=>T.str (A3 t)) (λt=>T.bl (decide (1<=(A3 t).cps.size/\(A3 t).cps.size<=60))) (λτ=>∃a,τ=[a]) _ _ ⟨none,rfl⟩ λt h1 τ hI=>by
   obtain⟨x,rfl⟩:=hI;obtain⟨n1,n2⟩:=hj t h1;exact⟨[some (.str (A3 t))],by simp![],by unfold Rk;simp![rn_at n1 n2],_,rfl⟩
 have un:=Sz (ws:=us.map A3) (by rw[ya1];omega)
 have ba:=MN (λt=>decide (1<=(A3 t).cps.size/\(A3 t).cps.size<=60)) us
 have sb:=AN _ (Cp (f:=λt=>T.bl (decide (1<=(A3 t).cps.size/\(A3 t).cps.size<=60))) (L:=us) λ_ _=>rfl)
 by_cases hd:(us.map A3).Nodup
 .rw[yew hd]at un
  by_cases hn:∀t∈us,1<=(A3 t).cps.size/\(A3 t).cps.size<=60
  .have al:((us.map λt=>decide (1<=(A3 t).cps.size/\(A3 t).cps.size<=60)).all id)=true:=by
    rw[ydx,yaj];exact λt h1=>yew (hn t h1)
   rw[if_pos ⟨hd,hn⟩];unfold Dq Gv
   simp![hs,AN _ hs,cp,at',st,AN _ st,ya1,ll,lc,lc2,An,Aa,un,sb,ba,al]
  .have al:((us.map λt=>decide (1<=(A3 t).cps.size/\(A3 t).cps.size<=60)).all id)=false:=by
    rw[ydx];refine yb2.mpr λz=>hn λt h1=>?_
    exact yfa (yaj.mp z t h1)
   rw[if_neg λz=>hn z.2]
   unfold Dq Gv
   simp![hs,AN _ hs,cp,at',st,AN _ st,ya1,ll,lc,lc2,An,Aa,un,sb,ba,al]
 .rw[yeg hd]at un;rw[if_neg λz=>hd z.1]
  unfold Dq Gv
  simp![hs,AN _ hs,cp,at',st,AN _ st,ya1,ll,lc,An,Aa,un]
theorem Yn{Ms:List Mc}(h:MsOk Ms)(hr:RmOk Ms):Dq [.lst (Ms.map AE)]=some (.ok (.lst ((A2 Ms).map A8))):=by
 have e:CD [[]] (Ms.map Mc.nm)=some (Bk (Ms.map Mc.nm)):=TJ λi hi=>by
  rw[<- List.map_take];exact hr.k i (by simpa using hi)
 rw[Yo h e,if_pos ⟨hr.d,λt ht=>(hr.n t ht).2⟩]
abbrev N3:Stmt:=AW 46
def Mt:AH :=
 (Ec 2 (DN A4 BG HL (AA 3) (AB (AA 4) AD)))
def Ow:AH :=
 (AI (Di 2 (AV AD))
 (AI (C1 (GK (AB (AA 0) (AB (AA 1) AD))) (Bf 2 (Am (AG 3) (Am (AG 4) Bi))) Mt)
 (AX (AA 2))))
def MY:List T->Option Ru:=Al 2 5 Ow
abbrev Q8:Fn:=⟨2,["machines","taking"],MY⟩
abbrev zbl:Gx:=⟨[],[],[("stay",A4,BG,YF)],[],false,true,true,none,[],[],[],true,[],[],[],[],[],[],[]⟩
abbrev XX:Gm:=⟨["machines","taking","stay","machine","room"],(AL N3).names,[],1,[],["zip"],[],["stay"],[],false,[],[],[],zbl⟩
theorem zbf:FnScope XX.N Q8.ps (AL N3):=Aq (by decide +kernel)
theorem zbp:Ad 200 XX (Ab N3)=some Ow:=by ext
def Cv(M:Mc)(r:Str):List T:=((M.rs.find? λx=>decide (x.1=r)).map (·.2)).getD []
theorem KZ{M:Mc}(h:McOk M){r:Str}(hr:r∈M.nm):HL [AE M,.str r]=some (.ok (.own (Cv M r)))/\Ak (Cv M r)=true/\(Cv M r).length<=1000/\Fm M.ws K1 (Cv M r):=by
 obtain⟨x,hx,rfl⟩:=yai.mp (show r∈M.rs.map (·.1) from hr)
 obtain⟨y,hy⟩:∃y,M.rs.find? (λz=>decide (z.1=x.1))=some y:=by
  cases hf:M.rs.find? (λz=>decide (z.1=x.1)) with
  |some y=>exact⟨y,rfl⟩
  |none=>exact absurd (List.find?_eq_none.mp hf x hx) (by simp)
 have hy1:y.1=x.1:=by simpa using List.find?_some hy
 have hym:=List.mem_of_find?_eq_some hy;have es:Cv M x.1=y.2:=by unfold Cv;rw[hy];rfl
 obtain⟨i,hi,rfl⟩:=List.getElem_of_mem hym;obtain⟨k1,k2⟩:=h.r.lk _ hym;rw[es,<- hy1];exact⟨zjk h hi,k1.sh,k2,k1⟩
def HV(Ms:List Mc)(t:List Str):List T:=(Ms.zip t).flatMap λx=>Cv x.1 x.2
theorem S7{α β:Type}(f:α->T)(g:β->T):∀(a:List α) (b:List β),IW (a.map f) (b.map g)=(a.zip b).map λx=>T.tup [f x.1,g x.2]
 |[],b=>by cases b<;>rfl
 |x::a,[]=>rfl
 |x::a,y::b=>by
  rw[yae,yae,yco,yae,<- S7 f g a b]
  rfl
theorem HF{α β:Type}{g:α->List β}{m:Nat}:∀{L:List α},(∀x∈L,(g x).length<=m)->(L.flatMap g).length<=L.length * m
 |[],_=>yaz _
 |a::L,h=>by
  have h1:=h a (ya9 ..);have h2:=HF (L:=L) λb hb=>h b (ya7 _ hb)
  rw[ybc,yad,yao,ycx,ycy]
  omega
theorem Ml{Ms:List Mc}(h:MsOk Ms)(hr:RmOk Ms){t:List Str}(ht:t∈A2 Ms){x:Mc×Str}(hx:x∈Ms.zip t):x.1∈Ms/\x.2∈x.1.nm:=by
 obtain⟨_,_,_,k⟩:=hr.t h ht;obtain⟨i,e⟩:=ybe.mp hx;rw[List.getElem?_zip_eq_some]at e;obtain⟨M,e1,e2⟩:=k i _ e.2;rw[e.1]at e1;cases e1;exact⟨yas e.1,e2⟩
theorem zkx{Ms:List Mc}(h:MsOk Ms)(hr:RmOk Ms){t:List Str}(ht:t∈A2 Ms):MY [.lst (Ms.map AE),A8 t]=some (.ok (.own (HV Ms t))):=by
 have hs:=CW h.m;have key:=λ(x:Mc×Str) hx=>(Ml h hr ht (x:=x) hx)
 have zl:(Ms.zip t).length<=6:=by rw[List.length_zip];have:=h.l6;omega
 have wl:([]:List T).length+((Ms.zip t).flatMap λx=>Cv x.1 x.2).length<=6000:=by
  have:=HF (g:=λx:Mc×Str=>Cv x.1 x.2) (m:=1000) (L:=Ms.zip t) λx hx=>(KZ (h.m _ (key x hx).1) (key x hx).2).2.2.1
  rw[ybd]
  omega
 obtain⟨τ,e,y,z,rfl⟩:=Hy (b:=Bf 2 (Am (AG 3) (Am (AG 4) Bi))) (body:=Mt) (λx:Mc×Str=>T.tup [AE x.1,.str x.2]) (λ(a:List T) τ=>∃y z,τ=[some (.lst (Ms.map AE)),some (A8 t),some (.own a),y,z]) (λx=>Cv x.1 x.2) 6000 (Ms.zip t) [] [some (.lst (Ms.map AE)),some (A8 t),some (.own []),none,none] ⟨none,none,rfl⟩ wl λx hx a τ hS hN=>by
  obtain⟨y,z,rfl⟩:=hS;obtain⟨k1,k2⟩:=key x hx;have k3:=CY (h.m _ k1);obtain⟨g1,g2,_,_⟩:=KZ (h.m _ k1) k2;have l1:a.length+(Cv x.1 x.2).length<=100000:=by omega
  refine⟨[some (.lst (Ms.map AE)),some (A8 t),some (.own a),some (AE x.1),some (.str x.2)],by simp![],[some (.lst (Ms.map AE)),some (A8 t),some (.own (a++Cv x.1 x.2)),some (AE x.1),some (.str x.2)],?_,_,_,rfl⟩
  unfold Mt
  simp![-DQ,Hk,k3,BK _ k3,g1,g2,AN _ g2,l1]
 rw[ybl]at e;unfold MY Ow
 simp![hs,AN _ hs,Aa,An,S7,e]
 rfl
abbrev N5:Stmt:=AW 50
def Jv:AH :=
 (AI (Au (B8 (DN A4 BG Fj (B8 (AA 0) (AA 6)) AD) (AA 7)) (AG 8))
 (AI (Il 3 (AA 6) (Bs BB B3 1 (AA 8)))
 (AI (Ec 4 (DN BB B3 IV (AA 8) AD))
 (Ec 5 (DN BB B3 IU (AA 8) AD)))))
def Oy:AH :=
 (AI (Di 3 (m1 CZ (AA 2)))
 (AI (Di 4 (AV AD))
 (AI (Di 5 (AV AD))
 (AI (C1 (BW (AA 1)) (Bf 2 (Am (AG 6) (Am (AG 7) Bi))) Jv)
 (AI (FK 3) (AI (FK 4) (AI (FK 5) (AX (FZ HR [(.str "")] (AB (AQ HI (AB (AA 2) AD)) (AB (AQ HI (AB (AA 3) AD)) (AB (AA 4) (AB (AA 5) AD)))))))))))))
def MZ:List T->Option Ru:=Al 3 9 Oy
abbrev Q9:Fn:=⟨4,["machines","share","taking"],MZ⟩
abbrev zbm:Gx:=⟨[],[("Door",BB,B3)],[("doors",A4,BG,Lw),("asks",BB,B3,YJ),("sets",BB,B3,YI)],[("Door",Qw,[(4,[(.str "")])])],false,true,true,none,[],[],[],true,[],[],[],[],[],[],[]⟩
abbrev XZ:Gm:=⟨["machines","share","taking","ends","guard","noughts","at","number","door"],(AL N5).names,[],3,[("whole_name",JW)],["list"],[],["ends","guard","noughts"],[],false,[],[],[],zbm⟩
theorem zbh:FnScope XZ.N Q9.ps (AL N5):=Aq (by decide +kernel)
theorem zbr:Ad 200 XZ (Ab N5)=some Oy:=by ext
def d0:Dr:=⟨"","",[],[],""⟩
def BD(D:List (List Dr))(i k:Nat):Dr:=(D.getD i []).getD k d0
abbrev Ef(p:Nat×Nat):T:=.tup [.int (p.1:Int),.int (p.2:Int)]
abbrev Co(s:List (Nat×Nat)):T:=.lst (s.map Ef)
theorem FQ(s:List (Nat×Nat)):Ak (s.map Ef)=true:=Cp λ_ _=>rfl
theorem Gh(s:List (Nat×Nat)):Ax (s.map Ef)=s.map Ef:=AN _ (FQ s)
def IL(D:List (List Dr))(s:List (Nat×Nat)):Prop:=∀p∈s,p.1<D.length/\p.2<(D.getD p.1 []).length
abbrev AU(Ms:List Mc):List (List Dr):=Ms.map Mc.ds
theorem zkk{Ms:List Mc}{k:Nat}(h1:i<(AU Ms).length)(h2:k<((AU Ms).getD i []).length):∃M,Ms[i]?=some M/\M.ds[k]?=some (BD (AU Ms) i k):=by
 rw[ya1]at h1;have e:(AU Ms).getD i []=Ms[i].ds:=by rw[yag,ya5,ya0 h1];rfl
 rw[e]at h2;refine⟨Ms[i],ya0 h1,?_⟩;unfold BD;rw[e,ya0 h2,yag,ya0 h2]
 rfl
theorem znq(h:i<n):DB n (i:Int)=some i:=by unfold DB;simp;omega
theorem Ov{M:Mc}(h:McOk M):Fj [AE M]=some (.ok (.own (M.ds.map AR))):=zjo h
theorem MF{Ms:List Mc}(h:∀M∈Ms,McOk M){p:Nat×Nat}{s:List (Nat×Nat)}(hs:IL (AU Ms) s)(hp:p∈s):∃M∈Ms,Ms[p.1]?=some M/\M.ds[p.2]?=some (BD (AU Ms) p.1 p.2)/\DrOk M.ws M.nm (BD (AU Ms) p.1 p.2):=by
 obtain⟨h1,h2⟩:=hs p hp;obtain⟨M,e1,e2⟩:=zkk h1 h2;have hM:=yas e1;exact⟨M,hM,e1,e2,(h M hM).d _ (yas e2)⟩
def GR(D:List (List Dr))(s:List (Nat×Nat))(t:List Str):List Str:=s.foldl (λe p=>e.set p.1 (BD D p.1 p.2).e) t
def GN(D:List (List Dr))(s:List (Nat×Nat)):List T:=s.flatMap λp=>(BD D p.1 p.2).g
def Eh(D:List (List Dr))(s:List (Nat×Nat)):List Str:=s.flatMap λp=>(BD D p.1 p.2).n
def G4(D:List (List Dr))(w:List (Nat×Nat)×List Str):Dr:=⟨A3 w.2,A3 (GR D w.1 w.2),GN D w.1,Eh D w.1,""⟩
theorem RC(D:List (List Dr)):∀(s:List (Nat×Nat)) (t:List Str),(GR D s t).length=t.length
 |[],_=>rfl
 |p::s,t=>by
  show(GR D s (t.set p.1 _)).length=_;rw[RC D s,yc0]
theorem RB(D:List (List Dr)):∀(s:List (Nat×Nat)) (t:List Str) (i:Nat) (r:Str),(GR D s t)[i]?=some r->t[i]?=some r\/∃p∈s,p.1=i/\r=(BD D p.1 p.2).e
 |[],_,i,r,h=>.inl h
 |p::s,t,i,r,h=>by
  rcases RB D s (t.set p.1 (BD D p.1 p.2).e) i r h with h|⟨q,h1,h2⟩
  .by_cases hi:p.1=i
   .by_cases hl:i<t.length
    .rw[hi,yap hl]at h;refine .inr ⟨p,ya9 ..,hi,?_⟩;rw[hi];exact(yau h).symm
    .rw[ybj (by rw[yc0];omega)]at h
     cases h
   .rw[yan hi]at h;exact .inl h
  .exact .inr ⟨q,ya7 _ h1,h2⟩
theorem Sn{Ms:List Mc}(h:∀M∈Ms,McOk M){x1 x2:Option T}:∀(s:List (Nat×Nat)) (e:List Str) (g:List T) (n:List Str) (y6 y7 y8:Option T),IL (AU Ms) s->e.length=Ms.length->g.length+s.length * 1000<=100000->n.length+s.length * 1000<=100000->∃z6 z7 z8,
  Bh (Bf 2 (Am (AG 6) (Am (AG 7) Bi))) Jv (s.map Ef) [some (.lst (Ms.map AE)),x1,x2,some (.own (e.map T.str)),some (.own g),some (.own (n.map T.str)),y6,y7,y8]=some (.nx [some (.lst (Ms.map AE)),x1,x2,some (.own ((GR (AU Ms) s e).map T.str)),some (.own (g++GN (AU Ms) s)),some (.own ((n++Eh (AU Ms) s).map T.str)),z6,z7,z8])
 |[],e,g,n,y6,y7,y8,_,_,_,_=>⟨y6,y7,y8,by unfold GN Eh;rw[ybw,ybw,yav,yav];rfl⟩
 |p::s,e,g,n,y6,y7,y8,hs,he,hg,hn=>by
  rw[yao,ycx,ycy]at hg hn;obtain⟨M,hM,e1,e2,k⟩:=MF h hs (ya9 ..);generalize hd:BD (AU Ms) p.1 p.2=d at *;have sm:=CW h;have k1:=CY (h M hM);have kd:=Ov (h M hM);have a1:Aw (Ms.map AE) (p.1:Int)=some (AE M):=Fg (by rw[ya5,e1];rfl)
  have a2:Aw (M.ds.map AR) (p.2:Int)=some (AR d):=Fg (by rw[ya5,e2];rfl)
  have a3:DB e.length (p.1:Int)=some p.1:=znq (by rw[he];exact(ya4.mp e1).1)
  have sg:=k.g.sh;have sd:=RE k;have f1:=zkj sg;have f2:=zkg sg;have gl:=k.gl;have nl:=k.nl;have l1:g.length+d.g.length<=100000:=by omega
  have l2:n.length+d.n.length<=100000:=by omega
  obtain⟨z6,z7,z8,ih⟩:=Sn h (x1:=x1) (x2:=x2) s (e.set p.1 d.e) (g++d.g) (n++d.n) (some (.int (p.1:Int))) (some (.int (p.2:Int))) (some (AR d)) (λq hq=>hs q (ya7 _ hq)) (by rw[yc0];exact he) (by rw[yad];omega) (by rw[yad];omega)
  have body:Jv [some (.lst (Ms.map AE)),x1,x2,some (.own (e.map T.str)),some (.own g),some (.own (n.map T.str)),some (.int (p.1:Int)),some (.int (p.2:Int)),y8]=some (.nx [some (.lst (Ms.map AE)),x1,x2,some (.own ((e.set p.1 d.e).map T.str)),some (.own (g++d.g)),some (.own ((n++d.n).map T.str)),some (.int (p.1:Int)),some (.int (p.2:Int)),some (AR d)]):=by
   have q1:(e.set p.1 d.e).map T.str=(e.map T.str).set p.1 (.str d.e):=List.map_set;rw[q1,yb9];unfold Jv;refine sq (τ':=[some (.lst (Ms.map AE)),x1,x2,some (.own (e.map T.str)),some (.own g),some (.own (n.map T.str)),some (.int (p.1:Int)),some (.int (p.2:Int)),some (AR d)]) ?_ ?_
   .simp![-DQ,sm,Hk,k1,BK _ k1,a1,kd,a2,sg,AN _ sg,Aa,An]
   .simp![sg,AN _ sg,Aa,An,ya1,a3,f1,f2,l1,l2]
  refine⟨z6,z7,z8,?_⟩;have bind:Bf 2 (Am (AG 6) (Am (AG 7) Bi)) (Ef p) [some (.lst (Ms.map AE)),x1,x2,some (.own (e.map T.str)),some (.own g),some (.own (n.map T.str)),y6,y7,y8]=some [some (.lst (Ms.map AE)),x1,x2,some (.own (e.map T.str)),some (.own g),some (.own (n.map T.str)),some (.int (p.1:Int)),some (.int (p.2:Int)),y8]:=by simp![]
  rw[yae];unfold Bh;simp only[bind,body];rw[ih];unfold GN Eh GR;rw[ybc,ybc,ycm,hd,ybu,ybu]
theorem wd_ok{Ms:List Mc}(h:MsOk Ms)(hr:RmOk Ms){t:List Str}(ht:t∈A2 Ms){s:List (Nat×Nat)}(hs:IL (AU Ms) s)(hl:s.length<=2):MZ [.lst (Ms.map AE),Co s,A8 t]=some (.ok (AR (G4 (AU Ms) (s,t)))):=by
 obtain⟨t1,t2,t3,t4⟩:=hr.t h ht;obtain⟨z6,z7,z8,e⟩:=Sn h.m (x1:=some (Co s)) (x2:=some (A8 t)) s t [] [] none none none hs t1 (by rw[ybd];omega) (by rw[ybd];omega)
 rw[ybl,ybl,yc1]at e;have sm:=CW h.m;have n1:=Jr (o:=false) t2 t3
 have n2:=Jr (t:=GR (AU Ms) s t) (o:=false) (by rw[RC];exact t2) λr hr'=>by
  obtain⟨i,q⟩:=ybe.mp hr'
  rcases RB _ s t i r q with q|⟨p,hp,_,rfl⟩
  .exact t3 r (yas q)
  .obtain⟨M,hM,_,_,k⟩:=MF h.m hs hp;exact hr.s M hM _ k.e
 have sg:Ak (GN (AU Ms) s)=true:=by
  rw[DJ,yaj];intro u hu;obtain⟨p,hp,hu⟩:=yb7.mp hu;obtain⟨M,hM,_,_,k⟩:=MF h.m hs hp;have:=k.g.sh;rw[DJ,yaj]at this;exact this u hu
 have oc1:=LB _ sg;have oc2:=LB ((Eh (AU Ms) s).map T.str) (Aa _)
 have di:HR [.str (A3 t),.str (A3 (GR (AU Ms) s t)),.lst (GN (AU Ms) s),.lst ((Eh (AU Ms) s).map T.str),.str ""]=some (.ok (AR (G4 (AU Ms) (s,t)))):=by
  refine OS λp=>?_
  unfold FL LV G4
  simp![oc1,oc2,sg,AN _ sg,An,Aa]
 unfold MZ Oy
 simp![sm,AN _ sm,Aa,An,FQ,Gh,e,sg,AN _ sg,n1,n2,di]
abbrev N8:Stmt:=AW 48
def IZ:AH :=
 (Ai (D0 (m2 Ci (AA 6) (AA 1)) (m2 B5 (Bs BB B3 4 (AA 9)) (AA 4))) (Io 5 (AV (AK (B0 (AB (AA 1) (AB (AA 2) AD))) (AK (B0 (AB (AA 6) (AB (AA 8) AD))) AD)))) Ah)
def Mu:AH :=
 (C1 (DR (AB (AA 7) AD)) (Bf 2 (Am (AG 8) (Am (AG 9) Bi))) IZ)
def Hl:AH :=
 (AI (Au (Bs BB B3 4 (B8 (B8 (AA 0) (AA 1)) (AA 2))) (AG 3))
 (AI (Ai (m2 B5 (AA 3) (mC (.str ""))) (AX (AV (AK (AV (AK (B0 (AB (AA 1) (AB (AA 2) AD))) AD)) AD))) Ah)
 (AI (Ai (Gy (AA 3) (mC (.str "?"))) (AX (AV AD)) Ah)
 (AI (Au (m2 BV (Cj (Ek (AA 3) none (some (m1 Du (mC (.int 1))))) (ES (AA 3) none (some (m1 Du (mC (.int 1)))))) (mC (.str "?"))) (AG 4))
 (AI (Di 5 (AV AD))
 (AI (C1 (DR (AB (AA 0) AD)) (Bf 2 (Am (AG 6) (Am (AG 7) Bi))) Mu)
 (AX (AA 5))))))))
def IM:List T->Option Ru:=Al 3 10 Hl
abbrev Qb:Fn:=⟨1,["lists","at","number"],IM⟩
abbrev zc4:Gx:=⟨[],[("Door",BB,B3)],[],[],false,true,true,none,[],[],[],true,[],[],[],[],[],[],[]⟩
abbrev X2:Gm:=⟨["lists","at","number","sign","answer","told","other_at","doors","other_number","door"],(AL N8).names,[],0,[],["enumerate"],[],["told"],[],false,[],[],[],zc4⟩
theorem zbw:FnScope X2.N Qb.ps (AL N8):=Aq (by decide +kernel)
theorem zc9:Ad 200 X2 (Ab N8)=some Hl:=by ext
theorem zgz{c:Nat}(hc:c∈Tx.cs y)(hx:c∉Tx.cs x):Txt.endswith x y=false:=by
 unfold Txt.endswith;rw[Bool.and_eq_false_iff];right;rw[StrLaws.subAt_eq,yff];intro z;have hc':c∈y.cps.toList:=hc;rw[<- z]at hc';exact hx (List.mem_of_mem_drop (List.mem_of_mem_take hc'))
theorem zke(h:Tx.cs z=Tx.cs x++Tx.cs y):Txt.endswith z y=true:=by
 have hl:(Tx.cs z).length=(Tx.cs x).length+(Tx.cs y).length:=by rw[h,yad]
 unfold Txt.endswith;rw[ya3];refine⟨yew ?_,?_⟩
 .rw[Tx.cs_len,Tx.cs_len]
  omega
 .rw[StrLaws.subAt_eq,yf2];show((Tx.cs z).drop (z.length - y.length)).take y.length=Tx.cs y;rw[Tx.cs_len,Tx.cs_len,hl,Nat.add_sub_cancel,h,List.drop_left' rfl];exact ycu
theorem O3:Tx.cs (Str.ofString "?")=[63]:=by decide +kernel
def DC(z:Str):Str:=Txt.slice z none (some (-1))++"?"
def Cq(D:List (List Dr))(i k:Nat):List (List (Nat×Nat)):=if (BD D i k).z="" then [[(i,k)]] else if Txt.endswith (BD D i k).z "?"=true then [] else
 (List.range D.length).flatMap λj=>(List.range (D.getD j []).length).flatMap λm=>if j≠i/\(BD D j m).z=DC (BD D i k).z then [[(i,k),(j,m)]] else []
theorem QR{D:List (List Dr)}{k:Nat}(h1:i<D.length)(h2:k<(D.getD i []).length){s:List (Nat×Nat)}(hs:s∈Cq D i k):IL D s/\s.length<=2/\(s=[(i,k)]\/∃j m,j≠i/\s=[(i,k),(j,m)]):=by
 unfold Cq at hs;split at hs
 .rw[yaa.mp hs];exact⟨λp hp=>by rw[yaa.mp hp];exact⟨h1,h2⟩,yby 1,.inl rfl⟩
 .split at hs
  .cases hs
  .obtain⟨j,hj,hs⟩:=yb7.mp hs;obtain⟨m,hm,hs⟩:=yb7.mp hs;split at hs
   .rename_i hc;rw[yaa.mp hs];refine⟨λp hp=>?_,yac _,.inr ⟨j,m,hc.1,rfl⟩⟩
    rcases ya6.mp hp with rfl|hp
    .exact⟨h1,h2⟩
    .rw[yaa.mp hp];exact⟨ybo.mp hj,ybo.mp hm⟩
   .cases hs
def BH(D:List (List Dr)):T:=.lst (D.map λl=>.lst (l.map AR))
structure DsOk(D:List (List Dr)):Prop where
 l:D.length<=100
 k:∀l∈D,l.length<=200
 g:∀l∈D,∀d∈l,Ak d.g=true
 z:∀l∈D,∀d∈l,HG d.z
theorem DsOk.sl{D:List (List Dr)}(h:DsOk D){l:List Dr}(hl:l∈D):Ak (l.map AR)=true:=Cp λd hd=>by
 have:=h.g l hl d hd
 simp![this,Aa]
theorem DsOk.sh{D:List (List Dr)}(h:DsOk D):Ak (D.map λl=>T.lst (l.map AR))=true:=Cp λl hl=>by
 show((!false) && Ak (l.map AR))=true;rw[h.sl hl]
 rfl
theorem Lz{D:List (List Dr)}(h1:i<D.length):∃l∈D,D.getD i []=l/\Aw (D.map λl=>T.lst (l.map AR)) (i:Int)=some (.lst (l.map AR)) :=
 ⟨D[i],yb6 h1,by rw[yag,ya0 h1];rfl,Fg (by rw[ya5,ya0 h1];rfl)⟩
theorem Y9{D:List (List Dr)}{k:Nat}(h1:i<D.length)(h2:k<(D.getD i []).length):∃l∈D,D.getD i []=l/\BD D i k∈l/\Aw (D.map λl=>T.lst (l.map AR)) (i:Int)=some (.lst (l.map AR))/\Aw (l.map AR) (k:Int)=some (AR (BD D i k)):=by
 obtain⟨l,hl,e,a⟩:=Lz h1;rw[e]at h2;have ed:BD D i k=l[k]:=by unfold BD;rw[e,yag,ya0 h2];rfl
 exact⟨l,hl,e,by rw[ed];exact yb6 h2,a,Fg (by rw[ya5,ya0 h2,ed];rfl)⟩
theorem UG(h:HG z)(hz:z≠""):∃(y:Str) (c:Nat),Dp y/\y.cps.size<=8/\(c=33\/c=63)/\Tx.cs z=Tx.cs y++[c]/\Txt.slice z none (some (-1))=y/\Txt.endswith z "?"=decide (c=63)/\z.length<=9/\Aw z.cps.toList (-1)=some c:=by
 rcases h with h|⟨y,c,h1,h2,h3,hc,e⟩
 .exact absurd h hz
 .have hl:(Tx.cs z).length=(Tx.cs y).length+1:=by rw[e,yad];rfl
  have h3':(Tx.cs y).length<=8:=h3;refine⟨y,c,h1,h3,hc,e,?_,?_,by rw[Tx.cs_len];omega,?_⟩
  .have e2:Txt.slice z none (some (-1))=StrLaws.sliceText z none (some (-1)):=rfl;rw[e2,StrLaws.sliceText_neg_hi z none (by decide) (by rw[Tx.cs_len,hl];omega)]
   have e3:((-1:Int)+(z.length:Int))=(((Tx.cs y).length:Nat):Int):=by rw[Tx.cs_len,hl];omega
   rw[e3];refine Tx.cs_ext ?_;show Tx.cs (Txt.slice z none (some (((Tx.cs y).length:Nat):Int)))=Tx.cs y;rw[Tx.sl_to (by omega),e,List.take_left' rfl]
  .rcases hc with rfl|rfl
   .refine zgz (c:=63) (by rw[O3];decide) λq=>?_
    rw[e]at q
    rcases yax.mp q with q|q
    .have:=Ig h1 63 q
     omega
    .cases yaa.mp q
   .exact zke (x:=y) (by rw[e,O3])
  .show Aw (Tx.cs z) (-1)=some c;rw[e];unfold Aw DB;rw[yad,ybi,if_neg (by decide),if_pos (by omega)]
   show(Tx.cs y++[c])[((-1:Int)+(((Tx.cs y).length+1:Nat):Int)).toNat]?=some c;rw[show((-1:Int)+(((Tx.cs y).length+1:Nat):Int)).toNat=(Tx.cs y).length by omega,yb5 (yac _),Nat.sub_self]
   rfl
theorem RA{α:Type}(f:α->T)(d:α)(L:List α):Cr 0 (L.map f)=(List.range L.length).map λ(j:Nat)=>T.tup [.int (j:Int),f (L.getD j d)]:=by
 have e:L.map f=mT L.length λj=>f (L.getD j d):=Hn (by simp) λj hj=>by
  rw[ya5,ya0 hj,yag,ya0 hj]
  rfl
 rw[e,zkf]
 rfl
theorem em_ok:PyData.strOk (Str.ofString "")=true:=by decide +kernel
theorem an_ok(h:HG z)(hz:z≠""):PyData.strOk (DC z)=true:=by
 obtain⟨y,c,h1,_,_,_,e,_⟩:=UG h hz;refine Z2 λx hx=>?_
 unfold DC at hx;rw[e,Tx.cs_app]at hx
 rcases yax.mp hx with hx|hx
 .have:=Ig h1 x hx
  omega
 .rw[show Tx.cs (Str.ofString "?")=[63] from O3]at hx;rw[yaa.mp hx]
  decide
abbrev Eb(s:List (Nat×Nat)):T:=.own (s.map Ef)
abbrev sO(D:List (List Dr))(i k:Nat)(z:Str)(a:List (List (Nat×Nat)))(x6 x7 x8 x9:Option T):AO:=[some (BH D),some (.int (i:Int)),some (.int (k:Int)),some (.str z),some (.str (DC z)),some (.own (a.map Eb)),x6,x7,x8,x9]
theorem so_ok{D:List (List Dr)}(h:DsOk D){k:Nat}(h1:i<D.length)(h2:k<(D.getD i []).length):IM [BH D,.int (i:Int),.int (k:Int)]=some (.ok (.own ((Cq D i k).map Eb))):=by
 have hs:=h.sh;obtain⟨l,hl,_,hd,a1,a2⟩:=Y9 h1 h2;have sl:=h.sl hl;have sg:=h.g l hl _ hd;have hz:=h.z l hl _ hd;generalize hdd:BD D i k=d at *;have q0:=GQ (N1 hz) em_ok
 by_cases z0:d.z=""
 .have eg:Cq D i k=[[(i,k)]]:=by unfold Cq;rw[hdd,if_pos z0]
  rw[yew (show d.z=Str.ofString "" from z0)]at q0;rw[eg];unfold IM Hl BH
  simp![hs,AN _ hs,a1,a2,sl,sg,AN _ sg,Aa,q0]
  rfl
 .rw[yeg (show ¬ d.z=Str.ofString "" from z0)]at q0;obtain⟨y,c,y1,y2,hc,ez,es,ee,zl,_⟩:=UG hz z0
  by_cases c63:c=63
  .rw[yew c63]at ee;have eg:Cq D i k=[]:=by unfold Cq;rw[hdd,if_neg z0,if_pos ee]
   rw[eg];unfold IM Hl BH
   simp![hs,AN _ hs,a1,a2,sl,sg,AN _ sg,Aa,q0,Gy,ee]
  .rw[yeg c63]at ee;have eg:Cq D i k=(List.range D.length).flatMap λj=>(List.range (D.getD j []).length).flatMap λm=>if j≠i/\(BD D j m).z=DC d.z then [[(i,k),(j,m)]] else []:=by unfold Cq;rw[hdd,if_neg z0,if_neg (by rw[ee];exact yb8)]
   have an:=an_ok hz z0
   have il:∀j,j<D.length->((List.range (D.getD j []).length).flatMap λm=>if j≠i/\(BD D j m).z=DC d.z then [[(i,k),(j,m)]] else []).length<=200:=λj hj=>by
    obtain⟨lj,hlj,ej,_⟩:=Lz hj
    have:=HF (g:=λm=>if j≠i/\(BD D j m).z=DC d.z then [[(i,k),(j,m)]] else []) (m:=1) (L:=List.range (D.getD j []).length) λm _=>by
     split
     .exact yac 1
     .exact yaz 1
    rw[yce,ej,Nat.mul_one]at this;rw[ej];exact yaw this (h.k lj hlj)
   have tl:=HF (g:=λj=>(List.range (D.getD j []).length).flatMap λm=>if j≠i/\(BD D j m).z=DC d.z then [[(i,k),(j,m)]] else []) (m:=200) (L:=List.range D.length) λj hj=>il j (ybo.mp hj)
   rw[yce]at tl;have hlD:=h.l
   obtain⟨τ,e,y6,y7,y8,y9,rfl⟩:=Hy (b:=Bf 2 (Am (AG 6) (Am (AG 7) Bi))) (body:=Mu) (λ(j:Nat)=>T.tup [.int (j:Int),.lst ((D.getD j []).map AR)]) (λ(a:List (List (Nat×Nat))) τ=>∃y6 y7 y8 y9,τ=(sO D i k d.z a y6 y7 y8 y9)) (λj=>(List.range (D.getD j []).length).flatMap λm=>if j≠i/\(BD D j m).z=DC d.z then [[(i,k),(j,m)]] else []) 20000 (List.range D.length) [] [some (BH D),some (.int (i:Int)),some (.int (k:Int)),some (.str d.z),some (.str (DC d.z)),some (.own []),none,none,none,none] ⟨none,none,none,none,rfl⟩ (by rw[ybd];omega) λj hj a τ hS hN=>by
    obtain⟨y6,y7,y8,y9,rfl⟩:=hS;have hj:=ybo.mp hj;obtain⟨lj,hlj,ej,_⟩:=Lz hj;have slj:=h.sl hlj;rw[ej]at hN ⊢
    obtain⟨τ2,e2,z8,z9,rfl⟩:=Hy (b:=Bf 2 (Am (AG 8) (Am (AG 9) Bi))) (body:=IZ) (λ(m:Nat)=>T.tup [.int (m:Int),AR (lj.getD m d0)]) (λ(a:List (List (Nat×Nat))) τ=>∃y8 y9,τ=(sO D i k d.z a (some (.int (j:Int))) (some (.lst (lj.map AR))) y8 y9)) (λm=>if j≠i/\(BD D j m).z=DC d.z then [[(i,k),(j,m)]] else []) 20000 (List.range lj.length) a (sO D i k d.z a (some (.int (j:Int))) (some (.lst (lj.map AR))) y8 y9) ⟨y8,y9,rfl⟩ hN λm hm a τ hS hN=>by
     obtain⟨y8,y9,rfl⟩:=hS;have hm:=ybo.mp hm;have em:lj.getD m d0=BD D j m:=by unfold BD;rw[ej]
     have hdm:BD D j m∈lj:=by rw[<- em,yag,ya0 hm];exact yb6 hm
     rw[em];have sgm:=h.g lj hlj _ hdm;have q1:=GQ (N1 (h.z lj hlj _ hdm)) an;generalize BD D j m=dm at *;refine⟨(sO D i k d.z a (some (.int (j:Int))) (some (.lst (lj.map AR))) (some (.int (m:Int))) (some (AR dm))),by simp![],_,?_,some (.int (m:Int)),some (AR dm),rfl⟩
     by_cases hji:j=i
     .rw[if_neg (λz=>z.1 hji),yav]
      have n1:((j:Int) == (i:Int))=true:=by rw[hji];exact yf8 _
      unfold IZ
      simp![JE,n1]
     .have n1:((j:Int) == (i:Int))=false:=by rw[yff];exact λz=>hji (Int.ofNat.inj z)
      by_cases hzz:dm.z=DC d.z
      .rw[yew hzz]at q1;rw[if_pos ⟨hji,hzz⟩]at hN ⊢;have ll:a.length<100000:=by rw[ybi]at hN;omega
       unfold sO;rw[yb9];unfold IZ
       simp![JE,n1,sgm,AN _ sgm,Aa,q1,ya1,ll]
       rfl
      .rw[yeg hzz]at q1;rw[if_neg (λz=>hzz z.2),yav]
       unfold IZ
       simp![JE,n1,sgm,AN _ sgm,Aa,q1]
    refine⟨(sO D i k d.z a (some (.int (j:Int))) (some (.lst (lj.map AR))) y8 y9),by simp![],_,?_,some (.int (j:Int)),some (.lst (lj.map AR)),z8,z9,rfl⟩
    unfold Mu
    simp![DR,slj,AN _ slj,RA AR d0,e2]
   rw[ybl]at e;have sy:Txt.slice d.z none (some (-1))++Str.ofString "?"=DC d.z:=rfl;have ls:d.z.length<=100000:=by omega
   have l9:(Txt.slice d.z none (some (-1))).length+(Str.ofString "?").length<=100000:=by
    rw[es,Tx.cs_len,show(Str.ofString "?").length=1 by decide +kernel]
    have:(Tx.cs y).length<=8:=y2
    omega
   have en:Cr 0 (D.map λl=>T.lst (l.map AR))=(List.range D.length).map λ(j:Nat)=>T.tup [.int (j:Int),.lst ((D.getD j []).map AR)]:=RA (λl:List Dr=>T.lst (l.map AR)) [] D
   rw[eg]
   have key:Hl [some (BH D),some (.int (i:Int)),some (.int (k:Int)),none,none,none,none,none,none,none]=some (.rt (.own (((List.range D.length).flatMap λj=>(List.range (D.getD j []).length).flatMap λm=>if j≠i/\(BD D j m).z=DC d.z then [[(i,k),(j,m)]] else []).map Eb))):=by
    unfold Hl;refine sq (τ':=[some (BH D),some (.int (i:Int)),some (.int (k:Int)),some (.str d.z),none,none,none,none,none,none]) (by unfold BH;simp![hs,AN _ hs,a1,a2,sl,sg,AN _ sg,Aa]) ?_
    refine sq (τ':=[some (BH D),some (.int (i:Int)),some (.int (k:Int)),some (.str d.z),none,none,none,none,none,none]) (by simp![q0]) ?_
    refine sq (τ':=[some (BH D),some (.int (i:Int)),some (.int (k:Int)),some (.str d.z),none,none,none,none,none,none]) (by simp![Gy,ee]) ?_
    refine sq (τ':=[some (BH D),some (.int (i:Int)),some (.int (k:Int)),some (.str d.z),some (.str (DC d.z)),none,none,none,none,none]) (by simp![ES,ls,show(-(1:Int))=-1 from rfl,l9,sy]) ?_
    refine sq (τ':=[some (BH D),some (.int (i:Int)),some (.int (k:Int)),some (.str d.z),some (.str (DC d.z)),some (.own []),none,none,none,none]) (by simp![]) ?_
    refine sq (τ':=_) (by rw[<- e];unfold BH;simp![DR,hs,AN _ hs,en]) ?_
    simp![]
   unfold IM;have sD:(BH D).share=BH D:=by unfold BH;simp![hs,AN _ hs]
   simp![key]
abbrev N7:Stmt:=AW 49
def Rf:AF :=
 (m2 B5 (Bs BB B3 0 (B8 (B8 (AA 2) (AA 0)) (AA 1))) (B8 (AA 3) (AA 0)))
def Oz:AH :=
 (AX (m1 Dn (BX 2 [0,2] (BW (AA 1)) (Bf 2 (Am (AG 0) (Am (AG 1) Bi))) (mC (.bl true)) Rf)))
def M0:List T->Option Ru:=Al 3 3 Oz
abbrev Qa:Fn:=⟨1,["lists","share","taking"],M0⟩
abbrev zb0:Gx:=⟨[],[("Door",BB,B3)],[],[],false,true,true,none,[],[],[],true,[],[],[],[],[],[],[]⟩
abbrev X1:Gm:=⟨["lists","share","taking"],(AL N7).names,["lists","taking"],0,[],["all"],[],[],[],false,[],[],[],zb0⟩
theorem zat:FnScope X1.N Qa.ps (AL N7):=Aq (by decide +kernel)
theorem zb6:Ad 200 X1 (Ab N7)=some Oz:=by ext
def FI(D:List (List Dr))(s:List (Nat×Nat))(t:List Str):Bool:=s.all λp=>decide ((BD D p.1 p.2).s=t.getD p.1 "")
theorem ZF{α:Type}(f:α->Bool):∀L:List α,De (L.map λx=>T.bl (f x))=some (L.map f)
 |[]=>rfl
 |a::r=>by
  rw[yae,yae];unfold De;rw[ZF f r]
theorem Y2{D:List (List Dr)}(h:DsOk D):(BH D).share=BH D/\(BH D).sh=true:=by
 have hs:=h.sh;unfold BH;constructor<;>simp![hs,AN _ hs]
theorem sf_ok{D:List (List Dr)}(h:DsOk D)(ht:∀l∈D,∀d∈l,PyData.strOk d.s=true){s:List (Nat×Nat)}(hs:IL D s)(hl:s.length<=2){t:List Str}(tl:t.length=D.length)(tx:C8 t):M0 [BH D,Co s,A8 t]=some (.ok (.bl (FI D s t))):=by
 obtain⟨d1,d2⟩:=Y2 h;have hD:=h.sh
 have lc:Bd (Bf 2 (Am (AG 0) (Am (AG 1) Bi))) (mC (.bl true)) Rf (s.map Ef) [none,none,some (BH D),some (A8 t)]=some (s.map λp=>T.bl (decide ((BD D p.1 p.2).s=t.getD p.1 ""))):=Dy Ef (λp=>T.bl (decide ((BD D p.1 p.2).s=t.getD p.1 ""))) (λτ=>∃a b,τ=[a,b,some (BH D),some (A8 t)]) _ _ ⟨none,none,rfl⟩ λp hp τ hI=>by
  obtain⟨a,b,rfl⟩:=hI;obtain⟨k1,k2⟩:=hs p hp;obtain⟨l,hl,_,hd,a1,a2⟩:=Y9 k1 k2;have sl:=h.sl hl;have sg:=h.g l hl _ hd;have it:p.1<t.length:=by omega
  have a3:Aw (t.map T.str) (p.1:Int)=some (.str (t.getD p.1 "")):=Fg (by rw[ya5,ya0 it,yag,ya0 it];rfl)
  have q:=GQ (ht l hl _ hd) (tx (t.getD p.1 "") (by rw[yag,ya0 it];exact yb6 it))
  generalize BD D p.1 p.2=d at *;refine⟨[some (.int (p.1:Int)),some (.int (p.2:Int)),some (BH D),some (A8 t)],by simp![],?_,_,_,rfl⟩
  unfold Rf BH
  simp![hD,a1,a2,sl,sg,Aa,a3,q]
 have ba:=ZF (λp:Nat×Nat=>decide ((BD D p.1 p.2).s=t.getD p.1 "")) s
 have sb:=AN _ (Cp (f:=λp:Nat×Nat=>T.bl (decide ((BD D p.1 p.2).s=t.getD p.1 ""))) (L:=s) λ_ _=>rfl)
 have al:(s.map λp=>decide ((BD D p.1 p.2).s=t.getD p.1 "")).all id=FI D s t:=by unfold FI;rw[ydx];rfl
 have ll:s.length<=100000:=by omega
 have c0:II [some (BH D),some (Co s),some (A8 t)] 0=some (BH D):=by unfold II;simp only[yd9,d2,yet]
 unfold M0 Oz
 simp![d1,d2,Aa,An,FQ,Gh,ya1,ll,lc,sb,ba,al]
abbrev N2:Stmt:=AW 47
def Ra:AF :=
 (DN A4 BG Fj (AA 0) AD)
def QM:AF :=
 (AQ M0 (AB (AA 1) (AB (AA 2) (AB (AA 0) AD))))
def R9:AF :=
 (B0 (AB (AA 2) (AB (AA 0) AD)))
def G5:AH :=
 (AI (Ec 3 (BX 1 [2,7] (BW (AA 1)) (AG 0) QM R9))
 (Ai (m2 (Cs λi j=>decide (j<i)) (m1 Bu (AA 3)) (mC GH)) (CM "TooMany" (AB (mC (.str "the whole would have more than 200 doors")) AD)) Ah))
def G6:AH :=
 (C1 (BW (AQ IM (AB (AA 2) (AB (AA 4) (AB (AA 6) AD))))) (AG 7) G5)
def G7:AH :=
 (C1 (EB (AB (m1 Bu (AA 5)) AD)) (AG 6) G6)
def LL:AH :=
 (AI (Au (BX 1 [] (BW (AA 0)) (AG 0) (mC (.bl true)) Ra) (AG 2))
 (AI (Di 3 (AV AD))
 (AI (C1 (DR (AB (AA 2) AD)) (Bf 2 (Am (AG 4) (Am (AG 5) Bi))) G7)
 (AX (AA 3)))))
def HH:List T->Option Ru:=Al 2 8 LL
abbrev Ll:Fn:=⟨2,["machines","takings"],HH⟩
abbrev zbk:Gx:=⟨[("MOST_DOORS",GH)],[],[("doors",A4,BG,Lw)],[],false,true,true,none,[],[],[],true,[],[],[],[],[],[],[]⟩
abbrev XW:Gm:=⟨["machines","takings","lists","ways","at","doors","number","share"],(AL N2).names,["lists","share"],1,[("shares_of",Qb),("starts_from",Qa)],["enumerate","range","len"],["TooMany"],["ways"],[],false,[],[],[],zbk⟩
theorem zbe:FnScope XW.N Ll.ps (AL N2):=Aq (by decide +kernel)
theorem zbo:Ad 200 XW (Ab N2)=some LL:=by ext
theorem Wl{α:Type}{b:T->AO->Option AO}{mt me:AF}(f g:α->T)(p:α->Bool)(I:AO->Prop):∀(L:List α) (τ:AO),I τ->(∀x∈L,∀τ,I τ->∃τ1 bb,b (f x) τ=some τ1/\mt τ1=some (.v (.bl (p x)) bb)/\(p x=true->me τ1=some (.v (g x) false))/\I τ1)->Bd b mt me (L.map f) τ=some ((L.filter p).map g)
 |[],_,_,_=>rfl
 |x::L,τ,h,hs=>by
  obtain⟨τ1,bb,e1,e2,e3,h1⟩:=hs x (ya9 ..) τ h;have k:=Wl f g p I L τ1 h1 λu hu=>hs u (ya7 _ hu)
  rw[yae,List.filter_cons];unfold Bd;cases hp:p x with
  |true=>simp only[e1,e2,hp,e3 hp,k,yet];rfl
  |false=>simp only[e1,e2,hp,k,yca,yeu]
abbrev Cu(w:List (Nat×Nat)×List Str):T:=.tup [Co w.1,A8 w.2]
def Cc(D:List (List Dr))(ts:List (List Str))(s:List (Nat×Nat)):List (List (Nat×Nat)×List Str):=(ts.filter (FI D s)).map λt=>(s,t)
def G3(D:List (List Dr))(ts:List (List Str))(i k:Nat):List (List (Nat×Nat)×List Str):=(Cq D i k).flatMap (Cc D ts)
def Cb(D:List (List Dr))(ts:List (List Str))(i:Nat):List (List (Nat×Nat)×List Str):=(List.range (D.getD i []).length).flatMap (G3 D ts i)
def BR(D:List (List Dr))(ts:List (List Str)):List (List (Nat×Nat)×List Str):=(List.range D.length).flatMap (Cb D ts)
theorem S8{D:List (List Dr)}{w:List (Nat×Nat)×List Str}(h:w∈BR D ts):w.2∈ts/\∃i k,i<D.length/\k<(D.getD i []).length/\w.1∈Cq D i k/\FI D w.1 w.2=true:=by
 obtain⟨i,hi,h⟩:=yb7.mp h;obtain⟨k,hk,h⟩:=yb7.mp h;obtain⟨s,hs,h⟩:=yb7.mp h;obtain⟨t,ht,rfl⟩:=yai.mp h;obtain⟨h1,h2⟩:=ydt.mp ht;exact⟨h1,i,k,ybo.mp hi,ybo.mp hk,hs,h2⟩
theorem Jo(w:List (Nat×Nat)×List Str):(Cu w).sh=true:=by simp![FQ,Aa]
theorem ds_of{Ms:List Mc}(h:MsOk Ms):DsOk (AU Ms)/\∀l∈AU Ms,∀d∈l,PyData.strOk d.s=true:=by
 have key:∀l∈AU Ms,∃M∈Ms,M.ds=l:=λl hl=>by
  obtain⟨M,hM,rfl⟩:=yai.mp hl;exact⟨M,hM,rfl⟩
 refine⟨⟨by rw[ya1];have:=h.l6;omega,λl hl=>?_,λl hl d hd=>?_,λl hl d hd=>?_⟩,λl hl d hd=>?_⟩<;>obtain⟨M,hM,rfl⟩:=key l hl
 .exact(h.m M hM).dl
 .exact((h.m M hM).d d hd).g.sh
 .exact((h.m M hM).d d hd).z
 .exact(h.m M hM).tn _ ((h.m M hM).d d hd).s
abbrev sW(Ms:List Mc)(ts:List (List Str))(D:List (List Dr))(a:List (List (Nat×Nat)×List Str))(x4 x5 x6 x7:Option T):AO:=[some (.lst (Ms.map AE)),some (.lst (ts.map A8)),some (BH D),some (.own (a.map Cu)),x4,x5,x6,x7]
theorem Sb{Ms:List Mc}(h:MsOk Ms)(hr:RmOk Ms):((BR (AU Ms) (A2 Ms)).length<=200/\HH [.lst (Ms.map AE),.lst ((A2 Ms).map A8)]=some (.ok (.own ((BR (AU Ms) (A2 Ms)).map Cu))))\/(200<(BR (AU Ms) (A2 Ms)).length/\HH [.lst (Ms.map AE),.lst ((A2 Ms).map A8)]=some (.exc "TooMany")):=by
 obtain⟨hD,hD2⟩:=ds_of h;obtain⟨d1,d2⟩:=Y2 hD;have sD:=hD.sh;have sm:=CW h.m;have st:=Ga (A2 Ms);have l64:(A2 Ms).length<=64:=by have:=hr.k Ms.length (yac _);rwa[ycu]at this
 have tl:∀t∈A2 Ms,t.length=(AU Ms).length/\C8 t:=λt ht=>by
  obtain⟨k1,_,_,k4⟩:=hr.t h ht;refine⟨by rw[ya1];exact k1,λx hx=>?_⟩
  obtain⟨i,e⟩:=ybe.mp hx;obtain⟨M,e1,e2⟩:=k4 i x e;exact(h.m M (yas e1)).tn x e2
 generalize hts:A2 Ms=ts at *;have eD:(AU Ms).length=Ms.length:=ya1 _;generalize hDD:AU Ms=D at *
 have DA:Bd (AG 0) (mC (.bl true)) Ra (Ms.map AE) [none]=some (Ms.map λM=>T.own (M.ds.map AR)):=Dy AE (λM=>T.own (M.ds.map AR)) (λτ=>∃a,τ=[a]) Ms _ ⟨none,rfl⟩ λM hM τ hI=>by
  obtain⟨a,rfl⟩:=hI;have k1:=CY (h.m M hM);exact⟨[some (AE M)],by simp![],by unfold Ra;simp![-DQ,Hk,k1,BK _ k1,Ov (h.m M hM)],_,rfl⟩
 have so:T.lst (Ax (Ms.map λM=>T.own (M.ds.map AR)))=BH D:=by
  rw[<- hDD];unfold BH;rw[DI,yb4,yb4];refine congrArg T.lst (yc5 λM hM=>?_)
  show T.nd false .lst (Ax (M.ds.map AR))=T.lst (M.ds.map AR);rw[AN _ (h.m M hM).sd]
 have one:∀(i k:Nat) (l:List Dr) (s:List (Nat×Nat)),IL D s->s.length<=2->∀a:List (List (Nat×Nat)×List Str),a.length<=200 ->
   let τ:=λ(a:List (List (Nat×Nat)×List Str))=>(sW Ms ts D a (some (.int (i:Int))) (some (.lst (l.map AR))) (some (.int (k:Int))) (some (Co s)))
   (a.length+(Cc D ts s).length<=200/\G5 (τ a)=some (.nx (τ (a++Cc D ts s))))\/(200<a.length+(Cc D ts s).length/\G5 (τ a)=some (.xc "TooMany" (τ (a++Cc D ts s)))):=λi k l s hs hl a ha=>by
  have lc:Bd (AG 0) QM R9 (ts.map A8) [none,some (BH D),some (Co s)]=some ((ts.filter (FI D s)).map λt=>Cu (s,t)):=Wl A8 (λt=>Cu (s,t)) (FI D s) (λτ=>∃a,τ=[a,some (BH D),some (Co s)]) ts _ ⟨none,rfl⟩ λt ht τ hI=>by
   obtain⟨x,rfl⟩:=hI;obtain⟨k1,k2⟩:=tl t ht;have sf:=sf_ok hD hD2 hs hl k1 k2;refine⟨[some (A8 t),some (BH D),some (Co s)],false,by simp![],?_,λ_=>?_,_,rfl⟩
   .unfold QM
    simp![d1,d2,FQ,Gh,Aa,An,sf]
   .unfold R9
    simp![FQ,Gh,Aa,An]
  have e1:(ts.filter (FI D s)).map (λt=>Cu (s,t))=(Cc D ts s).map Cu:=by unfold Cc;rw[yb4];rfl
  have fl:(Cc D ts s).length<=64:=by unfold Cc;rw[ya1];exact yaw (ycs _ _) l64
  have sw:=Cp (f:=Cu) (L:=Cc D ts s) λw _=>Jo w
  have l1:ts.length<=100000:=by omega
  have l2:a.length+(Cc D ts s).length<=100000:=by omega
  rw[e1]at lc
  have dc:decide ((200:Int)<((((a++Cc D ts s).map Cu).length:Nat):Int))=decide (200<a.length+(Cc D ts s).length):=by
   rw[ya1,yad];exact decide_eq_decide.mpr (by omega)
  have ext:G5 (sW Ms ts D a (some (.int (i:Int))) (some (.lst (l.map AR))) (some (.int (k:Int))) (some (Co s)))=Ai (BA (g2 (Cs λi j=>decide (j<i))) (AB (BA (g1 Bu) (AB (AA 3) AD)) (AB (mC GH) AD))) (CM "TooMany" (AB (mC (.str "the whole would have more than 200 doors")) AD)) Ah (sW Ms ts D (a++Cc D ts s) (some (.int (i:Int))) (some (.lst (l.map AR))) (some (.int (k:Int))) (some (Co s))):=by
   unfold G5;refine sq ?_ rfl;unfold sW;rw[yb9]
   simp![d2,st,AN _ st,FQ,ya1,l1,lc,l2,sw,AN _ sw]
  have swa:=AN _ (Cp (f:=Cu) (L:=a++Cc D ts s) λw _=>Jo w)
  by_cases hc:200<a.length+(Cc D ts s).length
  .rw[yew hc]at dc;refine .inr ⟨hc,ext.trans ?_⟩;unfold GH
   simp![swa,dc]
  .rw[yeg hc]at dc;refine .inl ⟨by omega,ext.trans ?_⟩
   unfold GH
   simp![swa,dc]
 have two:∀(i k:Nat) (l:List Dr),i<D.length->D.getD i []=l->k<l.length->∀(a:List (List (Nat×Nat)×List Str)) (y:Option T),a.length<=200 ->
   (a.length+(G3 D ts i k).length<=200/\∃z,G6 (sW Ms ts D a (some (.int (i:Int))) (some (.lst (l.map AR))) (some (.int (k:Int))) y)=some (.nx (sW Ms ts D (a++G3 D ts i k) (some (.int (i:Int))) (some (.lst (l.map AR))) (some (.int (k:Int))) z)))\/(200<a.length+(G3 D ts i k).length/\∃τ,G6 (sW Ms ts D a (some (.int (i:Int))) (some (.lst (l.map AR))) (some (.int (k:Int))) y)=some (.xc "TooMany" τ)):=λi k l hi hl hk a y ha=>by
  have so':=so_ok hD hi (k:=k) (by rw[hl];exact hk)
  have ss:Ax ((Cq D i k).map Eb)=(Cq D i k).map Co:=by
   rw[DI,yb4];refine yc5 λs _=>?_
   show T.nd false .lst (Ax (s.map Ef))=_;rw[Gh]
  have fc:=Lk (b:=AG 7) (body:=G5) Co (λ(a:List (List (Nat×Nat)×List Str)) τ=>∃z,τ=(sW Ms ts D a (some (.int (i:Int))) (some (.lst (l.map AR))) (some (.int (k:Int))) z)) (Cc D ts) 200 "TooMany" (Cq D i k) a (sW Ms ts D a (some (.int (i:Int))) (some (.lst (l.map AR))) (some (.int (k:Int))) y) ⟨y,rfl⟩ ha λs hs a τ hS ha=>by
   obtain⟨z,rfl⟩:=hS;obtain⟨g1,g2,_⟩:=QR hi (by rw[hl];exact hk) hs
   refine⟨(sW Ms ts D a (some (.int (i:Int))) (some (.lst (l.map AR))) (some (.int (k:Int))) (some (Co s))),by simp![],?_⟩
   rcases one i k l s g1 g2 a ha with ⟨o1,o2⟩|⟨o1,o2⟩
   .exact .inl ⟨o1,_,o2,_,rfl⟩
   .exact .inr ⟨o1,_,o2⟩
  have e4:G6 (sW Ms ts D a (some (.int (i:Int))) (some (.lst (l.map AR))) (some (.int (k:Int))) y)=Bh (AG 7) G5 ((Cq D i k).map Co) (sW Ms ts D a (some (.int (i:Int))) (some (.lst (l.map AR))) (some (.int (k:Int))) y):=by
   unfold G6
   simp![d1,d2,so',ss]
  rw[e4]
  rcases fc with ⟨o1,τ,o2,z,rfl⟩|⟨o1,τ,o2⟩
  .exact .inl ⟨o1,z,o2⟩
  .exact .inr ⟨o1,τ,o2⟩
 have fc:=Lk (b:=Bf 2 (Am (AG 4) (Am (AG 5) Bi))) (body:=G7) (λ(j:Nat)=>T.tup [.int (j:Int),.lst ((D.getD j []).map AR)]) (λ(a:List (List (Nat×Nat)×List Str)) τ=>∃y4 y5 y6 y7,τ=(sW Ms ts D a y4 y5 y6 y7)) (Cb D ts) 200 "TooMany" (List.range D.length) [] [some (.lst (Ms.map AE)),some (.lst (ts.map A8)),some (BH D),some (.own []),none,none,none,none] ⟨none,none,none,none,rfl⟩ (yaz _) λi hi a τ hS ha=>by
  obtain⟨y4,y5,y6,y7,rfl⟩:=hS;have hi:=ybo.mp hi;obtain⟨l,hl,el,_⟩:=Lz hi;have sl:=hD.sl hl;have lk:=hD.k l hl;refine⟨(sW Ms ts D a (some (.int (i:Int))) (some (.lst (l.map AR))) y6 y7),by rw[el];simp![],?_⟩
  have fc:=Lk (b:=AG 6) (body:=G6) (λ(k:Nat)=>T.int (k:Int)) (λ(a:List (List (Nat×Nat)×List Str)) τ=>∃y6 y7,τ=(sW Ms ts D a (some (.int (i:Int))) (some (.lst (l.map AR))) y6 y7)) (G3 D ts i) 200 "TooMany" (List.range l.length) a (sW Ms ts D a (some (.int (i:Int))) (some (.lst (l.map AR))) y6 y7) ⟨y6,y7,rfl⟩ ha λk hk a τ hS ha=>by
   obtain⟨y6,y7,rfl⟩:=hS;refine⟨(sW Ms ts D a (some (.int (i:Int))) (some (.lst (l.map AR))) (some (.int (k:Int))) y7),by simp![],?_⟩
   rcases two i k l hi el (ybo.mp hk) a y7 ha with ⟨o1,z,o2⟩|⟨o1,τ,o2⟩
   .exact .inl ⟨o1,_,o2,_,_,rfl⟩
   .exact .inr ⟨o1,τ,o2⟩
  have ok:FV (l.length:Int)=true:=zgg (by omega)
  have er:EL 0 l.length=(List.range l.length).map λ(k:Nat)=>T.int (k:Int):=Iv
  have e3:G7 (sW Ms ts D a (some (.int (i:Int))) (some (.lst (l.map AR))) y6 y7)=Bh (AG 6) G6 ((List.range l.length).map λ(k:Nat)=>T.int (k:Int)) (sW Ms ts D a (some (.int (i:Int))) (some (.lst (l.map AR))) y6 y7):=by
   unfold G7
   simp![sl,AN _ sl,ya1,ok,er]
  rw[e3,show Cb D ts i=(List.range l.length).flatMap (G3 D ts i) by unfold Cb;rw[el]]
  rcases fc with ⟨o1,τ,o2,z6,z7,rfl⟩|⟨o1,τ,o2⟩
  .exact .inl ⟨o1,_,o2,_,_,_,_,rfl⟩
  .exact .inr ⟨o1,τ,o2⟩
 have en:Cr 0 (D.map λl=>T.lst (l.map AR))=(List.range D.length).map λ(j:Nat)=>T.tup [.int (j:Int),.lst ((D.getD j []).map AR)]:=RA (λl:List Dr=>T.lst (l.map AR)) [] D
 have lM:Ms.length<=100000:=by have:=h.l6;omega
 have key:LL [some (.lst (Ms.map AE)),some (.lst (ts.map A8)),none,none,none,none,none,none]=AI (λ_=>Bh (Bf 2 (Am (AG 4) (Am (AG 5) Bi))) G7 ((List.range D.length).map λ(j:Nat)=>T.tup [.int (j:Int),.lst ((D.getD j []).map AR)]) [some (.lst (Ms.map AE)),some (.lst (ts.map A8)),some (BH D),some (.own []),none,none,none,none]) (AX (AA 3)) []:=by
  unfold LL;refine sq (τ':=[some (.lst (Ms.map AE)),some (.lst (ts.map A8)),some (BH D),none,none,none,none,none]) (by simp![sm,AN _ sm,ya1,lM,DA,so]) ?_
  refine sq (τ':=[some (.lst (Ms.map AE)),some (.lst (ts.map A8)),some (BH D),some (.own []),none,none,none,none]) (by simp![]) ?_
  unfold AI
  have:C1 (DR (AB (AA 2) AD)) (Bf 2 (Am (AG 4) (Am (AG 5) Bi))) G7 [some (.lst (Ms.map AE)),some (.lst (ts.map A8)),some (BH D),some (.own []),none,none,none,none]=Bh (Bf 2 (Am (AG 4) (Am (AG 5) Bi))) G7 ((List.range D.length).map λ(j:Nat)=>T.tup [.int (j:Int),.lst ((D.getD j []).map AR)]) [some (.lst (Ms.map AE)),some (.lst (ts.map A8)),some (BH D),some (.own []),none,none,none,none]:=by
   unfold BH
   simp![DR,sD,AN _ sD,en]
  rw[this]
 rw[ybd,Nat.zero_add]at fc
 rcases fc with ⟨o1,τ,o2,y4,y5,y6,y7,rfl⟩|⟨o1,τ,o2⟩
 .refine .inl ⟨o1,?_⟩;rw[ybl]at o2;unfold HH
  simp![key,o2]
  rfl
 .refine .inr ⟨o1,?_⟩;unfold HH
  simp![key,o2]
abbrev N6:Stmt:=AW 39
def Rc:AF :=
 (B0 (AB (AQ HI (AB (AA 0) AD)) (AB (AQ MY (AB (AA 1) (AB (AA 0) AD))) AD)))
def Rb:AF :=
 (AQ MZ (AB (AA 2) (AB (AA 0) (AB (AA 1) AD))))
def JG:AH :=
 (AI (Au (AQ Dq (AB (AA 0) AD)) (AG 1))
 (AI (Au (BX 1 [0] (BW (AA 1)) (AG 0) (mC (.bl true)) Rc) (AG 2))
 (AI (Au (BX 2 [0] (BW (AQ HH (AB (AA 0) (AB (AA 1) AD)))) (Bf 2 (Am (AG 0) (Am (AG 1) Bi))) (mC (.bl true)) Rb) (AG 3))
 (AX (FZ HN [] (AB (AQ IQ (AB (AA 0) AD)) (AB (AA 2) (AB (AA 3) AD))))))))
def DE:List T->Option Ru:=Al 1 4 JG
abbrev Lm:Fn:=⟨8,["machines"],DE⟩
abbrev zcu:Gx:=⟨[],[],[],[("Machine",Qn,[(3,[])])],false,true,true,none,[],[],[],true,[],[],[],[],[],[],[]⟩
abbrev X0:Gm:=⟨["machines","takings","rooms","doors"],(AL N6).names,["machines"],7,[("checked_takings",Lu),("whole_name",JW),("whole_stay",Q8),("whole_ways",Ll),("whole_door",Q9),("all_watches",Lv)],[],[],[],[],false,[],[],[],zcu⟩
theorem zcg:FnScope X0.N Lm.ps (AL N6):=Aq (by decide +kernel)
theorem zcx:Ad 200 X0 (Ab N6)=some JG:=by ext
theorem TR:∀(rss ts:List (List Str)) (u v:List Str),u∈ts->v.length=rss.length->(∀(i:Nat) (r:Str),v[i]?=some r->∃rs,rss[i]?=some rs/\r∈rs)->u++v∈rss.foldl BI ts
 |[],ts,u,[],hu,_,_=>by rw[yav];exact hu
 |[],_,_,_::_,_,h,_=>by cases h
 |_::_,_,_,[],_,h,_=>by cases h
 |rs::rss,ts,u,r::v,hu,hl,hv=>by
  obtain⟨rs',e,hr⟩:=hv 0 r rfl;cases e;have:=TR rss (BI ts rs) (u++[r]) v (yb7.mpr ⟨u,hu,yai.mpr ⟨r,hr,rfl⟩⟩) (by simpa using hl) λi x e=>by simpa using hv (i+1) x (by simpa using e)
  rw[ybu]at this;exact this
theorem zl4{t:List Str}(hl:t.length=rss.length)(h:∀(i:Nat) (r:Str),t[i]?=some r->∃rs,rss[i]?=some rs/\r∈rs):t∈Bk rss:=TR rss [[]] [] t (yaa.mpr rfl) hl h
theorem TQ:∀(rss ts:List (List Str)),ts≠[]->(∀rs∈rss,rs≠[])->rss.foldl BI ts≠[]
 |[],_,h,_=>h
 |rs::rss,ts,h,hr=>by
  refine TQ rss (BI ts rs) (λz=>?_) λx hx=>hr x (ya7 _ hx)
  obtain⟨t,ht⟩:=List.exists_mem_of_ne_nil ts h;obtain⟨r,hr'⟩:=List.exists_mem_of_ne_nil rs (hr rs (ya9 ..));have:t++[r]∈BI ts rs:=yb7.mpr ⟨t,ht,yai.mpr ⟨r,hr',rfl⟩⟩;rw[z]at this;cases this
def CK(Ms:List Mc):Mc:=⟨Ms.flatMap Mc.ws,(A2 Ms).map λt=>(A3 t,HV Ms t),(BR (AU Ms) (A2 Ms)).map (G4 (AU Ms))⟩
structure FwOk(Ms:List Mc):Prop where
 y:∀M∈Ms,∀r∈M.rs,r.2.length<=100
 g:∀M∈Ms,∀d∈M.ds,d.g.length<=100
 n:∀M∈Ms,∀d∈M.ds,d.n.length<=40
theorem zhy{M:Mc}(hy:∀r∈M.rs,r.2.length<=100)(r:Str):(Cv M r).length<=100:=by
 unfold Cv;cases hf:M.rs.find? (λx=>decide (x.1=r)) with
 |none=>exact yaz _
 |some x=>exact hy x (List.mem_of_find?_eq_some hf)
theorem zky{Ms:List Mc}(hd:(Ms.flatMap Mc.ws).Nodup){j:Nat}{M N:Mc}(h1:Ms[i]?=some M)(h2:Ms[j]?=some N)(hij:i≠j)(hx:x∈M.ws)(hy:y∈N.ws):x≠y:=by
 have:=(List.pairwise_flatMap.mp hd).2;obtain⟨i1,rfl⟩:=ya4.mp h1;obtain⟨j1,rfl⟩:=ya4.mp h2
 rcases Nat.lt_or_gt_of_ne hij with h|h
 .exact yd1.mp this i j i1 j1 h x hx y hy
 .exact λz=>yd1.mp this j i j1 i1 h y hy x hx z.symm
theorem Sj{Ms:List Mc}(h:MsOk Ms)(hr:RmOk Ms)(hf:FwOk Ms)(hw:(BR (AU Ms) (A2 Ms)).length<=200):McOk (CK Ms):=by
 have hin:∀M∈Ms,∀x∈M.ws,x∈Ms.flatMap Mc.ws:=λM hM x hx=>yb7.mpr ⟨M,hM,hx⟩
 have en:(CK Ms).rs.map (·.1)=(A2 Ms).map A3:=by unfold CK;rw[yb4];rfl
 refine⟨λx hx=>?_,h.wd,h.wl,⟨?_,?_,λr hr'=>?_,by rw[en];exact hr.d,λr hr'=>?_⟩,λd hd=>?_,by unfold CK;rw[ya1];exact hw⟩
 .obtain⟨M,hM,hx⟩:=yb7.mp hx;exact(h.m M hM).w x hx
 .show 1<=((A2 Ms).map _).length;rw[ya1];refine List.length_pos_iff.mpr (TQ _ _ (by simp) λrs hrs=>?_)
  obtain⟨M,hM,rfl⟩:=yai.mp hrs;have:=(h.m M hM).r.l1;exact λz=>by unfold Mc.nm at z;rw[List.map_eq_nil_iff]at z;rw[z]at this;exact absurd this (by decide)
 .show((A2 Ms).map _).length<=64;rw[ya1];have:=hr.k Ms.length (yac _)
  rwa[ycu]at this
 .obtain⟨t,ht,rfl⟩:=yai.mp hr';exact hr.n t ht
 .obtain⟨t,ht,rfl⟩:=yai.mp hr';have key:=λ(x:Mc×Str) hx=>(Ml h hr ht (x:=x) hx)
  refine⟨λu hu=>?_,?_⟩
  .obtain⟨x,hx,hu⟩:=yb7.mp hu;obtain⟨k1,k2⟩:=key x hx;exact(KZ (h.m _ k1) k2).2.2.2.more (hin _ k1) u hu
  .have:=HF (g:=λx:Mc×Str=>Cv x.1 x.2) (m:=100) (L:=Ms.zip t) λx hx=>zhy (hf.y _ (key x hx).1) _
   have zl:(Ms.zip t).length<=6:=by rw[List.length_zip];have:=h.l6;omega
   show((Ms.zip t).flatMap λx=>Cv x.1 x.2).length<=1000
   omega
 .obtain⟨w,hwm,rfl⟩:=yai.mp hd;obtain⟨ht,i,k,hi,hk,hs,_⟩:=S8 hwm;obtain⟨g1,g2,g3⟩:=QR hi hk hs;obtain⟨t1,t2,t3,t4⟩:=hr.t h ht;have at':=λp hp=>MF h.m g1 (p:=p) hp
  rw[en];refine⟨yai.mpr ⟨_,ht,rfl⟩,yai.mpr ⟨_,zl4 ?_ λi r e=>?_,rfl⟩,λu hu=>?_,?_,λx hx=>?_,?_,?_,.inl rfl⟩
  .rw[RC,t1,ya1]
  .rcases RB _ _ _ i r e with e|⟨p,hp,rfl,rfl⟩
   .obtain⟨M,e1,e2⟩:=t4 i r e;exact⟨M.nm,by rw[ya5,e1];rfl,e2⟩
   .obtain⟨M,hM,e1,_,kk⟩:=at' p hp;exact⟨M.nm,by rw[ya5,e1];rfl,kk.e⟩
  .obtain⟨p,hp,hu⟩:=yb7.mp hu;obtain⟨M,hM,_,_,kk⟩:=at' p hp;exact kk.g.more (hin M hM) u hu
  .have:=HF (g:=λp:Nat×Nat=>(BD (AU Ms) p.1 p.2).g) (m:=100) (L:=w.1) λp hp=>by
    obtain⟨M,hM,_,e2,_⟩:=at' p hp;exact hf.g M hM _ (yas e2)
   show(GN (AU Ms) w.1).length<=1000;unfold GN
   omega
  .obtain⟨p,hp,hx⟩:=yb7.mp hx;obtain⟨M,hM,_,_,kk⟩:=at' p hp;exact hin M hM x (kk.n x hx)
  .show(Eh (AU Ms) w.1).Nodup;unfold Eh
   rcases g3 with e|⟨j,m,hj,e⟩
   .rw[e]at at' ⊢;obtain⟨M,hM,_,_,kk⟩:=at' (i,k) (yaa.mpr rfl)
    simpa using kk.nd
   .rw[e]at at' ⊢;obtain⟨M,hM,e1,_,kk⟩:=at' (i,k) (ya9 ..);obtain⟨N,hN,e2,_,kk2⟩:=at' (j,m) (ya7 _ (yaa.mpr rfl));rw[ybc,ybc,ybw,yav];exact List.nodup_append.mpr ⟨kk.nd,kk2.nd,λx hx y hy=>zky h.wd e1 e2 (yay hj) (kk.n x hx) (kk2.n y hy)⟩
  .have:=HF (g:=λp:Nat×Nat=>(BD (AU Ms) p.1 p.2).n) (m:=40) (L:=w.1) λp hp=>by
    obtain⟨M,hM,_,e2,_⟩:=at' p hp;exact hf.n M hM _ (yas e2)
   show(Eh (AU Ms) w.1).length<=100;unfold Eh
   omega
theorem NG{Ms:List Mc}(h:MsOk Ms)(hr:RmOk Ms)(hf:FwOk Ms):((BR (AU Ms) (A2 Ms)).length<=200/\DE [.lst (Ms.map AE)]=some (.ok (AE (CK Ms))))\/(200<(BR (AU Ms) (A2 Ms)).length/\DE [.lst (Ms.map AE)]=some (.exc "TooMany")):=by
 have sm:=CW h.m;have ct:=Yn h hr;have st:=Ga (A2 Ms);have l64:(A2 Ms).length<=64:=by have:=hr.k Ms.length (yac _);rwa[ycu]at this
 have ll:(A2 Ms).length<=100000:=by omega
 have ss:∀t∈A2 Ms,Ak (HV Ms t)=true:=λt ht=>by
  rw[DJ,yaj];intro u hu;obtain⟨x,hx,hu⟩:=yb7.mp hu;obtain⟨k1,k2⟩:=Ml h hr ht hx;have:=(KZ (h.m _ k1) k2).2.1;rw[DJ,yaj]at this;exact this u hu
 have DA:Bd (AG 0) (mC (.bl true)) Rc ((A2 Ms).map A8) [none,some (.lst (Ms.map AE))]=some ((A2 Ms).map λt=>CG (A3 t,HV Ms t)):=Dy A8 (λt=>CG (A3 t,HV Ms t)) (λτ=>∃a,τ=[a,some (.lst (Ms.map AE))]) _ _ ⟨none,rfl⟩ λt ht τ hI=>by
  obtain⟨a,rfl⟩:=hI;obtain⟨_,k1,k2,_⟩:=hr.t h ht;have w1:=Jr (o:=false) k1 k2;have w2:=zkx h hr ht;exact⟨[some (A8 t),some (.lst (Ms.map AE))],by simp![],by unfold Rc;simp![sm,AN _ sm,Aa,An,w1,w2,AN _ (ss t ht)],_,rfl⟩
 have er:(A2 Ms).map (λt=>CG (A3 t,HV Ms t))=(CK Ms).rs.map CG:=by unfold CK;rw[yb4];rfl
 rw[er]at DA
 have sr:Ak ((CK Ms).rs.map CG)=true:=Cp λr hr'=>by
  obtain⟨t,ht,rfl⟩:=yai.mp hr'
  simp![ss t ht]
 rcases Sb h hr with ⟨w1,w2⟩|⟨w1,w2⟩
 .have ok:=Sj h hr hf w1;have mi:HN [.lst ((CK Ms).ws.map T.str),Dt (CK Ms).rs,.lst ((CK Ms).ds.map AR)]=some (.ok (AE (CK Ms))):=W0 ok;have aw:IQ [.lst (Ms.map AE)]=some (.ok (.own ((CK Ms).ws.map T.str))):=ZZ h.m (by have:=h.wl;omega)
  have sw:=Cp (f:=Cu) (L:=BR (AU Ms) (A2 Ms)) λw _=>Jo w
  have lc2:Bd (Bf 2 (Am (AG 0) (Am (AG 1) Bi))) (mC (.bl true)) Rb ((BR (AU Ms) (A2 Ms)).map Cu) [none,none,some (.lst (Ms.map AE))]=some ((CK Ms).ds.map AR):=by
   have e0:(CK Ms).ds.map AR=(BR (AU Ms) (A2 Ms)).map λw=>AR (G4 (AU Ms) w):=by unfold CK;rw[yb4];rfl
   rw[e0]
   exact Dy Cu (λw=>AR (G4 (AU Ms) w)) (λτ=>∃a b,τ=[a,b,some (.lst (Ms.map AE))]) _ _ ⟨none,none,rfl⟩ λw hw τ hI=>by
    obtain⟨a,b,rfl⟩:=hI;obtain⟨ht,i,k,hi,hk,hs,_⟩:=S8 hw;obtain⟨g1,g2,_⟩:=QR hi hk hs;have wd:=wd_ok h hr ht g1 g2;exact⟨[some (Co w.1),some (A8 w.2),some (.lst (Ms.map AE))],by simp![],by unfold Rb;simp![sm,AN _ sm,Aa,An,FQ,Gh,wd],_,_,rfl⟩
  have l2:(BR (AU Ms) (A2 Ms)).length<=100000:=by omega
  have sd:=ok.sd;refine .inl ⟨w1,?_⟩;unfold DE JG
  simp![sm,AN _ sm,ct,st,AN _ st,ya1,ll,DA,sr,AN _ sr,w2,sw,AN _ sw,l2,lc2,sd,AN _ sd,aw,An,Aa,mi]
 .refine .inr ⟨w1,?_⟩;unfold DE JG
  simp![sm,AN _ sm,ct,st,AN _ st,ya1,ll,DA,sr,AN _ sr,w2]
abbrev N9:Stmt:=AW 40
def Rh:AF :=
 (m1 CZ (AA 0))
def JH:AH :=
 (AI (Au (AQ Dq (AB (AA 0) AD)) (AG 1))
 (AX (BX 2 [] (BW (AQ HH (AB (AA 0) (AB (AA 1) AD)))) (Bf 2 (Am (AG 0) (Am (AG 1) Bi))) (mC (.bl true)) Rh)))
def DF:List T->Option Ru:=Al 1 2 JH
abbrev Ln:Fn:=⟨5,["machines"],DF⟩
abbrev X3:Gm:=⟨["machines","takings"],(AL N9).names,[],4,[("checked_takings",Lu),("whole_ways",Ll)],["list"],[],[],[],false,[],[],[],By⟩
theorem ze4:FnScope X3.N Ln.ps (AL N9):=Aq (by decide +kernel)
theorem zey:Ad 200 X3 (Ab N9)=some JH:=by ext
theorem N0{Ms:List Mc}(h:MsOk Ms)(hr:RmOk Ms):((BR (AU Ms) (A2 Ms)).length<=200/\DF [.lst (Ms.map AE)]=some (.ok (.own ((BR (AU Ms) (A2 Ms)).map λw=>Eb w.1))))\/(200<(BR (AU Ms) (A2 Ms)).length/\DF [.lst (Ms.map AE)]=some (.exc "TooMany")):=by
 have sm:=CW h.m;have ct:=Yn h hr;have st:=Ga (A2 Ms)
 rcases Sb h hr with ⟨w1,w2⟩|⟨w1,w2⟩
 .have sw:=Cp (f:=Cu) (L:=BR (AU Ms) (A2 Ms)) λw _=>Jo w
  have l2:(BR (AU Ms) (A2 Ms)).length<=100000:=by omega
  have lc:Bd (Bf 2 (Am (AG 0) (Am (AG 1) Bi))) (mC (.bl true)) Rh ((BR (AU Ms) (A2 Ms)).map Cu) [none,none]=some ((BR (AU Ms) (A2 Ms)).map λw=>Eb w.1):=Dy Cu (λw=>Eb w.1) (λτ=>∃a b,τ=[a,b]) _ _ ⟨none,none,rfl⟩ λw hw τ hI=>by
   obtain⟨a,b,rfl⟩:=hI;exact⟨[some (Co w.1),some (A8 w.2)],by simp![],by unfold Rh;simp![FQ,Gh],_,_,rfl⟩
  refine .inl ⟨w1,?_⟩;unfold DF JH
  simp![sm,AN _ sm,ct,st,AN _ st,ya1,w2,sw,AN _ sw,l2,lc]
 .refine .inr ⟨w1,?_⟩;unfold DF JH
  simp![sm,AN _ sm,ct,st,AN _ st,w2]
theorem NJ{t:T}{c:Str}(hs:t.sh=true)(h:Dq [t]=some (.exc c)):DE [t]=some (.exc c)/\DF [t]=some (.exc c):=by
 constructor
 .unfold DE JG
  simp![hs,BK _ hs,h]
 .unfold DF JH
  simp![hs,BK _ hs,h]
abbrev OD:Stmt:=AW 57
def SA:AF :=
 (FZ HR [(.str "")] (AB (B8 (AA 1) (mC (.int 0))) (AB (B8 (AA 1) (m2 CP (AA 0) (m1 Bu (AA 1)))) (AB (AV AD) (AB (AV AD) AD)))))
def Rz:AF :=
 (B0 (AB (AA 0) (AB (AV AD) AD)))
def P9:AH :=
 (AI (Au (BX 1 [1] (EB (AB (AA 2) AD)) (AG 0) (mC (.bl true)) SA) (AG 3))
 (AX (FZ HN [] (AB (AA 0) (AB (BX 1 [] (BW (AA 1)) (AG 0) (mC (.bl true)) Rz) (AB (AA 3) AD))))))
def Ca:List T->Option Ru:=Al 3 4 P9
abbrev Fb:Fn:=⟨8,["_law_watches","_law_names","_law_many"],Ca⟩
abbrev zet:Gx:=⟨[],[],[],[("Door",Qw,[(4,[(.str "")])]),("Machine",Qn,[(3,[])])],false,true,true,none,[],[],[],true,[],[],[],[],[],[],[]⟩
abbrev Xr:Gm:=⟨["_law_watches","_law_names","_law_many","_law_doors"],(AL OD).names,["_law_names"],7,[],["range","len"],[],[],[],false,[],[],[],zet⟩
theorem ze6:FnScope Xr.N Fb.ps (AL OD):=Aq (by decide +kernel)
theorem zf0:Ad 200 Xr (Ab OD)=some P9:=by ext
def DL(ns:List Str)(j:Nat):Dr:=⟨ns.getD 0 "",ns.getD (j % ns.length) "",[],[],""⟩
def Ag(ws ns:List Str)(k:Nat):Mc:=⟨ws,ns.map λr=>(r,[]),(List.range k).map (DL ns)⟩
structure PmOk(ws ns:List Str)(k:Nat):Prop where
 w:∀x∈ws,Fh x
 wd:ws.Nodup
 wl:ws.length<=7
 n1:1<=ns.length
 n64:ns.length<=64
 nm:∀r∈ns,CB r/\1<=r.cps.size/\r.cps.size<=60
 nd:ns.Nodup
 k:k<=200
theorem EN(ws ns:List Str)(k:Nat):(Ag ws ns k).nm=ns:=by
 unfold Ag Mc.nm;rw[yb4];exact List.map_id _
theorem Li{j:Nat}(h:j<ns.length):ns.getD j ""∈ns/\ns[j]?=some (ns.getD j ""):=by
 rw[yag,ya0 h];exact⟨yb6 h,rfl⟩
theorem Uw{ws:List Str}{k:Nat}(h:PmOk ws ns k)(j:Nat):DrOk ws ns (DL ns j) :=
 ⟨(Li h.n1).1,(Li (Nat.mod_lt _ h.n1)).1,(λt ht=>by cases ht),yaz _,(λx hx=>by cases hx),yba,yaz _,.inl rfl⟩
theorem Bb{ws:List Str}{k:Nat}(h:PmOk ws ns k):McOk (Ag ws ns k):=by
 have e:(Ag ws ns k).rs.map (·.1)=ns:=EN ws ns k;refine⟨h.w,h.wd,h.wl,⟨?_,?_,λr hr=>?_,?_,λr hr=>?_⟩,λd hd=>?_,?_⟩
 .show 1<=(ns.map λr=>(r,([]:List T))).length
  rw[ya1];exact h.n1
 .show(ns.map λr=>(r,([]:List T))).length<=64
  rw[ya1];exact h.n64
 .obtain⟨x,hx,rfl⟩:=yai.mp hr;exact h.nm x hx
 .rw[e];exact h.nd
 .obtain⟨x,hx,rfl⟩:=yai.mp hr;exact⟨(λt ht=>by cases ht),yaz _⟩
 .rw[e];obtain⟨j,hj,rfl⟩:=yai.mp hd;exact Uw h j
 .show((List.range k).map (DL ns)).length<=200;rw[ya1,yce];exact h.k
theorem Fw{ws:List Str}{k:Nat}(h:PmOk ws ns k):Ca [.lst (ws.map T.str),.lst (ns.map T.str),.int (k:Int)]=some (.ok (AE (Ag ws ns k))):=by
 have mi:=W0 (Bb h)
 have er:Dt (Ag ws ns k).rs=.lst (ns.map λr=>T.tup [.str r,.lst []]):=by
  show T.lst ((ns.map λr=>(r,([]:List T))).map CG)=_
  rw[yb4]
  rfl
 have ed:(Ag ws ns k).ds.map AR=mT k λj=>AR (DL ns j):=by
  show((List.range k).map (DL ns)).map AR=_;rw[yb4]
  rfl
 rw[er,ed,show(Ag ws ns k).ws=ws from rfl,show FX (Ag ws ns k)=AE (Ag ws ns k) from rfl]at mi;have n1:=h.n1;have n64:=h.n64;have k2:=h.k;have z0:((ns.length:Int)=0)=False:=eq_false (by omega)
 have l0:ns.length<=100000:=by omega
 have lc:=DA (n:=k) (me:=SA) (x:=none) (cs:=[some (.lst (ns.map T.str))]) (g:=λi=>.int (i:Int)) (f:=λj=>AR (DL ns j)) λj hj=>by
  have di:=di_ok (Uw h j);rw[show(DL ns j).s=ns.getD 0 "" from rfl,show(DL ns j).e=ns.getD (j % ns.length) "" from rfl,show(DL ns j).g=[] from rfl,show(DL ns j).n=[] from rfl,show(DL ns j).z="" from rfl,yc1]at di;have a1:Aw (ns.map T.str) 0=some (.str (ns.getD 0 "")):=IK (by decide) (by rw[ya5,show(0:Int).toNat=0 from rfl,(Li h.n1).2];rfl)
  have a2:Aw (ns.map T.str) ((j:Int).fmod (ns.length:Int))=some (.str (ns.getD (j % ns.length) "")):=by
   rw[fm (by omega),<- Int.natCast_emod]
   exact IK (by omega) (by rw[ya5,yc3,(Li (Nat.mod_lt _ h.n1)).2];rfl)
  unfold SA
  simp![a1,a2,ya1,l0,z0,Aa,An,di]
 have lc2:Bd (AG 0) (mC (.bl true)) Rz (ns.map T.str) [none]=some (ns.map λr=>T.tup [.str r,.lst []]):=Dy T.str (λr=>T.tup [.str r,.lst []]) (λτ=>∃a,τ=[a]) _ _ ⟨none,rfl⟩ λr hr τ hI=>by
  obtain⟨a,rfl⟩:=hI;exact⟨[some (.str r)],by simp![],by unfold Rz;simp![],_,rfl⟩
 have ok:FV (k:Int)=true:=@decide_eq_true _ (Classical.propDecidable _) ⟨by omega,by omega⟩
 have er:EL 0 k=mT k λi=>.int (i:Int):=Iv
 have s1:Ak (mT k λj=>AR (DL ns j))=true:=by rw[<- ed];exact(Bb h).sd
 have s2:Ak (ns.map λr=>T.tup [.str r,.lst []])=true:=Cp λ_ _=>rfl
 have l1:k<=100000:=by omega
 unfold Ca P9
 simp![ok,er,l1,lc,lc2,ya1,l0,Aa,An,s1,AN _ s1,s2,AN _ s2,mi]
abbrev OG:Stmt:=AW 55
def SD:AF :=
 (B8 (AA 2) (m2 CP (m2 BV (AA 1) (m2 GA (AA 0) (m2 BV (mC (.int 1)) (m2 CP (m2 Dd (AA 1) (mC (.int 26))) (mC (.int 25)))))) (mC (.int 26))))
def Pb:AH :=
 (AI (Au (mC (.str "abcdefghijklmnopqrstuvwxyz")) (AG 2))
 (AX (GC (mC (.str "")) (BX 1 [0,2] (EB (AB (AA 1) AD)) (AG 0) (mC (.bl true)) SD))))
def Fl:List T->Option Ru:=Al 2 3 Pb
abbrev Hz:Fn:=⟨1,["_law_cell","_law_size"],Fl⟩
abbrev Xv:Gm:=⟨["_law_cell","_law_size","_law_letters_here"],(AL OG).names,["_law_cell","_law_letters_here"],0,[],["range"],[],[],[],false,[],[],[],By⟩
theorem zcm:FnScope Xv.N Hz.ps (AL OG):=Aq (by decide +kernel)
theorem zd3:Ad 200 Xv (Ab OG)=some Pb:=by ext
theorem abc:(Str.ofString "abcdefghijklmnopqrstuvwxyz").cps.toList=(List.range 26).map (97 + ·):=by decide +kernel
theorem SM{i:Int}(h0:0<=i)(h1:i<26):Aw (Str.ofString "abcdefghijklmnopqrstuvwxyz").cps.toList i=some (97+i.toNat):=by
 rw[abc];refine IK h0 ?_;rw[ya5,yd0 (by omega)]
 rfl
theorem Z7:(Str.ofString "abcdefghijklmnopqrstuvwxyz").length<=100000:=by decide +kernel
theorem Wx:∀cs:List Nat,Str.join (Str.ofString "") (cs.map λc=>⟨#[c]⟩)=⟨cs.toArray⟩
 |[]=>rfl
 |[c]=>rfl
 |c::d::r=>by
  have ih:=Wx (d::r);rw[yae]at ih;rw[yae,yae];show Str.mk #[c]++Str.ofString ""++Str.join (Str.ofString "") (⟨#[d]⟩::r.map λc=>⟨#[c]⟩)=_
  rw[ih];have e0:(Str.ofString "").cps=#[]:=by decide +kernel
  show Str.mk ((#[c]++(Str.ofString "").cps)++(d::r).toArray)=Str.mk _;rw[e0];simp
theorem zgr(cs:List Nat):Txt.join (Str.ofString "") (cs.map λc=>⟨#[c]⟩)=⟨cs.toArray⟩:=(eq_of_beq (ydy _ _)).trans (Wx cs)
def L4(c:Int)(k:Nat):Int:=(c+(k:Int) * (1+(c.fdiv 26).fmod 25)).fmod 26
def EV(c:Int)(k:Nat):Nat:=97+(L4 c k).toNat
def Ay(c:Int)(n:Nat):Str:=⟨((List.range n).map (EV c)).toArray⟩
theorem Pk(c:Int)(k:Nat):0<=L4 c k/\L4 c k<26:=by
 unfold L4;rw[fm (j:=26) (by decide)]
 omega
theorem lt_cs(c:Int)(n:Nat):Tx.cs (Ay c n)=(List.range n).map (EV c):=rfl
theorem lt_size(c:Int)(n:Nat):(Ay c n).cps.size=n:=by
 show((List.range n).map (EV c)).toArray.size=n;simp
theorem Pl{c:Int}{x:Nat}(h:x∈Tx.cs (Ay c n)):97<=x/\x<=122:=by
 rw[lt_cs]at h;obtain⟨k,hk,rfl⟩:=yai.mp h;have:=Pk c k;unfold EV
 omega
theorem Th:∀l:List Nat,((l.map λc=>Str.mk #[c]).map (·.length)).sum=l.length
 |[]=>rfl
 |a::r=>by
  rw[yae,yae,List.sum_cons,Th r,yao];show 1+r.length=r.length+1
  omega
theorem sN(h:n<=1000):DX (n:Int)=true:=zlo (by omega) (by omega)
theorem UP:DX 26=true:=sN (n:=26) (by decide)
theorem JM(c:Int)(hn:n<=100):Fl [.int c,.int (n:Int)]=some (.ok (.str (Ay c n))):=by
 have lc:=DA (n:=n) (me:=SD) (x:=none) (cs:=[some (.int c),some (.str "abcdefghijklmnopqrstuvwxyz")]) (g:=λi=>.int (i:Int)) (f:=λk=>.str ⟨#[EV c k]⟩) λk hk=>by
  have m1:JF (k:Int) (1+(c.fdiv 26).fmod 25)=true:=zji (zlp (by omega) (by omega))
  have ea:Aw (Str.ofString "abcdefghijklmnopqrstuvwxyz").cps.toList ((c+(k:Int) * (1+(c.fdiv 26).fmod 25)).fmod 26)=some (EV c k):=SM (Pk c k).1 (Pk c k).2;unfold SD
  simp![m1,ea,Z7,UP]
 have ok:FV (n:Int)=true:=@decide_eq_true _ (Classical.propDecidable _) ⟨by omega,by omega⟩
 have er:EL 0 n=mT n λi=>.int (i:Int):=Iv
 have es:EK (mT n λk=>T.str ⟨#[EV c k]⟩)=some (((List.range n).map (EV c)).map λc=>⟨#[c]⟩):=by
  rw[<- Ic,yb4,yb4]
  rfl
 have ej:Txt.join (Str.ofString "") (((List.range n).map (EV c)).map λc=>⟨#[c]⟩)=Ay c n:=zgr _
 have esum:(((((List.range n).map (EV c)).map λc=>Str.mk #[c])).map (·.length)).sum+((((List.range n).map (EV c)).map λc=>Str.mk #[c])).length * (Str.ofString "").length<=100000:=by
  have e0:(Str.ofString "").length=0:=by decide +kernel
  rw[e0,Nat.mul_zero,Nat.add_zero,Th,ya1,yce]
  omega
 have l1:n<=100000:=by omega
 unfold Fl Pb
 simp![ok,er,lc,l1,GC,es,esum,ej]
abbrev OC:Stmt:=AW 56
def Ry:AF :=
 (m2 BV (m2 BV (AA 2) (B8 (AA 1) (m2 CP (AA 0) (mC (.int 26))))) (B8 (AA 1) (m2 Dd (AA 0) (mC (.int 26)))))
def P7:AH :=
 (AI (Au (mC (.str "abcdefghijklmnopqrstuvwxyz")) (AG 2))
 (AI (Au (AQ Fl (AB (m2 Dd (AA 0) (mC (.int 6))) (AB (m2 CP (AA 0) (mC (.int 6))) AD))) (AG 3))
 (AX (BX 1 [2,3] (EB (AB (AA 1) AD)) (AG 0) (mC (.bl true)) Ry))))
def Fk:List T->Option Ru:=Al 2 4 P7
abbrev JX:Fn:=⟨2,["_law_cell","_law_many"],Fk⟩
abbrev Xq:Gm:=⟨["_law_cell","_law_many","_law_letters_here","_law_stem"],(AL OC).names,["_law_letters_here","_law_stem"],1,[("_law_letters",Hz)],["range"],[],[],[],false,[],[],[],By⟩
theorem ze5:FnScope Xq.N JX.ps (AL OC):=Aq (by decide +kernel)
theorem zez:Ad 200 Xq (Ab OC)=some P7:=by ext
def Ae(c:Int)(k:Nat):Str:=Ay (c.fdiv 6) (c.fmod 6).toNat++⟨#[97+k % 26]⟩++⟨#[97+k / 26]⟩
def Ap(c:Int)(n:Nat):List Str:=(List.range n).map (Ae c)
theorem Ko(c:Int)(k:Nat):Tx.cs (Ae c k)=Tx.cs (Ay (c.fdiv 6) (c.fmod 6).toNat)++[97+k % 26,97+k / 26]:=by
 unfold Ae;show((Ay (c.fdiv 6) (c.fmod 6).toNat).cps++#[97+k % 26]++#[97+k / 26]).toList=_;simp[Tx.cs]
theorem Tw(c:Int):(((c.fmod 6).toNat:Nat):Int)=c.fmod 6/\(c.fmod 6).toNat<=5:=by
 rw[fm (by decide)]
 omega
theorem Kl(c:Int)(hn:n<=676):Fk [.int c,.int (n:Int)]=some (.ok (.own ((Ap c n).map T.str))):=by
 obtain⟨s1,s2⟩:=Tw c;have ll:=JM (c.fdiv 6) (n:=(c.fmod 6).toNat) (by omega)
 rw[s1]at ll;have sz:=lt_size (c.fdiv 6) (c.fmod 6).toNat
 have lc:=DA (n:=n) (me:=Ry) (x:=none) (cs:=[some (.str "abcdefghijklmnopqrstuvwxyz"),some (.str (Ay (c.fdiv 6) (c.fmod 6).toNat))]) (g:=λi=>.int (i:Int)) (f:=λk=>.str (Ae c k)) λk hk=>by
  have e1:(k:Int).fmod 26=((k % 26:Nat):Int):=by rw[fm (by decide)];omega
  have e2:(k:Int).fdiv 26=((k / 26:Nat):Int):=by rw[Int.fdiv_eq_ediv_of_nonneg _ (by decide)];omega
  have a1:Aw (Str.ofString "abcdefghijklmnopqrstuvwxyz").cps.toList ((k:Int).fmod 26)=some (97+k % 26):=by
   rw[e1];rw[SM (i:=((k % 26:Nat):Int)) (by omega) (by omega),yc3]
  have a2:Aw (Str.ofString "abcdefghijklmnopqrstuvwxyz").cps.toList ((k:Int).fdiv 26)=some (97+k / 26):=by
   rw[e2];rw[SM (i:=((k / 26:Nat):Int)) (by omega) (by omega),yc3]
  have l1:(Ay (c.fdiv 6) (c.fmod 6).toNat).length+(Str.mk #[97+k % 26]).length<=100000:=by
   show(Ay (c.fdiv 6) (c.fmod 6).toNat).cps.size+1<=100000
   omega
  have l2:(Ay (c.fdiv 6) (c.fmod 6).toNat++Str.mk #[97+k % 26]).length+(Str.mk #[97+k / 26]).length<=100000:=by
   show((Ay (c.fdiv 6) (c.fmod 6).toNat).cps++#[97+k % 26]).size+1<=100000;rw[Array.size_append,sz];show(c.fmod 6).toNat+1+1<=100000
   omega
  unfold Ry
  simp![a1,a2,Z7,l1,l2,Ae,UP]
 have ok:FV (n:Int)=true:=@decide_eq_true _ (Classical.propDecidable _) ⟨by omega,by omega⟩
 have er:EL 0 n=mT n λi=>.int (i:Int):=Iv
 have em:(mT n λk=>T.str (Ae c k))=(Ap c n).map T.str:=by unfold Ap;rw[yb4];rfl
 have l1:n<=100000:=by omega
 unfold Fk P7;have s6:DX 6=true:=sN (n:=6) (by decide)
 simp![ok,er,lc,l1,ll,em,s6]
theorem NW(h:∀c∈Tx.cs x,97<=c/\c<=122):Dp x:=λi hi=>by
 refine h _ ?_;rw[ybk,yb1 hi];exact yd5 hi
theorem Pp(h:((Tx.cs x).all λc=>decide (c=47\/(97<=c/\c<=122)))=true):CB x:=FO.mpr λc hc=>yfa (yaj.mp h c hc)
theorem Po(h:((Tx.cs x).all λc=>decide (97<=c/\c<=122))=true):Dp x:=NW λc hc=>yfa (yaj.mp h c hc)
def Pq(x:Str):Bool:=((Tx.cs x).all λc=>decide (c=47\/(97<=c/\c<=122))) && decide (1<=x.cps.size/\x.cps.size<=60)
theorem Wg(h:Pq x=true):CB x/\1<=x.cps.size/\x.cps.size<=60:=by
 unfold Pq at h;rw[ya3]at h;exact⟨Pp h.1,yfa h.2⟩
theorem Gj{k:Nat}(h:ns.all Pq=true)(hd:ns.Nodup)(h1:1<=ns.length)(h64:ns.length<=64)(hk:k<=200):PmOk [] ns k :=
 ⟨(λx hx=>by cases hx),yba,yaz _,h1,h64,λr hr=>Wg (yaj.mp h r hr),hd,hk⟩
theorem PmOk.ws{ws ns:List Str}{k:Nat}(h:PmOk [] ns k)(w:∀x∈ws,Fh x)(wd:ws.Nodup)(wl:ws.length<=7):PmOk ws ns k:=⟨w,wd,wl,h.n1,h.n64,h.nm,h.nd,h.k⟩
theorem zi8(c:Int)(k:Nat):(Ae c k).cps.size=(c.fmod 6).toNat+2:=by
 have h:(Tx.cs (Ae c k)).length=(c.fmod 6).toNat+2:=by
  rw[Ko,yad,show(Tx.cs (Ay (c.fdiv 6) (c.fmod 6).toNat)).length=(c.fmod 6).toNat from lt_size _ _]
  rfl
 exact h
theorem zlr(c:Int){k:Nat}(hk:k<676):Dp (Ae c k):=NW λx hx=>by
 rw[Ko]at hx
 rcases yax.mp hx with h|h
 .exact Pl h
 .simp only[ya6,yab,yf7]at h
  omega
theorem Kn(c:Int){j k:Nat}(h:Ae c j=Ae c k):j=k:=by
 have e:=congrArg Tx.cs h;rw[Ko,Ko]at e;have e:=ydc e;simp only[List.cons.injEq,and_true]at e
 omega
theorem OW(c:Int)(n:Nat):(Ap c n).length=n:=by unfold Ap;simp
theorem Ir(c:Int)(n:Nat):(Ap c n).Nodup:=by
 unfold Ap;exact List.Pairwise.map _ (λa b h e=>h (Kn c e)) List.nodup_range
theorem UZ{c:Int}(hn:n<=64){r:Str}(h:r∈Ap c n):Dp r/\2<=r.cps.size/\r.cps.size<=7:=by
 obtain⟨k,hk,rfl⟩:=yai.mp h;have:=Tw c;rw[zi8];exact⟨zlr c (by have:=ybo.mp hk;omega),by omega,by omega⟩
theorem zhz(h:Dp x):CB x:=λi hi=>.inr (h i hi)
theorem Fv(c:Int){k:Nat}(h1:1<=n)(h64:n<=64)(hk:k<=200):PmOk [] (Ap c n) k :=
 ⟨(λx hx=>by cases hx),yba,yaz _,(by rw[OW];exact h1),(by rw[OW];exact h64),(λr hr=>by
  obtain⟨a,b,d⟩:=UZ h64 hr;exact⟨zhz a,by omega,by omega⟩),Ir c n,hk⟩
abbrev Nz:Stmt:=AW 60
def Rw:AF :=
 (AQ Ca (AB (AV AD) (AB (AQ Fk (AB (AA 1) (AB (AA 0) AD))) (AB (mC (.int 0)) AD))))
def P6:AH :=
 (AX (BX 1 [0] (BW (AA 1)) (AG 0) (mC (.bl true)) Rw))
def Ew:List T->Option Ru:=Al 2 2 P6
abbrev Qo:Fn:=⟨9,["_law_cell","_law_rows"],Ew⟩
abbrev Xn:Gm:=⟨["_law_cell","_law_rows"],(AL Nz).names,["_law_cell"],8,[("_law_plain",Fb),("_law_rooms",JX)],[],[],[],[],false,[],[],[],By⟩
theorem zfq:FnScope Xn.N Qo.ps (AL Nz):=Aq (by decide +kernel)
theorem zh6:Ad 200 Xn (Ab Nz)=some P6:=by ext
theorem Mn(c:Int){ns:List Nat}(hn:∀n∈ns,1<=n/\n<=64)(hl:ns.length<=100):Ew [.int c,.lst (ns.map λn:Nat=>.int (n:Int))]=some (.ok (.own ((ns.map λn=>Ag [] (Ap c n) 0).map AE))):=by
 have lc:Bd (AG 0) (mC (.bl true)) Rw (ns.map λn:Nat=>T.int (n:Int)) [none,some (.int c)]=some (ns.map λn=>AE (Ag [] (Ap c n) 0)):=Dy (λn:Nat=>T.int (n:Int)) (λn=>AE (Ag [] (Ap c n) 0)) (λτ=>∃a,τ=[a,some (.int c)]) _ _ ⟨none,rfl⟩ λn hN τ hI=>by
  obtain⟨a,rfl⟩:=hI;obtain⟨n1,n64⟩:=hn n hN;have ro:=Kl c (n:=n) (by omega)
  have po:=Fw (Fv c (k:=0) n1 n64 (by decide))
  have k:=CY (Bb (Fv c (k:=0) n1 n64 (by decide)))
  rw[yc1]at po;have po':Ca [.lst [],.lst ((Ap c n).map T.str),.int 0]=some (.ok (AE (Ag [] (Ap c n) 0))):=po;exact⟨[some (.int (n:Int)),some (.int c)],by simp![],by unfold Rw;simp![ro,Aa,An,po',k,BK _ k],_,rfl⟩
 have si:Ak (ns.map λn:Nat=>T.int (n:Int))=true:=Cp λ_ _=>rfl
 have ll:ns.length<=100000:=by omega
 rw[yb4];unfold Ew P6
 simp![si,AN _ si,ya1,ll,lc]
 rfl
abbrev OI:Stmt:=AW 63
def Pd:AH :=
 (AX (AV (AK (AQ Ca (AB (AV AD) (AB (AQ Fk (AB (AA 0) (AB (mC (.int 2)) AD))) (AB (AA 1) AD)))) (AK (AQ Ca (AB (AV AD) (AB (AQ Fk (AB (m2 Dd (AA 0) (mC (.int 3))) (AB (mC (.int 3)) AD))) (AB (AA 2) AD)))) AD))))
def IT:List T->Option Ru:=Al 3 3 Pd
abbrev Qu:Fn:=⟨9,["_law_cell","_law_first","_law_second"],IT⟩
abbrev Xx:Gm:=⟨["_law_cell","_law_first","_law_second"],(AL OI).names,[],8,[("_law_plain",Fb),("_law_rooms",JX)],[],[],[],[],false,[],[],[],By⟩
theorem zdd:FnScope Xx.N Qu.ps (AL OI):=Aq (by decide +kernel)
theorem zdt:Ad 200 Xx (Ab OI)=some Pd:=by ext
def C7(c:Int)(a b:Nat):List Mc:=[Ag [] (Ap c 2) a,Ag [] (Ap (c.fdiv 3) 3) b]
theorem Gi{k:Nat}(h:PmOk [] ns k):Ca [.lst [],.lst (ns.map T.str),.int (k:Int)]=some (.ok (AE (Ag [] ns k))):=Fw h
theorem RF(c:Int){a b:Nat}(ha:a<=200)(hb:b<=200):IT [.int c,.int (a:Int),.int (b:Int)]=some (.ok (.own ((C7 c a b).map AE))):=by
 have h1:=Fv c (n:=2) (k:=a) (by decide) (by decide) ha
 have h2:=Fv (c.fdiv 3) (n:=3) (k:=b) (by decide) (by decide) hb
 have r1:Fk [.int c,.int 2]=_:=Kl c (n:=2) (by decide)
 have r2:Fk [.int (c.fdiv 3),.int 3]=_:=Kl (c.fdiv 3) (n:=3) (by decide)
 have p1:=Gi h1;have p2:=Gi h2;have k1:=CY (Bb h1);have k2:=CY (Bb h2);have s3:DX 3=true:=sN (n:=3) (by decide)
 unfold IT Pd C7
 simp![r1,r2,Aa,An,p1,p2,k1,BK _ k1,k2,BK _ k2,s3]
abbrev OH:Stmt:=AW 62
def Pc:AH :=
 (AI (Au (AQ Fl (AB (AA 0) (AB (m2 BV (mC (.int 1)) (m2 CP (AA 0) (mC (.int 3)))) AD))) (AG 1))
 (AI (Au (AQ Fl (AB (m2 Dd (AA 0) (mC (.int 3))) (AB (m2 BV (mC (.int 1)) (m2 CP (m2 Dd (AA 0) (mC (.int 9))) (mC (.int 3)))) AD))) (AG 2))
 (AX (AV (AK (AQ Ca (AB (AV AD) (AB (AV (AK (AA 1) (AK (m2 BV (m2 BV (AA 1) (mC (.str "/"))) (AA 2)) AD))) (AB (mC (.int 0)) AD)))) (AK (AQ Ca (AB (AV AD) (AB (AV (AK (m2 BV (m2 BV (AA 2) (mC (.str "/"))) (AA 1)) (AK (AA 1) AD))) (AB (mC (.int 0)) AD)))) AD))))))
def IS:List T->Option Ru:=Al 1 3 Pc
abbrev Qt:Fn:=⟨9,["_law_cell"],IS⟩
abbrev Xw:Gm:=⟨["_law_cell","_law_one","_law_two"],(AL OH).names,[],8,[("_law_letters",Hz),("_law_plain",Fb)],[],[],[],[],false,[],[],[],By⟩
theorem zcn:FnScope Xw.N Qt.ps (AL OH):=Aq (by decide +kernel)
theorem zd4:Ad 200 Xw (Ab OH)=some Pc:=by ext
def Aj(c:Int):Str:=Ay c (1+(c.fmod 3).toNat)
def BY(c:Int):Str:=Ay (c.fdiv 3) (1+((c.fdiv 9).fmod 3).toNat)
def E3(c:Int):List Str:=[Aj c,Aj c++Str.ofString "/"++BY c]
def E2(c:Int):List Str:=[BY c++Str.ofString "/"++Aj c,Aj c]
def Dm(c:Int):List Mc:=[Ag [] (E3 c) 0,Ag [] (E2 c) 0]
theorem Yb(c:Int):1<=(Aj c).cps.size/\(Aj c).cps.size<=3/\1<=(BY c).cps.size/\(BY c).cps.size<=3:=by
 unfold Aj BY;rw[lt_size,lt_size,fm (by decide),fm (by decide)]
 omega
theorem EH(x y:Str):Tx.cs (x++y)=Tx.cs x++Tx.cs y:=by
 show(x.cps++y.cps).toList=_;simp[Tx.cs]
theorem EG(x y:Str):(x++y).cps.size=x.cps.size+y.cps.size:=by
 show(x.cps++y.cps).size=_;simp
theorem Tv:Tx.cs (Str.ofString "/")=[47]:=by decide +kernel
theorem Fq:(Str.ofString "/").cps.size=1:=by decide +kernel
theorem Pj(c:Int)(n:Nat):CB (Ay c n):=FO.mpr λ_ hx=>.inr (Pl hx)
theorem J7(hx:CB x)(hy:CB y):CB (x++y):=FO.mpr λc hc=>by
 rw[EH]at hc
 rcases yax.mp hc with h|h
 .exact FO.mp hx c h
 .exact FO.mp hy c h
theorem NY:CB (Str.ofString "/"):=Pp (by decide +kernel)
theorem RJ(c:Int):PmOk [] (E3 c) 0/\PmOk [] (E2 c) 0:=by
 obtain⟨a1,a2,b1,b2⟩:=Yb c;have ra:CB (Aj c):=Pj _ _;have rb:CB (BY c):=Pj _ _;have s1:(Aj c++Str.ofString "/"++BY c).cps.size=(Aj c).cps.size+1+(BY c).cps.size:=by rw[EG,EG,Fq]
 have s2:(BY c++Str.ofString "/"++Aj c).cps.size=(BY c).cps.size+1+(Aj c).cps.size:=by rw[EG,EG,Fq]
 refine⟨⟨(λx hx=>by cases hx),yba,yaz _,(show 1<=2 by decide),(show 2<=64 by decide),λr hr=>?_,?_,by decide⟩,⟨(λx hx=>by cases hx),yba,yaz _,(show 1<=2 by decide),(show 2<=64 by decide),λr hr=>?_,?_,by decide⟩⟩
 .simp only[E3,ya6,yab,yf7]at hr
  rcases hr with rfl|rfl
  .exact⟨ra,a1,by omega⟩
  .exact⟨J7 (J7 ra NY) rb,by omega,by omega⟩
 .unfold E3;simp only[ybz,ya6,yab,yf7,yfg,yba,and_true];intro e;have:(Aj c).cps.size=(Aj c++Str.ofString "/"++BY c).cps.size:=congrArg (λx:Str=>x.cps.size) e
  omega
 .simp only[E2,ya6,yab,yf7]at hr
  rcases hr with rfl|rfl
  .exact⟨J7 (J7 rb NY) ra,by omega,by omega⟩
  .exact⟨ra,a1,by omega⟩
 .unfold E2;simp only[ybz,ya6,yab,yf7,yfg,yba,and_true];intro e;have:(BY c++Str.ofString "/"++Aj c).cps.size=(Aj c).cps.size:=congrArg (λx:Str=>x.cps.size) e
  omega
theorem RD(c:Int):IS [.int c]=some (.ok (.own ((Dm c).map AE))):=by
 obtain⟨h1,h2⟩:=RJ c;obtain⟨a1,a2,b1,b2⟩:=Yb c;have e1:((1+(c.fmod 3).toNat:Nat):Int)=1+c.fmod 3:=by rw[fm (by decide)];omega
 have e2:((1+((c.fdiv 9).fmod 3).toNat:Nat):Int)=1+(c.fdiv 9).fmod 3:=by rw[fm (by decide)];omega
 have l1:=JM c (n:=1+(c.fmod 3).toNat) (by rw[fm (by decide)];omega)
 have l2:=JM (c.fdiv 3) (n:=1+((c.fdiv 9).fmod 3).toNat) (by rw[fm (by decide)];omega)
 rw[e1,show Ay c (1+(c.fmod 3).toNat)=Aj c from rfl]at l1;rw[e2,show Ay (c.fdiv 3) (1+((c.fdiv 9).fmod 3).toNat)=BY c from rfl]at l2;have p1:=Gi h1;have p2:=Gi h2;rw[show(E3 c).map T.str=[.str (Aj c),.str (Aj c++Str.ofString "/"++BY c)] from rfl,ycv]at p1;rw[show(E2 c).map T.str=[.str (BY c++Str.ofString "/"++Aj c),.str (Aj c)] from rfl,ycv]at p2;have k1:=CY (Bb h1);have k2:=CY (Bb h2);have s3:DX 3=true:=sN (n:=3) (by decide)
 have s9:DX 9=true:=sN (n:=9) (by decide)
 have z1:(Aj c).length+(Str.ofString "/").length<=100000:=by show(Aj c).cps.size+(Str.ofString "/").cps.size<=100000;rw[Fq];omega
 have z2:(BY c).length+(Str.ofString "/").length<=100000:=by show(BY c).cps.size+(Str.ofString "/").cps.size<=100000;rw[Fq];omega
 have z3:(Aj c++Str.ofString "/").length+(BY c).length<=100000:=by show(Aj c++Str.ofString "/").cps.size+(BY c).cps.size<=100000;rw[EG,Fq];omega
 have z4:(BY c++Str.ofString "/").length+(Aj c).length<=100000:=by show(BY c++Str.ofString "/").cps.size+(Aj c).cps.size<=100000;rw[EG,Fq];omega
 unfold IS Pc Dm
 simp![l1,l2,s3,s9,z1,z2,z3,z4,p1,p2,k1,BK _ k1,k2,BK _ k2]
abbrev OF:Stmt:=AW 61
def Pa:AH :=
 (AI (Au (m2 BV (AQ Fl (AB (AA 0) (AB (mC (.int 10)) AD))) (m2 GA (mC (.str "/")) (m2 CP (AA 0) (mC (.int 20))))) (AG 2))
 (AX (AV (AK (AQ Ca (AB (AV AD) (AB (AV (AK (mC (.str "b")) (AK (AA 2) AD))) (AB (mC (.int 0)) AD)))) (AK (AQ Ca (AB (AV AD) (AB (AV (AK (m2 GA (mC (.str "c")) (m2 FH (m2 FH (AA 1) (mC (.int 1))) (m1 Bu (AA 2)))) AD)) (AB (mC (.int 0)) AD)))) AD)))))
def Jg:List T->Option Ru:=Al 2 3 Pa
abbrev Qs:Fn:=⟨9,["_law_cell","_law_size"],Jg⟩
abbrev Xu:Gm:=⟨["_law_cell","_law_size","_law_first"],(AL OF).names,[],8,[("_law_letters",Hz),("_law_plain",Fb)],["len"],[],[],[],false,[],[],[],By⟩
theorem zfs:FnScope Xu.N Qs.ps (AL OF):=Aq (by decide +kernel)
theorem zh8:Ad 200 Xu (Ab OF)=some Pa:=by ext
def BZ(c:Int):Str:=Ay c 10++Txt.mul (Str.ofString "/") (c.fmod 20)
def Bt(c:Int)(n:Nat):Str:=Txt.mul (Str.ofString "c") ((n:Int) - 1 - ((BZ c).length:Int))
def Ck(c:Int)(n:Nat):List Mc:=[Ag [] ["b",BZ c] 0,Ag [] [Bt c n] 0]
theorem JL(c:Int):(BZ c).cps.size=10+(c.fmod 20).toNat/\(((c.fmod 20).toNat:Nat):Int)=c.fmod 20/\(c.fmod 20).toNat<=19:=by
 have e:(((c.fmod 20).toNat:Nat):Int)=c.fmod 20:=by rw[fm (by decide)];omega
 refine⟨?_,e,by rw[fm (by decide)];omega⟩
 unfold BZ;rw[EG,lt_size];have:=Tx.mul_len (Str.ofString "/") (c.fmod 20).toNat;rw[e,show(Str.ofString "/").length=1 by decide +kernel,ycy]at this
 exact congrArg (10 + ·) this
theorem Pr(c:Int)(h:n=60\/n=61):(Bt c n).cps.size=n - 1 - (BZ c).cps.size/\30<=(Bt c n).cps.size/\(Bt c n).cps.size<=50:=by
 obtain⟨a1,a2,a3⟩:=JL c
 have e:((n - 1 - (BZ c).cps.size:Nat):Int)=(n:Int) - 1 - ((BZ c).length:Int):=by
  show _=(n:Int) - 1 - (((BZ c).cps.size:Nat):Int)
  omega
 have:=Tx.mul_len (Str.ofString "c") (n - 1 - (BZ c).cps.size);rw[e,show(Str.ofString "c").length=1 by decide +kernel,ycy]at this
 have k:(Bt c n).cps.size=n - 1 - (BZ c).cps.size:=this;exact⟨k,by omega,by omega⟩
theorem WY(h:CB x)(k:Int):CB (Txt.mul x k):=FO.mpr λc hc=>FO.mp h c (Tx.mul_mem hc)
theorem Wi(c:Int)(h:n=60\/n=61):PmOk [] ["b",BZ c] 0/\PmOk [] [Bt c n] 0:=by
 obtain⟨a1,a2,a3⟩:=JL c;obtain⟨b1,b2,b3⟩:=Pr c h;have eb:(Str.ofString "b").cps.size=1:=by decide +kernel
 refine⟨⟨(λx hx=>by cases hx),yba,yaz _,(show 1<=2 by decide),(show 2<=64 by decide),λr hr=>?_,?_,by decide⟩,⟨(λx hx=>by cases hx),yba,yaz _,(show 1<=1 by decide),(show 1<=64 by decide),λr hr=>?_,?_,by decide⟩⟩
 .simp only[ya6,yab,yf7]at hr
  rcases hr with rfl|rfl
  .exact Wg (by decide +kernel)
  .exact⟨J7 (Pj _ _) (WY NY _),by omega,by omega⟩
 .simp only[ybz,ya6,yab,yf7,yfg,yba,and_true];intro e;have:(Str.ofString "b").cps.size=(BZ c).cps.size:=congrArg (λx:Str=>x.cps.size) e
  omega
 .rw[yaa.mp hr];exact⟨WY (Pp (by decide +kernel)) _,by omega,by omega⟩
 .simp
theorem We(c:Int)(h:n=60\/n=61):Jg [.int c,.int (n:Int)]=some (.ok (.own ((Ck c n).map AE))):=by
 obtain⟨h1,h2⟩:=Wi c h;obtain⟨a1,a2,a3⟩:=JL c;have l1:Fl [.int c,.int 10]=_:=JM c (n:=10) (by decide)
 have p1:=Gi h1;have p2:=Gi h2;rw[show [Str.ofString "b",BZ c].map T.str=[.str "b",.str (BZ c)] from rfl,ycv]at p1;rw[show [Bt c n].map T.str=[.str (Bt c n)] from rfl,ycv,show Bt c n=Txt.mul (Str.ofString "c") ((n:Int) - 1 - ((BZ c).length:Int)) from rfl]at p2;have k1:=CY (Bb h1);have k2:=CY (Bb h2);have ea:Ay c 10++Txt.mul (Str.ofString "/") (c.fmod 20)=BZ c:=rfl;have q1:0<=c.fmod 20/\c.fmod 20<=1000000/\(Str.ofString "/").length<=16:=⟨by omega,by omega,by decide +kernel⟩
 have q2:0<=(n:Int) - 1 - ((BZ c).length:Int)/\(n:Int) - 1 - ((BZ c).length:Int)<=1000000/\(Str.ofString "c").length<=16:=by
  refine⟨?_,?_,by decide +kernel⟩
  .show 0<=(n:Int) - 1 - (((BZ c).cps.size:Nat):Int)
   omega
  .show(n:Int) - 1 - (((BZ c).cps.size:Nat):Int)<=1000000
   omega
 have z1:(Ay c 10).length+(Txt.mul (Str.ofString "/") (c.fmod 20)).length<=100000:=by
  have:(BZ c).cps.size=(Ay c 10).cps.size+(Txt.mul (Str.ofString "/") (c.fmod 20)).cps.size:=EG _ _;show(Ay c 10).cps.size+(Txt.mul (Str.ofString "/") (c.fmod 20)).cps.size<=100000
  omega
 have z2:(BZ c).length<=100000:=by show(BZ c).cps.size<=100000;omega
 unfold Jg Pa Ck
 simp![l1,q1,z1,ea,z2,q2,p1,p2,k1,BK _ k1,k2,BK _ k2]
 rfl
abbrev OA:Stmt:=AW 59
def Rx:AF :=
 (m2 BV (AA 1) (Cj (Ek (mC (.str "xyz")) none (some (m2 BV (mC (.int 1)) (AA 0)))) (ES (mC (.str "xyz")) none (some (m2 BV (mC (.int 1)) (AA 0))))))
def LQ:AH :=
 (AI (Au (AQ Fl (AB (AA 0) (AB (mC (.int 3)) AD))) (AG 3))
 (AI (Au (AV (AK (m2 BV (AA 3) (mC (.str "a"))) (AK (m2 BV (AA 3) (mC (.str "b"))) (AK (mC (.str "/")) (AK (m2 BV (AA 3) (mC (.str "c"))) AD))))) (AG 4))
 (AI (Au (m2 BV (BX 1 [3] (EB (AB (mC (.int 3)) AD)) (AG 0) (mC (.bl true)) Rx) (AV (AK (m2 BV (AA 3) (mC (.str "d"))) AD))) (AG 5))
 (AI (Au (Cj (Ek (AA 5) (some (m2 FH (mC (.int 4)) (AA 2))) none) (ES (AA 5) (some (m2 FH (mC (.int 4)) (AA 2))) none)) (AG 5))
 (AI (Ai (AA 1) (Au (m2 BV (Cj (Ek (AA 5) none (some (m1 Du (mC (.int 1))))) (ES (AA 5) none (some (m1 Du (mC (.int 1)))))) (AV (AK (B8 (AA 4) (m2 CP (AA 0) (mC (.int 4)))) AD))) (AG 5)) Ah)
 (AX (AV (AK (AQ Ca (AB (AA 4) (AB (AV (AK (mC (.str "a")) (AK (mC (.str "b")) AD))) (AB (mC (.int 1)) AD)))) (AK (AQ Ca (AB (AV AD) (AB (AV (AK (mC (.str "c")) AD)) (AB (mC (.int 0)) AD)))) (AK (AQ Ca (AB (AA 5) (AB (AV (AK (mC (.str "d")) AD)) (AB (mC (.int 1)) AD)))) AD))))))))))
def HP:List T->Option Ru:=Al 3 6 LQ
abbrev Qp:Fn:=⟨9,["_law_cell","_law_twice","_law_many"],HP⟩
abbrev Xo:Gm:=⟨["_law_cell","_law_twice","_law_many","_law_name","_law_first","_law_second"],(AL OA).names,["_law_name"],8,[("_law_letters",Hz),("_law_plain",Fb)],["range"],[],[],[],false,[],[],[],By⟩
theorem zck:FnScope Xo.N Qp.ps (AL OA):=Aq (by decide +kernel)
theorem zd1:Ad 200 Xo (Ab OA)=some LQ:=by ext
def BC(c:Int):Option Str->Str
 |none=>Str.ofString "/"
 |some s=>Ay c 3++s
def Bq:List (Option Str):=[some (Str.ofString "a"),some (Str.ofString "b"),none,some (Str.ofString "c")]
def Ip:List (Option Str):=[some (Str.ofString "x"),some (Str.ofString "xy"),some (Str.ofString "xyz"),some (Str.ofString "d")]
def B7(tw:Bool)(m i:Nat):List (Option Str):=if tw then (Ip.drop (4 - m)).dropLast++[Bq.getD i none] else Ip.drop (4 - m)
def Be(c:Int):Nat:=(c.fmod 4).toNat
theorem JO(c:Int):Be c<4/\((Be c:Nat):Int)=c.fmod 4:=by
 unfold Be;rw[fm (by decide)]
 omega
def Bo(c:Int)(tw:Bool)(m:Nat):List Mc:=[Ag (Bq.map (BC c)) [Str.ofString "a",Str.ofString "b"] 1,Ag [] [Str.ofString "c"] 0,Ag ((B7 tw m (Be c)).map (BC c)) [Str.ofString "d"] 1]
theorem zhm(c:Int){a b:Option Str}(h:BC c a=BC c b):a=b:=by
 have s3:=lt_size c 3;cases a with
 |none =>
  cases b with
  |none=>rfl
  |some t =>
   have:(Str.ofString "/").cps.size=(Ay c 3++t).cps.size:=congrArg (λx:Str=>x.cps.size) h
   rw[Fq,EG,s3]at this
   omega
 |some s =>
  cases b with
  |none =>
   have:(Ay c 3++s).cps.size=(Str.ofString "/").cps.size:=congrArg (λx:Str=>x.cps.size) h
   rw[Fq,EG,s3]at this
   omega
  |some t =>
   have e:Tx.cs (Ay c 3++s)=Tx.cs (Ay c 3++t):=congrArg Tx.cs h;rw[EH,EH]at e;exact congrArg some (Tx.cs_ext (ydc e))
theorem Js(c:Int){l:List (Option Str)}:(l.map (BC c)).Nodup ↔ l.Nodup:=by
 constructor
 .intro h;exact(yde.mp h).imp λh e=>h (congrArg _ e)
 .intro h;exact yde.mpr (h.imp λh e=>h (zhm c e))
def Hj(o:Option Str):Bool:=match o with
 |none=>true
 |some s=>((Tx.cs s).all λc=>decide (97<=c/\c<=122)) && decide (s.cps.size<=5)
theorem Sk(c:Int){o:Option Str}(h:Hj o=true):Fh (BC c o):=by
 cases o with
 |none=>exact .inl rfl
 |some s =>
  unfold Hj at h;rw[ya3]at h;have h5:=yfa h.2;refine .inr ⟨NW λx hx=>?_,?_,?_⟩
  .have hx':x∈Tx.cs (Ay c 3++s):=hx;rw[EH]at hx'
   rcases yax.mp hx' with q|q
   .exact Pl q
   .exact yfa (yaj.mp h.1 x q)
  .show 1<=(Ay c 3++s).cps.size;rw[EG,lt_size]
   omega
  .show(Ay c 3++s).cps.size<=8;rw[EG,lt_size]
   omega
theorem UH:∀m<5,∀i<4,(B7 true m i).all Hj=true/\(B7 true m i).Nodup/\(B7 true m i).length<=4:=by decide +kernel
theorem UJ:∀m<5,∀i<4,(B7 false m i).all Hj=true/\(B7 false m i).Nodup/\(B7 false m i).length<=4:=by decide +kernel
theorem se_tn:∀m<5,∀i<4,1<=m->¬ (Bq++B7 true m i).Nodup:=by decide +kernel
theorem UI:∀m<5,∀i<4,(Bq++B7 false m i).Nodup/\(Bq++B7 false m i).length=4+m:=by decide +kernel
theorem zlh(tw:Bool)(hm:m<5)(hi:i<4):(B7 tw m i).all Hj=true/\(B7 tw m i).Nodup/\(B7 tw m i).length<=4:=by
 cases tw
 .exact UJ m hm i hi
 .exact UH m hm i hi
theorem Sq:Bq.all Hj=true/\Bq.Nodup:=by decide +kernel
theorem Se(c:Int)(tw:Bool)(hm:m<5):PmOk (Bq.map (BC c)) [Str.ofString "a",Str.ofString "b"] 1/\PmOk [] [Str.ofString "c"] 0/\PmOk ((B7 tw m (Be c)).map (BC c)) [Str.ofString "d"] 1:=by
 obtain⟨e1,e2,e3⟩:=zlh tw hm (JO c).1
 have ab:PmOk (Bq.map (BC c)) [Str.ofString "a",Str.ofString "b"] 1:=(Gj (by decide +kernel) (by decide +kernel) (by decide) (by decide) (by decide)).ws (λx hx=>by
  obtain⟨o,ho,rfl⟩:=yai.mp hx;exact Sk c (yaj.mp Sq.1 o ho)) ((Js c).mpr Sq.2) (by rw[ya1];decide)
 have cc:PmOk [] [Str.ofString "c"] 0:=Gj (by decide +kernel) (by decide +kernel) (by decide) (by decide) (by decide)
 have dd:PmOk ((B7 tw m (Be c)).map (BC c)) [Str.ofString "d"] 1:=(Gj (by decide +kernel) (by decide +kernel) (by decide) (by decide) (by decide)).ws (λx hx=>by
  obtain⟨o,ho,rfl⟩:=yai.mp hx;exact Sk c (yaj.mp e1 o ho)) ((Js c).mpr e2) (by rw[ya1];omega)
 exact⟨ab,cc,dd⟩
theorem Jp(c:Int)(tw:Bool)(hm:m<5):∀M∈Bo c tw m,McOk M:=by
 obtain⟨ab,cc,dd⟩:=Se c tw hm;intro M hM;simp only[Bo,ya6,yab,yf7]at hM
 rcases hM with rfl|rfl|rfl
 .exact Bb ab
 .exact Bb cc
 .exact Bb dd
theorem xyz:Txt.slice (Str.ofString "xyz") none (some (1+((0:Nat):Int)))=Str.ofString "x"/\Txt.slice (Str.ofString "xyz") none (some (1+((1:Nat):Int)))=Str.ofString "xy"/\Txt.slice (Str.ofString "xyz") none (some (1+((2:Nat):Int)))=Str.ofString "xyz":=⟨Tx.cs_ext (by decide +kernel),Tx.cs_ext (by decide +kernel),Tx.cs_ext (by decide +kernel)⟩
theorem Ju(c:Int)(tw:Bool)(h1:1<=m)(hm:m<5):HP [.int c,.bl tw,.int (m:Int)]=some (.ok (.own ((Bo c tw m).map AE))):=by
 obtain⟨ab,cc,dd⟩:=Se c tw hm;have p1:=Fw ab;have p2:=Fw cc;have p3:=Fw dd;rw[show [Str.ofString "a",Str.ofString "b"].map T.str=[.str "a",.str "b"] from rfl,show((1:Nat):Int)=1 from rfl]at p1;rw[show [Str.ofString "c"].map T.str=[.str "c"] from rfl,yc1,ycv]at p2;rw[show [Str.ofString "d"].map T.str=[.str "d"] from rfl,show((1:Nat):Int)=1 from rfl]at p3;have k1:=CY (Bb ab);have k2:=CY (Bb cc);have k3:=CY (Bb dd);have l1:=JM c (n:=3) (by decide)
 rw[show((3:Nat):Int)=3 from rfl]at l1;have sz:(Ay c 3).length=3:=lt_size c 3;have zz:∀s:Str,s.length<=90000->(Ay c 3).length+s.length<=100000:=λs hs=>by rw[sz];omega
 have za:=zz (Str.ofString "a") (by decide +kernel)
 have zb:=zz (Str.ofString "b") (by decide +kernel)
 have zc:=zz (Str.ofString "c") (by decide +kernel)
 have zd:=zz (Str.ofString "d") (by decide +kernel)
 obtain⟨x1,x2,x3⟩:=xyz
 have lc:=DA (n:=3) (me:=Rx) (x:=none) (cs:=[some (.str (Ay c 3))]) (g:=λi=>.int (i:Int)) (f:=λk=>.str (Ay c 3++Txt.slice (Str.ofString "xyz") none (some (1+(k:Int))))) λk hk=>by
  have zk:(Ay c 3).length+(Txt.slice (Str.ofString "xyz") none (some (1+(k:Int)))).length<=100000:=by
   refine zz _ ?_;have:k=0\/k=1\/k=2:=by omega
   rcases this with rfl|rfl|rfl
   .rw[x1];decide +kernel
   .rw[x2];decide +kernel
   .rw[x3];decide +kernel
  have zx:(Str.ofString "xyz").length<=100000:=by decide +kernel
  unfold Rx
  simp![zk,ES,zx]
 have em:(mT 3 λk=>T.str (Ay c 3++Txt.slice (Str.ofString "xyz") none (some (1+(k:Int)))))=[.str (Ay c 3++Str.ofString "x"),.str (Ay c 3++Str.ofString "xy"),.str (Ay c 3++Str.ofString "xyz")]:=by
  rw[<- x1,<- x2,<- x3]
  rfl
 rw[em]at lc;have er:EL 0 3=mT 3 λi=>.int (i:Int):=Iv
 have ok:FV 3=true:=@decide_eq_true _ (Classical.propDecidable _) ⟨by omega,by omega⟩
 have cut1:GV ((Ip.map (BC c)).map T.str) (some (4 - (m:Int))) none=((B7 false m (Be c)).map (BC c)).map T.str:=by
  have:m=1\/m=2\/m=3\/m=4:=by omega
  rcases this with rfl|rfl|rfl|rfl<;>rfl
 have cut2:GV (((B7 false m (Be c)).map (BC c)).map T.str) none (some (-1))=((B7 false m (Be c)).dropLast.map (BC c)).map T.str:=by
  have:m=1\/m=2\/m=3\/m=4:=by omega
  rcases this with rfl|rfl|rfl|rfl<;>rfl
 obtain⟨i4,ie⟩:=JO c
 have at4:Aw ((Bq.map (BC c)).map T.str) (c.fmod 4)=some (.str (BC c (Bq.getD (Be c) none))):=by
  rw[<- ie];refine IK (by omega) ?_
  rw[yc3,ya5,ya5,yag,ya0 (show Be c<Bq.length from i4)]
  rfl
 have s1:=(UJ m hm (Be c) i4).2.2
 have key:LQ [some (.int c),some (.bl tw),some (.int (m:Int)),none,none,none]=some (.rt (.own ((Bo c tw m).map AE))):=by
  unfold LQ;refine sq (τ':=[some (.int c),some (.bl tw),some (.int (m:Int)),some (.str (Ay c 3)),none,none]) (by simp![l1]) ?_
  refine sq (τ':=[some (.int c),some (.bl tw),some (.int (m:Int)),some (.str (Ay c 3)),some (.lst ((Bq.map (BC c)).map T.str)),none]) (by simp![za,zb,zc]<;>rfl) ?_
  refine sq (τ':=[some (.int c),some (.bl tw),some (.int (m:Int)),some (.str (Ay c 3)),some (.lst ((Bq.map (BC c)).map T.str)),some (.lst ((Ip.map (BC c)).map T.str))]) (by simp![er,ok,lc,zd]<;>rfl) ?_
  refine sq (τ':=[some (.int c),some (.bl tw),some (.int (m:Int)),some (.str (Ay c 3)),some (.lst ((Bq.map (BC c)).map T.str)),some (.lst (((B7 false m (Be c)).map (BC c)).map T.str))]) (by simp![cut1,Aa,An]) ?_
  refine sq (τ':=[some (.int c),some (.bl tw),some (.int (m:Int)),some (.str (Ay c 3)),some (.lst ((Bq.map (BC c)).map T.str)),some (.lst (((B7 tw m (Be c)).map (BC c)).map T.str))]) ?_ ?_
  .cases tw with
   |false=>simp![]
   |true =>
    have e:((B7 true m (Be c)).map (BC c)).map T.str=((B7 false m (Be c)).dropLast.map (BC c)).map T.str++[.str (BC c (Bq.getD (Be c) none))]:=by
     show(((Ip.drop (4 - m)).dropLast++[Bq.getD (Be c) none]).map (BC c)).map T.str=_;rw[yb9,yb9]
     rfl
    have se:Ax (((B7 false m (Be c)).dropLast.map (BC c)).map T.str++[.str (BC c (Bq.getD (Be c) none))])=((B7 false m (Be c)).dropLast.map (BC c)).map T.str++[.str (BC c (Bq.getD (Be c) none))]:=by
     rw[<- e];simp only[An]
    have s4:DX 4=true:=sN (n:=4) (by decide)
    have ll:((B7 false m (Be c)).dropLast).length+1<=100000:=by rw[List.length_dropLast];omega
    simp![cut2,Aa,An,at4,e,ya1,ll,s4,se]
  .simp![Aa,An,p1,p2,p3,k1,BK _ k1,k2,BK _ k2,k3,BK _ k3]<;>rfl
 unfold HP
 simp![key]
abbrev OE:Stmt:=AW 58
def LR:AH :=
 (AI (Au (AQ Ca (AB (AV (AK (mC (.str "x")) AD)) (AB (AQ Fk (AB (m2 Dd (AA 0) (mC (.int 12))) (AB (mC (.int 3)) AD))) (AB (mC (.int 2)) AD)))) (AG 1))
 (AI (Au (AQ Ca (AB (AV AD) (AB (AV (AK (mC (.str "a")) (AK (mC (.str "b")) AD))) (AB (mC (.int 1)) AD)))) (AG 2))
 (AI (Au (AV (AK (AV AD) (AK (mC .non) (AK (B0 (AB (AA 1) (AB (AA 2) AD))) (AK (AA 1) (AK (mC (.str "ab")) (AK LZ (AK (AV (AK (AA 1) (AK (mC .non) AD))) (AK (AV (AK (mC .non) (AK (AA 1) AD))) (AK (AV (AK (AA 1) (AK (mC (.str "a")) (AK (AA 2) AD)))) (AK (AV (AK (AA 1) (AK (AV (AK (AA 2) AD)) AD))) AD))))))))))) (AG 3))
 (AX (B8 (m2 BV (AA 3) (AV (AK (m2 GA (AV (AK (AA 2) AD)) (mC (.int 7))) (AK (AV (AK (AA 1) (AK (B0 (AB (AV (AK (mC (.str "x")) AD)) (AB (AV (AK (B0 (AB (mC (.str "a")) (AB (AV AD) AD))) AD)) (AB (AV AD) AD)))) AD))) AD)))) (m2 CP (AA 0) (mC (.int 12))))))))
def Ma:List T->Option Ru:=Al 1 4 LR
abbrev Qr:Fn:=⟨9,["_law_cell"],Ma⟩
abbrev Xs:Gm:=⟨["_law_cell","_law_one","_law_other","_law_some"],(AL OE).names,[],8,[("_law_plain",Fb),("_law_rooms",JX)],[],[],[],[],false,[],[],[],By⟩
theorem zcl:FnScope Xs.N Qr.ps (AL OE):=Aq (by decide +kernel)
theorem zd2:Ad 200 Xs (Ab OE)=some LR:=by ext
theorem WZ{α:Type}(l:List α)(hl:l≠[])(i:Int):∃x∈l,Aw l (i.fmod (l.length:Int))=some x:=by
 have hp:0<l.length:=List.length_pos_iff.mpr hl;have e:i.fmod (l.length:Int)=i % (l.length:Int):=fm (by omega)
 have h0:=Int.emod_nonneg i (show(l.length:Int)≠0 by omega)
 have h1:=Int.emod_lt_of_pos i (show 0<(l.length:Int) by omega)
 have hi:(i % (l.length:Int)).toNat<l.length:=by omega
 exact⟨l[(i % (l.length:Int)).toNat],yb6 hi,by rw[e];exact IK h0 (ya0 hi)⟩
def Fz(c:Int):Mc:=Ag [Str.ofString "x"] (Ap (c.fdiv 12) 3) 2
def Fy:Mc:=Ag [] [Str.ofString "a",Str.ofString "b"] 1
theorem WU(c:Int):PmOk [Str.ofString "x"] (Ap (c.fdiv 12) 3) 2/\PmOk [] [Str.ofString "a",Str.ofString "b"] 1 :=
 ⟨(Fv (c.fdiv 12) (n:=3) (k:=2) (by decide) (by decide) (by decide)).ws (λx hx=>by
  rw[yaa.mp hx];exact .inr ⟨Po (by decide +kernel),by decide +kernel,by decide +kernel⟩) (by simp) (by decide),Gj (by decide +kernel) (by decide +kernel) (by decide) (by decide) (by decide)⟩
def Ei(A B:T):List T:=[.lst [],.non,.tup [A,B],A,.str "ab",.dic [] [],.lst [A,.non],.lst [.non,A],.lst [A,.str "a",B],.lst [A,.lst [B]],.lst [B,B,B,B,B,B,B],.lst [A,.tup [.lst [.str "x"],.lst [.tup [.str "a",.lst []]],.lst []]]]
theorem no_ok(c:Int):∃x∈Ei (AE (Fz c)) (AE Fy),Ma [.int c]=some (.ok x):=by
 obtain⟨h1,h2⟩:=WU c;have p1:=Fw h1;have p2:=Fw h2;rw[show [Str.ofString "x"].map T.str=[.str "x"] from rfl,show((2:Nat):Int)=2 from rfl,show Ag [Str.ofString "x"] (Ap (c.fdiv 12) 3) 2=Fz c from rfl]at p1;rw[show [Str.ofString "a",Str.ofString "b"].map T.str=[.str "a",.str "b"] from rfl,yc1,show((1:Nat):Int)=1 from rfl,show Ag [] [Str.ofString "a",Str.ofString "b"] 1=Fy from rfl]at p2;have r1:=Kl (c.fdiv 12) (n:=3) (by decide)
 rw[show((3:Nat):Int)=3 from rfl]at r1;have k1:(AE (Fz c)).sh=true:=CY (Bb h1);have k2:(AE Fy).sh=true:=CY (Bb h2);obtain⟨x,hx,e⟩:=WZ (Ei (AE (Fz c)) (AE Fy)) (by unfold Ei;simp) c
 have s12:DX 12=true:=sN (n:=12) (by decide)
 refine⟨x,hx,?_⟩;generalize AE (Fz c)=A at *;generalize AE Fy=B at *
 have sx:x.sh=true:=by
  simp only[Ei,ya6,yab,yf7]at hx
  rcases hx with rfl|rfl|rfl|rfl|rfl|rfl|rfl|rfl|rfl|rfl|rfl|rfl<;>simp![k1,k2]
 rw[show((Ei A B).length:Int)=12 from rfl]at e;unfold Ei at e
 have key:LR [some (.int c),none,none,none]=some (.rt x):=by
  unfold LR;refine sq (τ':=[some (.int c),some A,none,none]) (by simp![r1,p1,Aa,An,k1,BK _ k1,s12]) ?_
  refine sq (τ':=[some (.int c),some A,some B,none]) (by simp![p2,k2,BK _ k2]) ?_
  refine sq (τ':=[some (.int c),some A,some B,some (.lst [.lst [],.non,.tup [A,B],A,.str "ab",.dic [] [],.lst [A,.non],.lst [.non,A],.lst [A,.str "a",B],.lst [A,.lst [B]]])]) (by simp![k1,BK _ k1,k2,BK _ k2]) ?_
  have q7:L8 7=true:=zk2 (n:=7) (by decide)
  have t7:1 * Int.toNat 7<=100000:=by decide
  have r7:(List.replicate (Int.toNat 7) [B]).flatten=[B,B,B,B,B,B,B]:=rfl
  simp![q7,t7,r7,k1,BK _ k1,k2,BK _ k2,e,sx,BK _ sx]
 unfold Ma
 simp![key]
def C9(t:T)(c:Str):Prop:=t.sh=true/\DE [t]=some (.exc c)/\DF [t]=some (.exc c)
theorem Em(h:Ak l=true):(T.lst l).sh=true:=by simp![h]
theorem FP{t:T}(hs:t.sh=true)(h:DG [t]=some (.exc "BadMachine")):C9 t "BadMachine":=⟨hs,NJ hs (ct_no hs h)⟩
theorem U1{Ms:List Mc}(l1:1<=Ms.length)(l6:Ms.length<=6)(h:∀M∈Ms,McOk M)(hw:(Ms.flatMap Mc.ws).length<1000)(hb:7<(Ms.flatMap Mc.ws).length\/¬ (Ms.flatMap Mc.ws).Nodup):C9 (.lst (Ms.map AE)) "BadMachine" :=
 FP (Em (CW h)) (by rw[Yp l1 l6 h hw,if_pos hb])
theorem U2{Ms:List Mc}(h:MsOk Ms)(hf:CD [[]] (Ms.map Mc.nm)=none):C9 (.lst (Ms.map AE)) "TooMany":=⟨Em (CW h.m),NJ (Em (CW h.m)) (zkm h hf)⟩
theorem OY{Ms:List Mc}(h:MsOk Ms){us:List (List Str)}(hf:CD [[]] (Ms.map Mc.nm)=some us)(hn:¬ JD us):C9 (.lst (Ms.map AE)) "BadMachine":=⟨Em (CW h.m),NJ (Em (CW h.m)) (by rw[Yo h hf,if_neg hn])⟩
theorem ze7{Ms:List Mc}(h:MsOk Ms)(hr:RmOk Ms)(hf:FwOk Ms)(hw:200<(BR (AU Ms) (A2 Ms)).length):C9 (.lst (Ms.map AE)) "TooMany" :=
 ⟨Em (CW h.m),(NG h hr hf).elim (λz=>absurd z.1 (by omega)) (·.2),(N0 h hr).elim (λz=>absurd z.1 (by omega)) (·.2)⟩
structure Made(Ms:List Mc):Prop where
 m:MsOk Ms
 r:RmOk Ms
 f:FwOk Ms
 w:(BR (AU Ms) (A2 Ms)).length<=200
theorem XE(M:Mc):EW IE (AE M)=some (.bl true):=rfl
theorem XD(M:Mc):Ep [A4] "list" (AE M)=some (.bl false):=rfl
def Fx:T->Bool
 |.obj _ _=>true
 |_=>false
theorem VW(M:Mc):Fx (AE M)=true:=rfl
theorem zn4{A B:Mc}(hA:McOk A)(hB:McOk B){x:T}(hx:x∈Ei (AE A) (AE B)):C9 x "BadMachine":=by
 have k1:=CY hA;have k2:=CY hB;have c1:=XE A;have c2:=XE B;have o1:=VW A;have o2:=VW B;have t1:=XD A;generalize AE A=a at *;generalize AE B=b at *;have some_:∀{l:List T},Ak l=true->1<=l.length->l.length<=6->(∀t∈l,EW IE t=some (.bl (Fx t)))->l.all Fx=false->C9 (.lst l) "BadMachine":=λhs h1 h6 h hf=>FP (Em hs) (zko hs h1 h6 h hf)
 simp only[Ei,ya6,yab,yf7]at hx
 rcases hx with rfl|rfl|rfl|rfl|rfl|rfl|rfl|rfl|rfl|rfl|rfl|rfl
 .exact FP rfl (Ys rfl (.inl rfl))
 .exact FP rfl (J1 rfl rfl)
 .have hs:(T.tup [a,b]).sh=true:=by simp![k1,k2]
  exact FP hs (J1 hs rfl)
 .exact FP k1 (J1 k1 t1)
 .exact FP rfl (J1 rfl rfl)
 .exact FP rfl (J1 rfl rfl)
 .refine some_ (by simp![k1]) (by simp) (by simp) (λt ht=>?_) (by simp[o1,Fx])
  simp only[ya6,yab,yf7]at ht
  rcases ht with rfl|rfl
  .rw[o1];exact c1
  .rfl
 .refine some_ (by simp![k1]) (by simp) (by simp) (λt ht=>?_) (by simp[o1,Fx])
  simp only[ya6,yab,yf7]at ht
  rcases ht with rfl|rfl
  .rfl
  .rw[o1];exact c1
 .refine some_ (by simp![k1,k2]) (by simp) (by simp) (λt ht=>?_) (by simp[o1,o2,Fx])
  simp only[ya6,yab,yf7]at ht
  rcases ht with rfl|rfl|rfl
  .rw[o1];exact c1
  .rfl
  .rw[o2];exact c2
 .refine some_ (by simp![k1,k2]) (by simp) (by simp) (λt ht=>?_) (by simp[o1,Fx])
  simp only[ya6,yab,yf7]at ht
  rcases ht with rfl|rfl
  .rw[o1];exact c1
  .rfl
 .have hs:Ak [b,b,b,b,b,b,b]=true:=by simp![k2]
  exact FP (Em hs) (Ys hs (.inr ⟨by show 6<7;decide,by show 7<=100000;decide⟩))
 .refine some_ (by simp![k1]) (by simp) (by simp) (λt ht=>?_) (by simp[o1,Fx])
  simp only[ya6,yab,yf7]at ht
  rcases ht with rfl|rfl
  .rw[o1];exact c1
  .rfl
theorem Iy{Ms:List Mc}(h:∀M∈Ms,∃ws ns k,M=Ag ws ns k):FwOk Ms:=by
 refine⟨λM hM r hr=>?_,λM hM d hd=>?_,λM hM d hd=>?_⟩<;>obtain⟨ws,ns,k,rfl⟩:=h M hM
 .obtain⟨x,hx,rfl⟩:=yai.mp hr;exact yaz _
 .obtain⟨j,hj,rfl⟩:=yai.mp hd;exact yaz _
 .obtain⟨j,hj,rfl⟩:=yai.mp hd;exact yaz _
theorem YO{α β:Type}{g:α->List β}{m:Nat}:∀{L:List α},(∀x∈L,(g x).length=m)->(L.flatMap g).length=L.length * m
 |[],_=>by simp
 |x::L,h=>by
  have h1:=h x (ya9 ..);have h2:=YO (L:=L) λy hy=>h y (ya7 _ hy)
  rw[ybc,yad,yao,ycx]
  omega
theorem EM{Ms:List Mc}{ws:List Str}{k:Nat}(hi:Ms[i]?=some (Ag ws ns k)):(Cb (AU Ms) ts i).length=k * (ts.filter λt=>decide (ns.getD 0 ""=t.getD i "")).length:=by
 have e:(AU Ms).getD i []=(List.range k).map (DL ns):=by
  rw[yag,ya5,hi]
  rfl
 unfold Cb;rw[e];rw[YO (m:=(ts.filter λt=>decide (ns.getD 0 ""=t.getD i "")).length) λj hj=>?_,yce,ya1,yce]
 have hj':j<k:=by simpa using hj
 have ed:BD (AU Ms) i j=DL ns j:=by
  unfold BD;rw[e,yag,ya5,yd0 hj']
  rfl
 have eg:Cq (AU Ms) i j=[[(i,j)]]:=by
  unfold Cq;rw[ed,if_pos (show(DL ns j).z="" from rfl)]
 unfold G3;rw[eg,ybc,ybw,yav];unfold Cc;rw[ya1];refine congrArg List.length (congrArg (λp=>ts.filter p) (funext λt=>?_))
 unfold FI;rw[List.all_cons,List.all_nil,Bool.and_true,ed]
 rfl
def Fi(x:Str):Prop:=Dp x/\1<=x.cps.size/\x.cps.size<=8
theorem zfh(ts:List (List Str))(rs:List Str):(BI ts rs).length=ts.length * rs.length:=by
 unfold BI
 induction ts with
 |nil=>rw[ybw,ybd,Nat.zero_mul]
 |cons t ts ih=>rw[ybc,yad,ih,ya1,yao,ycx,ycy,Nat.add_comm]
theorem zht{rs:List Str}(h1:ts.Nodup)(h2:rs.Nodup):(BI ts rs).Nodup:=by
 unfold BI;refine List.pairwise_flatMap.mpr ⟨λt _=>yde.mpr (h2.imp λ{a b} hab e=>hab ?_),h1.imp λ{a b} hab x hx y hy e=>hab ?_⟩
 .have:=ydc e;injection this
 .obtain⟨r,_,rfl⟩:=yai.mp hx;obtain⟨r',_,rfl⟩:=yai.mp hy;exact(List.append_inj' e rfl).1
theorem YC:∀(rss ts:List (List Str)),ts.Nodup->(∀rs∈rss,rs.Nodup)->(rss.foldl BI ts).Nodup
 |[],_,h,_=>h
 |rs::rss,ts,h,hr=>YC rss (BI ts rs) (zht h (hr rs (ya9 ..))) λx hx=>hr x (ya7 _ hx)
theorem UA(h:Fi x):∀c∈Tx.cs x,c≠47:=λc hc z=>by
 have:=Ig h.1 c hc
 omega
theorem jn_ok{t:List Str}(h0:t≠[])(hl:t.length<=6)(h:∀r∈t,Fi r):CB (A3 t)/\1<=(A3 t).cps.size/\(A3 t).cps.size<=60:=by
 have sz:(A3 t).cps.size=(Tx.joinL 47 (t.map Tx.cs)).length:=by rw[<- F7];rfl
 refine⟨λi hi=>?_,?_,?_⟩
 .have hm:(A3 t).cps.getD i 0∈Tx.cs (A3 t):=by
   rw[ybk,yb1 hi];exact yd5 hi
  rw[F7]at hm
  rcases QE hm with hm|⟨p,hp,hm⟩
  .exact .inl hm
  .obtain⟨r,hr,rfl⟩:=yai.mp hp;exact .inr (Ig (h r hr).1 _ hm)
 .rw[sz];cases t with
  |nil=>exact absurd rfl h0
  |cons a r =>
   have ha:1<=(Tx.cs a).length:=(h a (ya9 ..)).2.1;cases r with
   |nil=>exact ha
   |cons b r =>
    show 1<=(Tx.cs a++47::Tx.joinL 47 ((b::r).map Tx.cs)).length;rw[yad]
    omega
 .rw[sz]
  have:=QF (c:=47) (m:=8) (l:=t.map Tx.cs) λp hp=>by
   obtain⟨r,hr,rfl⟩:=yai.mp hp;exact(h r hr).2.2
  rw[ya1]at this
  omega
theorem znk{t u:List Str}(ht:t≠[])(hu:u≠[])(h1:∀r∈t,Fi r)(h2:∀r∈u,Fi r)(e:A3 t=A3 u):t=u:=by
 have e':=congrArg Tx.cs e;rw[F7,F7]at e';refine Tx.map_cs_inj (Tx.joinL_inj (by simpa using ht) (by simpa using hu) (λp hp z=>?_) (λp hp z=>?_) e')
 .obtain⟨r,hr,rfl⟩:=yai.mp hp;exact UA (h1 r hr) 47 z rfl
 .obtain⟨r,hr,rfl⟩:=yai.mp hp;exact UA (h2 r hr) 47 z rfl
def E7(n:Nat):List Nat->Bool
 |[]=>true
 |k::ks=>decide (n * k<=64) && E7 (n * k) ks
theorem NI:∀{rss ts:List (List Str)},(CD ts rss).isSome=E7 ts.length (rss.map (·.length))
 |[],_=>rfl
 |rs::rss,ts=>by
  rw[yae,E7,<- zfh,CD]
  by_cases h:(BI ts rs).length<=64
  .rw[if_pos h,yew h,ye8];exact NI
  .rw[if_neg h,yeg h,yd6]
   rfl
theorem TK(h:E7 1 (rss.map (·.length))=false):CD [[]] rss=none:=by
 have:=NI (rss:=rss) (ts:=[[]]);rw[show([[]]:List (List Str)).length=1 from rfl,h]at this;cases hf:CD [[]] rss with
 |none=>rfl
 |some us=>rw[hf]at this;cases this
theorem KL(h:E7 1 (rss.map (·.length))=true):CD [[]] rss=some (Bk rss):=by
 have:=NI (rss:=rss) (ts:=[[]]);rw[show([[]]:List (List Str)).length=1 from rfl,h]at this;cases hf:CD [[]] rss with
 |none=>rw[hf]at this;cases this
 |some us=>rw[show us=Bk rss from NH hf]
theorem TM:∀{rss ts us:List (List Str)},ts.length<=64->CD ts rss=some us->∀i,((rss.take i).foldl BI ts).length<=64
 |[],ts,us,hl,_,i=>by rw[List.take_nil];exact hl
 |rs::rss,ts,us,hl,h,0=>hl
 |rs::rss,ts,us,hl,h,i+1=>by
  unfold CD at h;split at h
  .rename_i hc;rw[List.take_succ_cons,ycm];exact TM hc h i
  .cases h
theorem Iq{Ms:List Mc}(h:MsOk Ms)(hb:E7 1 ((Ms.map Mc.nm).map (·.length))=true)(hn:JD (Bk (Ms.map Mc.nm))):RmOk Ms:=by
 have hf:=KL hb
 have hr:∀M∈Ms,∀r∈M.nm,CB r/\r.length<=60:=λM hM r hr=>by
  obtain⟨x,hx,rfl⟩:=yai.mp hr;have:=(h.m M hM).r.nm x hx;exact⟨this.1,this.2.2⟩
 refine⟨λi hi=>?_,λM hM r hr'=>(hr M hM r hr').2,λt ht=>?_,hn.1⟩
 .rw[List.map_take];exact TM (by decide) hf i
 .refine⟨Wy λr hr'=>?_,hn.2 t ht⟩
  obtain⟨i,e⟩:=ybe.mp hr';obtain⟨rs,e1,e2⟩:=(KN ht).2 i r e;rw[ya5]at e1;obtain⟨M,e3,rfl⟩:=ya2.mp e1;exact(hr M (yas e3) r e2).1
theorem LA(h1:1<=rss.length)(h6:rss.length<=6)(hn:∀rs∈rss,rs.Nodup)(hs:∀rs∈rss,∀r∈rs,Fi r):JD (Bk rss):=by
 have key:∀t∈Bk rss,t≠[]/\t.length<=6/\∀r∈t,Fi r:=λt ht=>by
  obtain⟨k1,k2⟩:=KN ht;refine⟨λz=>by rw[z,ybd]at k1;omega,by omega,λr hr=>?_⟩
  obtain⟨i,e⟩:=ybe.mp hr;obtain⟨rs,e1,e2⟩:=k2 i r e;exact hs rs (yas e1) r e2
 refine⟨?_,λt ht=>?_⟩
 .have nd:(Bk rss).Nodup:=YC _ _ (by simp) hn
  exact yde.mpr (nd.imp_of_mem λ{a b} ha hb hab e=>hab (znk (key a ha).1 (key b hb).1 (key a ha).2.2 (key b hb).2.2 e))
 .obtain⟨k1,k2,k3⟩:=key t ht;exact(jn_ok k1 k2 k3).2
theorem Km{c:Int}(hn:n<=64):∀r∈Ap c n,Fi r:=λr hr=>by
 obtain⟨a,b,d⟩:=UZ hn hr;exact⟨a,by omega,by omega⟩
def Bp(c:Int)(ns:List Nat):List Mc:=ns.map λn=>Ag [] (Ap c n) 0
theorem Mp(c:Int)(ns:List Nat):(Bp c ns).map Mc.nm=ns.map (Ap c):=by
 unfold Bp;rw[yb4];exact yc5 λn _=>EN _ _ _
theorem Mq(c:Int)(ns:List Nat):((Bp c ns).map Mc.nm).map (·.length)=ns:=by
 rw[Mp,yb4];exact(yc5 λn _=>OW c n).trans (List.map_id _)
theorem Jt(c:Int):∀ns:List Nat,(Bp c ns).flatMap Mc.ws=[]
 |[]=>rfl
 |n::ns=>Jt c ns
theorem IY(c:Int){ns:List Nat}(hn:∀n∈ns,1<=n/\n<=64):∀M∈Bp c ns,McOk M:=λM hM=>by
 obtain⟨n,h,rfl⟩:=yai.mp hM;exact Bb (Fv c (hn n h).1 (hn n h).2 (by decide))
theorem Sl(c:Int){ns:List Nat}(h1:1<=ns.length)(h6:ns.length<=6)(hn:∀n∈ns,1<=n/\n<=64):MsOk (Bp c ns) :=
 ⟨by unfold Bp;rw[ya1];exact h1,by unfold Bp;rw[ya1];exact h6,IY c hn,by rw[Jt];decide,by rw[Jt];exact yba⟩
theorem zhn(c:Int){ns:List Nat}(h1:1<=ns.length)(h6:ns.length<=6)(hn:∀n∈ns,1<=n/\n<=64)(hb:E7 1 ns=false):C9 (.lst ((Bp c ns).map AE)) "TooMany" :=
 U2 (Sl c h1 h6 hn) (TK (by rw[Mq];exact hb))
theorem YM{α β:Type}{g:α->List β}:∀{L:List α},(∀x∈L,g x=[])->L.flatMap g=[]
 |[],_=>rfl
 |x::L,h=>by rw[ybc,h x (ya9 ..),YM λy hy=>h y (ya7 _ hy)];rfl
theorem zho(c:Int){ns:List Nat}(h1:1<=ns.length)(h6:ns.length<=6)(hn:∀n∈ns,1<=n/\n<=64)(hb:E7 1 ns=true):Made (Bp c ns):=by
 have hm:=Sl c h1 h6 hn;refine⟨hm,Iq hm (by rw[Mq];exact hb) ?_,Iy λM hM=>?_,?_⟩
 .rw[Mp];refine LA (by rw[ya1];exact h1) (by rw[ya1];exact h6) (λrs hrs=>?_) λrs hrs=>?_
  .obtain⟨n,_,rfl⟩:=yai.mp hrs;exact Ir c n
  .obtain⟨n,h,rfl⟩:=yai.mp hrs;exact Km (hn n h).2
 .obtain⟨n,_,rfl⟩:=yai.mp hM;exact⟨_,_,_,rfl⟩
 .have:BR (AU (Bp c ns)) (A2 (Bp c ns))=[]:=YM λi hi=>by
   have hi':i<ns.length:=by simpa[Bp] using hi
   have e:(Bp c ns)[i]?=some (Ag [] (Ap c ns[i]) 0):=by
    unfold Bp;rw[ya5,ya0 hi']
    rfl
   have:=EM (ts:=A2 (Bp c ns)) e;rw[Nat.zero_mul]at this;exact yck.mp this
  rw[this]
  decide
theorem Tz(h:((Tx.cs x).all λc=>decide (97<=c/\c<=122))=true)(h1:1<=x.cps.size/\x.cps.size<=8):Fi x:=⟨Po h,h1.1,h1.2⟩
theorem Sa(A B:Mc)(ts:List (List Str)):(BR (AU [A,B]) ts).length=(Cb (AU [A,B]) ts 0).length+(Cb (AU [A,B]) ts 1).length:=by
 have e:BR (AU [A,B]) ts=Cb (AU [A,B]) ts 0++(Cb (AU [A,B]) ts 1++[]):=rfl;rw[e,yav,yad]
theorem S9(A B C:Mc)(ts:List (List Str)):(BR (AU [A,B,C]) ts).length=(Cb (AU [A,B,C]) ts 0).length+((Cb (AU [A,B,C]) ts 1).length+(Cb (AU [A,B,C]) ts 2).length):=by
 have e:BR (AU [A,B,C]) ts=Cb (AU [A,B,C]) ts 0++(Cb (AU [A,B,C]) ts 1++(Cb (AU [A,B,C]) ts 2++[])):=rfl;rw[e,yav,yad,yad]
theorem Yc(c:Int)(r:List Str):A3 (Aj c::(BY c++Str.ofString "/"++Aj c)::r)=A3 ((Aj c++Str.ofString "/"++BY c)::Aj c::r):=by
 refine Tx.cs_ext ?_;rw[F7,F7];cases r with
 |nil =>
  show Tx.cs (Aj c)++47::Tx.cs (BY c++Str.ofString "/"++Aj c)=Tx.cs (Aj c++Str.ofString "/"++BY c)++47::Tx.cs (Aj c);rw[EH,EH,EH,EH,Tv];simp
 |cons x r =>
  show Tx.cs (Aj c)++47::(Tx.cs (BY c++Str.ofString "/"++Aj c)++47::Tx.joinL 47 ((x::r).map Tx.cs))=Tx.cs (Aj c++Str.ofString "/"++BY c)++47::(Tx.cs (Aj c)++47::Tx.joinL 47 ((x::r).map Tx.cs));rw[EH,EH,EH,EH,Tv];simp
theorem J0(c:Int):∀M∈Dm c,McOk M:=λM hM=>by
 simp only[Dm,ya6,yab,yf7]at hM
 rcases hM with rfl|rfl
 .exact Bb (RJ c).1
 .exact Bb (RJ c).2
theorem RK(c:Int):(Dm c).map Mc.nm=[E3 c,E2 c]:=by
 unfold Dm;rw[yae,yae,EN,EN]
 rfl
theorem znz(c:Int):C9 (.lst ((Dm c).map AE)) "BadMachine":=by
 have hm:MsOk (Dm c):=⟨show 1<=2 by decide,show 2<=6 by decide,J0 c,show 0<=7 by decide,show([]:List Str).Nodup from yba⟩
 refine OY hm (us:=Bk [E3 c,E2 c]) ?_ λz=>?_
 .rw[RK];exact KL rfl
 .have e:(Bk [E3 c,E2 c]).map A3=[A3 [Aj c,BY c++Str.ofString "/"++Aj c],A3 [Aj c,Aj c],A3 [Aj c++Str.ofString "/"++BY c,BY c++Str.ofString "/"++Aj c],A3 [Aj c++Str.ofString "/"++BY c,Aj c]]:=rfl;have:=z.1;rw[e,<- Yc c []]at this;simp at this
def Kw:Mc:=Ag [] [Str.ofString "a"] 101
theorem zh0(c:Int):C9 (.lst ((Dm c++[Kw]).map AE)) "BadMachine":=by
 have hp:PmOk [] [Str.ofString "a"] 101:=Gj (by decide +kernel) (by decide +kernel) (by decide) (by decide) (by decide)
 have hm:MsOk (Dm c++[Kw]):=⟨show 1<=3 by decide,show 3<=6 by decide,λM hM=>by
  rcases yax.mp hM with h|h
  .exact J0 c M h
  .rw[yaa.mp h];exact Bb hp,show 0<=7 by decide,show([]:List Str).Nodup from yba⟩
 have en:(Dm c++[Kw]).map Mc.nm=[E3 c,E2 c,[Str.ofString "a"]]:=by
  rw[yb9,RK]
  rfl
 refine OY hm (us:=Bk [E3 c,E2 c,[Str.ofString "a"]]) ?_ λz=>?_
 .rw[en];exact KL rfl
 .have e:(Bk [E3 c,E2 c,[Str.ofString "a"]]).map A3=[A3 [Aj c,BY c++Str.ofString "/"++Aj c,Str.ofString "a"],A3 [Aj c,Aj c,Str.ofString "a"],A3 [Aj c++Str.ofString "/"++BY c,BY c++Str.ofString "/"++Aj c,Str.ofString "a"],A3 [Aj c++Str.ofString "/"++BY c,Aj c,Str.ofString "a"]]:=rfl;have:=z.1;rw[e,<- Yc c [Str.ofString "a"]]at this;simp at this
theorem wd_db(c:Int):C9 (.lst ((Bp c [9,9]++Dm c).map AE)) "TooMany":=by
 have hm:MsOk (Bp c [9,9]++Dm c):=⟨show 1<=4 by decide,show 4<=6 by decide,λM hM=>by
  rcases yax.mp hM with h|h
  .exact IY c (by decide) M h
  .exact J0 c M h,show 0<=7 by decide,show([]:List Str).Nodup from yba⟩
 refine U2 hm (TK ?_);rw[yb9,yb9,Mq,RK]
 rfl
theorem Wh(c:Int)(h:n=60\/n=61):MsOk (Ck c n)/\(Ck c n).map Mc.nm=[[Str.ofString "b",BZ c],[Bt c n]]/\(A3 [Str.ofString "b",Bt c n]).cps.size=2+(Bt c n).cps.size/\(A3 [BZ c,Bt c n]).cps.size=n:=by
 obtain⟨h1,h2⟩:=Wi c h;obtain⟨a1,a2,a3⟩:=JL c;obtain⟨b1,b2,b3⟩:=Pr c h
 have sz:∀x y:Str,(A3 [x,y]).cps.size=x.cps.size+1+y.cps.size:=λx y=>by
  have:(Tx.cs (A3 [x,y])).length=(Tx.cs x).length+1+(Tx.cs y).length:=by
   rw[F7];show(Tx.cs x++47::Tx.cs y).length=_;rw[yad,yao]
   omega
  exact this
 have eb:(Str.ofString "b").cps.size=1:=by decide +kernel
 refine⟨⟨show 1<=2 by decide,show 2<=6 by decide,λM hM=>?_,show 0<=7 by decide,show([]:List Str).Nodup from yba⟩,?_,by rw[sz,eb],by rw[sz];omega⟩
 .simp only[Ck,ya6,yab,yf7]at hM
  rcases hM with rfl|rfl
  .exact Bb h1
  .exact Bb h2
 .unfold Ck;rw[yae,yae,EN,EN]
  rfl
theorem zna(c:Int):C9 (.lst ((Ck c 61).map AE)) "BadMachine":=by
 obtain⟨hm,en,s1,s2⟩:=Wh c (n:=61) (.inr rfl);refine OY hm (us:=Bk [[Str.ofString "b",BZ c],[Bt c 61]]) ?_ λz=>?_
 .rw[en];exact KL rfl
 .have:=z.2 [BZ c,Bt c 61] (show _∈[[Str.ofString "b",Bt c 61],[BZ c,Bt c 61]] by simp)
  omega
theorem zjs(c:Int):Made (Ck c 60):=by
 obtain⟨hm,en,s1,s2⟩:=Wh c (n:=60) (.inl rfl);obtain⟨a1,a2,a3⟩:=JL c;obtain⟨b1,b2,b3⟩:=Pr c (n:=60) (.inl rfl);refine⟨hm,Iq hm (by rw[en];rfl) ?_,Iy λM hM=>?_,?_⟩
 .rw[en];show JD [[Str.ofString "b",Bt c 60],[BZ c,Bt c 60]];refine⟨?_,λt ht=>?_⟩
  .show [A3 [Str.ofString "b",Bt c 60],A3 [BZ c,Bt c 60]].Nodup;simp only[ybz,ya6,yab,yf7,yfg,yba,and_true];intro e;have:(A3 [Str.ofString "b",Bt c 60]).cps.size=(A3 [BZ c,Bt c 60]).cps.size:=congrArg (λx:Str=>x.cps.size) e
   omega
  .simp only[ya6,yab,yf7]at ht
   rcases ht with rfl|rfl<;>omega
 .simp only[Ck,ya6,yab,yf7]at hM
  rcases hM with rfl|rfl<;>exact⟨_,_,_,rfl⟩
 .have e0:=EM (Ms:=Ck c 60) (ts:=A2 (Ck c 60)) (i:=0) rfl;have e1:=EM (Ms:=Ck c 60) (ts:=A2 (Ck c 60)) (i:=1) rfl;have:=Sa (Ag [] [Str.ofString "b",BZ c] 0) (Ag [] [Bt c 60] 0) (A2 (Ck c 60));have e:(BR (AU (Ck c 60)) (A2 (Ck c 60))).length=_:=this;rw[e];have e0':(Cb (AU [Ag [] [Str.ofString "b",BZ c] 0,Ag [] [Bt c 60] 0]) (A2 (Ck c 60)) 0).length=_:=e0;have e1':(Cb (AU [Ag [] [Str.ofString "b",BZ c] 0,Ag [] [Bt c 60] 0]) (A2 (Ck c 60)) 1).length=_:=e1;rw[e0',e1']
  omega
theorem Y1(c:Int){a b:Nat}(ha:a<=200)(hb:b<=200):MsOk (C7 c a b)/\RmOk (C7 c a b)/\FwOk (C7 c a b)/\(BR (AU (C7 c a b)) (A2 (C7 c a b))).length=a * 3+b * 2:=by
 have h1:=Fv c (n:=2) (k:=a) (by decide) (by decide) ha
 have h2:=Fv (c.fdiv 3) (n:=3) (k:=b) (by decide) (by decide) hb
 have hm:MsOk (C7 c a b):=⟨show 1<=2 by decide,show 2<=6 by decide,λM hM=>by
  simp only[C7,ya6,yab,yf7]at hM
  rcases hM with rfl|rfl
  .exact Bb h1
  .exact Bb h2,show 0<=7 by decide,show([]:List Str).Nodup from yba⟩
 have en:(C7 c a b).map Mc.nm=[Ap c 2,Ap (c.fdiv 3) 3]:=by
  unfold C7;rw[yae,yae,EN,EN]
  rfl
 refine⟨hm,Iq hm (by rw[en];rfl) ?_,Iy λM hM=>?_,?_⟩
 .rw[en];refine LA (by simp) (by simp) (λrs hrs=>?_) λrs hrs=>?_
  .simp only[ya6,yab,yf7]at hrs
   rcases hrs with rfl|rfl<;>exact Ir _ _
  .simp only[ya6,yab,yf7]at hrs
   rcases hrs with rfl|rfl<;>exact Km (by decide)
 .simp only[C7,ya6,yab,yf7]at hM
  rcases hM with rfl|rfl<;>exact⟨_,_,_,rfl⟩
 .have et:A2 (C7 c a b)=Bk [Ap c 2,Ap (c.fdiv 3) 3]:=by show Bk ((C7 c a b).map Mc.nm)=_;rw[en]
  rw[et];have e0:=EM (Ms:=C7 c a b) (ts:=Bk [Ap c 2,Ap (c.fdiv 3) 3]) (i:=0) (ws:=[]) (ns:=Ap c 2) (k:=a) rfl;have e1:=EM (Ms:=C7 c a b) (ts:=Bk [Ap c 2,Ap (c.fdiv 3) 3]) (i:=1) (ws:=[]) (ns:=Ap (c.fdiv 3) 3) (k:=b) rfl;have e:=Sa (Ag [] (Ap c 2) a) (Ag [] (Ap (c.fdiv 3) 3) b) (Bk [Ap c 2,Ap (c.fdiv 3) 3]);rw[show [Ag [] (Ap c 2) a,Ag [] (Ap (c.fdiv 3) 3) b]=C7 c a b from rfl,e0,e1]at e;rw[e];have n1:¬ Ae c 0=Ae c 1:=λz=>absurd (Kn c z) (by decide)
  have m1:¬ Ae (c.fdiv 3) 0=Ae (c.fdiv 3) 1:=λz=>absurd (Kn _ z) (by decide)
  have m2:¬ Ae (c.fdiv 3) 0=Ae (c.fdiv 3) 2:=λz=>absurd (Kn _ z) (by decide)
  have tt:Bk [Ap c 2,Ap (c.fdiv 3) 3]=[[Ae c 0,Ae (c.fdiv 3) 0],[Ae c 0,Ae (c.fdiv 3) 1],[Ae c 0,Ae (c.fdiv 3) 2],[Ae c 1,Ae (c.fdiv 3) 0],[Ae c 1,Ae (c.fdiv 3) 1],[Ae c 1,Ae (c.fdiv 3) 2]]:=rfl;have f0:(Ap c 2).getD 0 ""=Ae c 0:=rfl;have f1:(Ap (c.fdiv 3) 3).getD 0 ""=Ae (c.fdiv 3) 0:=rfl;rw[tt,f0,f1];have l0:([[Ae c 0,Ae (c.fdiv 3) 0],[Ae c 0,Ae (c.fdiv 3) 1],[Ae c 0,Ae (c.fdiv 3) 2],[Ae c 1,Ae (c.fdiv 3) 0],[Ae c 1,Ae (c.fdiv 3) 1],[Ae c 1,Ae (c.fdiv 3) 2]].filter λt=>decide (Ae c 0=t.getD 0 "")).length=3:=by simp[n1]
  have l1:([[Ae c 0,Ae (c.fdiv 3) 0],[Ae c 0,Ae (c.fdiv 3) 1],[Ae c 0,Ae (c.fdiv 3) 2],[Ae c 1,Ae (c.fdiv 3) 0],[Ae c 1,Ae (c.fdiv 3) 1],[Ae c 1,Ae (c.fdiv 3) 2]].filter λt=>decide (Ae (c.fdiv 3) 0=t.getD 1 "")).length=2:=by simp[m1,m2]
  rw[l0,l1]
theorem Y0(c:Int){a b:Nat}(ha:a<=200)(hb:b<=200)(h:a * 3+b * 2<=200):Made (C7 c a b):=by
 obtain⟨h1,h2,h3,h4⟩:=Y1 c ha hb;exact⟨h1,h2,h3,by rw[h4];exact h⟩
theorem zkh(c:Int){a b:Nat}(ha:a<=200)(hb:b<=200)(h:200<a * 3+b * 2):C9 (.lst ((C7 c a b).map AE)) "TooMany":=by
 obtain⟨h1,h2,h3,h4⟩:=Y1 c ha hb;exact ze7 h1 h2 h3 (by rw[h4];exact h)
theorem Mm(c:Int)(tw:Bool)(m:Nat):(Bo c tw m).flatMap Mc.ws=(Bq++B7 tw m (Be c)).map (BC c):=by
 rw[yb9];show Bq.map (BC c)++([]++((B7 tw m (Be c)).map (BC c)++[]))=_;rw[ybl,yav]
theorem Sd(c:Int)(h1:1<=m)(hm:m<5){Ns:List Mc}(hn:∀M∈Ns,McOk M)(hl:Ns.length<=3)(hw:Ns.flatMap Mc.ws=[]):C9 (.lst ((Bo c true m++Ns).map AE)) "BadMachine":=by
 have e:(Bo c true m++Ns).flatMap Mc.ws=(Bq++B7 true m (Be c)).map (BC c):=by rw[List.flatMap_append,hw,yav,Mm]
 have i4:=(JO c).1;have sl:=(UH m hm _ i4).2.2;refine U1 (by rw[yad];show 1<=3+Ns.length;omega) (by rw[yad];show 3+Ns.length<=6;omega) (λM hM=>?_) ?_ (.inr ?_)
 .rcases yax.mp hM with h|h
  .exact Jp c true hm M h
  .exact hn M h
 .rw[e,ya1,yad];show 4+_<1000
  omega
 .rw[e];exact λz=>se_tn m hm _ i4 h1 ((Js c).mp z)
theorem zfd(c:Int):C9 (.lst ((Bo c false 4).map AE)) "BadMachine":=by
 have i4:=(JO c).1;have sl:=(UI 4 (by decide) _ i4).2
 have e:=Mm c false 4;refine U1 (show 1<=3 by decide) (show 3<=6 by decide) (Jp c false (by decide)) ?_ (.inl ?_)
 .rw[e,ya1,sl]
  decide
 .rw[e,ya1,sl]
  decide
theorem zhk(c:Int)(hm:m<=3):Made (Bo c false m):=by
 have i4:=(JO c).1;have sl:=UI m (by omega) _ i4
 have e:=Mm c false m;have hM:MsOk (Bo c false m):=⟨show 1<=3 by decide,show 3<=6 by decide,Jp c false (by omega),by rw[e,ya1,sl.2];omega,by rw[e];exact(Js c).mpr sl.1⟩
 have en:(Bo c false m).map Mc.nm=[[Str.ofString "a",Str.ofString "b"],[Str.ofString "c"],[Str.ofString "d"]]:=by
  unfold Bo;rw[yae,yae,yae,EN,EN,EN]
  rfl
 have sh:∀x∈[Str.ofString "a",Str.ofString "b",Str.ofString "c",Str.ofString "d"],Fi x:=λx hx=>by
  simp only[ya6,yab,yf7]at hx
  rcases hx with rfl|rfl|rfl|rfl<;>exact Tz (by decide +kernel) (by decide +kernel)
 refine⟨hM,Iq hM (by rw[en];rfl) ?_,Iy λM hM'=>?_,?_⟩
 .rw[en];refine LA (by simp) (by simp) (λrs hrs=>?_) λrs hrs r hr=>sh r ?_
  .simp only[ya6,yab,yf7]at hrs
   rcases hrs with rfl|rfl|rfl<;>decide +kernel
  .simp only[ya6,yab,yf7]at hrs
   rcases hrs with rfl|rfl|rfl<;>simp only[ya6,yab,yf7]at hr ⊢
   .rcases hr with rfl|rfl<;>simp
   .rw[hr];simp
   .rw[hr];simp
 .simp only[Bo,ya6,yab,yf7]at hM'
  rcases hM' with rfl|rfl|rfl<;>exact⟨_,_,_,rfl⟩
 .have tl:(A2 (Bo c false m)).length=2:=by
   show(Bk ((Bo c false m).map Mc.nm)).length=2;rw[en]
   rfl
  have e0:=EM (Ms:=Bo c false m) (ts:=A2 (Bo c false m)) (i:=0) (ws:=Bq.map (BC c)) (ns:=[Str.ofString "a",Str.ofString "b"]) (k:=1) rfl;have e1:=EM (Ms:=Bo c false m) (ts:=A2 (Bo c false m)) (i:=1) (ws:=[]) (ns:=[Str.ofString "c"]) (k:=0) rfl;have e2:=EM (Ms:=Bo c false m) (ts:=A2 (Bo c false m)) (i:=2) (ws:=(B7 false m (Be c)).map (BC c)) (ns:=[Str.ofString "d"]) (k:=1) rfl;have ee:=S9 (Ag (Bq.map (BC c)) [Str.ofString "a",Str.ofString "b"] 1) (Ag [] [Str.ofString "c"] 0) (Ag ((B7 false m (Be c)).map (BC c)) [Str.ofString "d"] 1) (A2 (Bo c false m));rw[show [Ag (Bq.map (BC c)) [Str.ofString "a",Str.ofString "b"] 1,Ag [] [Str.ofString "c"] 0,Ag ((B7 false m (Be c)).map (BC c)) [Str.ofString "d"] 1]=Bo c false m from rfl,e0,e1,e2]at ee;rw[ee];have q0:=ycs (λt=>decide ([Str.ofString "a",Str.ofString "b"].getD 0 ""=t.getD 0 "")) (A2 (Bo c false m))
  have q2:=ycs (λt=>decide ([Str.ofString "d"].getD 0 ""=t.getD 2 "")) (A2 (Bo c false m))
  rw[tl]at q0 q2
  omega
def DO(c:Int)(k:Nat):List Mc:=Bp c [3,4]++[Ag [Str.ofString "x",Str.ofString "/"] [Str.ofString "a"] k]
theorem Wa{k:Nat}(hk:k<=200):PmOk [Str.ofString "x",Str.ofString "/"] [Str.ofString "a"] k:=(Gj (by decide +kernel) (by decide +kernel) (by decide) (by decide) hk).ws (λx hx=>by
  simp only[ya6,yab,yf7]at hx
  rcases hx with rfl|rfl
  .exact .inr ⟨Po (by decide +kernel),by decide +kernel,by decide +kernel⟩
  .exact .inl rfl) (by decide +kernel) (by decide)
theorem zjq(c:Int){k:Nat}(hk:k<=16):Made (DO c k):=by
 have hp:=Wa (k:=k) (by omega)
 have hM:MsOk (DO c k):=⟨show 1<=3 by decide,show 3<=6 by decide,λM hM=>by
  rcases yax.mp hM with h|h
  .exact IY c (by decide) M h
  .rw[yaa.mp h];exact Bb hp,show 2<=7 by decide,show [Str.ofString "x",Str.ofString "/"].Nodup by decide +kernel⟩
 have en:(DO c k).map Mc.nm=[Ap c 3,Ap c 4,[Str.ofString "a"]]:=by
  unfold DO;rw[yb9,Mp]
  rfl
 refine⟨hM,Iq hM (by rw[en];rfl) ?_,Iy λM hM'=>?_,?_⟩
 .rw[en];refine LA (by simp) (by simp) (λrs hrs=>?_) λrs hrs=>?_
  .simp only[ya6,yab,yf7]at hrs
   rcases hrs with rfl|rfl|rfl
   .exact Ir _ _
   .exact Ir _ _
   .decide +kernel
  .simp only[ya6,yab,yf7]at hrs
   rcases hrs with rfl|rfl|rfl
   .exact Km (by decide)
   .exact Km (by decide)
   .intro r hr;rw[yaa.mp hr];exact Tz (by decide +kernel) (by decide +kernel)
 .rcases yax.mp hM' with h|h
  .obtain⟨n,_,rfl⟩:=yai.mp h;exact⟨_,_,_,rfl⟩
  .rw[yaa.mp h];exact⟨_,_,_,rfl⟩
 .have tl:(A2 (DO c k)).length=12:=by
   show(Bk ((DO c k).map Mc.nm)).length=12;rw[en]
   rfl
  have e0:=EM (Ms:=DO c k) (ts:=A2 (DO c k)) (i:=0) (ws:=[]) (ns:=Ap c 3) (k:=0) rfl;have e1:=EM (Ms:=DO c k) (ts:=A2 (DO c k)) (i:=1) (ws:=[]) (ns:=Ap c 4) (k:=0) rfl;have e2:=EM (Ms:=DO c k) (ts:=A2 (DO c k)) (i:=2) (ws:=[Str.ofString "x",Str.ofString "/"]) (ns:=[Str.ofString "a"]) (k:=k) rfl;have ee:=S9 (Ag [] (Ap c 3) 0) (Ag [] (Ap c 4) 0) (Ag [Str.ofString "x",Str.ofString "/"] [Str.ofString "a"] k) (A2 (DO c k));rw[show [Ag [] (Ap c 3) 0,Ag [] (Ap c 4) 0,Ag [Str.ofString "x",Str.ofString "/"] [Str.ofString "a"] k]=DO c k from rfl,e0,e1,e2]at ee;rw[ee];have q2:=ycs (λt=>decide ([Str.ofString "a"].getD 0 ""=t.getD 2 "")) (A2 (DO c k))
  rw[tl]at q2;have:=Nat.mul_le_mul hk q2
  omega
abbrev OK:Stmt:=AW 64
def LU:AH :=
 (AI (Au (AQ HQ (AB (AA 0) (AB (mC (.int 1)) AD))) (AG 1))
 (AI (Au (m2 CP (AQ HQ (AB (AA 0) (AB (mC (.int 0)) AD))) (mC (.int 18))) (AG 2))
 (AI (Ai (m2 (Cs λi j=>decide (i<j)) (AA 2) (mC (.int 3))) (AX (B0 (AB (AQ Ma (AB (AA 1) AD)) (AB (mC (.str "bad")) AD)))) Ah)
 (AI (Ai (m2 B5 (AA 2) (mC (.int 3))) (AX (B0 (AB (AQ HP (AB (AA 1) (AB (mC (.bl true)) (AB (m2 BV (mC (.int 1)) (m2 CP (m2 Dd (AA 1) (mC (.int 4))) (mC (.int 3)))) AD)))) (AB (mC (.str "bad")) AD)))) Ah)
 (AI (Ai (m2 B5 (AA 2) (mC (.int 4))) (AX (B0 (AB (AQ HP (AB (AA 1) (AB (mC (.bl false)) (AB (mC (.int 4)) AD)))) (AB (mC (.str "bad")) AD)))) Ah)
 (AI (Ai (m2 B5 (AA 2) (mC (.int 5))) (AX (B0 (AB (AQ HP (AB (AA 1) (AB (mC (.bl false)) (AB (m2 BV (mC (.int 1)) (m2 CP (AA 1) (mC (.int 3)))) AD)))) (AB (mC (.str "made")) AD)))) Ah)
 (AI (Ai (m2 B5 (AA 2) (mC (.int 6))) (AX (B0 (AB (AQ Ew (AB (m2 Dd (AA 1) (mC (.int 4))) (AB (B8 (AV (AK (AV (AK (mC (.int 8)) (AK (mC (.int 8)) AD))) (AK (AV (AK (mC (.int 4)) (AK (mC (.int 4)) (AK (mC (.int 4)) AD)))) (AK (AV (AK (mC (.int 64)) AD)) (AK (AV (AK (mC (.int 2)) (AK (mC (.int 2)) (AK (mC (.int 2)) (AK (mC (.int 2)) (AK (mC (.int 2)) (AK (mC (.int 2)) AD))))))) AD))))) (m2 CP (AA 1) (mC (.int 4)))) AD))) (AB (mC (.str "made")) AD)))) Ah)
 (AI (Ai (m2 B5 (AA 2) (mC (.int 7))) (AX (B0 (AB (AQ Ew (AB (m2 Dd (AA 1) (mC (.int 4))) (AB (B8 (AV (AK (AV (AK (mC (.int 5)) (AK (mC (.int 13)) AD))) (AK (AV (AK (mC (.int 9)) (AK (mC (.int 9)) AD))) (AK (AV (AK (mC (.int 33)) (AK (mC (.int 2)) AD))) (AK (AV (AK (mC (.int 3)) (AK (mC (.int 3)) (AK (mC (.int 3)) (AK (mC (.int 3)) AD))))) AD))))) (m2 CP (AA 1) (mC (.int 4)))) AD))) (AB (mC (.str "many")) AD)))) Ah)
 (AI (Ai (m2 B5 (AA 2) (mC (.int 8))) (AX (B0 (AB (AQ Jg (AB (AA 1) (AB (mC (.int 60)) AD))) (AB (mC (.str "made")) AD)))) Ah)
 (AI (Ai (m2 B5 (AA 2) (mC (.int 9))) (AX (B0 (AB (AQ Jg (AB (AA 1) (AB (mC (.int 61)) AD))) (AB (mC (.str "bad")) AD)))) Ah)
 (AI (Ai (m2 B5 (AA 2) (mC (.int 10))) (AX (B0 (AB (AQ IS (AB (AA 1) AD)) (AB (mC (.str "bad")) AD)))) Ah)
 (AI (Ai (m2 B5 (AA 2) (mC (.int 11))) (AX (B0 (AB (AQ IT (AB (AA 1) (AB (mC (.int 66)) (AB (mC (.int 1)) AD)))) (AB (mC (.str "made")) AD)))) Ah)
 (AI (Ai (m2 B5 (AA 2) (mC (.int 12))) (AX (B0 (AB (AQ IT (AB (AA 1) (AB (mC (.int 67)) (AB (mC (.int 0)) AD)))) (AB (mC (.str "many")) AD)))) Ah)
 (AI (Ai (m2 B5 (AA 2) (mC (.int 13))) (AX (B0 (AB (AQ IT (AB (AA 1) (AB (mC (.int 0)) (AB (mC (.int 100)) AD)))) (AB (mC (.str "made")) AD)))) Ah)
 (AI (Ai (m2 B5 (AA 2) (mC (.int 14))) (AX (B0 (AB (m2 BV (AQ HP (AB (AA 1) (AB (mC (.bl true)) (AB (mC (.int 2)) AD)))) (AQ Ew (AB (AA 1) (AB (AV (AK (mC (.int 9)) (AK (mC (.int 9)) AD))) AD)))) (AB (mC (.str "bad")) AD)))) Ah)
 (AI (Ai (m2 B5 (AA 2) (mC (.int 15))) (AX (B0 (AB (m2 BV (AQ Ew (AB (AA 1) (AB (AV (AK (mC (.int 9)) (AK (mC (.int 9)) AD))) AD))) (AQ IS (AB (AA 1) AD))) (AB (mC (.str "many")) AD)))) Ah)
 (AI (Ai (m2 B5 (AA 2) (mC (.int 16))) (AX (B0 (AB (m2 BV (AQ IS (AB (AA 1) AD)) (AV (AK (AQ Ca (AB (AV AD) (AB (AV (AK (mC (.str "a")) AD)) (AB (mC (.int 101)) AD)))) AD))) (AB (mC (.str "bad")) AD)))) Ah)
 (AX (B0 (AB (m2 BV (AQ Ew (AB (AA 1) (AB (AV (AK (mC (.int 3)) (AK (mC (.int 4)) AD))) AD))) (AV (AK (AQ Ca (AB (AV (AK (mC (.str "x")) (AK (mC (.str "/")) AD))) (AB (AV (AK (mC (.str "a")) AD)) (AB (m2 CP (AA 1) (mC (.int 17))) AD)))) AD))) (AB (mC (.str "made")) AD)))))))))))))))))))))
def Mb:List T->Option Ru:=Al 1 3 LU
abbrev Qv:Fn:=⟨10,["_law_script"],Mb⟩
abbrev Xz:Gm:=⟨["_law_script","_law_cell","_law_way"],(AL OK).names,[],9,[("_law_cell_at",Lx),("_law_no_list",Qr),("_law_watched",Qp),("_law_wide",Qo),("_law_long",Qs),("_law_doubles",Qt),("_law_doored",Qu),("_law_plain",Fb)],[],[],[],[],false,[],[],[],By⟩
theorem zft:FnScope Xz.N Qv.ps (AL OK):=Aq (by decide +kernel)
theorem zh9:Ad 200 Xz (Ab OK)=some LU:=by ext
def FU(x:T):Prop:=JQ x=false/\(x.flat=false\/x=.non\/∃s,x=.str s/\PyData.strOk s=true)
def Mf(t:T):Prop:=(∃l,t=.lst l/\∀x∈l,FU x)\/t=.non\/(∃s,t=.str s/\PyData.strOk s=true)\/t=.dic [] []\/(∃M,t=AE M)\/∃A B,t=.tup [AE A,AE B]
theorem Oq(Ms:List Mc):Mf (.lst (Ms.map AE)):=.inl ⟨_,rfl,λx hx=>by
 obtain⟨M,_,rfl⟩:=yai.mp hx;exact⟨rfl,.inl rfl⟩⟩
def DU(t:T)(s:Str):Prop:=Mf t/\t.sh=true/\((s=Str.ofString "bad"/\C9 t "BadMachine")\/(s=Str.ofString "many"/\C9 t "TooMany")\/(s=Str.ofString "made"/\∃Ms,t=.lst (Ms.map AE)/\Made Ms))
theorem HZ{Ms:List Mc}(h:C9 (.lst (Ms.map AE)) "BadMachine"):DU (.lst (Ms.map AE)) "bad":=⟨Oq Ms,h.1,.inl ⟨rfl,h⟩⟩
theorem NC{Ms:List Mc}(h:C9 (.lst (Ms.map AE)) "TooMany"):DU (.lst (Ms.map AE)) "many":=⟨Oq Ms,h.1,.inr (.inl ⟨rfl,h⟩)⟩
theorem HY{Ms:List Mc}(h:Made Ms):DU (.lst (Ms.map AE)) "made":=⟨Oq Ms,Em (CW h.m.m),.inr (.inr ⟨rfl,Ms,rfl,h⟩)⟩
theorem vd_no(c:Int){x:T}(hx:x∈Ei (AE (Fz c)) (AE Fy)):DU x "bad":=by
 obtain⟨h1,h2⟩:=WU c;have r:=zn4 (A:=Fz c) (B:=Fy) (Bb h1) (Bb h2) hx;refine⟨?_,r.1,.inl ⟨rfl,r⟩⟩;have el:∀{l:List T},(∀x∈l,FU x)->Mf (.lst l):=λh=>.inl ⟨_,rfl,h⟩
 have oA:FU (AE (Fz c)):=⟨rfl,.inl rfl⟩;have oB:FU (AE Fy):=⟨rfl,.inl rfl⟩;have oN:FU .non:=⟨rfl,.inr (.inl rfl)⟩;have oS:FU (.str "a"):=⟨rfl,.inr (.inr ⟨_,rfl,by decide +kernel⟩)⟩
 simp only[Ei,ya6,yab,yf7]at hx
 rcases hx with rfl|rfl|rfl|rfl|rfl|rfl|rfl|rfl|rfl|rfl|rfl|rfl
 .exact el λx hx=>by cases hx
 .exact .inr (.inl rfl)
 .exact .inr (.inr (.inr (.inr (.inr ⟨_,_,rfl⟩))))
 .exact .inr (.inr (.inr (.inr (.inl ⟨_,rfl⟩))))
 .exact .inr (.inr (.inl ⟨_,rfl,by decide +kernel⟩))
 .exact .inr (.inr (.inr (.inl rfl)))
 .refine el λx hx=>?_
  simp only[ya6,yab,yf7]at hx
  rcases hx with rfl|rfl
  .exact oA
  .exact oN
 .refine el λx hx=>?_
  simp only[ya6,yab,yf7]at hx
  rcases hx with rfl|rfl
  .exact oN
  .exact oA
 .refine el λx hx=>?_
  simp only[ya6,yab,yf7]at hx
  rcases hx with rfl|rfl|rfl
  .exact oA
  .exact oS
  .exact oB
 .refine el λx hx=>?_
  simp only[ya6,yab,yf7]at hx
  rcases hx with rfl|rfl
  .exact oA
  .exact⟨rfl,.inl rfl⟩
 .refine el λx hx=>?_
  simp only[ya6,yab,yf7,or_self]at hx;rw[hx];exact oB
 .refine el λx hx=>?_
  simp only[ya6,yab,yf7]at hx
  rcases hx with rfl|rfl
  .exact oA
  .exact⟨rfl,.inl rfl⟩
theorem K2{τ':AO}{P:T->Str->Prop}(h:f τ=some (.nx τ'))(h2:∃t s,g τ'=some (.rt (.tup [t,.str s]))/\P t s):∃t s,AI f g τ=some (.rt (.tup [t,.str s]))/\P t s:=by
 obtain⟨t,s,e,p⟩:=h2;exact⟨t,s,sq h e,p⟩
theorem US{t:T}{s:Str}{P:T->Str->Prop}(h:f τ=some (.rt (.tup [t,.str s])))(p:P t s):∃t s,AI f g τ=some (.rt (.tup [t,.str s]))/\P t s:=by
 refine⟨t,s,?_,p⟩;unfold AI;rw[h]
theorem Qz(c:Int)(h:0<n):∃k:Nat,c.fmod (n:Int)=(k:Int)/\k<n:=by
 refine⟨(c.fmod (n:Int)).toNat,?_,?_⟩
 .rw[fm (by omega)]
  have:=Int.emod_nonneg c (show(n:Int)≠0 by omega)
  omega
 .rw[fm (by omega)]
  have:=Int.emod_nonneg c (show(n:Int)≠0 by omega)
  have:=Int.emod_lt_of_pos c (show 0<(n:Int) by omega)
  omega
theorem zhl(c:Int){ls:List (List Nat)}(h0:ls≠[])(hl:∀l∈ls,(∀n∈l,1<=n/\n<=64)/\l.length<=6):∃l∈ls,Aw (ls.map λl=>T.own (l.map λn:Nat=>.int (n:Int))) (c.fmod (ls.length:Int))=some (.own (l.map λn:Nat=>.int (n:Int)))/\Ew [.int (c.fdiv 4),.lst (l.map λn:Nat=>.int (n:Int))]=some (.ok (.own ((Bp (c.fdiv 4) l).map AE))):=by
 obtain⟨l,hm,e⟩:=WZ ls h0 c;refine⟨l,hm,?_,Mn (c.fdiv 4) (hl l hm).1 (by have:=(hl l hm).2;omega)⟩
 unfold Aw at e ⊢;rw[ya1];cases hi:DB ls.length (c.fmod (ls.length:Int)) with
 |none=>rw[hi]at e;cases e
 |some i =>
  rw[hi]at e;simp only[Option.bind]at e ⊢;rw[ya5,e]
  rfl
theorem DM{Ms:List Mc}{s:Str}(v:DU (.lst (Ms.map AE)) s):DU (T.own (Ms.map AE)).share s:=by
 have h:=v.2.1;rw[T.sh,ya3]at h;rw[T.share,AN _ h.2];exact v
theorem Kx{Ms:List Mc}(h:∀M∈Ms,McOk M):(T.own (Ms.map AE)).share=.lst (Ms.map AE):=by rw[T.share,AN _ (CW h)]
theorem br0{m:AF}{s:Str}{t:T}(e:m τ=some (.v t false))(v:DU t.share s):∃t s',AX (B0 (AB m (AB (mC (.str s)) AD))) τ=some (.rt (.tup [t,.str s']))/\DU t s':=⟨_,s,by simp![e],v⟩
theorem br{S:T}{c w:Int}(k:Int){m:AF}{s:Str}(h1:w=k->∃t,m [some S,some (.int c),some (.int w)]=some (.v t false)/\DU t.share s)(h2:w≠k->∃t s,g [some S,some (.int c),some (.int w)]=some (.rt (.tup [t,.str s]))/\DU t s):∃t s',AI (Ai (m2 B5 (AA 2) (mC (.int k))) (AX (B0 (AB m (AB (mC (.str s)) AD)))) Ah) g [some S,some (.int c),some (.int w)]=some (.rt (.tup [t,.str s']))/\DU t s':=by
 by_cases hw:w=k
 .obtain⟨t,e,p⟩:=h1 hw;subst hw;exact US (by simp![EC,e]) p
 .have b:(w == k)=false:=beq_eq_false_iff_ne.mpr hw;exact K2 (by simp![EC,b]) (h2 hw)
theorem ev{g:List T->Option Ru}{ms:Ao}{ts:List T}{t:T}(e:g ts=some (.ok t))(h:ms τ=some (.v ts false)):AQ g ms τ=some (.v t false):=by
 unfold AQ;rw[h];simp only[e]
 rfl
theorem YS{m:AF}{M:Mc}(h:m τ=some (.v (AE M) false)):AV (AK m AD) τ=some (.v (.own ([M].map AE)) false):=by simp![h]<;>rfl
theorem VR{M:Mc}(h:McOk M):∀N∈[M],McOk N:=λN hN=>by
 cases hN with
 |head=>exact h
 |tail _ h=>cases h
theorem Ly{A B:List Mc}{ma mb:AF}{t:T}(ha:ma τ=some (.v (.own (A.map AE)) false))(hb:mb τ=some (.v t false))(eb:t.share=.lst (B.map AE))(okA:∀M∈A,McOk M)(h:A.length+B.length<=100000):m2 BV ma mb τ=some (.v (.own ((A++B).map AE)) false):=by
 have s:=CW okA
 simp![ha,hb,eb,s,AN _ s,yb9,ya1,h]
theorem Si(c:Int){ls:List (List Nat)}{s:Str}(h0:ls≠[])(hl:∀l∈ls,1<=l.length/\l.length<=6/\∀n∈l,1<=n/\n<=64)(v:∀l∈ls,DU (.lst ((Bp (c.fdiv 4) l).map AE)) s):∃l,Ak (l.map λn:Nat=>T.int (n:Int))=true/\Aw (ls.map λl=>T.own (l.map λn:Nat=>.int (n:Int))) (c.fmod (ls.length:Int))=some (.own (l.map λn:Nat=>.int (n:Int)))/\Ew [.int (c.fdiv 4),.lst (l.map λn:Nat=>.int (n:Int))]=some (.ok (.own ((Bp (c.fdiv 4) l).map AE)))/\DU (.lst ((Bp (c.fdiv 4) l).map AE)) s:=by
 obtain⟨l,hl',ea,e⟩:=zhl c h0 λl h=>⟨(hl l h).2.2,(hl l h).2.1⟩
 exact⟨l,Cp λ_ _=>rfl,ea,e,v l hl'⟩
theorem zkq(ns:List Int):∃t s,Mb [Cw ns]=some (.ok (.tup [t,.str s]))/\DU t s:=by
 have F:=UC ns;have F2:=UB ns;have c0:=R7 ns (k:=0) (by decide)
 have c1:=R7 ns (k:=1) (by decide)
 generalize ns.getD (0:Int).toNat 0=a at c0;generalize ns.getD (1:Int).toNat 0=c at c1;have hw:0<=a.fmod 18/\a.fmod 18<18:=by rw[fm (by decide)];omega
 generalize hq:a.fmod 18=w at hw;have s4:DX 4=true:=sN (n:=4) (by decide)
 suffices key:∃t s,LU [some (Cw ns),none,none]=some (.rt (.tup [t,.str s]))/\DU t s by
  obtain⟨t,s,e,v⟩:=key;exact⟨t,s,by unfold Mb;simp![F,F2,e],v⟩
 generalize Cw ns=S at *;unfold LU;refine K2 (τ':=[some S,some (.int c),none]) (by simp![F,F2,c1]) ?_
 refine K2 (τ':=[some S,some (.int c),some (.int w)]) (by simp![F,F2,c0,hq]) ?_
 by_cases h3:w<3
 .obtain⟨x,hx,e⟩:=no_ok c;have v:=vd_no c hx;have d:=yew h3;exact US (by simp![d,e,v.2.1,BK _ v.2.1]) v
 have d3:=yeg h3;refine K2 (τ':=[some S,some (.int c),some (.int w)]) (by simp![d3]) ?_
 clear hw h3 d3 hq c0 c1
 refine br 3 (λ_=>?_) λ_=>?_
 .obtain⟨k,hk,k3⟩:=Qz (c.fdiv 4) (n:=3) (by decide)
  have e:=Ju c true (m:=1+k) (by omega) (by omega)
  rw[Int.natCast_add,<- hk]at e;exact⟨_,ev e (by simp![s4]<;>rfl),DM (HZ (Ms:=Bo c true (1+k)) (by simpa using Sd c (m:=1+k) (by omega) (by omega) (Ns:=[]) (λM hM=>by cases hM) (by simp) rfl))⟩
 refine br 4 (λ_=>?_) λ_=>?_
 .exact⟨_,ev (Ju c false (m:=4) (by decide) (by decide)) rfl,DM (HZ (zfd c))⟩
 refine br 5 (λ_=>?_) λ_=>?_
 .obtain⟨k,hk,k3⟩:=Qz c (n:=3) (by decide)
  have e:=Ju c false (m:=1+k) (by omega) (by omega)
  rw[Int.natCast_add,<- hk]at e;exact⟨_,ev e (by simp![s4]<;>rfl),DM (HY (zhk c (m:=1+k) (by omega)))⟩
 refine br 6 (λ_=>?_) λ_=>?_
 .have qs:∀l∈[[8,8],[4,4,4],[64],[2,2,2,2,2,2]],(1<=l.length/\l.length<=6/\∀n∈l,1<=n/\n<=64)/\E7 1 l=true:=by decide
  obtain⟨l,sl,ea,e,v⟩:=Si c (by decide) (λl h=>(qs l h).1) λl h=>HY (zho (c.fdiv 4) (qs l h).1.1 (qs l h).1.2.1 (qs l h).1.2.2 (qs l h).2)
  have ea:Aw [T.own [.int 8,.int 8],.own [.int 4,.int 4,.int 4],.own [.int 64],.own [.int 2,.int 2,.int 2,.int 2,.int 2,.int 2]] (c.fmod 4)=_:=ea;exact⟨_,ev e (by simp![ea,sl,AN _ sl,s4]),DM v⟩
 refine br 7 (λ_=>?_) λ_=>?_
 .have qs:∀l∈[[5,13],[9,9],[33,2],[3,3,3,3]],(1<=l.length/\l.length<=6/\∀n∈l,1<=n/\n<=64)/\E7 1 l=false:=by decide
  obtain⟨l,sl,ea,e,v⟩:=Si c (by decide) (λl h=>(qs l h).1) λl h=>NC (zhn (c.fdiv 4) (qs l h).1.1 (qs l h).1.2.1 (qs l h).1.2.2 (qs l h).2)
  have ea:Aw [T.own [.int 5,.int 13],.own [.int 9,.int 9],.own [.int 33,.int 2],.own [.int 3,.int 3,.int 3,.int 3]] (c.fmod 4)=_:=ea;exact⟨_,ev e (by simp![ea,sl,AN _ sl,s4]),DM v⟩
 refine br 8 (λ_=>?_) λ_=>?_
 .exact⟨_,ev (We c (n:=60) (.inl rfl)) rfl,DM (HY (zjs c))⟩
 refine br 9 (λ_=>?_) λ_=>?_
 .exact⟨_,ev (We c (n:=61) (.inr rfl)) rfl,DM (HZ (zna c))⟩
 refine br 10 (λ_=>?_) λ_=>?_
 .exact⟨_,ev (RD c) rfl,DM (HZ (znz c))⟩
 refine br 11 (λ_=>?_) λ_=>?_
 .exact⟨_,ev (RF c (a:=66) (b:=1) (by decide) (by decide)) rfl,DM (HY (Y0 c (by decide) (by decide) (by decide)))⟩
 refine br 12 (λ_=>?_) λ_=>?_
 .exact⟨_,ev (RF c (a:=67) (b:=0) (by decide) (by decide)) rfl,DM (NC (zkh c (by decide) (by decide) (by decide)))⟩
 refine br 13 (λ_=>?_) λ_=>?_
 .exact⟨_,ev (RF c (a:=0) (b:=100) (by decide) (by decide)) rfl,DM (HY (Y0 c (by decide) (by decide) (by decide)))⟩
 have w9:=IY c (ns:=[9,9]) (by decide)
 have e9:=Mn c (ns:=[9,9]) (by decide) (by decide)
 refine br 14 (λ_=>?_) λ_=>?_
 .exact⟨_,Ly (B:=Bp c [9,9]) (ev (Ju c true (m:=2) (by decide) (by decide)) rfl) (ev e9 rfl) (Kx w9) (Jp c true (by decide)) (show 3+2<=100000 by decide),DM (HZ (Sd c (m:=2) (by decide) (by decide) w9 (show 2<=3 by decide) (Jt c _)))⟩
 refine br 15 (λ_=>?_) λ_=>?_
 .exact⟨_,Ly (A:=Bp c [9,9]) (ev e9 rfl) (ev (RD c) rfl) (Kx (J0 c)) w9 (show 2+2<=100000 by decide),DM (NC (wd_db c))⟩
 refine br 16 (λ_=>?_) λ_=>?_
 .have hp:PmOk [] [Str.ofString "a"] 101:=Gj (by decide +kernel) (by decide +kernel) (by decide) (by decide) (by decide)
  exact⟨_,Ly (ev (RD c) rfl) (YS (M:=Kw) (ev (Gi hp) rfl)) (Kx (VR (Bb hp))) (J0 c) (show 2+1<=100000 by decide),DM (HZ (zh0 c))⟩
 obtain⟨k,hk,k17⟩:=Qz c (n:=17) (by decide)
 have hp:=Wa (k:=k) (by omega)
 have e:=Fw hp;rw[<- hk]at e;exact br0 (Ly (A:=Bp c [3,4]) (ev (Mn c (ns:=[3,4]) (by decide) (by decide)) rfl) (YS (ev e (by simp![s4]<;>rfl))) (Kx (VR (Bb hp))) (IY c (by decide)) (show 2+1<=100000 by decide)) (DM (HY (zjq c (k:=k) (by omega))))
theorem ze9(p q:Addr)(x:T):pin1 q (pin1 p x)=pin1 p x:=by
 unfold pin1
 by_cases h:(x.flat || JQ x)=true
 .rw[if_pos h,if_pos h]
 .rw[if_neg h,if_pos (show((T.obj (.lab p) [x]).flat || JQ (.obj (.lab p) [x]))=true from rfl)]
theorem zdf(ps qs:Nat->Addr)(l:List T):Dk qs (.lst (l.mapIdx λi t=>pin1 (ps i) t))=.lst (l.mapIdx λi t=>pin1 (ps i) t):=by
 show T.lst ((l.mapIdx λi t=>pin1 (ps i) t).mapIdx λi t=>pin1 (qs i) t)=_
 refine congrArg T.lst (ydd λi=>?_)
 rw[ycg,ycg];cases l[i]? with
 |none=>rfl
 |some x=>exact congrArg some (ze9 _ _ x)
theorem ziq{p:Addr}{x:T}(h:JQ x=false):unl1 (pin1 p x)=x:=by
 unfold pin1;rw[h,ydk]
 by_cases hf:x.flat=true
 .rw[if_pos hf];cases x<;>first|rfl|cases hf
 .rw[if_neg hf]
  rfl
theorem zmc{p:Addr}{x:T}(h:x.sh=true):(pin1 p x).sh=true:=by
 unfold pin1;split
 .exact h
 .show(x.sh && true)=true;rw[h]
  rfl
theorem zkv{p:Addr}{x:T}(h:FU x):(Bm (pin1 p x) && Bm (pin1 p x) && decide (min (pin1 p x).data.depth (pin1 p x).data.depth<=60) && PyData.eqv (pin1 p x).data (pin1 p x).data || (Pu.d0 (pin1 p x) && Pu.d0 (pin1 p x) || FJ (pin1 p x) (pin1 p x)))=true:=by
 obtain⟨hl,h⟩:=h
 rcases h with h|rfl|⟨s,rfl,hs⟩
 .have e:pin1 p x=.obj (.lab p) [x]:=by
   unfold pin1;rw[h,hl]
   rfl
  have s1:FJ (pin1 p x) (pin1 p x)=true:=by
   rw[e];exact yf8 p
  rw[s1];simp
 .rfl
 .have e:pin1 p (.str s)=.str s:=rfl;rw[e];have q:=GQ (x:=s) (y:=s) hs hs;rw[yew rfl]at q;unfold B5 at q;split at q
  .rename_i hk;unfold E1 at hk;rw[ya3,ya3]at hk;have e2:Fc (.str s) (.str s)=true:=by injection q with q;injection q
   rw[hk.1.1,hk.2];show(true && true && true && Fc (.str s) (.str s) || _)=true
   rw[e2]
   rfl
  .cases q
theorem SK(ps:Nat->Addr):∀{l:List T},(∀x∈l,FU x)->Es (l.mapIdx λi t=>pin1 (ps i) t) (l.mapIdx λi t=>pin1 (ps i) t)=true
 |[],_=>rfl
 |x::r,h=>by
  have h1:=h x (ya9 ..);have ih:=SK (λi=>ps (i+1)) (l:=r) λy hy=>h y (ya7 _ hy)
  rw[List.mapIdx_cons,Es,zkv h1,ye8];exact ih
theorem WV{t:T}(h:E1 t t=true\/LJ t t=some (.bl false)):Ci t t=some (.bl false):=by
 unfold Ci;split
 .rename_i hk;unfold E1 Bm at hk;simp only[ya3]at hk;rw[show Fc t t=true from PySem.SeqAt.eqv_refl _ hk.1.1.2]
  rfl
 .rename_i hk;exact h.resolve_left hk
theorem zjg(ps:Nat->Addr)(h:∀x∈l,FU x):Dv [A4] (.lst (l.mapIdx λi t=>pin1 (ps i) t)) (.lst (l.mapIdx λi t=>pin1 (ps i) t))=some (.bl false):=by
 show Ci (.lst (l.mapIdx λi t=>pin1 (ps i) t)) (.lst (l.mapIdx λi t=>pin1 (ps i) t))=_
 refine WV (.inr ?_);show(if Es (l.mapIdx λi t=>pin1 (ps i) t) (l.mapIdx λi t=>pin1 (ps i) t)=true then some (T.bl false) else none)=_
 rw[if_pos (SK ps h)]
theorem Oo(hx:PyData.strOk x=true)(hy:PyData.strOk y=true):Ci (.str x) (.str y)=some (.bl (!decide (x=y))):=by
 have e:(x == y)=decide (x=y):=by rw[ycp,yf2,yf6]
 unfold Ci E1 Bm Fc;simp only[T.data,T.pln,PyData.canLay0,PyData.depth,PyData.eqv,hx,hy,e];simp
structure PinOk(t Q:T):Prop where
 sh:Q.sh=true
 un:FD Q=t
 ne:Dv [A4] Q Q=some (.bl false)
 ls:(∃L,Q=.lst L/\Ak L=true/\∀qs,Dk qs (.lst L)=.lst L)\/Ep [A4] "list" Q=some (.bl false)
theorem zmd{t:T}(h:Mf t)(hs:t.sh=true)(ps:Nat->Addr):PinOk t (Dk ps t):=by
 rcases h with ⟨l,rfl,h⟩|rfl|⟨s,rfl,h⟩|rfl|⟨M,rfl⟩|⟨A,B,rfl⟩
 .have sl:Ak l=true:=by rw[T.sh]at hs;simpa using hs
  have s2:Ak (l.mapIdx λi t=>pin1 (ps i) t)=true:=by
   rw[DJ,yaj];intro x hx;obtain⟨i,e⟩:=ybe.mp hx;rw[ycg]at e;obtain⟨y,hy,rfl⟩:=ya2.mp e;exact zmc (UD sl hy)
  refine⟨Em s2,?_,zjg ps h,.inl ⟨_,rfl,s2,λqs=>zdf ps qs l⟩⟩
  show T.lst ((l.mapIdx λi t=>pin1 (ps i) t).map unl1)=_
  refine congrArg T.lst (ydd λi=>?_)
  rw[ya5,ycg];cases hi:l[i]? with
  |none=>rfl
  |some x=>exact congrArg some (ziq (h x (yas hi)).1)
 .exact⟨rfl,rfl,WV (t:=.non) (.inl rfl),.inr rfl⟩
 .refine⟨rfl,rfl,?_,.inr rfl⟩;have e:=Oo (x:=s) (y:=s) h h;rw[yew rfl]at e;exact e
 .exact⟨rfl,rfl,rfl,.inr rfl⟩
 .have e:Dk ps (AE M)=.obj (.lab (ps 0)) [AE M]:=rfl;rw[e];refine⟨?_,rfl,?_,.inr (XD M)⟩
  .show((AE M).sh && true)=true;rw[hs]
   rfl
  .show(if ([A4].contains A4 && FJ (.obj (.lab (ps 0)) [AE M]) (.obj (.lab (ps 0)) [AE M]))=true then some (T.bl false) else none)=_
   rw[if_pos];show([A4].contains A4 && (ps 0 == ps 0))=true;rw[yf8]
   rfl
 .have e:Dk ps (.tup [AE A,AE B])=.tup [.obj (.lab (ps 0)) [AE A],.obj (.lab (ps 1)) [AE B]]:=rfl;rw[e];refine⟨?_,rfl,?_,.inr rfl⟩
  .rw[T.sh]at hs;simp only[Ak,ya3]at hs
   simp![hs.2.1,hs.2.2.1]
  .show(if (false || Es [.obj (.lab (ps 0)) [AE A],.obj (.lab (ps 1)) [AE B]] [.obj (.lab (ps 0)) [AE A],.obj (.lab (ps 1)) [AE B]])=true then some (T.bl false) else _)=_
   rw[if_pos]
   exact SK ps (l:=[AE A,AE B]) λx hx=>by
    simp only[ya6,yab,yf7]at hx
    rcases hx with rfl|rfl<;>exact⟨rfl,.inl rfl⟩
abbrev Ik:Stmt:=AW 53
def W9:AH :=
 (AI (Au (AV (AK (m1 (DP ZY) (AA 0)) (AK (m1 (DP ZQ) (AA 0)) (AK (m1 (DP ZX) (AA 0)) (AK (m1 (DP ZW) (AA 0)) AD))))) (AG 1))
 (AI (Au (m2 BV (AA 1) (AV (AK (m1 (DP ZV) (AA 0)) (AK (m1 (DP ZU) (AA 0)) (AK (m1 (DP ZT) (AA 0)) (AK (m1 (DP ZS) (AA 0)) AD)))))) (AG 1))
 (AI (Au (m2 BV (AA 1) (AV (AK (m1 (DP ZR) (AA 0)) AD))) (AG 1))
 (AI (Ai (CI (BU (m1 (DP ZP) (AA 0))) (m2 Ci (m1 Bu (BX 1 [] (GL (AA 1)) (AG 0) (AA 0) (AA 0))) (mC (.int 1)))) (AX (mC (.str "other"))) Ah)
 (AX (B8 (AV (AK (mC (.str "bad")) (AK (mC (.str "many")) (AK (mC (.str "")) (AK (mC (.str "")) (AK (mC (.str "")) (AK (mC (.str "")) (AK (mC (.str "")) (AK (mC (.str "")) (AK (mC (.str "")) AD)))))))))) (Gw (AA 1) true)))))))
def Jf:List T->Option Ru:=Al 1 2 W9
abbrev YH:Fn:=⟨1,["_law_e"],Jf⟩
abbrev zgv:Gx:=⟨[],[],[],[],false,true,true,none,[],[("BadMachine",ZY),("TooMany",ZQ),("NoMark",ZX),("NoNumber",ZW),("NoRoad",ZV),("NoRoom",ZU),("NoRow",ZT),("NoRun",ZS),("NoText",ZR)],[("ValueError",ZP)],true,[],[],[],[],[],[],[]⟩
abbrev QZ:Gm:=⟨["_law_e","_law_some"],(AL Ik).names,[],0,[],["isinstance","len"],[],[],[],false,[],[],[],zgv⟩
theorem zfp:FnScope QZ.N YH.ps (AL Ik):=Aq (by decide +kernel)
theorem zh5:IF 200 QZ (Ab Ik)=some W9:=by ext
theorem Sg:Jf [.obj (.exn 56) []]=some (.ok (.str "bad")):=by ext
theorem Sf:Jf [.obj (.exn 68) []]=some (.ok (.str "many")):=by ext
abbrev OB:Stmt:=AW 54
def GB:AH :=
 (AI (Au (mC (.str "made")) (AG 2))
 (AI (Hc 3 Jn (Ai (m2 B5 (AA 1) (mC (.int 0))) (Ed (AQ DE (AB (AA 0) AD))) (Ed (AQ DF (AB (AA 0) AD)))) (Au (AQ Jf (AB (AA 3) AD)) (AG 2)))
 (AX (AA 2))))
def Df:List T->Option Ru:=Al 2 4 GB
abbrev Qq:Fn:=⟨9,["_law_machines","_law_way"],Df⟩
abbrev zgw:Gx:=⟨[],[],[],[],false,true,true,none,[("WalkError",Jn)],[],[],true,[],[],[],[],[("_law_word",YH)],[],[]⟩
abbrev Xp:Gm:=⟨["_law_machines","_law_way","_law_word_here","_law_e"],(AL OB).names,[],8,[("together",Lm),("shares",Ln)],[],[],[],[],false,[],[],[],zgw⟩
theorem zfr:FnScope Xp.N Qq.ps (AL OB):=Aq (by decide +kernel)
theorem zh7:Ad 200 Xp (Ab OB)=some GB:=by ext
theorem zli{t:T}{w:Int}(hs:t.sh=true)(h:DE [t]=some (.exc "BadMachine")/\DF [t]=some (.exc "BadMachine"))(hw:w=0\/w=1):Df [t,.int w]=some (.ok (.str "bad")):=by
 have l:Jn.lookup (Str.ofString "BadMachine")=some 56:=by decide +kernel
 rcases hw with rfl|rfl
 .unfold Df GB
  simp![hs,BK _ hs,h.1,EC,Sg,l]
 .unfold Df GB
  simp![hs,BK _ hs,h.2,EC,Sg,l]
theorem zi4{t:T}{w:Int}(hs:t.sh=true)(h:DE [t]=some (.exc "TooMany")/\DF [t]=some (.exc "TooMany"))(hw:w=0\/w=1):Df [t,.int w]=some (.ok (.str "many")):=by
 have l:Jn.lookup (Str.ofString "TooMany")=some 68:=by decide +kernel
 rcases hw with rfl|rfl
 .unfold Df GB
  simp![hs,BK _ hs,h.1,EC,Sf,l]
 .unfold Df GB
  simp![hs,BK _ hs,h.2,EC,Sf,l]
theorem zi5{t:T}{w:Int}{a b:T}(hs:t.sh=true)(h1:DE [t]=some (.ok a))(h2:DF [t]=some (.ok b))(hw:w=0\/w=1):Df [t,.int w]=some (.ok (.str "made")):=by
 rcases hw with rfl|rfl
 .unfold Df GB
  simp![hs,BK _ hs,h1,EC]
 .unfold Df GB
  simp![hs,BK _ hs,h2,EC]
abbrev Ii:Stmt:=AW 65
def Mv:AH :=
 (Ai (CI (m2 (Dv [A4]) (AQ (gU Df) (AB (AA 3) (AB (AA 2) AD))) (AA 4)) (m2 (Dv [A4]) (AA 3) (AA 1))) (AX (mC (.bl false))) Ah)
def LM:AH :=
 (AI (Au (AQ Mb (AB (AA 0) AD)) (Bf 2 (Am (AG 3) (Am (AG 4) Bi))))
 (Fu 3 (AI (Au (AA 3) (AG 1))
 (AI (Ai (m1 (Ep [A4] "list") (AA 3)) (Fu 3 (Au (m1 CZ (AA 3)) (AG 1))) Ah)
 (AI (C1 (BW (AV (AK (m2 CP (AQ HQ (AB (AA 0) (AB (mC (.int 2)) AD))) (mC (.int 2))) (AK (m2 FH (mC (.int 1)) (m2 CP (AQ HQ (AB (AA 0) (AB (mC (.int 2)) AD))) (mC (.int 2)))) AD)))) (AG 2) Mv)
 (AI (Ai (m2 (Dv [A4]) (AA 4) (mC (.str "made"))) (AX (mC (.bl true))) Ah)
 (AX (m2 B5 (m1 Bu (AQ (gU DF) (AB (AA 3) AD))) (m1 Bu (DN A4 BG Fj (AQ (gU DE) (AB (AA 3) AD)) AD))))))))))
def M1:List T->Option Ru:=Al 1 5 LM
abbrev zny:Fn:=⟨11,["_law_script"],M1⟩
abbrev znw:Gx:=⟨[],[],[("doors",A4,BG,Lw)],[],false,true,true,none,[],[],[],true,[],[],[],[],[],["_law_machines"],[A4]⟩
abbrev QT:Gm:=⟨["_law_script","_law_kept","_law_way","_law_machines","_law_due"],(AL Ii).names,[],10,[("_law_case",Qv),("_law_cell_at",Lx),("_law_said",Qy Qq),("shares",Qy Ln),("together",Qy Lm)],["isinstance","list","len"],[],[],[],false,[],[],[],znw⟩
theorem zlj:FnScope QT.N zny.ps (AL Ii):=Aq (by decide +kernel)
theorem zo6:Ad 200 QT (Ab Ii)=some LM:=by ext
theorem law_true(ns:List Int)(hns:ns.length<=63):M1 [Cw ns]=some (.ok (.bl true)):=by
 obtain⟨t,s,ec,hne,hsh,hv⟩:=zkq ns;have F:=UC ns;have F2:=UB ns;have c2:=R7 ns (k:=2) (by decide)
 generalize ns.getD (2:Int).toNat 0=d at c2;have hd:d.fmod 2=0\/d.fmod 2=1:=by rw[fm (by decide)];omega
 have hd1:1 - d.fmod 2=0\/1 - d.fmod 2=1:=by omega
 generalize hq:d.fmod 2=e at hd hd1
 have sd:∀w:Int,w=0\/w=1->Df [t,.int w]=some (.ok (.str s)):=λw hw=>by
  rcases hv with ⟨rfl,r⟩|⟨rfl,r⟩|⟨rfl,Ms,rfl,m⟩
  .exact zli r.1 r.2 hw
  .exact zi4 r.1 r.2 hw
  .exact zi5 hsh ((NG m.m m.r m.f).elim (·.2) λz=>absurd z.1 (by have:=m.w;omega)) ((N0 m.m m.r).elim (·.2) λz=>absurd z.1 (by have:=m.w;omega)) hw
 have so:PyData.strOk s=true:=by
  rcases hv with ⟨rfl,r⟩|⟨rfl,r⟩|⟨rfl,r⟩<;>decide +kernel
 have nes:Dv [A4] (.str s) (.str s)=some (.bl false):=by
  show Ci (.str s) (.str s)=_;rw[Oo so so,yew rfl]
  rfl
 have nem:Dv [A4] (.str s) (.str (Str.ofString "made"))=some (.bl (!decide (s=Str.ofString "made"))):=by
  show Ci (.str s) (.str (Str.ofString "made"))=_;exact Oo so (by decide +kernel)
 have key:LM [some (Cw ns),none,none,none,none]=some (.rt (.bl true)):=by
  generalize Cw ns=S at *;unfold LM;refine sq (τ':=[some S,none,none,some t,some (.str s)]) (by simp![F,F2,ec,hsh,BK _ hsh]) ?_
  refine Uy (t:=t) rfl hsh λps=>?_
  have P:=zmd hne hsh ps;show(AI _ _) [some S,none,none,some (Dk ps t),some (.str s)]=_;generalize Dk ps t=Q at *;have qs:=P.sh;have qh:=BK _ qs;have qn:=P.ne
  have gs:∀w:Int,w=0\/w=1->gU Df [Q,.int w]=some (.ok (.str s)):=λw hw=>by
   show Df [FD Q,.int w]=_;rw[P.un];exact sd w hw
  refine sq (τ':=[some S,some Q,none,some Q,some (.str s)]) (by simp![qs,qh]) ?_
  refine sq (τ':=[some S,some Q,none,some Q,some (.str s)]) ?_ ?_
  .rcases P.ls with ⟨L,rfl,sL,tw⟩|hn
   .have ty:=KD L;have e1:m1 (Ep [A4] "list") (AA 3) [some S,some (.lst L),none,some (.lst L),some (.str s)]=some (.v (.bl true) false):=by simp![ty,sL,AN _ sL]
    unfold Ai;simp only[e1];refine Uy (t:=.lst L) rfl qs λqs'=>?_
    rw[tw qs']
    simp![sL,AN _ sL]
   .simp![hn,qs,qh]
  have st:∀w:Int,w=0\/w=1->Mv [some S,some Q,some (.int w),some Q,some (.str s)]=some (.nx [some S,some Q,some (.int w),some Q,some (.str s)]):=λw hw=>by
   have g:=gs w hw;unfold Mv
   simp![qs,qh,g,nes,qn]
  have g0:=gs _ hd;have g1:=gs _ hd1;refine sq (τ':=[some S,some Q,some (.int (1 - e)),some Q,some (.str s)]) (by simp![F,F2,c2,hq,Bh,st _ hd,st _ hd1]) ?_
  rcases hv with ⟨rfl,r⟩|⟨rfl,r⟩|⟨rfl,Ms,rfl,m⟩
  .have n:Dv [A4] (.str (Str.ofString "bad")) (.str (Str.ofString "made"))=some (.bl true):=by rw[nem];exact congrArg (λb=>some (T.bl b)) (by decide +kernel)
   simp![n]
  .have n:Dv [A4] (.str (Str.ofString "many")) (.str (Str.ofString "made"))=some (.bl true):=by rw[nem];exact congrArg (λb=>some (T.bl b)) (by decide +kernel)
   simp![n]
  .have hw:=m.w;have to:DE [.lst (Ms.map AE)]=some (.ok (AE (CK Ms))):=(NG m.m m.r m.f).elim (·.2) λz=>absurd z.1 (by omega)
   have sh':DF [.lst (Ms.map AE)]=some (.ok (.own ((BR (AU Ms) (A2 Ms)).map λw=>Eb w.1))):=(N0 m.m m.r).elim (·.2) λz=>absurd z.1 (by omega)
   have ok:=Sj m.m m.r m.f hw
   have gt:gU DE [Q]=some (.ok (AE (CK Ms))):=by
    show DE [FD Q]=_;rw[P.un];exact to
   have gh:gU DF [Q]=some (.ok (.own ((BR (AU Ms) (A2 Ms)).map λw=>Eb w.1))):=by
    show DF [FD Q]=_;rw[P.un];exact sh'
   have md:=Ov ok;have k1:=CY ok;have ii:=Hk (CK Ms)
   have ld:((CK Ms).ds.map AR).length=(BR (AU Ms) (A2 Ms)).length:=by
    show(((BR (AU Ms) (A2 Ms)).map (G4 (AU Ms))).map AR).length=_;rw[ya1,ya1]
   have sds:Ak ((CK Ms).ds.map AR)=true:=ok.sd;have ll:(BR (AU Ms) (A2 Ms)).length<=100000:=by omega
   generalize AE (CK Ms)=X at *;generalize (CK Ms).ds.map AR=D at *;have bq:(((BR (AU Ms) (A2 Ms)).length:Int) == ((BR (AU Ms) (A2 Ms)).length:Int))=true:=yf8 _;have el:(Ax ((BR (AU Ms) (A2 Ms)).map λw=>Eb w.1)).length=(BR (AU Ms) (A2 Ms)).length:=by rw[DI,ya1,ya1]
   simp![-DQ,ii,nes,qs,qh,gt,gh,md,k1,BK _ k1,sds,AN _ sds,ld,ya1,ll,EC,el,bq]
 unfold M1
 simp![F,F2,key]
end
end Zl
namespace Zl
open PySem PySem.W L2 Zw Zx Pu Hd
abbrev pw:Program:=PySem.Challenge.pw_zonewalk_k26_wholes_refused
abbrev OQ:OpenLaw:=PySem.Challenge.rw_zonewalk_k26_wholes_refused
abbrev md:String:="__module__"
abbrev fl:String:="__firstlineno__"
abbrev sa:String:="__static_attributes__"
abbrev dc:String:="__doc__"
noncomputable abbrev cf:Str:="/claim/cut.py"
noncomputable def tO(l:List Value):Obj:=⟨(.type "tuple"),none,(.seq (Array.mk l) 0),Array.mk []⟩
noncomputable def dO(l:List DictEntry)(n:Nat):Obj:=⟨(.type "dict"),none,(.dict (Array.mk l) n),Array.mk []⟩
def eb:List Value:=[(.type "ValueError"),(.type "Exception"),(.type "BaseException"),(.type "object")]
noncomputable def yO(a:Str)(b c:List Value)(n:Addr)(d:List Value)(r ta tb:Nat)(w:String):Obj:=⟨(.type "type"),none,(.cls ⟨a,b,c,n,a,true,[],d,false,none,false⟩),Array.mk [(some (.ref r)),none,(some (.str a ta)),(some (.str a tb)),(some (.builtin w)),(some (.bool true))]⟩
def cP(a:Str)(ta:Nat)(b:Str)(tb tf:Nat)(r n k:Int)(r1:Nat)(z:Int)(v1 v2 v3 v4 v5:Value)(x y:Int)(tg:Nat):Obj:=⟨(.type "code"),none,(.fields (Array.mk [(.str a ta),(.str b tb),(.str cf tf),(.int r 0),(.int n 0),(.int 0 0),(.int 0 0),(.int k 0),(.ref r1),(.bool true),(.int z 0),v1,v2,v3,v4,v5,(.int x 0),(.int y 0),(.str cf tg)])),Array.mk []⟩
noncomputable def cO(a:Str)(ta tb tf:Nat)(r n k:Int)(r1:Nat)(z:Int)(r2 r3 r4 r5:Nat)(x y:Int)(tg:Nat):Obj:=cP a ta a tb tf r n k r1 z (.ref r2) .none (.ref r3) (.ref r4) (.ref r5) x y tg
def fO(a b:Str)(s:Stmt)(d:Value)(m:Str)(t c:Nat)(y:Value):Obj:=⟨(.type "function"),none,(.func (fnOf a b (ID s) (Ab s) (AL s) d .none .none (.str m t) none (.ref c) y)),Array.mk []⟩
def gO(a:Str)(s:Stmt)(m:Str)(t c:Nat):Obj:=fO a a s .none m t c .none
def o2(P:Params):Obj:=⟨.none,none,(.dict (Array.mk []) 0),Array.mk []⟩
def o3(P:Params):Obj:=dO [en P "__name__" 165 (.str "law_zonewalk_k26_wholes_refused" 714),en P "__doc__" 166 .none,en P "__package__" 167 .none,en P "__loader__" 168 (.builtin "__main__.__loader__#opaque"),en P "__spec__" 169 .none,en P "__annotations__" 170 (.ref 6),en P "__builtins__" 171 (.ref 4),en P "__file__" 173 (.str "/claim/cut.py" 172),en P "__cached__" 174 .none,en P "_wall" 193 (.ref 21),en P "WalkError" 213 (.ref 31),en P "NoNumber" 229 (.ref 44),en P "BadMachine" 245 (.ref 56),en P "TooMany" 261 (.ref 68),en P "NoRun" 286 (.ref 87),en P "NoMark" 302 (.ref 99),en P "NoRoad" 318 (.ref 111),en P "NoRoom" 334 (.ref 123),en P "NoText" 350 (.ref 135),en P "NoRow" 366 (.ref 147),en P "is_whole" 375 (.ref 156),en P "WORDS" 383 (.ref 157),en P "STAY_WORDS" 386 (.ref 158),en P "is_look" 395 (.ref 165),en P "is_number" 402 (.ref 172),en P "is_guard" 408 (.ref 177),en P "MOST_WATCHES" 412 (.int 7 411),en P "MOST_ROOMS" 414 (.int 64 413),en P "MOST_DOORS" 416 (.int 200 415),en P "is_small_letter" 423 (.ref 184),en P "is_name" 429 (.ref 189),en P "is_watch_name" 436 (.ref 196),en P "is_room_name" 442 (.ref 201),en P "is_sign" 449 (.ref 208),en P "own_copy" 456 (.ref 215),en P "Door" 508 (.ref 247),en P "Machine" 574 (.ref 301),en P "check_watches" 580 (.ref 310),en P "are_unlike" 587 (.ref 317),en P "check_rooms" 593 (.ref 322),en P "check_doors" 603 (.ref 329),en P "are_noughts" 609 (.ref 334),en P "MOST_PARTS" 613 (.int 6 612),en P "together" 619 (.ref 339),en P "shares" 625 (.ref 344),en P "checked_takings" 631 (.ref 349),en P "check_parts" 637 (.ref 354),en P "all_watches" 646 (.ref 361),en P "all_takings" 652 (.ref 366),en P "whole_name" 659 (.ref 373),en P "whole_stay" 670 (.ref 380),en P "whole_ways" 676 (.ref 385),en P "shares_of" 692 (.ref 392),en P "starts_from" 698 (.ref 397),en P "whole_door" 713 (.ref 404),en P "_law_cell_at" 723 (.ref 411),en P "_law_word" 729 (.ref 416),en P "_law_said" 739 (.ref 423),en P "_law_letters" 745 (.ref 428),en P "_law_rooms" 751 (.ref 433),en P "_law_plain" 757 (.ref 438),en P "_law_no_list" 767 (.ref 445),en P "_law_watched" 773 (.ref 450),en P "_law_wide" 779 (.ref 455),en P "_law_long" 788 (.ref 462),en P "_law_doubles" 797 (.ref 469),en P "_law_doored" 806 (.ref 476),en P "_law_case" 815 (.ref 483),en P "law" 826 (.ref 490)] 69
def o22(P:Params):Obj:=tO [(.type "ValueError")]
def o29(P:Params):Obj:=tO []
def o30(P:Params):Obj:=dO [en P md 203 (.str "zonewalk.errors" 194),en P fl 207 (.int 5 206),en P sa 208 (.ref 29),en P "__weakref__" 210 (.ref 32),en P dc 211 .none] 3
def o31(P:Params):Obj:=yO "WalkError" [(.type "ValueError")] ([(.ref 31)]++eb) 30 [(.ref 44),(.ref 56),(.ref 68),(.ref 87),(.ref 99),(.ref 111),(.ref 123),(.ref 135),(.ref 147)] 22 196 204 "ValueError.__new__"
def o32(P:Params):Obj:=⟨(.type "getset_descriptor"),none,(.fields (Array.mk [(.str "__weakref__" 209),(.ref 31),(.builtin "ExceptionGroup.__weakref__"),.none])),Array.mk []⟩
def o35(P:Params):Obj:=tO [(.ref 31)]
def o42(P:Params):Obj:=tO []
def o43(P:Params):Obj:=dO [en P md 221 (.str "zonewalk.errors" 194),en P fl 225 (.int 7 224),en P sa 226 (.ref 42),en P dc 227 .none] 2
def o44(P:Params):Obj:=yO "NoNumber" [(.ref 31)] ([(.ref 44),(.ref 31)]++eb) 43 [] 35 214 222 "ValueError.__new__"
def o47(P:Params):Obj:=tO [(.ref 31)]
def o54(P:Params):Obj:=tO []
def o55(P:Params):Obj:=dO [en P md 237 (.str "zonewalk.errors" 194),en P fl 241 (.int 9 240),en P sa 242 (.ref 54),en P dc 243 .none] 2
def o56(P:Params):Obj:=yO "BadMachine" [(.ref 31)] ([(.ref 56),(.ref 31)]++eb) 55 [] 47 230 238 "ValueError.__new__"
def o59(P:Params):Obj:=tO [(.ref 31)]
def o66(P:Params):Obj:=tO []
def o67(P:Params):Obj:=dO [en P md 253 (.str "zonewalk.errors" 194),en P fl 257 (.int 11 256),en P sa 258 (.ref 66),en P dc 259 .none] 2
def o68(P:Params):Obj:=yO "TooMany" [(.ref 31)] ([(.ref 68),(.ref 31)]++eb) 67 [] 59 246 254 "ValueError.__new__"
def o71(P:Params):Obj:=tO [(.ref 31)]
def o85(P:Params):Obj:=tO [(.str "step" 282)]
def o86(P:Params):Obj:=dO [en P md 269 (.str "zonewalk.errors" 194),en P fl 273 (.int 13 272),en P "__init__" 281 (.ref 84),en P sa 283 (.ref 85),en P dc 284 .none] 2
def o87(P:Params):Obj:=yO "NoRun" [(.ref 31)] ([(.ref 87),(.ref 31)]++eb) 86 [] 71 262 270 "ValueError.__new__"
def o90(P:Params):Obj:=tO [(.ref 31)]
def o97(P:Params):Obj:=tO []
def o98(P:Params):Obj:=dO [en P md 294 (.str "zonewalk.errors" 194),en P fl 298 (.int 17 297),en P sa 299 (.ref 97),en P dc 300 .none] 2
def o99(P:Params):Obj:=yO "NoMark" [(.ref 31)] ([(.ref 99),(.ref 31)]++eb) 98 [] 90 287 295 "ValueError.__new__"
def o102(P:Params):Obj:=tO [(.ref 31)]
def o109(P:Params):Obj:=tO []
def o110(P:Params):Obj:=dO [en P md 310 (.str "zonewalk.errors" 194),en P fl 314 (.int 19 313),en P sa 315 (.ref 109),en P dc 316 .none] 2
def o111(P:Params):Obj:=yO "NoRoad" [(.ref 31)] ([(.ref 111),(.ref 31)]++eb) 110 [] 102 303 311 "ValueError.__new__"
def o114(P:Params):Obj:=tO [(.ref 31)]
def o121(P:Params):Obj:=tO []
def o122(P:Params):Obj:=dO [en P md 326 (.str "zonewalk.errors" 194),en P fl 330 (.int 21 329),en P sa 331 (.ref 121),en P dc 332 .none] 2
def o123(P:Params):Obj:=yO "NoRoom" [(.ref 31)] ([(.ref 123),(.ref 31)]++eb) 122 [] 114 319 327 "ValueError.__new__"
def o126(P:Params):Obj:=tO [(.ref 31)]
def o133(P:Params):Obj:=tO []
def o134(P:Params):Obj:=dO [en P md 342 (.str "zonewalk.errors" 194),en P fl 346 (.int 23 345),en P sa 347 (.ref 133),en P dc 348 .none] 2
def o135(P:Params):Obj:=yO "NoText" [(.ref 31)] ([(.ref 135),(.ref 31)]++eb) 134 [] 126 335 343 "ValueError.__new__"
def o138(P:Params):Obj:=tO [(.ref 31)]
def o145(P:Params):Obj:=tO []
def o146(P:Params):Obj:=dO [en P md 358 (.str "zonewalk.errors" 194),en P fl 362 (.int 25 361),en P sa 363 (.ref 145),en P dc 364 .none] 2
def o147(P:Params):Obj:=yO "NoRow" [(.ref 31)] ([(.ref 147),(.ref 31)]++eb) 146 [] 138 351 359 "ValueError.__new__"
def o155(_:Params):=cO "is_whole" 369 370 371 28 1 3 150 181 151 152 153 154 373 28 374
def WM(_:Params):=gO "is_whole" (AW 13) "zonewalk.fractions" 367 155
def WL(P:Params):Obj:=tO [(.str "<" 378),(.str "<=" 379),(.str ">" 380),(.str ">=" 381),(.str "=" 382)]
def WK(P:Params):Obj:=tO [(.str "<" 384),(.str "<=" 385)]
def o164(_:Params):=cO "is_look" 387 388 389 33 3 3 159 181 160 161 162 163 393 33 394
def WJ(_:Params):=gO "is_look" (AW 17) "zonewalk.looks" 376 164
def o171(_:Params):=cO "is_number" 396 397 398 37 1 3 166 181 167 168 169 170 400 37 401
def WI(_:Params):=gO "is_number" (AW 18) "zonewalk.looks" 376 171
def o176(P:Params):Obj:=cP "is_guard" 403 "is_guard" 404 405 39 3 3 173 181 (.ref 174) .none .none .none (.ref 175) 406 39 407
def WH(_:Params):=gO "is_guard" (AW 19) "zonewalk.looks" 376 176
def o183(_:Params):=cO "is_small_letter" 417 418 419 45 1 3 178 181 179 180 181 182 421 45 422
def WG(_:Params):=gO "is_small_letter" (AW 24) "zonewalk.machines" 409 183
def o188(P:Params):Obj:=cP "is_name" 424 "is_name" 425 426 47 1 3 185 181 (.ref 186) .none .none .none (.ref 187) 427 47 428
def WE(_:Params):=gO "is_name" (AW 25) "zonewalk.machines" 409 188
def o195(_:Params):=cO "is_watch_name" 430 431 432 49 1 3 190 181 191 192 193 194 434 49 435
def WD(_:Params):=gO "is_watch_name" (AW 26) "zonewalk.machines" 409 195
def o200(P:Params):Obj:=cP "is_room_name" 437 "is_room_name" 438 439 51 1 3 197 181 (.ref 198) .none .none .none (.ref 199) 440 51 441
def WC(_:Params):=gO "is_room_name" (AW 27) "zonewalk.machines" 409 200
def o207(_:Params):=cO "is_sign" 443 444 445 55 1 3 202 181 203 204 205 206 447 55 448
def WB(_:Params):=gO "is_sign" (AW 28) "zonewalk.machines" 409 207
def o214(_:Params):=cO "own_copy" 450 451 452 59 1 3 209 181 210 211 212 213 454 59 455
def WA(_:Params):=gO "own_copy" (AW 29) "zonewalk.machines" 409 214
def LC(P:Params):Obj:=tO [(.str "" 469)]
def o229(P:Params):Obj:=cP "__init__" 470 "Door.__init__" 471 472 63 6 3 224 181 (.ref 225) .none (.ref 226) (.ref 227) (.ref 228) 479 63 480
def Vz(_:Params):=fO "__init__" "Door.__init__" (Cz 30 0) (.ref 223) "zonewalk.machines" 409 229 .none
def o236(P:Params):Obj:=cP "asks" 482 "Door.asks" 483 484 70 1 3 231 181 (.ref 232) .none (.ref 233) (.ref 234) (.ref 235) 486 70 487
def Vy(_:Params):=fO "asks" "Door.asks" (Cz 30 1) .none "zonewalk.machines" 409 236 .none
def o243(P:Params):Obj:=cP "sets" 489 "Door.sets" 490 491 73 1 3 238 181 (.ref 239) .none (.ref 240) (.ref 241) (.ref 242) 493 73 494
def Vx(_:Params):=fO "sets" "Door.sets" (Cz 30 2) .none "zonewalk.machines" 409 243 .none
def o245(P:Params):Obj:=tO [(.str "end" 496),(.str "guard" 497),(.str "noughts" 498),(.str "sign" 499),(.str "start" 500)]
def o246(P:Params):Obj:=dO [en P md 464 (.str "zonewalk.machines" 409),en P fl 468 (.int 61 467),en P "__init__" 481 (.ref 230),en P "asks" 488 (.ref 237),en P "sets" 495 (.ref 244),en P sa 501 (.ref 245),en P "__dict__" 503 (.ref 248),en P "__weakref__" 505 (.ref 249),en P dc 506 .none] 4
def o247(P:Params):Obj:=⟨(.type "type"),none,(.cls ⟨"Door",[(.type "object")],[(.ref 247),(.type "object")],246,"Door",true,[],[],false,none,false⟩),Array.mk [none,none,(some (.str "Door" 457)),(some (.str "Door" 465)),(some (.builtin "object.__new__")),(some (.bool true))]⟩
def o248(P:Params):Obj:=⟨(.type "getset_descriptor"),none,(.fields (Array.mk [(.str "__dict__" 502),(.ref 247),(.builtin "function.__dict__"),(.builtin "function.__dict__#set")])),Array.mk []⟩
def o249(P:Params):Obj:=⟨(.type "getset_descriptor"),none,(.fields (Array.mk [(.str "__weakref__" 504),(.ref 247),(.builtin "ExceptionGroup.__weakref__"),.none])),Array.mk []⟩
def o262(P:Params):Obj:=cP "__init__" 521 "Machine.__init__" 522 523 77 4 3 259 181 (.ref 260) .none .none .none (.ref 261) 524 77 525
def Vw(_:Params):=fO "__init__" "Machine.__init__" (Cz 31 0) .none "zonewalk.machines" 409 262 .none
def o269(P:Params):Obj:=cP "watches" 527 "Machine.watches" 528 529 89 1 3 264 181 (.ref 265) .none (.ref 266) (.ref 267) (.ref 268) 531 89 532
def Vv(_:Params):=fO "watches" "Machine.watches" (Cz 31 1) .none "zonewalk.machines" 409 269 .none
def o276(P:Params):Obj:=cP "rooms" 534 "Machine.rooms" 535 536 92 1 3 271 181 (.ref 272) .none (.ref 273) (.ref 274) (.ref 275) 538 92 539
def Vu(_:Params):=fO "rooms" "Machine.rooms" (Cz 31 2) .none "zonewalk.machines" 409 276 .none
def o283(P:Params):Obj:=cP "doors" 541 "Machine.doors" 542 543 95 1 3 278 181 (.ref 279) .none (.ref 280) (.ref 281) (.ref 282) 545 95 546
def Vt(_:Params):=fO "doors" "Machine.doors" (Cz 31 3) .none "zonewalk.machines" 409 283 .none
def o290(P:Params):Obj:=cP "stay" 548 "Machine.stay" 549 550 98 2 3 285 181 (.ref 286) .none (.ref 287) (.ref 288) (.ref 289) 553 98 554
def Vs(_:Params):=fO "stay" "Machine.stay" (Cz 31 4) .none "zonewalk.machines" 409 290 .none
def o299(P:Params):Obj:=tO [(.str "door_list" 564),(.str "stays" 565),(.str "watch_names" 566)]
def Oi(P:Params):Obj:=dO [en P md 516 (.str "zonewalk.machines" 409),en P fl 520 (.int 75 519),en P "__init__" 526 (.ref 263),en P "watches" 533 (.ref 270),en P "rooms" 540 (.ref 277),en P "doors" 547 (.ref 284),en P "stay" 555 (.ref 291),en P "watch_number" 563 (.ref 298),en P sa 567 (.ref 299),en P "__dict__" 569 (.ref 302),en P "__weakref__" 571 (.ref 303),en P dc 572 .none] 4
def Oh(P:Params):Obj:=⟨(.type "type"),none,(.cls ⟨"Machine",[(.type "object")],[(.ref 301),(.type "object")],300,"Machine",true,[],[],false,none,false⟩),Array.mk [none,none,(some (.str "Machine" 509)),(some (.str "Machine" 517)),(some (.builtin "object.__new__")),(some (.bool true))]⟩
def o302(P:Params):Obj:=⟨(.type "getset_descriptor"),none,(.fields (Array.mk [(.str "__dict__" 568),(.ref 301),(.builtin "function.__dict__"),(.builtin "function.__dict__#set")])),Array.mk []⟩
def o303(P:Params):Obj:=⟨(.type "getset_descriptor"),none,(.fields (Array.mk [(.str "__weakref__" 570),(.ref 301),(.builtin "ExceptionGroup.__weakref__"),.none])),Array.mk []⟩
def o309(P:Params):Obj:=cP "check_watches" 575 "check_watches" 576 577 103 1 3 306 181 (.ref 307) .none .none .none (.ref 308) 578 103 579
def Vr(_:Params):=gO "check_watches" (AW 32) "zonewalk.machines" 409 309
def o316(_:Params):=cO "are_unlike" 581 582 583 108 1 3 311 181 312 313 314 315 585 108 586
def Vq(_:Params):=gO "are_unlike" (AW 33) "zonewalk.machines" 409 316
def o321(P:Params):Obj:=cP "check_rooms" 588 "check_rooms" 589 590 110 2 3 318 181 (.ref 319) .none .none .none (.ref 320) 591 110 592
def Vp(_:Params):=gO "check_rooms" (AW 34) "zonewalk.machines" 409 321
def o328(_:Params):=cO "check_doors" 594 595 596 120 3 3 323 181 324 325 326 327 601 120 602
def Vo(_:Params):=gO "check_doors" (AW 35) "zonewalk.machines" 409 328
def o333(P:Params):Obj:=cP "are_noughts" 604 "are_noughts" 605 606 132 2 3 330 181 (.ref 331) .none .none .none (.ref 332) 607 132 608
def Vn(_:Params):=gO "are_noughts" (AW 36) "zonewalk.machines" 409 333
def o338(P:Params):Obj:=cP "together" 614 "together" 615 616 138 1 3 335 181 (.ref 336) .none .none .none (.ref 337) 617 138 618
def Vm(_:Params):=gO "together" (AW 39) "zonewalk.together" 610 338
def o343(P:Params):Obj:=cP "shares" 620 "shares" 621 622 143 1 3 340 181 (.ref 341) .none .none .none (.ref 342) 623 143 624
def Vl(_:Params):=gO "shares" (AW 40) "zonewalk.together" 610 343
def o348(P:Params):Obj:=cP "checked_takings" 626 "checked_takings" 627 628 146 1 3 345 181 (.ref 346) .none .none .none (.ref 347) 629 146 630
def Vk(_:Params):=gO "checked_takings" (AW 41) "zonewalk.together" 610 348
def o353(P:Params):Obj:=cP "check_parts" 632 "check_parts" 633 634 153 1 3 350 181 (.ref 351) .none .none .none (.ref 352) 635 153 636
def Vj(_:Params):=gO "check_parts" (AW 42) "zonewalk.together" 610 353
def o360(_:Params):=cO "all_watches" 638 639 640 161 1 3 355 181 356 357 358 359 644 161 645
def Vi(_:Params):=gO "all_watches" (AW 43) "zonewalk.together" 610 360
def o365(P:Params):Obj:=cP "all_takings" 647 "all_takings" 648 649 166 1 3 362 181 (.ref 363) .none .none .none (.ref 364) 650 166 651
def Vh(_:Params):=gO "all_takings" (AW 44) "zonewalk.together" 610 365
def o372(_:Params):=cO "whole_name" 653 654 655 176 1 3 367 181 368 369 370 371 657 176 658
def Vg(_:Params):=gO "whole_name" (AW 45) "zonewalk.together" 610 372
def o379(_:Params):=cO "whole_stay" 660 661 662 178 2 3 374 181 375 376 377 378 668 178 669
def Vf(_:Params):=gO "whole_stay" (AW 46) "zonewalk.together" 610 379
def o384(P:Params):Obj:=cP "whole_ways" 671 "whole_ways" 672 673 183 2 3 381 181 (.ref 382) .none .none .none (.ref 383) 674 183 675
def Ve(_:Params):=gO "whole_ways" (AW 47) "zonewalk.together" 610 384
def o391(_:Params):=cO "shares_of" 677 678 679 193 3 3 386 181 387 388 389 390 690 193 691
def Vd(_:Params):=gO "shares_of" (AW 48) "zonewalk.together" 610 391
def o396(P:Params):Obj:=cP "starts_from" 693 "starts_from" 694 695 206 3 3 393 181 (.ref 394) .none .none .none (.ref 395) 696 206 697
def Vc(_:Params):=gO "starts_from" (AW 49) "zonewalk.together" 610 396
def o403(_:Params):=cO "whole_door" 699 700 701 208 3 3 398 181 399 400 401 402 711 208 712
def Vb(_:Params):=gO "whole_door" (AW 50) "zonewalk.together" 610 403
def o410(_:Params):=cO "_law_cell_at" 716 717 718 219 2 3 405 181 406 407 408 409 721 219 722
def Va(_:Params):=gO "_law_cell_at" (AW 52) "law_zonewalk_k26_wholes_refused" 714 410
def o415(P:Params):Obj:=cP "_law_word" 724 "_law_word" 725 726 223 1 3 412 181 (.ref 413) .none .none .none (.ref 414) 727 223 728
def V9(_:Params):=gO "_law_word" (AW 53) "law_zonewalk_k26_wholes_refused" 714 415
def o422(_:Params):=cO "_law_said" 730 731 732 230 2 3 417 181 418 419 420 421 737 230 738
def V8(_:Params):=gO "_law_said" (AW 54) "law_zonewalk_k26_wholes_refused" 714 422
def o427(P:Params):Obj:=cP "_law_letters" 740 "_law_letters" 741 742 240 2 3 424 181 (.ref 425) .none .none .none (.ref 426) 743 240 744
def V7(_:Params):=gO "_law_letters" (AW 55) "law_zonewalk_k26_wholes_refused" 714 427
def o432(P:Params):Obj:=cP "_law_rooms" 746 "_law_rooms" 747 748 243 2 3 429 181 (.ref 430) .none .none .none (.ref 431) 749 243 750
def V6(_:Params):=gO "_law_rooms" (AW 56) "law_zonewalk_k26_wholes_refused" 714 432
def o437(P:Params):Obj:=cP "_law_plain" 752 "_law_plain" 753 754 247 3 3 434 181 (.ref 435) .none .none .none (.ref 436) 755 247 756
def V5(_:Params):=gO "_law_plain" (AW 57) "law_zonewalk_k26_wholes_refused" 714 437
def o444(_:Params):=cO "_law_no_list" 758 759 760 250 1 3 439 181 440 441 442 443 765 250 766
def V4(_:Params):=gO "_law_no_list" (AW 58) "law_zonewalk_k26_wholes_refused" 714 444
def o449(P:Params):Obj:=cP "_law_watched" 768 "_law_watched" 769 770 255 3 3 446 181 (.ref 447) .none .none .none (.ref 448) 771 255 772
def V3(_:Params):=gO "_law_watched" (AW 59) "law_zonewalk_k26_wholes_refused" 714 449
def o454(P:Params):Obj:=cP "_law_wide" 774 "_law_wide" 775 776 263 2 3 451 181 (.ref 452) .none .none .none (.ref 453) 777 263 778
def V2(_:Params):=gO "_law_wide" (AW 60) "law_zonewalk_k26_wholes_refused" 714 454
def o461(_:Params):=cO "_law_long" 780 781 782 265 2 3 456 181 457 458 459 460 786 265 787
def V1(_:Params):=gO "_law_long" (AW 61) "law_zonewalk_k26_wholes_refused" 714 461
def o468(_:Params):=cO "_law_doubles" 789 790 791 268 1 3 463 181 464 465 466 467 795 268 796
def V0(_:Params):=gO "_law_doubles" (AW 62) "law_zonewalk_k26_wholes_refused" 714 468
def o475(_:Params):=cO "_law_doored" 798 799 800 272 3 3 470 181 471 472 473 474 804 272 805
def VZ(_:Params):=gO "_law_doored" (AW 63) "law_zonewalk_k26_wholes_refused" 714 475
def o482(_:Params):=cO "_law_case" 807 808 809 274 1 3 477 181 478 479 480 481 813 274 814
def VY(_:Params):=gO "_law_case" (AW 64) "law_zonewalk_k26_wholes_refused" 714 482
def o489(_:Params):=cO "law" 816 817 818 308 1 3 484 181 485 486 487 488 824 308 825
def VX(_:Params):=gO "law" (AW 65) "law_zonewalk_k26_wholes_refused" 714 489
def Hx(P:Params):Frag:=[(2,o2 P),(3,o3 P),(22,o22 P),(29,o29 P),(30,o30 P),(31,o31 P),(32,o32 P),(35,o35 P),(42,o42 P),(43,o43 P),(44,o44 P),(47,o47 P),(54,o54 P),(55,o55 P),(56,o56 P),(59,o59 P),(66,o66 P),(67,o67 P),(68,o68 P),(71,o71 P),(85,o85 P),(86,o86 P),(87,o87 P),(90,o90 P),(97,o97 P),(98,o98 P),(99,o99 P),(102,o102 P),(109,o109 P),(110,o110 P),(111,o111 P),(114,o114 P),(121,o121 P),(122,o122 P),(123,o123 P),(126,o126 P),(133,o133 P),(134,o134 P),(135,o135 P),(138,o138 P),(145,o145 P),(146,o146 P),(147,o147 P),(155,o155 P),(156,WM P),(157,WL P),(158,WK P),(164,o164 P),(165,WJ P),(171,o171 P),(172,WI P),(176,o176 P),(177,WH P),(183,o183 P),(184,WG P),(188,o188 P),(189,WE P),(195,o195 P),(196,WD P),(200,o200 P),(201,WC P),(207,o207 P),(208,WB P),(214,o214 P),(215,WA P),(223,LC P),(229,o229 P),(230,Vz P),(236,o236 P),(237,Vy P),(243,o243 P),(244,Vx P),(245,o245 P),(246,o246 P),(247,o247 P),(248,o248 P),(249,o249 P),(262,o262 P),(263,Vw P),(269,o269 P),(270,Vv P),(276,o276 P),(277,Vu P),(283,o283 P),(284,Vt P),(290,o290 P),(291,Vs P),(299,o299 P),(300,Oi P),(301,Oh P),(302,o302 P),(303,o303 P),(309,o309 P),(310,Vr P),(316,o316 P),(317,Vq P),(321,o321 P),(322,Vp P),(328,o328 P),(329,Vo P),(333,o333 P),(334,Vn P),(338,o338 P),(339,Vm P),(343,o343 P),(344,Vl P),(348,o348 P),(349,Vk P),(353,o353 P),(354,Vj P),(360,o360 P),(361,Vi P),(365,o365 P),(366,Vh P),(372,o372 P),(373,Vg P),(379,o379 P),(380,Vf P),(384,o384 P),(385,Ve P),(391,o391 P),(392,Vd P),(396,o396 P),(397,Vc P),(403,o403 P),(404,Vb P),(410,o410 P),(411,Va P),(415,o415 P),(416,V9 P),(422,o422 P),(423,V8 P),(427,o427 P),(428,V7 P),(432,o432 P),(433,V6 P),(437,o437 P),(438,V5 P),(444,o444 P),(445,V4 P),(449,o449 P),(450,V3 P),(454,o454 P),(455,V2 P),(461,o461 P),(462,V1 P),(468,o468 P),(469,V0 P),(475,o475 P),(476,VZ P),(482,o482 P),(483,VY P),(489,o489 P),(490,VX P)]
noncomputable def fas:List Addr:=[2,3,22,29,30,31,32,35,42,43,44,47,54,55,56,59,66,67,68,71,85,86,87,90,97,98,99,102,109,110,111,114,121,122,123,126,133,134,135,138,145,146,147,155,156,157,158,164,165,171,172,176,177,183,184,188,189,195,196,200,201,207,208,214,215,223,229,230,236,237,243,244,245,246,247,248,249,262,263,269,270,276,277,283,284,290,291,299,300,301,302,303,309,310,316,317,321,322,328,329,333,334,338,339,343,344,348,349,353,354,360,361,365,366,372,373,379,380,384,385,391,392,396,397,403,404,410,411,415,416,422,423,427,428,432,433,437,438,444,445,449,450,454,455,461,462,468,469,475,476,482,483,489,490]
def vq:Program:={ pw with main:={ (pw).main with body:=[AW 65] } }
noncomputable def loo:List Str:=[Str.ofString "_wall",Str.ofString "WalkError",Str.ofString "NoNumber",Str.ofString "BadMachine",Str.ofString "TooMany",Str.ofString "NoRun",Str.ofString "NoMark",Str.ofString "NoRoad",Str.ofString "NoRoom",Str.ofString "NoText",Str.ofString "NoRow",Str.ofString "is_whole",Str.ofString "WORDS",Str.ofString "STAY_WORDS",Str.ofString "is_look",Str.ofString "is_number",Str.ofString "is_guard",Str.ofString "MOST_WATCHES",Str.ofString "MOST_ROOMS",Str.ofString "MOST_DOORS",Str.ofString "is_small_letter",Str.ofString "is_name",Str.ofString "is_watch_name",Str.ofString "is_room_name",Str.ofString "is_sign",Str.ofString "own_copy",Str.ofString "Door",Str.ofString "Machine",Str.ofString "check_watches",Str.ofString "are_unlike",Str.ofString "check_rooms",Str.ofString "check_doors",Str.ofString "are_noughts",Str.ofString "MOST_PARTS",Str.ofString "together",Str.ofString "shares",Str.ofString "checked_takings",Str.ofString "check_parts",Str.ofString "all_watches",Str.ofString "all_takings",Str.ofString "whole_name",Str.ofString "whole_stay",Str.ofString "whole_ways",Str.ofString "shares_of",Str.ofString "starts_from",Str.ofString "whole_door",Str.ofString "_law_cell_at",Str.ofString "_law_word",Str.ofString "_law_said",Str.ofString "_law_letters",Str.ofString "_law_rooms",Str.ofString "_law_plain",Str.ofString "_law_no_list",Str.ofString "_law_watched",Str.ofString "_law_wide",Str.ofString "_law_long",Str.ofString "_law_doubles",Str.ofString "_law_doored",Str.ofString "_law_case"]
abbrev hk:Hook:=kHook Hx fas (λ_=>by ext)
theorem zlq(w:World)(os:OsState):(go pw 4204 w os).map (λs=>K6 pw vq loo (xt OQ.row.toRowW vq) hk.obs (boot_heap w.params) s.abs)=some (true,openGood vq loo,hk.val w):=by ext
theorem left:LeftO pw vq loo (xt OQ.row.toRowW vq) hk.obs hk.val 8988 true:=zjv 8988 4204 (by ext) (by decide) (λs=>by ext) (by decide) zlq
theorem said:OQ.wellSaid=true:=zi6 (by ext)
abbrev fr(w:World):Frag:=Hx w.params
theorem all_mk{w:World}{h:Heap}{mg:Str->Option Value}{fa:Addr}(X:(Hx w.params).In h)(G:h.Ns mainGlobals mg)(hfa:mg "law"=some (.ref fa))
  : ∃fd:FuncData,(∀(s:Shared) (v:Value),BindsTo s fd ⟨[v],[]⟩ [("_law_script",v)])/\∀base:Heap,(Hx w.params).In base->base.Ns mainGlobals mg->FnOk pw w (Hx w.params) mg base HU 11 fa fd ["_law_script"] (K3 (Hx w.params)):=by
 have e:=hfa.symm.trans (mg_of X G (show nsIn (fr w) mainGlobals "law"=some (some (.ref 490)) by ext))
 cases e;have mK:∀(x:Str) (a:Addr),nsIn (fr w) mainGlobals x=some (some (.ref a))->mg x=some (.ref a):=λ_ _ e=>mg_of X G e
 have mC:∀(x:Str) (u:Value),nsIn (fr w) mainGlobals x=some (some u)->mg x=some u:=λ_ _ e=>mg_of X G e
 have mN:∀x:Str,nsIn (fr w) mainGlobals x=some none->mg x=none:=λ_ e=>mg_none_of X G e
 have kQ:Cls (fr w) BB:=⟨by ext,by ext,by ext,by ext⟩
 have kS:∀f∈B3,CJ (fr w) BB f:=(AJ (by unfold CJ;ext) (AJ (by unfold CJ;ext) (AJ (by unfold CJ;ext) (AJ (by unfold CJ;ext) (AJ (by unfold CJ;ext) AM)))))
 have kR:Cls (fr w) A4:=⟨by ext,by ext,by ext,by ext⟩
 have kT:∀f∈BG,CJ (fr w) A4 f:=(AJ (by unfold CJ;ext) (AJ (by unfold CJ;ext) (AJ (by unfold CJ;ext) AM)))
 let ca:Str->Value:=λc=>if c="BadMachine" then .ref 56 else if c="TooMany" then .ref 68 else if c="WalkError" then .ref 31 else if c="NoNumber" then .ref 44 else if c="NoMark" then .ref 99 else if c="NoRoad" then .ref 111 else if c="NoRoom" then .ref 123 else if c="NoText" then .ref 135 else if c="NoRow" then .ref 147 else .none
 have kJ:=mN "len" (by ext)
 have kE:=mN "all" (by ext)
 have kI:=mN "isinstance" (by ext)
 have kN:=mN "str" (by ext)
 have kH:=mN "int" (by ext)
 have kF:=mN "bool" (by ext)
 have kO:=mN "tuple" (by ext)
 have kK:=mN "list" (by ext)
 have kM:=mN "set" (by ext)
 have kP:=mN "zip" (by ext)
 have kG:=mN "enumerate" (by ext)
 have kL:=mN "range" (by ext)
 have yg:specialIn (fr w) (.builtin "object.__class__") "__get__"=some (some (.builtin "getset_descriptor.__get__"))/\takesIn (fr w) (.builtin "object.__class__")=some true:=⟨by ext,by ext⟩
 let kU:ECls (fr w) mg "BadMachine":=Fd yg 56 (mK _ _ (by ext)) (by ext)
 have kC:∃T:ECls (fr w) mg "BadMachine",ca "BadMachine"=.ref T.C:=⟨kU,by rfl⟩
 let kW:ECls (fr w) mg "TooMany":=Fd yg 68 (mK _ _ (by ext)) (by ext)
 have kD:∃T:ECls (fr w) mg "TooMany",ca "TooMany"=.ref T.C:=⟨kW,by rfl⟩
 let kX:ECls (fr w) mg "WalkError":=Fd yg 31 (mK _ _ (by ext)) (by ext)
 let kY:ECls (fr w) mg "NoNumber":=Fd yg 44 (mK _ _ (by ext)) (by ext)
 let kZ:ECls (fr w) mg "NoMark":=Fd yg 99 (mK _ _ (by ext)) (by ext)
 let q9:ECls (fr w) mg "NoRoad":=Fd yg 111 (mK _ _ (by ext)) (by ext)
 let qA:ECls (fr w) mg "NoRoom":=Fd yg 123 (mK _ _ (by ext)) (by ext)
 let qB:ECls (fr w) mg "NoText":=Fd yg 135 (mK _ _ (by ext)) (by ext)
 let qC:ECls (fr w) mg "NoRow":=Fd yg 147 (mK _ _ (by ext)) (by ext)
 have eK:∀C∈[31,44,56,68,99,111,123,135,147],ExcK (fr w) C:=(AJ kX.k (AJ kY.k (AJ kU.k (AJ kW.k (AJ kZ.k (AJ q9.k (AJ qA.k (AJ qB.k (AJ qC.k AM)))))))));have F17:=EY (st:=Kg) (show(fr w).lookup 230=some (Vz w.params) by ext) (show codeIn (fr w) (.ref 229) "Door.__init__"=true by ext) (by ext)
 have F18:=EY (st:=Kc) (show(fr w).lookup 263=some (Vw w.params) by ext) (show codeIn (fr w) (.ref 262) "Machine.__init__"=true by ext) (by ext)
 have F19:=EY (st:=K9) (show(fr w).lookup 270=some (Vv w.params) by ext) (show codeIn (fr w) (.ref 269) "Machine.watches"=true by ext) (by ext)
 have F20:=EY (st:=Kb) (show(fr w).lookup 277=some (Vu w.params) by ext) (show codeIn (fr w) (.ref 276) "Machine.rooms"=true by ext) (by ext)
 have F21:=EY (st:=Ke) (show(fr w).lookup 284=some (Vt w.params) by ext) (show codeIn (fr w) (.ref 283) "Machine.doors"=true by ext) (by ext)
 have F22:=EY (st:=Ka) (show(fr w).lookup 291=some (Vs w.params) by ext) (show codeIn (fr w) (.ref 290) "Machine.stay"=true by ext) (by ext)
 have F23:=EY (st:=Kh) (show(fr w).lookup 237=some (Vy w.params) by ext) (show codeIn (fr w) (.ref 236) "Door.asks"=true by ext) (by ext)
 have F24:=EY (st:=Kf) (show(fr w).lookup 244=some (Vx w.params) by ext) (show codeIn (fr w) (.ref 243) "Door.sets"=true by ext) (by ext)
 have F47:=EY (st:=Ik) (show(fr w).lookup 416=some (V9 w.params) by ext) (show codeIn (fr w) (.ref 415) "_law_word"=true by ext) (by ext)
 let T47:Tx (fr w) mg "_law_word" Ik ["_law_e"]:=⟨_,_,F47,mK "_law_word" 416 (by ext),.all (Bj λ_=>rfl)⟩
 have F49:=EY (st:=Ii) (show(fr w).lookup 490=some (VX w.params) by ext) (show codeIn (fr w) (.ref 489) "law"=true by ext) (by ext)
 let T49:Tx (fr w) mg "law" Ii ["_law_script"]:=⟨_,_,F49,mK "law" 490 (by ext),.all (Bj λ_=>rfl)⟩
 refine⟨T49.fd,λs v=>.of_eq rfl,λbase _ _=>?_⟩
 have q:Qx pw w (fr w) mg base ca:=⟨mK⟩;let D1:=BM q (f:=Lx) (o:=Va w.params) 411 (.all (EJ λ_ _=>rfl)) zco zd5 (AJ kJ AM) Av Ar
 let D2:=BM q (f:=Lp) (o:=WG w.params) 184 (.all (Bj λ_=>rfl)) za0 za4 AM Av Ar
 let D3:=BM q (f:=Lr) (o:=WE w.params) 189 (.all (Bj λ_=>rfl)) zdb zdr (AJ kJ (AJ kE AM)) (A7 (by decide) D2 Av) Ar
 let D4:=BM q (f:=Lo) (o:=WD w.params) 196 (.all (Bj λ_=>rfl)) za7 zae (AJ kI (AJ kN AM)) (A7 (by decide) D3 Av) Ar
 let D5:=BM q (f:=Lq) (o:=WC w.params) 201 (.all (Bj λ_=>rfl)) zai zaq (AJ kI (AJ kN (AJ kJ (AJ kE AM)))) (A7 (by decide) D2 Av) Ar
 let D6:=BM q (f:=Qd) (o:=WM w.params) 156 (.all (Bj λ_=>rfl)) zci zcz (AJ kI (AJ kH (AJ kF AM))) Av Ar
 let D7:=BM q (f:=Qf) (o:=WI w.params) 172 (.all (Bj λ_=>rfl)) zbx zca AM (A7 (by decide) D6 Av) Ar
 let D8:=BM q (f:=Qg) (o:=WJ w.params) 165 (.all (FC λ_ _ _=>rfl)) zdc zds (AJ kI (AJ kO (AJ kJ AM))) (A7 (by decide) D7 Av) Ar
 let D9:=BM q (f:=Ls) (o:=WH w.params) 177 (.all (FC λ_ _ _=>rfl)) zcj zd0 (AJ kI (AJ kK (AJ kE AM))) (A7 (by decide) D8 Av) Ar (hce:=(AJ (by rfl) (AJ (by rfl) AM)))
 let D10:=BM q (f:=HE) (o:=Vq w.params) 317 (.all (Bj λ_=>rfl)) zbi zbs (AJ kJ (AJ kM AM)) Av Ar
 let D11:=BM q (f:=Qh) (o:=Vr w.params) 310 (.all (Bj λ_=>rfl)) za8 zaf (AJ kI (AJ kK (AJ kJ (AJ kE AM)))) (A7 (by decide) D4 (A7 (by decide) D10 Av)) (Ar (co:=(B9 ⟨(.int (7) 411),(.int 7),mC _ _ (by ext),⟨_,rfl⟩,λF=>.int _⟩ Bx))) (hex:=(AJ kC AM))
 let D12:=BM q (f:=Qi) (o:=Vp w.params) 322 (.all (EJ λ_ _=>rfl)) zau zb7 (AJ kI (AJ kK (AJ kJ (AJ kO AM)))) (A7 (by decide) D5 (A7 (by decide) D9 (A7 (by decide) D10 Av))) (Ar (co:=(B9 ⟨_,.ref 158,mK _ 158 (by ext),rfl,λF=>A9.of_node (k:=.rt) (xs:=[.str "<",.str "<="]) (.inr ⟨WK w.params,_,_,by ext,rfl,rfl,by decide,(.cons ⟨_,rfl⟩ (.cons ⟨_,rfl⟩ .nil))⟩) (OV ["<","<="])⟩ Bx))) (hex:=(AJ kC AM))
 let D13:=BM q (f:=Ql) (o:=Vn w.params) 334 (.all (EJ λ_ _=>rfl)) zax zba (AJ kI (AJ kK (AJ kE AM))) (A7 (by decide) D4 (A7 (by decide) D10 Av)) Ar (hce:=(AJ (by rfl) AM))
 let D14:=BM q (f:=Qe) (o:=WB w.params) 208 (.all (Bj λ_=>rfl)) zda zdq (AJ kI (AJ kN AM)) (A7 (by decide) D3 Av) Ar
 let D15:=BM q (f:=Qc) (o:=WA w.params) 215 (.all (Bj λ_=>rfl)) zch zcy (AJ kI (AJ kK AM)) Av Ar
 let D16:=BM q (f:=Qk) (o:=Vo w.params) 329 (.all (FC λ_ _ _=>rfl)) zaw zb9 (AJ kI (AJ kK AM)) (A7 (by decide) D9 (A7 (by decide) D13 (A7 (by decide) D14 Av))) (Ar (co:=(B9 ⟨_,.ref 157,mK _ 157 (by ext),rfl,λF=>A9.of_node (k:=.rt) (xs:=[.str "<",.str "<=",.str ">",.str ">=",.str "="]) (.inr ⟨WL w.params,_,_,by ext,rfl,rfl,by decide,(.cons ⟨_,rfl⟩ (.cons ⟨_,rfl⟩ (.cons ⟨_,rfl⟩ (.cons ⟨_,rfl⟩ (.cons ⟨_,rfl⟩ .nil)))))⟩) (OV ["<","<=",">",">=","="])⟩ Bx)) (cl:=(AJ ⟨kQ,kS⟩ AM)) (ci:=(B9 ⟨247,mK _ _ (by ext),(B9 ⟨⟨kQ,by ext,by ext,by ext,by ext⟩,by ext⟩ (B9 ⟨⟨kR,by ext,by ext,by ext,by ext⟩,by ext⟩ Bx)),by ext⟩ Bx))) (hex:=(AJ kC AM))
 have K17:FnOk pw w (fr w) mg base (Bn pw w) 2 _ _ ["self","start","end","guard","noughts","sign"] (Fp (fr w) ca BB HR):=YD (C:=BB) (fs:=B3) (n:=200) (Γ:=Q1) F17 zbz rfl rfl AM rfl AM (A7 (by decide) D15 Av) AM Ej rfl (Ar (sf:=(λC fs h=>by cases h;exact⟨kQ,kS⟩))) zcc
 let D17:NewX pw w (fr w) mg base "Door" BB 2 ["self","start","end","guard","noughts","sign"] (Fp (fr w) ca BB HR):=⟨_,_,mK "Door" 247 (by ext),⟨by ext,by ext,by ext,by ext⟩,K17⟩
 have E17:Dg (fr w) D17.fd ["self","start","end","guard","noughts","sign"] []:=λs us X hl=>match us,hl with|[_,_,_,_,_,_],_=>binds_K X rfl (show(fr w).lookup 223=some (LC w.params) by ext) rfl rfl rfl
 have K18:FnOk pw w (fr w) mg base (Bn pw w) 6 _ _ ["self","watches","rooms","doors"] (Fp (fr w) ca A4 HN):=YD (C:=A4) (fs:=BG) (n:=200) (Γ:=QX) F18 zak rfl rfl AM rfl (AJ kJ (AJ kK AM)) (A7 (by decide) D11 (A7 (by decide) D12 (A7 (by decide) D16 Av))) (AJ kD AM) Ej rfl (Ar (co:=(B9 ⟨(.int (64) 413),(.int 64),mC _ _ (by ext),⟨_,rfl⟩,λF=>.int _⟩ (B9 ⟨(.int (200) 415),(.int 200),mC _ _ (by ext),⟨_,rfl⟩,λF=>.int _⟩ Bx))) (sf:=(λC fs h=>by cases h;exact⟨kR,kT⟩))) zas
 let D18:NewX pw w (fr w) mg base "Machine" A4 6 ["self","watches","rooms","doors"] (Fp (fr w) ca A4 HN):=⟨_,_,mK "Machine" 301 (by ext),⟨by ext,by ext,by ext,by ext⟩,K18⟩
 have E18:Dg (fr w) D18.fd ["self","watches","rooms","doors"] []:=.all (us4 λ_ _ _ _=>rfl)
 have K19:FnOk pw w (fr w) mg base (Bn pw w) 1 _ _ ["self"] (BJ (fr w) ca HJ):=GP (n:=200) (Γ:=QU) F19 za2 rfl rfl AM rfl (AJ kK AM) Av AM Ej rfl (Ar (cl:=(AJ ⟨kR,kT⟩ AM))) za6;let D19:MetX pw w (fr w) mg base A4 "watches" 1 ["self"] (BJ (fr w) ca HJ):=⟨_,_,kR,⟨by ext,by ext,by ext⟩,K19,.all (Bj λ_=>rfl)⟩
 have K20:FnOk pw w (fr w) mg base (Bn pw w) 1 _ _ ["self"] (BJ (fr w) ca HM):=GP (n:=200) (Γ:=QW) F20 za9 rfl rfl AM rfl (AJ kK AM) Av AM Ej rfl (Ar (cl:=(AJ ⟨kR,kT⟩ AM))) zag;let D20:MetX pw w (fr w) mg base A4 "rooms" 1 ["self"] (BJ (fr w) ca HM):=⟨_,_,kR,⟨by ext,by ext,by ext⟩,K20,.all (Bj λ_=>rfl)⟩
 have K21:FnOk pw w (fr w) mg base (Bn pw w) 1 _ _ ["self"] (BJ (fr w) ca Fj):=GP (n:=200) (Γ:=QY) F21 zaa rfl rfl AM rfl (AJ kK AM) Av AM Ej rfl (Ar (cl:=(AJ ⟨kR,kT⟩ AM))) zah;let D21:MetX pw w (fr w) mg base A4 "doors" 1 ["self"] (BJ (fr w) ca Fj):=⟨_,_,kR,⟨by ext,by ext,by ext⟩,K21,.all (Bj λ_=>rfl)⟩
 have K22:FnOk pw w (fr w) mg base (Bn pw w) 1 _ _ ["self","room"] (BJ (fr w) ca HL):=GP (n:=200) (Γ:=QV) F22 zaj rfl rfl AM rfl (AJ kK AM) Av AM Ej rfl (Ar (cl:=(AJ ⟨kR,kT⟩ AM))) zar;let D22:MetX pw w (fr w) mg base A4 "stay" 1 ["self","room"] (BJ (fr w) ca HL):=⟨_,_,kR,⟨by ext,by ext,by ext⟩,K22,.all (EJ λ_ _=>rfl)⟩
 have K23:FnOk pw w (fr w) mg base (Bn pw w) 1 _ _ ["self"] (BJ (fr w) ca IV):=GP (n:=200) (Γ:=Q2) F23 zc0 rfl rfl AM rfl (AJ kK AM) Av AM Ej rfl (Ar (cl:=(AJ ⟨kQ,kS⟩ AM))) zcd;let D23:MetX pw w (fr w) mg base BB "asks" 1 ["self"] (BJ (fr w) ca IV):=⟨_,_,kQ,⟨by ext,by ext,by ext⟩,K23,.all (Bj λ_=>rfl)⟩
 have K24:FnOk pw w (fr w) mg base (Bn pw w) 1 _ _ ["self"] (BJ (fr w) ca IU):=GP (n:=200) (Γ:=Q0) F24 zby rfl rfl AM rfl (AJ kK AM) Av AM Ej rfl (Ar (cl:=(AJ ⟨kQ,kS⟩ AM))) zcb;let D24:MetX pw w (fr w) mg base BB "sets" 1 ["self"] (BJ (fr w) ca IU):=⟨_,_,kQ,⟨by ext,by ext,by ext⟩,K24,.all (Bj λ_=>rfl)⟩
 let D25:=BM q (f:=Lv) (o:=Vi w.params) 361 (.all (Bj λ_=>rfl)) zay zbb AM Av (Ar (mt:=(AJ ⟨by decide,⟨D19⟩⟩ AM)))
 let D26:=BM q (f:=Qj) (o:=Vj w.params) 354 (.all (Bj λ_=>rfl)) zav zb8 (AJ kI (AJ kK (AJ kJ (AJ kE AM)))) (A7 (by decide) D25 (A7 (by decide) D10 Av)) (Ar (co:=(B9 ⟨(.int (6) 612),(.int 6),mC _ _ (by ext),⟨_,rfl⟩,λF=>.int _⟩ (B9 ⟨(.int (7) 411),(.int 7),mC _ _ (by ext),⟨_,rfl⟩,λF=>.int _⟩ Bx))) (ci:=(B9 ⟨301,mK _ _ (by ext),(B9 ⟨⟨kQ,by ext,by ext,by ext,by ext⟩,by ext⟩ (B9 ⟨⟨kR,by ext,by ext,by ext,by ext⟩,by ext⟩ Bx)),by ext⟩ Bx)) (ti:=(AJ ⟨⟨kR,by ext,by ext,by ext,by ext⟩,by ext,Oh w.params,Oi w.params,300,by ext,⟨_,_,_,_,_,_,_,_,_,_,_,_,_,_,_,rfl⟩,by ext,by ext⟩ AM))) (hex:=(AJ kC AM))
 let D27:=BM q (f:=Qm) (o:=Vh w.params) 366 (.all (Bj λ_=>rfl)) zaz zbc (AJ kJ AM) Av (Ar (co:=(B9 ⟨(.int (64) 413),(.int 64),mC _ _ (by ext),⟨_,rfl⟩,λF=>.int _⟩ Bx)) (mt:=(AJ ⟨by decide,⟨D20⟩⟩ AM))) (hce:=(AJ (by rfl) AM)) (hex:=(AJ kD AM))
 let D28:=BM q (f:=JW) (o:=Vg w.params) 373 (.all (Bj λ_=>rfl)) zbg zbq AM Av Ar
 let D29:=BM q (f:=Lu) (o:=Vk w.params) 349 (.all (Bj λ_=>rfl)) za1 za5 (AJ kE AM) (A7 (by decide) D26 (A7 (by decide) D27 (A7 (by decide) D28 (A7 (by decide) D10 (A7 (by decide) D5 Av))))) Ar (hex:=(AJ kC AM))
 let D30:=BM q (f:=Q8) (o:=Vf w.params) 380 (.all (EJ λ_ _=>rfl)) zbf zbp (AJ kP AM) Av (Ar (mt:=(AJ ⟨by decide,⟨D22⟩⟩ AM)))
 let D31:=BM q (f:=Q9) (o:=Vb w.params) 404 (.all (FC λ_ _ _=>rfl)) zbh zbr (AJ kK AM) (A7 (by decide) D28 Av) (Ar (cl:=(AJ ⟨kQ,kS⟩ AM)) (mt:=(AJ ⟨by decide,⟨D21⟩⟩ (AJ ⟨by decide,⟨D23⟩⟩ (AJ ⟨by decide,⟨D24⟩⟩ AM)))) (nw:=(LG ⟨by decide,BB,D17,(B9 ⟨[.str ""],[.str (Str.ofString "") 469],(λs us X hl=>Sy (P:=λus=>BindsTo s _ ⟨us,[]⟩ (List.zip _ (us++_))) (λ_ _ _ _ _=>binds_K X rfl (show(fr w).lookup 223=some (LC w.params) by ext) rfl rfl rfl) us (by simpa using hl)),.cons ⟨_,rfl⟩ .nil,λF=>.cons (H:=F) (.str _) .nil⟩ Bx)⟩ LD)))
 let D32:=BM q (f:=Qb) (o:=Vd w.params) 392 (.all (FC λ_ _ _=>rfl)) zbw zc9 (AJ kG AM) Av (Ar (cl:=(AJ ⟨kQ,kS⟩ AM)))
 let D33:=BM q (f:=Qa) (o:=Vc w.params) 397 (.all (FC λ_ _ _=>rfl)) zat zb6 (AJ kE AM) Av (Ar (cl:=(AJ ⟨kQ,kS⟩ AM))) (hce:=(AJ (by rfl) (AJ (by rfl) AM)))
 let D34:=BM q (f:=Ll) (o:=Ve w.params) 385 (.all (EJ λ_ _=>rfl)) zbe zbo (AJ kG (AJ kL (AJ kJ AM))) (A7 (by decide) D32 (A7 (by decide) D33 Av)) (Ar (co:=(B9 ⟨(.int (200) 415),(.int 200),mC _ _ (by ext),⟨_,rfl⟩,λF=>.int _⟩ Bx)) (mt:=(AJ ⟨by decide,⟨D21⟩⟩ AM))) (hce:=(AJ (by rfl) (AJ (by rfl) AM))) (hex:=(AJ kD AM))
 let D35:=BM q (f:=Lm) (o:=Vm w.params) 339 (.all (Bj λ_=>rfl)) zcg zcx AM (A7 (by decide) D29 (A7 (by decide) D28 (A7 (by decide) D30 (A7 (by decide) D34 (A7 (by decide) D31 (A7 (by decide) D25 Av)))))) (Ar (nw:=(LG ⟨by decide,A4,D18,(B9 ⟨[],[],E18,.nil,λ_=>.nil⟩ Bx)⟩ LD))) (hce:=(AJ (by rfl) AM))
 let D36:=BM q (f:=Ln) (o:=Vl w.params) 344 (.all (Bj λ_=>rfl)) ze4 zey (AJ kK AM) (A7 (by decide) D29 (A7 (by decide) D34 Av)) Ar
 let D37:=BM q (f:=Fb) (o:=V5 w.params) 438 (.all (FC λ_ _ _=>rfl)) ze6 zf0 (AJ kL (AJ kJ AM)) Av (Ar (nw:=(LG ⟨by decide,BB,D17,(B9 ⟨[.str ""],[.str (Str.ofString "") 469],(λs us X hl=>Sy (P:=λus=>BindsTo s _ ⟨us,[]⟩ (List.zip _ (us++_))) (λ_ _ _ _ _=>binds_K X rfl (show(fr w).lookup 223=some (LC w.params) by ext) rfl rfl rfl) us (by simpa using hl)),.cons ⟨_,rfl⟩ .nil,λF=>.cons (H:=F) (.str _) .nil⟩ Bx)⟩ (LG ⟨by decide,A4,D18,(B9 ⟨[],[],E18,.nil,λ_=>.nil⟩ Bx)⟩ LD)))) (hce:=(AJ (by rfl) AM))
 let D38:=BM q (f:=Hz) (o:=V7 w.params) 428 (.all (EJ λ_ _=>rfl)) zcm zd3 (AJ kL AM) Av Ar (hce:=(AJ (by rfl) (AJ (by rfl) AM)))
 let D39:=BM q (f:=JX) (o:=V6 w.params) 433 (.all (EJ λ_ _=>rfl)) ze5 zez (AJ kL AM) (A7 (by decide) D38 Av) Ar (hce:=(AJ (by rfl) (AJ (by rfl) AM)))
 let D40:=BM q (f:=Qo) (o:=V2 w.params) 455 (.all (EJ λ_ _=>rfl)) zfq zh6 AM (A7 (by decide) D37 (A7 (by decide) D39 Av)) Ar (hce:=(AJ (by rfl) AM))
 let D41:=BM q (f:=Qu) (o:=VZ w.params) 476 (.all (FC λ_ _ _=>rfl)) zdd zdt AM (A7 (by decide) D37 (A7 (by decide) D39 Av)) Ar
 let D42:=BM q (f:=Qt) (o:=V0 w.params) 469 (.all (Bj λ_=>rfl)) zcn zd4 AM (A7 (by decide) D38 (A7 (by decide) D37 Av)) Ar
 let D43:=BM q (f:=Qs) (o:=V1 w.params) 462 (.all (EJ λ_ _=>rfl)) zfs zh8 (AJ kJ AM) (A7 (by decide) D38 (A7 (by decide) D37 Av)) Ar
 let D44:=BM q (f:=Qp) (o:=V3 w.params) 450 (.all (FC λ_ _ _=>rfl)) zck zd1 (AJ kL AM) (A7 (by decide) D38 (A7 (by decide) D37 Av)) Ar (hce:=(AJ (by rfl) AM))
 let D45:=BM q (f:=Qr) (o:=V4 w.params) 445 (.all (Bj λ_=>rfl)) zcl zd2 AM (A7 (by decide) D37 (A7 (by decide) D39 Av)) Ar
 let D46:=BM q (f:=Qv) (o:=VY w.params) 483 (.all (Bj λ_=>rfl)) zft zh9 AM (A7 (by decide) D1 (A7 (by decide) D45 (A7 (by decide) D44 (A7 (by decide) D40 (A7 (by decide) D43 (A7 (by decide) D42 (A7 (by decide) D41 (A7 (by decide) D37 Av)))))))) Ar
 let D47:DefS pw w (fr w) mg base 1 "_law_word" "_law_e" (BJ (fr w) ca Jf):=⟨T47.f,T47.fd,fnB (n:=200) (Γ:=QZ) T47.F zfp rfl rfl rfl (AJ kI (AJ kJ AM)) (Ar (sb:=(B9 ⟨56,mK _ _ (by ext),E8 eK (by ext)⟩ (B9 ⟨68,mK _ _ (by ext),E8 eK (by ext)⟩ (B9 ⟨99,mK _ _ (by ext),E8 eK (by ext)⟩ (B9 ⟨44,mK _ _ (by ext),E8 eK (by ext)⟩ (B9 ⟨111,mK _ _ (by ext),E8 eK (by ext)⟩ (B9 ⟨123,mK _ _ (by ext),E8 eK (by ext)⟩ (B9 ⟨147,mK _ _ (by ext),E8 eK (by ext)⟩ (B9 ⟨87,mK _ _ (by ext),E8 eK (by ext)⟩ (B9 ⟨135,mK _ _ (by ext),E8 eK (by ext)⟩ Bx)))))))))) (sv:=(B9 ⟨mN "ValueError" (by ext),"ValueError",by ext,E8 eK (by ext)⟩ Bx))) zh5,T47.m,T47.F.kp,T47.b⟩
 let D48:=BM q (f:=Qq) (o:=V8 w.params) 423 (.all (EJ λ_ _=>rfl)) zfr zh7 AM (A7 (by decide) D35 (A7 (by decide) D36 Av)) (Ar (xs:=(B9 (xs_of kX (by ext)) Bx)) (wd:=(B9 ⟨by decide,"_law_e",rfl,⟨D47⟩⟩ Bx)))
 have K49:FnOk pw w (fr w) mg base (Bn pw w) 11 T49.f T49.fd ["_law_script"] (BJ (fr w) ca M1):=GP (n:=200) (Γ:=QT) T49.F zlj rfl rfl AM rfl (AJ kI (AJ kK (AJ kJ AM))) (A7 (by decide) D46 (A7 (by decide) D1 (A7 (by decide) (RI D48) (A7 (by decide) (RI D36) (A7 (by decide) (RI D35) Av))))) AM Ej rfl (Ar (mt:=(AJ ⟨by decide,⟨D21⟩⟩ AM)) (ti:=(AJ ⟨⟨kR,by ext,by ext,by ext,by ext⟩,by ext,Oh w.params,Oi w.params,300,by ext,⟨_,_,_,_,_,_,_,_,_,_,_,_,_,_,_,rfl⟩,by ext,by ext⟩ AM))) zo6
 exact znd K49 λns h=>law_true ns h
theorem walk{l:PySem.W.OpenLaw}{q:Program}{loose:List Str}{XP:(Str->Option Value)->Heap->Prop}{YP:World->Heap->Prop}{d:DefRec}{K:Params->kA}(hn:l.most=some 63)(hdf:d.params.defaults=[])
  (hY:∀(w:World) (h:Heap),YP w h->(K w.params).In h)
  (F : ∀ (w : World) (mg : Str -> Option Value) (fa : Addr) (h : Heap), (K w.params).In h -> h.Ns mainGlobals mg -> mg d.name = some (.ref fa) ->
   ∃fd:FuncData,(∀(s:Shared) (u:Value),BindsTo s fd ⟨[u],[]⟩ [("_law_script",u)])/\∀base:Heap,(K w.params).In base->base.Ns mainGlobals mg->FnOk l.prog w (K w.params) mg base HU 11 fa fd ["_law_script"] (K3 (K w.params))) :
  PySem.W.WalkO q loose XP YP l.row.toRowW d [] (λf vs=>PySem.call f vs) :=
 L2.walk_of (n:=63) (k:=11) (x:="_law_script") (CX:=λ_=>HU) (sp:=λw=>K3 (K w.params)) hn (by decide) hdf ⟨rfl,by decide,by decide⟩ hY F (λ_ _ a ns hl _ hS=>⟨a,ns,rfl,hS,hl,λ_=>rfl⟩) λ_ _ _ _ _ z=>z
end Zl
open PySem PySem.W PyProof.Rows
set_option maxRecDepth 100000 in
set_option maxHeartbeats 0 in
theorem PySem.Challenge.cw_zonewalk_k26_wholes_refused_holds : PySem.Challenge.rw_zonewalk_k26_wholes_refused.Holds := by
 refine holds_law Zl.said λs=>?_
 refine holds_open (q:=Zl.vq) (loose:=Zl.loo) (Xt:=Hd.xt PySem.Challenge.rw_zonewalk_k26_wholes_refused.row.toRowW Zl.vq) (XP:=XL Zl.vq []) (Yf:=Zl.hk.obs) (Ya:=Zl.hk.val) (YP:=Zl.hk.says) Zl.left Zl.hk.of Zl.hk.keeps (λs e=>xl_of s (Bool.and_eq_true_iff.mp e).1) XL.keeps (by rfl) (by rfl) (by rfl) (λs e=>recFacts_of (Bool.and_eq_true_iff.mp e).2) (by rfl) s (by decide +kernel) ⟨rfl,rfl,rfl,rfl,rfl,by decide +kernel⟩ ?hw ?hc
 case hw=>w_witness2
 case hc=>exact Zl.walk (l:=PySem.Challenge.rw_zonewalk_k26_wholes_refused) rfl rfl (λw h Y=>kIn_of Y) λw mg fa h X G e=>Zl.all_mk X G e
end
