import PyProof.Rows.All
import Wide.All
import OpenK.AllK
import Wide.FinOn
import Lean
import PyProof.EqAt
import PyProof.EqKinds
import PyProof.TupleCall
import PySem.Challenge.RW_zonewalk_k83_runs_and_claims_as_text
set_option compiler.extract_closed false
set_option linter.all false
def ya0:=@Option.map_eq_some_iff
def ya1:=@Bool.and_eq_true
def ya2:=@List.getElem?_eq_getElem
def ya3:=@List.mem_cons
def ya4:=@List.length_map
def ya5:=@List.mem_cons_of_mem
def ya6:=@List.mem_cons_self
def ya7:=@List.getElem?_eq_some_iff
def ya8:=@List.mem_singleton
def ya9:=@PySem.Heap.get?_push_of_some
def yaa:=@List.length_cons
def yab:=@Nat.le_refl
def yac:=@PySem.Heap.lt_size
def yad:=@List.map_cons
def yae:=@List.getElem?_map
def yaf:=@List.size_toArray
def yag:=@List.length_append
def yah:=@Nat.lt_of_lt_of_le
def yai:=@PySem.Heap.get?_push_size
def yaj:=@List.mem_append_right
def yak:=@List.getElem?_set_ne
def yal:=@Nat.le_trans
def yam:=@List.getElem?_set_self
def yan:=@Bool.eq_false_iff
def yao:=@Nat.ne_of_lt
def yap:=@List.getElem?_append_left
def yaq:=@List.lookup_cons
def yar:=@List.getElem?_append_right
def yas:=@List.mem_append
def yat:=@Ne.symm
def yau:=@Nat.lt_irrefl
def yav:=@List.contains_iff_mem
def yaw:=@Nat.le_of_eq
def yax:=@Option.some.inj
def yay:=@List.mem_map
def yaz:=@List.all_eq_true
def yb0:=@List.flatten_cons
def yb1:=@List.append_assoc
def yb2:=@PyProof.Rows.callWith_type1
def yb3:=@Nat.lt_trans
def yb4:=@Bool.false_ne_true
def yb5:=@PySem.W.kia_one
def yb6:=@Int.fmod_nonneg_of_pos
def yb7:=@List.cons_ne_nil
def yb8:=@Bool.not_eq_true'
def yb9:=@List.not_mem_nil
def yba:=@List.map_map
def ybb:=@Nat.zero_le
def ybc:=@List.replicate_succ
def ybd:=@List.getElem?_eq_none
def ybe:=@Bool.or_eq_false_iff
def ybf:=@Bool.or_eq_true
def ybg:=@PySem.mem_of_lookup
def ybh:=@List.findIdx?_eq_some_iff_getElem
def ybi:=@List.getD_eq_getElem?_getD
def ybj:=@Int.fmod_lt_of_pos
def ybk:=@Array.getElem?_eq_getElem
def ybl:=@List.append_nil
def ybm:=@List.mem_of_getElem?
def ybn:=@Option.map_some
def ybo:=@Bool.eq_iff_iff
def ybp:=@List.cons.inj
def ybq:=@PySem.W.hideAll_get
def ybr:=@PySem.Heap.size_push
def ybs:=@Nat.lt_succ_self
def ybt:=@PySem.Heap.get?_update_other
def ybu:=@Nat.le_succ
def ybv:=@List.mem_filterMap
def ybw:=@Int.natCast_nonneg
def ybx:=@List.length_nil
def yby:=@Array.getElem?_toList
def ybz:=@Array.getElem?_eq_some_iff
def yc0:=@Nat.lt_succ_of_lt
def yc1:=@List.mem_append_left
def yc2:=@List.drop_eq_getElem_cons
def yc3:=@List.length_take
def yc4:=@PySem.F.slot_str_getitem
def yc5:=@Nat.add_sub_cancel_left
def yc6:=@Int.eq_ofNat_of_zero_le
def yc7:=@PySem.W.of_hideAll
def yc8:=@List.find?_cons
def yc9:=@Bool.false_eq_true
def yca:=@PySem.F.plainAttrs_str
def ycb:=@PySem.F.slot_str_split
def ycc:=@Int.toNat_natCast
def ycd:=@Int.le_of_lt
def yce:=@Bool.true_or
def ycf:=@PySem.F.slot_str_join
def ycg:=@PySem.Around.under_plainId
def ych:=@Int.fdiv_eq_ediv_of_nonneg
def yci:=@List.map_append
def ycj:=@Nat.lt_of_le_of_lt
def yck:=@PySem.Calls.spliced_cons
def ycl:=@PySem.W.callWith_K
def ycm:=@Option.isSome_iff_exists
def ycn:=@List.zip_cons_cons
def yco:=@PySem.F.called_set
def ycp:=@PySem.F.args_str_split_2
def ycq:=@Bool.false_and
def ycr:=@List.getElem?_replicate
def ycs:=@List.getElem?_cons_succ
def yct:=@PyProof.Rows.F.plain_set_update_loop
def ycu:=@PySem.F.entry_str_split
def ycv:=@PySem.Calls.spliced_nil
def ycw:=@Option.some.injEq
def ycx:=@PyProof.V.reads_dictOf
def ycy:=@PyProof.Rows.boot_list
def ycz:=@List.take_of_length_le
def yd0:=@Bool.or_false
def yd1:=@List.length_drop
def yd2:=@List.getElem_mem
def yd3:=@List.isEmpty_iff
def yd4:=@List.length_replicate
def yd5:=@List.length_singleton
def yd6:=@PySem.W.hideAll_none
def yd7:=@Nat.le_of_lt
def yd8:=@List.nodup_cons
def yd9:=@List.length_set
def yda:=@PySem.Calls.evalArgs_plain
def ydb:=@Nat.succ_mul
def ydc:=@List.nil_append
def ydd:=@Int.mul_le_mul_of_nonneg_right
def yde:=@List.drop_left'
def ydf:=@Int.mul_le_mul_of_nonneg_left
def ydg:=@List.filterMap_cons
def ydh:=@Array.length_toList
def ydi:=@PySem.W.plainGet_of
def ydj:=@PySem.SeqAt.in_list_reads
def ydk:=@List.getElem?_range
def ydl:=@Int.toNat_of_nonneg
def ydm:=@List.map_eq_nil_iff
def ydn:=@Int.lt_of_lt_of_le
def ydo:=@Array.append_assoc
def ydp:=@List.getElem?_drop
def ydq:=@List.findIdx?_cons
def ydr:=@PySem.Paired.length
def yds:=@List.any_cons
def ydt:=@Bool.false_or
def ydu:=@List.sum_cons
def ydv:=@Bool.and_true
def ydw:=@PySem.W.kitx_dict
def ydx:=@List.reverse_cons
def ydy:=@List.ext_getElem?
def ydz:=@Bool.or_true
def ye0:=@List.drop_length
def ye1:=@PySem.Txt.slice_le
def ye2:=@Nat.le_add_right
def ye3:=@Int.ofNat_le
set_option Elab.async false
set_option linter.all false
set_option maxRecDepth 100000
set_option genSizeOf false
local macro_rules
  |`(tactic| omega)=>`(tactic| first
    |assumption
    |exact yal (by assumption) (by decide +kernel)
    |exact yah (by assumption) (by decide +kernel)
    |exact ycj (by assumption) (by decide +kernel)
    |exact Nat.succ_pos _
    |exact yah (by assumption) (Nat.succ_le_succ (yal (by assumption) (by decide +kernel)))
    |exact Nat.succ_le_succ (yal (by assumption) (by decide +kernel))
    |exact yb3 (by assumption) (by assumption)
    |exact yah (by assumption) (by assumption)
    |exact Int.lt_trans (b:=0) (by decide +kernel) (by assumption)
    |exact ydn (b:=0) (by decide +kernel) (by assumption)
    |exact Int.lt_of_le_of_lt (by assumption) (by decide +kernel)
    |exact Int.le_trans (by assumption) (by decide +kernel)
    |exact ycd (by assumption)
    |exact Int.ne_of_gt (by assumption)
    |lia
    |fail)
namespace L2
open PySem PySem.Spec PyProof.Rows
abbrev Key:=Sum Int Str
def keyIs:Key->Value->Bool
 |.inl k,v=>Value.isInt k v
 |.inr x,v=>Value.isStrOf x v
def keyH(w:World):Key->Int
 |.inl k=>hashInt k
 |.inr x=>hashStr w x
theorem zb5:∀{k:Key} {v:Value},keyIs k v=true->(∃i t,k=Sum.inl i/\v=Value.int i t)\/(∃x t,k=Sum.inr x/\v=Value.str x t)
 |.inl i,v,h=>by
  obtain⟨t,e⟩:=Value.isInt_shape (k:=i) (v:=v) h;exact .inl ⟨i,t,rfl,e⟩
 |.inr x,v,h=>by
  obtain⟨t,e⟩:=Value.isStrOf_shape (x:=x) (v:=v) h;exact .inr ⟨x,t,rfl,e⟩
theorem keyIs_int(i:Int)(t:Tok):keyIs (.inl i) (.int i t)=true:=by simp[keyIs,Value.isInt]
theorem keyIs_str(x:Str)(t:Tok):keyIs (.inr x) (.str x t)=true:=by simp[keyIs,Value.isStrOf]
theorem key_ll(a b:Int):decide ((Sum.inl a:Key)=Sum.inl b)=(a == b):=by
 by_cases e:a=b
 ·subst e;simp
 ·have h:¬ (Sum.inl a:Key)=Sum.inl b:=fun q=>e (Sum.inl.inj q)
  rw[decide_eq_false h];exact(beq_eq_false_iff_ne.mpr e).symm
theorem key_rr(a b:Str):decide ((Sum.inr a:Key)=Sum.inr b)=decide (a=b):=by
 by_cases e:a=b
 ·subst e;simp
 ·have h:¬ (Sum.inr a:Key)=Sum.inr b:=fun q=>e (Sum.inr.inj q)
  rw[decide_eq_false h,decide_eq_false e]
theorem key_lr(a:Int)(b:Str):decide ((Sum.inl a:Key)=Sum.inr b)=false:=decide_eq_false (fun q=>nomatch q)
theorem key_rl(a:Str)(b:Int):decide ((Sum.inr a:Key)=Sum.inl b)=false:=decide_eq_false (fun q=>nomatch q)
def zbj(prog:Program)(w:World):PySem.KeyKind prog w Key where
 is:=keyIs
 hash:=keyH w
 inj:=fun v a b ha hb=>by
  rcases zb5 ha with ⟨i,t,rfl,rfl⟩|⟨x,t,rfl,rfl⟩
  ·rcases zb5 hb with ⟨j,u,rfl,e⟩|⟨y,u,rfl,e⟩
   ·injection e with e1 _;rw[e1]
   ·exact nomatch e
  ·rcases zb5 hb with ⟨j,u,rfl,e⟩|⟨y,u,rfl,e⟩
   ·exact nomatch e
   ·injection e with e1 _;rw[e1]
 byValue:=fun k v h=>by
  rcases zb5 h with ⟨i,t,rfl,rfl⟩|⟨x,t,rfl,rfl⟩<;>rfl
 pyHash:=fun hv h=>by
  rcases zb5 hv with ⟨i,t,rfl,rfl⟩|⟨x,t,rfl,rfl⟩
  ·exact wpAny_pyHash_int h
  ·exact wpAny_pyHash_str h
 eqBool:=fun hu hv h=>by
  rcases zb5 hu with ⟨i,t,rfl,rfl⟩|⟨x,t,rfl,rfl⟩
  ·rcases zb5 hv with ⟨j,u,rfl,rfl⟩|⟨y,u,rfl,rfl⟩
   ·rw[key_ll]at h;exact wpAny_eqBool_int h
   ·rw[key_lr]at h;exact SeqAt.EqAt.int_str i t y u _ _ _ _ h
  ·rcases zb5 hv with ⟨j,u,rfl,rfl⟩|⟨y,u,rfl,rfl⟩
   ·rw[key_rl]at h;exact SeqAt.EqAt.str_int x t j u _ _ _ _ h
   ·rw[key_rr]at h;exact wpAny_eqBool_str h
 «strs»:=fun k x t v h=>by
  rcases zb5 h with ⟨i,u,rfl,e⟩|⟨y,u,rfl,e⟩
  ·exact nomatch e
  ·injection e with e1 _
   subst e1;cases v<;>rfl
theorem mixKind_int(prog:Program)(w:World)(i:Int)(t:Tok):(zbj prog w).is (.inl i) (.int i t)=true:=keyIs_int i t
theorem mixKind_str(prog:Program)(w:World)(x:Str)(t:Tok):(zbj prog w).is (.inr x) (.str x t)=true:=keyIs_str x t
inductive V where
 |non|bl (b:Bool)|int (i:Int)|str (x:Str)|byt (b:Array UInt8)|flt (b:UInt64)|ref (a:Addr)|ty (n:String)
 deriving DecidableEq
def RelV:V->Value->Prop
 |.non,u=>u=Value.none
 |.bl b,u=>u=Value.bool b
 |.int i,u=>∃t,u=Value.int i t
 |.str x,u=>∃t,u=Value.str x t
 |.byt b,u=>∃t,u=Value.bytes b t
 |.flt b,u=>∃t,u=Value.float b t
 |.ref a,u=>u=Value.ref a
 |.ty n,u=>u=Value.type n
abbrev zbc:List V->List Value->Prop:=Paired RelV
theorem zbc.length{xs:List V}{us:List Value}(r:zbc xs us):xs.length=us.length:=ydr r
theorem zbc.get:∀{xs:List V} {us:List Value} {i:Nat} {x:V},zbc xs us->xs[i]?=some x->∃u,us[i]?=some u/\RelV x u
 |_,_,_,_,.nil,e=>by simp at e
 |_,_,0,_,.cons r _,e=>by simp at e;subst e;exact⟨_,rfl,r⟩
 |_,_,i+1,x,.cons _ t,e=>by
  obtain⟨u,h1,h2⟩:=zbc.get (i:=i) (x:=x) t (by simpa using e)
  exact⟨u,by simpa using h1,h2⟩
theorem zbc.set{x:V}{u:Value}(r:RelV x u):∀{xs:List V} {us:List Value} (i:Nat),zbc xs us->zbc (xs.set i x) (us.set i u)
 |_,_,_,.nil=>.nil
 |_,_,0,.cons _ t=>.cons r t
 |_,_,i+1,.cons q t=>.cons q (zbc.set r i t)
theorem zbc.append:∀{xs ys:List V} {us ws:List Value},zbc xs us->zbc ys ws->zbc (xs++ys) (us++ws)
 |_,_,_,_,.nil,s=>s
 |_,_,_,_,.cons r t,s=>.cons r (zbc.append t s)
theorem zbc.take:∀{xs:List V} {us:List Value} (n:Nat),zbc xs us->zbc (xs.take n) (us.take n)
 |_,_,0,_=>.nil
 |_,_,_+1,.nil=>.nil
 |_,_,n+1,.cons r t=>.cons r (zbc.take n t)
theorem zbc.drop:∀{xs:List V} {us:List Value} (n:Nat),zbc xs us->zbc (xs.drop n) (us.drop n)
 |_,_,0,r=>r
 |_,_,_+1,.nil=>.nil
 |_,_,n+1,.cons _ t=>zbc.drop n t
theorem zbc.none_of:∀{xs:List V} {us:List Value} {i:Nat},zbc xs us->xs[i]?=none->us[i]?=none:=fun {xs us i} r e=>by
 have h1:=r.length;have h2:xs.length<=i:=List.getElem?_eq_none_iff.mp e;exact List.getElem?_eq_none_iff.mpr (by omega)
def RelO:Option V->Option Value->Prop
 |some v,some u=>RelV v u
 |none,none=>True
 |_,_=>False
def KV{κ:Type}:List (κ×V)->List (κ×Value)->Prop:=Paired fun(p:κ×V) (q:κ×Value)=>p.1=q.1/\RelV p.2 q.2
def kV:Key->V
 |.inl i=>.int i
 |.inr x=>.str x
inductive HO where
 |lst (xs:List V)
 |tup (xs:List V)
 |dK (kvs:List (Key×V))|dT (kvs:List (List Key×V))
 |set (S:Int->Bool) (n:Nat)
 |ins (C dx:Addr) (fs:List (Str×V))
 |own (x:Addr)
 |xd (fs:List (Str×V))
 |met (f x:Addr)
 |rng (lo hi:Int)
 |frz (o:Obj) (u:HO)
 |tbl (ps:Array Value)
 |ext (φ:Heap->Prop)
abbrev Hp:=Addr->Option HO
def upd(H:Hp)(a:Addr)(o:HO):Hp:=fun b=>if b=a then some o else H b
theorem zb2{H:Hp}{a:Addr}{o:HO}:upd H a o a=some o:=by unfold upd;rw[if_pos rfl]
theorem zah{H:Hp}{a b:Addr}{o:HO}(h:b≠a):upd H a o b=H b:=by unfold upd;rw[if_neg h]
theorem ne_of{H:Hp}{a b:Addr}{o u:HO}(h:H a=some o)(h':H b=some u)(d:o≠u):a≠b:=by
 intro e;subst e;rw[h]at h';exact d (yax h')
theorem zag{H:Hp}{a b:Addr}{o:HO}(h:H a=some o)(h':H b=none):a≠b:=by
 intro e;subst e;rw[h]at h';cases h'
section
variable (P:Program)(w:World)
def zbt(H:Hp)(h:Heap)(a:Addr):HO->Prop
 |.lst xs=>xs.length<=sizeLine/\∃(its:List Value) (n:Nat),zbc xs its/\h.get? a=some { cls:=.type "list",data:=.seq its.toArray n }
 |.tup xs=>xs.length<=sizeLine/\∃its:List Value,zbc xs its/\IsTup h a its.toArray
 |.dK kvs=>kvs.length<=sizeLine/\(a == sysModules)=false/\∃vs,KV kvs vs/\h.DictOf (zbj P w) a vs
 |.dT kvs=>kvs.length<=sizeLine/\(a == sysModules)=false/\∃xs:List (List Key×Addr×Value),
   Paired (fun(p:List Key×V) (q:List Key×Addr×Value)=>p.1=q.1/\H q.2.1=some (.tup (p.1.map kV))/\RelV p.2 q.2.2) kvs xs /\
   ∃o es ep,h.get? a=some o/\o.ExactDict/\o.data=.dict es ep/\es.toList=xs.map (entryOfKey (tupleKind (zbj P w)))/\(xs.map (·.1)).Nodup
 |.set S n=>h.SetOf (intKind P w) a S n
 |.ins C dx fs=>H dx=some (.own a)/\fs.length<=1000/\dx≠a/\h.get? a=some (PySem.W.instObj C dx) /\
   ∃mA,h.Ns1 dx mA/\(∀f,RelO (fs.lookup f) (mA f))/\PySem.Within mA (fs.map (·.1))
 |.own _=>∃o,h.get? a=some o
 |.xd fs=>∃mA,h.Ns1 a mA/\∀f,RelO (fs.lookup f) (mA f)
 |.rng lo hi=>∃t u v,h.get? a=some { cls:=.type "range",data:=.fields #[.int lo t,.int hi u,.int 1 v] }
 |.frz o u=>h.get? a=some o/\zbt H h a u
 |.tbl ps=>h.get? a=some { cls:=.none,data:=.fields ps }
 |.met f x=>h.get? a=some (PySem.W.methodObj (.ref f) (.ref x))
 |.ext φ=>φ h/\(∃o,h.get? a=some o)/\∀h1 h2:Heap,φ h1->(∀o,h1.get? a=some o->h2.get? a=some o)->φ h2
def HOk(H:Hp)(h:Heap):Prop:=∀a o,H a=some o->zbt P w H h a o
end
section
variable {P:Program}{w:World}{H H':Hp}{h h':Heap}{a:Addr}{o:HO}
theorem zbt.lt(x:zbt P w H h a o):a<h.objs.size:=by
 cases o with
 |lst xs=>obtain⟨_,_,_,_,e⟩:=x;exact yac e
 |tup xs=>obtain⟨_,_,_,p⟩:=x;exact p.lt
 |dK kvs=>obtain⟨_,_,_,_,o,_,_,e,_⟩:=x;exact yac e
 |dT kvs=>obtain⟨_,_,_,_,o,_,_,e,_⟩:=x;exact yac e
 |set S n=>obtain⟨o,_,_,_,e,_⟩:=x;exact yac e
 |ins C dx fs=>obtain⟨_,_,_,e,_⟩:=x;exact yac e
 |own y=>obtain⟨_,e⟩:=x;exact yac e
 |xd fs=>obtain⟨_,⟨_,_,_,e,_⟩,_⟩:=x;exact yac e
 |rng lo hi=>obtain⟨_,_,_,e⟩:=x;exact yac e
 |frz ob u=>obtain⟨e,_⟩:=x;exact yac e
 |tbl ps=>exact yac (show h.get? a=some _ from x)
 |met f y=>exact yac (show h.get? a=some _ from x)
 |ext φ=>obtain⟨_,⟨_,e⟩,_⟩:=x;exact yac e
theorem Paired.mapP{α β:Type}{F G:α->β->Prop}:∀{l₁:List α} {l₂:List β},Paired F l₁ l₂->(∀a b,F a b->G a b)->Paired G l₁ l₂
 |_,_,.nil,_=>.nil
 |_,_,.cons r t,f=>.cons (f _ _ r) (Paired.mapP t f)
theorem zbt.stay(x:zbt P w H h a o)(k:∀b u,(b=a\/H b=some (.own a))->h.get? b=some u->h'.get? b=some u)
  (ho:∀b,H b=some (.own a)->H' b=some (.own a)) (ht:∀b xs,H b=some (.tup xs)->H' b=some (.tup xs)):zbt P w H' h' a o:=by
 induction o with
 |lst xs=>obtain⟨z,its,n,r,e⟩:=x;exact⟨z,its,n,r,k _ _ (.inl rfl) e⟩
 |tup xs=>obtain⟨z,its,r,ob,e,c⟩:=x;exact⟨z,its,r,ob,k _ _ (.inl rfl) e,c⟩
 |dK kvs=>obtain⟨z,y,vs,r,ob,es,ep,e,c⟩:=x;exact⟨z,y,vs,r,ob,es,ep,k _ _ (.inl rfl) e,c⟩
 |dT kvs =>
  obtain⟨z,y,xs,r,ob,es,ep,e,c⟩:=x;exact⟨z,y,xs,Paired.mapP r fun p q z=>⟨z.1,ht _ _ z.2.1,z.2.2⟩,ob,es,ep,k _ _ (.inl rfl) e,c⟩
 |set S n=>obtain⟨ob,es,ep,t,e,c⟩:=x;exact⟨ob,es,ep,t,k _ _ (.inl rfl) e,c⟩
 |ins C dx fs =>
  obtain⟨d,z,ne,e,mA,⟨od,es,ep,e2,c⟩,r⟩:=x;exact⟨ho _ d,z,ne,k _ _ (.inl rfl) e,mA,⟨od,es,ep,k _ _ (.inr d) e2,c⟩,r⟩
 |own y=>obtain⟨ob,e⟩:=x;exact⟨ob,k _ _ (.inl rfl) e⟩
 |xd fs=>obtain⟨mA,⟨od,es,ep,e,c⟩,r⟩:=x;exact⟨mA,⟨od,es,ep,k _ _ (.inl rfl) e,c⟩,r⟩
 |rng lo hi=>obtain⟨t,u,v,e⟩:=x;exact⟨t,u,v,k _ _ (.inl rfl) e⟩
 |frz ob u ih=>obtain⟨e,q⟩:=x;exact⟨k _ _ (.inl rfl) e,ih q⟩
 |tbl ps =>
  have e:h.get? a=some { cls:=.none,data:=.fields ps }:=x;show h'.get? a=some { cls:=.none,data:=.fields ps };exact k a _ (.inl rfl) e
 |met f y =>
  have e:h.get? a=some (PySem.W.methodObj (.ref f) (.ref y)):=x;show h'.get? a=some (PySem.W.methodObj (.ref f) (.ref y));exact k a _ (.inl rfl) e
 |ext φ=>obtain⟨p,⟨o,e⟩,st⟩:=x;exact⟨st _ _ p fun o q=>k _ _ (.inl rfl) q,⟨o,k _ _ (.inl rfl) e⟩,st⟩
theorem HOk.lt(x:HOk P w H h)(e:H a=some o):a<h.objs.size:=(x a o e).lt
theorem HOk.fresh(x:HOk P w H h)(e:h.objs.size<=a):H a=none:=by
 cases q:H a with
 |none=>rfl
 |some u=>exact absurd (yah (x.lt q) e) (yau _)
theorem HOk.kept(x:HOk P w H h)(k:∀b u,h.get? b=some u->h'.get? b=some u):HOk P w H h':=fun a o e =>
 (x a o e).stay (fun b u _ q=>k b u q) (fun _ q=>q) fun _ _ q=>q
theorem HOk.laid(x:HOk P w H h)(k:∀b u,h.get? b=some u->h'.get? b=some u)(hp:h.objs.size<=a)(new:zbt P w (upd H a o) h' a o):HOk P w (upd H a o) h':=fun b u e=>by
 have hn:=x.fresh hp
 by_cases hb:b=a
 ·subst hb;rw[zb2]at e;cases e;exact new
 ·rw[zah hb]at e;exact(x b u e).stay (fun c v _ q=>k c v q) (fun c q=>by rw[zah (zag q hn)];exact q) fun c xs q=>by rw[zah (zag q hn)];exact q
end
def Rd(H:Hp)(a:Addr)(u:HO):Prop:=H a=some u\/∃o,H a=some (.frz o u)
theorem Rd.of{H:Hp}{a:Addr}{u:HO}(h:H a=some u):Rd H a u:=.inl h
theorem Rd.ok{P:Program}{w:World}{H:Hp}{h:Heap}{a:Addr}{u:HO}(r:Rd H a u)(x:HOk P w H h):zbt P w H h a u:=by
 rcases r with r|⟨o,r⟩
 ·exact x a u r
 ·obtain⟨_,q⟩:=x a _ r;exact q
def Mut:Option HO->Prop
 |some (.lst _)=>True
 |some (.dK _)=>True
 |some (.dT _)=>True
 |some (.set _ _)=>True
 |some (.ins _ _ _)=>True
 |some (.ext _)=>True
 |_=>False
section
variable {P:Program}{w:World}{H:Hp}{h h':Heap}{x e:Addr}{o':HO}
theorem HOk.write(ok:HOk P w H h)(mu:Mut (H x))(he:e=x\/H e=some (.own x))(k:∀b u,b≠e->h.get? b=some u->h'.get? b=some u)(heo:∃u,h'.get? e=some u)
  (new:zbt P w (upd H x o') h' x o'):HOk P w (upd H x o') h':=fun b u q=>by
 have nown:∀c y,H c=some (.own y)->c≠x:=fun c y r z=>by subst z;rw[r]at mu;exact mu
 have ntup:∀c xs,H c=some (.tup xs)->c≠x:=fun c xs r z=>by subst z;rw[r]at mu;exact mu
 by_cases hb:b=x
 ·subst hb;rw[zb2]at q;cases q;exact new
 ·rw[zah hb]at q
  by_cases hbe:b=e
  ·have q':H b=some (.own x):=by
    rcases he with z|z
    ·exact absurd (hbe.trans z) hb
    ·rw[hbe];exact z
   rw[q]at q';cases q';obtain⟨v,hv⟩:=heo;exact⟨v,by rw[hbe];exact hv⟩
  ·refine(ok b u q).stay (fun c v hc r=>k c v ?_ r) (fun c r=>by rw[zah (nown c b r)];exact r) fun c xs r=>by rw[zah (ntup c xs r)];exact r
   rcases hc with rfl|hc
   ·exact hbe
   ·rintro rfl
    rcases he with z|z
    ·exact nown c b hc z
    ·rw[hc]at z;cases z;exact hb rfl
end
structure Un(fs ex:List Addr)(H H':Hp)(h h':Heap):Prop where
 keep:∀b o,h.get? b=some o->H b=none->b∉fs->b∉ex->h'.get? b=some o
 slot:∀b o,h.get? b=some o->H b=none->b∈fs->b∉ex->∃sl,h'.get? b=some { o with slots:=sl }
 free:∀b o,h.get? b=some o->H b=none->b∉ex->H' b=none
 there:∀b o,h.get? b=some o->b∉ex->∃o',h'.get? b=some o'
 tups:∀b xs,H b=some (.tup xs)->H' b=some (.tup xs)
 frzs:∀b o u,H b=some (.frz o u)->H' b=some (.frz o u)
 tbls:∀b ps,H b=some (.tbl ps)->∃more,H' b=some (.tbl (ps++more))
section
variable {fs fs' ex ex':List Addr}{H H1 H2:Hp}{h h1 h2 h':Heap}{a x e:Addr}{o:HO}
theorem Un.any(u:Un fs ex H H1 h h1){b:Addr}{ob:Obj}(q:h.get? b=some ob)(n:H b=none)(hx:b∉ex):∃sl,h1.get? b=some { ob with slots:=sl }:=by
 by_cases hb:b∈fs
 ·exact u.slot b ob q n hb hx
 ·exact⟨ob.slots,u.keep b ob q n hb hx⟩
theorem Un.trans(a:Un fs ex H H1 h h1)(b:Un fs ex H1 H2 h1 h2):Un fs ex H H2 h h2 where
 keep:=fun c ob q n hc hx=>b.keep c ob (a.keep c ob q n hc hx) (a.free c ob q n hx) hc hx
 slot:=fun c ob q n hc hx=>by
  obtain⟨sl,e1⟩:=a.slot c ob q n hc hx;obtain⟨sl',e2⟩:=b.slot c _ e1 (a.free c ob q n hx) hc hx;exact⟨sl',e2⟩
 free:=fun c ob q n hx=>by
  obtain⟨o',e1⟩:=a.there c ob q hx;exact b.free c o' e1 (a.free c ob q n hx) hx
 there:=fun c ob q hx=>by
  obtain⟨o',e1⟩:=a.there c ob q hx;exact b.there c o' e1 hx
 tups:=fun c xs q=>b.tups c xs (a.tups c xs q)
 frzs:=fun c ob xs q=>b.frzs c ob xs (a.frzs c ob xs q)
 tbls:=fun c ps q=>by
  obtain⟨m1,e1⟩:=a.tbls c ps q;obtain⟨m2,e2⟩:=b.tbls c _ e1;exact⟨m1++m2,by rw[e2,ydo]⟩
theorem Un.kept(k:∀b u,h.get? b=some u->h'.get? b=some u):Un fs ex H H h h' :=
 ⟨fun b ob q _ _ _=>k b ob q,fun b ob q _ _ _=>⟨ob.slots,k b ob q⟩,fun _ _ _ n _=>n,fun b ob q _=>⟨ob,k b ob q⟩,fun _ _ q=>q,fun _ _ _ q=>q,fun _ ps q=>⟨#[],by rw[q];simp⟩⟩
theorem Un.refl:Un fs ex H H h h:=Un.kept fun _ _ q=>q
theorem Un.laid(k:∀b u,h.get? b=some u->h'.get? b=some u)(hp:h.objs.size<=a)(hn:H a=none):Un fs ex H (upd H a o) h h' where
 keep:=fun b u q _ _ _=>k b u q
 slot:=fun b u q _ _ _=>⟨u.slots,k b u q⟩
 free:=fun b u q n _=>by rw[zah (yao (yah (yac q) hp))];exact n
 there:=fun b u q _=>⟨u,k b u q⟩
 tups:=fun b xs q=>by rw[zah (zag q hn)];exact q
 frzs:=fun b u xs q=>by rw[zah (zag q hn)];exact q
 tbls:=fun b ps q=>⟨#[],by rw[zah (zag q hn),q];simp⟩
theorem Un.write(mu:Mut (H x))(he:e=x\/H e=some (.own x))(k:∀b u,b≠e->h.get? b=some u->h'.get? b=some u)(heo:∃u,h'.get? e=some u):Un fs ex H (upd H x o) h h':=by
 have hx:∀b,H b=none->b≠x:=fun b n z=>by subst z;rw[n]at mu;exact mu
 have hb:∀b,H b=none->b≠e:=fun b n z=>by
  subst z
  rcases he with r|r
  ·exact hx b n r
  ·rw[n]at r;cases r
 have hm:∀b u,H b=some u->¬ Mut (some u)->b≠x:=fun b u q nm z=>by subst z;rw[q]at mu;exact nm mu
 refine⟨fun b u q n _ _=>k b u (hb b n) q,fun b u q n _ _=>⟨u.slots,k b u (hb b n) q⟩,fun b u q n _=>by rw[zah (hx b n)];exact n,fun b u q _=>?_,
  fun b xs q=>by rw[zah (hm b _ q fun z=>z)];exact q,fun b u xs q=>by rw[zah (hm b _ q fun z=>z)];exact q,fun b ps q=>⟨#[],by rw[zah (hm b _ q fun z=>z),q];simp⟩⟩
 by_cases hbe:b=e
 ·subst hbe;exact heo
 ·exact⟨u,k b u hbe q⟩
theorem Un.mono(u:Un fs ex H H1 h h1)(hs:∀b∈fs,b∈fs')(hx:∀b∈ex,b∈ex'):Un fs' ex' H H1 h h1 :=
 ⟨fun b ob q n hb he=>u.keep b ob q n (fun z=>hb (hs b z)) fun z=>he (hx b z),fun _ _ q n _ he=>u.any q n fun z=>he (hx _ z),fun b ob q n he=>u.free b ob q n fun z=>he (hx b z),fun b ob q he=>u.there b ob q fun z=>he (hx b z),u.tups,u.frzs,u.tbls⟩
end
def trk(h:Heap)(H:Hp):List Addr:=(List.range h.objs.size).filter fun a=>(H a).isSome
def hidT(h:Heap)(H:Hp):Heap:=PySem.W.hideAll h (trk h H)
theorem hidT_size(h:Heap)(H:Hp):(hidT h H).objs.size=h.objs.size:=PySem.W.hideAll_size _ _
theorem hidT_get{h:Heap}{H:Hp}{b:Addr}{o:Obj}(e:h.get? b=some o)(n:H b=none):(hidT h H).get? b=some o :=
 ybq _ e fun hm=>by
  have q:(H b).isSome=true:=(List.mem_filter.mp hm).2;rw[n]at q;simp at q
theorem of_hidT{h:Heap}{H:Hp}{b:Addr}{o:Obj}(e:(hidT h H).get? b=some o):h.get? b=some o/\H b=none:=by
 have e':h.get? b=some o:=yc7 (trk h H) e;refine⟨e',?_⟩;cases q:H b with
 |none=>rfl
 |some x =>
  have hm:b∈trk h H:=List.mem_filter.mpr ⟨List.mem_range.mpr (yac e'),by simp[q]⟩
  have z:(hidT h H).get? b=none:=yd6 (trk h H) hm;rw[z]at e;cases e
def allNews(g h:Heap)(L:Addr):List (Addr×Obj):=(List.range h.objs.size).filterMap fun a=>if a=L\/(g.get? a).isSome=true then none else (h.get? a).map fun o=>(a,o)
def zfg(g h:Heap)(L d:Addr):List (Addr×Obj):=(allNews g h L).filter fun p=>decide (p.1≠d)
structure Mod(K:PySem.W.Frag)(mg:Str->Option Value)(base:Heap):Prop where
 kin:K.In base
 glob:base.Ns mainGlobals mg
 blt:∃mb,base.Ns builtinsNs mb/\∀x:Str,x≠"__name__"->mb x=bootBuiltins x
 nolimit:base.NoLimit
set_option genInjectivity false in
structure Cx where
 prog:Program
 w:World
 K:PySem.W.Frag
 mg:Str->Option Value
 base:Heap
 A:Around
 N:List Str
 s₀:Shared
 H₀:Hp
 env:Env
 outer:List Env
 stack:List Env
 ex:List Addr
 fn:Str->Bool
 calm:Bool
 pn:List (Addr×Obj)
 xe:Value->Shared->Prop
def frs(l:List Env):List Addr:=l.filterMap (·.frame)
abbrev Cx.fs(X:Cx):List Addr:=frs X.outer
def Vis(sc:Scope)(x:Str):Prop:=sc.names.lookup x=some .local\/sc.names.lookup x=some .cell\/sc.names.lookup x=some .free
def Loc(sc:Scope)(x:Str):Prop:=sc.names.lookup x=some .local\/sc.names.lookup x=some .cell
def Look(env:Env)(h:Heap)(m:Str->Option Value)(x:Str)(u:Value):Prop :=
 (env.kindOf x=some .local/\m x=some u)\/((env.kindOf x=some .cell\/env.kindOf x=some .free)/\∃c,env.cells.lookup x=some c/\h.IsCell c (some u))
structure Cx.Ok(X:Cx):Prop where
 mod:Mod X.K X.mg X.base
 kind:X.env.scope.kind=.function
 glob:X.env.globals=mainGlobals
 blt:X.env.builtins=builtinsNs
 above:X.s₀.heap.objs.size<=X.env.locals
 inj:∀x y c,X.env.cells.lookup x=some c->X.env.cells.lookup y=some c->x=y
 has:∀x,(X.env.kindOf x=some .cell\/X.env.kindOf x=some .free)->∃c,X.env.cells.lookup x=some c
 cab:∀x c,X.fn x=true->X.env.cells.lookup x=some c->X.s₀.heap.objs.size<=c
 hd:X.calm=true->X.A.handled=none
 frames:X.A.frames=some X.stack
 stk:X.stack=X.outer\/(X.stack=X.env::X.outer/\X.env.frame=some X.env.locals)
 exf:∀b∈X.ex,b≠X.env.locals/\∀x c,X.env.cells.lookup x=some c->c≠b
 bs:∀b o,X.base.get? b=some o->X.s₀.heap.get? b=some o/\X.H₀ b=none
 bsz:X.base.objs.size<=X.s₀.heap.objs.size
 noex:∀b o,X.base.get? b=some o->b∉X.ex
 exfs:∀b∈X.ex,b∉X.fs
 funs:X.s₀.heap.FunFrames X.base X.outer
 frf:∀b∈X.fs,X.H₀ b=none
structure Inv(X:Cx)(pins:List (Addr×Obj))(σ:List (Option V))(H:Hp)(s:Shared):Prop where
 ok:X.Ok
 os:s.os=X.s₀.os
 bare:AllBare s.gens
 base:Un X.fs X.ex X.H₀ H X.s₀.heap s.heap
 loc:∃m,s.heap.Ns X.env.locals m/\∀(i:Nat) (x:Str) (v:V),X.N[i]?=some x->σ[i]?=some (some v)->Vis X.env.scope x->∃u,RelV v u/\Look X.env s.heap m x u
 cell:∀x c,X.env.cells.lookup x=some c->∃v,s.heap.IsCell c v
 free:H X.env.locals=none
 freeC:∀x c,X.env.cells.lookup x=some c->H c=none
 pin:∀p∈X.pn++pins,s.heap.get? p.1=some p.2/\H p.1=none/\p.1≠X.env.locals/\p.1∉X.fs/\∀v,p.2.data≠.cell v
 hok:HOk X.prog X.w H s.heap
 len:σ.length=X.N.length
section
variable {X:Cx}{pins:List (Addr×Obj)}{σ:List (Option V)}{H H':Hp}{s:Shared}{h':Heap}
theorem Cx.Ok.nofr(ok:X.Ok){b:Addr}{o:Obj}(e:X.base.get? b=some o):b∉X.fs:=fun hb=>by
 have:=(ok.funs.mem hb).1;rw[e]at this;cases this
theorem Inv.bs(I:Inv X pins σ H s):∀b o,X.base.get? b=some o->s.heap.get? b=some o/\H b=none:=fun b o e =>
 ⟨I.base.keep b o (I.ok.bs b o e).1 (I.ok.bs b o e).2 (I.ok.nofr e) (I.ok.noex b o e),I.base.free b o (I.ok.bs b o e).1 (I.ok.bs b o e).2 (I.ok.noex b o e)⟩
theorem Inv.bk(I:Inv X pins σ H s):∀b o,X.base.get? b=some o->s.heap.get? b=some o:=fun b o e=>(I.bs b o e).1
theorem Inv.mod(I:Inv X pins σ H s):Mod X.K X.mg X.base:=I.ok.mod
theorem Inv.kIn(I:Inv X pins σ H s):X.K.In s.heap:=I.ok.mod.kin.keeps I.bk
theorem Inv.nolimit(I:Inv X pins σ H s):s.heap.NoLimit:=I.ok.mod.nolimit.keeps I.bk
theorem Inv.fr(I:Inv X pins σ H s):∃m,Fr X.base X.env.locals s.heap m :=
 let ⟨m,hn,_⟩:=I.loc
 ⟨m,hn,I.bk,yal I.ok.bsz I.ok.above⟩
theorem Inv.lt(I:Inv X pins σ H s):X.env.locals<s.heap.objs.size:=let ⟨_,hn,_⟩:=I.loc;hn.lt
theorem Inv.sz(I:Inv X pins σ H s):X.s₀.heap.objs.size<=s.heap.objs.size:=yal I.ok.above (yd7 I.lt)
theorem Inv.nofs(I:Inv X pins σ H s){a:Addr}(h:s.heap.objs.size<=a):a∉X.fs:=fun hb=>by
 obtain⟨_,o,ho,_⟩:=I.ok.funs.mem hb;exact absurd (yah (yac ho) (yal I.sz h)) (yau _)
theorem Inv.cne(I:Inv X pins σ H s):∀x c,X.env.cells.lookup x=some c->c≠X.env.locals:=fun x c e z=>by
 obtain⟨v,o,ho,hd⟩:=I.cell x c e;obtain⟨m,⟨o',es,ep,ho',hd',_⟩,_⟩:=I.loc;rw[z,ho']at ho;cases ho;rw[hd']at hd;cases hd
theorem Inv.funs(I:Inv X pins σ H s):s.heap.FunFrames X.base X.outer:=by
 have all:∀(l:List Env),(∀b∈frs l,b∈X.fs)->X.s₀.heap.FunFrames X.base l->s.heap.FunFrames X.base l:=by
  intro l
  induction l with
  |nil=>intro _ _;trivial
  |cons env r ih =>
   intro hs hl;obtain⟨hk,⟨L,o,hf,hn,ho,hd⟩,hr⟩:=hl;have hL:L∈X.fs:=hs L (by unfold frs;rw[ydg,hf];exact ya6)
   obtain⟨sl,e⟩:=I.base.slot L o ho (I.ok.frf L hL) hL fun z=>I.ok.exfs L z hL
   exact⟨hk,⟨L,_,hf,hn,e,hd⟩,ih (fun b hb=>hs b (by unfold frs;rw[ydg,hf];exact ya5 _ hb)) hr⟩
 exact all X.outer (fun _ hb=>hb) I.ok.funs
theorem Inv.stack(I:Inv X pins σ H s):s.heap.FunFrames X.base X.stack:=by
 rcases I.ok.stk with e|⟨e,hf⟩
 ·rw[e];exact I.funs
 ·rw[e];obtain⟨m,hn,_⟩:=I.loc;refine .cons (by rw[I.ok.kind];decide) hf hn ?_ I.funs
  exact Heap.get?_none_of_le (yal I.ok.bsz I.ok.above)
theorem Inv.stkSub(I:Inv X pins σ H s):∀b∈frs X.stack,b∈X.env.locals::X.fs:=fun b hb=>by
 rcases I.ok.stk with e|⟨e,hf⟩
 ·rw[e]at hb;exact ya5 _ hb
 ·rw[e]at hb;unfold frs at hb;rw[ydg,hf]at hb;exact hb
theorem Inv.stkFree(I:Inv X pins σ H s):∀b∈frs X.stack,H b=none:=fun b hb=>by
 rcases ya3.mp (I.stkSub b hb) with e|hb
 ·rw[e];exact I.free
 ·obtain⟨_,o,ho,_⟩:=I.ok.funs.mem hb;exact I.base.free b o ho (I.ok.frf b hb) fun z=>I.ok.exfs b z hb
theorem Inv.step{g':Array GenState}{t':Nat}{d':Drawn}{ch:List Addr}(I:Inv X pins σ H s)
  (hch:∀b∈ch,(b∈X.ex\/X.s₀.heap.objs.size<=b)/\b≠X.env.locals/\(∀x c,X.env.cells.lookup x=some c->c≠b)/\∀p∈X.pn++pins,p.1≠b)
  (keep:∀b o,b≠X.env.locals->b∉X.fs->b∉ch->s.heap.get? b=some o->H b=none->h'.get? b=some o)
  (slot:∀b o,b≠X.env.locals->b∈X.fs->b∉ch->s.heap.get? b=some o->H b=none->∃sl,h'.get? b=some { o with slots:=sl }) (free:∀b o,b∉ch->s.heap.get? b=some o->H b=none->H' b=none)
  (there:∀b o,b∉ch->s.heap.get? b=some o->∃o',h'.get? b=some o')
  (tups:∀b xs,H b=some (.tup xs)->H' b=some (.tup xs)) (frzs:∀b o u,H b=some (.frz o u)->H' b=some (.frz o u)) (tbls:∀b ps,H b=some (.tbl ps)->∃more,H' b=some (.tbl (ps++more)))
  (ns:∀m,s.heap.Ns X.env.locals m->h'.Ns X.env.locals m) (hok:HOk X.prog X.w H' h') (hg:AllBare g') :
  Inv X pins σ H' { s with heap:=h',gens:=g',drawn:=d',toks:=t' }:=by
 have neL:∀b o,X.s₀.heap.get? b=some o->b≠X.env.locals:=fun b o e=>yao (yah (yac e) I.ok.above)
 have neC:∀b o,X.s₀.heap.get? b=some o->b∉X.ex->b∉ch:=fun b o e hx hb=>by
  rcases(hch b hb).1 with z|z
  ·exact hx z
  ·exact absurd (yah (yac e) z) (yau _)
 have cellK:∀x c,X.env.cells.lookup x=some c->∀v,s.heap.IsCell c v->h'.IsCell c v:=fun x c e v ⟨o,ho,hd⟩=>by
  have nch:c∉ch:=fun z=>(hch c z).2.2.1 x c e rfl
  by_cases hc:c∈X.fs
  ·obtain⟨sl,q⟩:=slot c o (I.cne x c e) hc nch ho (I.freeC x c e);exact⟨_,q,hd⟩
  ·exact⟨o,keep c o (I.cne x c e) hc nch ho (I.freeC x c e),hd⟩
 refine⟨I.ok,I.os,hg,⟨fun b o e n hb hx=>?_,fun b o e n hb hx=>?_,fun b o e n hx=>?_,fun b o e hx=>?_,fun b xs e=>tups b xs (I.base.tups b xs e),fun b o xs e=>frzs b o xs (I.base.frzs b o xs e),fun b ps e=>?_⟩,?_,fun x c e=>?_,?_,fun x c e=>?_,fun p hp=>?_,hok,I.len⟩
 ·exact keep b o (neL b o e) hb (neC b o e hx) (I.base.keep b o e n hb hx) (I.base.free b o e n hx)
 ·obtain⟨sl,e1⟩:=I.base.slot b o e n hb hx;obtain⟨sl',e2⟩:=slot b _ (neL b o e) hb (neC b o e hx) e1 (I.base.free b o e n hx);exact⟨sl',e2⟩
 ·obtain⟨o',e1⟩:=I.base.there b o e hx;exact free b o' (neC b o e hx) e1 (I.base.free b o e n hx)
 ·obtain⟨o',e1⟩:=I.base.there b o e hx;exact there b o' (neC b o e hx) e1
 ·obtain⟨m1,e1⟩:=I.base.tbls b ps e;obtain⟨m2,e2⟩:=tbls b _ e1;exact⟨m1++m2,by rw[e2,ydo]⟩
 ·obtain⟨m,hn,hl⟩:=I.loc;refine⟨m,ns m hn,fun i x v e1 e2 e3=>?_⟩
  obtain⟨u,r,l⟩:=hl i x v e1 e2 e3;refine⟨u,r,?_⟩
  rcases l with l|⟨k,c,e,z⟩
  ·exact .inl l
  ·exact .inr ⟨k,c,e,cellK x c e _ z⟩
 ·obtain⟨v,z⟩:=I.cell x c e;exact⟨v,cellK x c e v z⟩
 ·obtain⟨m,⟨o,_,_,ho,_⟩,_⟩:=I.loc;exact free _ o (fun z=>(hch _ z).2.1 rfl) ho I.free
 ·obtain⟨v,o,ho,hd⟩:=I.cell x c e;exact free c o (fun z=>(hch c z).2.2.1 x c e rfl) ho (I.freeC x c e)
 ·obtain⟨e,n,ne,nf,d⟩:=I.pin p hp;have nch:p.1∉ch:=fun z=>(hch p.1 z).2.2.2 p hp rfl
  exact⟨keep p.1 p.2 ne nf nch e n,free p.1 p.2 nch e n,ne,nf,d⟩
theorem Inv.un{t':Nat}(I:Inv X pins σ H s)(u:Un X.fs [] H H' s.heap h')(hok:HOk X.prog X.w H' h'):Inv X pins σ H' { s with heap:=h',toks:=t' }:=by
 obtain⟨m,⟨o,es,ep,ho,r⟩,_⟩:=id I.loc;obtain⟨sl,hL⟩:=u.any ho I.free (by simp)
 exact I.step (g':=s.gens) (d':=s.drawn) (ch:=[]) (fun _ z=>nomatch z) (fun b o _ hb _ e n=>u.keep b o e n hb (by simp)) (fun b o _ hb _ e n=>u.slot b o e n hb (by simp)) (fun b o _ e n=>u.free b o e n (by simp)) (fun b o _ e=>u.there b o e (by simp)) u.tups u.frzs u.tbls (fun m' hm=>by
  obtain⟨o',es',ep',ho',r'⟩:=hm;rw[ho]at ho';cases ho';exact⟨_,es',ep',hL,r'⟩) hok I.bare
theorem Inv.call{g':Array GenState}{t':Nat}{d':Drawn}{ch:List Addr}(I:Inv X pins σ H s)(u:Un (frs X.stack) ch H H' s.heap h')(hok:HOk X.prog X.w H' h')(hg:AllBare g')
  (hch:∀b∈ch,(b∈X.ex\/X.s₀.heap.objs.size<=b)/\b≠X.env.locals/\(∀x c,X.env.cells.lookup x=some c->c≠b)/\∀p∈X.pn++pins,p.1≠b) :
  Inv X pins σ H' { s with heap:=h',gens:=g',drawn:=d',toks:=t' }:=by
 obtain⟨m,⟨o,es,ep,ho,r⟩,_⟩:=id I.loc;obtain⟨sl,hL⟩:=u.any ho I.free fun z=>(hch _ z).2.1 rfl
 exact I.step (ch:=ch) hch (fun b o hL hb hc e n=>u.keep b o e n (fun z=>(ya3.mp (I.stkSub b z)).elim hL hb) hc) (fun b o _ _ hc e n=>u.any e n hc) (fun b o hc e n=>u.free b o e n hc) (fun b o hc e=>u.there b o e hc) u.tups u.frzs u.tbls (fun m' hm=>by
  obtain⟨o',es',ep',ho',r'⟩:=hm;rw[ho]at ho';cases ho';exact⟨_,es',ep',hL,r'⟩) hok hg
theorem Inv.turned{t':Nat}{it:Addr}(I:Inv X pins σ H s)(k:∀b o,b≠it->s.heap.get? b=some o->h'.get? b=some o)(hn:H it=none)(hL:it≠X.env.locals)
  (h1:it∈X.ex\/X.s₀.heap.objs.size<=it) (h2:∀x c,X.env.cells.lookup x=some c->c≠it) (h3:∀p∈X.pn++pins,p.1≠it):Inv X pins σ H { s with heap:=h',toks:=t' }:=by
 have nit:∀b u,H b=some u->b≠it:=fun b u e z=>by rw[z,hn]at e;cases e
 refine I.step (g':=s.gens) (d':=s.drawn) (ch:=[it]) (fun b hb=>?_) (fun b o _ _ hc e _=>k b o (fun z=>hc (by simp[z])) e) (fun b o _ _ hc e _=>⟨o.slots,k b o (fun z=>hc (by simp[z])) e⟩) (fun _ _ _ _ n=>n)
  (fun b o hc e=>⟨o,k b o (fun z=>hc (by simp[z])) e⟩) (fun _ _ e=>e) (fun _ _ _ e=>e) (fun b ps e=>⟨#[],by rw[e];simp⟩) (fun m hm=>?_) (fun b u e=>?_) I.bare
 ·have e:b=it:=by simpa using hb
  subst e;exact⟨h1,hL,h2,h3⟩
 ·obtain⟨o,es,ep,ho,r⟩:=hm;exact⟨o,es,ep,k _ o (yat hL) ho,r⟩
 ·refine(I.hok b u e).stay (fun c v hc q=>k c v ?_ q) (fun _ q=>q) fun _ _ q=>q
  rcases hc with z|z
  ·rw[z];exact nit b u e
  ·exact nit c _ z
theorem Inv.tok(I:Inv X pins σ H s)(t:Nat):Inv X pins σ H { s with toks:=t }:=I.un (h':=s.heap) (t':=t) Un.refl I.hok
theorem Inv.kept{t':Nat}(I:Inv X pins σ H s)(k:∀b u,s.heap.get? b=some u->h'.get? b=some u):Inv X pins σ H { s with heap:=h',toks:=t' }:=I.un (Un.kept k) (I.hok.kept k)
theorem Inv.laid{a:Addr}{o:HO}{t':Nat}(I:Inv X pins σ H s)(k:∀b u,s.heap.get? b=some u->h'.get? b=some u)(hp:s.heap.objs.size<=a)(new:zbt X.prog X.w (upd H a o) h' a o) :
  Inv X pins σ (upd H a o) { s with heap:=h',toks:=t' }:=I.un (Un.laid k hp (I.hok.fresh hp)) (I.hok.laid k hp new)
theorem Inv.write{x e:Addr}{o:HO}{t':Nat}(I:Inv X pins σ H s)(mu:Mut (H x))(he:e=x\/H e=some (.own x))(k:∀b u,b≠e->s.heap.get? b=some u->h'.get? b=some u)(heo:∃u,h'.get? e=some u)
  (new:zbt X.prog X.w (upd H x o) h' x o):Inv X pins σ (upd H x o) { s with heap:=h',toks:=t' }:=I.un (Un.write mu he k heo) (I.hok.write mu he k heo new)
theorem Inv.weak{σ':List (Option V)}(I:Inv X pins σ H s)(hl:σ'.length=σ.length)(w:∀(i:Nat) v,σ'[i]?=some (some v)->σ[i]?=some (some v)):Inv X pins σ' H s :=
 ⟨I.ok,I.os,I.bare,I.base,let ⟨m,hn,hl'⟩:=I.loc;⟨m,hn,fun i x v e1 e2 e3=>hl' i x v e1 (w i v e2) e3⟩,I.cell,I.free,I.freeC,I.pin,I.hok,hl.trans I.len⟩
theorem Inv.pins_of{pins':List (Addr×Obj)}(I:Inv X pins σ H s)(h:∀p∈pins',s.heap.get? p.1=some p.2/\H p.1=none/\p.1≠X.env.locals/\p.1∉X.fs/\∀v,p.2.data≠.cell v):Inv X pins' σ H s :=
 ⟨I.ok,I.os,I.bare,I.base,I.loc,I.cell,I.free,I.freeC,fun p hp=>(yas.mp hp).elim (fun z=>I.pin p (yc1 _ z)) (h p),I.hok,I.len⟩
theorem nodup_ix{N:List Str}(hN:N.Nodup){i j:Nat}{x:Str}(a:N[i]?=some x)(b:N[j]?=some x):i=j:=by
 obtain⟨h1,e1⟩:=ya7.mp a;obtain⟨h2,e2⟩:=ya7.mp b;exact(List.getElem_inj hN).mp (e1.trans e2.symm)
theorem store_ok2{M:Model}{A:Around}{E:Value->Shared->Prop}{i:Nat}{x:Str}{v:V}{u:Value}{Q:Unit->Shared->Prop}(I:Inv X pins σ H s)(hN:X.N.Nodup)(hi:X.N[i]?=some x)(hx:Loc X.env.scope x)(r:RelV v u)
  (h:∀s',Inv X pins (σ.set i (some v)) H s'->(∃a,Heap.SameBut a s.heap s'.heap/\(a=X.env.locals\/X.env.cells.lookup x=some a))->Q () s') (hf:X.fn x=true\/X.env.scope.names.lookup x=some .local:=by first|exact .inl rfl|exact .inr rfl|assumption):wpAny M A (storeName X.env x u) Q E s:=by
 obtain⟨m,hn,hl⟩:=id I.loc;have hcls:(X.env.scope.kind == .class || (X.env.scope.kind == .module && X.env.locals != X.env.globals))=false:=by rw[I.ok.kind];rfl
 have hiσ:i<σ.length:=by rw[I.len];exact(ya7.mp hi).1
 have cne:=I.cne
 have tracked:∀{a:Addr} {h':Heap},(∃o,s.heap.get? a=some o/\H a=none)->Heap.SameBut a s.heap h'->HOk X.prog X.w H h':=fun {a h'} ha hs b ob e=>by
  obtain⟨_,_,hfree⟩:=ha;refine(I.hok b ob e).stay (fun c w' hc q=>(hs.2 c ?_).trans q) (fun _ q=>q) fun _ _ q=>q
  rintro rfl
  rcases hc with rfl|hc
  ·rw[hfree]at e;cases e
  ·rw[hfree]at hc;cases hc
 rcases hx with hk|hk
 ·refine wpAny_storeName_local hk hn (fun h' hn' hs=>?_) hcls
  obtain⟨oL,_,_,hoL,_⟩:=id hn;refine h _ ⟨I.ok,I.os,I.bare,⟨fun b o e n hb hx=>?_,fun b o e n hb hx=>?_,I.base.free,fun b o e hx=>?_,I.base.tups,I.base.frzs,I.base.tbls⟩,⟨_,hn',fun j y v' e1 e2 e3=>?_⟩,fun y c e=>?_,I.free,I.freeC,fun p hp=>?_,tracked ⟨oL,hoL,I.free⟩ hs,by simpa using I.len⟩ ⟨_,hs,.inl rfl⟩
  ·exact(hs.2 b (yao (yah (yac e) I.ok.above))).trans (I.base.keep b o e n hb hx)
  ·obtain⟨sl,e1⟩:=I.base.slot b o e n hb hx;exact⟨sl,(hs.2 b (yao (yah (yac e) I.ok.above))).trans e1⟩
  ·obtain⟨o',e1⟩:=I.base.there b o e hx;exact⟨o',(hs.2 b (yao (yah (yac e) I.ok.above))).trans e1⟩
  ·by_cases hj:j=i
   ·subst hj;rw[hi]at e1;cases e1;rw[yam hiσ]at e2;cases e2;exact⟨u,r,.inl ⟨hk,by simp⟩⟩
   ·rw[yak (yat hj)]at e2;obtain⟨u',r',q⟩:=hl j y v' e1 e2 e3;refine⟨u',r',?_⟩
    rcases q with ⟨k,e⟩|⟨k,c,e,z⟩
    ·refine .inl ⟨k,?_⟩;have:y≠x:=fun e=>hj (nodup_ix hN e1 (e▸hi))
     simp[this,e]
    ·exact .inr ⟨k,c,e,z.sameBut hs (cne y c e)⟩
  ·obtain⟨w',z⟩:=I.cell y c e;exact⟨w',z.sameBut hs (cne y c e)⟩
  ·obtain⟨e,n,ne,nf,d⟩:=I.pin p hp;exact⟨(hs.2 p.1 ne).trans e,n,ne,nf,d⟩
 ·have hfn:X.fn x=true:=by
   rcases hf with z|z
   ·exact z
   ·rw[z]at hk;cases hk
  obtain⟨c,hc⟩:=I.ok.has x (.inl hk);obtain⟨w',z⟩:=I.cell x c hc;refine wpAny_storeName_cell I.ok.kind hk hc z (fun h' hc' hs=>?_)
  obtain⟨oc,hoc,hocd⟩:=id z;refine h { s with heap:=h' } ⟨I.ok,I.os,I.bare,⟨fun b o e n hb hx=>?_,fun b o e n hb hx=>?_,I.base.free,fun b o e hx=>?_,I.base.tups,I.base.frzs,I.base.tbls⟩,⟨m,hn.sameBut hs (yat (cne x c hc)),fun j y v' e1 e2 e3=>?_⟩,fun y c' e=>?_,I.free,I.freeC,fun p hp=>?_,tracked ⟨oc,hoc,I.freeC x c hc⟩ hs,by simpa using I.len⟩ ⟨c,hs,.inr hc⟩
  ·exact(hs.2 b (yao (yah (yac e) (I.ok.cab x c hfn hc)))).trans (I.base.keep b o e n hb hx)
  ·obtain⟨sl,e1⟩:=I.base.slot b o e n hb hx;exact⟨sl,(hs.2 b (yao (yah (yac e) (I.ok.cab x c hfn hc)))).trans e1⟩
  ·obtain⟨o',e1⟩:=I.base.there b o e hx;exact⟨o',(hs.2 b (yao (yah (yac e) (I.ok.cab x c hfn hc)))).trans e1⟩
  ·by_cases hj:j=i
   ·subst hj;rw[hi]at e1;cases e1;rw[yam hiσ]at e2;cases e2;exact⟨u,r,.inr ⟨.inl hk,c,hc,hc'⟩⟩
   ·rw[yak (yat hj)]at e2;obtain⟨u',r',q⟩:=hl j y v' e1 e2 e3;refine⟨u',r',?_⟩
    rcases q with q|⟨k,c',e,z'⟩
    ·exact .inl q
    ·refine .inr ⟨k,c',e,z'.sameBut hs ?_⟩;rintro rfl;exact hj (nodup_ix hN e1 (I.ok.inj _ _ _ e hc▸hi))
  ·by_cases hcc:c'=c
   ·subst hcc;exact⟨_,hc'⟩
   ·obtain⟨w2,z2⟩:=I.cell y c' e;exact⟨w2,z2.sameBut hs hcc⟩
  ·obtain⟨e,n,ne,nf,d⟩:=I.pin p hp;refine⟨(hs.2 p.1 ?_).trans e,n,ne,nf,d⟩;intro q;rw[q,hoc]at e;have q':oc=p.2:=yax e;exact d w' (by rw[<- q'];exact hocd)
theorem zga{M:Model}{A:Around}{E:Value->Shared->Prop}{i:Nat}{x:Str}{v:V}{u:Value}{Q:Unit->Shared->Prop}(I:Inv X pins σ H s)(hN:X.N.Nodup)(hi:X.N[i]?=some x)(hx:Loc X.env.scope x)(r:RelV v u)
  (h:∀s',Inv X pins (σ.set i (some v)) H s'->Q () s') (hf:X.fn x=true\/X.env.scope.names.lookup x=some .local:=by first|exact .inl rfl|exact .inr rfl|assumption):wpAny M A (storeName X.env x u) Q E s :=
 store_ok2 I hN hi hx r (fun s' I' _=>h s' I') hf
theorem Inv.call'{s':Shared}{ch:List Addr}(I:Inv X pins σ H s)(ho:s'.os=s.os)(u:Un (frs X.stack) ch H H' s.heap s'.heap)(hok:HOk X.prog X.w H' s'.heap)(hg:AllBare s'.gens)
  (hch:∀b∈ch,(b∈X.ex\/X.s₀.heap.objs.size<=b)/\b≠X.env.locals/\(∀x c,X.env.cells.lookup x=some c->c≠b)/\∀p∈X.pn++pins,p.1≠b):Inv X pins σ H' s':=by
 obtain⟨h',g',d',t',o'⟩:=s';have e:o'=s.os:=ho;subst e;exact I.call (g':=g') (t':=t') (d':=d') u hok hg hch
end
abbrev XK:=Value->Option Addr->Hp->Prop
abbrev St:=List (Option V)
abbrev VK:=V->Hp->Prop
abbrev TE:=St->Hp->VK->Prop
abbrev TT:=St->Hp->(Bool->Hp->Prop)->Prop
abbrev TA:=St->Hp->(List V->Hp->Prop)->Prop
structure Ends where
 nx:St->Hp->Prop
 rt:VK
 bk:St->Hp->Prop:=fun _ _=>False
 ct:St->Hp->Prop:=fun _ _=>False
abbrev TS:=Ends->St->Hp->Prop
def EP(X:Cx)(pins:List (Addr×Obj))(σ:St)(Q:VK)(u:Value)(s':Shared):Prop:=∃v H',Inv X pins σ H' s'/\RelV v u/\Q v H'
def TP(X:Cx)(pins:List (Addr×Obj))(σ:St)(Q:Bool->Hp->Prop)(b:Bool)(s':Shared):Prop:=∃H',Inv X pins σ H' s'/\Q b H'
def AP(X:Cx)(pins:List (Addr×Obj))(σ:St)(Q:List V->Hp->Prop)(us:List Value)(s':Shared):Prop:=∃vs H',Inv X pins σ H' s'/\zbc vs us/\Q vs H'
def SP(X:Cx)(pins:List (Addr×Obj))(D:Ends)(f:Flow)(s':Shared):Prop :=
 match f with
 |.next=>∃σ' H',Inv X pins σ' H' s'/\D.nx σ' H'
 |.brk=>∃σ' H',Inv X pins σ' H' s'/\D.bk σ' H'
 |.cont=>∃σ' H',Inv X pins σ' H' s'/\D.ct σ' H'
 |.ret u=>∃v σ' H',Inv X pins σ' H' s'/\RelV v u/\D.rt v H'
def PE(X:Cx)(e:Expr)(t:TE):Prop :=
 ∀(pins:List (Addr×Obj)) (s:Shared) (σ:St) (H:Hp) (Q:VK),Inv X pins σ H s->t σ H Q->wpAny (model X.prog X.w) X.A (eval e X.env) (EP X pins σ Q) X.xe s
def PT(X:Cx)(e:Expr)(t:TT):Prop :=
 ∀(pins:List (Addr×Obj)) (s:Shared) (σ:St) (H:Hp) (Q:Bool->Hp->Prop),Inv X pins σ H s->t σ H Q->wpAny (model X.prog X.w) X.A (isTrue e X.env (eval e X.env)) (TP X pins σ Q) X.xe s
def PW(X:Cx)(e:Expr)(t:TT):Prop :=
 ∀(whole:Sem Value) (pins:List (Addr×Obj)) (s:Shared) (σ:St) (H:Hp) (Q:Bool->Hp->Prop),Inv X pins σ H s->t σ H Q->wpAny (model X.prog X.w) X.A (isTrue e X.env whole) (TP X pins σ Q) X.xe s
theorem PW.pt{X:Cx}{e:Expr}{t:TT}(h:PW X e t):PT X e t:=h _
def PA(X:Cx)(es:List Expr)(t:TA):Prop :=
 ∀(pos:Pos) (pins:List (Addr×Obj)) (s:Shared) (σ:St) (H:Hp) (Q:List V->Hp->Prop),Inv X pins σ H s->t σ H Q->wpAny (model X.prog X.w) X.A (spliced (backTo pos (starEach es X.env))) (AP X pins σ Q) X.xe s
def PS(X:Cx)(st:Stmt)(t:TS):Prop :=
 ∀(pins:List (Addr×Obj)) (s:Shared) (σ:St) (H:Hp) (D:Ends),Inv X pins σ H s->t D σ H->wpAny (model X.prog X.w) X.A (exec st X.env) (SP X pins D) X.xe s
def PSs(X:Cx)(st:List Stmt)(t:TS):Prop :=
 ∀(pins:List (Addr×Obj)) (s:Shared) (σ:St) (H:Hp) (D:Ends),Inv X pins σ H s->t D σ H->wpAny (model X.prog X.w) X.A (execs st X.env) (SP X pins D) X.xe s
theorem thn{α:Type}{t:Sem α}{Q Q':α->Shared->Prop}{M:Model}{A:Around}{E:Value->Shared->Prop}{s:Shared}(h:wpAny M A t Q E s)(hQ:∀a s,Q a s->Q' a s):wpAny M A t Q' E s:=wpAny_mono h hQ fun _ _ x=>x
section
variable {X:Cx}
def tVar(i:Nat):TE:=fun σ H Q=>∃v,σ[i]?=some (some v)/\Q v H
def tC(v:V):TE:=fun _ H Q=>Q v H
theorem zif{i:Nat}{x:Str}{pos:Pos}(hN:X.N[i]?=some x)(hv:Vis X.env.scope x)(hd:(x == ("__debug__":Str))=false:=by decide)(hcd:(x == ("__classdict__":Str))=false:=by decide):PE X (.Name x pos) (tVar i):=by
 intro pins s σ H Q I h;obtain⟨v,e,h⟩:=h;obtain⟨m,hn,hl⟩:=I.loc;obtain⟨u,r,l⟩:=hl i x v hN e hv;have fin:EP X pins σ Q u s:=⟨v,H,I,r,h⟩
 rcases l with ⟨hk,hm⟩|⟨hk,c,hc,hcell⟩
 ·exact wpAny_Name (wpAny_loadName_local I.ok.kind hk hn hm fin) hd
 ·rcases hk with hk|hk
  ·exact wpAny_Name (wpAny_loadName_cell I.ok.kind hk hc hcell fin) hd
  ·exact wpAny_Name (wpAny_loadName_free I.ok.kind hk hc hcell fin hcd) hd
theorem pe_int{i j pos}:PE X (.Constant (.int i) j pos) (tC (.int i)):=fun _ _ _ H _ I h=>wpAny_Constant_int ⟨.int i,H,I.tok _,⟨_,rfl⟩,h⟩
theorem pe_bl{b j pos}:PE X (.Constant (.bool b) j pos) (tC (.bl b)):=fun _ _ _ H _ I h=>Constant_bool ⟨.bl b,H,I,rfl,h⟩
theorem pe_non{j pos}:PE X (.Constant .none j pos) (tC .non):=fun _ _ _ H _ I h=>Constant_none ⟨.non,H,I,rfl,h⟩
theorem pe_str{x j pos}:PE X (.Constant (.str x) j pos) (tC (.str x)):=fun _ _ _ H _ I h=>Calls.Constant_str ⟨.str x,H,I.tok _,⟨_,rfl⟩,h⟩
def Gl(X:Cx)(x:Str):Prop:=X.env.kindOf x=some .globalImplicit
theorem zir{E:Value->Shared->Prop}{pins:List (Addr×Obj)}{s:Shared}{σ:St}{H:Hp}{x:Str}{u:Value}{pos:Pos}{Q:Value->Shared->Prop}(I:Inv X pins σ H s)(hg:Gl X x)(hm:X.mg x=some u)(h:Q u s)
  (hd:(x == ("__debug__":Str))=false:=by decide):wpAny (model X.prog X.w) X.A (eval (.Name x pos) X.env) Q E s :=
 Calls.Name_function_global I.ok.kind hg (Calls.loadGlobal_global (by rw[I.ok.glob];exact I.mod.glob.keeps I.bk) hm h) hd
theorem zgg{E:Value->Shared->Prop}{pins:List (Addr×Obj)}{s:Shared}{σ:St}{H:Hp}{x:Str}{u:Value}{pos:Pos}{Q:Value->Shared->Prop}(I:Inv X pins σ H s)(hg:Gl X x)(hm:X.mg x=none)(hv:bootBuiltins x=some u)(h:Q u s)
  (hn:x≠"__name__":=by decide) (hd:(x == ("__debug__":Str))=false:=by decide):wpAny (model X.prog X.w) X.A (eval (.Name x pos) X.env) Q E s:=by
 obtain⟨mb,h1,h2⟩:=I.mod.blt;exact Calls.Name_function_global I.ok.kind hg (Calls.loadGlobal_builtin (by rw[I.ok.glob];exact I.mod.glob.keeps I.bk) hm (by rw[I.ok.blt];exact h1.keeps I.bk) ((h2 x hn).trans hv) h) hd
theorem pe_glob{x:Str}{v:V}{u:Value}{pos:Pos}(hg:Gl X x)(hm:X.mg x=some u)(r:RelV v u)(hd:(x == ("__debug__":Str))=false:=by decide):PE X (.Name x pos) (tC v) :=
 fun _ _ _ H _ I h=>zir I hg hm ⟨v,H,I,r,h⟩ hd
theorem pe_bltn{x:Str}{v:V}{u:Value}{pos:Pos}(hg:Gl X x)(hm:X.mg x=none)(hv:bootBuiltins x=some u)(r:RelV v u)(hn:x≠"__name__":=by decide)(hd:(x == ("__debug__":Str))=false:=by decide):PE X (.Name x pos) (tC v) :=
 fun _ _ _ H _ I h=>zgg I hg hm hv ⟨v,H,I,r,h⟩ hn hd
variable {a b:Expr}{ta tb:TE}{pos:Pos}
def tB(t:TE):TT:=fun σ H Q=>t σ H fun x H1=>∃c,x=.bl c/\Q c H1
theorem pt_val{e:Expr}{t:TE}(h:PE X e t)(he:∀whole,isTrue e X.env whole=(do let v <- whole;standAt e.pos;holding [v] (truthy v)):=by intro _;rfl):PT X e (tB t):=by
 intro pins s σ H Q I hw;refine isTrue_plain (thn (h pins s σ H _ I hw) fun v s1 ⟨x,H1,I1,r1,q1⟩=>?_) (he _)
 obtain⟨d,rfl,q⟩:=q1;cases r1;exact wpAny_truthy_bool ⟨H1,I1,q⟩
variable {tA tB':TT}{zfg:List Expr}
def tAnd(t u:TT):TT:=fun σ H Q=>t σ H fun c H1=>if c=true then u σ H1 Q else Q false H1
def tOr(t u:TT):TT:=fun σ H Q=>t σ H fun c H1=>if c=true then Q true H1 else u σ H1 Q
def tNot(t:TT):TT:=fun σ H Q=>t σ H fun c H1=>Q (!c) H1
theorem pw_and1(ha:PT X a tA):PW X (.BoolOp .And [a] pos) tA:=by
 intro wh pins s σ H Q I h;refine isTrue_and (thn (ha pins s σ H Q I h) fun c s1 e=>?_)
 cases c with
 |true=>exact isTrue_and_nil e
 |false=>exact e
theorem pw_or1(ha:PT X a tA):PW X (.BoolOp .Or [a] pos) tA:=by
 intro wh pins s σ H Q I h;refine isTrue_or (thn (ha pins s σ H Q I h) fun c s1 e=>?_)
 cases c with
 |false=>exact isTrue_or_nil e
 |true=>exact e
theorem pw_and(ha:PT X a tA)(hb:PW X (.BoolOp .And (b::zfg) pos) tB'):PW X (.BoolOp .And (a::b::zfg) pos) (tAnd tA tB'):=by
 intro wh pins s σ H Q I h;refine isTrue_and (thn (ha pins s σ H _ I h) fun c s1 ⟨H1,I1,q1⟩=>?_)
 cases c with
 |true=>exact hb wh pins s1 σ H1 Q I1 q1
 |false=>exact⟨H1,I1,q1⟩
theorem pw_or(ha:PT X a tA)(hb:PW X (.BoolOp .Or (b::zfg) pos) tB'):PW X (.BoolOp .Or (a::b::zfg) pos) (tOr tA tB'):=by
 intro wh pins s σ H Q I h;refine isTrue_or (thn (ha pins s σ H _ I h) fun c s1 ⟨H1,I1,q1⟩=>?_)
 cases c with
 |true=>exact⟨H1,I1,q1⟩
 |false=>exact hb wh pins s1 σ H1 Q I1 q1
theorem pt_not(ha:PT X a tA):PT X (.UnaryOp .Not a pos) (tNot tA):=by
 intro pins s σ H Q I h;exact isTrue_not (ha pins s σ H (fun c H1=>Q (!c) H1) I h)
def tAndV(ta tb:TE):TE:=fun σ H Q=>ta σ H fun x H1=>∃c,x=.bl c/\if c=true then tb σ H1 Q else Q (.bl false) H1
def tOrV(ta tb:TE):TE:=fun σ H Q=>ta σ H fun x H1=>∃c,x=.bl c/\if c=true then Q (.bl true) H1 else tb σ H1 Q
def tNotV(ta:TE):TE:=fun σ H Q=>ta σ H fun x H1=>∃c,x=.bl c/\Q (.bl (!c)) H1
theorem pe_one{op}{t:TE}(h:PE X a t):PE X (.BoolOp op [a] pos) t:=fun pins s σ H Q I hw=>BoolOp_one (h pins s σ H Q I hw)
theorem pe_and(ha:PE X a ta)(hb:PE X (.BoolOp .And (b::zfg) pos) tb):PE X (.BoolOp .And (a::b::zfg) pos) (tAndV ta tb):=by
 intro pins s σ H Q I h;refine BoolOp_and (thn (ha pins s σ H _ I h) fun v s1 ⟨x,H1,I1,r1,q1⟩=>?_)
 obtain⟨c,rfl,q1⟩:=q1;cases r1;refine wpAny_truthy_bool ?_;cases c with
 |true=>exact hb pins s1 σ H1 Q I1 q1
 |false=>exact⟨.bl false,H1,I1,rfl,q1⟩
theorem pe_or(ha:PE X a ta)(hb:PE X (.BoolOp .Or (b::zfg) pos) tb):PE X (.BoolOp .Or (a::b::zfg) pos) (tOrV ta tb):=by
 intro pins s σ H Q I h;refine BoolOp_or (thn (ha pins s σ H _ I h) fun v s1 ⟨x,H1,I1,r1,q1⟩=>?_)
 obtain⟨c,rfl,q1⟩:=q1;cases r1;refine wpAny_truthy_bool ?_;cases c with
 |false=>exact hb pins s1 σ H1 Q I1 q1
 |true=>exact⟨.bl true,H1,I1,rfl,q1⟩
theorem pe_not(ha:PE X a ta):PE X (.UnaryOp .Not a pos) (tNotV ta):=by
 intro pins s σ H Q I h;refine UnaryOp_ (thn (ha pins s σ H _ I h) fun v s1 ⟨x,H1,I1,r1,q1⟩=>?_)
 obtain⟨c,rfl,q1⟩:=q1;cases r1;exact not_of (wpAny_truthy_bool ⟨.bl (!c),H1,I1,rfl,q1⟩)
def tIf(t:TT)(ta tb:TE):TE:=fun σ H Q=>t σ H fun c H1=>if c=true then ta σ H1 Q else tb σ H1 Q
theorem pe_ifExp{c:Expr}(hc:PT X c tA)(ha:PE X a ta)(hb:PE X b tb):PE X (.IfExp c a b pos) (tIf tA ta tb):=by
 intro pins s σ H Q I h;refine wpAny_IfExp (thn (hc pins s σ H _ I h) fun d s1 ⟨H1,I1,q1⟩=>?_)
 cases d with
 |true=>exact ha pins s1 σ H1 Q I1 q1
 |false=>exact hb pins s1 σ H1 Q I1 q1
end
def SqL(K:PySem.W.Frag)(H:Hp)(a:Addr)(xs:List V):Prop :=
 Rd H a (.lst xs) \/
  ∃(o:Obj) (its:Array Value) (n:Nat),K.lookup a=some o/\o.cls=.type "list"/\o.dict=none/\o.data=.seq its n/\its.size<=sizeLine/\zbc xs its.toList
def SqT(K:PySem.W.Frag)(H:Hp)(a:Addr)(xs:List V):Prop :=
 Rd H a (.tup xs) \/
  ∃(o:Obj) (its:Array Value) (n:Nat),K.lookup a=some o/\o.cls=.type "tuple"/\o.data=.seq its n/\its.size<=sizeLine/\zbc xs its.toList
def absV:Value->Option V
 |.none=>some .non
 |.bool b=>some (.bl b)
 |.int i _=>some (.int i)
 |.str x _=>some (.str x)
 |.bytes b _=>some (.byt b)
 |.float b _=>some (.flt b)
 |.ref a=>some (.ref a)
 |.type n=>some (.ty n)
 |_=>none
theorem RelV.abs{x:V}{u:Value}(r:RelV x u):absV u=some x:=by
 cases x with
 |non=>cases r;rfl
 |bl _=>cases r;rfl
 |int _=>obtain⟨t,rfl⟩:=r;rfl
 |str _=>obtain⟨t,rfl⟩:=r;rfl
 |byt _=>obtain⟨t,rfl⟩:=r;rfl
 |flt _=>obtain⟨t,rfl⟩:=r;rfl
 |ref _=>cases r;rfl
 |ty _=>cases r;rfl
theorem RelV.inj{x y:V}{u:Value}(r:RelV x u)(q:RelV y u):x=y:=yax (r.abs.symm.trans q.abs)
theorem zbc.inj:∀{xs ys:List V} {us:List Value},zbc xs us->zbc ys us->xs=ys
 |_,_,_,.nil,.nil=>rfl
 |_,_,_,.cons r t,.cons r' t'=>by rw[r.inj r',zbc.inj t t']
section
variable {X:Cx}{pins:List (Addr×Obj)}{σ:St}{H:Hp}{s:Shared}{a:Addr}{xs ys:List V}
theorem SqL.of{K:PySem.W.Frag}(h:H a=some (.lst xs)):SqL K H a xs:=.inl (.inl h)
theorem SqT.of{K:PySem.W.Frag}(h:H a=some (.tup xs)):SqT K H a xs:=.inl (.inl h)
theorem Inv.list(I:Inv X pins σ H s)(h:SqL X.K H a xs):∃its:List Value,zbc xs its/\PlainL s.heap a its.toArray/\xs.length<=sizeLine:=by
 rcases h with h|⟨o,its,n,hk,hc,hd,hs,hz,r⟩
 ·obtain⟨z,its,n,r,e⟩:=h.ok I.hok;exact⟨its,r,⟨_,n,e,rfl,rfl,rfl⟩,z⟩
 ·refine⟨its.toList,r,⟨o,n,I.kIn a o hk,hc,hd,by simpa using hs⟩,?_⟩
  have e:=r.length;simp only[ydh]at e
  omega
theorem Inv.tuple(I:Inv X pins σ H s)(h:SqT X.K H a xs):∃its:List Value,zbc xs its/\IsTup s.heap a its.toArray/\xs.length<=sizeLine:=by
 rcases h with h|⟨o,its,n,hk,hc,hs,hz,r⟩
 ·obtain⟨z,its,r,p⟩:=h.ok I.hok;exact⟨its,r,p,z⟩
 ·refine⟨its.toList,r,⟨o,I.kIn a o hk,hc,n,by simpa using hs⟩,?_⟩
  have e:=r.length;simp only[ydh]at e
  omega
theorem Inv.list_inj(I:Inv X pins σ H s)(h:SqL X.K H a xs)(h':SqL X.K H a ys):xs=ys:=by
 obtain⟨its,r,⟨o,n,e,_,_,d⟩,_⟩:=I.list h;obtain⟨its',r',⟨o',n',e',_,_,d'⟩,_⟩:=I.list h';rw[e]at e';cases e';rw[d]at d';injection d' with d1 _
 have:its=its':=by simpa using congrArg Array.toList d1
 subst this;exact r.inj r'
theorem Inv.tuple_inj(I:Inv X pins σ H s)(h:SqT X.K H a xs)(h':SqT X.K H a ys):xs=ys:=by
 obtain⟨its,r,⟨o,e,_,n,d⟩,_⟩:=I.tuple h;obtain⟨its',r',⟨o',e',_,n',d'⟩,_⟩:=I.tuple h';rw[e]at e';cases e';rw[d]at d';injection d' with d1 _
 have:its=its':=by simpa using congrArg Array.toList d1
 subst this;exact r.inj r'
end
abbrev Cx.wish(X:Cx)(E:Value->Shared->Prop):Cx:={ X with xe:=E }
abbrev Cx.nox(X:Cx):Cx:=X.wish fun _ _=>False
theorem Cx.Ok.wish{X:Cx}(ok:X.Ok)(E:Value->Shared->Prop):(X.wish E).Ok :=
 ⟨ok.mod,ok.kind,ok.glob,ok.blt,ok.above,ok.inj,ok.has,ok.cab,ok.hd,ok.frames,ok.stk,ok.exf,ok.bs,ok.bsz,ok.noex,ok.exfs,ok.funs,ok.frf⟩
theorem Cx.Ok.unwish{X:Cx}{E:Value->Shared->Prop}(ok:(X.wish E).Ok):X.Ok :=
 ⟨ok.mod,ok.kind,ok.glob,ok.blt,ok.above,ok.inj,ok.has,ok.cab,ok.hd,ok.frames,ok.stk,ok.exf,ok.bs,ok.bsz,ok.noex,ok.exfs,ok.funs,ok.frf⟩
section
variable {X:Cx}{pins:List (Addr×Obj)}{σ:St}{H:Hp}{s:Shared}{E:Value->Shared->Prop}
theorem Inv.wish(I:Inv X pins σ H s)(E:Value->Shared->Prop):Inv (X.wish E) pins σ H s:=⟨I.ok.wish E,I.os,I.bare,I.base,I.loc,I.cell,I.free,I.freeC,I.pin,I.hok,I.len⟩
theorem Inv.unwish(I:Inv (X.wish E) pins σ H s):Inv X pins σ H s:=⟨I.ok.unwish,I.os,I.bare,I.base,I.loc,I.cell,I.free,I.freeC,I.pin,I.hok,I.len⟩
theorem SP.unwish{D:Ends}{f:Flow}{s':Shared}(h:SP (X.wish E) pins D f s'):SP X pins D f s':=by
 cases f with
 |next=>obtain⟨σ',H',I,q⟩:=h;exact⟨σ',H',I.unwish,q⟩
 |brk=>obtain⟨σ',H',I,q⟩:=h;exact⟨σ',H',I.unwish,q⟩
 |cont=>obtain⟨σ',H',I,q⟩:=h;exact⟨σ',H',I.unwish,q⟩
 |ret u=>obtain⟨v,σ',H',I,r,q⟩:=h;exact⟨v,σ',H',I.unwish,r,q⟩
theorem PE.nox{e:Expr}{t:TE}(h:PE X.nox e t):PE X e t:=fun pins s σ H Q I hw =>
 wpAny_mono (h pins s σ H Q (I.wish _) hw) (fun _ _ ⟨v,H',I',r,q⟩=>⟨v,H',I'.unwish,r,q⟩) fun _ _ z=>False.elim z
theorem PT.nox{e:Expr}{t:TT}(h:PT X.nox e t):PT X e t:=fun pins s σ H Q I hw =>
 wpAny_mono (h pins s σ H Q (I.wish _) hw) (fun _ _ ⟨H',I',q⟩=>⟨H',I'.unwish,q⟩) fun _ _ z=>False.elim z
theorem PSs.nox{st:List Stmt}{t:TS}(h:PSs X.nox st t):PSs X st t:=fun pins s σ H D I hw =>
 wpAny_mono (h pins s σ H D (I.wish _) hw) (fun _ _ q=>q.unwish) fun _ _ z=>False.elim z
end
section
variable {X:Cx}{st:Stmt}{zfg:List Stmt}{t u:TS}{e:Expr}{te:TE}{pos:Pos}
def tNext:TS:=fun D σ H=>D.nx σ H
def tSeq(t u:TS):TS:=fun D σ H=>t { D with nx:=u D } σ H
theorem pss_nil:PSs X [] tNext:=fun _ _ σ H _ I h=>wpAny_execs_nil ⟨σ,H,I,h⟩
theorem pss_cons(h1:PS X st t)(h2:PSs X zfg u):PSs X (st::zfg) (tSeq t u):=by
 intro pins s σ H D I h;refine wpAny_execs_cons (thn (h1 pins s σ H { D with nx:=u D } I h) fun f s1 q=>?_)
 cases f with
 |next =>
  obtain⟨σ',H',I',q⟩:=q;exact h2 pins s1 σ' H' D I' q
 |ret v=>exact q
 |brk=>exact q
 |cont=>exact q
theorem pss_one(h1:PS X st t):PSs X [st] t:=by
 intro pins s σ H D I h;refine wpAny_execs_cons (thn (h1 pins s σ H D I h) fun f s1 q=>?_)
 cases f with
 |next=>exact wpAny_execs_nil q
 |ret v=>exact q
 |brk=>exact q
 |cont=>exact q
def tBreak:TS:=fun D σ H=>D.bk σ H
def tCont:TS:=fun D σ H=>D.ct σ H
theorem ps_pass:PS X (.Pass pos) tNext:=fun _ _ σ H _ I h=>wpAny_Pass ⟨σ,H,I,h⟩
theorem ps_break:PS X (.Break pos) tBreak:=fun _ _ σ H _ I h=>wpAny_Break ⟨σ,H,I,h⟩
theorem ps_continue:PS X (.Continue pos) tCont:=fun _ _ σ H _ I h=>wpAny_Continue ⟨σ,H,I,h⟩
theorem Inv.quiet{pins:List (Addr×Obj)}{σ:St}{H:Hp}{s:Shared}(I:Inv X pins σ H s):interactive X.env=false:=by simp[interactive,I.ok.kind]
def tDrop(te:TE):TS:=fun D σ H=>te σ H fun _ H1=>D.nx σ H1
theorem ps_expr(he:PE X e te)(hs:swapsWith e none pos.line X.env=pure false:=by rfl):PS X (.Expr e pos) (tDrop te):=by
 intro pins s σ H D I h;exact wpAny_Expr_any (thn (he pins s σ H _ I h) fun v s1 ⟨x,H1,I1,r1,q1⟩=>⟨σ,H1,I1,q1⟩) I.quiet hs
def tRet(te:TE):TS:=fun D σ H=>te σ H D.rt
theorem ps_ret(he:PE X e te):PS X (.Return (some e) pos) (tRet te):=by
 intro pins s σ H D I h;exact wpAny_Return_some (thn (he pins s σ H _ I h) fun v s1 ⟨x,H1,I1,r1,q1⟩=>⟨x,σ,H1,I1,r1,q1⟩)
def tRetN:TS:=fun D _ H=>D.rt .non H
theorem ps_retN:PS X (.Return none pos) tRetN:=fun _ _ σ H _ I h=>wpAny_Return_none ⟨.non,σ,H,I,rfl,h⟩
def tIfS(c:TT)(t u:TS):TS:=fun D σ H=>c σ H fun b H1=>if b=true then t D σ H1 else u D σ H1
theorem ps_if{c:Expr}{a b:List Stmt}{tc:TT}(hc:PT X c tc)(ha:PSs X a t)(hb:PSs X b u):PS X (.If c a b pos) (tIfS tc t u):=by
 intro pins s σ H D I h;refine wpAny_If (thn (hc pins s σ H _ I h) fun d s1 ⟨H1,I1,q1⟩=>?_)
 cases d with
 |true=>exact ha pins s1 σ H1 D I1 q1
 |false=>exact hb pins s1 σ H1 D I1 q1
end
abbrev TG:=V->St->Hp->(St->Hp->Prop)->Prop
abbrev TGs:=List V->St->Hp->(St->Hp->Prop)->Prop
def PG(X:Cx)(target:Expr)(t:TG):Prop :=
 ∀(pins:List (Addr×Obj)) (s:Shared) (σ:St) (H:Hp) (v:V) (u:Value) (Q:St->Hp->Prop),Inv X pins σ H s->RelV v u->t v σ H Q ->
  wpAny (model X.prog X.w) X.A (assign target X.env u) (fun _ s'=>∃σ' H',Inv X pins σ' H' s'/\Q σ' H') X.xe s
def PGs(X:Cx)(ts:List Expr)(t:TGs):Prop :=
 ∀(pins:List (Addr×Obj)) (s:Shared) (σ:St) (H:Hp) (vs:List V) (us:List Value) (Q:St->Hp->Prop),Inv X pins σ H s->zbc vs us->t vs σ H Q ->
  wpAny (model X.prog X.w) X.A (assignInOrder ((assignEach ts X.env).map (·.2)) us) (fun _ s'=>∃σ' H',Inv X pins σ' H' s'/\Q σ' H') X.xe s
abbrev TSet:=V->V->V->Hp->(Hp->Prop)->Prop
def PSet(X:Cx)(t:TSet):Prop :=
 ∀(pins:List (Addr×Obj)) (s:Shared) (σ:St) (H:Hp) (o i v:V) (ov iv u:Value) (Q:Hp->Prop),Inv X pins σ H s->RelV o ov->RelV i iv->RelV v u->t o i v H Q ->
  wpAny (model X.prog X.w) X.A (setItem ov iv u) (fun _ s'=>∃H',Inv X pins σ H' s'/\Q H') X.xe s
abbrev TIp:=V->V->Hp->VK->Prop
def PIp(X:Cx)(op:Operator)(t:TIp):Prop :=
 ∀(pins:List (Addr×Obj)) (s:Shared) (σ:St) (H:Hp) (x y:V) (v u:Value) (Q:VK),Inv X pins σ H s->RelV x v->RelV y u->t x y H Q ->
  wpAny (model X.prog X.w) X.A (inplaceOp op v u) (EP X pins σ Q) X.xe s
section
variable {X:Cx}{pos:Pos}
def gName(i:Nat):TG:=fun v σ H Q=>Q (σ.set i (some v)) H
theorem pg_name{i:Nat}{x:Str}(hN:X.N.Nodup)(hi:X.N[i]?=some x)(hx:Loc X.env.scope x)(hf:X.fn x=true\/X.env.scope.names.lookup x=some .local:=by first|exact .inl rfl|exact .inr rfl|assumption):PG X (.Name x pos) (gName i):=by
 intro pins s σ H v u Q I r h;exact wpAny_assign_Name (zga I hN hi hx r (fun s' I'=>⟨_,H,I',h⟩) hf)
def gNil:TGs:=fun vs σ H Q=>vs=[]/\Q σ H
def gCons(t:TG)(u:TGs):TGs:=fun vs σ H Q=>∃v r,vs=v::r/\t v σ H fun σ' H'=>u r σ' H' Q
theorem pgs_nil:PGs X [] gNil:=by
 intro pins s σ H vs us Q I r h;obtain⟨e,h⟩:=h;subst e;cases r;exact assignInOrder_nil ⟨σ,H,I,h⟩
theorem pgs_cons{e:Expr}{es:List Expr}{t:TG}{u:TGs}(h1:PG X e t)(h2:PGs X es u)
  (hs:(assignEach (e::es) X.env).map (·.2)=assign e X.env::(assignEach es X.env).map (·.2):=by rfl):PGs X (e::es) (gCons t u):=by
 intro pins s σ H vs us Q I r h;obtain⟨v,vr,e1,h⟩:=h;subst e1;cases r with
 |cons r rr =>
  rw[hs];refine assignInOrder_cons (thn (h1 pins s σ H _ _ _ I r h) fun _ s1 ⟨σ1,H1,I1,q1⟩=>?_)
  exact h2 pins s1 σ1 H1 _ _ Q I1 rr q1
def gTup(K:PySem.W.Frag)(n:Nat)(t:TGs):TG:=fun v σ H Q=>∃a xs,v=.ref a/\SqT K H a xs/\xs.length=n/\t xs σ H Q
theorem pg_tup{es:List Expr}{k:Nat}{t:TGs}{n:Nat}(hc:X.calm=true)(h:PGs X es t)
  (hn:(assignEach es X.env).length=n:=by rfl) (hst:(assignEach es X.env).findIdx? (·.1)=none:=by rfl):PG X (.Tuple es k pos) (gTup X.K n t):=by
 intro pins s σ H v u Q I r hw;obtain⟨a,xs,e1,hq,hl,hw⟩:=hw;subst e1;cases r;obtain⟨its,rv,ht,hz⟩:=I.tuple hq;refine assign_Tuple_tuple (I.ok.hd hc) ht (by simp[hn,<- hl,rv.length]) hst fun h' hx=>?_
 have I1:Inv X pins σ H { s with heap:=h' }:=I.kept (t':=s.toks) fun b o e=>hx b o (yao (yac e)) e
 exact h pins _ σ H xs _ Q I1 (by simpa using rv) hw
def gSub(to ti:TE)(t:TSet):TG:=fun v σ H Q=>to σ H fun o H1=>ti σ H1 fun i H2=>t o i v H2 fun H3=>Q σ H3
theorem pg_sub{o i:Expr}{to ti:TE}{t:TSet}(ho:PE X o to)(hi:PE X i ti)(hs:PSet X t)
  (ha : ∀ v, assign (.Subscript o i pos) X.env v = (do
   let ov <- holding [v] (eval o X.env);let iv <- holding [v,ov] (eval i X.env)
   standAt pos
   holding [v,ov,iv] (setItem ov iv v)
   release [v,ov,iv] []):=by intro _;rfl):PG X (.Subscript o i pos) (gSub to ti t):=by
 intro pins s σ H v u Q I r h;rw[ha];refine wpAny_bind (wpAny_holding (thn (ho pins s σ H _ I h) fun ov s1 ⟨x,H1,I1,r1,q1⟩=>?_))
 refine wpAny_bind (wpAny_holding (thn (hi pins s1 σ H1 _ I1 q1) fun iv s2 ⟨y,H2,I2,r2,q2⟩=>?_))
 refine wpAny_bind (wpAny_standAt (wpAny_bind (wpAny_holding (thn (hs pins s2 σ H2 x y v ov iv u _ I2 r1 r2 r q2) fun _ s3 ⟨H3,I3,q3⟩=>?_))))
 exact wpAny_release ⟨σ,H3,I3,q3⟩
def tAsg(te:TE)(g:TG):TS:=fun D σ H=>te σ H fun x H1=>g x σ H1 D.nx
theorem ps_asg{tg e:Expr}{te:TE}{g:TG}(he:PE X e te)(hg:PG X tg g)(hs:swapsWithSole [tg] e pos.line X.env=pure false:=by rfl)(hw:swappedStores [tg] e X.env=pure none:=by rfl)
  (h1:(assignEach [tg] X.env).map (·.2)=[assign tg X.env]:=by rfl):PS X (.Assign [tg] e pos) (tAsg te g):=by
 intro pins s σ H D I h;refine wpAny_Assign_stores (thn (he pins s σ H _ I h) fun v s1 ⟨x,H1,I1,r1,q1⟩=>?_) hs hw
 rw[h1];exact thn (hg pins s1 σ H1 x v _ I1 r1 q1) fun _ s2 q=>q
theorem ps_set{i:Nat}{x:Str}{e:Expr}{te:TE}{pos':Pos}(hN:X.N.Nodup)(hi:X.N[i]?=some x)(hx:Loc X.env.scope x)(he:PE X e te)(hs:swapsWith e (some (.Name x pos')) pos.line X.env=pure false:=by rfl)(hf:X.fn x=true\/X.env.scope.names.lookup x=some .local:=by first|exact .inl rfl|exact .inr rfl|assumption) :
  PS X (.Assign [.Name x pos'] e pos) (tAsg te (gName i)):=by
 intro pins s σ H D I h;refine wpAny_Assign_Name (thn (he pins s σ H _ I h) fun v s1 ⟨y,H1,I1,r1,q1⟩=>?_) hs
 exact zga I1 hN hi hx r1 (fun s2 I2=>⟨_,H1,I2,q1⟩) hf
def tPar(i j:Nat)(ta:TA):TS:=fun D σ H=>ta σ H fun vs H1=>∃v w,vs=[v,w]/\D.nx ((σ.set i (some v)).set j (some w)) H1
theorem ps_par{i j:Nat}{x y:Str}{a b:Expr}{ta:TA}{px py pt:Pos}{kt k2 pt2}(hc:X.calm=true)(hN:X.N.Nodup)(hi:X.N[i]?=some x)(hj:X.N[j]?=some y)(hij:i≠j)
  (hx:X.env.scope.names.lookup x=some .local) (hy:X.env.scope.names.lookup y=some .local) (ha:PA X [a,b] ta)
  (hw:swappedStores [.Tuple [.Name x px,.Name y py] kt pt] (.Tuple [a,b] k2 pt2) X.env=pure (some [x,y]))
  (hs:swapsWithSole [.Tuple [.Name x px,.Name y py] kt pt] (.Tuple [a,b] k2 pt2) pos.line X.env=pure false:=by rfl) :
  PS X (.Assign [.Tuple [.Name x px,.Name y py] kt pt] (.Tuple [a,b] k2 pt2) pos) (tPar i j ta):=by
 intro pins s σ H D I h;rw[exec_Assign_arm];refine wpAny_bind (wpAny_standAt ?_);rw[hs];refine wpAny_bind (wpAny_pure ?_);rw[if_neg (by decide)]
 refine wpAny_bind (Tuple_ (thn (ha _ pins s σ H _ I h) fun us s1 ⟨vs,H1,I1,r1,q1⟩=>?_))
 obtain⟨v,w,e1,q1⟩:=q1;subst e1
 obtain⟨u1,u2,rfl,rv,rw'⟩:∃u1 u2,us=[u1,u2]/\RelV v u1/\RelV w u2:=by
  cases r1 with
  |cons p q =>
   cases q with
   |cons p' q' =>
    cases q';exact⟨_,_,rfl,p,p'⟩
 refine wpAny_newObj_type ?_ (by show 2<=sizeLine;decide)
 have I2:Inv X pins σ H1 { s1 with heap:=s1.heap.push { cls:=.type "tuple",data:=.seq [u1,u2].toArray } }:=I1.kept (t':=s1.toks) fun b o e=>ya9 _ e
 rw[hw];refine wpAny_bind (wpAny_pure ?_);show wpAny (model X.prog X.w) X.A (do rule "assign.swapped-stores";let items <- unpackItems (.ref s1.heap.objs.size) 2 none;assignInOrder [fun v=>bindName X.env y v,fun v=>bindName X.env x v] items.reverse;pure Flow.next) _ _ _
 refine wpAny_bind (wpAny_rule (wpAny_bind (unpackItems_tuple (items:=#[u1,u2]) (I.ok.hd hc) (IsTup.new s1.heap _) fun h' hx'=>?_)))
 have I3:=I2.kept (h':=h') (t':=s1.toks) fun b o e=>hx' b o (yao (yac e)) e
 show wpAny _ _ (assignInOrder [fun v=>bindName X.env y v,fun v=>bindName X.env x v] [u2,u1] >>= fun _=>pure Flow.next) _ _ _
 refine wpAny_bind (assignInOrder_cons (wpAny_bindName (zga I3 hN hj (.inl hy) rw' (fun s2 I4=>?_) (.inr hy))))
 refine assignInOrder_cons (wpAny_bindName (zga I4 hN hi (.inl hx) rv (fun s3 I5=>assignInOrder_nil (wpAny_pure ?_)) (.inr hx)))
 rw[List.set_comm _ _ (yat hij)]at I5;exact⟨_,H1,I5,q1⟩
def tAug(i:Nat)(te:TE)(ti:TIp):TS:=fun D σ H=>∃x,σ[i]?=some (some x)/\te σ H fun y H1=>ti x y H1 fun z H2=>D.nx (σ.set i (some z)) H2
theorem ps_aug{i:Nat}{x:Str}{e:Expr}{te:TE}{op:Operator}{ti:TIp}{pos':Pos}(hN:X.N.Nodup)(hi:X.N[i]?=some x)(hx:Loc X.env.scope x)(he:PE X e te)(ho:PIp X op ti)(hf:X.fn x=true\/X.env.scope.names.lookup x=some .local:=by first|exact .inl rfl|exact .inr rfl|assumption) :
  PS X (.AugAssign (.Name x pos') op e pos) (tAug i te ti):=by
 intro pins s σ H D I h;obtain⟨v,e1,h⟩:=h;obtain⟨m,hn,hl⟩:=I.loc;have vis:Vis X.env.scope x:=by rcases hx with k|k;exact .inl k;exact .inr (.inl k)
 obtain⟨u,r,l⟩:=hl i x v hi e1 vis;refine wpAny_AugAssign_Name ?_
 have go:wpAny (model X.prog X.w) X.A (eval e X.env) (fun w s₂=>wpAny (model X.prog X.w) X.A (inplaceOp op u w) (fun r s₃=>wpAny (model X.prog X.w) X.A (storeName X.env x r) (fun _=>SP X pins D .next) X.xe s₃) X.xe s₂) X.xe s:=by
  refine thn (he pins s σ H _ I h) fun w s1 ⟨y,H1,I1,r1,q1⟩=>?_
  refine thn (ho pins s1 σ H1 v y u w _ I1 r r1 q1) fun z s2 ⟨zv,H2,I2,r2,q2⟩=>?_
  exact zga I2 hN hi hx r2 (fun s3 I3=>⟨_,H2,I3,q2⟩) hf
 rcases l with ⟨hk,hm⟩|⟨hk,c,hc,hcell⟩
 ·exact wpAny_loadName_local I.ok.kind hk hn hm go
 ·rcases hk with hk|hk
  ·exact wpAny_loadName_cell I.ok.kind hk hc hcell go
  ·rcases hx with k|k
   ·have:X.env.scope.names.lookup x=some .free:=hk;rw[k]at this;cases this
   ·have:X.env.scope.names.lookup x=some .free:=hk;rw[k]at this;cases this
def ipI(f:Int->Int->Int):TIp:=fun x y H Q=>∃i j,x=.int i/\y=.int j/\Q (.int (f i j)) H
theorem ip_add:PIp X .Add (ipI fun i j=>i+j):=by
 intro pins s σ H x y v u Q I r1 r2 h;obtain⟨i,j,e1,e2,q⟩:=h;subst e1;subst e2;obtain⟨t,rfl⟩:=r1;obtain⟨t',rfl⟩:=r2;exact iadd_int ⟨.int _,H,I.tok _,⟨_,rfl⟩,q⟩
end
section
variable {X:Cx}{pos:Pos}
def tWhile(c:TT)(tb:TS):TS:=fun D σ H=>∃W:Nat->St->Hp->Prop,(∃m,W m σ H)/\∀m σ H,W m σ H ->
 c σ H fun b H1=>if b=true then ∃N:St->Hp->Prop,(∀σ' H',N σ' H'->∃m',m'<m/\W m' σ' H')/\tb { D with nx:=N,ct:=N,bk:=D.nx } σ H1 else D.nx σ H1
theorem ps_while{c:Expr}{body:List Stmt}{tc:TT}{tb:TS}(hp:PassesOwn (model X.prog X.w) X.A X.env X.xe)(hc:PT X c tc)(hb:PSs X body tb):PS X (.While c body [] pos) (tWhile tc tb):=by
 intro pins s σ H D I h;obtain⟨W,⟨m0,w0⟩,turn⟩:=h;refine wpAny_While (codeAny_whileLoop (fun n s'=>∃σ' H',Inv X pins σ' H' s'/\W n σ' H') ?_ m0 ⟨σ,H,I,w0⟩)
 rintro n s1 ⟨σ1,H1,I1,w1⟩;refine wpAny_passesOwn hp (thn (hc pins s1 σ1 H1 _ I1 (turn n σ1 H1 w1)) fun b s2 ⟨H2,I2,q2⟩=>?_)
 cases b with
 |true =>
  obtain⟨N,hN,q2⟩:=q2;rw[if_pos rfl];refine wpAny_passesOwn hp (thn (hb pins s2 σ1 H2 _ I2 q2) fun f s3 q3=>?_)
  cases f with
  |next =>
   obtain⟨σ3,H3,I3,n3⟩:=q3;obtain⟨m',hm,w3⟩:=hN σ3 H3 n3;exact⟨m',hm,σ3,H3,I3,w3⟩
  |cont =>
   obtain⟨σ3,H3,I3,n3⟩:=q3;obtain⟨m',hm,w3⟩:=hN σ3 H3 n3;exact⟨m',hm,σ3,H3,I3,w3⟩
  |brk=>exact q3
  |ret v=>exact q3
 |false =>
  rw[if_neg yb4];exact wpAny_execs_nil ⟨σ1,H2,I2,q2⟩
end
structure It where
 go:Nat->Hp->Prop
 yld:Nat->Hp->V->Hp->Prop
 stop:Nat->Hp->Prop
def FpOk(X:Cx)(pins:List (Addr×Obj))(H:Hp)(b:Addr):Prop :=
 H b=none/\b≠X.env.locals/\b∉X.fs/\(b∈X.ex\/X.s₀.heap.objs.size<=b)/\(∀x c,X.env.cells.lookup x=some c->c≠b)/\∀p∈X.pn++pins,p.1≠b
theorem Inv.fpOk{X:Cx}{pins:List (Addr×Obj)}{σ:St}{H H':Hp}{s:Shared}{b:Addr}(I:Inv X pins σ H s)(hb:s.heap.objs.size<=b)(hn:H' b=none):FpOk X pins H' b:=by
 refine⟨hn,Nat.ne_of_gt (yah I.lt hb),I.nofs hb,.inr (yal I.sz hb),fun x c e z=>?_,fun p hp z=>?_⟩
 ·obtain⟨v,q⟩:=I.cell x c e;exact absurd (yah q.lt (by rw[z];exact hb)) (yau _)
 ·exact absurd (yah (yac (I.pin p hp).1) (by rw[z];exact hb)) (yau _)
structure Turn(P:Program)(w:World)(K:PySem.W.Frag)(tg:Expr)(J:It)(fp:List Addr)(it:Addr)(tn:Nat->Heap->Prop):Prop where
 mem:it∈fp
 obj:∀i h,tn i h->∀b∈fp,∃o,h.get? b=some o/\∀v,o.data≠.cell v
 keep:∀i h h',tn i h->(∀b∈fp,∀o,h.get? b=some o->h'.get? b=some o)->tn i h'
 item:∀(X:Cx),X.prog=P->X.w=w->X.K=K->X.calm=true->∀(i:Nat) (pins:List (Addr×Obj)) (s:Shared) (σ:St) (H:Hp) (E:Value->Shared->Prop),Inv X pins σ H s->(∀b∈fp,FpOk X pins H b)->tn i s.heap->J.go i H ->
  wpAny (model P w) X.A (pyNext (.ref it)) (fun r s1=>∃u,r=some u /\
   wpAny (model P w) X.A (letOwnedTupleGo tg (.ref it) u) (fun _ s2=>∃x H',Inv X pins σ H' s2/\RelV x u/\J.yld i H x H'/\tn (i+1) s2.heap/\∀b∈fp,H' b=none) E s1) E s
 done:∀(X:Cx),X.prog=P->X.w=w->X.K=K->X.calm=true->∀(i:Nat) (pins:List (Addr×Obj)) (s:Shared) (σ:St) (H:Hp) (E:Value->Shared->Prop),Inv X pins σ H s->(∀b∈fp,FpOk X pins H b)->tn i s.heap->J.stop i H ->
  wpAny (model P w) X.A (pyNext (.ref it)) (fun r s1=>r=none/\Inv X pins σ H s1) E s
 self:∀(A:Around) (i:Nat) (s:Shared) (Q:Value->Shared->Prop) (E:Value->Shared->Prop),tn i s.heap->Q (.ref it) s->wpAny (model P w) A (pyIter (.ref it)) Q E s
abbrev TI:=St->Hp->(It->Hp->Prop)->Prop
def PIE(X:Cx)(pins:List (Addr×Obj))(σ:St)(tg:Expr)(R:It->Hp->Prop)(itv:Value)(s2:Shared):Prop :=
 ∃(it:Addr) (fp:List Addr) (tn:Nat->Heap->Prop) (J:It) (H':Hp),itv=.ref it/\Inv X pins σ H' s2/\Turn X.prog X.w X.K tg J fp it tn/\tn 0 s2.heap/\(∀b∈fp,FpOk X pins H' b)/\R J H'
def PI(X:Cx)(tg iter:Expr)(wi:TI):Prop :=
 ∀(pins:List (Addr×Obj)) (s:Shared) (σ:St) (H:Hp) (R:It->Hp->Prop),Inv X pins σ H s->wi σ H R ->
  wpAny (model X.prog X.w) X.A (eval iter X.env) (fun v s1=>wpAny (model X.prog X.w) X.A (pyIter v) (PIE X pins σ tg R) X.xe s1) X.xe s
theorem go_of{M:Model}{A:Around}{E:Value->Shared->Prop}{s:Shared}{tg:Expr}{it:Addr}{u:Value}{o:Obj}{n:String}{vs:Array Value}{Q:Unit->Shared->Prop}(ho:s.heap.get? it=some o)(hc:o.cls=.type n)(hd:o.data=.fields vs)
    (hn:["enumerate","zip","dict_itemiterator","dict_reverseitemiterator","odict_iterator","itertools.zip_longest","itertools.pairwise"].contains n=false) (hQ:Q () s):wpAny M A (letOwnedTupleGo tg (.ref it) u) Q E s:=by
  unfold letOwnedTupleGo
  cases tg<;>first
    |exact wpAny_pure hQ
    |(cases u<;>first
        |exact wpAny_pure hQ
        | (refine wpAny_bind (wpAny_load ho ?_)
           rw[hc,hd];show wpAny M A (if (["enumerate","zip","dict_itemiterator","dict_reverseitemiterator","odict_iterator","itertools.zip_longest","itertools.pairwise"].contains n && vs[0]? == some (rawInt _))=true then _ else _) Q E s
           rw[if_neg (by intro h;rw[hn,ycq]at h;cases h)]
           exact wpAny_pure hQ))
def Itl(K:PySem.W.Frag)(a:Addr):It :=
 ⟨fun i H=>∃xs x,SqL K H a xs/\xs[i]?=some x,fun i H x H'=>H'=H/\∀xs,SqL K H a xs->xs[i]?=some x,fun i H=>∃xs,SqL K H a xs/\xs.length<=i⟩
def Itt(K:PySem.W.Frag)(a:Addr):It :=
 ⟨fun i H=>∃xs x,SqT K H a xs/\xs[i]?=some x,fun i H x H'=>H'=H/\∀xs,SqT K H a xs->xs[i]?=some x,fun i H=>∃xs,SqT K H a xs/\xs.length<=i⟩
def Itr(lo:Int)(n:Nat):It:=⟨fun i _=>i<n,fun i H x H'=>H'=H/\x=.int (lo+i),fun i _=>n<=i⟩
theorem turn_list{P:Program}{w:World}{K:PySem.W.Frag}{tg:Expr}(a it:Addr):Turn P w K tg (Itl K a) [it] it (fun i h=>h.IsListIter it a i) where
 mem:=by simp
 obj:=fun i h st b hb=>by
  have e:b=it:=by simpa using hb
  subst e;obtain⟨o,e,c,d⟩:=st;exact⟨o,e,fun v z=>by rw[d]at z;cases z⟩
 keep:=fun i h h' st k=>st.at fun o e=>k it (by simp) o e
 item:=by
  intro X hP hw hK hc i pins s σ H E I hf st hg;subst hP hw hK;obtain⟨xs,x,hq,hx⟩:=hg;obtain⟨its,rv,p,hz⟩:=I.list hq;obtain⟨u,hu,ru⟩:=rv.get hx;obtain⟨f0,f1,f2,f3,f4,f5⟩:=hf it (by simp)
  refine wpAny_pyNext_list_item st p.isList (x:=u) (by simpa using hu) fun h' st' sb=>?_
  have I1:Inv X pins σ H { s with heap:=h' }:=I.turned (t':=s.toks) (fun b o hb e=>(sb.2 b hb).trans e) f0 f1 f3 f4 f5
  obtain⟨o,e,c,d⟩:=id st';exact⟨u,rfl,go_of (s:={ s with heap:=h' }) e c d (by decide) ⟨x,H,I1,ru,⟨rfl,fun ys hy=>by rw[I.list_inj hy hq];exact hx⟩,st',fun b hb=>(hf b hb).1⟩⟩
 done:=by
  intro X hP hw hK hc i pins s σ H E I hf st hg;subst hP hw hK;obtain⟨xs,hq,hx⟩:=hg;obtain⟨its,rv,p,hz⟩:=I.list hq;obtain⟨f0,f1,f2,f3,f4,f5⟩:=hf it (by simp)
  have hl:=rv.length;exact wpAny_pyNext_list_end (I.ok.hd hc) st p.isList (by simp;omega) fun h' eb=>⟨rfl,I.turned (t':=s.toks) (fun b o hb e=>eb b o hb e) f0 f1 f3 f4 f5⟩
 self:=fun _ _ _ _ _ st h=>wpAny_pyIter_listiter st h
theorem turn_tuple{P:Program}{w:World}{K:PySem.W.Frag}{tg:Expr}(a it:Addr):Turn P w K tg (Itt K a) [it] it (fun i h=>h.IsTupleIter it a i) where
 mem:=by simp
 obj:=fun i h st b hb=>by
  have e:b=it:=by simpa using hb
  subst e;obtain⟨o,e,c,d⟩:=st;exact⟨o,e,fun v z=>by rw[d]at z;cases z⟩
 keep:=fun i h h' st k=>st.at fun o e=>k it (by simp) o e
 item:=by
  intro X hP hw hK hc i pins s σ H E I hf st hg;subst hP hw hK;obtain⟨xs,x,hq,hx⟩:=hg;obtain⟨its,rv,p,hz⟩:=I.tuple hq;obtain⟨u,hu,ru⟩:=rv.get hx;obtain⟨f0,f1,f2,f3,f4,f5⟩:=hf it (by simp)
  refine wpAny_pyNext_tuple_item st (show s.heap.IsTuple a its.toArray from p) (x:=u) (by simpa using hu) fun h' st' sb=>?_
  have I1:Inv X pins σ H { s with heap:=h' }:=I.turned (t':=s.toks) (fun b o hb e=>(sb.2 b hb).trans e) f0 f1 f3 f4 f5
  obtain⟨o,e,c,d⟩:=id st';exact⟨u,rfl,go_of (s:={ s with heap:=h' }) e c d (by decide) ⟨x,H,I1,ru,⟨rfl,fun ys hy=>by rw[I.tuple_inj hy hq];exact hx⟩,st',fun b hb=>(hf b hb).1⟩⟩
 done:=by
  intro X hP hw hK hc i pins s σ H E I hf st hg;subst hP hw hK;obtain⟨xs,hq,hx⟩:=hg;obtain⟨its,rv,p,hz⟩:=I.tuple hq;obtain⟨f0,f1,f2,f3,f4,f5⟩:=hf it (by simp)
  have hl:=rv.length;exact wpAny_pyNext_tuple_end (I.ok.hd hc) st (show s.heap.IsTuple a its.toArray from p) (by simp;omega) fun h' eb=>⟨rfl,I.turned (t':=s.toks) (fun b o hb e=>eb b o hb e) f0 f1 f3 f4 f5⟩
 self:=fun _ _ _ _ _ st h=>wpAny_pyIter_tupleiter st h
theorem turn_range{P:Program}{w:World}{K:PySem.W.Frag}{tg:Expr}(it:Addr)(lo:Int)(n:Nat):Turn P w K tg (Itr lo n) [it] it (fun i h=>IsRangeIter h it (lo+(i:Nat) * 1) ((n:Int) - (i:Nat)) 1) where
 mem:=by simp
 obj:=fun i h st b hb=>by
  have e:b=it:=by simpa using hb
  subst e
  exact⟨_,st,fun v z=>by
   have z':Data.fields _=Data.cell v:=z;cases z'⟩
 keep:=fun i h h' st k=>k it (by simp) _ st
 item:=by
  intro X hP hw hK hc i pins s σ H E I hf st hg;subst hP hw hK;obtain⟨f0,f1,f2,f3,f4,f5⟩:=hf it (by simp)
  have W:=Walks.range (prog:=X.prog) (w:=X.w) (I.ok.hd hc) it lo 1 n;refine W.item i s _ _ hg st fun v h' tk hv st' kk=>?_
  obtain⟨t,rfl⟩:=hv;have I1:Inv X pins σ H { s with heap:=h',toks:=tk }:=I.turned (fun b o hb e=>kk b o (by simpa using hb) e) f0 f1 f3 f4 f5
  refine⟨_,rfl,go_of (s:={ s with heap:=h',toks:=tk }) (n:="range_iterator") st' rfl rfl (by decide) ⟨.int (lo+i),H,I1,⟨t,?_⟩,⟨rfl,rfl⟩,st',fun b hb=>(hf b hb).1⟩⟩
  rw[Int.mul_one]
 done:=by
  intro X hP hw hK hc i pins s σ H E I hf st hg;subst hP hw hK;obtain⟨f0,f1,f2,f3,f4,f5⟩:=hf it (by simp)
  exact wpAny_pyNext_range_end (I.ok.hd hc) st (by have:n<=i:=hg;omega) fun h' eb=>⟨rfl,I.turned (t':=s.toks) (fun b o hb e=>eb b o hb e) f0 f1 f3 f4 f5⟩
 self:=fun _ _ _ _ _ st h=>wpAny_pyIter_rangeiter st h
section
variable {X:Cx}{tg:Expr}
def iList(K:PySem.W.Frag)(tl:TE):TI:=fun σ H R=>tl σ H fun x H1=>∃a,x=.ref a/\(∃xs,SqL K H1 a xs)/\R (Itl K a) H1
def iTup(K:PySem.W.Frag)(tl:TE):TI:=fun σ H R=>tl σ H fun x H1=>∃a,x=.ref a/\(∃xs,SqT K H1 a xs)/\R (Itt K a) H1
theorem pi_list{l:Expr}{tl:TE}(hl:PE X l tl):PI X tg l (iList X.K tl):=by
 intro pins s σ H R I h;refine thn (hl pins s σ H _ I h) fun v s1 ⟨x,H1,I1,r1,q1⟩=>?_
 obtain⟨a,e,⟨xs,hq⟩,q⟩:=q1;subst e;cases r1;obtain⟨its,rv,p,hz⟩:=I1.list hq;refine wpAny_pyIter_list p.isList ?_;refine⟨s1.heap.objs.size,[s1.heap.objs.size],_,_,H1,rfl,I1.kept (t':=s1.toks) fun b o e=>ya9 _ e,turn_list a _,⟨_,yai _ rfl,rfl,rfl⟩,fun b hb=>?_,q⟩
 have e:b=s1.heap.objs.size:=by simpa using hb
 subst e;exact I1.fpOk (yab _) (I1.hok.fresh (yab _))
theorem pi_tup{l:Expr}{tl:TE}(hl:PE X l tl):PI X tg l (iTup X.K tl):=by
 intro pins s σ H R I h;refine thn (hl pins s σ H _ I h) fun v s1 ⟨x,H1,I1,r1,q1⟩=>?_
 obtain⟨a,e,⟨xs,hq⟩,q⟩:=q1;subst e;cases r1;obtain⟨its,rv,p,hz⟩:=I1.tuple hq;refine wpAny_pyIter_tuple (show s1.heap.IsTuple a its.toArray from p) ?_;refine⟨s1.heap.objs.size,[s1.heap.objs.size],_,_,H1,rfl,I1.kept (t':=s1.toks) fun b o e=>ya9 _ e,turn_tuple a _,⟨_,yai _ rfl,rfl,rfl⟩,fun b hb=>?_,q⟩
 have e:b=s1.heap.objs.size:=by simpa using hb
 subst e;exact I1.fpOk (yab _) (I1.hok.fresh (yab _))
theorem range_it{pins:List (Addr×Obj)}{σ:St}{H:Hp}{s:Shared}{R:It->Hp->Prop}{E:Value->Shared->Prop}{lo hi:Int}{t u v:Tok}{tk:Nat}(I:Inv X pins σ H s)(h1:-(2 ^ 62)<=lo)(h2:lo<2 ^ 62)(h3:-(2 ^ 62)<=hi)(h4:hi<2 ^ 62)
  (q:R (Itr lo (hi - lo).toNat) H):wpAny (model X.prog X.w) X.A (pyIter (.ref s.heap.objs.size)) (PIE X pins σ tg R) E { s with heap:=s.heap.push { cls:=.type "range",data:=.fields #[.int lo t,.int hi u,.int 1 v] },toks:=tk }:=by
 refine wpAny_pyIter_range (IsRange.new ..) (small_one h1 h2 h3 h4) ?_;have I1:Inv X pins σ H { s with heap:=s.heap.push { cls:=.type "range",data:=.fields #[.int lo t,.int hi u,.int 1 v] },toks:=tk }:=I.kept fun b o e=>ya9 _ e
 refine⟨(s.heap.push { cls:=.type "range",data:=.fields #[.int lo t,.int hi u,.int 1 v] }).objs.size,[(s.heap.push { cls:=.type "range",data:=.fields #[.int lo t,.int hi u,.int 1 v] }).objs.size],_,_,H,rfl,
  I1.kept (t':=tk) fun b o e=>ya9 _ e,turn_range _ lo (hi - lo).toNat,?_,fun b hb=>?_,q⟩
 ·have e1:lo+((0:Nat):Int) * 1=lo:=by simp
  have e2:(((hi - lo).toNat:Nat):Int) - ((0:Nat):Int)=Builtin.Range.rangeSize lo hi 1:=by rw[rangeSize_one];split<;>omega
  show IsRangeIter _ _ (lo+((0:Nat):Int) * 1) ((((hi - lo).toNat:Nat):Int) - ((0:Nat):Int)) 1;rw[e1,e2];exact yai _ rfl
 ·have e:b=(s.heap.push { cls:=.type "range",data:=.fields #[.int lo t,.int hi u,.int 1 v] }).objs.size:=by simpa using hb
  subst e;exact I1.fpOk (yab _) (I1.hok.fresh (yab _))
def iRng1(ta:TA):TI:=fun σ H R=>ta σ H fun vs H1=>∃j:Int,vs=[.int j]/\-(2 ^ 62)<=j/\j<2 ^ 62/\R (Itr 0 j.toNat) H1
def iRng2(ta:TA):TI:=fun σ H R=>ta σ H fun vs H1=>∃i j:Int,vs=[.int i,.int j]/\(-(2 ^ 62)<=i/\i<2 ^ 62/\-(2 ^ 62)<=j/\j<2 ^ 62)/\R (Itr i (j - i).toNat) H1
theorem pi_range1{a:Expr}{ta:TA}{p pos:Pos}(hg:Gl X "range")(hm:X.mg "range"=none)(ha:PA X [a] ta)(hs:starEach [a] X.env=[(false,eval a X.env)]:=by rfl):PI X tg (.Call (.Name "range" p) [a] [] pos) (iRng1 ta):=by
 intro pins s σ H R I h;refine Call_ (zgg I hg hm boot_range (yb2 (thn (ha pos pins s σ H _ I h) fun us s1 ⟨vs,H1,I1,r1,q1⟩=>?_) hs rfl))
 obtain⟨j,e,q1,q2,q⟩:=q1;subst e;cases r1 with
 |cons r rr =>
  cases rr;obtain⟨t,rfl⟩:=r;exact call_range_1 (range_it I1 (by omega) (by omega) q1 q2 (by simpa using q))
theorem pi_range2{a b:Expr}{ta:TA}{p pos:Pos}(hg:Gl X "range")(hm:X.mg "range"=none)(ha:PA X [a,b] ta)(hs:starEach [a,b] X.env=[(false,eval a X.env),(false,eval b X.env)]:=by rfl)(hs2:starEach [b] X.env=[(false,eval b X.env)]:=by rfl) :
  PI X tg (.Call (.Name "range" p) [a,b] [] pos) (iRng2 ta):=by
 intro pins s σ H R I h;refine Call_ (zgg I hg hm boot_range (yb2 (thn (ha pos pins s σ H _ I h) fun us s1 ⟨vs,H1,I1,r1,q1⟩=>?_) (by rw[hs,hs2]) (by rw[hs2];rfl)))
 obtain⟨i,j,e,⟨q1,q2,q3,q4⟩,q⟩:=q1;subst e;cases r1 with
 |cons r rr =>
  cases rr with
  |cons r' rr =>
   cases rr;obtain⟨t,rfl⟩:=r;obtain⟨t',rfl⟩:=r';exact call_range_2 (range_it I1 q1 q2 q3 q4 q)
def tFor(wi:TI)(g:TG)(tb:TS):TS:=fun D σ H=>wi σ H fun J H1=>∃W:Nat->Nat->St->Hp->Prop,(∃m,W 0 m σ H1)/\∀i m σ H,W i m σ H ->
 (J.stop i H/\D.nx σ H)\/(J.go i H/\∃N:St->Hp->Prop,(∀σ' H',N σ' H'->∃m',m'<m/\W (i+1) m' σ' H')/\∀x H',J.yld i H x H'->g x σ H' fun σ2 H2=>tb { D with nx:=N,ct:=N,bk:=D.nx } σ2 H2)
def zid(fp:List Addr)(h:Heap):List (Addr×Obj):=fp.filterMap fun b=>(h.get? b).map fun o=>(b,o)
theorem zcs{fp:List Addr}{h:Heap}{b:Addr}{o:Obj}(hb:b∈fp)(e:h.get? b=some o):(b,o)∈zid fp h:=ybv.mpr ⟨b,hb,by rw[e];rfl⟩
theorem of_pinsAt{fp:List Addr}{h:Heap}{p:Addr×Obj}(hp:p∈zid fp h):p.1∈fp/\h.get? p.1=some p.2:=by
 obtain⟨b,hb,e⟩:=ybv.mp hp;cases q:h.get? b with
 |none=>rw[q]at e;cases e
 |some o =>
  rw[q]at e;have e':(b,o)=p:=yax e;subst e';exact⟨hb,q⟩
theorem Inv.pinned{pins:List (Addr×Obj)}{σ:St}{H:Hp}{s:Shared}{fp:List Addr}(I:Inv X pins σ H s)(hf:∀b∈fp,FpOk X pins H b)(ho:∀b∈fp,∃o,s.heap.get? b=some o/\∀v,o.data≠.cell v):Inv X (pins++zid fp s.heap) σ H s :=
 I.pins_of fun p hp=>(yas.mp hp).elim (fun z=>I.pin p (yaj _ z)) fun z=>by
  obtain⟨hb,e⟩:=of_pinsAt z;obtain⟨f0,f1,f2,_⟩:=hf p.1 hb;obtain⟨o,e',d⟩:=ho p.1 hb;rw[e]at e';cases e';exact⟨e,f0,f1,f2,d⟩
theorem Inv.unpinned{pins pl:List (Addr×Obj)}{σ:St}{H:Hp}{s:Shared}(I:Inv X (pins++pl) σ H s):Inv X pins σ H s:=I.pins_of fun p hp=>I.pin p (yaj _ (yc1 _ hp))
theorem ps_for{iter:Expr}{body:List Stmt}{wi:TI}{g:TG}{tb:TS}{pos:Pos}(hp:PassesOwn (model X.prog X.w) X.A X.env X.xe)(hc:X.calm=true)(hi:PI X tg iter wi)(hg:PG X tg g)(hb:PSs X body tb)
  (hs:∀x,foldedSetIterable iter X.env x=pure x:=by intro _;rfl):PS X (.For tg iter body [] pos) (tFor wi g tb):=by
 intro pins s σ H D I h;refine wpAny_For (thn (hi pins s σ H _ I h) fun v s1 h1=>thn h1 fun itv s2 h2=>?_) hs
 obtain⟨it,fp,tn,J,H2,e,I2,T,st2,f2,W,⟨m0,w0⟩,turn⟩:=h2;subst e;have stat:∀{H':Hp},(∀b∈fp,H' b=none)->∀b∈fp,FpOk X pins H' b:=fun hn b hb=>⟨hn b hb,(f2 b hb).2⟩
 refine codeAny_forLoop_any (fun n s'=>∃i σ' H',Inv X pins σ' H' s'/\tn i s'.heap/\(∀b∈fp,H' b=none)/\W i n σ' H') ?_ m0 ⟨0,σ,H2,I2,st2,fun b hb=>(f2 b hb).1,w0⟩
 rintro n s3 ⟨i,σ3,H3,I3,st3,fr3,w3⟩
 rcases turn i n σ3 H3 w3 with ⟨stop,qn⟩|⟨go,N,hN,step⟩
 ·refine wpAny_passesOwn hp (thn (T.done X rfl rfl rfl hc i pins s3 σ3 H3 X.xe I3 (stat fr3) st3 stop) fun r s4 ⟨hr,I4⟩=>?_)
  subst hr;exact wpAny_execs_nil ⟨σ3,H3,I4,qn⟩
 ·refine wpAny_passesOwn hp (thn (T.item X rfl rfl rfl hc i pins s3 σ3 H3 X.xe I3 (stat fr3) st3 go) fun r s4 ⟨u,hr,h4⟩=>?_)
  subst hr;refine wpAny_passesOwn hp (thn h4 fun _ s5 ⟨x,H5,I5,r5,y5,st5,fr5⟩=>?_)
  have I5':=I5.pinned (stat fr5) (T.obj _ _ st5);refine wpAny_passesOwn hp (thn (hg _ s5 σ3 H5 x u _ I5' r5 (step x H5 y5)) fun _ s6 ⟨σ6,H6,I6,q6⟩=>?_)
  refine wpAny_passesOwn hp (thn (hb _ s6 σ6 H6 _ I6 q6) fun f s7 q7=>?_)
  have again:∀{σ7:St} {H7:Hp},Inv X (pins++zid fp s5.heap) σ7 H7 s7->N σ7 H7->∃m,m<n/\∃i σ' H',Inv X pins σ' H' s7/\tn i s7.heap/\(∀b∈fp,H' b=none)/\W i m σ' H':=fun {σ7 H7} I7 n7=>by
   obtain⟨m',hm,w7⟩:=hN σ7 H7 n7;refine⟨m',hm,i+1,σ7,H7,I7.unpinned,T.keep _ _ _ st5 fun b hb o e=>(I7.pin (b,o) (yaj _ (yaj _ (zcs hb e)))).1,fun b hb=>?_,w7⟩
   obtain⟨o,e,d⟩:=T.obj _ _ st5 b hb;exact(I7.pin (b,o) (yaj _ (yaj _ (zcs hb e)))).2.1
  cases f with
  |next=>obtain⟨σ7,H7,I7,n7⟩:=q7;exact again I7 n7
  |cont=>obtain⟨σ7,H7,I7,n7⟩:=q7;exact again I7 n7
  |brk=>obtain⟨σ7,H7,I7,q7⟩:=q7;exact⟨σ7,H7,I7.unpinned,q7⟩
  |ret v=>obtain⟨x7,σ7,H7,I7,r7,q7⟩:=q7;exact⟨x7,σ7,H7,I7.unpinned,r7,q7⟩
end
abbrev R2:=V->V->Hp->VK->Prop
def OpR(X:Cx)(f:Value->Value->Sem Value)(r:R2):Prop :=
 ∀(pins:List (Addr×Obj)) (s:Shared) (σ:St) (H:Hp) (x y:V) (v u:Value) (Q:VK),Inv X pins σ H s->RelV x v->RelV y u->r x y H Q ->
  wpAny (model X.prog X.w) X.A (f v u) (EP X pins σ Q) X.xe s
def UnR(X:Cx)(f:Value->Sem Value)(r:V->Hp->VK->Prop):Prop :=
 ∀(pins:List (Addr×Obj)) (s:Shared) (σ:St) (H:Hp) (x:V) (v:Value) (Q:VK),Inv X pins σ H s->RelV x v->r x H Q ->
  wpAny (model X.prog X.w) X.A (f v) (EP X pins σ Q) X.xe s
def zc0(X:Cx)(f:Value)(r:List V->Hp->VK->Prop):Prop :=
 ∀(pins:List (Addr×Obj)) (s:Shared) (σ:St) (H:Hp) (xs:List V) (us:List Value) (Q:VK),Inv X pins σ H s->zbc xs us->r xs H Q ->
  wpAny (model X.prog X.w) X.A (call f us) (EP X pins σ Q) X.xe s
def tOp(r:R2)(ta tb:TE):TE:=fun σ H Q=>ta σ H fun x H1=>tb σ H1 fun y H2=>r x y H2 Q
def tUn(r:V->Hp->VK->Prop)(ta:TE):TE:=fun σ H Q=>ta σ H fun x H1=>r x H1 Q
def rI(C:Int->Int->Prop)(g:Int->Int->V):R2:=fun x y H Q=>∃i j,x=.int i/\y=.int j/\C i j/\Q (g i j) H
def rI0(g:Int->Int->V):R2:=fun x y H Q=>∃i j,x=.int i/\y=.int j/\Q (g i j) H
def rU(g:Int->V):V->Hp->VK->Prop:=fun x H Q=>∃i,x=.int i/\Q (g i) H
section
variable {X:Cx}{a b c:Expr}{ta tb tc:TE}{pos:Pos}
theorem binT(ha:PE X a ta)(hb:PE X b tb){pins:List (Addr×Obj)}{s:Shared}{σ:St}{H:Hp}{R:V->V->Hp->Prop}(I:Inv X pins σ H s)
  (h:ta σ H fun x H1=>tb σ H1 fun y H2=>R x y H2) {Q:Value->Shared->Prop} {f:Value->Value->Sem Value}
  (hf:∀v u s2 x y H2,Inv X pins σ H2 s2->RelV x v->RelV y u->R x y H2->wpAny (model X.prog X.w) X.A (f v u) Q X.xe s2) :
  wpAny (model X.prog X.w) X.A (eval a X.env) (fun v s₁=>wpAny (model X.prog X.w) X.A (eval b X.env) (fun u s₂=>wpAny (model X.prog X.w) X.A (f v u) Q X.xe s₂) X.xe s₁) X.xe s:=by
 refine thn (ha pins s σ H _ I h) fun v s1 ⟨x,H1,I1,r1,q1⟩=>?_
 refine thn (hb pins s1 σ H1 _ I1 q1) fun u s2 ⟨y,H2,I2,r2,q2⟩=>?_
 exact hf v u s2 x y H2 I2 r1 r2 q2
theorem pe_op{op:Operator}{r:R2}(ho:OpR X (binaryOp op) r)(ha:PE X a ta)(hb:PE X b tb):PE X (.BinOp a op b pos) (tOp r ta tb):=by
 intro pins s σ H Q I h;exact wpAny_BinOp (binT ha hb I h fun v u s2 x y H2 I2 rx ry q=>ho pins s2 σ H2 x y v u Q I2 rx ry q)
theorem pe_un{op:UnaryOp}{r:V->Hp->VK->Prop}(ho:UnR X (unaryOp op) r)(ha:PE X a ta):PE X (.UnaryOp op a pos) (tUn r ta):=by
 intro pins s σ H Q I h;exact UnaryOp_ (thn (ha pins s σ H _ I h) fun v s1 ⟨x,H1,I1,r1,q1⟩=>ho pins s1 σ H1 x v Q I1 r1 q1)
theorem opI{f:Value->Value->Sem Value}{C:Int->Int->Prop}{g:Int->Int->Int}
  (rule:∀(i j:Int) (t u:Tok) (s:Shared) (Q:Value->Shared->Prop) (E:Value->Shared->Prop),C i j->Q (.int (g i j) s.toks) { s with toks:=s.toks+1 }->wpAny (model X.prog X.w) X.A (f (.int i t) (.int j u)) Q E s) :
  OpR X f (rI C fun i j=>.int (g i j)):=by
 intro pins s σ H x y v u Q I rx ry h;obtain⟨i,j,rfl,rfl,hc,q⟩:=h;obtain⟨t,rfl⟩:=rx;obtain⟨t',rfl⟩:=ry;exact rule i j t t' s _ _ hc ⟨.int (g i j),H,I.tok _,⟨_,rfl⟩,q⟩
theorem opI0{f:Value->Value->Sem Value}{g:Int->Int->Int}
  (rule:∀(i j:Int) (t u:Tok) (s:Shared) (Q:Value->Shared->Prop) (E:Value->Shared->Prop),Q (.int (g i j) s.toks) { s with toks:=s.toks+1 }->wpAny (model X.prog X.w) X.A (f (.int i t) (.int j u)) Q E s) :
  OpR X f (rI0 fun i j=>.int (g i j)):=by
 intro pins s σ H x y v u Q I rx ry h;obtain⟨i,j,rfl,rfl,q⟩:=h;obtain⟨t,rfl⟩:=rx;obtain⟨t',rfl⟩:=ry;exact rule i j t t' s _ _ ⟨.int (g i j),H,I.tok _,⟨_,rfl⟩,q⟩
theorem opB0{f:Value->Value->Sem Value}{g:Int->Int->Bool}
  (rule:∀(i j:Int) (t u:Tok) (s:Shared) (Q:Value->Shared->Prop) (E:Value->Shared->Prop),Q (.bool (g i j)) s->wpAny (model X.prog X.w) X.A (f (.int i t) (.int j u)) Q E s) :
  OpR X f (rI0 fun i j=>.bl (g i j)):=by
 intro pins s σ H x y v u Q I rx ry h;obtain⟨i,j,rfl,rfl,q⟩:=h;obtain⟨t,rfl⟩:=rx;obtain⟨t',rfl⟩:=ry;exact rule i j t t' s _ _ ⟨.bl (g i j),H,I,rfl,q⟩
def CPow(i j:Int):Prop:=0<=j/\j<=1000000/\i.natAbs<2 ^ 64
def CMul(i j:Int):Prop:=(-(2 ^ 64)<i/\i<2 ^ 64)\/(-(2 ^ 64)<j/\j<2 ^ 64)
theorem CMul.ok{i j:Int}(h:CMul i j):IntMulOk i j:=by
 rcases h with ⟨h1,h2⟩|⟨h1,h2⟩
 ·exact .of_left (intBits_le_64 h1 h2)
 ·exact .of_right (intBits_le_64 h1 h2)
theorem op_add:OpR X (binaryOp .Add) (rI0 fun i j=>.int (i+j)):=opI0 fun _ _ _ _ _ _ _ q=>add_int q
theorem op_sub:OpR X (binaryOp .Sub) (rI0 fun i j=>.int (i - j)):=opI0 fun _ _ _ _ _ _ _ q=>sub_int q
theorem op_mul:OpR X (binaryOp .Mult) (rI CMul fun i j=>.int (i * j)):=opI fun _ _ _ _ _ _ _ hc q=>mul_int q hc.ok
theorem op_modN:OpR X (binaryOp .Mod) (rI (fun _ j=>j≠0) fun i j=>.int (i.fmod j)):=opI fun _ _ _ _ _ _ _ hc q=>mod_int' hc q
theorem op_pow:OpR X (binaryOp .Pow) (rI CPow fun i j=>.int (i ^ j.toNat)):=opI fun _ _ _ _ _ _ _ hc q=>pow_int_small hc.1 hc.2.1 hc.2.2 q
theorem op_and:OpR X (binaryOp .BitAnd) (rI0 fun i j=>.int (Builtin.bitAnd i j)):=opI0 fun _ _ _ _ _ _ _ q=>and_int q
theorem op_or:OpR X (binaryOp .BitOr) (rI0 fun i j=>.int (Builtin.bitOr i j)):=opI0 fun _ _ _ _ _ _ _ q=>or_int q
theorem unI{f:Value->Sem Value}{g:Int->Int}
  (rule:∀(i:Int) (t:Tok) (s:Shared) (Q:Value->Shared->Prop) (E:Value->Shared->Prop),Q (.int (g i) s.toks) { s with toks:=s.toks+1 }->wpAny (model X.prog X.w) X.A (f (.int i t)) Q E s) :
  UnR X f (rU fun i=>.int (g i)):=by
 intro pins s σ H x v Q I rx h;obtain⟨i,rfl,q⟩:=h;obtain⟨t,rfl⟩:=rx;exact rule i t s _ _ ⟨.int (g i),H,I.tok _,⟨_,rfl⟩,q⟩
theorem un_neg:UnR X (unaryOp .USub) (rU fun i=>.int (-i)):=unI fun _ _ _ _ _ q=>neg_int q
end
section
variable {X:Cx}{a b c:Expr}{ta tb tc:TE}{pos:Pos}
theorem fin_bl{pins:List (Addr×Obj)}{σ:St}{H:Hp}{s:Shared}{Q:VK}{k k':Bool}(I:Inv X pins σ H s)(q:Q (.bl k) H)(e:k=k'):EP X pins σ Q (.bool k') s:=by
 subst e;exact⟨.bl k,H,I,rfl,q⟩
theorem op_lt:OpR X (compareOp .Lt) (rI0 fun i j=>.bl (decide (i<j))):=opB0 fun _ _ _ _ _ _ _ q=>lt_int q
theorem op_le:OpR X (compareOp .LtE) (rI0 fun i j=>.bl (decide (i<=j))):=opB0 fun _ _ _ _ _ _ _ q=>le_int q
theorem op_gt:OpR X (compareOp .Gt) (rI0 fun i j=>.bl (decide (j<i))):=opB0 fun _ _ _ _ _ _ _ q=>gt_int q
theorem op_ge:OpR X (compareOp .GtE) (rI0 fun i j=>.bl (decide (j<=i))):=opB0 fun _ _ _ _ _ _ _ q=>ge_int q
theorem op_in_str:OpR X (compareOp .In) (fun x y H Q=>∃i j,x=.str i/\y=.str j/\Q (.bl (!(Builtin.Str.occurrences j i 0 j.length 1).isEmpty)) H):=by
 intro pins s σ H x y v u Q I rx ry h;obtain⟨i,j,rfl,rfl,q⟩:=h;obtain⟨t,rfl⟩:=rx;obtain⟨t',rfl⟩:=ry;exact in_str (fin_bl I q rfl)
theorem op_isN:OpR X (compareOp .Is) (fun x y H Q=>y=.non/\Q (.bl (decide (x=.non))) H):=by
 intro pins s σ H x y v u Q I rx ry h;obtain⟨rfl,q⟩:=h;cases ry;refine is_none_gen (fin_bl I q ?_)
 cases x<;>first
  |(cases rx;rfl)
  |(obtain⟨t,rfl⟩:=rx;rfl)
theorem op_notN:OpR X (compareOp .IsNot) (fun x y H Q=>y=.non/\Q (.bl (!decide (x=.non))) H):=by
 intro pins s σ H x y v u Q I rx ry h;obtain⟨rfl,q⟩:=h;cases ry;refine isnot_none_gen (fin_bl I q ?_)
 cases x<;>first
  |(cases rx;rfl)
  |(obtain⟨t,rfl⟩:=rx;rfl)
theorem OpR.or{f:Value->Value->Sem Value}{r r':R2}(h:OpR X f r)(h':OpR X f r'):OpR X f (fun x y H Q=>r x y H Q\/r' x y H Q):=by
 intro pins s σ H x y v u Q I rx ry q
 rcases q with q|q
 ·exact h pins s σ H x y v u Q I rx ry q
 ·exact h' pins s σ H x y v u Q I rx ry q
theorem pe_cmpR{op:CmpOp}{r:R2}(ho:OpR X (compareOp op) r)(ha:PE X a ta)(hb:PE X b tb)(hm:behindInMarks op b=false):PE X (.Compare a [op] [b] pos) (tOp r ta tb):=by
 intro pins s σ H Q I h;exact wpAny_Compare1 (binT ha hb I h fun v u s2 x y H2 I2 rx ry q=>ho pins s2 σ H2 x y v u Q I2 rx ry q) hm
def tTest(t:TE):TT:=fun σ H Q=>t σ H fun x H'=>∃k,x=.bl k/\Q k H'
theorem pt_cmpR{op:CmpOp}{r:R2}(ho:OpR X (compareOp op) r)(ha:PE X a ta)(hb:PE X b tb)(hm:behindInMarks op b=false):PT X (.Compare a [op] [b] pos) (tTest (tOp r ta tb)):=by
 intro pins s σ H Q I h
 refine wpAny_isTrue_Compare1 (thn (ha pins s σ H _ I h) fun v s1 ⟨x,H1,I1,r1,q1⟩=>thn (hb pins s1 σ H1 _ I1 q1) fun u s2 ⟨y,H2,I2,r2,q2⟩ =>
  thn (ho pins s2 σ H2 x y v u _ I2 r1 r2 q2) fun c s3 ⟨z,H3,I3,r3,k,e,q3⟩=>?_) hm
 subst e;cases r3;exact wpAny_truthy_bool ⟨H3,I3,q3⟩
def tChain(r r':R2)(ta tb tc:TE):TE:=fun σ H Q=>ta σ H fun x H1=>tb σ H1 fun y H2=>r x y H2 fun z H3=>∃k,z=.bl k /\
 (if k=true then tc σ H3 fun w' H4=>r' y w' H4 Q else Q (.bl false) H3)
theorem pe_chain{op op':CmpOp}{r r':R2}(ho:OpR X (compareOp op) r)(ho':OpR X (compareOp op') r')(ha:PE X a ta)(hb:PE X b tb)(hc:PE X c tc)
  (hm:lastMarks [op,op'] [b,c]=false:=by with_unfolding_all rfl):PE X (.Compare a [op,op'] [b,c] pos) (tChain r r' ta tb tc):=by
 intro pins s σ H Q I h
 refine Compare_chain (thn (ha pins s σ H _ I h) fun v s1 ⟨x,H1,I1,r1,q1⟩=>chain_link (thn (hb pins s1 σ H1 _ I1 q1) fun u s2 ⟨y,H2,I2,r2,q2⟩ =>
  thn (ho pins s2 σ H2 x y v u _ I2 r1 r2 q2) fun d s3 ⟨z,H3,I3,r3,k,e,q3⟩=>?_)) hm
 subst e;cases r3;refine wpAny_truthy_bool ?_;cases k with
 |false=>exact ite_ff ⟨.bl false,H3,I3,rfl,q3⟩
 |true=>exact ite_tt (chain_last (thn (hc pins s3 σ H3 _ I3 q3) fun w' s4 ⟨z',H4,I4,r4,q4⟩=>ho' pins s4 σ H4 y z' u w' Q I4 r2 r4 q4))
theorem pt_chain{op op':CmpOp}{r r':R2}(ho:OpR X (compareOp op) r)(ho':OpR X (compareOp op') r')(ha:PE X a ta)(hb:PE X b tb)(hc:PE X c tc)
  (hm:lastMarks [op,op'] [b,c]=false:=by with_unfolding_all rfl):PT X (.Compare a [op,op'] [b,c] pos) (tTest (tChain r r' ta tb tc)):=by
 intro pins s σ H Q I h
 refine isTrue_chain (thn (ha pins s σ H _ I h) fun v s1 ⟨x,H1,I1,r1,q1⟩=>test_link (thn (hb pins s1 σ H1 _ I1 q1) fun u s2 ⟨y,H2,I2,r2,q2⟩ =>
  thn (ho pins s2 σ H2 x y v u _ I2 r1 r2 q2) fun d s3 ⟨z,H3,I3,r3,k,e,q3⟩=>?_)) hm
 subst e;cases r3;refine wpAny_truthy_bool ?_;cases k with
 |false =>
  obtain⟨k',e',q'⟩:=q3;cases e';exact ite_ff ⟨H3,I3,q'⟩
 |true =>
  refine ite_tt (test_last (thn (hc pins s3 σ H3 _ I3 q3) fun w' s4 ⟨z',H4,I4,r4,q4⟩=>thn (ho' pins s4 σ H4 y z' u w' _ I4 r2 r4 q4) fun d' s5 ⟨z2,H5,I5,r5,k2,e2,q5⟩=>?_))
  subst e2;cases r5;exact wpAny_truthy_bool ⟨H5,I5,q5⟩
theorem line63:(sizeLine:Nat)<2 ^ 63:=by rw[sizeLine_eq];decide
theorem op_add_str:OpR X (binaryOp .Add) (fun x y H Q=>∃i j,x=.str i/\y=.str j/\i.length+j.length<=sizeLine/\Q (.str (i++j)) H):=by
 intro pins s σ H x y v u Q I rx ry h;obtain⟨i,j,rfl,rfl,hz,q⟩:=h;obtain⟨t,rfl⟩:=rx;obtain⟨t',rfl⟩:=ry;exact add_str (fun t' tk=>⟨.str (i++j),H,I.tok _,⟨_,rfl⟩,q⟩) hz
theorem zgq{x:V}{us:List Value}(r:zbc [x] us):∃u,us=[u]/\RelV x u:=by
 cases r with
 |cons r1 r2=>cases r2;exact⟨_,rfl,r1⟩
theorem vals2{x y:V}{us:List Value}(r:zbc [x,y] us):∃u w',us=[u,w']/\RelV x u/\RelV y w':=by
 cases r with
 |cons r1 r2 =>
  cases r2 with
  |cons r3 r4=>cases r4;exact⟨_,_,rfl,r1,r3⟩
theorem call_abs:zc0 X (.builtin "abs") (fun xs H Q=>∃i,xs=[.int i]/\Q (.int (if i<0 then -i else i)) H):=by
 intro pins s σ H xs us Q I r h;obtain⟨i,rfl,q⟩:=h;obtain⟨u,rfl,t,rfl⟩:=zgq r;exact call_abs_int fun u tk=>⟨.int (if i<0 then -i else i),H,I.tok _,⟨_,rfl⟩,q⟩
theorem call_min2(hc:X.calm=true):zc0 X (.builtin "min") (fun xs H Q=>∃i j,xs=[.int i,.int j]/\Q (.int (if j<i then j else i)) H):=by
 intro pins s σ H xs us Q I r h;obtain⟨i,j,rfl,q⟩:=h;obtain⟨u,w',rfl,⟨t,rfl⟩,⟨t',rfl⟩⟩:=vals2 r;refine min_two_ints (I.ok.hd hc) fun h' tk k=>⟨_,H,I.kept k,?_,q⟩
 by_cases hj:j<i
 ·rw[if_pos hj,if_pos hj];exact⟨_,rfl⟩
 ·rw[if_neg hj,if_neg hj];exact⟨_,rfl⟩
theorem call_int1:zc0 X (.type "int") (fun xs H Q=>(∃i,xs=[.int i]/\Q (.int i) H)\/∃k,xs=[.bl k]/\Q (.int (if k then 1 else 0)) H):=by
 intro pins s σ H xs us Q I r h
 rcases h with ⟨i,rfl,q⟩|⟨k,rfl,q⟩
 ·obtain⟨u,rfl,t,rfl⟩:=zgq r;exact call_int_int ⟨.int i,H,I,⟨_,rfl⟩,q⟩
 ·obtain⟨u,rfl,r1⟩:=zgq r;cases r1;exact call_int_bool ⟨.int (if k then 1 else 0),H,I.tok _,⟨_,rfl⟩,q⟩
theorem call_str_int:zc0 X (.type "str") (fun xs H Q=>∃i,xs=[.int i]/\i.natAbs.log2<1920/\Q (.str (toString i)) H):=by
 intro pins s σ H xs us Q I r h;obtain⟨i,rfl,hz,q⟩:=h;obtain⟨u,rfl,t,rfl⟩:=zgq r;exact PySem.P.str_of_int hz ⟨.str _,H,I.tok _,⟨_,rfl⟩,q⟩
def LenV(K:PySem.W.Frag)(x:V)(H:Hp)(n:Nat):Prop :=
 match x with
 |.str y=>y.length<=sizeLine/\n=y.length
 |.byt y=>y.size<=sizeLine/\n=y.size
 |.ref p=>(∃xs,SqL K H p xs/\n=xs.length)\/∃xs,SqT K H p xs/\n=xs.length
 |_=>False
theorem call_len:zc0 X (.builtin "len") (fun xs H Q=>∃x n,xs=[x]/\LenV X.K x H n/\Q (.int n) H):=by
 intro pins s σ H xs us Q I r h;obtain⟨x,n,rfl,e,q⟩:=h;obtain⟨u,rfl,rx⟩:=zgq r;have hl:=line63;have hs:sizeLine=16777216:=sizeLine_eq;cases x with
 |str y =>
  obtain⟨t,rfl⟩:=rx;obtain⟨hy,e'⟩:y.length<=sizeLine/\n=y.length:=e;subst e';exact len_str (by omega) ⟨.int _,H,I.tok _,⟨_,rfl⟩,q⟩
 |byt y =>
  obtain⟨t,rfl⟩:=rx;obtain⟨hy,e'⟩:y.size<=sizeLine/\n=y.size:=e;subst e';exact PySem.W.len_bytes (by omega) ⟨.int _,H,I.tok _,⟨_,rfl⟩,q⟩
 |ref p =>
  cases rx;have e':(∃xs,SqL X.K H p xs/\n=xs.length)\/∃xs,SqT X.K H p xs/\n=xs.length:=e
  rcases e' with ⟨xs,hx,e'⟩|⟨xs,hx,e'⟩
  ·subst e';obtain⟨its,r',pl,hz⟩:=I.list hx;have hlen:=r'.length;exact Calls.call_len_list pl.isList (by simp only[yaf];omega) ⟨.int xs.length,H,I.tok _,⟨_,by simp only[yaf];rw[hlen]⟩,q⟩
  ·subst e';obtain⟨its,r',pl,hz⟩:=I.tuple hx;have hlen:=r'.length;exact len_tuple pl (by simp only[yaf];omega) ⟨.int xs.length,H,I.tok _,⟨_,by simp only[yaf];rw[hlen]⟩,q⟩
 |_=>exact(show False from e).elim
end
structure ObjM(h:Heap)(x dx C:Addr)(mA:Str->Option Value):Prop where
 obj:h.get? x=some (PySem.W.instObj C dx)
 ns:h.Ns1 dx mA
 ne:dx≠x
theorem lookIn_ns{h:Heap}{dx:Addr}{mA:Str->Option Value}(n:h.Ns1 dx mA):∃od,h.get? dx=some od/\∀name,PySem.W.lookIn name od=some (mA name):=by
 obtain⟨o,es,ep,ho,hd,hk,_,hm⟩:=n;refine⟨o,ho,fun name=>?_⟩
 have e:=hm name;unfold nsFind findBy at e;rw[<- Array.find?_toList]at e;unfold PySem.W.lookIn;rw[hd];dsimp only;split
 ·rename_i y q;rw[q]at e;exact congrArg some e
 ·rename_i q;rw[q]at e
  have a:es.toList.any (·.refKey)=false:=by
   rw[List.any_eq_false];intro y hy;obtain⟨z,t,hkey⟩:=hk y (Array.mem_toList_iff.mp hy);simp[DictEntry.refKey,hkey]
  have a':¬ es.toList.any (·.refKey)=true:=by rw[a];exact yb4
  rw[if_neg a'];exact congrArg some e
theorem ObjM.look{h:Heap}{x dx C:Addr}{mA:Str->Option Value}(I:ObjM h x dx C mA):∃od,PySem.W.InstAt h x (PySem.W.instObj C dx) C (some od)/\∀name,PySem.W.lookIn name od=some (mA name) :=
 let ⟨od,ho,hl⟩:=lookIn_ns I.ns
 ⟨od,⟨I.obj,rfl,rfl,ho⟩,hl⟩
section
variable {prog:Program}{w:World}{A:Around}{E:Value->Shared->Prop}{s:Shared}{K:PySem.W.Frag}{x dx C f:Addr}{mA:Str->Option Value}{name:Str}{v:Value}
theorem get_map{expr:Bool}{Q:Value->Shared->Prop}(X:K.In s.heap)(I:ObjM s.heap x dx C mA)(hg:PySem.W.plainGet K C name=true)(hh:PySem.W.hasDictIn K C=true)
  (ha:PySem.W.findIn K (.ref C) name=some none) (hv:mA name=some v) (hv':PySem.W.handedIn v=true) (h:Q v { s with toks:=s.toks+1 }) :
  wpAny (model prog w) A (getAttr (.ref x) name expr) Q E s:=by
 obtain⟨od,J,hl⟩:=I.look;exact PySem.W.get_value X J (ydi hg).1 (PySem.W.findObj_own hh ha rfl (by rw[hl,hv])) hv' h
theorem get_meth{pl:Sem Bool}{Q:Value×List Value->Shared->Prop}(X:K.In s.heap)(I:ObjM s.heap x dx C mA)(hg:PySem.W.plainGet K C name=true)
  (hf:PySem.W.findIn K (.ref C) name=some (some (.ref f))) (ht:PySem.W.isFn K (.ref f)=true) (hv:mA name=none) (h:Q (.ref f,[.ref x]) s) :
  wpAny (model prog w) A (getMethod (.ref x) name pl) Q E s:=by
 obtain⟨od,J,hl⟩:=I.look;exact PySem.W.method_fn X J (ydi hg).1 (ydi hg).2 hf (beq_iff_eq.mp ht) (by show(PySem.W.lookIn name od).map (·.isSome)=some false;rw[hl,hv];rfl) h
theorem set_map{ns:List Str}{Q:Unit->Shared->Prop}(X:K.In s.heap)(I:ObjM s.heap x dx C mA)
  (hs:PySem.W.findIn K (.ref C) "__setattr__"=some (some (.builtin "object.__setattr__"))) (hp:PySem.W.plainOver K C=true) (ht:PySem.W.takerIn K C name=some none) (hh:PySem.W.hasDictIn K C=true)
  (hw:PySem.Within mA ns) (hsz:ns.length<=sizeLine)
  (h:∀h',ObjM h' x dx C (fun y=>if y=name then some v else mA y)->Heap.SameBut dx s.heap h'->Q () { s with heap:=h',toks:=s.toks+2 }) :
  wpAny (model prog w) A (setAttr (.ref x) name v) Q E s:=by
 obtain⟨od,J,hl⟩:=I.look;refine PySem.W.set_plain X J hs (PySem.W.osa_open (s:={ s with toks:=s.toks+1 }) (r:=none) X J hp ht fun b=>?_)
 obtain⟨cd,hc,hd'⟩:=PySem.W.any_some hh;have hx:s.heap.get? x=some ⟨.ref C,some dx,.plain,#[]⟩:=I.obj;refine wpAny_bind (wpAny_pure (wpAny_bind (wpAny_bind (wpAny_loadPart hx (wpAny_bind (PySem.W.Looks.here (s:={ s with toks:=s.toks+1 }) (PySem.W.looks_clsIn X hc) ?_))))))
 rw[hd'];refine wpAny_pure (a:=some dx) (wpAny_bind (wpAny_pure (wpAny_bind ?_)));refine wpAny_nsSet1 (s:={ s with toks:=s.toks+1 }) I.ns fun h' hn2 hs2=>?_
 obtain⟨oD,esD,epD,hoD,hdD,hcD⟩:=hn2.count (PySem.Within.cons name v hw);refine wpAny_bind (wpAny_lookBehind hoD (by rw[hdD];exact pastItsLine_dict (yal hcD (by rw[yaa];omega))) ?_)
 exact wpAny_pure (h _ ⟨(hs2.2 _ (yat I.ne)).trans I.obj,hn2,I.ne⟩ hs2)
theorem make_map{R:Result->Shared->Prop}{vs:List Value}{kw:List (Str×Value)}(X:K.In s.heap)(hm:PySem.W.makesIn K C=true)
  (hi:PySem.W.findIn K (.ref C) "__init__"=some (some (.ref f))) (hf:PySem.W.typeIn K (.ref f)=some (.type "function"))
  (h : codeAny (model prog w) (A.under (.builtin "type.__call__" ⟨.ref C :: vs, kw⟩)) (.call (.ref f) ⟨.ref (s.heap.objs.size + 1) :: vs, kw⟩) (PySem.W.InitBack (s.heap.objs.size + 1) R)
   { s with heap:=(s.heap.push PySem.W.emptyDict).push (PySem.W.instObj C s.heap.objs.size) }) :
  codeAny (model prog w) A (.call (.ref C) ⟨vs,kw⟩) R s:=by
 obtain⟨hh,g,d,t,os⟩:=s;exact PySem.W.make_core (PySem.W.makes_of X hm) (PySem.W.looks_findIn X hi) (fun self=>PySem.W.bind_fn X self hf) (.inl rfl) h
end
def putF(f:Str)(v:V):List (Str×V)->List (Str×V)
 |[]=>[(f,v)]
 |(g,x)::r=>if g=f then (g,v)::r else (g,x)::putF f v r
theorem zil(f g:Str)(v:V):∀fs:List (Str×V),(putF f v fs).lookup g=if g=f then some v else fs.lookup g
 |[]=>by
  show List.lookup g [(f,v)]=_
  by_cases h:g=f
  ·have hb:(g == f)=true:=beq_iff_eq.mpr h;simp only[List.lookup,hb,if_pos h]
  ·have hb:(g == f)=false:=beq_eq_false_iff_ne.mpr h;simp only[List.lookup,hb,if_neg h]
 |(k,x)::r=>by
  have ih:=zil f g v r;rw[show putF f v ((k,x)::r)=(if k=f then (k,v)::r else (k,x)::putF f v r) from rfl]
  by_cases hk:k=f
  ·rw[if_pos hk]
   by_cases h:g=k
   ·have hb:(g == k)=true:=beq_iff_eq.mpr h;simp only[List.lookup,hb,if_pos (h.trans hk)]
   ·have hb:(g == k)=false:=beq_eq_false_iff_ne.mpr h;simp only[List.lookup,hb,if_neg (fun e:g=f=>h (e.trans hk.symm))]
  ·rw[if_neg hk]
   by_cases h:g=k
   ·have hb:(g == k)=true:=beq_iff_eq.mpr h;simp only[List.lookup,hb,if_neg (fun e:g=f=>hk (h.symm.trans e))]
   ·have hb:(g == k)=false:=beq_eq_false_iff_ne.mpr h;simp only[List.lookup,hb];exact ih
theorem zis(f:Str)(v:V):∀fs:List (Str×V),f∈(putF f v fs).map (·.1)/\∀g,g∈fs.map (·.1)->g∈(putF f v fs).map (·.1)
 |[]=>⟨by simp[putF],fun g h=>by simp at h⟩
 |(k,x)::r=>by
  obtain⟨i1,i2⟩:=zis f v r;rw[show putF f v ((k,x)::r)=(if k=f then (k,v)::r else (k,x)::putF f v r) from rfl]
  by_cases hk:k=f
  ·rw[if_pos hk];subst hk;exact⟨by simp,fun g h=>by simpa using h⟩
  ·rw[if_neg hk];refine⟨?_,fun g h=>?_⟩
   ·rw[yad];exact ya5 _ i1
   ·rw[yad]at h ⊢
    rcases ya3.mp h with e|e
    ·exact ya3.mpr (.inl e)
    ·exact ya5 _ (i2 g e)
theorem ziq(f:Str)(v:V):∀fs:List (Str×V),(putF f v fs).length<=fs.length+1
 |[]=>by simp[putF]
 |(k,x)::r=>by
  have ih:=ziq f v r;rw[show putF f v ((k,x)::r)=(if k=f then (k,v)::r else (k,x)::putF f v r) from rfl]
  by_cases hk:k=f
  ·rw[if_pos hk,yaa,yaa];omega
  ·rw[if_neg hk,yaa,yaa];omega
theorem RelO.some_of{v:V}{o:Option Value}(r:RelO (some v) o):∃u,o=some u/\RelV v u:=by
 cases o with
 |none=>exact(show False from r).elim
 |some u=>exact⟨u,rfl,r⟩
theorem RelO.none_of{o:Option Value}(r:RelO none o):o=none:=by
 cases o with
 |none=>rfl
 |some u=>exact(show False from r).elim
theorem handed_of{v:V}{u:Value}(r:RelV v u):PySem.W.handedIn u=true:=by
 cases v with
 |non=>cases (show u=Value.none from r);rfl
 |bl b=>cases (show u=Value.bool b from r);rfl
 |int i=>obtain⟨t,e⟩:=(show ∃t,u=Value.int i t from r);cases e;rfl
 |str x=>obtain⟨t,e⟩:=(show ∃t,u=Value.str x t from r);cases e;rfl
 |byt b=>obtain⟨t,e⟩:=(show ∃t,u=Value.bytes b t from r);cases e;rfl
 |flt b=>obtain⟨t,e⟩:=(show ∃t,u=Value.float b t from r);cases e;rfl
 |ref a=>cases (show u=Value.ref a from r);rfl
 |ty n=>cases (show u=Value.type n from r);rfl
section
variable {P:Program}{w:World}{H H':Hp}{h h':Heap}{a C dx:Addr}{fs fs':List (Str×V)}
theorem ins_get(hok:HOk P w H h)(e:H a=some (.ins C dx fs)):∃mA,ObjM h a dx C mA/\(∀f,RelO (fs.lookup f) (mA f))/\PySem.Within mA (fs.map (·.1))/\fs.length<=1000/\H dx=some (.own a):=by
 obtain⟨d,z,ne,ob,mA,n,r,q⟩:=(show zbt P w H h a (.ins C dx fs) from hok a _ e);exact⟨mA,⟨ob,n,ne⟩,r,q,z,d⟩
end
structure Cls(K:PySem.W.Frag)(C:Addr):Prop where
 pg:PySem.W.plainGet K C Str.empty=true
 hd:PySem.W.hasDictIn K C=true
 po:PySem.W.plainOver K C=true
 sa:PySem.W.findIn K (.ref C) "__setattr__"=some (some (.builtin "object.__setattr__"))
theorem Cls.get{K:PySem.W.Frag}{C:Addr}(c:Cls K C)(f:Str):PySem.W.plainGet K C f=true:=c.pg
def zb1(K:PySem.W.Frag)(C:Addr)(f:Str):Prop:=PySem.W.findIn K (.ref C) f=some none
theorem zb1.taker{K:PySem.W.Frag}{C:Addr}{f:Str}(n:zb1 K C f):PySem.W.takerIn K C f=some none:=by
 unfold PySem.W.takerIn;rw[show PySem.W.findIn K (.ref C) f=some none from n]
 rfl
structure Meth(K:PySem.W.Frag)(C:Addr)(m:Str)(f:Addr):Prop where
 at_:PySem.W.findIn K (.ref C) m=some (some (.ref f))
 fn:PySem.W.isFn K (.ref f)=true
 kp:PySem.W.keepIn K (.ref f)=true
section
variable {X:Cx}{pins:List (Addr×Obj)}{σ:St}{H:Hp}{s:Shared}{a C dx:Addr}{fs:List (Str×V)}{f:Str}{v:V}{A:Around}{E:Value->Shared->Prop}
theorem getattr_ok{b:Bool}{Q:Value->Shared->Prop}(I:Inv X pins σ H s)(e:H a=some (.ins C dx fs))(c:Cls X.K C)(n:zb1 X.K C f)(l:fs.lookup f=some v)
  (h:∀u s',Inv X pins σ H s'->RelV v u->Q u s'):wpAny (model X.prog X.w) A (getAttr (.ref a) f b) Q E s:=by
 obtain⟨mA,O,r,_,_,_⟩:=ins_get I.hok e;obtain⟨u,hu,ru⟩:=RelO.some_of (v:=v) (o:=mA f) (by rw[<- l];exact r f)
 exact get_map I.kIn O (c.get f) c.hd n hu (handed_of ru) (h u _ (I.tok _) ru)
theorem zk8{m:Str}{g:Addr}{pl:Sem Bool}{Q:Value×List Value->Shared->Prop}(I:Inv X pins σ H s)(e:H a=some (.ins C dx fs))(c:Cls X.K C)(k:Meth X.K C m g)(l:fs.lookup m=none)
  (h:Q (.ref g,[.ref a]) s):wpAny (model X.prog X.w) A (getMethod (.ref a) m pl) Q E s:=by
 obtain⟨mA,O,r,_,_,_⟩:=ins_get I.hok e;have hn:mA m=none:=RelO.none_of (by rw[<- l];exact r m)
 exact get_meth I.kIn O (c.get m) k.at_ k.fn hn h
theorem setattr_ok{y:V}{u:Value}{Q:Unit->Shared->Prop}(I:Inv X pins σ H s)(e:H a=some (.ins C dx fs))(c:Cls X.K C)(n:zb1 X.K C f)(hl:fs.length<1000)(ry:RelV y u)
  (h:∀s',Inv X pins σ (upd H a (.ins C dx (putF f y fs))) s'->Q () s'):wpAny (model X.prog X.w) A (setAttr (.ref a) f u) Q E s:=by
 obtain⟨mA,O,r,wi,_,ho⟩:=ins_get I.hok e;have hz:(fs.map (·.1)).length<=sizeLine:=by rw[ya4,sizeLine_eq];omega
 refine set_map I.kIn O c.sa c.po n.taker c.hd wi hz fun h' O' sb=>h _ ?_
 have hd:∃o,h'.get? dx=some o:=let ⟨o,_,_,e',_⟩:=O'.ns;⟨o,e'⟩;refine I.write (x:=a) (e:=dx) (by rw[e];exact True.intro) (.inr ho) (fun b q hb z=>(sb.2 b hb).trans z) hd ?_
 refine⟨by rw[zah O.ne];exact ho,?_,O.ne,O'.obj,_,O'.ns,fun g=>?_,fun g hg=>?_⟩
 ·have:=ziq f y fs;omega
 ·show RelO ((putF f y fs).lookup g) (if g=f then some u else mA g)
  rw[zil]
  by_cases q:g=f
  ·rw[if_pos q,if_pos q];exact ry
  ·rw[if_neg q,if_neg q];exact r g
 ·by_cases q:g=f
  ·rw[q];exact(zis f y fs).1
  ·refine(zis f y fs).2 g (wi g fun z=>hg ?_)
   show(if g=f then some u else mA g)=none
   rw[if_neg q];exact z
theorem Inv.made(I:Inv X pins σ H s):Inv X pins σ (upd (upd H s.heap.objs.size (.own (s.heap.objs.size+1))) (s.heap.objs.size+1) (.ins C s.heap.objs.size []))
  { s with heap:=(s.heap.push PySem.W.emptyDict).push (PySem.W.instObj C s.heap.objs.size) }:=by
 have e1:(s.heap.push PySem.W.emptyDict).get? s.heap.objs.size=some PySem.W.emptyDict:=yai s.heap rfl
 have e2:((s.heap.push PySem.W.emptyDict).push (PySem.W.instObj C s.heap.objs.size)).get? (s.heap.objs.size+1)=some (PySem.W.instObj C s.heap.objs.size):=by
  have:=yai (s.heap.push PySem.W.emptyDict) (o:=PySem.W.instObj C s.heap.objs.size) rfl
  rwa[ybr]at this
 have e3:(s.heap.push PySem.W.emptyDict).Ns s.heap.objs.size (fun _=>none):=⟨PySem.W.emptyDict,#[],_,e1,rfl,(fun e he=>absurd he (by simp)),fun _=>rfl⟩
 have I1:=I.laid (a:=s.heap.objs.size) (o:=.own (s.heap.objs.size+1)) (h':=s.heap.push PySem.W.emptyDict) (t':=s.toks) (fun b u q=>ya9 _ q) (yab _) ⟨_,e1⟩
 refine I1.laid (a:=s.heap.objs.size+1) (o:=.ins C s.heap.objs.size []) (t':=s.toks) (fun b u q=>ya9 _ q) (yaw (ybr _ _)) ?_
 have ne:s.heap.objs.size≠s.heap.objs.size+1:=yao (ybs _);refine⟨by rw[zah ne,zb2],ybb _,ne,e2,fun _=>none,(Heap.Ns1.of_empty e3).at fun o q=>ya9 _ q,fun _=>True.intro,fun y hy=>absurd rfl hy⟩
theorem attr_of{prog:Program}{w:World}{env:Env}{e:Expr}{f:Str}{pos:Pos}{s:Shared}{Q:Value->Shared->Prop}(hb:attributeBase e f env (eval e env)=eval e env)
  (h:wpAny (model prog w) A (eval e env) (fun o s₁=>wpAny (model prog w) A (getAttr o f true) Q E s₁) E s):wpAny (model prog w) A (eval (.Attribute e f pos) env) Q E s :=
 Attribute_any_ h (by rw[arm_eval_Attribute,hb])
end
def tFld(K:PySem.W.Frag)(ta:TE)(f:Str):TE:=fun σ H Q=>ta σ H fun x H1=>∃a C dx fs v,x=.ref a/\H1 a=some (.ins C dx fs)/\Cls K C/\zb1 K C f/\fs.lookup f=some v/\Q v H1
def sFld(K:PySem.W.Frag)(ta tv:TE)(f:Str):TS:=fun D σ H=>tv σ H fun y H1=>ta σ H1 fun x H2=>∃a C dx fs,x=.ref a/\H2 a=some (.ins C dx fs)/\Cls K C/\zb1 K C f/\fs.length<1000 /\
 D.nx σ (upd H2 a (.ins C dx (putF f y fs)))
section
variable {X:Cx}{o e value:Expr}{f:Str}{pos pos' tpos:Pos}{ta tv:TE}
theorem pe_fld(he:PE X e ta)(hb:attributeBase e f X.env (eval e X.env)=eval e X.env):PE X (.Attribute e f pos) (tFld X.K ta f):=by
 intro pins s σ H Q I h;refine attr_of hb (thn (he pins s σ H _ I h) fun u s1 ⟨x,H1,I1,rx,a,C,dx,fs,v,ex,ea,c,n,l,q⟩=>?_)
 subst ex;obtain rfl:u=Value.ref a:=rx;exact getattr_ok I1 ea c n l fun u' s2 I2 ru=>⟨v,H1,I2,ru,q⟩
theorem ps_fld(ha:PE X o ta)(hv:PE X value tv)(hs:swapsWith value (some (.Attribute o f pos')) pos.line X.env=pure false):PS X (.Assign [.Attribute o f pos'] value pos) (sFld X.K ta tv f):=by
 intro pins s σ H D I h;refine plainObj_wpAny_Assign_Attribute (thn (hv pins s σ H _ I h) fun u s1 ⟨y,H1,I1,ry,q⟩=>thn (ha pins s1 σ H1 _ I1 q) fun ov s2 ⟨x,H2,I2,rx,a,C,dx,fs,ex,ea,c,n,l,q2⟩=>?_) hs
 subst ex;obtain rfl:ov=Value.ref a:=rx;exact setattr_ok I2 ea c n l ry fun s3 I3=>⟨σ,_,I3,q2⟩
end
section
variable {X:Cx}{pins:List (Addr×Obj)}{σ:St}{H:Hp}{s:Shared}{A:Around}{E:Value->Shared->Prop}{Q:Value->Shared->Prop}{c:Value}{b:Bool}
inductive TyOf(K:PySem.W.Frag)(H:Hp):V->Value->Prop where
 |non:TyOf K H .non (.type "NoneType")
 |bl (x:Bool):TyOf K H (.bl x) (.type "bool")
 |int (i:Int):TyOf K H (.int i) (.type "int")
 |str (x:Str):TyOf K H (.str x) (.type "str")
 |flt (x:UInt64):TyOf K H (.flt x) (.type "float")
 |lst {a:Addr} {xs:List V} (e:H a=some (.lst xs)):TyOf K H (.ref a) (.type "list")
 |frz {a:Addr} {o:Obj} {xs:List V} (e:H a=some (.frz o (.lst xs))):TyOf K H (.ref a) (.type "list")
 |tup {a:Addr} {xs:List V} (e:H a=some (.tup xs)):TyOf K H (.ref a) (.type "tuple")
 |dK {a:Addr} {kvs:List (Key×V)} (e:H a=some (.dK kvs)):TyOf K H (.ref a) (.type "dict")
 |dT {a:Addr} {kvs:List (List Key×V)} (e:H a=some (.dT kvs)):TyOf K H (.ref a) (.type "dict")
 |ins {a C dx:Addr} {fs:List (Str×V)} (e:H a=some (.ins C dx fs)) (cl:Cls K C) (ha:PySem.W.findIn K (.ref C) "__class__"=some (some (.builtin "object.__class__")))
   (hn:PySem.W.specialIn K (.builtin "object.__class__") "__get__"=some (some (.builtin "getset_descriptor.__get__"))) (htk:PySem.W.takesIn K (.builtin "object.__class__")=some true)
   (hm:PySem.W.mroIn K C (.type "object")=some true):TyOf K H (.ref a) (.ref C)
theorem isinst_ok{x:V}{u t:Value}(I:Inv X pins σ H s)(rx:RelV x u)(ty:TyOf X.K H x t)(e:PySem.W.kitOne X.K t c=some b)(h:∀tk,Q (.bool b) { s with toks:=tk }) :
  wpAny (model X.prog X.w) A (call (.builtin "isinstance") [u,c]) Q E s:=by
 cases ty with
 |non=>cases (show u=Value.none from rx);exact yb5 PySem.W.kitx_none I.kIn True.intro e (fun z=>nomatch z) h
 |bl y=>cases (show u=Value.bool y from rx);exact yb5 PySem.W.kitx_bool I.kIn True.intro e (fun z=>nomatch z) h
 |int i=>obtain⟨t,q⟩:=(show ∃t,u=Value.int i t from rx);cases q;exact yb5 PySem.W.kitx_int I.kIn True.intro e (fun z=>nomatch z) h
 |str y=>obtain⟨t,q⟩:=(show ∃t,u=Value.str y t from rx);cases q;exact yb5 PySem.W.kitx_str I.kIn True.intro e (fun z=>nomatch z) h
 |flt y=>obtain⟨t,q⟩:=(show ∃t,u=Value.float y t from rx);cases q;exact yb5 PySem.W.kitx_float I.kIn True.intro e (fun z=>nomatch z) h
 |@lst a xs ea =>
  cases (show u=Value.ref a from rx);obtain⟨_,_,n,_,h1⟩:=(show zbt X.prog X.w H s.heap a (.lst xs) from I.hok a _ ea);exact yb5 PySem.W.kitx_list I.kIn ⟨_,h1,rfl⟩ e (fun z=>nomatch z) h
 |@frz a ob xs ea =>
  cases (show u=Value.ref a from rx);obtain⟨_,_,_,n,_,h1⟩:=(show zbt X.prog X.w H s.heap a (.frz ob (.lst xs)) from I.hok a _ ea);exact yb5 PySem.W.kitx_list I.kIn ⟨_,h1,rfl⟩ e (fun z=>nomatch z) h
 |@tup a xs ea =>
  cases (show u=Value.ref a from rx);obtain⟨_,_,_,p⟩:=(show zbt X.prog X.w H s.heap a (.tup xs) from I.hok a _ ea);obtain⟨o,h1,h2,_⟩:=p;exact yb5 PySem.W.kitx_tuple I.kIn ⟨o,h1,h2⟩ e (fun z=>nomatch z) h
 |@dK a kvs ea =>
  cases (show u=Value.ref a from rx);obtain⟨_,_,vs,_,p⟩:=(show zbt X.prog X.w H s.heap a (.dK kvs) from I.hok a _ ea);obtain⟨o,es,ep,h1,h2,_⟩:=p;exact yb5 ydw I.kIn ⟨o,h1,h2.1⟩ e (fun z=>nomatch z) h
 |@dT a kvs ea =>
  cases (show u=Value.ref a from rx);obtain⟨_,_,xs,_,o,es,ep,h1,h2,_⟩:=(show zbt X.prog X.w H s.heap a (.dT kvs) from I.hok a _ ea);exact yb5 ydw I.kIn ⟨o,h1,h2.1⟩ e (fun z=>nomatch z) h
 |@ins a C dx fs ea cl ha hn htk hm =>
  cases (show u=Value.ref a from rx);obtain⟨mA,O,_⟩:=ins_get I.hok ea;obtain⟨od,J,_⟩:=O.look;exact yb5 (PySem.W.kitx_own (cl.get _) cl.hd ha hn htk hm) I.kIn J e (fun z=>nomatch z) h
end
structure Room(k:Nat)(A:Around):Prop where
 hd:A.handled=none
 dp:A.depth+3 * k+5<recursionLimit
 un:A.units+16 * k+200<cLine
theorem Room.mono{j k:Nat}{A:Around}(r:Room k A)(h:j<=k):Room j A:=⟨r.hd,by have:=r.dp;omega,by have:=r.un;omega⟩
theorem Room.deeper{k:Nat}{A:Around}(r:Room (k+1) A)(env:Env):Room k (A.deeper env) :=
 ⟨r.hd,by have:=r.dp;show A.depth+1+3 * k+5<_;omega,by have:=r.un;show A.units+3+16 * k+200<_;omega⟩
theorem Room.in1{k:Nat}{A:Around}(r:Room (k+1) A):Room k A.in1 :=
 ⟨r.hd,by have:=r.dp;show A.depth+3 * k+5<_;omega,by have:=r.un;show A.units+1+16 * k+200<_;omega⟩
theorem make_depth{A:Around}{C:Addr}{us:List Value}{kw:List (Str×Value)}:(A.under (.builtin "type.__call__" ⟨.ref C::us,kw⟩)).depth=A.depth+1:=by
 first|rfl|simp[Around.under,Code.weight,Code.isCreation,Code.isGuard,Code.isCaller,Code.frames,Code.isFrame,guardIds]
theorem make_units{A:Around}{C:Addr}{us:List Value}{kw:List (Str×Value)}:(A.under (.builtin "type.__call__" ⟨.ref C::us,kw⟩)).units=A.units+1:=by
 first|rfl|simp[Around.under,Code.cUnits,Code.frames,Code.isFrame]
theorem Room.make{k:Nat}{A:Around}(r:Room (k+1) A)(C:Addr)(us:List Value)(kw:List (Str×Value)):Room k (A.under (.builtin "type.__call__" ⟨.ref C::us,kw⟩)) :=
 ⟨r.hd,by have:=r.dp;rw[make_depth];omega,by have:=r.un;rw[make_units];omega⟩
theorem Room.depth{k:Nat}{A:Around}(r:Room k A):A.depth<recursionLimit:=by have:=r.dp;omega
theorem Room.units{k:Nat}{A:Around}(r:Room k A):A.units+64<cLine:=by have:=r.un;omega
def tNil:TA:=fun _ H Q=>Q [] H
def tCons(ta:TE)(tr:TA):TA:=fun σ H Q=>ta σ H fun x H1=>tr σ H1 fun xs H2=>Q (x::xs) H2
section
variable {X:Cx}{e:Expr}{es:List Expr}{te:TE}{t:TA}{pos:Pos}
theorem zfq:PA X [] tNil:=fun _ _ _ _ H Q I h=>ycv ⟨[],H,I,.nil,h⟩
theorem zd9(ha:PE X e te)(hr:PA X es t)(hs:starEach (e::es) X.env=(false,eval e X.env)::starEach es X.env:=by rfl):PA X (e::es) (tCons te t):=by
 intro pos pins s σ H Q I h;rw[hs];show wpAny _ _ (spliced ((false,eval e X.env)::backTo pos (starEach es X.env))) _ _ s;refine yck (thn (ha pins s σ H _ I h) fun u s1 ⟨x,H1,I1,r1,q1⟩=>?_)
 exact thn (hr pos pins s1 σ H1 _ I1 q1) fun us s2 ⟨xs,H2,I2,r2,q2⟩=>⟨x::xs,H2,I2,.cons r1 r2,q2⟩
def tTup(t:TA):TE:=fun σ H Q=>t σ H fun xs H1=>xs.length<=sizeLine/\∀p,H1 p=none->Q (.ref p) (upd H1 p (.tup xs))
def tLst(t:TA):TE:=fun σ H Q=>t σ H fun xs H1=>xs.length<=sizeLine/\∀p,H1 p=none->Q (.ref p) (upd H1 p (.lst xs))
theorem pe_tup{x1}(h:PA X es t):PE X (.Tuple es x1 pos) (tTup t):=by
 intro pins s σ H Q I hq;refine wpAny_Tuple_spliced (thn (h pos pins s σ H _ I hq) fun us s1 ⟨xs,H1,I1,r,z,q⟩=>⟨by rw[<- r.length];exact z,?_⟩)
 have hf:H1 s1.heap.objs.size=none:=I1.hok.fresh (yab _);refine⟨.ref s1.heap.objs.size,upd H1 s1.heap.objs.size (.tup xs),I1.laid (t':=s1.toks) (fun b u e=>ya9 _ e) (yab _) ?_,rfl,q _ hf⟩
 exact⟨z,us,r,⟨_,yai _ rfl,rfl,_,rfl⟩⟩
theorem pe_lst(h:PA X es t):PE X (.List es pos) (tLst t):=by
 intro pins s σ H Q I hq;refine wpAny_List_spliced (thn (h pos pins s σ H _ I hq) fun us s1 ⟨xs,H1,I1,r,z,q⟩=>⟨by rw[<- r.length];exact z,?_⟩)
 have hf:H1 s1.heap.objs.size=none:=I1.hok.fresh (yab _);refine⟨.ref s1.heap.objs.size,upd H1 s1.heap.objs.size (.lst xs),I1.laid (t':=s1.toks) (fun b u e=>ya9 _ e) (yab _) ?_,rfl,q _ hf⟩
 exact⟨z,us,0,r,yai _ rfl⟩
end
abbrev Sp:=List V->Hp->VK->XK->Prop
abbrev CXT:=List Env->Hp->Shared->XK->Value->Shared->Prop
structure Env0(P:Program)(w:World)(K:PySem.W.Frag)(mg:Str->Option Value)(base:Heap)(A:Around)(outer:List Env)(s:Shared)(H:Hp):Prop where
 frames:A.frames=some outer
 mod:Mod K mg base
 bs:∀b o,base.get? b=some o->s.heap.get? b=some o/\H b=none
 bsz:base.objs.size<=s.heap.objs.size
 funs:s.heap.FunFrames base outer
 frf:∀b∈frs outer,H b=none
 hok:HOk P w H s.heap
 bare:AllBare s.gens
def CE(outer:List Env)(P:Program)(w:World)(H:Hp)(s:Shared)(Q:VK)(u:Value)(s':Shared):Prop :=
 ∃v H',s'.os=s.os/\AllBare s'.gens/\Un (frs outer) [] H H' s.heap s'.heap/\HOk P w H' s'.heap/\RelV v u/\Q v H'
def CR(CX:CXT)(outer:List Env)(P:Program)(w:World)(H:Hp)(s:Shared)(Q:VK)(E:XK)(r:Result)(s':Shared):Prop :=
 match r with
 |.ok (.ret u)=>CE outer P w H s Q u s'
 |.ok _=>False
 |.error e=>CX outer H s E e s'
structure FnOk(P:Program)(w:World)(K:PySem.W.Frag)(mg:Str->Option Value)(base:Heap)(CX:CXT)(k:Nat)(f:Addr)(fd:FuncData)(ps:List Str)(sp:Sp):Prop where
 len:∀vs H Q E,sp vs H Q E->vs.length=ps.length
 run:∀(A:Around) (outer:List Env) (s:Shared) (H:Hp) (args:Args) (us:List Value) (vs:List V) (Q:VK) (E:XK),Room k A->Env0 P w K mg base A outer s H->BindsTo s fd args (ps.zip us)->zbc vs us->sp vs H Q E ->
  codeAny (model P w) A (.call (.ref f) args) (CR CX outer P w H s Q E) s
theorem FnOk.mono{P:Program}{w:World}{K:PySem.W.Frag}{mg:Str->Option Value}{base:Heap}{CX:CXT}{j k:Nat}{f:Addr}{fd:FuncData}{ps:List Str}{sp:Sp}(F:FnOk P w K mg base CX j f fd ps sp)(h:j<=k) :
  FnOk P w K mg base CX k f fd ps sp:=⟨F.len,fun A outer s H args us vs Q E hr=>F.run A outer s H args us vs Q E (hr.mono h)⟩
theorem Env0.make{P:Program}{w:World}{K:PySem.W.Frag}{mg:Str->Option Value}{base:Heap}{A:Around}{outer:List Env}{s:Shared}{H:Hp}(e:Env0 P w K mg base A outer s H)(C:Addr)(us:List Value)(kw:List (Str×Value)) :
  Env0 P w K mg base (A.under (.builtin "type.__call__" ⟨.ref C::us,kw⟩)) outer s H:=⟨by first|exact e.frames|(simpa[Around.under,Code.envs,Code.isFrame,pushEnvs] using e.frames),e.mod,e.bs,e.bsz,e.funs,e.frf,e.hok,e.bare⟩
theorem Env0.in1{P:Program}{w:World}{K:PySem.W.Frag}{mg:Str->Option Value}{base:Heap}{A:Around}{outer:List Env}{s:Shared}{H:Hp}(e:Env0 P w K mg base A outer s H) :
  Env0 P w K mg base A.in1 outer s H:=⟨e.frames,e.mod,e.bs,e.bsz,e.funs,e.frf,e.hok,e.bare⟩
section
variable {X:Cx}{pins:List (Addr×Obj)}{σ:St}{H:Hp}{s s':Shared}
theorem Inv.env0(I:Inv X pins σ H s):Env0 X.prog X.w X.K X.mg X.base X.A X.stack s H :=
 ⟨I.ok.frames,I.ok.mod,I.bs,yal I.ok.bsz I.sz,I.stack,I.stkFree,I.hok,I.bare⟩
theorem Inv.after{Q:VK}{u:Value}(I:Inv X pins σ H s)(h:CE X.stack X.prog X.w H s Q u s'):EP X pins σ Q u s':=by
 obtain⟨v,H',os,bare,un,hok,r,q⟩:=h;obtain⟨hh,g,d,t,os'⟩:=s';obtain rfl:os'=s.os:=os;exact⟨v,H',I.call (h':=hh) (g':=g) (d':=d) (t':=t) (ch:=[]) un hok bare (fun b z=>absurd z (by simp)),r,q⟩
end
def tCall(sp:Sp)(dvs:List V)(E:XK)(t:TA):TE:=fun σ H Q=>t σ H fun vs H1=>sp (vs++dvs) H1 Q E
def zfn(K:PySem.W.Frag)(fd:FuncData)(ps:List Str)(ds:List Value):Prop :=
 ∀(s:Shared) (us:List Value),K.In s.heap->(us++ds).length=ps.length->BindsTo s fd ⟨us,[]⟩ (ps.zip (us++ds))
theorem zfn.all{K:PySem.W.Frag}{fd:FuncData}{ps:List Str}(h:∀us:List Value,us.length=ps.length->bindArgs fd ⟨us,[]⟩=pure (ps.zip us)):zfn K fd ps []:=fun s us _ hl=>by
 rw[ybl]at hl ⊢;exact .of_eq (h us hl)
def Passes(CX:CXT)(X:Cx)(E:XK):Prop:=∀(pins:List (Addr×Obj)) (σ:St) (H:Hp) (s:Shared) (e:Value) (s':Shared),Inv X pins σ H s->CX X.stack H s E e s'->X.xe e s'
section
variable {X:Cx}{CX:CXT}{k:Nat}{f C:Addr}{fd:FuncData}{ps:List Str}{sp:Sp}{dvs:List V}{ds:List Value}{E:XK}{x m:Str}{p pos apos:Pos}{e o:Expr}{es:List Expr}{ta:TE}{t:TA}
theorem run_fn{pins:List (Addr×Obj)}{σ:St}{H:Hp}{s:Shared}{Q:VK}{us:List Value}{vs:List V}(F:FnOk X.prog X.w X.K X.mg X.base CX k f fd ps sp)(hr:Room k X.A)(hb:zfn X.K fd ps ds)(hd:zbc dvs ds)(hx:Passes CX X E)
  (I:Inv X pins σ H s) (r:zbc vs us) (h:sp (vs++dvs) H Q E):wpAny (model X.prog X.w) X.A (call (.ref f) us) (EP X pins σ Q) X.xe s:=by
 have r2:zbc (vs++dvs) (us++ds):=r.append hd;have hl:(us++ds).length=ps.length:=by rw[<- r2.length];exact F.len _ _ _ _ h
 refine wpAny_call (codeAny_mono (F.run X.A X.stack s H ⟨us,[]⟩ (us++ds) (vs++dvs) Q E hr I.env0 (hb s us I.kIn hl) r2 h) fun r s' hq=>?_)
 cases r with
 |error e=>exact hx pins σ H s e s' I hq
 |ok fl =>
  cases fl with
  |ret u=>exact I.after hq
  |next=>exact False.elim hq
  |brk=>exact False.elim hq
  |cont=>exact False.elim hq
theorem pe_call(F:FnOk X.prog X.w X.K X.mg X.base CX k f fd ps sp)(hr:Room k X.A)(hg:Gl X x)(hm:X.mg x=some (.ref f))(hk:PySem.W.keepIn X.K (.ref f)=true)(hb:zfn X.K fd ps ds)(hd:zbc dvs ds)(hx:Passes CX X E)
  (ha:PA X (e::es) t) (hdb:(x == ("__debug__":Str))=false:=by decide) (he:starEach (e::es) X.env=(false,eval e X.env)::starEach es X.env:=by rfl) (hpl:(backTo pos (starEach es X.env)).any (·.1)=false:=by rfl) :
  PE X (.Call (.Name x p) (e::es) [] pos) (tCall sp dvs E t):=by
 intro pins s σ H Q I h;refine wpAny_Call_Name_kw (zir I hg hm ?_ hdb);refine ycl (h₀:=X.base) I.ok.mod.kin hk (thn (ha pos pins s σ H _ I h) fun us s1 ⟨vs,H1,I1,r,q⟩=>⟨I1.kIn,?_⟩) he hpl
 exact run_fn F hr hb hd hx I1 r q
structure Mk(K:PySem.W.Frag)(C f:Addr):Prop where
 makes:PySem.W.makesIn K C=true
 init:PySem.W.findIn K (.ref C) "__init__"=some (some (.ref f))
 fn:PySem.W.isFn K (.ref f)=true
 kp:PySem.W.keepIn K (.ref C)=true
end
section
variable {X:Cx}{CX:CXT}{k:Nat}{f C:Addr}{fd:FuncData}{ps ks:List Str}{sp:Sp}{E:XK}{x m:Str}{p pos apos kpos:Pos}{e o:Expr}{es:List Expr}{kws:List Keyword}{te ta:TE}{t tk:TA}{nm:Option Str}
variable {g:List Value->List Value->List Value}{gV:List V->List V->List V}
end
structure FnScope(N P:List Str)(sc:Scope):Prop where
 kind:sc.kind=.function
 co:sc.isCoroutine=false
 gen:sc.isGenerator=false
 nd:N.Nodup
 pre:N.take P.length=P
 par:∀x∈P,sc.names.lookup x=some .local\/sc.names.lookup x=some .cell
 nofree:∀y∈sc.names,y.2≠.free
theorem bindL_out{kindOf:Str->Option NameKind}{x:Str}:∀{binds:List (Str×Value)} {m:Str->Option Value},(∀v,(x,v)∉binds)->bindL kindOf binds m x=m x
 |[],_,_=>rfl
 |(n,v)::r,m,h=>by
  unfold bindL;rw[bindL_out fun w hw=>h w (ya5 _ hw)]
  split
  ·have:x≠n:=by rintro rfl;exact h v ya6
   simp[this]
  ·rfl
theorem bindC_out{kindOf:Str->Option NameKind}{x:Str}:∀{binds:List (Str×Value)} {m:Str->Option Value},(∀v,(x,v)∉binds)->bindC kindOf binds m x=m x
 |[],_,_=>rfl
 |(n,v)::r,m,h=>by
  unfold bindC;rw[bindC_out fun w hw=>h w (ya5 _ hw)]
  split
  ·rfl
  ·have:x≠n:=by rintro rfl;exact h v ya6
   simp[this]
theorem bindL_get{kindOf:Str->Option NameKind}{x:Str}{v:Value}:∀{P:List Str} {vs:List Value} {i:Nat} {m:Str->Option Value},P.Nodup->P[i]?=some x->vs[i]?=some v->kindOf x=some .local ->
  bindL kindOf (P.zip vs) m x=some v
 |[],_,_,_,_,h,_,_=>by simp at h
 |_::_,[],_,_,_,_,h,_=>by simp at h
 |p::P,w::vs,0,m,nd,h1,h2,hk=>by
  simp at h1 h2;subst h1;subst h2;show bindL kindOf ((p,w)::P.zip vs) m p=_;unfold bindL;rw[bindL_out fun v hv=>(yd8.mp nd).1 (List.of_mem_zip hv).1,if_pos hk]
  simp
 |p::P,w::vs,i+1,m,nd,h1,h2,hk=>by
  show bindL kindOf ((p,w)::P.zip vs) m x=_;unfold bindL;exact bindL_get (i:=i) (yd8.mp nd).2 (by simpa using h1) (by simpa using h2) hk
theorem bindC_get{kindOf:Str->Option NameKind}{x:Str}{v:Value}:∀{P:List Str} {vs:List Value} {i:Nat} {m:Str->Option Value},P.Nodup->P[i]?=some x->vs[i]?=some v->kindOf x≠some .local ->
  bindC kindOf (P.zip vs) m x=some v
 |[],_,_,_,_,h,_,_=>by simp at h
 |_::_,[],_,_,_,_,h,_=>by simp at h
 |p::P,w::vs,0,m,nd,h1,h2,hk=>by
  simp at h1 h2;subst h1;subst h2;show bindC kindOf ((p,w)::P.zip vs) m p=_;unfold bindC;rw[bindC_out fun v hv=>(yd8.mp nd).1 (List.of_mem_zip hv).1,if_neg hk]
  simp
 |p::P,w::vs,i+1,m,nd,h1,h2,hk=>by
  show bindC kindOf ((p,w)::P.zip vs) m x=_;unfold bindC;exact bindC_get (i:=i) (yd8.mp nd).2 (by simpa using h1) (by simpa using h2) hk
def start(N:List Str)(vs:List V):St:=vs.map some++List.replicate (N.length - vs.length) none
def cxOf(CX:CXT)(P:Program)(w:World)(K:PySem.W.Frag)(mg:Str->Option Value)(base:Heap)(N:List Str)(qual:Str)(scope:Scope)(f:Addr)(cd:Value)(A:Around)(outer:List Env)(s:Shared)(H:Hp)(E:XK):Cx where
 prog:=P
 w:=w
 K:=K
 mg:=mg
 base:=base
 A:=A.deeper (envOfC qual scope s.heap.objs.size f cd)
 N:=N
 s₀:=s
 H₀:=H
 env:=envOfC qual scope s.heap.objs.size f cd
 outer:=outer
 stack:=envOfC qual scope s.heap.objs.size f cd::outer
 ex:=[]
 calm:=true
 fn:=fun _=>true
 pn:=[]
 xe:=fun e s'=>wpAny (model P w) (A.deeper (envOfC qual scope s.heap.objs.size f cd)) (leaving (envOfC qual scope s.heap.objs.size f cd) e) (fun _ s''=>CX outer H s E e s'') (fun e' s''=>CX outer H s E e' s'') s'
theorem cell_has{sc:Scope}{n:Nat}{x:Str}(h:sc.names.lookup x=some .cell):∃c,(cellsFrom n sc.names []).lookup x=some c:=by
 have q:=PySem.W.cellsFrom_some sc.names n [] (.inl h);exact ycm.mp q
theorem inv_start{CX:CXT}{P:Program}{w:World}{K:PySem.W.Frag}{mg:Str->Option Value}{base:Heap}{N ps:List Str}{qual:Str}{scope:Scope}{f:Addr}{cd:Value}{A:Around}{outer:List Env}{s s1:Shared}{H:Hp}{E:XK}{us:List Value}{vs:List V}
  (S:FnScope N ps scope) (hd:A.handled=none) (e0:Env0 P w K mg base A outer s H) (hl:vs.length=ps.length) (r:zbc vs us)
  (x:InCallC s s.heap.objs.size (bindL (envOfC qual scope s.heap.objs.size f cd).kindOf (ps.zip us) fun _=>none) (cellsFrom (s.heap.objs.size+1) scope.names []) (bindC (envOfC qual scope s.heap.objs.size f cd).kindOf (ps.zip us) fun _=>none) s1) :
  Inv (cxOf CX P w K mg base N qual scope f cd A outer s H E) [] (start N vs) H s1:=by
 have hpl:ps.length<=N.length:=by have:=congrArg List.length S.pre;rw[yc3]at this;omega
 obtain⟨h1,tk,rfl,hk⟩:=x.done;have noA:∀b:Addr,b∉(cxOf CX P w K mg base N qual scope f cd A outer s H E).ex:=fun b z=>absurd (show b∈([]:List Addr) from z) (by simp)
 refine⟨⟨e0.mod,S.kind,rfl,rfl,yab _,fun y z c h1 h2=>?_,fun y hy=>?_,fun y c _ h=>?_,fun _=>hd,Around.frames_deeper e0.frames,.inr ⟨rfl,rfl⟩,fun b z=>absurd z (noA b),e0.bs,e0.bsz,fun b _ _=>noA b,fun b z=>absurd z (noA b),e0.funs,e0.frf⟩,
  rfl,e0.bare,Un.kept hk,⟨_,x.toInCall.ns,fun i y v h1 h2 h3=>?_⟩,fun y c h=>⟨_,x.cell y c h⟩,e0.hok.fresh (yab _),fun y c h=>?_,fun p hp=>absurd (show p∈([]:List (Addr×Obj)) from hp) (by simp),e0.hok.kept hk,?_⟩
 ·exact name_of_addr x.apart (ybg h1) (ybg h2)
 ·have hy:scope.names.lookup y=some .cell\/scope.names.lookup y=some .free:=hy
  rcases hy with hy|hy
  ·exact cell_has hy
  ·exact absurd rfl (S.nofree _ (ybg hy))
 ·exact yd7 (x.above y c (ybg h))
 ·have hi:i<vs.length:=by
   unfold start at h2
   by_cases hi:i<vs.length
   ·exact hi
   ·rw[yar (by simpa using hi)]at h2
    rw[ycr]at h2;split at h2<;>cases h2
  have ha:vs[i]?=some v:=by
   unfold start at h2;rw[yap (by simpa using hi),yae]at h2
   cases e:vs[i]? with
   |none=>rw[e]at h2;cases h2
   |some a=>rw[e]at h2;cases h2;rfl
  obtain⟨u,hu,rv⟩:=r.get ha
  have hp:ps[i]?=some y:=by
   rw[<- S.pre,List.getElem?_take_of_lt (by omega)];exact h1
  have ndP:ps.Nodup:=by rw[<- S.pre];exact S.nd.sublist (List.take_sublist _ _)
  refine⟨u,rv,?_⟩
  rcases S.par y (ybm hp) with k|k
  ·exact .inl ⟨k,bindL_get ndP hp hu k⟩
  ·obtain⟨c,e⟩:=cell_has (n:=s.heap.objs.size+1) k;refine .inr ⟨.inl k,c,e,?_⟩;have q:=x.cell y c e;rw[bindC_get ndP hp hu (by show scope.names.lookup y≠_;rw[k];decide)]at q
   exact q
 ·exact e0.hok.fresh (yd7 (x.above y c (ybg h)))
 ·unfold start;show _=N.length;rw[yag,ya4,yd4]
  omega
theorem fn_of{CX:CXT}{P:Program}{w:World}{K:PySem.W.Frag}{mg:Str->Option Value}{base:Heap}{k:Nat}{f:Addr}{name qual:Str}{params:Arguments}{body:List Stmt}{scope:Scope}{dV kV doc pm cdv ct oc:Value}{an od:Option Addr}
  {osl:Array (Option Value)} {N ps:List Str} {sp:Sp} (lk:K.lookup f=some ⟨oc,od,.func (PySem.W.fnOf name qual params body scope dV kV doc pm an cdv ct),osl⟩) (hcd:PySem.W.codeIn K cdv qual=true) (S:FnScope N ps scope)
  (len:∀vs H Q E,sp vs H Q E->vs.length=ps.length)
  (hbody : ∀ (A : Around) (outer : List Env) (s : Shared) (H : Hp) (vs : List V) (Q : VK) (E : XK), Room k (A.deeper (envOfC qual scope s.heap.objs.size f cdv)) -> sp vs H Q E ->
   ∃t,PSs (cxOf CX P w K mg base N qual scope f cdv A outer s H E) body t/\t { nx:=fun _ H'=>Q .non H',rt:=Q } (start N vs) H) :
  FnOk P w K mg base CX (k+1) f (PySem.W.fnOf name qual params body scope dV kV doc pm an cdv ct) ps sp:=by
 refine⟨len,fun A outer s H args us vs Q E hr e0 hb r hsp=>?_⟩
 have hl:=len _ _ _ _ hsp;have KX:K.In s.heap:=e0.mod.kin.keeps fun b o e=>(e0.bs b o e).1
 have lim:s.heap.NoLimit:=e0.mod.nolimit.keeps fun b o e=>(e0.bs b o e).1
 have hkind:∀y∈ps.zip us,scope.names.lookup y.1=some .local\/(scope.names.lookup y.1=some .cell/\((cellsFrom (s.heap.objs.size+1) scope.names []).lookup y.1).isSome=true):=fun⟨n,v⟩ hy=>by
  rcases S.par n (List.of_mem_zip hy).1 with q|q
  ·exact .inl q
  ·exact .inr ⟨q,PySem.W.cellsFrom_some _ _ _ (.inl q)⟩
 refine codeAny_call_function hr.depth (KX _ _ lk) rfl S.co S.gen rfl (PySem.W.codeRec_of KX hcd) (hb _ _ _ _ ?_);refine wpAny_newFunctionEnv_cells S.kind hkind fun env he s1 x=>?_
 subst he;refine⟨lim.keeps x.toInCall.keep,codeAny_func ?_⟩;obtain⟨t,ht,hq⟩:=hbody A outer s H vs Q E (hr.deeper _) hsp;have I:Inv (cxOf CX P w K mg base N qual scope f cdv A outer s H E) [] (start N vs) H s1:=inv_start S hr.hd e0 hl r x;refine wpAny_mono (ht [] s1 (start N vs) H _ I hq) (fun fl s' hs=>?_) fun e s' hs=>hs
 have fin:∀{σ':St} {H':Hp} {v:V} {u:Value},Inv (cxOf CX P w K mg base N qual scope f cdv A outer s H E) [] σ' H' s'->RelV v u->Q v H'->CE outer P w H s Q u s' :=
  fun {σ' H' v u} J rv q=>⟨v,H',J.os,J.bare,J.base,J.hok,rv,q⟩
 cases fl with
 |ret u =>
  obtain⟨v,σ',H',J,rv,q⟩:=hs;exact fin J rv q
 |next =>
  obtain⟨σ',H',J,q⟩:=hs;exact fin (v:=V.non) (u:=Value.none) J rfl q
 |brk =>
  obtain⟨_,_,_,q⟩:=hs;exact False.elim q
 |cont =>
  obtain⟨_,_,_,q⟩:=hs;exact False.elim q
section
variable {X:Cx}{x:Str}{p pos:Pos}{e:Expr}{es:List Expr}{t:TA}{id T:String}{r:List V->Hp->VK->Prop}
def tCB(r:List V->Hp->VK->Prop)(t:TA):TE:=fun σ H Q=>t σ H fun vs H1=>r vs H1 Q
theorem zi0(hc:zc0 X (.builtin id) r)(hg:Gl X x)(hm:X.mg x=none)(hv:bootBuiltins x=some (.builtin id))(ha:PA X (e::es) t)(hn:x≠"__name__":=by decide)(hdb:(x == ("__debug__":Str))=false:=by decide)
  (he:starEach (e::es) X.env=(false,eval e X.env)::starEach es X.env:=by rfl) (hpl:(backTo pos (starEach es X.env)).any (·.1)=false:=by rfl):PE X (.Call (.Name x p) (e::es) [] pos) (tCB r t):=by
 intro pins s σ H Q I h;refine wpAny_Call_Name_kw (zgg I hg hm hv ?_ hn hdb);exact PyProof.Rows.callWith_builtin1 (thn (ha pos pins s σ H _ I h) fun us s1 ⟨vs,H1,I1,r1,q1⟩=>hc pins s1 σ H1 vs us Q I1 r1 q1) he hpl
theorem pe_callTy(hc:zc0 X (.type T) r)(hg:Gl X x)(hm:X.mg x=none)(hv:bootBuiltins x=some (.type T))(ha:PA X (e::es) t)(hn:x≠"__name__":=by decide)(hdb:(x == ("__debug__":Str))=false:=by decide)
  (he:starEach (e::es) X.env=(false,eval e X.env)::starEach es X.env:=by rfl) (hpl:(backTo pos (starEach es X.env)).any (·.1)=false:=by rfl):PE X (.Call (.Name x p) (e::es) [] pos) (tCB r t):=by
 intro pins s σ H Q I h;refine wpAny_Call_Name_kw (zgg I hg hm hv ?_ hn hdb);exact yb2 (thn (ha pos pins s σ H _ I h) fun us s1 ⟨vs,H1,I1,r1,q1⟩=>hc pins s1 σ H1 vs us Q I1 r1 q1) he hpl
end
end L2
namespace HT
open PySem PyProof.Rows
section
open PySem.SeqAt
open PySem.AutoSeq1 (wpAny_loadPart')
open PySem.MeetsSeq PySem.MeetsSeq2 PySem.MeetsSeq3
end
section
variable {prog:Program}{w:World}{A:Around}{E:Value->Shared->Prop}{s:Shared}
def sIx(n d:Nat):Option Int->Nat
 |none=>d
 |some v=>if v<0 then (v+(n:Int)).toNat else min v.toNat n
theorem sIx_none(n d:Nat):sIx n d none=d:=rfl
theorem sIx_nat(n d k:Nat):sIx n d (some (k:Int))=min k n:=by
 show(if (k:Int)<0 then ((k:Int)+(n:Int)).toNat else min (k:Int).toNat n)=min k n
 rw[if_neg (by omega),ycc]
end
end HT
namespace L2
open PySem PySem.Spec PyProof.Rows
abbrev TO:=St->Hp->(Option Int->Hp->Prop)->Prop
def PO(X:Cx)(e:Option Expr)(t:TO):Prop :=
 ∀(pins:List (Addr×Obj)) (s:Shared) (σ:St) (H:Hp) (Q:Option Int->Hp->Prop),Inv X pins σ H s->t σ H Q ->
  wpAny (model X.prog X.w) X.A (evalPart e X.env) (fun u s'=>∃o H',Inv X pins σ H' s'/\IsPart u o/\Q o H') X.xe s
def tNoPart:TO:=fun _ H Q=>Q none H
def tPart(t:TE):TO:=fun σ H Q=>t σ H fun x H1=>∃i,x=.int i/\Q (some i) H1
section
variable {X:Cx}{e:Expr}{te:TE}{lo hi:Option Expr}{tl th:TO}{pos p2:Pos}
theorem po_none:PO X none tNoPart:=by
 intro pins s σ H Q I h;rw[evalPart_none];exact wpAny_pure ⟨none,H,I,.none,h⟩
theorem po_some(h:PE X e te):PO X (some e) (tPart te):=by
 intro pins s σ H Q I hw;rw[evalPart_some];refine thn (h pins s σ H _ I hw) fun u s1 ⟨x,H1,I1,r1,q1⟩=>?_
 obtain⟨i,rfl,q⟩:=q1;obtain⟨t,rfl⟩:=r1;exact⟨some i,H1,I1,.int i t,q⟩
def SlR(X:Cx)(r:V->Option Int->Option Int->Hp->VK->Prop):Prop :=
 ∀(pins:List (Addr×Obj)) (s:Shared) (σ:St) (H:Hp) (x:V) (v vl vu:Value) (lo hi:Option Int) (sl:Addr) (Q:VK),Inv X pins σ H s->RelV x v->s.heap.IsSliceOf sl vl vu .none->IsPart vl lo->IsPart vu hi->r x lo hi H Q ->
  ∃T id,typeLookup (.type T) "__getitem__"=pure (some (.builtin id))/\s.TypeIs v T/\wpAny (model X.prog X.w) X.A (getItem v (.ref sl)) (EP X pins σ Q) X.xe s
theorem SlR.or{r r':V->Option Int->Option Int->Hp->VK->Prop}(h:SlR X r)(h':SlR X r'):SlR X (fun x lo hi H Q=>r x lo hi H Q\/r' x lo hi H Q):=by
 intro pins s σ H x v vl vu lo hi sl Q I rx hs pl pu q
 rcases q with q|q
 ·exact h pins s σ H x v vl vu lo hi sl Q I rx hs pl pu q
 ·exact h' pins s σ H x v vl vu lo hi sl Q I rx hs pl pu q
def tSl(r:V->Option Int->Option Int->Hp->VK->Prop)(te:TE)(tl th:TO):TE:=fun σ H Q=>te σ H fun x H1=>tl σ H1 fun l H2=>th σ H2 fun u H3=>r x l u H3 Q
theorem pe_slice{r:V->Option Int->Option Int->Hp->VK->Prop}(hr:SlR X r)(he:PE X e te)(hl:PO X lo tl)(hu:PO X hi th):PE X (.Subscript e (.Slice lo hi none p2) pos) (tSl r te tl th):=by
 intro pins s σ H Q I h;refine Subscript_ (thn (he pins s σ H _ I h) fun v s1 ⟨x,H1,I1,r1,q1⟩=>?_)
 refine wpAny_Slice (thn (hl pins s1 σ H1 _ I1 q1) fun vl s2 ⟨l,H2,I2,pl,q2⟩=>thn (hu pins s2 σ H2 _ I2 q2) fun vu s3 ⟨u,H3,I3,pu,q3⟩=>?_)
 rw[evalPart_none];refine wpAny_pure ?_;have I4:Inv X pins σ H3 { s3 with heap:=s3.heap.push { cls:=.type "slice",data:=.fields #[vl,vu,.none] } }:=I3.kept (t':=s3.toks) fun b ob q=>ya9 _ q
 obtain⟨T,id,hT,ht,hg⟩:=hr pins { s3 with heap:=s3.heap.push { cls:=.type "slice",data:=.fields #[vl,vu,.none] } } σ H3 x v vl vu l u s3.heap.objs.size Q I4 r1 (Heap.IsSliceOf.new ..) pl pu q3
 show wpAny (model X.prog X.w) X.A (subscriptTail e (.Slice lo hi none p2) v (.ref s3.heap.objs.size)) (EP X pins σ Q) X.xe { s3 with heap:=s3.heap.push { cls:=.type "slice",data:=.fields #[vl,vu,.none] } }
 exact tail_any (ops:=[.ref s3.heap.objs.size,v]) ht hT hg (by with_unfolding_all rfl)
def cutV(xs:List V)(lo hi:Option Int):List V:=(xs.drop (HT.sIx xs.length 0 lo)).take (HT.sIx xs.length xs.length hi - HT.sIx xs.length 0 lo)
theorem cutV_length(xs:List V)(lo hi:Option Int):(cutV xs lo hi).length<=xs.length:=by
 unfold cutV;rw[yc3,yd1]
 omega
end
def ixN(n:Nat)(i:Int):Option Nat:=if 0<=i then (if i<n then some i.toNat else none) else if -(n:Int)<=i then some (i+n).toNat else none
def atI{α:Type}(xs:List α)(i:Int):Option α:=(ixN xs.length i).bind fun j=>xs[j]?
theorem ixN_seq{n:Nat}{i:Int}{j:Nat}(h:ixN n i=some j):seqIndex? i n=some j/\j<n/\-(n:Int)<=i/\i<n:=by
 unfold ixN at h
 by_cases h0:0<=i
 ·rw[if_pos h0]at h
  by_cases h1:i<n
  ·rw[if_pos h1]at h;have e:i.toNat=j:=yax h;exact⟨by rw[seqIndex_of h0 h1,e],by omega,by omega,h1⟩
  ·rw[if_neg h1]at h;cases h
 ·rw[if_neg h0]at h
  by_cases h1:-(n:Int)<=i
  ·rw[if_pos h1]at h;have e:(i+n).toNat=j:=yax h;exact⟨by rw[seqIndex_neg (by omega) h1,e],by omega,h1,by omega⟩
  ·rw[if_neg h1]at h;cases h
theorem atI_get{α:Type}{xs:List α}{i:Int}{v:α}(h:atI xs i=some v):∃j,seqIndex? i xs.length=some j/\xs[j]?=some v/\j<xs.length/\-(xs.length:Int)<=i/\i<xs.length:=by
 unfold atI at h;cases e:ixN xs.length i with
 |none=>rw[e]at h;cases h
 |some j =>
  rw[e]at h;obtain⟨h1,h2,h3,h4⟩:=ixN_seq e;exact⟨j,h1,h,h2,h3,h4⟩
theorem atI_nat{α:Type}{xs:List α}{j:Nat}{v:α}(h:xs[j]?=some v):atI xs (j:Int)=some v:=by
 have hj:j<xs.length:=(ya7.mp h).1
 have e:ixN xs.length (j:Int)=some j:=by
  unfold ixN;rw[if_pos (by omega),if_pos (by omega)];simp
 unfold atI;rw[e];exact h
def PlainIx(b:Expr):Prop:=∀o i,subscripted b false o i=operate [o,i] (getItem o i)
def IxR(X:Cx)(r:R2):Prop :=
 ∀(value slice:Expr) (pins:List (Addr×Obj)) (s:Shared) (σ:St) (H:Hp) (x y:V) (v u:Value) (Q:VK),Inv X pins σ H s->RelV x v->RelV y u->r x y H Q ->
  subscripted slice false v u=operate [v,u] (getItem v u)->wpAny (model X.prog X.w) X.A (subscriptTail value slice v u) (EP X pins σ Q) X.xe s
def MtR(X:Cx)(id:String)(r:V->List V->Hp->VK->Prop):Prop :=
 ∀(pins:List (Addr×Obj)) (s:Shared) (σ:St) (H:Hp) (x:V) (xs:List V) (v:Value) (us:List Value) (Q:VK),Inv X pins σ H s->RelV x v->zbc xs us->r x xs H Q ->
  wpAny (model X.prog X.w) X.A (call (.builtin id) (v::us)) (EP X pins σ Q) X.xe s
section
variable {X:Cx}{a b:Expr}{ta tb:TE}{pos:Pos}
theorem IxR.or{r r':R2}(h:IxR X r)(h':IxR X r'):IxR X (fun x y H Q=>r x y H Q\/r' x y H Q):=by
 intro value slice pins s σ H x y v u Q I rx ry q hs
 rcases q with q|q
 ·exact h value slice pins s σ H x y v u Q I rx ry q hs
 ·exact h' value slice pins s σ H x y v u Q I rx ry q hs
theorem MtR.or{id:String}{r r':V->List V->Hp->VK->Prop}(h:MtR X id r)(h':MtR X id r'):MtR X id (fun x xs H Q=>r x xs H Q\/r' x xs H Q):=by
 intro pins s σ H x xs v us Q I rx rs q
 rcases q with q|q
 ·exact h pins s σ H x xs v us Q I rx rs q
 ·exact h' pins s σ H x xs v us Q I rx rs q
theorem pe_ix{r:R2}(hr:IxR X r)(ha:PE X a ta)(hb:PE X b tb)(hs:PlainIx b):PE X (.Subscript a b pos) (tOp r ta tb):=by
 intro pins s σ H Q I h;exact Subscript_ (binT ha hb I h fun v u s2 x y H2 I2 rx ry q=>hr a b pins s2 σ H2 x y v u Q I2 rx ry q (hs _ _))
def rIxL(K:PySem.W.Frag):R2:=fun x y H Q=>∃p xs i v,x=.ref p/\y=.int i/\SqL K H p xs/\atI xs i=some v/\Q v H
def rIxT(K:PySem.W.Frag):R2:=fun x y H Q=>∃p xs i v,x=.ref p/\y=.int i/\SqT K H p xs/\atI xs i=some v/\Q v H
def rIxS:R2:=fun x y H Q=>∃z i c,x=.str z/\y=.int i/\z.length<=sizeLine/\atI z.cps.toList i=some c/\Q (.str ⟨#[c]⟩) H
theorem ix_list:IxR X (rIxL X.K):=by
 intro value slice pins s σ H x y v u Q I rx ry h hs;obtain⟨p,xs,i,z,rfl,rfl,hq,he,q⟩:=h;cases rx;obtain⟨t,rfl⟩:=ry;obtain⟨its,r,pl,hz⟩:=I.list hq;obtain⟨j,h1,h2,h3,h4,h5⟩:=atI_get he;obtain⟨w,ew,rw'⟩:=r.get h2;have hl:=r.length;have hn:=line63;have fin:EP X pins σ Q w s:=⟨z,H,I,rw',q⟩
 by_cases h0:0<=i
 ·have hj:i.toNat=j:=by
   rw[seqIndex_of h0 h5]at h1;exact yax h1
  exact item_listR pl.isList h0 (by omega) (by rw[hj];simpa using ew) fin hs
 ·have hj:(i+(its.toArray.size:Int)).toNat=j:=by
   rw[seqIndex_neg (by omega) h4]at h1
   rw[yaf,<- hl];exact yax h1
  exact subscriptTail_builtinR (x:=w) pl.isList.typeIs slot_list_getitem.lookup
   (wpAny_getItem_list_neg (Q:=fun r s'=>r=w/\EP X pins σ Q r s') pl.isList (by omega) (by rw[yaf]<;>omega) (by omega) (by rw[hj];simpa using ew) ⟨rfl,fin⟩) hs
theorem ix_tup:IxR X (rIxT X.K):=by
 intro value slice pins s σ H x y v u Q I rx ry h hs;obtain⟨p,xs,i,z,rfl,rfl,hq,he,q⟩:=h;cases rx;obtain⟨t,rfl⟩:=ry;obtain⟨its,r,pl,hz⟩:=I.tuple hq;obtain⟨j,h1,h2,h3,h4,h5⟩:=atI_get he;obtain⟨w,ew,rw'⟩:=r.get h2;have hl:=r.length;have hn:=line63;have fin:EP X pins σ Q w s:=⟨z,H,I,rw',q⟩
 exact subscriptTail_builtinR (x:=w) pl.typeIs slot_tuple_getitem.lookup
  (getItem_tuple (j:=j) (Q:=fun r s'=>r=w/\EP X pins σ Q r s') pl (by omega) (by omega) (by rw[yaf,<- hl];exact h1) (by simpa using ew) ⟨rfl,fin⟩) hs
theorem ix_str:IxR X rIxS:=by
 intro value slice pins s σ H x y v u Q I rx ry h hs;obtain⟨z,i,c,rfl,rfl,hz,he,q⟩:=h;obtain⟨t,rfl⟩:=rx;obtain⟨t',rfl⟩:=ry;obtain⟨j,h1,h2,h3,h4,h5⟩:=atI_get he;have hl:z.cps.toList.length=z.length:=by simp[Str.length]
 rw[hl]at h1 h4 h5;have hn:=line63
 exact tail_any (typeIs_str s z t) slot_str_getitem.lookup (getItem_str (c:=c) (by
  have e1:decide (i < -(2 ^ 63:Int))=false:=decide_eq_false (by omega)
  have e2:decide (i ≥ 2 ^ 63)=false:=decide_eq_false (by omega)
  rw[e1,e2,yd0]) (by rw[h1];simpa using h2) ⟨.str ⟨#[c]⟩,H,I.tok _,⟨_,rfl⟩,q⟩) hs
def rIx(K:PySem.W.Frag):R2:=fun x y H Q=>rIxL K x y H Q\/rIxT K x y H Q\/rIxS x y H Q
theorem ix_seq:IxR X (rIx X.K):=ix_list.or (ix_tup.or ix_str)
theorem mapSeq_set(its:List Value)(n j:Nat)(u:Value):Obj.mapSeq (·.setIfInBounds j u) { cls:=.type "list",data:=.seq its.toArray n }={ cls:=.type "list",data:=.seq (its.set j u).toArray n }:=by
 simp[Obj.mapSeq]
theorem Inv.lst{pins:List (Addr×Obj)}{σ:St}{H:Hp}{s:Shared}{p:Addr}{xs:List V}(I:Inv X pins σ H s)(h:H p=some (.lst xs)) :
  ∃(its:List Value) (n:Nat),zbc xs its/\s.heap.get? p=some { cls:=.type "list",data:=.seq its.toArray n }/\xs.length<=sizeLine:=by
 obtain⟨z,its,n,r,e⟩:=I.hok p _ h;exact⟨its,n,r,e,z⟩
theorem Inv.lstUpd{pins:List (Addr×Obj)}{σ:St}{H:Hp}{s:Shared}{p:Addr}{xs ys:List V}{its its':List Value}{n n':Nat}{f:Obj->Obj}(I:Inv X pins σ H s)(h:H p=some (.lst xs))
  (ho:s.heap.get? p=some { cls:=.type "list",data:=.seq its.toArray n }) (hf:f { cls:=.type "list",data:=.seq its.toArray n }={ cls:=.type "list",data:=.seq its'.toArray n' }) (r:zbc ys its') (hz:ys.length<=sizeLine) (t:Nat) :
  Inv X pins σ (upd H p (.lst ys)) { s with heap:=s.heap.update p f,toks:=t }:=by
 have e:(s.heap.update p f).get? p=some { cls:=.type "list",data:=.seq its'.toArray n' }:=by
  rw[Heap.get?_update_self f ho (by rw[hf]<;>rfl),hf]
 refine I.write (x:=p) (e:=p) (by rw[h];trivial) (.inl rfl) (fun b u hb q=>(ybt _ _ (yat hb)).trans q) ⟨_,e⟩ ?_
 exact⟨hz,its',n',r,e⟩
def rSetL:V->V->V->Hp->(Hp->Prop)->Prop:=fun o i v H Q=>∃p xs k j,o=.ref p/\i=.int k/\H p=some (.lst xs)/\ixN xs.length k=some j/\Q (upd H p (.lst (xs.set j v)))
theorem set_list:PSet X rSetL:=by
 intro pins s σ H o i v ov iv u Q I ro ri rv h;obtain⟨p,xs,k,j,rfl,rfl,hp,hj,q⟩:=h;cases ro;obtain⟨t,rfl⟩:=ri;obtain⟨its,n,r,ho,hz⟩:=I.lst hp;obtain⟨h1,h2,h3,h4⟩:=ixN_seq hj;have hl:=r.length;have hn:=line63
 have I':Inv X pins σ (upd H p (.lst (xs.set j v))) { s with heap:=s.heap.update p (Obj.mapSeq (·.setIfInBounds j u)) } :=
  I.lstUpd hp ho (mapSeq_set its n j u) (r.set rv j) (by rw[yd9];exact hz) s.toks
 by_cases h0:0<=k
 ·have hk:k.toNat=j:=by
   rw[seqIndex_of h0 h4]at h1;exact yax h1
  exact PySem.W.ki_setAt ho h0 (by omega) (by rw[yaf,<- hl];exact h4) (by rw[hk];exact⟨_,I',q⟩)
 ·have hk:(k+(its.toArray.size:Int)).toNat=j:=by
   rw[seqIndex_neg (by omega) h3]at h1
   rw[yaf,<- hl];exact yax h1
  exact PySem.W.ki_setBack ho (by omega) (by rw[yaf,<- hl];exact h3) (by omega) (by rw[hk];exact⟨_,I',q⟩)
theorem slice_bounds(lo hi:Option Int)(n:Nat):(sliceBounds lo hi none n).1=((HT.sIx n 0 lo:Nat):Int)/\(sliceBounds lo hi none n).2.1=((HT.sIx n n hi:Nat):Int)/\(sliceBounds lo hi none n).2.2=1:=by
 refine⟨?_,?_,rfl⟩
 ·cases lo with
  |none=>simp[sliceBounds,HT.sIx]
  |some i =>
   simp only[sliceBounds,HT.sIx,Option.getD_none,show(1:Int) > 0 by decide,if_true]
   by_cases h:i<0
   ·simp only[h,if_true]<;>omega
   ·simp only[h,if_false]<;>omega
 ·cases hi with
  |none=>simp[sliceBounds,HT.sIx]
  |some i =>
   simp only[sliceBounds,HT.sIx,Option.getD_none,show(1:Int) > 0 by decide,if_true]
   by_cases h:i<0
   ·simp only[h,if_true]<;>omega
   ·simp only[h,if_false]<;>omega
theorem slicePick_cut(its:List Value)(lo hi:Option Int):slicePick its.toArray lo hi none=((its.drop (HT.sIx its.length 0 lo)).take (HT.sIx its.length its.length hi - HT.sIx its.length 0 lo)).toArray:=by
 obtain⟨h1,h2,h3⟩:=slice_bounds lo hi its.toArray.size;unfold slicePick;rw[h1,h2,h3];simp only[sliceRange_one,pick_run,yaf]<;>rfl
def rSlL(K:PySem.W.Frag):V->Option Int->Option Int->Hp->VK->Prop:=fun x lo hi H Q=>∃a xs,x=.ref a/\SqL K H a xs/\∀p,H p=none->Q (.ref p) (upd H p (.lst (cutV xs lo hi)))
theorem sl_list:SlR X (rSlL X.K):=by
 intro pins s σ H x v vl vu lo hi sl Q I rx hs pl pu h;obtain⟨a,xs,rfl,hx,q⟩:=h;cases rx;obtain⟨its,r,ht,hz⟩:=I.list hx;have hlen:=r.length;refine⟨"list",_,slot_list_getitem.lookup,ht.isList.typeIs,?_⟩;refine wpAny_getItem_list_slice ht.isList hs pl pu .none (by simp) ?_ (by rw[yaf]<;>omega)
 rw[slicePick_cut,<- hlen];refine⟨.ref s.heap.objs.size,_,I.laid (t':=s.toks) (o:=.lst (cutV xs lo hi)) (fun b ob q=>ya9 _ q) (yab _) ?_,rfl,q _ (I.hok.fresh (yab _))⟩
 exact⟨yal (cutV_length xs lo hi) hz,_,0,(r.drop (HT.sIx xs.length 0 lo)).take (HT.sIx xs.length xs.length hi - HT.sIx xs.length 0 lo),yai _ rfl⟩
theorem zc0.or{f:Value}{r r':List V->Hp->VK->Prop}(h:zc0 X f r)(h':zc0 X f r'):zc0 X f (fun xs H Q=>r xs H Q\/r' xs H Q):=by
 intro pins s σ H xs us Q I rs q
 rcases q with q|q
 ·exact h pins s σ H xs us Q I rs q
 ·exact h' pins s σ H xs us Q I rs q
theorem call_list_of:zc0 X (.type "list") (fun xs H Q=>∃p ys,xs=[.ref p]/\(SqL X.K H p ys\/SqT X.K H p ys)/\∀l,H l=none->Q (.ref l) (upd H l (.lst ys))):=by
 intro pins s σ H xs us Q I r h;obtain⟨p,ys,rfl,hq,q⟩:=h;obtain⟨u,rfl,rx⟩:=zgq r;cases rx
 have fin:∀(its:List Value),zbc ys its->ys.length<=sizeLine->∀(h':Heap) (c':Nat),(∀b o',s.heap.get? b=some o'->h'.get? b=some o') ->
   h'.get? s.heap.objs.size=some { cls:=.type "list",dict:=none,data:=.seq its.toArray c',slots:=#[] }->EP X pins σ Q (.ref s.heap.objs.size) { s with heap:=h' }:=fun its r' hz h' c' kp e =>
  ⟨.ref s.heap.objs.size,_,I.laid (t':=s.toks) kp (yab _) (show zbt X.prog X.w _ h' _ (.lst ys) from⟨hz,its,c',r',e⟩),rfl,q _ (I.hok.fresh (yab _))⟩
 rcases hq with hq|hq
 ·obtain⟨its,r',pl,hz⟩:=I.list hq;have hlen:=r'.length;obtain⟨o,ho,hc,n,hd⟩:=pl.isList;exact call_list_seq p (.inl rfl) ho hc hd (fun h' c' kp e=>fin its r' hz h' c' kp e) (by simp only[yaf]<;>omega)
 ·obtain⟨its,r',pl,hz⟩:=I.tuple hq;have hlen:=r'.length;obtain⟨o,ho,hc,n,hd⟩:=pl;exact call_list_seq p (.inr rfl) ho hc hd (fun h' c' kp e=>fin its r' hz h' c' kp e) (by simp only[yaf]<;>omega)
theorem call_tuple_of:zc0 X (.type "tuple") (fun xs H Q=>∃p ys,xs=[.ref p]/\((SqL X.K H p ys/\∀l,H l=none->Q (.ref l) (upd H l (.tup ys)))\/(SqT X.K H p ys/\Q (.ref p) H))):=by
 intro pins s σ H xs us Q I r h;obtain⟨p,ys,rfl,h⟩:=h;obtain⟨u,rfl,rx⟩:=zgq r;cases rx
 rcases h with ⟨hq,q⟩|⟨hq,q⟩
 ·obtain⟨its,r',pl,hz⟩:=I.list hq;have hlen:=r'.length;refine call_tuple_list pl.isList (fun h' kp=>?_) (by simp only[yaf]<;>omega)
  have I1:Inv X pins σ H { s with heap:=h' }:=I.kept (t':=s.toks) kp
  have I2:Inv X pins σ (upd H h'.objs.size (.tup ys)) { s with heap:=h'.push { cls:=.type "tuple",data:=.seq its.toArray } } :=
   I1.laid (t':=s.toks) (fun b o e=>ya9 _ e) (yab _) (show zbt X.prog X.w _ _ _ (.tup ys) from⟨hz,its,r',IsTup.new _ _⟩)
  exact⟨.ref h'.objs.size,_,I2,rfl,q _ (I1.hok.fresh (yab _))⟩
 ·obtain⟨its,r',pl,hz⟩:=I.tuple hq;exact call_tuple_same pl ⟨.ref p,H,I,rfl,q⟩
def tyV(K:PySem.W.Frag)(T:String)(x:V)(H:Hp):Prop:=match x with
 |.str _=>T="str"
 |.int _=>T="int"
 |.ref p=>(T="list"/\∃xs,SqL K H p xs)\/(T="tuple"/\∃o,K.lookup p=some o/\o.cls=.type "tuple"/\o.dict=none) \/
   (T="dict"/\((∃kvs,H p=some (.dK kvs))\/∃kvs,H p=some (.dT kvs)))\/(T="set"/\∃S n,H p=some (.set S n))
 |_=>False
theorem tyV_is{pins:List (Addr×Obj)}{σ:St}{H:Hp}{s:Shared}{T:String}{x:V}{v:Value}(I:Inv X pins σ H s)(r:RelV x v)(ty:tyV X.K T x H) :
  s.TypeIs v T/\∀a,v=.ref a->∃ob,s.heap.get? a=some ob/\ob.dict=none:=by
 cases x with
 |str z =>
  obtain⟨t,rfl⟩:=r;cases (show T="str" from ty);exact⟨typeIs_str s z t,fun _ e=>nomatch e⟩
 |int i =>
  obtain⟨t,rfl⟩:=r;cases (show T="int" from ty);exact⟨typeIs_int s i t,fun _ e=>nomatch e⟩
 |ref p =>
  cases r
  rcases ty with ⟨rfl,xs,hq⟩|⟨rfl,o,hk,hc,hd⟩|⟨rfl,hk⟩|⟨rfl,S,n,hk⟩
  ·obtain⟨its,_,pl,_⟩:=I.list hq;refine⟨pl.isList.typeIs,fun a e=>?_⟩
   cases e;obtain⟨o,n,e,c,hd,_⟩:=pl;exact⟨o,e,hd⟩
  ·refine⟨⟨o,I.kIn p o hk,hc⟩,fun a e=>?_⟩
   cases e;exact⟨o,I.kIn _ o hk,hd⟩
  ·have z:∃o,s.heap.get? p=some o/\o.ExactDict:=by
    rcases hk with ⟨kvs,hk⟩|⟨kvs,hk⟩
    ·obtain⟨_,_,_,_,o,_,_,e,ex,_⟩:=I.hok p _ hk;exact⟨o,e,ex⟩
    ·obtain⟨_,_,_,_,o,_,_,e,ex,_⟩:=I.hok p _ hk;exact⟨o,e,ex⟩
   obtain⟨o,e,ex⟩:=z;refine⟨⟨o,e,ex.1⟩,fun a e2=>?_⟩
   cases e2;exact⟨o,e,ex.2.1⟩
  ·obtain⟨o,_,_,_,e,ex,_⟩:=I.hok p _ hk;refine⟨⟨o,e,ex.1⟩,fun a e2=>?_⟩
   cases e2;exact⟨o,e,ex.2.1⟩
 |_=>exact False.elim ty
def tBM(K:PySem.W.Frag)(T:String)(r:V->List V->Hp->VK->Prop)(to:TE)(t:TA):TE:=fun σ H Q=>to σ H fun x H1=>tyV K T x H1/\t σ H1 fun xs H2=>r x xs H2 Q
variable {o e:Expr}{es:List Expr}{to:TE}{t:TA}{name:Str}{apos cpos:Pos}{T id:String}{r:V->List V->Hp->VK->Prop}
theorem pe_bm(pa:PlainAttrs T)(slot:Slot T name id)(hty:typeOf (.builtin id)=pure (.type "method_descriptor"))(hm:MtR X id r)(ho:PE X o to)(ha:PA X (e::es) t)
  (hbase:attributeBase o name X.env (eval o X.env)=eval o X.env:=by rfl)
  (hfew : ((backTo cpos (starEach (e :: es) X.env)).all (fun x => !x.1) && (backToKw cpos (keywordEach [] X.env)).all (fun x => x.1.isSome)
   && decide ((e::es).length+([]:List Keyword).length+(if ([]:List Keyword).isEmpty then 0 else 1)<30))=true:=by rfl)
  (hline:(apos.endLine == cpos.line)=true:=by rfl) (hs:starEach (e::es) X.env=(false,eval e X.env)::starEach es X.env:=by rfl) (hplain:(backTo cpos (starEach es X.env)).any (·.1)=false:=by rfl) :
  PE X (.Call (.Attribute o name apos) (e::es) [] cpos) (tBM X.K T r to t):=by
 intro pins s σ H Q I h;refine wpAny_Call_method_late hbase hfew hline rfl (thn (ho pins s σ H _ I h) fun v s1 ⟨x,H1,I1,r1,ty,q1⟩=>?_)
 obtain⟨h1,h2⟩:=tyV_is I1 r1 ty;refine⟨T,id,pa,slot,hty,h1,h2,?_⟩;have hA:=ha cpos pins s1 σ H1 _ I1 q1;rw[hs]at hA ⊢;refine Calls.callWith_builtin (by show(false || (backTo cpos (starEach es X.env)).any (·.1))=false;rw[hplain]<;>rfl) (yda ?_)
 exact thn hA fun us s2 ⟨vs,H2,I2,r2,q2⟩=>hm pins s2 σ H2 x vs v us Q I2 r1 r2 q2
end
def MtM(X:Cx)(id:String)(r:V->List V->Hp->VK->Prop):Prop :=
 ∀(pins:List (Addr×Obj)) (s:Shared) (σ:St) (H:Hp) (x:V) (xs:List V) (v:Value) (us:List Value) (Q:VK),Inv X pins σ H s->RelV x v->zbc xs us->r x xs H Q ->
  wpAny (model X.prog X.w) X.A (call (.builtin id) (v::us)) (EP X pins σ Q) X.xe s
theorem zbc.one:∀{x:V} {us:List Value},zbc [x] us->∃u,us=[u]/\RelV x u
 |_,_,.cons r .nil=>⟨_,rfl,r⟩
theorem zbc.zero:∀{us:List Value},zbc [] us->us=[]
 |_,.nil=>rfl
theorem zbc.reverse{xs:List V}{us:List Value}(h:zbc xs us):zbc xs.reverse us.reverse:=by
 induction h with
 |nil=>exact .nil
 |cons r t ih=>rw[ydx,ydx];exact zbc.append ih (.cons r .nil)
theorem zbc.rep{xs:List V}{us:List Value}(h:zbc xs us):∀k:Nat,zbc (List.replicate k xs).flatten (List.replicate k us).flatten
 |0=>.nil
 |k+1=>by
  rw[ybc,ybc,yb0,yb0];exact zbc.append h (zbc.rep h k)
theorem foldl_rep(its:List Value):∀(k:Nat) (acc:List Value),
  List.foldl (fun x1 x2=>x1++x2) acc.toArray (List.replicate k its.toArray)=(acc++(List.replicate k its).flatten).toArray
 |0,acc=>by simp
 |k+1,acc=>by
  have e:acc.toArray++its.toArray=(acc++its).toArray:=by simp
  have e2:(acc++its)++(List.replicate k its).flatten=acc++(List.replicate (k+1) its).flatten:=by
   rw[ybc,yb0,yb1]
  rw[<- e2,<- foldl_rep its k (acc++its),<- e,ybc,List.foldl_cons]
section
variable {X:Cx}{pins:List (Addr×Obj)}{σ:St}{H:Hp}{s:Shared}{l b:Addr}{xs ys zs:List V}
theorem Inv.lset{its its':List Value}{n:Nat}{f:Array Value->Array Value}{t':Nat}(I:Inv X pins σ H s)(hH:H l=some (.lst xs))
  (e:s.heap.get? l=some { cls:=.type "list",data:=.seq its.toArray n }) (hf:f its.toArray=its'.toArray) (hv:zbc ys its') (hz:ys.length<=sizeLine) :
  Inv X pins σ (upd H l (.lst ys)) { s with heap:=s.heap.update l (Obj.mapSeq f),toks:=t' }:=by
 have q:=PySem.IsL.update e f;rw[hf]at q;refine I.write (x:=l) (e:=l) (by rw[hH];exact trivial) (.inl rfl) (fun b' u hb hu=>(ybt s.heap (Obj.mapSeq f) (yat hb)).trans hu) ⟨_,q⟩ ?_
 exact⟨hz,its',_,hv,q⟩
theorem Inv.lnew{its:List Value}{t':Nat}(I:Inv X pins σ H s)(hv:zbc ys its)(hz:ys.length<=sizeLine) :
  Inv X pins σ (upd H s.heap.objs.size (.lst ys)) { s with heap:=s.heap.push { cls:=.type "list",data:=.seq its.toArray },toks:=t' } :=
 I.laid (fun _ _ q=>ya9 _ q) (yab _) ⟨hz,its,0,hv,yai _ rfl⟩
theorem Inv.fresh(I:Inv X pins σ H s):H s.heap.objs.size=none:=I.hok.fresh (yab _)
theorem Inv.lstM(I:Inv X pins σ H s)(hH:H l=some (.lst xs)):xs.length<=sizeLine/\∃(its:List Value) (n:Nat),zbc xs its/\xs.length=its.length/\s.heap.get? l=some { cls:=.type "list",data:=.seq its.toArray n }:=by
 obtain⟨z,its,n,r,e⟩:=I.hok l _ hH;exact⟨z,its,n,r,r.length,e⟩
theorem notLongL{n:Nat}(h:n<=sizeLine):Builtin.List.listTooLong n=false:=by
 unfold Builtin.List.listTooLong;exact decide_eq_false (by omega)
end
section
variable {X:Cx}
def rAppend:V->List V->Hp->VK->Prop:=fun x vs H Q=>∃l xs y,x=.ref l/\vs=[y]/\H l=some (.lst xs)/\xs.length<sizeLine/\Q .non (upd H l (.lst (xs++[y])))
theorem mt_append:MtM X "list.append" rAppend:=by
 intro pins s σ H x vs v us Q I rx rv h;obtain⟨l,xs,y,rfl,rfl,hH,hz,q⟩:=h;cases rx;obtain⟨u,rfl,ru⟩:=rv.one;obtain⟨z,its,n,r,hl,e⟩:=I.lstM hH;refine call_meets F.slot_list_append ⟨_,e,rfl⟩ F.entry_list_append (F.args_list_append_2 _ _) (PySem.list_append l its.toArray n u (by rw[yaf];omega)) ⟨e,?_⟩
 refine⟨.non,_,I.lset (its':=its++[u]) hH e (by simp) (r.append (.cons ru .nil)) ?_,rfl,q⟩
 rw[yag,yd5]
 omega
def rCat:R2:=fun x y H Q=>∃l b xs zs,x=.ref l/\y=.ref b/\H l=some (.lst xs)/\H b=some (.lst zs)/\xs.length+zs.length<=sizeLine/\∀p,H p=none->Q (.ref p) (upd H p (.lst (xs++zs)))
theorem op_cat:OpR X (binaryOp .Add) rCat:=by
 intro pins s σ H x y v u Q I rx ry h;obtain⟨l,b,xs,zs,rfl,rfl,hH,hB,hz,q⟩:=h;cases rx;cases ry;obtain⟨z,its,n,r,hl,e⟩:=I.lstM hH;obtain⟨z2,its2,n2,r2,hl2,e2⟩:=I.lstM hB;refine PySem.P.add_list e e2 ?_ (by rw[yaf,yaf];omega)
 have ea:its.toArray++its2.toArray=(its++its2).toArray:=by simp
 rw[ea];exact⟨.ref _,_,I.lnew (t':=s.toks) (r.append r2) (by rw[yag];omega),rfl,q _ I.fresh⟩
def rRep:R2:=fun x y H Q=>∃l k xs,x=.ref l/\y=.int k/\H l=some (.lst xs)/\-(2 ^ 63)<=k/\k<2 ^ 63/\xs.length * k.toNat<=sizeLine /\
 ∀p,H p=none->Q (.ref p) (upd H p (.lst (List.replicate k.toNat xs).flatten))
theorem len_rep{α:Type}(xs:List α)(k:Nat):(List.replicate k xs).flatten.length=k * xs.length:=by
 induction k with
 |zero=>simp
 |succ k ih=>rw[ybc,yb0,yag,ih,ydb,Nat.add_comm]
theorem op_rep:OpR X (binaryOp .Mult) rRep:=by
 intro pins s σ H x y v u Q I rx ry h;obtain⟨l,k,xs,rfl,rfl,hH,h1,h2,hz,q⟩:=h;cases rx;obtain⟨t,rfl⟩:=ry;obtain⟨z,its,n,r,hl,e⟩:=I.lstM hH;have hlen:its.toArray.size * k.toNat<=sizeLine:=by rw[yaf,<- hl];exact hz
 have hcap:¬ its.toArray.size * k.toNat > (2 ^ 63 - 1) / 8:=by
  have:(sizeLine:Nat)<=(2 ^ 63 - 1) / 8:=by decide
  omega
 have hfit:¬ (!Builtin.List.listFitsIndex k)=true:=by
  rw[fitsIndex_both h1 h2];exact yb4
 have hlong:¬ Builtin.List.listTooLong (its.toArray.size * k.toNat)=true:=by
  rw[notLongL hlen];exact yb4
 have hnew:List.foldl (fun x1 x2=>x1++x2) #[] (List.replicate (if its.toArray.isEmpty=true then 0 else k.toNat) its.toArray)=(List.replicate k.toNat its).flatten.toArray:=by
  have f0:∀m:Nat,List.foldl (fun x1 x2=>x1++x2) #[] (List.replicate m its.toArray)=(List.replicate m its).flatten.toArray:=fun m=>by
   have:=foldl_rep its m [];rw[ydc]at this;exact this
  rw[f0];cases its with
  |nil=>simp
  |cons a r'=>rw[if_neg (by simp)]
 refine wpAny_binaryOp_repeat_ref (T:="list") (U:="int") (by decide) ⟨_,e,rfl⟩ (fun s'=>typeIs_int s' k t) noFill_list_mul F.fills_int_mul F.slot_int_rmul repeat_list F.slot_int_index.lookup
  (call_meets F.slot_int_rmul (typeIs_int s k t) F.entry_int_rmul (F.args_int_rmul_2 _ _) (int___rmul___int_list k t l its.toArray n)
   ⟨e,rfl,⟨_,e,rfl⟩,call_meets F.slot_list_mul ⟨_,e,rfl⟩ F.entry_list_mul (F.args_list_mul_2 _ _) (AutoListH.list___mul___list_int_3 l its.toArray n k t hfit hcap hlong) ⟨e,?_⟩⟩)
 rw[hnew];exact⟨.ref _,_,I.lnew (t':=s.toks) (r.rep k.toNat) (by rw[len_rep,Nat.mul_comm];exact hz),rfl,q _ I.fresh⟩
end
section
variable {prog:Program}{w:World}{A:Around}{E:Value->Shared->Prop}{s:Shared}
end
section
variable {X:Cx}
end
end L2
namespace Att
open PySem PySem.W PySem.Calls PyProof.Rows
theorem ziu{P:Params}{h:Heap}:∀(ns:List Int) (vs:List Value),WellAll P h vs (ns.map WData.int)->IntsAre vs ns:=by
 intro ns
 induction ns with
 |nil =>
  intro vs w;rw[List.map_nil]at w;cases w;exact .nil
 |cons n ns ih =>
  intro vs w;rw[yad]at w;cases w with
  |cons a b =>
   cases a;exact .cons _ _ (ih _ b)
theorem script_of{l:OpenLaw}{n:Nat}(hn:l.most=some n){P:Params}{h:Heap}{args:List WData}{vals:List Value}
  (hpre:l.row.toRowW.claim.pre args=true) (hwl:WellAll P h vals args) :
  ∃a vs ns,vals=[Value.ref a]/\args=[WData.list (ns.map WData.int)]/\h.get? a=some { cls:=.type "list",data:=.seq vs.toArray }/\IntsAre vs ns/\ns.length<=n:=by
 have hsh:WShape.hasAll [] args [.list .int]=true:=(pre_splitW hpre).1;have hc:l.pre.holds [] { args:=args }=true:=(pre_splitW hpre).2;obtain⟨d,r,rfl,h1,h2⟩:=hasAllW_cons hsh;obtain rfl:=hasAllW_nil h2;obtain⟨xs,rfl,h3⟩:=hasW_list h1;obtain⟨ns,rfl⟩:=items_int h3
 have hlen:ns.length<=n:=by
  unfold OpenLaw.pre at hc
  have h4:(WTm.not (.lt (.lit (.int (n:Int))) (.len (.arg 0)))).holds [] { args:=[.list (ns.map .int)] }=true:=by
   have h4:=(holds_andW hc).1;rw[hn]at h4;exact h4
  have h5:=condW_of h4 (w_not (w_lt w_lit (w_len_list (w_arg rfl))));rw[ya4]at h5;refine Nat.le_of_not_lt fun q=>?_
  have q':(n:Int)<((ns.length:Nat):Int):=by omega
  first
   |(rw[decide_eq_true q']at h5;exact absurd h5 (by decide))
   |(simp at h5;omega)
 cases hwl with
 |cons w1 w2 =>
  cases w2;cases w1 with
  |list ho hall=>exact⟨_,_,ns,rfl,rfl,ho,ziu ns _ hall,hlen⟩
theorem post_true(l:OpenLaw)(args:List WData):l.row.toRowW.claim.post args (.bool true) args=true :=
 postW_of (r:=l.row.toRowW) (X:=(true == true))
  (show WShape.has [] (.bool true) .bool=true by first|rfl|decide|simp[WShape.has,WShape.arms,WShape.armsAll])
  (show(WTm.eq .res (.lit (.bool true))).value [] { args:=args,res:=some (.bool true),after:=args }=some (.bool (true == true)) from w_eq_bool (w_res rfl) w_lit) rfl
theorem attach_call{l:OpenLaw}{n:Nat}{q:Program}{loose:List Str}{XP:(Str->Option Value)->Heap->Prop}{YP:World->Heap->Prop}{d:DefRec}
  (hn:l.most=some n) (hdf:d.params.defaults=[])
  (call : ∀ (w : World) (s₀ s₁ : Shared) (mg mb : Str -> Option Value) (fa : Addr) (o : Obj) (pm cd doc : Value) (a : Addr) (vs : List Value) (ns : List Int),
   Ground q loose [] XP w s₀ mg mb s₁.heap->YP w s₁.heap ->
   s₁.heap.get? fa=some o->o.data=.func (docDef d.name d.params d.body d.scope pm cd doc)->s₁.heap.CodeRec cd d.name->mg d.name=some (.ref fa) ->
   s₁.heap.get? a=some { cls:=.type "list",data:=.seq vs.toArray }->IntsAre vs ns->ns.length<=n->s₁.gens=#[] ->
   codeAny (model l.prog w) callerA (.call (.ref fa) ⟨[.ref a],[]⟩) (fun r s'=>r=.ok (.ret (.bool true))/\OldK s₁.heap s'.heap/\s'.os=s₁.os/\AllBare s'.gens) s₁) :
  WalkO q loose XP YP l.row.toRowW d [] (fun f vs=>PySem.call f vs):=by
 intro w s₀ s₁ mg mb G Y fa o pm cd doc dV kV ho hd hcd hD hmg hg args vals as hpre hlay hrd hwl hlo;obtain rfl:dV=.none:=Dflts.none hD hdf;obtain rfl:kV=.none:=Dflts.noKw hD;obtain⟨a,vs,ns,rfl,rfl,hobj,hints,hlen⟩:=script_of hn hpre hwl;refine enter_call (codeAny_mono (call w s₀ s₁ mg mb fa o pm cd doc a vs ns G Y ho (fd_plain hd) hcd hmg hobj hints hlen hg) fun r s' hq=>?_)
 obtain⟨rfl,h2,h3,h4⟩:=hq;exact⟨.inl ⟨.bool true,.bool true,[],rfl,fun _=>rfl,.bool true,post_true l _,fun _=>⟨List.Pairwise.nil,fun _ hm=>(nomatch hm)⟩⟩,h2,h3,h4⟩
section
variable {prog:Program}{w:World}{A:Around}{E:Value->Shared->Prop}{s:Shared}{K:Frag}
end
end Att
namespace L2
open PySem PySem.Spec PyProof.Rows
theorem vals_ints:∀{vs:List Value} {ns:List Int},IntsAre vs ns->zbc (ns.map V.int) vs
 |_,_,.nil=>.nil
 |_,_,.cons n t h=>.cons ⟨t,rfl⟩ (vals_ints h)
def Only(H:Hp):Prop:=∀b,H b=none\/∃o xs,H b=some (.frz o (.lst xs))
theorem law_call{P:Program}{w:World}{K:PySem.W.Frag}{mg mb:Str->Option Value}{CX:CXT}{k:Nat}{fa a:Addr}{fd:FuncData}{x:Str}{sp:Sp}{s₁:Shared}{vs:List Value}{ns:List Int}
  (KX:K.In s₁.heap) (hns:s₁.heap.Ns mainGlobals mg) (hb:s₁.heap.Ns builtinsNs mb) (hbb:∀x:Str,x≠"__name__"->mb x=bootBuiltins x) (hlim:s₁.heap.NoLimit) (hg:s₁.gens=#[])
  (ha:s₁.heap.get? a=some { cls:=.type "list",data:=.seq vs.toArray }) (hi:IntsAre vs ns) (hl:ns.length<=sizeLine) (hr:Room k callerA)
  (F:∀base:Heap,K.In base->base.Ns mainGlobals mg->FnOk P w K mg base CX k fa fd [x] sp) (hbind:∀(s:Shared) (u:Value),BindsTo s fd ⟨[u],[]⟩ [(x,u)])
  (hsp:∀H:Hp,Only H->SqL K H a (ns.map V.int)->sp [.ref a] H (fun v _=>v=.bl true) fun _ _ _=>False)
  (hCX:∀H e s',CX [] H s₁ (fun _ _ _=>False) e s'->False) :
  codeAny (model P w) callerA (.call (.ref fa) ⟨[.ref a],[]⟩) (fun r s'=>r=.ok (.ret (.bool true))/\OldK s₁.heap s'.heap/\s'.os=s₁.os/\AllBare s'.gens) s₁:=by
 have rv:=vals_ints hi;have lenV:=hi.length
 have core:∀H:Hp,Only H->SqL K H a (ns.map V.int)->HOk P w H s₁.heap->(∀b,H b≠none->b=a)->(H a≠none->K.lookup a=none) ->
   codeAny (model P w) callerA (.call (.ref fa) ⟨[.ref a],[]⟩) (fun r s'=>r=.ok (.ret (.bool true))/\OldK s₁.heap s'.heap/\s'.os=s₁.os/\AllBare s'.gens) s₁:=by
  intro H hO hS hok hA hK;have base_of:∀{b:Addr} {o:Obj},s₁.heap.get? b=some o->H b=none->(hidT s₁.heap H).get? b=some o:=fun e n=>hidT_get e n
  have noA:∀{b:Addr} {o:Obj} {es:Array DictEntry} {ep:Nat},s₁.heap.get? b=some o->o.data=.dict es ep->H b=none:=fun {b o es ep} e d=>by
   cases q:H b with
   |none=>rfl
   |some u =>
    have e':b=a:=hA b (by rw[q];simp)
    subst e';rw[ha]at e;cases e;have d':Data.seq vs.toArray _=Data.dict es ep:=d;cases d'
  have nsK:∀{b:Addr} {m:Str->Option Value},s₁.heap.Ns b m->(hidT s₁.heap H).Ns b m:=fun {b m} ⟨o,es,ep,e,d,r⟩=>⟨o,es,ep,base_of e (noA e d),d,r⟩
  have hKb:K.In (hidT s₁.heap H):=fun b o e=>base_of (KX b o e) (by
   cases q:H b with
   |none=>rfl
   |some u =>
    have e':b=a:=hA b (by rw[q];simp)
    subst e';rw[hK (by rw[q];simp)]at e;cases e)
  have hM:Mod K mg (hidT s₁.heap H):=⟨hKb,nsK hns,⟨mb,nsK hb,hbb⟩,let ⟨mc,h1,h2⟩:=hlim;⟨mc,nsK h1,h2⟩⟩;have e0:Env0 P w K mg (hidT s₁.heap H) callerA [] s₁ H:=⟨rfl,hM,fun b o e=>of_hidT e,yaw (hidT_size _ _),trivial,fun b hb=>absurd (show b∈([]:List Addr) from hb) (by simp),hok,.of_eq hg⟩
  refine codeAny_mono ((F _ hKb (nsK hns)).run callerA [] s₁ H ⟨[.ref a],[]⟩ [.ref a] [.ref a] _ _ hr e0 (hbind s₁ (.ref a)) (.cons rfl .nil) (hsp H hO hS)) fun r s' h=>?_
  cases r with
  |error e=>exact(hCX H e s' h).elim
  |ok fl =>
   cases fl with
   |next=>exact False.elim h
   |brk=>exact False.elim h
   |cont=>exact False.elim h
   |ret u =>
    obtain⟨v,H',os,bare,un,hok',r',q⟩:=h;have q':v=.bl true:=q;subst q';obtain rfl:u=Value.bool true:=r';refine⟨rfl,OldK.of_keep fun b o e=>?_,os,bare⟩
    cases q:H b with
    |none=>exact un.keep b o e q (by intro z;exact absurd (show b∈([]:List Addr) from z) (by simp)) (by simp)
    |some u =>
     rcases hO b with z|⟨ob,xs,z⟩
     ·rw[q]at z;cases z
     ·have z2:=un.frzs b ob _ z;obtain⟨e1,_⟩:=hok b _ z;obtain⟨e2,_⟩:=hok' b _ z2;rw[e]at e1;cases e1;exact e2
 cases hk:K.lookup a with
 |some o =>
  have e:=KX a o hk;rw[ha]at e;cases e;refine core (fun _=>none) (fun _=>.inl rfl) (.inr ⟨_,vs.toArray,_,hk,rfl,rfl,rfl,by rw[yaf,lenV];exact hl,by simpa using rv⟩) (fun b u z=>by have z':(none:Option HO)=some u:=z;cases z') (fun b z=>absurd rfl z) fun z=>absurd rfl z
 |none =>
  refine core (fun b=>if b=a then some (.frz { cls:=.type "list",data:=.seq vs.toArray } (.lst (ns.map V.int))) else none) (fun b=>?_) (.inl (.inr ⟨{ cls:=.type "list",data:=.seq vs.toArray },if_pos rfl⟩)) (fun b u z=>?_) (fun b z=>?_) fun _=>hk
  ·by_cases hb:b=a
   ·exact .inr ⟨_,_,if_pos hb⟩
   ·exact .inl (if_neg hb)
  ·by_cases hb:b=a
   ·have z':=(if_pos hb).symm.trans z;cases z';subst hb;exact⟨ha,by rw[ya4];exact hl,vs,_,rv,ha⟩
   ·have z':=(if_neg hb).symm.trans z;cases z'
  ·by_cases hb:b=a
   ·exact hb
   ·exact absurd (if_neg hb) z
theorem walk_of{l:PySem.W.OpenLaw}{n k:Nat}{q:Program}{loose:List Str}{XP:(Str->Option Value)->Heap->Prop}{YP:World->Heap->Prop}{d:DefRec}{K:Params->PySem.W.Frag}{CX:World->CXT}{sp:World->Sp}{x:Str}
  (hn:l.most=some n) (hn2:n<=sizeLine) (hdf:d.params.defaults=[]) (hr:Room k callerA)
  (hY:∀(w:World) (h:Heap),YP w h->(K w.params).In h)
  (F : ∀ (w : World) (mg : Str -> Option Value) (fa : Addr) (h : Heap), (K w.params).In h -> h.Ns mainGlobals mg -> mg d.name = some (.ref fa) ->
   ∃fd:FuncData,(∀(s:Shared) (u:Value),BindsTo s fd ⟨[u],[]⟩ [(x,u)]) /\
    ∀base:Heap,(K w.params).In base->base.Ns mainGlobals mg->FnOk l.prog w (K w.params) mg base (CX w) k fa fd [x] (sp w))
  (hsp:∀(w:World) (H:Hp) (a:Addr) (ns:List Int),ns.length<=n->Only H->SqL (K w.params) H a (ns.map V.int)->sp w [.ref a] H (fun v _=>v=.bl true) fun _ _ _=>False)
  (hCX:∀(w:World) (H:Hp) (s:Shared) (e:Value) (s':Shared),CX w [] H s (fun _ _ _=>False) e s'->False) :
  PySem.W.WalkO q loose XP YP l.row.toRowW d [] (fun f vs=>PySem.call f vs):=by
 refine Att.attach_call hn hdf fun w s₀ s₁ mg mb fa o pm cd doc a vs ns G Y ho hd hcd hmg hobj hints hlen hg=>?_
 have KX:=hY w _ Y;obtain⟨fd,hb,hF⟩:=F w mg fa _ KX G.T.g hmg;exact law_call KX G.T.g G.T.b G.T.builtins G.T.nolimit hg hobj hints (yal hlen hn2) hr hF hb (fun H hO hS=>hsp w H a ns hlen hO hS) fun H e s'=>hCX w H s₁ e s'
def zh4(s:Stmt):Arguments:=match s with
 |.FunctionDef _ a _ _ _ _ _ _ _ _=>a
 |_=>{ posonlyargs:=[],args:=[],vararg:=none,kwonlyargs:=[],kw_defaults:=[],kwarg:=none,defaults:=[] }
def zad(s:Stmt):List Stmt:=match s with
 |.FunctionDef _ _ b _ _ _ _ _ _ _=>b
 |_=>[]
def za3(s:Stmt):Scope:=match s with
 |.FunctionDef _ _ _ _ _ _ sc _ _ _=>sc
 |_=>{ kind:=.function,names:=[],isGenerator:=false,isCoroutine:=false }
abbrev CX0:CXT:=fun _ _ _ _ _ _=>False
abbrev E0:XK:=fun _ _ _=>False
theorem pass0{X:Cx}:Passes CX0 X E0:=fun _ _ _ _ _ _ _ h=>h.elim
structure Fun(K:PySem.W.Frag)(x qual:Str)(st:Stmt)(f:Addr)(fd:FuncData):Prop where
 ex:∃(oc:Value) (od:Option Addr) (kV doc pm:Value) (an:Option Addr) (cdv ct:Value) (osl:Array (Option Value)),
  fd=PySem.W.fnOf x qual (zh4 st) (zad st) (za3 st) .none kV doc pm an cdv ct/\K.lookup f=some ⟨oc,od,.func fd,osl⟩/\PySem.W.codeIn K cdv qual=true
 kp:PySem.W.keepIn K (.ref f)=true
section
variable {P:Program}{w:World}{K:PySem.W.Frag}{mg:Str->Option Value}{base:Heap}
theorem Fun.ok{x qual:Str}{st:Stmt}{f:Addr}{fd:FuncData}{N ps:List Str}{k:Nat}{sp:Sp}(F:Fun K x qual st f fd)(S:FnScope N ps (za3 st))(len:∀vs H Q E,sp vs H Q E->vs.length=ps.length)
  (hbody : ∀ (cdv : Value) (A : Around) (outer : List Env) (s : Shared) (H : Hp) (vs : List V) (Q : VK) (E : XK), Room k (A.deeper (envOfC qual (za3 st) s.heap.objs.size f cdv)) -> sp vs H Q E ->
   ∃t,PSs (cxOf CX0 P w K mg base N qual (za3 st) f cdv A outer s H E).nox (zad st) t/\t { nx:=fun _ H'=>Q .non H',rt:=Q } (start N vs) H):FnOk P w K mg base CX0 (k+1) f fd ps sp:=by
 obtain⟨oc,od,kV,doc,pm,an,cdv,ct,osl,rfl,lk,hcd⟩:=F.ex;refine fn_of lk hcd S len fun A outer s H vs Q E hr hsp=>?_
 obtain⟨t,h,q⟩:=hbody cdv A outer s H vs Q E hr hsp;exact⟨t,h.nox,q⟩
theorem Fun.binds{x qual:Str}{st:Stmt}{f:Addr}{fd:FuncData}{ps:List Str}(F:Fun K x qual st f fd)
  (h:∀(kV doc pm:Value) (an:Option Addr) (cdv ct:Value) (us:List Value),us.length=ps.length->bindArgs (PySem.W.fnOf x qual (zh4 st) (zad st) (za3 st) .none kV doc pm an cdv ct) ⟨us,[]⟩=pure (ps.zip us)):zfn K fd ps []:=by
 obtain⟨oc,od,kV,doc,pm,an,cdv,ct,osl,rfl,lk,hcd⟩:=F.ex;exact .all (h kV doc pm an cdv ct)
end
theorem small1000{n:Nat}(h:n<=1000):n<sizeLine:=ycj h (by decide)
section
variable {X:Cx}
theorem pv(i:Nat){x:Str}{pos:Pos}(hN:X.N[i]?=some x:=by rfl)(hv:Vis X.env.scope x:=by first|exact Or.inl rfl|exact Or.inr (Or.inl rfl)|exact Or.inr (Or.inr rfl))(hd:(x == ("__debug__":Str))=false:=by decide)
  (hcd:(x == ("__classdict__":Str))=false:=by decide):PE X (.Name x pos) (tVar i):=zif hN hv hd hcd
end
theorem iteF{A B:Prop}(h:B):if false=true then A else B:=by
 rw[if_neg yb4];exact h
theorem iteT{A B:Prop}(h:A):if true=true then A else B:=by
 rw[if_pos rfl];exact h
def zbh(H H':Hp):Prop:=∀b o,H b=some o->H' b=some o
theorem zbh.refl(H:Hp):zbh H H:=fun _ _ h=>h
theorem zbh.trans{H H1 H2:Hp}(a:zbh H H1)(b:zbh H1 H2):zbh H H2:=fun c o h=>b c o (a c o h)
theorem zbh.free{H H':Hp}(e:zbh H H'){l:Addr}(h:H' l=Option.none):H l=Option.none:=by
 cases q:H l with
 |none=>rfl
 |some o =>
  rw[e l o q]at h;cases h
theorem zbh.seq{K:PySem.W.Frag}{H H':Hp}{a:Addr}{xs:List V}(e:zbh H H')(h:SqL K H a xs):SqL K H' a xs:=by
 rcases h with (h|⟨o,h⟩)|h
 ·exact .inl (.inl (e _ _ h))
 ·exact .inl (.inr ⟨o,e _ _ h⟩)
 ·exact .inr h
section
variable {κ:Type} [DecidableEq κ]
def valV(kvs:List (κ×V))(k:κ):Option V:=(kvs.find? fun kv=>decide (kv.1=k)).map (·.2)
def putK(kvs:List (κ×V))(k:κ)(v:V):List (κ×V) :=
 if (kvs.any fun kv=>decide (kv.1=k))=true then kvs.map (fun kv=>if kv.1=k then (kv.1,v) else kv) else kvs++[(k,v)]
def dropK(kvs:List (κ×V))(k:κ):List (κ×V):=kvs.filter fun kv=>decide (kv.1≠k)
theorem zhu{p:κ×V}{r:List (κ×V)}{k:κ}(e:p.1=k):valV (p::r) k=some p.2:=by simp[valV,yc8,e]
theorem zhv{p:κ×V}{r:List (κ×V)}{k:κ}(e:¬ p.1=k):valV (p::r) k=valV r k:=by simp[valV,yc8,e]
theorem valV_any(k:κ):∀kvs:List (κ×V),(kvs.any fun kv=>decide (kv.1=k))=(valV kvs k).isSome
 |[]=>rfl
 |p::r=>by
  rw[yds]
  by_cases e:p.1=k
  ·simp only[zhu e,decide_eq_true e,yce,Option.isSome_some]
  ·rw[zhv e,decide_eq_false e,ydt];exact valV_any k r
theorem zio(kvs:List (κ×V))(k:κ)(v:V):(putK kvs k v).length<=kvs.length+1:=by
 unfold putK;split
 ·rw[ya4];omega
 ·rw[yag,yaa,ybx];omega
theorem RelO.isSome_eq{o:Option V}{u:Option Value}(r:RelO o u):o.isSome=u.isSome:=by
 cases o with
 |none=>cases u with
  |none=>rfl
  |some _=>exact(show False from r).elim
 |some _=>cases u with
  |none=>exact(show False from r).elim
  |some _=>rfl
theorem RelO.getD{o:Option V}{u:Option Value}{d:V}{d':Value}(r:RelO o u)(rd:RelV d d'):RelV (o.getD d) (u.getD d'):=by
 cases o with
 |none=>cases u with
  |none=>exact rd
  |some _=>exact(show False from r).elim
 |some _=>cases u with
  |none=>exact(show False from r).elim
  |some _=>exact r
theorem KV.val{kvs:List (κ×V)}{vs:List (κ×Value)}(r:KV kvs vs)(k:κ):RelO (valV kvs k) (valueAt vs k):=by
 unfold KV at r
 induction r with
 |nil=>exact True.intro
 |@cons p q ps qs h t ih =>
  obtain⟨h1,h2⟩:=h
  by_cases e:p.1=k
  ·have e':q.1=k:=h1.symm.trans e;have b:valueAt (q::qs) k=some q.2:=by simp[valueAt,yc8,e']
   rw[zhu e,b];exact h2
  ·have e':¬ q.1=k:=fun z=>e (h1.trans z)
   have b:valueAt (q::qs) k=valueAt qs k:=by simp[valueAt,yc8,e']
   rw[zhv e,b];exact ih
theorem KV.any{kvs:List (κ×V)}{vs:List (κ×Value)}(r:KV kvs vs)(k:κ):(kvs.any fun kv=>decide (kv.1=k))=vs.any fun kv=>decide (kv.1=k):=by
 unfold KV at r
 induction r with
 |nil=>rfl
 |cons h t ih=>rw[yds,yds,ih,h.1]
theorem KV.repl{kvs:List (κ×V)}{vs:List (κ×Value)}(r:KV kvs vs)(k:κ){y:V}{u:Value}(ry:RelV y u) :
  KV (kvs.map fun kv=>if kv.1=k then (kv.1,y) else kv) (vs.map fun kv=>if kv.1=k then (kv.1,u) else kv):=by
 unfold KV at r ⊢
 induction r with
 |nil=>exact .nil
 |@cons p q ps qs h t ih =>
  rw[yad,yad];refine .cons ?_ ih;obtain⟨h1,h2⟩:=h
  by_cases e:p.1=k
  ·rw[if_pos e,if_pos (h1.symm.trans e)];exact⟨h1,ry⟩
  ·rw[if_neg e,if_neg (fun z=>e (h1.trans z))];exact⟨h1,h2⟩
theorem KV.put{kvs:List (κ×V)}{vs:List (κ×Value)}(r:KV kvs vs)(k:κ){y:V}{u:Value}(ry:RelV y u):KV (putK kvs k y) (stored vs k u):=by
 unfold putK stored;rw[r.any k]
 by_cases e:(vs.any fun kv=>decide (kv.1=k))=true
 ·rw[if_pos e,if_pos e];exact r.repl k ry
 ·rw[if_neg e,if_neg e];exact Paired.snoc r ⟨rfl,ry⟩
theorem KV.drop{kvs:List (κ×V)}{vs:List (κ×Value)}(r:KV kvs vs)(k:κ):KV (dropK kvs k) (without vs k):=by
 unfold KV at r ⊢;unfold dropK without
 induction r with
 |nil=>exact .nil
 |@cons p q ps qs h t ih =>
  obtain⟨h1,h2⟩:=h;rw[List.filter_cons,List.filter_cons]
  by_cases e:p.1=k
  ·have a:¬ decide (p.1≠k)=true:=by simp[e]
   have b:¬ decide (q.1≠k)=true:=by simp[h1.symm.trans e]
   rw[if_neg a,if_neg b];exact ih
  ·have e':¬ q.1=k:=fun z=>e (h1.trans z)
   have a:decide (p.1≠k)=true:=by simp[e]
   have b:decide (q.1≠k)=true:=by simp[e']
   rw[if_pos a,if_pos b];exact .cons ⟨h1,h2⟩ ih
theorem KV.length{kvs:List (κ×V)}{vs:List (κ×Value)}(r:KV kvs vs):kvs.length=vs.length:=ydr r
end
theorem kV_is{P:Program}{w:World}{k:Key}{u:Value}(r:RelV (kV k) u):(zbj P w).is k u=true:=by
 cases k with
 |inl i=>obtain⟨t,e⟩:=(show ∃t,u=Value.int i t from r);subst e;exact mixKind_int P w i t
 |inr x=>obtain⟨t,e⟩:=(show ∃t,u=Value.str x t from r);subst e;exact mixKind_str P w x t
theorem items_are{P:Program}{w:World}:∀{ks:List Key} {us:List Value},zbc (ks.map kV) us->ItemsAre (zbj P w) ks us
 |[],_,r=>by rw[List.map_nil]at r;cases r;exact .nil
 |k::ks,_,r=>by
  rw[yad]at r;cases r with
  |cons h t=>exact .cons (kV_is h) (items_are t)
abbrev KT(H:Hp):List (List Key×V)->List (List Key×Addr×Value)->Prop:=Paired fun p q=>p.1=q.1/\H q.2.1=some (.tup (p.1.map kV))/\RelV p.2 q.2.2
theorem KT.val{H:Hp}{kvs:List (List Key×V)}{xs:List (List Key×Addr×Value)}(r:KT H kvs xs)(k:List Key):RelO (valV kvs k) ((atKey xs k).map (·.2)):=by
 induction r with
 |nil=>exact True.intro
 |@cons p q ps qs h t ih =>
  obtain⟨h1,_,h2⟩:=h
  by_cases e:p.1=k
  ·have e':q.1=k:=h1.symm.trans e;have b:atKey (q::qs) k=some q.2:=by simp[atKey,yc8,e']
   rw[zhu e,b];exact h2
  ·have e':¬ q.1=k:=fun z=>e (h1.trans z)
   have b:atKey (q::qs) k=atKey qs k:=by simp[atKey,yc8,e']
   rw[zhv e,b];exact ih
theorem KT.repl{H:Hp}{kvs:List (List Key×V)}{xs:List (List Key×Addr×Value)}(r:KT H kvs xs)(k:List Key){y:V}{u:Value}(ry:RelV y u) :
  KT H (kvs.map fun kv=>if kv.1=k then (kv.1,y) else kv) (xs.map (putAt k u)):=by
 induction r with
 |nil=>exact .nil
 |@cons p q ps qs h t ih =>
  rw[yad,yad];refine .cons ?_ ih;obtain⟨h1,h2,h3⟩:=h;unfold putAt
  by_cases e:p.1=k
  ·rw[if_pos e,if_pos (h1.symm.trans e)];exact⟨h1,h2,ry⟩
  ·rw[if_neg e,if_neg (fun z=>e (h1.trans z))];exact⟨h1,h2,h3⟩
theorem KT.put{H:Hp}{kvs:List (List Key×V)}{xs:List (List Key×Addr×Value)}(r:KT H kvs xs)(k:List Key){b:Addr}{y:V}{u:Value}(hb:H b=some (.tup (k.map kV)))(ry:RelV y u) :
  KT H (putK kvs k y) (storedH xs k b u):=by
 have e:(kvs.any fun kv=>decide (kv.1=k))=(atKey xs k).isSome:=by
  rw[valV_any,(r.val k).isSome_eq,Option.isSome_map]
 unfold putK storedH;rw[e]
 by_cases q:(atKey xs k).isSome=true
 ·rw[if_pos q,if_pos q];exact r.repl k ry
 ·rw[if_neg q,if_neg q];exact Paired.snoc r ⟨rfl,hb,ry⟩
theorem KT.keeps{H H':Hp}{kvs:List (List Key×V)}{xs:List (List Key×Addr×Value)}(r:KT H kvs xs)(ht:∀b ys,H b=some (.tup ys)->H' b=some (.tup ys)):KT H' kvs xs :=
 Paired.mapP r fun _ _ z=>⟨z.1,ht _ _ z.2.1,z.2.2⟩
section
variable {P:Program}{w:World}{H:Hp}{h:Heap}{a:Addr}
theorem rd_of{u:HO}(ok:HOk P w H h)(e:Rd H a u):zbt P w H h a u:=e.ok ok
theorem dk_rd{kvs:List (Key×V)}(ok:HOk P w H h)(e:Rd H a (.dK kvs)):kvs.length<=sizeLine/\(a == sysModules)=false/\∃vs,KV kvs vs/\h.DictOf (zbj P w) a vs :=
 show zbt P w H h a (.dK kvs) from rd_of ok e
theorem dk_of{kvs:List (Key×V)}(ok:HOk P w H h)(e:H a=some (.dK kvs)):kvs.length<=sizeLine/\(a == sysModules)=false/\∃vs,KV kvs vs/\h.DictOf (zbj P w) a vs:=dk_rd ok (.inl e)
theorem key_of{ks:List Key}(ok:HOk P w H h)(e:H a=some (.tup (ks.map kV))):(tupleKind (zbj P w)).is h ks a:=by
 obtain⟨_,its,r,o,h1,h2,n,h3⟩:=(show zbt P w H h a (.tup (ks.map kV)) from ok a _ e);exact⟨o,its.toArray,n,h1,h2,h3,by simpa using items_are r⟩
theorem dt_rd{kvs:List (List Key×V)}(ok:HOk P w H h)(e:Rd H a (.dT kvs)):kvs.length<=sizeLine/\(a == sysModules)=false /\
  ∃xs,KT H kvs xs/\h.DictOfH (tupleKind (zbj P w)) a xs:=by
 obtain⟨z,y,xs,r,o,es,ep,h1,h2,h3,h4,h5⟩:=(show zbt P w H h a (.dT kvs) from rd_of ok e);refine⟨z,y,xs,r,o,es,ep,h1,h2,h3,h4,fun x hx=>?_,h5⟩
 have all:∀{l:List (List Key×V)} {m:List (List Key×Addr×Value)},KT H l m->∀x∈m,(tupleKind (zbj P w)).is h x.1 x.2.1:=by
  intro l m q
  induction q with
  |nil=>intro x hx;exact nomatch hx
  |@cons p q ps qs hq t ih =>
   intro x hx
   rcases(ya3.mp hx) with e|hx
   ·subst e;exact key_of ok (by rw[<- hq.1];exact hq.2.1)
   ·exact ih x hx
 exact all r x hx
theorem dt_of{kvs:List (List Key×V)}(ok:HOk P w H h)(e:H a=some (.dT kvs)):kvs.length<=sizeLine/\(a == sysModules)=false /\
  ∃xs,KT H kvs xs/\h.DictOfH (tupleKind (zbj P w)) a xs:=dt_rd ok (.inl e)
end
def DGet(H:Hp)(a:Addr)(y:V)(r:Option V):Prop :=
 (∃kvs k,Rd H a (.dK kvs)/\y=kV k/\r=valV kvs k)\/∃kvs k b,Rd H a (.dT kvs)/\y=.ref b/\H b=some (.tup (k.map kV))/\r=valV kvs k
def DPut(H:Hp)(a:Addr)(y v:V)(H':Hp):Prop :=
 (∃kvs k,H a=some (.dK kvs)/\y=kV k/\kvs.length<sizeLine/\H'=upd H a (.dK (putK kvs k v))) \/
 ∃kvs k b,H a=some (.dT kvs)/\y=.ref b/\H b=some (.tup (k.map kV))/\kvs.length<sizeLine/\H'=upd H a (.dT (putK kvs k v))
theorem DGet.k{H:Hp}{a:Addr}{kvs:List (Key×V)}{k:Key}(e:H a=some (.dK kvs)):DGet H a (kV k) (valV kvs k):=.inl ⟨kvs,k,.inl e,rfl,rfl⟩
theorem DGet.t{H:Hp}{a b:Addr}{kvs:List (List Key×V)}{k:List Key}(e:H a=some (.dT kvs))(eb:H b=some (.tup (k.map kV))):DGet H a (.ref b) (valV kvs k):=.inr ⟨kvs,k,b,.inl e,rfl,eb,rfl⟩
theorem DPut.k{H:Hp}{a:Addr}{kvs:List (Key×V)}{k:Key}{v:V}(e:H a=some (.dK kvs))(hl:kvs.length<sizeLine):DPut H a (kV k) v (upd H a (.dK (putK kvs k v))):=.inl ⟨kvs,k,e,rfl,hl,rfl⟩
theorem DPut.t{H:Hp}{a b:Addr}{kvs:List (List Key×V)}{k:List Key}{v:V}(e:H a=some (.dT kvs))(eb:H b=some (.tup (k.map kV)))(hl:kvs.length<sizeLine) :
  DPut H a (.ref b) v (upd H a (.dT (putK kvs k v))):=.inr ⟨kvs,k,b,e,rfl,eb,hl,rfl⟩
section
variable {X:Cx}{pins:List (Addr×Obj)}{σ:St}{H:Hp}{s:Shared}{a:Addr}{y v:V}{u r:Value}{o:Option V}{A:Around}{E:Value->Shared->Prop}
theorem Inv.big(I:Inv X pins σ H s):sysModules<s.heap.objs.size:=by
 have h:mainGlobals<s.heap.objs.size:=(I.mod.glob.keeps I.bk).lt;exact yb3 (by decide) h
theorem d_getItem{Q:Value->Shared->Prop}(hu:A.units+1<cLine)(I:Inv X pins σ H s)(g:DGet H a y (some v))(ry:RelV y u)(h:∀w' s',Inv X pins σ H s'->RelV v w'->Q w' s') :
  wpAny (model X.prog X.w) A (getItem (.ref a) u) Q E s:=by
 rcases g with ⟨kvs,k,e,ey,l⟩|⟨kvs,k,b,e,ey,eb,l⟩
 ·subst ey;obtain⟨z,hd,vs,rel,dd⟩:=dk_rd I.hok e;obtain⟨w',hw,rw'⟩:=RelO.some_of (v:=v) (o:=valueAt vs k) (by rw[l];exact rel.val k)
  exact wpAny_getItem_of (kV_is ry) dd.mapOf hw (h w' _ (I.tok _) rw')
 ·subst ey;cases (show u=Value.ref b from ry);obtain⟨z,hd,xs,rel,dd⟩:=dt_rd I.hok e;obtain⟨w',hw,rw'⟩:=RelO.some_of (v:=v) (o:=(atKey xs k).map (·.2)) (by rw[l];exact rel.val k)
  obtain⟨p,hp,hp2⟩:=ya0.mp hw;refine wpAny_getItem_heap (tupleKind_room_in1 hu) (key_of I.hok eb) dd hp ?_;rw[hp2];exact h w' _ (I.tok _) rw'
theorem d_write{h':Heap}{t':Nat}{ob:HO}(I:Inv X pins σ H s)(mu:Mut (H a))(hs:Heap.SameBut a s.heap h')(he:∃q,h'.get? a=some q)(new:zbt X.prog X.w (upd H a ob) h' a ob) :
  Inv X pins σ (upd H a ob) { s with heap:=h',toks:=t' } :=
 I.write (x:=a) (e:=a) mu (.inl rfl) (fun b q hb z=>(hs.2 b hb).trans z) he new
theorem dk_new{P:Program}{w:World}{H':Hp}{h':Heap}{kvs:List (Key×V)}{vs:List (Key×Value)}(z:kvs.length<=sizeLine)(hd:(a == sysModules)=false)(rel:KV kvs vs)(dd:h'.DictOf (zbj P w) a vs) :
  zbt P w H' h' a (.dK kvs):=⟨z,hd,vs,rel,dd⟩
theorem d_setItem{H':Hp}{Q:Unit->Shared->Prop}(hu:A.units+1<cLine)(I:Inv X pins σ H s)(g:DPut H a y v H')(ry:RelV y u)(rv:RelV v r)(h:∀s',Inv X pins σ H' s'->Q () s') :
  wpAny (model X.prog X.w) A (setItem (.ref a) u r) Q E s:=by
 rcases g with ⟨kvs,k,e,ey,l,eH⟩|⟨kvs,k,b,e,ey,eb,l,eH⟩
 ·subst ey eH;obtain⟨z,hd,vs,rel,dd⟩:=dk_of I.hok e;have hz:vs.length<=sizeLine:=by rw[<- rel.length];exact z
  have hl:(putK kvs k v).length<=sizeLine:=by have:=zio kvs k v;omega
  refine wpAny_setItem_pairs (hsz:=hz) (kV_is ry) dd fun h' dd' hs=>h _ ?_
  have he:∃q,h'.get? a=some q:=let ⟨q,_,_,hq,_⟩:=dd';⟨q,hq⟩;exact d_write I (by rw[e];exact True.intro) hs he (dk_new hl hd (rel.put k rv) dd')
 ·subst ey eH;cases (show u=Value.ref b from ry);obtain⟨z,hd,xs,rel,dd⟩:=dt_of I.hok e;have hz:xs.length<=sizeLine:=by rw[<- ydr rel];exact z
  have hl:(putK kvs k v).length<=sizeLine:=by have:=zio kvs k v;omega
  refine wpAny_setItem_heap (hsz:=hz) (tupleKind_room_in1 hu) (key_of I.hok eb) dd fun h' dd' hs=>h _ ?_
  obtain⟨q,es,ep,hq,h2,h3,h4,_,h5⟩:=dd';refine d_write I (by rw[e];exact True.intro) hs ⟨q,hq⟩ ⟨hl,hd,_,(rel.put k eb rv).keeps fun c ys ec=>?_,q,es,ep,hq,h2,h3,h4,h5⟩
  rw[zah (ne_of ec e (fun z=>nomatch z))]
  exact ec
end
section
variable {X:Cx}{pins:List (Addr×Obj)}{σ:St}{H:Hp}{s:Shared}{a:Addr}{kvs:List (Key×V)}{k:Key}{u:Value}{A:Around}{E:Value->Shared->Prop}
end
section
variable {X:Cx}{o i e value:Expr}{pos pos' tpos:Pos}{td ty tv:TE}
end
theorem dk_empty{P:Program}{w:World}{H:Hp}(h:Heap)(hb:sysModules<h.objs.size):zbt P w H (h.push { cls:=.type "dict",data:=.dict #[] }) h.objs.size (.dK []) :=
 ⟨ybb _,beq_eq_false_iff_ne.mpr (yat (yao hb)),[],.nil,Heap.DictOf.new h⟩
section
variable {X:Cx}{pos:Pos}
end
section
variable {X:Cx}{pins:List (Addr×Obj)}{σ:St}{H:Hp}{s:Shared}{a:Addr}{y d:V}{u r:Value}{o:Option V}{A:Around}{E:Value->Shared->Prop}
end
section
variable {X:Cx}{o e f:Expr}{apos cpos:Pos}{td ty tx:TE}
end
section
variable {X:Cx}{pins:List (Addr×Obj)}{σ:St}{H:Hp}{s:Shared}{a:Addr}{kvs:List (Key×V)}{A:Around}{E:Value->Shared->Prop}
end
section
variable {X:Cx}{pins:List (Addr×Obj)}{σ:St}{H:Hp}{s:Shared}{a:Addr}{y:V}{u:Value}{A:Around}{E:Value->Shared->Prop}
end
end L2
namespace Zm
theorem gcd_fmod(a b:Int):Int.gcd b (a.fmod b)=Int.gcd a b:=by
 rw[Int.fmod_def,Int.gcd_comm a b,Int.mul_comm];exact Int.gcd_sub_mul_right_right b a (a.fdiv b)
theorem fmod_less(a:Int){b:Int}(h:b≠0):(a.fmod b).natAbs<b.natAbs:=by
 rcases Int.lt_or_gt_of_ne h with hb|hb
 ·have e:a.fmod b=-((-a).fmod (-b)):=by rw[Int.neg_fmod_neg,Int.neg_neg]
  have h1:=yb6 (-a) (show 0 < -b by omega)
  have h2:=ybj (-a) (show 0 < -b by omega)
  omega
 ·have h1:=yb6 a hb;have h2:=ybj a hb
  omega
def gd(a b:Int):Int:=(Int.gcd a b:Nat)
theorem gd_end{a b a0 b0:Int}(hg:gd a b=gd a0 b0)(hb:b=0):(if a<0 then -a else a)=gd a0 b0:=by
 subst hb;rw[<- hg];unfold gd;rw[Int.gcd_zero_right];split<;>omega
theorem gd_turn{a b a0 b0:Int}(hg:gd a b=gd a0 b0):gd b (a.fmod b)=gd a0 b0:=by
 rw[<- hg];unfold gd;rw[gcd_fmod]
theorem gd_abs(a b:Int):gd (if a<0 then -a else a) (if b<0 then -b else b)=gd a b:=by
 unfold gd
 have e1:Int.gcd (if a<0 then -a else a) (if b<0 then -b else b)=Int.gcd a b:=by
  split<;>split<;>simp[Int.gcd_neg,Int.neg_gcd]
 rw[e1]
theorem gd_pos{a b:Int}(h:b≠0):0<gd a b:=by
 unfold gd;have:=Int.gcd_pos_of_ne_zero_right a h
 omega
theorem gd_le{a b:Int}(h:0<b):gd a b<=b:=by
 unfold gd;exact Int.le_of_dvd h (Int.gcd_dvd_right a b)
def lt(t b:Int):Int:=t.fdiv (gd t b)
def lb(t b:Int):Int:=b.fdiv (gd t b)
theorem zka{x g:Int}(hg:g≠0)(h:g ∣ x):x.fdiv g * g=x:=by
 rw[Int.mul_comm];exact Int.mul_fdiv_cancel' h
theorem lt_mul{t b:Int}(h:b≠0):lt t b * gd t b=t:=by
 unfold lt;exact zka (by have:=gd_pos (a:=t) h;omega) (Int.gcd_dvd_left t b)
theorem lb_mul{t b:Int}(h:b≠0):lb t b * gd t b=b:=by
 unfold lb;exact zka (by have:=gd_pos (a:=t) h;omega) (Int.gcd_dvd_right t b)
theorem lb_pos{t b:Int}(h:0<b):0<lb t b:=by
 have h1:=lb_mul (t:=t) (show b≠0 by omega)
 have h2:=gd_pos (a:=t) (show b≠0 by omega)
 rcases Int.lt_or_le 0 (lb t b) with q|q
 ·exact q
 ·have:=Int.mul_nonpos_of_nonpos_of_nonneg q (ycd h2)
  omega
theorem gd_low{t b:Int}(h:b≠0):gd (lt t b) (lb t b)=1:=by
 have hp:=gd_pos (a:=t) h;unfold lt lb gd;have hp':0<Int.gcd t b:=by unfold gd at hp;omega
 have e:=Int.gcd_ediv_gcd_ediv_gcd hp';rw[ych _ (ybw _),ych _ (ybw _),e]
 rfl
theorem sum_le{n m t b u c:Int}(hb:0<b)(hc:0<c)(h1:t<=n * b)(h2:u<=m * c):t * c+u * b<=(n+m) * (b * c):=by
 have e1:=ydd h1 (ycd hc);have e2:=ydd h2 (ycd hb)
 have e3:(n+m) * (b * c)=n * b * c+m * c * b:=by
  rw[Int.add_mul,Int.mul_assoc,Int.mul_assoc,Int.mul_comm c b]
 omega
end Zm
namespace Zw
open PySem PySem.Spec PyProof.Rows L2
def Sm(i:Int):Prop:=-(10 ^ 70)<i/\i<10 ^ 70
theorem Sm.nat{i:Int}(h:Sm i):i.natAbs<10 ^ 70:=by
 unfold Sm at h
 omega
theorem pow300:10 ^ 70<=2 ^ 300:=by decide +kernel
theorem Sm.log{i:Int}(h:Sm i):i.natAbs.log2<300:=by
 by_cases z:i.natAbs=0
 ·rw[z]
  decide
 ·exact(Nat.log2_lt z).mpr (yah h.nat pow300)
theorem Sm.bits{i:Int}(h:Sm i):Builtin.Int.intBits i<=2 ^ 20:=by
 have q:=h.log;have e20:(2:Nat) ^ 20=1048576:=by decide
 unfold Builtin.Int.intBits;split<;>omega
theorem Sm.of{i:Int}(h1:-(10 ^ 70)<i)(h2:i<10 ^ 70):Sm i:=⟨h1,h2⟩
theorem Sm.abs{i:Int}{m:Nat}(h:i.natAbs<=m)(hm:m<10 ^ 70):Sm i:=by
 constructor<;>omega
section
variable {X:Cx}
theorem op_mulS:OpR X (binaryOp .Mult) (rI (fun i j=>Sm i/\Sm j) fun i j=>.int (i * j)):=opI fun _ _ _ _ _ _ _ hc q=>mul_int q (.of_bits hc.1.bits hc.2.bits)
theorem op_fdivL:OpR X (binaryOp .FloorDiv) (rI (fun _ j=>j≠0/\Sm j) fun i j=>.int (i.fdiv j)) :=
 opI fun _ _ _ _ _ _ _ hc q=>floordiv_int hc.1 q (.inl (PyProof.noPylong_of_log2 (yb3 hc.2.log (by decide))))
theorem isB_val{x:V}{v:Value}{b:Bool}(r:RelV x v):PySem.plainIs v (.bool b)=true/\(v == Value.bool b)=decide (x=V.bl b):=by
 cases x with
 |non=>cases r;exact⟨rfl,by simp⟩
 |bl c=>cases r;exact⟨rfl,by cases c<;>cases b<;>simp⟩
 |int i=>obtain⟨t,rfl⟩:=r;exact⟨rfl,by simp⟩
 |str i=>obtain⟨t,rfl⟩:=r;exact⟨rfl,by simp⟩
 |byt i=>obtain⟨t,rfl⟩:=r;exact⟨rfl,by simp⟩
 |flt i=>obtain⟨t,rfl⟩:=r;exact⟨rfl,by simp⟩
 |ref i=>cases r;exact⟨rfl,by simp⟩
 |ty i=>cases r;exact⟨rfl,by simp⟩
theorem op_isB:OpR X (compareOp .Is) (fun x y H Q=>∃b,y=.bl b/\Q (.bl (decide (x=.bl b))) H):=by
 intro pins s σ H x y v u Q I rx ry h;obtain⟨b,rfl,q⟩:=h;cases ry;obtain⟨e1,e2⟩:=isB_val (b:=b) rx;exact wpAny_is_plain e1 (fin_bl I q e2.symm)
theorem op_notB:OpR X (compareOp .IsNot) (fun x y H Q=>∃b,y=.bl b/\Q (.bl (!decide (x=.bl b))) H):=by
 intro pins s σ H x y v u Q I rx ry h;obtain⟨b,rfl,q⟩:=h;cases ry;obtain⟨e1,e2⟩:=isB_val (b:=b) rx;exact wpAny_isNot_plain e1 (fin_bl I q (by rw[e2]))
theorem call_isT{c:String}:zc0 X (.builtin "isinstance") (fun xs H Q=>∃x t b,xs=[x,.ty c]/\TyOf X.K H x t/\PySem.W.kitOne X.K t (.type c)=some b/\Q (.bl b) H):=by
 intro pins s σ H xs us Q I r h;obtain⟨x,t,b,rfl,ty,e,q⟩:=h;obtain⟨u,w',rfl,rx,ry⟩:=vals2 r;cases ry;exact isinst_ok I rx ty e fun tk=>⟨.bl b,H,I.tok _,rfl,q⟩
end
section
variable {X:Cx}
end
section
variable {X:Cx}{pos:Pos}
end
section
variable {X:Cx}
end
theorem kitMeta_int:PySem.W.kitMeta "int"=true:=by decide +kernel
theorem kitMeta_bool:PySem.W.kitMeta "bool"=true:=by decide +kernel
theorem kitMeta_tuple:PySem.W.kitMeta "tuple"=true:=by decide +kernel
theorem kit_same(K:PySem.W.Frag)(c:String):PySem.W.kitOne K (.type c) (.type c)=some true:=by
 unfold PySem.W.kitOne;rw[if_pos (by simp)]
theorem kit_ne(K:PySem.W.Frag){t c:String}{l:List Value}{b:Bool}(h:t≠c)(hm:PySem.W.kitMeta c=true)(hl:(fastBuiltinMro t).map (·.contains (Value.type c))=some b):PySem.W.kitOne K (.type t) (.type c)=some b:=by
 unfold PySem.W.kitOne;rw[if_neg (by simpa using h)]
 unfold PySem.W.kitCls;show(if PySem.W.kitMeta c=true then PySem.W.subIn K (.type t) (.type c) else none)=some b
 rw[if_pos hm];exact hl
inductive Known(H:Hp):V->Prop where
 |non:Known H .non
 |bl (b:Bool):Known H (.bl b)
 |int (i:Int):Known H (.int i)
 |str (x:Str):Known H (.str x)
 |lst {p:Addr} {xs:List V} (e:H p=some (.lst xs)):Known H (.ref p)
 |tup {p:Addr} {xs:List V} (e:H p=some (.tup xs)):Known H (.ref p)
 |dic {p:Addr} {kvs:List (Key×V)} (e:H p=some (.dK kvs)):Known H (.ref p)
theorem Known.same{H H':Hp}{x:V}(h:Known H x)(s:zbh H H'):Known H' x:=by
 cases h with
 |non=>exact .non
 |bl b=>exact .bl b
 |int i=>exact .int i
 |str y=>exact .str y
 |lst e=>exact .lst (s _ _ e)
 |tup e=>exact .tup (s _ _ e)
 |dic e=>exact .dic (s _ _ e)
set_option genInjectivity false in
structure FunD(K:PySem.W.Frag)(x qual:Str)(st:Stmt)(f:Addr)(fd:FuncData):Prop where
 ex:∃(oc:Value) (od:Option Addr) (dV kV doc pm:Value) (an:Option Addr) (cdv ct:Value) (osl:Array (Option Value)),
  fd=PySem.W.fnOf x qual (zh4 st) (zad st) (za3 st) dV kV doc pm an cdv ct/\K.lookup f=some ⟨oc,od,.func fd,osl⟩/\PySem.W.codeIn K cdv qual=true
 kp:PySem.W.keepIn K (.ref f)=true
theorem FunD.ok{P:Program}{w:World}{K:PySem.W.Frag}{mg:Str->Option Value}{base:Heap}{x qual:Str}{st:Stmt}{f:Addr}{fd:FuncData}{N ps:List Str}{k:Nat}{sp:Sp}(F:FunD K x qual st f fd)(S:FnScope N ps (za3 st))(len:∀vs H Q E,sp vs H Q E->vs.length=ps.length)
  (hbody : ∀ (cdv : Value) (A : Around) (outer : List Env) (s : Shared) (H : Hp) (vs : List V) (Q : VK) (E : XK), Room k (A.deeper (envOfC qual (za3 st) s.heap.objs.size f cdv)) -> sp vs H Q E ->
   ∃t,PSs (cxOf CX0 P w K mg base N qual (za3 st) f cdv A outer s H E).nox (zad st) t/\t { nx:=fun _ H'=>Q .non H',rt:=Q } (start N vs) H):FnOk P w K mg base CX0 (k+1) f fd ps sp:=by
 obtain⟨oc,od,dV,kV,doc,pm,an,cdv,ct,osl,rfl,lk,hcd⟩:=F.ex;refine fn_of lk hcd S len fun A outer s H vs Q E hr hsp=>?_
 obtain⟨t,h,q⟩:=hbody cdv A outer s H vs Q E hr hsp;exact⟨t,h.nox,q⟩
theorem zam{K:PySem.W.Frag}{x qual:Str}{st:Stmt}{f:Addr}{oc:Value}{od an:Option Addr}{osl:Array (Option Value)}{dV kV doc pm cdv ct:Value}(l:K.lookup f=some ⟨oc,od,.func (PySem.W.fnOf x qual (zh4 st) (zad st) (za3 st) dV kV doc pm an cdv ct),osl⟩)
  (c:PySem.W.codeIn K cdv qual=true) (k:PySem.W.keepIn K (.ref f)=true):FunD K x qual st f (PySem.W.fnOf x qual (zh4 st) (zad st) (za3 st) dV kV doc pm an cdv ct):=⟨⟨oc,od,dV,kV,doc,pm,an,cdv,ct,osl,rfl,l,c⟩,k⟩
set_option genInjectivity false in
structure Tx(K:PySem.W.Frag)(mg:Str->Option Value)(x:Str)(st:Stmt)(ps:List Str) where
 f:Addr
 fd:FuncData
 F:FunD K x x st f fd
 m:mg x=some (.ref f)
 b:zfn K fd ps []
structure Def(P:Program)(w:World)(K:PySem.W.Frag)(mg:Str->Option Value)(base:Heap)(k:Nat)(x:Str)(ps:List Str)(sp:Sp) where
 f:Addr
 fd:FuncData
 ok:FnOk P w K mg base CX0 k f fd ps sp
 m:mg x=some (.ref f)
 kp:PySem.W.keepIn K (.ref f)=true
 b:zfn K fd ps []
section
variable {X:Cx}{k j:Nat}{x:Str}{ps:List Str}{sp:Sp}{p pos:Pos}{e:Expr}{es:List Expr}{t:TA}
theorem pd(D:Def X.prog X.w X.K X.mg X.base k x ps sp)(hr:Room j X.A)(ha:PA X (e::es) t)(hk:k<=j:=by decide)(hg:Gl X x:=by rfl)(hdb:(x == ("__debug__":Str))=false:=by decide)
  (he:starEach (e::es) X.env=(false,eval e X.env)::starEach es X.env:=by rfl) (hpl:(backTo pos (starEach es X.env)).any (·.1)=false:=by rfl) :
  PE X (.Call (.Name x p) (e::es) [] pos) (tCall sp [] E0 t):=pe_call D.ok (hr.mono hk) hg D.m D.kp D.b .nil pass0 ha hdb he hpl
end
theorem zhz{H:Hp}{p:Addr}(h:H p=none)(o:HO):zbh H (upd H p o):=fun b u q=>by
 rw[zah (zag q h)];exact q
def Fra(H:Hp)(p:Addr)(a b:Int):Prop:=H p=some (.tup [.int a,.int b])
theorem Fra.same{H H':Hp}{p:Addr}{a b:Int}(h:Fra H p a b)(s:zbh H H'):Fra H' p a b:=s _ _ h
theorem Fra.new{H:Hp}{p:Addr}{a b:Int}:Fra (upd H p (.tup [.int a,.int b])) p a b:=zb2
theorem sz{n:Nat}(h:n<=1000:=by exact Nat.le_of_ble_eq_true rfl):n<=sizeLine:=yd7 (small1000 h)
def compCx(X:Cx)(scope:Scope)(cl:List (Str×Addr))(N':List Str)(C:Addr)(s₀:Shared)(H₀:Hp)(ex:List Addr):Cx :=
 { X with N:=N',s₀:=s₀,H₀:=H₀,env:=compEnvC scope cl C X.env,outer:=X.stack,ex:=ex,fn:=fun _=>false,xe:=fun _ _=>False }
theorem HOk.adopt{P:Program}{w:World}{H:Hp}{h:Heap}{a:Addr}{o:HO}(x:HOk P w H h)(hn:H a=none)(new:zbt P w (upd H a o) h a o):HOk P w (upd H a o) h:=fun b u e=>by
 by_cases hb:b=a
 ·subst hb;rw[zb2]at e;cases e;exact new
 ·rw[zah hb]at e;exact(x b u e).stay (fun c v _ q=>q) (fun c q=>by rw[zah (zag q hn)];exact q) fun c xs q=>by rw[zah (zag q hn)];exact q
section
variable {X:Cx}{elt iter tg:Expr}{scope:Scope}{pos:Pos}{cl:List (Str×Addr)}{N':List Str}{wi:TI}{g:TG}{te:TE}
end
end Zw
namespace Zx
open PySem PySem.Spec PyProof.Rows L2 Zw
def FlyX(B:Heap)(l:List Env)(a:Addr)(cls a0:Value)(h:Heap):Prop:=∃fl,B.StaysIn h/\B.get? a=none/\h.FunFrames B l/\h.TracedAtW B a cls a0 fl
theorem flyX{B h:Heap}{l:List Env}{a:Addr}{cls a0:Value}(x:Heap.FlyingW B l a cls a0 h):FlyX B l a cls a0 h:=⟨.none,x⟩
section
variable {M:Model}{A:Around}{E:Value->Shared->Prop}{s:Shared}{B:Heap}{env v:Env}{l:List Env}{L a:Addr}{cls a0:Value}{Q:Unit->Shared->Prop}
theorem noteX(hfr:A.frames=some (v::l))(hv:env.frame=v.frame)(hL:v.frame=some L)(hx:FlyX B (v::l) a cls a0 s.heap)(hQ:∀h',Heap.HeldW B (v::l) a cls a0 L h'->s.heap.UpToSlots h'->Q () { s with heap:=h' }):wpAny M A (noteFrame (.ref a) env) Q E s:=by
 have en:noteFrame (.ref a) env=noteFrame (.ref a) v:=by
  unfold noteFrame PySem.frameOf;rw[hv]
 rw[en];obtain⟨fl,f1,f2,f3,f4⟩:=hx
 by_cases hfl:fl=rawInt L
 ·subst hfl;exact wpAny_noteFrame_againW hL f4 (hQ _ ⟨f1,f2,f3,f4⟩ (.refl _))
 ·obtain⟨oe,ws,Tb,oT,ts,ha,⟨rfl,g0⟩,hd,g1,nT,Tne,hT,dT,g3⟩:=f4;have g3s:=(ybz.mp g3).1;have oth:∀b,b≠Tb->(s.heap.update Tb (Obj.mapFields (·.setIfInBounds 3 Value.none))).get? b=s.heap.get? b:=fun b hb=>ybt _ _ (yat hb)
  have nr:∀b o,s.heap.get? b=some o->(∀us,o.data≠.fields us)->b≠Tb:=fun b o hb hn z=>by
   rw[z,hT]at hb;cases hb;exact hn ts dT
  unfold noteFrame;simp only[hL];refine wpAny_bind (wpAny_field ha hd g1 ?_);rw[if_pos (by simp)]
  refine wpAny_bind (wpAny_field hT dT g3 ?_);rw[if_neg (fun z=>hfl (beq_iff_eq.mp z))]
  refine wpAny_bind (wpAny_setField hT dT g3s ?_);refine wpAny_entryW hfr (f3.of_keeps fun b o hb hn=>⟨o,(oth b (nr b o hb hn)).trans hb,rfl⟩) hL ((oth a (yat Tne)).trans ha) (fun b o hb=>(oth b fun z=>by rw[z,nT]at hb;cases hb).trans (f1 b o hb)) f2 hd (ybz.mp g1).1 g0 fun h' k=>?_
  obtain⟨k1,k2,k3,k4⟩:=k;exact hQ h' ⟨k1,f2,k2,k3⟩ fun b o hb hn=>k4 b o ((oth b (nr b o hb hn)).trans hb) hn
theorem leavX(hfr:A.frames=some (v::l))(hL:v.frame=some L)(hx:FlyX B (v::l) a cls a0 s.heap)(hQ:∀h',Heap.FlyingW B l a cls a0 h'->s.heap.UpToSlots h'->Q () { s with heap:=h' }):wpAny M A (leaving v (.ref a)) Q E s:=by
 unfold leaving;refine wpAny_bind (noteX hfr rfl hL hx fun h1 hh sm1=>wpAny_landsW hh fun h2 hf sm2=>?_)
 obtain⟨k1,k2,⟨_,_,k3⟩,k4⟩:=hf;exact hQ h2 ⟨k1,k2,k3,k4⟩ (sm1.trans sm2)
end
def CX1(P:Program)(w:World):CXT:=fun outer H s E e s'=>∃(a:Addr) (cls:Value) (H':Hp) (B:Heap) (a0:Value),
 e=.ref a/\s'.os=s.os/\AllBare s'.gens/\Un (frs outer) [] H H' s.heap s'.heap/\HOk P w H' B/\(∀b o,s.heap.get? b=some o->H b=none->b∉frs outer->B.get? b=some o) /\
 (∀b o,s.heap.get? b=some o->b∉frs outer->∃o',B.get? b=some o')/\FlyX B outer a cls a0 s'.heap/\E cls none H'
theorem there_of{P:Program}{w:World}{H:Hp}{h:Heap}{a:Addr}{o:HO}(x:zbt P w H h a o):∃ob,h.get? a=some ob:=by
 cases o with
 |lst xs=>obtain⟨_,_,_,_,e⟩:=x;exact⟨_,e⟩
 |tup xs=>obtain⟨_,_,_,o',e,_⟩:=x;exact⟨o',e⟩
 |dK kvs=>obtain⟨_,_,_,_,o',_,_,e,_⟩:=x;exact⟨o',e⟩
 |dT kvs=>obtain⟨_,_,_,_,o',_,_,e,_⟩:=x;exact⟨o',e⟩
 |set S n=>obtain⟨o',_,_,_,e,_⟩:=x;exact⟨o',e⟩
 |ins C dx fs=>obtain⟨_,_,_,e,_⟩:=x;exact⟨_,e⟩
 |own y=>exact x
 |xd fs=>obtain⟨_,⟨o',_,_,e,_⟩,_⟩:=x;exact⟨o',e⟩
 |rng lo hi=>obtain⟨_,_,_,e⟩:=x;exact⟨_,e⟩
 |frz ob u=>obtain⟨e,_⟩:=x;exact⟨_,e⟩
 |tbl ps=>exact⟨_,(show h.get? a=some _ from x)⟩
 |met f y=>exact⟨_,(show h.get? a=some _ from x)⟩
 |ext φ=>obtain⟨_,e,_⟩:=x;exact e
theorem none_of{P:Program}{w:World}{H:Hp}{h:Heap}{a:Addr}(x:HOk P w H h)(e:h.get? a=none):H a=none:=by
 cases q:H a with
 |none=>rfl
 |some u =>
  obtain⟨ob,z⟩:=there_of (x a u q);rw[e]at z;cases z
def zbn(X:Cx)(E:L2.St->XK):Prop:=∀(pins:List (Addr×Obj)) (σ:L2.St) (H:Hp) (s:Shared) (e:Value) (s':Shared),Inv X pins σ H s->CX1 X.prog X.w X.stack H s (E σ) e s'->X.xe e s'
def MadeS(X:Cx)(E:L2.St->XK):Prop:=∀(pins:List (Addr×Obj)) (σ:L2.St) (H:Hp) (s:Shared) (a:Addr) (cls:Value) (vs:List Value) (h':Heap),Inv X pins σ H s->Heap.MadeExcOf s.heap h' a cls vs->E σ cls none H->X.xe (.ref a) { s with heap:=h' }
section
variable {X:Cx}{pins:List (Addr×Obj)}{σ:L2.St}{H:Hp}{s:Shared}
theorem noframe(I:Inv X pins σ H s){b:Addr}{o:Obj}(e:X.s₀.heap.get? b=some o)(hb:b∉frs X.outer):b∉frs X.stack:=fun z=>by
 rcases ya3.mp (I.stkSub b z) with q|q
 ·exact absurd (yah (yac e) I.ok.above) (by rw[q];exact yau _)
 ·exact hb q
theorem stack_sub(hst:X.stack=X.env::X.outer){b:Addr}(hb:b∈frs X.outer):b∈frs X.stack:=by
 rw[hst];obtain⟨v,h1,h2⟩:=ybv.mp hb;exact ybv.mpr ⟨v,ya5 _ h1,h2⟩
theorem hid_ok(I:Inv X pins σ H s):HOk X.prog X.w H (PySem.W.hideAll s.heap (frs X.stack)):=fun b u e=>(I.hok b u e).stay (fun c v hc q=>ybq _ q fun z=>by
  have f:=I.stkFree c z
  rcases hc with y|y
  ·rw[y,e]at f;cases f
  ·rw[y]at f;cases f) (fun _ q=>q) fun _ _ q=>q
theorem made_ok(hst:X.stack=X.env::X.outer)(hf:X.env.frame=some X.env.locals)(hex:X.ex=[]){E:XK}{a:Addr}{cls:Value}{vs:List Value}{h':Heap}{Ex:Value->Shared->Prop}(I:Inv X pins σ H s)(hx:Heap.MadeExcOf s.heap h' a cls vs)(he:E cls none H) :
  wpAny (model X.prog X.w) X.A (leaving X.env (.ref a)) (fun _ s2=>CX1 X.prog X.w X.outer X.H₀ X.s₀ E (.ref a) s2) Ex { s with heap:=h' }:=by
 have nex:∀b:Addr,b∉X.ex:=fun b z=>by rw[hex]at z;cases z
 have hfr:X.A.frames=some (X.env::X.outer):=hst▸I.ok.frames
 have FF:s.heap.FunFrames (PySem.W.hideAll s.heap (frs X.stack)) (X.env::X.outer):=by
  rw[<- hst];exact PySem.W.funFrames_hide I.stack fun v hv b hb=>ybv.mpr ⟨v,hv,hb⟩
 refine wpAny_leaves_madeW (base:=PySem.W.hideAll s.heap (frs X.stack)) (h:=s.heap) (args:=vs) hfr hf (fun b o q=>yc7 _ q) FF hx fun h2 t fl _ _ sm=>?_
 have kB:∀b o,X.s₀.heap.get? b=some o->X.H₀ b=none->b∉frs X.outer->(PySem.W.hideAll s.heap (frs X.stack)).get? b=some o:=fun b o e n hb=>ybq _ (I.base.keep b o e n hb (nex b)) (noframe I e hb)
 have tB:∀b o,X.s₀.heap.get? b=some o->b∉frs X.outer->∃o',(PySem.W.hideAll s.heap (frs X.stack)).get? b=some o':=fun b o e hb=>by
  obtain⟨o',e'⟩:=I.base.there b o e (nex b);exact⟨o',ybq _ e' (noframe I e hb)⟩
 have sl:∀b o,X.s₀.heap.get? b=some o->X.H₀ b=none->b∈frs X.outer->∃z,h2.get? b=some { o with slots:=z }:=fun b o e n hb=>by
  obtain⟨z,e1⟩:=I.base.slot b o e n hb (nex b);obtain⟨_,o2,ho2,hd⟩:=I.funs.mem hb;rw[e1]at ho2;cases ho2;obtain⟨z3,e3⟩:=sm b { o with slots:=z } (hx.keeps b _ e1) hd
  exact⟨z3,e3⟩
 refine⟨a,cls,H,_,_,rfl,I.os,I.bare,⟨fun b o e n hb _=>fl.1 b o (kB b o e n hb),fun b o e n hb _=>sl b o e n hb,fun b o e n _=>I.base.free b o e n (nex b),fun b o e _=>?_,I.base.tups,I.base.frzs,I.base.tbls⟩,hid_ok I,kB,tB,flyX fl,he⟩
 by_cases hb:b∈frs X.outer
 ·obtain⟨z,q⟩:=sl b o e (I.ok.frf b hb) hb;exact⟨_,q⟩
 ·obtain⟨o',q⟩:=tB b o e hb;exact⟨o',fl.1 b o' q⟩
theorem pass_ok(hst:X.stack=X.env::X.outer)(hf:X.env.frame=some X.env.locals)(hex:X.ex=[]){E:XK}{e:Value}{s':Shared}{Ex:Value->Shared->Prop}(I:Inv X pins σ H s)(h:CX1 X.prog X.w X.stack H s E e s') :
  wpAny (model X.prog X.w) X.A (leaving X.env e) (fun _ s2=>CX1 X.prog X.w X.outer X.H₀ X.s₀ E e s2) Ex s':=by
 obtain⟨a,cls,H',B,a0,rfl,os,bare,un,hok,kB0,tB0,fl0,he⟩:=h;have nex:∀b:Addr,b∉X.ex:=fun b z=>by rw[hex]at z;cases z
 have hfr:X.A.frames=some (X.env::X.outer):=hst▸I.ok.frames;have fl1:FlyX B (X.env::X.outer) a cls a0 s'.heap:=hst▸fl0;refine leavX hfr hf fl1 fun h2 fl sm=>?_
 have kB:∀b o,X.s₀.heap.get? b=some o->X.H₀ b=none->b∉frs X.outer->B.get? b=some o:=fun b o e n hb=>kB0 b o (I.base.keep b o e n hb (nex b)) (I.base.free b o e n (nex b)) (noframe I e hb)
 have tB:∀b o,X.s₀.heap.get? b=some o->b∉frs X.outer->∃o',B.get? b=some o':=fun b o e hb=>by
  obtain⟨o',e'⟩:=I.base.there b o e (nex b);exact tB0 b o' e' (noframe I e hb)
 have sl:∀b o,X.s₀.heap.get? b=some o->X.H₀ b=none->b∈frs X.outer->∃z,h2.get? b=some { o with slots:=z }:=fun b o e n hb=>by
  obtain⟨z,e1⟩:=I.base.slot b o e n hb (nex b);obtain⟨_,o2,ho2,hd⟩:=I.funs.mem hb;rw[e1]at ho2;cases ho2;obtain⟨z2,e2⟩:=un.slot b { o with slots:=z } e1 (I.base.free b o e n (nex b)) (stack_sub hst hb) (by simp)
  obtain⟨z3,e3⟩:=sm b { o with slots:=z2 } e2 hd
  exact⟨z3,e3⟩
 refine⟨a,cls,H',B,a0,rfl,os.trans I.os,bare,⟨fun b o e n hb _=>fl.1 b o (kB b o e n hb),fun b o e n hb _=>sl b o e n hb,fun b o e n _=>?_,fun b o e _=>?_,fun b xs e=>un.tups b xs (I.base.tups b xs e),fun b o u e=>un.frzs b o u (I.base.frzs b o u e),fun b ps e=>?_⟩,hok,kB,tB,flyX fl,he⟩
 ·obtain⟨o',e'⟩:=I.base.there b o e (nex b);exact un.free b o' e' (I.base.free b o e n (nex b)) (by simp)
 ·by_cases hb:b∈frs X.outer
  ·obtain⟨z,q⟩:=sl b o e (I.ok.frf b hb) hb;exact⟨_,q⟩
  ·obtain⟨o',q⟩:=tB b o e hb;exact⟨o',fl.1 b o' q⟩
 ·obtain⟨m1,e1⟩:=I.base.tbls b ps e;obtain⟨m2,e2⟩:=un.tbls b _ e1;exact⟨m1++m2,e2.trans (by rw[ydo])⟩
end
section
variable {P:Program}{w:World}{K:PySem.W.Frag}{mg:Str->Option Value}{base:Heap}
theorem passD{N:List Str}{qual:Str}{sc:Scope}{f:Addr}{cd:Value}{A:Around}{outer:List Env}{s:Shared}{H:Hp}{E:XK}:zbn (cxOf (CX1 P w) P w K mg base N qual sc f cd A outer s H E) (fun _=>E) :=
 fun _ _ _ _ _ _ I h=>pass_ok rfl rfl rfl I h
theorem madeD{N:List Str}{qual:Str}{sc:Scope}{f:Addr}{cd:Value}{A:Around}{outer:List Env}{s:Shared}{H:Hp}{E:XK}:MadeS (cxOf (CX1 P w) P w K mg base N qual sc f cd A outer s H E) (fun _=>E) :=
 fun _ _ _ _ _ _ _ _ I hx he=>made_ok rfl rfl rfl I hx he
theorem okX{x qual:Str}{st:Stmt}{f:Addr}{fd:FuncData}{N ps:List Str}{k:Nat}{sp:Sp}(F:FunD K x qual st f fd)(S:FnScope N ps (za3 st))(len:∀vs H Q E,sp vs H Q E->vs.length=ps.length)
  (hbody : ∀ (cdv : Value) (A : Around) (outer : List Env) (s : Shared) (H : Hp) (vs : List V) (Q : VK) (E : XK), Room k (A.deeper (envOfC qual (za3 st) s.heap.objs.size f cdv)) -> sp vs H Q E ->
   ∃t,PSs (cxOf (CX1 P w) P w K mg base N qual (za3 st) f cdv A outer s H E) (zad st) t/\t { nx:=fun _ H'=>Q .non H',rt:=Q } (start N vs) H):FnOk P w K mg base (CX1 P w) (k+1) f fd ps sp:=by
 obtain⟨oc,od,dV,kV,doc,pm,an,cdv,ct,osl,rfl,lk,hcd⟩:=F.ex;exact fn_of lk hcd S len fun A outer s H vs Q E hr hsp=>hbody cdv A outer s H vs Q E hr hsp
end
set_option genInjectivity false in
structure DefX(P:Program)(w:World)(K:PySem.W.Frag)(mg:Str->Option Value)(base:Heap)(k:Nat)(x:Str)(ps:List Str)(sp:Sp) where
 f:Addr
 fd:FuncData
 ok:FnOk P w K mg base (CX1 P w) k f fd ps sp
 m:mg x=some (.ref f)
 kp:PySem.W.keepIn K (.ref f)=true
 b:zfn K fd ps []
section
variable {X:Cx}{k j:Nat}{f:Addr}{fd:FuncData}{x:Str}{ps:List Str}{sp:Sp}{p pos:Pos}{e:Expr}{es:List Expr}{t:TA}{E:L2.St->XK}{dvs:List V}
theorem run_fnX{pins:List (Addr×Obj)}{σ:L2.St}{H:Hp}{s:Shared}{Q:VK}{us ds:List Value}{vs:List V}(F:FnOk X.prog X.w X.K X.mg X.base (CX1 X.prog X.w) k f fd ps sp)(hr:Room k X.A)(hb:zfn X.K fd ps ds)(hd:zbc dvs ds)(hx:zbn X E)
  (I:Inv X pins σ H s) (r:zbc vs us) (h:sp (vs++dvs) H Q (E σ)):wpAny (model X.prog X.w) X.A (call (.ref f) us) (EP X pins σ Q) X.xe s:=by
 have r2:zbc (vs++dvs) (us++ds):=r.append hd;have hl:(us++ds).length=ps.length:=r2.length.symm.trans (F.len _ _ _ _ h);refine wpAny_call (codeAny_mono (F.run X.A X.stack s H ⟨us,[]⟩ (us++ds) (vs++dvs) Q (E σ) hr I.env0 (hb s us I.kIn hl) r2 h) fun r s' hq=>?_)
 cases r with
 |error v=>exact hx pins σ H s v s' I hq
 |ok fl =>
  cases fl with
  |ret u=>exact I.after hq
  |_=>exact False.elim hq
def tCallX(sp:Sp)(dvs:List V)(E:L2.St->XK)(t:TA):TE:=fun σ H Q=>t σ H fun vs H1=>sp (vs++dvs) H1 Q (E σ)
theorem px(D:DefX X.prog X.w X.K X.mg X.base k x ps sp)(hr:Room j X.A)(hx:zbn X E)(ha:PA X (e::es) t)(hk:k<=j:=by decide)(hg:Gl X x:=by rfl)(hdb:(x == ("__debug__":Str))=false:=by decide)
  (he:starEach (e::es) X.env=(false,eval e X.env)::starEach es X.env:=by rfl) (hpl:(backTo pos (starEach es X.env)).any (·.1)=false:=by rfl):PE X (.Call (.Name x p) (e::es) [] pos) (tCallX sp [] E t):=by
 intro pins s σ H Q I h;refine wpAny_Call_Name_kw (zir I hg D.m ?_ hdb);refine ycl (h₀:=X.base) I.ok.mod.kin D.kp (thn (ha pos pins s σ H _ I h) fun us s1 ⟨vs,H1,I1,r,q⟩=>⟨I1.kIn,?_⟩) he hpl
 exact run_fnX D.ok (hr.mono hk) D.b .nil hx I1 r q
end
abbrev vmro:List Value:=[.type "ValueError",.type "Exception",.type "BaseException",.type "object"]
structure ExcK(K:PySem.W.Frag)(C:Addr):Prop where
 q:PySem.W.excIn K C vmro "ValueError.__new__"=true
 self:PySem.W.subIn K (.ref C) (.ref C)=some true
 cd:∃cd,PySem.W.clsIn K C=some cd
 ty:PySem.W.typeIn K (.ref C)=some (.type "type")
 ga:PySem.W.findIn K (.ref C) "__getattribute__"=some (some (.builtin "BaseException.__getattribute__"))
 gt:PySem.W.findIn K (.ref C) "__getattr__"=some none
 ca:PySem.W.findIn K (.ref C) "__class__"=some (some (.builtin "object.__class__"))
 ob:PySem.W.mroIn K C (.type "object")=some true
 be:PySem.W.mroIn K C (.type "BaseException")=some true
 gs:PySem.W.specialIn K (.builtin "object.__class__") "__get__"=some (some (.builtin "getset_descriptor.__get__"))
 tk:PySem.W.takesIn K (.builtin "object.__class__")=some true
structure ECls(K:PySem.W.Frag)(mg:Str->Option Value)(x:Str) where
 C:Addr
 m:mg x=some (.ref C)
 k:ExcK K C
theorem exc_in{K:PySem.W.Frag}{h:Heap}{C:Addr}{bmB:List Value}{newId:String}(X:K.In h)(q:PySem.W.excIn K C bmB newId=true):∃bm N nm qn bs hd sn sub ab col dd k0 k1 k2 k3 k5 mN,
  h.get? C=some (excClassObj nm qn C N bs bm hd sn sub ab col dd k0 k1 k2 k3 k5 newId)/\h.Ns N mN/\mN "__init__"=none/\OwnTail h bmB bm:=by
 unfold PySem.W.excIn at q;split at q
 ·rename_i dd cd sl ho;split at q
  ·rename_i C2 bm k0 k1 k2 k3 nid k5 hm hs;simp only[yb8,ya1,beq_iff_eq]at q;obtain⟨⟨⟨⟨⟨z1,z2⟩,hdel⟩,ht⟩,hok⟩,hni⟩:=q;subst z1;subst z2;obtain⟨nm,bs,mro,nsp,qn,hd,sn,sub,ab,col,dl⟩:=cd;dsimp only at hm hok hni hdel;subst hm;subst hdel
   have hsl:sl=#[k0,k1,k2,k3,some (.builtin nid),k5]:=by
    obtain⟨l⟩:=sl;have hs':l=[k0,k1,k2,k3,some (.builtin nid),k5]:=hs;rw[hs']
   subst hsl;exact⟨bm,nsp,nm,qn,bs,hd,sn,sub,ab,col,dd,k0,k1,k2,k3,k5,_,X _ _ ho,.of_isNs (PySem.W.isNs_of_in X hok),PySem.W.nsMap_none_of_in X hok hni,PySem.W.tail_of_in X ht⟩
  ·exact absurd q yb4
 ·exact absurd q yb4
section
variable {X:Cx}{x:Str}{p cpos pos:Pos}{e:Expr}{es:List Expr}{t:TA}{E:L2.St->XK}
def tRaise(C:Addr)(E:L2.St->XK)(t:TA):TS:=fun _ σ H=>t σ H fun vs H1=>vs.length<=sizeLine/\E σ (.ref C) none H1
theorem ps_raise(T:ECls X.K X.mg x)(hc:X.calm=true)(hx:MadeS X E)(ha:PA X (e::es) t)(hg:Gl X x:=by rfl)(hdb:(x == ("__debug__":Str))=false:=by decide)
  (he:starEach (e::es) X.env=(false,eval e X.env)::starEach es X.env:=by rfl) (hpl:(backTo cpos (starEach (e::es) X.env)).any (·.1)=false:=by rfl) :
  PS X (.Raise (some (.Call (.Name x p) (e::es) [] cpos)) none pos) (tRaise T.C E t):=by
 intro pins s σ H D I h;obtain⟨bm,N,nm,qn,bs,hd,sn,sub,ab,col,dd,k0,k1,k2,k3,k5,mN,hC,hN,hni,TL⟩:=exc_in I.mod.kin T.k.q
 refine wpAny_Raise_call_subT (C:=T.C) (nm:=nm) (q:=qn) (N:=N) (bs:=bs) (bm:=bm) (hdct:=hd) (sn:=sn) (sub:=sub) (ab:=ab) (col:=col) (dd:=dd) (k0:=k0) (k1:=k1) (k2:=k2) (k3:=k3) (k5:=k5) (mN:=mN)
  PySem.F.excBase_ValueError (TL.hasType PySem.F.excBase_ValueError.hasBase) (I.ok.hd hc) hpl hni (zir I hg T.m ⟨rfl,?_⟩ hdb)
 have h2:=ha cpos pins s σ H _ I h;rw[he]at h2 ⊢;exact yda (thn h2 fun us s1 ⟨vs,H1,I1,r,z,q1⟩=>⟨rfl,r.length▸z,I1.bk _ _ hC,hN.keeps I1.bk,TL.keeps I1.bk,fun h' a hm=>hx pins σ H1 s1 a _ us h' I1 hm q1⟩)
end
def ExcO(a C:Addr):HO:=.ext fun h=>∃o,h.get? a=some o/\o.cls=.ref C
section
variable {K:PySem.W.Frag}{a C:Addr}
end
section
variable {X:Cx}
end
section
variable {X:Cx}{pins:List (Addr×Obj)}{σ:L2.St}{H:Hp}{s:Shared}{xe:Value->Shared->Prop}
end
section
variable {A:Around}{E:Value->Shared->Prop}{M:Model}
end
section
variable {X:Cx}{i:Nat}{x n:Str}{np pos hpos:Pos}{body suite:List Stmt}{b₀:Stmt}{tb th:TS}{E:L2.St->XK}
end
end Zx
namespace Pu
open PySem PySem.Spec PyProof.Rows L2 Zw Zx
abbrev Rg:=Addr->Prop
def R0:Rg:=fun _=>False
inductive Kd where
 |lst|rl|tup|rt|pin (p:Addr)
inductive Ob where
 |ins (C:Addr) (fs:List Str)|exn (C:Addr)|sdc (ks:List Str)
inductive T where
 |non|bl (b:Bool)|int (i:Int)|str (x:Str)|nd (o:Bool) (k:Kd) (l:List T)|dic (ks:List Int) (l:List T)|pdc (ks:List Int) (l:List T)|odc (ks:List Int) (l:List T)
 |obj (k:Ob) (l:List T)|oob (p C:Addr) (fs:List Str) (l:List T)|osd (ks:List Str) (l:List T)
abbrev T.lst(l:List T):T:=.nd false .lst l
abbrev T.own(l:List T):T:=.nd true .lst l
abbrev T.tup(l:List T):T:=.nd false .tup l
mutual
def T.share:T->T
 |.nd _ k l=>.nd false k (zb0 l)
 |.dic ks l=>.dic ks (zb0 l)
 |.pdc ks l=>.pdc ks (zb0 l)
 |.odc ks l=>.pdc ks (zb0 l)
 |.obj k l=>.obj k (zb0 l)
 |.oob _ C fs l=>.obj (.ins C fs) (zb0 l)
 |.osd ks l=>.obj (.sdc ks) (zb0 l)
 |.non=>.non
 |.bl b=>.bl b
 |.int i=>.int i
 |.str x=>.str x
def zb0:List T->List T
 |[]=>[]
 |t::r=>t.share::zb0 r
end
mutual
def T.sh:T->Bool
 |.nd o _ l=>!o && shL l
 |.dic _ l=>shL l
 |.pdc _ l=>shL l
 |.odc _ _=>false
 |.obj _ l=>shL l
 |.oob _ _ _ _=>false
 |.osd _ _=>false
 |.non=>true
 |.bl _=>true
 |.int _=>true
 |.str _=>true
def shL:List T->Bool
 |[]=>true
 |t::r=>t.sh && shL r
end
def T.flat:T->Bool
 |.nd _ _ _=>false
 |.dic _ _=>false
 |.pdc _ _=>false
 |.odc _ _=>false
 |.obj _ _=>false
 |.oob _ _ _ _=>false
 |.osd _ _=>false
 |_=>true
theorem zbg:∀l:List T,zb0 l=l.map T.share
 |[]=>rfl
 |t::r=>by rw[zb0,zbg r];rfl
theorem zi8:∀l:List T,shL l=l.all T.sh
 |[]=>rfl
 |t::r=>by rw[shL,zi8 r];rfl
mutual
theorem zea:∀t:T,t.sh=true->t.share=t
 |.nd o k l,h=>by
  rw[T.sh,ya1]at h;have ho:o=false:=by simpa using h.1
  subst ho;rw[T.share,zaf l h.2]
 |.dic ks l,h=>by
  rw[T.sh]at h;rw[T.share,zaf l h]
 |.pdc ks l,h=>by
  rw[T.sh]at h;rw[T.share,zaf l h]
 |.odc ks l,h=>by
  rw[T.sh]at h;cases h
 |.obj k l,h=>by
  rw[T.sh]at h;rw[T.share,zaf l h]
 |.oob p C fs l,h=>by
  rw[T.sh]at h;cases h
 |.osd ks l,h=>by
  rw[T.sh]at h;cases h
 |.non,_=>rfl
 |.bl _,_=>rfl
 |.int _,_=>rfl
 |.str _,_=>rfl
theorem zaf:∀l:List T,shL l=true->zb0 l=l
 |[],_=>rfl
 |t::r,h=>by
  rw[shL,ya1]at h;rw[zb0,zea t h.1,zaf r h.2]
end
theorem shL_get{l:List T}(h:shL l=true){i:Nat}{t:T}(e:l[i]?=some t):t.sh=true:=by
 rw[zi8]at h;exact yaz.mp h _ (ybm e)
def zjx(K:PySem.W.Frag)(F:Hp)(k:Kd)(p:Addr)(xs:List V):Prop:=match k with
 |.lst=>F p=some (.lst xs)
 |.rl=>SqL K F p xs
 |.tup=>F p=some (.tup xs)
 |.rt=>SqT K F p xs
 |.pin _=>F p=some (.lst xs)
theorem zcx{K:PySem.W.Frag}{F F':Hp}{p:Addr}{xs:List V}(s:zbh F F')(h:SqT K F p xs):SqT K F' p xs:=by
 rcases h with (h|⟨o,h⟩)|h
 ·exact .inl (.inl (s _ _ h))
 ·exact .inl (.inr ⟨o,s _ _ h⟩)
 ·exact .inr h
theorem zjx.same{K:PySem.W.Frag}{F F':Hp}{k:Kd}{p:Addr}{xs:List V}(h:zjx K F k p xs)(s:zbh F F'):zjx K F' k p xs:=by
 cases k with
 |lst=>exact s _ _ h
 |rl=>exact s.seq h
 |tup=>exact s _ _ h
 |rt=>exact zcx s h
 |pin q=>exact s _ _ h
def OwnK(k:Kd)(p:Addr):Prop:=match k with
 |.lst=>True
 |.pin q=>q=p
 |_=>False
theorem OwnK.node{K:PySem.W.Frag}{F:Hp}{k:Kd}{p:Addr}{xs:List V}(hk:OwnK k p)(h:F p=some (.lst xs)):zjx K F k p xs:=by
 cases k with
 |lst=>exact h
 |pin q=>exact h
 |_=>exact hk.elim
def kvK(ks:List Int)(xs:List V):List (Key×V):=List.zipWith (fun k x=>(Sum.inl k,x)) ks xs
def kvS(ks:List Str)(xs:List V):List (Key×V):=List.zipWith (fun k x=>(Sum.inr k,x)) ks xs
def ObS(F:Hp)(k:Ob)(p:Addr)(xs:List V):Prop:=match k with
 |.ins C fs=>∃dx,F p=some (.ins C dx (fs.zip xs))
 |.exn C=>F p=some (ExcO p C)
 |.sdc ks=>ks.length=xs.length/\F p=some (.dK (kvS ks xs))
theorem ObS.same{F F':Hp}{k:Ob}{p:Addr}{xs:List V}(h:ObS F k p xs)(s:zbh F F'):ObS F' k p xs:=by
 cases k with
 |ins C fs=>exact h.elim fun dx e=>⟨dx,s _ _ e⟩
 |exn C=>exact s _ _ h
 |sdc ks=>exact⟨h.1,s _ _ h.2⟩
inductive Rp(K:PySem.W.Frag)(F H:Hp):T->V->Rg->Prop where
 |non:Rp K F H .non .non R0
 |bl (b:Bool):Rp K F H (.bl b) (.bl b) R0
 |int (i:Int):Rp K F H (.int i) (.int i) R0
 |str (x:Str):Rp K F H (.str x) (.str x) R0
 |shr {k:Kd} {p:Addr} {xs:List V} {l:List T} (h:zjx K F k p xs) (e:l.length=xs.length) (c:∀(i:Nat) (t:T) (x:V),l[i]?=some t->xs[i]?=some x->Rp K F H t x R0):Rp K F H (.nd false k l) (.ref p) R0
 |dic {p:Addr} {ob:Obj} {ks:List Int} {xs:List V} {l:List T} (h:F p=some (.frz ob (.dK (kvK ks xs)))) (e:l.length=xs.length) (ek:ks.length=xs.length) (c:∀(i:Nat) (t:T) (x:V),l[i]?=some t->xs[i]?=some x->Rp K F H t x R0):Rp K F H (.dic ks l) (.ref p) R0
 |pdc {p:Addr} {ks:List Int} {xs:List V} {l:List T} (h:F p=some (.dK (kvK ks xs))) (e:l.length=xs.length) (ek:ks.length=xs.length) (c:∀(i:Nat) (t:T) (x:V),l[i]?=some t->xs[i]?=some x->Rp K F H t x R0):Rp K F H (.pdc ks l) (.ref p) R0
 |odc {p:Addr} {ks:List Int} {xs:List V} {l:List T} (f:F p=none) (h:H p=some (.dK (kvK ks xs))) (e:l.length=xs.length) (ek:ks.length=xs.length) (c:∀(i:Nat) (t:T) (x:V),l[i]?=some t->xs[i]?=some x->Rp K F H t x R0):Rp K F H (.odc ks l) (.ref p) (fun a=>a=p)
 |obj {k:Ob} {p:Addr} {xs:List V} {l:List T} (h:ObS F k p xs) (e:l.length=xs.length) (c:∀(i:Nat) (t:T) (x:V),l[i]?=some t->xs[i]?=some x->Rp K F H t x R0):Rp K F H (.obj k l) (.ref p) R0
 |oob {C p dx:Addr} {fs:List Str} {xs:List V} {l:List T} (R:Nat->Rg) (f:F p=none) (h:H p=some (.ins C dx (fs.zip xs))) (e:l.length=xs.length) (c:∀(i:Nat) (t:T) (x:V),l[i]?=some t->xs[i]?=some x->Rp K F H t x (R i))
   (d:∀i j a,i≠j->R i a->¬ R j a) (dp:∀i,¬ R i p) (o:∀i a,R i a->i<l.length):Rp K F H (.oob p C fs l) (.ref p) (fun a=>a=p\/∃i,R i a)
 |osd {p:Addr} {ks:List Str} {xs:List V} {l:List T} (f:F p=none) (h:H p=some (.dK (kvS ks xs))) (e:l.length=xs.length) (ek:ks.length=xs.length) (c:∀(i:Nat) (t:T) (x:V),l[i]?=some t->xs[i]?=some x->Rp K F H t x R0):Rp K F H (.osd ks l) (.ref p) (fun a=>a=p)
 |own {k:Kd} {p:Addr} {xs:List V} {l:List T} (hk:OwnK k p) (R:Nat->Rg) (f:F p=none) (h:H p=some (.lst xs)) (e:l.length=xs.length) (c:∀(i:Nat) (t:T) (x:V),l[i]?=some t->xs[i]?=some x->Rp K F H t x (R i))
   (d:∀i j a,i≠j->R i a->¬ R j a) (dp:∀i,¬ R i p) (o:∀i a,R i a->i<l.length):Rp K F H (.nd true k l) (.ref p) (fun a=>a=p\/∃i,R i a)
section
variable {K:PySem.W.Frag}{F F' H H':Hp}{t:T}{x:V}{A:Rg}
theorem Rp.frame(h:Rp K F H t x A)(s:zbh F F')(k:∀a,A a->H' a=H a/\F' a=none):Rp K F' H' t x A:=by
 induction h with
 |non=>exact .non
 |bl b=>exact .bl b
 |int i=>exact .int i
 |str y=>exact .str y
 |shr h e c ih=>exact .shr (h.same s) e fun i t x h1 h2=>ih i t x h1 h2 fun a z=>z.elim
 |dic h e ek c ih=>exact .dic (s _ _ h) e ek fun i t x h1 h2=>ih i t x h1 h2 fun a z=>z.elim
 |pdc h e ek c ih=>exact .pdc (s _ _ h) e ek fun i t x h1 h2=>ih i t x h1 h2 fun a z=>z.elim
 |odc f h e ek c ih =>
  have q:=k _ rfl;exact .odc q.2 (q.1.trans h) e ek fun i t x h1 h2=>ih i t x h1 h2 fun a z=>z.elim
 |obj h e c ih=>exact .obj (h.same s) e fun i t x h1 h2=>ih i t x h1 h2 fun a z=>z.elim
 |oob R f h e c d dp o ih =>
  have q:=k _ (.inl rfl);exact .oob R q.2 (q.1.trans h) e (fun i t x h1 h2=>ih i t x h1 h2 fun a z=>k a (.inr ⟨i,z⟩)) d dp o
 |osd f h e ek c ih =>
  have q:=k _ rfl;exact .osd q.2 (q.1.trans h) e ek fun i t x h1 h2=>ih i t x h1 h2 fun a z=>z.elim
 |own hk R f h e c d dp o ih =>
  have q:=k _ (.inl rfl);exact .own hk R q.2 (q.1.trans h) e (fun i t x h1 h2=>ih i t x h1 h2 fun a z=>k a (.inr ⟨i,z⟩)) d dp o
theorem Rp.dom(h:Rp K F H t x A){a:Addr}(ha:A a):F a=none/\∃u,H a=some u:=by
 induction h with
 |non=>exact ha.elim
 |bl b=>exact ha.elim
 |int i=>exact ha.elim
 |str y=>exact ha.elim
 |shr h e c ih=>exact ha.elim
 |dic h e ek c ih=>exact ha.elim
 |pdc h e ek c ih=>exact ha.elim
 |odc f h e ek c ih =>
  cases ha;exact⟨f,_,h⟩
 |obj h e c ih=>exact ha.elim
 |osd f h e ek c ih =>
  cases ha;exact⟨f,_,h⟩
 |@oob C p dx fs xs l R f h e c d dp o ih =>
  rcases ha with rfl|⟨i,z⟩
  ·exact⟨f,_,h⟩
  ·have hi:=o i a z;have hx:i<xs.length:=by omega
   exact ih i _ _ (ya2 hi) (ya2 hx) z
 |@own k0 p xs l hk R f h e c d dp o ih =>
  rcases ha with rfl|⟨i,z⟩
  ·exact⟨f,_,h⟩
  ·have hi:=o i a z;have hx:i<xs.length:=by omega
   exact ih i _ _ (ya2 hi) (ya2 hx) z
theorem Rp.share(h:Rp K F H t x A)(s:zbh F F')(k:∀a u,A a->H a=some u->F' a=some u):Rp K F' H' t.share x R0:=by
 induction h with
 |non=>exact .non
 |bl b=>exact .bl b
 |int i=>exact .int i
 |str y=>exact .str y
 |@shr k0 p xs l h e c ih =>
  rw[T.share,zbg];refine .shr (h.same s) (by rw[ya4];exact e) fun i t x h1 h2=>?_
  rw[yae]at h1;obtain⟨t0,e0,rfl⟩:=ya0.mp h1;exact ih i t0 x e0 h2 fun a u z=>z.elim
 |@dic p ob ks xs l h e ek c ih =>
  rw[T.share,zbg];refine .dic (s _ _ h) (by rw[ya4];exact e) ek fun i t x h1 h2=>?_
  rw[yae]at h1;obtain⟨t0,e0,rfl⟩:=ya0.mp h1;exact ih i t0 x e0 h2 fun a u z=>z.elim
 |@pdc p ks xs l h e ek c ih =>
  rw[T.share,zbg];refine .pdc (s _ _ h) (by rw[ya4];exact e) ek fun i t x h1 h2=>?_
  rw[yae]at h1;obtain⟨t0,e0,rfl⟩:=ya0.mp h1;exact ih i t0 x e0 h2 fun a u z=>z.elim
 |@odc p ks xs l f h e ek c ih =>
  rw[T.share,zbg];refine .pdc (k _ _ rfl h) (by rw[ya4];exact e) ek fun i t x h1 h2=>?_
  rw[yae]at h1;obtain⟨t0,e0,rfl⟩:=ya0.mp h1;exact ih i t0 x e0 h2 fun a u z=>z.elim
 |@obj k0 p xs l h e c ih =>
  rw[T.share,zbg];refine .obj (h.same s) (by rw[ya4];exact e) fun i t x h1 h2=>?_
  rw[yae]at h1;obtain⟨t0,e0,rfl⟩:=ya0.mp h1;exact ih i t0 x e0 h2 fun a u z=>z.elim
 |@oob C p dx fs xs l R f h e c d dp o ih =>
  rw[T.share,zbg];refine .obj (k:=.ins C fs) (xs:=xs) ⟨dx,k _ _ (.inl rfl) h⟩ (by rw[ya4];exact e) fun i t x h1 h2=>?_
  rw[yae]at h1;obtain⟨t0,e0,rfl⟩:=ya0.mp h1;exact ih i t0 x e0 h2 fun a u z=>k a u (.inr ⟨i,z⟩)
 |@osd p ks xs l f h e ek c ih =>
  rw[T.share,zbg];refine .obj (k:=.sdc ks) (xs:=xs) ⟨ek,k _ _ rfl h⟩ (by rw[ya4];exact e) fun i t x h1 h2=>?_
  rw[yae]at h1;obtain⟨t0,e0,rfl⟩:=ya0.mp h1;exact ih i t0 x e0 h2 fun a u z=>z.elim
 |@own k0 p xs l hk R f h e c d dp o ih =>
  rw[T.share,zbg];refine .shr (k:=k0) (xs:=xs) (hk.node (k _ _ (.inl rfl) h)) (by rw[ya4];exact e) fun i t x h1 h2=>?_
  rw[yae]at h1;obtain⟨t0,e0,rfl⟩:=ya0.mp h1;exact ih i t0 x e0 h2 fun a u z=>k a u (.inr ⟨i,z⟩)
theorem Rp.r0(h:Rp K F H t x A)(s:t.sh=true):A=R0:=by
 cases h with
 |own hk R f h e c d dp o =>
  rw[T.sh]at s;cases s
 |odc f h e ek c =>
  rw[T.sh]at s;cases s
 |oob R f h e c d dp o =>
  rw[T.sh]at s;cases s
 |osd f h e ek c =>
  rw[T.sh]at s;cases s
 |_=>rfl
theorem Rp.move(h:Rp K F H t x A)(s:t.sh=true)(q:zbh F F'):Rp K F' H' t x R0:=by
 have e:=h.r0 s;subst e;exact h.frame q fun a z=>z.elim
theorem Rp.flat_any(h:Rp K F H t x A)(s:t.flat=true):Rp K F' H' t x R0:=by
 cases h with
 |non=>exact .non
 |bl b=>exact .bl b
 |int i=>exact .int i
 |str y=>exact .str y
 |shr h e c=>cases s
 |dic h e ek c=>cases s
 |pdc h e ek c=>cases s
 |odc f h e ek c=>cases s
 |obj h e c=>cases s
 |oob R f h e c d dp o=>cases s
 |osd f h e ek c=>cases s
 |own hk R f h e c d dp o=>cases s
theorem Rp.int_inv{i:Int}(h:Rp K F H (.int i) x A):x=.int i:=by cases h;rfl
theorem Rp.bl_inv{b:Bool}(h:Rp K F H (.bl b) x A):x=.bl b:=by cases h;rfl
theorem Rp.non_inv(h:Rp K F H .non x A):x=.non:=by cases h;rfl
theorem Rp.str_inv{y:Str}(h:Rp K F H (.str y) x A):x=.str y:=by cases h;rfl
end
def Rps(K:PySem.W.Frag)(F:Hp)(ts:List T)(xs:List V):Prop:=ts.length=xs.length/\∀(i:Nat) (t:T) (x:V),ts[i]?=some t->xs[i]?=some x->Rp K F F t x R0
theorem Rps.nil{K:PySem.W.Frag}{F:Hp}:Rps K F [] []:=⟨rfl,fun i t x h=>by simp at h⟩
theorem Rp.any{K:PySem.W.Frag}{F H H':Hp}{t:T}{x:V}(h:Rp K F H t x R0):Rp K F H' t x R0:=h.frame (zbh.refl F) fun a z=>z.elim
theorem Rps.cons{K:PySem.W.Frag}{F H:Hp}{t:T}{x:V}{ts:List T}{xs:List V}(h:Rp K F H t x R0)(r:Rps K F ts xs):Rps K F (t::ts) (x::xs):=by
 refine⟨by simp[r.1],fun i t' x' h1 h2=>?_⟩
 cases i with
 |zero =>
  simp at h1 h2;subst h1;subst h2;exact h.any
 |succ j=>exact r.2 j t' x' (by simpa using h1) (by simpa using h2)
theorem Rps.inv{K:PySem.W.Frag}{F:Hp}{t:T}{ts:List T}{xs:List V}(r:Rps K F (t::ts) xs):∃x xs',xs=x::xs'/\Rp K F F t x R0/\Rps K F ts xs':=by
 obtain⟨e,h⟩:=r;cases xs with
 |nil=>simp at e
 |cons x xs'=>exact⟨x,xs',rfl,h 0 t x rfl rfl,by simpa using e,fun i t' x' h1 h2=>h (i+1) t' x' (by simpa using h1) (by simpa using h2)⟩
theorem Rps.inv0{K:PySem.W.Frag}{F:Hp}{xs:List V}(r:Rps K F [] xs):xs=[]:=by
 obtain⟨e,h⟩:=r;cases xs with
 |nil=>rfl
 |cons x xs'=>simp at e
theorem Rps.same{K:PySem.W.Frag}{F F':Hp}{ts:List T}{xs:List V}(r:Rps K F ts xs)(s:zbh F F'):Rps K F' ts xs:=⟨r.1,fun i t x h1 h2=>((r.2 i t x h1 h2).frame (H':=F') s fun a z=>z.elim)⟩
theorem Rps.node{K:PySem.W.Frag}{F H:Hp}{k:Kd}{p:Addr}{l:List T}{A:Rg}(h:Rp K F H (.nd false k l) (.ref p) A):∃xs,zjx K F k p xs/\Rps K F l xs:=by
 cases h with
 |shr h e c=>exact⟨_,h,e,fun i t x h1 h2=>(c i t x h1 h2).any⟩
theorem Rp.ref_inv{K:PySem.W.Frag}{F H:Hp}{o:Bool}{k:Kd}{l:List T}{x:V}{A:Rg}(h:Rp K F H (.nd o k l) x A):∃p,x=.ref p:=by
 cases h with
 |shr h e c=>exact⟨_,rfl⟩
 |own hk R f h e c d dp o=>exact⟨_,rfl⟩
theorem Rps.of_node{K:PySem.W.Frag}{F H:Hp}{k:Kd}{p:Addr}{l:List T}{xs:List V}(h:zjx K F k p xs)(r:Rps K F l xs):Rp K F H (.nd false k l) (.ref p) R0:=.shr h r.1 fun i t x h1 h2=>(r.2 i t x h1 h2).any
structure Ext(F H F' H':Hp)(B:Rg):Prop where
 hh:zbh H H'
 ff:zbh F F'
 fh:zbh F' H'
 nb:∀b,B b->H b=none
 nf:∀b u,F' b=some u->F b=some u\/H b=none
theorem zbq{H H':Hp}(s:zbh H H'){b:Addr}(h:H' b=none):H b=none:=by
 cases e:H b with
 |none=>rfl
 |some u=>rw[s b u e]at h;cases h
section
variable {F H F1 H1 F2 H2:Hp}{B C:Rg}
theorem Ext.refl(s:zbh F H):Ext F H F H R0:=⟨.refl _,.refl _,s,fun _ z=>z.elim,fun _ _ e=>.inl e⟩
theorem Ext.trans(a:Ext F H F1 H1 B)(b:Ext F1 H1 F2 H2 C):Ext F H F2 H2 (fun x=>B x\/C x) where
 hh:=a.hh.trans b.hh
 ff:=a.ff.trans b.ff
 fh:=b.fh
 nb:=fun x z=>z.elim (a.nb x) fun z=>zbq a.hh (b.nb x z)
 nf:=fun x u e=>(b.nf x u e).elim (a.nf x u) fun z=>.inr (zbq a.hh z)
theorem Ext.mono(a:Ext F H F1 H1 B)(h:∀x,C x->B x):Ext F H F1 H1 C:=⟨a.hh,a.ff,a.fh,fun x z=>a.nb x (h x z),a.nf⟩
theorem Ext.trans0(a:Ext F H F1 H1 R0)(b:Ext F1 H1 F2 H2 C):Ext F H F2 H2 C:=(a.trans b).mono fun x z=>.inr z
open Classical in
noncomputable def frz(F H:Hp)(A:Rg):Hp:=fun b=>if A b then H b else F b
theorem zhf{A:Rg}{b:Addr}(h:A b):frz F H A b=H b:=by unfold frz;rw[if_pos h]
theorem zek{A:Rg}{b:Addr}(h:¬ A b):frz F H A b=F b:=by unfold frz;rw[if_neg h]
theorem zf2{A:Rg}(n:∀a,A a->F a=none):zbh F (frz F H A):=fun b u e=>by
 by_cases h:A b
 ·rw[n b h]at e;cases e
 ·rw[zek h];exact e
theorem zk9{A:Rg}(s:zbh F H):zbh (frz F H A) H:=fun b u e=>by
 by_cases h:A b
 ·rw[zhf h]at e;exact e
 ·rw[zek h]at e;exact s b u e
theorem Ext.frz(a:Ext F H F1 H1 B)(n:∀b,B b->F1 b=none):Ext F H (frz F1 H1 B) H1 R0 where
 hh:=a.hh
 ff:=a.ff.trans (zf2 n)
 fh:=zk9 a.fh
 nb:=fun _ z=>z.elim
 nf:=fun b u e=>by
  by_cases h:B b
  ·exact .inr (a.nb b h)
  ·rw[zek h]at e;exact a.nf b u e
theorem Rp.ext{K:PySem.W.Frag}{t:T}{x:V}{A:Rg}(h:Rp K F H t x A)(a:Ext F H F1 H1 B):Rp K F1 H1 t x A:=h.frame a.ff fun b z=>by
 obtain⟨f,u,e⟩:=h.dom z;refine⟨(a.hh b u e).trans e.symm,?_⟩;cases q:F1 b with
 |none=>rfl
 |some u' =>
  rcases a.nf b u' q with z|z
  ·rw[f]at z;cases z
  ·rw[e]at z;cases z
theorem Rp.apart{K:PySem.W.Frag}{t:T}{x:V}{A:Rg}(h:Rp K F H t x A)(a:Ext F H F1 H1 B){b:Addr}(hb:B b):¬ A b:=fun z=>by
 obtain⟨f,u,e⟩:=h.dom z;rw[a.nb b hb]at e;cases e
theorem Ext.new{p:Addr}{o:HO}(s:zbh F H)(h:H p=none):Ext F H (upd F p o) (upd H p o) R0 where
 hh:=zhz h o
 ff:=zhz (zbq s h) o
 fh:=fun b u e=>by
  by_cases hb:b=p
  ·subst hb;rw[zb2]at e ⊢;exact e
  ·rw[zah hb]at e ⊢;exact s b u e
 nb:=fun _ z=>z.elim
 nf:=fun b u e=>by
  by_cases hb:b=p
  ·subst hb;exact .inr h
  ·rw[zah hb]at e;exact .inl e
theorem Ext.newO{p:Addr}{o:HO}(s:zbh F H)(h:H p=none):Ext F H F (upd H p o) (fun a=>a=p) where
 hh:=zhz h o
 ff:=.refl _
 fh:=fun b u e=>zhz h o b u (s b u e)
 nb:=fun b z=>by rw[z];exact h
 nf:=fun b u e=>.inl e
end
abbrev PSt:=List (Option T)
structure StR(K:PySem.W.Frag)(F H:Hp)(σ:L2.St)(τ:PSt)(R:Nat->Rg):Prop where
 fh:zbh F H
 len:σ.length=τ.length
 rep:∀i t,τ[i]?=some (some t)->∃x,σ[i]?=some (some x)/\Rp K F H t x (R i)
 out:∀i a,R i a->∃t,τ[i]?=some (some t)
 dis:∀i j a,i≠j->R i a->¬ R j a
section
variable {K:PySem.W.Frag}{F H F1 H1:Hp}{σ:L2.St}{τ:PSt}{R:Nat->Rg}{B:Rg}
theorem StR.dom(h:StR K F H σ τ R){i:Nat}{a:Addr}(ha:R i a):F a=none/\∃u,H a=some u:=by
 obtain⟨t,e⟩:=h.out i a ha;obtain⟨x,_,r⟩:=h.rep i t e;exact r.dom ha
theorem StR.ext(h:StR K F H σ τ R)(a:Ext F H F1 H1 B):StR K F1 H1 σ τ R where
 fh:=a.fh
 len:=h.len
 rep:=fun i t e=>by
  obtain⟨x,e1,r⟩:=h.rep i t e;exact⟨x,e1,r.ext a⟩
 out:=h.out
 dis:=h.dis
theorem StR.apart(h:StR K F H σ τ R)(a:Ext F H F1 H1 B){b:Addr}(hb:B b)(i:Nat):¬ R i b:=fun z=>by
 obtain⟨f,u,e⟩:=h.dom z;rw[a.nb b hb]at e;cases e
end
end Pu
set_option Elab.async false
set_option linter.all false
set_option maxRecDepth 100000
namespace Pu
open PySem PySem.Spec PyProof.Rows L2 Zw Zx
def keyD:Key->PyData
 |.inl i=>.int i
 |.inr x=>.str x
mutual
def T.data:T->PyData
 |.non=>.none
 |.bl b=>.bool b
 |.int i=>.int i
 |.str x=>.str x
 |.nd _ .lst l=>.list (zca l)
 |.nd _ .rl l=>.list (zca l)
 |.nd _ .tup l=>.tuple (zca l)
 |.nd _ .rt l=>.tuple (zca l)
 |.nd _ (.pin _) l=>.list (zca l)
 |.dic ks l=>.dict ((ks.map PyData.int).zip (zca l))
 |.pdc ks l=>.dict ((ks.map PyData.int).zip (zca l))
 |.odc ks l=>.dict ((ks.map PyData.int).zip (zca l))
 |.obj _ _=>.none
 |.oob _ _ _ _=>.none
 |.osd _ _=>.none
def zca:List T->List PyData
 |[]=>[]
 |t::r=>t.data::zca r
end
mutual
def T.pln:T->Bool
 |.nd _ _ l=>plnL l
 |.dic _ l=>plnL l
 |.pdc _ l=>plnL l
 |.odc _ l=>plnL l
 |.obj _ _=>false
 |.oob _ _ _ _=>false
 |.osd _ _=>false
 |.non=>true
 |.bl _=>true
 |.int _=>true
 |.str _=>true
def plnL:List T->Bool
 |[]=>true
 |t::r=>t.pln && plnL r
end
theorem zci:∀{l:List T},plnL l=true->∀{i:Nat} {t:T},l[i]?=some t->t.pln=true
 |[],_,i,t,e=>by simp at e
 |a::r,h,i,t,e=>by
  rw[plnL,ya1]at h;cases i with
  |zero =>
   simp at e;subst e;exact h.1
  |succ i=>exact zci h.2 (by simpa using e)
theorem zia{h:Heap}:∀{l:List T} {us:List Value},l.length=us.length->(∀(i:Nat) (t:T) (u:Value),l[i]?=some t->us[i]?=some u->∃as,Reads h u t.data as)->∃as,ReadsAll h us (zca l) as
 |[],[],_,_=>⟨_,.nil⟩
 |[],_::_,e,_=>by simp at e
 |_::_,[],e,_=>by simp at e
 |t::l,u::us,e,f=>by
  obtain⟨a1,r1⟩:=f 0 t u rfl rfl;obtain⟨a2,r2⟩:=zia (l:=l) (us:=us) (by simpa using e) fun i t' u' h1 h2=>f (i+1) t' u' (by simpa using h1) (by simpa using h2)
  exact⟨_,.cons r1 r2⟩
theorem zit{P:Program}{w:World}{h:Heap}{k:Key}{v:Value}(e:(zbj P w).is k v=true):Reads h v (keyD k) []:=by
 rcases zb5 (show keyIs k v=true from e) with ⟨i,t,rfl,rfl⟩|⟨x,t,rfl,rfl⟩
 ·exact .int i t
 ·exact .str x t
theorem zfh{h:Heap}:∀(ks:List Int) (xs:List V) (l:List T) (vs:List (Key×Value)),KV (kvK ks xs) vs->l.length=xs.length->ks.length=xs.length->(∀(i:Nat) (t:T) (x:V),l[i]?=some t->xs[i]?=some x->∀{u:Value},RelV x u->∃as,Reads h u t.data as) ->
  ∃bs,PyProof.V.PairsRead h keyD vs ((ks.map PyData.int).zip (zca l)) bs
 |[],xs,l,vs,r,_,_,_=>by
  have r':Paired _ [] vs:=(show Paired _ (kvK [] xs) vs from r);cases r';exact⟨_,.nil⟩
 |k::ks,[],l,vs,r,_,ek,_=>by simp at ek
 |k::ks,x::xs,[],vs,r,e,_,_=>by simp at e
 |k::ks,x::xs,t::l,vs,r,e,ek,f=>by
  have r':Paired (fun(p:Key×V) (q:Key×Value)=>p.1=q.1/\RelV p.2 q.2) ((Sum.inl k,x)::kvK ks xs) vs:=r
  cases r' with
  |@cons _ q _ qs hd tl =>
   obtain⟨a1,r1⟩:=f 0 t x rfl rfl hd.2;obtain⟨a2,r2⟩:=zfh ks xs l qs tl (by simpa using e) (by simpa using ek) fun i t' x' h1 h2=>f (i+1) t' x' (by simpa using h1) (by simpa using h2)
   obtain⟨q1,q2⟩:=q;cases (show Sum.inl k=q1 from hd.1);exact⟨_,.cons r1 r2⟩
section
variable {X:Cx}{pins:List (Addr×Obj)}{σ:L2.St}{F H:Hp}{s:Shared}
theorem zff(I:Inv X pins σ H s)(fh:zbh F H){t:T}{x:V}{A:Rg}(h:Rp X.K F H t x A)(hpl:t.pln=true):∀{u:Value},RelV x u->∃as,Reads s.heap u t.data as:=by
 have kids:∀{l:List T} {xs:List V} {its:List Value},zbc xs its->l.length=xs.length->(∀(i:Nat) (t:T) (x:V),l[i]?=some t->xs[i]?=some x->∀{u:Value},RelV x u->∃as,Reads s.heap u t.data as)->∃as,ReadsAll s.heap its (zca l) as:=by
  intro l xs its r e ih;refine zia (e.trans r.length) fun i t u h1 h2=>?_
  have hi:i<xs.length:=by
   have:=(ya7.mp h1).1
   omega
  obtain⟨u',e1,r1⟩:=r.get (ya2 hi);rw[h2]at e1;cases e1;exact ih i t _ h1 (ya2 hi) r1
 have lsts:∀{p:Addr} {l:List T} {xs:List V},SqL X.K H p xs->l.length=xs.length->(∀(i:Nat) (t:T) (x:V),l[i]?=some t->xs[i]?=some x->∀{u:Value},RelV x u->∃as,Reads s.heap u t.data as)->∃as,Reads s.heap (.ref p) (.list (zca l)) as:=by
  intro p l xs hq e ih;obtain⟨its,r,⟨o,n,e1,e2,e3,e4⟩,_⟩:=I.list hq;obtain⟨as,ra⟩:=kids r e ih;exact⟨_,.list e1 e2 e4 (by simpa using ra)⟩
 have tups:∀{p:Addr} {l:List T} {xs:List V},SqT X.K H p xs->l.length=xs.length->(∀(i:Nat) (t:T) (x:V),l[i]?=some t->xs[i]?=some x->∀{u:Value},RelV x u->∃as,Reads s.heap u t.data as)->∃as,Reads s.heap (.ref p) (.tuple (zca l)) as:=by
  intro p l xs hq e ih;obtain⟨its,r,⟨o,e1,e2,n,e4⟩,_⟩:=I.tuple hq;obtain⟨as,ra⟩:=kids r e ih;exact⟨_,.tuple e1 e2 e4 (by simpa using ra)⟩
 induction h with
 |non=>intro u r;cases r;exact⟨_,.none⟩
 |bl b=>intro u r;cases r;exact⟨_,.bool b⟩
 |int i=>intro u r;obtain⟨t,rfl⟩:=r;exact⟨_,.int i t⟩
 |str y=>intro u r;obtain⟨t,rfl⟩:=r;exact⟨_,.str y t⟩
 |@shr k p xs l h e c ih =>
  intro u r;cases r;cases k with
  |lst=>exact lsts (SqL.of (fh _ _ h)) e fun i t x h1 h2=>ih i t x h1 h2 (zci hpl h1)
  |rl=>exact lsts (fh.seq h) e fun i t x h1 h2=>ih i t x h1 h2 (zci hpl h1)
  |tup=>exact tups (SqT.of (fh _ _ h)) e fun i t x h1 h2=>ih i t x h1 h2 (zci hpl h1)
  |rt=>exact tups (zcx fh h) e fun i t x h1 h2=>ih i t x h1 h2 (zci hpl h1)
  |pin q=>exact lsts (SqL.of (fh _ _ h)) e fun i t x h1 h2=>ih i t x h1 h2 (zci hpl h1)
 |@dic p ob ks xs l h e ek c ih =>
  intro u r;cases r;obtain⟨ho,z,hd,vs,rel,dd⟩:=(show zbt X.prog X.w H s.heap p (.frz ob (.dK (kvK ks xs))) from I.hok p _ (fh _ _ h));obtain⟨bs,pr⟩:=zfh ks xs l vs rel e ek fun i t x h1 h2=>ih i t x h1 h2 (zci hpl h1)
  exact⟨_,ycx (fun k v q=>zit q) dd pr⟩
 |@pdc p ks xs l h e ek c ih =>
  intro u r;cases r;obtain⟨z,hd,vs,rel,dd⟩:=(show zbt X.prog X.w H s.heap p (.dK (kvK ks xs)) from I.hok p _ (fh _ _ h));obtain⟨bs,pr⟩:=zfh ks xs l vs rel e ek fun i t x h1 h2=>ih i t x h1 h2 (zci hpl h1)
  exact⟨_,ycx (fun k v q=>zit q) dd pr⟩
 |@odc p ks xs l f h e ek c ih =>
  intro u r;cases r;obtain⟨z,hd,vs,rel,dd⟩:=(show zbt X.prog X.w H s.heap p (.dK (kvK ks xs)) from I.hok p _ h);obtain⟨bs,pr⟩:=zfh ks xs l vs rel e ek fun i t x h1 h2=>ih i t x h1 h2 (zci hpl h1)
  exact⟨_,ycx (fun k v q=>zit q) dd pr⟩
 |obj h e c ih=>cases hpl
 |oob R f h e c d dp o ih=>cases hpl
 |osd f h e ek c ih=>cases hpl
 |@own k0 p xs l hk R f h e c d dp o ih =>
  intro u r;cases r;cases k0 with
  |lst=>exact lsts (SqL.of h) e fun i t x h1 h2=>ih i t x h1 h2 (zci hpl h1)
  |pin q=>exact lsts (SqL.of h) e fun i t x h1 h2=>ih i t x h1 h2 (zci hpl h1)
  |_=>exact hk.elim
end
def fitT(t:T):Bool:=t.pln && t.data.canLay0
def eqvT(t u:T):Bool:=PyData.eqv t.data u.data
def eqOk(t u:T):Bool:=fitT t && fitT u && decide (min t.data.depth u.data.depth<=60)
def eqT(t u:T):Option T:=if eqOk t u then some (.bl (eqvT t u)) else none
def neT(t u:T):Option T:=if eqOk t u then some (.bl (!eqvT t u)) else none
def inOk(t:T)(l:List T):Bool:=fitT t && (plnL l && PyData.canLayAll0 (zca l)) && decide (min (PyData.depthAll (zca l)) t.data.depth<=60)
def hasT(t:T)(l:List T):Bool:=(zca l).any fun y=>PyData.eqv y t.data
def inS(t:T)(y:Str):Option T:=match t with
 |.str x=>some (.bl (!(Builtin.Str.occurrences y x 0 y.length 1).isEmpty))
 |_=>none
def inT(t c:T):Option T:=match c with
 |.nd _ _ l=>if inOk t l then some (.bl (hasT t l)) else none
 |.str y=>inS t y
 |_=>none
def zjb(K:PySem.W.Frag)(F H:Hp)(v:T)(Q:VK):Prop:=∀F' H' z C,Ext F H F' H' C->Rp K F' H' v z C->Q z H'
def rT2(K:PySem.W.Frag)(g:T->T->Option T):R2:=fun x y H Q=>∃F t u v,zbh F H/\Rp K F F t x R0/\Rp K F F u y R0/\g t u=some v/\zjb K F H v Q
def rT1(K:PySem.W.Frag)(g:T->Option T):V->Hp->VK->Prop:=fun x H Q=>∃F t v,zbh F H/\Rp K F F t x R0/\g t=some v/\zjb K F H v Q
def rTn(K:PySem.W.Frag)(g:List T->Option T):List V->Hp->VK->Prop:=fun xs H Q=>∃F ts v,zbh F H/\Rps K F ts xs/\g ts=some v/\zjb K F H v Q
section
variable {K:PySem.W.Frag}{F H:Hp}{Q:VK}
theorem zjb.int{i:Int}(q:zjb K F H (.int i) Q)(s:zbh F H):Q (.int i) H:=q F H _ _ (Ext.refl s) (.int i)
theorem zjb.bl{b:Bool}(q:zjb K F H (.bl b) Q)(s:zbh F H):Q (.bl b) H:=q F H _ _ (Ext.refl s) (.bl b)
theorem zjb.str{x:Str}(q:zjb K F H (.str x) Q)(s:zbh F H):Q (.str x) H:=q F H _ _ (Ext.refl s) (.str x)
theorem zjb.non(q:zjb K F H .non Q)(s:zbh F H):Q .non H:=q F H _ _ (Ext.refl s) .non
theorem zjb.list{l:List T}{xs:List V}(q:zjb K F H (.own l) Q)(s:zbh F H)(r:Rps K F l xs){p:Addr}(hp:H p=none):Q (.ref p) (upd H p (.lst xs)):=by
 refine q F (upd H p (.lst xs)) (.ref p) _ ((Ext.newO s hp).mono ?_) (.own (k:=.lst) (xs:=xs) trivial (fun _=>R0) (zbq s hp) zb2 r.1 (fun i t x h1 h2=>?_) (fun _ _ _ _ z=>z.elim) (fun _ z=>z) (fun _ _ z=>z.elim))
 ·rintro a (z|⟨i,z⟩)
  ·exact z
  ·exact z.elim
 ·exact(r.2 i t x h1 h2).any
theorem zjb.tuple{l:List T}{xs:List V}(q:zjb K F H (.tup l) Q)(s:zbh F H)(r:Rps K F l xs){p:Addr}(hp:H p=none):Q (.ref p) (upd H p (.tup xs)):=by
 have e:=Ext.new (o:=.tup xs) s hp;exact q _ _ _ _ e (Rps.of_node (k:=.tup) zb2 (r.same e.ff))
theorem zjb.same{t:T}{x:V}(q:zjb K F H t Q)(s:zbh F H)(r:Rp K F F t x R0):Q x H:=q F H x _ (Ext.refl s) r.any
end
noncomputable def s64(i:Int):Bool:=@decide (-(2 ^ 64)<i/\i<2 ^ 64) (Classical.propDecidable _)
noncomputable def s70(i:Int):Bool:=@decide (-(10 ^ 70)<i/\i<10 ^ 70) (Classical.propDecidable _)
noncomputable def k63(k:Int):Bool:=@decide (k<2 ^ 63/\-(2 ^ 63)<=k) (Classical.propDecidable _)
noncomputable def zji(i j:Int):Bool:=s64 i || s64 j || (s70 i && s70 j)
def lim:Nat:=16777216
def ze6:T->T->Option T
 |.int i,.int j=>some (.int (i+j))
 |.str x,.str y=>if x.length+y.length<=lim then some (.str (x++y)) else none
 |.nd _ .lst l,.nd _ .lst m=>if l.length+m.length<=lim then some (.own (l++m)) else none
 |_,_=>none
def subT:T->T->Option T
 |.int i,.int j=>some (.int (i - j))
 |_,_=>none
noncomputable def mulT:T->T->Option T
 |.int i,.int j=>if zji i j then some (.int (i * j)) else none
 |.nd _ .lst l,.int k=>if k63 k=true/\l.length * k.toNat<=lim then some (.own (List.replicate k.toNat l).flatten) else none
 |.str x,.int k=>if 0<=k/\k<=1000000/\x.length<=16 then some (.str (Txt.mul x k)) else none
 |_,_=>none
def zi1:T->T->Option T
 |.int i,.int j=>if j≠0 then some (.int (i.fmod j)) else none
 |_,_=>none
noncomputable def ze4:T->T->Option T
 |.int i,.int j=>if j≠0/\s70 j then some (.int (i.fdiv j)) else none
 |_,_=>none
noncomputable def powT:T->T->Option T
 |.int i,.int j=>if 0<=j/\j<=1000000/\s64 i then some (.int (i ^ j.toNat)) else none
 |_,_=>none
def borT:T->T->Option T
 |.int i,.int j=>some (.int (Builtin.bitOr i j))
 |_,_=>none
def bandT:T->T->Option T
 |.int i,.int j=>some (.int (Builtin.bitAnd i j))
 |_,_=>none
def cmpT(f:Int->Int->Bool):T->T->Option T
 |.int i,.int j=>some (.bl (f i j))
 |_,_=>none
def negT:T->Option T
 |.int i=>some (.int (-i))
 |_=>none
theorem s64_iff{i:Int}(h:s64 i=true):-(2 ^ 64)<i/\i<2 ^ 64:=@of_decide_eq_true _ (Classical.propDecidable _) h
theorem s70_iff{i:Int}(h:s70 i=true):Sm i:=@of_decide_eq_true _ (Classical.propDecidable _) h
theorem k63_iff{k:Int}(h:k63 k=true):k<2 ^ 63/\-(2 ^ 63)<=k:=@of_decide_eq_true _ (Classical.propDecidable _) h
theorem zdn:lim=sizeLine:=by rw[sizeLine_eq];rfl
theorem zfe{K:PySem.W.Frag}{F:Hp}:∀{l m:List T} {xs ys:List V},Rps K F l xs->Rps K F m ys->Rps K F (l++m) (xs++ys)
 |[],m,xs,ys,r,q=>by rw[r.inv0];exact q
 |t::l,m,xs,ys,r,q=>by
  obtain⟨x,xs',rfl,r1,r2⟩:=r.inv;exact .cons r1 (zfe r2 q)
theorem rps_rep{K:PySem.W.Frag}{F:Hp}{l:List T}{xs:List V}(r:Rps K F l xs):∀n:Nat,Rps K F (List.replicate n l).flatten (List.replicate n xs).flatten
 |0=>.nil
 |n+1=>by
  rw[ybc,ybc,yb0,yb0];exact zfe r (rps_rep r n)
section
variable {X:Cx}
theorem zda{K:PySem.W.Frag}{F H:Hp}{o:Bool}{k:Kd}{l:List T}{x:V}(h:Rp K F H (.nd o k l) x R0):∃p xs,x=.ref p/\o=false/\zjx K F k p xs/\Rps K F l xs:=by
 generalize hA:R0=A at h;cases h with
 |shr h e c=>exact⟨_,_,rfl,rfl,h,e,fun i t x h1 h2=>(hA▸c i t x h1 h2).any⟩
 |@own k0 p xs l hk R f h e c d dp o =>
  exfalso
  have z:=congrFun hA p;have:R0 p:=by rw[z];exact .inl rfl
  exact this
theorem opT_add:OpR X (binaryOp .Add) (rT2 X.K ze6):=by
 intro pins s σ H x y v u Q I rx ry h;obtain⟨F,t1,t2,r,fh,r1,r2,e,q⟩:=h;unfold ze6 at e;split at e
 ·cases e;rw[r1.int_inv]at rx;rw[r2.int_inv]at ry;exact op_add pins s σ H _ _ v u Q I rx ry ⟨_,_,rfl,rfl,q.int fh⟩
 ·split at e
  ·cases e;rename_i hz;rw[r1.str_inv]at rx;rw[r2.str_inv]at ry;exact op_add_str pins s σ H _ _ v u Q I rx ry ⟨_,_,rfl,rfl,by rw[<- zdn];exact hz,q.str fh⟩
  ·cases e
 ·split at e
  ·cases e;rename_i hz;obtain⟨p,xs,rfl,rfl,n1,k1⟩:=zda r1;obtain⟨p2,ys,rfl,rfl,n2,k2⟩:=zda r2;refine op_cat pins s σ H _ _ v u Q I rx ry ⟨p,p2,xs,ys,rfl,rfl,fh _ _ n1,fh _ _ n2,?_,fun a ha=>q.list fh (zfe k1 k2) ha⟩
   rw[<- k1.1,<- k2.1,<- zdn];exact hz
  ·cases e
 ·cases e
theorem zg2{f:Value->Value->Sem Value}{C:Int->Int->Prop}{g:Int->Int->V}{gT:T->T->Option T}(ho:OpR X f (rI C g))(hg:∀t u v,gT t u=some v->∃i j,t=.int i/\u=.int j/\C i j/\((∃k,v=.int k/\g i j=.int k)\/∃k,v=.bl k/\g i j=.bl k)):OpR X f (rT2 X.K gT):=by
 intro pins s σ H x y v u Q I rx ry h;obtain⟨F,t1,t2,r,fh,r1,r2,e,q⟩:=h;obtain⟨i,j,rfl,rfl,hc,hv⟩:=hg _ _ _ e;rw[r1.int_inv]at rx;rw[r2.int_inv]at ry;refine ho pins s σ H _ _ v u Q I rx ry ⟨i,j,rfl,rfl,hc,?_⟩
 rcases hv with ⟨k,rfl,ek⟩|⟨k,rfl,ek⟩
 ·rw[ek];exact q.int fh
 ·rw[ek];exact q.bl fh
theorem OpR.weak{f:Value->Value->Sem Value}{r r':R2}(h:OpR X f r)(w:∀x y H Q,r' x y H Q->r x y H Q):OpR X f r':=fun pins s σ H x y v u Q I rx ry q=>h pins s σ H x y v u Q I rx ry (w x y H Q q)
theorem ri0{g:Int->Int->V}{f:Value->Value->Sem Value}(h:OpR X f (rI0 g)):OpR X f (rI (fun _ _=>True) g):=OpR.weak h fun x y H Q ⟨i,j,a,b,_,q⟩=>⟨i,j,a,b,q⟩
theorem opT_sub:OpR X (binaryOp .Sub) (rT2 X.K subT):=zg2 (ri0 op_sub) fun t u v h=>by
 unfold subT at h;split at h
 ·cases h;exact⟨_,_,rfl,rfl,trivial,.inl ⟨_,rfl,rfl⟩⟩
 ·cases h
theorem opT_bor:OpR X (binaryOp .BitOr) (rT2 X.K borT):=zg2 (ri0 op_or) fun t u v h=>by
 unfold borT at h;split at h
 ·cases h;exact⟨_,_,rfl,rfl,trivial,.inl ⟨_,rfl,rfl⟩⟩
 ·cases h
theorem opT_band:OpR X (binaryOp .BitAnd) (rT2 X.K bandT):=zg2 (ri0 op_and) fun t u v h=>by
 unfold bandT at h;split at h
 ·cases h;exact⟨_,_,rfl,rfl,trivial,.inl ⟨_,rfl,rfl⟩⟩
 ·cases h
theorem opT_mod:OpR X (binaryOp .Mod) (rT2 X.K zi1):=zg2 op_modN fun t u v h=>by
 unfold zi1 at h;split at h
 ·split at h
  ·cases h;exact⟨_,_,rfl,rfl,by assumption,.inl ⟨_,rfl,rfl⟩⟩
  ·cases h
 ·cases h
theorem opT_fdiv:OpR X (binaryOp .FloorDiv) (rT2 X.K ze4):=zg2 op_fdivL fun t u v h=>by
 unfold ze4 at h;split at h
 ·split at h
  ·cases h;rename_i hc;exact⟨_,_,rfl,rfl,⟨hc.1,s70_iff hc.2⟩,.inl ⟨_,rfl,rfl⟩⟩
  ·cases h
 ·cases h
theorem opT_pow:OpR X (binaryOp .Pow) (rT2 X.K powT):=zg2 op_pow fun t u v h=>by
 unfold powT at h;split at h
 ·split at h
  ·cases h;rename_i hc;have q:=s64_iff hc.2.2;exact⟨_,_,rfl,rfl,⟨hc.1,hc.2.1,by omega⟩,.inl ⟨_,rfl,rfl⟩⟩
  ·cases h
 ·cases h
theorem opT_cmp{op:CmpOp}{g:Int->Int->Bool}(ho:OpR X (compareOp op) (rI0 fun i j=>.bl (g i j))):OpR X (compareOp op) (rT2 X.K (cmpT g)):=zg2 (ri0 ho) fun t u v h=>by
 unfold cmpT at h;split at h
 ·cases h;exact⟨_,_,rfl,rfl,trivial,.inr ⟨_,rfl,rfl⟩⟩
 ·cases h
theorem opT_mul:OpR X (binaryOp .Mult) (rT2 X.K mulT):=by
 intro pins s σ H x y v u Q I rx ry h;obtain⟨F,t1,t2,r,fh,r1,r2,e,q⟩:=h;unfold mulT at e;split at e
 ·rename_i i j;split at e
  ·cases e;rename_i hc;rw[r1.int_inv]at rx;rw[r2.int_inv]at ry;unfold zji at hc;rw[ybf,ybf,ya1]at hc
   rcases hc with (hc|hc)|hc
   ·exact op_mul pins s σ H _ _ v u Q I rx ry ⟨i,j,rfl,rfl,.inl (s64_iff hc),q.int fh⟩
   ·exact op_mul pins s σ H _ _ v u Q I rx ry ⟨i,j,rfl,rfl,.inr (s64_iff hc),q.int fh⟩
   ·exact op_mulS pins s σ H _ _ v u Q I rx ry ⟨i,j,rfl,rfl,⟨s70_iff hc.1,s70_iff hc.2⟩,q.int fh⟩
  ·cases e
 ·split at e
  ·cases e;rename_i hc;obtain⟨p,xs,rfl,rfl,n1,k1⟩:=zda r1;rw[r2.int_inv]at ry;refine op_rep pins s σ H _ _ v u Q I rx ry ⟨p,_,xs,rfl,rfl,fh _ _ n1,(k63_iff hc.1).2,(k63_iff hc.1).1,?_,fun a ha=>q.list fh (rps_rep k1 _) ha⟩
   rw[<- k1.1,<- zdn];exact hc.2
  ·cases e
 ·split at e
  ·cases e;rename_i hc;rw[r1.str_inv]at rx;rw[r2.int_inv]at ry;obtain⟨t1,rfl⟩:=rx;obtain⟨t2,rfl⟩:=ry;exact SB.mul (mulOk_of 16 1048576 hc.2.2 (by omega) (by omega) (by decide) (by decide)) fun t' k=>⟨.str _,H,I.tok _,⟨_,rfl⟩,q.str fh⟩
  ·cases e
 ·cases e
theorem unT_neg:UnR X (unaryOp .USub) (rT1 X.K negT):=by
 intro pins s σ H x v Q I rx h;obtain⟨F,t,r,fh,r1,e,q⟩:=h;unfold negT at e;split at e
 ·cases e;rw[r1.int_inv]at rx;exact un_neg pins s σ H _ v Q I rx ⟨_,rfl,q.int fh⟩
 ·cases e
theorem depth_le{A:Around}{n:Nat}(hu:A.units+64<cLine)(h:n<=60):A.units+n<cLine:=by omega
theorem opT_eq(hu:X.A.units+64<cLine):OpR X (compareOp .Eq) (rT2 X.K eqT):=by
 intro pins s σ H x y v u Q I rx ry h;obtain⟨F,t1,t2,r,fh,r1,r2,e,q⟩:=h;unfold eqT at e;split at e
 ·cases e;rename_i hc;unfold eqOk fitT at hc;rw[ya1,ya1,ya1,ya1,decide_eq_true_eq]at hc;obtain⟨a1,q1⟩:=zff I fh (r1.any) hc.1.1.1 rx;obtain⟨a2,q2⟩:=zff I fh (r2.any) hc.1.2.1 ry;exact SeqAt.compareEq_reads q1 q2 hc.1.1.2 hc.1.2.2 (depth_le hu hc.2) ⟨.bl _,H,I,rfl,q.bl fh⟩
 ·cases e
theorem opT_ne(hu:X.A.units+64<cLine):OpR X (compareOp .NotEq) (rT2 X.K neT):=by
 intro pins s σ H x y v u Q I rx ry h;obtain⟨F,t1,t2,r,fh,r1,r2,e,q⟩:=h;unfold neT at e;split at e
 ·cases e;rename_i hc;unfold eqOk fitT at hc;rw[ya1,ya1,ya1,ya1,decide_eq_true_eq]at hc;obtain⟨a1,q1⟩:=zff I fh (r1.any) hc.1.1.1 rx;obtain⟨a2,q2⟩:=zff I fh (r2.any) hc.1.2.1 ry;exact SeqAt.compareNe_reads q1 q2 hc.1.1.2 hc.1.2.2 (depth_le hu hc.2) ⟨.bl _,H,I,rfl,q.bl fh⟩
 ·cases e
theorem opT_in(hu:X.A.units+64<cLine):OpR X (compareOp .In) (rT2 X.K inT):=by
 intro pins s σ H x y v u Q I rx ry h;obtain⟨F,t1,t2,r,fh,r1,r2,e,q⟩:=h;unfold inT at e;split at e
 ·rename_i o k l;split at e
  ·cases e;rename_i hc;unfold inOk fitT at hc;rw[ya1,ya1,ya1,ya1,decide_eq_true_eq]at hc;obtain⟨a1,q1⟩:=zff I fh (r1.any) hc.1.1.1 rx;obtain⟨a2,q2⟩:=zff I fh (r2.any) (show(T.nd o k l).pln=true from hc.1.2.1) ry;have hd:X.A.units+1+min (PyData.depthAll (zca l)) t1.data.depth<cLine:=by omega
   cases k with
   |lst=>exact ydj q2 q1 hc.1.2.2 hc.1.1.2 hd ⟨.bl _,H,I,rfl,q.bl fh⟩
   |rl=>exact ydj q2 q1 hc.1.2.2 hc.1.1.2 hd ⟨.bl _,H,I,rfl,q.bl fh⟩
   |tup=>exact SeqAt.in_tuple_reads q2 q1 hc.1.2.2 hc.1.1.2 hd ⟨.bl _,H,I,rfl,q.bl fh⟩
   |rt=>exact SeqAt.in_tuple_reads q2 q1 hc.1.2.2 hc.1.1.2 hd ⟨.bl _,H,I,rfl,q.bl fh⟩
   |pin _=>exact ydj q2 q1 hc.1.2.2 hc.1.1.2 hd ⟨.bl _,H,I,rfl,q.bl fh⟩
  ·cases e
 ·unfold inS at e;split at e
  ·cases e;rw[r1.str_inv]at rx;rw[r2.str_inv]at ry;exact op_in_str pins s σ H _ _ v u Q I rx ry ⟨_,_,rfl,rfl,q.bl fh⟩
  ·cases e
 ·cases e
end
end Pu
set_option Elab.async false
set_option linter.all false
set_option maxRecDepth 100000
namespace Pu
open PySem PySem.Spec PyProof.Rows L2 Zw Zx
inductive Rs where
 |v (t:T) (b:Bool)|x (c:Str)
inductive RsL where
 |v (ts:List T) (b:Bool)|x (c:Str)
def tot(R:Nat->Rg):Rg:=fun a=>∃i,R i a
def Got(K:PySem.W.Frag)(F H:Hp)(R:Nat->Rg)(v:T)(b:Bool)(x:V)(B:Rg):Prop:=match b with
 |true=>B=R0/\∃A,(∀a,A a->tot R a)/\Rp K F H v x A
 |false=>Rp K F H v x B
noncomputable def Gz(b:Bool)(F H:Hp)(R:Nat->Rg):Hp:=match b with
 |true=>frz F H (tot R)
 |false=>F
section
variable {K:PySem.W.Frag}{F H F1 H1:Hp}{σ:L2.St}{τ:PSt}{R:Nat->Rg}{B:Rg}{b c:Bool}{v:T}{x:V}
theorem StR.tot(S:StR K F H σ τ R){a:Addr}(h:tot R a):F a=none/\∃u,H a=some u:=by
 obtain⟨i,z⟩:=h;exact S.dom z
theorem gz_ff(S:StR K F H σ τ R):zbh F (Gz b F H R):=by
 cases b with
 |true=>exact zf2 fun a z=>(S.tot z).1
 |false=>exact .refl _
theorem gz_fh(S:StR K F H σ τ R):zbh (Gz b F H R) H:=by
 cases b with
 |true=>exact zk9 S.fh
 |false=>exact S.fh
theorem gz_mono(S:StR K F H σ τ R)(e:Ext F H F1 H1 B)(h:b=true->c=true):zbh (Gz b F H R) (Gz c F1 H1 R):=by
 have S1:=S.ext e;cases b with
 |false=>exact e.ff.trans (gz_ff S1)
 |true =>
  rw[h rfl];intro a u q;show frz F1 H1 (Pu.tot R) a=some u
  by_cases z:Pu.tot R a
  ·rw[zhf z];have q':frz F H (Pu.tot R) a=some u:=q;rw[zhf z]at q';exact e.hh _ _ q'
  ·rw[zek z];have q':frz F H (Pu.tot R) a=some u:=q;rw[zek z]at q';exact e.ff _ _ q'
theorem Got.frz(S:StR K F H σ τ R)(e:Ext F H F1 H1 B)(g:Got K F1 H1 R v b x B):∃F2,Ext F H F2 H1 R0/\zbh F1 F2/\Rp K (Gz b F2 H1 R) (Gz b F2 H1 R) v.share x R0:=by
 have S1:=S.ext e;cases b with
 |true =>
  obtain⟨rfl,A,hA,r⟩:=g
  exact⟨F1,e,.refl _,r.share (gz_ff (b:=true) S1) fun a u z q=>by
   show Pu.frz F1 H1 (Pu.tot R) a=some u;rw[zhf (hA a z)];exact q⟩
 |false =>
  have g':Rp K F1 H1 v x B:=g;have n:∀a,B a->F1 a=none:=fun a z=>(g'.dom z).1
  exact⟨_,e.frz n,zf2 n,g'.share (zf2 n) fun a u z q=>by
   show Pu.frz F1 H1 B a=some u;rw[zhf z];exact q⟩
theorem Ext.grow{H2:Hp}(e:Ext F H F1 H1 R0)(s:zbh H1 H2):Ext F H F1 H2 R0:=⟨e.hh.trans s,e.ff,e.fh.trans s,fun _ z=>z.elim,e.nf⟩
end
def tM(K:PySem.W.Frag)(E:L2.St->XK)(ca:Str->Value)(m:PSt->Option Rs):TE:=fun σ H Q=>∃F τ R,StR K F H σ τ R/\match m τ with
 |some (.v v b)=>∀F' H' x B,Ext F H F' H' B->Got K F' H' R v b x B->Q x H'
 |some (.x c)=>∀F' H',Ext F H F' H' R0->E σ (ca c) none H'
 |none=>False
def tMs(K:PySem.W.Frag)(E:L2.St->XK)(ca:Str->Value)(m:PSt->Option RsL):TA:=fun σ H Q=>∃F τ R,StR K F H σ τ R/\match m τ with
 |some (.v ts b)=>∀F' H' xs,Ext F H F' H' R0->Rps K (Gz b F' H' R) ts xs->Q xs H'
 |some (.x c)=>∀F' H',Ext F H F' H' R0->E σ (ca c) none H'
 |none=>False
def tMB(K:PySem.W.Frag)(E:L2.St->XK)(ca:Str->Value)(m:PSt->Option Rs):TT:=fun σ H Q=>∃F τ R,StR K F H σ τ R/\match m τ with
 |some (.v (.bl c) _)=>∀F' H',Ext F H F' H' R0->Q c H'
 |some (.v _ _)=>False
 |some (.x c)=>∀F' H',Ext F H F' H' R0->E σ (ca c) none H'
 |none=>False
def za5(i:Nat):PSt->Option Rs:=fun τ=>match τ[i]? with
 |some (some t)=>some (.v t (!t.sh))
 |_=>none
def mC(t:T):PSt->Option Rs:=fun _=>some (.v t false)
def za4:PSt->Option RsL:=fun _=>some (.v [] false)
def za0(m:PSt->Option Rs)(ms:PSt->Option RsL):PSt->Option RsL:=fun τ=>match m τ with
 |some (.v t b)=>(match ms τ with
  |some (.v ts b')=>some (.v (t.share::ts) (b || b'))
  |r=>r)
 |some (.x c)=>some (.x c)
 |none=>none
def fin(b:Bool)(v:T):Option Rs:=if b && !v.flat then none else some (.v v false)
def mAp(g:List T->Option T)(ms:PSt->Option RsL):PSt->Option Rs:=fun τ=>match ms τ with
 |some (.v ts b)=>(match g ts with
  |some v=>fin b v
  |none=>none)
 |some (.x c)=>some (.x c)
 |none=>none
def g2(g:T->T->Option T):List T->Option T
 |[t,u]=>g t u
 |_=>none
def g1(g:T->Option T):List T->Option T
 |[t]=>g t
 |_=>none
def mIf(c:PSt->Option Rs)(a b:PSt->Option Rs):PSt->Option Rs:=fun τ=>match c τ with
 |some (.v (.bl true) _)=>a τ
 |some (.v (.bl false) _)=>b τ
 |some (.x c)=>some (.x c)
 |_=>none
def zjj(c:PSt->Option Rs):PSt->Option Rs:=fun τ=>match c τ with
 |some (.v (.bl b) _)=>some (.v (.bl (!b)) false)
 |some (.x c)=>some (.x c)
 |_=>none
def mAnd(a b:PSt->Option Rs):PSt->Option Rs:=mIf a b (mC (.bl false))
def mOr(a b:PSt->Option Rs):PSt->Option Rs:=mIf a (mC (.bl true)) b
section
variable {X:Cx}{E:L2.St->XK}{ca:Str->Value}{σ:L2.St}{H:Hp}{m ma mb mc:PSt->Option Rs}{ms:PSt->Option RsL}{K:PySem.W.Frag}{a b c e:Expr}{es:List Expr}{pos:Pos}
theorem PE.weak{t t':TE}(h:PE X e t)(w:∀σ H Q,t' σ H Q->t σ H Q):PE X e t':=fun pins s σ H Q I q=>h pins s σ H Q I (w σ H Q q)
theorem PT.weak{t t':TT}(h:PT X e t)(w:∀σ H Q,t' σ H Q->t σ H Q):PT X e t':=fun pins s σ H Q I q=>h pins s σ H Q I (w σ H Q q)
theorem PA.weak{t t':TA}(h:PA X es t)(w:∀σ H Q,t' σ H Q->t σ H Q):PA X es t':=fun pos pins s σ H Q I q=>h pos pins s σ H Q I (w σ H Q q)
theorem tM.mono{Q Q':VK}(h:tM K E ca m σ H Q)(w:∀x H',Q x H'->Q' x H'):tM K E ca m σ H Q':=by
 obtain⟨F,τ,R,S,q⟩:=h;refine⟨F,τ,R,S,?_⟩;cases hm:m τ with
 |none=>rw[hm]at q;exact q
 |some r =>
  rw[hm]at q;cases r with
  |v v b=>exact fun F' H' x B e g=>w _ _ (q F' H' x B e g)
  |x c=>exact q
theorem tMs.mono{Q Q':List V->Hp->Prop}(h:tMs K E ca ms σ H Q)(w:∀x H',Q x H'->Q' x H'):tMs K E ca ms σ H Q':=by
 obtain⟨F,τ,R,S,q⟩:=h;refine⟨F,τ,R,S,?_⟩;cases hm:ms τ with
 |none=>rw[hm]at q;exact q
 |some r =>
  rw[hm]at q;cases r with
  |v v b=>exact fun F' H' x e g=>w _ _ (q F' H' x e g)
  |x c=>exact q
theorem zfz{Q:List V->Hp->Prop}(h:tMs K E ca za4 σ H Q):Q [] H:=by
 obtain⟨F,τ,R,S,q⟩:=h;exact q F H [] (Ext.refl S.fh) .nil
theorem ze8{Q:List V->Hp->Prop}(h:tMs K E ca (za0 m ms) σ H Q):tM K E ca m σ H fun x H1=>tMs K E ca ms σ H1 fun xs H2=>Q (x::xs) H2:=by
 obtain⟨F,τ,R,S,q⟩:=h;refine⟨F,τ,R,S,?_⟩;unfold za0 at q;cases hm:m τ with
 |none=>rw[hm]at q;exact q
 |some r =>
  rw[hm]at q;cases r with
  |x c=>exact q
  |v t b =>
   intro F' H' x B e g;obtain⟨F2,e2,_,r2⟩:=Got.frz S e g;have S2:=S.ext e2;refine⟨F2,τ,R,S2,?_⟩;cases hs:ms τ with
   |none=>simp only[hs]at q
   |some r =>
    simp only[hs]at q;cases r with
    |x c=>exact fun F3 H3 e3=>q F3 H3 (e2.trans0 e3)
    |v ts b' =>
     intro F3 H3 xs e3 rs;refine q F3 H3 (x::xs) (e2.trans0 e3) ?_;refine .cons (H:=H3) ((r2.frame (gz_mono S2 e3 (by intro z;simp[z])) fun a z=>z.elim)) ?_
     cases b' with
     |true=>rw[ydz];exact rs
     |false =>
      rw[yd0];cases b with
      |false=>exact rs
      |true=>exact rs.same (gz_ff (b:=true) (S2.ext e3))
theorem tM_ap{g:List T->Option T}{Q:VK}(h:tM K E ca (mAp g ms) σ H Q):tMs K E ca ms σ H fun xs H1=>rTn K g xs H1 Q:=by
 obtain⟨F,τ,R,S,q⟩:=h;refine⟨F,τ,R,S,?_⟩;unfold mAp at q;cases hs:ms τ with
 |none=>simp only[hs]at q
 |some r =>
  simp only[hs]at q;cases r with
  |x c=>exact q
  |v ts b =>
   intro F1 H1 xs e1 rs;have S1:=S.ext e1;cases hg:g ts with
   |none=>simp only[hg]at q
   |some v =>
    simp only[hg]at q;refine⟨Gz b F1 H1 R,ts,v,gz_fh S1,rs,hg,fun F2 H2 z C e2 r2=>?_⟩
    unfold fin at q;cases b with
    |false=>exact q F2 H2 z C (e1.trans0 e2) r2
    |true =>
     cases hf:v.flat with
     |false =>
      rw[hf]at q;exact False.elim q
     |true =>
      rw[hf]at q;exact q F1 H2 z R0 (e1.grow e2.hh) (r2.flat_any hf)
theorem rTn2{g:T->T->Option T}{x y:V}{Q:VK}(h:rTn K (g2 g) [x,y] H Q):rT2 K g x y H Q:=by
 obtain⟨F,ts,v,fh,rs,e,q⟩:=h;unfold g2 at e;split at e
 ·obtain⟨x1,xs1,e1,r1,rs1⟩:=rs.inv;obtain⟨x2,xs2,e2,r2,rs2⟩:=rs1.inv;cases e1;cases e2;exact⟨F,_,_,v,fh,r1,r2,e,q⟩
 ·cases e
theorem rTn1{g:T->Option T}{x:V}{Q:VK}(h:rTn K (g1 g) [x] H Q):rT1 K g x H Q:=by
 obtain⟨F,ts,v,fh,rs,e,q⟩:=h;unfold g1 at e;split at e
 ·obtain⟨x1,xs1,e1,r1,rs1⟩:=rs.inv;cases e1;exact⟨F,_,v,fh,r1,e,q⟩
 ·cases e
theorem tM_op2{g:T->T->Option T}{Q:VK}(h:tM K E ca (mAp (g2 g) (za0 ma (za0 mb za4))) σ H Q):tOp (rT2 K g) (tM K E ca ma) (tM K E ca mb) σ H Q :=
 (ze8 (tM_ap h)).mono fun x H1 h1=>(ze8 h1).mono fun y H2 h2=>rTn2 (zfz h2)
theorem tM_op1{g:T->Option T}{Q:VK}(h:tM K E ca (mAp (g1 g) (za0 ma za4)) σ H Q):tUn (rT1 K g) (tM K E ca ma) σ H Q :=
 (ze8 (tM_ap h)).mono fun x H1 h1=>rTn1 (zfz h1)
theorem r_var{i:Nat}{x:Str}(hN:X.N[i]?=some x)(hv:Vis X.env.scope x)(hd:(x == ("__debug__":Str))=false)(hcd:(x == ("__classdict__":Str))=false):PE X (.Name x pos) (tM X.K E ca (za5 i)):=by
 refine PE.weak (zif hN hv hd hcd) fun σ H Q h=>?_
 obtain⟨F,τ,R,S,q⟩:=h;unfold za5 at q;split at q
 ·rename_i t b hm;split at hm
  ·rename_i ht;cases hm;obtain⟨x,e,r⟩:=S.rep i t ht;refine⟨x,e,q F H x R0 (Ext.refl S.fh) ?_⟩;cases hs:t.sh with
   |true=>exact r.move hs (.refl _)
   |false=>exact⟨rfl,R i,fun a z=>⟨i,z⟩,r⟩
  ·cases hm
 ·rename_i c hm;split at hm<;>cases hm
 ·exact q.elim
theorem zib{t:T}{v:V}(h:PE X e (tC v))(r:∀F H,Rp X.K F H t v R0):PE X e (tM X.K E ca (mC t)):=PE.weak h fun σ H Q h=>by
 obtain⟨F,τ,R,S,q⟩:=h;exact q F H v R0 (Ext.refl S.fh) (r _ _)
theorem r_nil:PA X [] (tMs X.K E ca za4):=PA.weak zfq fun σ H Q h=>zfz h
theorem r_cons(ha:PE X e (tM X.K E ca m))(hr:PA X es (tMs X.K E ca ms))(hs:starEach (e::es) X.env=(false,eval e X.env)::starEach es X.env):PA X (e::es) (tMs X.K E ca (za0 m ms)) :=
 PA.weak (zd9 ha hr hs) fun σ H Q h=>ze8 h
theorem r_bin{op:Operator}{g:T->T->Option T}(ho:OpR X (binaryOp op) (rT2 X.K g))(ha:PE X a (tM X.K E ca ma))(hb:PE X b (tM X.K E ca mb)):PE X (.BinOp a op b pos) (tM X.K E ca (mAp (g2 g) (za0 ma (za0 mb za4)))) :=
 PE.weak (pe_op ho ha hb) fun σ H Q h=>tM_op2 h
theorem r_un{op:UnaryOp}{g:T->Option T}(ho:UnR X (unaryOp op) (rT1 X.K g))(ha:PE X a (tM X.K E ca ma)):PE X (.UnaryOp op a pos) (tM X.K E ca (mAp (g1 g) (za0 ma za4))) :=
 PE.weak (pe_un ho ha) fun σ H Q h=>tM_op1 h
theorem r_cmp{op:CmpOp}{g:T->T->Option T}(ho:OpR X (compareOp op) (rT2 X.K g))(ha:PE X a (tM X.K E ca ma))(hb:PE X b (tM X.K E ca mb))(hm:behindInMarks op b=false):PE X (.Compare a [op] [b] pos) (tM X.K E ca (mAp (g2 g) (za0 ma (za0 mb za4)))) :=
 PE.weak (pe_cmpR ho ha hb hm) fun σ H Q h=>tM_op2 h
theorem tMB_val{Q:Bool->Hp->Prop}(h:tMB K E ca m σ H Q):tM K E ca m σ H fun x H1=>∃k,x=.bl k/\Q k H1:=by
 obtain⟨F,τ,R,S,q⟩:=h;refine⟨F,τ,R,S,?_⟩;cases hm:m τ with
 |none=>rw[hm]at q;exact q
 |some r =>
  rw[hm]at q;cases r with
  |x c=>exact q
  |v v b =>
   cases v with
   |bl k =>
    intro F' H' x B e g
    have hx:x=.bl k:=by
     cases b with
     |true=>obtain⟨_,A,_,r⟩:=g;exact r.bl_inv
     |false=>exact(show Rp K F' H' _ _ _ from g).bl_inv
    exact⟨k,hx,q F' H' (e.mono fun _ z=>z.elim)⟩
   |_=>exact q.elim
theorem r_tcmp{op:CmpOp}{g:T->T->Option T}(ho:OpR X (compareOp op) (rT2 X.K g))(ha:PE X a (tM X.K E ca ma))(hb:PE X b (tM X.K E ca mb))(hm:behindInMarks op b=false):PT X (.Compare a [op] [b] pos) (tMB X.K E ca (mAp (g2 g) (za0 ma (za0 mb za4)))) :=
 PT.weak (pt_cmpR ho ha hb hm) fun σ H Q h=>tM_op2 (tMB_val h)
theorem r_tval(h:PE X e (tM X.K E ca m))(he:∀whole,isTrue e X.env whole=(do let v <- whole;standAt e.pos;holding [v] (truthy v))):PT X e (tMB X.K E ca m):=PT.weak (pt_val h he) fun σ H Q h=>tMB_val h
theorem tMB_if{Q:Bool->Hp->Prop}(h:tMB K E ca (mIf mc ma mb) σ H Q):tMB K E ca mc σ H fun k H1=>if k=true then tMB K E ca ma σ H1 Q else tMB K E ca mb σ H1 Q:=by
 obtain⟨F,τ,R,S,q⟩:=h;refine⟨F,τ,R,S,?_⟩;unfold mIf at q;cases hm:mc τ with
 |none=>simp only[hm]at q
 |some r =>
  simp only[hm]at q;cases r with
  |x c=>exact q
  |v v b =>
   cases v with
   |bl k =>
    intro F1 H1 e1;have S1:=S.ext e1
    have key:∀{mm:PSt->Option Rs},(match mm τ with
      |some (.v (.bl c) _)=>∀F' H',Ext F H F' H' R0->Q c H'
      |some (.v _ _)=>False
      |some (.x c)=>∀F' H',Ext F H F' H' R0->E σ (ca c) none H'
      |none=>False)->tMB K E ca mm σ H1 Q:=fun {mm} q=>by
     refine⟨F1,τ,R,S1,?_⟩;cases hr:mm τ with
     |none=>simp only[hr]at q
     |some r =>
      simp only[hr]at q;cases r with
      |x c=>exact fun F' H' e=>q F' H' (e1.trans0 e)
      |v v b =>
       cases v with
       |bl k=>exact fun F' H' e=>q F' H' (e1.trans0 e)
       |_=>exact q.elim
    cases k with
    |true=>exact iteT (key q)
    |false=>exact iteF (key q)
   |_=>exact q.elim
theorem tM_if{Q:VK}(h:tM K E ca (mIf mc ma mb) σ H Q):tMB K E ca mc σ H fun k H1=>if k=true then tM K E ca ma σ H1 Q else tM K E ca mb σ H1 Q:=by
 obtain⟨F,τ,R,S,q⟩:=h;refine⟨F,τ,R,S,?_⟩;unfold mIf at q;cases hm:mc τ with
 |none=>simp only[hm]at q
 |some r =>
  simp only[hm]at q;cases r with
  |x c=>exact q
  |v v b =>
   cases v with
   |bl k =>
    intro F1 H1 e1;have S1:=S.ext e1
    have key:∀{mm:PSt->Option Rs},(match mm τ with
      |some (.v v b)=>∀F' H' x B,Ext F H F' H' B->Got K F' H' R v b x B->Q x H'
      |some (.x c)=>∀F' H',Ext F H F' H' R0->E σ (ca c) none H'
      |none=>False)->tM K E ca mm σ H1 Q:=fun {mm} q=>by
     refine⟨F1,τ,R,S1,?_⟩;cases hr:mm τ with
     |none=>simp only[hr]at q
     |some r =>
      simp only[hr]at q;cases r with
      |x c=>exact fun F' H' e=>q F' H' (e1.trans0 e)
      |v v b=>exact fun F' H' x B e g=>q F' H' x B (e1.trans0 e) g
    cases k with
    |true=>exact iteT (key q)
    |false=>exact iteF (key q)
   |_=>exact q.elim
theorem r_ife(hc:PT X c (tMB X.K E ca mc))(ha:PE X a (tM X.K E ca ma))(hb:PE X b (tM X.K E ca mb)):PE X (.IfExp c a b pos) (tM X.K E ca (mIf mc ma mb)):=PE.weak (pe_ifExp hc ha hb) fun σ H Q h=>tM_if h
theorem tMB_not{Q:Bool->Hp->Prop}(h:tMB K E ca (zjj mc) σ H Q):tNot (tMB K E ca mc) σ H Q:=by
 obtain⟨F,τ,R,S,q⟩:=h;refine⟨F,τ,R,S,?_⟩;unfold zjj at q;cases hm:mc τ with
 |none=>simp only[hm]at q
 |some r =>
  simp only[hm]at q;cases r with
  |x c=>exact q
  |v v b =>
   cases v with
   |bl k=>exact q
   |_=>exact q.elim
theorem r_tnot(hc:PT X c (tMB X.K E ca mc)):PT X (.UnaryOp .Not c pos) (tMB X.K E ca (zjj mc)):=PT.weak (pt_not hc) fun σ H Q h=>tMB_not h
theorem tM_not{Q:VK}(h:tM K E ca (zjj mc) σ H Q):tNotV (tM K E ca mc) σ H Q:=by
 obtain⟨F,τ,R,S,q⟩:=h;refine⟨F,τ,R,S,?_⟩;unfold zjj at q;cases hm:mc τ with
 |none=>simp only[hm]at q
 |some r =>
  simp only[hm]at q;cases r with
  |x c=>exact q
  |v v b =>
   cases v with
   |bl k =>
    intro F' H' x B e g
    have hx:x=.bl k:=by
     cases b with
     |true=>obtain⟨_,A,_,r⟩:=g;exact r.bl_inv
     |false=>exact(show Rp K F' H' _ _ _ from g).bl_inv
    exact⟨k,hx,q F' H' _ R0 (e.mono fun _ z=>z.elim) (.bl _)⟩
   |_=>exact q.elim
theorem r_not(ha:PE X a (tM X.K E ca ma)):PE X (.UnaryOp .Not a pos) (tM X.K E ca (zjj ma)):=PE.weak (pe_not ha) fun σ H Q h=>tM_not h
theorem tM_ifV{Q:VK}(h:tM K E ca (mIf mc ma mb) σ H Q):tM K E ca mc σ H fun x H1=>∃k,x=.bl k/\if k=true then tM K E ca ma σ H1 Q else tM K E ca mb σ H1 Q:=tMB_val (tM_if h)
theorem tM_c{t:T}{v:V}(r:∀F H,Rp K F H t v R0){Q:VK}(h:tM K E ca (mC t) σ H Q):Q v H:=by
 obtain⟨F,τ,R,S,q⟩:=h;exact q F H v R0 (Ext.refl S.fh) (r _ _)
theorem r_and{zfg:List Expr}(ha:PE X a (tM X.K E ca ma))(hb:PE X (.BoolOp .And (b::zfg) pos) (tM X.K E ca mb)):PE X (.BoolOp .And (a::b::zfg) pos) (tM X.K E ca (mAnd ma mb)) :=
 PE.weak (pe_and ha hb) fun σ H Q h=>(tM_ifV h).mono fun x H1 ⟨k,e,q⟩=>⟨k,e,by
  cases k with
  |true=>exact q
  |false=>exact tM_c (E:=E) (ca:=ca) (fun _ _=>.bl _) q⟩
theorem r_or{zfg:List Expr}(ha:PE X a (tM X.K E ca ma))(hb:PE X (.BoolOp .Or (b::zfg) pos) (tM X.K E ca mb)):PE X (.BoolOp .Or (a::b::zfg) pos) (tM X.K E ca (mOr ma mb)) :=
 PE.weak (pe_or ha hb) fun σ H Q h=>(tM_ifV h).mono fun x H1 ⟨k,e,q⟩=>⟨k,e,by
  cases k with
  |true=>exact tM_c (E:=E) (ca:=ca) (fun _ _=>.bl _) q
  |false=>exact q⟩
theorem r_one{op:BoolOp}(ha:PE X a (tM X.K E ca ma)):PE X (.BoolOp op [a] pos) (tM X.K E ca ma):=pe_one ha
theorem tMB.mono{Q Q':Bool->Hp->Prop}(h:tMB K E ca m σ H Q)(w:∀x H',Q x H'->Q' x H'):tMB K E ca m σ H Q':=by
 obtain⟨F,τ,R,S,q⟩:=h;refine⟨F,τ,R,S,?_⟩;cases hm:m τ with
 |none=>rw[hm]at q;exact q
 |some r =>
  rw[hm]at q;cases r with
  |v v b =>
   cases v with
   |bl k=>exact fun F' H' e=>w _ _ (q F' H' e)
   |_=>exact q.elim
  |x c=>exact q
theorem tMB_c{k:Bool}{Q:Bool->Hp->Prop}(h:tMB K E ca (mC (.bl k)) σ H Q):Q k H:=by
 obtain⟨F,τ,R,S,q⟩:=h;exact q F H (Ext.refl S.fh)
theorem PW.weak{t t':TT}(h:PW X e t)(w:∀σ H Q,t' σ H Q->t σ H Q):PW X e t':=fun wh pins s σ H Q I q=>h wh pins s σ H Q I (w σ H Q q)
theorem r_wand{zfg:List Expr}(ha:PT X a (tMB X.K E ca ma))(hb:PW X (.BoolOp .And (b::zfg) pos) (tMB X.K E ca mb)):PW X (.BoolOp .And (a::b::zfg) pos) (tMB X.K E ca (mAnd ma mb)) :=
 PW.weak (pw_and ha hb) fun σ H Q h=>(tMB_if h).mono fun k H1 q=>by
  cases k with
  |true=>exact q
  |false=>exact tMB_c (E:=E) (ca:=ca) q
theorem r_wor{zfg:List Expr}(ha:PT X a (tMB X.K E ca ma))(hb:PW X (.BoolOp .Or (b::zfg) pos) (tMB X.K E ca mb)):PW X (.BoolOp .Or (a::b::zfg) pos) (tMB X.K E ca (mOr ma mb)) :=
 PW.weak (pw_or ha hb) fun σ H Q h=>(tMB_if h).mono fun k H1 q=>by
  cases k with
  |true=>exact tMB_c (E:=E) (ca:=ca) q
  |false=>exact q
theorem r_wone1(ha:PT X a (tMB X.K E ca ma)):PW X (.BoolOp .And [a] pos) (tMB X.K E ca ma):=pw_and1 ha
theorem r_wone2(ha:PT X a (tMB X.K E ca ma)):PW X (.BoolOp .Or [a] pos) (tMB X.K E ca ma):=pw_or1 ha
end
end Pu
set_option Elab.async false
set_option linter.all false
set_option maxRecDepth 100000
namespace Pu
open PySem PySem.Spec PyProof.Rows L2 Zw Zx
section
variable {X:Cx}{pins:List (Addr×Obj)}{σ:L2.St}{H:Hp}{s:Shared}{h':Heap}
theorem zfy{t':Nat}{ch:List Addr}(I:Inv X pins σ H s)(k:∀b o,b∉ch->s.heap.get? b=some o->h'.get? b=some o)(f:∀b∈ch,FpOk X pins H b):Inv X pins σ H { s with heap:=h',toks:=t' }:=by
 have nit:∀b u,H b=some u->b∉ch:=fun b u e z=>by rw[(f b z).1]at e;cases e
 refine I.step (g':=s.gens) (d':=s.drawn) (ch:=ch) (fun b hb=>?_) (fun b o _ _ hc e _=>k b o hc e) (fun b o _ _ hc e _=>⟨o.slots,k b o hc e⟩) (fun _ _ _ _ n=>n)
  (fun b o hc e=>⟨o,k b o hc e⟩) (fun _ _ e=>e) (fun _ _ _ e=>e) (fun b ps e=>⟨#[],by rw[e];simp⟩) (fun m hm=>?_) (fun b u e=>?_) I.bare
 ·obtain⟨_,f1,f2,f3,f4,f5⟩:=f b hb;exact⟨f3,f1,f4,f5⟩
 ·obtain⟨o,es,ep,ho,r⟩:=hm;exact⟨o,es,ep,k _ o (fun z=>(f _ z).2.1 rfl) ho,r⟩
 ·refine(I.hok b u e).stay (fun c v hc q=>k c v ?_ q) (fun _ q=>q) fun _ _ q=>q
  rcases hc with z|z
  ·rw[z];exact nit b u e
  ·exact nit c _ z
theorem zjy{t':Nat}{ch:List Addr}{p:Addr}{o:HO}(I:Inv X pins σ H s)(k:∀b o,b∉ch->s.heap.get? b=some o->h'.get? b=some o)(f:∀b∈ch,FpOk X pins H b)(hp:s.heap.objs.size<=p)(new:zbt X.prog X.w (upd H p o) h' p o) :
  Inv X pins σ (upd H p o) { s with heap:=h',toks:=t' }:=by
 have hn:H p=none:=I.hok.fresh hp;have nit:∀b u,H b=some u->b∉ch:=fun b u e z=>by rw[(f b z).1]at e;cases e
 have old:∀b ob,s.heap.get? b=some ob->b≠p:=fun b ob e z=>by
  subst z;exact absurd (yac e) (Nat.not_lt.mpr hp)
 refine I.step (g':=s.gens) (d':=s.drawn) (ch:=ch) (fun b hb=>?_) (fun b o _ _ hc e _=>k b o hc e) (fun b o _ _ hc e _=>⟨o.slots,k b o hc e⟩) (fun b ob hc e n=>by rw[zah (old b ob e)];exact n)
  (fun b o hc e=>⟨o,k b o hc e⟩) (fun b xs e=>by rw[zah (zag e hn)];exact e) (fun b o u e=>by rw[zah (zag e hn)];exact e) (fun b ps e=>⟨#[],by rw[zah (zag e hn),e];simp⟩) (fun m hm=>?_) (fun b u e=>?_) I.bare
 ·obtain⟨_,f1,f2,f3,f4,f5⟩:=f b hb;exact⟨f3,f1,f4,f5⟩
 ·obtain⟨o,es,ep,ho,r⟩:=hm;exact⟨o,es,ep,k _ o (fun z=>(f _ z).2.1 rfl) ho,r⟩
 ·by_cases hb:b=p
  ·subst hb;rw[zb2]at e;cases e;exact new
  ·rw[zah hb]at e;refine(I.hok b u e).stay (fun c v hc q=>k c v ?_ q) (fun c q=>by rw[zah (zag q hn)];exact q) fun c xs q=>by rw[zah (zag q hn)];exact q
   rcases hc with z|z
   ·rw[z];exact nit b u e
   ·exact nit c _ z
theorem fp_upd{p b:Addr}{o:HO}(f:FpOk X pins H b)(h:b≠p):FpOk X pins (upd H p o) b:=⟨by rw[zah h];exact f.1,f.2⟩
end
def Ite(K:PySem.W.Frag)(l:Addr):It :=
 ⟨fun i H=>∃xs x,SqL K H l xs/\xs[i]?=some x,fun i H x H'=>∃p y,x=.ref p/\H p=none/\H'=upd H p (.tup [.int i,y])/\∀xs,SqL K H l xs->xs[i]?=some y,fun i H=>∃xs,SqL K H l xs/\xs.length<=i⟩
theorem turn_enum{P:Program}{w:World}{K:PySem.W.Frag}{elts:List Expr}{kk:Nat}{tpos:Pos}(l e it:Addr)(hei:e≠it) :
  Turn P w K (.Tuple elts kk tpos) (Ite K l) [e,it] e (fun i h=>(∃old,IsEnum h e it i old)/\h.IsListIter it l i) where
 mem:=by simp
 obj:=fun i h st b hb=>by
  obtain⟨⟨old,he⟩,o,hi,hc,hd⟩:=st;obtain rfl|hb:=ya3.mp hb
  ·exact⟨_,he,fun v z=>by
    have z':Data.fields _=Data.cell v:=z;cases z'⟩
  ·have q:b=it:=by simpa using hb
   subst q;exact⟨o,hi,fun v z=>by rw[hd]at z;cases z⟩
 keep:=fun i h h' st k=>by
  obtain⟨⟨old,he⟩,hi⟩:=st;exact⟨⟨old,k e (by simp) _ he⟩,hi.at fun o q=>k it (by simp) o q⟩
 item:=by
  intro X hP hw hK hc i pins s σ H E I hf st hg;subst hP hw hK;obtain⟨⟨old,he⟩,hit⟩:=st;obtain⟨xs,x,hq,hx⟩:=hg;obtain⟨its,rv,p,hz⟩:=I.list hq;obtain⟨u,hu,ru⟩:=rv.get hx;have elt:e<s.heap.objs.size:=yac he;have ilt:it<s.heap.objs.size:=by obtain⟨o,q,_⟩:=hit;exact yac q
  have hn:H s.heap.objs.size=none:=I.hok.fresh (yab _);refine wpAny_pyNext_enum_item he hit p.isList (x:=u) (by simpa using hu) hei fun h' ho hit' hT hsz hk=>?_
  have I1:Inv X pins σ (upd H s.heap.objs.size (.tup [.int i,x])) { s with heap:=h',toks:=s.toks+1 }:=by
   refine zjy (ch:=[e,it]) I (fun b o hb q=>hk b o (fun z=>hb (by simp[z])) (fun z=>hb (by simp[z])) q) hf (yab _) ?_
   exact⟨by simp only[yaa,ybx];rw[sizeLine_eq];decide,[.int i s.toks,u],.cons ⟨_,rfl⟩ (.cons ru .nil),_,hT,rfl,0,rfl⟩
  have f1:∀b∈[e,it],FpOk X pins (upd H s.heap.objs.size (.tup [.int i,x])) b:=fun b hb=>fp_upd (hf b hb) (by
   obtain rfl|hb:=ya3.mp hb
   ·exact yao elt
   ·have q:b=it:=by simpa using hb
    subst q;exact yao ilt)
  refine⟨.ref s.heap.objs.size,rfl,wpAny_letOwnedTupleGo_enum ho fun h2 he2 hs2=>?_⟩
  refine⟨.ref s.heap.objs.size,_,zfy (t':=s.toks+1) (ch:=[e]) I1 (fun b o hb q=>hs2.extBut b o (fun z=>hb (by simp[z])) q) (fun b hb=>f1 b (by simp at hb;simp[hb])),rfl,⟨_,x,rfl,hn,rfl,fun ys hy=>by rw[I.list_inj hy hq];exact hx⟩,⟨⟨_,by simpa using he2⟩,hit'.extBut hs2.extBut hei.symm⟩,fun b hb=>(f1 b hb).1⟩
 done:=by
  intro X hP hw hK hc i pins s σ H E I hf st hg;subst hP hw hK;obtain⟨⟨old,he⟩,hit⟩:=st;obtain⟨xs,hq,hx⟩:=hg;obtain⟨its,rv,p,hz⟩:=I.list hq;have hl:=rv.length;exact wpAny_pyNext_enum_end (I.ok.hd hc) he hit p.isList (by simp;omega) fun h' eb=>⟨rfl,zfy (t':=s.toks) (ch:=[it]) I (fun b o hb q=>eb b o (fun z=>hb (by simp[z])) q) (fun b hb=>hf b (by simp at hb;simp[hb]))⟩
 self:=fun _ _ _ _ _ st h=>wpAny_pyIter_enum st.1.choose_spec h
section
variable {X:Cx}{elts:List Expr}{kk:Nat}{tpos:Pos}
def iEnum(K:PySem.W.Frag)(ta:TA):TI:=fun σ H R=>ta σ H fun vs H1=>∃a,vs=[.ref a]/\(∃xs,SqL K H1 a xs)/\R (Ite K a) H1
theorem pi_enum{a:Expr}{ta:TA}{p pos:Pos}(hg:Gl X "enumerate")(hm:X.mg "enumerate"=none)(ha:PA X [a] ta)(hs:starEach [a] X.env=[(false,eval a X.env)]):PI X (.Tuple elts kk tpos) (.Call (.Name "enumerate" p) [a] [] pos) (iEnum X.K ta):=by
 intro pins s σ H R I h;refine Call_ (zgg I hg hm boot_enumerate (yb2 (thn (ha pos pins s σ H _ I h) fun us s1 ⟨vs,H1,I1,r1,q1⟩=>?_) hs rfl))
 obtain⟨l,e,⟨xs,hq⟩,q⟩:=q1;subst e;obtain⟨u,rfl,ru⟩:=zgq r1;cases ru;obtain⟨its,rv,pl,hz⟩:=I1.list hq;have llt:l<s1.heap.objs.size:=by obtain⟨o,n,e,_⟩:=pl;exact yac e
 refine call_enumerate_list pl.isList fun h' he hit hsz hk=>?_
 have I2:Inv X pins σ H1 { s1 with heap:=h',toks:=s1.toks }:=I1.kept hk
 refine wpAny_pyIter_enum he ⟨s1.heap.objs.size+1,[s1.heap.objs.size+1,s1.heap.objs.size],_,_,H1,rfl,I2,turn_enum l _ _ (by simp),⟨⟨_,he⟩,hit⟩,fun b hb=>?_,q⟩
 have hb':s1.heap.objs.size<=b:=by
  obtain rfl|hb:=ya3.mp hb
  ·exact ybu _
  ·have e:b=s1.heap.objs.size:=by simpa using hb
   subst e;exact yab _
 exact I1.fpOk hb' (I1.hok.fresh hb')
end
end Pu
set_option Elab.async false
set_option linter.all false
set_option maxRecDepth 100000
namespace Pu
open PySem PySem.Spec PyProof.Rows L2 Zw Zx
section
variable {X:Cx}{pins:List (Addr×Obj)}{σ:L2.St}{H:Hp}{s:Shared}{a:Addr}{o:Obj}{kvs:List (Key×V)}
theorem kv_len{vs:List (Key×Value)}(r:KV kvs vs):kvs.length=vs.length:=ydr (show Paired _ kvs vs from r)
end
section
variable {X:Cx}{o:Expr}{to:TE}{ap cp:Pos}{elts:List Expr}{kk:Nat}{tpos:Pos}
end
end Pu
set_option Elab.async false
set_option linter.all false
set_option maxRecDepth 100000
namespace Pu
open PySem PySem.Spec PyProof.Rows L2 Zw Zx
def zi2(ifs:List Expr)(env:Env):Sem Bool:=forIn ifs true fun c r=>if r=true then do let ok <- isTrue c env (eval c env);pure (ForInStep.yield ok) else pure (ForInStep.yield r)
def PTs(X:Cx)(ifs:List Expr)(t:TT):Prop :=
 ∀(pins:List (Addr×Obj)) (s:Shared) (σ:L2.St) (H:Hp) (Q:Bool->Hp->Prop),Inv X pins σ H s->t σ H Q->wpAny (model X.prog X.w) X.A (zi2 ifs X.env) (TP X pins σ Q) X.xe s
theorem pts_nil{X:Cx}:PTs X [] (fun _ H Q=>Q true H):=fun pins s σ H Q I h=>wpAny_pure ⟨H,I,h⟩
theorem pts_one{X:Cx}{c:Expr}{t:TT}(h:PT X c t):PTs X [c] t:=fun pins s σ H Q I q=>by
 have e:zi2 [c] X.env=(isTrue c X.env (eval c X.env) >>= fun ok=>pure ok):=by
  unfold zi2;simp[List.forIn_cons]
 rw[e];exact wpAny_bind (wpAny_mono (h pins s σ H Q I q) (fun b s1 h1=>wpAny_pure h1) fun _ _ z=>z)
theorem comp_turn2{elt target iter:Expr}{ifs:List Expr}{scope:Scope}{pos:Pos}{it acc:Value}{env:Env}:compTurn (.ListComp elt [⟨target,iter,ifs,0⟩] scope pos) 0 it acc env=(standAt iter.pos >>= fun _=>pyNext it >>= fun r=>match r with
  |none=>pure (.done .next)
  |some u=>letOwnedTupleGo target it u >>= fun _=>assign target env u >>= fun _=>zi2 ifs env >>= fun ok =>
   if ok=true then ((eval elt env >>= fun x=>call (.builtin "list.append") [acc,x] >>= fun _=>pure ()) >>= fun _=>again (.compLoop (.ListComp elt [⟨target,iter,ifs,0⟩] scope pos) 0 it acc env))
   else again (.compLoop (.ListComp elt [⟨target,iter,ifs,0⟩] scope pos) 0 it acc env)):=by rfl
theorem comp_loop2{prog:Program}{w:World}{A:Around}{R:Result->Shared->Prop}{s:Shared}{elt target iter:Expr}{ifs:List Expr}{scope:Scope}{pos:Pos}{it acc:Value}{env:Env}{NE:Value->Shared->Prop}(hN:NE=notedBy (model prog w) A env fun e s'=>R (.error e) s')(I:Nat->Shared->Prop)
  (hturn : ∀ n s, I n s -> wpAny (model prog w) A (pyNext it) (fun r s₁ => match r with
   |none=>R (.ok .next) s₁
   |some v=>wpAny (model prog w) A (letOwnedTupleGo target it v) (fun _ s₁'=>wpAny (model prog w) A (assign target env v) (fun _ s₂=>wpAny (model prog w) A (zi2 ifs env) (fun ok s₂'=>if ok=true then wpAny (model prog w) A (eval elt env) (fun x s₃ =>
     wpAny (model prog w) A (call (.builtin "list.append") [acc,x]) (fun _ s₄=>∃m,m<n/\I m s₄) NE s₃)
     NE s₂' else ∃m,m<n/\I m s₂') NE s₂) NE s₁') NE s₁) NE s)
  (k:Nat) (hk:I k s):codeAny (model prog w) A (.compLoop (.ListComp elt [⟨target,iter,ifs,0⟩] scope pos) 0 it acc env) R s:=by
 subst hN;refine codeAny_loop rfl I (fun n s hI=>?_) k hk
 show wpAny _ _ ((compTurn (.ListComp elt [⟨target,iter,ifs,0⟩] scope pos) 0 it acc env).onRaise (fun y=>do noteFrame y env;theTreesLotGoes y)) _ _ s
 refine wpAny_noted ?_;rw[comp_turn2];refine wpAny_bind (wpAny_standAt (wpAny_bind (wpAny_mono (hturn n s hI) (fun r s₁ h₁=>?_) fun _ _ z=>z)))
 cases r with
 |none=>exact wpAny_pure h₁
 |some v =>
  refine wpAny_bind (wpAny_mono h₁ (fun _ s₁' h₁'=>?_) fun _ _ z=>z)
  refine wpAny_bind (wpAny_mono h₁' (fun _ s₂ h₂=>wpAny_bind (wpAny_mono h₂ (fun ok s₂' h₂'=>?_) fun _ _ z=>z)) fun _ _ z=>z)
  cases ok with
  |false =>
   rw[if_neg (by decide)]at h₂' ⊢
   exact wpAny_pure ⟨rfl,h₂'⟩
  |true =>
   rw[if_pos rfl]at h₂' ⊢;exact wpAny_bind (wpAny_bind (wpAny_mono h₂' (fun x s₃ h₃=>wpAny_bind (wpAny_mono h₃ (fun _ s₄ h₄=>wpAny_pure (wpAny_pure ⟨rfl,h₄⟩)) fun _ _ z=>z)) fun _ _ z=>z))
theorem zh5(env:Env):∀(names:List (Str×NameKind)),(∀y∈names,y.2=.free->∃c,env.cells.lookup y.1=some c)->∀acc:List (Str×Addr),∃cl:List (Str×Addr),
  (forIn names acc fun(x:Str×NameKind) (r:List (Str×Addr))=>(if (x.2 == NameKind.free)=true then do let a <- cellOf env x.1;pure (ForInStep.yield ((x.1,a)::r)) else pure (ForInStep.yield r):Sem (ForInStep (List (Str×Addr)))))=(pure cl:Sem (List (Str×Addr))) /\
  (∀y c,cl.lookup y=some c->acc.lookup y=some c\/env.cells.lookup y=some c)/\(∀y∈names,y.2=.free->∃c,cl.lookup y.1=some c)/\∀y c,acc.lookup y=some c->∃c',cl.lookup y=some c'
 |[],_,acc=>⟨acc,rfl,fun _ _ e=>.inl e,(fun _ z=>by cases z),fun _ c e=>⟨c,e⟩⟩
 |(n,k)::r,h,acc=>by
  rw[List.forIn_cons]
  by_cases hk:k=.free
  ·subst hk;obtain⟨c,hc⟩:=h (n,.free) (ya6 ..) rfl;have e1:cellOf env n=pure c:=by unfold cellOf;rw[hc]
   obtain⟨cl,e,h1,h2,h3⟩:=zh5 env r (fun y hy=>h y (ya5 _ hy)) ((n,c)::acc)
   refine⟨cl,?_,fun y c' q=>?_,fun y hy hf=>?_,fun y c' q=>?_⟩
   ·simp only[beq_self_eq_true,if_true,e1,pure_bind];exact e
   ·rcases h1 y c' q with z|z
    ·rw[yaq]at z;cases hy:y == n with
     |true =>
      rw[hy]at z;cases z;exact .inr (by rw[eq_of_beq hy];exact hc)
     |false=>rw[hy]at z;exact .inl z
    ·exact .inr z
   ·obtain rfl|hy:=ya3.mp hy
    ·exact h3 n c (by simp)
    ·exact h2 y hy hf
   ·by_cases hy:y=n
    ·subst hy;exact h3 y c (by simp)
    ·exact h3 y c' (by rw[yaq,beq_eq_false_iff_ne.mpr hy];exact q)
  ·have hk':(k == NameKind.free)=false:=beq_eq_false_iff_ne.mpr hk;obtain⟨cl,e,h1,h2,h3⟩:=zh5 env r (fun y hy=>h y (ya5 _ hy)) acc
   refine⟨cl,?_,h1,fun y hy hf=>?_,h3⟩
   ·simp only[hk',pure_bind];exact e
   ·obtain rfl|hy:=ya3.mp hy
    ·exact absurd hf hk
    ·exact h2 y hy hf
theorem closure_for(scope:Scope)(env:Env)(h:∀y∈scope.names,y.2=.free->∃c,env.cells.lookup y.1=some c):∃cl,closureFor scope env=pure cl/\(∀y c,cl.lookup y=some c->env.cells.lookup y=some c)/\∀y∈scope.names,y.2=.free->∃c,cl.lookup y.1=some c:=by
 obtain⟨cl,e,h1,h2,_⟩:=zh5 env scope.names h [];refine⟨cl,?_,fun y c q=>?_,h2⟩
 ·have e2:closureFor scope env=(forIn scope.names [] fun(x:Str×NameKind) (r:List (Str×Addr))=>(if (x.2 == NameKind.free)=true then do let a <- cellOf env x.1;pure (ForInStep.yield ((x.1,a)::r)) else pure (ForInStep.yield r):Sem (ForInStep (List (Str×Addr))))) >>= pure:=rfl
  rw[e2,e,pure_bind]
 ·rcases h1 y c q with z|z
  ·cases z
  ·exact z
theorem zj9:∀(names:List (Str×NameKind)) (h:Heap) (acc:List (Str×Addr)) (y:Str) (c:Addr),(cellsFrom h.objs.size names acc).lookup y=some c->acc.lookup y=some c\/(h.objs.size<=c/\(pushCells h names).IsCell c none/\(y,NameKind.cell)∈names)
 |[],h,acc,y,c,e=>.inl e
 |(n,k)::r,h,acc,y,c,e=>by
  unfold cellsFrom at e;unfold pushCells;split at e
  ·rename_i hk;rw[if_pos hk];have ez:(h.push { cls:=.type "cell",data:=.cell none }).objs.size=h.objs.size+1:=ybr ..;rw[<- ez]at e
   rcases zj9 r _ _ y c e with q|⟨q1,q2,q3⟩
   ·rw[yaq]at q;cases hy:y == n with
    |true =>
     rw[hy]at q;cases q;have e1:y=n:=eq_of_beq hy;subst e1;exact .inr ⟨yab _,⟨_,pushCells_keeps _ _ _ _ (yai _ rfl),rfl⟩,by rw[eq_of_beq hk];exact ya6 ..⟩
    |false=>rw[hy]at q;exact .inl q
   ·exact .inr ⟨by rw[ez]at q1;exact yal (ybu _) q1,q2,ya5 _ q3⟩
  ·rename_i hk;rw[if_neg hk]
   rcases zj9 r h acc y c e with q|⟨q1,q2,q3⟩
   ·exact .inl q
   ·exact .inr ⟨q1,q2,ya5 _ q3⟩
theorem zja:∀(names:List (Str×NameKind)) (h:Heap) (acc:List (Str×Addr)),(∀y z c,acc.lookup y=some c->acc.lookup z=some c->y=z)->(∀y c,acc.lookup y=some c->c<h.objs.size) ->
  ∀y z c,(cellsFrom h.objs.size names acc).lookup y=some c->(cellsFrom h.objs.size names acc).lookup z=some c->y=z
 |[],h,acc,hi,_=>hi
 |(n,k)::r,h,acc,hi,hl=>by
  unfold cellsFrom;split
  ·have ez:(h.push { cls:=.type "cell",data:=.cell none }).objs.size=h.objs.size+1:=ybr ..;rw[<- ez];refine zja r _ _ (fun y z c h1 h2=>?_) (fun y c h1=>?_)
   ·rw[yaq]at h1 h2;cases hy:y == n with
    |true =>
     rw[hy]at h1;cases h1;cases hz:z == n with
     |true=>rw[eq_of_beq hy,eq_of_beq hz]
     |false =>
      rw[hz]at h2;exact absurd (hl z _ h2) (yau _)
    |false =>
     rw[hy]at h1;cases hz:z == n with
     |true =>
      rw[hz]at h2;cases h2;exact absurd (hl y _ h1) (yau _)
     |false=>rw[hz]at h2;exact hi y z c h1 h2
   ·rw[yaq]at h1;rw[ez];cases hy:y == n with
    |true=>rw[hy]at h1;cases h1;exact ybs _
    |false=>rw[hy]at h1;exact yc0 (hl y c h1)
  ·exact zja r h acc hi hl
theorem zj8:∀(names:List (Str×NameKind)) (n lo:Nat) (acc:List (Str×Addr)) (y:Str) (c:Addr),lo<=n->((y,NameKind.cell)∈names\/∃c0,acc.lookup y=some c0/\lo<=c0)->(cellsFrom n names acc).lookup y=some c->lo<=c
 |[],n,lo,acc,y,c,hn,h,e=>by
  rcases h with h|⟨c0,h1,h2⟩
  ·cases h
  ·have e':acc.lookup y=some c:=e;rw[h1]at e';cases e';exact h2
 |(m,k)::r,n,lo,acc,y,c,hn,h,e=>by
  unfold cellsFrom at e;split at e
  ·refine zj8 r (n+1) lo _ y c (Nat.le_succ_of_le hn) ?_ e
   by_cases hy:y=m
   ·subst hy;exact .inr ⟨n,by simp,hn⟩
   ·rcases h with h|⟨c0,h1,h2⟩
    ·rcases ya3.mp h with z|z
     ·cases z;exact absurd rfl hy
     ·exact .inl z
    ·exact .inr ⟨c0,by rw[yaq,beq_eq_false_iff_ne.mpr hy];exact h1,h2⟩
  ·rename_i hk;refine zj8 r n lo acc y c hn ?_ e
   rcases h with h|h
   ·rcases ya3.mp h with z|z
    ·cases z;exact absurd rfl hk
    ·exact .inl z
   ·exact .inr h
theorem newEnv_cells{M:Model}{A:Around}{E:Value->Shared->Prop}{s:Shared}{scope:Scope}{globals:Addr}{cl:List (Str×Addr)}{qual:Str}{func:Option Addr}{code:Value}{outer:Env}{builtins:Addr}{Q:Env->Shared->Prop}
  (hQ:Q (newEnv scope s.heap.objs.size globals (cellsFrom (s.heap.objs.size+1) scope.names cl) qual func code (some outer) builtins) { s with heap:=pushCells (s.heap.push { cls:=.type "dict",data:=.dict #[] }) scope.names }) :
  wpAny M A (newFunctionEnv scope globals cl [] qual func code (some outer) builtins) Q E s:=by
 simp only[newFunctionEnv,Option.isSome_some,if_true];refine wpAny_bind (wpAny_alloc ?_);refine wpAny_bind (wpAny_layCells _ (fun name kind cells=>by cases hkc:kind == NameKind.cell<;>simp[hkc]) _ _ _ _ ?_);rw[show({ s with heap:=s.heap.push { cls:=.type "dict",data:=.dict #[] } }:Shared).heap.objs.size=s.heap.objs.size+1 from ybr ..]
 rw[List.forIn_nil];exact wpAny_bind (wpAny_pure (wpAny_pure hQ))
abbrev za8(X:Cx)(scope:Scope)(cl:List (Str×Addr))(N':List Str)(C:Addr)(s₀:Shared)(H₀:Hp)(ex:List Addr)(xb:Value->Shared->Prop):Cx:={ compCx X scope cl N' C s₀ H₀ ex with fn:=fun x=>decide (scope.names.lookup x=some .cell),xe:=xb }
theorem ff_to{h h' B B':Heap}(k:∀b o,B.get? b=none->h.get? b=some o->(∀us,o.data≠.fields us)->B'.get? b=none/\∃o',h'.get? b=some o'/\∀us,o'.data≠.fields us):∀{l:List Env},h.FunFrames B l->h'.FunFrames B' l
 |[],_=>trivial
 |_::_,⟨x,⟨L,o,y1,y2,y3,y4⟩,r⟩=>by
  obtain⟨z1,o',z2,z3⟩:=k L o y2 y3 y4;exact⟨x,⟨L,o',y1,z1,z2,z3⟩,ff_to k r⟩
def FrOk(X:Cx):Prop:=∃v l,X.stack=v::l/\X.env.frame=v.frame
theorem comp_pass{X:Cx}{E:L2.St->XK}{pins:List (Addr×Obj)}{σ:L2.St}{H:Hp}{s s':Shared}{C:Addr}{benv:Env}{e acc:Value}{use:Option (Value->Sem Unit)}{QQ:Value->Shared->Prop}{EE:Value->Shared->Prop}(hx:zbn X E)(hst:FrOk X)(I:Inv X pins σ H s)(fC:FpOk X pins H C)(hC:∃m,s.heap.Ns C m)(nC:C∉frs X.stack)
  (hb:benv.frame=X.env.frame) (h:CX1 X.prog X.w X.stack H s (E σ) e s'):wpAny (model X.prog X.w) X.A (noteFrame e benv) (fun _ s2=>compPost (model X.prog X.w) X.A X.xe use QQ acc C (.error e) s2) EE s':=by
 obtain⟨v,l,st,hv⟩:=hst;obtain⟨a,cls,H',B,a0,rfl,os,bare,un,hok,kB,tB,fl0,he⟩:=h;have fl1:FlyX B (v::l) a cls a0 s'.heap:=st▸fl0
 obtain⟨L,hL⟩:∃L,v.frame=some L:=by
  obtain⟨_,_,_,⟨_,⟨L,_,y,_⟩,_⟩,_⟩:=fl1;exact⟨L,y⟩
 refine noteX (st▸I.ok.frames) (hb.trans hv) hL fl1 fun h4 held sm=>?_
 obtain⟨m,oC,es,ep,hCo,dC,rC⟩:=hC;have bC:B.get? C=some oC:=kB C oC hCo fC.1 nC;obtain⟨f1,f2,f3,oe,ws,Tb,oT,ts,ha,hcl,hd,g1,nT,Tne,hT,dT,g3⟩:=held
 have hne:∀{b:Addr},B.get? b=none->b≠C:=fun z w=>by
  rw[w,bC]at z;cases z
 have key:∃m,h4.Ns C m/\∀h',Heap.SameBut C h4 h'->∀cenv:Env,cenv.locals=C->wpAny (model X.prog X.w) X.A (PySem.passOn "comprehension.variables-let-go" (.ref a) cenv:Sem Value) (fun _ _=>False) X.xe { s' with heap:=h' }:=by
  refine⟨m,⟨oC,es,ep,f1 C oC bC,dC,rC⟩,fun h5 sb cenv _=>?_⟩
  have ha5:h5.get? a=some oe:=(sb.2 a (hne f2)).trans ha;have hT5:h5.get? Tb=some oT:=(sb.2 Tb (hne nT)).trans hT;unfold PySem.passOn;refine wpAny_bind (wpAny_field ha5 hd g1 ?_);rw[if_neg (by simp)]
  refine wpAny_bind ?_;unfold setFlight;refine wpAny_bind (wpAny_field ha5 hd g1 ?_);rw[if_pos (by simp)]
  refine wpAny_setField hT5 dT (ybz.mp g3).1 (wpAny_throw ?_);generalize hfl:(cenv.frame.elim Value.none fun f=>rawInt f)=fl
  have dT6:=Obj.data_mapFields dT (·.setIfInBounds 3 fl);have hT6:=Heap.get?_update_self (Obj.mapFields (·.setIfInBounds 3 fl)) hT5 (Obj.isFreed_of_fields dT6);generalize hh6:h5.update Tb (Obj.mapFields (·.setIfInBounds 3 fl))=h6 at hT6 ⊢
  have to6:∀b o,b≠C->b≠Tb->h4.get? b=some o->h6.get? b=some o:=fun b o n1 n2 e=>by
   rw[<- hh6,ybt _ _ (yat n2)];exact(sb.2 b n1).trans e
  have B6:∀b o,b≠C->B.get? b=some o->h6.get? b=some o:=fun b o n e=>to6 b o n (fun z=>by rw[z,nT]at e;cases e) (f1 b o e)
  have hid:∀{b:Addr} {o:Obj},(PySem.W.hideAll s.heap [C]).get? b=some o->s.heap.get? b=some o/\b≠C:=fun {b o} e=>⟨yc7 _ e,fun z=>by
   rw[z,yd6 [C] (ya8.mpr rfl)]at e;cases e⟩
  have hidB:∀{b:Addr} {o:Obj},b≠C->B.get? b=some o->(PySem.W.hideAll B [C]).get? b=some o:=fun {b o} n e=>ybq _ e (fun z=>n (ya8.mp z))
  have hidN:∀{b:Addr},B.get? b=none->(PySem.W.hideAll B [C]).get? b=none:=fun {b} e=>by
   cases q:(PySem.W.hideAll B [C]).get? b with
   |none=>rfl
   |some o =>
    rw[yc7 _ q]at e;cases e
  have IX:Inv X pins σ H { s with heap:=PySem.W.hideAll s.heap [C] }:=zfy (t':=s.toks) (ch:=[C]) I (fun b o n e=>ybq _ e n) fun b z=>by
   rw[ya8.mp z];exact fC
  have slot:∀b o,s.heap.get? b=some o->H b=none->b∈frs X.stack->∃z,h6.get? b=some { o with slots:=z }:=fun b o e n z=>by
   obtain⟨_,o2,ho2,d2⟩:=I.stack.mem z;rw[e]at ho2;cases ho2;obtain⟨z2,e2⟩:=un.slot b o e n z (by simp)
   obtain⟨z3,e3⟩:=sm b _ e2 d2;refine⟨z3,to6 b _ (fun w=>nC (w▸z)) (fun w=>?_) e3⟩
   rw[w,hT]at e3;cases e3;exact d2 _ dT
  have HC:H' C=none:=un.free C oC hCo fC.1 (by simp)
  refine hx pins σ H _ _ _ IX ⟨a,cls,H',PySem.W.hideAll B [C],a0,rfl,os,bare,⟨fun b o e n z _=>?_,fun b o e n z _=>slot b o (hid e).1 n z,fun b o e n z=>un.free b o (hid e).1 n z,fun b o e _=>?_,un.tups,un.frzs,un.tbls⟩,?_,fun b o e n z=>hidB (hid e).2 (kB b o (hid e).1 n z),fun b o e z=>?_,⟨fl,fun b o e=>?_,hidN f2,?_,?_⟩,he⟩
  ·exact B6 b o (hid e).2 (kB b o (hid e).1 n z)
  ·by_cases z:b∈frs X.stack
   ·obtain⟨w,q⟩:=slot b o (hid e).1 (I.stkFree b z) z;exact⟨_,q⟩
   ·obtain⟨o',q⟩:=tB b o (hid e).1 z;exact⟨o',B6 b o' (hid e).2 q⟩
  ·intro b u e;refine(hok b u e).stay (fun c x hc q=>hidB (fun w=>?_) q) (fun _ q=>q) fun _ _ q=>q
   rcases hc with y|y
   ·rw[<- y,w,HC]at e;cases e
   ·rw[w,HC]at y;cases y
  ·obtain⟨o',q⟩:=tB b o (hid e).1 z;exact⟨o',hidB (hid e).2 q⟩
  ·have e':=yc7 _ e;refine B6 b o (fun w=>?_) e'
   rw[w,yd6 [C] (ya8.mpr rfl)]at e;cases e
  ·rw[st];refine ff_to (fun b o n e d=>⟨hidN n,o,to6 b o (hne n) (fun w=>?_) e,d⟩) f3
   rw[w,hT]at e;cases e;exact d _ dT
  ·refine⟨oe,ws,Tb,_,_,?_,hcl,hd,g1,hidN nT,Tne,hT6,dT6,?_⟩
   ·rw[<- hh6,ybt _ _ Tne];exact ha5
   ·simp[Array.getElem?_setIfInBounds,(ybz.mp g3).1]
 cases use<;>exact key
section
variable {X:Cx}{elt iter tg:Expr}{ifs:List Expr}{scope:Scope}{pos pos2:Pos}{cl:List (Str×Addr)}{N':List Str}{wi:TI}{g:TG}{tt:TT}{te:TE}
def tLC2(σ':L2.St->L2.St)(wi:TI)(g:TG)(tt:TT)(te:TE):TE:=fun σ H Q=>wi σ H fun J H1=>∃(W:Nat->List V->L2.St->Hp->Prop) (n:Nat),n<=sizeLine/\W 0 [] (σ' σ) H1/\∀i ys τ H,W i ys τ H->ys.length<=i/\i<=n /\
 ((J.stop i H/\∀p,H p=none->Q (.ref p) (upd H p (.lst ys)))\/(i<n/\J.go i H/\∀x H',J.yld i H x H'->g x τ H' fun τ2 H2=>tt τ2 H2 fun k H3=>if k=true then te τ2 H3 fun y H4=>W (i+1) (ys++[y]) τ2 H4 else W (i+1) ys τ2 H3))
theorem lc_any(σ':L2.St->L2.St)(hclos:closureFor scope X.env=pure cl)(hkind:scope.kind=.function)(hnames:∀y∈scope.names,y.2=.local->scope.names.lookup y.1=some .local)
  (hcl:∀y c,cl.lookup y=some c->X.env.cells.lookup y=some c) (hhas:∀y,(relabel scope X.env).names.lookup y=some .cell\/(relabel scope X.env).names.lookup y=some .free->(y,NameKind.cell)∈scope.names\/∃c,cl.lookup y=some c) (hcap:∀(σ:L2.St) (i:Nat) (y:Str) (v:V),N'[i]?=some y->(σ' σ)[i]?=some (some v)->(y,NameKind.cell)∉scope.names)
  (hσ:∀σ:L2.St,σ.length=X.N.length->(σ' σ).length=N'.length)
  (hvis:∀(σ:L2.St) (i:Nat) (y:Str) (v:V),N'[i]?=some y->(σ' σ)[i]?=some (some v)->((relabel scope X.env).names.lookup y=some .cell\/(relabel scope X.env).names.lookup y=some .free)/\∃j:Nat,X.N[j]?=some y/\σ[j]?=some (some v)/\Vis X.env.scope y/\X.env.kindOf y≠some .local)
  (hc:X.calm=true) (hi:PI X tg iter wi) {E:L2.St->XK} (hps:zbn X E) (hst:FrOk X) {σ:L2.St} (hg:∀cl C s₀ H₀ ex xb,zbn (za8 X scope cl N' C s₀ H₀ ex xb) (fun _=>E σ)->PG (za8 X scope cl N' C s₀ H₀ ex xb) tg g) (ht:∀cl C s₀ H₀ ex xb,zbn (za8 X scope cl N' C s₀ H₀ ex xb) (fun _=>E σ)->PTs (za8 X scope cl N' C s₀ H₀ ex xb) ifs tt) (he:∀cl C s₀ H₀ ex xb,zbn (za8 X scope cl N' C s₀ H₀ ex xb) (fun _=>E σ)->PE (za8 X scope cl N' C s₀ H₀ ex xb) elt te)
  (hs:∀x,foldedSetIterable iter X.env x=pure x) {use:Option (Value->Sem Unit)} {pins:List (Addr×Obj)} {s:Shared} {H:Hp} {Q:VK} {QQ:Value->Shared->Prop} (I:Inv X pins σ H s) (h:tLC2 σ' wi g tt te σ H Q)
  (hend:∀(D C:Addr) (s5:Shared) (H5:Hp),Inv X pins σ H5 s5->Q (.ref D) H5->(∃m,s5.heap.Ns C m)->FpOk X pins H5 C->compPost (model X.prog X.w) X.A X.xe use QQ (.ref D) C (.ok .next) s5) :
  wpAny (model X.prog X.w) X.A (comprehension (.ListComp elt [⟨tg,iter,ifs,0⟩] scope pos) scope X.env pos2 (newList []) false (eval iter X.env) use) QQ X.xe s:=by
 refine wpAny_comprehension_free (use:=use) rfl hs hclos hkind hnames (thn (hi pins s σ H _ I h) fun v s1 h1=>thn h1 fun itv s2 h2=>?_)
 obtain⟨it,fp,tn,J,H2,e,I2,T,st2,f2,W,n,hn,w0,turn⟩:=h2;subst e;refine wpAny_newObj_type (newEnv_cells ?_);dsimp only;generalize hHp:s2.heap.push { cls:=.type "list",dict:=none,data:=.seq ([]:List Value).toArray }=P2;generalize hcl':cellsFrom (P2.objs.size+1) scope.names cl=cl';generalize hh1:pushCells (P2.push { cls:=.type "dict",data:=.dict #[] }) scope.names=h₁;have hC:P2.objs.size=s2.heap.objs.size+1:=by rw[<- hHp,ybr]
 have hP3:(P2.push { cls:=.type "dict",data:=.dict #[] }).objs.size=P2.objs.size+1:=ybr ..;have hDC:s2.heap.objs.size≠P2.objs.size:=by rw[hC];exact yao (ybs _)
 have below:∀b,b<s2.heap.objs.size->b≠P2.objs.size/\b≠s2.heap.objs.size:=fun b hb=>⟨by rw[hC];exact yao (yc0 hb),yao hb⟩
 have old:∀b o,s2.heap.get? b=some o->h₁.get? b=some o:=fun b o e=>by
  rw[<- hh1];exact pushCells_keeps _ _ _ _ (ya9 _ (hHp▸ya9 _ e))
 have hacc:h₁.PlainList s2.heap.objs.size #[]:=⟨_,by
  rw[<- hh1];exact pushCells_keeps _ _ _ _ (ya9 _ (hHp▸yai _ rfl))⟩
 have hns₁:h₁.Ns P2.objs.size (fun _=>none):=by
  rw[<- hh1];exact(Heap.Ns.new P2 (.type "dict")).keeps (pushCells_keeps _ _)
 have cells:∀y c,cl'.lookup y=some c->X.env.cells.lookup y=some c\/(P2.objs.size<c/\h₁.IsCell c none/\(y,NameKind.cell)∈scope.names):=fun y c e=>by
  rw[<- hcl',<- hP3]at e
  rcases zj9 _ _ _ y c e with q|⟨q1,q2,q3⟩
  ·exact .inl (hcl y c q)
  ·rw[hP3]at q1;rw[hh1]at q2;exact .inr ⟨q1,q2,q3⟩
 have has':∀y,(y,NameKind.cell)∈scope.names\/(∃c,cl.lookup y=some c)->∃c,cl'.lookup y=some c:=fun y hy=>by
  rw[<- hcl']
  have go:∀(names:List (Str×NameKind)) (n:Nat) (acc:List (Str×Addr)),((y,NameKind.cell)∈names\/∃c,acc.lookup y=some c)->∃c,(cellsFrom n names acc).lookup y=some c:=by
   intro names
   induction names with
   |nil =>
    intro n acc h
    rcases h with h|h
    ·cases h
    ·exact h
   |cons x r ih =>
    obtain⟨m,k⟩:=x;intro n acc h;unfold cellsFrom;split
    ·refine ih _ _ ?_
     by_cases hm:y=m
     ·subst hm;exact .inr ⟨n,by simp⟩
     ·rcases h with h|⟨c,h⟩
      ·rcases ya3.mp h with z|z
       ·cases z;exact absurd rfl hm
       ·exact .inl z
      ·exact .inr ⟨c,by rw[yaq,beq_eq_false_iff_ne.mpr hm];exact h⟩
    ·rename_i hk;refine ih _ _ ?_
     rcases h with h|h
     ·rcases ya3.mp h with z|z
      ·cases z;exact absurd rfl hk
      ·exact .inl z
     ·exact .inr h
  exact go _ _ _ hy
 have fsub:∀b∈frs X.stack,b∈X.env.locals::X.fs:=I2.stkSub
 have fpfs:∀b∈fp,b∉frs X.stack:=fun b hb z=>by
  obtain⟨_,h2,h3,_⟩:=f2 b hb
  rcases ya3.mp (fsub b z) with q|q
  ·exact h2 q
  ·exact h3 q
 have fpold:∀b∈fp,b<s2.heap.objs.size:=fun b hb=>by
  obtain⟨o,e,_⟩:=T.obj 0 _ st2 b hb;exact yac e
 have cold:∀y c,cl'.lookup y=some c->c<s2.heap.objs.size\/P2.objs.size<c:=fun y c e=>by
  rcases cells y c e with q|q
  ·obtain⟨v,z⟩:=I2.cell y c q;exact .inl z.lt
  ·exact .inr q.1
 have cneD:∀y c,cl'.lookup y=some c->c≠s2.heap.objs.size:=fun y c e z=>by
  rcases cold y c e with q|q
  ·rw[z]at q;exact yau _ q
  ·rw[z,hC]at q;exact absurd q (Nat.not_lt.mpr (ybu _))
 have cneF:∀b,b<s2.heap.objs.size->(∀y c,X.env.cells.lookup y=some c->c≠b)->∀y c,cl'.lookup y=some c->c≠b:=fun b hb hx y c e z=>by
  rcases cells y c e with q|q
  ·exact hx y c q z
  ·have:=q.1;rw[z,hC]at this;exact absurd (yb3 hb (Nat.lt_of_succ_lt this)) (yau _)
 have fresh2:∀b,s2.heap.objs.size<=b->H2 b=none:=fun b hb=>I2.hok.fresh hb
 have CS:s2.heap.objs.size<=P2.objs.size:=by rw[hC];exact ybu _
 obtain⟨xb,hxb⟩:∃xb,xb=notedBy (model X.prog X.w) X.A (compEnvC scope cl' P2.objs.size X.env) fun e s'=>compPost (model X.prog X.w) X.A X.xe use QQ (.ref s2.heap.objs.size) P2.objs.size (.error e) s':=⟨_,rfl⟩
 have hpb:zbn (za8 X scope cl' N' P2.objs.size s2 H2 fp xb) (fun _=>E σ):=by
  subst hxb;intro pins4 σ4 H4 s4 e s' I4 hcx
  have IX:Inv X pins σ H4 s4:=I2.call' (s':=s4) (ch:=fp) I4.os I4.base I4.hok I4.bare fun b hb=>by
   obtain⟨g1,g2,g3,g4,g5,g6⟩:=f2 b hb;exact⟨g4,g2,g5,g6⟩
  obtain⟨m4,hm4,_⟩:=I4.loc
  exact comp_pass hps hst IX ⟨I4.free,(I2.fpOk (H':=H2) CS (fresh2 _ CS)).2⟩ ⟨m4,hm4⟩ (fun z=>by
   obtain⟨o,ho,_⟩:=(I2.stack.mem z).2;exact absurd (yac ho) (Nat.not_lt.mpr CS)) rfl hcx
 have ok':(za8 X scope cl' N' P2.objs.size s2 H2 fp xb).Ok:=by
  refine⟨I2.ok.mod,hkind,I2.ok.glob,I2.ok.blt,CS,?inj,fun y hy=>has' y (hhas y hy),?cab,I2.ok.hd,I2.ok.frames,.inl rfl,fun b hb=>⟨(below b (fpold b hb)).1,cneF b (fpold b hb) fun y c e=>(f2 b hb).2.2.2.2.1 y c e⟩,
   fun b o e=>I2.bs b o e,yal I2.ok.bsz I2.sz,fun b o e hb=>?_,fun b hb=>fpfs b hb,I2.stack,I2.stkFree⟩
  case inj =>
   intro y z c h1 h2;have h1':(cellsFrom (P2.push { cls:=.type "dict",data:=.dict #[] }).objs.size scope.names cl).lookup y=some c:=by rw[hP3,hcl'];exact h1
   have h2':(cellsFrom (P2.push { cls:=.type "dict",data:=.dict #[] }).objs.size scope.names cl).lookup z=some c:=by rw[hP3,hcl'];exact h2
   refine zja scope.names _ cl (fun y z c g1 g2=>I2.ok.inj y z c (hcl y c g1) (hcl z c g2)) (fun y c g=>?_) y z c h1' h2'
   obtain⟨v,q⟩:=I2.cell y c (hcl y c g);rw[hP3,hC];exact yc0 (yc0 q.lt)
  case cab =>
   intro y c hy e;have hy':scope.names.lookup y=some .cell:=of_decide_eq_true hy;have e':(cellsFrom (P2.objs.size+1) scope.names cl).lookup y=some c:=by rw[hcl'];exact e
   exact yal CS (yal (ybu _) (zj8 scope.names _ (P2.objs.size+1) cl y c (yab _) (.inl (ybg hy')) e'))
  ·obtain⟨_,_,_,q,_⟩:=f2 b hb
   rcases q with q|q
   ·exact I2.ok.noex b o e q
   ·exact absurd (yah (yac e) (yal I2.ok.bsz q)) (yau _)
 have I':Inv (za8 X scope cl' N' P2.objs.size s2 H2 fp xb) pins (σ' σ) H2 { s2 with heap:=h₁ }:=by
  refine⟨ok',rfl,I2.bare,Un.kept old,⟨_,hns₁,fun i y v h1 h2 h3=>?_⟩,fun y c e=>?_,fresh2 _ CS,?fc,fun p hp=>?_,I2.hok.kept old,hσ σ I2.len⟩
  case fc =>
   intro y c e
   rcases cells y c e with q|q
   ·exact I2.freeC y c q
   ·exact fresh2 c (yal CS (yd7 q.1))
  ·obtain⟨hk,j,h4,h5,h6,h7⟩:=hvis σ i y v h1 h2;have hno:=hcap σ i y v h1 h2;obtain⟨m,hn',hl⟩:=I2.loc;obtain⟨u,r,l⟩:=hl j y v h4 h5 h6;obtain⟨c,hcc⟩:=has' y (hhas y hk);refine⟨u,r,.inr ⟨hk,c,hcc,?_⟩⟩
   rcases l with ⟨k1,_⟩|⟨_,c',e',z⟩
   ·exact absurd k1 h7
   ·rcases cells y c hcc with w|w
    ·rw[w]at e';cases e';obtain⟨o,ho,hd⟩:=z;exact⟨o,old _ _ ho,hd⟩
    ·exact absurd w.2.2 hno
  ·rcases cells y c e with w|w
   ·obtain⟨v,o,ho,hd⟩:=I2.cell y c w;exact⟨v,o,old _ _ ho,hd⟩
   ·exact⟨none,w.2.1⟩
  ·obtain⟨e1,e2,e3,e4,e5⟩:=I2.pin p hp;refine⟨old _ _ e1,e2,(below _ (yac e1)).1,fun z=>?_,e5⟩
   rcases ya3.mp (fsub _ z) with q|q
   ·exact e3 q
   ·exact e4 q
 have stat:∀{H':Hp},(∀b∈fp,H' b=none)->∀b∈fp,FpOk (za8 X scope cl' N' P2.objs.size s2 H2 fp xb) pins H' b:=fun hn' b hb =>
  ⟨hn' b hb,(below b (fpold b hb)).1,fpfs b hb,.inl hb,cneF b (fpold b hb) fun y c e=>(f2 b hb).2.2.2.2.1 y c e,(f2 b hb).2.2.2.2.2⟩
 have Dok:∀{H':Hp},H' s2.heap.objs.size=none->FpOk (za8 X scope cl' N' P2.objs.size s2 H2 fp xb) pins H' s2.heap.objs.size:=fun hn' =>
  ⟨hn',hDC,(fun z=>by
   obtain⟨o,ho,_⟩:=(I2.stack.mem z).2;exact absurd (yac ho) (yau _)),.inr (yab _),cneD,fun p hp z=>absurd (yac (I2.pin p hp).1) (by rw[z];exact yau _)⟩
 have loop:∀s3:Shared,s3={ s2 with heap:=h₁ } ->
   codeAny (model X.prog X.w) X.A (.compLoop (.ListComp elt [⟨tg,iter,ifs,0⟩] scope pos) 0 (.ref it) (.ref s2.heap.objs.size) (compEnvC scope cl' P2.objs.size X.env))
    (compPost (model X.prog X.w) X.A X.xe use QQ (.ref s2.heap.objs.size) P2.objs.size) s3:=by
  rintro s3 rfl
  refine comp_loop2 hxb (fun m s'=>∃i ys τ H',m=n - i/\Inv (za8 X scope cl' N' P2.objs.size s2 H2 fp xb) pins τ H' s'/\tn i s'.heap/\(∀b∈fp,H' b=none)/\H' s2.heap.objs.size=none/\(∃its:List Value,zbc ys its/\s'.heap.PlainList s2.heap.objs.size its.toArray)/\W i ys τ H')
   ?_ n ⟨0,[],σ' σ,H2,rfl,I',T.keep _ _ _ st2 fun b _ o e=>old b o e,fun b hb=>(f2 b hb).1,fresh2 _ (yab _),⟨[],.nil,hacc⟩,w0⟩
  rintro m s4 ⟨i,ys,τ,H4,rfl,I4,st4,fr4,hD4,⟨its,rv,hpl⟩,w4⟩;obtain⟨hly,hin,c⟩:=turn i ys τ H4 w4
  have statp:∀{H':Hp},(∀b∈fp,H' b=none)->∀b∈fp,FpOk (za8 X scope cl' N' P2.objs.size s2 H2 fp xb) (pins++zid [s2.heap.objs.size] s4.heap) H' b:=fun {H'} fr' b hb=>by
    obtain⟨g1,g2,g3,g4,g5,g6⟩:=stat fr' b hb;refine⟨g1,g2,g3,g4,g5,fun p hp z=>?_⟩
    rcases yas.mp hp with y|y
    ·exact g6 p (yc1 _ y) z
    ·rcases yas.mp y with y|y
     ·exact g6 p (yaj _ y) z
     ·obtain⟨hb',_⟩:=of_pinsAt y;rw[z,ya8]at hb';exact absurd (fpold b hb) (by rw[hb'];exact yau _)
  rcases c with ⟨stop,q⟩|⟨hlt,go,step⟩
  ·obtain⟨k,hDo⟩:=hpl;have I4p:=I4.pinned (fp:=[s2.heap.objs.size]) (fun b hb=>by rw[ya8.mp hb];exact Dok hD4) (fun b hb=>by rw[ya8.mp hb];exact⟨_,hDo,fun v z=>(by cases z)⟩)
   refine thn (T.done (za8 X scope cl' N' P2.objs.size s2 H2 fp xb) rfl rfl rfl hc i _ s4 τ H4 _ I4p (statp fr4) st4 stop) fun r s5 ⟨hr,I5⟩=>?_
   subst hr;have hD5:s5.heap.get? s2.heap.objs.size=some { cls:=.type "list",data:=.seq its.toArray k }:=(I5.pin (s2.heap.objs.size,_) (yaj _ (yaj _ (zcs (ya8.mpr rfl) hDo)))).1;obtain⟨m5,hn5,_⟩:=I5.loc;have fC:H4 P2.objs.size=none:=I5.free
   have U5:Un (frs X.stack) fp H2 (upd H4 s2.heap.objs.size (.lst ys)) s2.heap s5.heap:=by
    have B:=I5.base;refine⟨fun b o e1 e2 e3 e4=>B.keep b o e1 e2 e3 e4,fun b o e1 e2 e3 e4=>B.slot b o e1 e2 e3 e4,fun b o e1 e2 e4=>?_,fun b o e1 e4=>B.there b o e1 e4,fun b xs e1=>?_,fun b o u e1=>?_,fun b ps e1=>?_⟩
    ·rw[zah (below b (yac e1)).2];exact B.free b o e1 e2 e4
    ·have q':=B.tups b xs e1;rw[zah (zag q' hD4)];exact q'
    ·have q':=B.frzs b o u e1;rw[zah (zag q' hD4)];exact q'
    ·obtain⟨more,q'⟩:=B.tbls b ps e1;exact⟨more,by rw[zah (zag q' hD4)];exact q'⟩
   have hzy:ys.length<=sizeLine:=yal hly (yal hin hn);have HK:HOk X.prog X.w (upd H4 s2.heap.objs.size (.lst ys)) s5.heap:=Zw.HOk.adopt I5.hok hD4 ⟨hzy,its,k,rv,hD5⟩;have os5:s5.os=s2.os:=I5.os
   have IX:Inv X pins σ (upd H4 s2.heap.objs.size (.lst ys)) s5:=I2.call' (s':=s5) (ch:=fp) os5 U5 HK I5.bare (fun b hb=>by
    obtain⟨g1,g2,g3,g4,g5,g6⟩:=f2 b hb;exact⟨g4,g2,g5,g6⟩)
   refine hend s2.heap.objs.size P2.objs.size s5 _ IX (q _ hD4) ⟨m5,hn5⟩ ?_;have CL:s2.heap.objs.size<=P2.objs.size:=CS;have fp0:FpOk X pins H2 P2.objs.size:=I2.fpOk CS (fresh2 _ CS);exact⟨by rw[zah (yat hDC)];exact fC,fp0.2⟩
  ·obtain⟨k,hDo⟩:=hpl;have I4p:=I4.pinned (fp:=[s2.heap.objs.size]) (fun b hb=>by rw[ya8.mp hb];exact Dok hD4) (fun b hb=>by rw[ya8.mp hb];exact⟨_,hDo,fun v z=>(by cases z)⟩)
   refine thn (T.item (za8 X scope cl' N' P2.objs.size s2 H2 fp xb) rfl rfl rfl hc i _ s4 τ H4 _ I4p (statp fr4) st4 go) fun r s5 ⟨u,hr,h5⟩=>?_
   subst hr;refine thn h5 fun _ s6 ⟨x,H6,I6,r6,y6,st6,fr6⟩=>?_
   have I6':=I6.pinned (statp fr6) (T.obj _ _ st6);refine thn (hg _ _ _ _ _ _ hpb _ s6 τ H6 x u _ I6' r6 (step x H6 y6)) fun _ s7 ⟨τ7,H7,I7,q7⟩=>?_
   refine thn (ht _ _ _ _ _ _ hpb _ s7 τ7 H7 _ I7 q7) fun ok s7b ⟨H7b,I7b,q7b⟩=>?_
   have fin:∀{H8:Hp} {s8:Shared} {τ8:L2.St},Inv (za8 X scope cl' N' P2.objs.size s2 H2 fp xb) (pins++zid [s2.heap.objs.size] s4.heap++zid fp s6.heap) τ8 H8 s8->∀h9:Heap,(∀b o,b≠s2.heap.objs.size->s8.heap.get? b=some o->h9.get? b=some o)->tn (i+1) h9/\∀b∈fp,H8 b=none:=fun {H8 s8 τ8} I8 h9 sb=>by
    refine⟨T.keep _ _ _ st6 fun b hb o e=>?_,fun b hb=>?_⟩
    ·exact sb b o (below b (fpold b hb)).2 (I8.pin (b,o) (yaj _ (yaj _ (zcs hb e)))).1
    ·obtain⟨o,e,d⟩:=T.obj _ _ st6 b hb;exact(I8.pin (b,o) (yaj _ (yaj _ (zcs hb e)))).2.1
   cases ok with
   |false =>
    rw[if_neg (by decide)]at q7b ⊢
    have hD8:=I7b.pin (s2.heap.objs.size,_) (yaj _ (yc1 _ (yaj _ (zcs (ya8.mpr rfl) hDo))));obtain⟨t9,f9⟩:=fin I7b s7b.heap fun b o _ e=>e
    exact⟨n - (i+1),by omega,i+1,ys,τ7,H7b,rfl,I7b.unpinned.unpinned,t9,f9,hD8.2.1,⟨its,rv,k,hD8.1⟩,q7b⟩
   |true =>
    rw[if_pos rfl]at q7b ⊢;refine thn (he _ _ _ _ _ _ hpb _ s7b τ7 H7b _ I7b q7b) fun uy s8 ⟨y,H8,I8,ry,w8⟩=>?_
    have hD8:=I8.pin (s2.heap.objs.size,_) (yaj _ (yc1 _ (yaj _ (zcs (ya8.mpr rfl) hDo))));have P8:s8.heap.PlainList s2.heap.objs.size its.toArray:=⟨k,hD8.1⟩;have hlen:=rv.length;refine wpAny_list_append_plain P8 (fun h' pl' sb=>?_) (by rw[yaf,<- hlen];omega)
    have I8u:Inv (za8 X scope cl' N' P2.objs.size s2 H2 fp xb) pins τ7 H8 s8:=I8.unpinned.unpinned;obtain⟨d1,d2,d3,d4,d5,d6⟩:=Dok hD8.2.1;have I9:Inv (za8 X scope cl' N' P2.objs.size s2 H2 fp xb) pins τ7 H8 { s8 with heap:=h' }:=I8u.turned (t':=s8.toks) (fun b o hb e=>(sb.2 b hb).trans e) d1 d2 d4 d5 d6
    obtain⟨t9,f9⟩:=fin I8 h' fun b o hb e=>(sb.2 b hb).trans e
    exact⟨n - (i+1),by omega,i+1,ys++[y],τ7,H8,rfl,I9,t9,f9,hD8.2.1,⟨its++[uy],rv.append (.cons ry .nil),by simpa using pl'⟩,w8⟩
 refine codeAny_compStart_list (loop _ rfl) (T.self _ 0 _ _ _ (T.keep _ _ _ st2 fun b _ o e=>old b o e) (loop _ rfl))
theorem lc_val(σ':L2.St->L2.St)(hclos:closureFor scope X.env=pure cl)(hkind:scope.kind=.function)(hnames:∀y∈scope.names,y.2=.local->scope.names.lookup y.1=some .local)
  (hcl:∀y c,cl.lookup y=some c->X.env.cells.lookup y=some c) (hhas:∀y,(relabel scope X.env).names.lookup y=some .cell\/(relabel scope X.env).names.lookup y=some .free->(y,NameKind.cell)∈scope.names\/∃c,cl.lookup y=some c) (hcap:∀(σ:L2.St) (i:Nat) (y:Str) (v:V),N'[i]?=some y->(σ' σ)[i]?=some (some v)->(y,NameKind.cell)∉scope.names)
  (hσ:∀σ:L2.St,σ.length=X.N.length->(σ' σ).length=N'.length)
  (hvis:∀(σ:L2.St) (i:Nat) (y:Str) (v:V),N'[i]?=some y->(σ' σ)[i]?=some (some v)->((relabel scope X.env).names.lookup y=some .cell\/(relabel scope X.env).names.lookup y=some .free)/\∃j:Nat,X.N[j]?=some y/\σ[j]?=some (some v)/\Vis X.env.scope y/\X.env.kindOf y≠some .local)
  (hc:X.calm=true) (hi:PI X tg iter wi) {E:L2.St->XK} (hps:zbn X E) (hst:FrOk X) {σ:L2.St} (hg:∀cl C s₀ H₀ ex xb,zbn (za8 X scope cl N' C s₀ H₀ ex xb) (fun _=>E σ)->PG (za8 X scope cl N' C s₀ H₀ ex xb) tg g) (ht:∀cl C s₀ H₀ ex xb,zbn (za8 X scope cl N' C s₀ H₀ ex xb) (fun _=>E σ)->PTs (za8 X scope cl N' C s₀ H₀ ex xb) ifs tt) (he:∀cl C s₀ H₀ ex xb,zbn (za8 X scope cl N' C s₀ H₀ ex xb) (fun _=>E σ)->PE (za8 X scope cl N' C s₀ H₀ ex xb) elt te)
  (hs:∀x,foldedSetIterable iter X.env x=pure x) {pins:List (Addr×Obj)} {s:Shared} {H:Hp} {Q:VK} (I:Inv X pins σ H s) (h:tLC2 σ' wi g tt te σ H Q) :
  wpAny (model X.prog X.w) X.A (eval (.ListComp elt [⟨tg,iter,ifs,0⟩] scope pos) X.env) (EP X pins σ Q) X.xe s:=by
 rw[eval_ListComp];refine lc_any σ' hclos hkind hnames hcl hhas hcap hσ hvis hc hi hps hst hg ht he hs I h fun D C s5 H5 I5 q5 ⟨m,hm⟩ f=>⟨m,hm,fun h' sb=>?_⟩
 exact⟨.ref D,H5,zfy (t':=s5.toks) (ch:=[C]) I5 (fun b o hb e=>(sb.2 b (fun z=>hb (by simp[z]))).trans e) (fun b hb=>by rw[ya8.mp hb];exact f),rfl,q5⟩
theorem lc_set(σ':L2.St->L2.St)(hclos:closureFor scope X.env=pure cl)(hkind:scope.kind=.function)(hnames:∀y∈scope.names,y.2=.local->scope.names.lookup y.1=some .local)
  (hcl:∀y c,cl.lookup y=some c->X.env.cells.lookup y=some c) (hhas:∀y,(relabel scope X.env).names.lookup y=some .cell\/(relabel scope X.env).names.lookup y=some .free->(y,NameKind.cell)∈scope.names\/∃c,cl.lookup y=some c) (hcap:∀(σ:L2.St) (i:Nat) (y:Str) (v:V),N'[i]?=some y->(σ' σ)[i]?=some (some v)->(y,NameKind.cell)∉scope.names)
  (hσ:∀σ:L2.St,σ.length=X.N.length->(σ' σ).length=N'.length)
  (hvis:∀(σ:L2.St) (i:Nat) (y:Str) (v:V),N'[i]?=some y->(σ' σ)[i]?=some (some v)->((relabel scope X.env).names.lookup y=some .cell\/(relabel scope X.env).names.lookup y=some .free)/\∃j:Nat,X.N[j]?=some y/\σ[j]?=some (some v)/\Vis X.env.scope y/\X.env.kindOf y≠some .local)
  (hc:X.calm=true) (hi:PI X tg iter wi) {E:L2.St->XK} (hps:zbn X E) (hst:FrOk X) {σ:L2.St} (hg:∀cl C s₀ H₀ ex xb,zbn (za8 X scope cl N' C s₀ H₀ ex xb) (fun _=>E σ)->PG (za8 X scope cl N' C s₀ H₀ ex xb) tg g) (ht:∀cl C s₀ H₀ ex xb,zbn (za8 X scope cl N' C s₀ H₀ ex xb) (fun _=>E σ)->PTs (za8 X scope cl N' C s₀ H₀ ex xb) ifs tt) (he:∀cl C s₀ H₀ ex xb,zbn (za8 X scope cl N' C s₀ H₀ ex xb) (fun _=>E σ)->PE (za8 X scope cl N' C s₀ H₀ ex xb) elt te)
  (hs:∀x,foldedSetIterable iter X.env x=pure x) {pins:List (Addr×Obj)} {s:Shared} {H:Hp} {D:Ends} {i:Nat} {x:Str} {pos':Pos} (hN:X.N.Nodup) (hix:X.N[i]?=some x) (hx:X.env.scope.names.lookup x=some .local)
  (hsw:swapsWith (.ListComp elt [⟨tg,iter,ifs,0⟩] scope pos) (some (.Name x pos')) pos2.line X.env=pure true)
  (I:Inv X pins σ H s) (h:tLC2 σ' wi g tt te σ H fun v H1=>D.nx (σ.set i (some v)) H1) :
  wpAny (model X.prog X.w) X.A (exec (.Assign [.Name x pos'] (.ListComp elt [⟨tg,iter,ifs,0⟩] scope pos) pos2) X.env) (SP X pins D) X.xe s:=by
 rw[exec_Assign_Name_used _ _ _ _ hsw];refine wpAny_bind (wpAny_standAt (wpAny_bind ?_));show wpAny _ X.A (do let _ <- comprehension (.ListComp elt [⟨tg,iter,ifs,0⟩] scope pos) scope X.env _ (newList []) false (eval iter X.env) (some (assign (.Name x pos') X.env))) _ _ s
 refine wpAny_bind (wpAny_mono (lc_any (QQ:=fun _ s'=>SP X pins D .next s') σ' hclos hkind hnames hcl hhas hcap hσ hvis hc hi hps hst hg ht he hs I h fun A C s5 H5 I5 q5 ⟨m,hm⟩ f=>?_) (fun _ s' hq=>wpAny_pure (wpAny_pure hq)) fun _ _ e=>e)
 show wpAny _ X.A (assign (.Name x pos') X.env (.ref A)) _ _ _;refine wpAny_assign_Name (store_ok2 I5 hN hix (.inl hx) (v:=.ref A) rfl (fun s6 I6 ⟨a,sb,ha⟩=>?_) (.inr hx))
 have hCa:C≠a:=by
  rcases ha with rfl|ha
  ·exact f.2.1
  ·exact fun z=>f.2.2.2.2.1 x a ha z.symm
 refine⟨m,hm.sameBut sb hCa,fun h' sb2=>⟨_,H5,zfy (t':=s6.toks) (ch:=[C]) I6 (fun b o hb e=>(sb2.2 b (fun z=>hb (by simp[z]))).trans e) (fun b hb=>by rw[ya8.mp hb];exact f),q5⟩⟩
end
end Pu
set_option Elab.async false
set_option linter.all false
set_option maxRecDepth 100000
namespace Pu
open PySem PySem.Spec PyProof.Rows L2 Zw Zx
structure RpO(K:PySem.W.Frag)(F H:Hp)(l:List T)(xs:List V)(R:Nat->Rg):Prop where
 len:l.length=xs.length
 rep:∀(i:Nat) (t:T) (x:V),l[i]?=some t->xs[i]?=some x->Rp K F H t x (R i)
 dis:∀i j a,i≠j->R i a->¬ R j a
 out:∀i a,R i a->i<l.length
section
variable {K:PySem.W.Frag}{F H F1 H1:Hp}{l:List T}{xs:List V}{R:Nat->Rg}{B:Rg}
theorem RpO.nil:RpO K F H [] [] (fun _=>R0):=⟨rfl,fun i t x h=>by simp at h,fun _ _ _ _ z=>z.elim,fun _ _ z=>z.elim⟩
theorem RpO.dom(h:RpO K F H l xs R){i:Nat}{a:Addr}(z:R i a):F a=none/\∃u,H a=some u:=by
 have hi:=h.out i a z;have hx:i<xs.length:=by have:=h.len;omega
 exact(h.rep i _ _ (ya2 hi) (ya2 hx)).dom z
theorem RpO.ext(h:RpO K F H l xs R)(e:Ext F H F1 H1 B):RpO K F1 H1 l xs R:=⟨h.len,fun i t x h1 h2=>(h.rep i t x h1 h2).ext e,h.dis,h.out⟩
theorem RpO.apart(h:RpO K F H l xs R)(e:Ext F H F1 H1 B){b:Addr}(hb:B b)(i:Nat):¬ R i b:=fun z=>by
 obtain⟨f,u,q⟩:=h.dom z;rw[e.nb b hb]at q;cases q
theorem RpO.snoc(h:RpO K F H l xs R){t:T}{x:V}(r:Rp K F H t x B)(d:∀i a,R i a->¬ B a):RpO K F H (l++[t]) (xs++[x]) (fun j=>if j=l.length then B else R j):=by
 have hl:=h.len;refine⟨by simp[hl],fun i t' x' h1 h2=>?_,fun i j a hij z1 z2=>?_,fun i a z=>?_⟩
 ·by_cases hi:i=l.length
  ·subst hi;rw[if_pos rfl];have e1:t=t':=by simpa using h1
   have e2:x=x':=by rw[hl]at h2;simpa using h2
   subst e1;subst e2;exact r
  ·rw[if_neg hi]
   have hlt:i<l.length:=by
    have:=(ya7.mp h1).1;simp at this
    omega
   rw[yap hlt]at h1;rw[yap (by omega)]at h2
   exact h.rep i t' x' h1 h2
 ·by_cases hi:i=l.length
  ·simp only[hi,if_true]at z1;have hj:¬ j=l.length:=fun z=>hij (hi.trans z.symm)
   simp only[hj,if_false]at z2;exact d j a z2 z1
  ·simp only[hi,if_false]at z1
   by_cases hj:j=l.length
   ·simp only[hj,if_true]at z2;exact d i a z1 z2
   ·simp only[hj,if_false]at z2;exact h.dis i j a hij z1 z2
 ·by_cases hi:i=l.length
  ·simp[hi]
  ·simp only[hi,if_false]at z;have:=h.out i a z;simp
   omega
theorem RpO.cons(h:RpO K F H l xs R){t:T}{x:V}(r:Rp K F H t x B)(d:∀i a,R i a->¬ B a):RpO K F H (t::l) (x::xs) (fun j=>match j with|0=>B|j+1=>R j):=by
 refine⟨by simp[h.len],fun i t' x' h1 h2=>?_,fun i j a hij z1 z2=>?_,fun i a z=>?_⟩
 ·cases i with
  |zero =>
   simp at h1 h2;subst h1;subst h2;exact r
  |succ i=>exact h.rep i t' x' (by simpa using h1) (by simpa using h2)
 ·cases i with
  |zero =>
   cases j with
   |zero=>exact hij rfl
   |succ j=>exact d j a z2 z1
  |succ i =>
   cases j with
   |zero=>exact d i a z1 z2
   |succ j=>exact h.dis i j a (fun z=>hij (by rw[z])) z1 z2
 ·cases i with
  |zero=>simp
  |succ i=>have:=h.out i a z;simp;omega
theorem RpO.r0(h:RpO K F H l xs R)(s:shL l=true):Rps K F l xs:=⟨h.len,fun i t x h1 h2=>(h.rep i t x h1 h2).move (shL_get s h1) (.refl _)⟩
theorem RpO.list(h:RpO K F H l xs R)(s:zbh F H){p:Addr}(hp:H p=none):Rp K F (upd H p (.lst xs)) (.own l) (.ref p) (fun a=>a=p\/∃i,R i a)/\Ext F H F (upd H p (.lst xs)) (fun a=>a=p):=by
 have e:=Ext.newO (o:=.lst xs) s hp;have h':=h.ext e;exact⟨.own (k:=.lst) trivial R (zbq s hp) zb2 h.len h'.rep h.dis (fun i z=>h.apart e rfl i z) h.out,e⟩
end
def mIx(ma mk:PSt->Option Rs):PSt->Option Rs:=fun τ=>match ma τ with
 |some (.v t b)=>(match mk τ with
  |some (.v (.int i) _)=>(match t with
   |.nd _ _ l=>(match atI l i with
    |some c=>some (.v c (b && !c.sh))
    |none=>none)
   |.str z=>if z.length<=lim then (match atI z.cps.toList i with
    |some c=>some (.v (.str ⟨#[c]⟩) false)
    |none=>none) else none
   |_=>none)
  |some (.v _ _)=>none
  |r=>r)
 |r=>r
theorem atI_two{α β:Type}{l:List α}{m:List β}{i:Int}{c:α}(e:l.length=m.length)(h:atI l i=some c):∃(j:Nat) (d:β),l[j]?=some c/\m[j]?=some d/\atI m i=some d:=by
 unfold atI at h ⊢;rw[<- e];cases q:ixN l.length i with
 |none=>rw[q]at h;cases h
 |some j =>
  rw[q]at h;have h':l[j]?=some c:=h
  have hj:j<m.length:=by
   have:=(ya7.mp h').1
   omega
  exact⟨j,m[j],h',ya2 hj,ya2 hj⟩
section
variable {K:PySem.W.Frag}{F H:Hp}
theorem Rp.seq{o:Bool}{k:Kd}{l:List T}{x:V}{A:Rg}(s:zbh F H)(h:Rp K F H (.nd o k l) x A):∃p xs,x=.ref p/\(SqL K H p xs\/SqT K H p xs)/\l.length=xs.length/\∀(i:Nat) (t:T) (x:V),l[i]?=some t->xs[i]?=some x->∃B,(∀a,B a->A a)/\Rp K F H t x B:=by
 cases h with
 |@shr k p xs l h e c =>
  refine⟨p,xs,rfl,?_,e,fun i t x h1 h2=>⟨R0,fun _ z=>z.elim,c i t x h1 h2⟩⟩
  cases k with
  |lst=>exact .inl (SqL.of (s _ _ h))
  |rl=>exact .inl (s.seq h)
  |tup=>exact .inr (SqT.of (s _ _ h))
  |rt=>exact .inr (zcx s h)
  |pin q=>exact .inl (SqL.of (s _ _ h))
 |@own k0 p xs l hk R f h e c d dp o=>exact⟨p,xs,rfl,.inl (SqL.of h),e,fun i t x h1 h2=>⟨R i,fun a z=>.inr ⟨i,z⟩,c i t x h1 h2⟩⟩
end
section
variable {X:Cx}{E:L2.St->XK}{ca:Str->Value}{σ:L2.St}{H:Hp}{m ma mb mc:PSt->Option Rs}{ms:PSt->Option RsL}{K:PySem.W.Frag}{a b c e:Expr}{es:List Expr}{pos:Pos}
theorem tM_ix{Q:VK}(h:tM K E ca (mIx ma mb) σ H Q):tOp (rIx K) (tM K E ca ma) (tM K E ca mb) σ H Q:=by
 obtain⟨F,τ,R,S,q⟩:=h;refine⟨F,τ,R,S,?_⟩;unfold mIx at q;cases hm:ma τ with
 |none=>simp only[hm]at q
 |some r =>
  simp only[hm]at q;cases r with
  |x c=>exact q
  |v t bb =>
   intro F1 H1 x B e1 g1;have S1:=S.ext e1;refine⟨F1,τ,R,S1,?_⟩;cases hk:mb τ with
   |none=>simp only[hk]at q
   |some r =>
    simp only[hk]at q;cases r with
    |x c=>exact fun F' H' e=>q F' H' ((e1.trans e).mono fun _ z=>z.elim)
    |v tk bk =>
     cases tk with
     |int i =>
      intro F2 H2 y C e2 g2
      have hy:y=.int i:=by
       cases bk with
       |true=>obtain⟨_,A,_,r⟩:=g2;exact r.int_inv
       |false=>exact(show Rp K F2 H2 _ _ _ from g2).int_inv
      subst hy;have e02:Ext F H F2 H2 B:=(e1.trans e2).mono fun _ z=>.inl z
      have S2:=S1.ext e2;cases t with
      |nd o k l =>
       simp only at q;cases hc:atI l i with
       |none=>simp only[hc]at q
       |some cc =>
        simp only[hc]at q
        have node:∃A0,(bb=true->∀a,A0 a->tot R a)/\(bb=false->∀a,A0 a->B a)/\Rp K F2 H2 (.nd o k l) x A0:=by
         cases bb with
         |true =>
          obtain⟨_,A,hA,r⟩:=g1;exact⟨A,fun _=>hA,(fun z=>by cases z),r.ext e2⟩
         |false=>exact⟨B,(fun z=>by cases z),fun _ _ z=>z,(show Rp K F1 H1 _ _ _ from g1).ext e2⟩
        obtain⟨A0,hA1,hA2,rn⟩:=node;obtain⟨p,xs,rfl,hq,hl,kids⟩:=Rp.seq S2.fh rn;obtain⟨j,d,h1,h2,h3⟩:=atI_two hl hc;obtain⟨A1,hA,rk⟩:=kids j cc d h1 h2
        have qq:Q d H2:=by
         cases bb with
         |false=>exact q F2 H2 d A1 (e02.mono fun a z=>hA2 rfl a (hA a z)) rk
         |true =>
          cases hs:cc.sh with
          |true =>
           rw[hs]at q;exact q F2 H2 d R0 (e02.mono fun _ z=>z.elim) (rk.move hs (.refl _))
          |false =>
           rw[hs]at q;exact q F2 H2 d R0 (e02.mono fun _ z=>z.elim) ⟨rfl,A1,fun a z=>hA1 rfl a (hA a z),rk⟩
        rcases hq with hq|hq
        ·exact .inl ⟨p,xs,i,d,rfl,rfl,hq,h3,qq⟩
        ·exact .inr (.inl ⟨p,xs,i,d,rfl,rfl,hq,h3,qq⟩)
      |str z =>
       by_cases hz:z.length<=lim
       ·simp only[hz,if_true]at q;cases hc:atI z.cps.toList i with
        |none=>simp only[hc]at q
        |some cc =>
         simp only[hc]at q
         have hx:x=.str z:=by
          cases bb with
          |true=>obtain⟨_,A,_,r⟩:=g1;exact r.str_inv
          |false=>exact(show Rp K F1 H1 _ _ _ from g1).str_inv
         subst hx;exact .inr (.inr ⟨z,i,cc,rfl,rfl,by rw[<- zdn];exact hz,hc,q F2 H2 _ R0 (e02.mono fun _ z=>z.elim) (.str _)⟩)
       ·simp only[hz,if_false]at q
      |_=>exact q.elim
     |_=>exact q.elim
theorem r_ix(ha:PE X a (tM X.K E ca ma))(hb:PE X b (tM X.K E ca mb))(hs:PlainIx b):PE X (.Subscript a b pos) (tM X.K E ca (mIx ma mb)):=PE.weak (pe_ix ix_seq ha hb hs) fun σ H Q h=>tM_ix h
def cutL{α:Type}(l:List α)(lo hi:Option Int):List α:=(l.drop (HT.sIx l.length 0 lo)).take (HT.sIx l.length l.length hi - HT.sIx l.length 0 lo)
def zii(m:Option (PSt->Option Rs)):PSt->Option (Option Int):=fun τ=>match m with
 |none=>some none
 |some m=>match m τ with
  |some (.v (.int i) _)=>some (some i)
  |_=>none
def mSl(ma:PSt->Option Rs)(ml mh:Option (PSt->Option Rs)):PSt->Option Rs:=fun τ=>match ma τ with
 |some (.v t false)=>(match zii ml τ with
  |some lo=>(match zii mh τ with
   |some hi=>(match t with
    |.nd _ .lst l=>some (.v (.own (cutL (zb0 l) lo hi)) false)
    |.nd _ .rl l=>some (.v (.own (cutL (zb0 l) lo hi)) false)
    |_=>none)
   |none=>none)
  |none=>none)
 |some (.v _ true)=>none
 |r=>r
def tPo(K:PySem.W.Frag)(m:Option (PSt->Option Rs)):TO:=fun σ H Q=>∃F τ R o,StR K F H σ τ R/\zii m τ=some o/\∀F' H',Ext F H F' H' R0->Q o H'
theorem r_po0:PO X none (tPo X.K none):=fun pins s σ H Q I h=>by
 obtain⟨F,τ,R,o,S,e,q⟩:=h;cases e;exact po_none pins s σ H Q I (q F H (Ext.refl S.fh))
theorem r_po1(ha:PE X e (tM X.K E ca m)):PO X (some e) (tPo X.K (some m)):=fun pins s σ H Q I h=>by
 obtain⟨F,τ,R,o,S,e',q⟩:=h;refine po_some ha pins s σ H Q I ⟨F,τ,R,S,?_⟩;unfold zii at e';simp only at e';cases hm:m τ with
 |none=>rw[hm]at e';cases e'
 |some r =>
  rw[hm]at e';cases r with
  |x c=>cases e'
  |v v b =>
   cases v with
   |int i =>
    cases e';intro F' H' x B e g
    have hx:x=.int i:=by
     cases b with
     |true=>obtain⟨_,A,_,r⟩:=g;exact r.int_inv
     |false=>exact(show Rp X.K F' H' _ _ _ from g).int_inv
    exact⟨i,hx,q F' H' (e.mono fun _ z=>z.elim)⟩
   |_=>cases e'
theorem cutL_rps{F:Hp}{l:List T}{xs:List V}(r:Rps K F l xs)(lo hi:Option Int):Rps K F (cutL l lo hi) (cutV xs lo hi):=by
 have hl:=r.1;unfold cutL cutV;rw[hl];refine⟨by simp[hl],fun i t x h1 h2=>?_⟩
 rw[List.getElem?_take]at h1 h2;split at h1
 ·rename_i hi';rw[if_pos hi',ydp]at h2;rw[ydp]at h1;exact r.2 _ t x h1 h2
 ·cases h1
theorem r_slice{lo hi:Option Expr}{ml mh:Option (PSt->Option Rs)}{p2:Pos}(ha:PE X a (tM X.K E ca ma))(hl:PO X lo (tPo X.K ml))(hh:PO X hi (tPo X.K mh)):PE X (.Subscript a (.Slice lo hi none p2) pos) (tM X.K E ca (mSl ma ml mh)):=by
 refine PE.weak (pe_slice sl_list ha hl hh) fun σ H Q h=>?_
 obtain⟨F,τ,R,S,q⟩:=h;refine⟨F,τ,R,S,?_⟩;unfold mSl at q;cases hm:ma τ with
 |none=>simp only[hm]at q
 |some r =>
  simp only[hm]at q;cases r with
  |x c=>exact q
  |v t bb =>
   cases bb with
   |true=>exact q.elim
   |false =>
    intro F1 H1 x B e1 g1;obtain⟨F1',e1',_,r1⟩:=Got.frz (b:=false) S e1 g1;have S1:=S.ext e1';simp only at q;cases h1:zii ml τ with
    |none=>simp only[h1]at q
    |some lo' =>
     simp only[h1]at q;refine⟨F1',τ,R,lo',S1,h1,fun F2 H2 e2=>?_⟩
     have S2:=S1.ext e2;cases h2:zii mh τ with
     |none=>simp only[h2]at q
     |some hi' =>
      simp only[h2]at q;refine⟨F2,τ,R,hi',S2,h2,fun F3 H3 e3=>?_⟩
      have S3:=S2.ext e3;have e03:=e1'.trans0 (e2.trans0 e3);have r3:Rp X.K F3 F3 t.share x R0:=(show Rp X.K F1' F1' t.share x R0 from r1).frame (e2.ff.trans e3.ff) fun _ z=>z.elim
      have key:∀{o:Bool} {k:Kd} {l:List T},t=.nd o k l->(k=.lst\/k=.rl)->(∀F' H' x B,Ext F H F' H' B->Rp X.K F' H' (.own (cutL (zb0 l) lo' hi')) x B->Q x H')->rSlL X.K x lo' hi' H3 Q:=by
       intro o k l et hk qq;subst et;rw[T.share]at r3;obtain⟨p,xs,rfl,_,n3,k3⟩:=zda r3
       have sq:SqL X.K H3 p xs:=by
        rcases hk with rfl|rfl
        ·exact SqL.of (S3.fh _ _ n3)
        ·exact S3.fh.seq n3
       refine⟨p,xs,rfl,sq,fun p' hp'=>?_⟩
       have gg:zjb X.K F3 H3 (.own (cutL (zb0 l) lo' hi')) Q:=fun F' H' z C e g=>qq F' H' z C (e03.trans0 e) g
       exact gg.list S3.fh (cutL_rps k3 lo' hi') hp'
      cases t with
      |nd o k l =>
       cases k with
       |lst=>exact key rfl (.inl rfl) q
       |rl=>exact key rfl (.inr rfl) q
       |tup=>exact q.elim
       |rt=>exact q.elim
       |pin _=>exact q.elim
      |_=>exact q.elim
def tMo(K:PySem.W.Frag)(E:L2.St->XK)(ca:Str->Value)(m:PSt->Option RsL):TA:=fun σ H Q=>∃F τ R,StR K F H σ τ R/\match m τ with
 |some (.v ts _)=>∀F' H' xs (Rr:Nat->Rg),Ext F H F' H' (tot Rr)->RpO K F' H' ts xs Rr->Q xs H'
 |some (.x c)=>∀F' H',Ext F H F' H' R0->E σ (ca c) none H'
 |none=>False
def zau(m:PSt->Option Rs)(ms:PSt->Option RsL):PSt->Option RsL:=fun τ=>match m τ with
 |some (.v t false)=>(match ms τ with
  |some (.v ts _)=>some (.v (t::ts) false)
  |r=>r)
 |some (.v _ true)=>none
 |some (.x c)=>some (.x c)
 |none=>none
theorem r_nilO:PA X [] (tMo X.K E ca za4):=PA.weak zfq fun σ H Q h=>by
 obtain⟨F,τ,R,S,q⟩:=h;exact q F H [] (fun _=>R0) ((Ext.refl S.fh).mono fun a ⟨i,z⟩=>z.elim) .nil
theorem r_consO(ha:PE X e (tM X.K E ca m))(hr:PA X es (tMo X.K E ca ms))(hs:starEach (e::es) X.env=(false,eval e X.env)::starEach es X.env):PA X (e::es) (tMo X.K E ca (zau m ms)):=by
 refine PA.weak (zd9 ha hr hs) fun σ H Q h=>?_
 obtain⟨F,τ,R,S,q⟩:=h;refine⟨F,τ,R,S,?_⟩;unfold zau at q;cases hm:m τ with
 |none=>simp only[hm]at q
 |some r =>
  simp only[hm]at q;cases r with
  |x c=>exact q
  |v t bb =>
   cases bb with
   |true=>exact q.elim
   |false =>
    intro F1 H1 x B e1 g1;have S1:=S.ext e1;refine⟨F1,τ,R,S1,?_⟩;simp only at q;cases hs:ms τ with
    |none=>simp only[hs]at q
    |some r =>
     simp only[hs]at q;cases r with
     |x c=>exact fun F' H' e=>q F' H' ((e1.trans e).mono fun _ z=>z.elim)
     |v ts b' =>
      intro F2 H2 xs Rr e2 ro;have g1':Rp X.K F1 H1 t x B:=g1;refine q F2 H2 (x::xs) _ ((e1.trans e2).mono ?_) (ro.cons (g1'.ext e2) fun i a z=>?_)
      ·rintro a ⟨j,z⟩;cases j with
       |zero=>exact .inl z
       |succ j=>exact .inr ⟨j,z⟩
      ·exact g1'.apart e2 ⟨i,z⟩
def zij(ms:PSt->Option RsL):PSt->Option Rs:=fun τ=>match ms τ with
 |some (.v ts _)=>if ts.length<=lim then some (.v (.own ts) false) else none
 |some (.x c)=>some (.x c)
 |none=>none
theorem r_lst(h:PA X es (tMo X.K E ca ms)):PE X (.List es pos) (tM X.K E ca (zij ms)):=by
 refine PE.weak (pe_lst h) fun σ H Q h=>?_
 obtain⟨F,τ,R,S,q⟩:=h;refine⟨F,τ,R,S,?_⟩;unfold zij at q;cases hm:ms τ with
 |none=>simp only[hm]at q
 |some r =>
  simp only[hm]at q;cases r with
  |x c=>exact q
  |v ts b =>
   intro F1 H1 xs Rr e1 ro
   by_cases hz:ts.length<=lim
   ·simp only[hz,if_true]at q;refine⟨by rw[<- ro.len,<- zdn];exact hz,fun p hp=>?_⟩
    obtain⟨r,e2⟩:=ro.list e1.fh hp;refine q F1 _ _ _ ((e1.trans e2).mono ?_) r;rintro a (z|⟨i,z⟩)
    ·exact .inr z
    ·exact .inl ⟨i,z⟩
   ·simp only[hz,if_false]at q
def mTup(ms:PSt->Option RsL):PSt->Option Rs:=fun τ=>match ms τ with
 |some (.v ts false)=>if ts.length<=lim then some (.v (.tup ts) false) else none
 |some (.v _ true)=>none
 |some (.x c)=>some (.x c)
 |none=>none
theorem r_tup{k:Nat}(h:PA X es (tMs X.K E ca ms)):PE X (.Tuple es k pos) (tM X.K E ca (mTup ms)):=by
 refine PE.weak (pe_tup h) fun σ H Q h=>?_
 obtain⟨F,τ,R,S,q⟩:=h;refine⟨F,τ,R,S,?_⟩;unfold mTup at q;cases hm:ms τ with
 |none=>simp only[hm]at q
 |some r =>
  simp only[hm]at q;cases r with
  |x c=>exact q
  |v ts b =>
   cases b with
   |true=>exact q.elim
   |false =>
    intro F1 H1 xs e1 rs
    by_cases hz:ts.length<=lim
    ·simp only[hz,if_true]at q;refine⟨by rw[<- rs.1,<- zdn];exact hz,fun p hp=>?_⟩
     have gg:zjb X.K F1 H1 (.tup ts) Q:=fun F' H' z C e g=>q F' H' z C (e1.trans0 e) g
     exact gg.tuple e1.fh rs hp
    ·simp only[hz,if_false]at q
theorem r_bltF{id:String}{x:Str}{p:Pos}{g:List T->Option T}(hc:zc0 X (.builtin id) (rTn X.K g))(hg:Gl X x)(hm:X.mg x=none)(hv:bootBuiltins x=some (.builtin id))(ha:PA X (e::es) (tMs X.K E ca ms))(hn:x≠"__name__")(hdb:(x == ("__debug__":Str))=false)
  (he:starEach (e::es) X.env=(false,eval e X.env)::starEach es X.env) (hpl:(backTo pos (starEach es X.env)).any (·.1)=false):PE X (.Call (.Name x p) (e::es) [] pos) (tM X.K E ca (mAp g ms)) :=
 PE.weak (zi0 hc hg hm hv ha hn hdb he hpl) fun σ H Q h=>tM_ap h
theorem r_bltT{T':String}{x:Str}{p:Pos}{g:List T->Option T}(hc:zc0 X (.type T') (rTn X.K g))(hg:Gl X x)(hm:X.mg x=none)(hv:bootBuiltins x=some (.type T'))(ha:PA X (e::es) (tMs X.K E ca ms))(hn:x≠"__name__")(hdb:(x == ("__debug__":Str))=false)
  (he:starEach (e::es) X.env=(false,eval e X.env)::starEach es X.env) (hpl:(backTo pos (starEach es X.env)).any (·.1)=false):PE X (.Call (.Name x p) (e::es) [] pos) (tM X.K E ca (mAp g ms)) :=
 PE.weak (pe_callTy hc hg hm hv ha hn hdb he hpl) fun σ H Q h=>tM_ap h
end
end Pu
set_option Elab.async false
set_option linter.all false
set_option maxRecDepth 100000
namespace Pu
open PySem PySem.Spec PyProof.Rows L2 Zw Zx
def lenT:T->Option T
 |.nd _ _ l=>some (.int l.length)
 |.str z=>if z.length<=lim then some (.int z.length) else none
 |_=>none
def zin:T->Option T
 |.nd _ _ l=>some (.own l)
 |_=>none
def absT:T->Option T
 |.int i=>some (.int (if i<0 then -i else i))
 |_=>none
def minT:T->T->Option T
 |.int i,.int j=>some (.int (if j<i then j else i))
 |_,_=>none
def maxT:T->T->Option T
 |.int i,.int j=>some (.int (if j > i then j else i))
 |_,_=>none
def intT:T->Option T
 |.int i=>some (.int i)
 |.bl k=>some (.int (if k then 1 else 0))
 |.str x=>if x.length<=640 then (intText? x).map T.int else none
 |_=>none
def strT:T->Option T
 |.int i=>if i.natAbs.log2<1920 then some (.str (toString i)) else none
 |_=>none
def bools:List T->Option (List Bool)
 |[]=>some []
 |.bl b::r=>(match bools r with
  |some l=>some (b::l)
  |none=>none)
 |_::_=>none
def allT:T->Option T
 |.nd _ .lst l=>(match bools l with
  |some bs=>some (.bl (bs.all id))
  |none=>none)
 |_=>none
def anyT:T->Option T
 |.nd _ .lst l=>(match bools l with
  |some bs=>some (.bl (bs.any id))
  |none=>none)
 |_=>none
def tyN:T->Option String
 |.non=>some "NoneType"
 |.bl _=>some "bool"
 |.int _=>some "int"
 |.str _=>some "str"
 |.nd _ .lst _=>some "list"
 |.nd _ .tup _=>some "tuple"
 |.dic _ _=>some "dict"
 |.pdc _ _=>some "dict"
 |_=>none
def tyCs:List String:=["int","bool","str","list","tuple"]
def subTy(a c:String):Bool:=a == c || (a == "bool" && c == "int")
def zgh(c:String)(t:T):Option T:=match tyN t with
 |some a=>if c∈tyCs then some (.bl (subTy a c)) else none
 |none=>none
theorem kitMeta_str:PySem.W.kitMeta "str"=true:=by decide +kernel
theorem kitMeta_list:PySem.W.kitMeta "list"=true:=by decide +kernel
theorem kit_ok(K:PySem.W.Frag){a c:String}(ha:a∈["NoneType","bool","int","str","list","tuple","dict"])(hc:c∈tyCs):PySem.W.kitOne K (.type a) (.type c)=some (subTy a c):=by
 have km:PySem.W.kitMeta c=true:=by
  simp only[tyCs,ya3,yb9,or_false]at hc
  rcases hc with rfl|rfl|rfl|rfl|rfl
  ·exact kitMeta_int
  ·exact kitMeta_bool
  ·exact kitMeta_str
  ·exact kitMeta_list
  ·exact kitMeta_tuple
 by_cases h:a=c
 ·subst h;rw[kit_same];simp[subTy]
 ·refine kit_ne K (l:=[]) h km ?_;simp only[tyCs,ya3,yb9,or_false]at hc ha
  rcases ha with rfl|rfl|rfl|rfl|rfl|rfl|rfl<;>rcases hc with rfl|rfl|rfl|rfl|rfl<;>first|exact absurd rfl h|decide +kernel
section
variable {X:Cx}
theorem callT_len:zc0 X (.builtin "len") (rTn X.K (g1 lenT)):=by
 intro pins s σ H xs us Q I r h;obtain⟨F,ts,v,fh,rs,e,q⟩:=h;unfold g1 at e;split at e
 ·obtain⟨x1,xs1,rfl,r1,rs1⟩:=rs.inv;cases rs1.inv0;unfold lenT at e;split at e
  ·cases e;obtain⟨p,ys,rfl,hq,hl,_⟩:=Rp.seq (H:=H) fh (r1.any);refine call_len pins s σ H _ us Q I r ⟨_,ys.length,rfl,?_,by rw[<- hl];exact q.int fh⟩
   rcases hq with hq|hq
   ·exact .inl ⟨ys,hq,rfl⟩
   ·exact .inr ⟨ys,hq,rfl⟩
  ·split at e
   ·cases e;rename_i hz;rw[r1.str_inv]at r;exact call_len pins s σ H _ us Q I r ⟨_,_,rfl,⟨by rw[<- zdn];exact hz,rfl⟩,q.int fh⟩
   ·cases e
  ·cases e
 ·cases e
theorem nodeS_seq{K:PySem.W.Frag}{F H:Hp}{k:Kd}{p:Addr}{xs:List V}(s:zbh F H)(h:zjx K F k p xs):SqL K H p xs\/SqT K H p xs:=by
 cases k with
 |lst=>exact .inl (SqL.of (s _ _ h))
 |rl=>exact .inl (s.seq h)
 |tup=>exact .inr (SqT.of (s _ _ h))
 |rt=>exact .inr (zcx s h)
 |pin q=>exact .inl (SqL.of (s _ _ h))
theorem callT_list:zc0 X (.type "list") (rTn X.K (g1 zin)):=by
 intro pins s σ H xs us Q I r h;obtain⟨F,ts,v,fh,rs,e,q⟩:=h;unfold g1 at e;split at e
 ·obtain⟨x1,xs1,rfl,r1,rs1⟩:=rs.inv;cases rs1.inv0;unfold zin at e;split at e
  ·cases e;obtain⟨p,ys,rfl,rfl,n1,k1⟩:=zda r1;have hq:SqL X.K H p ys\/SqT X.K H p ys:=nodeS_seq fh n1;exact call_list_of pins s σ H _ us Q I r ⟨p,ys,rfl,hq,fun l hl=>q.list fh k1 hl⟩
  ·cases e
 ·cases e
theorem callT_abs:zc0 X (.builtin "abs") (rTn X.K (g1 absT)):=by
 intro pins s σ H xs us Q I r h;obtain⟨F,ts,v,fh,rs,e,q⟩:=h;unfold g1 at e;split at e
 ·obtain⟨x1,xs1,rfl,r1,rs1⟩:=rs.inv;cases rs1.inv0;unfold absT at e;split at e
  ·cases e;rw[r1.int_inv]at r;exact call_abs pins s σ H _ us Q I r ⟨_,rfl,q.int fh⟩
  ·cases e
 ·cases e
theorem callT_int:zc0 X (.type "int") (rTn X.K (g1 intT)):=by
 intro pins s σ H xs us Q I r h;obtain⟨F,ts,v,fh,rs,e,q⟩:=h;unfold g1 at e;split at e
 ·obtain⟨x1,xs1,rfl,r1,rs1⟩:=rs.inv;cases rs1.inv0;unfold intT at e;split at e
  ·cases e;rw[r1.int_inv]at r;exact call_int1 pins s σ H _ us Q I r (.inl ⟨_,rfl,q.int fh⟩)
  ·cases e;rw[r1.bl_inv]at r;exact call_int1 pins s σ H _ us Q I r (.inr ⟨_,rfl,q.int fh⟩)
  ·split at e
   ·obtain⟨n,hn,rfl⟩:=ya0.mp e;rw[r1.str_inv]at r;obtain⟨u,rfl,ru⟩:=r.one;obtain⟨t,rfl⟩:=ru;exact PySem.W.KIN.call_text hn ‹_› ⟨.int n,H,I.tok _,⟨_,rfl⟩,q.int fh⟩
   ·cases e
  ·cases e
 ·cases e
theorem callT_str:zc0 X (.type "str") (rTn X.K (g1 strT)):=by
 intro pins s σ H xs us Q I r h;obtain⟨F,ts,v,fh,rs,e,q⟩:=h;unfold g1 at e;split at e
 ·obtain⟨x1,xs1,rfl,r1,rs1⟩:=rs.inv;cases rs1.inv0;unfold strT at e;split at e
  ·split at e
   ·cases e;rename_i hz;rw[r1.int_inv]at r;exact call_str_int pins s σ H _ us Q I r ⟨_,rfl,hz,q.str fh⟩
   ·cases e
  ·cases e
 ·cases e
theorem callT_two{f:String}{g:T->T->Option T}{gi:Int->Int->Int}(hc:zc0 X (.builtin f) (fun xs H Q=>∃i j,xs=[.int i,.int j]/\Q (.int (gi i j)) H))(hg:∀t u v,g t u=some v->∃i j,t=.int i/\u=.int j/\v=.int (gi i j)):zc0 X (.builtin f) (rTn X.K (g2 g)):=by
 intro pins s σ H xs us Q I r h;obtain⟨F,ts,v,fh,rs,e,q⟩:=h;unfold g2 at e;split at e
 ·obtain⟨x1,xs1,rfl,r1,rs1⟩:=rs.inv;obtain⟨x2,xs2,rfl,r2,rs2⟩:=rs1.inv;cases rs2.inv0;obtain⟨i,j,rfl,rfl,rfl⟩:=hg _ _ _ e;rw[r1.int_inv,r2.int_inv]at r;exact hc pins s σ H _ us Q I r ⟨_,_,rfl,q.int fh⟩
 ·cases e
theorem callT_min(hc:X.calm=true):zc0 X (.builtin "min") (rTn X.K (g2 minT)):=callT_two (call_min2 hc) fun t u v h=>by
 unfold minT at h;split at h
 ·cases h;exact⟨_,_,rfl,rfl,rfl⟩
 ·cases h
theorem bools_get:∀{l:List T} {bs:List Bool},bools l=some bs->l.length=bs.length/\∀(i:Nat) (t:T),l[i]?=some t->∃b,bs[i]?=some b/\t=.bl b
 |[],bs,h=>by cases h;exact⟨rfl,fun i t e=>by simp at e⟩
 |t::r,bs,h=>by
  unfold bools at h;cases t with
  |bl b =>
   simp only at h;cases hr:bools r with
   |none=>simp only[hr]at h;cases h
   |some l =>
    simp only[hr]at h;cases h;obtain⟨h1,h2⟩:=bools_get hr;refine⟨by simp[h1],fun i t e=>?_⟩
    cases i with
    |zero=>simp at e;exact⟨b,rfl,e.symm⟩
    |succ i=>exact h2 i t (by simpa using e)
  |_=>cases h
theorem range_all{bs:List Bool}{tr:Nat->Bool}(h:∀(i:Nat) (b:Bool),bs[i]?=some b->tr i=b):(List.range bs.length).all tr=bs.all id/\(List.range bs.length).any tr=bs.any id:=by
 have e:(List.range bs.length).map tr=bs:=by
  apply ydy;intro i;rw[yae]
  by_cases hi:i<bs.length
  ·rw[ydk hi,ya2 hi];simp only[ybn];rw[h i _ (ya2 hi)]
  ·rw[ybd (by simp;omega),ybd (by omega)]
   rfl
 constructor
 ·have:(List.range bs.length).all tr=((List.range bs.length).map tr).all id:=by rw[List.all_map];rfl
  rw[this,e]
 ·have:(List.range bs.length).any tr=((List.range bs.length).map tr).any id:=by rw[List.any_map];rfl
  rw[this,e]
theorem walkB(hc:X.calm=true){pins:List (Addr×Obj)}{s:Shared}{σ:L2.St}{H:Hp}{F:Hp}{l:List T}{bs:List Bool}{p:Addr}{E':Value->Shared->Prop}{P:Value->Shared->Prop}{o:Bool}(I:Inv X pins σ H s)(fh:zbh F H)(r1:Rp X.K F F (.nd o .lst l) (.ref p) R0)(hb:bools l=some bs)
  (hP : ∀ (I0 : Addr) (wr fp : List Addr) (St : Nat -> Heap -> Prop) (PP : Nat -> Value -> Prop) (tr : Nat -> Bool) (s2 : Shared), Walks X.prog X.w X.A.in1 I0 fp wr bs.length PP St -> St 0 s2.heap -> TruthOf X.prog X.w X.A.in1 PP tr -> (∀ (i : Nat) (b : Bool), bs[i]? = some b -> tr i = b) ->
   (∀h' tk,(∀b o,b∉wr->s2.heap.get? b=some o->h'.get? b=some o)->Inv X pins σ H { s2 with heap:=h',toks:=tk })->P (.ref I0) s2):wpAny (model X.prog X.w) X.A.in1 (pyIter (.ref p)) P E' s:=by
 obtain⟨p',ys,e',rfl,n1,k1⟩:=zda r1;cases e';obtain⟨hlen,hget⟩:=bools_get hb;obtain⟨its,rv,pl,hz⟩:=I.list (SqL.of (fh _ _ n1):SqL X.K H p ys);have hl:=rv.length
 have hne:p≠s.heap.objs.size:=yao (by
  obtain⟨o,n,e,_⟩:=pl;exact yac e)
 have hh:X.A.in1.handled=none:=I.ok.hd hc
 have val:∀(i:Nat) (v:Value),its[i]?=some v->∃b,bs[i]?=some b/\v=.bool b:=fun i v hv=>by
  have hi:i<ys.length:=by
   have:=(ya7.mp hv).1
   omega
  have hi2:i<l.length:=by rw[k1.1];exact hi
  obtain⟨b,h1,h2⟩:=hget i _ (ya2 hi2);have rr:=k1.2 i _ _ (ya2 hi2) (ya2 hi);rw[h2]at rr;obtain⟨u,e1,ru⟩:=rv.get (ya2 hi);rw[hv]at e1;cases e1;rw[rr.bl_inv]at ru;exact⟨b,h1,ru⟩
 have hbl:its.toArray.size=bs.length:=by rw[yaf,<- hl,<- k1.1,hlen]
 refine wpAny_pyIter_list pl.isList ?_;have W:=Walks.list (prog:=X.prog) (w:=X.w) hh s.heap.objs.size p hne its.toArray;rw[hbl]at W;refine hP s.heap.objs.size _ _ _ _ (fun i=>bs.getD i false) _ W ⟨⟨_,yai _ rfl,rfl,rfl⟩,?_⟩ ?_ ?_ ?_
 ·obtain⟨o,ho,hr⟩:=pl.isList;exact⟨o,ya9 _ ho,hr⟩
 ·intro i v s' Q' E'' hv hq';obtain⟨b,h1,h2⟩:=val i v (by simpa using hv)
  subst h2;refine wpAny_truthy_bool ?_;have e:bs.getD i false=b:=by rw[ybi,h1];rfl
  rw[<- e];exact hq'
 ·intro i b hb';show bs.getD i false=b;rw[ybi,hb']
  rfl
 ·intro h' tk k
  exact I.kept fun b o e=>k b o (fun z=>by
   rw[ya8]at z;exact absurd (yac e) (by rw[z];exact yau _)) (ya9 _ e)
theorem callT_all(hc:X.calm=true):zc0 X (.builtin "all") (rTn X.K (g1 allT)):=by
 intro pins s σ H xs us Q I r h;obtain⟨F,ts,v,fh,rs,e,q⟩:=h;unfold g1 at e;split at e
 ·obtain⟨x1,xs1,rfl,r1,rs1⟩:=rs.inv;cases rs1.inv0;unfold allT at e;split at e
  ·split at e
   ·cases e;rename_i bs hbs;obtain⟨p,rfl⟩:=r1.ref_inv;obtain⟨u,rfl,ru⟩:=zgq r;cases ru;refine call_all_walk (walkB hc I fh r1 hbs fun I0 wr fp St PP tr s2 W st0 tro htr fin=>⟨I0,fp,wr,bs.length,PP,St,tr,rfl,W,st0,tro,fun h' tk k=>?_⟩)
    rw[(range_all htr).1];exact⟨.bl _,H,fin h' tk k,rfl,q.bl fh⟩
   ·cases e
  ·cases e
 ·cases e
theorem callT_any(hc:X.calm=true):zc0 X (.builtin "any") (rTn X.K (g1 anyT)):=by
 intro pins s σ H xs us Q I r h;obtain⟨F,ts,v,fh,rs,e,q⟩:=h;unfold g1 at e;split at e
 ·obtain⟨x1,xs1,rfl,r1,rs1⟩:=rs.inv;cases rs1.inv0;unfold anyT at e;split at e
  ·split at e
   ·cases e;rename_i bs hbs;obtain⟨p,rfl⟩:=r1.ref_inv;obtain⟨u,rfl,ru⟩:=zgq r;cases ru;refine call_any_walk (walkB hc I fh r1 hbs fun I0 wr fp St PP tr s2 W st0 tro htr fin=>⟨I0,fp,wr,bs.length,PP,St,tr,rfl,W,st0,tro,fun h' tk k=>?_⟩)
    rw[(range_all htr).2];exact⟨.bl _,H,fin h' tk k,rfl,q.bl fh⟩
   ·cases e
  ·cases e
 ·cases e
theorem isinst_dic{pins:List (Addr×Obj)}{σ:L2.St}{H:Hp}{s:Shared}{p:Addr}{ob:Obj}{kvs:List (Key×V)}{c:Value}{b:Bool}{A:Around}{Q:Value->Shared->Prop}{E:Value->Shared->Prop}(I:Inv X pins σ H s)(ea:H p=some (.frz ob (.dK kvs)))(e:PySem.W.kitOne X.K (.type "dict") c=some b)(h:∀tk,Q (.bool b) { s with toks:=tk }) :
  wpAny (model X.prog X.w) A (call (.builtin "isinstance") [.ref p,c]) Q E s:=by
 obtain⟨_,_,_,vs,_,q⟩:=(show zbt X.prog X.w H s.heap p (.frz ob (.dK kvs)) from I.hok p _ ea);obtain⟨o,es,ep,h1,h2,_⟩:=q;exact yb5 ydw I.kIn ⟨o,h1,h2.1⟩ e (fun z=>nomatch z) h
theorem tyOf_T{F H:Hp}{t:T}{x:V}{a:String}(fh:zbh F H)(r:Rp X.K F F t x R0)(h:tyN t=some a):(TyOf X.K H x (.type a)\/a="dict"/\∃p ob kvs,x=.ref p/\H p=some (.frz ob (.dK kvs)))/\a∈["NoneType","bool","int","str","list","tuple","dict"]:=by
 cases t with
 |non=>cases h;rw[r.non_inv];exact⟨.inl .non,by simp⟩
 |bl b=>cases h;rw[r.bl_inv];exact⟨.inl (.bl b),by simp⟩
 |int i=>cases h;rw[r.int_inv];exact⟨.inl (.int i),by simp⟩
 |str y=>cases h;rw[r.str_inv];exact⟨.inl (.str y),by simp⟩
 |nd o k l =>
  obtain⟨p,xs,rfl,_,n,_⟩:=zda r;cases k with
  |lst=>cases h;exact⟨.inl (.lst (fh _ _ n)),by simp⟩
  |tup=>cases h;exact⟨.inl (.tup (fh _ _ n)),by simp⟩
  |rl=>cases h
  |rt=>cases h
  |pin _=>cases h
 |dic ks l =>
  cases h;cases r with
  |dic h e ek c=>exact⟨.inr ⟨rfl,_,_,_,rfl,fh _ _ h⟩,by simp⟩
 |pdc ks l =>
  cases h;cases r with
  |pdc h e ek c=>exact⟨.inl (.dK (fh _ _ h)),by simp⟩
 |odc ks l=>cases h
 |obj k l=>cases h
 |oob p C fs l=>cases h
 |osd ks l=>cases h
theorem callT_isT{c:String}:zc0 X (.builtin "isinstance") (fun xs H Q=>∃x,xs=[x,.ty c]/\rTn X.K (g1 (zgh c)) [x] H Q):=by
 intro pins s σ H xs us Q I r h;obtain⟨x,rfl,F,ts,v,fh,rs,e,q⟩:=h;unfold g1 at e;split at e
 ·obtain⟨x1,xs1,e1,r1,rs1⟩:=rs.inv;cases e1;unfold zgh at e;split at e
  ·rename_i a ha;split at e
   ·cases e;rename_i hc;obtain⟨ty,hm⟩:=tyOf_T fh r1 ha
    rcases ty with ty|⟨rfl,p,ob,kvs,rfl,hp⟩
    ·exact call_isT pins s σ H _ us Q I r ⟨x,_,_,rfl,ty,kit_ok X.K hm hc,q.bl fh⟩
    ·obtain⟨u,w',rfl,rx,ry⟩:=vals2 r;cases ry;cases rx;exact isinst_dic I hp (kit_ok X.K hm hc) fun tk=>⟨.bl _,H,I.tok _,rfl,q.bl fh⟩
   ·cases e
  ·cases e
 ·cases e
def T.isN:T->Bool
 |.non=>true
 |_=>false
def T.isB(b:Bool):T->Bool
 |.bl c=>c == b
 |_=>false
def isT2(neg:Bool)(t u:T):Option T:=match u with
 |.non=>some (.bl (neg ^^ t.isN))
 |.bl b=>some (.bl (neg ^^ t.isB b))
 |_=>none
theorem dec_non{K:PySem.W.Frag}{F H:Hp}{t:T}{x:V}{A:Rg}(r:Rp K F H t x A):decide (x=V.non)=t.isN:=by
 cases r<;>simp[T.isN]
theorem dec_b{K:PySem.W.Frag}{F H:Hp}{t:T}{x:V}{A:Rg}{b:Bool}(r:Rp K F H t x A):decide (x=V.bl b)=t.isB b:=by
 cases r<;>simp[T.isB]
 rename_i c;cases c<;>cases b<;>rfl
theorem opT_is:OpR X (compareOp .Is) (rT2 X.K (isT2 false)):=by
 intro pins s σ H x y v u Q I rx ry h;obtain⟨F,t1,t2,r,fh,r1,r2,e,q⟩:=h;unfold isT2 at e;split at e
 ·cases e;rw[r2.non_inv]at ry;refine op_isN pins s σ H _ _ v u Q I rx ry ⟨rfl,?_⟩;rw[dec_non r1];have:=q.bl fh;rw[Bool.false_xor]at this;exact this
 ·cases e;rw[r2.bl_inv]at ry;refine op_isB pins s σ H _ _ v u Q I rx ry ⟨_,rfl,?_⟩;rw[dec_b r1];have:=q.bl fh;rw[Bool.false_xor]at this;exact this
 ·cases e
theorem opT_isNot:OpR X (compareOp .IsNot) (rT2 X.K (isT2 true)):=by
 intro pins s σ H x y v u Q I rx ry h;obtain⟨F,t1,t2,r,fh,r1,r2,e,q⟩:=h;unfold isT2 at e;split at e
 ·cases e;rw[r2.non_inv]at ry;refine op_notN pins s σ H _ _ v u Q I rx ry ⟨rfl,?_⟩;rw[dec_non r1];have:=q.bl fh;rw[Bool.true_xor]at this;exact this
 ·cases e;rw[r2.bl_inv]at ry;refine op_notB pins s σ H _ _ v u Q I rx ry ⟨_,rfl,?_⟩;rw[dec_b r1];have:=q.bl fh;rw[Bool.true_xor]at this;exact this
 ·cases e
end
section
variable {X:Cx}{E:L2.St->XK}{ca:Str->Value}{σ:L2.St}{H:Hp}{m ma mb mc:PSt->Option Rs}{ms:PSt->Option RsL}{K:PySem.W.Frag}{a b c e:Expr}{es:List Expr}{pos p p2:Pos}
theorem r_isT{c:String}{cn:Str}(hv:bootBuiltins cn=some (.type c))(hg:Gl X "isinstance")(hm:X.mg "isinstance"=none)(hgc:Gl X cn)(hmc:X.mg cn=none)(hn:cn≠"__name__")(hd:(cn == ("__debug__":Str))=false)(ha:PE X e (tM X.K E ca m))(he:starEach [e,.Name cn p2] X.env=(false,eval e X.env)::starEach [.Name cn p2] X.env) :
  PE X (.Call (.Name "isinstance" p) [e,.Name cn p2] [] pos) (tM X.K E ca (mAp (g1 (zgh c)) (za0 m za4))):=by
 refine PE.weak (zi0 (callT_isT (c:=c)) hg hm PyProof.Rows.boot_isinstance (zd9 ha (zd9 (pe_bltn (v:=.ty c) hgc hmc hv rfl hn hd) zfq) he) (by decide) (by decide) he rfl) fun σ H Q h=>?_
 exact(ze8 (tM_ap h)).mono fun x H1 h1=>⟨x,rfl,zfz h1⟩
inductive Ru where
 |ok (t:T)|exc (c:Str)
def spP(K:PySem.W.Frag)(ca:Str->Value)(g:List T->Option Ru):Sp:=fun vs H Q E=>∃F ts,zbh F H/\Rps K F ts vs/\match g ts with
 |some (.ok v)=>zjb K F H v Q
 |some (.exc c)=>∀F' H',Ext F H F' H' R0->E (ca c) none H'
 |none=>False
def zat(g:List T->Option Ru)(ms:PSt->Option RsL):PSt->Option Rs:=fun τ=>match ms τ with
 |some (.v ts b)=>(match g ts with
  |some (.ok v)=>fin b v
  |some (.exc c)=>some (.x c)
  |none=>none)
 |some (.x c)=>some (.x c)
 |none=>none
theorem r_call{k j:Nat}{x:Str}{ps:List Str}{g:List T->Option Ru}(D:DefX X.prog X.w X.K X.mg X.base k x ps (spP X.K ca g))(hr:Room j X.A)(hx:zbn X E)(ha:PA X (e::es) (tMs X.K E ca ms))(hk:k<=j)(hg:Gl X x)(hdb:(x == ("__debug__":Str))=false)
  (he:starEach (e::es) X.env=(false,eval e X.env)::starEach es X.env) (hpl:(backTo pos (starEach es X.env)).any (·.1)=false):PE X (.Call (.Name x p) (e::es) [] pos) (tM X.K E ca (zat g ms)):=by
 refine PE.weak (px D hr hx ha hk hg hdb he hpl) fun σ H Q h=>?_
 obtain⟨F,τ,R,S,q⟩:=h;refine⟨F,τ,R,S,?_⟩;unfold zat at q;cases hs:ms τ with
 |none=>simp only[hs]at q
 |some r =>
  simp only[hs]at q;cases r with
  |x c=>exact q
  |v ts b =>
   intro F1 H1 xs e1 rs;have S1:=S.ext e1;simp only at q;rw[ybl];refine⟨Gz b F1 H1 R,ts,gz_fh S1,rs,?_⟩;cases hg:g ts with
   |none=>simp only[hg]at q
   |some r =>
    simp only[hg]at q;cases r with
    |exc c=>exact fun F' H' e2=>q F1 H' (e1.grow e2.hh)
    |ok v =>
     intro F2 H2 z C e2 r2;simp only at q;unfold fin at q;cases b with
     |false=>exact q F2 H2 z C (e1.trans0 e2) r2
     |true =>
      cases hf:v.flat with
      |false=>rw[hf]at q;exact False.elim q
      |true=>rw[hf]at q;exact q F1 H2 z R0 (e1.grow e2.hh) (r2.flat_any hf)
end
end Pu
set_option Elab.async false
set_option linter.all false
set_option maxRecDepth 100000
namespace Pu
open PySem PySem.Spec PyProof.Rows L2 Zw Zx
def Its(K:PySem.W.Frag)(J:It)(F:Hp)(ts:List T):Prop:=∀(i:Nat) (F' H':Hp),zbh F F'->zbh F' H' ->
 (∀t,ts[i]?=some t->J.go i H'/\∀x H'',J.yld i H' x H''->∃F'',Ext F' H' F'' H'' R0/\Rp K F'' H'' t x R0)/\(i=ts.length->J.stop i H')
def tI(K:PySem.W.Frag)(E:L2.St->XK)(ca:Str->Value)(m:PSt->Option RsL):TI:=fun σ H P=>∃F τ R,StR K F H σ τ R/\match m τ with
 |some (.v ts _)=>∀F' H' J,Ext F H F' H' R0->Its K J F' ts->P J H'
 |some (.x c)=>∀F' H',Ext F H F' H' R0->E σ (ca c) none H'
 |none=>False
def isL:T->Bool
 |.nd _ .lst _=>true
 |.nd _ .rl _=>true
 |.nd _ (.pin _) _=>true
 |_=>false
def iVal(m:PSt->Option Rs):PSt->Option RsL:=fun τ=>match m τ with
 |some (.v (.nd _ k l) false)=>some (.v (zb0 l) false)
 |some (.x c)=>some (.x c)
 |_=>none
def zge(lo:Int)(n:Nat):List T:=(List.range n).map fun(i:Nat)=>.int (lo+(i:Int))
noncomputable def ok62(j:Int):Bool:=@decide (-(2 ^ 62)<=j/\j<2 ^ 62) (Classical.propDecidable _)
def as1:List T->Option Int
 |[.int j]=>some j
 |_=>none
def as2:List T->Option (Int×Int)
 |[.int i,.int j]=>some (i,j)
 |_=>none
noncomputable def zej(ms:PSt->Option RsL):PSt->Option RsL:=fun τ=>match ms τ with
 |some (.v ts _)=>(match as1 ts with
  |some j=>if ok62 j then some (.v (zge 0 j.toNat) false) else none
  |none=>none)
 |r=>r
noncomputable def zg5(ms:PSt->Option RsL):PSt->Option RsL:=fun τ=>match ms τ with
 |some (.v ts _)=>(match as2 ts with
  |some (i,j)=>if ok62 i && ok62 j then some (.v (zge i (j - i).toNat) false) else none
  |none=>none)
 |r=>r
def zfm:Nat->List T->List T
 |_,[]=>[]
 |i,t::r=>.tup [.int (i:Int),t]::zfm (i+1) r
def asL:List T->Option (List T)
 |[.nd o k l]=>if isL (.nd o k l) then some l else none
 |_=>none
def asL2:List T->Option (List T×List T)
 |[.nd o k l,.nd o' k' m]=>if isL (.nd o k l) && isL (.nd o' k' m) then some (l,m) else none
 |_=>none
def zhb(ms:PSt->Option RsL):PSt->Option RsL:=fun τ=>match ms τ with
 |some (.v ts false)=>(match asL ts with
  |some l=>some (.v (zfm 0 l) false)
  |none=>none)
 |some (.v _ true)=>none
 |r=>r
theorem zj5:∀(l:List T) (n i:Nat),(zfm n l)[i]?=(l[i]?).map fun t=>T.tup [.int ((n+i:Nat):Int),t]
 |[],n,i=>by simp[zfm]
 |t::r,n,i=>by
  cases i with
  |zero=>simp[zfm]
  |succ i =>
   simp only[zfm,ycs];rw[zj5 r (n+1) i];have:n+1+i=n+(i+1):=by omega
   rw[this]
theorem zf4(l:List T):∀n,(zfm n l).length=l.length:=by
 induction l with
 |nil=>intro n;rfl
 |cons t r ih=>intro n;simp[zfm,ih]
section
variable {X:Cx}{E:L2.St->XK}{ca:Str->Value}{σ:L2.St}{H:Hp}{m ma mb mc:PSt->Option Rs}{ms:PSt->Option RsL}{K:PySem.W.Frag}{a b c e tg:Expr}{es elts:List Expr}{pos p tpos:Pos}{kk:Nat}
theorem its_list{F:Hp}{p:Addr}{xs:List V}{l:List T}(n:∀F' H':Hp,zbh F F'->zbh F' H'->SqL K H' p xs)(r:Rps K F l xs):Its K (Itl K p) F l:=by
 intro i F' H' s1 s2;have sq:=n F' H' s1 s2;refine⟨fun t ht=>?_,fun e=>⟨xs,sq,by rw[e,r.1];exact yab _⟩⟩
 have hi:i<xs.length:=by
  have:=(ya7.mp ht).1;have:=r.1
  omega
 refine⟨⟨xs,xs[i],sq,ya2 hi⟩,fun x H'' y=>?_⟩
 obtain⟨rfl,y⟩:=y;have hx:=y xs sq;exact⟨F',Ext.refl s2,((r.same s1).2 i t x ht hx).any⟩
theorem its_tup{F:Hp}{p:Addr}{xs:List V}{l:List T}(n:∀F' H':Hp,zbh F F'->zbh F' H'->SqT K H' p xs)(r:Rps K F l xs):Its K (Itt K p) F l:=by
 intro i F' H' s1 s2;have sq:=n F' H' s1 s2;refine⟨fun t ht=>?_,fun e=>⟨xs,sq,by rw[e,r.1];exact yab _⟩⟩
 have hi:i<xs.length:=by
  have:=(ya7.mp ht).1;have:=r.1
  omega
 refine⟨⟨xs,xs[i],sq,ya2 hi⟩,fun x H'' y=>?_⟩
 obtain⟨rfl,y⟩:=y;have hx:=y xs sq;exact⟨F',Ext.refl s2,((r.same s1).2 i t x ht hx).any⟩
theorem its_range{F:Hp}{lo:Int}{n:Nat}:Its K (Itr lo n) F (zge lo n):=by
 intro i F' H' s1 s2;refine⟨fun t ht=>?_,fun e=>?_⟩
 ·unfold zge at ht;rw[yae]at ht;obtain⟨j,e1,e2⟩:=ya0.mp ht
  have hi:i<n:=by
   have:=(ya7.mp e1).1
   simpa using this
  have hj:i=j:=by rw[ydk hi]at e1;exact yax e1
  subst hj;subst e2;refine⟨hi,fun x H'' y=>?_⟩
  obtain⟨rfl,rfl⟩:=y;exact⟨F',Ext.refl s2,.int _⟩
 ·have:n<=i:=by rw[e];simp[zge]
  exact this
theorem its_enum{F:Hp}{p:Addr}{xs:List V}{l:List T}(n:∀F' H':Hp,zbh F F'->zbh F' H'->SqL K H' p xs)(r:Rps K F l xs):Its K (Ite K p) F (zfm 0 l):=by
 intro i F' H' s1 s2;have sq:=n F' H' s1 s2;refine⟨fun t ht=>?_,fun e=>⟨xs,sq,by rw[e,zf4,r.1];exact yab _⟩⟩
 rw[zj5]at ht;obtain⟨t0,h0,rfl⟩:=ya0.mp ht
 have hi:i<xs.length:=by
  have:=(ya7.mp h0).1;have:=r.1
  omega
 refine⟨⟨xs,xs[i],sq,ya2 hi⟩,fun x H'' y=>?_⟩
 obtain⟨q,y0,rfl,hq,rfl,y⟩:=y;have hx:=y xs sq;have e:=Ext.new (o:=.tup [.int i,y0]) s2 hq;refine⟨_,e,Rps.of_node (k:=.tup) (xs:=[.int i,y0]) zb2 ?_⟩;have e0:((0+i:Nat):Int)=(i:Int):=by simp
 rw[e0];exact .cons (H:=H') (.int _) (.cons (H:=H') (((r.same (s1.trans e.ff)).2 i t0 y0 h0 hx).any) .nil)
theorem PI.weak{t t':TI}(h:PI X tg e t)(w:∀σ H P,t' σ H P->t σ H P):PI X tg e t':=fun pins s σ H P I q=>h pins s σ H P I (w σ H P q)
theorem PI.or{t t':TI}(h:PI X tg e t)(h':PI X tg e t'):PI X tg e (fun σ H P=>t σ H P\/t' σ H P):=fun pins s σ H P I q=>q.elim (h pins s σ H P I) (h' pins s σ H P I)
theorem r_iVal(ha:PE X e (tM X.K E ca m)):PI X tg e (tI X.K E ca (iVal m)):=by
 refine PI.weak (PI.or (pi_list ha) (pi_tup ha)) fun σ H P h=>?_
 obtain⟨F,τ,R,S,q⟩:=h;unfold iVal at q
 have key:∀{o:Bool} {k:Kd} {l:List T},m τ=some (.v (.nd o k l) false)->(∀F' H' J,Ext F H F' H' R0->Its X.K J F' (zb0 l)->P J H')->∀F1 H1 x B,Ext F H F1 H1 B->Got X.K F1 H1 R (.nd o k l) false x B->∃(F2:Hp) (p:Addr) (xs:List V),x=.ref p/\Ext F H F2 H1 R0/\zjx X.K F2 k p xs/\Rps X.K F2 (zb0 l) xs:=by
  intro o k l hm q F1 H1 x B e1 g1;obtain⟨F2,e2,_,r2⟩:=Got.frz (b:=false) S e1 g1;have r2':Rp X.K F2 F2 (T.nd o k l).share x R0:=r2;rw[T.share]at r2';obtain⟨p,xs,rfl,_,n,kd⟩:=zda r2';exact⟨F2,p,xs,rfl,e2,n,kd⟩
 cases hm:m τ with
 |none=>simp only[hm]at q
 |some r =>
  simp only[hm]at q;cases r with
  |x c=>exact .inl ⟨F,τ,R,S,by rw[hm];exact q⟩
  |v t bb =>
   cases t with
   |nd o k l =>
    cases bb with
    |true=>exact q.elim
    |false =>
     simp only at q;cases k with
     |lst =>
      refine .inl ⟨F,τ,R,S,?_⟩;rw[hm];intro F1 H1 x B e1 g1;obtain⟨F2,p,xs,rfl,e2,n,kd⟩:=key hm q F1 H1 x B e1 g1;exact⟨p,rfl,⟨xs,SqL.of (e2.fh _ _ n)⟩,q F2 H1 _ e2 (its_list (fun F' H' s1 s2=>SqL.of (s2 _ _ (s1 _ _ n))) kd)⟩
     |pin _ =>
      refine .inl ⟨F,τ,R,S,?_⟩;rw[hm];intro F1 H1 x B e1 g1;obtain⟨F2,p,xs,rfl,e2,n,kd⟩:=key hm q F1 H1 x B e1 g1;exact⟨p,rfl,⟨xs,SqL.of (e2.fh _ _ n)⟩,q F2 H1 _ e2 (its_list (fun F' H' s1 s2=>SqL.of (s2 _ _ (s1 _ _ n))) kd)⟩
     |rl =>
      refine .inl ⟨F,τ,R,S,?_⟩;rw[hm];intro F1 H1 x B e1 g1;obtain⟨F2,p,xs,rfl,e2,n,kd⟩:=key hm q F1 H1 x B e1 g1;exact⟨p,rfl,⟨xs,e2.fh.seq n⟩,q F2 H1 _ e2 (its_list (fun F' H' s1 s2=>s2.seq (s1.seq n)) kd)⟩
     |tup =>
      refine .inr ⟨F,τ,R,S,?_⟩;rw[hm];intro F1 H1 x B e1 g1;obtain⟨F2,p,xs,rfl,e2,n,kd⟩:=key hm q F1 H1 x B e1 g1;exact⟨p,rfl,⟨xs,SqT.of (e2.fh _ _ n)⟩,q F2 H1 _ e2 (its_tup (fun F' H' s1 s2=>SqT.of (s2 _ _ (s1 _ _ n))) kd)⟩
     |rt =>
      refine .inr ⟨F,τ,R,S,?_⟩;rw[hm];intro F1 H1 x B e1 g1;obtain⟨F2,p,xs,rfl,e2,n,kd⟩:=key hm q F1 H1 x B e1 g1;exact⟨p,rfl,⟨xs,zcx e2.fh n⟩,q F2 H1 _ e2 (its_tup (fun F' H' s1 s2=>zcx s2 (zcx s1 n)) kd)⟩
   |_=>exact q.elim
theorem tI_args{f:(PSt->Option RsL)->PSt->Option RsL}{P:It->Hp->Prop}{W:List V->Hp->Prop}(hx:∀τ c,ms τ=some (.x c)->f ms τ=some (.x c))(hn:∀τ,ms τ=none->f ms τ=none)
  (hv : ∀ F τ R ts b, StR K F H σ τ R -> ms τ = some (.v ts b) -> (match f ms τ with
   |some (.v us _)=>∀F' H' J,Ext F H F' H' R0->Its K J F' us->P J H'
   |some (.x c)=>∀F' H',Ext F H F' H' R0->E σ (ca c) none H'
   |none=>False)->∀F' H' xs,Ext F H F' H' R0->Rps K (Gz b F' H' R) ts xs->W xs H') (h:tI K E ca (f ms) σ H P):tMs K E ca ms σ H W:=by
 obtain⟨F,τ,R,S,q⟩:=h;refine⟨F,τ,R,S,?_⟩;cases hm:ms τ with
 |none=>rw[hn τ hm]at q;exact q.elim
 |some r =>
  cases r with
  |x c=>rw[hx τ c hm]at q;exact q
  |v ts b=>exact fun F' H' xs e rs=>hv F τ R ts b S hm q F' H' xs e rs
theorem ok62_iff{j:Int}(h:ok62 j=true):-(2 ^ 62)<=j/\j<2 ^ 62:=@of_decide_eq_true _ (Classical.propDecidable _) h
theorem r_range1(hg:Gl X "range")(hm:X.mg "range"=none)(ha:PA X [a] (tMs X.K E ca ms))(hs:starEach [a] X.env=[(false,eval a X.env)]):PI X tg (.Call (.Name "range" p) [a] [] pos) (tI X.K E ca (zej ms)):=by
 refine PI.weak (pi_range1 hg hm ha hs) fun σ H P h=>?_
 refine tI_args (f:=zej) (fun τ c e=>by unfold zej;rw[e]) (fun τ e=>by unfold zej;rw[e]) (fun F τ R ts b S e q F' H' xs e1 rs=>?_) h
 unfold zej at q;rw[e]at q;simp only at q;cases h1:as1 ts with
 |none=>simp only[h1]at q
 |some j =>
  simp only[h1]at q
  by_cases hj:ok62 j=true
  ·simp only[hj,if_true]at q;obtain⟨g1,g2⟩:=ok62_iff hj;unfold as1 at h1;split at h1
   ·cases h1;obtain⟨x1,xs1,rfl,r1,rs1⟩:=rs.inv;cases rs1.inv0;rw[r1.int_inv];exact⟨j,rfl,g1,g2,q F' H' _ e1 its_range⟩
   ·cases h1
  ·simp only[hj]at q;exact q.elim
theorem r_range2(hg:Gl X "range")(hm:X.mg "range"=none)(ha:PA X [a,b] (tMs X.K E ca ms))(hs:starEach [a,b] X.env=[(false,eval a X.env),(false,eval b X.env)])(hs2:starEach [b] X.env=[(false,eval b X.env)]):PI X tg (.Call (.Name "range" p) [a,b] [] pos) (tI X.K E ca (zg5 ms)):=by
 refine PI.weak (pi_range2 hg hm ha hs hs2) fun σ H P h=>?_
 refine tI_args (f:=zg5) (fun τ c e=>by unfold zg5;rw[e]) (fun τ e=>by unfold zg5;rw[e]) (fun F τ R ts b S e q F' H' xs e1 rs=>?_) h
 unfold zg5 at q;rw[e]at q;simp only at q;cases h1:as2 ts with
 |none=>simp only[h1]at q
 |some ij =>
  obtain⟨i,j⟩:=ij;simp only[h1]at q
  by_cases hj:(ok62 i && ok62 j)=true
  ·simp only[hj,if_true]at q;rw[ya1]at hj;obtain⟨g1,g2⟩:=ok62_iff hj.1;obtain⟨g3,g4⟩:=ok62_iff hj.2;unfold as2 at h1;split at h1
   ·cases h1;obtain⟨x1,xs1,rfl,r1,rs1⟩:=rs.inv;obtain⟨x2,xs2,rfl,r2,rs2⟩:=rs1.inv;cases rs2.inv0;rw[r1.int_inv,r2.int_inv];exact⟨i,j,rfl,⟨g1,g2,g3,g4⟩,q F' H' _ e1 its_range⟩
   ·cases h1
  ·simp only[hj]at q;exact q.elim
theorem isL_sq{F:Hp}{o:Bool}{k:Kd}{l:List T}{x:V}(h:isL (.nd o k l)=true)(r:Rp K F F (.nd o k l) x R0):∃p xs,x=.ref p/\(∀F' H':Hp,zbh F F'->zbh F' H'->SqL K H' p xs)/\Rps K F l xs:=by
 obtain⟨p,xs,rfl,_,n,kd⟩:=zda r;refine⟨p,xs,rfl,fun F' H' s1 s2=>?_,kd⟩
 cases k with
 |lst=>exact SqL.of (s2 _ _ (s1 _ _ n))
 |rl=>exact s2.seq (s1.seq n)
 |tup=>cases h
 |rt=>cases h
 |pin q=>exact SqL.of (s2 _ _ (s1 _ _ n))
theorem r_enum(hg:Gl X "enumerate")(hm:X.mg "enumerate"=none)(ha:PA X [a] (tMs X.K E ca ms))(hs:starEach [a] X.env=[(false,eval a X.env)]):PI X (.Tuple elts kk tpos) (.Call (.Name "enumerate" p) [a] [] pos) (tI X.K E ca (zhb ms)):=by
 refine PI.weak (pi_enum hg hm ha hs) fun σ H P h=>?_
 refine tI_args (f:=zhb) (fun τ c e=>by unfold zhb;rw[e]) (fun τ e=>by unfold zhb;rw[e]) (fun F τ R ts b S e q F' H' xs e1 rs=>?_) h
 unfold zhb at q;rw[e]at q;cases b with
 |true=>exact q.elim
 |false =>
  simp only at q;cases h1:asL ts with
  |none=>simp only[h1]at q
  |some l =>
   simp only[h1]at q;unfold asL at h1;split at h1
   ·split at h1
    ·cases h1;rename_i hL;obtain⟨x1,xs1,rfl,r1,rs1⟩:=rs.inv;cases rs1.inv0;obtain⟨p',ys,rfl,sq,kd⟩:=isL_sq hL r1;exact⟨p',rfl,⟨ys,sq F' H' (.refl _) e1.fh⟩,q F' H' _ e1 (its_enum sq kd)⟩
    ·cases h1
   ·cases h1
end
theorem StR.set{K:PySem.W.Frag}{F H:Hp}{σ:L2.St}{τ:PSt}{R:Nat->Rg}(S:StR K F H σ τ R){i:Nat}{t:T}{x:V}{A:Rg}(r:Rp K F H t x A)(d:∀j a,j≠i->R j a->¬ A a)(hi:i<τ.length) :
  StR K F H (σ.set i (some x)) (τ.set i (some t)) (fun j=>if j=i then A else R j):=by
 have hl:=S.len;refine⟨S.fh,by simp[hl],fun j t' e=>?_,fun j a z=>?_,fun j k a hjk z1 z2=>?_⟩
 ·by_cases hj:j=i
  ·subst hj;rw[yam hi]at e;cases e;exact⟨x,yam (by omega),by simpa using r⟩
  ·rw[yak (yat hj)]at e ⊢;obtain⟨y,e1,r1⟩:=S.rep j t' e;exact⟨y,e1,by simpa[hj] using r1⟩
 ·by_cases hj:j=i
  ·subst hj;exact⟨t,yam hi⟩
  ·simp only[hj,if_false]at z;obtain⟨t',e⟩:=S.out j a z;exact⟨t',by rw[yak (yat hj)];exact e⟩
 ·by_cases hj:j=i
  ·simp only[hj,if_true]at z1;have hk:¬ k=i:=fun z=>hjk (hj.trans z.symm)
   simp only[hk,if_false]at z2;exact d k a hk z2 z1
  ·simp only[hj,if_false]at z1
   by_cases hk:k=i
   ·simp only[hk,if_true]at z2;exact d j a hj z1 z2
   ·simp only[hk,if_false]at z2;exact S.dis j k a hjk z1 z2
def tGM(K:PySem.W.Frag)(b:T->PSt->Option PSt):TG:=fun v σ H Q=>∃F τ R t τ',StR K F H σ τ R/\Rp K F H t v R0/\b t τ=some τ'/\∀σ' R',StR K F H σ' τ' R'->(∀i a,R' i a->R i a)->Q σ' H
def tGMs(K:PySem.W.Frag)(b:List T->PSt->Option PSt):TGs:=fun vs σ H Q=>∃F τ R ts τ',StR K F H σ τ R/\Rps K F ts vs/\b ts τ=some τ'/\∀σ' R',StR K F H σ' τ' R'->(∀i a,R' i a->R i a)->Q σ' H
def bNm(i:Nat):T->PSt->Option PSt:=fun t τ=>if i<τ.length then some (τ.set i (some t)) else none
def bNil:List T->PSt->Option PSt
 |[],τ=>some τ
 |_::_,_=>none
def zbl(b:T->PSt->Option PSt)(bs:List T->PSt->Option PSt):List T->PSt->Option PSt
 |t::ts,τ=>(match b t τ with
  |some τ'=>bs ts τ'
  |none=>none)
 |[],_=>none
def bTup(n:Nat)(bs:List T->PSt->Option PSt):T->PSt->Option PSt
 |.nd _ .tup l,τ=>if l.length=n then bs l τ else none
 |.nd _ .rt l,τ=>if l.length=n then bs l τ else none
 |_,_=>none
section
variable {X:Cx}{e:Expr}{es:List Expr}{pos:Pos}{b:T->PSt->Option PSt}{bs:List T->PSt->Option PSt}
theorem PG.weak{t t':TG}(h:PG X e t)(w:∀v σ H Q,t' v σ H Q->t v σ H Q):PG X e t':=fun pins s σ H v u Q I r q=>h pins s σ H v u Q I r (w v σ H Q q)
theorem PGs.weak{t t':TGs}(h:PGs X es t)(w:∀v σ H Q,t' v σ H Q->t v σ H Q):PGs X es t':=fun pins s σ H v u Q I r q=>h pins s σ H v u Q I r (w v σ H Q q)
theorem g_nm{i:Nat}{x:Str}(hN:X.N.Nodup)(hi:X.N[i]?=some x)(hx:Loc X.env.scope x)(hf:X.fn x=true\/X.env.scope.names.lookup x=some .local):PG X (.Name x pos) (tGM X.K (bNm i)):=by
 refine PG.weak (pg_name hN hi hx hf) fun v σ H Q h=>?_
 obtain⟨F,τ,R,t,τ',S,r,e,q⟩:=h;unfold bNm at e;split at e
 ·cases e;rename_i hl;refine q _ _ (S.set r (fun _ _ _ _ z=>z.elim) hl) fun j a z=>?_
  by_cases hj:j=i
  ·simp only[hj,if_true]at z;exact z.elim
  ·simpa[hj] using z
 ·cases e
theorem g_nil:PGs X [] (tGMs X.K bNil):=PGs.weak pgs_nil fun v σ H Q h=>by
 obtain⟨F,τ,R,ts,τ',S,r,e,q⟩:=h;cases ts with
 |nil=>cases e;exact⟨r.inv0,q σ R S fun _ _ z=>z⟩
 |cons _ _=>cases e
theorem g_cons(h1:PG X e (tGM X.K b))(h2:PGs X es (tGMs X.K bs))(hs:(assignEach (e::es) X.env).map (·.2)=assign e X.env::(assignEach es X.env).map (·.2)):PGs X (e::es) (tGMs X.K (zbl b bs)):=by
 refine PGs.weak (pgs_cons h1 h2 hs) fun v σ H Q h=>?_
 obtain⟨F,τ,R,ts,τ',S,r,e,q⟩:=h;cases ts with
 |nil=>cases e
 |cons t ts =>
  obtain⟨x,xs,rfl,r1,rs⟩:=r.inv;unfold zbl at e;simp only at e;cases hb:b t τ with
  |none=>rw[hb]at e;cases e
  |some τ1 =>
   rw[hb]at e;exact⟨x,xs,rfl,F,τ,R,t,τ1,S,r1.any,hb,fun σ1 R1 S1 w1=>⟨F,τ1,R1,ts,τ',S1,rs,e,fun σ2 R2 S2 w2=>q σ2 R2 S2 fun i a z=>w1 i a (w2 i a z)⟩⟩
theorem g_tup{k n:Nat}(hc:X.calm=true)(h:PGs X es (tGMs X.K bs))(hn:(assignEach es X.env).length=n)(hst:(assignEach es X.env).findIdx? (·.1)=none):PG X (.Tuple es k pos) (tGM X.K (bTup n bs)):=by
 refine PG.weak (pg_tup hc h hn hst) fun v σ H Q h=>?_
 obtain⟨F,τ,R,t,τ',S,r,e,q⟩:=h
 have key:∀{o:Bool} {kd:Kd} {l:List T},t=.nd o kd l->(kd=.tup\/kd=.rt)->(if l.length=n then bs l τ else none)=some τ'->gTup X.K n (tGMs X.K bs) v σ H Q:=by
  intro o kd l et hk e';subst et;split at e'
  ·rename_i hl;obtain⟨p,xs,rfl,_,nn,kid⟩:=zda (r.any (H':=F))
   have sq:SqT X.K H p xs:=by
    rcases hk with rfl|rfl
    ·exact SqT.of (S.fh _ _ nn)
    ·exact zcx S.fh nn
   exact⟨p,xs,rfl,sq,by rw[<- kid.1];exact hl,F,τ,R,l,τ',S,kid,e',q⟩
  ·cases e'
 unfold bTup at e;split at e
 ·exact key rfl (.inl rfl) e
 ·exact key rfl (.inr rfl) e
 ·cases e
end
end Pu
set_option Elab.async false
set_option linter.all false
set_option maxRecDepth 100000
namespace Pu
open PySem PySem.Spec PyProof.Rows L2 Zw Zx
def lcGo(b:T->PSt->Option PSt)(mt me:PSt->Option Rs):List T->PSt->Option (List T)
 |[],_=>some []
 |t::ts,τ=>(match b t τ with
  |some τ1=>(match mt τ1 with
   |some (.v (.bl true) _)=>(match me τ1 with
    |some (.v v false)=>(match lcGo b mt me ts τ1 with
     |some l=>some (v::l)
     |none=>none)
    |_=>none)
   |some (.v (.bl false) _)=>lcGo b mt me ts τ1
   |_=>none)
  |none=>none)
def lcX(b:T->PSt->Option PSt)(mt me:PSt->Option Rs):List T->PSt->Option Str
 |[],_=>none
 |t::ts,τ=>(match b t τ with
  |some τ1=>(match mt τ1 with
   |some (.v (.bl true) _)=>(match me τ1 with
    |some (.v _ false)=>lcX b mt me ts τ1
    |some (.x c)=>some c
    |_=>none)
   |some (.v (.bl false) _)=>lcX b mt me ts τ1
   |some (.x c)=>some c
   |_=>none)
  |none=>none)
def capT(τ:PSt)(j:Nat):Option T:=match τ[j]? with
 |some (some t)=>if t.sh then some t else none
 |_=>none
def blk(n:Nat)(caps:List Nat)(τ:PSt):PSt:=List.replicate n none++caps.map (capT τ)
def capV(σ:L2.St)(j:Nat):Option V:=match σ[j]? with
 |some (some v)=>some v
 |_=>none
def blkV(n:Nat)(caps:List Nat)(σ:L2.St):L2.St:=List.replicate n none++caps.map (capV σ)
def mLC(n:Nat)(caps:List Nat)(mi:PSt->Option RsL)(b:T->PSt->Option PSt)(mt me:PSt->Option Rs):PSt->Option Rs:=fun τ=>match mi τ with
 |some (.v ts _)=>if ts.length<=lim then (match lcGo b mt me ts (blk n caps τ) with
  |some l=>some (.v (.own l) false)
  |none=>(match lcX b mt me ts (blk n caps τ) with
   |some c=>some (.x c)
   |none=>none)) else none
 |some (.x c)=>some (.x c)
 |none=>none
theorem blk_st{K:PySem.W.Frag}{F H:Hp}{σ:L2.St}{τ:PSt}{R:Nat->Rg}(S:StR K F H σ τ R)(n:Nat)(caps:List Nat):StR K F H (blkV n caps σ) (blk n caps τ) (fun _=>R0):=by
 refine⟨S.fh,by simp[blkV,blk],fun i t e=>?_,fun _ _ z=>z.elim,fun _ _ _ _ z=>z.elim⟩
 unfold blk at e;unfold blkV
 by_cases hi:i<n
 ·rw[yap (by simpa using hi),ycr,if_pos hi]at e
  cases e
 ·rw[yar (by simp;omega),yae]at e ⊢
  simp only[yd4]at e ⊢;cases hc:caps[i - n]? with
  |none=>rw[hc]at e;cases e
  |some j =>
   rw[hc]at e;simp only[ybn]at e ⊢;have e':capT τ j=some t:=yax e;unfold capT at e';split at e'
   ·rename_i t' ht;split at e'
    ·cases e';rename_i hs;obtain⟨x,ex,r⟩:=S.rep j _ ht;refine⟨x,?_,r.move hs (.refl _)⟩;unfold capV;rw[ex]
    ·cases e'
   ·cases e'
theorem snoc_tot{l:List T}{Rr:Nat->Rg}{B:Rg}{a:Addr}(h:tot (fun j=>if j=l.length then B else Rr j) a):tot Rr a\/B a:=by
 obtain⟨j,z⟩:=h
 by_cases hj:j=l.length
 ·simp only[hj,if_true]at z;exact .inr z
 ·simp only[hj,if_false]at z;exact .inl ⟨j,z⟩
section
variable {X:Cx}{E:L2.St->XK}{ca:Str->Value}{σ:L2.St}{H:Hp}{K:PySem.W.Frag}{n:Nat}{caps:List Nat}{mi:PSt->Option RsL}{b:T->PSt->Option PSt}{mt me:PSt->Option Rs}
theorem lcGo_cons{t:T}{us l2:List T}{τ1:PSt}(h:lcGo b mt me (t::us) τ1=some l2):∃τ2,b t τ1=some τ2/\((∃bt,mt τ2=some (.v (.bl false) bt)/\lcGo b mt me us τ2=some l2)\/∃bt w l3,mt τ2=some (.v (.bl true) bt)/\me τ2=some (.v w false)/\lcGo b mt me us τ2=some l3/\l2=w::l3):=by
 unfold lcGo at h;split at h
 ·rename_i τ2 hb;refine⟨τ2,hb,?_⟩;split at h
  ·rename_i bt ht;split at h
   ·rename_i w hw;split at h
    ·rename_i l3 h3;cases h;exact .inr ⟨bt,w,l3,ht,hw,h3,rfl⟩
    ·cases h
   ·cases h
  ·rename_i bt ht;exact .inl ⟨bt,ht,h⟩
  ·cases h
 ·cases h
theorem lcX_cons{t:T}{us:List T}{c:Str}{τ1:PSt}(h:lcX b mt me (t::us) τ1=some c):∃τ2,b t τ1=some τ2/\((∃bt,mt τ2=some (.v (.bl false) bt)/\lcX b mt me us τ2=some c)\/(∃bt,mt τ2=some (.v (.bl true) bt)/\((∃w,me τ2=some (.v w false)/\lcX b mt me us τ2=some c)\/me τ2=some (.x c)))\/mt τ2=some (.x c)):=by
 unfold lcX at h;split at h
 ·rename_i τ2 hb;refine⟨τ2,hb,?_⟩;split at h
  ·rename_i bt ht;split at h
   ·rename_i w hw;exact .inr (.inl ⟨bt,ht,.inl ⟨w,hw,h⟩⟩)
   ·rename_i c' hw;cases h;exact .inr (.inl ⟨bt,ht,.inr hw⟩)
   ·cases h
  ·rename_i bt ht;exact .inl ⟨bt,ht,h⟩
  ·rename_i c' ht;cases h;exact .inr (.inr ht)
  ·cases h
 ·cases h
theorem tM_lc{Q:VK}(h:tM K E ca (mLC n caps mi b mt me) σ H Q):tLC2 (blkV n caps) (tI K E ca mi) (tGM K b) (tMB K (fun _=>E σ) ca mt) (tM K (fun _=>E σ) ca me) σ H Q:=by
 obtain⟨F,τ,R,S,q⟩:=h;refine⟨F,τ,R,S,?_⟩;unfold mLC at q;cases hi:mi τ with
 |none=>simp only[hi]at q
 |some r =>
  simp only[hi]at q;cases r with
  |x c=>exact q
  |v ts bb =>
   intro F1 H1 J e1 its
   by_cases hz':¬ ts.length<=lim
   ·simp only[hz',if_false]at q
   have hz:ts.length<=lim:=Decidable.not_not.mp hz';simp only[hz,if_true]at q
   obtain⟨G,g1,g0,gs⟩:∃G:List T->PSt->List T->Prop,(∀t us τ1 l,G (t::us) τ1 l->∃τ2,b t τ1=some τ2/\((∃bt,mt τ2=some (.v (.bl false) bt)/\G us τ2 l)\/(∃bt,mt τ2=some (.v (.bl true) bt)/\((∃w,me τ2=some (.v w false)/\G us τ2 (l++[w]))\/∃c,me τ2=some (.x c)/\∀F' H',Ext F H F' H' R0->E σ (ca c) none H'))\/∃c,mt τ2=some (.x c)/\∀F' H',Ext F H F' H' R0->E σ (ca c) none H')) /\
     (∀τ1 l,G [] τ1 l->∀F' H' x B,Ext F H F' H' B->Rp K F' H' (.own l) x B->Q x H')/\G ts (blk n caps τ) []:=by
    cases hg:lcGo b mt me ts (blk n caps τ) with
    |some res =>
     simp only[hg]at q;refine⟨fun us τ1 l=>∃l2,lcGo b mt me us τ1=some l2/\l++l2=res,fun t us τ1 l z=>?_,fun τ1 l z=>?_,res,hg,rfl⟩
     ·obtain⟨l2,z,e⟩:=z;obtain⟨τ2,y,w|⟨bt,w,l3,y1,y2,y3,rfl⟩⟩:=lcGo_cons z
      ·obtain⟨bt,w1,w2⟩:=w;exact⟨τ2,y,.inl ⟨bt,w1,l2,w2,e⟩⟩
      ·exact⟨τ2,y,.inr (.inl ⟨bt,y1,.inl ⟨w,y2,l3,y3,by simpa using e⟩⟩)⟩
     ·obtain⟨l2,z,e⟩:=z;cases z;rw[ybl]at e;subst e;exact q
    |none =>
     simp only[hg]at q;cases hx:lcX b mt me ts (blk n caps τ) with
     |none=>simp only[hx]at q
     |some c =>
      simp only[hx]at q;refine⟨fun us τ1 l=>lcX b mt me us τ1=some c,fun t us τ1 l z=>?_,fun τ1 l z=>(by cases z),hx⟩
      obtain⟨τ2,y,w|⟨bt,y1,⟨w,y2,y3⟩|y2⟩|w⟩:=lcX_cons z
      ·exact⟨τ2,y,.inl w⟩
      ·exact⟨τ2,y,.inr (.inl ⟨bt,y1,.inl ⟨w,y2,y3⟩⟩)⟩
      ·exact⟨τ2,y,.inr (.inl ⟨bt,y1,.inr ⟨c,y2,q⟩⟩)⟩
      ·exact⟨τ2,y,.inr (.inr ⟨c,w,q⟩)⟩
   have S1:=S.ext e1;refine⟨fun i ys st H'=>∃(F':Hp) (τ':PSt) (l:List T) (Rr:Nat->Rg),Ext F1 H1 F' H' (tot Rr)/\RpO K F' H' l ys Rr/\StR K F' H' st τ' (fun _=>R0)/\i<=ts.length/\G (ts.drop i) τ' l/\l.length<=i,ts.length,by rw[<- zdn];exact hz,?_,?_⟩
   ·exact⟨F1,blk n caps τ,[],fun _=>R0,(Ext.refl S1.fh).mono fun a ⟨_,z⟩=>z.elim,.nil,blk_st S1 n caps,ybb _,gs,yab _⟩
   ·rintro i ys st H' ⟨F',τ',l,Rr,e2,ro,S2,hle,hgo,hll⟩;have hly:=ro.len;refine⟨by omega,hle,?_⟩
    obtain⟨i1,i2⟩:=its i F' H' e2.ff e2.fh
    by_cases hlt:i<ts.length
    ·refine .inr ⟨hlt,?_⟩;obtain⟨go,yld⟩:=i1 _ (ya2 hlt);refine⟨go,fun x H'' y=>?_⟩
     obtain⟨F'',e3,rx⟩:=yld x H'' y;have S3:=S2.ext e3;rw[yc2 hlt]at hgo;obtain⟨τ1,hb,hgo⟩:=g1 _ _ _ _ hgo;refine⟨F'',τ',_,ts[i],τ1,S3,rx,hb,fun st1 R1 S4 hR1=>?_⟩
     have R1e:R1=fun _=>R0:=funext fun j=>funext fun a=>propext ⟨fun z=>hR1 j a z,fun z=>z.elim⟩
     subst R1e;refine⟨F'',τ1,_,S4,?_⟩;have eX:∀{c:Str},(∀F' H',Ext F H F' H' R0->E σ (ca c) none H')->∀F' H',Ext F'' H'' F' H' R0->E σ (ca c) none H':=fun z F' H' e=>z F' H' (((e1.trans0 e2).trans (e3.trans0 e)).mono fun _ z=>z.elim)
     rcases hgo with ⟨bt,ht,hgo⟩|⟨bt,ht,hgo⟩|⟨c,ht,hX⟩
     ·rw[ht];intro F4 H4 e4;exact iteF ⟨F4,τ1,l,Rr,(e2.trans ((e3.trans0 e4).mono fun _ z=>z)).mono fun a z=>.inl z,(ro.ext e3).ext e4,S4.ext e4,hlt,hgo,by omega⟩
     ·rw[ht];intro F4 H4 e4;have S5:=S4.ext e4;have e24:=e2.trans ((e3.trans0 e4).mono fun _ z=>z)
      refine iteT ⟨F4,τ1,_,S5,?_⟩
      rcases hgo with ⟨ve,he,hgo⟩|⟨c,he,hX⟩
      ·rw[he];intro F5 H5 y B e5 ry;have ry':Rp K F5 H5 ve y B:=ry;have ro4:=(ro.ext e3).ext e4;have ro5:=ro4.ext e5;refine⟨F5,τ1,l++[ve],_,(e24.trans e5).mono ?_,ro5.snoc ry' (fun j a z1 z2=>ro4.apart e5 z2 j z1),S5.ext e5,hlt,hgo,by simp;omega⟩
       intro a z
       rcases snoc_tot z with z|z
       ·exact .inl (.inl z)
       ·exact .inr z
      ·rw[he];exact fun F' H' e=>eX hX F' H' (e4.trans0 e)
     ·rw[ht];exact eX hX
    ·have hi':i=ts.length:=by omega
     subst hi';refine .inl ⟨i2 rfl,fun p hp=>?_⟩
     rw[ye0]at hgo;obtain⟨rl,e3⟩:=ro.list e2.fh hp;refine g0 _ _ hgo F' _ _ _ (((e1.trans0 e2).trans e3).mono ?_) rl;rintro a (z|⟨j,z⟩)
     ·exact .inr z
     ·exact .inl ⟨j,z⟩
structure BlkOk(X:Cx)(scope:Scope)(N':List Str)(n:Nat)(caps:List Nat):Prop where
 kind:scope.kind=.function
 names:∀y∈scope.names,y.2=.local->scope.names.lookup y.1=some .local
 len:N'.length=n+caps.length
 cap:∀(k j:Nat),caps[k]?=some j->∃y,X.N[j]?=some y/\N'[n+k]?=some y/\scope.names.lookup y=some .free/\(y,NameKind.cell)∉scope.names
 free:∀y∈scope.names,y.2=.free->scope.names.lookup y.1=some .free/\(X.env.scope.names.lookup y.1=some .cell\/X.env.scope.names.lookup y.1=some .free)
theorem zdr{env:Env}(y:Str):∀(names:List (Str×NameKind)),(names.map fun(n,k)=>if (k == NameKind.free && env.scope.kind == .function && env.kindOf n == some .cell) then (n,NameKind.cell) else (n,k)).lookup y =
  (names.lookup y).map fun k=>if (k == NameKind.free && env.scope.kind == .function && env.kindOf y == some .cell) then .cell else k
 |[]=>rfl
 |(n,k)::r=>by
  rw[yad];cases hy:y == n with
  |true =>
   have e:y=n:=eq_of_beq hy;subst e
   by_cases hc:(k == NameKind.free && env.scope.kind == .function && env.kindOf y == some .cell)=true
   ·simp only[hc,if_true,yaq,beq_self_eq_true,ybn]
   ·simp only[hc,yaq,beq_self_eq_true,ybn];simp
  |false =>
   by_cases hc:(k == .free && env.scope.kind == .function && env.kindOf n == some .cell)=true
   ·simp only[hc,if_true,yaq,hy];exact zdr y r
   ·simp only[hc,yaq,hy];simp only[yc9,if_false,yaq,hy];exact zdr y r
theorem zdq(scope:Scope)(env:Env)(y:Str):(relabel scope env).names.lookup y=(scope.names.lookup y).map fun k=>if (k == NameKind.free && env.scope.kind == .function && env.kindOf y == some .cell) then .cell else k:=zdr y scope.names
theorem zh1{y:Str}{k:NameKind}:∀{names:List (Str×NameKind)},names.lookup y=some k->(y,k)∈names:=fun h=>ybg h
theorem blk_go{scope:Scope}{N':List Str}(B:BlkOk X scope N' n caps){pins:List (Addr×Obj)}{s:Shared}(I:Inv X pins σ H s) :
  ∃cl,closureFor scope X.env=pure cl/\(∀y c,cl.lookup y=some c->X.env.cells.lookup y=some c)/\(∀y,(relabel scope X.env).names.lookup y=some .cell\/(relabel scope X.env).names.lookup y=some .free->(y,NameKind.cell)∈scope.names\/∃c,cl.lookup y=some c) /\
   (∀(σ:L2.St) (i:Nat) (y:Str) (v:V),N'[i]?=some y->(blkV n caps σ)[i]?=some (some v)->(y,NameKind.cell)∉scope.names) /\
   (∀σ:L2.St,σ.length=X.N.length->(blkV n caps σ).length=N'.length) /\
   (∀(σ:L2.St) (i:Nat) (y:Str) (v:V),N'[i]?=some y->(blkV n caps σ)[i]?=some (some v)->((relabel scope X.env).names.lookup y=some .cell\/(relabel scope X.env).names.lookup y=some .free)/\∃j:Nat,X.N[j]?=some y/\σ[j]?=some (some v)/\Vis X.env.scope y/\X.env.kindOf y≠some .local):=by
 obtain⟨cl,h1,h2,h3⟩:=closure_for scope X.env fun y hy hf=>I.ok.has y.1 (B.free y hy hf).2
 have at1:∀(σ:L2.St) (i:Nat) (y:Str) (v:V),N'[i]?=some y->(blkV n caps σ)[i]?=some (some v)->∃j:Nat,X.N[j]?=some y/\σ[j]?=some (some v)/\scope.names.lookup y=some .free/\(y,NameKind.cell)∉scope.names:=by
  intro σ i y v e1 e2;unfold blkV at e2
  by_cases hi:i<n
  ·rw[yap (by simpa using hi),ycr,if_pos hi]at e2
   cases e2
  ·rw[yar (by simp;omega),yae]at e2
   simp only[yd4]at e2;cases hc:caps[i - n]? with
   |none=>rw[hc]at e2;cases e2
   |some j =>
    rw[hc]at e2;simp only[ybn]at e2;have e':capV σ j=some v:=yax e2;obtain⟨y',g1,g2,g3,g4⟩:=B.cap (i - n) j hc;have en:n+(i - n)=i:=by omega
    rw[en,e1]at g2;cases g2
    have sv:σ[j]?=some (some v):=by
     unfold capV at e';split at e'
     ·rename_i v' hv;cases e';exact hv
     ·cases e'
    exact⟨j,g1,sv,g3,g4⟩
 refine⟨cl,h1,h2,fun y hy=>?_,fun σ i y v e1 e2=>?_,fun σ hσ=>by simp[blkV,B.len],fun σ i y v e1 e2=>?_⟩
 ·cases hk:scope.names.lookup y with
  |none =>
   rw[zdq,hk]at hy
   rcases hy with hy|hy<;>cases hy
  |some k =>
   by_cases hf:k=.free
   ·subst hf;exact .inr (h3 _ (zh1 hk) rfl)
   ·rw[zdq,hk]at hy;simp only[ybn]at hy;have hf':(k == NameKind.free)=false:=beq_eq_false_iff_ne.mpr hf;simp only[hf',ycq,yc9,if_false]at hy
    rcases hy with hy|hy
    ·cases hy;exact .inl (zh1 hk)
    ·cases hy;exact absurd rfl hf
 ·exact(at1 σ i y v e1 e2).choose_spec.2.2.2
 ·obtain⟨j,g1,sv,g3,g4⟩:=at1 σ i y v e1 e2;have fr:=B.free _ (zh1 g3) rfl;refine⟨?_,j,g1,sv,?_,?_⟩
  ·rw[zdq,g3];simp only[ybn]
   by_cases hc2:(NameKind.free == NameKind.free && X.env.scope.kind == .function && X.env.kindOf y == some .cell)=true
   ·exact .inl (by rw[if_pos hc2])
   ·exact .inr (by rw[if_neg hc2])
  ·rcases fr.2 with z|z
   ·exact .inr (.inl z)
   ·exact .inr (.inr z)
  ·intro z;have z':X.env.scope.names.lookup y=some .local:=z
   rcases fr.2 with w|w
   ·rw[z']at w;cases w
   ·rw[z']at w;cases w
theorem r_lcV{elt iter tg:Expr}{ifs:List Expr}{scope:Scope}{pos:Pos}{N':List Str}(B:BlkOk X scope N' n caps)(hc:X.calm=true)(hi:PI X tg iter (tI X.K E ca mi))
  (hps:zbn X E) (hst:FrOk X) (hg:∀cl C s₀ H₀ ex xb E',zbn (za8 X scope cl N' C s₀ H₀ ex xb) E'->PG (za8 X scope cl N' C s₀ H₀ ex xb) tg (tGM X.K b)) (ht:∀cl C s₀ H₀ ex xb E',zbn (za8 X scope cl N' C s₀ H₀ ex xb) E'->PTs (za8 X scope cl N' C s₀ H₀ ex xb) ifs (tMB X.K E' ca mt)) (he:∀cl C s₀ H₀ ex xb E',zbn (za8 X scope cl N' C s₀ H₀ ex xb) E'->PE (za8 X scope cl N' C s₀ H₀ ex xb) elt (tM X.K E' ca me))
  (hs:∀x,foldedSetIterable iter X.env x=pure x):PE X (.ListComp elt [⟨tg,iter,ifs,0⟩] scope pos) (tM X.K E ca (mLC n caps mi b mt me)):=by
 intro pins s σ H Q I h;obtain⟨cl,h1,h2,h3,h4,h5,h6⟩:=blk_go B I;exact lc_val (blkV n caps) h1 B.kind B.names h2 h3 h4 h5 h6 hc hi hps hst (fun cl C s₀ H₀ ex xb=>hg cl C s₀ H₀ ex xb _) (fun cl C s₀ H₀ ex xb=>ht cl C s₀ H₀ ex xb _) (fun cl C s₀ H₀ ex xb=>he cl C s₀ H₀ ex xb _) hs I (tM_lc h)
theorem r_lcS{elt iter tg:Expr}{ifs:List Expr}{scope:Scope}{pos pos2 pos':Pos}{N':List Str}(B:BlkOk X scope N' n caps)(hc:X.calm=true)(hi:PI X tg iter (tI X.K E ca mi))
  (hps:zbn X E) (hst:FrOk X) (hg:∀cl C s₀ H₀ ex xb E',zbn (za8 X scope cl N' C s₀ H₀ ex xb) E'->PG (za8 X scope cl N' C s₀ H₀ ex xb) tg (tGM X.K b)) (ht:∀cl C s₀ H₀ ex xb E',zbn (za8 X scope cl N' C s₀ H₀ ex xb) E'->PTs (za8 X scope cl N' C s₀ H₀ ex xb) ifs (tMB X.K E' ca mt)) (he:∀cl C s₀ H₀ ex xb E',zbn (za8 X scope cl N' C s₀ H₀ ex xb) E'->PE (za8 X scope cl N' C s₀ H₀ ex xb) elt (tM X.K E' ca me))
  (hs:∀x,foldedSetIterable iter X.env x=pure x) {i:Nat} {x:Str} (hN:X.N.Nodup) (hix:X.N[i]?=some x) (hx:X.env.scope.names.lookup x=some .local)
  (hsw:swapsWith (.ListComp elt [⟨tg,iter,ifs,0⟩] scope pos) (some (.Name x pos')) pos2.line X.env=pure true):PS X (.Assign [.Name x pos'] (.ListComp elt [⟨tg,iter,ifs,0⟩] scope pos) pos2) (fun D σ H=>tM X.K E ca (mLC n caps mi b mt me) σ H fun v H1=>D.nx (σ.set i (some v)) H1):=by
 intro pins s σ H D I h;obtain⟨cl,h1,h2,h3,h4,h5,h6⟩:=blk_go B I;exact lc_set (blkV n caps) h1 B.kind B.names h2 h3 h4 h5 h6 hc hi hps hst (fun cl C s₀ H₀ ex xb=>hg cl C s₀ H₀ ex xb _) (fun cl C s₀ H₀ ex xb=>ht cl C s₀ H₀ ex xb _) (fun cl C s₀ H₀ ex xb=>he cl C s₀ H₀ ex xb _) hs hN hix hx hsw I (tM_lc h)
end
end Pu
set_option Elab.async false
set_option linter.all false
set_option maxRecDepth 100000
namespace Pu
open PySem PySem.Spec PyProof.Rows L2 Zw Zx
section
variable {X:Cx}{E:L2.St->XK}{ca:Str->Value}{m mk mv:PSt->Option Rs}{o k v:Expr}{pos p p2 ap cp:Pos}{K:PySem.W.Frag}{elts:List Expr}{kk:Nat}{tpos:Pos}
end
end Pu
set_option Elab.async false
set_option linter.all false
set_option maxRecDepth 100000
namespace Pu
open PySem PySem.Spec PyProof.Rows L2 Zw Zx
inductive Out where
 |nx (τ:PSt)|rt (t:T)|bk (τ:PSt)|ct (τ:PSt)|xc (c:Str) (τ:PSt)
structure Stp(F H:Hp)(O:Rg)(F' H':Hp)(O':Rg):Prop where
 ff:zbh F F'
 fh:zbh F' H'
 kp:∀b u,¬ O b->H b=some u->H' b=some u
 nw:∀b,O' b->O b\/H b=none
 nf:∀b u,F' b=some u->F b=some u\/O b\/H b=none
section
variable {F H F1 H1 F2 H2:Hp}{O O1 O2 B:Rg}{R:Nat->Rg}
theorem Stp.refl(s:zbh F H):Stp F H O F H O:=⟨.refl _,s,fun _ _ _ e=>e,fun _ z=>.inl z,fun _ _ e=>.inl e⟩
theorem Stp.trans(a:Stp F H O F1 H1 O1)(b:Stp F1 H1 O1 F2 H2 O2):Stp F H O F2 H2 O2 where
 ff:=a.ff.trans b.ff
 fh:=b.fh
 kp:=fun x u n e=>b.kp x u (fun z=>(a.nw x z).elim n fun w=>by rw[e]at w;cases w) (a.kp x u n e)
 nw:=fun x z=>(b.nw x z).elim (a.nw x) fun w=>by
  by_cases hO:O x
  ·exact .inl hO
  ·cases e:H x with
   |none=>exact .inr rfl
   |some u=>rw[a.kp x u hO e]at w;cases w
 nf:=fun x u e=>(b.nf x u e).elim (a.nf x u) fun z=>.inr (z.elim (a.nw x) fun w=>by
  by_cases hO:O x
  ·exact .inl hO
  ·cases e':H x with
   |none=>exact .inr rfl
   |some u'=>rw[a.kp x u' hO e']at w;cases w)
theorem Stp.mono(a:Stp F H O F1 H1 O1)(h:∀x,O2 x->O1 x):Stp F H O F1 H1 O2:=⟨a.ff,a.fh,a.kp,fun x z=>a.nw x (h x z),a.nf⟩
theorem Ext.stp(e:Ext F H F1 H1 B):Stp F H O F1 H1 (fun x=>O x\/B x):=⟨e.ff,e.fh,fun b u _ q=>e.hh b u q,fun b z=>z.elim .inl fun z=>.inr (e.nb b z),fun b u q=>(e.nf b u q).elim .inl fun z=>.inr (.inr z)⟩
theorem Ext.stp0(e:Ext F H F1 H1 B):Stp F H O F1 H1 O:=e.stp.mono fun _ z=>.inl z
end
section
def Wr(K:PySem.W.Frag)(mu:Bool)(F H:Hp)(t:T)(x:V)(B:Rg):Prop:=match mu with
 |false=>Rp K F H t x B
 |true=>∃v q l,t=.own [v,.nd true (.pin q) l]/\v.flat=true/\Rp K F H v x R0/\Rp K F H (.nd true (.pin q) l) (.ref q) B
def tS(K:PySem.W.Frag)(E:L2.St->XK)(ca:Str->Value)(mu:Bool)(m:PSt->Option Out):TS:=fun D σ H=>∃F τ R,StR K F H σ τ R/\match m τ with
 |some (.nx τ')=>∀F' H' σ' R',Stp F H (tot R) F' H' (tot R')->StR K F' H' σ' τ' R'->D.nx σ' H'
 |some (.bk τ')=>∀F' H' σ' R',Stp F H (tot R) F' H' (tot R')->StR K F' H' σ' τ' R'->D.bk σ' H'
 |some (.ct τ')=>∀F' H' σ' R',Stp F H (tot R) F' H' (tot R')->StR K F' H' σ' τ' R'->D.ct σ' H'
 |some (.rt t)=>∀F' H' x B,Stp F H (tot R) F' H' B->Wr K mu F' H' t x B->D.rt x H'
 |some (.xc c τ')=>∀F' H' σ' R',Stp F H (tot R) F' H' (tot R')->StR K F' H' σ' τ' R'->E σ' (ca c) none H'
 |none=>False
end
def zay(m n:PSt->Option Out):PSt->Option Out:=fun τ=>match m τ with
 |some (.nx τ')=>n τ'
 |r=>r
def sNx:PSt->Option Out:=fun τ=>some (.nx τ)
def sNo:PSt->Option Out:=fun _=>none
def sBk:PSt->Option Out:=fun τ=>some (.bk τ)
def sCt:PSt->Option Out:=fun τ=>some (.ct τ)
def sExp(m:PSt->Option Rs):PSt->Option Out:=fun τ=>match m τ with
 |some (.v _ _)=>some (.nx τ)
 |some (.x c)=>some (.xc c τ)
 |none=>none
def zd7(m:PSt->Option Rs):PSt->Option Out:=fun τ=>match m τ with
 |some (.v t _)=>some (.rt t)
 |some (.x c)=>some (.xc c τ)
 |none=>none
def sRetN:PSt->Option Out:=fun _=>some (.rt .non)
def zd8(m:PSt->Option Rs)(b:T->PSt->Option PSt):PSt->Option Out:=fun τ=>match m τ with
 |some (.v t false)=>(match b t.share τ with
  |some τ'=>some (.nx τ')
  |none=>none)
 |some (.v _ true)=>none
 |some (.x c)=>some (.xc c τ)
 |none=>none
def sOwn(i:Nat)(m:PSt->Option Rs):PSt->Option Out:=fun τ=>match m τ with
 |some (.v t false)=>if i<τ.length then some (.nx (τ.set i (some t))) else none
 |some (.v _ true)=>none
 |some (.x c)=>some (.xc c τ)
 |none=>none
def sFrz(i:Nat):PSt->Option Out:=fun τ=>match τ[i]? with
 |some (some t)=>some (.nx (τ.set i (some t.share)))
 |_=>some (.nx τ)
def sIf(c:PSt->Option Rs)(a b:PSt->Option Out):PSt->Option Out:=fun τ=>match c τ with
 |some (.v (.bl true) _)=>a τ
 |some (.v (.bl false) _)=>b τ
 |some (.x c)=>some (.xc c τ)
 |_=>none
def ze3(b:T->PSt->Option PSt)(body:PSt->Option Out):List T->PSt->Option Out
 |[],τ=>some (.nx τ)
 |t::ts,τ=>(match b t τ with
  |some τ1=>(match body τ1 with
   |some (.nx τ2)=>ze3 b body ts τ2
   |some (.ct τ2)=>ze3 b body ts τ2
   |some (.bk τ2)=>some (.nx τ2)
   |r=>r)
  |none=>none)
def sFor(mi:PSt->Option RsL)(b:T->PSt->Option PSt)(body:PSt->Option Out):PSt->Option Out:=fun τ=>match mi τ with
 |some (.v ts _)=>ze3 b body ts τ
 |some (.x c)=>some (.xc c τ)
 |none=>none
def whN(c:PSt->Option Rs)(body:PSt->Option Out):Nat->PSt->Option Out
 |0,_=>none
 |n+1,τ=>(match c τ with
  |some (.v (.bl true) _)=>(match body τ with
   |some (.nx τ2)=>whN c body n τ2
   |some (.ct τ2)=>whN c body n τ2
   |some (.bk τ2)=>some (.nx τ2)
   |r=>r)
  |some (.v (.bl false) _)=>some (.nx τ)
  |some (.x c)=>some (.xc c τ)
  |_=>none)
open Classical in
noncomputable def sWh(c:PSt->Option Rs)(body:PSt->Option Out):PSt->Option Out:=fun τ=>if h:∃n,(whN c body n τ).isSome=true then whN c body h.choose τ else none
theorem sWh_some{c:PSt->Option Rs}{body:PSt->Option Out}{τ:PSt}{o:Out}(h:sWh c body τ=some o):∃n,whN c body n τ=some o:=by
 unfold sWh at h;split at h
 ·exact⟨_,h⟩
 ·cases h
theorem whN_more{c:PSt->Option Rs}{body:PSt->Option Out}:∀{n:Nat} {τ:PSt} {o:Out},whN c body n τ=some o->whN c body (n+1) τ=some o
 |0,τ,o,h=>by cases h
 |n+1,τ,o,h=>by
  unfold whN at h ⊢;split at h
  ·split at h
   ·exact whN_more h
   ·exact whN_more h
   ·exact h
   ·exact h
  ·exact h
  ·exact h
  ·cases h
theorem whN_le{c:PSt->Option Rs}{body:PSt->Option Out}{n m:Nat}{τ:PSt}{o:Out}(h:whN c body n τ=some o)(hm:n<=m):whN c body m τ=some o:=by
 induction hm with
 |refl=>exact h
 |step _ ih=>exact whN_more ih
theorem sWh_of{c:PSt->Option Rs}{body:PSt->Option Out}{n:Nat}{τ:PSt}{o:Out}(h:whN c body n τ=some o):sWh c body τ=some o:=by
 unfold sWh;have hx:∃n,(whN c body n τ).isSome=true:=⟨n,by rw[h];rfl⟩
 rw[dif_pos hx];obtain⟨o',e⟩:=ycm.mp hx.choose_spec;have e1:=whN_le e (Nat.le_max_left hx.choose n);have e2:=whN_le h (Nat.le_max_right hx.choose n);rw[e1]at e2;rw[e,<- e2]
section
variable {mu:Bool}{X:Cx}{E:L2.St->XK}{ca:Str->Value}{σ:L2.St}{H:Hp}{K:PySem.W.Frag}{m mk mc:PSt->Option Rs}{ms mi:PSt->Option RsL}{b:T->PSt->Option PSt}{u w:PSt->Option Out}{D:Ends}{e c tg iter:Expr}{st:Stmt}{zfg body sa sb:List Stmt}{pos pos':Pos}
theorem PS.weak{t t':TS}(h:PS X st t)(w:∀D σ H,t' D σ H->t D σ H):PS X st t':=fun pins s σ H D I q=>h pins s σ H D I (w D σ H q)
theorem PSs.weak{t t':TS}(h:PSs X zfg t)(w:∀D σ H,t' D σ H->t D σ H):PSs X zfg t':=fun pins s σ H D I q=>h pins s σ H D I (w D σ H q)
theorem tS_seq(h:tS K E ca mu (zay u w) D σ H):tSeq (tS K E ca mu u) (tS K E ca mu w) D σ H:=by
 obtain⟨F,τ,R,S,q⟩:=h;refine⟨F,τ,R,S,?_⟩;unfold zay at q;cases hm:u τ with
 |none=>simp only[hm]at q
 |some o =>
  simp only[hm]at q;cases o with
  |nx τ' =>
   intro F1 H1 σ1 R1 s1 S1;refine⟨F1,τ',R1,S1,?_⟩;simp only at q;cases hw:w τ' with
   |none=>simp only[hw]at q
   |some o =>
    simp only[hw]at q;cases o with
    |nx _=>exact fun F' H' σ' R' s S=>q F' H' σ' R' (s1.trans s) S
    |bk _=>exact fun F' H' σ' R' s S=>q F' H' σ' R' (s1.trans s) S
    |ct _=>exact fun F' H' σ' R' s S=>q F' H' σ' R' (s1.trans s) S
    |rt _=>exact fun F' H' x B s r=>q F' H' x B (s1.trans s) r
    |xc _ _=>exact fun F' H' σ' R' s S=>q F' H' σ' R' (s1.trans s) S
  |rt _=>exact q
  |bk _=>exact q
  |ct _=>exact q
  |xc _ _=>exact q
theorem s_nil:PSs X [] (tS X.K E ca mu sNx):=PSs.weak pss_nil fun D σ H h=>by
 obtain⟨F,τ,R,S,q⟩:=h;exact q F H σ R (Stp.refl S.fh) S
theorem s_cons(h1:PS X st (tS X.K E ca mu u))(h2:PSs X zfg (tS X.K E ca mu w)):PSs X (st::zfg) (tS X.K E ca mu (zay u w)):=PSs.weak (pss_cons h1 h2) fun D σ H h=>tS_seq h
theorem s_one(h1:PS X st (tS X.K E ca mu u)):PSs X [st] (tS X.K E ca mu u):=pss_one h1
theorem s_no:PS X st (tS X.K E ca mu sNo):=fun pins s σ H D I h=>by
 obtain⟨_,_,_,_,q⟩:=h;exact q.elim
theorem s_pass:PS X (.Pass pos) (tS X.K E ca mu sNx):=PS.weak ps_pass fun D σ H h=>by
 obtain⟨F,τ,R,S,q⟩:=h;exact q F H σ R (Stp.refl S.fh) S
theorem s_break:PS X (.Break pos) (tS X.K E ca mu sBk):=PS.weak ps_break fun D σ H h=>by
 obtain⟨F,τ,R,S,q⟩:=h;exact q F H σ R (Stp.refl S.fh) S
theorem s_continue:PS X (.Continue pos) (tS X.K E ca mu sCt):=PS.weak ps_continue fun D σ H h=>by
 obtain⟨F,τ,R,S,q⟩:=h;exact q F H σ R (Stp.refl S.fh) S
theorem tS_frz{i:Nat}(h:tS K E ca mu (zay (sFrz i) w) D σ H):tS K E ca mu w D σ H:=by
 obtain⟨F,τ,R,S,q⟩:=h;unfold zay sFrz at q;cases ht:τ[i]? with
 |none =>
  rw[ht]at q;exact⟨F,τ,R,S,q⟩
 |some ot =>
  rw[ht]at q;cases ot with
  |none=>exact⟨F,τ,R,S,q⟩
  |some t =>
   simp only at q;obtain⟨x,ex,r⟩:=S.rep i t ht;have hi:i<τ.length:=(ya7.mp ht).1;have n:∀a,R i a->F a=none:=fun a z=>(r.dom z).1
   have S0:StR K (frz F H (R i)) H σ (τ.set i (some t.share)) (fun j=>if j=i then R0 else R j):=by
    refine⟨zk9 S.fh,by simpa using S.len,fun j t' e=>?_,fun j a z=>?_,fun j k a hjk z1 z2=>?_⟩
    ·by_cases hj:j=i
     ·subst hj;rw[yam hi]at e;cases e;exact⟨x,ex,by simpa using r.share (zf2 n) fun a u z q=>by rw[zhf z];exact q⟩
     ·rw[yak (yat hj)]at e;obtain⟨y,e1,r1⟩:=S.rep j t' e;refine⟨y,e1,?_⟩;simp only[hj,if_false]
      exact r1.frame (zf2 n) fun a z=>⟨rfl,by
       rw[zek (fun z'=>S.dis j i a hj z z')]
       exact(r1.dom z).1⟩
    ·by_cases hj:j=i
     ·simp only[hj,if_true]at z;exact z.elim
     ·simp only[hj,if_false]at z;obtain⟨t',e⟩:=S.out j a z;exact⟨t',by rw[yak (yat hj)];exact e⟩
    ·by_cases hj:j=i
     ·simp only[hj,if_true]at z1;exact z1.elim
     ·by_cases hk:k=i
      ·simp only[hk,if_true]at z2;exact z2.elim
      ·simp only[hj,if_false]at z1;simp only[hk,if_false]at z2;exact S.dis j k a hjk z1 z2
   have st0:Stp F H (tot R) (frz F H (R i)) H (tot fun j=>if j=i then R0 else R j):=by
    refine⟨zf2 n,zk9 S.fh,fun _ _ _ e=>e,fun b ⟨j,z⟩=>?_,fun b u e=>?_⟩
    ·by_cases hj:j=i
     ·simp only[hj,if_true]at z;exact z.elim
     ·simp only[hj,if_false]at z;exact .inl ⟨j,z⟩
    ·by_cases hb:R i b
     ·exact .inr (.inl ⟨i,hb⟩)
     ·rw[zek hb]at e;exact .inl e
   refine⟨_,_,_,S0,?_⟩;cases hw:w (τ.set i (some t.share)) with
   |none=>simp only[hw]at q
   |some o =>
    simp only[hw]at q;cases o with
    |nx _=>exact fun F' H' σ' R' s S=>q F' H' σ' R' (st0.trans s) S
    |bk _=>exact fun F' H' σ' R' s S=>q F' H' σ' R' (st0.trans s) S
    |ct _=>exact fun F' H' σ' R' s S=>q F' H' σ' R' (st0.trans s) S
    |rt _=>exact fun F' H' x B s r=>q F' H' x B (st0.trans s) r
    |xc _ _=>exact fun F' H' σ' R' s S=>q F' H' σ' R' (st0.trans s) S
theorem s_frz{i:Nat}(h:PSs X zfg (tS X.K E ca mu w)):PSs X zfg (tS X.K E ca mu (zay (sFrz i) w)):=PSs.weak h fun D σ H h=>tS_frz h
theorem s_exp(he:PE X e (tM X.K E ca m))(hs:swapsWith e none pos.line X.env=pure false):PS X (.Expr e pos) (tS X.K E ca mu (sExp m)):=by
 refine PS.weak (ps_expr he hs) fun D σ H h=>?_
 obtain⟨F,τ,R,S,q⟩:=h;refine⟨F,τ,R,S,?_⟩;unfold sExp at q;cases hm:m τ with
 |none=>simp only[hm]at q
 |some r =>
  simp only[hm]at q;cases r with
  |x c=>exact fun F' H' e=>q F' H' σ R e.stp0 (S.ext e)
  |v t bb=>exact fun F' H' x B e g=>q F' H' σ R e.stp0 (S.ext e)
theorem s_ret(he:PE X e (tM X.K E ca m)):PS X (.Return (some e) pos) (tS X.K E ca false (zd7 m)):=by
 refine PS.weak (ps_ret he) fun D σ H h=>?_
 obtain⟨F,τ,R,S,q⟩:=h;refine⟨F,τ,R,S,?_⟩;unfold zd7 at q;cases hm:m τ with
 |none=>simp only[hm]at q
 |some r =>
  simp only[hm]at q;cases r with
  |x c=>exact fun F' H' e=>q F' H' σ R e.stp0 (S.ext e)
  |v t bb =>
   intro F' H' x B e g;cases bb with
   |false=>exact q F' H' x B (e.stp.mono fun _ z=>.inr z) g
   |true =>
    obtain⟨_,A,hA,r⟩:=g;exact q F' H' x A (e.stp.mono fun a z=>.inl (hA a z)) r
theorem s_retN:PS X (.Return none pos) (tS X.K E ca false sRetN):=PS.weak ps_retN fun D σ H h=>by
 obtain⟨F,τ,R,S,q⟩:=h;exact q F H .non R0 ((Stp.refl S.fh).mono fun _ z=>z.elim) .non
theorem s_if(hc:PT X c (tMB X.K E ca mc))(ha:PSs X sa (tS X.K E ca mu u))(hb:PSs X sb (tS X.K E ca mu w)):PS X (.If c sa sb pos) (tS X.K E ca mu (sIf mc u w)):=by
 refine PS.weak (ps_if hc ha hb) fun D σ H h=>?_
 obtain⟨F,τ,R,S,q⟩:=h;refine⟨F,τ,R,S,?_⟩;unfold sIf at q;cases hm:mc τ with
 |none=>simp only[hm]at q
 |some r =>
  simp only[hm]at q;cases r with
  |x c=>exact fun F' H' e=>q F' H' σ R e.stp0 (S.ext e)
  |v t bb =>
   cases t with
   |bl k =>
    intro F1 H1 e1;have S1:=S.ext e1
    have key:∀{mm:PSt->Option Out},(match mm τ with
      |some (.nx τ')=>∀F' H' σ' R',Stp F H (tot R) F' H' (tot R')->StR X.K F' H' σ' τ' R'->D.nx σ' H'
      |some (.bk τ')=>∀F' H' σ' R',Stp F H (tot R) F' H' (tot R')->StR X.K F' H' σ' τ' R'->D.bk σ' H'
      |some (.ct τ')=>∀F' H' σ' R',Stp F H (tot R) F' H' (tot R')->StR X.K F' H' σ' τ' R'->D.ct σ' H'
      |some (.rt t)=>∀F' H' x B,Stp F H (tot R) F' H' B->Wr X.K mu F' H' t x B->D.rt x H'
      |some (.xc c τ')=>∀F' H' σ' R',Stp F H (tot R) F' H' (tot R')->StR X.K F' H' σ' τ' R'->E σ' (ca c) none H'
      |none=>False)->tS X.K E ca mu mm D σ H1:=fun {mm} q=>by
     refine⟨F1,τ,R,S1,?_⟩;cases hr:mm τ with
     |none=>simp only[hr]at q
     |some o =>
      simp only[hr]at q;cases o with
      |nx _=>exact fun F' H' σ' R' s S=>q F' H' σ' R' (e1.stp0.trans s) S
      |bk _=>exact fun F' H' σ' R' s S=>q F' H' σ' R' (e1.stp0.trans s) S
      |ct _=>exact fun F' H' σ' R' s S=>q F' H' σ' R' (e1.stp0.trans s) S
      |rt _=>exact fun F' H' x B s r=>q F' H' x B (e1.stp0.trans s) r
      |xc _ _=>exact fun F' H' σ' R' s S=>q F' H' σ' R' (e1.stp0.trans s) S
    cases k with
    |true=>exact iteT (key q)
    |false=>exact iteF (key q)
   |_=>exact q.elim
theorem tS_set{g:TG}(hg:∀v σ H Q,tGM K b v σ H Q->g v σ H Q)(h:tS K E ca mu (zd8 m b) D σ H):tAsg (tM K E ca m) g D σ H:=by
 obtain⟨F,τ,R,S,q⟩:=h;refine⟨F,τ,R,S,?_⟩;unfold zd8 at q;cases hm:m τ with
 |none=>simp only[hm]at q
 |some r =>
  simp only[hm]at q;cases r with
  |x c=>exact fun F' H' e=>q F' H' σ R e.stp0 (S.ext e)
  |v t bb =>
   cases bb with
   |true=>exact q.elim
   |false =>
    intro F1 H1 x B e1 g1;obtain⟨F2,e2,_,r2⟩:=Got.frz (b:=false) S e1 g1;simp only at q;cases hb:b t.share τ with
    |none=>simp only[hb]at q
    |some τ' =>
     simp only[hb]at q;refine hg _ _ _ _ ⟨F2,τ,R,t.share,τ',S.ext e2,(show Rp K F2 F2 t.share x R0 from r2).any,hb,fun σ' R' S' hR=>?_⟩
     exact q F2 H1 σ' R' (e2.stp0.mono fun a ⟨i,z⟩=>⟨i,hR i a z⟩) S'
theorem gName_of{i:Nat}{v:V}{Q:L2.St->Hp->Prop}(h:tGM K (bNm i) v σ H Q):gName i v σ H Q:=by
 obtain⟨F,τ,R,t,τ',S,r,e,q⟩:=h;unfold bNm at e;split at e
 ·cases e;rename_i hl;refine q _ _ (S.set r (fun _ _ _ _ z=>z.elim) hl) fun j a z=>?_
  by_cases hj:j=i
  ·simp only[hj,if_true]at z;exact z.elim
  ·simpa[hj] using z
 ·cases e
theorem s_setN{i:Nat}{x:Str}(hN:X.N.Nodup)(hi:X.N[i]?=some x)(hx:Loc X.env.scope x)(he:PE X e (tM X.K E ca m))(hs:swapsWith e (some (.Name x pos')) pos.line X.env=pure false)(hf:X.fn x=true\/X.env.scope.names.lookup x=some .local) :
  PS X (.Assign [.Name x pos'] e pos) (tS X.K E ca mu (zd8 m (bNm i))):=PS.weak (ps_set hN hi hx he hs hf) fun D σ H h=>tS_set (fun _ _ _ _ z=>gName_of z) h
theorem s_setG(he:PE X e (tM X.K E ca m))(hg:PG X tg (tGM X.K b))(hs:swapsWithSole [tg] e pos.line X.env=pure false)(hw:swappedStores [tg] e X.env=pure none)(h1:(assignEach [tg] X.env).map (·.2)=[assign tg X.env]) :
  PS X (.Assign [tg] e pos) (tS X.K E ca mu (zd8 m b)):=PS.weak (ps_asg he hg hs hw h1) fun D σ H h=>tS_set (fun _ _ _ _ z=>z) h
theorem tS_own{i:Nat}(h:tS K E ca mu (sOwn i m) D σ H):tAsg (tM K E ca m) (gName i) D σ H:=by
 obtain⟨F,τ,R,S,q⟩:=h;refine⟨F,τ,R,S,?_⟩;unfold sOwn at q;cases hm:m τ with
 |none=>simp only[hm]at q
 |some r =>
  simp only[hm]at q;cases r with
  |x c=>exact fun F' H' e=>q F' H' σ R e.stp0 (S.ext e)
  |v t bb =>
   cases bb with
   |true=>exact q.elim
   |false =>
    intro F1 H1 x B e1 g1;have g1':Rp K F1 H1 t x B:=g1;have S1:=S.ext e1
    by_cases hl:i<τ.length
    ·simp only[hl,if_true]at q;refine q F1 H1 _ _ (e1.stp.mono ?_) (S1.set g1' (fun j a _ z1 z2=>S.apart e1 z2 j z1) hl)
     rintro a ⟨j,z⟩
     by_cases hj:j=i
     ·simp only[hj,if_true]at z;exact .inr z
     ·simp only[hj,if_false]at z;exact .inl ⟨j,z⟩
    ·simp only[hl,if_false]at q
theorem s_ownN{i:Nat}{x:Str}(hN:X.N.Nodup)(hi:X.N[i]?=some x)(hx:Loc X.env.scope x)(he:PE X e (tM X.K E ca m))(hs:swapsWith e (some (.Name x pos')) pos.line X.env=pure false)(hf:X.fn x=true\/X.env.scope.names.lookup x=some .local) :
  PS X (.Assign [.Name x pos'] e pos) (tS X.K E ca mu (sOwn i m)):=PS.weak (ps_set hN hi hx he hs hf) fun D σ H h=>tS_own h
theorem s_for(hp:PassesOwn (model X.prog X.w) X.A X.env X.xe)(hc:X.calm=true)(hi:PI X tg iter (tI X.K E ca mi))(hg:PG X tg (tGM X.K b))(hb:PSs X body (tS X.K E ca mu u))(hs:∀x,foldedSetIterable iter X.env x=pure x) :
  PS X (.For tg iter body [] pos) (tS X.K E ca mu (sFor mi b u)):=by
 refine PS.weak (ps_for hp hc hi hg hb hs) fun D σ H h=>?_
 obtain⟨F,τ,R,S,q⟩:=h;refine⟨F,τ,R,S,?_⟩;unfold sFor at q;cases hm:mi τ with
 |none=>simp only[hm]at q
 |some r =>
  simp only[hm]at q;cases r with
  |x c=>exact fun F' H' e=>q F' H' σ R e.stp0 (S.ext e)
  |v ts bb =>
   intro F1 H1 J e1 its;simp only at q;have S1:=S.ext e1;cases hg:ze3 b u ts τ with
   |none=>simp only[hg]at q
   |some out =>
    simp only[hg]at q;refine⟨fun i mm σ' H'=>mm=ts.length - i/\i<=ts.length/\∃F' τ' R',Stp F H (tot R) F' H' (tot R')/\zbh F1 F'/\StR X.K F' H' σ' τ' R'/\ze3 b u (ts.drop i) τ'=some out,⟨ts.length,by simp,ybb _,F1,τ,R,e1.stp0,.refl _,S1,by simpa using hg⟩,?_⟩
    rintro i mm σ' H' ⟨rfl,hle,F',τ',R',st,sf,S',hgo⟩;obtain⟨i1,i2⟩:=its i F' H' sf S'.fh
    by_cases hlt:i<ts.length
    ·refine .inr ⟨(i1 _ (ya2 hlt)).1,fun σ2 H2=>i+1<=ts.length/\∃F2 τ2 R2,Stp F H (tot R) F2 H2 (tot R2)/\zbh F1 F2/\StR X.K F2 H2 σ2 τ2 R2/\ze3 b u (ts.drop (i+1)) τ2=some out,fun σ2 H2 n2=>⟨ts.length - (i+1),by omega,rfl,n2⟩,fun x H'' y=>?_⟩
     obtain⟨F'',e3,rx⟩:=(i1 _ (ya2 hlt)).2 x H'' y;have S3:=S'.ext e3;rw[yc2 hlt]at hgo;unfold ze3 at hgo;cases hb2:b ts[i] τ' with
     |none=>simp only[hb2]at hgo;cases hgo
     |some τ1 =>
      simp only[hb2]at hgo;refine⟨F'',τ',R',ts[i],τ1,S3,rx,hb2,fun σ3 R3 S4 hR3=>?_⟩
      have st3:Stp F H (tot R) F'' H'' (tot R3):=(st.trans e3.stp0).mono fun a ⟨j,z⟩=>⟨j,hR3 j a z⟩
      refine⟨F'',τ1,R3,S4,?_⟩;cases hu:u τ1 with
      |none=>simp only[hu]at hgo;cases hgo
      |some o =>
       simp only[hu]at hgo;cases o with
       |nx τ2=>exact fun F4 H4 σ4 R4 s4 S5=>⟨hlt,F4,τ2,R4,st3.trans s4,(sf.trans e3.ff).trans s4.ff,S5,hgo⟩
       |ct τ2=>exact fun F4 H4 σ4 R4 s4 S5=>⟨hlt,F4,τ2,R4,st3.trans s4,(sf.trans e3.ff).trans s4.ff,S5,hgo⟩
       |bk τ2 =>
        cases hgo;exact fun F4 H4 σ4 R4 s4 S5=>q F4 H4 σ4 R4 (st3.trans s4) S5
       |rt v =>
        cases hgo;exact fun F4 H4 x B s4 r=>q F4 H4 x B (st3.trans s4) r
       |xc cc τ2 =>
        cases hgo;exact fun F4 H4 σ4 R4 s4 S5=>q F4 H4 σ4 R4 (st3.trans s4) S5
    ·have hi':i=ts.length:=by omega
     subst hi';refine .inl ⟨i2 rfl,?_⟩;rw[ye0]at hgo;unfold ze3 at hgo;cases hgo;exact q F' H' σ' R' st S'
theorem s_wh(hp:PassesOwn (model X.prog X.w) X.A X.env X.xe)(hc:PT X c (tMB X.K E ca mc))(hb:PSs X body (tS X.K E ca mu u)):PS X (.While c body [] pos) (tS X.K E ca mu (sWh mc u)):=by
 refine PS.weak (ps_while hp hc hb) fun D σ H h=>?_
 obtain⟨F,τ,R,S,q⟩:=h;cases hw:sWh mc u τ with
 |none=>simp only[hw]at q
 |some out =>
  simp only[hw]at q;obtain⟨n,hn⟩:=sWh_some hw;refine⟨fun mm σ' H'=>∃F' τ' R',Stp F H (tot R) F' H' (tot R')/\StR X.K F' H' σ' τ' R'/\whN mc u mm τ'=some out,⟨n,F,τ,R,Stp.refl S.fh,S,hn⟩,?_⟩
  rintro mm σ' H' ⟨F',τ',R',st,S',hgo⟩;cases mm with
  |zero=>cases hgo
  |succ mm =>
   refine⟨F',τ',R',S',?_⟩;unfold whN at hgo;cases hm:mc τ' with
   |none=>simp only[hm]at hgo;cases hgo
   |some r =>
    simp only[hm]at hgo;cases r with
    |x cc =>
     cases hgo;exact fun F2 H2 e2=>q F2 H2 σ' R' (st.trans e2.stp0) (S'.ext e2)
    |v t bb =>
     cases t with
     |bl k =>
      intro F2 H2 e2;have S2:=S'.ext e2;have st2:Stp F H (tot R) F2 H2 (tot R'):=st.trans e2.stp0;cases k with
      |false =>
       cases hgo;exact iteF (q F2 H2 σ' R' st2 S2)
      |true =>
       simp only at hgo;refine iteT ⟨fun σ2 H2=>∃F2 τ2 R2,Stp F H (tot R) F2 H2 (tot R2)/\StR X.K F2 H2 σ2 τ2 R2/\whN mc u mm τ2=some out,fun σ3 H3 n3=>⟨mm,ybs _,n3⟩,F2,τ',R',S2,?_⟩
       cases hu:u τ' with
       |none=>simp only[hu]at hgo;cases hgo
       |some o =>
        simp only[hu]at hgo;cases o with
        |nx τ2=>exact fun F4 H4 σ4 R4 s4 S5=>⟨F4,τ2,R4,st2.trans s4,S5,hgo⟩
        |ct τ2=>exact fun F4 H4 σ4 R4 s4 S5=>⟨F4,τ2,R4,st2.trans s4,S5,hgo⟩
        |bk τ2 =>
         cases hgo;exact fun F4 H4 σ4 R4 s4 S5=>q F4 H4 σ4 R4 (st2.trans s4) S5
        |rt v =>
         cases hgo;exact fun F4 H4 x B s4 r=>q F4 H4 x B (st2.trans s4) r
        |xc cc τ2 =>
         cases hgo;exact fun F4 H4 σ4 R4 s4 S5=>q F4 H4 σ4 R4 (st2.trans s4) S5
     |_=>cases hgo
end
end Pu
set_option Elab.async false
set_option linter.all false
set_option maxRecDepth 100000
namespace Pu
open PySem PySem.Spec PyProof.Rows L2 Zw Zx
section
variable {K:PySem.W.Frag}{F H:Hp}{l:List T}{xs:List V}{Rr:Nat->Rg}{p:Addr}{o:HO}
theorem Rp.own_inv{x:V}{A:Rg}{k:Kd}(h:Rp K F H (.nd true k l) x A):∃p xs Rr,x=.ref p/\A=(fun a=>a=p\/∃j,Rr j a)/\F p=none/\H p=some (.lst xs)/\RpO K F H l xs Rr/\(∀j,¬ Rr j p)/\OwnK k p:=by
 cases h with
 |own hk R f h e c d dp o=>exact⟨_,_,R,rfl,rfl,f,h,⟨e,c,d,o⟩,dp,hk⟩
theorem own_mk{k:Kd}(hk:OwnK k p)(r:RpO K F H l xs Rr)(f:F p=none)(h:H p=some (.lst xs))(dp:∀j,¬ Rr j p):Rp K F H (.nd true k l) (.ref p) (fun a=>a=p\/∃j,Rr j a):=.own hk Rr f h r.len r.rep r.dis dp r.out
theorem RpO.upd(r:RpO K F H l xs Rr)(dp:∀j,¬ Rr j p):RpO K F (L2.upd H p o) l xs Rr:=⟨r.len,fun i t x h1 h2=>(r.rep i t x h1 h2).frame (.refl _) fun a z=>⟨zah (fun e=>dp i (e▸z)),(r.dom z).1⟩,r.dis,r.out⟩
theorem Rp.upd{t:T}{x:V}{A:Rg}(r:Rp K F H t x A)(dp:¬ A p):Rp K F (L2.upd H p o) t x A:=r.frame (.refl _) fun a z=>⟨zah (fun e=>dp (e▸z)),(r.dom z).1⟩
theorem RpO.set(r:RpO K F H l xs Rr){j0:Nat}{t:T}{y:V}{B:Rg}(hj:j0<l.length)(rt:Rp K F H t y B)(d:∀j a,j≠j0->Rr j a->¬ B a):RpO K F H (l.set j0 t) (xs.set j0 y) (fun j=>if j=j0 then B else Rr j):=by
 have hl:=r.len;refine⟨by simp[hl],fun i t' x' h1 h2=>?_,fun i k a hik z1 z2=>?_,fun i a z=>?_⟩
 ·by_cases hi:i=j0
  ·subst hi;rw[yam hj]at h1;rw[yam (by omega)]at h2
   cases h1;cases h2
   simpa using rt
  ·rw[yak (yat hi)]at h1 h2
   simpa[hi] using r.rep i t' x' h1 h2
 ·by_cases hi:i=j0
  ·simp only[hi,if_true]at z1;have hk:¬ k=j0:=fun z=>hik (hi.trans z.symm)
   simp only[hk,if_false]at z2;exact d k a hk z2 z1
  ·simp only[hi,if_false]at z1
   by_cases hk:k=j0
   ·simp only[hk,if_true]at z2;exact d i a hi z1 z2
   ·simp only[hk,if_false]at z2;exact r.dis i k a hik z1 z2
 ·by_cases hi:i=j0
  ·simp[hi];omega
  ·simp only[hi,if_false]at z
   simpa using r.out i a z
variable {σ:L2.St}{τ:PSt}{R:Nat->Rg}
theorem StR.upd(S:StR K F H σ τ R){i:Nat}{t t':T}{x:V}{A' B:Rg}(ht:τ[i]?=some (some t))(hx:σ[i]?=some (some x))(hp:R i p)(r':Rp K F (L2.upd H p o) t' x A')(hA:∀a,A' a->R i a\/B a)(hB:∀j a,R j a->¬ B a) :
  StR K F (L2.upd H p o) σ (τ.set i (some t')) (fun j=>if j=i then A' else R j)/\Stp F H (fun a=>Pu.tot R a\/B a) F (L2.upd H p o) (Pu.tot fun j=>if j=i then A' else R j):=by
 have fp:F p=none:=(S.dom hp).1;have hi:i<τ.length:=(ya7.mp ht).1
 have fh':zbh F (L2.upd H p o):=fun b u e=>by
  rw[zah (fun z=>by rw[z,fp]at e;cases e)]
  exact S.fh b u e
 refine⟨⟨fh',by simpa using S.len,fun j t1 e=>?_,fun j a z=>?_,fun j k a hjk z1 z2=>?_⟩,⟨.refl _,fh',fun b u n e=>?_,fun b ⟨j,z⟩=>?_,fun b u e=>.inl e⟩⟩
 ·by_cases hj:j=i
  ·subst hj;rw[yam hi]at e;cases e;exact⟨x,hx,by simpa using r'⟩
  ·rw[yak (yat hj)]at e;obtain⟨y,e1,r1⟩:=S.rep j t1 e;exact⟨y,e1,by simpa[hj] using r1.upd (o:=o) (fun z=>S.dis j i p hj z hp)⟩
 ·by_cases hj:j=i
  ·subst hj;exact⟨t',yam hi⟩
  ·simp only[hj,if_false]at z;obtain⟨t1,e⟩:=S.out j a z;exact⟨t1,by rw[yak (yat hj)];exact e⟩
 ·by_cases hj:j=i
  ·simp only[hj,if_true]at z1;have hk:¬ k=i:=fun z=>hjk (hj.trans z.symm)
   simp only[hk,if_false]at z2
   rcases hA a z1 with w|w
   ·exact S.dis i k a (yat hk) w z2
   ·exact hB k a z2 w
  ·simp only[hj,if_false]at z1
   by_cases hk:k=i
   ·simp only[hk,if_true]at z2
    rcases hA a z2 with w|w
    ·exact S.dis i j a (yat hj) w z1
    ·exact hB j a z1 w
   ·simp only[hk,if_false]at z2;exact S.dis j k a hjk z1 z2
 ·rw[zah (fun z=>n (.inl (by rw[z];exact⟨i,hp⟩)))]
  exact e
 ·by_cases hj:j=i
  ·simp only[hj,if_true]at z
   rcases hA b z with w|w
   ·exact .inl (.inl ⟨i,w⟩)
   ·exact .inl (.inr w)
  ·simp only[hj,if_false]at z;exact .inl (.inl ⟨j,z⟩)
end
def zjh(τ:PSt)(i:Nat):Option (Kd×List T):=match τ[i]? with
 |some (some (.nd true k l))=>some (k,l)
 |_=>none
theorem zgt{τ:PSt}{i:Nat}{k:Kd}{l:List T}(h:zjh τ i=some (k,l)):τ[i]?=some (some (.nd true k l)):=by
 unfold zjh at h;split at h
 ·rename_i k' l' e;cases h;exact e
 ·cases h
def sApp(i:Nat)(m:PSt->Option Rs):PSt->Option Out:=fun τ=>match zjh τ i with
 |some (kd,l)=>(match m τ with
  |some (.v t false)=>if l.length<lim then some (.nx (τ.set i (some (.nd true kd (l++[t]))))) else none
  |some (.v _ true)=>none
  |some (.x c)=>some (.xc c τ)
  |none=>none)
 |none=>none
def sSto(i:Nat)(mk m:PSt->Option Rs):PSt->Option Out:=fun τ=>match m τ with
 |some (.v t false)=>(match zjh τ i with
  |some (kd,l)=>(match mk τ with
   |some (.v (.int k) _)=>(match ixN l.length k with
    |some j=>some (.nx (τ.set i (some (.nd true kd (l.set j t)))))
    |none=>none)
   |some (.v _ _)=>none
   |some (.x c)=>some (.xc c τ)
   |none=>none)
  |none=>none)
 |some (.v _ true)=>none
 |some (.x c)=>some (.xc c τ)
 |none=>none
def ownKid:Option T->Option (List T)
 |some (.nd true .lst l)=>some l
 |_=>none
section
variable {mu:Bool}{X:Cx}{E:L2.St->XK}{ca:Str->Value}{σ:L2.St}{H:Hp}{K:PySem.W.Frag}{m mk mn:PSt->Option Rs}{D:Ends}{e k n:Expr}{pos apos cpos p1 pos2 pos3:Pos}{i:Nat}{x:Str}
theorem got_int{F:Hp}{R:Nat->Rg}{j:Int}{b:Bool}{y:V}{B:Rg}(g:Got K F H R (.int j) b y B):y=.int j:=by
 cases b with
 |true=>obtain⟨_,A,_,r⟩:=g;exact r.int_inv
 |false=>exact(show Rp K F H _ _ _ from g).int_inv
theorem snoc_tot'{l:List T}{Rr:Nat->Rg}{B:Rg}{a:Addr}(h:∃j,(fun j=>if j=l.length then B else Rr j) j a):(∃j,Rr j a)\/B a:=snoc_tot (l:=l) h
theorem set_tot{j0:Nat}{Rr:Nat->Rg}{B:Rg}{a:Addr}(h:∃j,(fun j=>if j=j0 then B else Rr j) j a):(∃j,Rr j a)\/B a:=by
 obtain⟨j,z⟩:=h
 by_cases hj:j=j0
 ·simp only[hj,if_true]at z;exact .inr z
 ·simp only[hj,if_false]at z;exact .inl ⟨j,z⟩
theorem s_app(hN:X.N[i]?=some x)(hv:Vis X.env.scope x)(hd:(x == ("__debug__":Str))=false)(hcd:(x == ("__classdict__":Str))=false)(he:PE X e (tM X.K E ca m))(hs:starEach [e] X.env=[(false,eval e X.env)])(hline:(apos.endLine == cpos.line)=true) :
  PS X (.Expr (.Call (.Attribute (.Name x p1) "append" apos) [e] [] cpos) pos) (tS X.K E ca mu (sApp i m)):=by
 refine PS.weak (ps_expr (pe_bm PySem.F.plainAttrs_list PySem.F.slot_list_append PySem.F.type_list_append mt_append (zif hN hv hd hcd) (zd9 he zfq hs) rfl (by rw[hs];rfl) hline hs rfl) rfl) fun D σ H h=>?_
 obtain⟨F,τ,R,S,q⟩:=h;unfold sApp at q;cases ho:zjh τ i with
 |none=>simp only[ho]at q
 |some kl =>
  obtain⟨kd,l⟩:=kl;simp only[ho]at q;have ht:=zgt ho;obtain⟨y,ey,ry⟩:=S.rep i _ ht;obtain⟨p,xs,Rr,rfl,hA,fp,hp,ro,dp,hOw⟩:=ry.own_inv;refine⟨_,ey,.inl ⟨rfl,xs,SqL.of hp⟩,F,τ,R,S,?_⟩;cases hm:m τ with
  |none=>simp only[hm]at q
  |some r =>
   simp only[hm]at q;cases r with
   |x c=>exact fun F' H' e=>q F' H' σ R e.stp0 (S.ext e)
   |v t bb =>
    cases bb with
    |true=>exact q.elim
    |false =>
     intro F1 H1 y B e1 g1;have g1':Rp X.K F1 H1 t y B:=g1
     by_cases hz:l.length<lim
     ·simp only[hz,if_true]at q;have S1:=S.ext e1;have ro1:=ro.ext e1;have hp1:=e1.hh _ _ hp;have pB:¬ B p:=fun z=>by rw[e1.nb p z]at hp;cases hp
      have fp1:F1 p=none:=(ry.ext e1 |>.dom (by rw[hA];exact .inl rfl)).1
      refine⟨p,xs,y,rfl,rfl,hp1,by rw[<- ro.len,<- zdn];exact hz,?_⟩
      have ro2:RpO X.K F1 (upd H1 p (.lst (xs++[y]))) (l++[t]) (xs++[y]) _:=(ro1.upd dp).snoc (g1'.upd pB) fun j a z1 z2=>ro.apart e1 z2 j z1
      have dp2:∀j,¬ (if j=l.length then B else Rr j) p:=fun j z=>by
       by_cases hj:j=l.length
       ·simp only[hj,if_true]at z;exact pB z
       ·simp only[hj,if_false]at z;exact dp j z
      have r2:=own_mk hOw ro2 fp1 zb2 dp2
      obtain⟨S3,st3⟩:=S1.upd ht ey (by rw[hA];exact .inl rfl) r2 (B:=B) (fun a z=>by
       rw[hA]
       rcases z with z|z
       ·exact .inl (.inl z)
       ·rcases snoc_tot' z with w|w
        ·exact .inl (.inr w)
        ·exact .inr w) (fun j a z1 z2=>S.apart e1 z2 j z1)
      exact q F1 _ σ _ (e1.stp.trans st3) S3
     ·simp only[hz,if_false]at q
theorem s_sto(hN:X.N[i]?=some x)(hv:Vis X.env.scope x)(hd:(x == ("__debug__":Str))=false)(hcd:(x == ("__classdict__":Str))=false)(he:PE X e (tM X.K E ca m))(hk:PE X k (tM X.K E ca mk))(hs:swapsWithSole [.Subscript (.Name x p1) k pos2] e pos.line X.env=pure false)(hw:swappedStores [.Subscript (.Name x p1) k pos2] e X.env=pure none)
  (ha : ∀ v, assign (.Subscript (.Name x p1) k pos2) X.env v = (do
   let ov <- holding [v] (eval (.Name x p1) X.env);let iv <- holding [v,ov] (eval k X.env)
   standAt pos2
   holding [v,ov,iv] (setItem ov iv v)
   release [v,ov,iv] [])) :
  PS X (.Assign [.Subscript (.Name x p1) k pos2] e pos) (tS X.K E ca mu (sSto i mk m)):=by
 refine PS.weak (ps_asg he (pg_sub (zif hN hv hd hcd) hk set_list ha) hs hw rfl) fun D σ H h=>?_
 obtain⟨F,τ,R,S,q⟩:=h;refine⟨F,τ,R,S,?_⟩;unfold sSto at q;cases hm:m τ with
 |none=>simp only[hm]at q
 |some r =>
  simp only[hm]at q;cases r with
  |x c=>exact fun F' H' e=>q F' H' σ R e.stp0 (S.ext e)
  |v t bb =>
   cases bb with
   |true=>exact q.elim
   |false =>
    intro F1 H1 y B e1 g1;have g1':Rp X.K F1 H1 t y B:=g1;simp only at q;cases ho:zjh τ i with
    |none=>simp only[ho]at q
    |some kl =>
     obtain⟨kd,l⟩:=kl;simp only[ho]at q;have S1:=S.ext e1;have ht:=zgt ho;obtain⟨y2,ey,ry⟩:=S1.rep i _ ht;refine⟨y2,ey,F1,τ,R,S1,?_⟩;cases hkk:mk τ with
     |none=>simp only[hkk]at q
     |some r =>
      simp only[hkk]at q;cases r with
      |x c=>exact fun F' H' e=>q F' H' σ R ((e1.stp0).trans e.stp0) (S1.ext e)
      |v tk bk =>
       cases tk with
       |int kk =>
        simp only at q;cases hj:ixN l.length kk with
        |none=>simp only[hj]at q
        |some j =>
         simp only[hj]at q;intro F2 H2 z C e2 g2;have hz:=got_int g2;subst hz;have S2:=S1.ext e2;have ry2:=ry.ext e2;obtain⟨p,xs,Rr,rfl,hA,fp,hp,ro,dp,hOw⟩:=ry2.own_inv;have hjl:=(ixN_seq hj).2.1;have g2':=g1'.ext e2
         have pB:¬ B p:=fun z=>by
          have:R i p:=by rw[hA];exact .inl rfl
          exact S.apart e1 z i this
         refine⟨p,xs,kk,j,rfl,rfl,hp,by rw[<- ro.len];exact hj,?_⟩
         have ro2:RpO X.K F2 (upd H2 p (.lst (xs.set j y))) (l.set j t) (xs.set j y) _:=(ro.upd dp).set hjl (g2'.upd pB) fun j' a _ z1 z2=>S.apart e1 z2 i (by rw[hA];exact .inr ⟨j',z1⟩)
         have dp2:∀j',¬ (if j'=j then B else Rr j') p:=fun j' z=>by
          by_cases hj':j'=j
          ·simp only[hj',if_true]at z;exact pB z
          ·simp only[hj',if_false]at z;exact dp j' z
         have r3:=own_mk hOw ro2 fp zb2 dp2
         obtain⟨S3,st3⟩:=S2.upd ht ey (by rw[hA];exact .inl rfl) r3 (B:=B) (fun a z=>by
          rw[hA]
          rcases z with z|z
          ·exact .inl (.inl z)
          ·rcases set_tot z with w|w
           ·exact .inl (.inr w)
           ·exact .inr w) (fun j a z1 z2=>S.apart e1 z2 j z1)
         exact q F2 _ σ _ ((e1.stp.trans e2.stp0).trans st3) S3
       |_=>exact q.elim
def sPar(i j:Nat)(ms:PSt->Option RsL):PSt->Option Out:=fun τ=>match ms τ with
 |some (.v ts false)=>(match ts with
  |[t,u]=>if i<τ.length/\j<τ.length then some (.nx ((τ.set i (some t)).set j (some u))) else none
  |_=>none)
 |some (.v _ true)=>none
 |some (.x c)=>some (.xc c τ)
 |none=>none
theorem s_par{i j:Nat}{x y:Str}{a b:Expr}{ms:PSt->Option RsL}{px py pt:Pos}{kt k2 pt2}(hc:X.calm=true)(hN:X.N.Nodup)(hi:X.N[i]?=some x)(hj:X.N[j]?=some y)(hij:i≠j)
  (hx:X.env.scope.names.lookup x=some .local) (hy:X.env.scope.names.lookup y=some .local) (ha:PA X [a,b] (tMs X.K E ca ms))
  (hw:swappedStores [.Tuple [.Name x px,.Name y py] kt pt] (.Tuple [a,b] k2 pt2) X.env=pure (some [x,y]))
  (hs:swapsWithSole [.Tuple [.Name x px,.Name y py] kt pt] (.Tuple [a,b] k2 pt2) pos.line X.env=pure false) :
  PS X (.Assign [.Tuple [.Name x px,.Name y py] kt pt] (.Tuple [a,b] k2 pt2) pos) (tS X.K E ca mu (sPar i j ms)):=by
 refine PS.weak (ps_par hc hN hi hj hij hx hy ha hw hs) fun D σ H h=>?_
 obtain⟨F,τ,R,S,q⟩:=h;refine⟨F,τ,R,S,?_⟩;unfold sPar at q;cases hm:ms τ with
 |none=>simp only[hm]at q
 |some r =>
  simp only[hm]at q;cases r with
  |x c=>exact fun F' H' e=>q F' H' σ R e.stp0 (S.ext e)
  |v ts bb =>
   cases bb with
   |true=>exact q.elim
   |false =>
    intro F1 H1 xs e1 rs;simp only at q
    match ts,q,rs with
    |[t,u],q,rs =>
     simp only at q
     by_cases hl:i<τ.length/\j<τ.length
     ·simp only[hl,if_true]at q;obtain⟨x1,xs1,rfl,r1,rs1⟩:=rs.inv;obtain⟨x2,xs2,rfl,r2,rs2⟩:=rs1.inv;cases rs2.inv0;have S1:=S.ext e1;have S2:=S1.set (i:=i) (show Rp X.K F1 H1 t x1 R0 from(show Rp X.K F1 F1 t x1 R0 from r1).any) (fun _ _ _ _ z=>z.elim) hl.1
      have S3:=S2.set (i:=j) (show Rp X.K F1 H1 u x2 R0 from(show Rp X.K F1 F1 u x2 R0 from r2).any) (fun _ _ _ _ z=>z.elim) (by simpa using hl.2)
      refine⟨x1,x2,rfl,q F1 H1 _ _ (e1.stp0.mono ?_) S3⟩;rintro a ⟨k,z⟩
      by_cases hk:k=j
      ·simp only[hk,if_true]at z;exact z.elim
      ·simp only[hk,if_false]at z
       by_cases hk2:k=i
       ·simp only[hk2,if_true]at z;exact z.elim
       ·simp only[hk2,if_false]at z;exact⟨k,z⟩
     ·simp only[hl,if_false]at q
    |[],q,rs=>exact q.elim
    |[_],q,rs=>exact q.elim
    |_::_::_::_,q,rs=>exact q.elim
end
section
variable {X:Cx}{E:L2.St->XK}{ca:Str->Value}{σ:L2.St}{H F:Hp}{K:PySem.W.Frag}{m mk:PSt->Option Rs}{ms:PSt->Option RsL}{D:Ends}{e:Expr}{es:List Expr}{pos apos cpos p1 p2:Pos}{i j:Nat}{x y:Str}{τ:PSt}{R:Nat->Rg}{mu:Bool}
theorem Rp.kind{k k':Kd}{l:List T}{p:Addr}{A:Rg}(h:Rp K F H (.nd true k l) (.ref p) A)(o:OwnK k' p):Rp K F H (.nd true k' l) (.ref p) A:=by
 obtain⟨p',xs,Rr,e,rfl,fp,hp,ro,dp,_⟩:=h.own_inv;cases e;exact own_mk o ro fp hp dp
theorem Rp.pin_at{q:Addr}{l:List T}{x:V}{A:Rg}(h:Rp K F H (.nd true (.pin q) l) x A):x=.ref q:=by
 obtain⟨p',xs,Rr,rfl,rfl,fp,hp,ro,dp,o⟩:=h.own_inv;have o':q=p':=o;rw[o']
def retAt(t:T)(τ:PSt):Option Out:=match τ[(0:Nat)]? with
 |some (some (.nd true (.pin q) l))=>some (.rt (.own [t,.nd true (.pin q) l]))
 |_=>none
theorem zk0{t:T}{o:Out}(h:retAt t τ=some o):∃q l,τ[0]?=some (some (.nd true (.pin q) l))/\o=.rt (.own [t,.nd true (.pin q) l]):=by
 unfold retAt at h;split at h
 ·rename_i q l e;cases h;exact⟨q,l,e,rfl⟩
 ·cases h
theorem retAt_w{t:T}{q:Addr}{l:List T}{x:V}{F' H':Hp}(S:StR K F' H' σ τ R)(h:τ[0]?=some (some (.nd true (.pin q) l)))(hf:t.flat=true)(r:Rp K F' H' t x R0):Wr K true F' H' (.own [t,.nd true (.pin q) l]) x (R 0):=by
 obtain⟨y,_,ry⟩:=S.rep 0 _ h;have hy:=ry.pin_at;subst hy;exact⟨t,q,l,rfl,hf,r,ry⟩
def sRetM(m:PSt->Option Rs):PSt->Option Out:=fun τ=>match m τ with
 |some (.v t _)=>if t.flat then retAt t τ else none
 |some (.x c)=>some (.xc c τ)
 |none=>none
def sRetMN:PSt->Option Out:=fun τ=>retAt .non τ
theorem got_flat{F H:Hp}{t:T}{b:Bool}{x:V}{B:Rg}(g:Got K F H R t b x B)(hf:t.flat=true):Rp K F H t x R0:=by
 cases b with
 |true=>obtain⟨_,A,_,r⟩:=g;exact r.flat_any hf
 |false=>exact(show Rp K F H _ _ _ from g).flat_any hf
theorem s_retM(he:PE X e (tM X.K E ca m)):PS X (.Return (some e) pos) (tS X.K E ca true (sRetM m)):=by
 refine PS.weak (ps_ret he) fun D σ H h=>?_
 obtain⟨F,τ,R,S,q⟩:=h;refine⟨F,τ,R,S,?_⟩;unfold sRetM at q;cases hm:m τ with
 |none=>simp only[hm]at q
 |some r =>
  simp only[hm]at q;cases r with
  |x c=>exact fun F' H' e=>q F' H' σ R e.stp0 (S.ext e)
  |v t bb =>
   intro F' H' x B e g;simp only at q;cases hf:t.flat with
   |false=>rw[hf]at q;exact False.elim q
   |true =>
    rw[hf,if_pos rfl]at q;cases ho:retAt t τ with
    |none=>rw[ho]at q;exact q.elim
    |some o =>
     rw[ho]at q;obtain⟨p,l,h0,rfl⟩:=zk0 ho;exact q F' H' x (R 0) (e.stp0.mono fun a z=>⟨0,z⟩) (retAt_w (S.ext e) h0 hf (got_flat g hf))
theorem s_retMN:PS X (.Return none pos) (tS X.K E ca true sRetMN):=PS.weak ps_retN fun D σ H h=>by
 obtain⟨F,τ,R,S,q⟩:=h;unfold sRetMN at q;cases ho:retAt .non τ with
 |none=>simp only[ho]at q
 |some o =>
  simp only[ho]at q;obtain⟨p,l,h0,rfl⟩:=zk0 ho;exact q F H .non (R 0) ((Stp.refl S.fh).mono fun a z=>⟨0,z⟩) (retAt_w S h0 rfl .non)
inductive Mo where
 |ok (v:T) (τ:PSt)|exc (c:Str) (τ:PSt)
def gAll(g:List T->Option Ru)(l ts:List T)(r:T×List T):Prop:=∀p,g (.nd true (.pin p) l::ts)=some (.ok (.own [r.1,.nd true (.pin p) r.2]))
open Classical in
noncomputable def gMu(g:List T->Option Ru)(l ts:List T):Option (T×List T):=if h:∃r,gAll g l ts r then some h.choose else none
noncomputable def mMut(i:Nat)(g:List T->Option Ru)(ms:PSt->Option RsL):PSt->Option Mo:=fun τ=>match zjh τ i with
 |some (kd,l)=>(match ms τ with
  |some (.v ts false)=>(match gMu g l ts with
   |some (v,l')=>if v.flat then some (.ok v (τ.set i (some (.nd true kd l')))) else none
   |none=>none)
  |some (.v _ true)=>none
  |some (.x c)=>some (.exc c τ)
  |none=>none)
 |none=>none
def spM(K:PySem.W.Frag)(ca:Str->Value)(g:List T->Option Ru):Sp:=fun vs H Q E=>∃F p l ts A vs',zbh F H/\vs=.ref p::vs'/\Rp K F H (.nd true (.pin p) l) (.ref p) A/\Rps K F ts vs'/\match g (.nd true (.pin p) l::ts) with
 |some (.ok t)=>∀F' H' x B,Stp F H A F' H' B->Wr K true F' H' t x B->Q x H'
 |some (.exc c)=>∀F' H',Stp F H A F' H' R0->E (ca c) none H'
 |none=>False
variable {mm:PSt->Option Mo}
end
end Pu
set_option Elab.async false
set_option linter.all false
set_option maxRecDepth 100000
namespace Pu
open PySem PySem.Spec PyProof.Rows L2 Zw Zx
section
variable {X:Cx}{pins:List (Addr×Obj)}{σ:L2.St}{H:Hp}{s:Shared}{a:Addr}{kvs:List (Key×V)}
end
section
variable {X:Cx}
def tDicO:TE:=fun _ H Q=>∀p,H p=none->Q (.ref p) (upd H p (.dK []))
theorem pe_dicO{pos:Pos}:PE X (.Dict [] [] pos) tDicO:=fun pins s σ H Q I h=>by
 refine wpAny_Dict_empty ⟨.ref s.heap.objs.size,_,I.laid (a:=s.heap.objs.size) (o:=.dK []) (t':=s.toks) (fun _ _ q=>ya9 _ q) (yab _) (dk_empty s.heap I.big),rfl,h _ (I.hok.fresh (yab _))⟩
end
section
variable {X:Cx}{E:L2.St->XK}{ca:Str->Value}{m mk mv:PSt->Option Rs}{e k:Expr}{pos p1 pos2:Pos}{mu:Bool}
end
section
variable {X:Cx}{E:L2.St->XK}{ca:Str->Value}{m mk:PSt->Option Rs}{e k:Expr}{pos p1 pos2:Pos}{mu:Bool}{i:Nat}{x:Str}
end
end Pu
set_option Elab.async false
set_option linter.all false
set_option maxRecDepth 100000
namespace Pu
open PySem PySem.Spec PyProof.Rows L2 Zw Zx
theorem StR.frz{K:PySem.W.Frag}{F H:Hp}{σ:L2.St}{τ:PSt}{R:Nat->Rg}{i:Nat}{t:T}(S:StR K F H σ τ R)(ht:τ[i]?=some (some t)):StR K (Pu.frz F H (R i)) H σ (τ.set i (some t.share)) (fun j=>if j=i then R0 else R j):=by
 obtain⟨x,ex,r⟩:=S.rep i t ht;have hi:i<τ.length:=(ya7.mp ht).1;have n:∀a,R i a->F a=none:=fun a z=>(r.dom z).1
 refine⟨zk9 S.fh,by simpa using S.len,fun j t' e=>?_,fun j a z=>?_,fun j k a hjk z1 z2=>?_⟩
 ·by_cases hj:j=i
  ·subst hj;rw[yam hi]at e;cases e;exact⟨x,ex,by simpa using r.share (zf2 n) fun a u z q=>by rw[zhf z];exact q⟩
  ·rw[yak (yat hj)]at e;obtain⟨y,e1,r1⟩:=S.rep j t' e;refine⟨y,e1,?_⟩;simp only[hj,if_false]
   exact r1.frame (zf2 n) fun a z=>⟨rfl,by
    rw[zek (fun z'=>S.dis j i a hj z z')]
    exact(r1.dom z).1⟩
 ·by_cases hj:j=i
  ·simp only[hj,if_true]at z;exact z.elim
  ·simp only[hj,if_false]at z;obtain⟨t',e⟩:=S.out j a z;exact⟨t',by rw[yak (yat hj)];exact e⟩
 ·by_cases hj:j=i
  ·simp only[hj,if_true]at z1;exact z1.elim
  ·by_cases hk:k=i
   ·simp only[hk,if_true]at z2;exact z2.elim
   ·simp only[hj,if_false]at z1;simp only[hk,if_false]at z2;exact S.dis j k a hjk z1 z2
section
variable {X:Cx}{E:L2.St->XK}{ca:Str->Value}{σ:L2.St}{H:Hp}{K:PySem.W.Frag}{u w:PSt->Option Out}{D:Ends}
end
end Pu
set_option Elab.async false
set_option linter.all false
set_option maxRecDepth 100000
namespace Pu
open PySem PySem.Spec PyProof.Rows L2 Zw Zx
theorem zk3{fs:List Str}{xs:List V}{f:Str}:∀{j:Nat} {x:V},fs.findIdx? (· == f)=some j->xs[j]?=some x->(fs.zip xs).lookup f=some x:=by
 induction fs generalizing xs with
 |nil=>intro j x h;simp at h
 |cons g r ih =>
  intro j x h hx;rw[ydq]at h;cases xs with
  |nil=>simp at hx
  |cons y ys =>
   rw[ycn,yaq]
   by_cases hg:g=f
   ·subst hg;simp only[beq_self_eq_true,if_true,ycw]at h;subst h;simp at hx;rw[beq_self_eq_true,hx]
   ·have h1:(g == f)=false:=beq_eq_false_iff_ne.mpr hg;have h2:(f == g)=false:=beq_eq_false_iff_ne.mpr (yat hg);rw[h1]at h;simp only[yc9,if_false,ya0]at h;obtain⟨j',h3,rfl⟩:=h;rw[h2];exact ih h3 (by simpa using hx)
theorem zik{fs:List Str}{xs:List V}{f:Str}(h:fs.contains f=false):(fs.zip xs).lookup f=none:=by
 induction fs generalizing xs with
 |nil=>rfl
 |cons g r ih =>
  cases xs with
  |nil=>rfl
  |cons y ys =>
   rw[List.contains_cons,ybe]at h;rw[ycn,yaq,h.1];exact ih h.2
theorem Rp.obj_inv{K:PySem.W.Frag}{F H:Hp}{k:Ob}{l:List T}{x:V}{A:Rg}(h:Rp K F H (.obj k l) x A):∃p xs,x=.ref p/\A=R0/\ObS F k p xs/\l.length=xs.length/\∀(i:Nat) (t:T) (x:V),l[i]?=some t->xs[i]?=some x->Rp K F H t x R0:=by
 cases h with
 |obj h e c=>exact⟨_,_,rfl,rfl,h,e,c⟩
def ziv(C:Addr)(fs:List Str):T->Option (List T)
 |.obj (.ins C' fs') l=>if C'=C/\fs'=fs then some l else none
 |_=>none
theorem insT_some{C:Addr}{fs:List Str}{t:T}{l:List T}(h:ziv C fs t=some l):t=.obj (.ins C fs) l:=by
 unfold ziv at h;split at h
 ·split at h
  ·rename_i hc;cases h;rw[hc.1,hc.2]
  ·cases h
 ·cases h
def zfr(C:Addr)(fs:List Str)(j:Nat)(m:PSt->Option Rs):PSt->Option Rs:=fun τ=>match m τ with
 |some (.v t b)=>(match ziv C fs t with
  |some l=>(match l[j]? with
   |some u=>some (.v u (b && !u.sh))
   |none=>none)
  |none=>none)
 |some (.x c)=>some (.x c)
 |none=>none
def mMeth(C:Addr)(fs:List Str)(g:List T->Option Ru)(m:PSt->Option Rs)(ms:PSt->Option RsL):PSt->Option Rs:=fun τ=>match m τ with
 |some (.v t _)=>(match ziv C fs t with
  |some _=>(match ms τ with
   |some (.v ts b)=>(match g (t.share::ts) with
    |some (.ok v)=>fin b v
    |some (.exc c)=>some (.x c)
    |none=>none)
   |some (.x c)=>some (.x c)
   |none=>none)
  |none=>none)
 |some (.x c)=>some (.x c)
 |none=>none
def zg3(m n:PSt->Option Rs):PSt->Option Rs:=fun τ=>match m τ with
 |some r=>some r
 |none=>n τ
section
variable {X:Cx}{E:L2.St->XK}{ca:Str->Value}{m n:PSt->Option Rs}{ms:PSt->Option RsL}{e o:Expr}{es:List Expr}{pos p apos:Pos}{C:Addr}{fs:List Str}{f:Str}{j:Nat}
theorem r_alt(h1:PE X e (tM X.K E ca m))(h2:PE X e (tM X.K E ca n)):PE X e (tM X.K E ca (zg3 m n)):=fun pins s σ H Q I h=>by
 obtain⟨F,τ,R,S,q⟩:=h;unfold zg3 at q;cases hm:m τ with
 |none =>
  rw[hm]at q;exact h2 pins s σ H Q I ⟨F,τ,R,S,q⟩
 |some r =>
  rw[hm]at q;exact h1 pins s σ H Q I ⟨F,τ,R,S,by rw[hm];exact q⟩
theorem got_obj{K:PySem.W.Frag}{F H:Hp}{R:Nat->Rg}{k:Ob}{l:List T}{b:Bool}{x:V}{B:Rg}(g:Got K F H R (.obj k l) b x B):Rp K F H (.obj k l) x R0/\B=R0:=by
 cases b with
 |true =>
  obtain⟨hB,A,_,r⟩:=g;obtain⟨p,xs,rfl,hA,_⟩:=r.obj_inv;exact⟨hA▸r,hB⟩
 |false =>
  have r:Rp K F H (.obj k l) x B:=g;obtain⟨p,xs,rfl,hA,_⟩:=r.obj_inv;exact⟨hA▸r,hA⟩
theorem r_fld(c:Cls X.K C)(hn:zb1 X.K C f)(hj:fs.findIdx? (· == f)=some j)(ho:PE X o (tM X.K E ca m))(hb:attributeBase o f X.env (eval o X.env)=eval o X.env):PE X (.Attribute o f pos) (tM X.K E ca (zfr C fs j m)):=by
 refine PE.weak (pe_fld ho hb) fun σ H Q h=>?_
 obtain⟨F,τ,R,S,q⟩:=h;refine⟨F,τ,R,S,?_⟩;unfold zfr at q;cases hm:m τ with
 |none=>simp only[hm]at q
 |some r =>
  simp only[hm]at q;cases r with
  |x c=>exact q
  |v t b =>
   intro F1 H1 x B e1 g1;cases hi:ziv C fs t with
   |none=>simp only[hi]at q
   |some l =>
    simp only[hi]at q;have ht:=insT_some hi;subst ht;cases hu:l[j]? with
    |none=>simp only[hu]at q
    |some u =>
     simp only[hu]at q;obtain⟨r1,hB⟩:=got_obj g1;subst hB;obtain⟨a,xs,rfl,_,⟨dx,hF⟩,el,cc⟩:=r1.obj_inv;have hjl:=(ya7.mp hu).1;have hx:xs[j]?=some xs[j]:=ya2 (by omega)
     have hc:=cc j u _ hu hx;refine⟨a,_,dx,_,xs[j],rfl,e1.fh _ _ hF,c,hn,zk3 hj hx,?_⟩;refine q F1 H1 _ R0 e1 ?_;cases b with
     |false=>exact hc
     |true =>
      cases hs:u.sh with
      |true=>exact hc
      |false=>exact⟨rfl,R0,fun _ z=>z.elim,hc⟩
structure MetX(P:Program)(w:World)(K:PySem.W.Frag)(mg:Str->Option Value)(base:Heap)(C:Addr)(m:Str)(k:Nat)(ps:List Str)(sp:Sp) where
 f:Addr
 fd:FuncData
 c:Cls K C
 me:Meth K C m f
 ok:FnOk P w K mg base (CX1 P w) k f fd ps sp
 b:zfn K fd ps []
def tMethX(C:Addr)(m:Str)(sp:Sp)(E:L2.St->XK)(ta:TE)(t:TA):TE:=fun σ H Q=>ta σ H fun x H1=>∃a dx fs,x=.ref a/\H1 a=some (.ins C dx fs)/\fs.lookup m=none /\
 t σ H1 fun vs H2=>sp (x::vs) H2 Q (E σ)
theorem pmx{k j:Nat}{ps:List Str}{sp:Sp}{ta:TE}{t:TA}{pl:Sem Bool}(D:MetX X.prog X.w X.K X.mg X.base C f k ps sp)(hr:Room j X.A)(hx:zbn X E)(he:PE X o ta)(ha:PA X (e::es) t)(hk:k<=j)
  (hst:starEach (e::es) X.env=(false,eval e X.env)::starEach es X.env) (hpl:(backTo pos (starEach es X.env)).any (·.1)=false)
  (ht : eval (.Call (.Attribute o f apos) (e :: es) [] pos) X.env = (do
   let ov <- eval o X.env
   standAt apos.atName
   let (f,first) <- holding [ov] (getMethod ov f pl)
   callWith pos f first (backTo pos (starEach (e::es) X.env)) (backToKw pos (keywordEach [] X.env)))):PE X (.Call (.Attribute o f apos) (e::es) [] pos) (tMethX C f sp E ta t):=by
 intro pins s σ H Q I h;refine PySem.W.methodCall_KW (pl:=pl) (thn (he pins s σ H _ I h) fun u s1 ⟨x,H1,I1,rx,a,dx,fs,ex,ea,l,q⟩=>?_) ht
 subst ex;obtain rfl:u=Value.ref a:=rx;refine zk8 I1 ea D.c D.me l ?_;refine ycl (first:=[.ref a]) (h₀:=X.base) I.ok.mod.kin D.me.kp (thn (ha pos pins s1 σ H1 _ I1 q) fun us s2 ⟨vs,H2,I2,r,q2⟩=>⟨I2.kIn,?_⟩) hst hpl
 exact run_fnX (us:=.ref a::us) (vs:=.ref a::vs) (dvs:=[]) D.ok (hr.mono hk) D.b .nil hx I2 (.cons rfl r) (by rw[ybl];exact q2)
theorem pmx0{k j:Nat}{ps:List Str}{sp:Sp}{ta:TE}{pl:Sem Bool}(D:MetX X.prog X.w X.K X.mg X.base C f k ps sp)(hr:Room j X.A)(hx:zbn X E)(he:PE X o ta)(hk:k<=j)
  (ht : eval (.Call (.Attribute o f apos) [] [] pos) X.env = (do
   let ov <- eval o X.env
   standAt apos.atName
   let (f,first) <- holding [ov] (getMethod ov f pl)
   callWith pos f first (backTo pos (starEach [] X.env)) (backToKw pos (keywordEach [] X.env)))):PE X (.Call (.Attribute o f apos) [] [] pos) (tMethX C f sp E ta tNil):=by
 intro pins s σ H Q I h;refine PySem.W.methodCall_KW (pl:=pl) (thn (he pins s σ H _ I h) fun u s1 ⟨x,H1,I1,rx,a,dx,fs,ex,ea,l,q⟩=>?_) ht
 subst ex;obtain rfl:u=Value.ref a:=rx;refine zk8 I1 ea D.c D.me l ?_;exact PySem.W.callWith_K0 (first:=[.ref a]) I1.kIn D.me.kp (run_fnX (us:=[.ref a]) (vs:=[.ref a]) (dvs:=[]) D.ok (hr.mono hk) D.b .nil hx I1 (.cons rfl .nil) q)
theorem tM_meth{g:List T->Option Ru}{σ:L2.St}{H:Hp}{Q:VK}(hf:fs.contains f=false)(h:tM X.K E ca (mMeth C fs g m ms) σ H Q):tMethX C f (spP X.K ca g) E (tM X.K E ca m) (tMs X.K E ca ms) σ H Q:=by
 obtain⟨F,τ,R,S,q⟩:=h;refine⟨F,τ,R,S,?_⟩;unfold mMeth at q;cases hm:m τ with
 |none=>simp only[hm]at q
 |some r =>
  simp only[hm]at q;cases r with
  |x c=>exact q
  |v t b =>
   intro F1 H1 x B e1 g1;cases hi:ziv C fs t with
   |none=>simp only[hi]at q
   |some l =>
    simp only[hi]at q;have ht:=insT_some hi;subst ht;obtain⟨r1,hB⟩:=got_obj g1;subst hB;have S1:=S.ext e1;obtain⟨a,xs,rfl,_,⟨dx,hF⟩,el,cc⟩:=r1.obj_inv;refine⟨a,dx,_,rfl,e1.fh _ _ hF,zik hf,F1,τ,R,S1,?_⟩;cases hs:ms τ with
    |none=>simp only[hs]at q
    |some r =>
     simp only[hs]at q;cases r with
     |x c=>exact fun F' H' e=>q F' H' (e1.trans0 e)
     |v ts b' =>
      intro F2 H2 vs e2 rs;have S2:=S1.ext e2;simp only at q;have r2:Rp X.K (Gz b' F2 H2 R) H2 (T.obj (.ins C fs) l).share (.ref a) R0:=(r1.ext e2).share (gz_ff S2) fun _ _ z=>z.elim
      refine⟨Gz b' F2 H2 R,_,gz_fh S2,.cons r2 rs,?_⟩;have e12:=e1.trans0 e2;cases hg:g ((T.obj (.ins C fs) l).share::ts) with
      |none=>simp only[hg]at q
      |some r =>
       simp only[hg]at q;cases r with
       |exc c=>exact fun F' H' e3=>q F2 H' (e12.grow e3.hh)
       |ok v =>
        intro F3 H3 z C3 e3 r3;simp only at q;unfold fin at q;cases b' with
        |false=>exact q F3 H3 z C3 (e12.trans0 e3) r3
        |true =>
         cases hf:v.flat with
         |false=>rw[hf]at q;exact False.elim q
         |true=>rw[hf]at q;exact q F2 H3 z R0 (e12.grow e3.hh) (r3.flat_any hf)
theorem r_meth{k j:Nat}{ps:List Str}{g:List T->Option Ru}{pl:Sem Bool}(D:MetX X.prog X.w X.K X.mg X.base C f k ps (spP X.K ca g))(hf:fs.contains f=false)(hr:Room j X.A)(hx:zbn X E)(he:PE X o (tM X.K E ca m))(ha:PA X (e::es) (tMs X.K E ca ms))(hk:k<=j)
  (hst:starEach (e::es) X.env=(false,eval e X.env)::starEach es X.env) (hpl:(backTo pos (starEach es X.env)).any (·.1)=false)
  (ht : eval (.Call (.Attribute o f apos) (e :: es) [] pos) X.env = (do
   let ov <- eval o X.env
   standAt apos.atName
   let (f,first) <- holding [ov] (getMethod ov f pl)
   callWith pos f first (backTo pos (starEach (e::es) X.env)) (backToKw pos (keywordEach [] X.env)))):PE X (.Call (.Attribute o f apos) (e::es) [] pos) (tM X.K E ca (mMeth C fs g m ms)) :=
 PE.weak (pmx D hr hx he ha hk hst hpl ht) fun σ H Q h=>tM_meth hf h
structure NewX(P:Program)(w:World)(K:PySem.W.Frag)(mg:Str->Option Value)(base:Heap)(x:Str)(C:Addr)(k:Nat)(ps:List Str)(sp:Sp) where
 f:Addr
 fd:FuncData
 m:mg x=some (.ref C)
 ma:Mk K C f
 ok:FnOk P w K mg base (CX1 P w) k f fd ps sp
def tMakeX(C:Addr)(sp:Sp)(dvs:List V)(E:L2.St->XK)(t:TA):TE:=fun σ H Q=>t σ H fun vs H1=>∀x dx,H1 x=none->H1 dx=none->dx≠x ->
 sp (.ref x::(vs++dvs)) (upd (upd H1 dx (.own x)) x (.ins C dx [])) (fun v H2=>v=.non/\Q (.ref x) H2) (E σ)
theorem pnx{k j:Nat}{x:Str}{ps:List Str}{sp:Sp}{t:TA}{dvs:List V}{ds:List Value}(D:NewX X.prog X.w X.K X.mg X.base x C k ps sp)(hb:zfn X.K D.fd ps ds)(hd:zbc dvs ds)(hr:Room j X.A)(hx:zbn X E)(ha:PA X (e::es) t)(hk:k+1<=j)(hg:Gl X x)(hdb:(x == ("__debug__":Str))=false)
  (he:starEach (e::es) X.env=(false,eval e X.env)::starEach es X.env) (hpl:(backTo pos (starEach es X.env)).any (·.1)=false):PE X (.Call (.Name x p) (e::es) [] pos) (tMakeX C sp dvs E t):=by
 intro pins s σ H Q I h;refine wpAny_Call_Name_kw (zir I hg D.m ?_ hdb);refine ycl (h₀:=X.base) I.ok.mod.kin D.ma.kp (thn (ha pos pins s σ H _ I h) fun us s1 ⟨vs,H1,I1,r,q⟩=>⟨I1.kIn,?_⟩) he hpl
 have hq:=q (s1.heap.objs.size+1) s1.heap.objs.size (I1.hok.fresh (ybu _)) (I1.hok.fresh (yab _)) (yao (ybs _));have I2:=Inv.made (C:=C) I1;have r2:zbc (V.ref (s1.heap.objs.size+1)::(vs++dvs)) (Value.ref (s1.heap.objs.size+1)::(us++ds)):=.cons rfl (r.append hd)
 have hl:(Value.ref (s1.heap.objs.size+1)::us++ds).length=ps.length:=by
  have e:=r2.length;rw[D.ok.len _ _ _ _ hq]at e;exact e.symm
 refine wpAny_call (make_map (f:=D.f) I1.kIn D.ma.makes D.ma.init (beq_iff_eq.mp D.ma.fn) (codeAny_mono (D.ok.run _ X.stack _ _ ⟨Value.ref (s1.heap.objs.size+1)::us,[]⟩ (Value.ref (s1.heap.objs.size+1)::(us++ds)) _ _ (E σ) ((hr.mono hk).make C us [])
  (I2.env0.make C us []) (hb _ (Value.ref (s1.heap.objs.size+1)::us) I2.kIn hl) r2 hq) fun r s' hq'=>?_))
 cases r with
 |error v=>exact hx pins σ _ _ v s' I2 hq'
 |ok fl =>
  cases fl with
  |ret u =>
   obtain⟨v,H',I3,rv,ev,q3⟩:=I2.after hq';subst ev;exact⟨rv,⟨V.ref (s1.heap.objs.size+1),H',I3,rfl,q3⟩⟩
  |next=>exact False.elim hq'
  |brk=>exact False.elim hq'
  |cont=>exact False.elim hq'
def spN(K:PySem.W.Frag)(ca:Str->Value)(C:Addr)(g:List T->Option Ru):Sp:=fun vs H Q E=>∃F p dx ts vs',zbh F H/\vs=.ref p::vs'/\F p=none/\H p=some (.ins C dx [])/\Rps K F ts vs'/\match g ts with
 |some (.ok t)=>∀F' H',Stp F H (fun a=>a=p) F' H' R0->Rp K F' H' t (.ref p) R0->Q .non H'
 |some (.exc c)=>∀F' H',Stp F H (fun a=>a=p) F' H' R0->E (ca c) none H'
 |none=>False
def mNew(g:List T->Option Ru)(ds:List T)(ms:PSt->Option RsL):PSt->Option Rs:=fun τ=>match ms τ with
 |some (.v ts false)=>(match g (ts++ds) with
  |some (.ok t)=>some (.v t false)
  |some (.exc c)=>some (.x c)
  |none=>none)
 |some (.v _ true)=>none
 |some (.x c)=>some (.x c)
 |none=>none
theorem r_new{k j:Nat}{x:Str}{ps:List Str}{g:List T->Option Ru}{dvs:List V}{dts:List T}{ds:List Value}(D:NewX X.prog X.w X.K X.mg X.base x C k ps (spN X.K ca C g))(hb:zfn X.K D.fd ps ds)(hd:zbc dvs ds)(hdt:∀F:Hp,Rps X.K F dts dvs)(hr:Room j X.A)(hx:zbn X E)(ha:PA X (e::es) (tMs X.K E ca ms))(hk:k+1<=j)(hg:Gl X x)(hdb:(x == ("__debug__":Str))=false)
  (he:starEach (e::es) X.env=(false,eval e X.env)::starEach es X.env) (hpl:(backTo pos (starEach es X.env)).any (·.1)=false):PE X (.Call (.Name x p) (e::es) [] pos) (tM X.K E ca (mNew g dts ms)):=by
 refine PE.weak (pnx D hb hd hr hx ha hk hg hdb he hpl) fun σ H Q h=>?_
 obtain⟨F,τ,R,S,q⟩:=h;refine⟨F,τ,R,S,?_⟩;unfold mNew at q;cases hs:ms τ with
 |none=>simp only[hs]at q
 |some r =>
  simp only[hs]at q;cases r with
  |x c=>exact q
  |v ts b =>
   cases b with
   |true=>exact fun F1 H1 xs e1 rs=>q.elim
   |false =>
    intro F1 H1 xs e1 rs a dx ha hdx hne;simp only at q;have rs':Rps X.K F1 ts xs:=rs
    have key:∀F' H',Stp F1 (upd (upd H1 dx (.own a)) a (.ins C dx [])) (fun b=>b=a) F' H' R0->Ext F H F' H' R0:=fun F' H' st=>by
     refine e1.trans0 ⟨fun b u z=>?_,st.ff,st.fh,fun _ z=>z.elim,fun b u z=>?_⟩
     ·have h1:b≠a:=zag z ha;have h2:b≠dx:=zag z hdx;exact st.kp b u h1 (by rw[zah h1,zah h2];exact z)
     ·rcases st.nf b u z with w|w|w
      ·exact .inl w
      ·rw[w];exact .inr ha
      ·by_cases h1:b=a
       ·rw[h1];exact .inr ha
       ·by_cases h2:b=dx
        ·rw[h2];exact .inr hdx
        ·rw[zah h1,zah h2]at w;exact .inr w
    have fh2:zbh F1 (upd (upd H1 dx (.own a)) a (.ins C dx [])):=fun b u z=>by
     have z':=e1.fh b u z;rw[zah (zag z' ha),zah (zag z' hdx)];exact z'
    refine⟨F1,a,dx,ts++dts,xs++dvs,fh2,rfl,zbq e1.fh ha,zb2,zfe rs' (hdt F1),?_⟩;cases hg:g (ts++dts) with
    |none=>simp only[hg]at q
    |some r =>
     simp only[hg]at q;cases r with
     |exc c=>exact fun F' H' st=>q F' H' (key F' H' st)
     |ok t=>exact fun F' H' st r=>⟨rfl,q F' H' _ R0 (key F' H' st) r⟩
end
end Pu
set_option Elab.async false
set_option linter.all false
set_option maxRecDepth 100000
namespace Pu
open PySem PySem.Spec PyProof.Rows L2 Zw Zx
def oobAt(τ:PSt)(i:Nat)(C:Addr)(fs:List Str):Option (Addr×List T):=match τ[i]? with
 |some (some (.oob p C' fs' l))=>if C'=C/\fs'=fs then some (p,l) else none
 |_=>none
theorem zgu{τ:PSt}{i:Nat}{C:Addr}{fs:List Str}{p:Addr}{l:List T}(h:oobAt τ i C fs=some (p,l)):τ[i]?=some (some (.oob p C fs l)):=by
 unfold oobAt at h;split at h
 ·rename_i q;split at h
  ·rename_i hc;cases h;rw[q,hc.1,hc.2]
  ·cases h
 ·cases h
def zhk(C:Addr)(fs:List Str)(j i:Nat)(m:PSt->Option Rs):PSt->Option Out:=fun τ=>match m τ with
 |some (.v t false)=>(match oobAt τ i C fs with
  |some (p,l)=>if l.length=j then some (.nx (τ.set i (some (.oob p C fs (l++[t]))))) else none
  |none=>none)
 |some (.v _ true)=>none
 |some (.x c)=>some (.xc c τ)
 |none=>none
def osdAt:Option T->Option (List Str×List T)
 |some (.osd ks l)=>some (ks,l)
 |_=>none
theorem osdAt_some{o:Option T}{ks:List Str}{l:List T}(h:osdAt o=some (ks,l)):o=some (.osd ks l):=by
 unfold osdAt at h;split at h
 ·cases h;rfl
 ·cases h
open Classical in
noncomputable def sDpf(C:Addr)(fs:List Str)(j i:Nat)(mk m:PSt->Option Rs):PSt->Option Out:=fun τ=>match m τ with
 |some (.v t false)=>(match oobAt τ i C fs with
  |some (p,l)=>(match osdAt l[j]? with
   |some (ks,lv)=>(match mk τ with
    |some (.v (.str k) _)=>if k∉ks/\ks.length<100000 then some (.nx (τ.set i (some (.oob p C fs (l.set j (.osd (ks++[k]) (lv++[t.share]))))))) else none
    |some (.v _ _)=>none
    |some (.x c)=>some (.xc c τ)
    |none=>none)
   |none=>none)
  |none=>none)
 |some (.v _ true)=>none
 |some (.x c)=>some (.xc c τ)
 |none=>none
def mDicS:PSt->Option Rs:=fun _=>some (.v (.osd [] []) false)
theorem putF_zip{f:Str}{y:V}:∀{fs:List Str} {xs:List V},fs[xs.length]?=some f->(fs.take xs.length).contains f=false->putF f y (fs.zip xs)=fs.zip (xs++[y])
 |[],xs,h,_=>by simp at h
 |g::r,[],h,_=>by
  simp at h;subst h;simp[putF]
 |g::r,x::xs,h,hn=>by
  rw[yaa,List.take_succ_cons,List.contains_cons,ybe]at hn
  have hg:¬ g=f:=fun z=>by
   have:=hn.1;rw[z,beq_self_eq_true]at this;cases this
  have ih:=putF_zip (f:=f) (y:=y) (fs:=r) (xs:=xs) (by simpa using h) hn.2
  rw[ycn,List.cons_append,ycn,<- ih];show(if g=f then _ else _)=_
  rw[if_neg hg]
section
variable {K:PySem.W.Frag}{F H:Hp}{C:Addr}{fs:List Str}{l:List T}
theorem Rp.oob_inv{p:Addr}{x:V}{A:Rg}(h:Rp K F H (.oob p C fs l) x A):∃dx xs Rr,x=.ref p/\A=(fun a=>a=p\/∃j,Rr j a)/\F p=none/\H p=some (.ins C dx (fs.zip xs))/\RpO K F H l xs Rr/\∀j,¬ Rr j p:=by
 cases h with
 |oob R f h e c d dp o=>exact⟨_,_,R,rfl,rfl,f,h,⟨e,c,d,o⟩,dp⟩
theorem oob_mk{p dx:Addr}{xs:List V}{Rr:Nat->Rg}(r:RpO K F H l xs Rr)(f:F p=none)(h:H p=some (.ins C dx (fs.zip xs)))(dp:∀j,¬ Rr j p):Rp K F H (.oob p C fs l) (.ref p) (fun a=>a=p\/∃j,Rr j a):=.oob Rr f h r.len r.rep r.dis dp r.out
theorem Rp.osd_inv{ks:List Str}{x:V}{A:Rg}(h:Rp K F H (.osd ks l) x A):∃p xs,x=.ref p/\A=(fun a=>a=p)/\F p=none/\H p=some (.dK (kvS ks xs))/\l.length=xs.length/\ks.length=xs.length/\∀(i:Nat) (t:T) (x:V),l[i]?=some t->xs[i]?=some x->Rp K F H t x R0:=by
 cases h with
 |osd f h e ek c=>exact⟨_,_,rfl,rfl,f,h,e,ek,c⟩
end
theorem kvS_len{ks:List Str}{xs:List V}(h:ks.length=xs.length):(kvS ks xs).length=xs.length:=by
 unfold kvS;rw[List.length_zipWith,h,Nat.min_self]
theorem kvS_key{ks:List Str}{xs:List V}{kv:Key×V}(h:kv∈kvS ks xs):∃k∈ks,kv.1=Sum.inr k:=by
 induction ks generalizing xs with
 |nil=>cases xs<;>cases h
 |cons a r ih =>
  cases xs with
  |nil=>cases h
  |cons b s =>
   unfold kvS at h;rw[List.zipWith_cons_cons]at h
   rcases ya3.mp h with e|e
   ·exact⟨a,ya6 ..,by rw[e]⟩
   ·obtain⟨k,hk,e⟩:=ih (xs:=s) e;exact⟨k,ya5 _ hk,e⟩
theorem putS_new{ks:List Str}{xs:List V}{k:Str}{y:V}(h:ks.length=xs.length)(hk:k∉ks):putK (kvS ks xs) (Sum.inr k) y=kvS (ks++[k]) (xs++[y]):=by
 unfold putK;rw[if_neg]
 ·unfold kvS;rw[List.zipWith_append h]
  rfl
 ·intro c;obtain⟨kv,h1,h2⟩:=List.any_eq_true.mp c;obtain⟨k',h3,h4⟩:=kvS_key h1;have:=of_decide_eq_true h2;rw[h4]at this;cases this;exact hk h3
section
variable {X:Cx}{E:L2.St->XK}{ca:Str->Value}{m mk:PSt->Option Rs}{e k:Expr}{pos p1 pos2 pos3:Pos}{mu:Bool}{i j:Nat}{x f:Str}{C:Addr}{fs:List Str}
theorem r_dicS:PE X (.Dict [] [] pos) (tM X.K E ca mDicS):=PE.weak pe_dicO fun σ H Q h p hp=>by
 obtain⟨F,τ,R,S,q⟩:=h;exact q F (upd H p (.dK [])) (.ref p) _ (Ext.newO S.fh hp) (Rp.osd (ks:=[]) (xs:=[]) (l:=[]) (zbq S.fh hp) zb2 rfl rfl fun i t x h=>by simp at h)
theorem s_fldA(c:Cls X.K C)(hn:zb1 X.K C f)(hj:fs[j]?=some f)(hnf:(fs.take j).contains f=false)(hjl:j<900)(hN:X.N[i]?=some x)(hv:Vis X.env.scope x)(hd:(x == ("__debug__":Str))=false)(hcd:(x == ("__classdict__":Str))=false)(he:PE X e (tM X.K E ca m))
  (hs:swapsWith e (some (.Attribute (.Name x p1) f pos2)) pos.line X.env=pure false):PS X (.Assign [.Attribute (.Name x p1) f pos2] e pos) (tS X.K E ca mu (zhk C fs j i m)):=by
 refine PS.weak (ps_fld (zif hN hv hd hcd) he hs) fun D σ H h=>?_
 obtain⟨F,τ,R,S,q⟩:=h;refine⟨F,τ,R,S,?_⟩;unfold zhk at q;cases hm:m τ with
 |none=>simp only[hm]at q
 |some r =>
  simp only[hm]at q;cases r with
  |x c=>exact fun F' H' e=>q F' H' σ R e.stp0 (S.ext e)
  |v t bb =>
   cases bb with
   |true=>exact fun F1 H1 y B e1 g1=>q.elim
   |false =>
    intro F1 H1 y B e1 g1;have g1':Rp X.K F1 H1 t y B:=g1;simp only at q;cases ho:oobAt τ i C fs with
    |none=>simp only[ho]at q
    |some pl =>
     obtain⟨p,l⟩:=pl;simp only[ho]at q
     by_cases hl:l.length=j
     ·rw[if_pos hl]at q;have S1:=S.ext e1;have ht:=zgu ho;obtain⟨y2,ey,ry⟩:=S.rep i _ ht;obtain⟨dx,xs,Rr,rfl,hA,fp,hp,ro,dp⟩:=ry.oob_inv;have hxs:xs.length=j:=by rw[<- ro.len];exact hl
      have hp1:=e1.hh _ _ hp;have pB:¬ B p:=fun z=>by rw[e1.nb p z]at hp;cases hp
      have fp1:F1 p=none:=(ry.ext e1 |>.dom (by rw[hA];exact .inl rfl)).1
      refine⟨_,ey,p,C,dx,fs.zip xs,rfl,hp1,c,hn,?_,?_⟩
      ·rw[List.length_zip]
       omega
      ·rw[putF_zip (by rw[hxs];exact hj) (by rw[hxs];exact hnf)]
       have ro1:=ro.ext e1;have ro2:RpO X.K F1 (upd H1 p (.ins C dx (fs.zip (xs++[y])))) (l++[t]) (xs++[y]) _:=(ro1.upd dp).snoc (g1'.upd pB) fun j a z1 z2=>ro.apart e1 z2 j z1
       have dp2:∀j,¬ (if j=l.length then B else Rr j) p:=fun j z=>by
        by_cases hj:j=l.length
        ·simp only[hj,if_true]at z;exact pB z
        ·simp only[hj,if_false]at z;exact dp j z
       have r2:=oob_mk (C:=C) (fs:=fs) ro2 fp1 zb2 dp2
       obtain⟨S3,st3⟩:=S1.upd ht ey (by rw[hA];exact .inl rfl) r2 (B:=B) (fun a z=>by
        rw[hA]
        rcases z with z|z
        ·exact .inl (.inl z)
        ·rcases snoc_tot' z with w|w
         ·exact .inl (.inr w)
         ·exact .inr w) (fun j a z1 z2=>S.apart e1 z2 j z1)
       exact q F1 _ σ _ (e1.stp.trans st3) S3
     ·rw[if_neg hl]at q;exact q.elim
def rSetS:TSet:=fun o i v H Q=>∃p kvs k,o=.ref p/\i=.str k/\H p=some (.dK kvs)/\kvs.length<sizeLine/\Q (upd H p (.dK (putK kvs (Sum.inr k) v)))
theorem set_dicS(hu:X.A.units+1<cLine):PSet X rSetS:=by
 intro pins s σ H o i v ov iv u Q I ro ri rv h;obtain⟨p,kvs,k,rfl,rfl,hp,hl,q⟩:=h;cases ro;exact d_setItem hu I (DPut.k (k:=Sum.inr k) hp hl) (show L2.RelV (kV (Sum.inr k)) iv from ri) rv fun s' I'=>⟨_,I',q⟩
theorem zds{K:PySem.W.Frag}{F H:Hp}{R:Nat->Rg}{z:Str}{b:Bool}{y:V}{B:Rg}(g:Got K F H R (.str z) b y B):y=.str z:=by
 cases b with
 |true=>obtain⟨_,A,_,r⟩:=g;exact r.str_inv
 |false=>exact(show Rp K F H _ _ _ from g).str_inv
theorem s_dpf(hu:X.A.units+1<cLine)(c:Cls X.K C)(hn:zb1 X.K C f)(hj:fs.findIdx? (· == f)=some j)(hN:X.N[i]?=some x)(hv:Vis X.env.scope x)(hd:(x == ("__debug__":Str))=false)(hcd:(x == ("__classdict__":Str))=false)(he:PE X e (tM X.K E ca m))(hk:PE X k (tM X.K E ca mk))
  (hs:swapsWithSole [.Subscript (.Attribute (.Name x p1) f pos3) k pos2] e pos.line X.env=pure false) (hw:swappedStores [.Subscript (.Attribute (.Name x p1) f pos3) k pos2] e X.env=pure none)
  (ha : ∀ v, assign (.Subscript (.Attribute (.Name x p1) f pos3) k pos2) X.env v = (do
   let ov <- holding [v] (eval (.Attribute (.Name x p1) f pos3) X.env);let iv <- holding [v,ov] (eval k X.env)
   standAt pos2
   holding [v,ov,iv] (setItem ov iv v)
   release [v,ov,iv] [])) :
  PS X (.Assign [.Subscript (.Attribute (.Name x p1) f pos3) k pos2] e pos) (tS X.K E ca mu (sDpf C fs j i mk m)):=by
 refine PS.weak (ps_asg he (pg_sub (pe_fld (zif hN hv hd hcd) rfl) hk (set_dicS hu) ha) hs hw rfl) fun D σ H h=>?_
 obtain⟨F,τ,R,S,q⟩:=h;refine⟨F,τ,R,S,?_⟩;unfold sDpf at q;cases hm:m τ with
 |none=>simp only[hm]at q
 |some r =>
  simp only[hm]at q;cases r with
  |x c=>exact fun F' H' e=>q F' H' σ R e.stp0 (S.ext e)
  |v t bb =>
   cases bb with
   |true=>exact fun F1 H1 y B e1 g1=>q.elim
   |false =>
    intro F0 H1 y B e0 g0;simp only at q;obtain⟨F1,e1,_,g1⟩:=Got.frz (b:=false) S e0 g0;have g1':Rp X.K F1 H1 t.share y R0:=(show Rp X.K F1 F1 t.share y R0 from g1).any;cases ho:oobAt τ i C fs with
    |none=>simp only[ho]at q
    |some pl =>
     obtain⟨p,l⟩:=pl;simp only[ho]at q;cases hos:osdAt l[j]? with
     |none=>simp only[hos]at q
     |some kl =>
      obtain⟨ks,lv⟩:=kl;simp only[hos]at q;have hlj:=osdAt_some hos;have S1:=S.ext e1;have ht:=zgu ho;obtain⟨y2,ey,ry⟩:=S1.rep i _ ht;obtain⟨dx,xs,Rr,rfl,hA,fp,hp,ro,dp⟩:=ry.oob_inv;have hjl:=(ya7.mp hlj).1;have hjx:j<xs.length:=by rw[<- ro.len];exact hjl
      have hx:xs[j]?=some xs[j]:=ya2 hjx;refine⟨_,ey,p,C,dx,_,xs[j],rfl,hp,c,hn,zk3 hj hx,F1,τ,R,S1,?_⟩;cases hkk:mk τ with
      |none=>simp only[hkk]at q
      |some r =>
       simp only[hkk]at q;cases r with
       |x c=>exact fun F' H' e=>q F' H' σ R ((e1.stp0).trans e.stp0) (S1.ext e)
       |v tk bk =>
        cases tk with
        |str kk =>
         simp only at q
         by_cases hc:kk∉ks/\ks.length<100000
         ·rw[if_pos hc]at q;intro F2 H2 z CC e2 g2;have hz:=zds g2;subst hz;have e2':Ext F1 H1 F2 H2 R0:=e2.mono fun _ z=>z.elim
          have S2:=S1.ext e2;have ry2:=ry.ext e2;have ro2:=ro.ext e2;have fp2:F2 p=none:=(ry2.dom (by rw[hA];exact .inl rfl)).1
          have hp2:=e2.hh _ _ hp;have rk:=ro2.rep j _ _ hlj hx;obtain⟨pd,ys,exj,hAd,fpd,hpd,el,ek,cc⟩:=rk.osd_inv;have g2':Rp X.K F2 H2 t.share y R0:=g1'.ext e2;have pdj:Rr j pd:=by rw[hAd]
          have pne:pd≠p:=fun z=>dp j (z▸pdj)
          refine⟨pd,kvS ks ys,kk,exj,rfl,hpd,?_,?_⟩
          ·rw[kvS_len ek,<- ek,sizeLine_eq];exact yb3 hc.2 (by decide)
          ·rw[putS_new ek hc.1]
           have r3:Rp X.K F2 (upd H2 pd (.dK (kvS (ks++[kk]) (ys++[y])))) (.osd (ks++[kk]) (lv++[t.share])) (.ref pd) (fun a=>a=pd):=by
            refine .osd fpd zb2 (by simp[el]) (by simp[ek]) fun j t' x' h1 h2=>?_
            rcases Nat.lt_or_ge j lv.length with w|w
            ·rw[yap w]at h1;rw[yap (by omega)]at h2
             exact(cc j t' x' h1 h2).any
            ·rw[yar w]at h1;rw[yar (by omega)]at h2
             have hj:j - lv.length=0:=by
              have:=(ya7.mp h1).1;simp at this
              omega
             have hj2:j - ys.length=0:=by omega
             rw[hj]at h1;rw[hj2]at h2;simp at h1 h2;subst h1 h2;exact g2'.any
           have oth:∀k,k≠j->¬ Rr k pd:=fun k hk z=>ro2.dis k j pd hk z pdj
           have ro3:RpO X.K F2 (upd H2 pd (.dK (kvS (ks++[kk]) (ys++[y])))) (l.set j (.osd (ks++[kk]) (lv++[t.share]))) xs Rr:=by
            refine⟨by rw[yd9];exact ro2.len,fun k t' x' h1 h2=>?_,ro2.dis,fun k a z=>by rw[yd9];exact ro2.out k a z⟩
            by_cases hk:k=j
            ·subst hk;rw[yam hjl]at h1;rw[hx]at h2;cases h1;cases h2;rw[exj,hAd];exact r3
            ·rw[yak (yat hk)]at h1;exact(ro2.rep k t' x' h1 h2).upd (oth k hk)
           have r4:=oob_mk (C:=C) (fs:=fs) (p:=p) (dx:=dx) ro3 fp2 (by rw[zah (yat pne)];exact hp2) dp
           obtain⟨S3,st3⟩:=S2.upd ht ey (p:=pd) (by rw[hA];exact .inr ⟨j,pdj⟩) r4 (B:=R0) (fun a z=>.inl (by rw[hA];exact z)) (fun j a z1 z2=>z2)
           exact q F2 _ σ _ ((e1.stp.trans e2.stp0).trans st3) S3
         ·rw[if_neg hc]at q;exact q.elim
        |_=>exact fun F' H' z CC e2 g2=>q.elim
end
end Pu
set_option Elab.async false
set_option linter.all false
set_option maxRecDepth 100000
namespace Pu
open PySem PySem.Spec PyProof.Rows L2 Zw Zx
section
variable {X:Cx}{E:L2.St->XK}{ca:Str->Value}{ma mb mc:PSt->Option Rs}{a b c:Expr}{pos:Pos}{x:Str}{t:T}
theorem r_con{v:V}{u:Value}(hg:Gl X x)(hm:X.mg x=some u)(rv:RelV v u)(hd:(x == ("__debug__":Str))=false)(r:∀F:Hp,Rp X.K F F t v R0):PE X (.Name x pos) (tM X.K E ca (mC t)) :=
 PE.weak (pe_glob hg hm rv hd) fun σ H Q h=>by
  obtain⟨F,τ,R,S,q⟩:=h;exact q F H v R0 (Ext.refl S.fh) (r F).any
def mChn(g g':T->T->Option T)(ma mb mc:PSt->Option Rs):PSt->Option Rs:=fun τ=>match ma τ,mb τ with
 |some (.v t _),some (.v u _)=>if t.flat && u.flat then (match g t u with
  |some (.bl true)=>(match mc τ with
   |some (.v w _)=>if w.flat then (match g' u w with
    |some (.bl k)=>some (.v (.bl k) false)
    |_=>none) else none
   |_=>none)
  |some (.bl false)=>some (.v (.bl false) false)
  |_=>none) else none
 |_,_=>none
theorem zk6{K:PySem.W.Frag}{F H F' H':Hp}{R:Nat->Rg}{v:T}{b:Bool}{x:V}{B:Rg}(g:Got K F H R v b x B)(h:v.flat=true):Rp K F' H' v x R0:=by
 cases b with
 |true=>obtain⟨_,A,_,r⟩:=g;exact r.flat_any h
 |false=>exact(show Rp K F H v x B from g).flat_any h
theorem tM_chn{g g':T->T->Option T}{σ:L2.St}{H:Hp}{Q:VK}(h:tM X.K E ca (mChn g g' ma mb mc) σ H Q):tChain (rT2 X.K g) (rT2 X.K g') (tM X.K E ca ma) (tM X.K E ca mb) (tM X.K E ca mc) σ H Q:=by
 obtain⟨F,τ,R,S,q⟩:=h;refine⟨F,τ,R,S,?_⟩;unfold mChn at q;cases h1:ma τ with
 |none=>simp only[h1]at q
 |some r1 =>
  cases r1 with
  |x c=>simp only[h1]at q
  |v t b1 =>
   cases h2:mb τ with
   |none=>simp only[h1,h2]at q
   |some r2 =>
    cases r2 with
    |x c=>simp only[h1,h2]at q
    |v u b2 =>
     simp only[h1,h2]at q
     by_cases hf:(t.flat && u.flat)=true
     ·rw[if_pos hf]at q;rw[ya1]at hf;intro F1 H1 x B1 e1 g1;have S1:=S.ext e1;refine⟨F1,τ,R,S1,?_⟩;rw[h2];intro F2 H2 y B2 e2 g2;have S2:=S1.ext e2;have e12:Ext F H F2 H2 R0:=(e1.trans e2).mono fun _ z=>z.elim
      cases hg:g t u with
      |none=>simp only[hg]at q
      |some k =>
       cases k with
       |bl k =>
        cases k with
        |false =>
         simp only[hg]at q;refine⟨F2,t,u,_,S2.fh,zk6 g1 hf.1,zk6 g2 hf.2,hg,fun F3 H3 z C3 e3 r3=>⟨false,r3.bl_inv,?_⟩⟩
         rw[if_neg yb4];exact q F3 H3 _ R0 (e12.trans0 (e3.mono fun _ z=>z.elim)) (.bl false)
        |true =>
         simp only[hg]at q;refine⟨F2,t,u,_,S2.fh,zk6 g1 hf.1,zk6 g2 hf.2,hg,fun F3 H3 z C3 e3 r3=>⟨true,r3.bl_inv,?_⟩⟩
         rw[if_pos rfl];have S3:=S2.ext e3;refine⟨F3,τ,R,S3,?_⟩;cases h3:mc τ with
         |none=>simp only[h3]at q
         |some r3 =>
          cases r3 with
          |x c=>simp only[h3]at q
          |v w b3 =>
           simp only[h3]at q
           by_cases hw:w.flat=true
           ·rw[if_pos hw]at q;intro F4 H4 z4 B4 e4 g4;have S4:=S3.ext e4;cases hg':g' u w with
            |none=>simp only[hg']at q
            |some k =>
             cases k with
             |bl k =>
              simp only[hg']at q;refine⟨F4,u,w,_,S4.fh,zk6 g2 hf.2,zk6 g4 hw,hg',fun F5 H5 z5 C5 e5 r5=>?_⟩
              rw[r5.bl_inv];exact q F5 H5 _ R0 (e12.trans0 (((e3.trans e4).trans e5).mono fun _ z=>z.elim)) (.bl k)
             |_=>simp only[hg']at q
           ·rw[if_neg hw]at q;exact q.elim
       |_=>simp only[hg]at q
     ·rw[if_neg hf]at q;exact q.elim
theorem r_chn{op op':CmpOp}{g g':T->T->Option T}(ho:OpR X (compareOp op) (rT2 X.K g))(ho':OpR X (compareOp op') (rT2 X.K g'))(ha:PE X a (tM X.K E ca ma))(hb:PE X b (tM X.K E ca mb))(hc:PE X c (tM X.K E ca mc))(hm:lastMarks [op,op'] [b,c]=false) :
  PE X (.Compare a [op,op'] [b,c] pos) (tM X.K E ca (mChn g g' ma mb mc)):=PE.weak (pe_chain ho ho' ha hb hc hm) fun σ H Q h=>tM_chn h
theorem r_tchn{op op':CmpOp}{g g':T->T->Option T}(ho:OpR X (compareOp op) (rT2 X.K g))(ho':OpR X (compareOp op') (rT2 X.K g'))(ha:PE X a (tM X.K E ca ma))(hb:PE X b (tM X.K E ca mb))(hc:PE X c (tM X.K E ca mc))(hm:lastMarks [op,op'] [b,c]=false) :
  PT X (.Compare a [op,op'] [b,c] pos) (tMB X.K E ca (mChn g g' ma mb mc)):=PT.weak (pt_chain ho ho' ha hb hc hm) fun σ H Q h=>tM_chn (tMB_val h)
end
end Pu
set_option Elab.async false
set_option linter.all false
set_option maxRecDepth 100000
namespace Pu
open PySem PySem.Spec PyProof.Rows L2 Zw Zx
def ItS(x:Str):It:=⟨fun i _=>i<x.cps.size,fun i H y H'=>H'=H/\∃c,x.cps[i]?=some c/\y=.str ⟨#[c]⟩,fun i _=>x.cps.size<=i⟩
theorem turn_str{P:Program}{w:World}{K:PySem.W.Frag}{tg:Expr}(x:Str)(t:Tok)(it:Addr):Turn P w K tg (ItS x) [it] it (fun i h=>h.IsStrIter it (strIterType x) x t i) where
 mem:=by simp
 obj:=fun i h st b hb=>by
  have e:b=it:=by simpa using hb
  subst e;obtain⟨o,e,c,d⟩:=st;exact⟨o,e,fun v z=>by rw[d]at z;cases z⟩
 keep:=fun i h h' st k=>by
  obtain⟨o,e,c,d⟩:=st;exact⟨o,k it (by simp) o e,c,d⟩
 item:=by
  intro X hP hw hK hc i pins s σ H E I hf st hg;subst hP hw hK;have hi:i<x.cps.size:=hg;obtain⟨f0,f1,f2,f3,f4,f5⟩:=hf it (by simp)
  have fin:∀(h':Heap),h'.IsStrIter it (strIterType x) x t (i+1)->Heap.SameBut it s.heap h'->∃u,some (Value.str ⟨#[x.cps[i]]⟩ s.toks)=some u /\
   wpAny (model X.prog X.w) X.A (letOwnedTupleGo tg (.ref it) u) (fun _ s2=>∃y H',Inv X pins σ H' s2/\RelV y u/\(ItS x).yld i H y H'/\s2.heap.IsStrIter it (strIterType x) x t (i+1)/\∀b∈[it],H' b=none) E { s with heap:=h',toks:=s.toks+1 }:=fun h' st' sb=>by
   have I1:Inv X pins σ H { s with heap:=h',toks:=s.toks+1 }:=I.turned (t':=s.toks+1) (fun b o hb e=>(sb.2 b hb).trans e) f0 f1 f3 f4 f5
   obtain⟨o,e,c,d⟩:=id st';refine⟨_,rfl,go_of (s:={ s with heap:=h',toks:=s.toks+1 }) e c d ?_ ⟨.str ⟨#[x.cps[i]]⟩,H,I1,⟨_,rfl⟩,⟨rfl,_,ybk hi,rfl⟩,st',fun b hb=>(hf b hb).1⟩⟩
   unfold strIterType;split<;>decide
  cases ha:(x.cps.all fun x=>decide (x<128)) with
  |true =>
   have e:strIterType x="str_ascii_iterator":=by unfold strIterType;rw[ha];rfl
   rw[e]at st fin ⊢;exact wpAny_pyNext_ascii_item st (ybk hi) fin
  |false =>
   have e:strIterType x="str_iterator":=by unfold strIterType;rw[ha];rfl
   rw[e]at st fin ⊢;exact wpAny_pyNext_wide_item st (ybk hi) fin
 done:=by
  intro X hP hw hK hc i pins s σ H E I hf st hg;subst hP hw hK;have hi:x.cps.size<=i:=hg;obtain⟨f0,f1,f2,f3,f4,f5⟩:=hf it (by simp)
  have n:x.cps[i]?=none:=Array.getElem?_eq_none hi;cases ha:(x.cps.all fun x=>decide (x<128)) with
  |true =>
   have e:strIterType x="str_ascii_iterator":=by unfold strIterType;rw[ha];rfl
   rw[e]at st;exact wpAny_pyNext_ascii_end (I.ok.hd hc) st n fun h' eb=>⟨rfl,I.turned (t':=s.toks) (fun b o hb e=>eb b o hb e) f0 f1 f3 f4 f5⟩
  |false =>
   have e:strIterType x="str_iterator":=by unfold strIterType;rw[ha];rfl
   rw[e]at st;exact wpAny_pyNext_wide_end (I.ok.hd hc) st n fun h' eb=>⟨rfl,I.turned (t':=s.toks) (fun b o hb e=>eb b o hb e) f0 f1 f3 f4 f5⟩
 self:=fun _ i s Q E st h=>by
  cases ha:(x.cps.all fun x=>decide (x<128)) with
  |true =>
   have e:strIterType x="str_ascii_iterator":=by unfold strIterType;rw[ha];rfl
   rw[e]at st;exact wpAny_pyIter_striter_ascii st h
  |false =>
   have e:strIterType x="str_iterator":=by unfold strIterType;rw[ha];rfl
   rw[e]at st;exact wpAny_pyIter_striter_wide st h
def iStrT(tl:TE):TI:=fun σ H P=>tl σ H fun x H1=>∃y,x=.str y/\P (ItS y) H1
section
variable {X:Cx}{tg l e:Expr}{tl:TE}{E:L2.St->XK}{ca:Str->Value}{m:PSt->Option Rs}
theorem pi_str(hl:PE X l tl):PI X tg l (iStrT tl):=by
 intro pins s σ H R I h;refine thn (hl pins s σ H _ I h) fun v s1 ⟨x,H1,I1,r1,q1⟩=>?_
 obtain⟨y,rfl,q⟩:=q1;obtain⟨t,rfl⟩:=(show ∃t,v=Value.str y t from r1);refine wpAny_pyIter_strU ?_;refine⟨s1.heap.objs.size,[s1.heap.objs.size],_,_,H1,rfl,I1.kept (t':=s1.toks) fun b o e=>ya9 _ e,turn_str y t _,⟨_,yai _ rfl,rfl,rfl⟩,fun b hb=>?_,q⟩
 have e:b=s1.heap.objs.size:=by simpa using hb
 subst e;exact I1.fpOk (yab _) (I1.hok.fresh (yab _))
def sgnT(x:Str):List T:=x.cps.toList.map fun c=>.str ⟨#[c]⟩
theorem its_str{K:PySem.W.Frag}{F:Hp}{x:Str}:Its K (ItS x) F (sgnT x):=by
 intro i F' H' s1 s2;refine⟨fun t ht=>?_,fun e=>?_⟩
 ·unfold sgnT at ht;rw[yae]at ht;obtain⟨c,e1,rfl⟩:=ya0.mp ht;have hi:i<x.cps.size:=by simpa using (ya7.mp e1).1
  refine⟨hi,fun y H'' z=>?_⟩
  obtain⟨rfl,c',hc,rfl⟩:=z;rw[yby,hc]at e1;cases e1;exact⟨F',Ext.refl s2,.str _⟩
 ·show x.cps.size<=i;rw[e];simp[sgnT]
def iTxt(m:PSt->Option Rs):PSt->Option RsL:=fun τ=>match m τ with
 |some (.v (.str x) _)=>some (.v (sgnT x) false)
 |_=>iVal m τ
theorem r_iTxt(ha:PE X e (tM X.K E ca m)):PI X tg e (tI X.K E ca (iTxt m)):=by
 refine PI.weak (PI.or (r_iVal ha) (pi_str ha)) fun σ H P h=>?_
 obtain⟨F,τ,R,S,q⟩:=h
 by_cases hs:∃x b,m τ=some (.v (.str x) b)
 ·obtain⟨x,b,hm⟩:=hs;have e:iTxt m τ=some (.v (sgnT x) false):=by unfold iTxt;rw[hm]
  rw[e]at q;refine .inr ⟨F,τ,R,S,?_⟩;rw[hm];intro F1 H1 y B e1 g1;exact⟨x,zds g1,q F1 H1 _ (e1.mono fun _ z=>z.elim) its_str⟩
 ·have e:iTxt m τ=iVal m τ:=by
   unfold iTxt;split
   ·rename_i x b hm;exact absurd ⟨x,b,hm⟩ hs
   ·rfl
  rw[e]at q;exact .inl ⟨F,τ,R,S,q⟩
end
end Pu
set_option Elab.async false
set_option linter.all false
set_option maxRecDepth 100000
namespace Pu
open PySem PySem.Spec PyProof.Rows L2 Zw Zx
open Classical in
noncomputable def met(val:Nat->Key):Nat->List Key
 |0=>[]
 |i+1=>if val i∈met val i then met val i else met val i++[val i]
open Classical in
theorem met_len(val:Nat->Key):∀i,(met val i).length<=i
 |0=>yab 0
 |i+1=>by
  have:=met_len val i;unfold met;split
  ·omega
  ·rw[yag,yd5]
   omega
section
variable {prog:Program}{w:World}{A:Around}{E:Value->Shared->Prop}
open Classical in
theorem loop_set{knd:PySem.KeyKind prog w Key}{R:Result->Shared->Prop}{I:Addr}{fp wr:List Addr}{G:Array GenState->Array GenState->Prop}{n:Nat}{P:Nat->Value->Prop}{St:Nat->Shared->Prop}(W:WalksS prog w A.in1 I fp wr G n P St)(S:Addr)(hS:S∉fp)(val:Nat->Key)
  (hP:∀i v,P i v->knd.is (val i) v=true/\v.scannable=true) (hn:n+1<scanBound):∀(k i:Nat) (s:Shared),n - i=k->i<=n->St i s->Heap.SetOf knd s.heap S (fun k'=>decide (k'∈met val i)) (met val i).length ->
   (∀s':Shared,Moved (S::wr) G s s'->Heap.SetOf knd s'.heap S (fun k'=>decide (k'∈met val n)) (met val n).length->R (Except.ok (Flow.ret Value.none)) s') ->
   codeAny (model prog w) A (Code.builtin "set.update.loop" { pos:=[Value.ref S,Value.ref I] }) R s
 |0,i,s,hk,hi,st,hset,h=>by
  have e:i=n:=by omega
  subst e;refine codeAny_builtin F.entry_set_update_loop ?_;rw[ycg yct];unfold Builtin.«set.update.loop»;refine wpAny_bind (W.done s _ _ st fun s' mv=>?_)
  refine wpAny_pure ?_;refine h s' (mv.mono fun b hb=>ya5 _ hb) ?_
  obtain⟨o,es,ep,t,h1,h2⟩:=hset;exact⟨o,es,ep,t,mv.heap S o (fun z=>hS (W.sub S z)) h1,h2⟩
 |k+1,i,s,hk,hi,st,hset,h=>by
  have hi':i<n:=by omega
  refine codeAny_builtin F.entry_set_update_loop ?_;rw[ycg yct];unfold Builtin.«set.update.loop»;refine wpAny_bind (W.item i s _ _ hi' st fun v s' pv st' mv=>?_)
  obtain⟨hk1,hk2⟩:=hP i v pv
  have hset':Heap.SetOf knd s'.heap S (fun k'=>decide (k'∈met val i)) (met val i).length:=by
   obtain⟨o,es,ep,t,h1,h2⟩:=hset;exact⟨o,es,ep,t,mv.heap S o (fun z=>hS (W.sub S z)) h1,h2⟩
  refine wpAny_bind (wpAny_holding ?_);unfold setAdd;refine wpAny_holding (wpAny_bind (knd.pyHash hk1 ?_));have hl:=met_len val i;refine wpAny_setAddHashed_of (s:={ s' with toks:=s'.toks+1 }) hk1 hk2 hset' (by omega) fun h' sb hset2=>?_
  refine wpAny_pure ⟨plainId_quiet yct _,?_⟩;have st2:=W.frame (i+1) s' h' (s'.toks+1) st' (ybu _) fun b hb o e=>(sb.2 b (fun z=>hS (z▸hb))).trans e
  have mv2:Moved (S::wr) G s { s' with heap:=h',toks:=s'.toks+1 }:=(mv.mono fun b hb=>ya5 _ hb).then_heap (ybu _) fun b o hb e=>(sb.2 b (fun z=>hb (by rw[z];exact ya6 ..))).trans e
  refine loop_set W S hS val hP hn k (i+1) _ (by omega) (by omega) st2 ?_ fun s'' mv3 hs3=>h s'' (mv2.trans W.gtrans mv3) hs3
  have hS:(fun k'=>(decide (k'∈met val i) || decide (k'=val i)))=fun k'=>decide (k'∈met val (i+1)):=funext fun k'=>by
   conv=>rhs;unfold met
   by_cases hm:val i∈met val i
   ·rw[if_pos hm]
    by_cases e:k'=val i
    ·rw[e,decide_eq_true hm];rfl
    ·rw[decide_eq_false e,yd0]
   ·rw[if_neg hm,ybo];simp only[ybf,decide_eq_true_eq,yas,ya8]
  have hN:(if decide (val i∈met val i)=true then (met val i).length else (met val i).length+1)=(met val (i+1)).length:=by
   conv=>rhs;unfold met
   by_cases hm:val i∈met val i
   ·rw[if_pos hm,if_pos (decide_eq_true hm)]
   ·rw[if_neg hm,if_neg (fun z=>hm (of_decide_eq_true z)),yag,yd5]
  obtain⟨o,es,ep,t,h1,h2,h3,h4,h5,h6,h7,h8⟩:=hset2;refine⟨o,es,ep,t,h1,h2,h3,h4,fun k'=>?_,h6,h7,h8.trans hN⟩
  rw[<- h5 k'];have e:=congrFun hS k';show decide (k'∈met val (i+1))=true ↔ _;rw[<- e]
end
open Classical in
theorem call_set_keys{prog:Program}{w:World}{A:Around}{E:Value->Shared->Prop}{s:Shared}{l:Addr}{items:Array Value}{knd:PySem.KeyKind prog w Key}{val:Nat->Key}{Q:Value->Shared->Prop}(hh:A.handled=none)(hl:s.heap.IsList l items)
  (hP:∀(i:Nat) (v:Value),items[i]?=some v->knd.is (val i) v=true/\v.scannable=true) (hb:items.size+1<scanBound)
  (h:∀(h':Heap) (tk:Nat),Heap.SetOf knd h' s.heap.objs.size (fun k'=>decide (k'∈met val items.size)) (met val items.size).length->(∀(b:Nat) (o:Obj),b<s.heap.objs.size->s.heap.get? b=some o->h'.get? b=some o)->Q (.ref s.heap.objs.size) { s with heap:=h',toks:=tk }) :
  wpAny (model prog w) A (call (Value.type "set") [Value.ref l]) Q E s:=by
 obtain⟨c,tl,hmro⟩:=yco.mro;have hmade:=yco.made;have hsub:=yco.sub;refine wpAny_call (codeAny_of_tree ?_);refine wpAny_pure ⟨Code.quiet_builtin _ (by decide +kernel),codeAny_builtin F.entry_type_call ?_⟩
 have hu:=Around.under_plain (A:=A) (weight_type_call_type "set" [Value.ref l] []) rfl;have h1:=yco.notType;have h2:=yco.canCreate;have hct:=F.typeCall_set_1 (Value.ref l);show wpAny (model prog w) (A.under (Code.builtin "type.__call__" { pos:=[Value.type "set",Value.ref l] })) _ _ _ s;rw[hu];unfold Builtin.«type.__call__»;refine wpAny_ite_false (by rw[h1];rfl) (wpAny_ite_false (by rw[h2];rfl) ?_)
 refine wpAny_bind (wpAny_of_eq hct (wpAny_bind (wpAny_of_eq hmro (wpAny_ite_false rfl (wpAny_bind (wpAny_of_eq hmade (wpAny_bind (wpAny_pure (wpAny_bind (wpAny_holding (wpAny_call (codeAny_mono (code_set_new_1 (E:=fun _ _=>False) (Value.ref l) (Q₁:=fun v s'=>∃led:Bool,v=.ref s.heap.objs.size/\s'={ s with heap:=s.heap.push { cls:=.type "set",data:=.set #[] 0 (SetTable.fresh 0 0 led) } }) fun led=>⟨led,rfl,rfl⟩) fun r s₁ hr=>?_))))))))))))
 cases r with
 |error e=>exact False.elim hr
 |ok fl =>
  cases fl with
  |next=>exact False.elim hr
  |brk=>exact False.elim hr
  |cont=>exact False.elim hr
  |ret v =>
   obtain⟨led,rfl,rfl⟩:=(show ∃led:Bool,v=.ref s.heap.objs.size/\s₁={ s with heap:=s.heap.push { cls:=.type "set",data:=.set #[] 0 (SetTable.fresh 0 0 led) } } from hr)
   have ho:(s.heap.push { cls:=.type "set",data:=.set #[] 0 (SetTable.fresh 0 0 led) }).get? s.heap.objs.size=some { cls:=.type "set",data:=.set #[] 0 (SetTable.fresh 0 0 led) }:=yai _ rfl;have hT:Shared.TypeIs { s with heap:=s.heap.push { cls:=.type "set",data:=.set #[] 0 (SetTable.fresh 0 0 led) } } (.ref s.heap.objs.size) "set":=⟨_,ho,rfl⟩
   have hin:=yco.init;refine wpAny_bind (wpAny_isInstance hT hsub (wpAny_ite_false rfl (wpAny_bind (wpAny_holding ?_))));unfold callSpecial?;refine wpAny_bind (wpAny_specialOf hT hin.lookup (wpAny_holding (wpAny_bind (wpAny_of_eq (hin.bind _) (wpAny_bind (wpAny_call (codeAny_mono (R:=wants (fun v s'=>v=.none/\∃tk h',s'={ s with heap:=h',toks:=tk }/\Heap.SetOf knd h' s.heap.objs.size (fun k'=>decide (k'∈met val items.size)) (met val items.size).length/\∀(b:Nat) (o:Obj),b<s.heap.objs.size->s.heap.get? b=some o->h'.get? b=some o) fun _ _=>False) (codeAny_call_builtin hin.plain F.entry_set_init (check_set_init_1 hT ?_)) fun r s₂ hr₂=>?_)))))))
   ·unfold Builtin.«set.__init__» noKeywords;refine wpAny_bind (wpAny_ite_true rfl (wpAny_pure ?_));unfold typeNameOfCut shownTypeOf;refine wpAny_bind (wpAny_bind (wpAny_bind (wpAny_typeOf hT (wpAny_ite_false (by decide +kernel) (wpAny_pure ?_)))))
    refine wpAny_of_eq (rfl:typeNameCut 200 (Value.type "set")=pure _) ?_;refine wpAny_bind (wpAny_of_eq (rfl:checkCount _ 0 1 1=pure ()) ?_);refine wpAny_bind (wpAny_pure ?_);unfold setUsed setState;refine wpAny_bind (wpAny_bind (wpAny_bind (wpAny_load ho (wpAny_ite_false rfl (wpAny_pure (wpAny_pure (wpAny_ite_false rfl ?_)))))));obtain⟨ol,hol,hcl,nl,hdl⟩:=id hl;have hol2:(s.heap.push { cls:=.type "set",data:=.set #[] 0 (SetTable.fresh 0 0 led) }).get? l=some ol:=ya9 _ hol;have hTl:Shared.TypeIs { s with heap:=s.heap.push { cls:=.type "set",data:=.set #[] 0 (SetTable.fresh 0 0 led) } } (.ref l) "list":=⟨_,hol2,hcl⟩
    unfold Builtin.Frozenset.updateFrom Builtin.Frozenset.isAnySet;refine wpAny_bind (wpAny_bind (wpAny_bind (wpAny_isInstance hTl F.sub_list_set ?_)));have hl2:(s.heap.push { cls:=.type "set",data:=.set #[] 0 (SetTable.fresh 0 0 led) }).IsList l items:=⟨ol,hol2,hcl,nl,hdl⟩;refine wpAny_isInstance hTl F.sub_list_frozenset (wpAny_ite_false rfl (wpAny_bind (wpAny_typeOf hTl (wpAny_ite_false (by decide +kernel) (wpAny_bind (wpAny_pyIter_list hl2 ?_))))))
    have lt:l<s.heap.objs.size:=yac hol;have hsz:(s.heap.push { cls:=.type "set",data:=.set #[] 0 (SetTable.fresh 0 0 led) }).objs.size=s.heap.objs.size+1:=ybr _ _;generalize hhp:s.heap.push { cls:=.type "set",data:=.set #[] 0 (SetTable.fresh 0 0 led) }=hp at *
    have hS:s.heap.objs.size∉[hp.objs.size,l]:=by
     rw[hsz];intro z
     rcases ya3.mp z with e|e
     ·exact absurd e (yao (ybs _))
     ·exact absurd (ya8.mp e) (Nat.ne_of_gt lt)
    refine wpAny_bind (wpAny_runValue ?_);refine loop_set (knd:=knd) (A:=A.in1.in1) (Walks.list (A:=A.in1.in1.in1) hh hp.objs.size l (by rw[hsz];exact yao (yc0 lt)) items).toS s.heap.objs.size hS val (fun i v e=>hP i v e) hb items.size 0 _ (by omega) (ybb _) ⟨?_,?_⟩ ?_ fun s' mv hs'=>?_
    ·exact⟨_,yai _ rfl,rfl,rfl⟩
    ·exact⟨ol,ya9 _ hol2,hcl,nl,hdl⟩
    ·letI:BEq Key:=⟨fun a b=>decide (a=b)⟩
     haveI:LawfulBEq Key:={ eq_of_beq:=fun h=>of_decide_eq_true h,rfl:=decide_eq_true rfl }
     have e0:=(setObjOf_fresh (prog:=prog) (w:=w) (knd:=knd) led).setOf (h:=hp.push { cls:=.type "list_iterator",data:=.fields #[.ref l,.int 0 0] }) (a:=s.heap.objs.size) (ya9 _ ho) (by decide)
     obtain⟨o,es,ep,t,g1,g2,g3,g4,g5,g6,g7,g8⟩:=e0;refine⟨o,es,ep,t,g1,g2,g3,g4,fun k'=>?_,g6,g7,g8⟩
     rw[<- g5 k'];simp[met]
    ·refine wpAny_pure (wpAny_pure ?_)
     have b2:∀(b:Nat) (o:Obj),b<s.heap.objs.size->s.heap.get? b=some o->s'.heap.get? b=some o:=fun b o hb e=>by
      refine mv.heap b o (fun z=>?_) (ya9 _ (by rw[<- hhp];exact ya9 _ e))
      rcases ya3.mp z with e|e
      ·exact absurd e (yao hb)
      ·have e:=ya8.mp e;rw[hsz]at e;exact absurd e (yao (yc0 hb))
     have m1:=mv.gens;have m2:=mv.drawn;have m3:=mv.os;obtain⟨hh',g',d',t',os'⟩:=s';refine⟨rfl,t',hh',?_,hs',b2⟩;simp only at m1 m2 m3;rw[m1,m2,m3]
   ·cases r with
    |error e=>exact False.elim hr₂
    |ok fl =>
     cases fl with
     |next=>exact False.elim hr₂
     |brk=>exact False.elim hr₂
     |cont=>exact False.elim hr₂
     |ret v =>
      obtain⟨rfl,tk,h',rfl,hs,hk⟩:=(show v=.none/\∃tk h',s₂={ s with heap:=h',toks:=tk }/\Heap.SetOf knd h' s.heap.objs.size (fun k'=>decide (k'∈met val items.size)) (met val items.size).length/\∀(b:Nat) (o:Obj),b<s.heap.objs.size->s.heap.get? b=some o->h'.get? b=some o from hr₂)
      refine wpAny_pure (wpAny_ite_false rfl (wpAny_pure ?_));exact h h' tk hs hk
noncomputable def SetK(P:Program)(w:World)(a:Addr)(ks:List Key):HO:=.ext fun h=>Heap.SetOf (zbj P w) h a (fun k=>@decide (k∈ks) (Classical.propDecidable _)) ks.length
section
variable {X:Cx}
theorem call_setT(hc:X.calm=true):zc0 X (.type "set") (fun xs H Q=>∃(p:Addr) (ys:List Str),xs=[.ref p]/\SqL X.K H p (ys.map V.str)/\ys.length<1000/\∀a,H a=none->Q (.ref a) (upd H a (SetK X.prog X.w a (met (fun i=>Sum.inr (ys.getD i Str.empty)) ys.length)))):=by
 intro pins s σ H xs us Q I r h;obtain⟨p,ys,rfl,hq,hz,q⟩:=h;obtain⟨u,rfl,rx⟩:=zgq r;cases rx;obtain⟨its,r',pl,_⟩:=I.list hq;have hlen:=r'.length;rw[ya4]at hlen;have hsz:its.toArray.size=ys.length:=by rw[yaf];exact hlen.symm
 refine call_set_keys (knd:=zbj X.prog X.w) (val:=fun i=>Sum.inr (ys.getD i Str.empty)) (I.ok.hd hc) pl.isList (fun i v e=>?_) (by rw[hsz];exact yah (Nat.succ_lt_succ hz) (by decide)) fun h' tk hs kp=>?_
 ·have e':its[i]?=some v:=by simpa using e
  have hi:i<ys.length:=by rw[hlen];exact(ya7.mp e').1
  have hx:(ys.map V.str)[i]?=some (.str ys[i]):=by rw[yae,ya2 hi];rfl
  obtain⟨u,e2,ru⟩:=r'.get hx;rw[e']at e2;cases e2;obtain⟨t,rfl⟩:=(show ∃t,v=Value.str ys[i] t from ru);refine⟨?_,rfl⟩;show keyIs (Sum.inr (ys.getD i Str.empty)) (Value.str ys[i] t)=true;rw[ybi,ya2 hi];show(ys[i] == ys[i])=true;exact beq_self_eq_true _
 ·rw[hsz]at hs;refine⟨.ref s.heap.objs.size,_,I.laid (a:=s.heap.objs.size) (o:=SetK X.prog X.w s.heap.objs.size (met (fun i=>Sum.inr (ys.getD i Str.empty)) ys.length)) (t':=tk) (fun b o e=>kp b o (yac e) e) (yab _) ⟨?_,?_,?_⟩,rfl,q _ (I.hok.fresh (yab _))⟩
  ·exact hs
  ·obtain⟨o,es,ep,t,g1,_⟩:=hs;exact⟨o,g1⟩
  ·intro h1 h2 p1 k;obtain⟨o,es,ep,t,g1,g2⟩:=p1;exact⟨o,es,ep,t,k o g1,g2⟩
theorem call_lenK:zc0 X (.builtin "len") (fun xs H Q=>∃a ks,xs=[.ref a]/\H a=some (SetK X.prog X.w a ks)/\Q (.int ks.length) H):=by
 intro pins s σ H xs us Q I r h;obtain⟨a,ks,rfl,ha,q⟩:=h;obtain⟨u,rfl,rx⟩:=zgq r;cases rx;obtain⟨⟨o,es,ep,t,g1,g2,g3,g4,g5,g6,g7,g8⟩,_⟩:=(show _/\_ from I.hok a _ ha)
 have hb:((es.size:Nat):Int)<2 ^ 63:=by
  have:scanBound<=2 ^ 40:=by decide
  have g6':es.size<scanBound:=g6
  omega
 refine call_len_set g1 g2 g3 g7 hb ⟨.int (es.size:Int),H,I.tok _,⟨_,rfl⟩,?_⟩;rw[show es.size=ks.length from g8];exact q
end
def zcw:List T->Option (List Str)
 |[]=>some []
 |.str x::r=>(match zcw r with
  |some l=>some (x::l)
  |none=>none)
 |_::_=>none
theorem zjz{K:PySem.W.Frag}{F:Hp}:∀{l:List T} {ys:List Str} {xs:List V},zcw l=some ys->Rps K F l xs->xs=ys.map V.str
 |[],ys,xs,h,r=>by
  cases h;exact r.inv0
 |t::l,ys,xs,h,r=>by
  obtain⟨x,xs',rfl,r1,r2⟩:=r.inv;unfold zcw at h;split at h
  ·rename_i e;cases e
  ·rename_i y r e;cases e;split at h
   ·rename_i l' hl;cases h;rw[r1.str_inv,zjz hl r2]
    rfl
   ·cases h
  ·cases h
noncomputable def unqN(ys:List Str):Nat:=(met (fun i=>Sum.inr (ys.getD i Str.empty)) ys.length).length
noncomputable def unqT:T->Option T
 |.nd _ .lst l=>(match zcw l with
  |some ys=>if ys.length<1000 then some (.int (unqN ys)) else none
  |none=>none)
 |_=>none
section
variable {X:Cx}{E:L2.St->XK}{ca:Str->Value}{m:PSt->Option Rs}{e:Expr}{pos p p2 p3:Pos}
theorem r_unq(hc:X.calm=true)(hg:Gl X "len")(hm:X.mg "len"=none)(hg2:Gl X "set")(hm2:X.mg "set"=none)(ha:PE X e (tM X.K E ca m))(he:starEach [e] X.env=[(false,eval e X.env)]) :
  PE X (.Call (.Name "len" p) [.Call (.Name "set" p2) [e] [] p3] [] pos) (tM X.K E ca (mAp (g1 unqT) (za0 m za4))):=by
 have hset:=pe_callTy (pos:=p3) (p:=p2) (call_setT hc) hg2 hm2 (show bootBuiltins "set"=some (.type "set") from rfl) (zd9 ha zfq he) (by decide) (by decide) he rfl
 refine PE.weak (zi0 (call_lenK (X:=X)) hg hm PySem.boot_len (zd9 hset zfq rfl) (by decide) (by decide) rfl rfl) fun σ H Q h=>?_
 refine(ze8 (tM_ap h)).mono fun x H1 h1=>?_
 obtain⟨F,ts,v,fh,rs,e,q⟩:=zfz h1;unfold g1 at e;split at e
 ·obtain⟨x1,xs1,e1,r1,rs1⟩:=rs.inv;cases e1;unfold unqT at e;split at e
  ·split at e
   ·rename_i o l ys hy;split at e
    ·rename_i hz;cases e;obtain⟨pp,zs,rfl,_,n,kd⟩:=zda r1;have hF:F pp=some (.lst zs):=n;refine⟨pp,ys,rfl,SqL.of (by rw[<- zjz hy kd];exact fh _ _ hF),hz,fun a ha=>⟨a,_,rfl,zb2,?_⟩⟩
     exact q F _ _ R0 ((Ext.newO fh ha).mono fun _ z=>z.elim) (Rp.int _)
    ·cases e
   ·cases e
  ·cases e
 ·cases e
end
end Pu
set_option Elab.async false
set_option linter.all false
set_option maxRecDepth 100000
namespace Pu
open PySem PySem.Spec PyProof.Rows L2 Zw Zx
noncomputable def leT:T->T->Option T
 |.int i,.int j=>some (.bl (decide (i<=j)))
 |.str x,.str y=>some (.bl (!(@decide (y.cps.toList<x.cps.toList) (Classical.propDecidable _))))
 |_,_=>none
section
variable {X:Cx}{E:L2.St->XK}{ca:Str->Value}{m mk:PSt->Option Rs}{o k:Expr}{pos apos cpos:Pos}
theorem opT_leT:OpR X (compareOp .LtE) (rT2 X.K leT):=by
 intro pins s σ H x y v u Q I rx ry h;obtain⟨F,t1,t2,r,fh,r1,r2,e,q⟩:=h;unfold leT at e;split at e
 ·cases e;rw[r1.int_inv]at rx;rw[r2.int_inv]at ry;exact op_le pins s σ H _ _ v u Q I rx ry ⟨_,_,rfl,rfl,q.bl fh⟩
 ·rename_i a b;cases e;rw[r1.str_inv]at rx;rw[r2.str_inv]at ry;obtain⟨t,rfl⟩:=(show ∃t,v=Value.str a t from rx);obtain⟨t',rfl⟩:=(show ∃t,u=Value.str b t from ry);refine PySem.P.le_str ⟨.bl _,H,I,rfl,?_⟩;have q1:=q.bl fh;rw[show(!decide (b.cps.toList<a.cps.toList))=!(@decide (b.cps.toList<a.cps.toList) (Classical.propDecidable _)) from congrArg _ (by rw[ybo,decide_eq_true_eq,@decide_eq_true_eq _ (Classical.propDecidable _)])]
  exact q1
 ·cases e
end
noncomputable def idxS(ys:List Str)(y:Str):Option Nat:=ys.findIdx? fun x=>@decide (x=y) (Classical.propDecidable _)
section
variable {X:Cx}{E:L2.St->XK}{ca:Str->Value}{m mk:PSt->Option Rs}{o k:Expr}{pos apos cpos:Pos}
end
def tupT:T->Option T
 |.nd _ .lst l=>some (.tup l)
 |_=>none
theorem callT_tup{X:Cx}:zc0 X (.type "tuple") (rTn X.K (g1 tupT)):=by
 intro pins s σ H xs us Q I r h;obtain⟨F,ts,v,fh,rs,e,q⟩:=h;unfold g1 at e;split at e
 ·obtain⟨x1,xs1,rfl,r1,rs1⟩:=rs.inv;cases rs1.inv0;unfold tupT at e;split at e
  ·cases e;obtain⟨p,ys,rfl,rfl,n1,k1⟩:=zda r1;have hF:F p=some (.lst ys):=n1;exact call_tuple_of pins s σ H _ us Q I r ⟨p,ys,rfl,.inl ⟨SqL.of (fh _ _ hF),fun l hl=>q.tuple fh k1 hl⟩⟩
  ·cases e
 ·cases e
end Pu
set_option Elab.async false
set_option linter.all false
set_option maxRecDepth 100000
namespace Pu
open PySem PySem.Spec PyProof.Rows L2 Zw Zx
section
variable {X:Cx}{E:L2.St->XK}{ca:Str->Value}{mu:Bool}{i:Nat}{x n:Str}{np pos hpos:Pos}{body suite:List Stmt}{b₀:Stmt}{u h:PSt->Option Out}{cs:List (Str×Addr)}
theorem StR.put{K:PySem.W.Frag}{F H:Hp}{σ:L2.St}{τ:PSt}{R:Nat->Rg}{i:Nat}{t:T}{v:V}(S:StR K F H σ τ R)(hi:i<τ.length)(r:Rp K F H t v R0):StR K F H (σ.set i (some v)) (τ.set i (some t)) (fun j=>if j=i then R0 else R j):=by
 refine⟨S.fh,by simpa using S.len,fun j t' e=>?_,fun j a z=>?_,fun j k a hjk z1 z2=>?_⟩
 ·by_cases hj:j=i
  ·subst hj;rw[yam hi]at e;cases e;exact⟨v,yam (by rw[S.len];exact hi),by simpa using r⟩
  ·rw[yak (yat hj)]at e;obtain⟨y,e1,r1⟩:=S.rep j t' e;exact⟨y,by rw[yak (yat hj)];exact e1,by simpa[hj] using r1⟩
 ·by_cases hj:j=i
  ·simp only[hj,if_true]at z;exact z.elim
  ·simp only[hj,if_false]at z;obtain⟨t',e⟩:=S.out j a z;exact⟨t',by rw[yak (yat hj)];exact e⟩
 ·by_cases hj:j=i
  ·simp only[hj,if_true]at z1;exact z1.elim
  ·by_cases hk:k=i
   ·simp only[hk,if_true]at z2;exact z2.elim
   ·simp only[hj,if_false]at z1;simp only[hk,if_false]at z2;exact S.dis j k a hjk z1 z2
theorem tot_less{R:Nat->Rg}{i:Nat}{a:Addr}(h:tot (fun j=>if j=i then R0 else R j) a):tot R a:=by
 obtain⟨j,z⟩:=h
 by_cases hj:j=i
 ·simp only[hj,if_true]at z;exact z.elim
 ·simp only[hj,if_false]at z;exact⟨j,z⟩
end
def isXT(tb:List (Addr×Bool)):T->Option T
 |.obj (.exn C) _=>(match tb.lookup C with
  |some b=>some (.bl b)
  |none=>none)
 |_=>none
section
variable {X:Cx}{E:L2.St->XK}{ca:Str->Value}{m:PSt->Option Rs}{e:Expr}{pos p p2:Pos}{c:Str}{v:V}{tb:List (Addr×Bool)}
end
end Pu
set_option Elab.async false
set_option linter.all false
set_option maxRecDepth 100000
namespace Pu
open PySem PySem.Spec PyProof.Rows L2 Zw Zx
def Kd.isLst:Kd->Bool
 |.lst=>true
 |_=>false
def sFoC(i j:Nat)(c:PSt->Option Rs)(k:T):PSt->Option Out:=fun τ=>match zjh τ i with
 |some (kd,l)=>if (kd.isLst && shL l)=true/\i≠j then ze3 (bNm j) (sIf c (zd7 (mC k)) sNx) l τ else none
 |none=>none
section
variable {X:Cx}{E:L2.St->XK}{ca:Str->Value}{mu:Bool}{i j:Nat}{tg it c:Expr}{ret:List Stmt}{mc:PSt->Option Rs}{k:T}{ip pos:Pos}
theorem s_foc(hp:PassesOwn (model X.prog X.w) X.A X.env X.xe)(hc:X.calm=true)(hy:PE X it (tVar i))(hg:PG X tg (gName j))(ht:PT X c (tMB X.K E ca mc))(hr:PSs X ret (tS X.K E ca mu (zd7 (mC k))))(hs:∀x,foldedSetIterable it X.env x=pure x) :
  PS X (.For tg it [.If c ret [] ip] [] pos) (tS X.K E ca mu (sFoC i j mc k)):=by
 refine PS.weak (ps_for hp hc (pi_list hy) hg (pss_one (ps_if ht hr pss_nil)) hs) fun D σ H h=>?_
 obtain⟨F,τ,R,S,q⟩:=h;unfold sFoC at q;cases ho:zjh τ i with
 |none=>rw[ho]at q;exact q.elim
 |some kl =>
  obtain⟨kd,l⟩:=kl;rw[ho]at q;simp only at q
  by_cases hl:(kd.isLst && shL l)=true/\i≠j
  case neg=>rw[if_neg hl]at q;exact q.elim
  rw[if_pos hl]at q;obtain⟨hkl,hij⟩:=hl;rw[ya1]at hkl;obtain⟨hkd,hsl⟩:=hkl;have hk:kd=.lst:=by cases kd<;>first|rfl|cases hkd
  subst hk;have hi:=zgt ho;obtain⟨v,ev,r⟩:=S.rep i _ hi;obtain⟨p,xs,Rr,rfl,hA,fp,hH,ro,dp,_⟩:=r.own_inv;refine⟨.ref p,ev,p,rfl,⟨xs,SqL.of hH⟩,?_⟩;cases hgo0:ze3 (bNm j) (sIf mc (zd7 (mC k)) sNx) l τ with
  |none=>rw[hgo0]at q;exact q.elim
  |some out =>
   rw[hgo0]at q;refine⟨fun n m σ' H'=>m=l.length - n/\n<=l.length/\∃F' τ' R',Stp F H (tot R) F' H' (tot R')/\StR X.K F' H' σ' τ' R'/\ze3 (bNm j) (sIf mc (zd7 (mC k)) sNx) (l.drop n) τ'=some out/\σ'[i]?=some (some (.ref p))/\τ'[i]?=some (some (.nd true .lst l)),⟨l.length,by simp,ybb _,F,τ,R,Stp.refl S.fh,S,by simpa using hgo0,ev,hi⟩,?_⟩
   rintro n m σ' H' ⟨rfl,hle,F',τ',R',st,S',hgo,e1,e2⟩;obtain⟨v',ev',r'⟩:=S'.rep i _ e2;rw[e1]at ev';cases ev';obtain⟨p',xs',Rr',hpp,hA',fp',hH',ro',dp',_⟩:=r'.own_inv;cases hpp
   by_cases hlt:n<l.length
   ·have hx:n<xs'.length:=by rw[<- ro'.len];exact hlt
    refine .inr ⟨⟨xs',xs'[n],SqL.of hH',ya2 hx⟩,fun σ2 H2=>n+1<=l.length/\∃F2 τ2 R2,Stp F H (tot R) F2 H2 (tot R2)/\StR X.K F2 H2 σ2 τ2 R2/\ze3 (bNm j) (sIf mc (zd7 (mC k)) sNx) (l.drop (n+1)) τ2=some out/\σ2[i]?=some (some (.ref p))/\τ2[i]?=some (some (.nd true .lst l)),fun σ2 H2 n2=>⟨l.length - (n+1),by omega,rfl,n2⟩,fun x H'' yl=>?_⟩
    obtain⟨rfl,yx⟩:=yl;have hxx:=yx xs' (SqL.of hH');have sn:(l[n]).sh=true:=yaz.mp ((zi8 l).symm.trans hsl) _ (yd2 hlt);have rx:Rp X.K F' H'' l[n] x R0:=(ro'.rep n _ _ (ya2 hlt) hxx).move sn (.refl _);rw[yc2 hlt]at hgo;unfold ze3 at hgo
    by_cases hj:j<τ'.length
    ·have hb:bNm j l[n] τ'=some (τ'.set j (some l[n])):=by unfold bNm;rw[if_pos hj]
     simp only[hb]at hgo;have S1:=S'.put hj rx;have st1:Stp F H (tot R) F' H'' (tot fun a=>if a=j then R0 else R' a):=st.mono fun a z=>tot_less z
     have ei:(τ'.set j (some l[n]))[i]?=some (some (.nd true .lst l)):=by rw[yak (yat hij)];exact e2
     have es:(σ'.set j (some x))[i]?=some (some (.ref p)):=by rw[yak (yat hij)];exact e1
     refine⟨F',τ'.set j (some l[n]),_,S1,?_⟩;cases hm:mc (τ'.set j (some l[n])) with
     |none=>simp only[sIf,hm]at hgo;cases hgo
     |some rs =>
      cases rs with
      |x cc =>
       simp only[sIf,hm]at hgo;cases hgo;exact fun F2 H2 e3=>q F2 H2 _ _ (st1.trans e3.stp0) (S1.ext e3)
      |v t bb =>
       cases t with
       |bl tr =>
        intro F2 H2 e3;cases tr with
        |true =>
         simp only[sIf,hm,zd7,mC]at hgo;cases hgo;exact⟨F2,_,_,S1.ext e3,fun F3 H3 x B s3 w=>q F3 H3 x B ((st1.trans e3.stp0).trans s3) w⟩
        |false =>
         simp only[sIf,hm,sNx]at hgo;exact⟨hlt,F2,_,_,st1.trans e3.stp0,S1.ext e3,hgo,es,ei⟩
       |_=>simp only[sIf,hm]at hgo;cases hgo
    ·have hb:bNm j l[n] τ'=none:=by unfold bNm;rw[if_neg hj]
     simp only[hb]at hgo;cases hgo
   ·have hn:n=l.length:=by omega
    subst hn;refine .inl ⟨⟨xs',SqL.of hH',by rw[ro'.len];exact yab _⟩,?_⟩
    rw[ye0]at hgo;unfold ze3 at hgo;cases hgo;exact q F' H' σ' R' st S'
end
def focOf:List Stmt->Option (Expr×Bool)
 |[.If c [.Return (some e) _] [] _]=>(match e with
  |.Constant (.bool b) _ _=>some (c,b)
  |_=>none)
 |_=>none
theorem focOf_is{body:List Stmt}{c:Expr}{b:Bool}(h:focOf body=some (c,b)):∃k kp rp ip,body=[.If c [.Return (some (.Constant (.bool b) k kp)) rp] [] ip]:=by
 unfold focOf at h;split at h
 ·split at h
  ·cases h;exact⟨_,_,_,_,rfl⟩
  ·cases h
 ·cases h
end Pu
set_option Elab.async false
set_option linter.all false
set_option maxRecDepth 100000
namespace Pu
open PySem PySem.Spec PyProof.Rows L2 Zw Zx
section
variable {X:Cx}{E:L2.St->XK}{ca:Str->Value}{m mk ma:PSt->Option Rs}{o k e a:Expr}{pos apos cpos p p2:Pos}
def rSlS:V->Option Int->Option Int->Hp->VK->Prop:=fun x lo hi H Q=>∃z:Str,x=.str z/\z.length<=lim/\Q (.str (Txt.slice z lo hi)) H
theorem sl_str:SlR X rSlS:=by
 intro pins s σ H x v vl vu lo hi sl Q I rx hs pl pu q;obtain⟨z,rfl,hz,q⟩:=q;obtain⟨t,rfl⟩:=(show ∃t,v=Value.str z t from rx);obtain⟨ob,ho,hc,hd⟩:=hs;rw[zdn]at hz;cases pl with
 |none =>
  cases pu with
  |none=>exact⟨"str",_,yc4.lookup,typeIs_str _ _ _,wpAny_getItem_str_slice (l:=none) (u:=none) (st:=none) ⟨ob,ho,hc,hd⟩ rfl (post_val_or_str ⟨yal (ye1 z _ _) hz,fun t' k=>⟨.str _,H,I.tok _,⟨_,rfl⟩,q⟩⟩)⟩
  |int j uj=>exact⟨"str",_,yc4.lookup,typeIs_str _ _ _,wpAny_getItem_str_slice (l:=none) (u:=some (j,uj)) (st:=none) ⟨ob,ho,hc,hd⟩ rfl (post_val_or_str ⟨yal (ye1 z _ _) hz,fun t' k=>⟨.str _,H,I.tok _,⟨_,rfl⟩,q⟩⟩)⟩
 |int i ui =>
  cases pu with
  |none=>exact⟨"str",_,yc4.lookup,typeIs_str _ _ _,wpAny_getItem_str_slice (l:=some (i,ui)) (u:=none) (st:=none) ⟨ob,ho,hc,hd⟩ rfl (post_val_or_str ⟨yal (ye1 z _ _) hz,fun t' k=>⟨.str _,H,I.tok _,⟨_,rfl⟩,q⟩⟩)⟩
  |int j uj=>exact⟨"str",_,yc4.lookup,typeIs_str _ _ _,wpAny_getItem_str_slice (l:=some (i,ui)) (u:=some (j,uj)) (st:=none) ⟨ob,ho,hc,hd⟩ rfl (post_val_or_str ⟨yal (ye1 z _ _) hz,fun t' k=>⟨.str _,H,I.tok _,⟨_,rfl⟩,q⟩⟩)⟩
def mSlT(ma:PSt->Option Rs)(ml mh:Option (PSt->Option Rs)):PSt->Option Rs:=fun τ=>match ma τ with
 |some (.v (.str z) _)=>(match zii ml τ,zii mh τ with
  |some lo,some hi=>if z.length<=lim then some (.v (.str (Txt.slice z lo hi)) false) else none
  |_,_=>none)
 |_=>none
theorem r_sliceT{lo hi:Option Expr}{ml mh:Option (PSt->Option Rs)}(ha:PE X a (tM X.K E ca ma))(hl:PO X lo (tPo X.K ml))(hh:PO X hi (tPo X.K mh)):PE X (.Subscript a (.Slice lo hi none p2) pos) (tM X.K E ca (mSlT ma ml mh)):=by
 refine PE.weak (pe_slice sl_str ha hl hh) fun σ H Q h=>?_
 obtain⟨F,τ,R,S,q⟩:=h;refine⟨F,τ,R,S,?_⟩;unfold mSlT at q;cases hm:ma τ with
 |none=>rw[hm]at q;exact q.elim
 |some r =>
  rw[hm]at q;cases r with
  |x c=>exact q.elim
  |v t bb =>
   cases t with
   |str z =>
    simp only at q;intro F1 H1 x B e1 g1;have hx:=zds g1;subst hx;have e1':Ext F H F1 H1 R0:=e1.mono fun _ z=>z.elim
    have S1:=S.ext e1';cases h1:zii ml τ with
    |none=>simp only[h1]at q
    |some lo' =>
     refine⟨F1,τ,R,lo',S1,h1,fun F2 H2 e2=>?_⟩
     have S2:=S1.ext e2;cases h2:zii mh τ with
     |none=>simp only[h1,h2]at q
     |some hi' =>
      simp only[h1,h2]at q;refine⟨F2,τ,R,hi',S2,h2,fun F3 H3 e3=>?_⟩
      by_cases hz:z.length<=lim
      ·rw[if_pos hz]at q;exact⟨z,rfl,hz,q F3 H3 _ R0 (e1'.trans0 (e2.trans0 e3)) (.str _)⟩
      ·rw[if_neg hz]at q;exact q.elim
   |_=>exact q.elim
def rJoin:V->List V->Hp->VK->Prop:=fun x vs H Q=>∃(sep:Str) (l:Addr) (ys:List Str),x=.str sep/\vs=[.ref l]/\H l=some (.lst (ys.map V.str))/\(ys.map (·.length)).sum+ys.length * sep.length<=lim/\Q (.str (Txt.join sep ys)) H
theorem strs_are:∀{ys:List Str} {its:List Value},zbc (ys.map V.str) its->StrsAre its ys
 |[],its,r=>by
  cases r;exact .nil
 |y::ys,its,r=>by
  cases r with
  |cons h t =>
   obtain⟨tk,rfl⟩:=h;exact .cons _ _ (strs_are t)
theorem mt_join:MtM X "str.join" rJoin:=by
 intro pins s σ H x vs v us Q I rx rv h;obtain⟨sep,l,ys,rfl,rfl,hH,hz,q⟩:=h;obtain⟨t,rfl⟩:=(show ∃t,v=Value.str sep t from rx);obtain⟨u,rfl,ru⟩:=rv.one;cases ru;obtain⟨its,r,pl,_⟩:=I.list (SqL.of hH);refine join_list (items:=its.toArray) pl.isList (strs_are r) (by rw[zdn]at hz;exact hz) fun t' k=>⟨.str _,H,I.tok _,⟨_,rfl⟩,q⟩
def mJn(m mk:PSt->Option Rs):PSt->Option Rs:=fun τ=>match m τ with
 |some (.v (.str sep) _)=>(match mk τ with
  |some (.v (.nd _ .lst l) _)=>(match zcw l with
   |some ys=>if (ys.map (·.length)).sum+ys.length * sep.length<=lim then some (.v (.str (Txt.join sep ys)) false) else none
   |none=>none)
  |_=>none)
 |_=>none
theorem lst_of{K:PySem.W.Frag}{F H:Hp}{o:Bool}{l:List T}{x:V}{A:Rg}(s:zbh F H)(h:Rp K F H (.nd o .lst l) x A):∃p xs,x=.ref p/\H p=some (.lst xs)/\l.length=xs.length/\∀(i:Nat) (t:T) (x:V),l[i]?=some t->xs[i]?=some x->∃B,Rp K F H t x B:=by
 cases h with
 |shr h e c=>exact⟨_,_,rfl,s _ _ h,e,fun i t x h1 h2=>⟨_,c i t x h1 h2⟩⟩
 |own hk R f h e c d dp o=>exact⟨_,_,rfl,h,e,fun i t x h1 h2=>⟨_,c i t x h1 h2⟩⟩
theorem zi3{K:PySem.W.Frag}{F H:Hp}:∀{l:List T} {ys:List Str} {xs:List V},zcw l=some ys->l.length=xs.length->(∀(i:Nat) (t:T) (x:V),l[i]?=some t->xs[i]?=some x->∃B,Rp K F H t x B)->xs=ys.map V.str
 |[],ys,xs,h,e,_=>by
  cases h;cases xs with
  |nil=>rfl
  |cons _ _=>simp at e
 |t::l,ys,[],h,e,_=>by simp at e
 |t::l,ys,x::xs,h,e,f=>by
  unfold zcw at h;split at h
  ·cases ‹_::_=[]›
  ·rename_i z r hh;cases hh;split at h
   ·rename_i l' hl;cases h;obtain⟨B,r0⟩:=f 0 _ x rfl rfl;have ih:xs=l'.map V.str:=zi3 hl (by simpa using e) fun i t x h1 h2=>f (i+1) t x (by simpa using h1) (by simpa using h2)
    rw[r0.str_inv,ih]
    rfl
   ·cases h
  ·cases h
theorem r_join(ho:PE X o (tM X.K E ca m))(hk:PE X k (tM X.K E ca mk))(hbase:attributeBase o "join" X.env (eval o X.env)=eval o X.env)(hs:starEach [k] X.env=[(false,eval k X.env)])(hline:(apos.endLine == cpos.line)=true) :
  PE X (.Call (.Attribute o "join" apos) [k] [] cpos) (tM X.K E ca (mJn m mk)):=by
 refine PE.weak (pe_bm yca ycf PySem.F.type_str_join mt_join ho (zd9 hk zfq hs) hbase (by rw[hs];rfl) hline hs rfl) fun σ H Q h=>?_
 obtain⟨F,τ,R,S,q⟩:=h;refine⟨F,τ,R,S,?_⟩;unfold mJn at q;cases hm:m τ with
 |none=>rw[hm]at q;exact q.elim
 |some r =>
  rw[hm]at q;cases r with
  |x c=>exact q.elim
  |v t b =>
   cases t with
   |str sep =>
    simp only at q;intro F1 H1 x B e1 g1;have hx:=zds g1;subst hx;have e1':Ext F H F1 H1 R0:=e1.mono fun _ z=>z.elim
    refine⟨rfl,F1,τ,R,S.ext e1',?_⟩;cases hk2:mk τ with
    |none=>rw[hk2]at q;exact q.elim
    |some r2 =>
     rw[hk2]at q;cases r2 with
     |x c=>exact q.elim
     |v t2 b2 =>
      cases t2 with
      |nd o2 k2 l =>
       cases k2 with
       |lst =>
        simp only at q;intro F2 H2 z B2 e2 g2
        have hr:∃A,Rp X.K F2 H2 (.nd o2 .lst l) z A:=by
         cases b2 with
         |true=>obtain⟨_,A,_,r⟩:=g2;exact⟨A,r⟩
         |false=>exact⟨_,g2⟩
        obtain⟨A,r⟩:=hr;obtain⟨p,xs,rfl,hH,el,kd⟩:=lst_of e2.fh r;cases hy:zcw l with
        |none=>simp only[hy]at q
        |some ys =>
         simp only[hy]at q;have hxs:=zi3 hy el kd
         by_cases hz:(ys.map (·.length)).sum+ys.length * sep.length<=lim
         ·rw[if_pos hz]at q;exact⟨sep,p,ys,rfl,rfl,by rw[<- hxs];exact hH,hz,q F2 H2 _ R0 ((e1'.trans e2).mono fun _ z=>z.elim) (.str _)⟩
         ·rw[if_neg hz]at q;exact q.elim
       |_=>exact q.elim
      |_=>exact q.elim
   |_=>exact q.elim
def rIxD:R2:=fun x y H Q=>∃a kvs k v,x=.ref a/\y=.str k/\H a=some (.dK kvs)/\valV kvs (Sum.inr k)=some v/\Q v H
theorem ix_dic(hu:X.A.units+1<cLine):IxR X rIxD:=by
 intro value slice pins s σ H x y v u Q I rx ry h hs;obtain⟨a,kvs,k,w,rfl,rfl,hH,hv,q⟩:=h;cases rx;have g:DGet H a (kV (Sum.inr k)) (some w):=hv▸DGet.k hH
 have hT:s.TypeIs (.ref a) "dict":=by
  obtain⟨_,_,vs,_,dd⟩:=dk_of I.hok hH;exact dd.typeIs
 unfold subscriptTail;refine wpAny_bind ?_;rw[getitemInPython_of_ne hT.not_modules];refine wpAny_bind (wpAny_specialOf hT PySem.F.slot_dict_getitem.lookup ?_)
 have fin:wpAny (model X.prog X.w) X.A (subscripted slice false (.ref a) u) (fun r s₃=>wpAny (model X.prog X.w) X.A (letTemporaryGo value (.ref a) r >>= fun _=>pure r) (EP X pins σ Q) X.xe s₃) X.xe s:=by
  rw[hs];exact wpAny_operating (wpAny_mono (d_getItem hu I g (show L2.RelV (kV (Sum.inr k)) u from ry) fun w' s3 I3 rw'=>(⟨w,H,I3,rw',q⟩:EP X pins σ Q w' s3)) (fun r s₃ h₃=>wpAny_bind (wpAny_letTemporaryGo (wpAny_pure h₃))) fun _ _ x=>x)
 first|exact wpAny_pure (wpAny_bind fin)|exact wpAny_bind (wpAny_pure (wpAny_bind fin))|exact wpAny_bind fin
noncomputable def mGt(m mk:PSt->Option Rs):PSt->Option Rs:=fun τ=>match m τ with
 |some (.v (.obj (.sdc ks) l) _)=>(match mk τ with
  |some (.v (.str y) _)=>(match idxS ks y with
   |some j=>(match l[j]? with
    |some u=>if u.sh then some (.v u false) else none
    |none=>none)
   |none=>none)
  |_=>none)
 |_=>none
theorem valV_kvS:∀{ks:List Str} {xs:List V} {y:Str} {j:Nat} {v:V},idxS ks y=some j->xs[j]?=some v->valV (kvS ks xs) (Sum.inr y)=some v
 |[],xs,y,j,v,h,_=>by simp[idxS]at h
 |k::ks,[],y,j,v,_,h=>by simp at h
 |k::ks,x::xs,y,j,v,h,hx=>by
  show valV ((Sum.inr k,x)::kvS ks xs) (Sum.inr y)=some v;unfold idxS at h;rw[ydq]at h
  by_cases e:k=y
  ·rw[@decide_eq_true _ (Classical.propDecidable _) e]at h;simp only[if_true,ycw]at h;subst h;rw[zhu (p:=(Sum.inr k,x)) (by rw[e])]
   simpa using hx
  ·rw[@decide_eq_false _ (Classical.propDecidable _) e]at h;simp only[yc9,if_false,ya0]at h;obtain⟨j',h1,rfl⟩:=h;rw[zhv (p:=(Sum.inr k,x)) (fun z=>e (Sum.inr.inj z))]
   exact valV_kvS (show idxS ks y=some j' from h1) (by simpa using hx)
theorem r_gt(hu:X.A.units+1<cLine)(ho:PE X o (tM X.K E ca m))(hk:PE X k (tM X.K E ca mk))(hs:PlainIx k):PE X (.Subscript o k pos) (tM X.K E ca (mGt m mk)):=by
 refine PE.weak (pe_ix (ix_dic hu) ho hk hs) fun σ H Q h=>?_
 obtain⟨F,τ,R,S,q⟩:=h;refine⟨F,τ,R,S,?_⟩;unfold mGt at q;cases hm:m τ with
 |none=>rw[hm]at q;exact q.elim
 |some r =>
  rw[hm]at q;cases r with
  |x c=>exact q.elim
  |v t b =>
   cases t with
   |obj kd l =>
    cases kd with
    |sdc ks =>
     simp only at q;intro F1 H1 x B e1 g1;obtain⟨r1,hB⟩:=got_obj g1;subst hB;obtain⟨a,xs,rfl,_,⟨hl1,hF⟩,el,cc⟩:=r1.obj_inv;refine⟨F1,τ,R,S.ext e1,?_⟩;cases hk2:mk τ with
     |none=>rw[hk2]at q;exact q.elim
     |some r2 =>
      rw[hk2]at q;cases r2 with
      |x c=>exact q.elim
      |v t2 b2 =>
       cases t2 with
       |str y =>
        simp only at q;intro F2 H2 z B2 e2 g2;have hz:=zds g2;subst hz;have e2':Ext F1 H1 F2 H2 R0:=e2.mono fun _ z=>z.elim
        cases hj:idxS ks y with
        |none=>simp only[hj]at q
        |some j =>
         simp only[hj]at q;cases hu2:l[j]? with
         |none=>simp only[hu2]at q
         |some u =>
          simp only[hu2]at q
          by_cases hsh:u.sh=true
          ·rw[if_pos hsh]at q;have hjl:=(ya7.mp hu2).1;have hx:xs[j]?=some xs[j]:=ya2 (by omega)
           have hc:=(cc j u _ hu2 hx).move (F':=F2) (H':=H2) hsh e2'.ff;exact⟨a,_,y,_,rfl,rfl,e2'.hh _ _ (e1.fh _ _ hF),valV_kvS hj hx,q F2 H2 _ R0 (e1.trans0 e2') hc⟩
          ·rw[if_neg hsh]at q;exact q.elim
       |_=>exact q.elim
    |_=>exact q.elim
   |_=>exact q.elim
def tKys(to:TE):TE:=fun σ H Q=>to σ H fun x H1=>∃a ks xs,x=.ref a/\ks.length=xs.length/\H1 a=some (.dK (kvS ks xs))/\∀p,H1 p=none->Q (.ref p) (upd H1 p (.lst (ks.map V.str)))
theorem kvS_ln:∀{ks:List Str} {xs:List V},ks.length=xs.length->(kvS ks xs).length=ks.length
 |[],[],_=>rfl
 |[],_::_,h=>by simp at h
 |_::_,[],h=>by simp at h
 |k::ks,x::xs,h=>by
  show(kvS ks xs).length+1=ks.length+1;rw[kvS_ln (by simpa using h)]
theorem kvS_keys:∀{ks:List Str} {xs:List V} {vs:List (Key×Value)},ks.length=xs.length->KV (kvS ks xs) vs->vs.map (·.1)=ks.map Sum.inr
 |[],[],vs,_,r=>by
  have r':Paired _ [] vs:=(show Paired _ (kvS [] []) vs from r);cases r'
  rfl
 |[],_::_,_,h,_=>by simp at h
 |_::_,[],_,h,_=>by simp at h
 |k::ks,x::xs,vs,h,r=>by
  have r':Paired (fun(p:Key×V) (q:Key×Value)=>p.1=q.1/\RelV p.2 q.2) ((Sum.inr k,x)::kvS ks xs) vs:=r
  cases r' with
  |@cons _ q _ qs hd tl =>
   rw[yad,yad,<- hd.1,kvS_keys (by simpa using h) tl]
theorem pe_kys(hc:X.calm=true)(hg:Gl X "list")(hm:X.mg "list"=none){to:TE}(ho:PE X o to)(hs:starEach [o] X.env=[(false,eval o X.env)]) :
  PE X (.Call (.Name "list" p) [o] [] p2) (tKys to):=by
 intro pins s σ H Q I h;refine wpAny_Call_Name_kw (zgg I hg hm ycy ?_ (by decide) (by decide))
 refine yb2 ?_ (by rw[hs];rfl) rfl
 rw[hs];show wpAny _ _ (spliced ((false,eval o X.env)::backTo p2 (starEach [] X.env))) _ _ s;refine yck (thn (ho pins s σ H _ I h) fun v s1 ⟨x,H1,I1,r1,q1⟩=>?_)
 obtain⟨a,ks,xs,rfl,el,hd,q⟩:=q1;cases r1;obtain⟨z,hsm,vs,rel,o',es,ep,ho',r⟩:=(show zbt X.prog X.w H1 s1.heap a (.dK (kvS ks xs)) from I1.hok a _ hd);have hat:s1.heap.DictAt (zbj X.prog X.w) a vs ep:=⟨o',es,ho',r⟩;refine ycv ?_;refine PySem.W.kdl_call (PySem.W.kdl_dict (knd:=zbj X.prog X.w) (d:=a) (kvs:=vs) (ep:=ep) hsm) (I1.ok.hd hc) hat (by rw[<- kv_len rel];exact z) fun h' tk acc' c' hk hD hacc=>?_
 have hkeys:=kvS_keys el rel;refine⟨.ref _,_,I1.laid (a:=s1.heap.objs.size) (o:=.lst (ks.map V.str)) (h':=h') (t':=tk) hk (yab _) ?_,rfl,q _ (I1.hok.fresh (yab _))⟩;refine⟨by rw[ya4,<- kvS_ln el];exact z,acc'.toList,c',?_,by rw[hD]⟩
 have hlen:acc'.toList.length=ks.length:=by
  rw[ydh,hacc.1,<- ya4 (f:=fun p:Key×Value=>p.1),hkeys,ya4]
 have key:∀(n:Nat) (k:Str) (v:Value),ks[n]?=some k->acc'.toList[n]?=some v->∃t,v=Value.str k t:=fun n k v h1 h2=>by
  obtain⟨k',x',e1,e2⟩:=hacc.2 n v (by rw[<- yby];exact h2)
  have e3:(vs.map (·.1))[n]?=some k':=by rw[yae,e1];rfl
  rw[hkeys,yae,h1]at e3;have e4:k'=Sum.inr k:=(yax e3).symm;subst e4
  rcases zb5 (show keyIs (Sum.inr k) v=true from e2) with ⟨i,t,e5,_⟩|⟨x,t,e5,e6⟩
  ·cases e5
  ·cases e5;exact⟨t,e6⟩
 clear hD hk hacc
 generalize acc'.toList=as at hlen key
 clear hd q hkeys
 have go:∀(ks:List Str) (as:List Value),as.length=ks.length->(∀(n:Nat) (k:Str) (v:Value),ks[n]?=some k->as[n]?=some v->∃t,v=Value.str k t)->zbc (ks.map V.str) as:=by
  intro ks
  induction ks with
  |nil =>
   intro as hl _;cases as with
   |nil=>exact .nil
   |cons _ _=>simp at hl
  |cons k ks ih =>
   intro as hl key;cases as with
   |nil=>simp at hl
   |cons v as=>exact .cons (key 0 k v rfl rfl) (ih as (by simpa using hl) fun n k v h1 h2=>key (n+1) k v (by simpa using h1) (by simpa using h2))
 exact go ks as hlen key
def mKys(m:PSt->Option Rs):PSt->Option Rs:=fun τ=>match m τ with
 |some (.v (.obj (.sdc ks) _) _)=>some (.v (.own (ks.map T.str)) false)
 |_=>none
theorem rps_strs{K:PySem.W.Frag}{F:Hp}(ks:List Str):Rps K F (ks.map T.str) (ks.map V.str):=⟨by simp,fun i t x h1 h2=>by
 rw[yae]at h1 h2;cases h:ks[i]? with
 |none=>rw[h]at h1;cases h1
 |some k =>
  rw[h]at h1 h2;cases h1;cases h2;exact .str k⟩
theorem r_kys(hc:X.calm=true)(hg:Gl X "list")(hm:X.mg "list"=none)(ho:PE X o (tM X.K E ca m))(hs:starEach [o] X.env=[(false,eval o X.env)]):PE X (.Call (.Name "list" p) [o] [] p2) (tM X.K E ca (mKys m)):=by
 refine PE.weak (pe_kys hc hg hm ho hs) fun σ H Q h=>?_
 obtain⟨F,τ,R,S,q⟩:=h;refine⟨F,τ,R,S,?_⟩;unfold mKys at q;cases hm2:m τ with
 |none=>rw[hm2]at q;exact q.elim
 |some r =>
  rw[hm2]at q;cases r with
  |x c=>exact q.elim
  |v t b =>
   cases t with
   |obj kd l =>
    cases kd with
    |sdc ks =>
     intro F1 H1 x B e1 g1;obtain⟨r1,hB⟩:=got_obj g1;subst hB;obtain⟨a,xs,rfl,_,⟨hl1,hF⟩,el,cc⟩:=r1.obj_inv;refine⟨a,ks,xs,rfl,hl1,e1.fh _ _ hF,fun p hp=>?_⟩
     have gg:zjb X.K F1 H1 (.own (ks.map T.str)) Q:=fun F' H' z C e g=>q F' H' z C (e1.trans0 e) g
     exact gg.list e1.fh (rps_strs ks) hp
    |_=>exact q.elim
   |_=>exact q.elim
structure ICls(K:PySem.W.Frag)(C:Addr):Prop where
 c:Cls K C
 a:PySem.W.findIn K (.ref C) "__class__"=some (some (.builtin "object.__class__"))
 n:PySem.W.specialIn K (.builtin "object.__class__") "__get__"=some (some (.builtin "getset_descriptor.__get__"))
 k:PySem.W.takesIn K (.builtin "object.__class__")=some true
 m:PySem.W.mroIn K C (.type "object")=some true
def zhl(tb:List (Addr×Bool)):T->Option T
 |.obj (.ins C _) _=>(tb.lookup C).map .bl
 |_=>none
theorem call_isC{C D:Addr}{b:Bool}(hC:ICls X.K C)(hk:PySem.W.kitOne X.K (.ref C) (.ref D)=some b):zc0 X (.builtin "isinstance") (fun xs H Q=>∃a dx fs,xs=[.ref a,.ref D]/\H a=some (.ins C dx fs)/\Q (.bl b) H):=by
 intro pins s σ H xs us Q I r h;obtain⟨a,dx,fs,rfl,e,q⟩:=h;obtain⟨u,w',rfl,rx,ry⟩:=vals2 r;cases ry;exact isinst_ok I rx (.ins e hC.c hC.a hC.n hC.k hC.m) hk fun tk=>⟨.bl b,H,I.tok _,rfl,q⟩
theorem r_isC{D:Addr}{tb:List (Addr×Bool)}{c:Str}(hC:∀C b,tb.lookup C=some b->ICls X.K C/\PySem.W.kitOne X.K (.ref C) (.ref D)=some b)(hg:Gl X "isinstance")(hm:X.mg "isinstance"=none)(hgc:Gl X c)(hmc:X.mg c=some (.ref D))(hd:(c == ("__debug__":Str))=false)(ha:PE X e (tM X.K E ca m))(he:starEach [e,.Name c p2] X.env=(false,eval e X.env)::starEach [.Name c p2] X.env) :
  PE X (.Call (.Name "isinstance" p) [e,.Name c p2] [] pos) (tM X.K E ca (mAp (g1 (zhl tb)) (za0 m za4))):=by
 have hR:zc0 X (.builtin "isinstance") (fun xs H Q=>∃C b a dx fs,tb.lookup C=some b/\xs=[.ref a,.ref D]/\H a=some (.ins C dx fs)/\Q (.bl b) H):=fun pins s σ H xs us Q I r h=>by
  obtain⟨C,b,a,dx,fs,hl,h⟩:=h;exact call_isC (hC C b hl).1 (hC C b hl).2 pins s σ H xs us Q I r ⟨a,dx,fs,h⟩
 refine PE.weak (zi0 hR hg hm PyProof.Rows.boot_isinstance (zd9 ha (zd9 (pe_glob (v:=.ref D) hgc hmc rfl hd) zfq) he) (by decide) (by decide) he rfl) fun σ H Q h=>?_
 refine(ze8 (tM_ap h)).mono fun x H1 h1=>?_
 obtain⟨F,ts,w,fh,rs,e,q⟩:=zfz h1;unfold g1 at e;split at e
 ·obtain⟨x1,xs1,e1,r1,rs1⟩:=rs.inv;cases e1;unfold zhl at e;split at e
  ·obtain⟨b,hb,rfl⟩:=ya0.mp e;obtain⟨a,xs,rfl,_,⟨dx,hF⟩,_,_⟩:=r1.obj_inv;exact⟨_,b,a,dx,_,hb,rfl,fh _ _ hF,q.bl fh⟩
  ·cases e
 ·cases e
end
end Pu
set_option Elab.async false
set_option linter.all false
set_option maxRecDepth 100000
namespace Zx
open PySem PySem.Spec PyProof.Rows L2 Zw
section
variable {A:Around}{E:Value->Shared->Prop}{M:Model}
end
section
variable {X:Cx}{i1 i2:Nat}{x1 x2 n1 n2:Str}{np1 np2 pos hpos1 hpos2:Pos}{body suite1 suite2:List Stmt}{b1 b2:Stmt}{tb th1 th2:TS}{E:L2.St->XK}
end
end Zx
namespace Pu
open PySem PySem.Spec PyProof.Rows L2 Zw Zx
section
variable {X:Cx}{E:L2.St->XK}{ca:Str->Value}{mu:Bool}{i1 i2:Nat}{x1 x2 n1 n2:Str}{np1 np2 pos hpos1 hpos2:Pos}{body suite1 suite2:List Stmt}{b1 b2:Stmt}{u h1 h2:PSt->Option Out}{cs1 cs2:List (Str×Addr)}
end
section
variable {X:Cx}{E:L2.St->XK}{ca:Str->Value}{m:PSt->Option Rs}{e:Expr}{pos p p2 p3 p4:Pos}{c1 c2:Str}{t1 t2:List (Addr×Bool)}{kt:Nat}
end
end Pu
set_option Elab.async false
set_option linter.all false
set_option maxRecDepth 100000
namespace Pu
open PySem PySem.Spec PyProof.Rows L2 Zw Zx
end Pu
set_option Elab.async false
set_option linter.all false
set_option maxRecDepth 100000
namespace Pu
open PySem PySem.Spec PyProof.Rows L2 Zw Zx
section
variable {X:Cx}{E:L2.St->XK}{ca:Str->Value}{m mk ma:PSt->Option Rs}{o k e a:Expr}{pos apos cpos p p2:Pos}
def rSpl:V->List V->Hp->VK->Prop:=fun x vs H Q=>∃x1 y:Str,x=.str x1/\vs=[.str y]/\(y.length == 0)=false/\x1.length+2<=lim/\∀p,H p=none->Q (.ref p) (upd H p (.lst ((Txt.split x1 y).map V.str)))
theorem vals_strs:∀{ys:List Str} {its:List Value},StrsAre its ys->zbc (ys.map V.str) its
 |_,_,.nil=>.nil
 |_,_,.cons y t h=>.cons ⟨_,rfl⟩ (vals_strs h)
theorem mt_split:MtM X "str.split" rSpl:=by
 intro pins s σ H x vs v us Q I rx rv h;obtain⟨x1,y,rfl,rfl,hy,hz,q⟩:=h;obtain⟨t,rfl⟩:=(show ∃t,v=Value.str x1 t from rx);obtain⟨u,rfl,ru⟩:=rv.one;obtain⟨u1,rfl⟩:=(show ∃t,u=Value.str y t from ru);rw[zdn]at hz;have hsl:=PyProof.Rows.split_le x1 y
 have fin:∀(l:List (Str×Tok)) (k:Nat),l.map (·.1)=Txt.split x1 y->EP X pins σ Q (.ref s.heap.objs.size) { s with heap:=s.heap.push { cls:=.type "list",data:=.seq (strValues l).toArray },toks:=k }:=fun l k e =>
  ⟨.ref _,_,I.lnew (vals_strs (e▸strsAre_of_values l)) (by rw[ya4];omega),rfl,q _ I.fresh⟩
 have hn:(Builtin.Str.partsBetween x1 (Builtin.Str.occurrences x1 y 0 x1.length (x1.length+1)) y.length).length<=sizeLine:=by
  have e1:=StrLaws.occ_length_le x1 y 0 x1.length (x1.length+1);rw[length_partsBetween];omega
 cases h1:(decide (x1.length<y.length) || decide (Builtin.Str.strKind x1<Builtin.Str.strKind y))
 ·cases hf:(Builtin.Str.occurrences x1 y 0 x1.length (x1.length+1)).isEmpty
  ·refine call_meets ycb (typeIs_str _ _ _) ycu (ycp _ _) (meets_str_split_sep x1 y t u1 h1 hy hf (by omega) hn) ?_
   show wants _ _ _ { s with toks:=_,heap:=s.heap.push { cls:=.type "list",data:=.seq (strsFrom s.toks (Builtin.Str.partsBetween x1 (Builtin.Str.occurrences x1 y 0 x1.length (x1.length+1)) y.length)).toArray } }
   rw[strsFrom_eq];exact fin (numbered s.toks _) _ ((numbered_texts _ _).trans ((if_neg (ne_true_of_eq_false h1)).trans (if_neg (ne_true_of_eq_false hf))).symm)
  ·exact call_meets ycb (typeIs_str _ _ _) ycu (ycp _ _) (meets_str_split_not_found x1 y t u1 h1 hy hf) (fin [(x1,t)] s.toks ((if_neg (ne_true_of_eq_false h1)).trans (if_pos hf)).symm)
 ·exact call_meets ycb (typeIs_str _ _ _) ycu (ycp _ _) (meets_str_split_cannot_occur x1 y t u1 h1) (fin [(x1,t)] s.toks (if_pos h1).symm)
def mSpl(m mk:PSt->Option Rs):PSt->Option Rs:=fun τ=>match m τ with
 |some (.v (.str x) _)=>(match mk τ with
  |some (.v (.str y) _)=>if (y.length == 0)=false/\x.length+2<=lim then some (.v (.own ((Txt.split x y).map T.str)) false) else none
  |_=>none)
 |_=>none
theorem r_split(ho:PE X o (tM X.K E ca m))(hk:PE X k (tM X.K E ca mk))(hbase:attributeBase o "split" X.env (eval o X.env)=eval o X.env)(hs:starEach [k] X.env=[(false,eval k X.env)])(hline:(apos.endLine == cpos.line)=true) :
  PE X (.Call (.Attribute o "split" apos) [k] [] cpos) (tM X.K E ca (mSpl m mk)):=by
 refine PE.weak (pe_bm yca ycb PySem.F.type_str_split mt_split ho (zd9 hk zfq hs) hbase (by rw[hs];rfl) hline hs rfl) fun σ H Q h=>?_
 obtain⟨F,τ,R,S,q⟩:=h;refine⟨F,τ,R,S,?_⟩;unfold mSpl at q;cases hm:m τ with
 |none=>rw[hm]at q;exact q.elim
 |some r =>
  rw[hm]at q;cases r with
  |x c=>exact q.elim
  |v t b =>
   cases t with
   |str x =>
    simp only at q;intro F1 H1 x' B e1 g1;have hx:=zds g1;subst hx;have e1':Ext F H F1 H1 R0:=e1.mono fun _ z=>z.elim
    refine⟨rfl,F1,τ,R,S.ext e1',?_⟩;cases hk2:mk τ with
    |none=>rw[hk2]at q;exact q.elim
    |some r2 =>
     rw[hk2]at q;cases r2 with
     |x c=>exact q.elim
     |v t2 b2 =>
      cases t2 with
      |str y =>
       simp only at q;intro F2 H2 z B2 e2 g2;have hz:=zds g2;subst hz;have e2':Ext F1 H1 F2 H2 R0:=e2.mono fun _ z=>z.elim
       by_cases hc:(y.length == 0)=false/\x.length+2<=lim
       ·rw[if_pos hc]at q;refine⟨x,y,rfl,rfl,hc.1,hc.2,fun p hp=>?_⟩
        have gg:zjb X.K F2 H2 (.own ((Txt.split x y).map T.str)) Q:=fun F' H' z C e g=>q F' H' z C ((e1'.trans0 e2').trans0 e) g
        exact gg.list e2.fh (rps_strs _) hp
       ·rw[if_neg hc]at q;exact q.elim
      |_=>exact q.elim
   |_=>exact q.elim
theorem rv_len:typeLookup (.type "list_reverseiterator") "__len__"=pure none:=by
 rw[typeLookup_type,builtinLookup_eq_fast]
 kernel_rfl
theorem rv_hint:typeLookup (.type "list_reverseiterator") "__length_hint__"=pure (some (.builtin "list_reverseiterator.__length_hint__")):=by
 rw[typeLookup_type,builtinLookup_eq_fast]
 kernel_rfl
theorem rv_sub:isSubtype (.type "list_reverseiterator") (.type "list_reverseiterator")=pure true:=by
 rw[isSubtype_type]
 kernel_rfl
theorem collect_rv{prog:Program}{w:World}{A:Around}{E:Value->Shared->Prop}{s:Shared}{I:Addr}{fp wr:List Addr}{G:Array GenState->Array GenState->Prop}{n:Nat}{P:Nat->Value->Prop}{St:Nat->Shared->Prop}{Q:List Value->Shared->Prop}
  (W:WalksS prog w A.in1 I fp wr G n P St) (ty:∀i s,St i s->s.TypeIs (.ref I) "list_reverseiterator") (st:St 0 s) (lo:∀b∈fp,b<s.heap.objs.size) (hI:I∈fp) (hn:n<=sizeLine) (q:∀s' acc,Moved wr G s s'->ItemsOf P acc n->Q acc.toList s'):wpAny (model prog w) A (collect (.ref I)) Q E s:=by
 have hS:s.heap.objs.size∉fp:=fun z=>yau _ (lo _ z)
 have hSI:s.heap.objs.size≠I:=fun z=>hS (by rw[z];exact hI)
 have st1:=W.frame 0 s (s.heap.push { cls:=.type "list",data:=.seq ([]:List Value).toArray }) s.toks st (yab _) fun b _ o e=>ya9 _ e
 have o1:(s.heap.push { cls:=.type "list",data:=.seq ([]:List Value).toArray }).get? s.heap.objs.size=some { cls:=.type "list",data:=.seq ([]:List Value).toArray }:=yai _ rfl;have ne:Builtin.List.listSameRef (.ref s.heap.objs.size) (.ref I)=false:=by simp[Builtin.List.listSameRef,hSI]
 unfold collect;refine wpAny_bind (wpAny_runValue (codeAny_builtin PySem.F.entry_proto_collect ?_));rw[ycg PySem.F.plain_proto_collect _];refine wpAny_bind (m:=newList []) (wpAny_newObj_type (wpAny_pure ⟨plainId_quiet PySem.F.plain_list_iadd _,codeAny_builtin PySem.F.entry_list_iadd ?_⟩));rw[ycg PySem.F.plain_list_iadd _];show wpAny _ A.in1 (Builtin.List.listExtendWith (.ref s.heap.objs.size) (.ref I) (.ref s.heap.objs.size)) _ _ _;unfold Builtin.List.listExtendWith;refine wpAny_bind (wpAny_typeOf (ty 0 _ st1) ?_);rw[if_neg (by rw[ne];decide)]
 refine wpAny_bind (W.self 0 _ _ _ st1 (wpAny_bind (wpAny_holding ?_)));unfold Builtin.List.listLengthHint;refine wpAny_bind (wpAny_specialOf (ty 0 _ st1) rv_len ?_);refine wpAny_bind (m:=specialOf (Value.ref I) (Str.ofString "__length_hint__")) (wpAny_specialOf (ty 0 _ st1) rv_hint ?_);generalize hid:("list_reverseiterator.__length_hint__":String)=d
 wp_delta
 rw[show splitId d=some ("list_reverseiterator","__length_hint__") from by subst hid;decide +kernel]
 subst hid;refine wpAny_bind (wpAny_isInstance (b:=true) (ty 0 _ st1) rv_sub (wpAny_pure ?_));rw[if_neg (by decide)]
 refine wpAny_pure ⟨plainId_quiet PySem.F.plain_extend_loop _,codeAny_extend_loopS W hn _ hS _ n 0 _ _ _ rfl (ybb _) st1 o1 (ItemsOf.nil P) fun s' a' c' mv o2 its=>?_⟩
 refine wpAny_bind (m:=load s.heap.objs.size) (wpAny_load o2 (wpAny_pure (q s' a' ?_ its)));exact Moved.drop_new (tk:=s.toks) mv (yab _)
theorem gives_jn(x:Str)(r:List (Str×Tok))(h:Builtin.Str.tooLong ((r.map (·.1)).toArray.foldl (· + ·.length+x.length) 0)=false):Gives (joinTail x (strValues r)) (joinMade x r):=by
 cases r with
 |nil=>exact gives_joinTail x [] h
 |cons a r=>cases r with
  |nil=>exact gives_joinTail x [a] h
  |cons b r=>exact gives_joinTail x (a::b::r) h
theorem join_rv{prog:Program}{w:World}{A:Around}{E:Value->Shared->Prop}{s:Shared}{x:Str}{t:Tok}{Q:Value->Shared->Prop}(hh:A.handled=none){I l:Addr}{ps:List (Str×Tok)}(hne:l≠I)(hlo:l<s.heap.objs.size/\I<s.heap.objs.size)
  (hi:s.heap.IsRevIter I l (((strValues ps).toArray.size:Int) - 1)) (hl:s.heap.IsList l (strValues ps).toArray) (hok:JoinOk x (ps.reverse.map (·.1))=true) (hz:ps.length<=sizeLine)
  (q:∀h' t' k,(∀b o,b≠I->s.heap.get? b=some o->h'.get? b=some o)->Q (.str (Txt.join x (ps.reverse.map (·.1))) t') { s with heap:=h',toks:=k }):wpAny (model prog w) A (call (.builtin "str.join") [.str x t,.ref I]) Q E s:=by
 have W:=(Walks.listRev (prog:=prog) (w:=w) (A:=A.in1.in1) hh I l hne (strValues ps).toArray).toS;have hT:∀(i:Nat) (s:Shared),(i<=(strValues ps).toArray.size/\s.heap.IsRevIter I l (((strValues ps).toArray.size:Int) - 1 - (i:Int))/\s.heap.IsList l (strValues ps).toArray)->s.TypeIs (.ref I) "list_reverseiterator":=fun i s z=>z.2.1.typeIs
 have st:(0<=(strValues ps).toArray.size/\s.heap.IsRevIter I l (((strValues ps).toArray.size:Int) - 1 - ((0:Nat):Int))/\s.heap.IsList l (strValues ps).toArray):=⟨ybb _,by simpa using hi,hl⟩
 refine wpAny_call (codeAny_call_builtin ycf.plain PySem.F.entry_str_join (ycf.check _ _ _ _ _ _ _ _ (typeIs_str _ _ _) (PySem.F.args_str_join_2 _ _) ?_));rw[join_tree_other];refine wpAny_bind (wpAny_typeOf (hT 0 s st) ?_);show wpAny _ A.in1 ((pyIter (.ref I)).tryCatch _ >>= fun it=>collect it >>= fun items=>joinTail x items) _ _ s
 refine wpAny_bind (wpAny_tryCatch (W.of_in1.self 0 s _ _ st (wpAny_bind (collect_rv W hT st ?_ (by simp) ?_ fun s' acc mv its=>?_))))
 ·intro b hb;simp only[ya3,yb9,or_false]at hb
  rcases hb with rfl|rfl
  ·exact hlo.2
  ·exact hlo.1
 ·simp only[strValues,yaf,ya4];exact hz
 ·have e:acc.toList=strValues ps.reverse:=by
   apply ydy;intro j;have hs:=its.1
   by_cases hj:j<acc.size
   ·have h1:=its.2 j acc[j] (ybk hj);rw[yby,ybk hj,<- h1];simp only[strValues,yaf,ya4]at hs ⊢;rw[List.getElem?_toArray,yae,yae,List.getElem?_reverse (by omega)]
   ·rw[yby,Array.getElem?_eq_none (by omega),ybd]
    simp only[strValues,yaf,ya4,List.length_reverse]at hs ⊢
    omega
  rw[e];obtain⟨h',g',d',k',os'⟩:=s';obtain⟨m1,m2,m3,m4,m5⟩:=mv;cases m2;cases m3;cases m4;have hok':=hok;unfold JoinOk at hok';rw[yb8]at hok';exact(gives_jn x ps.reverse hok') prog w A (wants Q E) ⟨h',s.gens,s.drawn,k',s.os⟩ (post_join ps.reverse ⟨joinFit_length hok',fun t' k=>q h' t' k fun b o hb e=>m1 b o (by simpa using hb) e⟩)
def tJnR(to tk:TE):TE:=fun σ H Q=>to σ H fun x H1=>∃sep:Str,x=.str sep/\tk σ H1 fun y H2=>∃(l:Addr) (ys:List Str),y=.ref l/\H2 l=some (.lst (ys.map V.str))/\(ys.map (·.length)).sum+ys.length * sep.length<=lim/\Q (.str (Txt.join sep ys.reverse)) H2
theorem sum_rev:∀l:List Nat,l.reverse.sum=l.sum
 |[]=>rfl
 |a::l=>by
  rw[ydx,List.sum_append,sum_rev l,ydu,ydu,List.sum_nil]
  omega
theorem pe_jnr{to tk:TE}(hc:X.calm=true)(hg:Gl X "reversed")(hm:X.mg "reversed"=none)(ho:PE X o to)(hk:PE X k tk)(hbase:attributeBase o "join" X.env (eval o X.env)=eval o X.env)(hs:starEach [k] X.env=[(false,eval k X.env)])(hline:(apos.endLine == cpos.line)=true) :
  PE X (.Call (.Attribute o "join" apos) [.Call (.Name "reversed" p) [k] [] p2] [] cpos) (tJnR to tk):=by
 intro pins s σ H Q I h;refine wpAny_Call_method_late hbase rfl hline rfl (thn (ho pins s σ H _ I h) fun v s1 ⟨x,H1,I1,r1,q1⟩=>?_)
 obtain⟨sep,rfl,q1⟩:=q1;obtain⟨h1,h2⟩:=tyV_is (T:="str") I1 r1 rfl;obtain⟨t,rfl⟩:=(show ∃t,v=Value.str sep t from r1);refine⟨"str","str.join",yca,ycf,PySem.F.type_str_join,h1,h2,?_⟩;refine Calls.callWith_builtin rfl (yda ?_);show wpAny _ _ (spliced ((false,eval (.Call (.Name "reversed" p) [k] [] p2) X.env)::backTo cpos (starEach [] X.env))) _ _ s1;refine yck (wpAny_Call_Name_kw (zgg I1 hg hm (show bootBuiltins "reversed"=some (.type "reversed") from rfl) ?_ (by decide) (by decide)))
 refine yb2 ?_ (by rw[hs];rfl) rfl
 rw[hs];show wpAny _ _ (spliced ((false,eval k X.env)::backTo p2 (starEach [] X.env))) _ _ s1;refine yck (thn (hk pins s1 σ H1 _ I1 q1) fun v2 s2 ⟨y,H2,I2,r2,q2⟩=>?_)
 obtain⟨l,ys,rfl,hH,hz,q⟩:=q2;cases r2;refine ycv ?_;obtain⟨its,r,pl,hn⟩:=I2.list (SqL.of hH);obtain⟨ps,e1,e2⟩:=PyProof.Rows.strsAre_values (strs_are r);have hl:s2.heap.IsList l (strValues ps).toArray:=by rw[<- e1];exact pl.isList
 have hll:l<s2.heap.objs.size:=by
  obtain⟨o,e,_⟩:=hl;exact yac e
 have hps:ps.length=ys.length:=by rw[<- e2,ya4]
 refine call_reversed_list hl (ycv ?_);have e3:ps.reverse.map (·.1)=ys.reverse:=by rw[List.map_reverse,e2]
 refine join_rv (I2.ok.hd hc) (I:=s2.heap.objs.size) (l:=l) (ps:=ps) (fun z=>yau _ (z▸hll)) ⟨?_,?_⟩ ⟨_,yai _ rfl,rfl,rfl⟩ ?_ ?_ ?_ fun h' t' k keep=>?_
 ·exact yb3 hll (yac (yai _ rfl))
 ·exact yac (yai _ rfl)
 ·obtain⟨o,e,z⟩:=hl;exact⟨o,ya9 _ e,z⟩
 ·rw[e3];refine PyProof.Rows.joinOk_of ?_;rw[List.map_reverse,sum_rev,List.length_reverse];rw[zdn]at hz;exact hz
 ·rw[hps,<- ya4 (f:=V.str)];exact hn
 ·rw[e3];exact⟨.str _,H2,I2.kept fun b u e=>keep b u (fun z=>yau _ (z▸yac e)) (ya9 _ e),⟨_,rfl⟩,q⟩
def mJnR(m mk:PSt->Option Rs):PSt->Option Rs:=fun τ=>match m τ with
 |some (.v (.str sep) _)=>(match mk τ with
  |some (.v (.nd _ .lst l) _)=>(match zcw l with
   |some ys=>if (ys.map (·.length)).sum+ys.length * sep.length<=lim then some (.v (.str (Txt.join sep ys.reverse)) false) else none
   |none=>none)
  |_=>none)
 |_=>none
theorem r_jnr(hc:X.calm=true)(hg:Gl X "reversed")(hm:X.mg "reversed"=none)(ho:PE X o (tM X.K E ca m))(hk:PE X k (tM X.K E ca mk))(hbase:attributeBase o "join" X.env (eval o X.env)=eval o X.env)(hs:starEach [k] X.env=[(false,eval k X.env)])(hline:(apos.endLine == cpos.line)=true) :
  PE X (.Call (.Attribute o "join" apos) [.Call (.Name "reversed" p) [k] [] p2] [] cpos) (tM X.K E ca (mJnR m mk)):=by
 refine PE.weak (pe_jnr hc hg hm ho hk hbase hs hline) fun σ H Q h=>?_
 obtain⟨F,τ,R,S,q⟩:=h;refine⟨F,τ,R,S,?_⟩;unfold mJnR at q;cases hm:m τ with
 |none=>rw[hm]at q;exact q.elim
 |some r =>
  rw[hm]at q;cases r with
  |x c=>exact q.elim
  |v t b =>
   cases t with
   |str sep =>
    simp only at q;intro F1 H1 x B e1 g1;have hx:=zds g1;subst hx;have e1':Ext F H F1 H1 R0:=e1.mono fun _ z=>z.elim
    refine⟨sep,rfl,F1,τ,R,S.ext e1',?_⟩;cases hk2:mk τ with
    |none=>rw[hk2]at q;exact q.elim
    |some r2 =>
     rw[hk2]at q;cases r2 with
     |x c=>exact q.elim
     |v t2 b2 =>
      cases t2 with
      |nd o2 k2 l =>
       cases k2 with
       |lst =>
        simp only at q;intro F2 H2 z B2 e2 g2
        have hr:∃A,Rp X.K F2 H2 (.nd o2 .lst l) z A:=by
         cases b2 with
         |true=>obtain⟨_,A,_,r⟩:=g2;exact⟨A,r⟩
         |false=>exact⟨_,g2⟩
        obtain⟨A,r⟩:=hr;obtain⟨p,xs,rfl,hH,el,kd⟩:=lst_of e2.fh r;cases hy:zcw l with
        |none=>simp only[hy]at q
        |some ys =>
         simp only[hy]at q;have hxs:=zi3 hy el kd
         by_cases hz:(ys.map (·.length)).sum+ys.length * sep.length<=lim
         ·rw[if_pos hz]at q;exact⟨p,ys,rfl,by rw[<- hxs];exact hH,hz,q F2 H2 _ R0 ((e1'.trans e2).mono fun _ z=>z.elim) (.str _)⟩
         ·rw[if_neg hz]at q;exact q.elim
       |_=>exact q.elim
      |_=>exact q.elim
   |_=>exact q.elim
end
end Pu
set_option Elab.async false
set_option linter.all false
set_option maxRecDepth 100000
namespace Pu
open PySem PySem.Spec PyProof.Rows L2 Zw Zx
def IteS(x:Str):It :=
 ⟨fun i _=>i<x.cps.size,fun i H y H'=>∃p c,y=.ref p/\H p=none/\H'=upd H p (.tup [.int i,.str ⟨#[c]⟩])/\x.cps[i]?=some c,fun i _=>i=x.cps.size⟩
theorem draws_str{P:Program}{w:World}{A:Around}(hh:A.handled=none)(it:Addr)(x:Str)(t:Tok):Draws P w A it [it] x.cps.size (fun i v=>∃c u,x.cps[i]?=some c/\v=.str ⟨#[c]⟩ u) (fun i h=>h.IsStrIter it (strIterType x) x t i):=by
 cases ha:(x.cps.all fun x=>decide (x<128)) with
 |true =>
  have e:strIterType x="str_ascii_iterator":=by unfold strIterType;rw[ha];rfl
  rw[e];exact Draws.strAscii hh it x t
 |false =>
  have e:strIterType x="str_iterator":=by unfold strIterType;rw[ha];rfl
  rw[e];exact Draws.strWide hh it x t
theorem turn_enumS{P:Program}{w:World}{K:PySem.W.Frag}{elts:List Expr}{kk:Nat}{tpos:Pos}(x:Str)(t:Tok)(e it:Addr)(hei:e≠it) :
  Turn P w K (.Tuple elts kk tpos) (IteS x) [e,it] e (fun i h=>(∃old,IsEnum h e it i old)/\h.IsStrIter it (strIterType x) x t i) where
 mem:=by simp
 obj:=fun i h st b hb=>by
  obtain⟨⟨old,he⟩,o,hi,hc,hd⟩:=st
  rcases ya3.mp hb with hb|hb
  ·subst hb
   exact⟨_,he,fun v z=>by
    have z':Data.fields _=Data.cell v:=z;cases z'⟩
  ·have q:b=it:=by simpa using hb
   subst q;exact⟨o,hi,fun v z=>by rw[hd]at z;cases z⟩
 keep:=fun i h h' st k=>by
  obtain⟨⟨old,he⟩,o,hi,r⟩:=st;exact⟨⟨old,k e (by simp) _ he⟩,o,k it (by simp) o hi,r⟩
 item:=by
  intro X hP hw hK hc i pins s σ H E I hf st hg;subst hP hw hK;obtain⟨⟨old,he⟩,hit⟩:=st;have hi:i<x.cps.size:=hg;have elt:e<s.heap.objs.size:=yac he;have ilt:it<s.heap.objs.size:=by obtain⟨o,q,_⟩:=hit;exact yac q
  have hn:H s.heap.objs.size=none:=I.hok.fresh (yab _);refine wpAny_pyNext_enum_itemD (draws_str (A:=X.A.in1) (I.ok.hd hc) it x t) he hit hi hei (by simpa using hei) fun u h' tk hu ho hit' hT hsz hk=>?_
  obtain⟨c,u',hcx,rfl⟩:=hu
  have I1:Inv X pins σ (upd H s.heap.objs.size (.tup [.int i,.str ⟨#[c]⟩])) { s with heap:=h',toks:=tk+1 }:=by
   refine zjy (ch:=[e,it]) I (fun b o hb q=>hk b o (fun z=>hb (by simp[z])) (fun z=>hb (by simp[z])) q) hf (yab _) ?_
   exact⟨by simp only[yaa,ybx];rw[sizeLine_eq];decide,[.int i tk,.str ⟨#[c]⟩ u'],.cons ⟨_,rfl⟩ (.cons ⟨_,rfl⟩ .nil),_,hT,rfl,0,rfl⟩
  have f1:∀b∈[e,it],FpOk X pins (upd H s.heap.objs.size (.tup [.int i,.str ⟨#[c]⟩])) b:=fun b hb=>fp_upd (hf b hb) (by
   rcases ya3.mp hb with hb|hb
   ·exact yao (hb▸elt)
   ·have q:b=it:=by simpa using hb
    exact yao (q▸ilt))
  refine⟨.ref s.heap.objs.size,rfl,wpAny_letOwnedTupleGo_enum ho fun h2 he2 hs2=>?_⟩
  refine⟨.ref s.heap.objs.size,_,zfy (t':=tk+1) (ch:=[e]) I1 (fun b o hb q=>hs2.extBut b o (fun z=>hb (by simp[z])) q) (fun b hb=>f1 b (by simp at hb;simp[hb])),rfl,⟨_,c,rfl,hn,rfl,hcx⟩,⟨⟨_,by simpa using he2⟩,?_⟩,fun b hb=>(f1 b hb).1⟩
  obtain⟨o,h1,h2⟩:=hit';exact⟨o,hs2.extBut it o (yat hei) h1,h2⟩
 done:=by
  intro X hP hw hK hc i pins s σ H E I hf st hg;subst hP hw hK;obtain⟨⟨old,he⟩,hit⟩:=st;have hi:i=x.cps.size:=hg;subst hi;exact wpAny_pyNext_enum_endD (draws_str (A:=X.A.in1) (I.ok.hd hc) it x t) he hit fun h' eb=>⟨rfl,zfy (t':=s.toks) (ch:=[it]) I (fun b o hb q=>eb b o (fun z=>hb (by simp[z])) q) (fun b hb=>hf b (by simp at hb;simp[hb]))⟩
 self:=fun _ _ _ _ _ st h=>wpAny_pyIter_enum st.1.choose_spec h
section
variable {X:Cx}{E:L2.St->XK}{ca:Str->Value}{ms:PSt->Option RsL}{a:Expr}{elts:List Expr}{kk:Nat}{p pos tpos:Pos}
def iEnumS(ta:TA):TI:=fun σ H R=>ta σ H fun vs H1=>∃y,vs=[.str y]/\R (IteS y) H1
theorem pi_enumS{ta:TA}(hg:Gl X "enumerate")(hm:X.mg "enumerate"=none)(ha:PA X [a] ta)(hs:starEach [a] X.env=[(false,eval a X.env)]):PI X (.Tuple elts kk tpos) (.Call (.Name "enumerate" p) [a] [] pos) (iEnumS ta):=by
 intro pins s σ H R I h;refine Call_ (zgg I hg hm boot_enumerate (yb2 (thn (ha pos pins s σ H _ I h) fun us s1 ⟨vs,H1,I1,r1,q1⟩=>?_) hs rfl))
 obtain⟨y,rfl,q⟩:=q1;obtain⟨u,rfl,ru⟩:=zgq r1;obtain⟨t,rfl⟩:=(show ∃t,u=Value.str y t from ru);refine call_enumerate_str fun h' he hit hsz hk=>?_
 have I2:Inv X pins σ H1 { s1 with heap:=h',toks:=s1.toks }:=I1.kept hk
 refine wpAny_pyIter_enum he ⟨s1.heap.objs.size+1,[s1.heap.objs.size+1,s1.heap.objs.size],_,_,H1,rfl,I2,turn_enumS y t _ _ (by simp),⟨⟨_,he⟩,hit⟩,fun b hb=>?_,q⟩
 have hb':s1.heap.objs.size<=b:=by
  rcases ya3.mp hb with hb|hb
  ·rw[hb];exact ybu _
  ·have e:b=s1.heap.objs.size:=by simpa using hb
   rw[e];exact yab _
 exact I1.fpOk hb' (I1.hok.fresh hb')
theorem its_enumS{K:PySem.W.Frag}{F:Hp}{x:Str}:Its K (IteS x) F (zfm 0 (sgnT x)):=by
 intro i F' H' s1 s2;refine⟨fun t ht=>?_,fun e=>?_⟩
 ·rw[zj5]at ht;obtain⟨t',e1,rfl⟩:=ya0.mp ht;unfold sgnT at e1;rw[yae]at e1;obtain⟨c,e2,rfl⟩:=ya0.mp e1;have hi:i<x.cps.size:=by simpa using (ya7.mp e2).1
  refine⟨hi,fun y H'' z=>?_⟩
  obtain⟨p,c',rfl,hp,rfl,hc⟩:=z;rw[yby,hc]at e2;cases e2;refine⟨_,Ext.new (o:=.tup [.int i,.str ⟨#[c]⟩]) s2 hp,Rps.of_node (k:=.tup) (xs:=[.int i,.str ⟨#[c]⟩]) zb2 ?_⟩;have e0:((0+i:Nat):Int)=(i:Int):=by simp
  rw[e0];exact .cons (H:=H') (.int _) (.cons (H:=H') (.str _) .nil)
 ·show i=x.cps.size;rw[e,zf4];simp[sgnT]
def iEnX(ms:PSt->Option RsL):PSt->Option RsL:=fun τ=>match ms τ with
 |some (.v [.str x] false)=>some (.v (zfm 0 (sgnT x)) false)
 |_=>zhb ms τ
theorem r_enX(hg:Gl X "enumerate")(hm:X.mg "enumerate"=none)(ha:PA X [a] (tMs X.K E ca ms))(hs:starEach [a] X.env=[(false,eval a X.env)]):PI X (.Tuple elts kk tpos) (.Call (.Name "enumerate" p) [a] [] pos) (tI X.K E ca (iEnX ms)):=by
 refine PI.weak (PI.or (r_enum hg hm ha hs) (pi_enumS hg hm ha hs)) fun σ H P h=>?_
 obtain⟨F,τ,R,S,q⟩:=h
 by_cases hx:∃x,ms τ=some (.v [.str x] false)
 ·obtain⟨x,hm⟩:=hx;have e:iEnX ms τ=some (.v (zfm 0 (sgnT x)) false):=by unfold iEnX;rw[hm]
  rw[e]at q;refine .inr ⟨F,τ,R,S,?_⟩;rw[hm];intro F1 H1 xs e1 rs;obtain⟨x1,xs1,rfl,r1,rs1⟩:=rs.inv;cases rs1.inv0;rw[r1.str_inv];exact⟨x,rfl,q F1 H1 _ e1 its_enumS⟩
 ·have e:iEnX ms τ=zhb ms τ:=by
   unfold iEnX;split
   ·rename_i x hm;exact absurd ⟨x,hm⟩ hx
   ·rfl
  rw[e]at q;exact .inl ⟨F,τ,R,S,q⟩
end
section
variable {X:Cx}{E:L2.St->XK}{ca:Str->Value}{m mk:PSt->Option Rs}{o k e:Expr}{pos pos' apos cpos:Pos}
theorem mt_stw:MtM X "str.startswith" (fun x vs H Q=>∃x1 y:Str,x=.str x1/\vs=[.str y]/\Q (.bl (Txt.startswith x1 y)) H):=by
 intro pins s σ H x vs v us Q I rx rv h;obtain⟨x1,y,rfl,rfl,q⟩:=h;obtain⟨t,rfl⟩:=(show ∃t,v=Value.str x1 t from rx);obtain⟨u,rfl,ru⟩:=rv.one;obtain⟨u1,rfl⟩:=(show ∃t,u=Value.str y t from ru);exact SC.startswith ⟨.bl _,H,I,rfl,q⟩
def mStw(m mk:PSt->Option Rs):PSt->Option Rs:=fun τ=>match m τ with
 |some (.v (.str x) _)=>(match mk τ with
  |some (.v (.str y) _)=>some (.v (.bl (Txt.startswith x y)) false)
  |_=>none)
 |_=>none
theorem r_stw(ho:PE X o (tM X.K E ca m))(hk:PE X k (tM X.K E ca mk))(hbase:attributeBase o "startswith" X.env (eval o X.env)=eval o X.env)(hs:starEach [k] X.env=[(false,eval k X.env)])(hline:(apos.endLine == cpos.line)=true) :
  PE X (.Call (.Attribute o "startswith" apos) [k] [] cpos) (tM X.K E ca (mStw m mk)):=by
 refine PE.weak (pe_bm yca PySem.F.slot_str_startswith PySem.F.type_str_startswith mt_stw ho (zd9 hk zfq hs) hbase (by rw[hs];rfl) hline hs rfl) fun σ H Q h=>?_
 obtain⟨F,τ,R,S,q⟩:=h;refine⟨F,τ,R,S,?_⟩;unfold mStw at q;cases hm:m τ with
 |none=>rw[hm]at q;exact q.elim
 |some r =>
  rw[hm]at q;cases r with
  |x c=>exact q.elim
  |v t b =>
   cases t with
   |str x =>
    simp only at q;intro F1 H1 x' B e1 g1;have hx:=zds g1;subst hx;have e1':Ext F H F1 H1 R0:=e1.mono fun _ z=>z.elim
    refine⟨rfl,F1,τ,R,S.ext e1',?_⟩;cases hk2:mk τ with
    |none=>rw[hk2]at q;exact q.elim
    |some r2 =>
     rw[hk2]at q;cases r2 with
     |x c=>exact q.elim
     |v t2 b2 =>
      cases t2 with
      |str y =>
       simp only at q;intro F2 H2 z B2 e2 g2;have hz:=zds g2;subst hz;have e2':Ext F1 H1 F2 H2 R0:=e2.mono fun _ z=>z.elim
       exact⟨x,y,rfl,rfl,q F2 H2 _ R0 (e1'.trans0 e2') (.bl _)⟩
      |_=>exact q.elim
   |_=>exact q.elim
def sAug(i:Nat)(m:PSt->Option Rs):PSt->Option Out:=fun τ=>match τ[i]? with
 |some (some (.int a))=>(match m τ with
  |some (.v (.int b) _)=>some (.nx (τ.set i (some (.int (a+b)))))
  |_=>none)
 |_=>none
theorem s_aug{mu:Bool}{i:Nat}{x:Str}(hN:X.N.Nodup)(hi:X.N[i]?=some x)(hx:Loc X.env.scope x)(he:PE X e (tM X.K E ca m))(hf:X.fn x=true\/X.env.scope.names.lookup x=some .local) :
  PS X (.AugAssign (.Name x pos') .Add e pos) (tS X.K E ca mu (sAug i m)):=by
 refine PS.weak (ps_aug hN hi hx he ip_add hf) fun D σ H h=>?_
 obtain⟨F,τ,R,S,q⟩:=h;unfold sAug at q;cases ht:τ[i]? with
 |none=>rw[ht]at q;exact q.elim
 |some ot =>
  rw[ht]at q;cases ot with
  |none=>exact q.elim
  |some t =>
   cases t with
   |int a =>
    simp only at q;obtain⟨y,ey,ry⟩:=S.rep i _ ht;have hy:=ry.int_inv;subst hy;refine⟨_,ey,F,τ,R,S,?_⟩;cases hm:m τ with
    |none=>rw[hm]at q;exact q.elim
    |some r =>
     rw[hm]at q;cases r with
     |x c=>exact q.elim
     |v t b =>
      cases t with
      |int z =>
       simp only at q;intro F1 H1 y B e1 g1;have hy:=got_int g1;subst hy;have e1':Ext F H F1 H1 R0:=e1.mono fun _ z=>z.elim
       refine⟨a,z,rfl,rfl,?_⟩;refine q F1 H1 _ _ (e1'.stp0.mono fun b ⟨j,w⟩=>⟨j,?_⟩) ((S.ext e1').set (.int (a+z)) (fun _ _ _ _ z=>z.elim) (ya7.mp ht).1)
       by_cases hj:j=i
       ·simp only[hj,if_true]at w;exact w.elim
       ·simpa[hj] using w
      |_=>exact q.elim
   |_=>exact q.elim
end
end Pu
set_option Elab.async false
set_option linter.all false
set_option maxRecDepth 100000
noncomputable section
namespace Pu
open PySem PySem.Spec PyProof.Rows L2 Zw Zx
structure Fn where
 lv:Nat
 ps:List Str
 g:List T->Option Ru
structure Gx where
 co:List (Str×T)
 cl:List (Str×Addr×List Str)
 mt:List (Str×Addr×List Str×Fn)
 nw:List (Str×Fn×List (Nat×List T))
 nr:Bool
 tx:Bool
 df:Bool
 sf:Option (Addr×List Str)
 xs:List (Str×List (Str×Addr))
 sb:List (Str×List (Addr×Bool))
 sv:List (Str×List (Addr×Bool))
 no:Bool
 fo:List Str
 ci:List (Str×List (Addr×Bool))
 x2:List (Str×Str×List (Str×Addr))
 gt:List Str
set_option genInjectivity false in
structure Gm where
 N:List Str
 nm:List (Str×NameKind)
 ce:List Str
 lv:Nat
 fns:List (Str×Fn)
 bl:List Str
 ex:List Str
 ow:List Str
 pk:List Str
 mu:Bool
 mus:List (Str×Fn)
 mv:List Str
 dc:List Str
 ox:Gx
def zd3(x:Str):Bool:=!(x == ("__debug__":Str)) && !(x == ("__classdict__":Str)) && !(x == ("__name__":Str))
def visN(nm:List (Str×NameKind))(x:Str):Bool:=nm.lookup x == some .local || nm.lookup x == some .cell || nm.lookup x == some .free
def glN(nm:List (Str×NameKind))(x:Str):Bool:=nm.lookup x == some .globalImplicit
def ixOf(N:List Str)(x:Str):Option Nat:=N.findIdx? (· == x)
def Gm.var(Γ:Gm)(x:Str):Option Nat:=if zd3 x && visN Γ.nm x then ixOf Γ.N x else none
def Gm.loc(Γ:Gm)(x:Str):Bool:=zd3 x && (Γ.nm.lookup x == some .local || Γ.ce.contains x)
def zb3:Expr->Bool
 |.Starred ..=>false
 |_=>true
def opF:Operator->Option (T->T->Option T)
 |.Add=>some ze6
 |.Sub=>some subT
 |.Mult=>some mulT
 |.Mod=>some zi1
 |.FloorDiv=>some ze4
 |.Pow=>some powT
 |.BitOr=>some borT
 |.BitAnd=>some bandT
 |_=>none
def cmpF:CmpOp->Option (T->T->Option T)
 |.Eq=>some eqT
 |.NotEq=>some neT
 |.Lt=>some (cmpT fun i j=>decide (i<j))
 |.LtE=>some (cmpT fun i j=>decide (i<=j))
 |.Gt=>some (cmpT fun i j=>decide (j<i))
 |.GtE=>some (cmpT fun i j=>decide (j<=i))
 |.Is=>some (isT2 false)
 |.IsNot=>some (isT2 true)
 |.In=>some inT
 |.NotIn=>none
def bltG(f:Str):Option (List T->Option T) :=
 if f="len" then some (g1 lenT) else if f="list" then some (g1 zin) else if f="abs" then some (g1 absT) else
 if f="tuple" then some (g1 tupT) else
 if f="int" then some (g1 intT) else
 if f="str" then some (g1 strT) else
 if f="min" then some (g2 minT) else
 if f="all" then some (g1 allT) else
 if f="any" then some (g1 anyT) else none
def tyName(c:Str):Option String:=if c="int" then some "int" else if c="bool" then some "bool" else if c="str" then some "str" else if c="list" then some "list" else if c="tuple" then some "tuple" else none
def okT:Expr->Bool
 |.IfExp ..=>false
 |.NamedExpr ..=>false
 |_=>true
def nmOf:Expr->Option (Str×Pos)
 |.Name x p=>some (x,p)
 |_=>none
theorem zdb{t:Expr}{x:Str}{p:Pos}(h:nmOf t=some (x,p)):t=.Name x p:=by
 unfold nmOf at h;split at h
 ·cases h;rfl
 ·cases h
def tgNs:List Expr->List Str
 |[]=>[]
 |e::es=>(match nmOf e with
  |some (x,_)=>x::tgNs es
  |none=>tgNs es)
def tgN:Expr->List Str
 |.Name x _=>[x]
 |.Tuple es _ _=>tgNs es
 |_=>[]
def isTupE:Expr->Bool
 |.Tuple ..=>true
 |_=>false
def zf1:Expr->Bool
 |.Slice ..=>true
 |_=>false
def zes(nm:List (Str×NameKind)):List Str:=nm.filterMap fun(y,k)=>if k == .free then some y else none
def cellsN(nm:List (Str×NameKind)):List Str:=nm.filterMap fun(y,k)=>if k == .cell then some y else none
def relabN(inner outer:List (Str×NameKind)):List (Str×NameKind):=inner.map fun(n,k)=>if (k == .free && outer.lookup n == some .cell) then (n,.cell) else (n,k)
def capIx(N:List Str):List Str->Option (List Nat)
 |[]=>some []
 |y::r=>(match ixOf N y with
  |some i=>(match capIx N r with
   |some l=>some (i::l)
   |none=>none)
  |none=>none)
def blkOk(Γ:Gm)(scope:Scope)(N':List Str):Bool :=
 (scope.kind == .function) && scope.names.all (fun x=>!(x.2 == .local) || scope.names.lookup x.1 == some .local) &&
 scope.names.all (fun x=>!(x.2 == .free) || (scope.names.lookup x.1 == some .free && (Γ.nm.lookup x.1 == some .cell || Γ.nm.lookup x.1 == some .free) && !(scope.names.contains (x.1,NameKind.cell)))) &&
 decide N'.Nodup && (cellsN scope.names).all (fun y=>(relabN scope.names Γ.nm).lookup y == some .cell)
def Gm.blk(Γ:Gm)(scope:Scope)(N':List Str):Gm:={ Γ with N:=N',nm:=relabN scope.names Γ.nm,ce:=(cellsN scope.names).filter fun y=>scope.names.lookup y == some .cell,ow:=[],ox:={ Γ.ox with df:=false,nr:=true } }
def dGs(Γ:Gm):List Expr->Option (List T->PSt->Option PSt)
 |[]=>some bNil
 |e::es=>(match nmOf e with
  |some (x,_)=>if Γ.loc x then (match ixOf Γ.N x,dGs Γ es with
   |some i,some b=>some (zbl (bNm i) b)
   |_,_=>none) else none
  |none=>none)
def dG(Γ:Gm):Expr->Option (T->PSt->Option PSt)
 |.Name x _=>if Γ.loc x then (ixOf Γ.N x).map bNm else none
 |.Tuple es _ _=>(dGs Γ es).map (bTup es.length)
 |_=>none
def zic:Expr->Bool
 |.Call ..=>false
 |_=>true
theorem zh7{o:Expr}{f:Str}{env:Env}(h:zic o=true):attributeBase o f env (eval o env)=eval o env:=by
 cases o<;>first|rfl|cases h
theorem meth_tree{o:Expr}{f:Str}{ap pos:Pos}{es:List Expr}{env:Env}(h:zic o=true)(hf:((backTo pos (starEach es env)).all fun x=>!x.1)=true)(hn:es.length<30)(hl:(ap.endLine == pos.line)=true):∃pl:Sem Bool,eval (.Call (.Attribute o f ap) es [] pos) env=(do
   let ov <- eval o env
   standAt ap.atName
   let (f,first) <- holding [ov] (getMethod ov f pl)
   callWith pos f first (backTo pos (starEach es env)) (backToKw pos (keywordEach [] env))):=by
 refine⟨do let b <- importBound o env;pure (b.getD true),?_⟩
 have e:methodCallForm (es.length+([]:List Keyword).length) (backTo pos (starEach es env)) (backToKw pos (keywordEach [] env))=true:=by
  unfold methodCallForm;rw[hf];show(true && true && decide (es.length+0+0<30))=true;rw[decide_eq_true (by omega)];rfl
 rw[arm_eval_Call,zh7 h];unfold methodCall calleeOf methodCallPos;rw[e,hl]
 rfl
def fldA(f:Str)(m:PSt->Option Rs):List (Str×Addr×List Str)->Option (PSt->Option Rs)
 |[]=>none
 |(_,C,fs)::r=>(match fs.findIdx? (· == f) with
  |some j=>(match fldA f m r with
   |some m2=>some (zg3 (zfr C fs j m) m2)
   |none=>some (zfr C fs j m))
  |none=>fldA f m r)
def metA(f:Str)(m:PSt->Option Rs)(ms:PSt->Option RsL):List (Str×Addr×List Str×Fn)->Option (PSt->Option Rs)
 |[]=>none
 |(g,C,fs,F)::r=>if g=f && !(fs.contains f) then (match metA f m ms r with
   |some m2=>some (zg3 (mMeth C fs F.g m ms) m2)
   |none=>some (mMeth C fs F.g m ms))
  else metA f m ms r
def chnF:CmpOp->Option (T->T->Option T)
 |.LtE=>some leT
 |op=>cmpF op
def setOf(f:Str)(e:Expr)(es:List Expr):Option (Expr×Pos×Pos):=if f="len" then (match es with
 |[]=>(match e with
  |.Call g as ks c=>(match nmOf g,as,ks with
   |some (x,p),[a],[]=>if x="set" then some (a,p,c) else none
   |_,_,_=>none)
  |_=>none)
 |_=>none) else none
theorem setOf_is{f:Str}{e a:Expr}{es:List Expr}{p c:Pos}(h:setOf f e es=some (a,p,c)):f="len"/\es=[]/\e=.Call (.Name "set" p) [a] [] c:=by
 unfold setOf at h;split at h
 ·rename_i hf;split at h
  ·split at h
   ·split at h
    ·rename_i hn;split at h
     ·rename_i hx;cases h;rw[zdb hn,hx];exact⟨hf,rfl,rfl⟩
     ·cases h
    ·cases h
   ·cases h
  ·cases h
 ·cases h
def revOf(f:Str)(es:List Expr):Option (Expr×Pos×Pos):=if f="join" then (match es with
 |[.Call g as ks c]=>(match nmOf g,as,ks with
  |some (x,p),[a],[]=>if x="reversed" then some (a,p,c) else none
  |_,_,_=>none)
 |_=>none) else none
theorem revOf_is{f:Str}{a:Expr}{es:List Expr}{p c:Pos}(h:revOf f es=some (a,p,c)):f="join"/\es=[.Call (.Name "reversed" p) [a] [] c]:=by
 unfold revOf at h;split at h
 ·rename_i hf;split at h
  ·split at h
   ·rename_i hn;split at h
    ·rename_i hx;cases h;rw[zdb hn,hx];exact⟨hf,rfl⟩
    ·cases h
   ·cases h
  ·cases h
 ·cases h
def itV(Γ:Gm)(m:PSt->Option Rs):PSt->Option RsL:=if Γ.ox.tx then iTxt m else iVal m
def enV(Γ:Gm)(ms:PSt->Option RsL):PSt->Option RsL:=if Γ.ox.tx then iEnX ms else zhb ms
def isAt:Expr->Bool
 |.Attribute ..=>true
 |_=>false
def slA(Γ:Gm)(ma:PSt->Option Rs)(ml mh:Option (PSt->Option Rs)):PSt->Option Rs:=if Γ.ox.tx then zg3 (mSl ma ml mh) (mSlT ma ml mh) else mSl ma ml mh
def gtN(Γ:Gm):Expr->Bool
 |.Name x _=>Γ.ox.gt.contains x
 |_=>false
noncomputable def ixA(Γ:Gm)(a:Expr)(ma mk:PSt->Option Rs):PSt->Option Rs:=if isAt a || gtN Γ a then mGt ma mk else mIx ma mk
def kyOf(f:Str)(e:Expr)(es:List Expr):Bool:=decide (f="list") && isAt e && es.isEmpty
theorem kyOf_is{f:Str}{e:Expr}{es:List Expr}(h:kyOf f e es=true):f="list"/\es=[]/\isAt e=true:=by
 unfold kyOf at h;simp only[ya1,decide_eq_true_eq,yd3]at h;exact⟨h.1.1,h.2,h.1.2⟩
mutual
def dE:Nat->Gm->Expr->Option (PSt->Option Rs)
  |0,_,_=>none
  |n+1,Γ,e=>match e with
    |.Constant (.int i) _ _=>some (mC (.int i))
    |.Constant (.bool b) _ _=>some (mC (.bl b))
    |.Constant .none _ _=>some (mC .non)
    |.Constant (.str x) _ _=>some (mC (.str x))
    |.Name x _=>(match Γ.var x with
      |some i=>some (za5 i)
      |none=>if zd3 x && glN Γ.nm x then (Γ.ox.co.lookup x).map mC else none)
    |.Attribute o f _=>if zic o then (match dE n Γ o with
      |some m=>fldA f m Γ.ox.cl
      |none=>none) else none
    |.Call (.Attribute o f ap) es [] c=>if !(zic o && ap.endLine == c.line && decide (es.length<30)) then none else
      if (revOf f es).isSome then (match dE n Γ o,(revOf f es).bind (fun z=>dE n Γ z.1) with
        |some m,some mk=>if glN Γ.nm "reversed" && Γ.bl.contains "reversed" && (revOf f es).any (fun z=>zb3 z.1) then some (mJnR m mk) else none
        |_,_=>none) else
      (match dE n Γ o,dA n Γ es with
      |some m,some ms =>
        if f="startswith" then (match es with
          |[k]=>(dE n Γ k).map (mStw m)
          |_=>none)
        else
        if f="split" then (match es with
          |[k]=>(dE n Γ k).map (mSpl m)
          |_=>none)
        else
        if f="join" then (match es with
          |[k]=>(dE n Γ k).map (mJn m)
          |_=>none)
        else
        metA f m ms Γ.ox.mt
      |_,_=>none)
    |.Compare a [op,op'] [b,c] _=>(match chnF op,chnF op',dE n Γ a,dE n Γ b,dE n Γ c with
      |some g,some g',some ma,some mb,some mc=>if lastMarks [op,op'] [b,c] then none else some (mChn g g' ma mb mc)
      |_,_,_,_,_=>none)
    |.BinOp a op b _=>(match opF op,dE n Γ a,dE n Γ b with
      |some g,some ma,some mb=>some (mAp (g2 g) (za0 ma (za0 mb za4)))
      |_,_,_=>none)
    |.UnaryOp .USub a _=>(match dE n Γ a with
      |some ma=>some (mAp (g1 negT) (za0 ma za4))
      |none=>none)
    |.UnaryOp .Not a _=>if okT a then (dE n Γ a).map zjj else none
    |.BoolOp op vs _=>dB n Γ op vs
    |.Compare a [op] [b] _=>(match cmpF op,dE n Γ a,dE n Γ b with
      |some g,some ma,some mb=>if behindInMarks op b then none else some (mAp (g2 g) (za0 ma (za0 mb za4)))
      |_,_,_=>none)
    |.IfExp c a b _=>if okT c then (match dE n Γ c,dE n Γ a,dE n Γ b with
      |some mc,some ma,some mb=>some (mIf mc ma mb)
      |_,_,_=>none) else none
    |.List es _=>(dO n Γ es).map zij
    |.Tuple es _ _=>(dA n Γ es).map mTup
    |.Subscript a k _=>(match k with
      |.Slice lo hi none _=>(match dE n Γ a,dP n Γ lo,dP n Γ hi with
        |some ma,some ml,some mh=>some (slA Γ ma ml mh)
        |_,_,_=>none)
      |_=>if zf1 k then none else (match dE n Γ a,dE n Γ k with
        |some ma,some mk=>some (ixA Γ a ma mk)
        |_,_=>none))
    |.Call (.Name f _) (e::es) [] _ =>
      if zd3 f && glN Γ.nm f then
        (if Γ.bl.contains f then
          (if f="isinstance" then (match es with
            |[.Name c _]=>if glN Γ.nm c && Γ.bl.contains c && zd3 c && zb3 e then (match tyName c,dE n Γ e with
              |some t,some m=>some (mAp (g1 (zgh t)) (za0 m za4))
              |_,_=>none)
              else if glN Γ.nm c && zd3 c && zb3 e then (match Γ.ox.ci.lookup c,dE n Γ e with
              |some C,some m=>some (mAp (g1 (zhl C)) (za0 m za4))
              |_,_=>none)
              else none
            |_=>none)
          else (
            match setOf f e es with
            |some (a,_,_)=>if glN Γ.nm "set" && Γ.bl.contains "set" && zb3 a then (dE n Γ a).map fun m=>mAp (g1 unqT) (za0 m za4) else none
            |none =>
            if kyOf f e es then (dE n Γ e).map (fun m=>zg3 (mAp (g1 zin) (za0 m za4)) (mKys m)) else
            (match bltG f,dA n Γ (e::es) with
              |some g,some ms=>some (mAp g ms)
              |_,_=>none)))
        else
         match Γ.ox.nw.lookup f with
         |some (F,ds)=>(match ds.lookup (e::es).length,dA n Γ (e::es) with
           |some dts,some ms=>some (mNew F.g dts ms)
           |_,_=>none)
         |none =>
         (match Γ.fns.lookup f, dA n Γ (e :: es) with
          |some F,some ms=>some (zat F.g ms)
          |_,_=>none))
      else none
    |.ListComp elt [⟨tg,iter,ifs,0⟩] scope _=>dC n Γ elt tg iter ifs scope
    |_=>none
def dA:Nat->Gm->List Expr->Option (PSt->Option RsL)
 |0,_,_=>none
 |n+1,Γ,es=>match es with
  |[]=>some za4
  |e::es=>if zb3 e then (match dE n Γ e,dA n Γ es with
   |some m,some ms=>some (za0 m ms)
   |_,_=>none) else none
def dO:Nat->Gm->List Expr->Option (PSt->Option RsL)
 |0,_,_=>none
 |n+1,Γ,es=>match es with
  |[]=>some za4
  |e::es=>if zb3 e then (match dE n Γ e,dO n Γ es with
   |some m,some ms=>some (zau m ms)
   |_,_=>none) else none
def dB:Nat->Gm->BoolOp->List Expr->Option (PSt->Option Rs)
 |0,_,_,_=>none
 |n+1,Γ,op,vs=>match vs with
  |[]=>none
  |[a]=>if okT a then dE n Γ a else none
  |a::r=>if okT a then (match op,dE n Γ a,dB n Γ op r with
   |.And,some ma,some mb=>some (mAnd ma mb)
   |.Or,some ma,some mb=>some (mOr ma mb)
   |_,_,_=>none) else none
def dP:Nat->Gm->Option Expr->Option (Option (PSt->Option Rs))
 |0,_,_=>none
 |n+1,Γ,o=>match o with
  |none=>some none
  |some e=>(dE n Γ e).map some
def dC:Nat->Gm->Expr->Expr->Expr->List Expr->Scope->Option (PSt->Option Rs)
 |0,_,_,_,_,_,_=>none
 |n+1,Γ,elt,tg,iter,ifs,scope =>
  if blkOk Γ scope (tgN tg++zes scope.names) then (match capIx Γ.N (zes scope.names),dI n Γ tg iter,dG (Γ.blk scope (tgN tg++zes scope.names)) tg,dE n (Γ.blk scope (tgN tg++zes scope.names)) elt with
   |some caps,some mi,some b,some me=>(match ifs with
    |[]=>some (mLC (tgN tg).length caps mi b (mC (.bl true)) me)
    |[c]=>if okT c then (match dE n (Γ.blk scope (tgN tg++zes scope.names)) c with
     |some mt=>some (mLC (tgN tg).length caps mi b mt me)
     |none=>none) else none
    |_=>none)
   |_,_,_,_=>none) else none
def dI:Nat->Gm->Expr->Expr->Option (PSt->Option RsL)
 |0,_,_,_=>none
 |n+1,Γ,tg,e=>match e with
  |.Call (.Name f _) [a] [] _ =>
   if f="range" then (if glN Γ.nm f && Γ.bl.contains f && zb3 a then (dA n Γ [a]).map zej else none)
   else if f="enumerate" then (if glN Γ.nm f && Γ.bl.contains f && zb3 a && isTupE tg then (dA n Γ [a]).map (enV Γ) else none)
   else (dE n Γ e).map (itV Γ)
  |.Call (.Name f _) [a,b] [] _ =>
   if f="range" then (if glN Γ.nm f && Γ.bl.contains f && zb3 a && zb3 b then (dA n Γ [a,b]).map zg5 else none)
   else (dE n Γ e).map (itV Γ)
  |.Set ..=>none
  |_=>(dE n Γ e).map (itV Γ)
end
def dEb(n:Nat)(Γ:Gm)(e:Expr):Option (PSt->Option Rs):=match e with
    |.Constant (.int i) _ _=>some (mC (.int i))
    |.Constant (.bool b) _ _=>some (mC (.bl b))
    |.Constant .none _ _=>some (mC .non)
    |.Constant (.str x) _ _=>some (mC (.str x))
    |.Name x _=>(match Γ.var x with
      |some i=>some (za5 i)
      |none=>if zd3 x && glN Γ.nm x then (Γ.ox.co.lookup x).map mC else none)
    |.Attribute o f _=>if zic o then (match dE n Γ o with
      |some m=>fldA f m Γ.ox.cl
      |none=>none) else none
    |.Call (.Attribute o f ap) es [] c=>if !(zic o && ap.endLine == c.line && decide (es.length<30)) then none else
      if (revOf f es).isSome then (match dE n Γ o,(revOf f es).bind (fun z=>dE n Γ z.1) with
        |some m,some mk=>if glN Γ.nm "reversed" && Γ.bl.contains "reversed" && (revOf f es).any (fun z=>zb3 z.1) then some (mJnR m mk) else none
        |_,_=>none) else
      (match dE n Γ o,dA n Γ es with
      |some m,some ms =>
        if f="startswith" then (match es with
          |[k]=>(dE n Γ k).map (mStw m)
          |_=>none)
        else
        if f="split" then (match es with
          |[k]=>(dE n Γ k).map (mSpl m)
          |_=>none)
        else
        if f="join" then (match es with
          |[k]=>(dE n Γ k).map (mJn m)
          |_=>none)
        else
        metA f m ms Γ.ox.mt
      |_,_=>none)
    |.Compare a [op,op'] [b,c] _=>(match chnF op,chnF op',dE n Γ a,dE n Γ b,dE n Γ c with
      |some g,some g',some ma,some mb,some mc=>if lastMarks [op,op'] [b,c] then none else some (mChn g g' ma mb mc)
      |_,_,_,_,_=>none)
    |.BinOp a op b _=>(match opF op,dE n Γ a,dE n Γ b with
      |some g,some ma,some mb=>some (mAp (g2 g) (za0 ma (za0 mb za4)))
      |_,_,_=>none)
    |.UnaryOp .USub a _=>(match dE n Γ a with
      |some ma=>some (mAp (g1 negT) (za0 ma za4))
      |none=>none)
    |.UnaryOp .Not a _=>if okT a then (dE n Γ a).map zjj else none
    |.BoolOp op vs _=>dB n Γ op vs
    |.Compare a [op] [b] _=>(match cmpF op,dE n Γ a,dE n Γ b with
      |some g,some ma,some mb=>if behindInMarks op b then none else some (mAp (g2 g) (za0 ma (za0 mb za4)))
      |_,_,_=>none)
    |.IfExp c a b _=>if okT c then (match dE n Γ c,dE n Γ a,dE n Γ b with
      |some mc,some ma,some mb=>some (mIf mc ma mb)
      |_,_,_=>none) else none
    |.List es _=>(dO n Γ es).map zij
    |.Tuple es _ _=>(dA n Γ es).map mTup
    |.Subscript a k _=>(match k with
      |.Slice lo hi none _=>(match dE n Γ a,dP n Γ lo,dP n Γ hi with
        |some ma,some ml,some mh=>some (slA Γ ma ml mh)
        |_,_,_=>none)
      |_=>if zf1 k then none else (match dE n Γ a,dE n Γ k with
        |some ma,some mk=>some (ixA Γ a ma mk)
        |_,_=>none))
    |.Call (.Name f _) (e::es) [] _ =>
      if zd3 f && glN Γ.nm f then
        (if Γ.bl.contains f then
          (if f="isinstance" then (match es with
            |[.Name c _]=>if glN Γ.nm c && Γ.bl.contains c && zd3 c && zb3 e then (match tyName c,dE n Γ e with
              |some t,some m=>some (mAp (g1 (zgh t)) (za0 m za4))
              |_,_=>none)
              else if glN Γ.nm c && zd3 c && zb3 e then (match Γ.ox.ci.lookup c,dE n Γ e with
              |some C,some m=>some (mAp (g1 (zhl C)) (za0 m za4))
              |_,_=>none)
              else none
            |_=>none)
          else (
            match setOf f e es with
            |some (a,_,_)=>if glN Γ.nm "set" && Γ.bl.contains "set" && zb3 a then (dE n Γ a).map fun m=>mAp (g1 unqT) (za0 m za4) else none
            |none =>
            if kyOf f e es then (dE n Γ e).map (fun m=>zg3 (mAp (g1 zin) (za0 m za4)) (mKys m)) else
            (match bltG f,dA n Γ (e::es) with
              |some g,some ms=>some (mAp g ms)
              |_,_=>none)))
        else
         match Γ.ox.nw.lookup f with
         |some (F,ds)=>(match ds.lookup (e::es).length,dA n Γ (e::es) with
           |some dts,some ms=>some (mNew F.g dts ms)
           |_,_=>none)
         |none =>
         (match Γ.fns.lookup f, dA n Γ (e :: es) with
          |some F,some ms=>some (zat F.g ms)
          |_,_=>none))
      else none
    |.ListComp elt [⟨tg,iter,ifs,0⟩] scope _=>dC n Γ elt tg iter ifs scope
    |_=>none
theorem zae{n:Nat}{Γ:Gm}{e:Expr}:dE (n+1) Γ e=dEb n Γ e:=rfl
end Pu
end
set_option Elab.async false
set_option linter.all false
set_option maxRecDepth 100000
namespace Pu
open PySem PySem.Spec PyProof.Rows L2 Zw Zx
structure GxOk(G:Gx)(lv:Nat)(P:Program)(w:World)(K:PySem.W.Frag)(mg:Str->Option Value)(base:Heap)(ca:Str->Value):Prop where
 co:∀x t,G.co.lookup x=some t->∃u v,mg x=some u/\RelV v u/\∀F:Hp,Rp K F F t v R0
 cl:∀c∈G.cl,Cls K c.2.1/\∀f∈c.2.2,zb1 K c.2.1 f
 mt:∀c∈G.mt,c.2.2.2.lv<=lv/\Nonempty (MetX P w K mg base c.2.1 c.1 c.2.2.2.lv c.2.2.2.ps (spP K ca c.2.2.2.g))
 nw:∀x F ds,G.nw.lookup x=some (F,ds)->F.lv+1<=lv/\∃(C:Addr) (D:NewX P w K mg base x C F.lv F.ps (spN K ca C F.g)),∀k dts,ds.lookup k=some dts->∃dvs us,zfn K D.fd F.ps us/\zbc dvs us/\∀H:Hp,Rps K H dts dvs
 sf:∀C fs,G.sf=some (C,fs)->Cls K C/\∀f∈fs,zb1 K C f
 xs:∀W cs,G.xs.lookup W=some cs->∃T:ECls K mg W,∀c C,cs.lookup c=some C->ca c=.ref C/\PySem.W.subIn K (.ref C) (.ref T.C)=some true
 sb:∀D tb,G.sb.lookup D=some tb->∃A:Addr,mg D=some (.ref A)/\∀C b,tb.lookup C=some b->ExcK K C/\PySem.W.kitOne K (.ref C) (.ref A)=some b
 sv:∀D tb,G.sv.lookup D=some tb->mg D=none/\∃t,bootBuiltins D=some (.type t)/\∀C b,tb.lookup C=some b->ExcK K C/\PySem.W.kitOne K (.ref C) (.type t)=some b
 ci:∀x tb,G.ci.lookup x=some tb->∃D:Addr,mg x=some (.ref D)/\∀C b,tb.lookup C=some b->ICls K C/\PySem.W.kitOne K (.ref C) (.ref D)=some b
 x2:∀W1 W2 cs,(W1,W2,cs)∈G.x2->∃(T1:ECls K mg W1) (T2:ECls K mg W2),∀c C,cs.lookup c=some C->ca c=.ref C/\PySem.W.subIn K (.ref C) (.ref T1.C)=some false/\PySem.W.subIn K (.ref C) (.ref T2.C)=some true
structure CxOk(Γ:Gm)(X:Cx)(E:L2.St->XK)(ca:Str->Value):Prop where
 N:X.N=Γ.N
 nd:Γ.N.Nodup
 nm:X.env.scope.names=Γ.nm
 kd:X.env.scope.kind=.function
 calm:X.calm=true
 room:Room Γ.lv X.A
 ce:∀x∈Γ.ce,X.fn x=true/\Γ.nm.lookup x=some .cell
 bl:∀b∈Γ.bl,X.mg b=none
 ps:zbn X E
 po:Γ.ox.nr=false->PassesOwn (model X.prog X.w) X.A X.env X.xe
 md:Γ.ox.nr=false->MadeS X E
 fs:∀f F,Γ.fns.lookup f=some F->F.lv<=Γ.lv/\Nonempty (DefX X.prog X.w X.K X.mg X.base F.lv f F.ps (spP X.K ca F.g))
 ex:∀c∈Γ.ex,∃T:ECls X.K X.mg c,ca c=.ref T.C
 ms:∀f F,Γ.mus.lookup f=some F->F.lv<=Γ.lv/\Nonempty (DefX X.prog X.w X.K X.mg X.base F.lv f F.ps (spM X.K ca F.g))
 gx:GxOk Γ.ox Γ.lv X.prog X.w X.K X.mg X.base ca
 tr:Γ.ox.df=true->X.stack=X.env::X.outer/\X.env.frame=some X.env.locals
 fr:FrOk X
theorem zei{N:List Str}{x:Str}{i:Nat}(h:ixOf N x=some i):N[i]?=some x:=by
 unfold ixOf at h;obtain⟨h1,h2,_⟩:=ybh.mp h;rw[ya2 h1];exact congrArg some (eq_of_beq h2)
theorem zbu{x:Str}(h:zd3 x=true):(x == ("__debug__":Str))=false/\(x == ("__classdict__":Str))=false/\x≠"__name__":=by
 unfold zd3 at h
 simp only[ya1,yb8]at h;exact⟨h.1.1,h.1.2,fun z=>by
  have:=h.2;rw[z]at this;simp at this⟩
theorem visN_iff{sc:Scope}{x:Str}(h:visN sc.names x=true):Vis sc x:=by
 unfold visN at h;simp only[ybf,beq_iff_eq]at h
 rcases h with (h|h)|h
 ·exact .inl h
 ·exact .inr (.inl h)
 ·exact .inr (.inr h)
theorem zb8{e:Expr}{es:List Expr}{env:Env}(h:zb3 e=true):starEach (e::es) env=(false,eval e env)::starEach es env:=by
 cases e<;>first|rfl|cases h
theorem ze9:∀{es:List Expr} {env:Env} {pos:Pos},(∀e∈es,zb3 e=true)->(backTo pos (starEach es env)).any (·.1)=false
 |[],env,pos,_=>rfl
 |e::es,env,pos,h=>by
  rw[zb8 (h e (ya6 ..))];have ih:=ze9 (es:=es) (env:=env) (pos:=pos) fun x hx=>h x (ya5 _ hx)
  show(false || (backTo pos (starEach es env)).any (·.1))=false
  rw[ih]
  rfl
theorem zdd:∀{n:Nat} {Γ:Gm} {es:List Expr} {ms:PSt->Option RsL},dA n Γ es=some ms->∀e∈es,zb3 e=true
 |0,_,_,_,h=>by cases h
 |n+1,Γ,[],_,_=>fun e he=>by cases he
 |n+1,Γ,e::es,ms,h=>by
  unfold dA at h;simp only at h;split at h
  ·rename_i hs;split at h
   ·rename_i m ms' h1 h2;intro x hx;rcases ya3.mp hx with rfl|hx
    ·exact hs
    ·exact zdd h2 x hx
   ·cases h
  ·cases h
section
variable {Γ:Gm}{X:Cx}{E:L2.St->XK}{ca:Str->Value}
theorem CxOk.var(C:CxOk Γ X E ca){x:Str}{i:Nat}{pos:Pos}(h:Γ.var x=some i):X.N[i]?=some x/\Vis X.env.scope x/\(x == ("__debug__":Str))=false/\(x == ("__classdict__":Str))=false:=by
 unfold Gm.var at h;split at h
 ·rename_i hp;rw[ya1]at hp;obtain⟨p1,p2,p3⟩:=zbu hp.1;exact⟨by rw[C.N];exact zei h,visN_iff (by rw[C.nm];exact hp.2),p1,p2⟩
 ·cases h
theorem CxOk.gl(C:CxOk Γ X E ca){x:Str}(h:glN Γ.nm x=true):Gl X x:=by
 unfold glN at h;show X.env.scope.names.lookup x=some .globalImplicit;rw[C.nm];exact eq_of_beq h
theorem CxOk.loc(C:CxOk Γ X E ca){x:Str}{i:Nat}(h:Γ.loc x=true)(hi:ixOf Γ.N x=some i):X.N[i]?=some x/\Loc X.env.scope x/\(X.fn x=true\/X.env.scope.names.lookup x=some .local):=by
 unfold Gm.loc at h;simp only[ya1,ybf,beq_iff_eq]at h;refine⟨by rw[C.N];exact zei hi,?_⟩
 rcases h.2 with h|h
 ·exact⟨.inl (by rw[C.nm];exact h),.inr (by rw[C.nm];exact h)⟩
 ·obtain⟨c1,c2⟩:=C.ce x (yav.mp h);exact⟨.inr (by rw[C.nm];exact c2),.inl c1⟩
theorem CxOk.nodup(C:CxOk Γ X E ca):X.N.Nodup:=by rw[C.N];exact C.nd
theorem loc_nm(C:CxOk Γ X E ca){x:Str}{i:Nat}{pos:Pos}(h1:Γ.loc x=true)(h2:ixOf Γ.N x=some i):PG X (.Name x pos) (tGM X.K (bNm i)):=by
 obtain⟨g1,g2,g3⟩:=C.loc h1 h2;exact g_nm C.nodup g1 g2 g3
theorem dGs_ok(C:CxOk Γ X E ca):∀{es:List Expr} {b:List T->PSt->Option PSt},dGs Γ es=some b->PGs X es (tGMs X.K b)/\(assignEach es X.env).length=es.length/\(assignEach es X.env).findIdx? (·.1)=none
 |[],b,h=>by
  cases h;exact⟨g_nil,rfl,rfl⟩
 |e::es,b,h=>by
  unfold dGs at h;split at h
  ·rename_i x p hn;have hn:=zdb hn;subst hn;split at h
   ·rename_i hl;split at h
    ·rename_i i b' h1 h2;cases h;obtain⟨q1,q2,q3⟩:=dGs_ok C h2;refine⟨g_cons (loc_nm C hl h1) q1 rfl,?_,?_⟩
     ·show(assignEach es X.env).length+1=es.length+1;rw[q2]
     ·show List.findIdx? (·.1) ((false,assign (.Name x p) X.env)::assignEach es X.env)=none
      rw[ydq,q3]
      rfl
    ·cases h
   ·cases h
  ·cases h
theorem dG_ok(C:CxOk Γ X E ca){tg:Expr}{b:T->PSt->Option PSt}(h:dG Γ tg=some b):PG X tg (tGM X.K b):=by
 unfold dG at h;split at h
 ·split at h
  ·rename_i hl;obtain⟨i,hi,rfl⟩:=ya0.mp h;exact loc_nm C hl hi
  ·cases h
 ·obtain⟨bs,hb,rfl⟩:=ya0.mp h;obtain⟨q1,q2,q3⟩:=dGs_ok C hb;exact g_tup C.calm q1 q2 q3
 ·cases h
theorem opF_ok{op:Operator}{g:T->T->Option T}(h:opF op=some g):OpR X (binaryOp op) (rT2 X.K g):=by
 cases op<;>cases h
 ·exact opT_add
 ·exact opT_sub
 ·exact opT_mul
 ·exact opT_mod
 ·exact opT_pow
 ·exact opT_bor
 ·exact opT_band
 ·exact opT_fdiv
theorem cmpF_ok(C:CxOk Γ X E ca){op:CmpOp}{g:T->T->Option T}(h:cmpF op=some g):OpR X (compareOp op) (rT2 X.K g):=by
 have hu:=C.room.units;cases op<;>cases h
 ·exact opT_eq hu
 ·exact opT_ne hu
 ·exact opT_cmp op_lt
 ·exact opT_cmp op_le
 ·exact opT_cmp op_gt
 ·exact opT_cmp op_ge
 ·exact opT_is
 ·exact opT_isNot
 ·exact opT_in hu
theorem chnF_ok(C:CxOk Γ X E ca){op:CmpOp}{g:T->T->Option T}(h:chnF op=some g):OpR X (compareOp op) (rT2 X.K g):=by
 unfold chnF at h;split at h
 ·cases h;exact opT_leT
 ·exact cmpF_ok C h
theorem fldA_ok{L:List (Str×Addr×List Str)}(hL:∀c∈L,Cls X.K c.2.1/\∀f∈c.2.2,zb1 X.K c.2.1 f){f:Str}{m:PSt->Option Rs}{o:Expr}{pos:Pos}(ho:PE X o (tM X.K E ca m))(hb:attributeBase o f X.env (eval o X.env)=eval o X.env):∀{m':PSt->Option Rs},fldA f m L=some m'->PE X (.Attribute o f pos) (tM X.K E ca m'):=by
 induction L with
 |nil=>intro m' h;cases h
 |cons c r ih =>
  obtain⟨nmc,C0,fs⟩:=c;intro m' h;have ih':=@ih (fun c hc=>hL c (ya5 _ hc))
  unfold fldA at h;split at h
  ·rename_i j hj;obtain⟨h1,h2⟩:=hL _ (ya6 ..)
   have hf:f∈fs:=by
    obtain⟨q1,q2,_⟩:=ybh.mp hj;rw[<- eq_of_beq q2];exact yd2 q1
   have p1:PE X (.Attribute o f pos) (tM X.K E ca (zfr C0 fs j m)):=r_fld h1 (h2 f hf) hj ho hb;split at h
   ·rename_i m2 hm2;cases h;exact r_alt p1 (ih' hm2)
   ·cases h;exact p1
  ·exact ih' h
set_option maxHeartbeats 1000001 in
theorem bltG_ok(C:CxOk Γ X E ca){f:Str}{g:List T->Option T}{e:Expr}{es:List Expr}{ms:PSt->Option RsL}{p pos:Pos}(h:bltG f=some g)(hg:glN Γ.nm f=true)(hb:f∈Γ.bl)(ha:PA X (e::es) (tMs X.K E ca ms))(hs:∀x∈e::es,zb3 x=true)(hp:zd3 f=true) :
  PE X (.Call (.Name f p) (e::es) [] pos) (tM X.K E ca (mAp g ms)):=by
 have G:=C.gl hg;have B:=C.bl f hb;obtain⟨p1,p2,p3⟩:=zbu hp;have s1:=zb8 (es:=es) (env:=X.env) (hs e (ya6 ..));have s2:=ze9 (env:=X.env) (pos:=pos) fun x hx=>hs x (ya5 e hx)
 unfold bltG at h;split at h
 ·rename_i hf;subst hf;cases h;exact r_bltF callT_len G B PySem.boot_len ha p3 p1 s1 s2
 split at h
 ·rename_i hf;subst hf;cases h;exact r_bltT callT_list G B ycy ha p3 p1 s1 s2
 split at h
 ·rename_i hf;subst hf;cases h;exact r_bltF callT_abs G B PyProof.Rows.boot_abs ha p3 p1 s1 s2
 split at h
 ·rename_i hf;subst hf;cases h;exact r_bltT callT_tup G B PyProof.Rows.boot_tuple ha p3 p1 s1 s2
 split at h
 ·rename_i hf;subst hf;cases h;exact r_bltT callT_int G B PyProof.Rows.boot_int ha p3 p1 s1 s2
 split at h
 ·rename_i hf;subst hf;cases h;exact r_bltT callT_str G B PyProof.Rows.boot_str ha p3 p1 s1 s2
 split at h
 ·rename_i hf;subst hf;cases h;exact r_bltF (callT_min C.calm) G B PyProof.Rows.boot_min ha p3 p1 s1 s2
 split at h
 ·rename_i hf;subst hf;cases h;exact r_bltF (callT_all C.calm) G B PyProof.Rows.boot_all ha p3 p1 s1 s2
 split at h
 ·rename_i hf;subst hf;cases h;exact r_bltF (callT_any C.calm) G B PyProof.Rows.boot_any ha p3 p1 s1 s2
 ·cases h
theorem tyName_ok{c:Str}{t:String}(h:tyName c=some t):bootBuiltins c=some (.type t):=by
 unfold tyName at h;split at h
 ·rename_i hf;subst hf;cases h;exact PyProof.Rows.boot_int
 split at h
 ·rename_i hf;subst hf;cases h;exact PyProof.Rows.boot_bool
 split at h
 ·rename_i hf;subst hf;cases h;exact PyProof.Rows.boot_str
 split at h
 ·rename_i hf;subst hf;cases h;exact ycy
 split at h
 ·rename_i hf;subst hf;cases h;exact PyProof.Rows.boot_tuple
 ·cases h
theorem capIx_get{N:List Str}:∀{ys:List Str} {caps:List Nat},capIx N ys=some caps->ys.length=caps.length/\∀(k j:Nat),caps[k]?=some j->∃y,ys[k]?=some y/\N[j]?=some y
 |[],caps,h=>by cases h;exact⟨rfl,fun k j e=>by simp at e⟩
 |y::r,caps,h=>by
  unfold capIx at h;split at h
  ·rename_i i hi;split at h
   ·rename_i l hl;cases h;obtain⟨h1,h2⟩:=capIx_get hl;refine⟨by simp[h1],fun k j e=>?_⟩
    cases k with
    |zero=>simp at e;subst e;exact⟨y,rfl,zei hi⟩
    |succ k=>exact h2 k j (by simpa using e)
   ·cases h
  ·cases h
theorem frees_mem{nm:List (Str×NameKind)}{y:Str}(h:y∈zes nm):(y,NameKind.free)∈nm:=by
 unfold zes at h;obtain⟨⟨z,k⟩,hz,e⟩:=ybv.mp h;simp only at e;split at e
 ·rename_i hk;cases e;rw[<- eq_of_beq hk];exact hz
 ·cases e
theorem blk_ok(C:CxOk Γ X E ca){scope:Scope}{tg:Expr}{caps:List Nat}(h:blkOk Γ scope (tgN tg++zes scope.names)=true)(hc:capIx Γ.N (zes scope.names)=some caps):BlkOk X scope (tgN tg++zes scope.names) (tgN tg).length caps:=by
 unfold blkOk at h;simp only[ya1]at h;obtain⟨⟨⟨⟨h1,h2⟩,h3⟩,h4⟩,h5⟩:=h;obtain⟨l1,l2⟩:=capIx_get hc
 have free:∀y∈scope.names,y.2=.free->scope.names.lookup y.1=some .free/\(Γ.nm.lookup y.1=some .cell\/Γ.nm.lookup y.1=some .free)/\(y.1,NameKind.cell)∉scope.names:=fun y hy hf=>by
  have q:=yaz.mp h3 y hy;simp only[hf,beq_self_eq_true,Bool.not_true,ydt,ya1,beq_iff_eq,ybf,yb8]at q;refine⟨q.1.1,q.1.2,fun z=>?_⟩
  have:=yav.mpr z;rw[this]at q;exact Bool.noConfusion q.2
 refine⟨eq_of_beq h1,fun y hy hl=>?_,by simp[l1],fun k j e=>?_,fun y hy hf=>?_⟩
 ·have q:=yaz.mp h2 y hy;simp only[hl,beq_self_eq_true,Bool.not_true,ydt,beq_iff_eq]at q;exact q
 ·obtain⟨y,e1,e2⟩:=l2 k j e;have fm:=frees_mem (ybm e1);obtain⟨f1,_,f3⟩:=free _ fm rfl;refine⟨y,by rw[C.N];exact e2,?_,f1,f3⟩
  rw[yar (by omega)]
  simpa using e1
 ·obtain⟨f1,f2,_⟩:=free y hy hf;refine⟨f1,?_⟩;rw[C.nm];exact f2
theorem relab_eq{scope:Scope}{env:Env}(hk:env.scope.kind=.function):(relabel scope env).names=relabN scope.names env.scope.names:=by
 unfold relabel relabN;simp only;refine List.map_congr_left fun x hx=>?_
 obtain⟨n,k⟩:=x;have e:(env.scope.kind == ScopeKind.function)=true:=by rw[hk];rfl
 simp only[e,ydv]
 rfl
theorem blk_cx(C:CxOk Γ X E ca){scope:Scope}{N':List Str}(h:blkOk Γ scope N'=true)(cl:List (Str×Addr))(A:Addr)(s₀:Shared)(H₀:Hp)(ex:List Addr)(xb:Value->Shared->Prop){E':L2.St->XK}(hp:zbn (za8 X scope cl N' A s₀ H₀ ex xb) E'):CxOk (Γ.blk scope N') (za8 X scope cl N' A s₀ H₀ ex xb) E' ca:=by
 unfold blkOk at h;simp only[ya1]at h;obtain⟨⟨⟨⟨h1,h2⟩,h3⟩,h4⟩,h5⟩:=h;refine⟨rfl,of_decide_eq_true h4,?_,?_,C.calm,C.room,fun x hx=>?_,C.bl,hp,fun z=>(by cases z),fun z=>(by cases z),C.fs,C.ex,C.ms,⟨C.gx.co,C.gx.cl,C.gx.mt,C.gx.nw,C.gx.sf,C.gx.xs,C.gx.sb,C.gx.sv,C.gx.ci,C.gx.x2⟩,fun z=>(by cases z),C.fr⟩
 ·show(relabel scope X.env).names=relabN scope.names Γ.nm;rw[relab_eq C.kd,C.nm]
 ·show scope.kind=.function;exact eq_of_beq h1
 ·have hx':x∈(cellsN scope.names).filter fun y=>scope.names.lookup y == some .cell:=hx
  rw[List.mem_filter]at hx';refine⟨decide_eq_true (eq_of_beq hx'.2),?_⟩;exact eq_of_beq (yaz.mp h5 x hx'.1)
end
structure Good(ca:Str->Value)(n:Nat):Prop where
 e:∀{Γ:Gm} {X:Cx} {E:L2.St->XK} {e:Expr} {m:PSt->Option Rs},CxOk Γ X E ca->dE n Γ e=some m->PE X e (tM X.K E ca m)
 t:∀{Γ:Gm} {X:Cx} {E:L2.St->XK} {e:Expr} {m:PSt->Option Rs},CxOk Γ X E ca->okT e=true->dE n Γ e=some m->PT X e (tMB X.K E ca m)
 a:∀{Γ:Gm} {X:Cx} {E:L2.St->XK} {es:List Expr} {m:PSt->Option RsL},CxOk Γ X E ca->dA n Γ es=some m->PA X es (tMs X.K E ca m)
 o:∀{Γ:Gm} {X:Cx} {E:L2.St->XK} {es:List Expr} {m:PSt->Option RsL},CxOk Γ X E ca->dO n Γ es=some m->PA X es (tMo X.K E ca m)
 b:∀{Γ:Gm} {X:Cx} {E:L2.St->XK} {op:BoolOp} {es:List Expr} {m:PSt->Option Rs} {pos:Pos},CxOk Γ X E ca->dB n Γ op es=some m->PE X (.BoolOp op es pos) (tM X.K E ca m)/\PW X (.BoolOp op es pos) (tMB X.K E ca m)
 p:∀{Γ:Gm} {X:Cx} {E:L2.St->XK} {o:Option Expr} {m:Option (PSt->Option Rs)},CxOk Γ X E ca->dP n Γ o=some m->PO X o (tPo X.K m)
 c:∀{Γ:Gm} {X:Cx} {E:L2.St->XK} {elt tg iter:Expr} {ifs:List Expr} {scope:Scope} {m:PSt->Option Rs} {pos:Pos},CxOk Γ X E ca->dC n Γ elt tg iter ifs scope=some m->PE X (.ListComp elt [⟨tg,iter,ifs,0⟩] scope pos) (tM X.K E ca m)
 i:∀{Γ:Gm} {X:Cx} {E:L2.St->XK} {tg e:Expr} {m:PSt->Option RsL},CxOk Γ X E ca->dI n Γ tg e=some m->PI X tg e (tI X.K E ca m)
end Pu
set_option Elab.async false
set_option linter.all false
set_option maxRecDepth 100000
namespace Pu
open PySem PySem.Spec PyProof.Rows L2 Zw Zx
def notSet:Expr->Bool
 |.Set ..=>false
 |_=>true
theorem fold_ok{e:Expr}{env:Env}(h:notSet e=true)(x:Value):foldedSetIterable e env x=pure x:=by
 cases e<;>first|rfl|cases h
theorem zj7:∀{n:Nat} {Γ:Gm} {tg e:Expr} {m:PSt->Option RsL},dI n Γ tg e=some m->notSet e=true:=by
 intro n Γ tg e m h;cases n with
 |zero=>cases h
 |succ n =>
  cases e with
  |Set es k p=>unfold dI at h;cases h
  |_=>rfl
theorem plain_ix{k:Expr}(h:zf1 k=false):PlainIx k:=fun o i=>by
 cases k<;>first|rfl|cases h
theorem tval_ok{e:Expr}{env:Env}(h:match e with|.UnaryOp ..=>False|.BoolOp ..=>False|.IfExp ..=>False|.Compare ..=>False|_=>True)(whole:Sem Value):isTrue e env whole=(do let v <- whole;standAt e.pos;holding [v] (truthy v)):=by
 cases e<;>first|rfl|exact False.elim h
section
variable {ca:Str->Value}{n:Nat}
theorem dC_parts(G:Good ca n){Γ:Gm}{X:Cx}{E:L2.St->XK}{elt tg iter:Expr}{ifs:List Expr}{scope:Scope}{m:PSt->Option Rs}(C:CxOk Γ X E ca)(h:dC (n+1) Γ elt tg iter ifs scope=some m) :
  ∃caps mi b mt me,m=mLC (tgN tg).length caps mi b mt me/\BlkOk X scope (tgN tg++zes scope.names) (tgN tg).length caps/\PI X tg iter (tI X.K E ca mi) /\
   (∀cl A s₀ H₀ ex xb E',zbn (za8 X scope cl (tgN tg++zes scope.names) A s₀ H₀ ex xb) E'->PG (za8 X scope cl (tgN tg++zes scope.names) A s₀ H₀ ex xb) tg (tGM X.K b))/\(∀cl A s₀ H₀ ex xb E',zbn (za8 X scope cl (tgN tg++zes scope.names) A s₀ H₀ ex xb) E'->PTs (za8 X scope cl (tgN tg++zes scope.names) A s₀ H₀ ex xb) ifs (tMB X.K E' ca mt)) /\
   (∀cl A s₀ H₀ ex xb E',zbn (za8 X scope cl (tgN tg++zes scope.names) A s₀ H₀ ex xb) E'->PE (za8 X scope cl (tgN tg++zes scope.names) A s₀ H₀ ex xb) elt (tM X.K E' ca me))/\∀x,foldedSetIterable iter X.env x=pure x:=by
 unfold dC at h;split at h
 ·rename_i hb;split at h
  ·rename_i caps mi b me h1 h2 h3 h4;have B:=blk_ok C hb h1;have PB:=fun cl A s₀ H₀ ex xb E' hp=>dG_ok (blk_cx C hb cl A s₀ H₀ ex xb (E':=E') hp) h3
   have PEl:=fun cl A s₀ H₀ ex xb E' hp=>G.e (blk_cx C hb cl A s₀ H₀ ex xb (E':=E') hp) h4
   split at h
   ·cases h;exact⟨caps,mi,b,_,me,rfl,B,G.i C h2,PB,fun cl A s₀ H₀ ex xb E' _=>fun pins s σ H Q I q=>pts_nil pins s σ H Q I (tMB_c (K:=X.K) (E:=E') (ca:=ca) q),PEl,fold_ok (zj7 h2)⟩
   ·split at h
    ·rename_i hok;split at h
     ·rename_i mt h5;cases h;exact⟨caps,mi,b,mt,me,rfl,B,G.i C h2,PB,fun cl A s₀ H₀ ex xb E' hp=>pts_one (G.t (blk_cx C hb cl A s₀ H₀ ex xb (E':=E') hp) hok h5),PEl,fold_ok (zj7 h2)⟩
     ·cases h
    ·cases h
   ·cases h
  ·cases h
 ·cases h
theorem good0(ca:Str->Value):Good ca 0:=by
 constructor
 ·intro Γ X E e m C h;cases h
 ·intro Γ X E e m C _ h;cases h
 ·intro Γ X E e m C h;cases h
 ·intro Γ X E e m C h;cases h
 ·intro Γ X E op e m pos C h;cases h
 ·intro Γ X E e m C h;cases h
 ·intro Γ X E elt tg iter ifs scope m pos C h;cases h
 ·intro Γ X E tg e m C h;cases h
theorem dE_cmp(G:Good ca n){Γ:Gm}{X:Cx}{E:L2.St->XK}{a:Expr}{ops:List CmpOp}{bs:List Expr}{pos:Pos}{m:PSt->Option Rs}(C:CxOk Γ X E ca)(h:dE (n+1) Γ (.Compare a ops bs pos)=some m) :
  PE X (.Compare a ops bs pos) (tM X.K E ca m)/\PT X (.Compare a ops bs pos) (tMB X.K E ca m):=by
 cases ops with
 |nil=>rw[zae]at h;unfold dEb at h;cases h
 |cons op r =>
  cases r with
  |cons op' r =>
   cases r with
   |cons _ _=>rw[zae]at h;unfold dEb at h;cases h
   |nil =>
    cases bs with
    |nil=>rw[zae]at h;unfold dEb at h;cases h
    |cons b r =>
     cases r with
     |nil=>rw[zae]at h;unfold dEb at h;cases h
     |cons c r =>
      cases r with
      |cons _ _=>rw[zae]at h;unfold dEb at h;cases h
      |nil =>
       rw[zae]at h;unfold dEb at h;simp only at h;split at h
       ·rename_i g g' ma mb mc h1 h2 h3 h4 h5;split at h
        ·cases h
        ·rename_i hm;cases h;have hm':=yan.mpr hm;exact⟨r_chn (chnF_ok C h1) (chnF_ok C h2) (G.e C h3) (G.e C h4) (G.e C h5) hm',r_tchn (chnF_ok C h1) (chnF_ok C h2) (G.e C h3) (G.e C h4) (G.e C h5) hm'⟩
       ·cases h
  |nil =>
   cases bs with
   |nil=>rw[zae]at h;unfold dEb at h;cases h
   |cons b r =>
    cases r with
    |cons _ _=>rw[zae]at h;unfold dEb at h;cases h
    |nil =>
     rw[zae]at h;unfold dEb at h;simp only at h;split at h
     ·rename_i g ma mb h1 h2 h3;split at h
      ·cases h
      ·rename_i hm;cases h;have hm':=yan.mpr hm;exact⟨r_cmp (cmpF_ok C h1) (G.e C h2) (G.e C h3) hm',r_tcmp (cmpF_ok C h1) (G.e C h2) (G.e C h3) hm'⟩
     ·cases h
theorem lc_dE{n:Nat}{Γ:Gm}{elt:Expr}{gens:List Comprehension}{scope:Scope}{pos:Pos}{m:PSt->Option Rs}(h:dE (n+1) Γ (.ListComp elt gens scope pos)=some m):∃tg iter ifs,gens=[⟨tg,iter,ifs,0⟩]/\dC n Γ elt tg iter ifs scope=some m:=by
 cases gens with
 |nil=>rw[zae]at h;unfold dEb at h;cases h
 |cons g r =>
  obtain⟨tg,iter,ifs,a⟩:=g;cases a with
  |negSucc k=>rw[zae]at h;unfold dEb at h;cases h
  |ofNat k =>
   cases k with
   |succ k=>rw[zae]at h;unfold dEb at h;cases h
   |zero =>
    cases r with
    |cons _ _=>rw[zae]at h;unfold dEb at h;cases h
    |nil=>exact⟨tg,iter,ifs,rfl,by rw[zae]at h;unfold dEb at h;exact h⟩
end
end Pu
set_option Elab.async false
set_option linter.all false
set_option maxRecDepth 100000
namespace Pu
open PySem PySem.Spec PyProof.Rows L2 Zw Zx
section
variable {ca:Str->Value}{n:Nat}
theorem dA_nil{n:Nat}{Γ:Gm}{ms:PSt->Option RsL}(h:dA n Γ []=some ms):ms=za4:=by
 cases n with
 |zero=>cases h
 |succ n=>unfold dA at h;cases h;rfl
theorem metA_ok{Γ:Gm}{X:Cx}{E:L2.St->XK}(C:CxOk Γ X E ca){f:Str}{o:Expr}{es:List Expr}{m:PSt->Option Rs}{ms:PSt->Option RsL}{ap pos:Pos}(hpo:zic o=true)(hln:(ap.endLine == pos.line)=true)(hlen:es.length<30)(hnil:es=[]->ms=za4)(ho:PE X o (tM X.K E ca m))(ha:PA X es (tMs X.K E ca ms))(hst:∀e∈es,zb3 e=true){m':PSt->Option Rs}(h:metA f m ms Γ.ox.mt=some m'):PE X (.Call (.Attribute o f ap) es [] pos) (tM X.K E ca m'):=by
 have key:∀L:List (Str×Addr×List Str×Fn),(∀c∈L,c∈Γ.ox.mt)->∀{m':PSt->Option Rs},metA f m ms L=some m'->PE X (.Call (.Attribute o f ap) es [] pos) (tM X.K E ca m'):=by
  intro L
  induction L with
  |nil=>intro _ m' h;cases h
  |cons c r ih =>
   obtain⟨g,C0,fs,F⟩:=c;intro hL m' h;have ih':=@ih (fun c hc=>hL c (ya5 _ hc))
   unfold metA at h;split at h
   ·rename_i hc;rw[ya1,decide_eq_true_eq,yb8]at hc;obtain⟨rfl,hnf⟩:=hc;obtain⟨hlv,⟨D⟩⟩:=C.gx.mt _ (hL _ (ya6 ..))
    have p1:PE X (.Call (.Attribute o g ap) es [] pos) (tM X.K E ca (mMeth C0 fs F.g m ms)):=by
     obtain⟨pl,ht⟩:=meth_tree (f:=g) (ap:=ap) (pos:=pos) (es:=es) (env:=X.env) hpo (by
      have:=ze9 (env:=X.env) (pos:=pos) hst;rw[yaz];intro z hz;rw[List.any_eq_false]at this
      simpa using this z hz) hlen hln
     cases es with
     |cons e es=>exact r_meth D hnf C.room C.ps ho ha hlv (zb8 (hst e (ya6 ..))) (ze9 fun x hx=>hst x (ya5 e hx)) ht
     |nil =>
      refine PE.weak (pmx0 D C.room C.ps ho hlv ht) fun σ H Q h=>?_
      obtain⟨F,τ,R,S,q⟩:=tM_meth hnf h;refine⟨F,τ,R,S,?_⟩;cases hm:m τ with
      |none=>rw[hm]at q;exact q
      |some r =>
       rw[hm]at q;cases r with
       |x c=>exact q
       |v t b =>
        intro F1 H1 x B e1 g1;obtain⟨a,dx,fs',h1,h2,h3,h4⟩:=q F1 H1 x B e1 g1;refine⟨a,dx,fs',h1,h2,h3,?_⟩;rw[hnil rfl]at h4;exact zfz h4
    split at h
    ·rename_i m2 hm2;cases h;exact r_alt p1 (ih' hm2)
    ·cases h;exact p1
   ·exact ih' h
 exact key _ (fun _ h=>h) h
theorem itV_ok{Γ:Gm}{X:Cx}{E:L2.St->XK}{tg e:Expr}{m:PSt->Option Rs}(h:PE X e (tM X.K E ca m)):PI X tg e (tI X.K E ca (itV Γ m)):=by
 unfold itV;split
 ·exact r_iTxt h
 ·exact r_iVal h
theorem dE_ok(G:Good ca n){Γ:Gm}{X:Cx}{E:L2.St->XK}{e:Expr}{m:PSt->Option Rs}(C:CxOk Γ X E ca)(h:dE (n+1) Γ e=some m):PE X e (tM X.K E ca m)/\(okT e=true->PT X e (tMB X.K E ca m)):=by
 have val:∀{e:Expr} {m:PSt->Option Rs},PE X e (tM X.K E ca m)->(match e with|.UnaryOp ..=>False|.BoolOp ..=>False|.IfExp ..=>False|.Compare ..=>False|_=>True)->PE X e (tM X.K E ca m)/\(okT e=true->PT X e (tMB X.K E ca m)):=fun h1 h2=>⟨h1,fun _=>r_tval h1 (tval_ok h2)⟩
 cases e with
 |Compare a ops bs pos=>exact⟨(dE_cmp G C h).1,fun _=>(dE_cmp G C h).2⟩
 |Constant c k pos =>
  cases c with
  |int i=>rw[zae]at h;unfold dEb at h;cases h;exact val (zib pe_int fun _ _=>.int i) trivial
  |bool b=>rw[zae]at h;unfold dEb at h;cases h;exact val (zib pe_bl fun _ _=>.bl b) trivial
  |none=>rw[zae]at h;unfold dEb at h;cases h;exact val (zib pe_non fun _ _=>.non) trivial
  |str x=>rw[zae]at h;unfold dEb at h;cases h;exact val (zib pe_str fun _ _=>.str x) trivial
  |_=>rw[zae]at h;unfold dEb at h;cases h
 |Name x pos =>
  rw[zae]at h;unfold dEb at h;simp only at h;split at h
  ·rename_i i hi;cases h;obtain⟨h1,h2,h3,h4⟩:=C.var (pos:=pos) hi;exact val (r_var h1 h2 h3 h4) trivial
  ·split at h
   ·rename_i hp;rw[ya1]at hp;obtain⟨t,ht,rfl⟩:=ya0.mp h;obtain⟨u,v,k1,k2,k3⟩:=C.gx.co x t ht;exact val (r_con (C.gl hp.2) k1 k2 (zbu hp.1).1 k3) trivial
   ·cases h
 |Attribute o f pos =>
  rw[zae]at h;unfold dEb at h;simp only at h;split at h
  ·rename_i hpo;split at h
   ·rename_i m1 h1;exact val (fldA_ok C.gx.cl (G.e C h1) (zh7 hpo) h) trivial
   ·cases h
  ·cases h
 |BinOp a op b pos =>
  rw[zae]at h;unfold dEb at h;simp only at h;split at h
  ·rename_i g ma mb h1 h2 h3;cases h;exact val (r_bin (opF_ok h1) (G.e C h2) (G.e C h3)) trivial
  ·cases h
 |UnaryOp op a pos =>
  cases op with
  |USub =>
   rw[zae]at h;unfold dEb at h;simp only at h;split at h
   ·rename_i ma h1;cases h;have hp:=r_un (pos:=pos) unT_neg (G.e C h1);exact⟨hp,fun _=>r_tval hp fun _=>rfl⟩
   ·cases h
  |Not =>
   rw[zae]at h;unfold dEb at h;simp only at h;split at h
   ·rename_i hok;obtain⟨ma,h1,rfl⟩:=ya0.mp h;exact⟨r_not (G.e C h1),fun _=>r_tnot (G.t C hok h1)⟩
   ·cases h
  |_=>rw[zae]at h;unfold dEb at h;cases h
 |BoolOp op vs pos =>
  rw[zae]at h;unfold dEb at h;simp only at h;obtain⟨h1,h2⟩:=G.b (pos:=pos) C h;exact⟨h1,fun _=>h2.pt⟩
 |IfExp c a b pos =>
  rw[zae]at h;unfold dEb at h;simp only at h;split at h
  ·rename_i hok;split at h
   ·rename_i mc ma mb h1 h2 h3;cases h;exact⟨r_ife (G.t C hok h1) (G.e C h2) (G.e C h3),fun z=>by cases z⟩
   ·cases h
  ·cases h
 |List es pos =>
  rw[zae]at h;unfold dEb at h;obtain⟨ms,h1,rfl⟩:=ya0.mp h;exact val (r_lst (G.o C h1)) trivial
 |Tuple es k pos =>
  rw[zae]at h;unfold dEb at h;obtain⟨ms,h1,rfl⟩:=ya0.mp h;exact val (r_tup (G.a C h1)) trivial
 |Subscript a k pos =>
  rw[zae]at h;unfold dEb at h;simp only at h;split at h
  ·rename_i lo hi p2;split at h
   ·rename_i ma ml mh h1 h2 h3;cases h;unfold slA;split
    ·exact val (r_alt (r_slice (G.e C h1) (G.p C h2) (G.p C h3)) (r_sliceT (G.e C h1) (G.p C h2) (G.p C h3))) trivial
    exact val (r_slice (G.e C h1) (G.p C h2) (G.p C h3)) trivial
   ·cases h
  ·split at h
   ·cases h
   ·rename_i hs;split at h
    ·rename_i ma mk h1 h2;cases h;unfold ixA;split
     ·exact val (r_gt (by have:=C.room.units;omega) (G.e C h1) (G.e C h2) (plain_ix (yan.mpr hs))) trivial
     exact val (r_ix (G.e C h1) (G.e C h2) (plain_ix (yan.mpr hs))) trivial
    ·cases h
 |ListComp elt gens scope pos =>
  obtain⟨tg,iter,ifs,rfl,h⟩:=lc_dE h;exact val (G.c C h) trivial
 |Call f args kws pos =>
  cases f with
  |Name f p =>
   cases args with
   |nil=>rw[zae]at h;unfold dEb at h;cases h
   |cons e es =>
    cases kws with
    |cons _ _=>rw[zae]at h;unfold dEb at h;cases h
    |nil =>
     rw[zae]at h;unfold dEb at h;simp only at h;split at h
     ·rename_i hp;rw[ya1]at hp;split at h
      ·rename_i hb;have hb':f∈Γ.bl:=yav.mp hb;split at h
       ·rename_i hf;subst hf;split at h
        ·rename_i c p2;split at h
         ·rename_i hc;simp only[ya1]at hc;split at h
          ·rename_i t m' h1 h2;cases h;obtain⟨q1,q2,q3⟩:=zbu hc.1.2;exact val (r_isT (tyName_ok h1) (C.gl hp.2) (C.bl _ hb') (C.gl hc.1.1.1) (C.bl _ (yav.mp hc.1.1.2)) q3 q1 (G.e C h2) (zb8 hc.2)) trivial
          ·cases h
         ·
          split at h
          ·rename_i hc2;simp only[ya1]at hc2;split at h
           ·rename_i CC m' h1 h2;cases h;obtain⟨_,k1,k2⟩:=C.gx.ci c CC h1;exact val (r_isC k2 (C.gl hp.2) (C.bl _ hb') (C.gl hc2.1.1) k1 (zbu hc2.1.2).1 (G.e C h2) (zb8 hc2.2)) trivial
           ·cases h
          ·cases h
        ·cases h
       ·
        split at h
        ·rename_i a pa pc hst;obtain⟨rfl,rfl,rfl⟩:=setOf_is hst;split at h
         ·rename_i hc;simp only[ya1]at hc;obtain⟨m1,h1,rfl⟩:=ya0.mp h;exact val (r_unq C.calm (C.gl hp.2) (C.bl _ hb') (C.gl hc.1.1) (C.bl _ (yav.mp hc.1.2)) (G.e C h1) (zb8 (es:=[]) (env:=X.env) hc.2)) trivial
         ·cases h
        split at h
        ·rename_i hky;obtain⟨rfl,rfl,hat⟩:=kyOf_is hky;obtain⟨m1,h1,rfl⟩:=ya0.mp h;have hns:zb3 e=true:=by cases e<;>first|rfl|cases hat
         have hst:starEach [e] X.env=[(false,eval e X.env)]:=zb8 (es:=[]) (env:=X.env) hns;have hb1:bltG "list"=some (g1 zin):=by kernel_rfl
         exact val (r_alt (bltG_ok C hb1 hp.2 hb' (r_cons (G.e C h1) r_nil hst) (fun x hx=>by rw[ya8.mp hx];exact hns) hp.1) (r_kys C.calm (C.gl hp.2) (C.bl _ hb') (G.e C h1) hst)) trivial
        split at h
        ·rename_i g ms h1 h2;cases h;exact val (bltG_ok C h1 hp.2 hb' (G.a C h2) (zdd h2) hp.1) trivial
        ·cases h
      ·
       split at h
       ·rename_i F ds hnw;split at h
        ·rename_i dts ms hds h2;cases h;obtain⟨hl,CC,D,hD⟩:=C.gx.nw f F ds hnw;obtain⟨dvs,us,k1,k2,k3⟩:=hD _ _ hds;obtain⟨q1,q2,q3⟩:=zbu hp.1;have hst:=zdd h2;exact val (r_new D k1 k2 k3 C.room C.ps (G.a C h2) hl (C.gl hp.2) q1 (zb8 (hst e (ya6 ..))) (ze9 fun x hx=>hst x (ya5 e hx))) trivial
        ·cases h
       split at h
       ·rename_i F ms h1 h2;cases h;obtain⟨hl,⟨D⟩⟩:=C.fs f F h1;obtain⟨q1,q2,q3⟩:=zbu hp.1;have hst:=zdd h2;exact val (r_call D C.room C.ps (G.a C h2) hl (C.gl hp.2) q1 (zb8 (hst e (ya6 ..))) (ze9 fun x hx=>hst x (ya5 e hx))) trivial
       ·cases h
     ·cases h
  |Attribute o m ap =>
   cases kws with
   |cons _ _=>rw[zae]at h;unfold dEb at h;cases h
   |nil =>
    rw[zae]at h;unfold dEb at h;simp only at h;split at h
    ·cases h
    rename_i hpo;rw[yb8,Bool.not_eq_false,ya1,ya1,decide_eq_true_eq]at hpo;obtain⟨⟨hpo,hl⟩,hlen⟩:=hpo
    by_cases hrv:(revOf m args).isSome=true
    ·rw[if_pos hrv]at h;obtain⟨⟨k,kp,kc⟩,hk⟩:=ycm.mp hrv;rw[hk]at h;obtain⟨hf,he⟩:=revOf_is hk;subst hf;subst he;split at h
     ·rename_i mo mk h1 h2;split at h
      ·rename_i hg;cases h;simp only[ya1,Option.any_some]at hg;exact val (r_jnr C.calm (C.gl hg.1.1) (C.bl _ (yav.mp hg.1.2)) (G.e C h1) (G.e C h2) (zh7 hpo) (zb8 (es:=[]) (env:=X.env) hg.2) hl) trivial
      ·cases h
     ·cases h
    rw[if_neg hrv]at h;split at h
    ·rename_i mo ms h1 h2;split at h
     ·rename_i hf;subst hf;split at h
      ·rename_i k
       ·obtain⟨mk,h3,rfl⟩:=ya0.mp h;exact val (r_stw (G.e C h1) (G.e C h3) (zh7 hpo) (zb8 (es:=[]) (env:=X.env) (zdd h2 k (ya6 ..))) hl) trivial
      ·cases h
     split at h
     ·rename_i hf;subst hf;split at h
      ·rename_i k
       ·obtain⟨mk,h3,rfl⟩:=ya0.mp h;exact val (r_split (G.e C h1) (G.e C h3) (zh7 hpo) (zb8 (es:=[]) (env:=X.env) (zdd h2 k (ya6 ..))) hl) trivial
      ·cases h
     split at h
     ·rename_i hf;subst hf;split at h
      ·rename_i k
       ·obtain⟨mk,h3,rfl⟩:=ya0.mp h;exact val (r_join (G.e C h1) (G.e C h3) (zh7 hpo) (zb8 (es:=[]) (env:=X.env) (zdd h2 k (ya6 ..))) hl) trivial
      ·cases h
     exact val (metA_ok C hpo hl hlen (fun z=>dA_nil (z▸h2)) (G.e C h1) (G.a C h2) (zdd h2) h) trivial
    ·cases h
  |_=>rw[zae]at h;unfold dEb at h;cases h
 |_=>rw[zae]at h;unfold dEb at h;cases h
theorem goodS(G:Good ca n):Good ca (n+1):=by
 constructor
 ·intro Γ X E e m C h;exact(dE_ok G C h).1
 ·intro Γ X E e m C hok h;exact(dE_ok G C h).2 hok
 ·intro Γ X E es m C h;unfold dA at h;cases es with
  |nil=>cases h;exact r_nil
  |cons e es =>
   simp only at h;split at h
   ·rename_i hs;split at h
    ·rename_i m1 ms h1 h2;cases h;exact r_cons (G.e C h1) (G.a C h2) (zb8 hs)
    ·cases h
   ·cases h
 ·intro Γ X E es m C h;unfold dO at h;cases es with
  |nil=>cases h;exact r_nilO
  |cons e es =>
   simp only at h;split at h
   ·rename_i hs;split at h
    ·rename_i m1 ms h1 h2;cases h;exact r_consO (G.e C h1) (G.o C h2) (zb8 hs)
    ·cases h
   ·cases h
 ·intro Γ X E op es m pos C h;unfold dB at h;cases es with
  |nil=>cases h
  |cons a r =>
   cases r with
   |nil =>
    simp only at h;split at h
    ·rename_i hok;refine⟨r_one (G.e C h),?_⟩;cases op with
     |And=>exact r_wone1 (G.t C hok h)
     |Or=>exact r_wone2 (G.t C hok h)
    ·cases h
   |cons b r =>
    simp only at h;split at h
    ·rename_i hok;split at h
     ·rename_i ma mb h1 h2;cases h;obtain⟨b1,b2⟩:=G.b (pos:=pos) C h2;exact⟨r_and (G.e C h1) b1,r_wand (G.t C hok h1) b2⟩
     ·rename_i ma mb h1 h2;cases h;obtain⟨b1,b2⟩:=G.b (pos:=pos) C h2;exact⟨r_or (G.e C h1) b1,r_wor (G.t C hok h1) b2⟩
     ·cases h
    ·cases h
 ·intro Γ X E o m C h;unfold dP at h;cases o with
  |none=>cases h;exact r_po0
  |some e =>
   simp only at h;obtain⟨m1,h1,rfl⟩:=ya0.mp h;exact r_po1 (G.e C h1)
 ·intro Γ X E elt tg iter ifs scope m pos C h;obtain⟨caps,mi,b,mt,me,rfl,B,hi,hg,ht,he,hs⟩:=dC_parts G C h;exact r_lcV B C.calm hi C.ps C.fr hg ht he hs
 ·intro Γ X E tg e m C h
  have gen:∀{m:PSt->Option RsL},(dE n Γ e).map (itV Γ)=some m->PI X tg e (tI X.K E ca m):=fun h=>by
   obtain⟨m1,h1,rfl⟩:=ya0.mp h;exact itV_ok (G.e C h1)
  unfold dI at h;split at h
  ·rename_i f p a pos;split at h
   ·rename_i hf;subst hf;split at h
    ·rename_i hc;simp only[ya1]at hc;obtain⟨ms,h1,rfl⟩:=ya0.mp h;exact r_range1 (C.gl hc.1.1) (C.bl _ (yav.mp hc.1.2)) (G.a C h1) (zb8 hc.2)
    ·cases h
   ·split at h
    ·rename_i hf;subst hf;split at h
     ·rename_i hc;simp only[ya1]at hc;obtain⟨ms,h1,rfl⟩:=ya0.mp h;cases tg with
      |Tuple elts kk tpos =>
       unfold enV;split
       ·exact r_enX (C.gl hc.1.1.1) (C.bl _ (yav.mp hc.1.1.2)) (G.a C h1) (zb8 hc.1.2)
       ·exact r_enum (C.gl hc.1.1.1) (C.bl _ (yav.mp hc.1.1.2)) (G.a C h1) (zb8 hc.1.2)
      |_=>exact Bool.noConfusion hc.2
     ·cases h
    ·exact gen h
  ·rename_i f p a b pos;split at h
   ·rename_i hf;subst hf;split at h
    ·rename_i hc;simp only[ya1]at hc;obtain⟨ms,h1,rfl⟩:=ya0.mp h;have s2:=zb8 (es:=[]) (env:=X.env) hc.2;exact r_range2 (C.gl hc.1.1.1) (C.bl _ (yav.mp hc.1.1.2)) (G.a C h1) (by rw[zb8 hc.1.2,s2];rfl) s2
    ·cases h
   ·exact gen h
  ·cases h
  ·exact gen h
theorem good(ca:Str->Value):∀n,Good ca n
 |0=>good0 ca
 |n+1=>goodS (good ca n)
end
end Pu
set_option Elab.async false
set_option linter.all false
set_option maxRecDepth 100000
namespace Pu
open PySem PySem.Spec PyProof.Rows L2 Zw Zx
structure CxS(Γ:Gm)(X:Cx)(ca:Str->Value):Prop where
 N:X.N=Γ.N
 nd:Γ.N.Nodup
 nm:X.env.scope.names=Γ.nm
 un:X.A.units+64<cLine
 bl:∀b∈Γ.bl,X.mg b=none
 gx:GxOk Γ.ox Γ.lv X.prog X.w X.K X.mg X.base ca
theorem CxS.var{Γ:Gm}{X:Cx}{ca:Str->Value}(C:CxS Γ X ca){x:Str}{i:Nat}(h:Γ.var x=some i):X.N[i]?=some x/\Vis X.env.scope x/\(x == ("__debug__":Str))=false/\(x == ("__classdict__":Str))=false:=by
 unfold Gm.var at h;split at h
 ·rename_i hp;rw[ya1]at hp;obtain⟨p1,p2,p3⟩:=zbu hp.1;exact⟨by rw[C.N];exact zei h,visN_iff (by rw[C.nm];exact hp.2),p1,p2⟩
 ·cases h
theorem CxS.gl{Γ:Gm}{X:Cx}{ca:Str->Value}(C:CxS Γ X ca){x:Str}(h:glN Γ.nm x=true):Gl X x:=by
 unfold glN at h;show X.env.scope.names.lookup x=some .globalImplicit;rw[C.nm];exact eq_of_beq h
end Pu
set_option Elab.async false
set_option linter.all false
set_option maxRecDepth 100000
namespace Pu
open PySem PySem.Spec PyProof.Rows L2 Zw Zx
def pkB:List Str:=["len","isinstance","all","any","abs","min","max","int"]
def isLC:Expr->Bool
 |.ListComp ..=>true
 |_=>false
def zg9:Nat->List Str->Expr->List Str
 |0,_,_=>[]
 |n+1,pk,e =>
  let peek:=fun(x:Expr)=>match x with
   |.Name _ _=>[]
   |x=>zg9 n pk x
  match e with
  |.Name x _=>[x]
  |.BinOp a _ b _=>zg9 n pk a++zg9 n pk b
  |.UnaryOp _ a _=>zg9 n pk a
  |.BoolOp _ vs _=>vs.flatMap (zg9 n pk)
  |.Compare a _ bs _=>peek a++bs.flatMap peek
  |.IfExp c a b _=>zg9 n pk c++zg9 n pk a++zg9 n pk b
  |.Call (.Name f _) args [] _=>if pkB.contains f || pk.contains f then args.flatMap peek else args.flatMap (zg9 n pk)
  |.Call (.Attribute _ _ _) args [] _=>args.flatMap fun a=>if isLC a then zg9 n pk a else []
  |.Subscript a k _=>(match k with
   |.Slice lo hi _ _=>zg9 n pk a++(match lo with|some e=>zg9 n pk e|none=>[])++(match hi with|some e=>zg9 n pk e|none=>[])
   |_=>peek a++zg9 n pk k)
  |.List es _=>es.flatMap (zg9 n pk)
  |.Tuple es _ _=>es.flatMap (zg9 n pk)
  |.ListComp _ [⟨_,iter,_,_⟩] scope _=>zg9 n pk iter++zes scope.names
  |_=>[]
def useS(pk:List Str):Stmt->List Str
 |.Expr (.Call (.Attribute (.Name _ _) _ _) [e] [] _) _=>zg9 40 pk e
 |.Expr e _=>zg9 40 pk e
 |.Return (some (.Name _ _)) _=>[]
 |.Return (some e) _=>zg9 40 pk e
 |.Assign [.Subscript (.Subscript _ k _) j _] e _=>zg9 40 pk k++zg9 40 pk j++zg9 40 pk e
 |.Assign [.Subscript _ k _] e _=>zg9 40 pk k++zg9 40 pk e
 |.Assign [_] e _=>zg9 40 pk e
 |.If c _ _ _=>zg9 40 pk c
 |.For _ it _ _ _=>zg9 40 pk it
 |.While c _ _ _=>zg9 40 pk c
 |_=>[]
def borE(Γ:Gm)(e:Expr)(m:PSt->Option Rs):PSt->Option Rs:=m
section
variable {X:Cx}{E:L2.St->XK}{ca:Str->Value}{Γ:Gm}{m:PSt->Option Rs}{e:Expr}{σ:L2.St}{H:Hp}
theorem tM_borE{Q:VK}(h:tM X.K E ca (borE Γ e m) σ H Q):tM X.K E ca m σ H Q:=h
theorem tMB_borE{Q:Bool->Hp->Prop}(h:tMB X.K E ca (borE Γ e m) σ H Q):tMB X.K E ca m σ H Q:=h
theorem pe_borE(h:PE X e (tM X.K E ca m)):PE X e (tM X.K E ca (borE Γ e m)):=PE.weak h fun σ H Q h=>tM_borE h
theorem pt_borE(h:PT X e (tMB X.K E ca m)):PT X e (tMB X.K E ca (borE Γ e m)):=fun pins s σ H Q I q=>h pins s σ H Q I (tMB_borE q)
end
def focS(Γ:Gm):Stmt->Bool
 |.For _ it body _ _=>(match nmOf it with
  |some (y,_)=>Γ.ox.fo.contains y && (focOf body).isSome
  |none=>false)
 |_=>false
noncomputable def dFoc(n:Nat)(Γ:Gm)(tg it:Expr)(body els:List Stmt):Option (PSt->Option Out):=match nmOf tg,nmOf it,focOf body,els with
 |some (x,_),some (y,_),some (c,b),[]=>if Γ.ox.fo.contains y && Γ.loc x && okT c && !(Γ.mu) then (match Γ.var y,ixOf Γ.N x,dE n Γ c with
   |some i,some j,some mc=>some (sFoC i j mc (.bl b))
   |_,_,_=>none) else none
 |_,_,_,_=>none
theorem dFoc_ok{ca:Str->Value}{n:Nat}{Γ:Gm}{X:Cx}{E:L2.St->XK}{tg it:Expr}{body els:List Stmt}{pos:Pos}{m:PSt->Option Out}(C:CxOk Γ X E ca)(hnr:Γ.ox.nr=false)(h:dFoc n Γ tg it body els=some m):PS X (.For tg it body els pos) (tS X.K E ca Γ.mu m):=by
 have GE:=good ca n;unfold dFoc at h;split at h
 ·rename_i x px y py c b h1 h2 h3;have h1:=zdb h1;have h2:=zdb h2;obtain⟨k,kp,rp,ip,h3⟩:=focOf_is h3;subst h1 h2 h3;split at h
  ·rename_i hc;simp only[ya1,yb8]at hc;obtain⟨⟨⟨c1,c2⟩,c3⟩,c4⟩:=hc;split at h
   ·rename_i i j mc g1 g2 g3;cases h;obtain⟨a1,a2,a3,a4⟩:=C.var (pos:=py) g1;obtain⟨l1,l2,l3⟩:=C.loc c2 g2;rw[c4];exact s_foc (C.po hnr) C.calm (zif a1 a2 a3 a4) (pg_name C.nodup l1 l2 l3) (GE.t C c3 g3) (s_one (s_ret (zib pe_bl fun _ _=>.bl _))) (fun _=>rfl)
   ·cases h
  ·cases h
 ·cases h
def frzs(Γ:Gm)(s:Stmt):List Nat :=
 if focS Γ s then [] else
 ((useS Γ.pk s).filter (Γ.ow.contains ·)).eraseDups.filterMap (ixOf Γ.N)
def frzAll(l:List Nat)(m:PSt->Option Out):PSt->Option Out:=l.foldr (fun i m=>zay (sFrz i) m) m
def zdo:Expr->Bool
 |.ListComp ..=>true
 |.SetComp ..=>true
 |.DictComp ..=>true
 |_=>false
def swp(Γ:Gm)(x:Str)(px:Pos):Expr->Bool
 |.ListComp _ _ scope p=>Γ.nm.lookup x == some .local && px.line == p.line && !(scope.names.any fun(n,k)=>n == x && (k == .local || k == .cell))
 |_=>false
def swn(Γ:Gm)(x:Str):Bool:=Γ.nm.lookup x == some .cell
def sAsg(Γ:Gm)(x:Str)(i:Nat)(m:PSt->Option Rs):PSt->Option Out:=if Γ.ow.contains x then sOwn i m else zd8 m (bNm i)
def sRse(c:Str)(ms:PSt->Option RsL):PSt->Option Out:=fun τ=>match ms τ with
 |some (.v ts _)=>if ts.length<=lim then some (.xc c τ) else none
 |some (.x c)=>some (.xc c τ)
 |none=>none
def par2(Γ:Gm)(x y:Str)(px py:Pos)(a b:Expr):Bool :=
 Γ.nm.lookup x == some .local && Γ.nm.lookup y == some .local && px.line == py.line && !(x == y) && zb3 a && zb3 b && !(foldedForSure 8 a && foldedForSure 8 b) && !(constantsAlone 8 a && constantsAlone 8 b) && zd3 x && zd3 y
def appOf:Expr->Option (Str×Pos×Str×Pos×Expr×Pos)
 |.Call f es ks c=>(match f,es,ks with
  |.Attribute o f a,[e],[]=>(match o with
   |.Name x p=>some (x,p,f,a,e,c)
   |_=>none)
  |_,_,_=>none)
 |_=>none
theorem appOf_is{t:Expr}{x f:Str}{p a c:Pos}{e:Expr}(h:appOf t=some (x,p,f,a,e,c)):t=.Call (.Attribute (.Name x p) f a) [e] [] c:=by
 unfold appOf at h;split at h
 ·split at h
  ·split at h
   ·cases h;rfl
   ·cases h
  ·cases h
 ·cases h
def clrOf:Expr->Option (Str×Pos×Str×Pos×Pos)
 |.Call f es ks c=>(match f,es,ks with
  |.Attribute o f a,[],[]=>(match o with
   |.Name x p=>some (x,p,f,a,c)
   |_=>none)
  |_,_,_=>none)
 |_=>none
theorem clrOf_is{t:Expr}{x f:Str}{p a c:Pos}(h:clrOf t=some (x,p,f,a,c)):t=.Call (.Attribute (.Name x p) f a) [] [] c:=by
 unfold clrOf at h;split at h
 ·split at h
  ·split at h
   ·cases h;rfl
   ·cases h
  ·cases h
 ·cases h
def tupOf:Expr->Option (List Expr×Nat×Pos)
 |.Tuple l k p=>some (l,k,p)
 |_=>none
theorem tupOf_is{t:Expr}{l:List Expr}{k:Nat}{p:Pos}(h:tupOf t=some (l,k,p)):t=.Tuple l k p:=by
 unfold tupOf at h;split at h
 ·cases h;rfl
 ·cases h
def parOf(ts:List Expr)(e:Expr):Option ((Str×Pos)×(Str×Pos)×Expr×Expr×Nat×Pos):=match ts with
 |[t,u]=>(match nmOf t,nmOf u,tupOf e with
  |some x,some y,some (l,k,p)=>(match l with
   |[a,b]=>some (x,y,a,b,k,p)
   |_=>none)
  |_,_,_=>none)
 |_=>none
theorem parOf_is{ts:List Expr}{e a b:Expr}{x y:Str}{px py p:Pos}{k:Nat}(h:parOf ts e=some ((x,px),(y,py),a,b,k,p)):ts=[.Name x px,.Name y py]/\e=.Tuple [a,b] k p:=by
 unfold parOf at h;split at h
 ·split at h
  ·rename_i h1 h2 h3;split at h
   ·cases h;exact⟨by rw[zdb h1,zdb h2],tupOf_is h3⟩
   ·cases h
  ·cases h
 ·cases h
def subOf:Expr->Option ((Str×Pos)×Expr×Pos)
 |.Subscript a k p=>(match nmOf a with
  |some x=>some (x,k,p)
  |none=>none)
 |_=>none
theorem subOf_is{t k:Expr}{x:Str}{q p:Pos}(h:subOf t=some ((x,q),k,p)):t=.Subscript (.Name x q) k p:=by
 unfold subOf at h;split at h
 ·split at h
  ·rename_i h1;cases h;rw[zdb h1]
  ·cases h
 ·cases h
def rseOf(a b:Option Expr):Option (Str×Pos×Expr×List Expr×Pos):=match a,b with
 |some a,none=>(match a with
  |.Call f es ks c=>(match nmOf f,es,ks with
   |some (x,p),e::es,[]=>some (x,p,e,es,c)
   |_,_,_=>none)
  |_=>none)
 |_,_=>none
theorem rseOf_is{a b:Option Expr}{x:Str}{p c:Pos}{e:Expr}{es:List Expr}(h:rseOf a b=some (x,p,e,es,c)):a=some (.Call (.Name x p) (e::es) [] c)/\b=none:=by
 unfold rseOf at h;split at h
 ·split at h
  ·split at h
   ·rename_i h1;cases h;exact⟨by rw[zdb h1],rfl⟩
   ·cases h
  ·cases h
 ·cases h
def isD0:Expr->Bool
 |.Dict ks vs _=>ks.isEmpty && vs.isEmpty
 |_=>false
theorem isD0_is{e:Expr}(h:isD0 e=true):∃p,e=.Dict [] [] p:=by
 unfold isD0 at h;split at h
 ·rename_i ks vs p;rw[ya1]at h;exact⟨p,by rw[yd3.mp h.1,yd3.mp h.2]⟩
 ·cases h
def atOf:Expr->Option ((Str×Pos)×Str×Pos)
 |.Attribute o f p=>(match nmOf o with
  |some x=>some (x,f,p)
  |none=>none)
 |_=>none
theorem atOf_is{t:Expr}{x f:Str}{q p:Pos}(h:atOf t=some ((x,q),f,p)):t=.Attribute (.Name x q) f p:=by
 unfold atOf at h;split at h
 ·split at h
  ·rename_i h1;cases h;rw[zdb h1]
  ·cases h
 ·cases h
noncomputable def dFld(n:Nat)(Γ:Gm)(x f:Str)(e:Expr):Option (PSt->Option Out):=match Γ.ox.sf,Γ.var x with
 |some (C,fs),some i=>(match fs.findIdx? (· == f) with
  |some j=>if (fs.take j).contains f || !(decide (j<900)) || zdo e then none else if isD0 e then some (zhk C fs j i mDicS) else (dE n Γ e).map (zhk C fs j i)
  |none=>none)
 |_,_=>none
noncomputable def dDpf(n:Nat)(Γ:Gm)(x f:Str)(k e:Expr):Option (PSt->Option Out):=match Γ.ox.sf,Γ.var x with
 |some (C,fs),some i=>(match fs.findIdx? (· == f) with
  |some j=>if zf1 k || zdo e then none else (match dE n Γ k,dE n Γ e with
   |some mk,some m=>some (sDpf C fs j i mk m)
   |_,_=>none)
  |none=>none)
 |_,_=>none
noncomputable def dAsg(n:Nat)(Γ:Gm)(t e:Expr):Option (PSt->Option Out):=match t with
    |.Name x px=>if Γ.loc x then (
     match ixOf Γ.N x,dE n Γ e with
      |some i,some m=>if zdo e && !(swp Γ x px e) && !(swn Γ x) then none else some (sAsg Γ x i (borE Γ e m))
      |_,_=>none) else none
    |.Tuple ts kt pt=>(
      match parOf ts e with
      |some ((x,px),(y,py),a,b,_,_)=>if par2 Γ x y px py a b then (match ixOf Γ.N x,ixOf Γ.N y,dA n Γ [a,b] with
        |some i,some j,some ms=>some (sPar i j ms)
        |_,_,_=>none) else none
      |none =>
      if isTupE e || zdo e then none else (match dG Γ (.Tuple ts kt pt),dE n Γ e with
        |some b,some m=>some (zd8 m b)
        |_,_=>none))
    |.Subscript a j _=>(match subOf a with
      |some ((x,_),k,_) =>
        none
      |none=>(match nmOf a with
        |some (x,_)=>if zf1 j || zdo e then none else (match Γ.var x,dE n Γ j,dE n Γ e with
          |some i,some mk,some m=>some (sSto i mk m)
          |_,_,_=>none)
        |none=>(match atOf a with
          |some ((x,_),f,_)=>dDpf n Γ x f j e
          |none=>none)))
    |.Attribute o f _=>(match nmOf o with
      |some (x,_)=>dFld n Γ x f e
      |none=>none)
    |_=>none
mutual
noncomputable def dS:Nat->Gm->Stmt->Option (PSt->Option Out)
  |0,_,_=>none
  |n+1,Γ,s=>match s with
    |.Pass _=>some sNx
    |.Break _=>some sBk
    |.Continue _=>some sCt
    |.Return o _=>(match o with
      |none=>if Γ.mu then some sRetMN else some sRetN
      |some e=>if Γ.mu then (dE n Γ e).map sRetM else (dE n Γ e).map zd7)
    |.Expr e _=>(match appOf e with
      |some (x,_,f,apos,a,cpos)=>if zb3 a && (apos.endLine == cpos.line) then (
       match Γ.var x,dE n Γ a with
        |some i,some m=>if f="append" then some (sApp i m) else
          none
        |_,_=>none) else none
      |none=>(match clrOf e with
        |some (x,_,f,apos,cpos) =>
          none
        |none=>(
          if zdo e then none else (dE n Γ e).map sExp)))
    |.Assign ts e _=>(match ts with
      |[t]=>dAsg n Γ t e
      |_=>none)
    |.AugAssign t op e _=>(match t,op with
      |.Name x _,.Add=>if Γ.loc x && !(Γ.ow.contains x) then (match ixOf Γ.N x,dE n Γ e with
        |some i,some m=>some (sAug i m)
        |_,_=>none) else none
      |_,_=>none)
    |.If c a b _=>(
      if okT c then (match dE n Γ c,dSs n Γ a,dSs n Γ b with
        |some mc,some u,some w=>some (sIf (borE Γ c mc) u w)
        |_,_,_=>none) else none)
    |.For tg it body els _=>if Γ.ox.nr then none else (
      match dFoc n Γ tg it body els with
      |some m=>some m
      |none =>
      (match els with
        |[]=>(match dI n Γ tg it,dG Γ tg,dSs n Γ body with
          |some mi,some b,some u=>some (sFor mi b u)
          |_,_,_=>none)
        |_=>none))
    |.While c body els _=>if Γ.ox.nr then none else (match els with
      |[]=>if okT c then (match dE n Γ c,dSs n Γ body with
        |some mc,some u=>some (sWh mc u)
        |_,_=>none) else none
      |_=>none)
    |.Raise a b _ =>
     (match rseOf a b with
      |some (c,_,e,es,_)=>if !(Γ.ox.nr) && Γ.ex.contains c && glN Γ.nm c && zd3 c then (dA n Γ (e::es)).map (sRse c) else none
      |none=>none)
    |.Try body hs els fin _=>(match hs,els,fin with
      |_,_,_=>none)
    |_=>none
noncomputable def dSs:Nat->Gm->List Stmt->Option (PSt->Option Out)
 |0,_,_=>none
 |n+1,Γ,ss=>match ss with
  |[]=>some sNx
  |[s]=>(match dS n Γ s with
   |some m=>some (frzAll (frzs Γ s) m)
   |none=>if Γ.ox.no then some sNo else none)
  |s::r=>(match dS n Γ s,dSs n Γ r with
   |some m,some ms=>some (frzAll (frzs Γ s) (zay m ms))
   |none,some ms=>if Γ.ox.no then some (zay sNo ms) else none
   |_,none=>none)
end
section
variable {X:Cx}{E:L2.St->XK}{ca:Str->Value}{Γ:Gm}{mu:Bool}
theorem s_frzAll{zfg:List Stmt}{w:PSt->Option Out}(h:PSs X zfg (tS X.K E ca mu w)):∀l:List Nat,PSs X zfg (tS X.K E ca mu (frzAll l w))
 |[]=>h
 |i::r=>s_frz (s_frzAll h r)
theorem zhy{e:Expr}{t:Option Expr}{l:Nat}{env:Env}(h:zdo e=false):swapsWith e t l env=pure false:=by
 cases e<;>first|rfl|cases h
theorem zhg{env:Env}(h:env.scope.kind=.function):env.blockKind=.function:=by
 unfold Env.blockKind;rw[h]
 rfl
theorem swap_yes(C:CxOk Γ X E ca){elt:Expr}{gens:List Comprehension}{scope:Scope}{p px:Pos}{x:Str}{l:Nat}(h:swp Γ x px (.ListComp elt gens scope p)=true):swapsWith (.ListComp elt gens scope p) (some (.Name x px)) l X.env=pure true:=by
 have e:swapsWith (.ListComp elt gens scope p) (some (.Name x px)) l X.env=pure (X.env.blockKind == .function && X.env.kindOf x == some .local && px.line == p.line && !(scope.names.any fun(n,k)=>n == x && (k == .local || k == .cell))):=rfl
 rw[e];unfold swp at h
 simp only[ya1]at h;have k:X.env.kindOf x=some .local:=by
  show X.env.scope.names.lookup x=some .local;rw[C.nm];exact eq_of_beq h.1.1
 rw[zhg C.kd,k,h.1.2,h.2]
 rfl
theorem swap_no(C:CxOk Γ X E ca){e:Expr}{px:Pos}{x:Str}{l:Nat}(h:swn Γ x=true):swapsWith e (some (.Name x px)) l X.env=pure false:=by
 have k:X.env.kindOf x=some .cell:=by
  show X.env.scope.names.lookup x=some .cell;rw[C.nm];exact eq_of_beq h
 have c:(some NameKind.cell == some NameKind.local)=false:=rfl;cases e<;>first|rfl|(unfold swapsWith;simp only[k,c,Bool.and_false,ycq])
theorem stores_yes(C:CxOk Γ X E ca){x y:Str}{px py pt p2:Pos}{kt k2:Nat}{a b:Expr}(h:par2 Γ x y px py a b=true):swappedStores [.Tuple [.Name x px,.Name y py] kt pt] (.Tuple [a,b] k2 p2) X.env=pure (some [x,y]):=by
 unfold par2 at h;simp only[ya1,yb8,beq_iff_eq]at h;obtain⟨⟨⟨⟨⟨⟨⟨⟨⟨h1,h2⟩,h3⟩,h4⟩,h5⟩,h6⟩,h7⟩,h8⟩,_⟩,_⟩:=h
 have kx:X.env.kindOf x=some .local:=by
  show X.env.scope.names.lookup x=some .local;rw[C.nm];exact h1
 have ky:X.env.kindOf y=some .local:=by
  show X.env.scope.names.lookup y=some .local;rw[C.nm];exact h2
 have ed:([x,y]:List Str).eraseDups=[x,y]:=by
  have:(y == x)=false:=by
   rw[beq_eq_false_iff_ne]at h4 ⊢;exact yat h4
  simp[List.eraseDups_cons,this,h4]
 have f1:(if (X.env.kindOf x == some NameKind.local && px.line == px.line)=true then some x else none)=some x:=by rw[kx,beq_self_eq_true,beq_self_eq_true];rfl
 have f2:(if (X.env.kindOf y == some NameKind.local && py.line == px.line)=true then some y else none)=some y:=by rw[ky,beq_self_eq_true,<- h3,beq_self_eq_true];rfl
 unfold swappedStores;dsimp only[List.length,List.any,List.all,List.filterMap,List.head?,Option.map,Option.getD,Expr.pos];simp only[f1,f2,ed];refine(if_neg ?_).trans ((if_neg ?_).trans ((if_neg ?_).trans ((if_neg ?_).trans (if_neg ?_))))
 ·rw[zhg C.kd]
  decide
 ·intro z;rw[yd0,ybf]at z
  rcases z with z|z
  ·cases a<;>first|(cases h5;done)|(cases z;done)
  ·cases b<;>first|(cases h6;done)|(cases z;done)
 ·show ¬ ((2 != 2 || 2 != 2)=true)
  decide
 ·rw[ydv,h7];exact yb4
 ·rw[ydv,h8];exact yb4
theorem sole{t e:Expr}{l:Nat}{env:Env}(h:zdo e=false):swapsWithSole [t] e l env=pure false:=zhy h
theorem sub_asg{o k:Expr}{pos:Pos}{env:Env}(h:zf1 k=false)(v:Value):assign (.Subscript o k pos) env v=(do
   let ov <- holding [v] (eval o env);let iv <- holding [v,ov] (eval k env)
   standAt pos
   holding [v,ov,iv] (setItem ov iv v)
   release [v,ov,iv] []):=by
 cases k<;>first|rfl|cases h
theorem s_lcS{n:Nat}{elt:Expr}{gens:List Comprehension}{scope:Scope}{p px pos:Pos}{x:Str}{i:Nat}{m:PSt->Option Rs}(C:CxOk Γ X E ca)(h:dE n Γ (.ListComp elt gens scope p)=some m)(hw:swp Γ x px (.ListComp elt gens scope p)=true)(hi:ixOf Γ.N x=some i) :
  PS X (.Assign [.Name x px] (.ListComp elt gens scope p) pos) (tS X.K E ca mu (sAsg Γ x i (borE Γ (.ListComp elt gens scope p) m))):=by
 have lx:X.env.scope.names.lookup x=some .local:=by
  unfold swp at hw;simp only[ya1]at hw;rw[C.nm];exact eq_of_beq hw.1.1
 have hN:X.N[i]?=some x:=by rw[C.N];exact zei hi
 have main:PS X (.Assign [.Name x px] (.ListComp elt gens scope p) pos) (fun D σ H=>tM X.K E ca m σ H fun v H1=>D.nx (σ.set i (some v)) H1):=by
  cases n with
  |zero=>cases h
  |succ n =>
   obtain⟨tg,iter,ifs,rfl,h⟩:=lc_dE h;cases n with
   |zero=>cases h
   |succ n =>
    obtain⟨caps,mi,b,mt,me,rfl,B,hi',hg,ht,he,hs⟩:=dC_parts (good ca n) C h;exact r_lcS B C.calm hi' C.ps C.fr hg ht he hs C.nodup hN lx (swap_yes C hw)
 unfold sAsg;split
 ·exact PS.weak main fun D σ H h=>tM_borE (tS_own h)
 ·exact PS.weak main fun D σ H h=>tM_borE (tS_set (g:=gName i) (fun _ _ _ _ z=>gName_of z) h)
theorem s_asg{n:Nat}{e:Expr}{px pos:Pos}{x:Str}{i:Nat}{m:PSt->Option Rs}(C:CxOk Γ X E ca)(hl:Γ.loc x=true)(hi:ixOf Γ.N x=some i)(h:dE n Γ e=some m)(hc:(zdo e && !(swp Γ x px e) && !(swn Γ x))=false) :
  PS X (.Assign [.Name x px] e pos) (tS X.K E ca mu (sAsg Γ x i (borE Γ e m))):=by
 have plain:(∀l,swapsWith e (some (.Name x px)) l X.env=pure false)->PS X (.Assign [.Name x px] e pos) (tS X.K E ca mu (sAsg Γ x i (borE Γ e m))):=fun sw=>by
  obtain⟨g1,g2,g3⟩:=C.loc hl hi;have he:=pe_borE (Γ:=Γ) ((good ca n).e C h);unfold sAsg;split
  ·exact s_ownN C.nodup g1 g2 he (sw _) g3
  ·exact s_setN C.nodup g1 g2 he (sw _) g3
 cases hcomp:zdo e with
 |false=>exact plain fun l=>zhy hcomp
 |true =>
  rw[hcomp]at hc;cases hn:swn Γ x with
  |true=>exact plain fun l=>swap_no C hn
  |false =>
   rw[hn]at hc;have hw:swp Γ x px e=true:=by simpa using hc
   cases e with
   |ListComp elt gens scope p=>exact s_lcS C h hw hi
   |_=>cases hw
theorem s_rse{c:Str}{e:Expr}{es:List Expr}{ms:PSt->Option RsL}{p cpos pos:Pos}(C:CxOk Γ X E ca)(hnr:Γ.ox.nr=false)(hc:c∈Γ.ex)(hg:glN Γ.nm c=true)(hp:zd3 c=true)(ha:PA X (e::es) (tMs X.K E ca ms))(hs:∀x∈e::es,zb3 x=true) :
  PS X (.Raise (some (.Call (.Name c p) (e::es) [] cpos)) none pos) (tS X.K E ca mu (sRse c ms)):=by
 obtain⟨T,hT⟩:=C.ex c hc;obtain⟨p1,p2,p3⟩:=zbu hp;refine PS.weak (ps_raise T C.calm (C.md hnr) ha (C.gl hg) p1 (zb8 (hs e (ya6 ..))) (ze9 hs)) fun D σ H h=>?_
 obtain⟨F,τ,R,S,q⟩:=h;refine⟨F,τ,R,S,?_⟩;unfold sRse at q;cases hm:ms τ with
 |none=>simp only[hm]at q
 |some r =>
  simp only[hm]at q;cases r with
  |x c=>exact fun F' H' e=>q F' H' σ R e.stp0 (S.ext e)
  |v ts b =>
   intro F' H' xs e1 rs
   by_cases hz:ts.length<=lim
   ·simp only[hz,if_true]at q;refine⟨by rw[<- rs.1,<- zdn];exact hz,?_⟩
    have:=q F' H' σ R e1.stp0 (S.ext e1);rw[hT]at this;exact this
   ·simp only[hz,if_false]at q
structure GoodS(ca:Str->Value)(n:Nat):Prop where
 s:∀{Γ:Gm} {X:Cx} {E:L2.St->XK} {st:Stmt} {m:PSt->Option Out},CxOk Γ X E ca->dS n Γ st=some m->PS X st (tS X.K E ca Γ.mu m)
 ss:∀{Γ:Gm} {X:Cx} {E:L2.St->XK} {st:List Stmt} {m:PSt->Option Out},CxOk Γ X E ca->dSs n Γ st=some m->PSs X st (tS X.K E ca Γ.mu m)
end
theorem dAsg_ok{ca:Str->Value}{n:Nat}{Γ:Gm}{X:Cx}{E:L2.St->XK}{t e:Expr}{pos:Pos}{m:PSt->Option Out}(C:CxOk Γ X E ca)(h:dAsg n Γ t e=some m):PS X (.Assign [t] e pos) (tS X.K E ca Γ.mu m):=by
 have GE:=good ca n;unfold dAsg at h;split at h
 ·rename_i x px;split at h
  ·rename_i hl;split at h
   ·rename_i i m1 h1 h2;split at h
    ·cases h
    ·rename_i hc;cases h;exact s_asg C hl h1 h2 (yan.mpr hc)
   ·cases h
  ·cases h
 ·rename_i ts kt pt;split at h
  ·rename_i x px y py a b k2 p2 hpar;obtain⟨rfl,rfl⟩:=parOf_is hpar;split at h
   ·rename_i hp;split at h
    ·rename_i i j ms h1 h2 h3;cases h;have hp':=hp;unfold par2 at hp';simp only[ya1,yb8,beq_iff_eq]at hp';obtain⟨⟨⟨⟨⟨⟨⟨⟨⟨g1,g2⟩,g3⟩,g4⟩,_⟩,_⟩,_⟩,_⟩,_⟩,_⟩:=hp';have e1:X.N[i]?=some x:=by rw[C.N];exact zei h1
     have e2:X.N[j]?=some y:=by rw[C.N];exact zei h2
     have hij:i≠j:=fun z=>by
      subst z;rw[e1]at e2;cases e2;simp at g4
     exact s_par C.calm C.nodup e1 e2 hij (by rw[C.nm];exact g1) (by rw[C.nm];exact g2) (GE.a C h3) (stores_yes C hp) rfl
    ·cases h
   ·cases h
  split at h
  ·cases h
  ·rename_i hc;split at h
   ·rename_i b m1 h1 h2;cases h;have hc':(isTupE e || zdo e)=false:=yan.mpr hc
    rw[ybe]at hc';refine s_setG (GE.e C h2) (dG_ok C h1) ?_ ?_ rfl
    ·exact sole hc'.2
    ·have ht:=hc'.1;cases e<;>first|rfl|cases ht
   ·cases h
 ·rename_i a j p3;split at h
  ·rename_i x p1 k p2 hsub;have hsub:=subOf_is hsub;subst hsub;cases h
  ·split at h
   ·rename_i x p1 hnm;have hnm:=zdb hnm;subst hnm;split at h
    ·cases h
    ·rename_i hc;split at h
     ·rename_i i mk m1 h1 h2 h3;have hc':(zf1 j || zdo e)=false:=yan.mpr hc
      rw[ybe]at hc';obtain⟨v1,v2,v3,v4⟩:=C.var (pos:=p1) h1;cases h;refine s_sto v1 v2 v3 v4 (GE.e C h3) (GE.e C h2) (sole hc'.2) ?_ (sub_asg hc'.1);cases e<;>rfl
     ·cases h
   ·split at h
    ·rename_i x p1 f p2 hat;have hat:=atOf_is hat;subst hat;unfold dDpf at h;split at h
     ·rename_i CC fs i hsf hv;split at h
      ·rename_i jj hj;split at h
       ·cases h
       ·rename_i hc;have hc':(zf1 j || zdo e)=false:=yan.mpr hc
        rw[ybe]at hc';split at h
        ·rename_i mk m1 h1 h2;cases h;obtain⟨v1,v2,v3,v4⟩:=C.var (pos:=p1) hv;obtain⟨k1,k2⟩:=C.gx.sf CC fs hsf
         have hf:f∈fs:=by
          obtain⟨q1,q2,_⟩:=ybh.mp hj;rw[<- eq_of_beq q2];exact yd2 q1
         refine s_dpf (by have:=C.room.units;omega) k1 (k2 f hf) hj v1 v2 v3 v4 (GE.e C h2) (GE.e C h1) (sole hc'.2) ?_ (sub_asg hc'.1)
         cases e<;>rfl
        ·cases h
      ·cases h
     ·cases h
    ·cases h
 ·rename_i o f p2;split at h
  ·rename_i x p1 hn;have hn:=zdb hn;subst hn;unfold dFld at h;split at h
   ·rename_i CC fs i hsf hv;split at h
    ·rename_i jj hj;split at h
     ·cases h
     ·rename_i hc;have hc':((fs.take jj).contains f || !(decide (jj<900)) || zdo e)=false:=yan.mpr hc
      rw[ybe,ybe,Bool.not_eq_false',decide_eq_true_eq]at hc';obtain⟨⟨c1,c2⟩,c3⟩:=hc';obtain⟨v1,v2,v3,v4⟩:=C.var (pos:=p1) hv;obtain⟨k1,k2⟩:=C.gx.sf CC fs hsf;obtain⟨q1,q2,_⟩:=ybh.mp hj
      have hf:f∈fs:=by
       rw[<- eq_of_beq q2];exact yd2 q1
      have hg:fs[jj]?=some f:=by rw[ya2 q1];exact congrArg some (eq_of_beq q2)
      split at h
      ·rename_i h0;obtain⟨p0,rfl⟩:=isD0_is h0;cases h;exact s_fldA k1 (k2 f hf) hg c1 c2 v1 v2 v3 v4 r_dicS rfl
      ·obtain⟨m1,h1,rfl⟩:=ya0.mp h;exact s_fldA k1 (k2 f hf) hg c1 c2 v1 v2 v3 v4 (GE.e C h1) (zhy c3)
    ·cases h
   ·cases h
  ·cases h
 ·cases h
theorem dS_ok{ca:Str->Value}{n:Nat}(G:GoodS ca n){Γ:Gm}{X:Cx}{E:L2.St->XK}{st:Stmt}{m:PSt->Option Out}(C:CxOk Γ X E ca)(h:dS (n+1) Γ st=some m):PS X st (tS X.K E ca Γ.mu m):=by
 have GE:=good ca n;unfold dS at h;split at h
 ·cases h;exact s_pass
 ·cases h;exact s_break
 ·cases h;exact s_continue
 ·split at h
  ·split at h
   ·rename_i hmu;cases h;rw[hmu];exact s_retMN
   ·rename_i hmu;cases h;rw[yan.mpr hmu];exact s_retN
  ·split at h
   ·rename_i hmu;obtain⟨m1,h1,rfl⟩:=ya0.mp h;rw[hmu];exact s_retM (GE.e C h1)
   ·rename_i hmu;rw[yan.mpr hmu];obtain⟨m1,h1,rfl⟩:=ya0.mp h;exact s_ret (GE.e C h1)
 ·split at h
  ·rename_i x p f apos e cpos happ;have happ:=appOf_is happ;subst happ;split at h
   ·rename_i hc;rw[ya1]at hc;split at h
    ·rename_i i m1 h1 h2;obtain⟨v1,v2,v3,v4⟩:=C.var (pos:=p) h1;have s1:=zb8 (es:=[]) (env:=X.env) hc.1;split at h
     ·rename_i hf;subst hf;cases h;exact s_app v1 v2 v3 v4 (GE.e C h2) s1 hc.2
     ·cases h
    ·cases h
   ·cases h
  ·split at h
   ·rename_i x p f apos cpos hclr;have hclr:=clrOf_is hclr;subst hclr;cases h
   ·
    split at h
    ·cases h
    ·rename_i hc;obtain⟨m1,h1,rfl⟩:=ya0.mp h;exact s_exp (GE.e C h1) (zhy (yan.mpr hc))
 ·split at h
  ·exact dAsg_ok C h
  ·cases h
 ·split at h
  ·split at h
   ·rename_i hl;rw[ya1]at hl;split at h
    ·rename_i i m1 h1 h2;cases h;obtain⟨g1,g2,g3⟩:=C.loc hl.1 h1;exact s_aug C.nodup g1 g2 (GE.e C h2) g3
    ·cases h
   ·cases h
  ·cases h
 ·rename_i c a b pos;split at h
  ·rename_i hok;split at h
   ·rename_i mc u w h1 h2 h3;cases h;exact s_if (pt_borE (GE.t C hok h1)) (G.ss C h2) (G.ss C h3)
   ·cases h
  ·cases h
 ·split at h
  ·cases h
  rename_i hnr;split at h
  ·rename_i hf;cases h;exact dFoc_ok C (yan.mpr hnr) hf
  split at h
  ·split at h
   ·rename_i mi b u h1 h2 h3;cases h;exact s_for (C.po (yan.mpr hnr)) C.calm (GE.i C h1) (dG_ok C h2) (G.ss C h3) (fold_ok (zj7 h1))
   ·cases h
  ·cases h
 ·split at h
  ·cases h
  rename_i hnr;split at h
  ·split at h
   ·rename_i hok;split at h
    ·rename_i mc u h1 h2;cases h;exact s_wh (C.po (yan.mpr hnr)) (GE.t C hok h1) (G.ss C h2)
    ·cases h
   ·cases h
  ·cases h
 ·
  split at h
  ·rename_i c p e es cpos hr;obtain⟨rfl,rfl⟩:=rseOf_is hr;split at h
   ·rename_i hc;simp only[ya1,yb8]at hc;obtain⟨ms,h1,rfl⟩:=ya0.mp h;exact s_rse C hc.1.1.1 (yav.mp hc.1.1.2) hc.1.2 hc.2 (GE.a C h1) (zdd h1)
   ·cases h
  ·cases h
 ·rename_i body hs els fin pos;split at h
  ·cases h
 ·cases h
theorem goodSt(ca:Str->Value):∀n,GoodS ca n
 |0=>⟨(fun C h=>by cases h),(fun C h=>by cases h)⟩
 |n+1=>by
  have G:=goodSt ca n;refine⟨fun C h=>dS_ok G C h,fun {Γ X E st m} C h=>?_⟩
  unfold dSs at h;cases st with
  |nil=>cases h;exact s_nil
  |cons s r =>
   cases r with
   |nil =>
    simp only at h;split at h
    ·rename_i m1 h1;cases h;exact s_frzAll (s_one (G.s C h1)) _
    ·split at h
     ·cases h;exact s_one s_no
     ·cases h
   |cons s2 r =>
    simp only at h;split at h
    ·rename_i m1 ms h1 h2;cases h;exact s_frzAll (s_cons (G.s C h1) (G.ss C h2)) _
    ·rename_i ms h1 h2;split at h
     ·cases h;exact s_cons s_no (G.ss C h2)
     ·cases h
    ·cases h
def runF(n:Nat)(u:PSt->Option Out)(ts:List T):Option Ru:=match u (ts.map some++List.replicate (n - ts.length) none) with
 |some (.rt t)=>some (.ok t)
 |some (.nx _)=>some (.ok .non)
 |some (.xc c _)=>some (.exc c)
 |_=>none
def zfp(k n:Nat)(u:PSt->Option Out)(ts:List T):Option Ru:=if ts.length=k then runF n u ts else none
theorem stp_ext{F H F' H':Hp}{O':Rg}{R:Nat->Rg}(hR:∀i a,¬ R i a)(s:Stp F H (tot R) F' H' O'):Ext F H F' H' O' where
 hh:=fun b u e=>s.kp b u (fun⟨i,z⟩=>hR i b z) e
 ff:=s.ff
 fh:=s.fh
 nb:=fun b z=>(s.nw b z).elim (fun⟨i,w⟩=>absurd w (hR i b)) id
 nf:=fun b u e=>(s.nf b u e).elim .inl fun z=>z.elim (fun⟨i,w⟩=>absurd w (hR i b)) .inr
theorem start_st{K:PySem.W.Frag}{F H:Hp}{N:List Str}{ts:List T}{vs:List V}(fh:zbh F H)(r:Rps K F ts vs):StR K F H (start N vs) (ts.map some++List.replicate (N.length - ts.length) none) (fun _=>R0):=by
 have hl:=r.1;refine⟨fh,by simp[L2.start,hl],fun i t e=>?_,fun _ _ z=>z.elim,fun _ _ _ _ z=>z.elim⟩
 unfold L2.start
 by_cases hi:i<ts.length
 ·rw[yap (by simpa using hi),yae]at e
  obtain⟨t',e1,e2⟩:=ya0.mp e;cases e2;have hv:i<vs.length:=by omega
  refine⟨vs[i],?_,(r.2 i t vs[i] e1 (ya2 hv)).any⟩;rw[yap (by simpa using hv),yae,ya2 hv]
  rfl
 ·rw[yar (by simp;omega)]at e
  obtain⟨h1,h2⟩:=ya7.mp e;simp at h2
theorem zd6{P:Program}{w:World}{K:PySem.W.Frag}{mg:Str->Option Value}{base:Heap}{ca:Str->Value}{x qual:Str}{st:Stmt}{f:Addr}{fd:FuncData}{N ps:List Str}{k n:Nat}{Γ:Gm}{u:PSt->Option Out}(F:FunD K x qual st f fd)(S:FnScope N ps (za3 st))
  (hΓ:Γ.N=N) (hnm:Γ.nm=(za3 st).names) (hce:∀x∈Γ.ce,Γ.nm.lookup x=some .cell) (hlv:Γ.lv=k) (hbl:∀b∈Γ.bl,mg b=none)
  (hfs:∀f F,Γ.fns.lookup f=some F->F.lv<=k/\Nonempty (DefX P w K mg base F.lv f F.ps (spP K ca F.g))) (hex:∀c∈Γ.ex,∃T:ECls K mg c,ca c=.ref T.C)
  (hms:∀f F,Γ.mus.lookup f=some F->F.lv<=k/\Nonempty (DefX P w K mg base F.lv f F.ps (spM K ca F.g))) (hmu:Γ.mu=false) (hgx:GxOk Γ.ox k P w K mg base ca) (hu:dSs n Γ (zad st)=some u):FnOk P w K mg base (CX1 P w) (k+1) f fd ps (spP K ca (zfp ps.length N.length u)):=by
 refine okX F S (fun vs H Q E h=>?_) fun cdv A outer s H vs Q E hr h=>?_
 ·obtain⟨F',ts,_,r,q⟩:=h;unfold zfp at q
  by_cases hl:ts.length=ps.length
  ·rw[<- r.1,hl]
  ·simp only[hl,if_false]at q
 ·have C:CxOk Γ (cxOf (CX1 P w) P w K mg base N qual (za3 st) f cdv A outer s H E) (fun _=>E) ca:=by
   refine⟨hΓ.symm,by rw[hΓ];exact S.nd,hnm.symm,S.kind,rfl,by rw[hlv];exact hr,fun y hy=>⟨rfl,hce y hy⟩,hbl,passD,fun _=>PassesOwn.leaving,fun _=>madeD,fun f F e=>by rw[hlv];exact hfs f F e,hex,fun f F e=>by rw[hlv];exact hms f F e,by rw[hlv];exact hgx,fun _=>⟨rfl,rfl⟩,⟨_,_,rfl,rfl⟩⟩
  have G:=(goodSt ca n).ss C hu;rw[hmu]at G;refine⟨_,G,?_⟩;obtain⟨F',ts,fh,r,q⟩:=h;refine⟨F',_,_,start_st fh r,?_⟩;unfold zfp at q
  by_cases hl:ts.length=ps.length
  ·simp only[hl,if_true]at q;unfold runF at q;cases ho:u (ts.map some++List.replicate (N.length - ts.length) none) with
   |none=>simp only[ho]at q
   |some o =>
    simp only[ho]at q;cases o with
    |nx τ=>exact fun F1 H1 σ1 R1 s1 S1=>q F1 H1 .non R0 ((stp_ext (fun _ _ z=>z) s1).mono fun _ z=>z.elim) .non
    |rt t=>exact fun F1 H1 x B s1 r1=>q F1 H1 x B (stp_ext (fun _ _ z=>z) s1) r1
    |bk τ=>exact q.elim
    |ct τ=>exact q.elim
    |xc c τ=>exact fun F1 H1 σ1 R1 s1 S1=>q F1 H1 ((stp_ext (fun _ _ z=>z) s1).mono fun _ z=>z.elim)
  ·simp only[hl,if_false]at q
def runM(k n:Nat)(u:PSt->Option Out)(ts:List T):Option Ru:=if ts.length=k then (match u (ts.map some++List.replicate (n - ts.length) none) with
 |some (.rt t)=>some (.ok t)
 |some (.nx τ)=>(match retAt .non τ with
  |some (.rt t)=>some (.ok t)
  |_=>none)
 |some (.xc c _)=>some (.exc c)
 |_=>none) else none
theorem start_stM{K:PySem.W.Frag}{F H:Hp}{N:List Str}{t0:T}{ts:List T}{x0:V}{vs:List V}{A:Rg}(fh:zbh F H)(r0:Rp K F H t0 x0 A)(r:Rps K F ts vs):StR K F H (start N (x0::vs)) ((t0::ts).map some++List.replicate (N.length - (t0::ts).length) none) (fun i=>if i=0 then A else R0):=by
 have hl:=r.1;refine⟨fh,by simp[L2.start,hl],fun i t e=>?_,fun i a z=>?_,fun i j a hij z1 z2=>?_⟩
 ·unfold L2.start
  by_cases hi:i<(t0::ts).length
  ·rw[yap (by simpa using hi),yae]at e
   obtain⟨t',e1,e2⟩:=ya0.mp e;cases e2;cases i with
   |zero =>
    cases e1;exact⟨x0,by simp,r0⟩
   |succ i =>
    have hi':i<ts.length:=by simpa using hi
    have hv:i<vs.length:=by omega
    refine⟨vs[i],?_,(r.2 i t vs[i] (by simpa using e1) (ya2 hv)).any⟩
    rw[yap (by simpa using hv),yae,ycs,ya2 hv]
    rfl
  ·rw[yar (by simp at hi ⊢;omega)]at e
   obtain⟨h1,h2⟩:=ya7.mp e;simp at h2
 ·by_cases hi:i=0
  ·subst hi;exact⟨t0,rfl⟩
  ·simp only[hi,if_false]at z;exact z.elim
 ·by_cases hi:i=0
  ·have hj:¬ j=0:=fun z=>hij (hi.trans z.symm)
   simp only[hj,if_false]at z2;exact z2
  ·simp only[hi,if_false]at z1;exact z1
theorem tot_one{A:Rg}:tot (fun i=>if i=0 then A else R0)=A:=funext fun a=>propext ⟨fun⟨i,z⟩=>by
 by_cases hi:i=0
 ·simp only[hi,if_true]at z;exact z
 ·simp only[hi,if_false]at z;exact z.elim,fun z=>⟨0,by simpa using z⟩⟩
end Pu
set_option Elab.async false
set_option linter.all false
set_option maxRecDepth 100000
namespace Pu
open PySem PySem.Spec PyProof.Rows L2 Zw Zx
theorem za1{α:Type}{P:α->Prop}:∀x∈([]:List α),P x:=fun _ h=>by cases h
theorem all_cons{α:Type}{P:α->Prop}{a:α}{l:List α}(h:P a)(r:∀x∈l,P x):∀x∈a::l,P x:=fun x hx=>by
 obtain rfl|hx:=ya3.mp hx
 ·exact h
 ·exact r x hx
theorem usN{P:List Value->Prop}(h:P []):∀us:List Value,us.length=0->P us:=fun us e=>by
 cases us with
 |nil=>exact h
 |cons a r=>cases e
theorem usS{P:List Value->Prop}{k:Nat}(h:∀a us,us.length=k->P (a::us)):∀us:List Value,us.length=k+1->P us:=fun us e=>by
 cases us with
 |nil=>cases e
 |cons a r=>exact h a r (Nat.succ.inj e)
theorem us1{P:List Value->Prop}(h:∀a,P [a]):∀us:List Value,us.length=1->P us:=usS fun a=>usN (h a)
theorem us2{P:List Value->Prop}(h:∀a b,P [a,b]):∀us:List Value,us.length=2->P us:=usS fun a=>usS fun b=>usN (h a b)
theorem us3{P:List Value->Prop}(h:∀a b c,P [a,b,c]):∀us:List Value,us.length=3->P us:=usS fun a=>usS fun b=>usS fun c=>usN (h a b c)
theorem us4{P:List Value->Prop}(h:∀a b c d,P [a,b,c,d]):∀us:List Value,us.length=4->P us:=usS fun a=>usS fun b=>usS fun c=>usS fun d=>usN (h a b c d)
theorem us5{P:List Value->Prop}(h:∀a b c d e,P [a,b,c,d,e]):∀us:List Value,us.length=5->P us:=usS fun a=>usS fun b=>usS fun c=>usS fun d=>usS fun e=>usN (h a b c d e)
section
variable {P:Program}{w:World}{K:PySem.W.Frag}{mg:Str->Option Value}{base:Heap}{ca:Str->Value}{k:Nat}
theorem zan:∀f F,([]:List (Str×Fn)).lookup f=some F->F.lv<=k/\Nonempty (DefX P w K mg base F.lv f F.ps (spP K ca F.g)):=fun _ _ h=>by cases h
theorem zaa{x:Str}{F0:Fn}{l:List (Str×Fn)}(hk:F0.lv<=k)(D:DefX P w K mg base F0.lv x F0.ps (spP K ca F0.g))(r:∀f F,l.lookup f=some F->F.lv<=k/\Nonempty (DefX P w K mg base F.lv f F.ps (spP K ca F.g))) :
  ∀f F,((x,F0)::l).lookup f=some F->F.lv<=k/\Nonempty (DefX P w K mg base F.lv f F.ps (spP K ca F.g)):=fun f F h=>by
 rw[yaq]at h;cases hf:f == x with
 |true =>
  rw[hf]at h;cases h;rw[eq_of_beq hf];exact⟨hk,⟨D⟩⟩
 |false=>rw[hf]at h;exact r f F h
theorem zal:∀f F,([]:List (Str×Fn)).lookup f=some F->F.lv<=k/\Nonempty (DefX P w K mg base F.lv f F.ps (spM K ca F.g)):=fun _ _ h=>by cases h
def spLaw(K:PySem.W.Frag):Sp:=fun vs H Q _=>∃(a:Addr) (ns:List Int),vs=[.ref a]/\SqL K H a (ns.map V.int)/\ns.length<=63/\∀H',Q (.bl true) H'
def za7(ns:List Int):T:=.nd false .rl (ns.map T.int)
theorem rps_ints{F:Hp}:∀ns:List Int,Rps K F (ns.map T.int) (ns.map V.int)
 |[]=>.nil
 |n::r=>.cons (H:=F) (.int n) (rps_ints r)
theorem law_fn{R:List T->Option Ru}{f:Addr}{fd:FuncData}(F:FnOk P w K mg base (CX1 P w) k f fd ["_law_script"] (spP K ca R))(h:∀ns:List Int,ns.length<=63->R [za7 ns]=some (.ok (.bl true))):FnOk P w K mg base CX0 k f fd ["_law_script"] (spLaw K):=by
 refine⟨fun vs H Q E hs=>?_,fun A outer s H args us vs Q E hr e0 hb hv hs=>?_⟩
 ·obtain⟨a,ns,rfl,_⟩:=hs
  rfl
 ·obtain⟨a,ns,rfl,hq,h63,q⟩:=hs;refine codeAny_mono (F.run A outer s H args us _ Q E0 hr e0 hb hv ⟨H,[za7 ns],.refl _,.cons (H:=H) (Rps.of_node (k:=.rl) hq (rps_ints ns)) .nil,?_⟩) fun r s' hx=>?_
  ·rw[h ns h63];intro F' H' z C e r;rw[r.bl_inv];exact q H'
  ·cases r with
   |error v =>
    obtain⟨_,_,_,_,_,_,_,_,_,_,_,_,_,z⟩:=hx;exact z.elim
   |ok fl=>cases fl<;>exact hx
end
end Pu
set_option Elab.async false
set_option linter.all false
set_option maxRecDepth 100000
namespace Pu
open PySem PySem.Spec PyProof.Rows L2 Zw Zx
end Pu
set_option Elab.async false
set_option linter.all false
set_option maxRecDepth 100000
namespace Pu
open PySem PySem.Spec PyProof.Rows L2 Zw Zx
def runI0(C:Addr)(fs:List Str)(k n:Nat)(u:PSt->Option Out)(p:Addr)(ts:List T):Option Ru:=if ts.length+1=k then (match u ((T.oob p C fs []::ts).map some++List.replicate (n - (ts.length+1)) none) with
 |some (.nx τ)=>(match oobAt τ 0 C fs with
  |some (q,l)=>if q=p then some (.ok (.obj (.ins C fs) (zb0 l))) else none
  |none=>none)
 |some (.xc c _)=>some (.exc c)
 |_=>none) else none
open Classical in
noncomputable def runI(C:Addr)(fs:List Str)(k n:Nat)(u:PSt->Option Out)(ts:List T):Option Ru:=if h:∃r,∀p,runI0 C fs k n u p ts=some r then some h.choose else none
theorem runI_of{C:Addr}{fs:List Str}{k n:Nat}{u:PSt->Option Out}{ts:List T}{r:Ru}(h:∀p,runI0 C fs k n u p ts=some r):runI C fs k n u ts=some r:=by
 have hx:∃r,∀p,runI0 C fs k n u p ts=some r:=⟨r,h⟩;unfold runI;rw[dif_pos hx];have e:=(hx.choose_spec 0).symm.trans (h 0);exact e
theorem runI_at{C:Addr}{fs:List Str}{k n:Nat}{u:PSt->Option Out}{ts:List T}{r:Ru}(h:runI C fs k n u ts=some r)(p:Addr):runI0 C fs k n u p ts=some r:=by
 unfold runI at h;split at h
 ·rename_i hx;cases h;exact hx.choose_spec p
 ·cases h
theorem fn_okI{P:Program}{w:World}{K:PySem.W.Frag}{mg:Str->Option Value}{base:Heap}{ca:Str->Value}{x qual:Str}{st:Stmt}{f:Addr}{fd:FuncData}{N ps:List Str}{k n:Nat}{Γ:Gm}{u:PSt->Option Out}{C:Addr}{fs:List Str}(F:FunD K x qual st f fd)(S:FnScope N ps (za3 st))
  (hΓ:Γ.N=N) (hnm:Γ.nm=(za3 st).names) (hce:∀x∈Γ.ce,Γ.nm.lookup x=some .cell) (hlv:Γ.lv=k) (hbl:∀b∈Γ.bl,mg b=none)
  (hfs:∀f F,Γ.fns.lookup f=some F->F.lv<=k/\Nonempty (DefX P w K mg base F.lv f F.ps (spP K ca F.g))) (hex:∀c∈Γ.ex,∃T:ECls K mg c,ca c=.ref T.C)
  (hms:∀f F,Γ.mus.lookup f=some F->F.lv<=k/\Nonempty (DefX P w K mg base F.lv f F.ps (spM K ca F.g))) (hmu:Γ.mu=false) (hgx:GxOk Γ.ox k P w K mg base ca) (hu:dSs n Γ (zad st)=some u):FnOk P w K mg base (CX1 P w) (k+1) f fd ps (spN K ca C (runI C fs ps.length N.length u)):=by
 refine okX F S (fun vs H Q E h=>?_) fun cdv A outer s H vs Q E hr h=>?_
 ·obtain⟨F',p,dx,ts,vs',_,rfl,_,_,r,q⟩:=h;cases hg:runI C fs ps.length N.length u ts with
  |none=>rw[hg]at q;exact q.elim
  |some rr =>
   have h0:=runI_at hg 0;unfold runI0 at h0
   by_cases hl:ts.length+1=ps.length
   ·rw[yaa,<- r.1,hl]
   ·rw[if_neg hl]at h0;cases h0
 ·have CC:CxOk Γ (cxOf (CX1 P w) P w K mg base N qual (za3 st) f cdv A outer s H E) (fun _=>E) ca:=by
   refine⟨hΓ.symm,by rw[hΓ];exact S.nd,hnm.symm,S.kind,rfl,by rw[hlv];exact hr,fun y hy=>⟨rfl,hce y hy⟩,hbl,passD,fun _=>PassesOwn.leaving,fun _=>madeD,fun f F e=>by rw[hlv];exact hfs f F e,hex,fun f F e=>by rw[hlv];exact hms f F e,by rw[hlv];exact hgx,fun _=>⟨rfl,rfl⟩,⟨_,_,rfl,rfl⟩⟩
  have G:=(goodSt ca n).ss CC hu;rw[hmu]at G;refine⟨_,G,?_⟩;obtain⟨F',p,dx,ts,vs',fh,rfl,fp,hp,r,q⟩:=h;have r0:Rp K F' H (.oob p C fs []) (.ref p) (fun a=>a=p\/∃j:Nat,R0 a):=.oob (xs:=[]) (fun _=>R0) fp (by rw[List.zip_nil_right];exact hp) rfl (fun i t x h=>by simp at h) (fun _ _ _ _ z=>z.elim) (fun _ z=>z) (fun _ _ z=>z.elim)
  have hA:(fun a=>a=p\/∃j:Nat,R0 a)=fun a=>a=p:=funext fun a=>propext ⟨fun z=>z.elim id fun⟨_,w⟩=>w.elim,fun z=>.inl z⟩
  refine⟨F',_,_,start_stM fh r0 r,?_⟩;rw[tot_one,hA];cases hg:runI C fs ps.length N.length u ts with
  |none=>rw[hg]at q;exact q.elim
  |some rr =>
   rw[hg]at q;have h0:=runI_at hg p;unfold runI0 at h0
   by_cases hl:ts.length+1=ps.length
   ·rw[if_pos hl]at h0;have el:(T.oob p C fs []::ts).length=ts.length+1:=rfl;rw[el];cases ho:u ((T.oob p C fs []::ts).map some++List.replicate (N.length - (ts.length+1)) none) with
    |none=>rw[ho]at h0;cases h0
    |some o =>
     rw[ho]at h0;cases o with
     |nx τ =>
      simp only at h0;intro F1 H1 σ1 R1 s1 S1;cases hoo:oobAt τ 0 C fs with
      |none=>rw[hoo]at h0;cases h0
      |some ql =>
       obtain⟨q0,l⟩:=ql;rw[hoo]at h0;simp only at h0
       by_cases hq:q0=p
       ·rw[if_pos hq]at h0;subst hq;cases h0;have h00:=zgu hoo;have S2:=S1.frz h00;obtain⟨y,ey,ry⟩:=S1.rep 0 _ h00;obtain⟨dx2,xs2,Rr,rfl,hA2,fp2,hp2,ro,dp⟩:=ry.oob_inv;have n1:∀a,R1 0 a->F1 a=none:=fun a z=>(S1.dom z).1
        have r2:=ry.share (H':=H1) (zf2 (H:=H1) n1) fun a u z q=>by rw[zhf z];exact q
        simp only at q;refine q (frz F1 H1 (R1 0)) H1 ⟨s1.ff.trans (zf2 n1),zk9 S1.fh,s1.kp,fun b z=>z.elim,fun b u e=>?_⟩ r2
        by_cases hb:R1 0 b
        ·exact(s1.nw b ⟨0,hb⟩).elim (fun z=>.inr (.inl z)) fun z=>.inr (.inr z)
        ·rw[zek hb]at e;exact s1.nf b u e
       ·rw[if_neg hq]at h0;cases h0
     |rt t=>cases h0
     |bk τ=>cases h0
     |ct τ=>cases h0
     |xc c τ =>
      cases h0;simp only at q;exact fun F1 H1 σ1 R1 s1 S1=>q F1 H1 (s1.mono fun _ z=>z.elim)
   ·rw[if_neg hl]at h0;cases h0
theorem za2{κ α:Type} [BEq κ]{P:κ->α->Prop}:∀y b,([]:List (κ×α)).lookup y=some b->P y b:=fun _ _ h=>by cases h
theorem zai{κ α:Type} [BEq κ] [LawfulBEq κ]{P:κ->α->Prop}{x:κ}{a:α}{l:List (κ×α)}(h:P x a)(r:∀y b,l.lookup y=some b->P y b):∀y b,((x,a)::l).lookup y=some b->P y b:=fun y b e=>by
 rw[yaq]at e;cases hf:y == x with
 |true =>
  rw[hf]at e;cases e;rw[eq_of_beq hf];exact h
 |false=>rw[hf]at e;exact r y b e
theorem rp_strs{K:PySem.W.Frag}{F:Hp}:∀ys:List Str,Rps K F (ys.map T.str) (ys.map V.str)
 |[]=>.nil
 |y::r=>.cons (H:=F) (.str y) (rp_strs r)
theorem zba{P:Str->Fn->List (Nat×List T)->Prop}:∀x F ds,([]:List (Str×Fn×List (Nat×List T))).lookup x=some (F,ds)->P x F ds:=fun _ _ _ h=>by cases h
theorem zgv{P:Str->Fn->List (Nat×List T)->Prop}{l:List (Str×Fn×List (Nat×List T))}{x0:Str}{F0:Fn}{d0:List (Nat×List T)}(h:P x0 F0 d0)(r:∀x F ds,l.lookup x=some (F,ds)->P x F ds):∀x F ds,((x0,F0,d0)::l).lookup x=some (F,ds)->P x F ds:=fun x F ds e=>by
 rw[yaq]at e;cases hf:x == x0 with
 |true =>
  rw[hf]at e;cases e;rw[eq_of_beq hf];exact h
 |false =>
  rw[hf]at e;exact r x F ds e
end Pu
set_option Elab.async false
set_option linter.all false
set_option maxRecDepth 100000
namespace Pu
open PySem PySem.Spec PyProof.Rows L2 Zw Zx
theorem at0{α:Type}{x:α}{l:List α}:atI (x::l) (0:Int)=some x:=by
 have:atI (x::l) ((0:Nat):Int)=some x:=atI_nat rfl;exact this
theorem at1{α:Type}{x y:α}{l:List α}:atI (x::y::l) (1:Int)=some y:=by
 have:atI (x::y::l) ((1:Nat):Int)=some y:=atI_nat rfl;exact this
theorem at2{α:Type}{x y z:α}{l:List α}:atI (x::y::z::l) (2:Int)=some z:=by
 have:atI (x::y::z::l) ((2:Nat):Int)=some z:=atI_nat rfl;exact this
abbrev fr(a b:Int):T:=.tup [.int a,.int b]
section
variable {b:T->PSt->Option PSt}{body:PSt->Option Out}{mc:PSt->Option Rs}
theorem ze2{ts:List T}{τ:PSt}(I:Nat->PSt->Prop)(h0:I 0 τ)(hs:∀i t τ,ts[i]?=some t->I i τ->∃τ1,b t τ=some τ1/\∃τ2,body τ1=some (.nx τ2)/\I (i+1) τ2):∃τ',ze3 b body ts τ=some (.nx τ')/\I ts.length τ':=by
 have key:∀(l:List T) (k:Nat) (τ:PSt),ts.drop k=l->k<=ts.length->I k τ->∃τ',ze3 b body l τ=some (.nx τ')/\I ts.length τ':=by
  intro l
  induction l with
  |nil =>
   intro k τ hd hk hI
   have:k=ts.length:=by
    have:=congrArg List.length hd;simp at this
    omega
   subst this;exact⟨τ,rfl,hI⟩
  |cons t l ih =>
   intro k τ hd hk hI
   have hlt:k<ts.length:=by
    have:=congrArg List.length hd;simp at this
    omega
   rw[yc2 hlt]at hd;injection hd with h1 h2
   obtain⟨τ1,e1,τ2,e2,hI2⟩:=hs k t τ (by rw[ya2 hlt,h1]) hI
   obtain⟨τ',e3,h3⟩:=ih (k+1) τ2 h2 hlt hI2;exact⟨τ',by unfold ze3;simp only[e1,e2];exact e3,h3⟩
 exact key ts 0 τ rfl (ybb _) h0
theorem sWh_inv{τ:PSt}(I:PSt->Prop)(μ:PSt->Nat)(h0:I τ)(hs:∀τ,I τ->(∃bb,mc τ=some (.v (.bl true) bb)/\∃τ2,body τ=some (.nx τ2)/\I τ2/\μ τ2<μ τ)\/∃bb,mc τ=some (.v (.bl false) bb)) :
  ∃τ',sWh mc body τ=some (.nx τ')/\I τ'/\∃bb,mc τ'=some (.v (.bl false) bb):=by
 have key:∀(n:Nat) (τ:PSt),μ τ<n->I τ->∃τ',whN mc body n τ=some (.nx τ')/\I τ'/\∃bb,mc τ'=some (.v (.bl false) bb):=by
  intro n
  induction n with
  |zero=>intro τ h;exact absurd h (Nat.not_lt_zero _)
  |succ n ih =>
   intro τ hn hI
   rcases hs τ hI with ⟨bb,e1,τ2,e2,hI2,hm⟩|⟨bb,e1⟩
   ·obtain⟨τ',e3,h3⟩:=ih τ2 (by omega) hI2
    exact⟨τ',by unfold whN;simp only[e1,e2];exact e3,h3⟩
   ·exact⟨τ,by unfold whN;simp only[e1],hI,bb,e1⟩
 obtain⟨τ',e,h⟩:=key (μ τ+1) τ (ybs _) h0;exact⟨τ',sWh_of e,h⟩
end
theorem mulOk_l{i j:Int}(h:s64 i=true):zji i j=true:=by unfold zji;rw[h,yce,yce]
theorem s64_of{i:Int}(h1:-(2 ^ 64)<i)(h2:i<2 ^ 64):s64 i=true:=@decide_eq_true _ (Classical.propDecidable _) ⟨h1,h2⟩
theorem zgd{i:Int}(h1:-(10 ^ 70)<i)(h2:i<10 ^ 70):s70 i=true:=@decide_eq_true _ (Classical.propDecidable _) ⟨h1,h2⟩
theorem fm{i j:Int}(h:0<j):i.fmod j=i % j:=Int.fmod_eq_emod_of_nonneg i (by omega)
theorem fd{i j:Int}(h:0<j):i.fdiv j=i / j:=ych i (by omega)
theorem zdp{i j:Int}:eqT (.int i) (.int j)=some (.bl (i == j)):=by
 unfold eqT eqOk fitT eqvT;simp only[T.data,T.pln,PyData.canLay0,PyData.depth,PyData.eqv];simp
theorem zha{i j:Int}:neT (.int i) (.int j)=some (.bl (!(i == j))):=by
 unfold neT eqOk fitT eqvT;simp only[T.data,T.pln,PyData.canLay0,PyData.depth,PyData.eqv];simp
mutual
def nbD:PyData->Bool
 |.bool _=>false
 |.dict _=>false
 |.list xs=>nbDs xs
 |.tuple xs=>nbDs xs
 |_=>true
def nbDs:List PyData->Bool
 |[]=>true
 |x::xs=>nbD x && nbDs xs
end
mutual
theorem eqv_nb:∀d d':PyData,nbD d=true->nbD d'=true->(PyData.eqv d d'=true ↔ d=d')
 |.none,d',_,h'=>by cases d'<;>simp[PyData.eqv,nbD]at h' ⊢
 |.int i,d',_,h'=>by cases d'<;>simp[PyData.eqv,nbD]at h' ⊢
 |.str x,d',_,h'=>by cases d'<;>simp[PyData.eqv,nbD]at h' ⊢
 |.bool _,_,h,_=>by simp[nbD]at h
 |.dict _,_,h,_=>by simp[nbD]at h
 |.list xs,d',h,h'=>by
  cases d' with
  |list ys =>
   have:=zj3 xs ys (by simpa[nbD] using h) (by simpa[nbD] using h')
   simp only[PyData.eqv];rw[this];simp
  |_=>simp[PyData.eqv,nbD]at h' ⊢
 |.tuple xs,d',h,h'=>by
  cases d' with
  |tuple ys =>
   have:=zj3 xs ys (by simpa[nbD] using h) (by simpa[nbD] using h')
   simp only[PyData.eqv];rw[this];simp
  |_=>simp[PyData.eqv,nbD]at h' ⊢
theorem zj3:∀xs ys:List PyData,nbDs xs=true->nbDs ys=true->(PyData.eqvAll xs ys=true ↔ xs=ys)
 |[],[],_,_=>by simp[PyData.eqvAll]
 |[],_::_,_,_=>by simp[PyData.eqvAll]
 |_::_,[],_,_=>by simp[PyData.eqvAll]
 |x::xs,y::ys,hx,hy=>by
  simp only[nbDs,ya1]at hx hy;have h1:=eqv_nb x y hx.1 hy.1;have h2:=zj3 xs ys hx.2 hy.2;simp only[PyData.eqvAll,ya1,h1,h2,List.cons.injEq]
end
structure Fit(t:T)(n:Nat):Prop where
 fit:fitT t=true
 nb:nbD t.data=true
 dep:t.data.depth<=n
theorem Fit.int(i:Int)(n:Nat):Fit (.int i) n:=⟨rfl,rfl,by simp[T.data,PyData.depth]⟩
theorem Fit.non(n:Nat):Fit .non n:=⟨rfl,rfl,by simp[T.data,PyData.depth]⟩
theorem fit_all:∀{l:List T} {n:Nat},(∀t∈l,Fit t n)->(plnL l=true/\PyData.canLayAll0 (zca l)=true)/\nbDs (zca l)=true/\PyData.depthAll (zca l)<=n
 |[],n,_=>⟨⟨rfl,rfl⟩,rfl,ybb _⟩
 |t::r,n,h=>by
  obtain⟨h1,h2,h3⟩:=h t (ya6 ..);obtain⟨⟨g0,g1⟩,g2,g3⟩:=fit_all (l:=r) (n:=n) fun x hx=>h x (ya5 _ hx)
  unfold fitT at h1;rw[ya1]at h1;refine⟨⟨by rw[plnL,h1.1,g0];rfl,by rw[zca,PyData.canLayAll0,h1.2,g1];rfl⟩,by rw[zca,nbDs,h2,g2];rfl,?_⟩
  rw[zca,PyData.depthAll]
  omega
theorem Fit.nd{o:Bool}{k:Kd}{l:List T}{n:Nat}(h:∀t∈l,Fit t n):Fit (.nd o k l) (n+1):=by
 obtain⟨g1,g2,g3⟩:=fit_all h;cases k<;>exact⟨by simpa[fitT,T.data,T.pln,PyData.canLay0] using g1,by simpa[T.data,nbD] using g2,by simpa[T.data,PyData.depth] using g3⟩
theorem Fit.tup{l:List T}{n:Nat}(h:∀t∈l,Fit t n):Fit (.tup l) (n+1):=Fit.nd h
theorem Fit.mono{t:T}{n m:Nat}(h:Fit t n)(hm:n<=m):Fit t m:=⟨h.fit,h.nb,yal h.dep hm⟩
theorem Fit.fr(a b:Int):Fit (Pu.fr a b) 1:=Fit.tup fun t ht=>by
 simp only[ya3,yb9,or_false]at ht
 rcases ht with rfl|rfl<;>exact Fit.int _ _
open Classical in
theorem eq_fit{t u:T}{n m:Nat}(h:Fit t n)(h':Fit u m)(hn:n<=60):eqT t u=some (.bl (decide (t.data=u.data)))/\neT t u=some (.bl (!decide (t.data=u.data))):=by
 have ok:eqOk t u=true:=by
  unfold eqOk;rw[h.fit,h'.fit,decide_eq_true (by have:=h.dep;omega)]
  rfl
 have e:eqvT t u=decide (t.data=u.data):=by
  unfold eqvT;rw[ybo,eqv_nb _ _ h.nb h'.nb];simp
 unfold eqT neT;rw[if_pos ok,if_pos ok,e];exact⟨rfl,rfl⟩
theorem zj4{t u:T}{n:Nat}(h:Fit t n)(hn:n<=60)(e:t.data=u.data)(h':Fit u n):eqT t u=some (.bl true)/\neT t u=some (.bl false):=by
 have:=eq_fit h h' hn
 simpa[e] using this
theorem zc5:∀ns:List Int,zb0 (ns.map T.int)=ns.map T.int
 |[]=>rfl
 |n::r=>by rw[yad,zb0,zc5 r];rfl
theorem zg0:∀ns:List Int,shL (ns.map T.int)=true
 |[]=>rfl
 |n::r=>by rw[yad,shL,zg0 r];rfl
theorem zh9(ns:List Int):(za7 ns).share=za7 ns:=by unfold za7;rw[T.share,zc5]
theorem sh_script(ns:List Int):(za7 ns).sh=true:=by unfold za7;rw[T.sh,zg0];rfl
theorem zar{α:Type}{l:List α}{k:Int}{x:α}(h0:0<=k)(h:l[k.toNat]?=some x):atI l k=some x:=by
 have:atI l ((k.toNat:Nat):Int)=some x:=atI_nat h
 rwa[ydl h0]at this
theorem cut_map{α β:Type}(f:α->β)(l:List α)(lo hi:Option Int):cutL (l.map f) lo hi=(cutL l lo hi).map f:=by
 unfold cutL;simp[List.map_drop,List.map_take]
theorem cut_len{α:Type}(l:List α)(lo hi:Option Int):(cutL l lo hi).length<=l.length:=by
 unfold cutL;simp only[yc3,yd1]
 omega
end Pu
namespace Zm
end Zm
namespace Db
open PySem
def bs(a b:Int):Int:=2 * (a / 2+b / 2)+min (a % 2) (b % 2)
theorem bs_comm(a b:Int):bs a b=bs b a:=by unfold bs;omega
abbrev B:=Option Int
def le:B->B->Prop
 |_,none=>True
 |none,some _=>False
 |some a,some b=>a<=b
def add:B->B->B
 |some a,some b=>some (bs a b)
 |_,_=>none
def mn:B->B->B
 |none,b=>b
 |some a,none=>some a
 |some a,some b=>some (min a b)
theorem le_refl(a:B):le a a:=by cases a<;>simp[le]
theorem le_trans{a b c:B}(h:le a b)(h':le b c):le a c:=by
 cases a<;>cases b<;>cases c<;>simp_all [le]
 omega
theorem add_comm(a b:B):add a b=add b a:=by
 cases a<;>cases b<;>simp[add,bs_comm]
abbrev Z:=Nat->Nat->B
def free(i j:Nat):B:=if i=0\/i=j then some 1 else none
def z0(f:Z):Z:=fun i j=>mn (f i j) (free i j)
def stp(f:Z)(k:Nat):Z:=fun i j=>mn (f i j) (add (f i k) (f k j))
end Db
set_option Elab.async false
set_option linter.all false
set_option maxRecDepth 100000
namespace Pu
open PySem PySem.Spec PyProof.Rows L2 Zw Zx
def mT(n:Nat)(g:Nat->T):List T:=(List.range n).map g
theorem nl0:((0:Nat):Int)=0:=rfl
theorem nl1:((1:Nat):Int)=1:=rfl
theorem nl2:((2:Nat):Int)=2:=rfl
theorem nl3:((3:Nat):Int)=3:=rfl
theorem nl4:((4:Nat):Int)=4:=rfl
theorem nl5:((5:Nat):Int)=5:=rfl
theorem nl6:((6:Nat):Int)=6:=rfl
theorem nl7:((7:Nat):Int)=7:=rfl
theorem nl8:((8:Nat):Int)=8:=rfl
theorem nl9:((9:Nat):Int)=9:=rfl
theorem lim_le{k:Nat}(h:k<=100000):(k<=lim)=True:=eq_true (by unfold lim;omega)
theorem lim_lt{k:Nat}(h:k<100000):(k<lim)=True:=eq_true (by unfold lim;omega)
section
variable {n:Nat}{g h:Nat->T}
theorem zih:(mT n g).length=n:=by simp[mT]
theorem mT_get{i:Nat}(hi:i<n):(mT n g)[i]?=some (g i):=by simp[mT,hi]
theorem zk2{i:Nat}{t:T}(e:(mT n g)[i]?=some t):i<n/\t=g i:=by
 have hi:i<n:=by
  rcases Nat.lt_or_ge i n with q|q
  ·exact q
  ·rw[ybd (by rw[zih];exact q)]at e
   cases e
 rw[mT_get hi]at e;exact⟨hi,by injection e with e;exact e.symm⟩
theorem mT_ext{l:List T}(hl:l.length=n)(h:∀i,i<n->l[i]?=some (g i)):l=mT n g:=by
 refine ydy fun i=>?_
 rcases Nat.lt_or_ge i n with q|q
 ·rw[h i q,mT_get q]
 ·rw[ybd (by omega),ybd (by rw[zih];exact q)]
theorem mT_congr(e:∀i,i<n->g i=h i):mT n g=mT n h:=mT_ext zih fun i hi=>by rw[mT_get hi,e i hi]
theorem mT_mem{t:T}(ht:t∈mT n g):∃i,i<n/\t=g i:=by
 obtain⟨i,hi,e⟩:=yay.mp ht;exact⟨i,List.mem_range.mp hi,e.symm⟩
theorem shareL_mT:zb0 (mT n g)=mT n fun i=>(g i).share:=by
 rw[zbg];unfold mT;rw[yba]
 rfl
theorem shL_mT(e:∀i,(g i).sh=true):shL (mT n g)=true:=by
 rw[zi8,yaz];intro t ht;obtain⟨i,-,rfl⟩:=mT_mem ht;exact e i
theorem shL_mTi(xs:Nat->Int):shL (mT n fun i=>.int (xs i))=true:=shL_mT fun _=>rfl
theorem shL_mTf(u w:Nat->Int):shL (mT n fun i=>.nd false .tup [.int (u i),.int (w i)])=true:=shL_mT fun _=>rfl
theorem mT_app:mT n g++[g n]=mT (n+1) g:=by
 unfold mT;rw[List.range_succ,yci]
 rfl
theorem range_mT(lo:Int):zge lo n=mT n fun i=>.int (lo+(i:Int)):=rfl
theorem range0_mT:zge 0 n=mT n fun i=>.int (i:Int):=by
 rw[range_mT];refine mT_congr fun i _=>?_
 rw[Int.zero_add]
variable {b:T->PSt->Option PSt}{body:PSt->Option Out}{me:PSt->Option Rs}{τ:PSt}
end
end Pu
set_option Elab.async false
set_option linter.all false
set_option maxRecDepth 100000
namespace Pu
open PySem PySem.Spec PyProof.Rows L2 Zw Zx
def bT:Db.B->T
 |none=>.non
 |some i=>.int i
theorem bT_none:bT none=.non:=rfl
theorem bT_some(i:Int):bT (some i)=.int i:=rfl
theorem bT_sh(b:Db.B):(bT b).sh=true:=by cases b<;>rfl
theorem bT_share(b:Db.B):(bT b).share=bT b:=by cases b<;>rfl
end Pu
set_option Elab.async false
set_option linter.all false
set_option maxRecDepth 100000
namespace Pu
open PySem PySem.Spec PyProof.Rows L2 Zw Zx
theorem zfc:∀ys:List Str,zcw (ys.map T.str)=some ys
 |[]=>rfl
 |y::r=>by
  show(match zcw (r.map T.str) with|some l=>some (y::l)|none=>none)=_
  rw[zfc r]
theorem zi6:∀ys:List Str,zb0 (ys.map T.str)=ys.map T.str
 |[]=>rfl
 |y::r=>by
  show T.str y::zb0 (r.map T.str)=_;rw[zi6 r]
  rfl
def Txs(ys:List Str):Prop:=∀y∈ys,PyData.strOk y=true
theorem pln_strs:∀ys:List Str,plnL (ys.map T.str)=true
 |[]=>rfl
 |y::r=>by
  show(true && plnL (r.map T.str))=true;rw[pln_strs r]
  rfl
theorem lay_strs:∀{ys:List Str},Txs ys->PyData.canLayAll0 (zca (ys.map T.str))=true/\PyData.depthAll (zca (ys.map T.str))=0
 |[],_=>⟨rfl,rfl⟩
 |y::r,h=>by
  obtain⟨h1,h2⟩:=lay_strs (ys:=r) fun x hx=>h x (ya5 _ hx)
  have h3:=h y (ya6 ..);rw[yad,zca,PyData.canLayAll0,PyData.depthAll,h1,h2,T.data,PyData.canLay0,h3,PyData.depth];exact⟨rfl,rfl⟩
theorem zf3{x y:Str}(hx:PyData.strOk x=true)(hy:PyData.strOk y=true):eqT (.str x) (.str y)=some (.bl (decide (x=y))):=by
 have e:(x == y)=decide (x=y):=by rw[ybo,beq_iff_eq,decide_eq_true_eq]
 unfold eqT eqOk fitT eqvT;simp only[T.data,T.pln,PyData.canLay0,PyData.depth,PyData.eqv,hx,hy,e];simp
theorem Fit.str{x:Str}(h:PyData.strOk x=true)(n:Nat):Fit (.str x) n:=⟨by unfold fitT;rw[T.pln,T.data,PyData.canLay0,h];rfl,rfl,by simp[T.data,PyData.depth]⟩
theorem any_strs(x:Str):∀ys:List Str,((zca (ys.map T.str)).any fun y=>PyData.eqv y (.str x))=decide (x∈ys)
 |[]=>by simp[zca]
 |y::r=>by
  have e:(y == x)=decide (x=y):=by rw[ybo,beq_iff_eq,decide_eq_true_eq];exact eq_comm
  rw[yad,zca,yds,any_strs x r,T.data,PyData.eqv,e,ybo,ybf,decide_eq_true_eq,decide_eq_true_eq,decide_eq_true_eq,ya3]
theorem in_strs{ys:List Str}{x:Str}{o:Bool}{k:Kd}(h:Txs ys)(hx:PyData.strOk x=true):inT (.str x) (.nd o k (ys.map T.str))=some (.bl (decide (x∈ys))):=by
 have ok:inOk (.str x) (ys.map T.str)=true:=by
  obtain⟨h1,h2⟩:=lay_strs h;unfold inOk fitT;rw[pln_strs,h1,h2,T.pln,T.data,PyData.canLay0,hx,PyData.depth]
  rfl
 unfold inT;simp only;rw[if_pos ok];unfold hasT;rw[T.data,any_strs]
end Pu
set_option Elab.async false
set_option linter.all false
set_option maxRecDepth 100000
namespace Tx
open PySem PySem.NumText
abbrev cs(x:Str):List Nat:=x.cps.toList
theorem cs_app(x y:Str):cs (x++y)=cs x++cs y:=Array.toList_append
theorem cs_ext{x y:Str}(h:cs x=cs y):x=y:=by
 cases x;cases y;exact congrArg Str.mk (Array.toList_inj.mp h)
theorem cs_len(x:Str):x.length=(cs x).length:=rfl
def joinL(c:Nat):List (List Nat)->List Nat
 |[]=>[]
 |[x]=>x
 |x::r=>x++c::joinL c r
theorem cs_join(c:Nat):∀l:List Str,cs (Str.join ⟨#[c]⟩ l)=joinL c (l.map cs)
 |[]=>rfl
 |[x]=>rfl
 |x::y::r=>by
  show cs (x++⟨#[c]⟩++Str.join ⟨#[c]⟩ (y::r))=cs x++c::joinL c ((y::r).map cs);rw[cs_app,cs_app,cs_join c (y::r),yb1]
  rfl
theorem cut_one{c:Nat}:∀{a b u v:List Nat},a++c::u=b++c::v->c∉a->c∉b->a=b/\u=v
 |[],[],u,v,h,_,_=>⟨rfl,(ybp h).2⟩
 |[],y::b,u,v,h,_,hb=>absurd (by rw[(ybp h).1];exact ya6 ..) hb
 |x::a,[],u,v,h,ha,_=>absurd (by rw[<- (ybp h).1];exact ya6 ..) ha
 |x::a,y::b,u,v,h,ha,hb=>by
  obtain⟨e1,e2⟩:=ybp h;obtain⟨e3,e4⟩:=cut_one e2 (fun z=>ha (ya5 _ z)) (fun z=>hb (ya5 _ z))
  exact⟨by rw[e1,e3],e4⟩
theorem joinL_inj{c:Nat}:∀{l m:List (List Nat)},l≠[]->m≠[]->(∀p∈l,c∉p)->(∀p∈m,c∉p)->joinL c l=joinL c m->l=m
 |[],_,h,_,_,_,_=>absurd rfl h
 |_,[],_,h,_,_,_=>absurd rfl h
 |[a],[b],_,_,_,_,e=>by rw[show a=b from e]
 |[a],b::b2::r,_,_,ha,_,e=>absurd (by rw[show a=b++c::joinL c (b2::r) from e];simp) (ha a (ya6 ..))
 |a::a2::r,[b],_,_,_,hb,e=>absurd (by rw[<- show a++c::joinL c (a2::r)=b from e];simp) (hb b (ya6 ..))
 |a::a2::r,b::b2::q,_,_,ha,hb,e=>by
  obtain⟨e1,e2⟩:=cut_one (show a++c::joinL c (a2::r)=b++c::joinL c (b2::q) from e) (ha a (ya6 ..)) (hb b (ya6 ..));rw[e1,joinL_inj (yb7 _ _) (yb7 _ _) (fun p hp=>ha p (ya5 _ hp)) (fun p hp=>hb p (ya5 _ hp)) e2]
theorem zgw:∀{l m:List Str},l.map cs=m.map cs->l=m
 |[],[],_=>rfl
 |[],_::_,h=>by cases h
 |_::_,[],h=>by cases h
 |a::l,b::m,h=>by
  obtain⟨e1,e2⟩:=ybp h;rw[cs_ext e1,zgw e2]
theorem split_is{x:Str}{c:Nat}{l:List Str}(h0:l≠[])(hf:∀p∈l,c∉cs p)(hj:cs x=joinL c (l.map cs)):Txt.split x ⟨#[c]⟩=l:=by
 apply zgw;have hp:=PyProof.Rows.split_pos x ⟨#[c]⟩;refine joinL_inj (c:=c) ?_ ?_ ?_ ?_ ?_
 ·intro z;have:=congrArg List.length z;simp only[ya4,ybx]at this
  omega
 ·intro z;exact h0 (ydm.mp z)
 ·intro p hp;obtain⟨q,hq,rfl⟩:=yay.mp hp;exact StrLaws.split_free x c q hq
 ·intro p hp;obtain⟨q,hq,rfl⟩:=yay.mp hp;exact hf q hq
 ·rw[<- cs_join,StrLaws.join_split,hj]
def isDg(c:Nat):Bool:=decide (48<=c/\c<=57)
def isNum(l:List Nat):Bool:=decide (1<=l.length/\l.length<=60) && l.all isDg && (decide (l=[48]) || decide (l.head?≠some 48))
def dg(n:Nat):Str:=Str.ofString (toString ((n:Nat):Int))
theorem dg_cs(n:Nat):cs (dg n)=(Nat.toDigits 10 n).map Char.toNat:=PySem.W.KIN.signs_num n
theorem dg_val(n:Nat):digitsVal (cs (dg n))=n:=by rw[dg_cs,PySem.W.KIN.val_back]
theorem dg_all(n:Nat):∀c∈cs (dg n),48<=c/\c<=57:=by
 intro c hc;rw[dg_cs]at hc;obtain⟨ch,hch,e⟩:=yay.mp hc;rw[<- e];have h:=Nat.isDigit_of_mem_toDigits (by decide) (by decide) hch
 unfold Char.isDigit at h;simp only[ge_iff_le,ya1,decide_eq_true_eq]at h;exact⟨UInt32.le_iff_toNat_le.mp h.1,UInt32.le_iff_toNat_le.mp h.2⟩
theorem dg_ne(n:Nat):cs (dg n)≠[]:=by
 rw[dg_cs];intro z;exact Nat.toDigits_ne_nil (ydm.mp z)
theorem dg_len{n k:Nat}(hk:0<k)(h:n<10 ^ k):(cs (dg n)).length<=k:=by
 rw[dg_cs,ya4];exact(Nat.length_toDigits_le_iff (by decide) hk).mpr h
theorem dg_zero:cs (dg 0)=[48]:=by
 rw[dg_cs,Nat.toDigits_zero]
 rfl
theorem dg_head{n:Nat}(h:n≠0):(cs (dg n)).head?≠some 48:=by
 have key:∀n:Nat,n≠0->∃d r,d<10/\d≠0/\Nat.toDigits 10 n=Nat.digitChar d::r:=by
  intro n
  induction n using Nat.strongRecOn with
  |_ n ih =>
   intro h0
   by_cases hn:n<10
   ·exact⟨n,[],hn,h0,Nat.toDigits_of_lt_base hn⟩
   ·obtain⟨d,r,h1,h2,h3⟩:=ih (n / 10) (by omega) (by omega)
    refine⟨d,r++[Nat.digitChar (n % 10)],h1,h2,?_⟩;rw[Nat.toDigits_of_base_le (by decide) (by omega),h3]
    rfl
 obtain⟨d,r,h1,h2,h3⟩:=key n h;rw[dg_cs,h3];simp only[yad,List.head?_cons,ne_eq,ycw];have h4:∀d:Nat,d<10->d≠0->¬ (Nat.digitChar d).toNat=48:=by decide
 exact h4 d h1 h2
theorem dg_num{n:Nat}(h:n<10 ^ 60):isNum (cs (dg n))=true:=by
 have h1:=dg_len (by decide) h
 have h2:0<(cs (dg n)).length:=List.length_pos_iff.mpr (dg_ne n);have h3:(cs (dg n)).all isDg=true:=yaz.mpr fun c hc=>decide_eq_true (dg_all n c hc)
 unfold isNum;rw[decide_eq_true (show 1<=(cs (dg n)).length/\(cs (dg n)).length<=60 from⟨h2,h1⟩),h3]
 by_cases hz:n=0
 ·subst hz;rw[decide_eq_true dg_zero]
  rfl
 ·rw[decide_eq_true (dg_head hz),ydz]
  rfl
theorem num_all{l:List Nat}(h:isNum l=true):(1<=l.length/\l.length<=60)/\AllDigits l:=by
 unfold isNum at h;rw[ya1,ya1,decide_eq_true_eq]at h;exact⟨h.1.1,fun c hc=>of_decide_eq_true (yaz.mp h.1.2 c hc)⟩
theorem num_text{x:Str}(h:isNum (cs x)=true):intText? x=some ((digitsVal (cs x):Nat):Int):=by
 obtain⟨⟨h1,h2⟩,h3⟩:=num_all h;exact intText_digits h3 (fun z=>by rw[show x.cps.toList=cs x from rfl]at z;rw[z]at h1;exact absurd h1 (by decide)) (yal (by rw[cs_len];exact h2) (by decide))
theorem not_num_long{l:List Nat}(h:¬ (1<=l.length/\l.length<=60)):isNum l=false:=by
 unfold isNum;rw[decide_eq_false h]
 rfl
theorem fold_mem(a:Array Nat):∀(n:Nat) (acc:Array Nat) (c:Nat),c∈((List.replicate n a).foldl (·++·) acc).toList->c∈acc.toList\/c∈a.toList
 |0,acc,c,h=>.inl h
 |n+1,acc,c,h=>by
  rw[ybc,List.foldl_cons]at h
  rcases fold_mem a n (acc++a) c h with h|h
  ·rw[Array.toList_append]at h;exact yas.mp h
  ·exact .inr h
theorem mul_mem{x:Str}{k:Int}{c:Nat}(h:c∈cs (Txt.mul x k)):c∈cs x:=by
 unfold Txt.mul at h;split at h
 ·cases h
 ·split at h
  ·exact h
  ·rcases fold_mem _ _ _ _ h with h|h
   ·cases h
   ·exact h
theorem mul_len(x:Str)(k:Nat):(Txt.mul x (k:Int)).length=x.length * k:=by
 have e:=PyProof.Rows.len_mul x (k:Int);rw[if_neg (by simp)]at e
 exact Int.ofNat.inj (by simpa using e)
section
variable {x y:Str}{c:Nat}(hA:∀k,(cs x)[k]?=some c->StrLaws.At x y x.length k)
include hA
theorem zgs{a b:Nat}(hb:b<=x.length)(hn:∀k,a<=k->k<b->¬ StrLaws.At x y x.length k):c∉cs (Builtin.Str.strSub x a b):=by
 intro z;unfold cs at z;rw[StrLaws.strSub_toList]at z;obtain⟨j,hj⟩:=List.getElem?_of_mem z
 have hlt:j<b - a:=by
  have h:=(ya7.mp hj).1;rw[yc3]at h
  omega
 rw[List.getElem?_take_of_lt hlt,ydp]at hj;exact hn (a+j) (ye2 _ _) (by omega) (hA _ hj)
theorem zie:∀(cuts:List Nat) (a f:Nat),StrLaws.ChainG x y x.length a cuts f->(∀k,f<=k->¬ StrLaws.At x y x.length k)->∀p∈StrLaws.partsFrom x y.length a cuts,c∉cs p
 |[],a,f,h,hn,p,hp=>by
  rw[ya8.mp hp];exact zgs hA (yab _) fun k h1 _=>hn k (by rw[show f=a from h];exact h1)
 |d::r,a,f,h,hn,p,hp=>by
  rcases ya3.mp hp with e|hp'
  ·rw[e];exact zgs hA (by have:=h.2.1.1;omega) h.2.2.1
  ·exact zie r _ f h.2.2.2 hn p hp'
theorem parts_free2(hw:1<=y.length)(hk:Builtin.Str.strKind y=1):∀p∈Txt.split x y,c∉cs p:=by
 obtain⟨f,hG,hn⟩:=StrLaws.occ_tight x y hw;unfold Txt.split;split
 ·rename_i hc;intro p hp z;rw[ya8.mp hp]at z;obtain⟨j,hj⟩:=List.getElem?_of_mem z;have h1:=(hA j hj).1;rw[ybf,decide_eq_true_eq,decide_eq_true_eq,hk]at hc
  rcases hc with h|h
  ·omega
  ·unfold Builtin.Str.strKind at h;split at h
   ·omega
   ·split at h<;>omega
 ·split
  ·rename_i he;intro p hp;rw[ya8.mp hp];have e0:Builtin.Str.occurrences x y 0 x.length (x.length+1)=[]:=yd3.mp he;rw[e0]at hG;have ef:f=0:=hG;rw[<- StrLaws.sub_whole x];exact zgs hA (yab _) fun k _ _=>hn k (by omega)
  ·rw[StrLaws.partsBetween_eq];exact zie hA _ 0 f hG hn
end
def joinL2(c d:Nat):List (List Nat)->List Nat
 |[]=>[]
 |[x]=>x
 |x::r=>x++c::d::joinL2 c d r
theorem cs_join2(c d:Nat):∀l:List Str,cs (Str.join ⟨#[c,d]⟩ l)=joinL2 c d (l.map cs)
 |[]=>rfl
 |[x]=>rfl
 |x::y::r=>by
  show cs (x++⟨#[c,d]⟩++Str.join ⟨#[c,d]⟩ (y::r))=cs x++c::d::joinL2 c d ((y::r).map cs);rw[cs_app,cs_app,cs_join2 c d (y::r),yb1]
  rfl
theorem zk4{c d:Nat}:∀{l m:List (List Nat)},l≠[]->m≠[]->(∀p∈l,c∉p)->(∀p∈m,c∉p)->joinL2 c d l=joinL2 c d m->l=m
 |[],_,h,_,_,_,_=>absurd rfl h
 |_,[],_,h,_,_,_=>absurd rfl h
 |[a],[b],_,_,_,_,e=>by rw[show a=b from e]
 |[a],b::b2::r,_,_,ha,_,e=>absurd (by rw[show a=b++c::d::joinL2 c d (b2::r) from e];simp) (ha a (ya6 ..))
 |a::a2::r,[b],_,_,_,hb,e=>absurd (by rw[<- show a++c::d::joinL2 c d (a2::r)=b from e];simp) (hb b (ya6 ..))
 |a::a2::r,b::b2::q,_,_,ha,hb,e=>by
  obtain⟨e1,e2⟩:=cut_one (show a++c::(d::joinL2 c d (a2::r))=b++c::(d::joinL2 c d (b2::q)) from e) (ha a (ya6 ..)) (hb b (ya6 ..));rw[e1,zk4 (yb7 _ _) (yb7 _ _) (fun p hp=>ha p (ya5 _ hp)) (fun p hp=>hb p (ya5 _ hp)) (ybp e2).2]
theorem joinL2_at{c d:Nat}(hcd:c≠d):∀{l:List (List Nat)} {k:Nat},(∀p∈l,c∉p)->(joinL2 c d l)[k]?=some c->((joinL2 c d l).drop k).take 2=[c,d]
 |[],k,_,h=>by simp[joinL2]at h
 |[a],k,ha,h=>absurd (ybm h) (ha a (ya6 ..))
 |a::b::r,k,ha,h=>by
  have e:joinL2 c d (a::b::r)=a++c::d::joinL2 c d (b::r):=rfl;rw[e]at h ⊢
  by_cases h1:k<a.length
  ·rw[yap h1]at h;exact absurd (ybm h) (ha a (ya6 ..))
  ·obtain⟨j,rfl⟩:∃j,k=a.length+j:=⟨k - a.length,by omega⟩
   rw[yar (by omega),yc5]at h
   rw[List.drop_append,List.drop_eq_nil_of_le (by omega),ydc,yc5]
   match j,h with
   |0,_=>rfl
   |1,h=>exact absurd (yax h).symm hcd
   |j+2,h=>exact joinL2_at hcd (fun p hp=>ha p (ya5 _ hp)) h
theorem split_is2{x:Str}{c d:Nat}{l:List Str}(hcd:c≠d)(hk:Builtin.Str.strKind ⟨#[c,d]⟩=1)(h0:l≠[])(hf:∀p∈l,c∉cs p)(hj:cs x=joinL2 c d (l.map cs)):Txt.split x ⟨#[c,d]⟩=l:=by
 apply zgw;have hp:=PyProof.Rows.split_pos x ⟨#[c,d]⟩
 have hm:∀p∈l.map cs,c∉p:=fun p hp=>by
  obtain⟨q,hq,rfl⟩:=yay.mp hp;exact hf q hq
 have hA:∀k,(cs x)[k]?=some c->StrLaws.At x ⟨#[c,d]⟩ x.length k:=fun k h=>by
  rw[hj]at h;have h2:=joinL2_at hcd hm h;rw[<- hj]at h2;have h3:=congrArg List.length h2;rw[yc3,yd1]at h3;have h4:([c,d]:List Nat).length=2:=rfl;refine⟨?_,?_⟩
  ·show k+2<=x.length;rw[cs_len]
   omega
  ·rw[StrLaws.subAt_eq];show(((cs x).drop k).take 2 == [c,d])=true;rw[h2];exact beq_self_eq_true _
 refine zk4 (c:=c) (d:=d) ?_ ?_ ?_ hm ?_
 ·intro z;have:=congrArg List.length z;simp only[ya4,ybx]at this
  omega
 ·intro z;exact h0 (ydm.mp z)
 ·intro p hp;obtain⟨q,hq,rfl⟩:=yay.mp hp;exact parts_free2 hA (show 1<=2 by decide) hk q hq
 ·rw[<- cs_join2,StrLaws.join_split,hj]
theorem cs_mk(l:List Nat):cs ⟨l.toArray⟩=l:=rfl
theorem sl_to{x:Str}{a:Nat}(h:a<=(cs x).length):cs (Txt.slice x none (some (a:Int)))=(cs x).take a:=by
 have e:Txt.slice x none (some (a:Int))=StrLaws.sliceText x none (some (a:Int)):=rfl;rw[e,StrLaws.sliceText_to ⟨ybw a,ye3.mpr h⟩,cs_mk,List.drop_zero,Int.sub_zero,ycc]
theorem sl_mid{x:Str}{a b:Nat}(hab:a<=b)(h:b<=(cs x).length):cs (Txt.slice x (some (a:Int)) (some (b:Int)))=((cs x).drop a).take (b - a):=by
 have e:Txt.slice x (some (a:Int)) (some (b:Int))=StrLaws.sliceText x (some (a:Int)) (some (b:Int)):=rfl;rw[e,StrLaws.sliceText_nat x hab h,cs_mk]
theorem sl_from{x:Str}{a:Nat}(h:a<=(cs x).length):cs (Txt.slice x (some (a:Int)) none)=(cs x).drop a:=by
 have e:Txt.slice x (some (a:Int)) none=StrLaws.sliceText x (some (a:Int)) none:=rfl;rw[e,StrLaws.sliceText_from ⟨ybw a,ye3.mpr h⟩,cs_mk,ycc];refine ycz ?_;rw[yd1]
 omega
theorem stw_one{x:Str}{c:Nat}:Txt.startswith x ⟨#[c]⟩=decide ((cs x).head?=some c):=by
 unfold Txt.startswith;rw[StrLaws.subAt_eq,List.drop_zero,Nat.zero_add];show(decide (1<=(cs x).length) && ((cs x).take 1 == [c]))=_;cases cs x with
 |nil=>rfl
 |cons a r =>
  rw[ybo];simp
theorem joinL_flat(c:Nat)(a:List Nat)(r:List (List Nat)):joinL c (a::r)=a++(r.map (c::·)).flatten:=by
 induction r generalizing a with
 |nil=>exact(ybl a).symm
 |cons b r ih =>
  show a++c::joinL c (b::r)=_;rw[ih b,yad,yb0]
  rfl
theorem cs_join0:∀l:List Str,cs (Str.join ⟨#[]⟩ l)=(l.map cs).flatten
 |[]=>rfl
 |[x]=>(ybl _).symm
 |x::y::r=>by
  show cs (x++⟨#[]⟩++Str.join ⟨#[]⟩ (y::r))=_;rw[cs_app,cs_app,cs_join0 (y::r),yad (l:=y::r),yb0];show cs x++[]++_=_;rw[ybl]
end Tx
set_option linter.all false
set_option maxRecDepth 100000
namespace Hd
open PySem PySem.W PySem.Calls PyProof.Rows
def goT(st:SharedT->Thread->Option (SharedT×Thread))(ok:Thread->Bool):Nat->SharedT->Thread->Option SharedT
 |0=>fun _ _=>none
 |n+1=>fun s t=>bif through t then some s else bif ok t then (st s t).elim none fun x=>goT st ok n x.1 x.2 else none
theorem goT_top{tb:String->Option Builtin}{p:Program}{w:World}{m:Nat}{ann:Option Value}(n:Nat):∀(s:SharedT) (t:Thread) (r:SharedT),
  goT (stepT (denote tb) p w) (stepOk m ann) n s t=some r->topRun tb p w m ann n s.abs t=some r.abs:=by
 induction n with
 |zero=>intro s t r h;exact nomatch h
 |succ n ih =>
  intro s t r h;rw[goT]at h;dsimp only at h;rw[topRun];cases a:through t with
  |true=>rw[a]at h;cases h;rfl
  |false =>
   rw[a]at h;cases b:stepOk m ann t with
   |false=>rw[b]at h;exact nomatch h
   |true =>
    rw[b]at h;cases c:stepT (denote tb) p w s t with
    |none=>rw[c]at h;exact nomatch h
    |some x=>rw[c]at h;rw[stepT_spec (s':=x.1) (t':=x.2) c];exact ih _ _ _ h
def seenAll(p q:Program)(loose:List Str)(Xt:Shared->Bool){α:Type}(Yf:Shared->α)(h:Heap)(s:Shared) :=
 ((staticsOk (importedModules p.main.body) h s.heap && namesBound p s.heap && gensDone s && laidKept h s.heap),openSeen q loose (importedModules p.main.body) Xt true s,Yf s)
theorem left_of{p q:Program}{loose:List Str}{Xt:Shared->Bool}{α:Type}{Yf:Shared->α}{Ya:World->α}{N M m:Nat}{ann:Option Value}{bt:Params->BT}{lf:Params->Life}{st:World->SharedT->Thread->Option (SharedT×Thread)}{ok:Thread->Bool}(hst:∀w,stepT (denote treeTable) p w=st w)(hok:stepOk m ann=ok)
  (e:opening p=plainProg p.main.scope.names) (hN:Nat.ble 600 N=true) (f:∀s,fenceModules? p s=some s) (hM:Nat.ble M N=true)
  (hb:∀P,absHeap (bt P) m (lf P)=boot_heap P) (hs:∀P,(boot_heap P).isNs mainGlobals=true) (hz:∀P,(boot_heap P).objs.size=m) (ha:∀P,(boot_heap P).nsMap mainGlobals "__annotations__"=ann)
  (h:∀(w:World) (os:OsState),(goT (st w) ok M ⟨bt w.params,m,lf w.params,Array.mk [],boot_drawn,boot_toks,os⟩ (topStub p)).map (fun s=>seenAll p q loose Xt Yf (boot_heap w.params) s.abs)=some (true,openGood q loose,Ya w)) :
  LeftO p q loose Xt Yf Ya N true:=fun w=>by
 obtain⟨⟨h0,g0,d0,k0,os⟩,hs0,hv⟩:=ya0.mp (boot_open e hN f w);simp only[Prod.mk.injEq]at hv;obtain⟨rfl,rfl,rfl,rfl⟩:=hv;obtain⟨T,hT,hx⟩:=ya0.mp (h w os);rw[<- hst,<- hok]at hT;have r:=topRun_mono (N - M) _ _ _ _ (goT_top _ _ _ _ hT);rw[Nat.add_sub_cancel' (Nat.le_of_ble_eq_true hM)]at r;have hx1:=congrArg Prod.fst hx;have hx2:=congrArg Prod.snd hx;simp only[seenAll]at hx1 hx2;simp only[SharedT.abs,hb]at r hx1 hx2
 have k:topFrom treeTable p w N ⟨boot_heap w.params,Array.mk [],boot_drawn,boot_toks,os⟩=some T.abs:=by
  simp only[topFrom,hs,hz,ha,r];simp only[Option.bind_some,SharedT.abs];rw[hx1]
  rfl
 show((fencedOpening treeTable p w N).bind (topFrom treeTable p w N)).map _=_;rw[hs0];show(topFrom treeTable p w N _).map _=_;rw[k];exact congrArg some hx2
noncomputable def en(P:Params)(x:String)(k:Nat)(v:Value):DictEntry:=⟨PyData.keyHash P (Str.ofString x),.str (Str.ofString x) k,v⟩
noncomputable def bt(P:Params):BT:=((boot_heap P).objs.toList.foldl (fun(x:BT×Nat) o=>(x.1.ins x.2 o,x.2+1)) (BT.nil,0)).1
theorem bt_ok(P:Params):absHeap (bt P) 11 (boot_heap P).life=boot_heap P:=by kernel_rfl
theorem ann_ok(P:Params):(boot_heap P).nsMap mainGlobals "__annotations__"=some (.ref 6):=by kernel_rfl
theorem ns_ok(P:Params):(boot_heap P).isNs mainGlobals=true:=by kernel_rfl
theorem sz_ok(P:Params):(boot_heap P).objs.size=11:=by kernel_rfl
noncomputable abbrev go(p:Program)(M:Nat)(w:World)(os:OsState):Option SharedT :=
 goT (Fast.tw10156331382660048174 (Fast.tw11892475500146522536 Fast.tw14364793385576792824) p w) (Fast.tw6613529449190102663 11 (some (.ref 6))) M ⟨bt w.params,11,(boot_heap w.params).life,Array.mk [],boot_drawn,boot_toks,os⟩ (topStub p)
abbrev xt(r:RowW)(q:Program)(s:Shared):Bool:=xlAt q [] s && recOk r.records s
theorem left_go{p q:Program}{r:RowW}{loose:List Str}{α:Type}{Yf:Shared->α}{Ya:World->α}(N M:Nat)
  (e:opening p=plainProg p.main.scope.names) (hN:Nat.ble 600 N=true) (f:∀s,fenceModules? p s=some s) (hM:Nat.ble M N=true)
  (h:∀(w:World) (os:OsState),(go p M w os).map (fun s=>seenAll p q loose (xt r q) Yf (boot_heap w.params) s.abs)=some (true,openGood q loose,Ya w)):LeftO p q loose (xt r q) Yf Ya N true :=
 left_of (st:=fun w=>Fast.tw10156331382660048174 (Fast.tw11892475500146522536 Fast.tw14364793385576792824) p w) (ok:=Fast.tw6613529449190102663 11 (some (.ref 6)))
  (fun w=>by rw[Fast.te10156331382660048174,Fast.te11892475500146522536,Fast.te14364793385576792824]) (by rw[Fast.te6613529449190102663]) e hN f hM bt_ok ns_ok sz_ok ann_ok h
theorem said_of{l:OpenLaw}(h:Fast.tw9446332074065402090 l=true):l.wellSaid=true:=(congrFun Fast.te9446332074065402090 l).trans h
end Hd
set_option Elab.async false
set_option linter.all false
set_option maxRecDepth 100000
set_option maxHeartbeats 4200000
namespace Zl
open PySem L2 Zw Zx Pu
local macro_rules
  |`(tactic| simp_arith[$as,*])=>`(tactic| simp only[zfp,runF,zay,zd8,sOwn,sFrz,sIf,zd7,sRetN,sRetM,sRetMN,retAt,runM,mMut,sExp,sNx,sBk,sCt,sFor,sApp,sSto,sPar,sRse,zjh,ownKid,za5,mC,za4,za0,zau,mAp,zat,mIf,zjj,mAnd,mOr,mIx,mSl,zii,zij,mTup,mLC,fin,g1,g2,bNm,bNil,zbl,bTup,blk,capT,iVal,zej,zg5,as1,as2,asL,asL2,isL,ze6,subT,mulT,zi1,ze4,powT,borT,bandT,cmpT,negT,isT2,T.isN,T.isB,lenT,zin,absT,minT,maxT,ybn,intT,allT,anyT,zgh,tyN,tyCs,subTy,T.share,zb0,T.sh,shL,T.flat,at0,at1,at2,yad,List.map_nil,yaa,ybx,List.replicate,ybl,ydc,List.cons_append,List.getElem?_cons_zero,ycs,List.getElem?_nil,List.set_cons_zero,List.set_cons_succ,yd9,nl0,nl1,nl2,nl3,nl4,nl5,nl6,nl7,nl8,nl9,Int.reduceBEq,Nat.reduceBEq,Nat.reduceAdd,Nat.reduceSub,Nat.reduceLT,Nat.reduceLeDiff,if_true,if_false,ite_true,ite_false,reduceIte,Bool.not_true,Bool.not_false,ydv,Bool.true_and,Bool.and_false,ycq,ydz,yce,yd0,ydt,Bool.false_xor,Bool.true_xor,yc9,ycw,decide_true,decide_false,ya3,yb9,or_false,or_true,true_or,and_true,true_and,and_self,String.reduceEq,String.reduceBEq,beq_self_eq_true,ne_eq,not_false_eq_true,not_true_eq_false,lim_le,lim_lt,bT_sh,bT_share,zih,shareL_mT,Int.reduceLT,Int.reduceAdd,ycc,shL_mTi,shL_mTf,shL_mT,implies_true,forall_const,bT_none,bT_some,Int.reduceEq,Int.reduceNe,ziv,zfr,mMeth,zg3,mNew,zhk,oobAt,sDpf,osdAt,mDicS,mChn,leT,iTxt,tupT,isXT,sNo,sFoC,Kd.isLst,$as,*])
def top(i:Nat):Stmt:=PySem.Challenge.pw_zonewalk_k83_runs_and_claims_as_text.main.body.getD i (.Pass ⟨0,0,0,0⟩)
def clsDef(s:Stmt)(j:Nat):Stmt:=match s with
 |.ClassDef _ _ _ body _ _ _ _ _ _ _=>body.getD j (.Pass ⟨0,0,0,0⟩)
 |_=>.Pass ⟨0,0,0,0⟩
def meth(i j:Nat):Stmt:=clsDef (top i) j
abbrev zb7:Addr:=112
def zbk:List Str:=["room","guard"]
abbrev za9:Addr:=152
def zac:List Str:=["room","guard","number"]
abbrev zak:Addr:=192
def zb4:List Str:=["room","number"]
def ze0:T:=(.str "0123456789")
def zbz:T:=(.int 60)
def zc6:T:=(.nd false .rt [(.str "<"),(.str ">"),(.str "=")])
def zf6:List (Addr×Bool):=[(112,true),(152,false),(192,false)]
def zc7:List (Addr×Bool):=[(112,false),(152,true),(192,false)]
def zfk:List (Addr×Bool):=[(112,false),(152,false),(192,true)]
def zj6:List (Addr×Bool):=[(112,true),(152,true),(192,true)]
abbrev zdz:Stmt:=top 33
theorem sc_Lcell_at:FnScope ["_law_script","_law_k"] ["_law_script","_law_k"] (za3 zdz):=⟨rfl,rfl,rfl,by decide +kernel,rfl,by decide +kernel,by decide +kernel⟩
noncomputable def zh0:PSt->Option Out :=
 (zay (sIf (mAp (g2 (cmpT fun i j=>decide (i<j))) (za0 (za5 1) (za0 (mAp (g1 lenT) (za0 (za5 0) za4)) za4))) (zd7 (mIx (za5 0) (za5 1))) sNx)
 (zd7 (mC (.int 0))))
noncomputable def zbx:List T->Option Ru:=zfp 2 2 zh0
noncomputable abbrev zj2:Fn:=⟨1,["_law_script","_law_k"],zbx⟩
noncomputable abbrev gx_Lcell_at:Gx:=⟨[],[],[],[],false,true,true,none,[],[],[],true,[],[],[],[]⟩
noncomputable abbrev zj0:Gm:=⟨["_law_script","_law_k"],(za3 zdz).names,[],0,[],["len"],[],[],[],false,[],[],[],gx_Lcell_at⟩
theorem ck_Lcell_at:dSs 200 zj0 (zad zdz)=some zh0:=by kernel_rfl
theorem cell_ok(ns:List Int){k:Int}(h0:0<=k):zbx [za7 ns,.int k]=some (.ok (.int (ns.getD k.toNat 0))):=by
 unfold zbx zh0
 by_cases h:k<ns.length
 ·have e:ns[k.toNat]?=some (ns.getD k.toNat 0):=by
   rw[ybi,ya2 (by omega)]
   rfl
  have ea:atI (ns.map T.int) k=some (.int (ns.getD k.toNat 0)):=zar h0 (by rw[yae,e];rfl)
  have el:decide (k<((ns.map T.int).length:Int))=true:=by simpa using h
  simp_arith[za7,zc5,zg0,el,ea]
 ·have el:decide (k<((ns.map T.int).length:Int))=false:=by simpa using h
  have e:ns.getD k.toNat 0=0:=by
   rw[ybi,ybd (by omega)]
   rfl
  simp_arith[za7,zc5,zg0,el,e]
abbrev zi9:Stmt:=top 36
theorem sc_Lsize:FnScope ["_law_cell"] ["_law_cell"] (za3 zi9):=⟨rfl,rfl,rfl,by decide +kernel,rfl,by decide +kernel,by decide +kernel⟩
noncomputable def zig:PSt->Option Out :=
 (zay (sIf (mAp (g2 eqT) (za0 (mAp (g2 zi1) (za0 (za5 0) (za0 (mC (.int 3)) za4))) (za0 (mC (.int 0)) za4))) (zd7 (mAp (g2 zi1) (za0 (mAp (g2 ze4) (za0 (za5 0) (za0 (mC (.int 3)) za4))) (za0 (mC (.int 10)) za4)))) sNx)
 (zay (sIf (mAp (g2 eqT) (za0 (mAp (g2 zi1) (za0 (za5 0) (za0 (mC (.int 3)) za4))) (za0 (mC (.int 1)) za4))) (zd7 (mAp (g2 zi1) (za0 (mAp (g2 mulT) (za0 (mAp (g2 ze4) (za0 (za5 0) (za0 (mC (.int 3)) za4))) (za0 (mC (.int 48271)) za4))) (za0 (mAp (g2 powT) (za0 (mC (.int 10)) (za0 (mC (.int 20)) za4))) za4)))) sNx)
 (zd7 (mAp (g2 ze6) (za0 (mAp (g2 powT) (za0 (mC (.int 10)) (za0 (mC (.int 59)) za4))) (za0 (mAp (g2 zi1) (za0 (mAp (g2 mulT) (za0 (mAp (g2 ze4) (za0 (za5 0) (za0 (mC (.int 3)) za4))) (za0 (mC (.int 48271)) za4))) (za0 (mAp (g2 mulT) (za0 (mC (.int 9)) (za0 (mAp (g2 powT) (za0 (mC (.int 10)) (za0 (mC (.int 59)) za4))) za4))) za4))) za4))))))
noncomputable def zcq:List T->Option Ru:=zfp 1 1 zig
noncomputable abbrev fn_Lsize:Fn:=⟨1,["_law_cell"],zcq⟩
noncomputable abbrev gx_Lsize:Gx:=⟨[],[],[],[],false,true,true,none,[],[],[],true,[],[],[],[]⟩
noncomputable abbrev gm_Lsize:Gm:=⟨["_law_cell"],(za3 zi9).names,[],0,[],[],[],[],[],false,[],[],[],gx_Lsize⟩
theorem ck_Lsize:dSs 200 gm_Lsize (zad zi9)=some zig:=by kernel_rfl
theorem s64_10:s64 10=true:=by unfold s64;exact @decide_eq_true _ (Classical.propDecidable _) ⟨by decide,by decide⟩
theorem zi5(c:Int):∃v:Nat,v<10 ^ 60/\zcq [.int c]=some (.ok (.int (v:Int))):=by
 have s2:s64 48271=true:=by unfold s64;exact @decide_eq_true _ (Classical.propDecidable _) ⟨by decide,by decide⟩
 have s3:s70 3=true:=by unfold s70;exact @decide_eq_true _ (Classical.propDecidable _) ⟨by decide +kernel,by decide +kernel⟩
 have s9:s64 9=true:=by unfold s64;exact @decide_eq_true _ (Classical.propDecidable _) ⟨by decide,by decide⟩
 have m1:zji (c.fdiv 3) 48271=true:=by unfold zji;rw[s2,ydz,yce]
 have m2:zji 9 (10 ^ 59)=true:=by unfold zji;rw[s9,yce,yce]
 have p20:(0:Int)<=20/\(20:Int)<=1000000/\s64 10=true:=⟨by decide,by decide,s64_10⟩
 have p59:(0:Int)<=59/\(59:Int)<=1000000/\s64 10=true:=⟨by decide,by decide,s64_10⟩
 have r20:(20:Int).toNat=20:=rfl;have r59:(59:Int).toNat=59:=rfl;have n20:¬ ((10:Int) ^ 20=0):=by decide +kernel
 have n59:¬ (9 * (10:Int) ^ 59=0):=by decide +kernel
 have fin:∀i:Int,0<=i->i<10 ^ 60->zcq [.int c]=some (.ok (.int i))->∃v:Nat,v<10 ^ 60/\zcq [.int c]=some (.ok (.int (v:Int))):=fun i h0 h1 e=>⟨i.toNat,by
  have h2:((i.toNat:Nat):Int)<((10 ^ 60:Nat):Int):=by rw[ydl h0];exact h1
  exact Int.ofNat_lt.mp h2,by rw[e,ydl h0]⟩
 by_cases h0:c.fmod 3=0
 ·refine fin ((c.fdiv 3).fmod 10) (yb6 _ (by decide)) (ydn (ybj _ (by decide)) (by decide +kernel)) ?_
  unfold zcq zig
  simp_arith[zdp,h0,s3]
 ·have hb0:(c.fmod 3 == 0)=false:=by simpa using h0
  by_cases h1:c.fmod 3=1
  ·have hb1:(c.fmod 3 == 1)=true:=by simpa using h1
   refine fin ((c.fdiv 3 * 48271).fmod (10 ^ 20)) (yb6 _ (by decide +kernel)) (ydn (ybj _ (by decide +kernel)) (by decide +kernel)) ?_
   unfold zcq zig
   simp_arith[zdp,hb0,hb1,s3,p20,r20,n20,m1]
  ·have hb1:(c.fmod 3 == 1)=false:=by simpa using h1
   have r0:=yb6 (c.fdiv 3 * 48271) (show(0:Int)<9 * 10 ^ 59 by decide +kernel)
   have r1:=ybj (c.fdiv 3 * 48271) (show(0:Int)<9 * 10 ^ 59 by decide +kernel)
   have q:(10:Int) ^ 60=10 ^ 59+9 * 10 ^ 59:=by decide +kernel
   have q0:(0:Int)<=10 ^ 59:=by decide +kernel
   refine fin (10 ^ 59+(c.fdiv 3 * 48271).fmod (9 * 10 ^ 59)) (Int.add_nonneg q0 r0) (by rw[q];exact Int.add_lt_add_left r1 _) ?_
   unfold zcq zig
   simp_arith[zdp,hb0,hb1,s3,p59,r59,n59,m1,m2]
abbrev zdy:Stmt:=top 35
theorem sc_Ldivisor:FnScope ["_law_one","_law_other"] ["_law_one","_law_other"] (za3 zdy):=⟨rfl,rfl,rfl,by decide +kernel,rfl,by decide +kernel,by decide +kernel⟩
noncomputable def zc4:PSt->Option Rs :=
 (mAp (g2 neT) (za0 (za5 1) (za0 (mC (.int 0)) za4)))
noncomputable def zeu:PSt->Option Out :=
 (sPar 0 1 (za0 (za5 1) (za0 (mAp (g2 zi1) (za0 (za5 0) (za0 (za5 1) za4))) za4)))
noncomputable def zgz:PSt->Option Out :=
 (zay (sWh zc4 zeu)
 (zd7 (mAp (g1 absT) (za0 (za5 0) za4))))
noncomputable def zde:List T->Option Ru:=zfp 2 2 zgz
noncomputable abbrev fn_Ldivisor:Fn:=⟨1,["_law_one","_law_other"],zde⟩
noncomputable abbrev gx_Ldivisor:Gx:=⟨[],[],[],[],false,true,true,none,[],[],[],true,[],[],[],[]⟩
noncomputable abbrev ziz:Gm:=⟨["_law_one","_law_other"],(za3 zdy).names,[],0,[],["abs"],[],[],[],false,[],[],[],gx_Ldivisor⟩
theorem ck_Ldivisor:dSs 200 ziz (zad zdy)=some zgz:=by kernel_rfl
theorem ldiv_ok(a b:Int):zde [.int a,.int b]=some (.ok (.int (Zm.gd a b))):=by
 have loop:=sWh_inv (mc:=zc4) (body:=zeu)
  (τ:=[some (.int a),some (.int b)])
  (fun τ=>∃(g l:Int),τ=[some (.int g),some (.int l)]/\Zm.gd g l=Zm.gd a b)
  (fun τ=>match τ with|[_,some (.int l)]=>l.natAbs|_=>0)
  ⟨_,_,rfl,rfl⟩ (by
   rintro τ ⟨g,l,rfl,e⟩
   by_cases h0:l=0
   ·right;exact⟨false,by unfold zc4;simp_arith[zha,h0]⟩
   ·left;exact⟨false,by unfold zc4;simp_arith[zha];simp[h0],[some (.int l),some (.int (g.fmod l))],by unfold zeu;simp_arith[h0],⟨_,_,rfl,Zm.gd_turn e⟩,Zm.fmod_less g h0⟩)
 obtain⟨τ',e1,⟨g,l,rfl,e⟩,bb,e2⟩:=loop
 have hl0:l=0:=by
  have e3:zc4 [some (.int g),some (.int l)]=some (.v (.bl (!(l == 0))) false):=by unfold zc4;simp_arith[zha]
  rw[e3]at e2;exact(by simpa using e2:l=0/\bb=false).1
 unfold zde zgz
 simp_arith[e1]
 rw[Zm.gd_end e hl0]
abbrev zgc:Stmt:=top 34
theorem sc_Lnames:FnScope ["_law_cell","_law_many","_law_letters","_law_size_here","_law_at","_law_names_here","_law_k","_law_name","_law_j","_law_sign"] ["_law_cell","_law_many"] (za3 zgc):=⟨rfl,rfl,rfl,by decide +kernel,rfl,by decide +kernel,by decide +kernel⟩
noncomputable def zfa:PSt->Option Out :=
 (zay (zd8 (mAp (g2 ze6) (za0 (mAp (g2 ze6) (za0 (mAp (g2 ze4) (za0 (za5 0) (za0 (mC (.int 6720)) za4))) (za0 (mAp (g2 mulT) (za0 (za5 8) (za0 (mAp (g2 ze6) (za0 (mC (.int 1)) (za0 (mAp (g2 zi1) (za0 (za5 0) (za0 (mC (.int 25)) za4))) za4))) za4))) za4))) (za0 (mAp (g2 mulT) (za0 (za5 6) (za0 (mAp (g1 intT) (za0 (mAp (g2 eqT) (za0 (za5 8) (za0 (za5 4) za4))) za4)) za4))) za4))) (bNm 9))
 (zd8 (mAp (g2 ze6) (za0 (za5 7) (za0 (mIx (za5 2) (mAp (g2 zi1) (za0 (za5 9) (za0 (mC (.int 26)) za4)))) za4))) (bNm 7)))
noncomputable def zfb:PSt->Option Out :=
 (zay (zd8 (mC (.str "")) (bNm 7))
 (zay (sFor (zej (za0 (za5 3) za4)) (bNm 8) zfa)
 (sApp 5 (za5 7))))
noncomputable def m_Lnames:PSt->Option Out :=
 (zay (zd8 (mC (.str "abcdefghijklmnopqrstuvwxyz")) (bNm 2))
 (zay (zd8 (mAp (g2 ze6) (za0 (mC (.int 1)) (za0 (mAp (g2 zi1) (za0 (za5 0) (za0 (mC (.int 8)) za4))) za4))) (bNm 3))
 (zay (zd8 (mAp (g2 zi1) (za0 (mAp (g2 zi1) (za0 (mAp (g2 ze4) (za0 (za5 0) (za0 (mC (.int 8)) za4))) (za0 (mC (.int 840)) za4))) (za0 (za5 3) za4))) (bNm 4))
 (zay (sOwn 5 (zij za4))
 (zay (sFor (zej (za0 (za5 1) za4)) (bNm 6) zfb)
 (zd7 (za5 5)))))))
noncomputable def zen:List T->Option Ru:=zfp 2 10 m_Lnames
noncomputable abbrev fn_Lnames:Fn:=⟨1,["_law_cell","_law_many"],zen⟩
noncomputable abbrev gx_Lnames:Gx:=⟨[],[],[],[],false,true,true,none,[],[],[],true,[],[],[],[]⟩
noncomputable abbrev gm_Lnames:Gm:=⟨["_law_cell","_law_many","_law_letters","_law_size_here","_law_at","_law_names_here","_law_k","_law_name","_law_j","_law_sign"],(za3 zgc).names,[],0,[],["range","int"],[],["_law_names_here"],[],false,[],[],[],gx_Lnames⟩
theorem ck_Lnames:dSs 200 gm_Lnames (zad zgc)=some m_Lnames:=by kernel_rfl
def sgI(c:Int)(k j:Nat):Int:=(c.fdiv 6720+(j:Int) * (1+c.fmod 25)+(k:Int) * (if ((j:Int) == ((c.fdiv 8).fmod 840).fmod (1+c.fmod 8))=true then 1 else 0)).fmod 26
def sgN(c:Int)(k j:Nat):Nat:=97+(sgI c k j).toNat
def nmS(c:Int)(k n:Nat):Str:=⟨((List.range n).map (sgN c k)).toArray⟩
def nmN(c:Int):Nat:=(1+c.fmod 8).toNat
theorem nm_range(c:Int):1<=nmN c/\nmN c<=8/\(1+c.fmod 8)=(nmN c:Int):=by
 unfold nmN;rw[fm (by decide)]
 omega
theorem sg_range(c:Int)(k j:Nat):0<=sgI c k j/\sgI c k j<26:=by
 unfold sgI;rw[fm (j:=26) (by decide)]
 omega
theorem abc:(Str.ofString "abcdefghijklmnopqrstuvwxyz").cps.toList=(List.range 26).map (97 + ·):=by decide +kernel
theorem abc_at{i:Int}(h0:0<=i)(h1:i<26):atI (Str.ofString "abcdefghijklmnopqrstuvwxyz").cps.toList i=some (97+i.toNat):=by
 rw[abc];refine zar h0 ?_;rw[yae,ydk (by omega)]
 rfl
theorem abc_len:(Str.ofString "abcdefghijklmnopqrstuvwxyz").length<=100000:=by decide +kernel
theorem nm_push(c:Int)(k n:Nat):nmS c k n++⟨#[sgN c k n]⟩=nmS c k (n+1):=by
 show Str.mk (((List.range n).map (sgN c k)).toArray++#[sgN c k n])=Str.mk _;rw[List.range_succ,yci];simp
theorem nm_size(c:Int)(k n:Nat):(nmS c k n).length=n:=by
 show((List.range n).map (sgN c k)).toArray.size=n;simp
theorem w7_ok{c:Int}{k i m:Nat}(hi:i<8)(hk:k<20){o x9:Option T}:∃y9,zfa [some (.int c),some (.int (m:Int)),some (.str "abcdefghijklmnopqrstuvwxyz"),some (.int (1+c.fmod 8)),some (.int (((c.fdiv 8).fmod 840).fmod (1+c.fmod 8))),o,some (.int k),some (.str (nmS c k i)),some (.int i),x9]
  = some (.nx [some (.int c),some (.int (m:Int)),some (.str "abcdefghijklmnopqrstuvwxyz"),some (.int (1+c.fmod 8)),some (.int (((c.fdiv 8).fmod 840).fmod (1+c.fmod 8))),o,some (.int k),some (.str (nmS c k (i+1))),some (.int i),y9]):=by
 have m1:zji (i:Int) (1+c.fmod 25)=true:=mulOk_l (s64_of (by omega) (by omega))
 have m2:∀x:Int,zji (k:Int) x=true:=fun x=>mulOk_l (s64_of (by omega) (by omega))
 have s1:s70 6720=true:=zgd (by decide) (by decide)
 have ea:atI (Str.ofString "abcdefghijklmnopqrstuvwxyz").cps.toList ((c.fdiv 6720+(i:Int) * (1+c.fmod 25)+(k:Int) * (if ((i:Int) == ((c.fdiv 8).fmod 840).fmod (1+c.fmod 8))=true then 1 else 0)).fmod 26)=some (sgN c k i):=abc_at (sg_range c k i).1 (sg_range c k i).2
 have el:(nmS c k i).length+(Str.mk #[sgN c k i]).length<=100000:=by
  rw[nm_size];show i+1<=100000
  omega
 unfold zfa;refine⟨some (.int (c.fdiv 6720+(i:Int) * (1+c.fmod 25)+(k:Int) * (if ((i:Int) == ((c.fdiv 8).fmod 840).fmod (1+c.fmod 8))=true then 1 else 0))),?_⟩
 simp_arith[zdp,m1,m2,s1,ea,abc_len,el,nm_push]
theorem w5_ok{c:Int}{k m:Nat}(hk:k<20){l:List T}(hl:l.length<1000){x7 x8 x9:Option T}:∃y7 y8 y9,zfb [some (.int c),some (.int (m:Int)),some (.str "abcdefghijklmnopqrstuvwxyz"),some (.int (1+c.fmod 8)),some (.int (((c.fdiv 8).fmod 840).fmod (1+c.fmod 8))),some (.own l),some (.int k),x7,x8,x9]
  = some (.nx [some (.int c),some (.int (m:Int)),some (.str "abcdefghijklmnopqrstuvwxyz"),some (.int (1+c.fmod 8)),some (.int (((c.fdiv 8).fmod 840).fmod (1+c.fmod 8))),some (.own (l++[.str (nmS c k (nmN c))])),some (.int k),y7,y8,y9]):=by
 obtain⟨n1,n8,ne⟩:=nm_range c
 obtain⟨τ,e,z8,z9,rfl⟩:=ze2 (b:=bNm 8) (body:=zfa) (ts:=mT (nmN c) fun i=>.int (i:Int)) (τ:=[some (.int c),some (.int (m:Int)),some (.str "abcdefghijklmnopqrstuvwxyz"),some (.int (1+c.fmod 8)),some (.int (((c.fdiv 8).fmod 840).fmod (1+c.fmod 8))),some (.own l),some (.int k),some (.str ""),x8,x9])
  (fun i τ=>∃x8 x9,τ=[some (.int c),some (.int (m:Int)),some (.str "abcdefghijklmnopqrstuvwxyz"),some (.int (1+c.fmod 8)),some (.int (((c.fdiv 8).fmod 840).fmod (1+c.fmod 8))),some (.own l),some (.int k),some (.str (nmS c k i)),x8,x9]) ⟨x8,x9,by rfl⟩ fun i t τ h1 h2=>by
   obtain⟨hi,rfl⟩:=zk2 h1;obtain⟨x8,x9,rfl⟩:=h2;obtain⟨y9,ew⟩:=w7_ok (c:=c) (k:=k) (i:=i) (m:=m) (by omega) hk (o:=some (.own l)) (x9:=x9)
   exact⟨_,by simp_arith[],_,ew,_,_,rfl⟩
 rw[zih]at e;have ok:ok62 (1+c.fmod 8)=true:=@decide_eq_true _ (Classical.propDecidable _) ⟨by omega,by omega⟩
 have er:zge 0 (1+c.fmod 8).toNat=mT (nmN c) fun i=>.int (i:Int):=range0_mT
 have ll:l.length<100000:=by omega
 unfold zfb;refine⟨some (.str (nmS c k (nmN c))),z8,z9,?_⟩
 simp_arith[ok,er,e,ll]
abbrev nmX(c:Int)(k:Nat):Str:=nmS c k (nmN c)
theorem names_ok(c:Int){m:Nat}(hm:m<20):zen [.int c,.int (m:Int)]=some (.ok (.own (mT m fun k=>.str (nmX c k)))):=by
 obtain⟨n1,n8,ne⟩:=nm_range c
 obtain⟨τ,e,z6,z7,z8,z9,rfl⟩:=ze2 (b:=bNm 6) (body:=zfb) (ts:=mT m fun i=>.int (i:Int)) (τ:=[some (.int c),some (.int (m:Int)),some (.str "abcdefghijklmnopqrstuvwxyz"),some (.int (1+c.fmod 8)),some (.int (((c.fdiv 8).fmod 840).fmod (1+c.fmod 8))),some (.own []),none,none,none,none])
  (fun i τ=>∃x6 x7 x8 x9,τ=[some (.int c),some (.int (m:Int)),some (.str "abcdefghijklmnopqrstuvwxyz"),some (.int (1+c.fmod 8)),some (.int (((c.fdiv 8).fmod 840).fmod (1+c.fmod 8))),some (.own (mT i fun k=>.str (nmX c k))),x6,x7,x8,x9]) ⟨_,_,_,_,by rfl⟩ fun i t τ h1 h2=>by
   obtain⟨hi,rfl⟩:=zk2 h1;obtain⟨x6,x7,x8,x9,rfl⟩:=h2;obtain⟨y7,y8,y9,ew⟩:=w5_ok (c:=c) (k:=i) (m:=m) (by omega) (l:=mT i fun k=>.str (nmX c k)) (by rw[zih];omega) (x7:=x7) (x8:=x8) (x9:=x9)
   rw[mT_app (g:=fun k=>.str (nmX c k))]at ew
   exact⟨_,by simp_arith[],_,ew,_,_,_,_,rfl⟩
 rw[zih]at e;have ok:ok62 (m:Int)=true:=@decide_eq_true _ (Classical.propDecidable _) ⟨by omega,by omega⟩
 have er:zge 0 m=mT m fun i=>.int (i:Int):=range0_mT
 have h0:(1+c.fmod 8≠0)=True:=eq_true (by omega)
 have s1:s70 8=true:=zgd (by decide) (by decide)
 unfold zen m_Lnames
 simp_arith[ok,er,e,h0,s1]
theorem nm_cs(c:Int)(k:Nat):Tx.cs (nmX c k)=(List.range (nmN c)).map (sgN c k):=rfl
theorem nm_abc(c:Int)(k:Nat):∀s∈Tx.cs (nmX c k),97<=s/\s<=122:=fun s hs=>by
 rw[nm_cs]at hs;obtain⟨j,_,rfl⟩:=yay.mp hs;have:=sg_range c k j;unfold sgN
 omega
theorem nm_len8(c:Int)(k:Nat):(Tx.cs (nmX c k)).length<=8:=by
 rw[nm_cs,ya4,List.length_range];exact(nm_range c).2.1
abbrev zd2:Stmt:=top 17
theorem sc_check_text:FnScope ["thing"] ["thing"] (za3 zd2):=⟨rfl,rfl,rfl,by decide +kernel,rfl,by decide +kernel,by decide +kernel⟩
noncomputable def zez:PSt->Option Out :=
 (sIf (zjj (mAp (g1 (zgh "str")) (za0 (za5 0) za4))) (sRse "NoText" (za0 (mC (.str "what is read is a text")) za4)) sNx)
noncomputable def zbd:List T->Option Ru:=zfp 1 1 zez
noncomputable abbrev zel:Fn:=⟨1,["thing"],zbd⟩
noncomputable abbrev gx_check_text:Gx:=⟨[],[],[],[],false,true,true,none,[],[],[],true,[],[],[],[]⟩
noncomputable abbrev zgm:Gm:=⟨["thing"],(za3 zd2).names,[],0,[],["isinstance","str"],["NoText"],[],[],false,[],[],[],gx_check_text⟩
theorem ck_check_text:dSs 200 zgm (zad zd2)=some zez:=by kernel_rfl
theorem zk1{x y:Str}(hx:PyData.strOk x=true)(hy:PyData.strOk y=true):neT (.str x) (.str y)=some (.bl (!decide (x=y))):=by
 have e:(x == y)=decide (x=y):=by rw[ybo,beq_iff_eq,decide_eq_true_eq]
 unfold neT eqOk fitT eqvT;simp only[T.data,T.pln,PyData.canLay0,PyData.depth,PyData.eqv,hx,hy,e];simp
theorem zg4{α:Type}{b:T->PSt->Option PSt}{me:PSt->Option Rs}(f g:α->T)(I:PSt->Prop):∀(L:List α) (τ:PSt),I τ->(∀x∈L,∀τ,I τ->∃τ1,b (f x) τ=some τ1/\me τ1=some (.v (g x) false)/\I τ1)->lcGo b (mC (.bl true)) me (L.map f) τ=some (L.map g)
 |[],_,_,_=>rfl
 |x::L,τ,h,hs=>by
  obtain⟨τ1,e1,e2,h1⟩:=hs x (ya6 ..) τ h;have k:=zg4 f g I L τ1 h1 fun u hu=>hs u (ya5 _ hu)
  have f1:mC (.bl true) τ1=some (.v (.bl true) false):=rfl;rw[yad,yad];unfold lcGo;simp only[e1,f1,e2,k]
theorem zgp{α:Type}{p:α->Bool}:∀l:List α,bools (l.map fun k=>.bl (p k))=some (l.map p)
 |[]=>rfl
 |a::l=>by
  show(match bools (l.map fun k=>.bl (p k)) with|some r=>some (p a::r)|none=>none)=_
  rw[zgp l]
  rfl
theorem ct_ok(x:Str):zbd [.str x]=some (.ok .non):=by
 unfold zbd zez
 simp_arith[]
abbrev zbe:Stmt:=top 18
theorem zgr:FnScope ["text"] ["text"] (za3 zbe):=⟨rfl,rfl,rfl,by decide +kernel,rfl,by decide +kernel,by decide +kernel⟩
noncomputable def zbm:PSt->Option Rs :=
 (mAp (g2 inT) (za0 (za5 0) (za0 (mC ze0) za4)))
noncomputable def zbf:PSt->Option Out :=
 (zay (sIf (mOr (zjj (mChn leT leT (mC (.int 1)) (mAp (g1 lenT) (za0 (za5 0) za4)) (mC zbz))) (zjj (mAp (g1 allT) (za0 (mLC 1 [] (iTxt (za5 0)) (bNm 0) (mC (.bl true)) zbm) za4)))) (zd7 (mC (.bl false))) sNx)
 (zd7 (mOr (mAp (g2 eqT) (za0 (za5 0) (za0 (mC (.str "0")) za4))) (mAp (g2 neT) (za0 (mIx (za5 0) (mC (.int 0))) (za0 (mC (.str "0")) za4))))))
noncomputable def zas:List T->Option Ru:=zfp 1 1 zbf
noncomputable abbrev zh3:Fn:=⟨1,["text"],zas⟩
noncomputable abbrev zh2:Gx:=⟨[("MOST_FIGURES",zbz),("FIGURES",ze0)],[],[],[],false,true,true,none,[],[],[],true,[],[],[],[]⟩
noncomputable abbrev ze1:Gm:=⟨["text"],(za3 zbe).names,[],0,[],["len","all"],[],[],[],false,[],[],[],zh2⟩
theorem zh6:dSs 200 ze1 (zad zbe)=some zbf:=by kernel_rfl
theorem dg_str{l:Str}(h:(Tx.cs l).all Tx.isDg=true):PyData.strOk l=true:=by
 unfold PyData.strOk;rw[<- Array.all_toList,yaz];intro c hc;have:=of_decide_eq_true (yaz.mp h c hc);exact decide_eq_true (by omega)
theorem fig(c:Nat):inT (.str ⟨#[c]⟩) ze0=some (.bl (Tx.isDg c)):=by
 unfold ze0 inT inS;simp only;rw[StrLaws.found_one];have e:(Str.ofString "0123456789").cps.toList=[48,49,50,51,52,53,54,55,56,57]:=by decide +kernel
 rw[e];unfold Tx.isDg
 congr 2
 rw[decide_eq_decide];simp only[ya3,yb9,or_false]
 omega
theorem fig_sh:ze0.share=ze0:=rfl
theorem nought:Tx.cs (Str.ofString "0")=[48]:=by decide +kernel
theorem zfd{α:Type}(p:α->Bool):∀l:List α,zb0 (l.map fun c=>T.bl (p c))=l.map fun c=>T.bl (p c)
 |[]=>rfl
 |a::l=>by
  show T.bl (p a)::zb0 (l.map fun c=>T.bl (p c))=_
  rw[zfd p l]
  rfl
theorem num_ok{x:Str}(hx:x.length<=lim):zas [.str x]=some (.ok (.bl (Tx.isNum (Tx.cs x)))):=by
 have lc:=zg4 (b:=bNm 0) (me:=zbm) (fun c=>T.str ⟨#[c]⟩) (fun c=>T.bl (Tx.isDg c)) (fun τ=>∃o,τ=[o]) (Tx.cs x) [none] ⟨none,rfl⟩ fun c _ τ hI=>by
  obtain⟨o,rfl⟩:=hI;exact⟨[some (.str ⟨#[c]⟩)],rfl,by unfold zbm;simp_arith[fig_sh,fig],_,rfl⟩
 have lc':lcGo (bNm 0) (mC (.bl true)) zbm (sgnT x) [none]=some ((Tx.cs x).map fun c=>T.bl (Tx.isDg c)):=lc
 have sl:(sgnT x).length<=lim:=by unfold sgnT;rw[ya4];exact hx
 have el:((x.length:Nat):Int)=((Tx.cs x).length:Nat):=rfl;have al:((Tx.cs x).map fun c=>Tx.isDg c).all id=(Tx.cs x).all Tx.isDg:=by rw[List.all_map];rfl
 by_cases h1:1<=(Tx.cs x).length/\(Tx.cs x).length<=60
 ·have d1:decide ((1:Int)<=((x.length:Nat):Int))=true:=decide_eq_true (by rw[el];omega)
  have d2:decide (((x.length:Nat):Int)<=60)=true:=decide_eq_true (by rw[el];omega)
  by_cases h2:(Tx.cs x).all Tx.isDg=true
  ·have s1:=dg_str h2
   obtain⟨c,r,hc⟩:∃c r,Tx.cs x=c::r:=by
    cases h:Tx.cs x with
    |nil=>rw[h]at h1;exact absurd h1.1 (by decide)
    |cons c r=>exact⟨c,r,rfl⟩
   have a0:atI x.cps.toList 0=some c:=by rw[show x.cps.toList=c::r from hc];exact zar (by decide) rfl
   have s2:PyData.strOk ⟨#[c]⟩=true:=dg_str (by rw[hc,List.all_cons,ya1]at h2;show [c].all _=true;rw[List.all_cons,h2.1];rfl)
   have s0:PyData.strOk (Str.ofString "0")=true:=by decide +kernel
   have q1:decide (x=Str.ofString "0")=decide (Tx.cs x=[48]):=by
    rw[decide_eq_decide];exact⟨fun h=>by rw[h,nought],fun h=>Tx.cs_ext (by rw[h,nought])⟩
   have q2:decide ((⟨#[c]⟩:Str)=Str.ofString "0")=decide (c=48):=by
    rw[decide_eq_decide];exact⟨fun h=>(ybp ((congrArg Tx.cs h).trans nought:[c]=[48])).1,fun h=>Tx.cs_ext (by rw[nought,h])⟩
   have n1:Tx.isNum (Tx.cs x)=(decide (Tx.cs x=[48]) || !decide (c=48)):=by
    unfold Tx.isNum;rw[decide_eq_true h1,h2,hc];simp
   unfold zas zbf zbz;cases hd:decide (Tx.cs x=[48])
   ·simp_arith[lc',sl,zfd,hx,d1,d2,zgp,al,h2,zf3 s1 s0,zk1 s2 s0,a0,q1,q2,n1,hd]
   ·simp_arith[lc',sl,zfd,hx,d1,d2,zgp,al,h2,zf3 s1 s0,zk1 s2 s0,a0,q1,q2,n1,hd]
  ·have n1:Tx.isNum (Tx.cs x)=false:=by
    unfold Tx.isNum;rw[yan.mpr h2,Bool.and_false,ycq]
   rw[Bool.not_eq_true]at h2;unfold zas zbf zbz
   simp_arith[lc',sl,zfd,hx,d1,d2,zgp,al,h2,n1]
 ·rw[Tx.not_num_long h1];unfold zas zbf zbz
  by_cases h2:1<=(Tx.cs x).length
  ·have d1:decide ((1:Int)<=((x.length:Nat):Int))=true:=decide_eq_true (by rw[el];omega)
   have d2:decide (((x.length:Nat):Int)<=60)=false:=decide_eq_false (by rw[el];omega)
   simp_arith[hx,d1,d2]
  ·have d1:decide ((1:Int)<=((x.length:Nat):Int))=false:=decide_eq_false (by rw[el];omega)
   simp_arith[hx,d1]
abbrev zce:Stmt:=top 19
theorem zjd:FnScope ["text"] ["text"] (za3 zce):=⟨rfl,rfl,rfl,by decide +kernel,rfl,by decide +kernel,by decide +kernel⟩
noncomputable def zee:PSt->Option Out :=
 (zay (sIf (zjj (zat zas (za0 (za5 0) za4))) (sRse "NoText" (za0 (mC (.str "a number is written by one to sixty figures, with no nought ahead")) za4)) sNx)
 (zd7 (mAp (g1 intT) (za0 (za5 0) za4))))
noncomputable def zab:List T->Option Ru:=zfp 1 1 zee
noncomputable abbrev zcv:Fn:=⟨2,["text"],zab⟩
noncomputable abbrev zjl:Gx:=⟨[],[],[],[],false,true,true,none,[],[],[],true,[],[],[],[]⟩
noncomputable abbrev zft:Gm:=⟨["text"],(za3 zce).names,[],1,[("is_number_text",zh3)],["int"],["NoText"],[],[],false,[],[],[],zjl⟩
theorem zjt:dSs 200 zft (zad zce)=some zee:=by kernel_rfl
theorem rd_ok{x:Str}(h:Tx.isNum (Tx.cs x)=true):zab [.str x]=some (.ok (.int ((NumText.digitsVal (Tx.cs x):Nat):Int))):=by
 have hl:(Tx.cs x).length<=60:=(Tx.num_all h).1.2;have hx:x.length<=lim:=by unfold lim;rw[Tx.cs_len];omega
 have h6:x.length<=640:=by rw[Tx.cs_len];omega
 have e:=num_ok hx;rw[h]at e;unfold zab zee
 simp_arith[e,Tx.num_text h,h6]
abbrev zb9:Stmt:=top 5
theorem zg1:FnScope ["one","other","greater","lesser","rest"] ["one","other"] (za3 zb9):=⟨rfl,rfl,rfl,by decide +kernel,rfl,by decide +kernel,by decide +kernel⟩
noncomputable def zaq:PSt->Option Rs :=
 (mAp (g2 neT) (za0 (za5 3) (za0 (mC (.int 0)) za4)))
noncomputable def zby:PSt->Option Out :=
 (zay (zd8 (mAp (g2 zi1) (za0 (za5 2) (za0 (za5 3) za4))) (bNm 4))
 (zay (zd8 (za5 3) (bNm 2))
 (zd8 (za5 4) (bNm 3))))
noncomputable def zcl:PSt->Option Out :=
 (zay (zd8 (mAp (g1 absT) (za0 (za5 0) za4)) (bNm 2))
 (zay (zd8 (mAp (g1 absT) (za0 (za5 1) za4)) (bNm 3))
 (zay (sWh zaq zby)
 (zd7 (za5 2)))))
noncomputable def zaz:List T->Option Ru:=zfp 2 5 zcl
noncomputable abbrev zg7:Fn:=⟨1,["one","other"],zaz⟩
noncomputable abbrev zg6:Gx:=⟨[],[],[],[],false,true,true,none,[],[],[],true,[],[],[],[]⟩
noncomputable abbrev zdl:Gm:=⟨["one","other","greater","lesser","rest"],(za3 zb9).names,[],0,[],["abs"],[],[],[],false,[],[],[],zg6⟩
theorem zg8:dSs 200 zdl (zad zb9)=some zcl:=by kernel_rfl
theorem gd_ok(a b:Int):zaz [.int a,.int b]=some (.ok (.int (Zm.gd a b))):=by
 have loop:=sWh_inv (mc:=zaq) (body:=zby)
  (τ:=[some (.int a),some (.int b),some (.int (if a<0 then -a else a)),some (.int (if b<0 then -b else b)),none])
  (fun τ=>∃(g l:Int) (r:Option T),τ=[some (.int a),some (.int b),some (.int g),some (.int l),r]/\0<=g/\0<=l/\Zm.gd g l=Zm.gd a b)
  (fun τ=>match τ with|[_,_,_,some (.int l),_]=>l.natAbs|_=>0)
  ⟨_,_,none,rfl,by split<;>omega,by split<;>omega,Zm.gd_abs a b⟩ (by
   rintro τ ⟨g,l,r,rfl,hg,hl,e⟩
   by_cases h0:l=0
   ·right;exact⟨false,by unfold zaq;simp_arith[zha,h0]⟩
   ·left;refine⟨false,by unfold zaq;simp_arith[zha];simp[h0],[some (.int a),some (.int b),some (.int l),some (.int (g.fmod l)),some (.int (g.fmod l))],by unfold zby;simp_arith[h0],⟨_,_,_,rfl,hl,?_,?_⟩,?_⟩
    ·exact yb6 g (by omega)
    ·exact Zm.gd_turn e
    ·exact Zm.fmod_less g h0)
 obtain⟨τ',e1,⟨g,l,r,rfl,hg,hl,e⟩,bb,e2⟩:=loop
 have hl0:l=0:=by
  have e3:zaq [some (.int a),some (.int b),some (.int g),some (.int l),r]=some (.v (.bl (!(l == 0))) false):=by unfold zaq;simp_arith[zha]
  rw[e3]at e2;exact(by simpa using e2:l=0/\bb=false).1
 have hgd:g=Zm.gd a b:=by
  rw[<- e,hl0];unfold Zm.gd;rw[Int.gcd_zero_right]
  omega
 unfold zaz zcl
 simp_arith[e1]
 rw[hgd]
abbrev zbp:Stmt:=top 22
theorem zhi:FnScope ["text","parts","top","bottom"] ["text"] (za3 zbp):=⟨rfl,rfl,rfl,by decide +kernel,rfl,by decide +kernel,by decide +kernel⟩
noncomputable def zck:PSt->Option Out :=
 (zay (sExp (zat zbd (za0 (za5 0) za4)))
 (zay (zd8 (mSpl (za5 0) (mC (.str "/"))) (bNm 1))
 (zay (sIf (mAp (g2 eqT) (za0 (mAp (g1 lenT) (za0 (za5 1) za4)) (za0 (mC (.int 1)) za4))) (zd7 (mTup (za0 (zat zab (za0 (za5 0) za4)) (za0 (mC (.int 1)) za4)))) sNx)
 (zay (sIf (mAp (g2 (cmpT fun i j=>decide (j<i))) (za0 (mAp (g1 lenT) (za0 (za5 1) za4)) (za0 (mC (.int 2)) za4))) (sRse "NoText" (za0 (mC (.str "a fraction has one top and one bottom")) za4)) sNx)
 (zay (zd8 (zat zab (za0 (mIx (za5 1) (mC (.int 0))) za4)) (bNm 2))
 (zay (zd8 (zat zab (za0 (mIx (za5 1) (mC (.int 1))) za4)) (bNm 3))
 (zay (sIf (mOr (mAp (g2 (cmpT fun i j=>decide (i<j))) (za0 (za5 3) (za0 (mC (.int 2)) za4))) (mAp (g2 (cmpT fun i j=>decide (j<i))) (za0 (zat zaz (za0 (za5 2) (za0 (za5 3) za4))) (za0 (mC (.int 1)) za4)))) (sRse "NoText" (za0 (mC (.str "a fraction is written in lowest terms, without a bottom of 1")) za4)) sNx)
 (zd7 (mTup (za0 (za5 2) (za0 (za5 3) za4)))))))))))
noncomputable def zao:List T->Option Ru:=zfp 1 4 zck
noncomputable abbrev zhq:Fn:=⟨3,["text"],zao⟩
noncomputable abbrev zhn:Gx:=⟨[],[],[],[],false,true,true,none,[],[],[],true,[],[],[],[]⟩
noncomputable abbrev zep:Gm:=⟨["text","parts","top","bottom"],(za3 zbp).names,[],2,[("check_text",zel),("read_number",zcv),("greatest_divisor",zg7)],["len"],["NoText"],[],[],false,[],[],[],zhn⟩
theorem zhs:dSs 200 zep (zad zbp)=some zck:=by kernel_rfl
theorem slash_is:Str.ofString "/"=(⟨#[47]⟩:Str):=Tx.cs_ext (by decide +kernel)
theorem slash_ok{x:Str}(h:x.length+2<=lim):((Str.ofString "/").length == 0)=false/\x.length+2<=lim:=⟨by decide +kernel,h⟩
theorem sp_one{x:Str}(hf:47∉Tx.cs x):Txt.split x (Str.ofString "/")=[x]:=by
 rw[slash_is];exact Tx.split_is (yb7 _ _) (fun p hp=>by rw[ya8.mp hp];exact hf) rfl
theorem rf_one{x:Str}(hx:x.length+2<=lim)(hf:47∉Tx.cs x)(h:Tx.isNum (Tx.cs x)=true):zao [.str x]=some (.ok (.tup [.int ((NumText.digitsVal (Tx.cs x):Nat):Int),.int 1])):=by
 unfold zao zck
 simp_arith[ct_ok,mSpl,slash_ok hx,sp_one hf,zdp,rd_ok h]
theorem sp_two{x p q:Str}(hj:Tx.cs x=Tx.cs p++47::Tx.cs q)(hp:47∉Tx.cs p)(hq:47∉Tx.cs q):Txt.split x (Str.ofString "/")=[p,q]:=by
 rw[slash_is];refine Tx.split_is (yb7 _ _) (fun z hz=>?_) hj
 rcases ya3.mp hz with rfl|hz
 ·exact hp
 ·rw[ya8.mp hz];exact hq
theorem two_at{p q:Str}:atI [T.str p,T.str q] 0=some (.str p)/\atI [T.str p,T.str q] 1=some (.str q):=⟨zar (by decide) rfl,zar (by decide) rfl⟩
section
variable {x p q:Str}(hx:x.length+2<=lim)(hj:Tx.cs x=Tx.cs p++47::Tx.cs q)(hp:47∉Tx.cs p)(hq:47∉Tx.cs q)
include hx hj hp hq
theorem rf_two(h1:Tx.isNum (Tx.cs p)=true)(h2:Tx.isNum (Tx.cs q)=true)(h3:2<=NumText.digitsVal (Tx.cs q))(h4:Zm.gd ((NumText.digitsVal (Tx.cs p):Nat):Int) ((NumText.digitsVal (Tx.cs q):Nat):Int)=1) :
  zao [.str x]=some (.ok (.tup [.int ((NumText.digitsVal (Tx.cs p):Nat):Int),.int ((NumText.digitsVal (Tx.cs q):Nat):Int)])):=by
 obtain⟨a1,a2⟩:=two_at (p:=p) (q:=q);have d1:decide (((NumText.digitsVal (Tx.cs q):Nat):Int)<2)=false:=decide_eq_false (by omega)
 unfold zao zck
 simp_arith[ct_ok,mSpl,slash_ok hx,sp_two hj hp hq,zdp,a1,a2,rd_ok h1,rd_ok h2,d1,gd_ok,h4]
end
abbrev zcd:Stmt:=top 20
theorem zjc:FnScope ["number","piece","pieces","rest"] ["number"] (za3 zcd):=⟨rfl,rfl,rfl,by decide +kernel,rfl,by decide +kernel,by decide +kernel⟩
noncomputable def zdg:PSt->Option Rs :=
 (mAp (g2 (cmpT fun i j=>decide (j<=i))) (za0 (za5 3) (za0 (za5 1) za4)))
noncomputable def zet:PSt->Option Out :=
 (zay sNo
 (zd8 (mAp (g2 ze4) (za0 (za5 3) (za0 (za5 1) za4))) (bNm 3)))
noncomputable def zeb:PSt->Option Out :=
 (zay (zd8 (mAp (g2 powT) (za0 (mC (.int 10)) (za0 (mC (.int 60)) za4))) (bNm 1))
 (zay (sOwn 2 (zij za4))
 (zay (zd8 (za5 0) (bNm 3))
 (zay (sWh zdg zet)
 (zay (sApp 2 (mAp (g1 strT) (za0 (za5 3) za4)))
 (zd7 (mJnR (mC (.str "")) (za5 2))))))))
noncomputable def zaj:List T->Option Ru:=zfp 1 4 zeb
noncomputable abbrev zcu:Fn:=⟨1,["number"],zaj⟩
noncomputable abbrev zjk:Gx:=⟨[],[],[],[],false,true,true,none,[],[],[],true,[],[],[],[]⟩
noncomputable abbrev zfs:Gm:=⟨["number","piece","pieces","rest"],(za3 zcd).names,[],0,[],["str","reversed"],[],["pieces"],[],false,[],[],[],zjk⟩
theorem zjs:dSs 200 zfs (zad zcd)=some zeb:=by kernel_rfl
theorem zim{n:Nat}(h:n<10 ^ 63):(((n:Nat):Int).natAbs).log2<1920:=by
 rw[Int.natAbs_natCast]
 by_cases h0:n=0
 ·subst h0
  decide +kernel
 ·exact(Nat.log2_lt h0).mpr (yb3 h (by decide +kernel))
theorem zi4(n:Nat):Str.ofString (toString ((n:Nat):Int))=Tx.dg n:=rfl
theorem zf5{n:Nat}(h:n<10 ^ 63):(Tx.dg n).length<=63:=by
 rw[Tx.cs_len];exact Tx.dg_len (by decide) h
theorem jn_one(y:Str):Txt.join (Str.ofString "") [y]=y:=by
 show Builtin.Str.glued _ _=_;rw[StrLaws.glued_eq_join]
 rfl
theorem sn_ok{n:Nat}(h:n<10 ^ 60):zaj [.int (n:Int)]=some (.ok (.str (Tx.dg n))):=by
 have h':n<10 ^ 63:=yb3 h (by decide +kernel)
 have p60:(0:Int)<=60/\(60:Int)<=1000000/\s64 10=true:=⟨by decide,by decide,s64_10⟩
 have r60:(60:Int).toNat=60:=rfl
 have d1:decide ((10:Int) ^ 60<=((n:Nat):Int))=false:=decide_eq_false fun z=>by
  have:((10 ^ 60:Nat):Int)<=((n:Nat):Int):=z
  omega
 have loop:=sWh_inv (mc:=zdg) (body:=zet)
  (τ:=[some (.int (n:Int)),some (.int (10 ^ 60)),some (.own []),some (.int (n:Int))])
  (fun τ=>τ=[some (.int (n:Int)),some (.int (10 ^ 60)),some (.own []),some (.int (n:Int))])
  (fun _=>0) rfl (by
   rintro τ rfl;right;exact⟨false,by unfold zdg;simp_arith[d1]⟩)
 obtain⟨τ',e1,rfl,bb,e2⟩:=loop;have l1:=zf5 h'
 have hz:[(Tx.dg n).length].sum+1 * (Str.ofString "").length<=lim:=by
  have e:(Str.ofString "").length=0:=by decide +kernel
  rw[e];simp only[ydu,List.sum_nil];unfold lim
  omega
 have hs:zcw [T.str (Tx.dg n)]=some [Tx.dg n]:=rfl;have hr:[Tx.dg n].reverse=[Tx.dg n]:=rfl;unfold zaj zeb
 simp_arith[p60,r60,e1,strT,zim h',zi4,mJnR,hs,hz,hr,jn_one]
abbrev zbo:Stmt:=top 21
theorem zhh:FnScope ["value"] ["value"] (za3 zbo):=⟨rfl,rfl,rfl,by decide +kernel,rfl,by decide +kernel,by decide +kernel⟩
noncomputable def zcj:PSt->Option Out :=
 (zay (sIf (mAp (g2 eqT) (za0 (mIx (za5 0) (mC (.int 1))) (za0 (mC (.int 1)) za4))) (zd7 (zat zaj (za0 (mIx (za5 0) (mC (.int 0))) za4))) sNx)
 (zd7 (mAp (g2 ze6) (za0 (mAp (g2 ze6) (za0 (zat zaj (za0 (mIx (za5 0) (mC (.int 0))) za4)) (za0 (mC (.str "/")) za4))) (za0 (zat zaj (za0 (mIx (za5 0) (mC (.int 1))) za4)) za4)))))
noncomputable def zb6:List T->Option Ru:=zfp 1 1 zcj
noncomputable abbrev zhp:Fn:=⟨2,["value"],zb6⟩
noncomputable abbrev zhm:Gx:=⟨[],[],[],[],false,true,true,none,[],[],[],true,[],[],[],[]⟩
noncomputable abbrev zeo:Gm:=⟨["value"],(za3 zbo).names,[],1,[("show_number",zcu)],[],[],[],[],false,[],[],[],zhm⟩
theorem zhr:dSs 200 zeo (zad zbo)=some zcj:=by kernel_rfl
def frS(a b:Nat):Str:=if b=1 then Tx.dg a else Tx.dg a++Str.ofString "/"++Tx.dg b
theorem sf_ok{a b:Nat}(ha:a<10 ^ 60)(hb:b<10 ^ 60):zb6 [.tup [.int (a:Int),.int (b:Int)]]=some (.ok (.str (frS a b))):=by
 have a0:atI [T.int (a:Int),T.int (b:Int)] 0=some (.int (a:Int)):=zar (by decide) rfl
 have a1:atI [T.int (a:Int),T.int (b:Int)] 1=some (.int (b:Int)):=zar (by decide) rfl
 have l1:=zf5 (yb3 ha (by decide +kernel))
 have l2:=zf5 (yb3 hb (by decide +kernel))
 have l3:(Str.ofString "/").length=1:=by decide +kernel
 have l4:(Tx.dg a).length+(Str.ofString "/").length<=lim:=by unfold lim;omega
 have l5:(Tx.dg a++Str.ofString "/").length+(Tx.dg b).length<=lim:=by
  have e:(Tx.dg a++Str.ofString "/").length=(Tx.dg a).length+(Str.ofString "/").length:=by rw[Tx.cs_len,Tx.cs_app,yag];rfl
  unfold lim
  omega
 by_cases h:b=1
 ·have e:(((b:Nat):Int) == 1)=true:=by rw[h];rfl
  unfold frS;rw[if_pos h];unfold zb6 zcj
  simp_arith[a0,a1,zdp,e,sn_ok ha]
 ·have e:(((b:Nat):Int) == 1)=false:=by
   rw[yan];intro z;have:=eq_of_beq z
   omega
  unfold frS;rw[if_neg h];unfold zb6 zcj
  simp_arith[a0,a1,zdp,e,sn_ok ha,sn_ok hb,l4,l5]
abbrev zgb:Stmt:=top 37
theorem sc_Lsteps:FnScope ["_law_cells","_law_run","_law_cell","_law_top","_law_bottom","_law_share","_law_door"] ["_law_cells"] (za3 zgb):=⟨rfl,rfl,rfl,by decide +kernel,rfl,by decide +kernel,by decide +kernel⟩
noncomputable def zf9:PSt->Option Out :=
 (zay (zd8 (zat zcq (za0 (za5 2) za4)) (bNm 3))
 (zay (zd8 (mAp (g2 ze6) (za0 (mC (.int 1)) (za0 (mAp (g2 zi1) (za0 (zat zcq (za0 (mAp (g2 ze4) (za0 (za5 2) (za0 (mC (.int 9)) za4))) za4)) (za0 (mAp (g2 subT) (za0 (mAp (g2 powT) (za0 (mC (.int 10)) (za0 (mC (.int 60)) za4))) (za0 (mC (.int 1)) za4))) za4))) za4))) (bNm 4))
 (zay (zd8 (zat zde (za0 (za5 3) (za0 (za5 4) za4))) (bNm 5))
 (zay (zd8 (mIx (zij (zau (mC .non) (zau (zat zcq (za0 (mAp (g2 ze4) (za0 (za5 2) (za0 (mC (.int 27)) za4))) za4)) (zau (mAp (g2 zi1) (za0 (mAp (g2 ze4) (za0 (za5 2) (za0 (mC (.int 27)) za4))) (za0 (mC (.int 3)) za4))) za4)))) (mAp (g2 zi1) (za0 (mAp (g2 ze4) (za0 (za5 2) (za0 (mC (.int 3)) za4))) (za0 (mC (.int 3)) za4)))) (bNm 6))
 (sApp 1 (mTup (za0 (mTup (za0 (mAp (g2 ze4) (za0 (za5 3) (za0 (za5 5) za4))) (za0 (mAp (g2 ze4) (za0 (za5 4) (za0 (za5 5) za4))) za4))) (za0 (za5 6) za4))))))))
noncomputable def m_Lsteps:PSt->Option Out :=
 (zay (sOwn 1 (zij za4))
 (zay (sFor (iTxt (za5 0)) (bNm 2) zf9)
 (zd7 (za5 1))))
noncomputable def zfl:List T->Option Ru:=zfp 1 7 m_Lsteps
noncomputable abbrev fn_Lsteps:Fn:=⟨2,["_law_cells"],zfl⟩
noncomputable abbrev gx_Lsteps:Gx:=⟨[],[],[],[],false,true,true,none,[],[],[],true,[],[],[],[]⟩
noncomputable abbrev gm_Lsteps:Gm:=⟨["_law_cells","_law_run","_law_cell","_law_top","_law_bottom","_law_share","_law_door"],(za3 zgb).names,[],1,[("_law_size",fn_Lsize),("_law_divisor",fn_Ldivisor)],[],[],["_law_run"],[],false,[],[],[],gx_Lsteps⟩
theorem ck_Lsteps:dSs 200 gm_Lsteps (zad zgb)=some m_Lsteps:=by kernel_rfl
theorem dg_free(n:Nat){c:Nat}(hc:c<48\/57<c):c∉Tx.cs (Tx.dg n):=fun h=>by
 have:=Tx.dg_all n c h
 omega
theorem zh8(x y:Str):(x++y).length=x.length+y.length:=by rw[Tx.cs_len,Tx.cs_app,yag];rfl
theorem zcr{x y:Str}{n m:Nat}(hx:x.length<=n)(hy:y.length<=m):(x++y).length<=n+m:=by
 rw[zh8]
 omega
theorem zl{x y:Str}{n m:Nat}(hx:x.length<=n)(hy:y.length<=m)(h:n+m<=16777216):x.length+y.length<=lim:=by
 unfold lim
 omega
theorem sq{f g:PSt->Option Out}{τ τ':PSt}{r:Option Out}(h:f τ=some (.nx τ'))(h2:g τ'=r):zay f g τ=r:=by
 unfold zay;rw[h];exact h2
theorem fr_cs{p q:Nat}(h:q≠1):Tx.cs (frS p q)=Tx.cs (Tx.dg p)++47::Tx.cs (Tx.dg q):=by
 unfold frS;rw[if_neg h,Tx.cs_app,Tx.cs_app,yb1,show Tx.cs (Str.ofString "/")=[47] by decide +kernel]
 rfl
theorem fr_len{p q:Nat}(hp:p<10 ^ 60)(hq:q<10 ^ 60):(Tx.cs (frS p q)).length<=121:=by
 have h1:=Tx.dg_len (by decide) hp
 have h2:=Tx.dg_len (by decide) hq
 by_cases h:q=1
 ·unfold frS;rw[if_pos h]
  omega
 ·rw[fr_cs h,yag,yaa]
  omega
theorem fr_read{p q:Nat}(hp:p<10 ^ 60)(hq:q<10 ^ 60)(h0:0<q)(hg:Zm.gd (p:Int) (q:Int)=1):zao [.str (frS p q)]=some (.ok (.tup [.int (p:Int),.int (q:Int)])):=by
 have hl:=fr_len hp hq
 have hx:(frS p q).length+2<=lim:=by
  rw[Tx.cs_len];unfold lim
  omega
 have fr:∀n,47∉Tx.cs (Tx.dg n):=fun n=>dg_free n (by decide)
 by_cases h:q=1
 ·have e:frS p q=Tx.dg p:=by unfold frS;rw[if_pos h]
  rw[e]at hx ⊢;rw[rf_one hx (fr p) (Tx.dg_num hp),Tx.dg_val,h]
  rfl
 ·rw[rf_two hx (fr_cs h) (fr p) (fr q) (Tx.dg_num hp) (Tx.dg_num hq) (by rw[Tx.dg_val];omega) (by rw[Tx.dg_val,Tx.dg_val];exact hg),Tx.dg_val,Tx.dg_val]
theorem fr_signs{p q:Nat}:∀c∈Tx.cs (frS p q),47<=c/\c<=57:=fun c hc=>by
 by_cases h:q=1
 ·unfold frS at hc;rw[if_pos h]at hc;have:=Tx.dg_all _ c hc
  omega
 ·rw[fr_cs h]at hc
  rcases yas.mp hc with hc|hc
  ·have:=Tx.dg_all _ c hc
   omega
  ·rcases ya3.mp hc with rfl|hc
   ·decide
   ·have:=Tx.dg_all _ c hc
    omega
theorem ze5{x:Str}(h:∀c∈Tx.cs x,c<128):PyData.strOk x=true:=by
 unfold PyData.strOk;rw[<- Array.all_toList,yaz];intro c hc;have:=h c hc;exact decide_eq_true (by omega)
theorem sum_le{α:Type}{f:α->Str}{m:Nat}:∀{l:List α},(∀a∈l,(f a).length<=m)->((l.map f).map (·.length)).sum<=l.length * m
 |[],_=>ybb _
 |a::l,h=>by
  have h1:=h a (ya6 ..);have h2:=sum_le (l:=l) fun b hb=>h b (ya5 _ hb)
  rw[yad,yad,ydu,yaa,ydb]
  omega
structure Sd where
 p:Nat
 q:Nat
 d:Option Nat
structure SdOk(s:Sd):Prop where
 hp:s.p<10 ^ 60
 hq:s.q<10 ^ 60
 h0:0<s.q
 hg:Zm.gd (s.p:Int) (s.q:Int)=1
 hd:∀n,s.d=some n->n<10 ^ 60
def doT:Option Nat->T
 |none=>.non
 |some n=>.int (n:Int)
def sdT(s:Sd):T:=.tup [.tup [.int (s.p:Int),.int (s.q:Int)],doT s.d]
theorem do_sh(d:Option Nat):(doT d).sh=true:=by cases d<;>rfl
theorem zfj(d:Option Nat):(doT d).share=doT d:=by cases d<;>rfl
theorem sd_sh(s:Sd):(sdT s).sh=true:=by
 unfold sdT
 simp_arith[do_sh]
theorem zi7{α:Type}{f:α->T}(h:∀a,(f a).sh=true)(l:List α):shL (l.map f)=true:=by
 rw[zi8,List.all_map,yaz];exact fun a _=>h a
theorem zfo(L:List Sd):shL (L.map sdT)=true:=zi7 sd_sh L
theorem zcc(L:List Sd):zb0 (L.map sdT)=L.map sdT:=zaf _ (zfo L)
theorem low_ok{A B:Nat}(hA:A<10 ^ 60)(hB:0<B)(hB2:B<10 ^ 60):∃p q:Nat,(p<10 ^ 60/\q<10 ^ 60/\0<q/\Zm.gd (p:Int) (q:Int)=1)/\(A:Int).fdiv (Zm.gd (A:Int) (B:Int))=(p:Int)/\(B:Int).fdiv (Zm.gd (A:Int) (B:Int))=(q:Int)/\¬ (Zm.gd (A:Int) (B:Int)=0)/\s70 (Zm.gd (A:Int) (B:Int))=true:=by
 have hBi:((B:Nat):Int)≠0:=by omega
 have g0:0<Zm.gd (A:Int) (B:Int):=Zm.gd_pos hBi;have g1:Zm.gd (A:Int) (B:Int)<=(B:Int):=Zm.gd_le (by omega)
 have m1:=Zm.lt_mul (t:=(A:Int)) hBi;have m2:=Zm.lb_mul (t:=(A:Int)) hBi;have gl:=Zm.gd_low (t:=(A:Int)) hBi
 have n1:0<=Zm.lt (A:Int) (B:Int):=by
  unfold Zm.lt;exact Int.fdiv_nonneg (ybw _) (ycd g0)
 have n2:0<Zm.lb (A:Int) (B:Int):=Zm.lb_pos (by omega)
 obtain⟨p,ep⟩:=yc6 n1;obtain⟨q,eq⟩:=yc6 (ycd n2)
 have hp:p<10 ^ 60:=by
  have h3:Zm.lt (A:Int) (B:Int) * 1<=Zm.lt (A:Int) (B:Int) * Zm.gd (A:Int) (B:Int):=ydf g0 n1;rw[m1,ep,Int.mul_one]at h3;exact ycj (ye3.mp h3) hA
 have hq:q<10 ^ 60:=by
  have h3:Zm.lb (A:Int) (B:Int) * 1<=Zm.lb (A:Int) (B:Int) * Zm.gd (A:Int) (B:Int):=ydf g0 (ycd n2);rw[m2,eq,Int.mul_one]at h3;exact ycj (ye3.mp h3) hB2
 rw[ep,eq]at gl;refine⟨p,q,⟨hp,hq,by omega,gl⟩,ep,eq,by omega,?_⟩
 unfold s70;refine @decide_eq_true _ (Classical.propDecidable _) ⟨?_,?_⟩
 ·exact Int.lt_trans (show(-(10 ^ 70):Int)<0 by decide +kernel) g0
 ·refine Int.lt_of_le_of_lt g1 (Int.lt_trans (Int.ofNat_lt.mpr hB2) ?_)
  decide +kernel
theorem bot_ok{B0:Nat}:∃B:Nat,0<B/\B<10 ^ 60/\(1:Int)+((B0:Nat):Int).fmod (10 ^ 60 - 1)=(B:Int):=by
 have pz:(0:Int)<10 ^ 60 - 1:=by decide +kernel
 obtain⟨B1,eB1⟩:=yc6 (yb6 ((B0:Nat):Int) pz);have h1:=ybj ((B0:Nat):Int) pz;rw[eB1]at h1
 have h2:((1+B1:Nat):Int)<((10 ^ 60:Nat):Int):=by
  rw[Int.natCast_add];exact Int.add_lt_of_lt_sub_left h1
 exact⟨1+B1,by omega,Int.ofNat_lt.mp h2,by rw[eB1];rfl⟩
theorem door_at(c:Int){D:Nat}(hD:D<10 ^ 60):∃d:Option Nat,(∀n,d=some n->n<10 ^ 60)/\atI [T.non,.int (D:Int),.int ((c.fdiv 27).fmod 3)] ((c.fdiv 3).fmod 3)=some (doT d):=by
 have h3:(c.fdiv 3).fmod 3=0\/(c.fdiv 3).fmod 3=1\/(c.fdiv 3).fmod 3=2:=by
  rw[fm (by decide)]
  omega
 rcases h3 with h|h|h
 ·exact⟨none,fun _ z=>(by cases z),by rw[h];exact zar (by decide) rfl⟩
 ·exact⟨some D,fun _ z=>(by cases z;exact hD),by rw[h];exact zar (by decide) rfl⟩
 ·obtain⟨e,he⟩:=yc6 (yb6 (c.fdiv 27) (show(0:Int)<3 by decide))
  have h1:=ybj (c.fdiv 27) (show(0:Int)<3 by decide)
  rw[he]at h1;refine⟨some e,fun n z=>?_,by rw[h,he];exact zar (by decide) rfl⟩
  cases z;exact yah (show e<3 by omega) (by decide +kernel)
theorem st_turn{c:Int}{l:List T}(hl:l.length<1000){x0 x3 x4 x5 x6:Option T}:∃s:Sd,SdOk s/\∃y3 y4 y5 y6,zf9 [x0,some (.own l),some (.int c),x3,x4,x5,x6]=some (.nx [x0,some (.own (l++[sdT s])),some (.int c),y3,y4,y5,y6]):=by
 obtain⟨A,hA,eA⟩:=zi5 c;obtain⟨B0,hB0,eB0⟩:=zi5 (c.fdiv 9);obtain⟨D,hD,eD⟩:=zi5 (c.fdiv 27);obtain⟨B,hB,hB2,eB⟩:=bot_ok (B0:=B0);obtain⟨p,q,⟨hp,hq,h0,hg⟩,d1,d2,gz,gs⟩:=low_ok hA hB hB2;obtain⟨d,hd,ed⟩:=door_at c hD;have p60:(0:Int)<=60/\(60:Int)<=1000000/\s64 10=true:=⟨by decide,by decide,s64_10⟩
 have r60:(60:Int).toNat=60:=rfl;have n60:¬ ((10:Int) ^ 60 - 1=0):=by decide +kernel
 have s3:s70 3=true:=zgd (by decide +kernel) (by decide +kernel)
 have s9:s70 9=true:=zgd (by decide +kernel) (by decide +kernel)
 have s27:s70 27=true:=zgd (by decide +kernel) (by decide +kernel)
 have ll:l.length<100000:=by omega
 have eT:[T.tup [.int (p:Int),.int (q:Int)],doT d]=[T.tup [.int (p:Int),.int (q:Int)],doT d]:=rfl;refine⟨⟨p,q,d⟩,⟨hp,hq,h0,hg,hd⟩,some (.int (A:Int)),some (.int (B:Int)),some (.int (Zm.gd (A:Int) (B:Int))),some (doT d),?_⟩;unfold zf9;refine sq (τ':=[x0,some (.own l),some (.int c),some (.int (A:Int)),x4,x5,x6]) (by simp_arith[eA]) ?_
 refine sq (τ':=[x0,some (.own l),some (.int c),some (.int (A:Int)),some (.int (B:Int)),x5,x6]) (by simp_arith[eB0,p60,r60,n60,s9,eB]) ?_
 refine sq (τ':=[x0,some (.own l),some (.int c),some (.int (A:Int)),some (.int (B:Int)),some (.int (Zm.gd (A:Int) (B:Int))),x6]) (by simp_arith[ldiv_ok]) ?_
 refine sq (τ':=[x0,some (.own l),some (.int c),some (.int (A:Int)),some (.int (B:Int)),some (.int (Zm.gd (A:Int) (B:Int))),some (doT d)]) (by simp_arith[eD,s3,s27,ed,do_sh,zfj]) ?_
 simp_arith[gz,gs,d1,d2,ll,do_sh,zfj,sdT]
theorem steps_ok(ns:List Int)(hn:ns.length<=63):∃L:List Sd,L.length<=63/\(∀s∈L,SdOk s)/\zfl [.lst (ns.map T.int)]=some (.ok (.own (L.map sdT))):=by
 obtain⟨τ,e,L,hL,hok,z2,z3,z4,z5,z6,rfl⟩:=ze2 (b:=bNm 2) (body:=zf9) (ts:=ns.map T.int) (τ:=[some (.lst (ns.map T.int)),some (.own []),none,none,none,none,none])
  (fun i τ=>∃L:List Sd,L.length=i/\(∀s∈L,SdOk s)/\∃x2 x3 x4 x5 x6,τ=[some (.lst (ns.map T.int)),some (.own (L.map sdT)),x2,x3,x4,x5,x6]) ⟨[],rfl,fun _ z=>(by cases z),none,none,none,none,none,rfl⟩ fun i t τ h1 h2=>by
   rw[yae]at h1;obtain⟨c,hc,rfl⟩:=ya0.mp h1;have hi:=(ya7.mp hc).1;obtain⟨L,hL,hok,x2,x3,x4,x5,x6,rfl⟩:=h2;obtain⟨s,hs,y3,y4,y5,y6,ew⟩:=st_turn (c:=c) (l:=L.map sdT) (by rw[ya4];omega) (x0:=some (.lst (ns.map T.int))) (x3:=x3) (x4:=x4) (x5:=x5) (x6:=x6)
   refine⟨_,by simp_arith[],_,ew,L++[s],by rw[yag,hL];rfl,fun u hu=>?_,_,_,_,_,_,by rw[yci];rfl⟩
   rcases yas.mp hu with hu|hu
   ·exact hok u hu
   ·rw[ya8.mp hu];exact hs
 refine⟨L,by rw[hL,ya4];exact hn,hok,?_⟩
 unfold zfl m_Lsteps
 simp_arith[zc5,zg0,e]
abbrev zcg:Stmt:=top 38
theorem zjf:FnScope ["_law_run","_law_parts","_law_wait","_law_door","_law_text"] ["_law_run"] (za3 zcg):=⟨rfl,rfl,rfl,by decide +kernel,rfl,by decide +kernel,by decide +kernel⟩
noncomputable def zcb:PSt->Option Out :=
 (zay (zd8 (mAp (g1 strT) (za0 (mIx (za5 2) (mC (.int 0))) za4)) (bNm 4))
 (zay (sIf (mAp (g2 (cmpT fun i j=>decide (j<i))) (za0 (mIx (za5 2) (mC (.int 1))) (za0 (mC (.int 1)) za4))) (zd8 (mAp (g2 ze6) (za0 (mAp (g2 ze6) (za0 (za5 4) (za0 (mC (.str "/")) za4))) (za0 (mAp (g1 strT) (za0 (mIx (za5 2) (mC (.int 1))) za4)) za4))) (bNm 4)) sNx)
 (sIf (mAp (g2 (isT2 false)) (za0 (za5 3) (za0 (mC .non) za4))) (sApp 1 (mAp (g2 ze6) (za0 (za5 4) (za0 (mC (.str " -")) za4)))) (sApp 1 (mAp (g2 ze6) (za0 (mAp (g2 ze6) (za0 (za5 4) (za0 (mC (.str " ")) za4))) (za0 (mAp (g1 strT) (za0 (za5 3) za4)) za4)))))))
noncomputable def zeh:PSt->Option Out :=
 (zay (sOwn 1 (zij za4))
 (zay (sFor (iTxt (za5 0)) (bTup 2 (zbl (bNm 2) (zbl (bNm 3) bNil))) zcb)
 (zd7 (mJn (mC (.str "; ")) (za5 1)))))
noncomputable def zbw:List T->Option Ru:=zfp 1 5 zeh
noncomputable abbrev zjp:Fn:=⟨1,["_law_run"],zbw⟩
noncomputable abbrev zjn:Gx:=⟨[],[],[],[],false,true,true,none,[],[],[],true,[],[],[],[]⟩
noncomputable abbrev zfv:Gm:=⟨["_law_run","_law_parts","_law_wait","_law_door","_law_text"],(za3 zcg).names,[],0,[],["str"],[],["_law_parts"],[],false,[],[],[],zjn⟩
theorem zjv:dSs 200 zfv (zad zcg)=some zeh:=by kernel_rfl
def doS:Option Nat->Str
 |none=>Str.ofString "-"
 |some n=>Tx.dg n
def sdS(s:Sd):Str:=frS s.p s.q++Str.ofString " "++doS s.d
theorem li_b:Tx.cs (Str.ofString " ")=[32]:=by decide +kernel
theorem li_m:Tx.cs (Str.ofString "-")=[45]:=by decide +kernel
theorem li_bm:Tx.cs (Str.ofString " -")=[32,45]:=by decide +kernel
theorem ln_b:(Str.ofString " ").length=1:=by decide +kernel
theorem ln_bm:(Str.ofString " -").length=2:=by decide +kernel
theorem do_signs(d:Option Nat):∀c∈Tx.cs (doS d),45<=c/\c<=57:=fun c hc=>by
 cases d with
 |none =>
  rw[show doS none=Str.ofString "-" from rfl,li_m]at hc;rw[ya8.mp hc]
  decide
 |some n =>
  have:=Tx.dg_all n c hc
  omega
theorem do_len{s:Sd}(h:SdOk s):(doS s.d).length<=60:=by
 cases hd:s.d with
 |none=>decide +kernel
 |some n =>
  rw[Tx.cs_len];exact Tx.dg_len (by decide) (h.hd n hd)
theorem sd_cs(s:Sd):Tx.cs (sdS s)=Tx.cs (frS s.p s.q)++32::Tx.cs (doS s.d):=by
 unfold sdS;rw[Tx.cs_app,Tx.cs_app,li_b,yb1]
 rfl
theorem sd_signs(s:Sd):∀c∈Tx.cs (sdS s),c<=57:=fun c hc=>by
 rw[sd_cs]at hc
 rcases yas.mp hc with hc|hc
 ·exact(fr_signs c hc).2
 ·rcases ya3.mp hc with rfl|hc
  ·decide
  ·exact(do_signs _ c hc).2
theorem sd_len{s:Sd}(h:SdOk s):(sdS s).length<=182:=by
 have h1:=fr_len h.hp h.hq;have h2:=do_len h;rw[Tx.cs_len]at h2;rw[Tx.cs_len,sd_cs,yag,yaa]
 omega
theorem sd_none{s:Sd}(h:s.d=none):sdS s=frS s.p s.q++Str.ofString " -":=Tx.cs_ext (by rw[sd_cs,h,Tx.cs_app,li_bm,show doS none=Str.ofString "-" from rfl,li_m])
theorem tx_turn{s:Sd}(hs:SdOk s){l:List T}(hl:l.length<1000){x0 x4:Option T}:∃y4,zcb [x0,some (.own l),some (.tup [.int (s.p:Int),.int (s.q:Int)]),some (doT s.d),x4]=some (.nx [x0,some (.own (l++[.str (sdS s)])),some (.tup [.int (s.p:Int),.int (s.q:Int)]),some (doT s.d),y4]):=by
 obtain⟨p,q,d⟩:=s;have hp':p<10 ^ 63:=yb3 hs.hp (by decide +kernel)
 have hq':q<10 ^ 63:=yb3 hs.hq (by decide +kernel)
 have a0:atI [T.int (p:Int),T.int (q:Int)] 0=some (.int (p:Int)):=zar (by decide) rfl
 have a1:atI [T.int (p:Int),T.int (q:Int)] 1=some (.int (q:Int)):=zar (by decide) rfl
 have z1:=zl (zf5 hp') (yaw (show(Str.ofString "/").length=1 by decide +kernel)) (by decide)
 have z2:=zl (zcr (zf5 hp') (yaw (show(Str.ofString "/").length=1 by decide +kernel))) (zf5 hq') (by decide)
 have fl:(frS p q).length<=121:=fr_len hs.hp hs.hq;have ll:l.length<100000:=by omega
 refine⟨some (.str (frS p q)),?_⟩;unfold zcb;refine sq (τ':=[x0,some (.own l),some (.tup [.int (p:Int),.int (q:Int)]),some (doT d),some (.str (Tx.dg p))]) (by simp_arith[a0,strT,zim hp',zi4,do_sh,zfj]) ?_
 refine sq (τ':=[x0,some (.own l),some (.tup [.int (p:Int),.int (q:Int)]),some (doT d),some (.str (frS p q))]) ?_ ?_
 ·by_cases hq1:q=1
  ·have e:frS p q=Tx.dg p:=by unfold frS;rw[if_pos hq1]
   have dq:decide ((1:Int)<((q:Nat):Int))=false:=decide_eq_false (by omega)
   simp_arith[a1,dq,e]
  ·have e:frS p q=Tx.dg p++Str.ofString "/"++Tx.dg q:=by unfold frS;rw[if_neg hq1]
   have dq:decide ((1:Int)<((q:Nat):Int))=true:=decide_eq_true (by have:=hs.h0;omega)
   simp_arith[a1,dq,e,strT,zim hq',zi4,z1,z2]
 cases d with
 |none =>
  have z3:=zl fl (yaw ln_bm) (by decide)
  have e:sdS ⟨p,q,none⟩=frS p q++Str.ofString " -":=sd_none rfl
  simp_arith[doT,z3,e,ll]
 |some n =>
  have hn':n<10 ^ 63:=yb3 (hs.hd n rfl) (by decide +kernel)
  have z3:=zl fl (yaw ln_b) (by decide)
  have z4:=zl (zcr fl (yaw ln_b)) (zf5 hn') (by decide)
  have e:sdS ⟨p,q,some n⟩=frS p q++Str.ofString " "++Tx.dg n:=rfl
  simp_arith[doT,z3,z4,e,ll,strT,zim hn',zi4]
def ruS(L:List Sd):Str:=Txt.join (Str.ofString "; ") (L.map sdS)
theorem ru_sum{L:List Sd}(h:∀s∈L,SdOk s)(hl:L.length<=63):((L.map sdS).map (·.length)).sum+(L.map sdS).length * (Str.ofString "; ").length<=lim:=by
 have h1:=sum_le (f:=sdS) (m:=182) fun s hs=>sd_len (h s hs)
 have h2:(Str.ofString "; ").length=2:=by decide +kernel
 rw[h2,ya4];unfold lim
 omega
theorem strs_map{α:Type}(f:α->Str)(l:List α):zcw (l.map fun a=>T.str (f a))=some (l.map f):=by
 have:=zfc (l.map f);rw[yba]at this;exact this
theorem stx_ok{L:List Sd}(h:∀s∈L,SdOk s)(hl:L.length<=63):zbw [.lst (L.map sdT)]=some (.ok (.str (ruS L))):=by
 obtain⟨τ,e,z2,z3,z4,rfl⟩:=ze2 (b:=bTup 2 (zbl (bNm 2) (zbl (bNm 3) bNil))) (body:=zcb) (ts:=L.map sdT) (τ:=[some (.lst (L.map sdT)),some (.own []),none,none,none])
  (fun i τ=>∃x2 x3 x4,τ=[some (.lst (L.map sdT)),some (.own ((L.take i).map fun s=>T.str (sdS s))),x2,x3,x4]) ⟨none,none,none,rfl⟩ fun i t τ h1 h2=>by
   rw[yae]at h1;obtain⟨s,hs,rfl⟩:=ya0.mp h1;have hi:=(ya7.mp hs).1;obtain⟨x2,x3,x4,rfl⟩:=h2;obtain⟨y4,ew⟩:=tx_turn (h s (ybm hs)) (l:=(L.take i).map fun s=>T.str (sdS s)) (by rw[ya4,yc3];omega) (x0:=some (.lst (L.map sdT))) (x4:=x4)
   refine⟨_,(by unfold sdT;simp_arith[do_sh,zfj]),_,ew,some (.tup [.int (s.p:Int),.int (s.q:Int)]),some (doT s.d),y4,?_⟩
   rw[List.take_succ,hs,yci]
   rfl
 rw[ya4,List.take_length]at e;have hs:=ru_sum h hl;have hj:=strs_map sdS L;unfold zbw zeh
 simp_arith[zcc,zfo,e,mJn,hj,hs]
 rfl
abbrev zdh:Stmt:=top 27
theorem sc_show_door:FnScope ["door"] ["door"] (za3 zdh):=⟨rfl,rfl,rfl,by decide +kernel,rfl,by decide +kernel,by decide +kernel⟩
noncomputable def zec:PSt->Option Out :=
 (zd7 (mIf (mAp (g2 (isT2 false)) (za0 (za5 0) (za0 (mC .non) za4))) (mC (.str "-")) (zat zaj (za0 (za5 0) za4))))
noncomputable def zc1:List T->Option Ru:=zfp 1 1 zec
noncomputable abbrev fn_show_door:Fn:=⟨2,["door"],zc1⟩
noncomputable abbrev gx_show_door:Gx:=⟨[],[],[],[],false,true,true,none,[],[],[],true,[],[],[],[]⟩
noncomputable abbrev zhc:Gm:=⟨["door"],(za3 zdh).names,[],1,[("show_number",zcu)],[],[],[],[],false,[],[],[],gx_show_door⟩
theorem ck_show_door:dSs 200 zhc (zad zdh)=some zec:=by kernel_rfl
theorem sdo_ok{s:Sd}(h:SdOk s):zc1 [doT s.d]=some (.ok (.str (doS s.d))):=by
 obtain⟨p,q,d⟩:=s;cases d with
 |none =>
  unfold zc1 zec
  simp_arith[doT]
  rfl
 |some n =>
  unfold zc1 zec
  simp_arith[doT,sn_ok (h.hd n rfl)]
  rfl
abbrev zdv:Stmt:=top 26
theorem sc_show_run:FnScope ["run"] ["run"] (za3 zdv):=⟨rfl,rfl,rfl,by decide +kernel,rfl,by decide +kernel,by decide +kernel⟩
noncomputable def zf7:PSt->Option Rs :=
 (mAp (g2 ze6) (za0 (mAp (g2 ze6) (za0 (zat zb6 (za0 (za5 0) za4)) (za0 (mC (.str " ")) za4))) (za0 (zat zc1 (za0 (za5 1) za4)) za4)))
noncomputable def zgx:PSt->Option Out :=
 (zd7 (mJn (mC (.str "; ")) (mLC 2 [] (iTxt (za5 0)) (bTup 2 (zbl (bNm 0) (zbl (bNm 1) bNil))) (mC (.bl true)) zf7)))
noncomputable def zc8:List T->Option Ru:=zfp 1 1 zgx
noncomputable abbrev fn_show_run:Fn:=⟨3,["run"],zc8⟩
noncomputable abbrev gx_show_run:Gx:=⟨[],[],[],[],false,true,true,none,[],[],[],true,[],[],[],[]⟩
noncomputable abbrev ziw:Gm:=⟨["run"],(za3 zdv).names,[],2,[("show_fraction",zhp),("show_door",fn_show_door)],[],[],[],[],false,[],[],[],gx_show_run⟩
theorem ck_show_run:dSs 200 ziw (zad zdv)=some zgx:=by kernel_rfl
theorem srun_ok{L:List Sd}(h:∀s∈L,SdOk s)(hl:L.length<=63):zc8 [.lst (L.map sdT)]=some (.ok (.str (ruS L))):=by
 have lc:=zg4 (b:=bTup 2 (zbl (bNm 0) (zbl (bNm 1) bNil))) (me:=zf7) sdT (fun s=>T.str (sdS s)) (fun τ=>∃a b,τ=[a,b]) L [none,none] ⟨none,none,rfl⟩ fun s hs τ hI=>by
  obtain⟨a,b,rfl⟩:=hI;have ok:=h s hs;have e1:=sf_ok ok.hp ok.hq;have e2:=sdo_ok ok;have fl:(frS s.p s.q).length<=121:=fr_len ok.hp ok.hq;have z1:=zl fl (yaw ln_b) (by decide)
  have z2:=zl (zcr fl (yaw ln_b)) (do_len ok) (by decide)
  refine⟨[some (.tup [.int (s.p:Int),.int (s.q:Int)]),some (doT s.d)],by unfold sdT;simp_arith[do_sh,zfj],?_,_,_,rfl⟩
  unfold zf7
  simp_arith[e1,e2,z1,z2,do_sh,zfj]
  rfl
 have hs:=ru_sum h hl;have hj:=strs_map sdS L;have ll:(L.map sdT).length<=lim:=by rw[ya4];unfold lim;omega
 unfold zc8 zgx
 simp_arith[zcc,zfo,ll,lc,mJn,hj,hs]
 rfl
abbrev zdi:Stmt:=top 29
theorem sc_read_step:FnScope ["text","words","door"] ["text"] (za3 zdi):=⟨rfl,rfl,rfl,by decide +kernel,rfl,by decide +kernel,by decide +kernel⟩
noncomputable def zed:PSt->Option Out :=
 (zay (zd8 (mSpl (za5 0) (mC (.str " "))) (bNm 1))
 (zay (sIf (mAp (g2 neT) (za0 (mAp (g1 lenT) (za0 (za5 1) za4)) (za0 (mC (.int 2)) za4))) (sRse "NoText" (za0 (mC (.str "a step is a wait and a door")) za4)) sNx)
 (zay (zd8 (mIf (mAp (g2 eqT) (za0 (mIx (za5 1) (mC (.int 1))) (za0 (mC (.str "-")) za4))) (mC .non) (zat zab (za0 (mIx (za5 1) (mC (.int 1))) za4))) (bNm 2))
 (zd7 (mTup (za0 (zat zao (za0 (mIx (za5 1) (mC (.int 0))) za4)) (za0 (za5 2) za4)))))))
noncomputable def zc2:List T->Option Ru:=zfp 1 3 zed
noncomputable abbrev fn_read_step:Fn:=⟨4,["text"],zc2⟩
noncomputable abbrev gx_read_step:Gx:=⟨[],[],[],[],false,true,true,none,[],[],[],true,[],[],[],[]⟩
noncomputable abbrev zhd:Gm:=⟨["text","words","door"],(za3 zdi).names,[],3,[("read_number",zcv),("read_fraction",zhq)],["len"],["NoText"],[],[],false,[],[],[],gx_read_step⟩
theorem ck_read_step:dSs 200 zhd (zad zdi)=some zed:=by kernel_rfl
theorem bl_is:Str.ofString " "=(⟨#[32]⟩:Str):=Tx.cs_ext li_b
theorem bl_ok{x:Str}(h:x.length+2<=lim):((Str.ofString " ").length == 0)=false/\x.length+2<=lim:=⟨by decide +kernel,h⟩
theorem mi_ok:PyData.strOk (Str.ofString "-")=true:=by decide +kernel
theorem dg_asc(n:Nat):∀c∈Tx.cs (Tx.dg n),c<128:=fun c hc=>by
 have:=Tx.dg_all n c hc
 omega
theorem dg_mi(n:Nat):decide (Tx.dg n=Str.ofString "-")=false:=decide_eq_false fun z=>by
 have h:=Tx.dg_all n 45 (by rw[z,li_m];exact ya8.mpr rfl)
 omega
theorem rst_ok{s:Sd}(h:SdOk s):zc2 [.str (sdS s)]=some (.ok (sdT s)):=by
 obtain⟨p,q,d⟩:=s
 have sp:Txt.split (sdS ⟨p,q,d⟩) (Str.ofString " ")=[frS p q,doS d]:=by
  rw[bl_is];refine Tx.split_is (yb7 _ _) (fun z hz=>?_) (sd_cs _)
  rcases ya3.mp hz with rfl|hz
  ·exact fun z=>by have:=fr_signs _ z;omega
  ·rw[ya8.mp hz];exact fun z=>by have:=do_signs _ _ z;omega
 have hl:=sd_len h;have hx:(sdS ⟨p,q,d⟩).length+2<=lim:=by unfold lim;omega
 obtain⟨a1,a2⟩:=two_at (p:=frS p q) (q:=doS d);have e1:=fr_read h.hp h.hq h.h0 h.hg;cases d with
 |none =>
  have e2:eqT (.str (doS none)) (.str (Str.ofString "-"))=some (.bl true):=by
   rw[show doS none=Str.ofString "-" from rfl,zf3 mi_ok mi_ok,decide_eq_true rfl]
  unfold zc2 zed
  simp_arith[mSpl,bl_ok hx,sp,zha,a1,a2,e1,e2]
  rfl
 |some n =>
  have e2:eqT (.str (doS (some n))) (.str (Str.ofString "-"))=some (.bl false):=by
   rw[show doS (some n)=Tx.dg n from rfl,zf3 (ze5 (dg_asc n)) mi_ok,dg_mi]
  have e3:zab [.str (doS (some n))]=some (.ok (.int (n:Int))):=by
   rw[show doS (some n)=Tx.dg n from rfl,rd_ok (Tx.dg_num (h.hd n rfl)),Tx.dg_val]
  unfold zc2 zed
  simp_arith[mSpl,bl_ok hx,sp,zha,a1,a2,e1,e2,e3]
  rfl
abbrev zdw:Stmt:=top 28
theorem sc_read_run:FnScope ["text"] ["text"] (za3 zdw):=⟨rfl,rfl,rfl,by decide +kernel,rfl,by decide +kernel,by decide +kernel⟩
noncomputable def zf8:PSt->Option Rs :=
 (zat zc2 (za0 (za5 0) za4))
noncomputable def zfi:PSt->Option Out :=
 (zay (sExp (zat zbd (za0 (za5 0) za4)))
 (zay (sIf (mAp (g2 eqT) (za0 (za5 0) (za0 (mC (.str "")) za4))) (zd7 (zij za4)) sNx)
 (zd7 (mLC 1 [] (iTxt (mSpl (za5 0) (mC (.str "; ")))) (bNm 0) (mC (.bl true)) zf8))))
noncomputable def zbi:List T->Option Ru:=zfp 1 1 zfi
noncomputable abbrev fn_read_run:Fn:=⟨5,["text"],zbi⟩
noncomputable abbrev gx_read_run:Gx:=⟨[],[],[],[],false,true,true,none,[],[],[],true,[],[],[],[]⟩
noncomputable abbrev zix:Gm:=⟨["text"],(za3 zdw).names,[],4,[("check_text",zel),("read_step",fn_read_step)],[],[],[],[],false,[],[],[],gx_read_run⟩
theorem ck_read_run:dSs 200 zix (zad zdw)=some zfi:=by kernel_rfl
theorem jn_is(s:Str)(l:List Str):Txt.join s l=Str.join s l:=by
 show Builtin.Str.glued _ _=_;rw[StrLaws.glued_eq_join]
theorem se_is:Str.ofString "; "=(⟨#[59,32]⟩:Str):=Tx.cs_ext (by decide +kernel)
theorem ru_cs(L:List Sd):Tx.cs (ruS L)=Tx.joinL2 59 32 ((L.map sdS).map Tx.cs):=by
 unfold ruS;rw[jn_is,se_is,Tx.cs_join2]
theorem j2_mem{c d k:Nat}:∀{l:List (List Nat)},k∈Tx.joinL2 c d l->k=c\/k=d\/∃p∈l,k∈p
 |[],h=>by cases h
 |[a],h=>.inr (.inr ⟨a,ya6 ..,h⟩)
 |a::b::r,h=>by
  rcases yas.mp (show k∈a++c::d::Tx.joinL2 c d (b::r) from h) with h|h
  ·exact .inr (.inr ⟨a,ya6 ..,h⟩)
  ·rcases ya3.mp h with h|h
   ·exact .inl h
   ·rcases ya3.mp h with h|h
    ·exact .inr (.inl h)
    ·rcases j2_mem h with h|h|⟨p,hp,h⟩
     ·exact .inl h
     ·exact .inr (.inl h)
     ·exact .inr (.inr ⟨p,ya5 _ hp,h⟩)
theorem ru_asc(L:List Sd):∀c∈Tx.cs (ruS L),c<128:=fun c hc=>by
 rw[ru_cs]at hc
 rcases j2_mem hc with h|h|⟨p,hp,h⟩
 ·omega
 ·omega
 ·rw[yba]at hp;obtain⟨s,_,rfl⟩:=yay.mp hp;have:=sd_signs s c h
  omega
theorem ru_ok(L:List Sd):PyData.strOk (ruS L)=true:=ze5 (ru_asc L)
theorem em_ok:PyData.strOk (Str.ofString "")=true:=by decide +kernel
theorem ru_ne(s:Sd)(L:List Sd):decide (ruS (s::L)=Str.ofString "")=false:=decide_eq_false fun z=>by
 have e:=ru_cs (s::L);rw[z,show Tx.cs (Str.ofString "")=[] by decide +kernel]at e
 have h:∀(a:List Nat) (r:List (List Nat)),[]=Tx.joinL2 59 32 (a::r)->a=[]:=fun a r h=>by
  cases r with
  |nil=>exact h.symm
  |cons b r=>exact absurd (congrArg List.length h) (by show ¬ (0=(a++59::32::Tx.joinL2 59 32 (b::r)).length);rw[yag,yaa];omega)
 have h2:=h _ _ e;rw[sd_cs]at h2;exact absurd (congrArg List.length h2) (by rw[yag,yaa,ybx];omega)
theorem ru_len{L:List Sd}(h:∀s∈L,SdOk s)(hl:L.length<=63):(ruS L).length+2<=lim:=by
 have key:∀l:List (List Nat),(∀p∈l,p.length<=182)->(Tx.joinL2 59 32 l).length<=l.length * 184:=by
  intro l
  induction l with
  |nil=>intro _;exact ybb _
  |cons a r ih =>
   intro hp;have h1:=hp a (ya6 ..);have h2:=ih fun p hp'=>hp p (ya5 _ hp')
   cases r with
   |nil =>
    show a.length<=1 * 184
    omega
   |cons b r =>
    show(a++59::32::Tx.joinL2 59 32 (b::r)).length<=_;rw[yag,yaa,yaa];rw[yaa (a:=a),ydb]
    omega
 have h1:=key ((L.map sdS).map Tx.cs) fun p hp=>by
  rw[yba]at hp;obtain⟨s,hs,rfl⟩:=yay.mp hp;exact sd_len (h s hs)
 rw[<- ru_cs,ya4,ya4]at h1;rw[Tx.cs_len];unfold lim
 omega
theorem rrun_ok{L:List Sd}(h:∀s∈L,SdOk s)(hl:L.length<=63):zbi [.str (ruS L)]=some (.ok (.own (L.map sdT))):=by
 have ct:=ct_ok (ruS L);have eq0:=zf3 (ru_ok L) em_ok;cases L with
 |nil =>
  have e:decide (ruS []=Str.ofString "")=true:=decide_eq_true rfl;rw[e]at eq0;unfold zbi zfi
  simp_arith[ct,eq0]
 |cons s r =>
  rw[ru_ne]at eq0;have hx:=ru_len h hl;have hc:((Str.ofString "; ").length == 0)=false/\(ruS (s::r)).length+2<=lim:=⟨by decide +kernel,hx⟩
  have sp:Txt.split (ruS (s::r)) (Str.ofString "; ")=(s::r).map sdS:=by
   rw[se_is];refine Tx.split_is2 (by decide) (by decide +kernel) (yb7 _ _) (fun p hp=>?_) (ru_cs _)
   obtain⟨u,_,rfl⟩:=yay.mp hp;exact fun z=>by have:=sd_signs u _ z;omega
  have lc:=zg4 (b:=bNm 0) (me:=zf8) (fun u=>T.str (sdS u)) sdT (fun τ=>∃a,τ=[a]) (s::r) [none] ⟨none,rfl⟩ fun u hu τ hI=>by
   obtain⟨a,rfl⟩:=hI;exact⟨[some (.str (sdS u))],rfl,by unfold zf8;simp_arith[rst_ok (h u hu)],_,rfl⟩
  have em:((s::r).map sdS).map T.str=(s::r).map fun u=>T.str (sdS u):=by rw[yba];rfl
  have ll:((s::r).map fun u=>T.str (sdS u)).length<=lim:=by rw[ya4];unfold lim;omega
  have sl:=zi6 ((s::r).map sdS);rw[em]at sl;generalize hL:(s::r)=L at *;unfold zbi zfi
  simp_arith[ct,eq0,mSpl,hc,sp,em,sl,ll,lc]
abbrev zcy:Stmt:=top 23
theorem sc_show_looks:FnScope ["guard"] ["guard"] (za3 zcy):=⟨rfl,rfl,rfl,by decide +kernel,rfl,by decide +kernel,by decide +kernel⟩
noncomputable def zdt:PSt->Option Rs :=
 (mAp (g2 ze6) (za0 (mAp (g2 ze6) (za0 (za5 0) (za0 (za5 1) za4))) (za0 (zat zaj (za0 (za5 2) za4)) za4)))
noncomputable def zex:PSt->Option Out :=
 (zd7 (mLC 3 [] (iTxt (za5 0)) (bTup 3 (zbl (bNm 0) (zbl (bNm 1) (zbl (bNm 2) bNil)))) (mC (.bl true)) zdt))
noncomputable def zbr:List T->Option Ru:=zfp 1 1 zex
noncomputable abbrev fn_show_looks:Fn:=⟨2,["guard"],zbr⟩
noncomputable abbrev gx_show_looks:Gx:=⟨[],[],[],[],false,true,true,none,[],[],[],true,[],[],[],[]⟩
noncomputable abbrev zgi:Gm:=⟨["guard"],(za3 zcy).names,[],1,[("show_number",zcu)],[],[],[],[],false,[],[],[],gx_show_looks⟩
theorem ck_show_looks:dSs 200 zgi (zad zcy)=some zex:=by kernel_rfl
structure Lk where
 w:Str
 o:Str
 n:Nat
structure LkOk(k:Lk):Prop where
 hw:∀c∈Tx.cs k.w,c<128/\c≠32/\c≠60/\c≠61/\c≠62
 hl:k.w.length<=100
 ho:∃c r,Tx.cs k.o=c::r/\(c=60\/c=61\/c=62)/\(r=[]\/r=[61]/\c≠61)
 hn:k.n<10 ^ 60
def lkT(k:Lk):T:=.tup [.str k.w,.str k.o,.int (k.n:Int)]
def lkS(k:Lk):Str:=k.w++k.o++Tx.dg k.n
theorem lk_sh(k:Lk):(lkT k).sh=true:=rfl
theorem zcn(L:List Lk):shL (L.map lkT)=true:=zi7 lk_sh L
theorem zav(L:List Lk):zb0 (L.map lkT)=L.map lkT:=zaf _ (zcn L)
theorem lk_ol{k:Lk}(h:LkOk k):k.o.length<=2:=by
 obtain⟨c,r,e,_,hr⟩:=h.ho;rw[Tx.cs_len,e]
 rcases hr with rfl|⟨rfl,_⟩
 ·exact ybu 1
 ·exact yab 2
theorem lk_cs{k:Lk}:Tx.cs (lkS k)=Tx.cs k.w++(Tx.cs k.o++Tx.cs (Tx.dg k.n)):=by
 unfold lkS;rw[Tx.cs_app,Tx.cs_app,yb1]
theorem lk_signs{k:Lk}(h:LkOk k):∀c∈Tx.cs (lkS k),c<128/\c≠32:=fun c hc=>by
 rw[lk_cs]at hc
 rcases yas.mp hc with hc|hc
 ·have:=h.hw c hc
  omega
 ·rcases yas.mp hc with hc|hc
  ·obtain⟨c0,r,e,h0,hr⟩:=h.ho;rw[e]at hc
   rcases hr with rfl|⟨rfl,_⟩
   ·rw[ya8.mp hc]
    omega
   ·rcases ya3.mp hc with rfl|hc
    ·omega
    ·rw[ya8.mp hc]
     decide
  ·have:=Tx.dg_all _ c hc
   omega
theorem lk_len{k:Lk}(h:LkOk k):(lkS k).length<=162:=by
 have h1:=h.hl;have h2:=lk_ol h;have h3:=Tx.dg_len (by decide) h.hn
 rw[Tx.cs_len]at h1 h2;rw[Tx.cs_len,lk_cs,yag,yag]
 omega
theorem dg_l{n:Nat}(h:n<10 ^ 60):(Tx.dg n).length<=60:=by
 rw[Tx.cs_len];exact Tx.dg_len (by decide) h
theorem slk_ok{L:List Lk}(h:∀k∈L,LkOk k)(hl:L.length<=63):zbr [.lst (L.map lkT)]=some (.ok (.own (L.map fun k=>T.str (lkS k)))):=by
 have lc:=zg4 (b:=bTup 3 (zbl (bNm 0) (zbl (bNm 1) (zbl (bNm 2) bNil)))) (me:=zdt) lkT (fun k=>T.str (lkS k)) (fun τ=>∃a b c,τ=[a,b,c]) L [none,none,none] ⟨none,none,none,rfl⟩ fun k hk τ hI=>by
  obtain⟨a,b,c,rfl⟩:=hI;have ok:=h k hk;have e1:=sn_ok ok.hn;have z1:=zl ok.hl (lk_ol ok) (by decide)
  have z2:=zl (zcr ok.hl (lk_ol ok)) (dg_l ok.hn) (by decide)
  refine⟨[some (.str k.w),some (.str k.o),some (.int (k.n:Int))],by unfold lkT;simp_arith[],?_,_,_,_,rfl⟩
  unfold zdt
  simp_arith[e1,z1,z2]
  rfl
 have ll:(L.map lkT).length<=lim:=by rw[ya4];unfold lim;omega
 unfold zbr zex
 simp_arith[zav,zcn,ll,lc]
abbrev zdj:Stmt:=top 24
theorem sc_read_look:FnScope ["text","places","at","end"] ["text"] (za3 zdj):=⟨rfl,rfl,rfl,by decide +kernel,rfl,by decide +kernel,by decide +kernel⟩
noncomputable def zco:PSt->Option Rs :=
 (mAp (g2 inT) (za0 (za5 1) (za0 (mC zc6) za4)))
noncomputable def zcp:PSt->Option Rs :=
 (za5 0)
noncomputable def zef:PSt->Option Out :=
 (zay (zd8 (mLC 2 [] (iEnX (za0 (za5 0) za4)) (bTup 2 (zbl (bNm 0) (zbl (bNm 1) bNil))) zco zcp) (bNm 1))
 (zay (sIf (mAp (g2 eqT) (za0 (mAp (g1 lenT) (za0 (za5 1) za4)) (za0 (mC (.int 0)) za4))) (sRse "NoText" (za0 (mC (.str "a look has a word in it")) za4)) sNx)
 (zay (zd8 (mIx (za5 1) (mC (.int 0))) (bNm 2))
 (zay (zd8 (mAp (g2 ze6) (za0 (za5 2) (za0 (mC (.int 1)) za4))) (bNm 3))
 (zay (sIf (mAnd (mAp (g2 neT) (za0 (mIx (za5 0) (za5 2)) (za0 (mC (.str "=")) za4))) (mStw (zg3 (mSl (za5 0) (some (za5 3)) none) (mSlT (za5 0) (some (za5 3)) none)) (mC (.str "=")))) (sAug 3 (mC (.int 1))) sNx)
 (zd7 (mTup (za0 (zg3 (mSl (za5 0) none (some (za5 2))) (mSlT (za5 0) none (some (za5 2)))) (za0 (zg3 (mSl (za5 0) (some (za5 2)) (some (za5 3))) (mSlT (za5 0) (some (za5 2)) (some (za5 3)))) (za0 (zat zab (za0 (zg3 (mSl (za5 0) (some (za5 3)) none) (mSlT (za5 0) (some (za5 3)) none)) za4)) za4))))))))))
noncomputable def zc3:List T->Option Ru:=zfp 1 4 zef
noncomputable abbrev fn_read_look:Fn:=⟨3,["text"],zc3⟩
noncomputable abbrev gx_read_look:Gx:=⟨[("LOOK_SIGNS",zc6)],[],[],[],false,true,true,none,[],[],[],true,[],[],[],[]⟩
noncomputable abbrev zhe:Gm:=⟨["text","places","at","end"],(za3 zdj).names,[],2,[("read_number",zcv)],["enumerate","len"],["NoText"],[],[],false,[],[],[],gx_read_look⟩
theorem ck_read_look:dSs 200 zhe (zad zdj)=some zef:=by kernel_rfl
def isLk(c:Nat):Bool:=decide (c=60\/c=62\/c=61)
theorem lks_in{c:Nat}(h:c<128):inT (.str ⟨#[c]⟩) zc6=some (.bl (isLk c)):=by
 have e:zc6=.nd false .rt ([Str.ofString "<",Str.ofString ">",Str.ofString "="].map T.str):=rfl
 have t:Txs [Str.ofString "<",Str.ofString ">",Str.ofString "="]:=fun y hy=>by
  simp only[ya3,yb9,or_false]at hy
  rcases hy with rfl|rfl|rfl<;>decide +kernel
 rw[e,in_strs t (ze5 fun d hd=>by rw[ya8.mp (show d∈[c] from hd)];exact h)]
 congr 2
 unfold isLk;rw[decide_eq_decide];have e1:Str.ofString "<"=(⟨#[60]⟩:Str):=Tx.cs_ext (by decide +kernel)
 have e2:Str.ofString ">"=(⟨#[62]⟩:Str):=Tx.cs_ext (by decide +kernel)
 have e3:Str.ofString "="=(⟨#[61]⟩:Str):=Tx.cs_ext (by decide +kernel)
 rw[e1,e2,e3];simp only[ya3,yb9,or_false];have q:∀d:Nat,(⟨#[c]⟩:Str)=⟨#[d]⟩ ↔ c=d:=fun d=>⟨fun h=>(ybp (congrArg Tx.cs h:[c]=[d])).1,fun h=>by rw[h]⟩
 rw[q,q,q]
theorem lks_sh:zc6.share=zc6:=rfl
def plc:Nat->List Nat->List T
 |_,[]=>[]
 |k,c::r=>if isLk c then .int (k:Int)::plc (k+1) r else plc (k+1) r
theorem lc_plc:∀(l:List Nat) (k:Nat) (τ:PSt),(∃a b,τ=[a,b])->(∀c∈l,c<128)->lcGo (bTup 2 (zbl (bNm 0) (zbl (bNm 1) bNil))) zco zcp (zfm k (l.map fun c=>T.str ⟨#[c]⟩)) τ=some (plc k l)
 |[],k,τ,_,_=>rfl
 |c::r,k,τ,⟨a,b,e⟩,h=>by
  subst e;have ih:=lc_plc r (k+1) [some (.int (k:Int)),some (.str ⟨#[c]⟩)] ⟨_,_,rfl⟩ fun d hd=>h d (ya5 _ hd)
  have e1:bTup 2 (zbl (bNm 0) (zbl (bNm 1) bNil)) (T.tup [.int (k:Int),.str ⟨#[c]⟩]) [a,b]=some [some (.int (k:Int)),some (.str ⟨#[c]⟩)]:=by simp_arith[]
  have e2:zco [some (.int (k:Int)),some (.str ⟨#[c]⟩)]=some (.v (.bl (isLk c)) false):=by
   unfold zco
   simp_arith[lks_sh,lks_in (h c (ya6 ..))]
  have e3:zcp [some (.int (k:Int)),some (.str ⟨#[c]⟩)]=some (.v (.int (k:Int)) false):=by
   unfold zcp
   simp_arith[]
  rw[yad];unfold zfm plc lcGo;cases hc:isLk c
  ·rw[hc]at e2;simp only[e1,e2,ih]
   rfl
  ·rw[hc]at e2;simp only[e1,e2,e3,ih]
   rfl
theorem plc_at{c:Nat}{u:List Nat}(hc:isLk c=true):∀(w:List Nat) (k:Nat),(∀d∈w,isLk d=false)->∃r,plc k (w++c::u)=.int ((k+w.length:Nat):Int)::r/\r.length<=u.length
 |[],k,_=>⟨plc (k+1) u,by
   show(if isLk c then T.int (k:Int)::plc (k+1) u else plc (k+1) u)=_
   rw[if_pos hc]
   rfl,by
   have key:∀(l:List Nat) (k:Nat),(plc k l).length<=l.length:=by
    intro l
    induction l with
    |nil=>intro k;exact yab _
    |cons a r ih =>
     intro k;have:=ih (k+1);unfold plc;split
     ·rw[yaa,yaa];omega
     ·rw[yaa];omega
   exact key u _⟩
 |d::w,k,h=>by
  obtain⟨r,e,hr⟩:=plc_at (u:=u) hc w (k+1) fun x hx=>h x (ya5 _ hx)
  refine⟨r,?_,hr⟩;show plc k (d::(w++c::u))=_;unfold plc;rw[if_neg (by rw[h d (ya6 ..)];exact Bool.noConfusion),e,yaa]
  congr 3
  omega
theorem eqs_is:Str.ofString "="=(⟨#[61]⟩:Str):=Tx.cs_ext (by decide +kernel)
theorem eqs_ok:PyData.strOk (Str.ofString "=")=true:=by decide +kernel
theorem rlk_ok{k:Lk}(h:LkOk k):zc3 [.str (lkS k)]=some (.ok (lkT k)):=by
 obtain⟨c,r,eo,hc,hr⟩:=h.ho;have hx:=lk_len h;have hxl:(lkS k).length<=lim:=by unfold lim;omega
 have ex:Tx.cs (lkS k)=Tx.cs k.w++c::(r++Tx.cs (Tx.dg k.n)):=by rw[lk_cs,eo];rfl
 have hlk:isLk c=true:=by unfold isLk;exact decide_eq_true (by omega)
 obtain⟨ps,ep,hps⟩:=plc_at (u:=r++Tx.cs (Tx.dg k.n)) hlk (Tx.cs k.w) 0 fun d hd=>by
  have:=h.hw d hd;unfold isLk;exact decide_eq_false (by omega)
 rw[<- ex,Nat.zero_add]at ep;have lc:=lc_plc (Tx.cs (lkS k)) 0 [none,none] ⟨_,_,rfl⟩ fun d hd=>(lk_signs h d hd).1
 rw[ep]at lc;have lc':lcGo (bTup 2 (zbl (bNm 0) (zbl (bNm 1) bNil))) zco zcp (zfm 0 (sgnT (lkS k))) [none,none]=some (.int ((Tx.cs k.w).length:Int)::ps):=lc
 have le:(zfm 0 (sgnT (lkS k))).length<=lim:=by
  rw[zf4];unfold sgnT;rw[ya4];exact hxl
 have hpsl:zb0 ps=ps/\shL ps=true:=by
  have key:∀(l:List Nat) (j:Nat),shL (plc j l)=true:=by
   intro l
   induction l with
   |nil=>intro j;rfl
   |cons a r ih =>
    intro j;unfold plc;split
    ·show(true && shL (plc (j+1) r))=true;rw[ih (j+1)]
     rfl
    ·exact ih (j+1)
  have e:=key (Tx.cs (lkS k)) 0;rw[ep]at e
  have e2:shL ps=true:=by
   have:(true && shL ps)=true:=e;rw[Bool.true_and]at this;exact this
  exact⟨zaf _ e2,e2⟩
 have nz:decide ((((ps.length+1:Nat):Int))=0)=false:=decide_eq_false (by omega)
 have nb:((((ps.length+1:Nat):Int)) == 0)=false:=by
  rw[yan];intro z;have:=eq_of_beq z
  omega
 have a0:atI (T.int ((Tx.cs k.w).length:Int)::ps) 0=some (.int ((Tx.cs k.w).length:Int)):=zar (by decide) rfl
 have aw:atI (lkS k).cps.toList ((Tx.cs k.w).length:Int)=some c:=by
  refine zar (ybw _) ?_;show(Tx.cs (lkS k))[((Tx.cs k.w).length:Int).toNat]?=some c;rw[ycc,ex,yar (yab _),Nat.sub_self]
  rfl
 have cok:PyData.strOk ⟨#[c]⟩=true:=ze5 fun d hd=>by rw[ya8.mp (show d∈[c] from hd)];omega
 have nec:=zk1 cok eqs_ok
 have dec:decide ((⟨#[c]⟩:Str)=Str.ofString "=")=decide (c=61):=by
  rw[decide_eq_decide,eqs_is];exact⟨fun h=>(ybp (congrArg Tx.cs h:[c]=[61])).1,fun h=>by rw[h]⟩
 rw[dec]at nec;have wl:(Tx.cs k.w).length<=(Tx.cs (lkS k)).length:=by rw[ex,yag];omega
 have wl1:(Tx.cs k.w).length+1<=(Tx.cs (lkS k)).length:=by rw[ex,yag,yaa];omega
 have i1:((Tx.cs k.w).length:Int)+1=(((Tx.cs k.w).length+1:Nat):Int):=rfl;have t1:Txt.slice (lkS k) none (some ((Tx.cs k.w).length:Int))=k.w:=Tx.cs_ext (by rw[Tx.sl_to wl,ex,List.take_left'  rfl])
 have f1:Tx.cs (Txt.slice (lkS k) (some (((Tx.cs k.w).length+1:Nat):Int)) none)=r++Tx.cs (Tx.dg k.n):=by
  rw[Tx.sl_from wl1,ex,<- List.drop_drop,yde rfl]
  rfl
 have st:Txt.startswith (Txt.slice (lkS k) (some (((Tx.cs k.w).length+1:Nat):Int)) none) (Str.ofString "=")=decide (r=[61]):=by
  rw[eqs_is,Tx.stw_one,f1,decide_eq_decide]
  rcases hr with rfl|⟨rfl,_⟩
  ·refine⟨fun z=>?_,fun z=>by cases z⟩
   rw[ydc]at z;have:=Tx.dg_all k.n 61 (List.mem_of_mem_head? (by rw[z];exact rfl))
   omega
  ·exact⟨fun _=>rfl,fun _=>rfl⟩
 have rdn:zab [.str (Tx.dg k.n)]=some (.ok (.int (k.n:Int))):=by
  rw[rd_ok (Tx.dg_num h.hn),Tx.dg_val]
 have ln1:((T.int ((Tx.cs k.w).length:Int)::ps).length:Int)=((ps.length+1:Nat):Int):=rfl
 rcases hr with rfl|⟨rfl,hne⟩
 ·have st0:decide (([]:List Nat)=[61])=false:=by decide
  rw[st0]at st
  have m1:Txt.slice (lkS k) (some ((Tx.cs k.w).length:Int)) (some (((Tx.cs k.w).length+1:Nat):Int))=k.o:=Tx.cs_ext (by
   rw[Tx.sl_mid (ye2 _ 1) wl1,ex,yde rfl,eo,yc5]
   rfl)
  have f2:Txt.slice (lkS k) (some (((Tx.cs k.w).length+1:Nat):Int)) none=Tx.dg k.n:=Tx.cs_ext (by rw[f1];rfl)
  rw[f2]at st;unfold zc3 zef;refine(show zfp 1 4 _ _=_ from ?_);cases hd:decide (c=61)
  ·rw[hd]at nec
   simp_arith[iEnX,lc',le,hpsl,zdp,nb,a0,aw,hxl,nec,mStw,mSlT,i1,f2,st,t1,m1,rdn]
   rfl
  ·rw[hd]at nec
   simp_arith[iEnX,lc',le,hpsl,zdp,nb,a0,aw,hxl,nec,mStw,mSlT,i1,f2,st,t1,m1,rdn]
   rfl
 ·have st1:decide (([61]:List Nat)=[61])=true:=by decide
  rw[st1]at st;rw[decide_eq_false hne]at nec;have wl2:(Tx.cs k.w).length+2<=(Tx.cs (lkS k)).length:=by rw[ex,yag,yaa,yag];show _<=_+(1+_+1);omega
  have i2:(((Tx.cs k.w).length+1:Nat):Int)+1=(((Tx.cs k.w).length+2:Nat):Int):=rfl
  have m1:Txt.slice (lkS k) (some ((Tx.cs k.w).length:Int)) (some (((Tx.cs k.w).length+2:Nat):Int))=k.o:=Tx.cs_ext (by
   rw[Tx.sl_mid (ye2 _ _) wl2,ex,yde rfl,eo,yc5]
   rfl)
  have f2:Txt.slice (lkS k) (some (((Tx.cs k.w).length+2:Nat):Int)) none=Tx.dg k.n:=Tx.cs_ext (by
   rw[Tx.sl_from wl2,ex,<- List.drop_drop,yde rfl]
   rfl)
  unfold zc3 zef
  simp_arith[iEnX,lc',le,hpsl,zdp,nb,a0,aw,hxl,nec,mStw,mSlT,i1,st,sAug,i2,f2,t1,m1,rdn]
  rfl
abbrev zd0:Stmt:=top 25
theorem sc_read_looks:FnScope ["words"] ["words"] (za3 zd0):=⟨rfl,rfl,rfl,by decide +kernel,rfl,by decide +kernel,by decide +kernel⟩
noncomputable def zdu:PSt->Option Rs :=
 (zat zc3 (za0 (za5 0) za4))
noncomputable def zey:PSt->Option Out :=
 (zd7 (mLC 1 [] (iTxt (za5 0)) (bNm 0) (mC (.bl true)) zdu))
noncomputable def zbs:List T->Option Ru:=zfp 1 1 zey
noncomputable abbrev fn_read_looks:Fn:=⟨4,["words"],zbs⟩
noncomputable abbrev gx_read_looks:Gx:=⟨[],[],[],[],false,true,true,none,[],[],[],true,[],[],[],[]⟩
noncomputable abbrev zgk:Gm:=⟨["words"],(za3 zd0).names,[],3,[("read_look",fn_read_look)],[],[],[],[],false,[],[],[],gx_read_looks⟩
theorem ck_read_looks:dSs 200 zgk (zad zd0)=some zey:=by kernel_rfl
theorem rlks_ok{L:List Lk}(h:∀k∈L,LkOk k)(hl:L.length<=63):zbs [.lst (L.map fun k=>T.str (lkS k))]=some (.ok (.own (L.map lkT))):=by
 have lc:=zg4 (b:=bNm 0) (me:=zdu) (fun k=>T.str (lkS k)) lkT (fun τ=>∃a,τ=[a]) L [none] ⟨none,rfl⟩ fun k hk τ hI=>by
  obtain⟨a,rfl⟩:=hI;exact⟨[some (.str (lkS k))],rfl,by unfold zdu;simp_arith[rlk_ok (h k hk)],_,rfl⟩
 have ll:(L.map fun k=>T.str (lkS k)).length<=lim:=by rw[ya4];unfold lim;omega
 have e1:shL (L.map fun k=>T.str (lkS k))=true:=zi7 (fun _=>rfl) L
 unfold zbs zey
 simp_arith[e1,zaf _ e1,ll,lc]
abbrev zdx:Stmt:=top 7
theorem sc_own_copy:FnScope ["thing"] ["thing"] (za3 zdx):=⟨rfl,rfl,rfl,by decide +kernel,rfl,by decide +kernel,by decide +kernel⟩
noncomputable def zgy:PSt->Option Out :=
 (zd7 (mIf (mAp (g1 (zgh "list")) (za0 (za5 0) za4)) (mAp (g1 zin) (za0 (za5 0) za4)) (za5 0)))
noncomputable def zct:List T->Option Ru:=zfp 1 1 zgy
noncomputable abbrev zj1:Fn:=⟨1,["thing"],zct⟩
noncomputable abbrev gx_own_copy:Gx:=⟨[],[],[],[],false,true,true,none,[],[],[],true,[],[],[],[]⟩
noncomputable abbrev ziy:Gm:=⟨["thing"],(za3 zdx).names,[],0,[],["isinstance","list"],[],[],[],false,[],[],[],gx_own_copy⟩
theorem ck_own_copy:dSs 200 ziy (zad zdx)=some zgy:=by kernel_rfl
theorem oc_ok(l:List T)(h:shL l=true):zct [.lst l]=some (.ok (.own l)):=by
 unfold zct zgy
 simp_arith[h,zaf _ h]
abbrev zdm:Stmt:=meth 10 0
theorem sc_Never_init:FnScope ["self","room","guard"] ["self","room","guard"] (za3 zdm):=⟨rfl,rfl,rfl,by decide +kernel,rfl,by decide +kernel,by decide +kernel⟩
noncomputable def zf0:PSt->Option Out :=
 (zay (zhk zb7 zbk 0 0 (za5 1))
 (zhk zb7 zbk 1 0 (zat zct (za0 (za5 2) za4))))
noncomputable def zc9:List T->Option Ru:=runI zb7 zbk 3 3 zf0
noncomputable abbrev zgo:Fn:=⟨2,["self","room","guard"],zc9⟩
noncomputable abbrev gx_Never_init:Gx:=⟨[],[],[],[],false,true,true,some (zb7,zbk),[],[],[],true,[],[],[],[]⟩
noncomputable abbrev zgn:Gm:=⟨["self","room","guard"],(za3 zdm).names,[],1,[("own_copy",zj1)],[],[],[],[],false,[],[],[],gx_Never_init⟩
theorem ck_Never_init:dSs 200 zgn (zad zdm)=some zf0:=by kernel_rfl
def nvT(r:Str)(L:List Lk):T:=.obj (.ins zb7 zbk) [.str r,.lst (L.map lkT)]
theorem nv_ok(r:Str)(L:List Lk):zc9 [.str r,.lst (L.map lkT)]=some (.ok (nvT r L)):=by
 have e1:=oc_ok (L.map lkT) (zcn L);refine runI_of fun p=>?_
 unfold runI0 zf0
 simp_arith[e1,zcn,zav]
 rfl
abbrev zcf:Stmt:=meth 11 0
theorem zhj:FnScope ["self","room","guard","number"] ["self","room","guard","number"] (za3 zcf):=⟨rfl,rfl,rfl,by decide +kernel,rfl,by decide +kernel,by decide +kernel⟩
noncomputable def zdk:PSt->Option Out :=
 (zay (zhk za9 zac 0 0 (za5 1))
 (zay (zhk za9 zac 1 0 (zat zct (za0 (za5 2) za4)))
 (zhk za9 zac 2 0 (za5 3))))
noncomputable def zbb:List T->Option Ru:=runI za9 zac 4 4 zdk
noncomputable abbrev zer:Fn:=⟨2,["self","room","guard","number"],zbb⟩
noncomputable abbrev zho:Gx:=⟨[],[],[],[],false,true,true,some (za9,zac),[],[],[],true,[],[],[],[]⟩
noncomputable abbrev zeq:Gm:=⟨["self","room","guard","number"],(za3 zcf).names,[],1,[("own_copy",zj1)],[],[],[],[],false,[],[],[],zho⟩
theorem zht:dSs 200 zeq (zad zcf)=some zdk:=by kernel_rfl
def nsT(r:Str)(L:List Lk)(n:Nat):T:=.obj (.ins za9 zac) [.str r,.lst (L.map lkT),.int (n:Int)]
theorem ns_ok(r:Str)(L:List Lk)(n:Nat):zbb [.str r,.lst (L.map lkT),.int (n:Int)]=some (.ok (nsT r L n)):=by
 have e1:=oc_ok (L.map lkT) (zcn L);refine runI_of fun p=>?_
 unfold runI0 zdk
 simp_arith[e1,zcn,zav]
 rfl
abbrev zdc:Stmt:=meth 12 0
theorem zje:FnScope ["self","room","number"] ["self","room","number"] (za3 zdc):=⟨rfl,rfl,rfl,by decide +kernel,rfl,by decide +kernel,by decide +kernel⟩
noncomputable def zeg:PSt->Option Out :=
 (zay (zhk zak zb4 0 0 (za5 1))
 (zhk zak zb4 1 0 (za5 2)))
noncomputable def zbv:List T->Option Ru:=runI zak zb4 3 3 zeg
noncomputable abbrev zfx:Fn:=⟨1,["self","room","number"],zbv⟩
noncomputable abbrev zjm:Gx:=⟨[],[],[],[],false,true,true,some (zak,zb4),[],[],[],true,[],[],[],[]⟩
noncomputable abbrev zfu:Gm:=⟨["self","room","number"],(za3 zdc).names,[],0,[],[],[],[],[],false,[],[],[],zjm⟩
theorem zju:dSs 200 zfu (zad zdc)=some zeg:=by kernel_rfl
def wiT(r:Str)(n:Nat):T:=.obj (.ins zak zb4) [.str r,.int (n:Int)]
theorem wi_ok(r:Str)(n:Nat):zbv [.str r,.int (n:Int)]=some (.ok (wiT r n)):=by
 refine runI_of fun p=>?_
 unfold runI0 zeg
 simp_arith[]
 rfl
theorem zjr(r:Str)(L:List Lk)(n:Nat):((nvT r L).sh=true/\(nvT r L).share=nvT r L)/\((nsT r L n).sh=true/\(nsT r L n).share=nsT r L n)/\(wiT r n).sh=true/\(wiT r n).share=wiT r n:=by
 have a:(nvT r L).sh=true:=by unfold nvT;simp_arith[zcn]
 have b:(nsT r L n).sh=true:=by unfold nsT;simp_arith[zcn]
 have c:(wiT r n).sh=true:=by unfold wiT;simp_arith[]
 exact⟨⟨a,zea _ a⟩,⟨b,zea _ b⟩,c,zea _ c⟩
theorem is_cl(r:Str)(L:List Lk)(n:Nat):(zhl zf6 (nvT r L)=some (.bl true)/\zhl zc7 (nvT r L)=some (.bl false)/\zhl zfk (nvT r L)=some (.bl false)/\zhl zj6 (nvT r L)=some (.bl true))
  /\ (zhl zf6 (nsT r L n)=some (.bl false)/\zhl zc7 (nsT r L n)=some (.bl true)/\zhl zfk (nsT r L n)=some (.bl false)/\zhl zj6 (nsT r L n)=some (.bl true))
  /\ (zhl zf6 (wiT r n)=some (.bl false)/\zhl zc7 (wiT r n)=some (.bl false)/\zhl zfk (wiT r n)=some (.bl true)/\zhl zj6 (wiT r n)=some (.bl true)):=⟨⟨rfl,rfl,rfl,rfl⟩,⟨rfl,rfl,rfl,rfl⟩,rfl,rfl,rfl,rfl⟩
theorem zk5(r:Str)(L:List Lk)(n:Nat):(ziv zb7 zbk (nvT r L)=some [.str r,.lst (L.map lkT)]/\ziv za9 zac (nvT r L)=none/\ziv zak zb4 (nvT r L)=none)
  /\ (ziv zb7 zbk (nsT r L n)=none/\ziv za9 zac (nsT r L n)=some [.str r,.lst (L.map lkT),.int (n:Int)]/\ziv zak zb4 (nsT r L n)=none)
  /\ (ziv zb7 zbk (wiT r n)=none/\ziv za9 zac (wiT r n)=none/\ziv zak zb4 (wiT r n)=some [.str r,.int (n:Int)]):=by
 have p:∀(C C':Addr) (f f':List Str) (l:List T),ziv C f (.obj (.ins C' f') l)=if C'=C/\f'=f then some l else none:=fun _ _ _ _ _=>rfl
 unfold nvT nsT wiT;rw[p,p,p,p,p,p,p,p,p];refine⟨⟨if_pos ⟨rfl,rfl⟩,if_neg fun z=>?_,if_neg fun z=>?_⟩,⟨if_neg fun z=>?_,if_pos ⟨rfl,rfl⟩,if_neg fun z=>?_⟩,if_neg fun z=>?_,if_neg fun z=>?_,if_pos ⟨rfl,rfl⟩⟩<;>exact absurd z.1 (by decide)
abbrev zcz:Stmt:=top 30
theorem sc_show_claim:FnScope ["claim","words"] ["claim"] (za3 zcz):=⟨rfl,rfl,rfl,by decide +kernel,rfl,by decide +kernel,by decide +kernel⟩
noncomputable def zd4:PSt->Option Out :=
 (zay (sIf (mAp (g1 (zhl zf6)) (za0 (za5 0) za4)) (zd8 (mAp (g2 ze6) (za0 (zij (zau (mC (.str "never")) (zau (zg3 (zfr zb7 zbk 0 (za5 0)) (zg3 (zfr za9 zac 0 (za5 0)) (zfr zak zb4 0 (za5 0)))) za4))) (za0 (zat zbr (za0 (zg3 (zfr zb7 zbk 1 (za5 0)) (zfr za9 zac 1 (za5 0))) za4)) za4))) (bNm 1)) (sIf (mAp (g1 (zhl zc7)) (za0 (za5 0) za4)) (zd8 (mAp (g2 ze6) (za0 (zij (zau (mC (.str "nosooner")) (zau (zg3 (zfr zb7 zbk 0 (za5 0)) (zg3 (zfr za9 zac 0 (za5 0)) (zfr zak zb4 0 (za5 0)))) (zau (zat zaj (za0 (zg3 (zfr za9 zac 2 (za5 0)) (zfr zak zb4 1 (za5 0))) za4)) za4)))) (za0 (zat zbr (za0 (zg3 (zfr zb7 zbk 1 (za5 0)) (zfr za9 zac 1 (za5 0))) za4)) za4))) (bNm 1)) (zd8 (zij (zau (mC (.str "within")) (zau (zg3 (zfr zb7 zbk 0 (za5 0)) (zg3 (zfr za9 zac 0 (za5 0)) (zfr zak zb4 0 (za5 0)))) (zau (zat zaj (za0 (zg3 (zfr za9 zac 2 (za5 0)) (zfr zak zb4 1 (za5 0))) za4)) za4)))) (bNm 1))))
 (zd7 (mJn (mC (.str " ")) (za5 1))))
noncomputable def zaw:List T->Option Ru:=zfp 1 2 zd4
noncomputable abbrev fn_show_claim:Fn:=⟨3,["claim"],zaw⟩
noncomputable abbrev gx_show_claim:Gx:=⟨[],[("Never",zb7,zbk),("NoSooner",za9,zac),("Within",zak,zb4)],[],[],false,true,true,none,[],[],[],true,[],[("Never",zf6),("NoSooner",zc7)],[],[]⟩
noncomputable abbrev zgj:Gm:=⟨["claim","words"],(za3 zcz).names,[],2,[("show_looks",fn_show_looks),("show_number",zcu)],["isinstance"],[],[],[],false,[],[],[],gx_show_claim⟩
theorem ck_show_claim:dSs 200 zgj (zad zcz)=some zd4:=by kernel_rfl
def wdS(l:List Str):Str:=Txt.join (Str.ofString " ") l
theorem wd_cs(l:List Str):Tx.cs (wdS l)=Tx.joinL 32 (l.map Tx.cs):=by
 unfold wdS;rw[jn_is,bl_is,Tx.cs_join]
def nvW(r:Str)(L:List Lk):List Str:=Str.ofString "never"::r::L.map lkS
def nsW(r:Str)(L:List Lk)(n:Nat):List Str:=Str.ofString "nosooner"::r::Tx.dg n::L.map lkS
def wiW(r:Str)(n:Nat):List Str:=[Str.ofString "within",r,Tx.dg n]
theorem wd_sum{l:List Str}(h:∀x∈l,x.length<=200)(hl:l.length<=100):(l.map (·.length)).sum+l.length * (Str.ofString " ").length<=lim:=by
 have h1:=sum_le (f:=fun x:Str=>x) (m:=200) h
 rw[List.map_id']at h1;rw[ln_b];unfold lim
 omega
structure RmOk(r:Str):Prop where
 hr:∀c∈Tx.cs r,c<128/\c≠32
 hl:r.length<=100
theorem lk_200{L:List Lk}(h:∀k∈L,LkOk k):∀x∈L.map lkS,x.length<=200:=fun x hx=>by
 obtain⟨k,hk,rfl⟩:=yay.mp hx;have:=lk_len (h k hk)
 omega
theorem nv_200{r:Str}{L:List Lk}(hr:RmOk r)(h:∀k∈L,LkOk k):∀x∈nvW r L,x.length<=200:=fun x hx=>by
 rcases ya3.mp hx with rfl|hx
 ·decide +kernel
 ·rcases ya3.mp hx with rfl|hx
  ·have:=hr.hl
   omega
  ·exact lk_200 h x hx
theorem ns_200{r:Str}{L:List Lk}{n:Nat}(hr:RmOk r)(h:∀k∈L,LkOk k)(hn:n<10 ^ 60):∀x∈nsW r L n,x.length<=200:=fun x hx=>by
 rcases ya3.mp hx with rfl|hx
 ·decide +kernel
 ·rcases ya3.mp hx with rfl|hx
  ·have:=hr.hl
   omega
  ·rcases ya3.mp hx with rfl|hx
   ·have:=dg_l hn
    omega
   ·exact lk_200 h x hx
theorem wi_200{r:Str}{n:Nat}(hr:RmOk r)(hn:n<10 ^ 60):∀x∈wiW r n,x.length<=200:=fun x hx=>by
 rcases ya3.mp hx with rfl|hx
 ·decide +kernel
 ·rcases ya3.mp hx with rfl|hx
  ·have:=hr.hl
   omega
  ·rw[ya8.mp hx];have:=dg_l hn
   omega
section
variable {r:Str}{L:List Lk}{n:Nat}(hr:RmOk r)(h:∀k∈L,LkOk k)(hl:L.length<=63)(hn:n<10 ^ 60)
include hr h hl
theorem shc_nv:zaw [nvT r L]=some (.ok (.str (wdS (nvW r L)))):=by
 obtain⟨⟨c1,c2⟩,_⟩:=zjr r L 0;obtain⟨⟨i1,i2,i3,i4⟩,_⟩:=is_cl r L 0;obtain⟨⟨j1,j2,j3⟩,_⟩:=zk5 r L 0;have e1:=slk_ok h hl;have z:=wd_sum (nv_200 hr h) (by unfold nvW;simp only[yaa,ya4];omega)
 have e2:zcw (T.str (Str.ofString "never")::T.str r::L.map fun k=>T.str (lkS k))=some (nvW r L):=by
  have:=zfc (nvW r L);unfold nvW at this ⊢;rw[yad,yad,yba]at this;exact this
 have s1:shL (L.map fun k=>T.str (lkS k))=true:=zi7 (fun _=>rfl) L
 have ll:2+L.length<=lim:=by unfold lim;omega
 unfold zaw zd4;refine(show zfp 1 2 _ _=_ from ?_)
 simp_arith[-ziv,c1,c2,i1,j1,zcn,zav,e1,ya4,ll,s1,zaf _ s1,mJn,e2,z]
 rfl
include hn
theorem shc_ns:zaw [nsT r L n]=some (.ok (.str (wdS (nsW r L n)))):=by
 obtain⟨_,⟨c1,c2⟩,_⟩:=zjr r L n;obtain⟨_,⟨i1,i2,i3,i4⟩,_⟩:=is_cl r L n;obtain⟨_,⟨j1,j2,j3⟩,_⟩:=zk5 r L n;have e1:=slk_ok h hl;have z:=wd_sum (ns_200 hr h hn) (by unfold nsW;simp only[yaa,ya4];omega)
 have e2:zcw (T.str (Str.ofString "nosooner")::T.str r::T.str (Tx.dg n)::L.map fun k=>T.str (lkS k))=some (nsW r L n):=by
  have:=zfc (nsW r L n);unfold nsW at this ⊢;rw[yad,yad,yad,yba]at this;exact this
 have s1:shL (L.map fun k=>T.str (lkS k))=true:=zi7 (fun _=>rfl) L
 have ll:3+L.length<=lim:=by unfold lim;omega
 unfold zaw zd4
 simp_arith[-ziv,c1,c2,i1,i2,j1,j2,zcn,zav,sn_ok hn,e1,ya4,ll,s1,zaf _ s1,mJn,e2,z]
 rfl
omit h hl in
theorem shc_wi:zaw [wiT r n]=some (.ok (.str (wdS (wiW r n)))):=by
 obtain⟨_,_,c1,c2⟩:=zjr r [] n;obtain⟨_,_,i1,i2,i3,i4⟩:=is_cl r [] n;obtain⟨_,_,j1,j2,j3⟩:=zk5 r [] n;have z:=wd_sum (wi_200 hr hn) (show 3<=100 by decide)
 have e2:zcw [T.str (Str.ofString "within"),T.str r,T.str (Tx.dg n)]=some (wiW r n):=rfl;unfold zaw zd4
 simp_arith[-ziv,c1,c2,i1,i2,j1,j2,j3,sn_ok hn,mJn,e2,z]
 rfl
end
abbrev zch:Stmt:=top 39
theorem zjg:FnScope ["_law_found","_law_claim","_law_room","_law_looks","_law_number","_law_kinds","_law_dues"] ["_law_found","_law_claim","_law_room","_law_looks","_law_number"] (za3 zch):=⟨rfl,rfl,rfl,by decide +kernel,rfl,by decide +kernel,by decide +kernel⟩
noncomputable def zcm:PSt->Option Out :=
 (zay (zd8 (zij (zau (mAp (g1 (zhl zf6)) (za0 (za5 0) za4)) (zau (mAp (g1 (zhl zc7)) (za0 (za5 0) za4)) (zau (mAp (g1 (zhl zfk)) (za0 (za5 0) za4)) za4)))) (bNm 5))
 (zay (zd8 (zij (zau (mAp (g1 (zhl zf6)) (za0 (za5 1) za4)) (zau (mAp (g1 (zhl zc7)) (za0 (za5 1) za4)) (zau (mAp (g1 (zhl zfk)) (za0 (za5 1) za4)) za4)))) (bNm 6))
 (zay (sIf (mOr (zjj (mAp (g1 (zhl zj6)) (za0 (za5 0) za4))) (mOr (mAp (g2 neT) (za0 (za5 5) (za0 (za5 6) za4))) (mAp (g2 neT) (za0 (zg3 (zfr zb7 zbk 0 (za5 0)) (zg3 (zfr za9 zac 0 (za5 0)) (zfr zak zb4 0 (za5 0)))) (za0 (za5 2) za4))))) (zd7 (mC (.bl false))) sNx)
 (zay (sIf (mAnd (zjj (mIx (za5 5) (mC (.int 2)))) (mAp (g2 neT) (za0 (zg3 (zfr zb7 zbk 1 (za5 0)) (zfr za9 zac 1 (za5 0))) (za0 (za5 3) za4)))) (zd7 (mC (.bl false))) sNx)
 (zd7 (mOr (mIx (za5 5) (mC (.int 0))) (mAnd (mAp (g2 eqT) (za0 (zg3 (zfr za9 zac 2 (za5 0)) (zfr zak zb4 1 (za5 0))) (za0 (za5 4) za4))) (zjj (mAp (g1 (zgh "bool")) (za0 (zg3 (zfr za9 zac 2 (za5 0)) (zfr zak zb4 1 (za5 0))) za4))))))))))
noncomputable def zap:List T->Option Ru:=zfp 5 7 zcm
noncomputable abbrev zjq:Fn:=⟨1,["_law_found","_law_claim","_law_room","_law_looks","_law_number"],zap⟩
noncomputable abbrev zjo:Gx:=⟨[],[("Never",zb7,zbk),("NoSooner",za9,zac),("Within",zak,zb4)],[],[],false,true,true,none,[],[],[],true,[],[("Never",zf6),("NoSooner",zc7),("Within",zfk),("Claim",zj6)],[],[]⟩
noncomputable abbrev zfw:Gm:=⟨["_law_found","_law_claim","_law_room","_law_looks","_law_number","_law_kinds","_law_dues"],(za3 zch).names,[],0,[],["isinstance","bool"],[],[],[],false,[],[],[],zjo⟩
theorem zjw:dSs 200 zfw (zad zch)=some zcm:=by kernel_rfl
theorem ne_bls:∀a b c:Bool,neT (.lst [.bl a,.bl b,.bl c]) (.lst [.bl a,.bl b,.bl c])=some (.bl false):=by
 intro a b c;cases a<;>cases b<;>cases c<;>rfl
theorem lk_fit{k:Lk}(h:LkOk k):Fit (lkT k) 1:=Fit.tup fun t ht=>by
 simp only[ya3,yb9,or_false]at ht;have h1:PyData.strOk k.w=true:=ze5 fun c hc=>(h.hw c hc).1
 have h2:PyData.strOk k.o=true:=ze5 fun c hc=>by
  obtain⟨c0,r,e,h0,hr⟩:=h.ho;rw[e]at hc
  rcases hr with rfl|⟨rfl,_⟩
  ·rw[ya8.mp hc]
   omega
  ·rcases ya3.mp hc with rfl|hc
   ·omega
   ·rw[ya8.mp hc]
    decide
 rcases ht with rfl|rfl|rfl
 ·exact Fit.str h1 _
 ·exact Fit.str h2 _
 ·exact Fit.int _ _
theorem lks_ne{L:List Lk}(h:∀k∈L,LkOk k):neT (.lst (L.map lkT)) (.lst (L.map lkT))=some (.bl false):=by
 have f:Fit (.lst (L.map lkT)) 2:=Fit.nd fun t ht=>by
  obtain⟨k,hk,rfl⟩:=yay.mp ht;exact lk_fit (h k hk)
 exact(zj4 f (by decide) rfl f).2
theorem zhw(a b c:T):atI [a,b,c] 0=some a/\atI [a,b,c] 1=some b/\atI [a,b,c] 2=some c:=⟨zar (by decide) rfl,zar (by decide) rfl,zar (by decide) rfl⟩
section
variable {r:Str}{L:List Lk}{n:Nat}(hr:RmOk r)(h:∀k∈L,LkOk k)
include hr h
theorem sm_nv:zap [nvT r L,nvT r L,.str r,.lst (L.map lkT),.int (n:Int)]=some (.ok (.bl true)):=by
 obtain⟨⟨c1,c2⟩,_⟩:=zjr r L 0;obtain⟨⟨i1,i2,i3,i4⟩,_⟩:=is_cl r L 0;obtain⟨⟨j1,j2,j3⟩,_⟩:=zk5 r L 0;have e1:=ne_bls true false false;have e2:neT (.str r) (.str r)=some (.bl false):=(zj4 (Fit.str (ze5 fun c hc=>(hr.hr c hc).1) 0) (by decide) rfl (Fit.str (ze5 fun c hc=>(hr.hr c hc).1) 0)).2
 have e3:=lks_ne h;obtain⟨a0,a1,a2⟩:=zhw (T.bl true) (.bl false) (.bl false);unfold zap zcm
 simp_arith[-ziv,c1,c2,i1,i2,i3,i4,j1,j2,j3,e1,e2,e3,a0,a1,a2,zcn,zav]
theorem sm_ns:zap [nsT r L n,nsT r L n,.str r,.lst (L.map lkT),.int (n:Int)]=some (.ok (.bl true)):=by
 obtain⟨_,⟨c1,c2⟩,_⟩:=zjr r L n;obtain⟨_,⟨i1,i2,i3,i4⟩,_⟩:=is_cl r L n;obtain⟨_,⟨j1,j2,j3⟩,_⟩:=zk5 r L n;have e1:=ne_bls false true false;have e2:neT (.str r) (.str r)=some (.bl false):=(zj4 (Fit.str (ze5 fun c hc=>(hr.hr c hc).1) 0) (by decide) rfl (Fit.str (ze5 fun c hc=>(hr.hr c hc).1) 0)).2
 have e3:=lks_ne h;obtain⟨a0,a1,a2⟩:=zhw (T.bl false) (.bl true) (.bl false);unfold zap zcm
 simp_arith[-ziv,c1,c2,i1,i2,i3,i4,j1,j2,j3,e1,e2,e3,a0,a1,a2,zcn,zav,zdp]
theorem sm_wi:zap [wiT r n,wiT r n,.str r,.lst (L.map lkT),.int (n:Int)]=some (.ok (.bl true)):=by
 obtain⟨_,_,c1,c2⟩:=zjr r L n;obtain⟨_,_,i1,i2,i3,i4⟩:=is_cl r L n;obtain⟨_,_,j1,j2,j3⟩:=zk5 r L n;have e1:=ne_bls false false true;have e2:neT (.str r) (.str r)=some (.bl false):=(zj4 (Fit.str (ze5 fun c hc=>(hr.hr c hc).1) 0) (by decide) rfl (Fit.str (ze5 fun c hc=>(hr.hr c hc).1) 0)).2
 obtain⟨a0,a1,a2⟩:=zhw (T.bl false) (.bl false) (.bl true);unfold zap zcm
 simp_arith[-ziv,c1,c2,i1,i2,i3,i4,j1,j2,j3,e1,e2,a0,a1,a2,zcn,zav,zdp]
end
abbrev zd1:Stmt:=top 31
theorem sc_read_claim:FnScope ["text","words"] ["text"] (za3 zd1):=⟨rfl,rfl,rfl,by decide +kernel,rfl,by decide +kernel,by decide +kernel⟩
noncomputable def zd5:PSt->Option Out :=
 (zay (sExp (zat zbd (za0 (za5 0) za4)))
 (zay (zd8 (mSpl (za5 0) (mC (.str " "))) (bNm 1))
 (zay (sIf (mAnd (mAp (g2 eqT) (za0 (mIx (za5 1) (mC (.int 0))) (za0 (mC (.str "never")) za4))) (mAp (g2 (cmpT fun i j=>decide (j<=i))) (za0 (mAp (g1 lenT) (za0 (za5 1) za4)) (za0 (mC (.int 2)) za4)))) (zd7 (mNew zc9 [] (za0 (mIx (za5 1) (mC (.int 1))) (za0 (zat zbs (za0 (zg3 (mSl (za5 1) (some (mC (.int 2))) none) (mSlT (za5 1) (some (mC (.int 2))) none)) za4)) za4)))) sNx)
 (zay (sIf (mAnd (mAp (g2 eqT) (za0 (mIx (za5 1) (mC (.int 0))) (za0 (mC (.str "nosooner")) za4))) (mAp (g2 (cmpT fun i j=>decide (j<=i))) (za0 (mAp (g1 lenT) (za0 (za5 1) za4)) (za0 (mC (.int 3)) za4)))) (zd7 (mNew zbb [] (za0 (mIx (za5 1) (mC (.int 1))) (za0 (zat zbs (za0 (zg3 (mSl (za5 1) (some (mC (.int 3))) none) (mSlT (za5 1) (some (mC (.int 3))) none)) za4)) (za0 (zat zab (za0 (mIx (za5 1) (mC (.int 2))) za4)) za4))))) sNx)
 (zay (sIf (mAnd (mAp (g2 eqT) (za0 (mIx (za5 1) (mC (.int 0))) (za0 (mC (.str "within")) za4))) (mAp (g2 eqT) (za0 (mAp (g1 lenT) (za0 (za5 1) za4)) (za0 (mC (.int 3)) za4)))) (zd7 (mNew zbv [] (za0 (mIx (za5 1) (mC (.int 1))) (za0 (zat zab (za0 (mIx (za5 1) (mC (.int 2))) za4)) za4)))) sNx)
 (sRse "NoText" (za0 (mC (.str "a claim is written by never, nosooner or within, and what belongs to it")) za4)))))))
noncomputable def zax:List T->Option Ru:=zfp 1 2 zd5
noncomputable abbrev fn_read_claim:Fn:=⟨5,["text"],zax⟩
noncomputable abbrev gx_read_claim:Gx:=⟨[],[],[],[("Never",zgo,[(2,[])]),("NoSooner",zer,[(3,[])]),("Within",zfx,[(2,[])])],false,true,true,none,[],[],[],true,[],[],[],[]⟩
noncomputable abbrev zgl:Gm:=⟨["text","words"],(za3 zd1).names,[],4,[("check_text",zel),("read_looks",fn_read_looks),("read_number",zcv)],["len"],["NoText"],[],[],false,[],[],[],gx_read_claim⟩
theorem ck_read_claim:dSs 200 zgl (zad zd1)=some zd5:=by kernel_rfl
theorem sp_wd{l:List Str}(h0:l≠[])(hf:∀p∈l,32∉Tx.cs p):Txt.split (wdS l) (Str.ofString " ")=l:=by
 rw[bl_is];exact Tx.split_is h0 hf (wd_cs l)
theorem lk_fr{L:List Lk}(h:∀k∈L,LkOk k):∀x∈L.map lkS,32∉Tx.cs x:=fun x hx z=>by
 obtain⟨k,hk,rfl⟩:=yay.mp hx;exact(lk_signs (h k hk) 32 z).2 rfl
theorem cut_2(a b:T)(l:List T):cutL (a::b::l) (some 2) none=l:=by
 unfold cutL;rw[show(some (2:Int))=some ((2:Nat):Int) from rfl,HT.sIx_nat,HT.sIx_none,yaa,yaa,Nat.min_eq_left (by omega)]
 refine ycz ?_;show l.length<=_
 omega
theorem cut_3(a b c:T)(l:List T):cutL (a::b::c::l) (some 3) none=l:=by
 unfold cutL;rw[show(some (3:Int))=some ((3:Nat):Int) from rfl,HT.sIx_nat,HT.sIx_none,yaa,yaa,yaa,Nat.min_eq_left (by omega)]
 refine ycz ?_;show l.length<=_
 omega
theorem wd_len{l:List Str}(h:∀x∈l,x.length<=200)(hl:l.length<=100):(wdS l).length+2<=lim:=by
 have key:∀l:List (List Nat),(∀p∈l,p.length<=200)->(Tx.joinL 32 l).length<=l.length * 201:=by
  intro l
  induction l with
  |nil=>intro _;exact ybb _
  |cons a r ih =>
   intro hp;have h1:=hp a (ya6 ..);have h2:=ih fun p hp'=>hp p (ya5 _ hp')
   cases r with
   |nil =>
    show a.length<=1 * 201
    omega
   |cons b r =>
    show(a++32::Tx.joinL 32 (b::r)).length<=_;rw[yag,yaa];rw[yaa (a:=a),ydb]
    omega
 have h1:=key (l.map Tx.cs) fun p hp=>by
  obtain⟨s,hs,rfl⟩:=yay.mp hp;exact h s hs
 rw[<- wd_cs,ya4]at h1;rw[Tx.cs_len];unfold lim
 omega
theorem wn_ok:PyData.strOk (Str.ofString "never")=true/\PyData.strOk (Str.ofString "nosooner")=true/\PyData.strOk (Str.ofString "within")=true:=by decide +kernel
theorem wn_eq:eqT (.str (Str.ofString "never")) (.str (Str.ofString "never"))=some (.bl true)/\eqT (.str (Str.ofString "nosooner")) (.str (Str.ofString "never"))=some (.bl false)/\eqT (.str (Str.ofString "nosooner")) (.str (Str.ofString "nosooner"))=some (.bl true)
  /\ eqT (.str (Str.ofString "within")) (.str (Str.ofString "never"))=some (.bl false)/\eqT (.str (Str.ofString "within")) (.str (Str.ofString "nosooner"))=some (.bl false)/\eqT (.str (Str.ofString "within")) (.str (Str.ofString "within"))=some (.bl true):=by
 obtain⟨h1,h2,h3⟩:=wn_ok;have d1:decide (Str.ofString "nosooner"=Str.ofString "never")=false:=by decide +kernel
 have d2:decide (Str.ofString "within"=Str.ofString "never")=false:=by decide +kernel
 have d3:decide (Str.ofString "within"=Str.ofString "nosooner")=false:=by decide +kernel
 rw[zf3 h1 h1,zf3 h2 h1,zf3 h2 h2,zf3 h3 h1,zf3 h3 h2,zf3 h3 h3,d1,d2,d3];exact⟨by rw[decide_eq_true rfl],rfl,by rw[decide_eq_true rfl],rfl,rfl,by rw[decide_eq_true rfl]⟩
section
variable {r:Str}{L:List Lk}{n:Nat}(hr:RmOk r)(h:∀k∈L,LkOk k)(hl:L.length<=63)(hn:n<10 ^ 60)
include hr h hl
theorem rc_nv:zax [.str (wdS (nvW r L))]=some (.ok (nvT r L)):=by
 have sp:Txt.split (wdS (nvW r L)) (Str.ofString " ")=nvW r L:=sp_wd (yb7 _ _) fun p hp=>by
  rcases ya3.mp hp with rfl|hp
  ·decide +kernel
  ·rcases ya3.mp hp with rfl|hp
   ·exact fun z=>(hr.hr 32 z).2 rfl
   ·exact lk_fr h p hp
 have em:(nvW r L).map T.str=T.str (Str.ofString "never")::T.str r::L.map fun k=>T.str (lkS k):=by
  unfold nvW;rw[yad,yad,yba]
  rfl
 have hx:=wd_len (nv_200 hr h) (by unfold nvW;simp only[yaa,ya4];omega)
 have s1:shL (L.map fun k=>T.str (lkS k))=true:=zi7 (fun _=>rfl) L
 have a0:atI (T.str (Str.ofString "never")::T.str r::L.map fun k=>T.str (lkS k)) 0=some (.str (Str.ofString "never")):=zar (by decide) rfl
 have a1:atI (T.str (Str.ofString "never")::T.str r::L.map fun k=>T.str (lkS k)) 1=some (.str r):=zar (by decide) rfl
 obtain⟨q1,q2,q3,q4,q5,q6⟩:=wn_eq;have d1:decide ((2:Int)<=((L.length+1+1:Nat):Int))=true:=decide_eq_true (by omega)
 obtain⟨⟨c1,c2⟩,_⟩:=zjr r L 0;unfold zax zd5
 simp_arith[ct_ok,mSpl,bl_ok hx,sp,em,s1,zaf _ s1,a0,a1,q1,ya4,d1,cut_2,rlks_ok h hl,nv_ok,zcn,zav,c1,c2]
include hn
theorem rc_ns:zax [.str (wdS (nsW r L n))]=some (.ok (nsT r L n)):=by
 have sp:Txt.split (wdS (nsW r L n)) (Str.ofString " ")=nsW r L n:=sp_wd (yb7 _ _) fun p hp=>by
  rcases ya3.mp hp with rfl|hp
  ·decide +kernel
  ·rcases ya3.mp hp with rfl|hp
   ·exact fun z=>(hr.hr 32 z).2 rfl
   ·rcases ya3.mp hp with rfl|hp
    ·exact dg_free n (by decide)
    ·exact lk_fr h p hp
 have em:(nsW r L n).map T.str=T.str (Str.ofString "nosooner")::T.str r::T.str (Tx.dg n)::L.map fun k=>T.str (lkS k):=by
  unfold nsW;rw[yad,yad,yad,yba]
  rfl
 have hx:=wd_len (ns_200 hr h hn) (by unfold nsW;simp only[yaa,ya4];omega)
 have s1:shL (L.map fun k=>T.str (lkS k))=true:=zi7 (fun _=>rfl) L
 have a0:atI (T.str (Str.ofString "nosooner")::T.str r::T.str (Tx.dg n)::L.map fun k=>T.str (lkS k)) 0=some (.str (Str.ofString "nosooner")):=zar (by decide) rfl
 have a1:atI (T.str (Str.ofString "nosooner")::T.str r::T.str (Tx.dg n)::L.map fun k=>T.str (lkS k)) 1=some (.str r):=zar (by decide) rfl
 have a2:atI (T.str (Str.ofString "nosooner")::T.str r::T.str (Tx.dg n)::L.map fun k=>T.str (lkS k)) 2=some (.str (Tx.dg n)):=zar (by decide) rfl
 obtain⟨q1,q2,q3,q4,q5,q6⟩:=wn_eq;have d1:decide ((3:Int)<=((L.length+1+1+1:Nat):Int))=true:=decide_eq_true (by omega)
 have rdn:zab [.str (Tx.dg n)]=some (.ok (.int (n:Int))):=by rw[rd_ok (Tx.dg_num hn),Tx.dg_val]
 obtain⟨_,⟨c1,c2⟩,_⟩:=zjr r L n;unfold zax zd5
 simp_arith[ct_ok,mSpl,bl_ok hx,sp,em,s1,zaf _ s1,a0,a1,a2,q2,q3,ya4,d1,cut_3,rlks_ok h hl,rdn,ns_ok,zcn,zav,c1,c2]
omit h hl in
theorem rc_wi:zax [.str (wdS (wiW r n))]=some (.ok (wiT r n)):=by
 have sp:Txt.split (wdS (wiW r n)) (Str.ofString " ")=wiW r n:=sp_wd (yb7 _ _) fun p hp=>by
  rcases ya3.mp hp with rfl|hp
  ·decide +kernel
  ·rcases ya3.mp hp with rfl|hp
   ·exact fun z=>(hr.hr 32 z).2 rfl
   ·rw[ya8.mp hp];exact dg_free n (by decide)
 have em:(wiW r n).map T.str=[T.str (Str.ofString "within"),T.str r,T.str (Tx.dg n)]:=rfl;have hx:=wd_len (wi_200 hr hn) (show 3<=100 by decide)
 obtain⟨a0,a1,a2⟩:=zhw (T.str (Str.ofString "within")) (.str r) (.str (Tx.dg n));obtain⟨q1,q2,q3,q4,q5,q6⟩:=wn_eq;have rdn:zab [.str (Tx.dg n)]=some (.ok (.int (n:Int))):=by rw[rd_ok (Tx.dg_num hn),Tx.dg_val]
 obtain⟨_,_,c1,c2⟩:=zjr r [] n;unfold zax zd5
 simp_arith[ct_ok,mSpl,bl_ok hx,sp,em,a0,a1,a2,q4,q5,q6,zdp,rdn,wi_ok,c1,c2]
end
abbrev zew:Stmt:=top 40
theorem sc_Lclaims:FnScope ["_law_script","_law_names_here","_law_cell","_law_room","_law_looks","_law_one","_law_number","_law_words","_law_some","_law_watch","_law_claim","_law_text"] ["_law_script","_law_names_here"] (za3 zew):=⟨rfl,rfl,rfl,by decide +kernel,rfl,by decide +kernel,by decide +kernel⟩
noncomputable def zdf:PSt->Option Out :=
 (zay (zd8 (mIx (zij (zau (mIx (za5 1) (mC (.int 2))) (zau (mIx (za5 1) (mC (.int 3))) (zau (mC (.str "/")) (zau (mIx (za5 1) (mC (.int 1))) za4))))) (mAp (g2 zi1) (za0 (za5 5) (za0 (mC (.int 4)) za4)))) (bNm 9))
 (sApp 4 (mTup (za0 (za5 9) (za0 (mIx (zij (zau (mC (.str "<")) (zau (mC (.str "<=")) (zau (mC (.str ">")) (zau (mC (.str ">=")) (zau (mC (.str "=")) za4)))))) (mAp (g2 zi1) (za0 (mAp (g2 ze4) (za0 (za5 5) (za0 (mC (.int 4)) za4))) (za0 (mC (.int 5)) za4)))) (za0 (zat zcq (za0 (mAp (g2 ze4) (za0 (za5 5) (za0 (mC (.int 20)) za4))) za4)) za4))))))
noncomputable def zem:PSt->Option Rs :=
 (mAp (g2 ze6) (za0 (mAp (g2 ze6) (za0 (mAp (g2 ze6) (za0 (mC (.str " ")) (za0 (za5 0) za4))) (za0 (za5 1) za4))) (za0 (mAp (g1 strT) (za0 (za5 2) za4)) za4)))
noncomputable def zev:PSt->Option Out :=
 (zay (sFrz 4) (sIf (mOr (mAp (g2 neT) (za0 (zat zaw (za0 (za5 10) za4)) (za0 (za5 11) za4))) (zjj (zat zap (za0 (zat zax (za0 (za5 11) za4)) (za0 (za5 10) (za0 (za5 3) (za0 (za5 4) (za0 (za5 6) za4)))))))) (zd7 (mC (.bl false))) sNx))
noncomputable def zgf:PSt->Option Out :=
 (zay (zd8 (zat zbx (za0 (za5 0) (za0 (mC (.int 0)) za4))) (bNm 2))
 (zay (zd8 (mIx (zij (zau (mIx (za5 1) (mC (.int 0))) (zau (mC (.str "/")) (zau (mAp (g2 ze6) (za0 (mAp (g2 ze6) (za0 (mIx (za5 1) (mC (.int 0))) (za0 (mC (.str "/")) za4))) (za0 (mIx (za5 1) (mC (.int 1))) za4))) (zau (mAp (g2 mulT) (za0 (mC (.str "x")) (za0 (mC (.int 60)) za4))) (zau (mC (.str "never")) za4)))))) (mAp (g2 zi1) (za0 (mAp (g2 ze4) (za0 (za5 2) (za0 (mC (.int 3)) za4))) (za0 (mC (.int 5)) za4)))) (bNm 3))
 (zay (sOwn 4 (zij za4))
 (zay (sFor (iTxt (zg3 (mSl (za5 0) (some (mC (.int 3))) (some (mAp (g2 ze6) (za0 (mC (.int 3)) (za0 (mAp (g2 zi1) (za0 (zat zbx (za0 (za5 0) (za0 (mC (.int 2)) za4))) (za0 (mC (.int 5)) za4))) za4))))) (mSlT (za5 0) (some (mC (.int 3))) (some (mAp (g2 ze6) (za0 (mC (.int 3)) (za0 (mAp (g2 zi1) (za0 (zat zbx (za0 (za5 0) (za0 (mC (.int 2)) za4))) (za0 (mC (.int 5)) za4))) za4))))))) (bNm 5) zdf)
 (zay (zd8 (zat zcq (za0 (mAp (g2 ze4) (za0 (za5 2) (za0 (mC (.int 15)) za4))) za4)) (bNm 6))
 (zay (sFrz 4) (zay (zd8 (mJn (mC (.str "")) (mLC 3 [] (iTxt (za5 4)) (bTup 3 (zbl (bNm 0) (zbl (bNm 1) (zbl (bNm 2) bNil)))) (mC (.bl true)) zem)) (bNm 7))
 (zay (sFrz 4) (zay (sOwn 8 (zij (zau (mTup (za0 (mNew zc9 [] (za0 (za5 3) (za0 (mAp (g1 zin) (za0 (za5 4) za4)) za4))) (za0 (mAp (g2 ze6) (za0 (mAp (g2 ze6) (za0 (mC (.str "never ")) (za0 (za5 3) za4))) (za0 (za5 7) za4))) za4))) za4)))
 (zay (sFrz 4) (zay (sApp 8 (mTup (za0 (mNew zbb [] (za0 (za5 3) (za0 (mAp (g1 zin) (za0 (za5 4) za4)) (za0 (za5 6) za4)))) (za0 (mAp (g2 ze6) (za0 (mAp (g2 ze6) (za0 (mAp (g2 ze6) (za0 (mAp (g2 ze6) (za0 (mC (.str "nosooner ")) (za0 (za5 3) za4))) (za0 (mC (.str " ")) za4))) (za0 (mAp (g1 strT) (za0 (za5 6) za4)) za4))) (za0 (za5 7) za4))) za4))))
 (zay (sApp 8 (mTup (za0 (mNew zbv [] (za0 (za5 3) (za0 (za5 6) za4))) (za0 (mAp (g2 ze6) (za0 (mAp (g2 ze6) (za0 (mAp (g2 ze6) (za0 (mC (.str "within ")) (za0 (za5 3) za4))) (za0 (mC (.str " ")) za4))) (za0 (mAp (g1 strT) (za0 (za5 6) za4)) za4))) za4))))
 (zay (sFrz 8) (zay (sFor (iTxt (za5 8)) (bTup 2 (zbl (bNm 10) (zbl (bNm 11) bNil))) zev)
 (zd7 (mC (.bl true)))))))))))))))))
noncomputable def ze7:List T->Option Ru:=zfp 2 12 zgf
noncomputable abbrev fn_Lclaims:Fn:=⟨6,["_law_script","_law_names_here"],ze7⟩
noncomputable abbrev gx_Lclaims:Gx:=⟨[],[],[],[("Never",zgo,[(2,[])]),("NoSooner",zer,[(3,[])]),("Within",zfx,[(2,[])])],false,true,true,none,[],[],[],true,[],[],[],[]⟩
noncomputable abbrev zk7:Gm:=⟨["_law_script","_law_names_here","_law_cell","_law_room","_law_looks","_law_one","_law_number","_law_words","_law_some","_law_watch","_law_claim","_law_text"],(za3 zew).names,[],5,[("_law_cell_at",zj2),("_law_size",fn_Lsize),("show_claim",fn_show_claim),("_law_same_claim",zjq),("read_claim",fn_read_claim)],["str","list"],[],["_law_some","_law_looks"],[],false,[],[],[],gx_Lclaims⟩
theorem ck_Lclaims:dSs 200 zk7 (zad zew)=some zgf:=by kernel_rfl
theorem at4(a b c d:T):atI [a,b,c,d] 0=some a/\atI [a,b,c,d] 1=some b/\atI [a,b,c,d] 2=some c/\atI [a,b,c,d] 3=some d:=⟨zar (by decide) rfl,zar (by decide) rfl,zar (by decide) rfl,zar (by decide) rfl⟩
structure NmOk(x:Str):Prop where
 hs:∀c∈Tx.cs x,97<=c/\c<=122
 hl:x.length<=8
def nm4(f:Nat->Str):List T:=[.str (f 0),.str (f 1),.str (f 2),.str (f 3)]
theorem sl_cs:Tx.cs (Str.ofString "/")=[47]:=by decide +kernel
theorem sl_len:(Str.ofString "/").length=1:=by decide +kernel
theorem room_at(c:Int){f:Nat->Str}(hf:∀k,NmOk (f k)):∃r:Str,RmOk r/\atI [T.str (f 0),.str (Str.ofString "/"),.str (f 0++Str.ofString "/"++f 1),.str (Txt.mul (Str.ofString "x") 60),.str (Str.ofString "never")] ((c.fdiv 3).fmod 5)=some (.str r):=by
 have h3:(c.fdiv 3).fmod 5=0\/(c.fdiv 3).fmod 5=1\/(c.fdiv 3).fmod 5=2\/(c.fdiv 3).fmod 5=3\/(c.fdiv 3).fmod 5=4:=by
  rw[fm (by decide)]
  omega
 have q:∀k,∀s∈Tx.cs (f k),s<128/\s≠32:=fun k s hs=>by
  have:=(hf k).hs s hs
  omega
 rcases h3 with h|h|h|h|h
 ·exact⟨f 0,⟨q 0,by have:=(hf 0).hl;omega⟩,by rw[h];exact zar (by decide) rfl⟩
 ·exact⟨Str.ofString "/",⟨by rw[sl_cs];decide,by decide +kernel⟩,by rw[h];exact zar (by decide) rfl⟩
 ·refine⟨f 0++Str.ofString "/"++f 1,⟨fun s hs=>?_,?_⟩,by rw[h];exact zar (by decide) rfl⟩
  ·rw[Tx.cs_app,Tx.cs_app,sl_cs]at hs
   rcases yas.mp hs with hs|hs
   ·rcases yas.mp hs with hs|hs
    ·exact q 0 s hs
    ·rw[ya8.mp hs]
     decide
   ·exact q 1 s hs
  ·rw[zh8,zh8,sl_len];have h1:=(hf 0).hl;have h2:=(hf 1).hl
   omega
 ·refine⟨Txt.mul (Str.ofString "x") 60,⟨fun s hs=>?_,?_⟩,by rw[h];exact zar (by decide) rfl⟩
  ·have h1:=Tx.mul_mem hs;rw[show Tx.cs (Str.ofString "x")=[120] by decide +kernel,ya8]at h1
   omega
  ·rw[show(60:Int)=((60:Nat):Int) from rfl,Tx.mul_len,show(Str.ofString "x").length=1 by decide +kernel]
   decide
 ·exact⟨Str.ofString "never",⟨by decide +kernel,by decide +kernel⟩,by rw[h];exact zar (by decide) rfl⟩
theorem watch_at(c:Int){f:Nat->Str}(hf:∀k,NmOk (f k)):∃w:Str,((∀s∈Tx.cs w,s<128/\s≠32/\s≠60/\s≠61/\s≠62)/\w.length<=100)/\atI [T.str (f 2),.str (f 3),.str (Str.ofString "/"),.str (f 1)] (c.fmod 4)=some (.str w):=by
 have h3:c.fmod 4=0\/c.fmod 4=1\/c.fmod 4=2\/c.fmod 4=3:=by
  rw[fm (by decide)]
  omega
 have q:∀k,(∀s∈Tx.cs (f k),s<128/\s≠32/\s≠60/\s≠61/\s≠62)/\(f k).length<=100:=fun k=>⟨fun s hs=>by
  have:=(hf k).hs s hs
  omega,by have:=(hf k).hl;omega⟩
 obtain⟨a0,a1,a2,a3⟩:=at4 (T.str (f 2)) (.str (f 3)) (.str (Str.ofString "/")) (.str (f 1))
 rcases h3 with h|h|h|h
 ·exact⟨f 2,q 2,by rw[h,a0]⟩
 ·exact⟨f 3,q 3,by rw[h,a1]⟩
 ·exact⟨Str.ofString "/",⟨by rw[sl_cs];decide,by decide +kernel⟩,by rw[h,a2]⟩
 ·exact⟨f 1,q 1,by rw[h,a3]⟩
theorem word_at(c:Int):∃o:Str,(∃d r,Tx.cs o=d::r/\(d=60\/d=61\/d=62)/\(r=[]\/r=[61]/\d≠61))/\atI [T.str (Str.ofString "<"),.str (Str.ofString "<="),.str (Str.ofString ">"),.str (Str.ofString ">="),.str (Str.ofString "=")] ((c.fdiv 4).fmod 5)=some (.str o):=by
 have h3:(c.fdiv 4).fmod 5=0\/(c.fdiv 4).fmod 5=1\/(c.fdiv 4).fmod 5=2\/(c.fdiv 4).fmod 5=3\/(c.fdiv 4).fmod 5=4:=by
  rw[fm (by decide)]
  omega
 rcases h3 with h|h|h|h|h
 ·exact⟨Str.ofString "<",⟨60,[],by decide +kernel,by decide,by decide⟩,by rw[h];exact zar (by decide) rfl⟩
 ·exact⟨Str.ofString "<=",⟨60,[61],by decide +kernel,by decide,by decide⟩,by rw[h];exact zar (by decide) rfl⟩
 ·exact⟨Str.ofString ">",⟨62,[],by decide +kernel,by decide,by decide⟩,by rw[h];exact zar (by decide) rfl⟩
 ·exact⟨Str.ofString ">=",⟨62,[61],by decide +kernel,by decide,by decide⟩,by rw[h];exact zar (by decide) rfl⟩
 ·exact⟨Str.ofString "=",⟨61,[],by decide +kernel,by decide,by decide⟩,by rw[h];exact zar (by decide) rfl⟩
theorem lk_turn{c:Int}{f:Nat->Str}(hf:∀k,NmOk (f k)){l:List T}(hl:l.length<1000){x0 x2 x3 x6 x7 x8 x9 x10 x11:Option T}:∃k:Lk,LkOk k/\∃y9,zdf [x0,some (.lst (nm4 f)),x2,x3,some (.own l),some (.int c),x6,x7,x8,x9,x10,x11]=some (.nx [x0,some (.lst (nm4 f)),x2,x3,some (.own (l++[lkT k])),some (.int c),x6,x7,x8,y9,x10,x11]):=by
 obtain⟨w,⟨hw1,hw2⟩,ew⟩:=watch_at c hf;obtain⟨o,ho,eo⟩:=word_at c;obtain⟨n,hn,en⟩:=zi5 (c.fdiv 20);have s4:s70 4=true:=zgd (by decide +kernel) (by decide +kernel)
 have s20:s70 20=true:=zgd (by decide +kernel) (by decide +kernel)
 obtain⟨a0,a1,a2,a3⟩:=at4 (T.str (f 0)) (.str (f 1)) (.str (f 2)) (.str (f 3));have ll:l.length<100000:=by omega
 refine⟨⟨w,o,n⟩,⟨hw1,hw2,ho,hn⟩,some (.str w),?_⟩;unfold zdf nm4
 simp_arith[a0,a1,a2,a3,ew,eo,en,s4,s20,ll]
 rfl
theorem lk_loop{f:Nat->Str}(hf:∀k,NmOk (f k))(cs:List Int)(hc:cs.length<=63){x0 x2 x3:Option T}:∃L:List Lk,L.length<=63/\(∀k∈L,LkOk k)/\∃y5 y9,ze3 (bNm 5) zdf (cs.map T.int) [x0,some (.lst (nm4 f)),x2,x3,some (.own []),none,none,none,none,none,none,none]=some (.nx [x0,some (.lst (nm4 f)),x2,x3,some (.own (L.map lkT)),y5,none,none,none,y9,none,none]):=by
 obtain⟨τ,e,L,hL,hok,y5,y9,rfl⟩:=ze2 (b:=bNm 5) (body:=zdf) (ts:=cs.map T.int) (τ:=[x0,some (.lst (nm4 f)),x2,x3,some (.own []),none,none,none,none,none,none,none])
  (fun i τ=>∃L:List Lk,L.length=i/\(∀k∈L,LkOk k)/\∃y5 y9,τ=[x0,some (.lst (nm4 f)),x2,x3,some (.own (L.map lkT)),y5,none,none,none,y9,none,none]) ⟨[],rfl,fun _ z=>(by cases z),none,none,rfl⟩ fun i t τ h1 h2=>by
   rw[yae]at h1;obtain⟨c,hc1,rfl⟩:=ya0.mp h1;have hi:=(ya7.mp hc1).1;obtain⟨L,hL,hok,y5,y9,rfl⟩:=h2;obtain⟨k,hk,z9,ew⟩:=lk_turn (c:=c) hf (l:=L.map lkT) (by rw[ya4];omega) (x0:=x0) (x2:=x2) (x3:=x3) (x6:=none) (x7:=none) (x8:=none) (x9:=y9) (x10:=none) (x11:=none)
   refine⟨_,by simp_arith[],_,ew,L++[k],by rw[yag,hL];rfl,fun u hu=>?_,_,_,by rw[yci];rfl⟩
   rcases yas.mp hu with hu|hu
   ·exact hok u hu
   ·rw[ya8.mp hu];exact hk
 exact⟨L,by rw[hL,ya4];exact hc,hok,y5,y9,e⟩
def lwS(L:List Lk):Str:=Txt.join (Str.ofString "") (L.map fun k=>Str.ofString " "++k.w++k.o++Tx.dg k.n)
theorem em_is:Str.ofString ""=(⟨#[]⟩:Str):=Tx.cs_ext (by decide +kernel)
theorem lw_cs(L:List Lk):Tx.cs (lwS L)=(((L.map lkS).map Tx.cs).map (32::·)).flatten:=by
 unfold lwS;rw[jn_is,em_is,Tx.cs_join0,yba,yba,yba];refine congrArg List.flatten (List.map_congr_left fun k _=>?_)
 show Tx.cs (Str.ofString " "++k.w++k.o++Tx.dg k.n)=32::Tx.cs (lkS k);rw[Tx.cs_app,Tx.cs_app,Tx.cs_app,li_b,lk_cs,yb1,yb1]
 rfl
theorem nv_tx(r:Str)(L:List Lk):Str.ofString "never "++r++lwS L=wdS (nvW r L):=Tx.cs_ext (by
 rw[wd_cs,Tx.cs_app,Tx.cs_app,lw_cs];unfold nvW;rw[yad,Tx.joinL_flat,yad,yad,yb0,show Tx.cs (Str.ofString "never ")=Tx.cs (Str.ofString "never")++[32] by decide +kernel,yb1,yb1]
 rfl)
theorem ns_tx(r:Str)(L:List Lk)(n:Nat):Str.ofString "nosooner "++r++Str.ofString " "++Tx.dg n++lwS L=wdS (nsW r L n):=Tx.cs_ext (by
 rw[wd_cs,Tx.cs_app,Tx.cs_app,Tx.cs_app,Tx.cs_app,lw_cs,li_b];unfold nsW;rw[yad,Tx.joinL_flat,yad,yad,yad,yad,yb0,yb0,show Tx.cs (Str.ofString "nosooner ")=Tx.cs (Str.ofString "nosooner")++[32] by decide +kernel]
 simp only[yb1]
 rfl)
theorem wi_tx(r:Str)(n:Nat):Str.ofString "within "++r++Str.ofString " "++Tx.dg n=wdS (wiW r n):=Tx.cs_ext (by
 rw[wd_cs,Tx.cs_app,Tx.cs_app,Tx.cs_app,li_b,show Tx.cs (Str.ofString "within ")=Tx.cs (Str.ofString "within")++[32] by decide +kernel]
 show _=Tx.cs (Str.ofString "within")++32::(Tx.cs r++32::Tx.cs (Tx.dg n));simp only[yb1]
 rfl)
theorem lw_len{L:List Lk}(h:∀k∈L,LkOk k)(hl:L.length<=63):(lwS L).length<=20000:=by
 have key:∀l:List (List Nat),(∀p∈l,p.length<=162)->((l.map (32::·)).flatten).length<=l.length * 163:=by
  intro l
  induction l with
  |nil=>intro _;exact ybb _
  |cons a r ih =>
   intro hp;have h1:=hp a (ya6 ..);have h2:=ih fun p hp'=>hp p (ya5 _ hp')
   rw[yad,yb0,yag,yaa,yaa,ydb]
   omega
 have h1:=key ((L.map lkS).map Tx.cs) fun p hp=>by
  rw[yba]at hp;obtain⟨k,hk,rfl⟩:=yay.mp hp;exact lk_len (h k hk)
 rw[<- lw_cs,ya4,ya4]at h1;rw[Tx.cs_len]
 omega
theorem lw_lc{L:List Lk}(h:∀k∈L,LkOk k):lcGo (bTup 3 (zbl (bNm 0) (zbl (bNm 1) (zbl (bNm 2) bNil)))) (mC (.bl true)) zem (L.map lkT) [none,none,none]=some (L.map fun k=>T.str (Str.ofString " "++k.w++k.o++Tx.dg k.n)) :=
 zg4 (b:=bTup 3 (zbl (bNm 0) (zbl (bNm 1) (zbl (bNm 2) bNil)))) (me:=zem) lkT (fun k=>T.str (Str.ofString " "++k.w++k.o++Tx.dg k.n)) (fun τ=>∃a b c,τ=[a,b,c]) L [none,none,none] ⟨none,none,none,rfl⟩ fun k hk τ hI=>by
  obtain⟨a,b,c,rfl⟩:=hI;have ok:=h k hk;have hn':k.n<10 ^ 63:=yb3 ok.hn (by decide +kernel)
  have z0:=zl (yaw ln_b) ok.hl (by decide)
  have z1:=zl (zcr (yaw ln_b) ok.hl) (lk_ol ok) (by decide)
  have z2:=zl (zcr (zcr (yaw ln_b) ok.hl) (lk_ol ok)) (zf5 hn') (by decide)
  refine⟨[some (.str k.w),some (.str k.o),some (.int (k.n:Int))],by unfold lkT;simp_arith[],?_,_,_,_,rfl⟩
  unfold zem
  simp_arith[strT,zim hn',zi4,z0,z1,z2]
theorem lw_sum{L:List Lk}(h:∀k∈L,LkOk k)(hl:L.length<=63):((L.map fun k=>Str.ofString " "++k.w++k.o++Tx.dg k.n).map (·.length)).sum+(L.map fun k=>Str.ofString " "++k.w++k.o++Tx.dg k.n).length * (Str.ofString "").length<=lim:=by
 have h1:=sum_le (f:=fun k:Lk=>Str.ofString " "++k.w++k.o++Tx.dg k.n) (m:=163) (l:=L) fun k hk=>by
  have ok:=h k hk;have a1:=ok.hl;have a2:=lk_ol ok;have a3:=dg_l ok.hn;rw[zh8,zh8,zh8,ln_b]
  omega
 rw[show(Str.ofString "").length=0 by decide +kernel,Nat.mul_zero,Nat.add_zero]
 unfold lim
 omega
theorem wd_ok{l:List Str}(h:∀x∈l,∀c∈Tx.cs x,c<128):PyData.strOk (wdS l)=true:=ze5 fun c hc=>by
 have key:∀l:List (List Nat),(∀p∈l,∀c∈p,c<128)->∀c∈Tx.joinL 32 l,c<128:=by
  intro l
  induction l with
  |nil=>intro _ c hc;cases hc
  |cons a r ih =>
   intro hp c hc;cases r with
   |nil=>exact hp a (ya6 ..) c hc
   |cons b r =>
    rcases yas.mp (show c∈a++32::Tx.joinL 32 (b::r) from hc) with hc|hc
    ·exact hp a (ya6 ..) c hc
    ·rcases ya3.mp hc with rfl|hc
     ·decide
     ·exact ih (fun p hp'=>hp p (ya5 _ hp')) c hc
 rw[wd_cs]at hc;refine key _ (fun p hp=>?_) c hc
 obtain⟨x,hx,rfl⟩:=yay.mp hp;exact h x hx
theorem lk_asc{L:List Lk}(h:∀k∈L,LkOk k):∀x∈L.map lkS,∀c∈Tx.cs x,c<128:=fun x hx c hc=>by
 obtain⟨k,hk,rfl⟩:=yay.mp hx;exact(lk_signs (h k hk) c hc).1
theorem wd_ne{l:List Str}(h:PyData.strOk (wdS l)=true):neT (.str (wdS l)) (.str (wdS l))=some (.bl false):=by
 rw[zk1 h h,decide_eq_true rfl]
 rfl
theorem cl_turn{r:Str}{L:List Lk}{n:Nat}{t:T}{x:Str}{x0 x1 x2 x5 x7 x8 x9:Option T}(s1:t.sh=true)(s2:t.share=t)(e1:zaw [t]=some (.ok (.str x)))(e2:neT (.str x) (.str x)=some (.bl false))(e3:zax [.str x]=some (.ok t))(e4:zap [t,t,.str r,.lst (L.map lkT),.int (n:Int)]=some (.ok (.bl true))) :
  zev [x0,x1,x2,some (.str r),some (.lst (L.map lkT)),x5,some (.int (n:Int)),x7,x8,x9,some t,some (.str x)]=some (.nx [x0,x1,x2,some (.str r),some (.lst (L.map lkT)),x5,some (.int (n:Int)),x7,x8,x9,some t,some (.str x)]):=by
 unfold zev
 simp_arith[s1,s2,e1,e2,e3,e4,zcn,zav]
theorem claims_ok(ns:List Int)(hns:ns.length<=63){f:Nat->Str}(hf:∀k,NmOk (f k)):ze7 [za7 ns,.lst (nm4 f)]=some (.ok (.bl true)):=by
 have c0:=cell_ok ns (k:=0) (by decide)
 have c2:=cell_ok ns (k:=2) (by decide)
 obtain⟨r,hr,er⟩:=room_at (ns.getD (0:Int).toNat 0) hf;obtain⟨n,hn,en⟩:=zi5 ((ns.getD (0:Int).toNat 0).fdiv 15);have hn':n<10 ^ 63:=yb3 hn (by decide +kernel)
 generalize ec:ns.getD (0:Int).toNat 0=c at *;generalize ed:3+(ns.getD (2:Int).toNat 0).fmod 5=d at *;have hcl:=cut_len ns (some 3) (some d);have sc:=zh9 ns;have ss:=sh_script ns;obtain⟨L,hL,hk,y5,y9,lp⟩:=lk_loop hf (cutL ns (some 3) (some d)) (by omega) (x0:=some (za7 ns)) (x2:=some (.int c)) (x3:=some (.str r))
 obtain⟨a0,a1,a2,a3⟩:=at4 (T.str (f 0)) (.str (f 1)) (.str (f 2)) (.str (f 3));have s3:s70 3=true:=zgd (by decide +kernel) (by decide +kernel)
 have s15:s70 15=true:=zgd (by decide +kernel) (by decide +kernel)
 have n1:=(hf 0).hl;have n2:=(hf 1).hl;have z1:=zl n1 (yaw sl_len) (by decide)
 have z2:=zl (zcr n1 (yaw sl_len)) n2 (by decide)
 have mx:(0:Int)<=60/\(60:Int)<=1000000/\(Str.ofString "x").length<=16:=⟨by decide,by decide,by decide +kernel⟩
 have sm:shL (nm4 f)=true:=rfl;have sm2:zb0 (nm4 f)=nm4 f:=rfl;have lcw:=lw_lc hk;have lsum:=lw_sum hk hL;have hj:=strs_map (fun k:Lk=>Str.ofString " "++k.w++k.o++Tx.dg k.n) L
 have ll:(L.map lkT).length<=lim:=by rw[ya4];unfold lim;omega
 have lw:=lw_len hk hL;have rl:=hr.hl;obtain⟨⟨b1,b2⟩,⟨b3,b4⟩,b5,b6⟩:=zjr r L n;have v1:(Str.ofString "never ").length<=9/\(Str.ofString "nosooner ").length<=9/\(Str.ofString "within ").length<=9:=by decide +kernel
 obtain⟨v1,v2,v3⟩:=v1;have w1:=zl v1 rl (by decide)
 have w2:=zl (zcr v1 rl) lw (by decide)
 have w3:=zl v2 rl (by decide)
 have w4:=zl (zcr v2 rl) (yaw ln_b) (by decide)
 have w5:=zl (zcr (zcr v2 rl) (yaw ln_b)) (zf5 hn') (by decide)
 have w6:=zl (zcr (zcr (zcr v2 rl) (yaw ln_b)) (zf5 hn')) lw (by decide)
 have w7:=zl v3 rl (by decide)
 have w8:=zl (zcr v3 rl) (yaw ln_b) (by decide)
 have w9:=zl (zcr (zcr v3 rl) (yaw ln_b)) (zf5 hn') (by decide)
 have ra:∀c∈Tx.cs r,c<128:=fun c hc=>(hr.hr c hc).1
 have da:∀c∈Tx.cs (Tx.dg n),c<128:=dg_asc n
 have g1:PyData.strOk (wdS (nvW r L))=true:=wd_ok fun x hx=>by
  rcases ya3.mp hx with rfl|hx
  ·decide +kernel
  ·rcases ya3.mp hx with rfl|hx
   ·exact ra
   ·exact lk_asc hk x hx
 have g2:PyData.strOk (wdS (nsW r L n))=true:=wd_ok fun x hx=>by
  rcases ya3.mp hx with rfl|hx
  ·decide +kernel
  ·rcases ya3.mp hx with rfl|hx
   ·exact ra
   ·rcases ya3.mp hx with rfl|hx
    ·exact da
    ·exact lk_asc hk x hx
 have g3:PyData.strOk (wdS (wiW r n))=true:=wd_ok fun x hx=>by
  rcases ya3.mp hx with rfl|hx
  ·decide +kernel
  ·rcases ya3.mp hx with rfl|hx
   ·exact ra
   ·rw[ya8.mp hx];exact da
 have key:zgf [some (za7 ns),some (.lst (nm4 f)),none,none,none,none,none,none,none,none,none,none]=some (.rt (.bl true)):=by
  unfold zgf;refine sq (τ':=[some (za7 ns),some (.lst (nm4 f)),some (.int c),none,none,none,none,none,none,none,none,none]) (by simp_arith[sc,ss,c0]) ?_
  refine sq (τ':=[some (za7 ns),some (.lst (nm4 f)),some (.int c),some (.str r),none,none,none,none,none,none,none,none]) (by
   unfold nm4
   simp_arith[a0,a1,z1,z2,mx,s3,er]) ?_
  refine sq (τ':=[some (za7 ns),some (.lst (nm4 f)),some (.int c),some (.str r),some (.own []),none,none,none,none,none,none,none]) (by simp_arith[]) ?_
  refine sq (τ':=[some (za7 ns),some (.lst (nm4 f)),some (.int c),some (.str r),some (.own (L.map lkT)),y5,none,none,none,y9,none,none]) (by
   simp_arith[sc,ss,c2,ed]
   unfold za7
   simp_arith[zc5,zg0,cut_map,zc5]
   exact lp) ?_
  refine sq (τ':=[some (za7 ns),some (.lst (nm4 f)),some (.int c),some (.str r),some (.own (L.map lkT)),y5,some (.int (n:Int)),none,none,y9,none,none]) (by simp_arith[s15,en]) ?_
  refine sq (τ':=[some (za7 ns),some (.lst (nm4 f)),some (.int c),some (.str r),some (.lst (L.map lkT)),y5,some (.int (n:Int)),none,none,y9,none,none]) (by simp_arith[zav]) ?_
  refine sq (τ':=[some (za7 ns),some (.lst (nm4 f)),some (.int c),some (.str r),some (.lst (L.map lkT)),y5,some (.int (n:Int)),some (.str (lwS L)),none,y9,none,none]) (by
   simp_arith[zav,zcn,ll,lcw,mJn,hj,lsum]
   rfl) ?_
  refine sq (τ':=[some (za7 ns),some (.lst (nm4 f)),some (.int c),some (.str r),some (.lst (L.map lkT)),y5,some (.int (n:Int)),some (.str (lwS L)),none,y9,none,none]) (by simp_arith[zav]) ?_
  refine sq (τ':=[some (za7 ns),some (.lst (nm4 f)),some (.int c),some (.str r),some (.lst (L.map lkT)),y5,some (.int (n:Int)),some (.str (lwS L)),some (.own [.tup [nvT r L,.str (wdS (nvW r L))]]),y9,none,none]) (by simp_arith[zav,zcn,ll,nv_ok,b1,b2,w1,w2,nv_tx]) ?_
  refine sq (τ':=[some (za7 ns),some (.lst (nm4 f)),some (.int c),some (.str r),some (.lst (L.map lkT)),y5,some (.int (n:Int)),some (.str (lwS L)),some (.own [.tup [nvT r L,.str (wdS (nvW r L))]]),y9,none,none]) (by simp_arith[zav]) ?_
  refine sq (τ':=[some (za7 ns),some (.lst (nm4 f)),some (.int c),some (.str r),some (.lst (L.map lkT)),y5,some (.int (n:Int)),some (.str (lwS L)),some (.own [.tup [nvT r L,.str (wdS (nvW r L))],.tup [nsT r L n,.str (wdS (nsW r L n))]]),y9,none,none]) (by simp_arith[zav,zcn,ll,ns_ok,b3,b4,w3,w4,w5,w6,strT,zim hn',zi4,ns_tx]) ?_
  refine sq (τ':=[some (za7 ns),some (.lst (nm4 f)),some (.int c),some (.str r),some (.lst (L.map lkT)),y5,some (.int (n:Int)),some (.str (lwS L)),some (.own [.tup [nvT r L,.str (wdS (nvW r L))],.tup [nsT r L n,.str (wdS (nsW r L n))],.tup [wiT r n,.str (wdS (wiW r n))]]),y9,none,none]) (by simp_arith[wi_ok,b5,b6,w7,w8,w9,strT,zim hn',zi4,wi_tx]) ?_
  refine sq (τ':=[some (za7 ns),some (.lst (nm4 f)),some (.int c),some (.str r),some (.lst (L.map lkT)),y5,some (.int (n:Int)),some (.str (lwS L)),some (.lst [.tup [nvT r L,.str (wdS (nvW r L))],.tup [nsT r L n,.str (wdS (nsW r L n))],.tup [wiT r n,.str (wdS (wiW r n))]]),y9,none,none]) (by simp_arith[b2,b4,b6]) ?_
  have t1:=fun x8 x9=>cl_turn (x0:=some (za7 ns)) (x1:=some (.lst (nm4 f))) (x2:=some (.int c)) (x5:=y5) (x7:=some (.str (lwS L))) (x8:=x8) (x9:=x9) b1 b2 (shc_nv hr hk hL) (wd_ne g1) (rc_nv hr hk hL) (sm_nv (n:=n) hr hk)
  have t2:=fun x8 x9=>cl_turn (x0:=some (za7 ns)) (x1:=some (.lst (nm4 f))) (x2:=some (.int c)) (x5:=y5) (x7:=some (.str (lwS L))) (x8:=x8) (x9:=x9) b3 b4 (shc_ns hr hk hL hn) (wd_ne g2) (rc_ns hr hk hL hn) (sm_ns hr hk)
  have t3:=fun x8 x9=>cl_turn (x0:=some (za7 ns)) (x1:=some (.lst (nm4 f))) (x2:=some (.int c)) (x5:=y5) (x7:=some (.str (lwS L))) (x8:=x8) (x9:=x9) b5 b6 (shc_wi hr hn) (wd_ne g3) (rc_wi hr hn) (sm_wi (L:=L) hr hk)
  simp_arith[b1,b2,b3,b4,b5,b6,ze3,t1,t2,t3]
 unfold ze7
 simp_arith[sc,ss,sm,sm2,key]
abbrev s_law:Stmt:=top 41
theorem sc_law:FnScope ["_law_script","_law_names_here","_law_run","_law_text","_law_handed","_law_shown","_law_found","_law_step"] ["_law_script"] (za3 s_law):=⟨rfl,rfl,rfl,by decide +kernel,rfl,by decide +kernel,by decide +kernel⟩
noncomputable def zhx:PSt->Option Rs :=
 (mOr (zjj (mAp (g1 (zgh "tuple")) (za0 (za5 7) za4))) (mOr (zjj (mAp (g1 (zgh "tuple")) (za0 (mIx (za5 7) (mC (.int 0))) za4))) (mAp (g1 (zgh "bool")) (za0 (mIx (za5 7) (mC (.int 1))) za4))))
noncomputable def m_law:PSt->Option Out :=
 (zay (zd8 (zat zen (za0 (zat zbx (za0 (za5 0) (za0 (mC (.int 1)) za4))) (za0 (mC (.int 4)) za4))) (bNm 1))
 (zay (zd8 (zat zfl (za0 (zg3 (mSl (za5 0) (some (mC (.int 8))) (some (mC (.int 28)))) (mSlT (za5 0) (some (mC (.int 8))) (some (mC (.int 28))))) za4)) (bNm 2))
 (zay (zd8 (zat zbw (za0 (za5 2) za4)) (bNm 3))
 (zay (zd8 (mAp (g1 zin) (za0 (za5 2) za4)) (bNm 4))
 (zay (zd8 (zat zc8 (za0 (za5 4) za4)) (bNm 5))
 (zay (sIf (mOr (zjj (mAp (g1 (zgh "str")) (za0 (za5 5) za4))) (mOr (mAp (g2 neT) (za0 (za5 5) (za0 (za5 3) za4))) (mAp (g2 neT) (za0 (za5 4) (za0 (za5 2) za4))))) (zd7 (mC (.bl false))) sNx)
 (zay (sOwn 6 (zat zbi (za0 (za5 3) za4)))
 (zay (sIf (mOr (zjj (mAp (g1 (zgh "list")) (za0 (za5 6) za4))) (mAp (g2 neT) (za0 (za5 6) (za0 (za5 2) za4)))) (zd7 (mC (.bl false))) sNx)
 (zay (sFoC 6 7 zhx (.bl false))
 (zay (sApp 6 (mTup (za0 (mTup (za0 (mC (.int 0)) (za0 (mC (.int 1)) za4))) (za0 (mC .non) za4))))
 (zay (sIf (mOr (mAp (g2 neT) (za0 (zat zbi (za0 (za5 3) za4)) (za0 (za5 2) za4))) (mOr (mAp (g2 neT) (za0 (zat zbi (za0 (mC (.str "")) za4)) (za0 (zij za4) za4))) (mAp (g2 neT) (za0 (zat zc8 (za0 (zij za4) za4)) (za0 (mC (.str "")) za4))))) (zd7 (mC (.bl false))) sNx)
 (zd7 (zat ze7 (za0 (za5 0) (za0 (za5 1) za4)))))))))))))))
noncomputable def R_law:List T->Option Ru:=zfp 1 8 m_law
noncomputable abbrev gx_law:Gx:=⟨[],[],[],[],false,true,true,none,[],[],[],true,["_law_found"],[],[],[]⟩
noncomputable abbrev gm_law:Gm:=⟨["_law_script","_law_names_here","_law_run","_law_text","_law_handed","_law_shown","_law_found","_law_step"],(za3 s_law).names,[],6,[("_law_names",fn_Lnames),("_law_cell_at",zj2),("_law_steps",fn_Lsteps),("_law_steps_text",zjp),("show_run",fn_show_run),("read_run",fn_read_run),("_law_claims",fn_Lclaims)],["list","isinstance","str","tuple","bool"],[],["_law_found"],[],false,[],[],[],gx_law⟩
theorem ck_law:dSs 200 gm_law (zad s_law)=some m_law:=by kernel_rfl
theorem sd_fit(s:Sd):Fit (sdT s) 2:=Fit.tup fun t ht=>by
 simp only[ya3,yb9,or_false]at ht
 rcases ht with rfl|rfl
 ·exact Fit.fr _ _
 ·cases s.d with
  |none=>exact Fit.non _
  |some n=>exact Fit.int _ _
theorem sds_fit(L:List Sd):Fit (.lst (L.map sdT)) 3:=Fit.nd fun t ht=>by
 obtain⟨s,_,rfl⟩:=yay.mp ht;exact sd_fit s
theorem law_true(ns:List Int)(h:ns.length<=63):R_law [za7 ns]=some (.ok (.bl true)):=by
 have c1:=cell_ok ns (k:=1) (by decide)
 have nm:zen [.int (ns.getD (1:Int).toNat 0),.int 4]=some (.ok (.own (nm4 (nmX (ns.getD (1:Int).toNat 0))))):=names_ok (ns.getD (1:Int).toNat 0) (m:=4) (by decide)
 have hf:∀k,NmOk (nmX (ns.getD (1:Int).toNat 0) k):=fun k=>⟨nm_abc _ k,nm_len8 _ k⟩
 have cl:=claims_ok ns h hf;generalize nmX (ns.getD (1:Int).toNat 0)=f at *;have hcl:=cut_len ns (some 8) (some 28);obtain⟨L,hL,hk,es⟩:=steps_ok (cutL ns (some 8) (some 28)) (by omega)
 have e1:=stx_ok hk hL;have e2:=srun_ok hk hL;have e3:=rrun_ok hk hL;have e5:zbi [.str (Str.ofString "")]=some (.ok (.own [])):=rrun_ok (L:=[]) (fun _ z=>by cases z) (by decide)
 have e6:zc8 [.lst []]=some (.ok (.str (Str.ofString ""))):=srun_ok (L:=[]) (fun _ z=>by cases z) (by decide)
 have q1:neT (.str (ruS L)) (.str (ruS L))=some (.bl false):=by rw[zk1 (ru_ok L) (ru_ok L),decide_eq_true rfl];rfl
 have q2:=(zj4 (sds_fit L) (by decide) rfl (sds_fit L)).2
 have q3:neT (.lst []) (.lst [])=some (.bl false):=rfl;have q4:neT (.str (Str.ofString "")) (.str (Str.ofString ""))=some (.bl false):=by rw[zk1 em_ok em_ok,decide_eq_true rfl];rfl
 have sc:=zh9 ns;have ss:=sh_script ns;have sm:shL (nm4 f)=true:=rfl;have sm2:zb0 (nm4 f)=nm4 f:=rfl;have ll:(L.map sdT).length<lim:=by rw[ya4];unfold lim;omega
 have lp:∃y7,ze3 (bNm 7) (sIf zhx (zd7 (mC (.bl false))) sNx) (L.map sdT) [some (za7 ns),some (.lst (nm4 f)),some (.lst (L.map sdT)),some (.str (ruS L)),some (.lst (L.map sdT)),some (.str (ruS L)),some (.own (L.map sdT)),none]=some (.nx [some (za7 ns),some (.lst (nm4 f)),some (.lst (L.map sdT)),some (.str (ruS L)),some (.lst (L.map sdT)),some (.str (ruS L)),some (.own (L.map sdT)),y7]):=by
  obtain⟨τ,e,y7,rfl⟩:=ze2 (b:=bNm 7) (body:=sIf zhx (zd7 (mC (.bl false))) sNx) (ts:=L.map sdT) (τ:=[some (za7 ns),some (.lst (nm4 f)),some (.lst (L.map sdT)),some (.str (ruS L)),some (.lst (L.map sdT)),some (.str (ruS L)),some (.own (L.map sdT)),none])
   (fun i τ=>∃y7,τ=[some (za7 ns),some (.lst (nm4 f)),some (.lst (L.map sdT)),some (.str (ruS L)),some (.lst (L.map sdT)),some (.str (ruS L)),some (.own (L.map sdT)),y7]) ⟨none,rfl⟩ fun i t τ h1 h2=>by
    rw[yae]at h1;obtain⟨s,hs,rfl⟩:=ya0.mp h1;obtain⟨y7,rfl⟩:=h2;obtain⟨p,q,d⟩:=s;have a0:atI [T.tup [.int (p:Int),.int (q:Int)],doT d] 0=some (T.tup [.int (p:Int),.int (q:Int)]):=zar (by decide) rfl
    have a1:atI [T.tup [.int (p:Int),.int (q:Int)],doT d] 1=some (doT d):=zar (by decide) rfl
    refine⟨[some (za7 ns),some (.lst (nm4 f)),some (.lst (L.map sdT)),some (.str (ruS L)),some (.lst (L.map sdT)),some (.str (ruS L)),some (.own (L.map sdT)),some (sdT ⟨p,q,d⟩)],(by simp_arith[]),[some (za7 ns),some (.lst (nm4 f)),some (.lst (L.map sdT)),some (.str (ruS L)),some (.lst (L.map sdT)),some (.str (ruS L)),some (.own (L.map sdT)),some (sdT ⟨p,q,d⟩)],?_,_,rfl⟩
    unfold zhx sdT;cases d with
    |none=>simp_arith[a0,a1,doT]
    |some n=>simp_arith[a0,a1,doT]
  exact⟨y7,e⟩
 obtain⟨y7,lp⟩:=lp
 have key:m_law [some (za7 ns),none,none,none,none,none,none,none]=some (.rt (.bl true)):=by
  unfold m_law;refine sq (τ':=[some (za7 ns),some (.lst (nm4 f)),none,none,none,none,none,none]) (by simp_arith[sc,ss,c1,nm,sm2]) ?_
  refine sq (τ':=[some (za7 ns),some (.lst (nm4 f)),some (.lst (L.map sdT)),none,none,none,none,none]) (by
   unfold za7
   simp_arith[zc5,zg0,cut_map,es,zcc]) ?_
  refine sq (τ':=[some (za7 ns),some (.lst (nm4 f)),some (.lst (L.map sdT)),some (.str (ruS L)),none,none,none,none]) (by simp_arith[zcc,zfo,e1]) ?_
  refine sq (τ':=[some (za7 ns),some (.lst (nm4 f)),some (.lst (L.map sdT)),some (.str (ruS L)),some (.lst (L.map sdT)),none,none,none]) (by simp_arith[zcc,zfo]) ?_
  refine sq (τ':=[some (za7 ns),some (.lst (nm4 f)),some (.lst (L.map sdT)),some (.str (ruS L)),some (.lst (L.map sdT)),some (.str (ruS L)),none,none]) (by simp_arith[zcc,zfo,e2]) ?_
  refine sq (τ':=[some (za7 ns),some (.lst (nm4 f)),some (.lst (L.map sdT)),some (.str (ruS L)),some (.lst (L.map sdT)),some (.str (ruS L)),none,none]) (by simp_arith[zcc,zfo,q1,q2]) ?_
  refine sq (τ':=[some (za7 ns),some (.lst (nm4 f)),some (.lst (L.map sdT)),some (.str (ruS L)),some (.lst (L.map sdT)),some (.str (ruS L)),some (.own (L.map sdT)),none]) (by simp_arith[e3]) ?_
  refine sq (τ':=[some (za7 ns),some (.lst (nm4 f)),some (.lst (L.map sdT)),some (.str (ruS L)),some (.lst (L.map sdT)),some (.str (ruS L)),some (.own (L.map sdT)),none]) (by simp_arith[zcc,zfo,q2]) ?_
  refine sq (τ':=[some (za7 ns),some (.lst (nm4 f)),some (.lst (L.map sdT)),some (.str (ruS L)),some (.lst (L.map sdT)),some (.str (ruS L)),some (.own (L.map sdT)),y7]) (by simp_arith[zfo];exact lp) ?_
  refine sq (τ':=[some (za7 ns),some (.lst (nm4 f)),some (.lst (L.map sdT)),some (.str (ruS L)),some (.lst (L.map sdT)),some (.str (ruS L)),some (.own (L.map sdT++[.tup [.tup [.int 0,.int 1],.non]])),y7]) (by simp_arith[ll]) ?_
  refine sq (τ':=[some (za7 ns),some (.lst (nm4 f)),some (.lst (L.map sdT)),some (.str (ruS L)),some (.lst (L.map sdT)),some (.str (ruS L)),some (.own (L.map sdT++[.tup [.tup [.int 0,.int 1],.non]])),y7]) (by simp_arith[e3,zcc,zfo,q2,e5,q3,e6,q4]) ?_
  simp_arith[sc,ss,sm,sm2,cl]
 unfold R_law
 simp_arith[sc,ss,key]
end Zl
namespace Zl
open PySem PySem.W L2 Zw Zx Pu Hd
abbrev pw:Program:=PySem.Challenge.pw_zonewalk_k83_runs_and_claims_as_text
abbrev rw_:OpenLaw:=PySem.Challenge.rw_zonewalk_k83_runs_and_claims_as_text
def cO(a:Str)(ta:Nat)(b:Str)(tb:Nat)(f:Str)(tf:Nat)(r n k:Int)(r1:Nat)(z:Int)(r2 r3 r4 r5:Nat)(x y:Int)(tg:Nat):Obj:=⟨(.type "code"),none,(.fields (Array.mk [(.str a ta),(.str b tb),(.str f tf),(.int r 0),(.int n 0),(.int 0 0),(.int 0 0),(.int k 0),(.ref r1),(.bool true),(.int z 0),(.ref r2),.none,(.ref r3),(.ref r4),(.ref r5),(.int x 0),(.int y 0),(.str f tg)])),Array.mk []⟩
def fO(a b:Str)(s:Stmt)(d:Value)(m:Str)(t c:Nat)(y:Value):Obj:=⟨(.type "function"),none,(.func (fnOf a b (zh4 s) (zad s) (za3 s) d .none .none (.str m t) none (.ref c) y)),Array.mk []⟩
noncomputable def o2(P:Params):Obj:=⟨.none,none,(.dict (Array.mk []) 0),Array.mk []⟩
noncomputable def o3(P:Params):Obj:=⟨(.type "dict"),none,(.dict (Array.mk [en P "__name__" 165 (.str "law_zonewalk_k83_runs_and_claims_as_text" 545),en P "__doc__" 166 .none,en P "__package__" 167 .none,en P "__loader__" 168 (.builtin "__main__.__loader__#opaque"),en P "__spec__" 169 .none,en P "__annotations__" 170 (.ref 6),en P "__builtins__" 171 (.ref 4),en P "__file__" 173 (.str "/claim/cut.py" 172),en P "__cached__" 174 .none,en P "_wall" 193 (.ref 21),en P "WalkError" 213 (.ref 31),en P "NoText" 229 (.ref 44),en P "greatest_divisor" 242 (.ref 53),en P "own_copy" 251 (.ref 60),en P "Claim" 273 (.ref 70),en P "Never" 323 (.ref 112),en P "NoSooner" 375 (.ref 152),en P "Within" 425 (.ref 192),en P "FIGURES" 429 (.str "0123456789" 428),en P "MOST_FIGURES" 431 (.int 60 430),en P "LOOK_SIGNS" 435 (.ref 195),en P "check_text" 442 (.ref 202),en P "is_number_text" 448 (.ref 207),en P "read_number" 455 (.ref 214),en P "show_number" 465 (.ref 221),en P "show_fraction" 472 (.ref 228),en P "read_fraction" 482 (.ref 235),en P "show_looks" 488 (.ref 240),en P "read_look" 494 (.ref 245),en P "read_looks" 500 (.ref 250),en P "show_run" 506 (.ref 255),en P "show_door" 513 (.ref 262),en P "read_run" 519 (.ref 267),en P "read_step" 528 (.ref 274),en P "show_claim" 536 (.ref 281),en P "read_claim" 544 (.ref 288),en P "_law_cell_at" 554 (.ref 295),en P "_law_names" 570 (.ref 302),en P "_law_divisor" 578 (.ref 309),en P "_law_size" 585 (.ref 316),en P "_law_steps" 598 (.ref 323),en P "_law_steps_text" 609 (.ref 330),en P "_law_same_claim" 622 (.ref 337),en P "_law_claims" 628 (.ref 342),en P "law" 642 (.ref 349)]) 45),Array.mk []⟩
noncomputable def o22(P:Params):Obj:=⟨(.type "tuple"),none,(.seq (Array.mk [(.type "ValueError")]) 0),Array.mk []⟩
noncomputable def o29(P:Params):Obj:=⟨(.type "tuple"),none,(.seq (Array.mk []) 0),Array.mk []⟩
noncomputable def o30(P:Params):Obj:=⟨(.type "dict"),none,(.dict (Array.mk [en P "__module__" 203 (.str "zonewalk.errors" 194),en P "__firstlineno__" 207 (.int 5 206),en P "__static_attributes__" 208 (.ref 29),en P "__weakref__" 210 (.ref 32),en P "__doc__" 211 .none]) 3),Array.mk []⟩
noncomputable def o31(P:Params):Obj:=⟨(.type "type"),none,(.cls ⟨"WalkError",[(.type "ValueError")],[(.ref 31),(.type "ValueError"),(.type "Exception"),(.type "BaseException"),(.type "object")],30,"WalkError",true,[],[(.ref 44)],false,none,false⟩),Array.mk [(some (.ref 22)),none,(some (.str "WalkError" 196)),(some (.str "WalkError" 204)),(some (.builtin "ValueError.__new__")),(some (.bool true))]⟩
noncomputable def o32(P:Params):Obj:=⟨(.type "getset_descriptor"),none,(.fields (Array.mk [(.str "__weakref__" 209),(.ref 31),(.builtin "ExceptionGroup.__weakref__"),.none])),Array.mk []⟩
noncomputable def o35(P:Params):Obj:=⟨(.type "tuple"),none,(.seq (Array.mk [(.ref 31)]) 0),Array.mk []⟩
noncomputable def o42(P:Params):Obj:=⟨(.type "tuple"),none,(.seq (Array.mk []) 0),Array.mk []⟩
noncomputable def o43(P:Params):Obj:=⟨(.type "dict"),none,(.dict (Array.mk [en P "__module__" 221 (.str "zonewalk.errors" 194),en P "__firstlineno__" 225 (.int 7 224),en P "__static_attributes__" 226 (.ref 42),en P "__doc__" 227 .none]) 2),Array.mk []⟩
noncomputable def o44(P:Params):Obj:=⟨(.type "type"),none,(.cls ⟨"NoText",[(.ref 31)],[(.ref 44),(.ref 31),(.type "ValueError"),(.type "Exception"),(.type "BaseException"),(.type "object")],43,"NoText",true,[],[],false,none,false⟩),Array.mk [(some (.ref 35)),none,(some (.str "NoText" 214)),(some (.str "NoText" 222)),(some (.builtin "ValueError.__new__")),(some (.bool true))]⟩
noncomputable def o52(_:Params):=cO "greatest_divisor" 232 "greatest_divisor" 233 "/claim/cut.py" 234 10 2 3 47 181 48 49 50 51 240 10 241
noncomputable def o53(_:Params):=fO "greatest_divisor" "greatest_divisor" (top 5) .none "zonewalk.fractions" 230 52 .none
noncomputable def o59(_:Params):=cO "own_copy" 245 "own_copy" 246 "/claim/cut.py" 247 19 1 3 54 181 55 56 57 58 249 19 250
noncomputable def o60(_:Params):=fO "own_copy" "own_copy" (top 7) .none "zonewalk.machines" 243 59 .none
noncomputable def o68(P:Params):Obj:=⟨(.type "tuple"),none,(.seq (Array.mk []) 0),Array.mk []⟩
noncomputable def o69(P:Params):Obj:=⟨(.type "dict"),none,(.dict (Array.mk [en P "__module__" 261 (.str "zonewalk.claims" 252),en P "__firstlineno__" 265 (.int 22 264),en P "__static_attributes__" 266 (.ref 68),en P "__dict__" 268 (.ref 71),en P "__weakref__" 270 (.ref 72),en P "__doc__" 271 .none]) 4),Array.mk []⟩
noncomputable def o70(P:Params):Obj:=⟨(.type "type"),none,(.cls ⟨"Claim",[(.type "object")],[(.ref 70),(.type "object")],69,"Claim",true,[],[(.ref 112),(.ref 152),(.ref 192)],false,none,false⟩),Array.mk [none,none,(some (.str "Claim" 254)),(some (.str "Claim" 262)),(some (.builtin "object.__new__")),(some (.bool true))]⟩
noncomputable def o71(P:Params):Obj:=⟨(.type "getset_descriptor"),none,(.fields (Array.mk [(.str "__dict__" 267),(.ref 70),(.builtin "function.__dict__"),(.builtin "function.__dict__#set")])),Array.mk []⟩
noncomputable def o72(P:Params):Obj:=⟨(.type "getset_descriptor"),none,(.fields (Array.mk [(.str "__weakref__" 269),(.ref 70),(.builtin "ExceptionGroup.__weakref__"),.none])),Array.mk []⟩
noncomputable def o75(P:Params):Obj:=⟨(.type "tuple"),none,(.seq (Array.mk [(.ref 70)]) 0),Array.mk []⟩
noncomputable def o87(_:Params):=cO "__init__" 286 "Never.__init__" 287 "/claim/cut.py" 288 26 3 3 82 181 83 84 85 86 292 26 293
noncomputable def o88(_:Params):=fO "__init__" "Never.__init__" (meth 10 0) .none "zonewalk.claims" 252 87 .none
noncomputable def o110(P:Params):Obj:=⟨(.type "tuple"),none,(.seq (Array.mk [(.str "guard" 318),(.str "room" 319)]) 0),Array.mk []⟩
noncomputable def o111(P:Params):Obj:=⟨(.type "dict"),none,(.dict (Array.mk [en P "__module__" 281 (.str "zonewalk.claims" 252),en P "__firstlineno__" 285 (.int 24 284),en P "__init__" 294 (.ref 88),en P "asked_of" 302 (.ref 95),en P "goal_on" 310 (.ref 102),en P "free_watch" 317 (.ref 109),en P "__static_attributes__" 320 (.ref 110),en P "__doc__" 321 .none]) 2),Array.mk []⟩
noncomputable def o112(P:Params):Obj:=⟨(.type "type"),none,(.cls ⟨"Never",[(.ref 70)],[(.ref 112),(.ref 70),(.type "object")],111,"Never",true,[],[],false,none,false⟩),Array.mk [(some (.ref 75)),none,(some (.str "Never" 274)),(some (.str "Never" 282)),(some (.builtin "object.__new__")),(some (.bool true))]⟩
noncomputable def o115(P:Params):Obj:=⟨(.type "tuple"),none,(.seq (Array.mk [(.ref 70)]) 0),Array.mk []⟩
noncomputable def o127(_:Params):=cO "__init__" 336 "NoSooner.__init__" 337 "/claim/cut.py" 338 40 4 3 122 181 123 124 125 126 343 40 344
noncomputable def o128(_:Params):=fO "__init__" "NoSooner.__init__" (meth 11 0) .none "zonewalk.claims" 252 127 .none
noncomputable def o150(P:Params):Obj:=⟨(.type "tuple"),none,(.seq (Array.mk [(.str "guard" 369),(.str "number" 370),(.str "room" 371)]) 0),Array.mk []⟩
noncomputable def o151(P:Params):Obj:=⟨(.type "dict"),none,(.dict (Array.mk [en P "__module__" 331 (.str "zonewalk.claims" 252),en P "__firstlineno__" 335 (.int 38 334),en P "__init__" 345 (.ref 128),en P "asked_of" 353 (.ref 135),en P "goal_on" 361 (.ref 142),en P "free_watch" 368 (.ref 149),en P "__static_attributes__" 372 (.ref 150),en P "__doc__" 373 .none]) 2),Array.mk []⟩
noncomputable def o152(P:Params):Obj:=⟨(.type "type"),none,(.cls ⟨"NoSooner",[(.ref 70)],[(.ref 152),(.ref 70),(.type "object")],151,"NoSooner",true,[],[],false,none,false⟩),Array.mk [(some (.ref 115)),none,(some (.str "NoSooner" 324)),(some (.str "NoSooner" 332)),(some (.builtin "object.__new__")),(some (.bool true))]⟩
noncomputable def o155(P:Params):Obj:=⟨(.type "tuple"),none,(.seq (Array.mk [(.ref 70)]) 0),Array.mk []⟩
noncomputable def o167(_:Params):=cO "__init__" 388 "Within.__init__" 389 "/claim/cut.py" 390 55 3 3 162 181 163 164 165 166 394 55 395
noncomputable def o168(_:Params):=fO "__init__" "Within.__init__" (meth 12 0) .none "zonewalk.claims" 252 167 .none
noncomputable def o190(P:Params):Obj:=⟨(.type "tuple"),none,(.seq (Array.mk [(.str "number" 420),(.str "room" 421)]) 0),Array.mk []⟩
noncomputable def o191(P:Params):Obj:=⟨(.type "dict"),none,(.dict (Array.mk [en P "__module__" 383 (.str "zonewalk.claims" 252),en P "__firstlineno__" 387 (.int 53 386),en P "__init__" 396 (.ref 168),en P "asked_of" 404 (.ref 175),en P "goal_on" 412 (.ref 182),en P "free_watch" 419 (.ref 189),en P "__static_attributes__" 422 (.ref 190),en P "__doc__" 423 .none]) 2),Array.mk []⟩
noncomputable def o192(P:Params):Obj:=⟨(.type "type"),none,(.cls ⟨"Within",[(.ref 70)],[(.ref 192),(.ref 70),(.type "object")],191,"Within",true,[],[],false,none,false⟩),Array.mk [(some (.ref 155)),none,(some (.str "Within" 376)),(some (.str "Within" 384)),(some (.builtin "object.__new__")),(some (.bool true))]⟩
noncomputable def o195(P:Params):Obj:=⟨(.type "tuple"),none,(.seq (Array.mk [(.str "<" 432),(.str ">" 433),(.str "=" 434)]) 0),Array.mk []⟩
noncomputable def o201(_:Params):=cO "check_text" 436 "check_text" 437 "/claim/cut.py" 438 71 1 3 196 181 197 198 199 200 440 71 441
noncomputable def o202(_:Params):=fO "check_text" "check_text" (top 17) .none "zonewalk.texts" 426 201 .none
noncomputable def o206(P:Params):Obj:=⟨(.type "code"),none,(.fields (Array.mk [(.str "is_number_text" 443),(.str "is_number_text" 444),(.str "/claim/cut.py" 445),(.int 74 0),(.int 1 0),(.int 0 0),(.int 0 0),(.int 3 0),(.ref 203),(.bool true),(.int 181 0),(.ref 204),.none,.none,.none,(.ref 205),(.int 446 0),(.int 74 0),(.str "/claim/cut.py" 447)])),Array.mk []⟩
noncomputable def o207(_:Params):=fO "is_number_text" "is_number_text" (top 18) .none "zonewalk.texts" 426 206 .none
noncomputable def o213(_:Params):=cO "read_number" 449 "read_number" 450 "/claim/cut.py" 451 78 1 3 208 181 209 210 211 212 453 78 454
noncomputable def o214(_:Params):=fO "read_number" "read_number" (top 19) .none "zonewalk.texts" 426 213 .none
noncomputable def o220(_:Params):=cO "show_number" 456 "show_number" 457 "/claim/cut.py" 458 82 1 3 215 181 216 217 218 219 463 82 464
noncomputable def o221(_:Params):=fO "show_number" "show_number" (top 20) .none "zonewalk.texts" 426 220 .none
noncomputable def o227(_:Params):=cO "show_fraction" 466 "show_fraction" 467 "/claim/cut.py" 468 91 1 3 222 181 223 224 225 226 470 91 471
noncomputable def o228(_:Params):=fO "show_fraction" "show_fraction" (top 21) .none "zonewalk.texts" 426 227 .none
noncomputable def o234(_:Params):=cO "read_fraction" 473 "read_fraction" 474 "/claim/cut.py" 475 95 1 3 229 181 230 231 232 233 480 95 481
noncomputable def o235(_:Params):=fO "read_fraction" "read_fraction" (top 22) .none "zonewalk.texts" 426 234 .none
noncomputable def o239(P:Params):Obj:=⟨(.type "code"),none,(.fields (Array.mk [(.str "show_looks" 483),(.str "show_looks" 484),(.str "/claim/cut.py" 485),(.int 107 0),(.int 1 0),(.int 0 0),(.int 0 0),(.int 3 0),(.ref 236),(.bool true),(.int 181 0),(.ref 237),.none,.none,.none,(.ref 238),(.int 486 0),(.int 107 0),(.str "/claim/cut.py" 487)])),Array.mk []⟩
noncomputable def o240(_:Params):=fO "show_looks" "show_looks" (top 23) .none "zonewalk.texts" 426 239 .none
noncomputable def o244(P:Params):Obj:=⟨(.type "code"),none,(.fields (Array.mk [(.str "read_look" 489),(.str "read_look" 490),(.str "/claim/cut.py" 491),(.int 109 0),(.int 1 0),(.int 0 0),(.int 0 0),(.int 3 0),(.ref 241),(.bool true),(.int 181 0),(.ref 242),.none,.none,.none,(.ref 243),(.int 492 0),(.int 109 0),(.str "/claim/cut.py" 493)])),Array.mk []⟩
noncomputable def o245(_:Params):=fO "read_look" "read_look" (top 24) .none "zonewalk.texts" 426 244 .none
noncomputable def o249(P:Params):Obj:=⟨(.type "code"),none,(.fields (Array.mk [(.str "read_looks" 495),(.str "read_looks" 496),(.str "/claim/cut.py" 497),(.int 118 0),(.int 1 0),(.int 0 0),(.int 0 0),(.int 3 0),(.ref 246),(.bool true),(.int 181 0),(.ref 247),.none,.none,.none,(.ref 248),(.int 498 0),(.int 118 0),(.str "/claim/cut.py" 499)])),Array.mk []⟩
noncomputable def o250(_:Params):=fO "read_looks" "read_looks" (top 25) .none "zonewalk.texts" 426 249 .none
noncomputable def o254(P:Params):Obj:=⟨(.type "code"),none,(.fields (Array.mk [(.str "show_run" 501),(.str "show_run" 502),(.str "/claim/cut.py" 503),(.int 120 0),(.int 1 0),(.int 0 0),(.int 0 0),(.int 3 0),(.ref 251),(.bool true),(.int 181 0),(.ref 252),.none,.none,.none,(.ref 253),(.int 504 0),(.int 120 0),(.str "/claim/cut.py" 505)])),Array.mk []⟩
noncomputable def o255(_:Params):=fO "show_run" "show_run" (top 26) .none "zonewalk.texts" 426 254 .none
noncomputable def o261(_:Params):=cO "show_door" 507 "show_door" 508 "/claim/cut.py" 509 122 1 3 256 181 257 258 259 260 511 122 512
noncomputable def o262(_:Params):=fO "show_door" "show_door" (top 27) .none "zonewalk.texts" 426 261 .none
noncomputable def o266(P:Params):Obj:=⟨(.type "code"),none,(.fields (Array.mk [(.str "read_run" 514),(.str "read_run" 515),(.str "/claim/cut.py" 516),(.int 124 0),(.int 1 0),(.int 0 0),(.int 0 0),(.int 3 0),(.ref 263),(.bool true),(.int 181 0),(.ref 264),.none,.none,.none,(.ref 265),(.int 517 0),(.int 124 0),(.str "/claim/cut.py" 518)])),Array.mk []⟩
noncomputable def o267(_:Params):=fO "read_run" "read_run" (top 28) .none "zonewalk.texts" 426 266 .none
noncomputable def o273(_:Params):=cO "read_step" 520 "read_step" 521 "/claim/cut.py" 522 129 1 3 268 181 269 270 271 272 526 129 527
noncomputable def o274(_:Params):=fO "read_step" "read_step" (top 29) .none "zonewalk.texts" 426 273 .none
noncomputable def o280(_:Params):=cO "show_claim" 529 "show_claim" 530 "/claim/cut.py" 531 135 1 3 275 181 276 277 278 279 534 135 535
noncomputable def o281(_:Params):=fO "show_claim" "show_claim" (top 30) .none "zonewalk.texts" 426 280 .none
noncomputable def o287(_:Params):=cO "read_claim" 537 "read_claim" 538 "/claim/cut.py" 539 143 1 3 282 181 283 284 285 286 542 143 543
noncomputable def o288(_:Params):=fO "read_claim" "read_claim" (top 31) .none "zonewalk.texts" 426 287 .none
noncomputable def o294(_:Params):=cO "_law_cell_at" 547 "_law_cell_at" 548 "/claim/cut.py" 549 154 2 3 289 181 290 291 292 293 552 154 553
noncomputable def o295(_:Params):=fO "_law_cell_at" "_law_cell_at" (top 33) .none "law_zonewalk_k83_runs_and_claims_as_text" 545 294 .none
noncomputable def o301(_:Params):=cO "_law_names" 555 "_law_names" 556 "/claim/cut.py" 557 158 2 3 296 181 297 298 299 300 568 158 569
noncomputable def o302(_:Params):=fO "_law_names" "_law_names" (top 34) .none "law_zonewalk_k83_runs_and_claims_as_text" 545 301 .none
noncomputable def o308(_:Params):=cO "_law_divisor" 571 "_law_divisor" 572 "/claim/cut.py" 573 170 2 3 303 181 304 305 306 307 576 170 577
noncomputable def o309(_:Params):=fO "_law_divisor" "_law_divisor" (top 35) .none "law_zonewalk_k83_runs_and_claims_as_text" 545 308 .none
noncomputable def o315(_:Params):=cO "_law_size" 579 "_law_size" 580 "/claim/cut.py" 581 174 1 3 310 181 311 312 313 314 583 174 584
noncomputable def o316(_:Params):=fO "_law_size" "_law_size" (top 36) .none "law_zonewalk_k83_runs_and_claims_as_text" 545 315 .none
noncomputable def o322(_:Params):=cO "_law_steps" 586 "_law_steps" 587 "/claim/cut.py" 588 180 1 3 317 181 318 319 320 321 596 180 597
noncomputable def o323(_:Params):=fO "_law_steps" "_law_steps" (top 37) .none "law_zonewalk_k83_runs_and_claims_as_text" 545 322 .none
noncomputable def o329(_:Params):=cO "_law_steps_text" 599 "_law_steps_text" 600 "/claim/cut.py" 601 189 1 3 324 181 325 326 327 328 607 189 608
noncomputable def o330(_:Params):=fO "_law_steps_text" "_law_steps_text" (top 38) .none "law_zonewalk_k83_runs_and_claims_as_text" 545 329 .none
noncomputable def o336(_:Params):=cO "_law_same_claim" 610 "_law_same_claim" 611 "/claim/cut.py" 612 200 5 3 331 181 332 333 334 335 620 200 621
noncomputable def o337(_:Params):=fO "_law_same_claim" "_law_same_claim" (top 39) .none "law_zonewalk_k83_runs_and_claims_as_text" 545 336 .none
noncomputable def o341(P:Params):Obj:=⟨(.type "code"),none,(.fields (Array.mk [(.str "_law_claims" 623),(.str "_law_claims" 624),(.str "/claim/cut.py" 625),(.int 208 0),(.int 2 0),(.int 0 0),(.int 0 0),(.int 3 0),(.ref 338),(.bool true),(.int 181 0),(.ref 339),.none,.none,.none,(.ref 340),(.int 626 0),(.int 208 0),(.str "/claim/cut.py" 627)])),Array.mk []⟩
noncomputable def o342(_:Params):=fO "_law_claims" "_law_claims" (top 40) .none "law_zonewalk_k83_runs_and_claims_as_text" 545 341 .none
noncomputable def o348(_:Params):=cO "law" 629 "law" 630 "/claim/cut.py" 631 224 1 3 343 181 344 345 346 347 640 224 641
noncomputable def o349(_:Params):=fO "law" "law" (top 41) .none "law_zonewalk_k83_runs_and_claims_as_text" 545 348 .none
noncomputable def za6(P:Params):Frag:=[(2,o2 P),(3,o3 P),(22,o22 P),(29,o29 P),(30,o30 P),(31,o31 P),(32,o32 P),(35,o35 P),(42,o42 P),(43,o43 P),(44,o44 P),(52,o52 P),(53,o53 P),(59,o59 P),(60,o60 P),(68,o68 P),(69,o69 P),(70,o70 P),(71,o71 P),(72,o72 P),(75,o75 P),(87,o87 P),(88,o88 P),(110,o110 P),(111,o111 P),(112,o112 P),(115,o115 P),(127,o127 P),(128,o128 P),(150,o150 P),(151,o151 P),(152,o152 P),(155,o155 P),(167,o167 P),(168,o168 P),(190,o190 P),(191,o191 P),(192,o192 P),(195,o195 P),(201,o201 P),(202,o202 P),(206,o206 P),(207,o207 P),(213,o213 P),(214,o214 P),(220,o220 P),(221,o221 P),(227,o227 P),(228,o228 P),(234,o234 P),(235,o235 P),(239,o239 P),(240,o240 P),(244,o244 P),(245,o245 P),(249,o249 P),(250,o250 P),(254,o254 P),(255,o255 P),(261,o261 P),(262,o262 P),(266,o266 P),(267,o267 P),(273,o273 P),(274,o274 P),(280,o280 P),(281,o281 P),(287,o287 P),(288,o288 P),(294,o294 P),(295,o295 P),(301,o301 P),(302,o302 P),(308,o308 P),(309,o309 P),(315,o315 P),(316,o316 P),(322,o322 P),(323,o323 P),(329,o329 P),(330,o330 P),(336,o336 P),(337,o337 P),(341,o341 P),(342,o342 P),(348,o348 P),(349,o349 P)]
def fas:List Addr:=[2,3,22,29,30,31,32,35,42,43,44,52,53,59,60,68,69,70,71,72,75,87,88,110,111,112,115,127,128,150,151,152,155,167,168,190,191,192,195,201,202,206,207,213,214,220,221,227,228,234,235,239,240,244,245,249,250,254,255,261,262,266,267,273,274,280,281,287,288,294,295,301,302,308,309,315,316,322,323,329,330,336,337,341,342,348,349]
def vq:Program:={ pw with main:={ (pw).main with body:=[top 41] } }
def loo:List Str:=[Str.ofString "_wall",Str.ofString "WalkError",Str.ofString "NoText",Str.ofString "greatest_divisor",Str.ofString "own_copy",Str.ofString "Claim",Str.ofString "Never",Str.ofString "NoSooner",Str.ofString "Within",Str.ofString "FIGURES",Str.ofString "MOST_FIGURES",Str.ofString "LOOK_SIGNS",Str.ofString "check_text",Str.ofString "is_number_text",Str.ofString "read_number",Str.ofString "show_number",Str.ofString "show_fraction",Str.ofString "read_fraction",Str.ofString "show_looks",Str.ofString "read_look",Str.ofString "read_looks",Str.ofString "show_run",Str.ofString "show_door",Str.ofString "read_run",Str.ofString "read_step",Str.ofString "show_claim",Str.ofString "read_claim",Str.ofString "_law_cell_at",Str.ofString "_law_names",Str.ofString "_law_divisor",Str.ofString "_law_size",Str.ofString "_law_steps",Str.ofString "_law_steps_text",Str.ofString "_law_same_claim",Str.ofString "_law_claims"]
noncomputable abbrev hk:Hook:=kHook za6 fas (fun _=>by kernel_rfl)
theorem run_ok(w:World)(os:OsState):(go pw 2585 w os).map (fun s=>seenAll pw vq loo (xt rw_.row.toRowW vq) hk.obs (boot_heap w.params) s.abs)=some (true,openGood vq loo,hk.val w):=by kernel_rfl
theorem left:LeftO pw vq loo (xt rw_.row.toRowW vq) hk.obs hk.val 5750 true:=left_go 5750 2585 (by kernel_rfl) (by decide) (fun s=>by kernel_rfl) (by decide) run_ok
theorem said:rw_.wellSaid=true:=said_of (by kernel_rfl)
theorem all_mk{w:World}{h:Heap}{mg:Str->Option Value}{fa:Addr}(X:(za6 w.params).In h)(G:h.Ns mainGlobals mg)(hfa:mg "law"=some (.ref fa))
  : ∃fd:FuncData,(∀(s:Shared) (v:Value),BindsTo s fd ⟨[v],[]⟩ [("_law_script",v)])/\∀base:Heap,(za6 w.params).In base->base.Ns mainGlobals mg->FnOk pw w (za6 w.params) mg base CX0 7 fa fd ["_law_script"] (spLaw (za6 w.params)):=by
 have e:=hfa.symm.trans (mg_of X G (show nsIn (za6 w.params) mainGlobals "law"=some (some (.ref 349)) by kernel_rfl))
 cases e;let ca:Str->Value:=fun c=>if c="NoText" then .ref 44 else if c="WalkError" then .ref 31 else .none
 have b_len:mg "len"=none:=mg_none_of X G (show nsIn (za6 w.params) mainGlobals "len"=some none by kernel_rfl)
 have b_abs:mg "abs"=none:=mg_none_of X G (show nsIn (za6 w.params) mainGlobals "abs"=some none by kernel_rfl)
 have b_range:mg "range"=none:=mg_none_of X G (show nsIn (za6 w.params) mainGlobals "range"=some none by kernel_rfl)
 have b_int:mg "int"=none:=mg_none_of X G (show nsIn (za6 w.params) mainGlobals "int"=some none by kernel_rfl)
 have b_isinstance:mg "isinstance"=none:=mg_none_of X G (show nsIn (za6 w.params) mainGlobals "isinstance"=some none by kernel_rfl)
 have b_str:mg "str"=none:=mg_none_of X G (show nsIn (za6 w.params) mainGlobals "str"=some none by kernel_rfl)
 have b_all:mg "all"=none:=mg_none_of X G (show nsIn (za6 w.params) mainGlobals "all"=some none by kernel_rfl)
 have b_reversed:mg "reversed"=none:=mg_none_of X G (show nsIn (za6 w.params) mainGlobals "reversed"=some none by kernel_rfl)
 have b_enumerate:mg "enumerate"=none:=mg_none_of X G (show nsIn (za6 w.params) mainGlobals "enumerate"=some none by kernel_rfl)
 have b_list:mg "list"=none:=mg_none_of X G (show nsIn (za6 w.params) mainGlobals "list"=some none by kernel_rfl)
 have b_bool:mg "bool"=none:=mg_none_of X G (show nsIn (za6 w.params) mainGlobals "bool"=some none by kernel_rfl)
 have b_tuple:mg "tuple"=none:=mg_none_of X G (show nsIn (za6 w.params) mainGlobals "tuple"=some none by kernel_rfl)
 have yg:specialIn (za6 w.params) (.builtin "object.__class__") "__get__"=some (some (.builtin "getset_descriptor.__get__")):=by kernel_rfl
 have yt:takesIn (za6 w.params) (.builtin "object.__class__")=some true:=by kernel_rfl
 let CL_NoText:ECls (za6 w.params) mg "NoText":=⟨44,mg_of X G (show nsIn (za6 w.params) mainGlobals "NoText"=some (some (.ref 44)) by kernel_rfl),⟨by kernel_rfl,by kernel_rfl,⟨(clsIn (za6 w.params) 44).getD default,by kernel_rfl⟩,by kernel_rfl,by kernel_rfl,by kernel_rfl,by kernel_rfl,by kernel_rfl,by kernel_rfl,yg,yt⟩⟩
 have E_NoText:∃T:ECls (za6 w.params) mg "NoText",ca "NoText"=.ref T.C:=⟨CL_NoText,by rfl⟩
 let CL_WalkError:ECls (za6 w.params) mg "WalkError":=⟨31,mg_of X G (show nsIn (za6 w.params) mainGlobals "WalkError"=some (some (.ref 31)) by kernel_rfl),⟨by kernel_rfl,by kernel_rfl,⟨(clsIn (za6 w.params) 31).getD default,by kernel_rfl⟩,by kernel_rfl,by kernel_rfl,by kernel_rfl,by kernel_rfl,by kernel_rfl,by kernel_rfl,yg,yt⟩⟩
 have E_WalkError:∃T:ECls (za6 w.params) mg "WalkError",ca "WalkError"=.ref T.C:=⟨CL_WalkError,by rfl⟩
 have F1:=zam (st:=zdz) (show(za6 w.params).lookup 295=some (o295 w.params) by kernel_rfl) (show codeIn (za6 w.params) (.ref 294) "_law_cell_at"=true by kernel_rfl) (by kernel_rfl)
 let T1:Tx (za6 w.params) mg "_law_cell_at" zdz ["_law_script","_law_k"]:=⟨_,_,F1,mg_of X G (show nsIn (za6 w.params) mainGlobals "_law_cell_at"=some (some (.ref 295)) by kernel_rfl),.all (us2 fun _ _=>rfl)⟩
 have F2:=zam (st:=zi9) (show(za6 w.params).lookup 316=some (o316 w.params) by kernel_rfl) (show codeIn (za6 w.params) (.ref 315) "_law_size"=true by kernel_rfl) (by kernel_rfl)
 let T2:Tx (za6 w.params) mg "_law_size" zi9 ["_law_cell"]:=⟨_,_,F2,mg_of X G (show nsIn (za6 w.params) mainGlobals "_law_size"=some (some (.ref 316)) by kernel_rfl),.all (us1 fun _=>rfl)⟩
 have F3:=zam (st:=zdy) (show(za6 w.params).lookup 309=some (o309 w.params) by kernel_rfl) (show codeIn (za6 w.params) (.ref 308) "_law_divisor"=true by kernel_rfl) (by kernel_rfl)
 let T3:Tx (za6 w.params) mg "_law_divisor" zdy ["_law_one","_law_other"]:=⟨_,_,F3,mg_of X G (show nsIn (za6 w.params) mainGlobals "_law_divisor"=some (some (.ref 309)) by kernel_rfl),.all (us2 fun _ _=>rfl)⟩
 have F4:=zam (st:=zgc) (show(za6 w.params).lookup 302=some (o302 w.params) by kernel_rfl) (show codeIn (za6 w.params) (.ref 301) "_law_names"=true by kernel_rfl) (by kernel_rfl)
 let T4:Tx (za6 w.params) mg "_law_names" zgc ["_law_cell","_law_many"]:=⟨_,_,F4,mg_of X G (show nsIn (za6 w.params) mainGlobals "_law_names"=some (some (.ref 302)) by kernel_rfl),.all (us2 fun _ _=>rfl)⟩
 have F5:=zam (st:=zd2) (show(za6 w.params).lookup 202=some (o202 w.params) by kernel_rfl) (show codeIn (za6 w.params) (.ref 201) "check_text"=true by kernel_rfl) (by kernel_rfl)
 let T5:Tx (za6 w.params) mg "check_text" zd2 ["thing"]:=⟨_,_,F5,mg_of X G (show nsIn (za6 w.params) mainGlobals "check_text"=some (some (.ref 202)) by kernel_rfl),.all (us1 fun _=>rfl)⟩
 have F6:=zam (st:=zbe) (show(za6 w.params).lookup 207=some (o207 w.params) by kernel_rfl) (show codeIn (za6 w.params) (.ref 206) "is_number_text"=true by kernel_rfl) (by kernel_rfl)
 let T6:Tx (za6 w.params) mg "is_number_text" zbe ["text"]:=⟨_,_,F6,mg_of X G (show nsIn (za6 w.params) mainGlobals "is_number_text"=some (some (.ref 207)) by kernel_rfl),.all (us1 fun _=>rfl)⟩
 have F7:=zam (st:=zce) (show(za6 w.params).lookup 214=some (o214 w.params) by kernel_rfl) (show codeIn (za6 w.params) (.ref 213) "read_number"=true by kernel_rfl) (by kernel_rfl)
 let T7:Tx (za6 w.params) mg "read_number" zce ["text"]:=⟨_,_,F7,mg_of X G (show nsIn (za6 w.params) mainGlobals "read_number"=some (some (.ref 214)) by kernel_rfl),.all (us1 fun _=>rfl)⟩
 have F8:=zam (st:=zb9) (show(za6 w.params).lookup 53=some (o53 w.params) by kernel_rfl) (show codeIn (za6 w.params) (.ref 52) "greatest_divisor"=true by kernel_rfl) (by kernel_rfl)
 let T8:Tx (za6 w.params) mg "greatest_divisor" zb9 ["one","other"]:=⟨_,_,F8,mg_of X G (show nsIn (za6 w.params) mainGlobals "greatest_divisor"=some (some (.ref 53)) by kernel_rfl),.all (us2 fun _ _=>rfl)⟩
 have F9:=zam (st:=zbp) (show(za6 w.params).lookup 235=some (o235 w.params) by kernel_rfl) (show codeIn (za6 w.params) (.ref 234) "read_fraction"=true by kernel_rfl) (by kernel_rfl)
 let T9:Tx (za6 w.params) mg "read_fraction" zbp ["text"]:=⟨_,_,F9,mg_of X G (show nsIn (za6 w.params) mainGlobals "read_fraction"=some (some (.ref 235)) by kernel_rfl),.all (us1 fun _=>rfl)⟩
 have F10:=zam (st:=zcd) (show(za6 w.params).lookup 221=some (o221 w.params) by kernel_rfl) (show codeIn (za6 w.params) (.ref 220) "show_number"=true by kernel_rfl) (by kernel_rfl)
 let T10:Tx (za6 w.params) mg "show_number" zcd ["number"]:=⟨_,_,F10,mg_of X G (show nsIn (za6 w.params) mainGlobals "show_number"=some (some (.ref 221)) by kernel_rfl),.all (us1 fun _=>rfl)⟩
 have F11:=zam (st:=zbo) (show(za6 w.params).lookup 228=some (o228 w.params) by kernel_rfl) (show codeIn (za6 w.params) (.ref 227) "show_fraction"=true by kernel_rfl) (by kernel_rfl)
 let T11:Tx (za6 w.params) mg "show_fraction" zbo ["value"]:=⟨_,_,F11,mg_of X G (show nsIn (za6 w.params) mainGlobals "show_fraction"=some (some (.ref 228)) by kernel_rfl),.all (us1 fun _=>rfl)⟩
 have F12:=zam (st:=zgb) (show(za6 w.params).lookup 323=some (o323 w.params) by kernel_rfl) (show codeIn (za6 w.params) (.ref 322) "_law_steps"=true by kernel_rfl) (by kernel_rfl)
 let T12:Tx (za6 w.params) mg "_law_steps" zgb ["_law_cells"]:=⟨_,_,F12,mg_of X G (show nsIn (za6 w.params) mainGlobals "_law_steps"=some (some (.ref 323)) by kernel_rfl),.all (us1 fun _=>rfl)⟩
 have F13:=zam (st:=zcg) (show(za6 w.params).lookup 330=some (o330 w.params) by kernel_rfl) (show codeIn (za6 w.params) (.ref 329) "_law_steps_text"=true by kernel_rfl) (by kernel_rfl)
 let T13:Tx (za6 w.params) mg "_law_steps_text" zcg ["_law_run"]:=⟨_,_,F13,mg_of X G (show nsIn (za6 w.params) mainGlobals "_law_steps_text"=some (some (.ref 330)) by kernel_rfl),.all (us1 fun _=>rfl)⟩
 have F14:=zam (st:=zdh) (show(za6 w.params).lookup 262=some (o262 w.params) by kernel_rfl) (show codeIn (za6 w.params) (.ref 261) "show_door"=true by kernel_rfl) (by kernel_rfl)
 let T14:Tx (za6 w.params) mg "show_door" zdh ["door"]:=⟨_,_,F14,mg_of X G (show nsIn (za6 w.params) mainGlobals "show_door"=some (some (.ref 262)) by kernel_rfl),.all (us1 fun _=>rfl)⟩
 have F15:=zam (st:=zdv) (show(za6 w.params).lookup 255=some (o255 w.params) by kernel_rfl) (show codeIn (za6 w.params) (.ref 254) "show_run"=true by kernel_rfl) (by kernel_rfl)
 let T15:Tx (za6 w.params) mg "show_run" zdv ["run"]:=⟨_,_,F15,mg_of X G (show nsIn (za6 w.params) mainGlobals "show_run"=some (some (.ref 255)) by kernel_rfl),.all (us1 fun _=>rfl)⟩
 have F16:=zam (st:=zdi) (show(za6 w.params).lookup 274=some (o274 w.params) by kernel_rfl) (show codeIn (za6 w.params) (.ref 273) "read_step"=true by kernel_rfl) (by kernel_rfl)
 let T16:Tx (za6 w.params) mg "read_step" zdi ["text"]:=⟨_,_,F16,mg_of X G (show nsIn (za6 w.params) mainGlobals "read_step"=some (some (.ref 274)) by kernel_rfl),.all (us1 fun _=>rfl)⟩
 have F17:=zam (st:=zdw) (show(za6 w.params).lookup 267=some (o267 w.params) by kernel_rfl) (show codeIn (za6 w.params) (.ref 266) "read_run"=true by kernel_rfl) (by kernel_rfl)
 let T17:Tx (za6 w.params) mg "read_run" zdw ["text"]:=⟨_,_,F17,mg_of X G (show nsIn (za6 w.params) mainGlobals "read_run"=some (some (.ref 267)) by kernel_rfl),.all (us1 fun _=>rfl)⟩
 have F18:=zam (st:=zcy) (show(za6 w.params).lookup 240=some (o240 w.params) by kernel_rfl) (show codeIn (za6 w.params) (.ref 239) "show_looks"=true by kernel_rfl) (by kernel_rfl)
 let T18:Tx (za6 w.params) mg "show_looks" zcy ["guard"]:=⟨_,_,F18,mg_of X G (show nsIn (za6 w.params) mainGlobals "show_looks"=some (some (.ref 240)) by kernel_rfl),.all (us1 fun _=>rfl)⟩
 have F19:=zam (st:=zdj) (show(za6 w.params).lookup 245=some (o245 w.params) by kernel_rfl) (show codeIn (za6 w.params) (.ref 244) "read_look"=true by kernel_rfl) (by kernel_rfl)
 let T19:Tx (za6 w.params) mg "read_look" zdj ["text"]:=⟨_,_,F19,mg_of X G (show nsIn (za6 w.params) mainGlobals "read_look"=some (some (.ref 245)) by kernel_rfl),.all (us1 fun _=>rfl)⟩
 have F20:=zam (st:=zd0) (show(za6 w.params).lookup 250=some (o250 w.params) by kernel_rfl) (show codeIn (za6 w.params) (.ref 249) "read_looks"=true by kernel_rfl) (by kernel_rfl)
 let T20:Tx (za6 w.params) mg "read_looks" zd0 ["words"]:=⟨_,_,F20,mg_of X G (show nsIn (za6 w.params) mainGlobals "read_looks"=some (some (.ref 250)) by kernel_rfl),.all (us1 fun _=>rfl)⟩
 have F21:=zam (st:=zdx) (show(za6 w.params).lookup 60=some (o60 w.params) by kernel_rfl) (show codeIn (za6 w.params) (.ref 59) "own_copy"=true by kernel_rfl) (by kernel_rfl)
 let T21:Tx (za6 w.params) mg "own_copy" zdx ["thing"]:=⟨_,_,F21,mg_of X G (show nsIn (za6 w.params) mainGlobals "own_copy"=some (some (.ref 60)) by kernel_rfl),.all (us1 fun _=>rfl)⟩
 have F22:=zam (st:=zdm) (show(za6 w.params).lookup 88=some (o88 w.params) by kernel_rfl) (show codeIn (za6 w.params) (.ref 87) "Never.__init__"=true by kernel_rfl) (by kernel_rfl)
 have F23:=zam (st:=zcf) (show(za6 w.params).lookup 128=some (o128 w.params) by kernel_rfl) (show codeIn (za6 w.params) (.ref 127) "NoSooner.__init__"=true by kernel_rfl) (by kernel_rfl)
 have F24:=zam (st:=zdc) (show(za6 w.params).lookup 168=some (o168 w.params) by kernel_rfl) (show codeIn (za6 w.params) (.ref 167) "Within.__init__"=true by kernel_rfl) (by kernel_rfl)
 have F25:=zam (st:=zcz) (show(za6 w.params).lookup 281=some (o281 w.params) by kernel_rfl) (show codeIn (za6 w.params) (.ref 280) "show_claim"=true by kernel_rfl) (by kernel_rfl)
 let T25:Tx (za6 w.params) mg "show_claim" zcz ["claim"]:=⟨_,_,F25,mg_of X G (show nsIn (za6 w.params) mainGlobals "show_claim"=some (some (.ref 281)) by kernel_rfl),.all (us1 fun _=>rfl)⟩
 have F26:=zam (st:=zch) (show(za6 w.params).lookup 337=some (o337 w.params) by kernel_rfl) (show codeIn (za6 w.params) (.ref 336) "_law_same_claim"=true by kernel_rfl) (by kernel_rfl)
 let T26:Tx (za6 w.params) mg "_law_same_claim" zch ["_law_found","_law_claim","_law_room","_law_looks","_law_number"]:=⟨_,_,F26,mg_of X G (show nsIn (za6 w.params) mainGlobals "_law_same_claim"=some (some (.ref 337)) by kernel_rfl),.all (us5 fun _ _ _ _ _=>rfl)⟩
 have F27:=zam (st:=zd1) (show(za6 w.params).lookup 288=some (o288 w.params) by kernel_rfl) (show codeIn (za6 w.params) (.ref 287) "read_claim"=true by kernel_rfl) (by kernel_rfl)
 let T27:Tx (za6 w.params) mg "read_claim" zd1 ["text"]:=⟨_,_,F27,mg_of X G (show nsIn (za6 w.params) mainGlobals "read_claim"=some (some (.ref 288)) by kernel_rfl),.all (us1 fun _=>rfl)⟩
 have F28:=zam (st:=zew) (show(za6 w.params).lookup 342=some (o342 w.params) by kernel_rfl) (show codeIn (za6 w.params) (.ref 341) "_law_claims"=true by kernel_rfl) (by kernel_rfl)
 let T28:Tx (za6 w.params) mg "_law_claims" zew ["_law_script","_law_names_here"]:=⟨_,_,F28,mg_of X G (show nsIn (za6 w.params) mainGlobals "_law_claims"=some (some (.ref 342)) by kernel_rfl),.all (us2 fun _ _=>rfl)⟩
 have F29:=zam (st:=s_law) (show(za6 w.params).lookup 349=some (o349 w.params) by kernel_rfl) (show codeIn (za6 w.params) (.ref 348) "law"=true by kernel_rfl) (by kernel_rfl)
 let T29:Tx (za6 w.params) mg "law" s_law ["_law_script"]:=⟨_,_,F29,mg_of X G (show nsIn (za6 w.params) mainGlobals "law"=some (some (.ref 349)) by kernel_rfl),.all (us1 fun _=>rfl)⟩
 refine⟨T29.fd,fun s v=>.of_eq rfl,fun base _ _=>?_⟩
 have K1:FnOk pw w (za6 w.params) mg base (CX1 pw w) 1 T1.f T1.fd ["_law_script","_law_k"] (spP (za6 w.params) ca zbx):=zd6 (n:=200) (Γ:=zj0) T1.F sc_Lcell_at rfl rfl za1 rfl (all_cons b_len za1) zan za1 zal rfl ⟨za2,za1,za1,zba,(fun _ _ h=>by cases h),za2,za2,za2,za2,(fun _ _ _ h=>by cases h)⟩ ck_Lcell_at
 let D1:DefX pw w (za6 w.params) mg base 1 "_law_cell_at" ["_law_script","_law_k"] (spP (za6 w.params) ca zbx):=⟨T1.f,T1.fd,K1,T1.m,T1.F.kp,T1.b⟩;have K2:FnOk pw w (za6 w.params) mg base (CX1 pw w) 1 T2.f T2.fd ["_law_cell"] (spP (za6 w.params) ca zcq):=zd6 (n:=200) (Γ:=gm_Lsize) T2.F sc_Lsize rfl rfl za1 rfl za1 zan za1 zal rfl ⟨za2,za1,za1,zba,(fun _ _ h=>by cases h),za2,za2,za2,za2,(fun _ _ _ h=>by cases h)⟩ ck_Lsize
 let D2:DefX pw w (za6 w.params) mg base 1 "_law_size" ["_law_cell"] (spP (za6 w.params) ca zcq):=⟨T2.f,T2.fd,K2,T2.m,T2.F.kp,T2.b⟩;have K3:FnOk pw w (za6 w.params) mg base (CX1 pw w) 1 T3.f T3.fd ["_law_one","_law_other"] (spP (za6 w.params) ca zde):=zd6 (n:=200) (Γ:=ziz) T3.F sc_Ldivisor rfl rfl za1 rfl (all_cons b_abs za1) zan za1 zal rfl ⟨za2,za1,za1,zba,(fun _ _ h=>by cases h),za2,za2,za2,za2,(fun _ _ _ h=>by cases h)⟩ ck_Ldivisor
 let D3:DefX pw w (za6 w.params) mg base 1 "_law_divisor" ["_law_one","_law_other"] (spP (za6 w.params) ca zde):=⟨T3.f,T3.fd,K3,T3.m,T3.F.kp,T3.b⟩;have K4:FnOk pw w (za6 w.params) mg base (CX1 pw w) 1 T4.f T4.fd ["_law_cell","_law_many"] (spP (za6 w.params) ca zen):=zd6 (n:=200) (Γ:=gm_Lnames) T4.F sc_Lnames rfl rfl za1 rfl (all_cons b_range (all_cons b_int za1)) zan za1 zal rfl ⟨za2,za1,za1,zba,(fun _ _ h=>by cases h),za2,za2,za2,za2,(fun _ _ _ h=>by cases h)⟩ ck_Lnames
 let D4:DefX pw w (za6 w.params) mg base 1 "_law_names" ["_law_cell","_law_many"] (spP (za6 w.params) ca zen):=⟨T4.f,T4.fd,K4,T4.m,T4.F.kp,T4.b⟩;have K5:FnOk pw w (za6 w.params) mg base (CX1 pw w) 1 T5.f T5.fd ["thing"] (spP (za6 w.params) ca zbd):=zd6 (n:=200) (Γ:=zgm) T5.F sc_check_text rfl rfl za1 rfl (all_cons b_isinstance (all_cons b_str za1)) zan (all_cons E_NoText za1) zal rfl ⟨za2,za1,za1,zba,(fun _ _ h=>by cases h),za2,za2,za2,za2,(fun _ _ _ h=>by cases h)⟩ ck_check_text
 let D5:DefX pw w (za6 w.params) mg base 1 "check_text" ["thing"] (spP (za6 w.params) ca zbd):=⟨T5.f,T5.fd,K5,T5.m,T5.F.kp,T5.b⟩;have K6:FnOk pw w (za6 w.params) mg base (CX1 pw w) 1 T6.f T6.fd ["text"] (spP (za6 w.params) ca zas):=zd6 (n:=200) (Γ:=ze1) T6.F zgr rfl rfl za1 rfl (all_cons b_len (all_cons b_all za1)) zan za1 zal rfl ⟨(zai ⟨(.int (60) 430),(.int 60),mg_of X G (show nsIn (za6 w.params) mainGlobals "MOST_FIGURES"=some (some (.int (60) 430)) by kernel_rfl),⟨_,rfl⟩,fun F=>.int _⟩ (zai ⟨(.str (Str.ofString "0123456789") 428),(.str "0123456789"),mg_of X G (show nsIn (za6 w.params) mainGlobals "FIGURES"=some (some (.str (Str.ofString "0123456789") 428)) by kernel_rfl),⟨_,rfl⟩,fun F=>.str _⟩ za2)),za1,za1,zba,(fun _ _ h=>by cases h),za2,za2,za2,za2,(fun _ _ _ h=>by cases h)⟩ zh6
 let D6:DefX pw w (za6 w.params) mg base 1 "is_number_text" ["text"] (spP (za6 w.params) ca zas):=⟨T6.f,T6.fd,K6,T6.m,T6.F.kp,T6.b⟩;have K7:FnOk pw w (za6 w.params) mg base (CX1 pw w) 2 T7.f T7.fd ["text"] (spP (za6 w.params) ca zab):=zd6 (n:=200) (Γ:=zft) T7.F zjd rfl rfl za1 rfl (all_cons b_int za1) (zaa (by decide) D6 zan) (all_cons E_NoText za1) zal rfl ⟨za2,za1,za1,zba,(fun _ _ h=>by cases h),za2,za2,za2,za2,(fun _ _ _ h=>by cases h)⟩ zjt
 let D7:DefX pw w (za6 w.params) mg base 2 "read_number" ["text"] (spP (za6 w.params) ca zab):=⟨T7.f,T7.fd,K7,T7.m,T7.F.kp,T7.b⟩;have K8:FnOk pw w (za6 w.params) mg base (CX1 pw w) 1 T8.f T8.fd ["one","other"] (spP (za6 w.params) ca zaz):=zd6 (n:=200) (Γ:=zdl) T8.F zg1 rfl rfl za1 rfl (all_cons b_abs za1) zan za1 zal rfl ⟨za2,za1,za1,zba,(fun _ _ h=>by cases h),za2,za2,za2,za2,(fun _ _ _ h=>by cases h)⟩ zg8
 let D8:DefX pw w (za6 w.params) mg base 1 "greatest_divisor" ["one","other"] (spP (za6 w.params) ca zaz):=⟨T8.f,T8.fd,K8,T8.m,T8.F.kp,T8.b⟩;have K9:FnOk pw w (za6 w.params) mg base (CX1 pw w) 3 T9.f T9.fd ["text"] (spP (za6 w.params) ca zao):=zd6 (n:=200) (Γ:=zep) T9.F zhi rfl rfl za1 rfl (all_cons b_len za1) (zaa (by decide) D5 (zaa (by decide) D7 (zaa (by decide) D8 zan))) (all_cons E_NoText za1) zal rfl ⟨za2,za1,za1,zba,(fun _ _ h=>by cases h),za2,za2,za2,za2,(fun _ _ _ h=>by cases h)⟩ zhs
 let D9:DefX pw w (za6 w.params) mg base 3 "read_fraction" ["text"] (spP (za6 w.params) ca zao):=⟨T9.f,T9.fd,K9,T9.m,T9.F.kp,T9.b⟩;have K10:FnOk pw w (za6 w.params) mg base (CX1 pw w) 1 T10.f T10.fd ["number"] (spP (za6 w.params) ca zaj):=zd6 (n:=200) (Γ:=zfs) T10.F zjc rfl rfl za1 rfl (all_cons b_str (all_cons b_reversed za1)) zan za1 zal rfl ⟨za2,za1,za1,zba,(fun _ _ h=>by cases h),za2,za2,za2,za2,(fun _ _ _ h=>by cases h)⟩ zjs
 let D10:DefX pw w (za6 w.params) mg base 1 "show_number" ["number"] (spP (za6 w.params) ca zaj):=⟨T10.f,T10.fd,K10,T10.m,T10.F.kp,T10.b⟩;have K11:FnOk pw w (za6 w.params) mg base (CX1 pw w) 2 T11.f T11.fd ["value"] (spP (za6 w.params) ca zb6):=zd6 (n:=200) (Γ:=zeo) T11.F zhh rfl rfl za1 rfl za1 (zaa (by decide) D10 zan) za1 zal rfl ⟨za2,za1,za1,zba,(fun _ _ h=>by cases h),za2,za2,za2,za2,(fun _ _ _ h=>by cases h)⟩ zhr
 let D11:DefX pw w (za6 w.params) mg base 2 "show_fraction" ["value"] (spP (za6 w.params) ca zb6):=⟨T11.f,T11.fd,K11,T11.m,T11.F.kp,T11.b⟩;have K12:FnOk pw w (za6 w.params) mg base (CX1 pw w) 2 T12.f T12.fd ["_law_cells"] (spP (za6 w.params) ca zfl):=zd6 (n:=200) (Γ:=gm_Lsteps) T12.F sc_Lsteps rfl rfl za1 rfl za1 (zaa (by decide) D2 (zaa (by decide) D3 zan)) za1 zal rfl ⟨za2,za1,za1,zba,(fun _ _ h=>by cases h),za2,za2,za2,za2,(fun _ _ _ h=>by cases h)⟩ ck_Lsteps
 let D12:DefX pw w (za6 w.params) mg base 2 "_law_steps" ["_law_cells"] (spP (za6 w.params) ca zfl):=⟨T12.f,T12.fd,K12,T12.m,T12.F.kp,T12.b⟩;have K13:FnOk pw w (za6 w.params) mg base (CX1 pw w) 1 T13.f T13.fd ["_law_run"] (spP (za6 w.params) ca zbw):=zd6 (n:=200) (Γ:=zfv) T13.F zjf rfl rfl za1 rfl (all_cons b_str za1) zan za1 zal rfl ⟨za2,za1,za1,zba,(fun _ _ h=>by cases h),za2,za2,za2,za2,(fun _ _ _ h=>by cases h)⟩ zjv
 let D13:DefX pw w (za6 w.params) mg base 1 "_law_steps_text" ["_law_run"] (spP (za6 w.params) ca zbw):=⟨T13.f,T13.fd,K13,T13.m,T13.F.kp,T13.b⟩;have K14:FnOk pw w (za6 w.params) mg base (CX1 pw w) 2 T14.f T14.fd ["door"] (spP (za6 w.params) ca zc1):=zd6 (n:=200) (Γ:=zhc) T14.F sc_show_door rfl rfl za1 rfl za1 (zaa (by decide) D10 zan) za1 zal rfl ⟨za2,za1,za1,zba,(fun _ _ h=>by cases h),za2,za2,za2,za2,(fun _ _ _ h=>by cases h)⟩ ck_show_door
 let D14:DefX pw w (za6 w.params) mg base 2 "show_door" ["door"] (spP (za6 w.params) ca zc1):=⟨T14.f,T14.fd,K14,T14.m,T14.F.kp,T14.b⟩;have K15:FnOk pw w (za6 w.params) mg base (CX1 pw w) 3 T15.f T15.fd ["run"] (spP (za6 w.params) ca zc8):=zd6 (n:=200) (Γ:=ziw) T15.F sc_show_run rfl rfl za1 rfl za1 (zaa (by decide) D11 (zaa (by decide) D14 zan)) za1 zal rfl ⟨za2,za1,za1,zba,(fun _ _ h=>by cases h),za2,za2,za2,za2,(fun _ _ _ h=>by cases h)⟩ ck_show_run
 let D15:DefX pw w (za6 w.params) mg base 3 "show_run" ["run"] (spP (za6 w.params) ca zc8):=⟨T15.f,T15.fd,K15,T15.m,T15.F.kp,T15.b⟩;have K16:FnOk pw w (za6 w.params) mg base (CX1 pw w) 4 T16.f T16.fd ["text"] (spP (za6 w.params) ca zc2):=zd6 (n:=200) (Γ:=zhd) T16.F sc_read_step rfl rfl za1 rfl (all_cons b_len za1) (zaa (by decide) D7 (zaa (by decide) D9 zan)) (all_cons E_NoText za1) zal rfl ⟨za2,za1,za1,zba,(fun _ _ h=>by cases h),za2,za2,za2,za2,(fun _ _ _ h=>by cases h)⟩ ck_read_step
 let D16:DefX pw w (za6 w.params) mg base 4 "read_step" ["text"] (spP (za6 w.params) ca zc2):=⟨T16.f,T16.fd,K16,T16.m,T16.F.kp,T16.b⟩;have K17:FnOk pw w (za6 w.params) mg base (CX1 pw w) 5 T17.f T17.fd ["text"] (spP (za6 w.params) ca zbi):=zd6 (n:=200) (Γ:=zix) T17.F sc_read_run rfl rfl za1 rfl za1 (zaa (by decide) D5 (zaa (by decide) D16 zan)) za1 zal rfl ⟨za2,za1,za1,zba,(fun _ _ h=>by cases h),za2,za2,za2,za2,(fun _ _ _ h=>by cases h)⟩ ck_read_run
 let D17:DefX pw w (za6 w.params) mg base 5 "read_run" ["text"] (spP (za6 w.params) ca zbi):=⟨T17.f,T17.fd,K17,T17.m,T17.F.kp,T17.b⟩;have K18:FnOk pw w (za6 w.params) mg base (CX1 pw w) 2 T18.f T18.fd ["guard"] (spP (za6 w.params) ca zbr):=zd6 (n:=200) (Γ:=zgi) T18.F sc_show_looks rfl rfl za1 rfl za1 (zaa (by decide) D10 zan) za1 zal rfl ⟨za2,za1,za1,zba,(fun _ _ h=>by cases h),za2,za2,za2,za2,(fun _ _ _ h=>by cases h)⟩ ck_show_looks
 let D18:DefX pw w (za6 w.params) mg base 2 "show_looks" ["guard"] (spP (za6 w.params) ca zbr):=⟨T18.f,T18.fd,K18,T18.m,T18.F.kp,T18.b⟩;have K19:FnOk pw w (za6 w.params) mg base (CX1 pw w) 3 T19.f T19.fd ["text"] (spP (za6 w.params) ca zc3):=zd6 (n:=200) (Γ:=zhe) T19.F sc_read_look rfl rfl za1 rfl (all_cons b_enumerate (all_cons b_len za1)) (zaa (by decide) D7 zan) (all_cons E_NoText za1) zal rfl ⟨(zai ⟨_,.ref 195,mg_of X G (show nsIn (za6 w.params) mainGlobals "LOOK_SIGNS"=some (some (.ref 195)) by kernel_rfl),rfl,fun F=>Rps.of_node (k:=.rt) (xs:=[.str "<",.str ">",.str "="]) (.inr ⟨o195 w.params,_,_,by kernel_rfl,rfl,rfl,by decide,(.cons ⟨_,rfl⟩ (.cons ⟨_,rfl⟩ (.cons ⟨_,rfl⟩ .nil)))⟩) (rp_strs ["<",">","="])⟩ za2),za1,za1,zba,(fun _ _ h=>by cases h),za2,za2,za2,za2,(fun _ _ _ h=>by cases h)⟩ ck_read_look
 let D19:DefX pw w (za6 w.params) mg base 3 "read_look" ["text"] (spP (za6 w.params) ca zc3):=⟨T19.f,T19.fd,K19,T19.m,T19.F.kp,T19.b⟩;have K20:FnOk pw w (za6 w.params) mg base (CX1 pw w) 4 T20.f T20.fd ["words"] (spP (za6 w.params) ca zbs):=zd6 (n:=200) (Γ:=zgk) T20.F sc_read_looks rfl rfl za1 rfl za1 (zaa (by decide) D19 zan) za1 zal rfl ⟨za2,za1,za1,zba,(fun _ _ h=>by cases h),za2,za2,za2,za2,(fun _ _ _ h=>by cases h)⟩ ck_read_looks
 let D20:DefX pw w (za6 w.params) mg base 4 "read_looks" ["words"] (spP (za6 w.params) ca zbs):=⟨T20.f,T20.fd,K20,T20.m,T20.F.kp,T20.b⟩;have K21:FnOk pw w (za6 w.params) mg base (CX1 pw w) 1 T21.f T21.fd ["thing"] (spP (za6 w.params) ca zct):=zd6 (n:=200) (Γ:=ziy) T21.F sc_own_copy rfl rfl za1 rfl (all_cons b_isinstance (all_cons b_list za1)) zan za1 zal rfl ⟨za2,za1,za1,zba,(fun _ _ h=>by cases h),za2,za2,za2,za2,(fun _ _ _ h=>by cases h)⟩ ck_own_copy
 let D21:DefX pw w (za6 w.params) mg base 1 "own_copy" ["thing"] (spP (za6 w.params) ca zct):=⟨T21.f,T21.fd,K21,T21.m,T21.F.kp,T21.b⟩;have K22:FnOk pw w (za6 w.params) mg base (CX1 pw w) 2 _ _ ["self","room","guard"] (spN (za6 w.params) ca zb7 zc9):=fn_okI (C:=zb7) (fs:=zbk) (n:=200) (Γ:=zgn) F22 sc_Never_init rfl rfl za1 rfl za1 (zaa (by decide) D21 zan) za1 zal rfl ⟨za2,za1,za1,zba,(fun C fs h=>by cases h;exact⟨⟨by kernel_rfl,by kernel_rfl,by kernel_rfl,by kernel_rfl⟩,(all_cons (by unfold zb1;kernel_rfl) (all_cons (by unfold zb1;kernel_rfl) za1))⟩),za2,za2,za2,za2,(fun _ _ _ h=>by cases h)⟩ ck_Never_init
 let D22:NewX pw w (za6 w.params) mg base "Never" zb7 2 ["self","room","guard"] (spN (za6 w.params) ca zb7 zc9):=⟨_,_,mg_of X G (show nsIn (za6 w.params) mainGlobals "Never"=some (some (.ref 112)) by kernel_rfl),⟨by kernel_rfl,by kernel_rfl,by kernel_rfl,by kernel_rfl⟩,K22⟩
 have E22:zfn (za6 w.params) D22.fd ["self","room","guard"] []:=.all (us3 fun _ _ _=>rfl)
 have K23:FnOk pw w (za6 w.params) mg base (CX1 pw w) 2 _ _ ["self","room","guard","number"] (spN (za6 w.params) ca za9 zbb):=fn_okI (C:=za9) (fs:=zac) (n:=200) (Γ:=zeq) F23 zhj rfl rfl za1 rfl za1 (zaa (by decide) D21 zan) za1 zal rfl ⟨za2,za1,za1,zba,(fun C fs h=>by cases h;exact⟨⟨by kernel_rfl,by kernel_rfl,by kernel_rfl,by kernel_rfl⟩,(all_cons (by unfold zb1;kernel_rfl) (all_cons (by unfold zb1;kernel_rfl) (all_cons (by unfold zb1;kernel_rfl) za1)))⟩),za2,za2,za2,za2,(fun _ _ _ h=>by cases h)⟩ zht
 let D23:NewX pw w (za6 w.params) mg base "NoSooner" za9 2 ["self","room","guard","number"] (spN (za6 w.params) ca za9 zbb):=⟨_,_,mg_of X G (show nsIn (za6 w.params) mainGlobals "NoSooner"=some (some (.ref 152)) by kernel_rfl),⟨by kernel_rfl,by kernel_rfl,by kernel_rfl,by kernel_rfl⟩,K23⟩
 have E23:zfn (za6 w.params) D23.fd ["self","room","guard","number"] []:=.all (us4 fun _ _ _ _=>rfl)
 have K24:FnOk pw w (za6 w.params) mg base (CX1 pw w) 1 _ _ ["self","room","number"] (spN (za6 w.params) ca zak zbv):=fn_okI (C:=zak) (fs:=zb4) (n:=200) (Γ:=zfu) F24 zje rfl rfl za1 rfl za1 zan za1 zal rfl ⟨za2,za1,za1,zba,(fun C fs h=>by cases h;exact⟨⟨by kernel_rfl,by kernel_rfl,by kernel_rfl,by kernel_rfl⟩,(all_cons (by unfold zb1;kernel_rfl) (all_cons (by unfold zb1;kernel_rfl) za1))⟩),za2,za2,za2,za2,(fun _ _ _ h=>by cases h)⟩ zju
 let D24:NewX pw w (za6 w.params) mg base "Within" zak 1 ["self","room","number"] (spN (za6 w.params) ca zak zbv):=⟨_,_,mg_of X G (show nsIn (za6 w.params) mainGlobals "Within"=some (some (.ref 192)) by kernel_rfl),⟨by kernel_rfl,by kernel_rfl,by kernel_rfl,by kernel_rfl⟩,K24⟩
 have E24:zfn (za6 w.params) D24.fd ["self","room","number"] []:=.all (us3 fun _ _ _=>rfl)
 have K25:FnOk pw w (za6 w.params) mg base (CX1 pw w) 3 T25.f T25.fd ["claim"] (spP (za6 w.params) ca zaw):=zd6 (n:=200) (Γ:=zgj) T25.F sc_show_claim rfl rfl za1 rfl (all_cons b_isinstance za1) (zaa (by decide) D18 (zaa (by decide) D10 zan)) za1 zal rfl ⟨za2,(all_cons ⟨⟨by kernel_rfl,by kernel_rfl,by kernel_rfl,by kernel_rfl⟩,(all_cons (by unfold zb1;kernel_rfl) (all_cons (by unfold zb1;kernel_rfl) za1))⟩ (all_cons ⟨⟨by kernel_rfl,by kernel_rfl,by kernel_rfl,by kernel_rfl⟩,(all_cons (by unfold zb1;kernel_rfl) (all_cons (by unfold zb1;kernel_rfl) (all_cons (by unfold zb1;kernel_rfl) za1)))⟩ (all_cons ⟨⟨by kernel_rfl,by kernel_rfl,by kernel_rfl,by kernel_rfl⟩,(all_cons (by unfold zb1;kernel_rfl) (all_cons (by unfold zb1;kernel_rfl) za1))⟩ za1))),za1,zba,(fun _ _ h=>by cases h),za2,za2,za2,(zai ⟨112,mg_of X G (show nsIn (za6 w.params) mainGlobals "Never"=some (some (.ref 112)) by kernel_rfl),(zai ⟨⟨⟨by kernel_rfl,by kernel_rfl,by kernel_rfl,by kernel_rfl⟩,by kernel_rfl,by kernel_rfl,by kernel_rfl,by kernel_rfl⟩,by kernel_rfl⟩ (zai ⟨⟨⟨by kernel_rfl,by kernel_rfl,by kernel_rfl,by kernel_rfl⟩,by kernel_rfl,by kernel_rfl,by kernel_rfl,by kernel_rfl⟩,by kernel_rfl⟩ (zai ⟨⟨⟨by kernel_rfl,by kernel_rfl,by kernel_rfl,by kernel_rfl⟩,by kernel_rfl,by kernel_rfl,by kernel_rfl,by kernel_rfl⟩,by kernel_rfl⟩ za2)))⟩ (zai ⟨152,mg_of X G (show nsIn (za6 w.params) mainGlobals "NoSooner"=some (some (.ref 152)) by kernel_rfl),(zai ⟨⟨⟨by kernel_rfl,by kernel_rfl,by kernel_rfl,by kernel_rfl⟩,by kernel_rfl,by kernel_rfl,by kernel_rfl,by kernel_rfl⟩,by kernel_rfl⟩ (zai ⟨⟨⟨by kernel_rfl,by kernel_rfl,by kernel_rfl,by kernel_rfl⟩,by kernel_rfl,by kernel_rfl,by kernel_rfl,by kernel_rfl⟩,by kernel_rfl⟩ (zai ⟨⟨⟨by kernel_rfl,by kernel_rfl,by kernel_rfl,by kernel_rfl⟩,by kernel_rfl,by kernel_rfl,by kernel_rfl,by kernel_rfl⟩,by kernel_rfl⟩ za2)))⟩ za2)),(fun _ _ _ h=>by cases h)⟩ ck_show_claim
 let D25:DefX pw w (za6 w.params) mg base 3 "show_claim" ["claim"] (spP (za6 w.params) ca zaw):=⟨T25.f,T25.fd,K25,T25.m,T25.F.kp,T25.b⟩;have K26:FnOk pw w (za6 w.params) mg base (CX1 pw w) 1 T26.f T26.fd ["_law_found","_law_claim","_law_room","_law_looks","_law_number"] (spP (za6 w.params) ca zap):=zd6 (n:=200) (Γ:=zfw) T26.F zjg rfl rfl za1 rfl (all_cons b_isinstance (all_cons b_bool za1)) zan za1 zal rfl ⟨za2,(all_cons ⟨⟨by kernel_rfl,by kernel_rfl,by kernel_rfl,by kernel_rfl⟩,(all_cons (by unfold zb1;kernel_rfl) (all_cons (by unfold zb1;kernel_rfl) za1))⟩ (all_cons ⟨⟨by kernel_rfl,by kernel_rfl,by kernel_rfl,by kernel_rfl⟩,(all_cons (by unfold zb1;kernel_rfl) (all_cons (by unfold zb1;kernel_rfl) (all_cons (by unfold zb1;kernel_rfl) za1)))⟩ (all_cons ⟨⟨by kernel_rfl,by kernel_rfl,by kernel_rfl,by kernel_rfl⟩,(all_cons (by unfold zb1;kernel_rfl) (all_cons (by unfold zb1;kernel_rfl) za1))⟩ za1))),za1,zba,(fun _ _ h=>by cases h),za2,za2,za2,(zai ⟨112,mg_of X G (show nsIn (za6 w.params) mainGlobals "Never"=some (some (.ref 112)) by kernel_rfl),(zai ⟨⟨⟨by kernel_rfl,by kernel_rfl,by kernel_rfl,by kernel_rfl⟩,by kernel_rfl,by kernel_rfl,by kernel_rfl,by kernel_rfl⟩,by kernel_rfl⟩ (zai ⟨⟨⟨by kernel_rfl,by kernel_rfl,by kernel_rfl,by kernel_rfl⟩,by kernel_rfl,by kernel_rfl,by kernel_rfl,by kernel_rfl⟩,by kernel_rfl⟩ (zai ⟨⟨⟨by kernel_rfl,by kernel_rfl,by kernel_rfl,by kernel_rfl⟩,by kernel_rfl,by kernel_rfl,by kernel_rfl,by kernel_rfl⟩,by kernel_rfl⟩ za2)))⟩ (zai ⟨152,mg_of X G (show nsIn (za6 w.params) mainGlobals "NoSooner"=some (some (.ref 152)) by kernel_rfl),(zai ⟨⟨⟨by kernel_rfl,by kernel_rfl,by kernel_rfl,by kernel_rfl⟩,by kernel_rfl,by kernel_rfl,by kernel_rfl,by kernel_rfl⟩,by kernel_rfl⟩ (zai ⟨⟨⟨by kernel_rfl,by kernel_rfl,by kernel_rfl,by kernel_rfl⟩,by kernel_rfl,by kernel_rfl,by kernel_rfl,by kernel_rfl⟩,by kernel_rfl⟩ (zai ⟨⟨⟨by kernel_rfl,by kernel_rfl,by kernel_rfl,by kernel_rfl⟩,by kernel_rfl,by kernel_rfl,by kernel_rfl,by kernel_rfl⟩,by kernel_rfl⟩ za2)))⟩ (zai ⟨192,mg_of X G (show nsIn (za6 w.params) mainGlobals "Within"=some (some (.ref 192)) by kernel_rfl),(zai ⟨⟨⟨by kernel_rfl,by kernel_rfl,by kernel_rfl,by kernel_rfl⟩,by kernel_rfl,by kernel_rfl,by kernel_rfl,by kernel_rfl⟩,by kernel_rfl⟩ (zai ⟨⟨⟨by kernel_rfl,by kernel_rfl,by kernel_rfl,by kernel_rfl⟩,by kernel_rfl,by kernel_rfl,by kernel_rfl,by kernel_rfl⟩,by kernel_rfl⟩ (zai ⟨⟨⟨by kernel_rfl,by kernel_rfl,by kernel_rfl,by kernel_rfl⟩,by kernel_rfl,by kernel_rfl,by kernel_rfl,by kernel_rfl⟩,by kernel_rfl⟩ za2)))⟩ (zai ⟨70,mg_of X G (show nsIn (za6 w.params) mainGlobals "Claim"=some (some (.ref 70)) by kernel_rfl),(zai ⟨⟨⟨by kernel_rfl,by kernel_rfl,by kernel_rfl,by kernel_rfl⟩,by kernel_rfl,by kernel_rfl,by kernel_rfl,by kernel_rfl⟩,by kernel_rfl⟩ (zai ⟨⟨⟨by kernel_rfl,by kernel_rfl,by kernel_rfl,by kernel_rfl⟩,by kernel_rfl,by kernel_rfl,by kernel_rfl,by kernel_rfl⟩,by kernel_rfl⟩ (zai ⟨⟨⟨by kernel_rfl,by kernel_rfl,by kernel_rfl,by kernel_rfl⟩,by kernel_rfl,by kernel_rfl,by kernel_rfl,by kernel_rfl⟩,by kernel_rfl⟩ za2)))⟩ za2)))),(fun _ _ _ h=>by cases h)⟩ zjw
 let D26:DefX pw w (za6 w.params) mg base 1 "_law_same_claim" ["_law_found","_law_claim","_law_room","_law_looks","_law_number"] (spP (za6 w.params) ca zap):=⟨T26.f,T26.fd,K26,T26.m,T26.F.kp,T26.b⟩;have K27:FnOk pw w (za6 w.params) mg base (CX1 pw w) 5 T27.f T27.fd ["text"] (spP (za6 w.params) ca zax):=zd6 (n:=200) (Γ:=zgl) T27.F sc_read_claim rfl rfl za1 rfl (all_cons b_len za1) (zaa (by decide) D5 (zaa (by decide) D20 (zaa (by decide) D7 zan))) (all_cons E_NoText za1) zal rfl ⟨za2,za1,za1,(zgv ⟨by decide,zb7,D22,(zai ⟨[],[],E22,.nil,fun _=>.nil⟩ za2)⟩ (zgv ⟨by decide,za9,D23,(zai ⟨[],[],E23,.nil,fun _=>.nil⟩ za2)⟩ (zgv ⟨by decide,zak,D24,(zai ⟨[],[],E24,.nil,fun _=>.nil⟩ za2)⟩ zba))),(fun _ _ h=>by cases h),za2,za2,za2,za2,(fun _ _ _ h=>by cases h)⟩ ck_read_claim
 let D27:DefX pw w (za6 w.params) mg base 5 "read_claim" ["text"] (spP (za6 w.params) ca zax):=⟨T27.f,T27.fd,K27,T27.m,T27.F.kp,T27.b⟩;have K28:FnOk pw w (za6 w.params) mg base (CX1 pw w) 6 T28.f T28.fd ["_law_script","_law_names_here"] (spP (za6 w.params) ca ze7):=zd6 (n:=200) (Γ:=zk7) T28.F sc_Lclaims rfl rfl za1 rfl (all_cons b_str (all_cons b_list za1)) (zaa (by decide) D1 (zaa (by decide) D2 (zaa (by decide) D25 (zaa (by decide) D26 (zaa (by decide) D27 zan))))) za1 zal rfl ⟨za2,za1,za1,(zgv ⟨by decide,zb7,D22,(zai ⟨[],[],E22,.nil,fun _=>.nil⟩ za2)⟩ (zgv ⟨by decide,za9,D23,(zai ⟨[],[],E23,.nil,fun _=>.nil⟩ za2)⟩ (zgv ⟨by decide,zak,D24,(zai ⟨[],[],E24,.nil,fun _=>.nil⟩ za2)⟩ zba))),(fun _ _ h=>by cases h),za2,za2,za2,za2,(fun _ _ _ h=>by cases h)⟩ ck_Lclaims
 let D28:DefX pw w (za6 w.params) mg base 6 "_law_claims" ["_law_script","_law_names_here"] (spP (za6 w.params) ca ze7):=⟨T28.f,T28.fd,K28,T28.m,T28.F.kp,T28.b⟩;have K29:FnOk pw w (za6 w.params) mg base (CX1 pw w) 7 T29.f T29.fd ["_law_script"] (spP (za6 w.params) ca R_law):=zd6 (n:=200) (Γ:=gm_law) T29.F sc_law rfl rfl za1 rfl (all_cons b_list (all_cons b_isinstance (all_cons b_str (all_cons b_tuple (all_cons b_bool za1))))) (zaa (by decide) D4 (zaa (by decide) D1 (zaa (by decide) D12 (zaa (by decide) D13 (zaa (by decide) D15 (zaa (by decide) D17 (zaa (by decide) D28 zan))))))) za1 zal rfl ⟨za2,za1,za1,zba,(fun _ _ h=>by cases h),za2,za2,za2,za2,(fun _ _ _ h=>by cases h)⟩ ck_law
 exact law_fn K29 fun ns h=>law_true ns h
theorem walk{l:PySem.W.OpenLaw}{q:Program}{loose:List Str}{XP:(Str->Option Value)->Heap->Prop}{YP:World->Heap->Prop}{d:DefRec}{K:Params->PySem.W.Frag}(hn:l.most=some 63)(hdf:d.params.defaults=[])
  (hY:∀(w:World) (h:Heap),YP w h->(K w.params).In h)
  (F : ∀ (w : World) (mg : Str -> Option Value) (fa : Addr) (h : Heap), (K w.params).In h -> h.Ns mainGlobals mg -> mg d.name = some (.ref fa) ->
   ∃fd:FuncData,(∀(s:Shared) (u:Value),BindsTo s fd ⟨[u],[]⟩ [("_law_script",u)])/\∀base:Heap,(K w.params).In base->base.Ns mainGlobals mg->FnOk l.prog w (K w.params) mg base CX0 7 fa fd ["_law_script"] (spLaw (K w.params))) :
  PySem.W.WalkO q loose XP YP l.row.toRowW d [] (fun f vs=>PySem.call f vs) :=
 L2.walk_of (n:=63) (k:=7) (x:="_law_script") (CX:=fun _=>CX0) (sp:=fun w=>spLaw (K w.params)) hn (by decide) hdf ⟨rfl,by decide,by decide⟩ hY F (fun _ _ a ns hl _ hS=>⟨a,ns,rfl,hS,hl,fun _=>rfl⟩) fun _ _ _ _ _ z=>z
end Zl
open PySem PySem.W PyProof.Rows
set_option maxRecDepth 100000 in
set_option maxHeartbeats 0 in
theorem PySem.Challenge.cw_zonewalk_k83_runs_and_claims_as_text_holds : PySem.Challenge.rw_zonewalk_k83_runs_and_claims_as_text.Holds := by
 refine holds_law Zl.said fun s=>?_
 refine holds_open (q:=Zl.vq) (loose:=Zl.loo) (Xt:=Hd.xt PySem.Challenge.rw_zonewalk_k83_runs_and_claims_as_text.row.toRowW Zl.vq) (XP:=XL Zl.vq []) (Yf:=Zl.hk.obs) (Ya:=Zl.hk.val) (YP:=Zl.hk.says) Zl.left Zl.hk.of Zl.hk.keeps (fun s e=>xl_of s (Bool.and_eq_true_iff.mp e).1) XL.keeps (by rfl) (by rfl) (by rfl) (fun s e=>recFacts_of (Bool.and_eq_true_iff.mp e).2) (by rfl) s (by decide +kernel) ⟨rfl,rfl,rfl,rfl,rfl,by decide +kernel⟩ ?hw ?hc
 case hw=>w_witness2
 case hc=>exact Zl.walk (l:=PySem.Challenge.rw_zonewalk_k83_runs_and_claims_as_text) rfl rfl (fun w h Y=>kIn_of Y) fun w mg fa h X G e=>Zl.all_mk X G e
