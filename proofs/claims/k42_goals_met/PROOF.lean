import PyProof.Rows.All
import Wide.All
import OpenK.AllK
import Wide.FinOn
import Lean
import PyProof.EqAt
import PyProof.EqKinds
import PyProof.TupleCall
import PySem.Challenge.RW_zonewalk_k42_goals_met
set_option compiler.extract_closed false
set_option linter.all false
def ya0:=@List.getElem?_eq_getElem
def ya1:=@List.length_map
def ya2:=@Bool.and_eq_true
def ya3:=@Option.map_eq_some_iff
def ya4:=@List.getD_eq_getElem?_getD
def ya5:=@List.getElem?_map
def ya6:=@List.getElem?_eq_some_iff
def ya7:=@PySem.Heap.get?_push_of_some
def ya8:=@List.mem_cons_of_mem
def ya9:=@List.mem_cons_self
def yaa:=@Nat.le_refl
def yab:=@PySem.Heap.lt_size
def yac:=@List.getElem_mem
def yad:=@List.size_toArray
def yae:=@List.mem_singleton
def yaf:=@List.map_cons
def yag:=@List.all_eq_true
def yah:=@List.mem_map
def yai:=@Nat.lt_of_lt_of_le
def yaj:=@List.mem_cons
def yak:=@List.mem_append_right
def yal:=@Option.some.inj
def yam:=@List.getElem?_set_self
def yan:=@Bool.eq_false_iff
def yao:=@Nat.le_trans
def yap:=@List.getElem?_set_ne
def yaq:=@List.length_append
def yar:=@PySem.Heap.get?_push_size
def yas:=@List.getElem?_append_left
def yat:=@List.lookup_cons
def yau:=@Nat.ne_of_lt
def yav:=@Bool.false_ne_true
def yaw:=@List.contains_iff_mem
def yax:=@List.length_cons
def yay:=@List.mem_map_of_mem
def yaz:=@Ne.symm
def yb0:=@List.getElem?_append_right
def yb1:=@Bool.not_eq_true'
def yb2:=@List.findIdx?_eq_some_iff_getElem
def yb3:=@Nat.lt_irrefl
def yb4:=@PySem.W.kia_one
def yb5:=@List.getElem?_eq_none
def yb6:=@List.length_take
def yb7:=@List.mem_append
def yb8:=@Array.getElem?_eq_getElem
def yb9:=@List.map_append
def yba:=@List.not_mem_nil
def ybb:=@Bool.or_eq_false_iff
def ybc:=@PySem.mem_of_lookup
def ybd:=@List.replicate_succ
def ybe:=@Nat.zero_le
def ybf:=@List.mem_append_left
def ybg:=@Bool.or_eq_true
def ybh:=@Option.map_some
def ybi:=@PySem.W.hideAll_get
def ybj:=@PySem.Heap.size_push
def ybk:=@Nat.lt_succ_self
def ybl:=@PyProof.Rows.boot_isinstance
def ybm:=@PySem.Heap.get?_update_other
def ybn:=@PyProof.Rows.callWith_type1
def ybo:=@List.mem_filterMap
def ybp:=@List.map_map
def ybq:=@List.length_singleton
def ybr:=@Bool.eq_iff_iff
def ybs:=@Array.getElem?_eq_some_iff
def ybt:=@List.flatten_cons
def ybu:=@Nat.lt_succ_of_lt
def ybv:=@List.mem_of_getElem?
def ybw:=@List.drop_eq_getElem_cons
def ybx:=@List.length_drop
def yby:=@PySem.F.slot_str_getitem
def ybz:=@PySem.W.of_hideAll
def yc0:=@List.append_nil
def yc1:=@List.nodup_cons
def yc2:=@List.find?_cons
def yc3:=@Bool.false_eq_true
def yc4:=@List.mem_range
def yc5:=@Bool.or_false
def yc6:=@PySem.F.excBase_ValueError
def yc7:=@Nat.le_succ
def yc8:=@List.length_nil
def yc9:=@Int.emod_nonneg
def yca:=@PySem.W.callWith_K
def ycb:=@List.getElem?_drop
def ycc:=@List.zip_cons_cons
def ycd:=@PySem.F.called_set
def yce:=@List.take_append_getElem
def ycf:=@List.getElem?_replicate
def ycg:=@PyProof.Rows.F.plain_set_update_loop
def ych:=@Int.toNat_natCast
def yci:=@Option.some.injEq
def ycj:=@PyProof.V.reads_dictOf
def yck:=@PySem.SeqAt.notIn_list_reads
def ycl:=@PyProof.Rows.boot_list
def ycm:=@Bool.false_or
def ycn:=@List.getElem_inj
def yco:=@Option.getD_some
def ycp:=@List.length_replicate
def ycq:=@Array.getElem?_toList
def ycr:=@Nat.lt_trans
def ycs:=@List.mem_filter
def yct:=@PySem.W.hideAll_none
def ycu:=@Nat.le_of_lt
def ycv:=@List.length_set
def ycw:=@List.nil_append
def ycx:=@List.map_nil
def ycy:=@Bool.true_or
def ycz:=@List.filterMap_cons
def yd0:=@Array.length_toList
def yd1:=@PySem.W.plainGet_of
def yd2:=@PySem.SeqAt.in_list_reads
def yd3:=@List.getElem?_range
def yd4:=@Bool.false_and
def yd5:=@Array.append_assoc
def yd6:=@List.contains_cons
def yd7:=@List.findIdx?_cons
def yd8:=@PySem.Paired.length
def yd9:=@List.any_cons
def yda:=@Bool.and_true
def ydb:=@PySem.W.kitx_dict
def ydc:=@List.append_assoc
def ydd:=@Bool.or_true
def yde:=@List.all_map
def ydf:=@List.cons_append
def ydg:=@PySem.Txt.slice_le
def ydh:=@List.isEmpty_iff
def ydi:=@List.take_length
set_option Elab.async false
set_option linter.all false
set_option maxRecDepth 100000
set_option genSizeOf false
local macro_rules
  |`(tactic| omega)=>`(tactic| first
    |assumption
    |exact yao (by assumption) (by decide +kernel)
    |exact yai (by assumption) (by decide +kernel)
    |exact Nat.lt_of_le_of_lt (by assumption) (by decide +kernel)
    |exact Nat.succ_pos _
    |exact yai (by assumption) (Nat.succ_le_succ (yao (by assumption) (by decide +kernel)))
    |exact Nat.succ_le_succ (yao (by assumption) (by decide +kernel))
    |exact ycr (by assumption) (by assumption)
    |exact yai (by assumption) (by assumption)
    |exact Int.lt_trans (b:=0) (by decide +kernel) (by assumption)
    |exact Int.lt_of_lt_of_le (b:=0) (by decide +kernel) (by assumption)
    |exact Int.lt_of_le_of_lt (by assumption) (by decide +kernel)
    |exact Int.le_trans (by assumption) (by decide +kernel)
    |exact Int.le_of_lt (by assumption)
    |exact Int.ne_of_gt (by assumption)
    |lia
    |fail)
namespace L2
open PySem PySem.Spec PyProof.Rows
abbrev Key:=Sum Int Str
def keyIs:Key->Value->Bool
 |.inl k,v=>Value.isInt k v
 |.inr x,v=>Value.isStrOf x v
def keyH(w:World):Key->Int
 |.inl k=>hashInt k
 |.inr x=>hashStr w x
theorem zb5:∀{k:Key} {v:Value},keyIs k v=true->(∃i t,k=Sum.inl i/\v=Value.int i t)\/(∃x t,k=Sum.inr x/\v=Value.str x t)
 |.inl i,v,h=>by
  obtain⟨t,e⟩:=Value.isInt_shape (k:=i) (v:=v) h;exact .inl ⟨i,t,rfl,e⟩
 |.inr x,v,h=>by
  obtain⟨t,e⟩:=Value.isStrOf_shape (x:=x) (v:=v) h;exact .inr ⟨x,t,rfl,e⟩
theorem keyIs_int(i:Int)(t:Tok):keyIs (.inl i) (.int i t)=true:=by simp[keyIs,Value.isInt]
theorem keyIs_str(x:Str)(t:Tok):keyIs (.inr x) (.str x t)=true:=by simp[keyIs,Value.isStrOf]
theorem key_ll(a b:Int):decide ((Sum.inl a:Key)=Sum.inl b)=(a == b):=by
 by_cases e:a=b
 ·subst e;simp
 ·have h:¬ (Sum.inl a:Key)=Sum.inl b:=fun q=>e (Sum.inl.inj q)
  rw[decide_eq_false h];exact(beq_eq_false_iff_ne.mpr e).symm
theorem key_rr(a b:Str):decide ((Sum.inr a:Key)=Sum.inr b)=decide (a=b):=by
 by_cases e:a=b
 ·subst e;simp
 ·have h:¬ (Sum.inr a:Key)=Sum.inr b:=fun q=>e (Sum.inr.inj q)
  rw[decide_eq_false h,decide_eq_false e]
theorem key_lr(a:Int)(b:Str):decide ((Sum.inl a:Key)=Sum.inr b)=false:=decide_eq_false (fun q=>nomatch q)
theorem key_rl(a:Str)(b:Int):decide ((Sum.inr a:Key)=Sum.inl b)=false:=decide_eq_false (fun q=>nomatch q)
def zbg(prog:Program)(w:World):PySem.KeyKind prog w Key where
 is:=keyIs
 hash:=keyH w
 inj:=fun v a b ha hb=>by
  rcases zb5 ha with ⟨i,t,rfl,rfl⟩|⟨x,t,rfl,rfl⟩
  ·rcases zb5 hb with ⟨j,u,rfl,e⟩|⟨y,u,rfl,e⟩
   ·injection e with e1 _;rw[e1]
   ·exact nomatch e
  ·rcases zb5 hb with ⟨j,u,rfl,e⟩|⟨y,u,rfl,e⟩
   ·exact nomatch e
   ·injection e with e1 _;rw[e1]
 byValue:=fun k v h=>by
  rcases zb5 h with ⟨i,t,rfl,rfl⟩|⟨x,t,rfl,rfl⟩<;>rfl
 pyHash:=fun hv h=>by
  rcases zb5 hv with ⟨i,t,rfl,rfl⟩|⟨x,t,rfl,rfl⟩
  ·exact wpAny_pyHash_int h
  ·exact wpAny_pyHash_str h
 eqBool:=fun hu hv h=>by
  rcases zb5 hu with ⟨i,t,rfl,rfl⟩|⟨x,t,rfl,rfl⟩
  ·rcases zb5 hv with ⟨j,u,rfl,rfl⟩|⟨y,u,rfl,rfl⟩
   ·rw[key_ll]at h;exact wpAny_eqBool_int h
   ·rw[key_lr]at h;exact SeqAt.EqAt.int_str i t y u _ _ _ _ h
  ·rcases zb5 hv with ⟨j,u,rfl,rfl⟩|⟨y,u,rfl,rfl⟩
   ·rw[key_rl]at h;exact SeqAt.EqAt.str_int x t j u _ _ _ _ h
   ·rw[key_rr]at h;exact wpAny_eqBool_str h
 «strs»:=fun k x t v h=>by
  rcases zb5 h with ⟨i,u,rfl,e⟩|⟨y,u,rfl,e⟩
  ·exact nomatch e
  ·injection e with e1 _
   subst e1;cases v<;>rfl
theorem mixKind_int(prog:Program)(w:World)(i:Int)(t:Tok):(zbg prog w).is (.inl i) (.int i t)=true:=keyIs_int i t
theorem mixKind_str(prog:Program)(w:World)(x:Str)(t:Tok):(zbg prog w).is (.inr x) (.str x t)=true:=keyIs_str x t
inductive V where
 |non|bl (b:Bool)|int (i:Int)|str (x:Str)|byt (b:Array UInt8)|flt (b:UInt64)|ref (a:Addr)|ty (n:String)
 deriving DecidableEq
def RelV:V->Value->Prop
 |.non,u=>u=Value.none
 |.bl b,u=>u=Value.bool b
 |.int i,u=>∃t,u=Value.int i t
 |.str x,u=>∃t,u=Value.str x t
 |.byt b,u=>∃t,u=Value.bytes b t
 |.flt b,u=>∃t,u=Value.float b t
 |.ref a,u=>u=Value.ref a
 |.ty n,u=>u=Value.type n
abbrev zbl:List V->List Value->Prop:=Paired RelV
theorem zbl.length{xs:List V}{us:List Value}(r:zbl xs us):xs.length=us.length:=yd8 r
theorem zbl.get:∀{xs:List V} {us:List Value} {i:Nat} {x:V},zbl xs us->xs[i]?=some x->∃u,us[i]?=some u/\RelV x u
 |_,_,_,_,.nil,e=>by simp at e
 |_,_,0,_,.cons r _,e=>by simp at e;subst e;exact⟨_,rfl,r⟩
 |_,_,i+1,x,.cons _ t,e=>by
  obtain⟨u,h1,h2⟩:=zbl.get (i:=i) (x:=x) t (by simpa using e)
  exact⟨u,by simpa using h1,h2⟩
theorem zbl.set{x:V}{u:Value}(r:RelV x u):∀{xs:List V} {us:List Value} (i:Nat),zbl xs us->zbl (xs.set i x) (us.set i u)
 |_,_,_,.nil=>.nil
 |_,_,0,.cons _ t=>.cons r t
 |_,_,i+1,.cons q t=>.cons q (zbl.set r i t)
theorem zbl.append:∀{xs ys:List V} {us ws:List Value},zbl xs us->zbl ys ws->zbl (xs++ys) (us++ws)
 |_,_,_,_,.nil,s=>s
 |_,_,_,_,.cons r t,s=>.cons r (zbl.append t s)
theorem zbl.take:∀{xs:List V} {us:List Value} (n:Nat),zbl xs us->zbl (xs.take n) (us.take n)
 |_,_,0,_=>.nil
 |_,_,_+1,.nil=>.nil
 |_,_,n+1,.cons r t=>.cons r (zbl.take n t)
theorem zbl.drop:∀{xs:List V} {us:List Value} (n:Nat),zbl xs us->zbl (xs.drop n) (us.drop n)
 |_,_,0,r=>r
 |_,_,_+1,.nil=>.nil
 |_,_,n+1,.cons _ t=>zbl.drop n t
theorem zbl.none_of:∀{xs:List V} {us:List Value} {i:Nat},zbl xs us->xs[i]?=none->us[i]?=none:=fun {xs us i} r e=>by
 have h1:=r.length;have h2:xs.length<=i:=List.getElem?_eq_none_iff.mp e;exact List.getElem?_eq_none_iff.mpr (by omega)
def RelO:Option V->Option Value->Prop
 |some v,some u=>RelV v u
 |none,none=>True
 |_,_=>False
def KV{κ:Type}:List (κ×V)->List (κ×Value)->Prop:=Paired fun(p:κ×V) (q:κ×Value)=>p.1=q.1/\RelV p.2 q.2
def kV:Key->V
 |.inl i=>.int i
 |.inr x=>.str x
inductive HO where
 |lst (xs:List V)
 |tup (xs:List V)
 |dK (kvs:List (Key×V))|dT (kvs:List (List Key×V))
 |set (S:Int->Bool) (n:Nat)
 |ins (C dx:Addr) (fs:List (Str×V))
 |own (x:Addr)
 |xd (fs:List (Str×V))
 |met (f x:Addr)
 |rng (lo hi:Int)
 |frz (o:Obj) (u:HO)
 |tbl (ps:Array Value)
 |ext (φ:Heap->Prop)
abbrev Hp:=Addr->Option HO
def upd(H:Hp)(a:Addr)(o:HO):Hp:=fun b=>if b=a then some o else H b
theorem zay{H:Hp}{a:Addr}{o:HO}:upd H a o a=some o:=by unfold upd;rw[if_pos rfl]
theorem zam{H:Hp}{a b:Addr}{o:HO}(h:b≠a):upd H a o b=H b:=by unfold upd;rw[if_neg h]
theorem ne_of{H:Hp}{a b:Addr}{o u:HO}(h:H a=some o)(h':H b=some u)(d:o≠u):a≠b:=by
 intro e;subst e;rw[h]at h';exact d (yal h')
theorem zaq{H:Hp}{a b:Addr}{o:HO}(h:H a=some o)(h':H b=none):a≠b:=by
 intro e;subst e;rw[h]at h';cases h'
section
variable (P:Program)(w:World)
def zbx(H:Hp)(h:Heap)(a:Addr):HO->Prop
 |.lst xs=>xs.length<=sizeLine/\∃(its:List Value) (n:Nat),zbl xs its/\h.get? a=some { cls:=.type "list",data:=.seq its.toArray n }
 |.tup xs=>xs.length<=sizeLine/\∃its:List Value,zbl xs its/\IsTup h a its.toArray
 |.dK kvs=>kvs.length<=sizeLine/\(a == sysModules)=false/\∃vs,KV kvs vs/\h.DictOf (zbg P w) a vs
 |.dT kvs=>kvs.length<=sizeLine/\(a == sysModules)=false/\∃xs:List (List Key×Addr×Value),
   Paired (fun(p:List Key×V) (q:List Key×Addr×Value)=>p.1=q.1/\H q.2.1=some (.tup (p.1.map kV))/\RelV p.2 q.2.2) kvs xs /\
   ∃o es ep,h.get? a=some o/\o.ExactDict/\o.data=.dict es ep/\es.toList=xs.map (entryOfKey (tupleKind (zbg P w)))/\(xs.map (·.1)).Nodup
 |.set S n=>h.SetOf (intKind P w) a S n
 |.ins C dx fs=>H dx=some (.own a)/\fs.length<=1000/\dx≠a/\h.get? a=some (PySem.W.instObj C dx) /\
   ∃mA,h.Ns1 dx mA/\(∀f,RelO (fs.lookup f) (mA f))/\PySem.Within mA (fs.map (·.1))
 |.own _=>∃o,h.get? a=some o
 |.xd fs=>∃mA,h.Ns1 a mA/\∀f,RelO (fs.lookup f) (mA f)
 |.rng lo hi=>∃t u v,h.get? a=some { cls:=.type "range",data:=.fields #[.int lo t,.int hi u,.int 1 v] }
 |.frz o u=>h.get? a=some o/\zbx H h a u
 |.tbl ps=>h.get? a=some { cls:=.none,data:=.fields ps }
 |.met f x=>h.get? a=some (PySem.W.methodObj (.ref f) (.ref x))
 |.ext φ=>φ h/\(∃o,h.get? a=some o)/\∀h1 h2:Heap,φ h1->(∀o,h1.get? a=some o->h2.get? a=some o)->φ h2
def HOk(H:Hp)(h:Heap):Prop:=∀a o,H a=some o->zbx P w H h a o
end
section
variable {P:Program}{w:World}{H H':Hp}{h h':Heap}{a:Addr}{o:HO}
theorem zbx.lt(x:zbx P w H h a o):a<h.objs.size:=by
 cases o with
 |lst xs=>obtain⟨_,_,_,_,e⟩:=x;exact yab e
 |tup xs=>obtain⟨_,_,_,p⟩:=x;exact p.lt
 |dK kvs=>obtain⟨_,_,_,_,o,_,_,e,_⟩:=x;exact yab e
 |dT kvs=>obtain⟨_,_,_,_,o,_,_,e,_⟩:=x;exact yab e
 |set S n=>obtain⟨o,_,_,_,e,_⟩:=x;exact yab e
 |ins C dx fs=>obtain⟨_,_,_,e,_⟩:=x;exact yab e
 |own y=>obtain⟨_,e⟩:=x;exact yab e
 |xd fs=>obtain⟨_,⟨_,_,_,e,_⟩,_⟩:=x;exact yab e
 |rng lo hi=>obtain⟨_,_,_,e⟩:=x;exact yab e
 |frz ob u=>obtain⟨e,_⟩:=x;exact yab e
 |tbl ps=>exact yab (show h.get? a=some _ from x)
 |met f y=>exact yab (show h.get? a=some _ from x)
 |ext φ=>obtain⟨_,⟨_,e⟩,_⟩:=x;exact yab e
theorem Paired.mapP{α β:Type}{F G:α->β->Prop}:∀{l₁:List α} {l₂:List β},Paired F l₁ l₂->(∀a b,F a b->G a b)->Paired G l₁ l₂
 |_,_,.nil,_=>.nil
 |_,_,.cons r t,f=>.cons (f _ _ r) (Paired.mapP t f)
theorem zbx.stay(x:zbx P w H h a o)(k:∀b u,(b=a\/H b=some (.own a))->h.get? b=some u->h'.get? b=some u)
  (ho:∀b,H b=some (.own a)->H' b=some (.own a)) (ht:∀b xs,H b=some (.tup xs)->H' b=some (.tup xs)):zbx P w H' h' a o:=by
 induction o with
 |lst xs=>obtain⟨z,its,n,r,e⟩:=x;exact⟨z,its,n,r,k _ _ (.inl rfl) e⟩
 |tup xs=>obtain⟨z,its,r,ob,e,c⟩:=x;exact⟨z,its,r,ob,k _ _ (.inl rfl) e,c⟩
 |dK kvs=>obtain⟨z,y,vs,r,ob,es,ep,e,c⟩:=x;exact⟨z,y,vs,r,ob,es,ep,k _ _ (.inl rfl) e,c⟩
 |dT kvs =>
  obtain⟨z,y,xs,r,ob,es,ep,e,c⟩:=x;exact⟨z,y,xs,Paired.mapP r fun p q z=>⟨z.1,ht _ _ z.2.1,z.2.2⟩,ob,es,ep,k _ _ (.inl rfl) e,c⟩
 |set S n=>obtain⟨ob,es,ep,t,e,c⟩:=x;exact⟨ob,es,ep,t,k _ _ (.inl rfl) e,c⟩
 |ins C dx fs =>
  obtain⟨d,z,ne,e,mA,⟨od,es,ep,e2,c⟩,r⟩:=x;exact⟨ho _ d,z,ne,k _ _ (.inl rfl) e,mA,⟨od,es,ep,k _ _ (.inr d) e2,c⟩,r⟩
 |own y=>obtain⟨ob,e⟩:=x;exact⟨ob,k _ _ (.inl rfl) e⟩
 |xd fs=>obtain⟨mA,⟨od,es,ep,e,c⟩,r⟩:=x;exact⟨mA,⟨od,es,ep,k _ _ (.inl rfl) e,c⟩,r⟩
 |rng lo hi=>obtain⟨t,u,v,e⟩:=x;exact⟨t,u,v,k _ _ (.inl rfl) e⟩
 |frz ob u ih=>obtain⟨e,q⟩:=x;exact⟨k _ _ (.inl rfl) e,ih q⟩
 |tbl ps =>
  have e:h.get? a=some { cls:=.none,data:=.fields ps }:=x;show h'.get? a=some { cls:=.none,data:=.fields ps };exact k a _ (.inl rfl) e
 |met f y =>
  have e:h.get? a=some (PySem.W.methodObj (.ref f) (.ref y)):=x;show h'.get? a=some (PySem.W.methodObj (.ref f) (.ref y));exact k a _ (.inl rfl) e
 |ext φ=>obtain⟨p,⟨o,e⟩,st⟩:=x;exact⟨st _ _ p fun o q=>k _ _ (.inl rfl) q,⟨o,k _ _ (.inl rfl) e⟩,st⟩
theorem HOk.lt(x:HOk P w H h)(e:H a=some o):a<h.objs.size:=(x a o e).lt
theorem HOk.fresh(x:HOk P w H h)(e:h.objs.size<=a):H a=none:=by
 cases q:H a with
 |none=>rfl
 |some u=>exact absurd (yai (x.lt q) e) (yb3 _)
theorem HOk.kept(x:HOk P w H h)(k:∀b u,h.get? b=some u->h'.get? b=some u):HOk P w H h':=fun a o e =>
 (x a o e).stay (fun b u _ q=>k b u q) (fun _ q=>q) fun _ _ q=>q
theorem HOk.laid(x:HOk P w H h)(k:∀b u,h.get? b=some u->h'.get? b=some u)(hp:h.objs.size<=a)(new:zbx P w (upd H a o) h' a o):HOk P w (upd H a o) h':=fun b u e=>by
 have hn:=x.fresh hp
 by_cases hb:b=a
 ·subst hb;rw[zay]at e;cases e;exact new
 ·rw[zam hb]at e;exact(x b u e).stay (fun c v _ q=>k c v q) (fun c q=>by rw[zam (zaq q hn)];exact q) fun c xs q=>by rw[zam (zaq q hn)];exact q
end
def Rd(H:Hp)(a:Addr)(u:HO):Prop:=H a=some u\/∃o,H a=some (.frz o u)
theorem Rd.of{H:Hp}{a:Addr}{u:HO}(h:H a=some u):Rd H a u:=.inl h
theorem Rd.ok{P:Program}{w:World}{H:Hp}{h:Heap}{a:Addr}{u:HO}(r:Rd H a u)(x:HOk P w H h):zbx P w H h a u:=by
 rcases r with r|⟨o,r⟩
 ·exact x a u r
 ·obtain⟨_,q⟩:=x a _ r;exact q
def Mut:Option HO->Prop
 |some (.lst _)=>True
 |some (.dK _)=>True
 |some (.dT _)=>True
 |some (.set _ _)=>True
 |some (.ins _ _ _)=>True
 |some (.ext _)=>True
 |_=>False
section
variable {P:Program}{w:World}{H:Hp}{h h':Heap}{x e:Addr}{o':HO}
theorem HOk.write(ok:HOk P w H h)(mu:Mut (H x))(he:e=x\/H e=some (.own x))(k:∀b u,b≠e->h.get? b=some u->h'.get? b=some u)(heo:∃u,h'.get? e=some u)
  (new:zbx P w (upd H x o') h' x o'):HOk P w (upd H x o') h':=fun b u q=>by
 have nown:∀c y,H c=some (.own y)->c≠x:=fun c y r z=>by subst z;rw[r]at mu;exact mu
 have ntup:∀c xs,H c=some (.tup xs)->c≠x:=fun c xs r z=>by subst z;rw[r]at mu;exact mu
 by_cases hb:b=x
 ·subst hb;rw[zay]at q;cases q;exact new
 ·rw[zam hb]at q
  by_cases hbe:b=e
  ·have q':H b=some (.own x):=by
    rcases he with z|z
    ·exact absurd (hbe.trans z) hb
    ·rw[hbe];exact z
   rw[q]at q';cases q';obtain⟨v,hv⟩:=heo;exact⟨v,by rw[hbe];exact hv⟩
  ·refine(ok b u q).stay (fun c v hc r=>k c v ?_ r) (fun c r=>by rw[zam (nown c b r)];exact r) fun c xs r=>by rw[zam (ntup c xs r)];exact r
   rcases hc with rfl|hc
   ·exact hbe
   ·rintro rfl
    rcases he with z|z
    ·exact nown c b hc z
    ·rw[hc]at z;cases z;exact hb rfl
end
structure Un(fs ex:List Addr)(H H':Hp)(h h':Heap):Prop where
 keep:∀b o,h.get? b=some o->H b=none->b∉fs->b∉ex->h'.get? b=some o
 slot:∀b o,h.get? b=some o->H b=none->b∈fs->b∉ex->∃sl,h'.get? b=some { o with slots:=sl }
 free:∀b o,h.get? b=some o->H b=none->b∉ex->H' b=none
 there:∀b o,h.get? b=some o->b∉ex->∃o',h'.get? b=some o'
 tups:∀b xs,H b=some (.tup xs)->H' b=some (.tup xs)
 frzs:∀b o u,H b=some (.frz o u)->H' b=some (.frz o u)
 tbls:∀b ps,H b=some (.tbl ps)->∃more,H' b=some (.tbl (ps++more))
section
variable {fs fs' ex ex':List Addr}{H H1 H2:Hp}{h h1 h2 h':Heap}{a x e:Addr}{o:HO}
theorem Un.any(u:Un fs ex H H1 h h1){b:Addr}{ob:Obj}(q:h.get? b=some ob)(n:H b=none)(hx:b∉ex):∃sl,h1.get? b=some { ob with slots:=sl }:=by
 by_cases hb:b∈fs
 ·exact u.slot b ob q n hb hx
 ·exact⟨ob.slots,u.keep b ob q n hb hx⟩
theorem Un.trans(a:Un fs ex H H1 h h1)(b:Un fs ex H1 H2 h1 h2):Un fs ex H H2 h h2 where
 keep:=fun c ob q n hc hx=>b.keep c ob (a.keep c ob q n hc hx) (a.free c ob q n hx) hc hx
 slot:=fun c ob q n hc hx=>by
  obtain⟨sl,e1⟩:=a.slot c ob q n hc hx;obtain⟨sl',e2⟩:=b.slot c _ e1 (a.free c ob q n hx) hc hx;exact⟨sl',e2⟩
 free:=fun c ob q n hx=>by
  obtain⟨o',e1⟩:=a.there c ob q hx;exact b.free c o' e1 (a.free c ob q n hx) hx
 there:=fun c ob q hx=>by
  obtain⟨o',e1⟩:=a.there c ob q hx;exact b.there c o' e1 hx
 tups:=fun c xs q=>b.tups c xs (a.tups c xs q)
 frzs:=fun c ob xs q=>b.frzs c ob xs (a.frzs c ob xs q)
 tbls:=fun c ps q=>by
  obtain⟨m1,e1⟩:=a.tbls c ps q;obtain⟨m2,e2⟩:=b.tbls c _ e1;exact⟨m1++m2,by rw[e2,yd5]⟩
theorem Un.kept(k:∀b u,h.get? b=some u->h'.get? b=some u):Un fs ex H H h h' :=
 ⟨fun b ob q _ _ _=>k b ob q,fun b ob q _ _ _=>⟨ob.slots,k b ob q⟩,fun _ _ _ n _=>n,fun b ob q _=>⟨ob,k b ob q⟩,fun _ _ q=>q,fun _ _ _ q=>q,fun _ ps q=>⟨#[],by rw[q];simp⟩⟩
theorem Un.refl:Un fs ex H H h h:=Un.kept fun _ _ q=>q
theorem Un.laid(k:∀b u,h.get? b=some u->h'.get? b=some u)(hp:h.objs.size<=a)(hn:H a=none):Un fs ex H (upd H a o) h h' where
 keep:=fun b u q _ _ _=>k b u q
 slot:=fun b u q _ _ _=>⟨u.slots,k b u q⟩
 free:=fun b u q n _=>by rw[zam (yau (yai (yab q) hp))];exact n
 there:=fun b u q _=>⟨u,k b u q⟩
 tups:=fun b xs q=>by rw[zam (zaq q hn)];exact q
 frzs:=fun b u xs q=>by rw[zam (zaq q hn)];exact q
 tbls:=fun b ps q=>⟨#[],by rw[zam (zaq q hn),q];simp⟩
theorem Un.write(mu:Mut (H x))(he:e=x\/H e=some (.own x))(k:∀b u,b≠e->h.get? b=some u->h'.get? b=some u)(heo:∃u,h'.get? e=some u):Un fs ex H (upd H x o) h h':=by
 have hx:∀b,H b=none->b≠x:=fun b n z=>by subst z;rw[n]at mu;exact mu
 have hb:∀b,H b=none->b≠e:=fun b n z=>by
  subst z
  rcases he with r|r
  ·exact hx b n r
  ·rw[n]at r;cases r
 have hm:∀b u,H b=some u->¬ Mut (some u)->b≠x:=fun b u q nm z=>by subst z;rw[q]at mu;exact nm mu
 refine⟨fun b u q n _ _=>k b u (hb b n) q,fun b u q n _ _=>⟨u.slots,k b u (hb b n) q⟩,fun b u q n _=>by rw[zam (hx b n)];exact n,fun b u q _=>?_,
  fun b xs q=>by rw[zam (hm b _ q fun z=>z)];exact q,fun b u xs q=>by rw[zam (hm b _ q fun z=>z)];exact q,fun b ps q=>⟨#[],by rw[zam (hm b _ q fun z=>z),q];simp⟩⟩
 by_cases hbe:b=e
 ·subst hbe;exact heo
 ·exact⟨u,k b u hbe q⟩
theorem Un.mono(u:Un fs ex H H1 h h1)(hs:∀b∈fs,b∈fs')(hx:∀b∈ex,b∈ex'):Un fs' ex' H H1 h h1 :=
 ⟨fun b ob q n hb he=>u.keep b ob q n (fun z=>hb (hs b z)) fun z=>he (hx b z),fun _ _ q n _ he=>u.any q n fun z=>he (hx _ z),fun b ob q n he=>u.free b ob q n fun z=>he (hx b z),fun b ob q he=>u.there b ob q fun z=>he (hx b z),u.tups,u.frzs,u.tbls⟩
end
def trk(h:Heap)(H:Hp):List Addr:=(List.range h.objs.size).filter fun a=>(H a).isSome
def hidT(h:Heap)(H:Hp):Heap:=PySem.W.hideAll h (trk h H)
theorem hidT_size(h:Heap)(H:Hp):(hidT h H).objs.size=h.objs.size:=PySem.W.hideAll_size _ _
theorem hidT_get{h:Heap}{H:Hp}{b:Addr}{o:Obj}(e:h.get? b=some o)(n:H b=none):(hidT h H).get? b=some o :=
 ybi _ e fun hm=>by
  have q:(H b).isSome=true:=(ycs.mp hm).2;rw[n]at q;simp at q
theorem of_hidT{h:Heap}{H:Hp}{b:Addr}{o:Obj}(e:(hidT h H).get? b=some o):h.get? b=some o/\H b=none:=by
 have e':h.get? b=some o:=ybz (trk h H) e;refine⟨e',?_⟩;cases q:H b with
 |none=>rfl
 |some x =>
  have hm:b∈trk h H:=ycs.mpr ⟨yc4.mpr (yab e'),by simp[q]⟩
  have z:(hidT h H).get? b=none:=yct (trk h H) hm;rw[z]at e;cases e
def allNews(g h:Heap)(L:Addr):List (Addr×Obj):=(List.range h.objs.size).filterMap fun a=>if a=L\/(g.get? a).isSome=true then none else (h.get? a).map fun o=>(a,o)
def zgb(g h:Heap)(L d:Addr):List (Addr×Obj):=(allNews g h L).filter fun p=>decide (p.1≠d)
structure Mod(K:PySem.W.Frag)(mg:Str->Option Value)(base:Heap):Prop where
 kin:K.In base
 glob:base.Ns mainGlobals mg
 blt:∃mb,base.Ns builtinsNs mb/\∀x:Str,x≠"__name__"->mb x=bootBuiltins x
 nolimit:base.NoLimit
set_option genInjectivity false in
structure Cx where
 prog:Program
 w:World
 K:PySem.W.Frag
 mg:Str->Option Value
 base:Heap
 A:Around
 N:List Str
 s₀:Shared
 H₀:Hp
 env:Env
 outer:List Env
 stack:List Env
 ex:List Addr
 fn:Str->Bool
 calm:Bool
 pn:List (Addr×Obj)
 xe:Value->Shared->Prop
def frs(l:List Env):List Addr:=l.filterMap (·.frame)
abbrev Cx.fs(X:Cx):List Addr:=frs X.outer
def Vis(sc:Scope)(x:Str):Prop:=sc.names.lookup x=some .local\/sc.names.lookup x=some .cell\/sc.names.lookup x=some .free
def Loc(sc:Scope)(x:Str):Prop:=sc.names.lookup x=some .local\/sc.names.lookup x=some .cell
def Look(env:Env)(h:Heap)(m:Str->Option Value)(x:Str)(u:Value):Prop :=
 (env.kindOf x=some .local/\m x=some u)\/((env.kindOf x=some .cell\/env.kindOf x=some .free)/\∃c,env.cells.lookup x=some c/\h.IsCell c (some u))
structure Cx.Ok(X:Cx):Prop where
 mod:Mod X.K X.mg X.base
 kind:X.env.scope.kind=.function
 glob:X.env.globals=mainGlobals
 blt:X.env.builtins=builtinsNs
 above:X.s₀.heap.objs.size<=X.env.locals
 inj:∀x y c,X.env.cells.lookup x=some c->X.env.cells.lookup y=some c->x=y
 has:∀x,(X.env.kindOf x=some .cell\/X.env.kindOf x=some .free)->∃c,X.env.cells.lookup x=some c
 cab:∀x c,X.fn x=true->X.env.cells.lookup x=some c->X.s₀.heap.objs.size<=c
 hd:X.calm=true->X.A.handled=none
 frames:X.A.frames=some X.stack
 stk:X.stack=X.outer\/(X.stack=X.env::X.outer/\X.env.frame=some X.env.locals)
 exf:∀b∈X.ex,b≠X.env.locals/\∀x c,X.env.cells.lookup x=some c->c≠b
 bs:∀b o,X.base.get? b=some o->X.s₀.heap.get? b=some o/\X.H₀ b=none
 bsz:X.base.objs.size<=X.s₀.heap.objs.size
 noex:∀b o,X.base.get? b=some o->b∉X.ex
 exfs:∀b∈X.ex,b∉X.fs
 funs:X.s₀.heap.FunFrames X.base X.outer
 frf:∀b∈X.fs,X.H₀ b=none
structure Inv(X:Cx)(pins:List (Addr×Obj))(σ:List (Option V))(H:Hp)(s:Shared):Prop where
 ok:X.Ok
 os:s.os=X.s₀.os
 bare:AllBare s.gens
 base:Un X.fs X.ex X.H₀ H X.s₀.heap s.heap
 loc:∃m,s.heap.Ns X.env.locals m/\∀(i:Nat) (x:Str) (v:V),X.N[i]?=some x->σ[i]?=some (some v)->Vis X.env.scope x->∃u,RelV v u/\Look X.env s.heap m x u
 cell:∀x c,X.env.cells.lookup x=some c->∃v,s.heap.IsCell c v
 free:H X.env.locals=none
 freeC:∀x c,X.env.cells.lookup x=some c->H c=none
 pin:∀p∈X.pn++pins,s.heap.get? p.1=some p.2/\H p.1=none/\p.1≠X.env.locals/\p.1∉X.fs/\∀v,p.2.data≠.cell v
 hok:HOk X.prog X.w H s.heap
 len:σ.length=X.N.length
section
variable {X:Cx}{pins:List (Addr×Obj)}{σ:List (Option V)}{H H':Hp}{s:Shared}{h':Heap}
theorem Cx.Ok.nofr(ok:X.Ok){b:Addr}{o:Obj}(e:X.base.get? b=some o):b∉X.fs:=fun hb=>by
 have:=(ok.funs.mem hb).1;rw[e]at this;cases this
theorem Inv.bs(I:Inv X pins σ H s):∀b o,X.base.get? b=some o->s.heap.get? b=some o/\H b=none:=fun b o e =>
 ⟨I.base.keep b o (I.ok.bs b o e).1 (I.ok.bs b o e).2 (I.ok.nofr e) (I.ok.noex b o e),I.base.free b o (I.ok.bs b o e).1 (I.ok.bs b o e).2 (I.ok.noex b o e)⟩
theorem Inv.bk(I:Inv X pins σ H s):∀b o,X.base.get? b=some o->s.heap.get? b=some o:=fun b o e=>(I.bs b o e).1
theorem Inv.mod(I:Inv X pins σ H s):Mod X.K X.mg X.base:=I.ok.mod
theorem Inv.kIn(I:Inv X pins σ H s):X.K.In s.heap:=I.ok.mod.kin.keeps I.bk
theorem Inv.nolimit(I:Inv X pins σ H s):s.heap.NoLimit:=I.ok.mod.nolimit.keeps I.bk
theorem Inv.fr(I:Inv X pins σ H s):∃m,Fr X.base X.env.locals s.heap m :=
 let ⟨m,hn,_⟩:=I.loc
 ⟨m,hn,I.bk,yao I.ok.bsz I.ok.above⟩
theorem Inv.lt(I:Inv X pins σ H s):X.env.locals<s.heap.objs.size:=let ⟨_,hn,_⟩:=I.loc;hn.lt
theorem Inv.sz(I:Inv X pins σ H s):X.s₀.heap.objs.size<=s.heap.objs.size:=yao I.ok.above (ycu I.lt)
theorem Inv.nofs(I:Inv X pins σ H s){a:Addr}(h:s.heap.objs.size<=a):a∉X.fs:=fun hb=>by
 obtain⟨_,o,ho,_⟩:=I.ok.funs.mem hb;exact absurd (yai (yab ho) (yao I.sz h)) (yb3 _)
theorem Inv.cne(I:Inv X pins σ H s):∀x c,X.env.cells.lookup x=some c->c≠X.env.locals:=fun x c e z=>by
 obtain⟨v,o,ho,hd⟩:=I.cell x c e;obtain⟨m,⟨o',es,ep,ho',hd',_⟩,_⟩:=I.loc;rw[z,ho']at ho;cases ho;rw[hd']at hd;cases hd
theorem Inv.funs(I:Inv X pins σ H s):s.heap.FunFrames X.base X.outer:=by
 have all:∀(l:List Env),(∀b∈frs l,b∈X.fs)->X.s₀.heap.FunFrames X.base l->s.heap.FunFrames X.base l:=by
  intro l
  induction l with
  |nil=>intro _ _;trivial
  |cons env r ih =>
   intro hs hl;obtain⟨hk,⟨L,o,hf,hn,ho,hd⟩,hr⟩:=hl;have hL:L∈X.fs:=hs L (by unfold frs;rw[ycz,hf];exact ya9)
   obtain⟨sl,e⟩:=I.base.slot L o ho (I.ok.frf L hL) hL fun z=>I.ok.exfs L z hL
   exact⟨hk,⟨L,_,hf,hn,e,hd⟩,ih (fun b hb=>hs b (by unfold frs;rw[ycz,hf];exact ya8 _ hb)) hr⟩
 exact all X.outer (fun _ hb=>hb) I.ok.funs
theorem Inv.stack(I:Inv X pins σ H s):s.heap.FunFrames X.base X.stack:=by
 rcases I.ok.stk with e|⟨e,hf⟩
 ·rw[e];exact I.funs
 ·rw[e];obtain⟨m,hn,_⟩:=I.loc;refine .cons (by rw[I.ok.kind];decide) hf hn ?_ I.funs
  exact Heap.get?_none_of_le (yao I.ok.bsz I.ok.above)
theorem Inv.stkSub(I:Inv X pins σ H s):∀b∈frs X.stack,b∈X.env.locals::X.fs:=fun b hb=>by
 rcases I.ok.stk with e|⟨e,hf⟩
 ·rw[e]at hb;exact ya8 _ hb
 ·rw[e]at hb;unfold frs at hb;rw[ycz,hf]at hb;exact hb
theorem Inv.stkFree(I:Inv X pins σ H s):∀b∈frs X.stack,H b=none:=fun b hb=>by
 rcases yaj.mp (I.stkSub b hb) with e|hb
 ·rw[e];exact I.free
 ·obtain⟨_,o,ho,_⟩:=I.ok.funs.mem hb;exact I.base.free b o ho (I.ok.frf b hb) fun z=>I.ok.exfs b z hb
theorem Inv.step{g':Array GenState}{t':Nat}{d':Drawn}{ch:List Addr}(I:Inv X pins σ H s)
  (hch:∀b∈ch,(b∈X.ex\/X.s₀.heap.objs.size<=b)/\b≠X.env.locals/\(∀x c,X.env.cells.lookup x=some c->c≠b)/\∀p∈X.pn++pins,p.1≠b)
  (keep:∀b o,b≠X.env.locals->b∉X.fs->b∉ch->s.heap.get? b=some o->H b=none->h'.get? b=some o)
  (slot:∀b o,b≠X.env.locals->b∈X.fs->b∉ch->s.heap.get? b=some o->H b=none->∃sl,h'.get? b=some { o with slots:=sl }) (free:∀b o,b∉ch->s.heap.get? b=some o->H b=none->H' b=none)
  (there:∀b o,b∉ch->s.heap.get? b=some o->∃o',h'.get? b=some o')
  (tups:∀b xs,H b=some (.tup xs)->H' b=some (.tup xs)) (frzs:∀b o u,H b=some (.frz o u)->H' b=some (.frz o u)) (tbls:∀b ps,H b=some (.tbl ps)->∃more,H' b=some (.tbl (ps++more)))
  (ns:∀m,s.heap.Ns X.env.locals m->h'.Ns X.env.locals m) (hok:HOk X.prog X.w H' h') (hg:AllBare g') :
  Inv X pins σ H' { s with heap:=h',gens:=g',drawn:=d',toks:=t' }:=by
 have neL:∀b o,X.s₀.heap.get? b=some o->b≠X.env.locals:=fun b o e=>yau (yai (yab e) I.ok.above)
 have neC:∀b o,X.s₀.heap.get? b=some o->b∉X.ex->b∉ch:=fun b o e hx hb=>by
  rcases(hch b hb).1 with z|z
  ·exact hx z
  ·exact absurd (yai (yab e) z) (yb3 _)
 have cellK:∀x c,X.env.cells.lookup x=some c->∀v,s.heap.IsCell c v->h'.IsCell c v:=fun x c e v ⟨o,ho,hd⟩=>by
  have nch:c∉ch:=fun z=>(hch c z).2.2.1 x c e rfl
  by_cases hc:c∈X.fs
  ·obtain⟨sl,q⟩:=slot c o (I.cne x c e) hc nch ho (I.freeC x c e);exact⟨_,q,hd⟩
  ·exact⟨o,keep c o (I.cne x c e) hc nch ho (I.freeC x c e),hd⟩
 refine⟨I.ok,I.os,hg,⟨fun b o e n hb hx=>?_,fun b o e n hb hx=>?_,fun b o e n hx=>?_,fun b o e hx=>?_,fun b xs e=>tups b xs (I.base.tups b xs e),fun b o xs e=>frzs b o xs (I.base.frzs b o xs e),fun b ps e=>?_⟩,?_,fun x c e=>?_,?_,fun x c e=>?_,fun p hp=>?_,hok,I.len⟩
 ·exact keep b o (neL b o e) hb (neC b o e hx) (I.base.keep b o e n hb hx) (I.base.free b o e n hx)
 ·obtain⟨sl,e1⟩:=I.base.slot b o e n hb hx;obtain⟨sl',e2⟩:=slot b _ (neL b o e) hb (neC b o e hx) e1 (I.base.free b o e n hx);exact⟨sl',e2⟩
 ·obtain⟨o',e1⟩:=I.base.there b o e hx;exact free b o' (neC b o e hx) e1 (I.base.free b o e n hx)
 ·obtain⟨o',e1⟩:=I.base.there b o e hx;exact there b o' (neC b o e hx) e1
 ·obtain⟨m1,e1⟩:=I.base.tbls b ps e;obtain⟨m2,e2⟩:=tbls b _ e1;exact⟨m1++m2,by rw[e2,yd5]⟩
 ·obtain⟨m,hn,hl⟩:=I.loc;refine⟨m,ns m hn,fun i x v e1 e2 e3=>?_⟩
  obtain⟨u,r,l⟩:=hl i x v e1 e2 e3;refine⟨u,r,?_⟩
  rcases l with l|⟨k,c,e,z⟩
  ·exact .inl l
  ·exact .inr ⟨k,c,e,cellK x c e _ z⟩
 ·obtain⟨v,z⟩:=I.cell x c e;exact⟨v,cellK x c e v z⟩
 ·obtain⟨m,⟨o,_,_,ho,_⟩,_⟩:=I.loc;exact free _ o (fun z=>(hch _ z).2.1 rfl) ho I.free
 ·obtain⟨v,o,ho,hd⟩:=I.cell x c e;exact free c o (fun z=>(hch c z).2.2.1 x c e rfl) ho (I.freeC x c e)
 ·obtain⟨e,n,ne,nf,d⟩:=I.pin p hp;have nch:p.1∉ch:=fun z=>(hch p.1 z).2.2.2 p hp rfl
  exact⟨keep p.1 p.2 ne nf nch e n,free p.1 p.2 nch e n,ne,nf,d⟩
theorem Inv.un{t':Nat}(I:Inv X pins σ H s)(u:Un X.fs [] H H' s.heap h')(hok:HOk X.prog X.w H' h'):Inv X pins σ H' { s with heap:=h',toks:=t' }:=by
 obtain⟨m,⟨o,es,ep,ho,r⟩,_⟩:=id I.loc;obtain⟨sl,hL⟩:=u.any ho I.free (by simp)
 exact I.step (g':=s.gens) (d':=s.drawn) (ch:=[]) (fun _ z=>nomatch z) (fun b o _ hb _ e n=>u.keep b o e n hb (by simp)) (fun b o _ hb _ e n=>u.slot b o e n hb (by simp)) (fun b o _ e n=>u.free b o e n (by simp)) (fun b o _ e=>u.there b o e (by simp)) u.tups u.frzs u.tbls (fun m' hm=>by
  obtain⟨o',es',ep',ho',r'⟩:=hm;rw[ho]at ho';cases ho';exact⟨_,es',ep',hL,r'⟩) hok I.bare
theorem Inv.call{g':Array GenState}{t':Nat}{d':Drawn}{ch:List Addr}(I:Inv X pins σ H s)(u:Un (frs X.stack) ch H H' s.heap h')(hok:HOk X.prog X.w H' h')(hg:AllBare g')
  (hch:∀b∈ch,(b∈X.ex\/X.s₀.heap.objs.size<=b)/\b≠X.env.locals/\(∀x c,X.env.cells.lookup x=some c->c≠b)/\∀p∈X.pn++pins,p.1≠b) :
  Inv X pins σ H' { s with heap:=h',gens:=g',drawn:=d',toks:=t' }:=by
 obtain⟨m,⟨o,es,ep,ho,r⟩,_⟩:=id I.loc;obtain⟨sl,hL⟩:=u.any ho I.free fun z=>(hch _ z).2.1 rfl
 exact I.step (ch:=ch) hch (fun b o hL hb hc e n=>u.keep b o e n (fun z=>(yaj.mp (I.stkSub b z)).elim hL hb) hc) (fun b o _ _ hc e n=>u.any e n hc) (fun b o hc e n=>u.free b o e n hc) (fun b o hc e=>u.there b o e hc) u.tups u.frzs u.tbls (fun m' hm=>by
  obtain⟨o',es',ep',ho',r'⟩:=hm;rw[ho]at ho';cases ho';exact⟨_,es',ep',hL,r'⟩) hok hg
theorem Inv.turned{t':Nat}{it:Addr}(I:Inv X pins σ H s)(k:∀b o,b≠it->s.heap.get? b=some o->h'.get? b=some o)(hn:H it=none)(hL:it≠X.env.locals)
  (h1:it∈X.ex\/X.s₀.heap.objs.size<=it) (h2:∀x c,X.env.cells.lookup x=some c->c≠it) (h3:∀p∈X.pn++pins,p.1≠it):Inv X pins σ H { s with heap:=h',toks:=t' }:=by
 have nit:∀b u,H b=some u->b≠it:=fun b u e z=>by rw[z,hn]at e;cases e
 refine I.step (g':=s.gens) (d':=s.drawn) (ch:=[it]) (fun b hb=>?_) (fun b o _ _ hc e _=>k b o (fun z=>hc (by simp[z])) e) (fun b o _ _ hc e _=>⟨o.slots,k b o (fun z=>hc (by simp[z])) e⟩) (fun _ _ _ _ n=>n)
  (fun b o hc e=>⟨o,k b o (fun z=>hc (by simp[z])) e⟩) (fun _ _ e=>e) (fun _ _ _ e=>e) (fun b ps e=>⟨#[],by rw[e];simp⟩) (fun m hm=>?_) (fun b u e=>?_) I.bare
 ·have e:b=it:=by simpa using hb
  subst e;exact⟨h1,hL,h2,h3⟩
 ·obtain⟨o,es,ep,ho,r⟩:=hm;exact⟨o,es,ep,k _ o (yaz hL) ho,r⟩
 ·refine(I.hok b u e).stay (fun c v hc q=>k c v ?_ q) (fun _ q=>q) fun _ _ q=>q
  rcases hc with z|z
  ·rw[z];exact nit b u e
  ·exact nit c _ z
theorem Inv.tok(I:Inv X pins σ H s)(t:Nat):Inv X pins σ H { s with toks:=t }:=I.un (h':=s.heap) (t':=t) Un.refl I.hok
theorem Inv.kept{t':Nat}(I:Inv X pins σ H s)(k:∀b u,s.heap.get? b=some u->h'.get? b=some u):Inv X pins σ H { s with heap:=h',toks:=t' }:=I.un (Un.kept k) (I.hok.kept k)
theorem Inv.laid{a:Addr}{o:HO}{t':Nat}(I:Inv X pins σ H s)(k:∀b u,s.heap.get? b=some u->h'.get? b=some u)(hp:s.heap.objs.size<=a)(new:zbx X.prog X.w (upd H a o) h' a o) :
  Inv X pins σ (upd H a o) { s with heap:=h',toks:=t' }:=I.un (Un.laid k hp (I.hok.fresh hp)) (I.hok.laid k hp new)
theorem Inv.write{x e:Addr}{o:HO}{t':Nat}(I:Inv X pins σ H s)(mu:Mut (H x))(he:e=x\/H e=some (.own x))(k:∀b u,b≠e->s.heap.get? b=some u->h'.get? b=some u)(heo:∃u,h'.get? e=some u)
  (new:zbx X.prog X.w (upd H x o) h' x o):Inv X pins σ (upd H x o) { s with heap:=h',toks:=t' }:=I.un (Un.write mu he k heo) (I.hok.write mu he k heo new)
theorem Inv.weak{σ':List (Option V)}(I:Inv X pins σ H s)(hl:σ'.length=σ.length)(w:∀(i:Nat) v,σ'[i]?=some (some v)->σ[i]?=some (some v)):Inv X pins σ' H s :=
 ⟨I.ok,I.os,I.bare,I.base,let ⟨m,hn,hl'⟩:=I.loc;⟨m,hn,fun i x v e1 e2 e3=>hl' i x v e1 (w i v e2) e3⟩,I.cell,I.free,I.freeC,I.pin,I.hok,hl.trans I.len⟩
theorem Inv.pins_of{pins':List (Addr×Obj)}(I:Inv X pins σ H s)(h:∀p∈pins',s.heap.get? p.1=some p.2/\H p.1=none/\p.1≠X.env.locals/\p.1∉X.fs/\∀v,p.2.data≠.cell v):Inv X pins' σ H s :=
 ⟨I.ok,I.os,I.bare,I.base,I.loc,I.cell,I.free,I.freeC,fun p hp=>(yb7.mp hp).elim (fun z=>I.pin p (ybf _ z)) (h p),I.hok,I.len⟩
theorem nodup_ix{N:List Str}(hN:N.Nodup){i j:Nat}{x:Str}(a:N[i]?=some x)(b:N[j]?=some x):i=j:=by
 obtain⟨h1,e1⟩:=ya6.mp a;obtain⟨h2,e2⟩:=ya6.mp b;exact(ycn hN).mp (e1.trans e2.symm)
theorem store_ok2{M:Model}{A:Around}{E:Value->Shared->Prop}{i:Nat}{x:Str}{v:V}{u:Value}{Q:Unit->Shared->Prop}(I:Inv X pins σ H s)(hN:X.N.Nodup)(hi:X.N[i]?=some x)(hx:Loc X.env.scope x)(r:RelV v u)
  (h:∀s',Inv X pins (σ.set i (some v)) H s'->(∃a,Heap.SameBut a s.heap s'.heap/\(a=X.env.locals\/X.env.cells.lookup x=some a))->Q () s') (hf:X.fn x=true\/X.env.scope.names.lookup x=some .local:=by first|exact .inl rfl|exact .inr rfl|assumption):wpAny M A (storeName X.env x u) Q E s:=by
 obtain⟨m,hn,hl⟩:=id I.loc;have hcls:(X.env.scope.kind == .class || (X.env.scope.kind == .module && X.env.locals != X.env.globals))=false:=by rw[I.ok.kind];rfl
 have hiσ:i<σ.length:=by rw[I.len];exact(ya6.mp hi).1
 have cne:=I.cne
 have tracked:∀{a:Addr} {h':Heap},(∃o,s.heap.get? a=some o/\H a=none)->Heap.SameBut a s.heap h'->HOk X.prog X.w H h':=fun {a h'} ha hs b ob e=>by
  obtain⟨_,_,hfree⟩:=ha;refine(I.hok b ob e).stay (fun c w' hc q=>(hs.2 c ?_).trans q) (fun _ q=>q) fun _ _ q=>q
  rintro rfl
  rcases hc with rfl|hc
  ·rw[hfree]at e;cases e
  ·rw[hfree]at hc;cases hc
 rcases hx with hk|hk
 ·refine wpAny_storeName_local hk hn (fun h' hn' hs=>?_) hcls
  obtain⟨oL,_,_,hoL,_⟩:=id hn;refine h _ ⟨I.ok,I.os,I.bare,⟨fun b o e n hb hx=>?_,fun b o e n hb hx=>?_,I.base.free,fun b o e hx=>?_,I.base.tups,I.base.frzs,I.base.tbls⟩,⟨_,hn',fun j y v' e1 e2 e3=>?_⟩,fun y c e=>?_,I.free,I.freeC,fun p hp=>?_,tracked ⟨oL,hoL,I.free⟩ hs,by simpa using I.len⟩ ⟨_,hs,.inl rfl⟩
  ·exact(hs.2 b (yau (yai (yab e) I.ok.above))).trans (I.base.keep b o e n hb hx)
  ·obtain⟨sl,e1⟩:=I.base.slot b o e n hb hx;exact⟨sl,(hs.2 b (yau (yai (yab e) I.ok.above))).trans e1⟩
  ·obtain⟨o',e1⟩:=I.base.there b o e hx;exact⟨o',(hs.2 b (yau (yai (yab e) I.ok.above))).trans e1⟩
  ·by_cases hj:j=i
   ·subst hj;rw[hi]at e1;cases e1;rw[yam hiσ]at e2;cases e2;exact⟨u,r,.inl ⟨hk,by simp⟩⟩
   ·rw[yap (yaz hj)]at e2;obtain⟨u',r',q⟩:=hl j y v' e1 e2 e3;refine⟨u',r',?_⟩
    rcases q with ⟨k,e⟩|⟨k,c,e,z⟩
    ·refine .inl ⟨k,?_⟩;have:y≠x:=fun e=>hj (nodup_ix hN e1 (e▸hi))
     simp[this,e]
    ·exact .inr ⟨k,c,e,z.sameBut hs (cne y c e)⟩
  ·obtain⟨w',z⟩:=I.cell y c e;exact⟨w',z.sameBut hs (cne y c e)⟩
  ·obtain⟨e,n,ne,nf,d⟩:=I.pin p hp;exact⟨(hs.2 p.1 ne).trans e,n,ne,nf,d⟩
 ·have hfn:X.fn x=true:=by
   rcases hf with z|z
   ·exact z
   ·rw[z]at hk;cases hk
  obtain⟨c,hc⟩:=I.ok.has x (.inl hk);obtain⟨w',z⟩:=I.cell x c hc;refine wpAny_storeName_cell I.ok.kind hk hc z (fun h' hc' hs=>?_)
  obtain⟨oc,hoc,hocd⟩:=id z;refine h { s with heap:=h' } ⟨I.ok,I.os,I.bare,⟨fun b o e n hb hx=>?_,fun b o e n hb hx=>?_,I.base.free,fun b o e hx=>?_,I.base.tups,I.base.frzs,I.base.tbls⟩,⟨m,hn.sameBut hs (yaz (cne x c hc)),fun j y v' e1 e2 e3=>?_⟩,fun y c' e=>?_,I.free,I.freeC,fun p hp=>?_,tracked ⟨oc,hoc,I.freeC x c hc⟩ hs,by simpa using I.len⟩ ⟨c,hs,.inr hc⟩
  ·exact(hs.2 b (yau (yai (yab e) (I.ok.cab x c hfn hc)))).trans (I.base.keep b o e n hb hx)
  ·obtain⟨sl,e1⟩:=I.base.slot b o e n hb hx;exact⟨sl,(hs.2 b (yau (yai (yab e) (I.ok.cab x c hfn hc)))).trans e1⟩
  ·obtain⟨o',e1⟩:=I.base.there b o e hx;exact⟨o',(hs.2 b (yau (yai (yab e) (I.ok.cab x c hfn hc)))).trans e1⟩
  ·by_cases hj:j=i
   ·subst hj;rw[hi]at e1;cases e1;rw[yam hiσ]at e2;cases e2;exact⟨u,r,.inr ⟨.inl hk,c,hc,hc'⟩⟩
   ·rw[yap (yaz hj)]at e2;obtain⟨u',r',q⟩:=hl j y v' e1 e2 e3;refine⟨u',r',?_⟩
    rcases q with q|⟨k,c',e,z'⟩
    ·exact .inl q
    ·refine .inr ⟨k,c',e,z'.sameBut hs ?_⟩;rintro rfl;exact hj (nodup_ix hN e1 (I.ok.inj _ _ _ e hc▸hi))
  ·by_cases hcc:c'=c
   ·subst hcc;exact⟨_,hc'⟩
   ·obtain⟨w2,z2⟩:=I.cell y c' e;exact⟨w2,z2.sameBut hs hcc⟩
  ·obtain⟨e,n,ne,nf,d⟩:=I.pin p hp;refine⟨(hs.2 p.1 ?_).trans e,n,ne,nf,d⟩;intro q;rw[q,hoc]at e;have q':oc=p.2:=yal e;exact d w' (by rw[<- q'];exact hocd)
theorem zj5{M:Model}{A:Around}{E:Value->Shared->Prop}{i:Nat}{x:Str}{v:V}{u:Value}{Q:Unit->Shared->Prop}(I:Inv X pins σ H s)(hN:X.N.Nodup)(hi:X.N[i]?=some x)(hx:Loc X.env.scope x)(r:RelV v u)
  (h:∀s',Inv X pins (σ.set i (some v)) H s'->Q () s') (hf:X.fn x=true\/X.env.scope.names.lookup x=some .local:=by first|exact .inl rfl|exact .inr rfl|assumption):wpAny M A (storeName X.env x u) Q E s :=
 store_ok2 I hN hi hx r (fun s' I' _=>h s' I') hf
theorem Inv.call'{s':Shared}{ch:List Addr}(I:Inv X pins σ H s)(ho:s'.os=s.os)(u:Un (frs X.stack) ch H H' s.heap s'.heap)(hok:HOk X.prog X.w H' s'.heap)(hg:AllBare s'.gens)
  (hch:∀b∈ch,(b∈X.ex\/X.s₀.heap.objs.size<=b)/\b≠X.env.locals/\(∀x c,X.env.cells.lookup x=some c->c≠b)/\∀p∈X.pn++pins,p.1≠b):Inv X pins σ H' s':=by
 obtain⟨h',g',d',t',o'⟩:=s';have e:o'=s.os:=ho;subst e;exact I.call (g':=g') (t':=t') (d':=d') u hok hg hch
end
abbrev XK:=Value->Option Addr->Hp->Prop
abbrev St:=List (Option V)
abbrev VK:=V->Hp->Prop
abbrev TE:=St->Hp->VK->Prop
abbrev TT:=St->Hp->(Bool->Hp->Prop)->Prop
abbrev TA:=St->Hp->(List V->Hp->Prop)->Prop
structure Ends where
 nx:St->Hp->Prop
 rt:VK
 bk:St->Hp->Prop:=fun _ _=>False
 ct:St->Hp->Prop:=fun _ _=>False
abbrev TS:=Ends->St->Hp->Prop
def EP(X:Cx)(pins:List (Addr×Obj))(σ:St)(Q:VK)(u:Value)(s':Shared):Prop:=∃v H',Inv X pins σ H' s'/\RelV v u/\Q v H'
def TP(X:Cx)(pins:List (Addr×Obj))(σ:St)(Q:Bool->Hp->Prop)(b:Bool)(s':Shared):Prop:=∃H',Inv X pins σ H' s'/\Q b H'
def AP(X:Cx)(pins:List (Addr×Obj))(σ:St)(Q:List V->Hp->Prop)(us:List Value)(s':Shared):Prop:=∃vs H',Inv X pins σ H' s'/\zbl vs us/\Q vs H'
def SP(X:Cx)(pins:List (Addr×Obj))(D:Ends)(f:Flow)(s':Shared):Prop :=
 match f with
 |.next=>∃σ' H',Inv X pins σ' H' s'/\D.nx σ' H'
 |.brk=>∃σ' H',Inv X pins σ' H' s'/\D.bk σ' H'
 |.cont=>∃σ' H',Inv X pins σ' H' s'/\D.ct σ' H'
 |.ret u=>∃v σ' H',Inv X pins σ' H' s'/\RelV v u/\D.rt v H'
def PE(X:Cx)(e:Expr)(t:TE):Prop :=
 ∀(pins:List (Addr×Obj)) (s:Shared) (σ:St) (H:Hp) (Q:VK),Inv X pins σ H s->t σ H Q->wpAny (model X.prog X.w) X.A (eval e X.env) (EP X pins σ Q) X.xe s
def PT(X:Cx)(e:Expr)(t:TT):Prop :=
 ∀(pins:List (Addr×Obj)) (s:Shared) (σ:St) (H:Hp) (Q:Bool->Hp->Prop),Inv X pins σ H s->t σ H Q->wpAny (model X.prog X.w) X.A (isTrue e X.env (eval e X.env)) (TP X pins σ Q) X.xe s
def PW(X:Cx)(e:Expr)(t:TT):Prop :=
 ∀(whole:Sem Value) (pins:List (Addr×Obj)) (s:Shared) (σ:St) (H:Hp) (Q:Bool->Hp->Prop),Inv X pins σ H s->t σ H Q->wpAny (model X.prog X.w) X.A (isTrue e X.env whole) (TP X pins σ Q) X.xe s
theorem PW.pt{X:Cx}{e:Expr}{t:TT}(h:PW X e t):PT X e t:=h _
def PA(X:Cx)(es:List Expr)(t:TA):Prop :=
 ∀(pos:Pos) (pins:List (Addr×Obj)) (s:Shared) (σ:St) (H:Hp) (Q:List V->Hp->Prop),Inv X pins σ H s->t σ H Q->wpAny (model X.prog X.w) X.A (spliced (backTo pos (starEach es X.env))) (AP X pins σ Q) X.xe s
def PS(X:Cx)(st:Stmt)(t:TS):Prop :=
 ∀(pins:List (Addr×Obj)) (s:Shared) (σ:St) (H:Hp) (D:Ends),Inv X pins σ H s->t D σ H->wpAny (model X.prog X.w) X.A (exec st X.env) (SP X pins D) X.xe s
def PSs(X:Cx)(st:List Stmt)(t:TS):Prop :=
 ∀(pins:List (Addr×Obj)) (s:Shared) (σ:St) (H:Hp) (D:Ends),Inv X pins σ H s->t D σ H->wpAny (model X.prog X.w) X.A (execs st X.env) (SP X pins D) X.xe s
theorem thn{α:Type}{t:Sem α}{Q Q':α->Shared->Prop}{M:Model}{A:Around}{E:Value->Shared->Prop}{s:Shared}(h:wpAny M A t Q E s)(hQ:∀a s,Q a s->Q' a s):wpAny M A t Q' E s:=wpAny_mono h hQ fun _ _ x=>x
section
variable {X:Cx}
def tVar(i:Nat):TE:=fun σ H Q=>∃v,σ[i]?=some (some v)/\Q v H
def tC(v:V):TE:=fun _ H Q=>Q v H
theorem zlp{i:Nat}{x:Str}{pos:Pos}(hN:X.N[i]?=some x)(hv:Vis X.env.scope x)(hd:(x == ("__debug__":Str))=false:=by decide)(hcd:(x == ("__classdict__":Str))=false:=by decide):PE X (.Name x pos) (tVar i):=by
 intro pins s σ H Q I h;obtain⟨v,e,h⟩:=h;obtain⟨m,hn,hl⟩:=I.loc;obtain⟨u,r,l⟩:=hl i x v hN e hv;have fin:EP X pins σ Q u s:=⟨v,H,I,r,h⟩
 rcases l with ⟨hk,hm⟩|⟨hk,c,hc,hcell⟩
 ·exact wpAny_Name (wpAny_loadName_local I.ok.kind hk hn hm fin) hd
 ·rcases hk with hk|hk
  ·exact wpAny_Name (wpAny_loadName_cell I.ok.kind hk hc hcell fin) hd
  ·exact wpAny_Name (wpAny_loadName_free I.ok.kind hk hc hcell fin hcd) hd
theorem pe_int{i j pos}:PE X (.Constant (.int i) j pos) (tC (.int i)):=fun _ _ _ H _ I h=>wpAny_Constant_int ⟨.int i,H,I.tok _,⟨_,rfl⟩,h⟩
theorem pe_bl{b j pos}:PE X (.Constant (.bool b) j pos) (tC (.bl b)):=fun _ _ _ H _ I h=>Constant_bool ⟨.bl b,H,I,rfl,h⟩
theorem pe_non{j pos}:PE X (.Constant .none j pos) (tC .non):=fun _ _ _ H _ I h=>Constant_none ⟨.non,H,I,rfl,h⟩
theorem pe_str{x j pos}:PE X (.Constant (.str x) j pos) (tC (.str x)):=fun _ _ _ H _ I h=>Calls.Constant_str ⟨.str x,H,I.tok _,⟨_,rfl⟩,h⟩
def Gl(X:Cx)(x:Str):Prop:=X.env.kindOf x=some .globalImplicit
theorem zi7{E:Value->Shared->Prop}{pins:List (Addr×Obj)}{s:Shared}{σ:St}{H:Hp}{x:Str}{u:Value}{pos:Pos}{Q:Value->Shared->Prop}(I:Inv X pins σ H s)(hg:Gl X x)(hm:X.mg x=some u)(h:Q u s)
  (hd:(x == ("__debug__":Str))=false:=by decide):wpAny (model X.prog X.w) X.A (eval (.Name x pos) X.env) Q E s :=
 Calls.Name_function_global I.ok.kind hg (Calls.loadGlobal_global (by rw[I.ok.glob];exact I.mod.glob.keeps I.bk) hm h) hd
theorem zlv{E:Value->Shared->Prop}{pins:List (Addr×Obj)}{s:Shared}{σ:St}{H:Hp}{x:Str}{u:Value}{pos:Pos}{Q:Value->Shared->Prop}(I:Inv X pins σ H s)(hg:Gl X x)(hm:X.mg x=none)(hv:bootBuiltins x=some u)(h:Q u s)
  (hn:x≠"__name__":=by decide) (hd:(x == ("__debug__":Str))=false:=by decide):wpAny (model X.prog X.w) X.A (eval (.Name x pos) X.env) Q E s:=by
 obtain⟨mb,h1,h2⟩:=I.mod.blt;exact Calls.Name_function_global I.ok.kind hg (Calls.loadGlobal_builtin (by rw[I.ok.glob];exact I.mod.glob.keeps I.bk) hm (by rw[I.ok.blt];exact h1.keeps I.bk) ((h2 x hn).trans hv) h) hd
theorem zjr{x:Str}{v:V}{u:Value}{pos:Pos}(hg:Gl X x)(hm:X.mg x=some u)(r:RelV v u)(hd:(x == ("__debug__":Str))=false:=by decide):PE X (.Name x pos) (tC v) :=
 fun _ _ _ H _ I h=>zi7 I hg hm ⟨v,H,I,r,h⟩ hd
theorem pe_bltn{x:Str}{v:V}{u:Value}{pos:Pos}(hg:Gl X x)(hm:X.mg x=none)(hv:bootBuiltins x=some u)(r:RelV v u)(hn:x≠"__name__":=by decide)(hd:(x == ("__debug__":Str))=false:=by decide):PE X (.Name x pos) (tC v) :=
 fun _ _ _ H _ I h=>zlv I hg hm hv ⟨v,H,I,r,h⟩ hn hd
variable {a b:Expr}{ta tb:TE}{pos:Pos}
def tB(t:TE):TT:=fun σ H Q=>t σ H fun x H1=>∃c,x=.bl c/\Q c H1
theorem pt_val{e:Expr}{t:TE}(h:PE X e t)(he:∀whole,isTrue e X.env whole=(do let v <- whole;standAt e.pos;holding [v] (truthy v)):=by intro _;rfl):PT X e (tB t):=by
 intro pins s σ H Q I hw;refine isTrue_plain (thn (h pins s σ H _ I hw) fun v s1 ⟨x,H1,I1,r1,q1⟩=>?_) (he _)
 obtain⟨d,rfl,q⟩:=q1;cases r1;exact wpAny_truthy_bool ⟨H1,I1,q⟩
variable {tA tB':TT}{zgb:List Expr}
def tAnd(t u:TT):TT:=fun σ H Q=>t σ H fun c H1=>if c=true then u σ H1 Q else Q false H1
def tOr(t u:TT):TT:=fun σ H Q=>t σ H fun c H1=>if c=true then Q true H1 else u σ H1 Q
def tNot(t:TT):TT:=fun σ H Q=>t σ H fun c H1=>Q (!c) H1
theorem pw_and1(ha:PT X a tA):PW X (.BoolOp .And [a] pos) tA:=by
 intro wh pins s σ H Q I h;refine isTrue_and (thn (ha pins s σ H Q I h) fun c s1 e=>?_)
 cases c with
 |true=>exact isTrue_and_nil e
 |false=>exact e
theorem pw_or1(ha:PT X a tA):PW X (.BoolOp .Or [a] pos) tA:=by
 intro wh pins s σ H Q I h;refine isTrue_or (thn (ha pins s σ H Q I h) fun c s1 e=>?_)
 cases c with
 |false=>exact isTrue_or_nil e
 |true=>exact e
theorem pw_and(ha:PT X a tA)(hb:PW X (.BoolOp .And (b::zgb) pos) tB'):PW X (.BoolOp .And (a::b::zgb) pos) (tAnd tA tB'):=by
 intro wh pins s σ H Q I h;refine isTrue_and (thn (ha pins s σ H _ I h) fun c s1 ⟨H1,I1,q1⟩=>?_)
 cases c with
 |true=>exact hb wh pins s1 σ H1 Q I1 q1
 |false=>exact⟨H1,I1,q1⟩
theorem pw_or(ha:PT X a tA)(hb:PW X (.BoolOp .Or (b::zgb) pos) tB'):PW X (.BoolOp .Or (a::b::zgb) pos) (tOr tA tB'):=by
 intro wh pins s σ H Q I h;refine isTrue_or (thn (ha pins s σ H _ I h) fun c s1 ⟨H1,I1,q1⟩=>?_)
 cases c with
 |true=>exact⟨H1,I1,q1⟩
 |false=>exact hb wh pins s1 σ H1 Q I1 q1
theorem pt_not(ha:PT X a tA):PT X (.UnaryOp .Not a pos) (tNot tA):=by
 intro pins s σ H Q I h;exact isTrue_not (ha pins s σ H (fun c H1=>Q (!c) H1) I h)
def tAndV(ta tb:TE):TE:=fun σ H Q=>ta σ H fun x H1=>∃c,x=.bl c/\if c=true then tb σ H1 Q else Q (.bl false) H1
def tOrV(ta tb:TE):TE:=fun σ H Q=>ta σ H fun x H1=>∃c,x=.bl c/\if c=true then Q (.bl true) H1 else tb σ H1 Q
def tNotV(ta:TE):TE:=fun σ H Q=>ta σ H fun x H1=>∃c,x=.bl c/\Q (.bl (!c)) H1
theorem pe_one{op}{t:TE}(h:PE X a t):PE X (.BoolOp op [a] pos) t:=fun pins s σ H Q I hw=>BoolOp_one (h pins s σ H Q I hw)
theorem pe_and(ha:PE X a ta)(hb:PE X (.BoolOp .And (b::zgb) pos) tb):PE X (.BoolOp .And (a::b::zgb) pos) (tAndV ta tb):=by
 intro pins s σ H Q I h;refine BoolOp_and (thn (ha pins s σ H _ I h) fun v s1 ⟨x,H1,I1,r1,q1⟩=>?_)
 obtain⟨c,rfl,q1⟩:=q1;cases r1;refine wpAny_truthy_bool ?_;cases c with
 |true=>exact hb pins s1 σ H1 Q I1 q1
 |false=>exact⟨.bl false,H1,I1,rfl,q1⟩
theorem pe_or(ha:PE X a ta)(hb:PE X (.BoolOp .Or (b::zgb) pos) tb):PE X (.BoolOp .Or (a::b::zgb) pos) (tOrV ta tb):=by
 intro pins s σ H Q I h;refine BoolOp_or (thn (ha pins s σ H _ I h) fun v s1 ⟨x,H1,I1,r1,q1⟩=>?_)
 obtain⟨c,rfl,q1⟩:=q1;cases r1;refine wpAny_truthy_bool ?_;cases c with
 |false=>exact hb pins s1 σ H1 Q I1 q1
 |true=>exact⟨.bl true,H1,I1,rfl,q1⟩
theorem pe_not(ha:PE X a ta):PE X (.UnaryOp .Not a pos) (tNotV ta):=by
 intro pins s σ H Q I h;refine UnaryOp_ (thn (ha pins s σ H _ I h) fun v s1 ⟨x,H1,I1,r1,q1⟩=>?_)
 obtain⟨c,rfl,q1⟩:=q1;cases r1;exact not_of (wpAny_truthy_bool ⟨.bl (!c),H1,I1,rfl,q1⟩)
def tIf(t:TT)(ta tb:TE):TE:=fun σ H Q=>t σ H fun c H1=>if c=true then ta σ H1 Q else tb σ H1 Q
theorem pe_ifExp{c:Expr}(hc:PT X c tA)(ha:PE X a ta)(hb:PE X b tb):PE X (.IfExp c a b pos) (tIf tA ta tb):=by
 intro pins s σ H Q I h;refine wpAny_IfExp (thn (hc pins s σ H _ I h) fun d s1 ⟨H1,I1,q1⟩=>?_)
 cases d with
 |true=>exact ha pins s1 σ H1 Q I1 q1
 |false=>exact hb pins s1 σ H1 Q I1 q1
end
def SqL(K:PySem.W.Frag)(H:Hp)(a:Addr)(xs:List V):Prop :=
 Rd H a (.lst xs) \/
  ∃(o:Obj) (its:Array Value) (n:Nat),K.lookup a=some o/\o.cls=.type "list"/\o.dict=none/\o.data=.seq its n/\its.size<=sizeLine/\zbl xs its.toList
def SqT(K:PySem.W.Frag)(H:Hp)(a:Addr)(xs:List V):Prop :=
 Rd H a (.tup xs) \/
  ∃(o:Obj) (its:Array Value) (n:Nat),K.lookup a=some o/\o.cls=.type "tuple"/\o.data=.seq its n/\its.size<=sizeLine/\zbl xs its.toList
def absV:Value->Option V
 |.none=>some .non
 |.bool b=>some (.bl b)
 |.int i _=>some (.int i)
 |.str x _=>some (.str x)
 |.bytes b _=>some (.byt b)
 |.float b _=>some (.flt b)
 |.ref a=>some (.ref a)
 |.type n=>some (.ty n)
 |_=>none
theorem RelV.abs{x:V}{u:Value}(r:RelV x u):absV u=some x:=by
 cases x with
 |non=>cases r;rfl
 |bl _=>cases r;rfl
 |int _=>obtain⟨t,rfl⟩:=r;rfl
 |str _=>obtain⟨t,rfl⟩:=r;rfl
 |byt _=>obtain⟨t,rfl⟩:=r;rfl
 |flt _=>obtain⟨t,rfl⟩:=r;rfl
 |ref _=>cases r;rfl
 |ty _=>cases r;rfl
theorem RelV.inj{x y:V}{u:Value}(r:RelV x u)(q:RelV y u):x=y:=yal (r.abs.symm.trans q.abs)
theorem zbl.inj:∀{xs ys:List V} {us:List Value},zbl xs us->zbl ys us->xs=ys
 |_,_,_,.nil,.nil=>rfl
 |_,_,_,.cons r t,.cons r' t'=>by rw[r.inj r',zbl.inj t t']
section
variable {X:Cx}{pins:List (Addr×Obj)}{σ:St}{H:Hp}{s:Shared}{a:Addr}{xs ys:List V}
theorem SqL.of{K:PySem.W.Frag}(h:H a=some (.lst xs)):SqL K H a xs:=.inl (.inl h)
theorem SqT.of{K:PySem.W.Frag}(h:H a=some (.tup xs)):SqT K H a xs:=.inl (.inl h)
theorem Inv.list(I:Inv X pins σ H s)(h:SqL X.K H a xs):∃its:List Value,zbl xs its/\PlainL s.heap a its.toArray/\xs.length<=sizeLine:=by
 rcases h with h|⟨o,its,n,hk,hc,hd,hs,hz,r⟩
 ·obtain⟨z,its,n,r,e⟩:=h.ok I.hok;exact⟨its,r,⟨_,n,e,rfl,rfl,rfl⟩,z⟩
 ·refine⟨its.toList,r,⟨o,n,I.kIn a o hk,hc,hd,by simpa using hs⟩,?_⟩
  have e:=r.length;simp only[yd0]at e
  omega
theorem Inv.tuple(I:Inv X pins σ H s)(h:SqT X.K H a xs):∃its:List Value,zbl xs its/\IsTup s.heap a its.toArray/\xs.length<=sizeLine:=by
 rcases h with h|⟨o,its,n,hk,hc,hs,hz,r⟩
 ·obtain⟨z,its,r,p⟩:=h.ok I.hok;exact⟨its,r,p,z⟩
 ·refine⟨its.toList,r,⟨o,I.kIn a o hk,hc,n,by simpa using hs⟩,?_⟩
  have e:=r.length;simp only[yd0]at e
  omega
theorem Inv.list_inj(I:Inv X pins σ H s)(h:SqL X.K H a xs)(h':SqL X.K H a ys):xs=ys:=by
 obtain⟨its,r,⟨o,n,e,_,_,d⟩,_⟩:=I.list h;obtain⟨its',r',⟨o',n',e',_,_,d'⟩,_⟩:=I.list h';rw[e]at e';cases e';rw[d]at d';injection d' with d1 _
 have:its=its':=by simpa using congrArg Array.toList d1
 subst this;exact r.inj r'
theorem Inv.tuple_inj(I:Inv X pins σ H s)(h:SqT X.K H a xs)(h':SqT X.K H a ys):xs=ys:=by
 obtain⟨its,r,⟨o,e,_,n,d⟩,_⟩:=I.tuple h;obtain⟨its',r',⟨o',e',_,n',d'⟩,_⟩:=I.tuple h';rw[e]at e';cases e';rw[d]at d';injection d' with d1 _
 have:its=its':=by simpa using congrArg Array.toList d1
 subst this;exact r.inj r'
end
abbrev Cx.wish(X:Cx)(E:Value->Shared->Prop):Cx:={ X with xe:=E }
abbrev Cx.nox(X:Cx):Cx:=X.wish fun _ _=>False
theorem Cx.Ok.wish{X:Cx}(ok:X.Ok)(E:Value->Shared->Prop):(X.wish E).Ok :=
 ⟨ok.mod,ok.kind,ok.glob,ok.blt,ok.above,ok.inj,ok.has,ok.cab,ok.hd,ok.frames,ok.stk,ok.exf,ok.bs,ok.bsz,ok.noex,ok.exfs,ok.funs,ok.frf⟩
theorem Cx.Ok.unwish{X:Cx}{E:Value->Shared->Prop}(ok:(X.wish E).Ok):X.Ok :=
 ⟨ok.mod,ok.kind,ok.glob,ok.blt,ok.above,ok.inj,ok.has,ok.cab,ok.hd,ok.frames,ok.stk,ok.exf,ok.bs,ok.bsz,ok.noex,ok.exfs,ok.funs,ok.frf⟩
section
variable {X:Cx}{pins:List (Addr×Obj)}{σ:St}{H:Hp}{s:Shared}{E:Value->Shared->Prop}
theorem Inv.wish(I:Inv X pins σ H s)(E:Value->Shared->Prop):Inv (X.wish E) pins σ H s:=⟨I.ok.wish E,I.os,I.bare,I.base,I.loc,I.cell,I.free,I.freeC,I.pin,I.hok,I.len⟩
theorem Inv.unwish(I:Inv (X.wish E) pins σ H s):Inv X pins σ H s:=⟨I.ok.unwish,I.os,I.bare,I.base,I.loc,I.cell,I.free,I.freeC,I.pin,I.hok,I.len⟩
theorem SP.unwish{D:Ends}{f:Flow}{s':Shared}(h:SP (X.wish E) pins D f s'):SP X pins D f s':=by
 cases f with
 |next=>obtain⟨σ',H',I,q⟩:=h;exact⟨σ',H',I.unwish,q⟩
 |brk=>obtain⟨σ',H',I,q⟩:=h;exact⟨σ',H',I.unwish,q⟩
 |cont=>obtain⟨σ',H',I,q⟩:=h;exact⟨σ',H',I.unwish,q⟩
 |ret u=>obtain⟨v,σ',H',I,r,q⟩:=h;exact⟨v,σ',H',I.unwish,r,q⟩
theorem PE.nox{e:Expr}{t:TE}(h:PE X.nox e t):PE X e t:=fun pins s σ H Q I hw =>
 wpAny_mono (h pins s σ H Q (I.wish _) hw) (fun _ _ ⟨v,H',I',r,q⟩=>⟨v,H',I'.unwish,r,q⟩) fun _ _ z=>False.elim z
theorem PT.nox{e:Expr}{t:TT}(h:PT X.nox e t):PT X e t:=fun pins s σ H Q I hw =>
 wpAny_mono (h pins s σ H Q (I.wish _) hw) (fun _ _ ⟨H',I',q⟩=>⟨H',I'.unwish,q⟩) fun _ _ z=>False.elim z
theorem PSs.nox{st:List Stmt}{t:TS}(h:PSs X.nox st t):PSs X st t:=fun pins s σ H D I hw =>
 wpAny_mono (h pins s σ H D (I.wish _) hw) (fun _ _ q=>q.unwish) fun _ _ z=>False.elim z
end
section
variable {X:Cx}{st:Stmt}{zgb:List Stmt}{t u:TS}{e:Expr}{te:TE}{pos:Pos}
def tNext:TS:=fun D σ H=>D.nx σ H
def tSeq(t u:TS):TS:=fun D σ H=>t { D with nx:=u D } σ H
theorem pss_nil:PSs X [] tNext:=fun _ _ σ H _ I h=>wpAny_execs_nil ⟨σ,H,I,h⟩
theorem pss_cons(h1:PS X st t)(h2:PSs X zgb u):PSs X (st::zgb) (tSeq t u):=by
 intro pins s σ H D I h;refine wpAny_execs_cons (thn (h1 pins s σ H { D with nx:=u D } I h) fun f s1 q=>?_)
 cases f with
 |next =>
  obtain⟨σ',H',I',q⟩:=q;exact h2 pins s1 σ' H' D I' q
 |ret v=>exact q
 |brk=>exact q
 |cont=>exact q
theorem pss_one(h1:PS X st t):PSs X [st] t:=by
 intro pins s σ H D I h;refine wpAny_execs_cons (thn (h1 pins s σ H D I h) fun f s1 q=>?_)
 cases f with
 |next=>exact wpAny_execs_nil q
 |ret v=>exact q
 |brk=>exact q
 |cont=>exact q
def tBreak:TS:=fun D σ H=>D.bk σ H
def tCont:TS:=fun D σ H=>D.ct σ H
theorem ps_pass:PS X (.Pass pos) tNext:=fun _ _ σ H _ I h=>wpAny_Pass ⟨σ,H,I,h⟩
theorem ps_break:PS X (.Break pos) tBreak:=fun _ _ σ H _ I h=>wpAny_Break ⟨σ,H,I,h⟩
theorem ps_continue:PS X (.Continue pos) tCont:=fun _ _ σ H _ I h=>wpAny_Continue ⟨σ,H,I,h⟩
theorem Inv.quiet{pins:List (Addr×Obj)}{σ:St}{H:Hp}{s:Shared}(I:Inv X pins σ H s):interactive X.env=false:=by simp[interactive,I.ok.kind]
def tDrop(te:TE):TS:=fun D σ H=>te σ H fun _ H1=>D.nx σ H1
theorem ps_expr(he:PE X e te)(hs:swapsWith e none pos.line X.env=pure false:=by rfl):PS X (.Expr e pos) (tDrop te):=by
 intro pins s σ H D I h;exact wpAny_Expr_any (thn (he pins s σ H _ I h) fun v s1 ⟨x,H1,I1,r1,q1⟩=>⟨σ,H1,I1,q1⟩) I.quiet hs
def tRet(te:TE):TS:=fun D σ H=>te σ H D.rt
theorem ps_ret(he:PE X e te):PS X (.Return (some e) pos) (tRet te):=by
 intro pins s σ H D I h;exact wpAny_Return_some (thn (he pins s σ H _ I h) fun v s1 ⟨x,H1,I1,r1,q1⟩=>⟨x,σ,H1,I1,r1,q1⟩)
def tRetN:TS:=fun D _ H=>D.rt .non H
theorem ps_retN:PS X (.Return none pos) tRetN:=fun _ _ σ H _ I h=>wpAny_Return_none ⟨.non,σ,H,I,rfl,h⟩
def tIfS(c:TT)(t u:TS):TS:=fun D σ H=>c σ H fun b H1=>if b=true then t D σ H1 else u D σ H1
theorem ps_if{c:Expr}{a b:List Stmt}{tc:TT}(hc:PT X c tc)(ha:PSs X a t)(hb:PSs X b u):PS X (.If c a b pos) (tIfS tc t u):=by
 intro pins s σ H D I h;refine wpAny_If (thn (hc pins s σ H _ I h) fun d s1 ⟨H1,I1,q1⟩=>?_)
 cases d with
 |true=>exact ha pins s1 σ H1 D I1 q1
 |false=>exact hb pins s1 σ H1 D I1 q1
end
abbrev TG:=V->St->Hp->(St->Hp->Prop)->Prop
abbrev TGs:=List V->St->Hp->(St->Hp->Prop)->Prop
def PG(X:Cx)(target:Expr)(t:TG):Prop :=
 ∀(pins:List (Addr×Obj)) (s:Shared) (σ:St) (H:Hp) (v:V) (u:Value) (Q:St->Hp->Prop),Inv X pins σ H s->RelV v u->t v σ H Q ->
  wpAny (model X.prog X.w) X.A (assign target X.env u) (fun _ s'=>∃σ' H',Inv X pins σ' H' s'/\Q σ' H') X.xe s
def PGs(X:Cx)(ts:List Expr)(t:TGs):Prop :=
 ∀(pins:List (Addr×Obj)) (s:Shared) (σ:St) (H:Hp) (vs:List V) (us:List Value) (Q:St->Hp->Prop),Inv X pins σ H s->zbl vs us->t vs σ H Q ->
  wpAny (model X.prog X.w) X.A (assignInOrder ((assignEach ts X.env).map (·.2)) us) (fun _ s'=>∃σ' H',Inv X pins σ' H' s'/\Q σ' H') X.xe s
abbrev TSet:=V->V->V->Hp->(Hp->Prop)->Prop
def PSet(X:Cx)(t:TSet):Prop :=
 ∀(pins:List (Addr×Obj)) (s:Shared) (σ:St) (H:Hp) (o i v:V) (ov iv u:Value) (Q:Hp->Prop),Inv X pins σ H s->RelV o ov->RelV i iv->RelV v u->t o i v H Q ->
  wpAny (model X.prog X.w) X.A (setItem ov iv u) (fun _ s'=>∃H',Inv X pins σ H' s'/\Q H') X.xe s
section
variable {X:Cx}{pos:Pos}
def gName(i:Nat):TG:=fun v σ H Q=>Q (σ.set i (some v)) H
theorem pg_name{i:Nat}{x:Str}(hN:X.N.Nodup)(hi:X.N[i]?=some x)(hx:Loc X.env.scope x)(hf:X.fn x=true\/X.env.scope.names.lookup x=some .local:=by first|exact .inl rfl|exact .inr rfl|assumption):PG X (.Name x pos) (gName i):=by
 intro pins s σ H v u Q I r h;exact wpAny_assign_Name (zj5 I hN hi hx r (fun s' I'=>⟨_,H,I',h⟩) hf)
def gNil:TGs:=fun vs σ H Q=>vs=[]/\Q σ H
def gCons(t:TG)(u:TGs):TGs:=fun vs σ H Q=>∃v r,vs=v::r/\t v σ H fun σ' H'=>u r σ' H' Q
theorem pgs_nil:PGs X [] gNil:=by
 intro pins s σ H vs us Q I r h;obtain⟨e,h⟩:=h;subst e;cases r;exact assignInOrder_nil ⟨σ,H,I,h⟩
theorem pgs_cons{e:Expr}{es:List Expr}{t:TG}{u:TGs}(h1:PG X e t)(h2:PGs X es u)
  (hs:(assignEach (e::es) X.env).map (·.2)=assign e X.env::(assignEach es X.env).map (·.2):=by rfl):PGs X (e::es) (gCons t u):=by
 intro pins s σ H vs us Q I r h;obtain⟨v,vr,e1,h⟩:=h;subst e1;cases r with
 |cons r rr =>
  rw[hs];refine assignInOrder_cons (thn (h1 pins s σ H _ _ _ I r h) fun _ s1 ⟨σ1,H1,I1,q1⟩=>?_)
  exact h2 pins s1 σ1 H1 _ _ Q I1 rr q1
def gTup(K:PySem.W.Frag)(n:Nat)(t:TGs):TG:=fun v σ H Q=>∃a xs,v=.ref a/\SqT K H a xs/\xs.length=n/\t xs σ H Q
theorem pg_tup{es:List Expr}{k:Nat}{t:TGs}{n:Nat}(hc:X.calm=true)(h:PGs X es t)
  (hn:(assignEach es X.env).length=n:=by rfl) (hst:(assignEach es X.env).findIdx? (·.1)=none:=by rfl):PG X (.Tuple es k pos) (gTup X.K n t):=by
 intro pins s σ H v u Q I r hw;obtain⟨a,xs,e1,hq,hl,hw⟩:=hw;subst e1;cases r;obtain⟨its,rv,ht,hz⟩:=I.tuple hq;refine assign_Tuple_tuple (I.ok.hd hc) ht (by simp[hn,<- hl,rv.length]) hst fun h' hx=>?_
 have I1:Inv X pins σ H { s with heap:=h' }:=I.kept (t':=s.toks) fun b o e=>hx b o (yau (yab e)) e
 exact h pins _ σ H xs _ Q I1 (by simpa using rv) hw
def gSub(to ti:TE)(t:TSet):TG:=fun v σ H Q=>to σ H fun o H1=>ti σ H1 fun i H2=>t o i v H2 fun H3=>Q σ H3
theorem pg_sub{o i:Expr}{to ti:TE}{t:TSet}(ho:PE X o to)(hi:PE X i ti)(hs:PSet X t)
  (ha : ∀ v, assign (.Subscript o i pos) X.env v = (do
   let ov <- holding [v] (eval o X.env);let iv <- holding [v,ov] (eval i X.env)
   standAt pos
   holding [v,ov,iv] (setItem ov iv v)
   release [v,ov,iv] []):=by intro _;rfl):PG X (.Subscript o i pos) (gSub to ti t):=by
 intro pins s σ H v u Q I r h;rw[ha];refine wpAny_bind (wpAny_holding (thn (ho pins s σ H _ I h) fun ov s1 ⟨x,H1,I1,r1,q1⟩=>?_))
 refine wpAny_bind (wpAny_holding (thn (hi pins s1 σ H1 _ I1 q1) fun iv s2 ⟨y,H2,I2,r2,q2⟩=>?_))
 refine wpAny_bind (wpAny_standAt (wpAny_bind (wpAny_holding (thn (hs pins s2 σ H2 x y v ov iv u _ I2 r1 r2 r q2) fun _ s3 ⟨H3,I3,q3⟩=>?_))))
 exact wpAny_release ⟨σ,H3,I3,q3⟩
def tAsg(te:TE)(g:TG):TS:=fun D σ H=>te σ H fun x H1=>g x σ H1 D.nx
theorem ps_asg{tg e:Expr}{te:TE}{g:TG}(he:PE X e te)(hg:PG X tg g)(hs:swapsWithSole [tg] e pos.line X.env=pure false:=by rfl)(hw:swappedStores [tg] e X.env=pure none:=by rfl)
  (h1:(assignEach [tg] X.env).map (·.2)=[assign tg X.env]:=by rfl):PS X (.Assign [tg] e pos) (tAsg te g):=by
 intro pins s σ H D I h;refine wpAny_Assign_stores (thn (he pins s σ H _ I h) fun v s1 ⟨x,H1,I1,r1,q1⟩=>?_) hs hw
 rw[h1];exact thn (hg pins s1 σ H1 x v _ I1 r1 q1) fun _ s2 q=>q
theorem ps_set{i:Nat}{x:Str}{e:Expr}{te:TE}{pos':Pos}(hN:X.N.Nodup)(hi:X.N[i]?=some x)(hx:Loc X.env.scope x)(he:PE X e te)(hs:swapsWith e (some (.Name x pos')) pos.line X.env=pure false:=by rfl)(hf:X.fn x=true\/X.env.scope.names.lookup x=some .local:=by first|exact .inl rfl|exact .inr rfl|assumption) :
  PS X (.Assign [.Name x pos'] e pos) (tAsg te (gName i)):=by
 intro pins s σ H D I h;refine wpAny_Assign_Name (thn (he pins s σ H _ I h) fun v s1 ⟨y,H1,I1,r1,q1⟩=>?_) hs
 exact zj5 I1 hN hi hx r1 (fun s2 I2=>⟨_,H1,I2,q1⟩) hf
def tPar(i j:Nat)(ta:TA):TS:=fun D σ H=>ta σ H fun vs H1=>∃v w,vs=[v,w]/\D.nx ((σ.set i (some v)).set j (some w)) H1
theorem ps_par{i j:Nat}{x y:Str}{a b:Expr}{ta:TA}{px py pt:Pos}{kt k2 pt2}(hc:X.calm=true)(hN:X.N.Nodup)(hi:X.N[i]?=some x)(hj:X.N[j]?=some y)(hij:i≠j)
  (hx:X.env.scope.names.lookup x=some .local) (hy:X.env.scope.names.lookup y=some .local) (ha:PA X [a,b] ta)
  (hw:swappedStores [.Tuple [.Name x px,.Name y py] kt pt] (.Tuple [a,b] k2 pt2) X.env=pure (some [x,y]))
  (hs:swapsWithSole [.Tuple [.Name x px,.Name y py] kt pt] (.Tuple [a,b] k2 pt2) pos.line X.env=pure false:=by rfl) :
  PS X (.Assign [.Tuple [.Name x px,.Name y py] kt pt] (.Tuple [a,b] k2 pt2) pos) (tPar i j ta):=by
 intro pins s σ H D I h;rw[exec_Assign_arm];refine wpAny_bind (wpAny_standAt ?_);rw[hs];refine wpAny_bind (wpAny_pure ?_);rw[if_neg (by decide)]
 refine wpAny_bind (Tuple_ (thn (ha _ pins s σ H _ I h) fun us s1 ⟨vs,H1,I1,r1,q1⟩=>?_))
 obtain⟨v,w,e1,q1⟩:=q1;subst e1
 obtain⟨u1,u2,rfl,rv,rw'⟩:∃u1 u2,us=[u1,u2]/\RelV v u1/\RelV w u2:=by
  cases r1 with
  |cons p q =>
   cases q with
   |cons p' q' =>
    cases q';exact⟨_,_,rfl,p,p'⟩
 refine wpAny_newObj_type ?_ (by show 2<=sizeLine;decide)
 have I2:Inv X pins σ H1 { s1 with heap:=s1.heap.push { cls:=.type "tuple",data:=.seq [u1,u2].toArray } }:=I1.kept (t':=s1.toks) fun b o e=>ya7 _ e
 rw[hw];refine wpAny_bind (wpAny_pure ?_);show wpAny (model X.prog X.w) X.A (do rule "assign.swapped-stores";let items <- unpackItems (.ref s1.heap.objs.size) 2 none;assignInOrder [fun v=>bindName X.env y v,fun v=>bindName X.env x v] items.reverse;pure Flow.next) _ _ _
 refine wpAny_bind (wpAny_rule (wpAny_bind (unpackItems_tuple (items:=#[u1,u2]) (I.ok.hd hc) (IsTup.new s1.heap _) fun h' hx'=>?_)))
 have I3:=I2.kept (h':=h') (t':=s1.toks) fun b o e=>hx' b o (yau (yab e)) e
 show wpAny _ _ (assignInOrder [fun v=>bindName X.env y v,fun v=>bindName X.env x v] [u2,u1] >>= fun _=>pure Flow.next) _ _ _
 refine wpAny_bind (assignInOrder_cons (wpAny_bindName (zj5 I3 hN hj (.inl hy) rw' (fun s2 I4=>?_) (.inr hy))))
 refine assignInOrder_cons (wpAny_bindName (zj5 I4 hN hi (.inl hx) rv (fun s3 I5=>assignInOrder_nil (wpAny_pure ?_)) (.inr hx)))
 rw[List.set_comm _ _ (yaz hij)]at I5;exact⟨_,H1,I5,q1⟩
end
section
variable {X:Cx}{pos:Pos}
def tWhile(c:TT)(tb:TS):TS:=fun D σ H=>∃W:Nat->St->Hp->Prop,(∃m,W m σ H)/\∀m σ H,W m σ H ->
 c σ H fun b H1=>if b=true then ∃N:St->Hp->Prop,(∀σ' H',N σ' H'->∃m',m'<m/\W m' σ' H')/\tb { D with nx:=N,ct:=N,bk:=D.nx } σ H1 else D.nx σ H1
theorem ps_while{c:Expr}{body:List Stmt}{tc:TT}{tb:TS}(hp:PassesOwn (model X.prog X.w) X.A X.env X.xe)(hc:PT X c tc)(hb:PSs X body tb):PS X (.While c body [] pos) (tWhile tc tb):=by
 intro pins s σ H D I h;obtain⟨W,⟨m0,w0⟩,turn⟩:=h;refine wpAny_While (codeAny_whileLoop (fun n s'=>∃σ' H',Inv X pins σ' H' s'/\W n σ' H') ?_ m0 ⟨σ,H,I,w0⟩)
 rintro n s1 ⟨σ1,H1,I1,w1⟩;refine wpAny_passesOwn hp (thn (hc pins s1 σ1 H1 _ I1 (turn n σ1 H1 w1)) fun b s2 ⟨H2,I2,q2⟩=>?_)
 cases b with
 |true =>
  obtain⟨N,hN,q2⟩:=q2;rw[if_pos rfl];refine wpAny_passesOwn hp (thn (hb pins s2 σ1 H2 _ I2 q2) fun f s3 q3=>?_)
  cases f with
  |next =>
   obtain⟨σ3,H3,I3,n3⟩:=q3;obtain⟨m',hm,w3⟩:=hN σ3 H3 n3;exact⟨m',hm,σ3,H3,I3,w3⟩
  |cont =>
   obtain⟨σ3,H3,I3,n3⟩:=q3;obtain⟨m',hm,w3⟩:=hN σ3 H3 n3;exact⟨m',hm,σ3,H3,I3,w3⟩
  |brk=>exact q3
  |ret v=>exact q3
 |false =>
  rw[if_neg yav];exact wpAny_execs_nil ⟨σ1,H2,I2,q2⟩
end
structure It where
 go:Nat->Hp->Prop
 yld:Nat->Hp->V->Hp->Prop
 stop:Nat->Hp->Prop
def FpOk(X:Cx)(pins:List (Addr×Obj))(H:Hp)(b:Addr):Prop :=
 H b=none/\b≠X.env.locals/\b∉X.fs/\(b∈X.ex\/X.s₀.heap.objs.size<=b)/\(∀x c,X.env.cells.lookup x=some c->c≠b)/\∀p∈X.pn++pins,p.1≠b
theorem Inv.fpOk{X:Cx}{pins:List (Addr×Obj)}{σ:St}{H H':Hp}{s:Shared}{b:Addr}(I:Inv X pins σ H s)(hb:s.heap.objs.size<=b)(hn:H' b=none):FpOk X pins H' b:=by
 refine⟨hn,Nat.ne_of_gt (yai I.lt hb),I.nofs hb,.inr (yao I.sz hb),fun x c e z=>?_,fun p hp z=>?_⟩
 ·obtain⟨v,q⟩:=I.cell x c e;exact absurd (yai q.lt (by rw[z];exact hb)) (yb3 _)
 ·exact absurd (yai (yab (I.pin p hp).1) (by rw[z];exact hb)) (yb3 _)
structure Turn(P:Program)(w:World)(K:PySem.W.Frag)(tg:Expr)(J:It)(fp:List Addr)(it:Addr)(tn:Nat->Heap->Prop):Prop where
 mem:it∈fp
 obj:∀i h,tn i h->∀b∈fp,∃o,h.get? b=some o/\∀v,o.data≠.cell v
 keep:∀i h h',tn i h->(∀b∈fp,∀o,h.get? b=some o->h'.get? b=some o)->tn i h'
 item:∀(X:Cx),X.prog=P->X.w=w->X.K=K->X.calm=true->∀(i:Nat) (pins:List (Addr×Obj)) (s:Shared) (σ:St) (H:Hp) (E:Value->Shared->Prop),Inv X pins σ H s->(∀b∈fp,FpOk X pins H b)->tn i s.heap->J.go i H ->
  wpAny (model P w) X.A (pyNext (.ref it)) (fun r s1=>∃u,r=some u /\
   wpAny (model P w) X.A (letOwnedTupleGo tg (.ref it) u) (fun _ s2=>∃x H',Inv X pins σ H' s2/\RelV x u/\J.yld i H x H'/\tn (i+1) s2.heap/\∀b∈fp,H' b=none) E s1) E s
 done:∀(X:Cx),X.prog=P->X.w=w->X.K=K->X.calm=true->∀(i:Nat) (pins:List (Addr×Obj)) (s:Shared) (σ:St) (H:Hp) (E:Value->Shared->Prop),Inv X pins σ H s->(∀b∈fp,FpOk X pins H b)->tn i s.heap->J.stop i H ->
  wpAny (model P w) X.A (pyNext (.ref it)) (fun r s1=>r=none/\Inv X pins σ H s1) E s
 self:∀(A:Around) (i:Nat) (s:Shared) (Q:Value->Shared->Prop) (E:Value->Shared->Prop),tn i s.heap->Q (.ref it) s->wpAny (model P w) A (pyIter (.ref it)) Q E s
abbrev TI:=St->Hp->(It->Hp->Prop)->Prop
def PIE(X:Cx)(pins:List (Addr×Obj))(σ:St)(tg:Expr)(R:It->Hp->Prop)(itv:Value)(s2:Shared):Prop :=
 ∃(it:Addr) (fp:List Addr) (tn:Nat->Heap->Prop) (J:It) (H':Hp),itv=.ref it/\Inv X pins σ H' s2/\Turn X.prog X.w X.K tg J fp it tn/\tn 0 s2.heap/\(∀b∈fp,FpOk X pins H' b)/\R J H'
def PI(X:Cx)(tg iter:Expr)(wi:TI):Prop :=
 ∀(pins:List (Addr×Obj)) (s:Shared) (σ:St) (H:Hp) (R:It->Hp->Prop),Inv X pins σ H s->wi σ H R ->
  wpAny (model X.prog X.w) X.A (eval iter X.env) (fun v s1=>wpAny (model X.prog X.w) X.A (pyIter v) (PIE X pins σ tg R) X.xe s1) X.xe s
theorem go_of{M:Model}{A:Around}{E:Value->Shared->Prop}{s:Shared}{tg:Expr}{it:Addr}{u:Value}{o:Obj}{n:String}{vs:Array Value}{Q:Unit->Shared->Prop}(ho:s.heap.get? it=some o)(hc:o.cls=.type n)(hd:o.data=.fields vs)
    (hn:["enumerate","zip","dict_itemiterator","dict_reverseitemiterator","odict_iterator","itertools.zip_longest","itertools.pairwise"].contains n=false) (hQ:Q () s):wpAny M A (letOwnedTupleGo tg (.ref it) u) Q E s:=by
  unfold letOwnedTupleGo
  cases tg<;>first
    |exact wpAny_pure hQ
    |(cases u<;>first
        |exact wpAny_pure hQ
        | (refine wpAny_bind (wpAny_load ho ?_)
           rw[hc,hd];show wpAny M A (if (["enumerate","zip","dict_itemiterator","dict_reverseitemiterator","odict_iterator","itertools.zip_longest","itertools.pairwise"].contains n && vs[0]? == some (rawInt _))=true then _ else _) Q E s
           rw[if_neg (by intro h;rw[hn,yd4]at h;cases h)]
           exact wpAny_pure hQ))
def Itl(K:PySem.W.Frag)(a:Addr):It :=
 ⟨fun i H=>∃xs x,SqL K H a xs/\xs[i]?=some x,fun i H x H'=>H'=H/\∀xs,SqL K H a xs->xs[i]?=some x,fun i H=>∃xs,SqL K H a xs/\xs.length<=i⟩
def Itt(K:PySem.W.Frag)(a:Addr):It :=
 ⟨fun i H=>∃xs x,SqT K H a xs/\xs[i]?=some x,fun i H x H'=>H'=H/\∀xs,SqT K H a xs->xs[i]?=some x,fun i H=>∃xs,SqT K H a xs/\xs.length<=i⟩
def Itr(lo:Int)(n:Nat):It:=⟨fun i _=>i<n,fun i H x H'=>H'=H/\x=.int (lo+i),fun i _=>n<=i⟩
theorem turn_list{P:Program}{w:World}{K:PySem.W.Frag}{tg:Expr}(a it:Addr):Turn P w K tg (Itl K a) [it] it (fun i h=>h.IsListIter it a i) where
 mem:=by simp
 obj:=fun i h st b hb=>by
  have e:b=it:=by simpa using hb
  subst e;obtain⟨o,e,c,d⟩:=st;exact⟨o,e,fun v z=>by rw[d]at z;cases z⟩
 keep:=fun i h h' st k=>st.at fun o e=>k it (by simp) o e
 item:=by
  intro X hP hw hK hc i pins s σ H E I hf st hg;subst hP hw hK;obtain⟨xs,x,hq,hx⟩:=hg;obtain⟨its,rv,p,hz⟩:=I.list hq;obtain⟨u,hu,ru⟩:=rv.get hx;obtain⟨f0,f1,f2,f3,f4,f5⟩:=hf it (by simp)
  refine wpAny_pyNext_list_item st p.isList (x:=u) (by simpa using hu) fun h' st' sb=>?_
  have I1:Inv X pins σ H { s with heap:=h' }:=I.turned (t':=s.toks) (fun b o hb e=>(sb.2 b hb).trans e) f0 f1 f3 f4 f5
  obtain⟨o,e,c,d⟩:=id st';exact⟨u,rfl,go_of (s:={ s with heap:=h' }) e c d (by decide) ⟨x,H,I1,ru,⟨rfl,fun ys hy=>by rw[I.list_inj hy hq];exact hx⟩,st',fun b hb=>(hf b hb).1⟩⟩
 done:=by
  intro X hP hw hK hc i pins s σ H E I hf st hg;subst hP hw hK;obtain⟨xs,hq,hx⟩:=hg;obtain⟨its,rv,p,hz⟩:=I.list hq;obtain⟨f0,f1,f2,f3,f4,f5⟩:=hf it (by simp)
  have hl:=rv.length;exact wpAny_pyNext_list_end (I.ok.hd hc) st p.isList (by simp;omega) fun h' eb=>⟨rfl,I.turned (t':=s.toks) (fun b o hb e=>eb b o hb e) f0 f1 f3 f4 f5⟩
 self:=fun _ _ _ _ _ st h=>wpAny_pyIter_listiter st h
theorem turn_tuple{P:Program}{w:World}{K:PySem.W.Frag}{tg:Expr}(a it:Addr):Turn P w K tg (Itt K a) [it] it (fun i h=>h.IsTupleIter it a i) where
 mem:=by simp
 obj:=fun i h st b hb=>by
  have e:b=it:=by simpa using hb
  subst e;obtain⟨o,e,c,d⟩:=st;exact⟨o,e,fun v z=>by rw[d]at z;cases z⟩
 keep:=fun i h h' st k=>st.at fun o e=>k it (by simp) o e
 item:=by
  intro X hP hw hK hc i pins s σ H E I hf st hg;subst hP hw hK;obtain⟨xs,x,hq,hx⟩:=hg;obtain⟨its,rv,p,hz⟩:=I.tuple hq;obtain⟨u,hu,ru⟩:=rv.get hx;obtain⟨f0,f1,f2,f3,f4,f5⟩:=hf it (by simp)
  refine wpAny_pyNext_tuple_item st (show s.heap.IsTuple a its.toArray from p) (x:=u) (by simpa using hu) fun h' st' sb=>?_
  have I1:Inv X pins σ H { s with heap:=h' }:=I.turned (t':=s.toks) (fun b o hb e=>(sb.2 b hb).trans e) f0 f1 f3 f4 f5
  obtain⟨o,e,c,d⟩:=id st';exact⟨u,rfl,go_of (s:={ s with heap:=h' }) e c d (by decide) ⟨x,H,I1,ru,⟨rfl,fun ys hy=>by rw[I.tuple_inj hy hq];exact hx⟩,st',fun b hb=>(hf b hb).1⟩⟩
 done:=by
  intro X hP hw hK hc i pins s σ H E I hf st hg;subst hP hw hK;obtain⟨xs,hq,hx⟩:=hg;obtain⟨its,rv,p,hz⟩:=I.tuple hq;obtain⟨f0,f1,f2,f3,f4,f5⟩:=hf it (by simp)
  have hl:=rv.length;exact wpAny_pyNext_tuple_end (I.ok.hd hc) st (show s.heap.IsTuple a its.toArray from p) (by simp;omega) fun h' eb=>⟨rfl,I.turned (t':=s.toks) (fun b o hb e=>eb b o hb e) f0 f1 f3 f4 f5⟩
 self:=fun _ _ _ _ _ st h=>wpAny_pyIter_tupleiter st h
theorem turn_range{P:Program}{w:World}{K:PySem.W.Frag}{tg:Expr}(it:Addr)(lo:Int)(n:Nat):Turn P w K tg (Itr lo n) [it] it (fun i h=>IsRangeIter h it (lo+(i:Nat) * 1) ((n:Int) - (i:Nat)) 1) where
 mem:=by simp
 obj:=fun i h st b hb=>by
  have e:b=it:=by simpa using hb
  subst e
  exact⟨_,st,fun v z=>by
   have z':Data.fields _=Data.cell v:=z;cases z'⟩
 keep:=fun i h h' st k=>k it (by simp) _ st
 item:=by
  intro X hP hw hK hc i pins s σ H E I hf st hg;subst hP hw hK;obtain⟨f0,f1,f2,f3,f4,f5⟩:=hf it (by simp)
  have W:=Walks.range (prog:=X.prog) (w:=X.w) (I.ok.hd hc) it lo 1 n;refine W.item i s _ _ hg st fun v h' tk hv st' kk=>?_
  obtain⟨t,rfl⟩:=hv;have I1:Inv X pins σ H { s with heap:=h',toks:=tk }:=I.turned (fun b o hb e=>kk b o (by simpa using hb) e) f0 f1 f3 f4 f5
  refine⟨_,rfl,go_of (s:={ s with heap:=h',toks:=tk }) (n:="range_iterator") st' rfl rfl (by decide) ⟨.int (lo+i),H,I1,⟨t,?_⟩,⟨rfl,rfl⟩,st',fun b hb=>(hf b hb).1⟩⟩
  rw[Int.mul_one]
 done:=by
  intro X hP hw hK hc i pins s σ H E I hf st hg;subst hP hw hK;obtain⟨f0,f1,f2,f3,f4,f5⟩:=hf it (by simp)
  exact wpAny_pyNext_range_end (I.ok.hd hc) st (by have:n<=i:=hg;omega) fun h' eb=>⟨rfl,I.turned (t':=s.toks) (fun b o hb e=>eb b o hb e) f0 f1 f3 f4 f5⟩
 self:=fun _ _ _ _ _ st h=>wpAny_pyIter_rangeiter st h
section
variable {X:Cx}{tg:Expr}
def iList(K:PySem.W.Frag)(tl:TE):TI:=fun σ H R=>tl σ H fun x H1=>∃a,x=.ref a/\(∃xs,SqL K H1 a xs)/\R (Itl K a) H1
def iTup(K:PySem.W.Frag)(tl:TE):TI:=fun σ H R=>tl σ H fun x H1=>∃a,x=.ref a/\(∃xs,SqT K H1 a xs)/\R (Itt K a) H1
theorem pi_list{l:Expr}{tl:TE}(hl:PE X l tl):PI X tg l (iList X.K tl):=by
 intro pins s σ H R I h;refine thn (hl pins s σ H _ I h) fun v s1 ⟨x,H1,I1,r1,q1⟩=>?_
 obtain⟨a,e,⟨xs,hq⟩,q⟩:=q1;subst e;cases r1;obtain⟨its,rv,p,hz⟩:=I1.list hq;refine wpAny_pyIter_list p.isList ?_;refine⟨s1.heap.objs.size,[s1.heap.objs.size],_,_,H1,rfl,I1.kept (t':=s1.toks) fun b o e=>ya7 _ e,turn_list a _,⟨_,yar _ rfl,rfl,rfl⟩,fun b hb=>?_,q⟩
 have e:b=s1.heap.objs.size:=by simpa using hb
 subst e;exact I1.fpOk (yaa _) (I1.hok.fresh (yaa _))
theorem pi_tup{l:Expr}{tl:TE}(hl:PE X l tl):PI X tg l (iTup X.K tl):=by
 intro pins s σ H R I h;refine thn (hl pins s σ H _ I h) fun v s1 ⟨x,H1,I1,r1,q1⟩=>?_
 obtain⟨a,e,⟨xs,hq⟩,q⟩:=q1;subst e;cases r1;obtain⟨its,rv,p,hz⟩:=I1.tuple hq;refine wpAny_pyIter_tuple (show s1.heap.IsTuple a its.toArray from p) ?_;refine⟨s1.heap.objs.size,[s1.heap.objs.size],_,_,H1,rfl,I1.kept (t':=s1.toks) fun b o e=>ya7 _ e,turn_tuple a _,⟨_,yar _ rfl,rfl,rfl⟩,fun b hb=>?_,q⟩
 have e:b=s1.heap.objs.size:=by simpa using hb
 subst e;exact I1.fpOk (yaa _) (I1.hok.fresh (yaa _))
theorem range_it{pins:List (Addr×Obj)}{σ:St}{H:Hp}{s:Shared}{R:It->Hp->Prop}{E:Value->Shared->Prop}{lo hi:Int}{t u v:Tok}{tk:Nat}(I:Inv X pins σ H s)(h1:-(2 ^ 62)<=lo)(h2:lo<2 ^ 62)(h3:-(2 ^ 62)<=hi)(h4:hi<2 ^ 62)
  (q:R (Itr lo (hi - lo).toNat) H):wpAny (model X.prog X.w) X.A (pyIter (.ref s.heap.objs.size)) (PIE X pins σ tg R) E { s with heap:=s.heap.push { cls:=.type "range",data:=.fields #[.int lo t,.int hi u,.int 1 v] },toks:=tk }:=by
 refine wpAny_pyIter_range (IsRange.new ..) (small_one h1 h2 h3 h4) ?_;have I1:Inv X pins σ H { s with heap:=s.heap.push { cls:=.type "range",data:=.fields #[.int lo t,.int hi u,.int 1 v] },toks:=tk }:=I.kept fun b o e=>ya7 _ e
 refine⟨(s.heap.push { cls:=.type "range",data:=.fields #[.int lo t,.int hi u,.int 1 v] }).objs.size,[(s.heap.push { cls:=.type "range",data:=.fields #[.int lo t,.int hi u,.int 1 v] }).objs.size],_,_,H,rfl,
  I1.kept (t':=tk) fun b o e=>ya7 _ e,turn_range _ lo (hi - lo).toNat,?_,fun b hb=>?_,q⟩
 ·have e1:lo+((0:Nat):Int) * 1=lo:=by simp
  have e2:(((hi - lo).toNat:Nat):Int) - ((0:Nat):Int)=Builtin.Range.rangeSize lo hi 1:=by rw[rangeSize_one];split<;>omega
  show IsRangeIter _ _ (lo+((0:Nat):Int) * 1) ((((hi - lo).toNat:Nat):Int) - ((0:Nat):Int)) 1;rw[e1,e2];exact yar _ rfl
 ·have e:b=(s.heap.push { cls:=.type "range",data:=.fields #[.int lo t,.int hi u,.int 1 v] }).objs.size:=by simpa using hb
  subst e;exact I1.fpOk (yaa _) (I1.hok.fresh (yaa _))
def iRng1(ta:TA):TI:=fun σ H R=>ta σ H fun vs H1=>∃j:Int,vs=[.int j]/\-(2 ^ 62)<=j/\j<2 ^ 62/\R (Itr 0 j.toNat) H1
def iRng2(ta:TA):TI:=fun σ H R=>ta σ H fun vs H1=>∃i j:Int,vs=[.int i,.int j]/\(-(2 ^ 62)<=i/\i<2 ^ 62/\-(2 ^ 62)<=j/\j<2 ^ 62)/\R (Itr i (j - i).toNat) H1
theorem pi_range1{a:Expr}{ta:TA}{p pos:Pos}(hg:Gl X "range")(hm:X.mg "range"=none)(ha:PA X [a] ta)(hs:starEach [a] X.env=[(false,eval a X.env)]:=by rfl):PI X tg (.Call (.Name "range" p) [a] [] pos) (iRng1 ta):=by
 intro pins s σ H R I h;refine Call_ (zlv I hg hm boot_range (ybn (thn (ha pos pins s σ H _ I h) fun us s1 ⟨vs,H1,I1,r1,q1⟩=>?_) hs rfl))
 obtain⟨j,e,q1,q2,q⟩:=q1;subst e;cases r1 with
 |cons r rr =>
  cases rr;obtain⟨t,rfl⟩:=r;exact call_range_1 (range_it I1 (by omega) (by omega) q1 q2 (by simpa using q))
theorem pi_range2{a b:Expr}{ta:TA}{p pos:Pos}(hg:Gl X "range")(hm:X.mg "range"=none)(ha:PA X [a,b] ta)(hs:starEach [a,b] X.env=[(false,eval a X.env),(false,eval b X.env)]:=by rfl)(hs2:starEach [b] X.env=[(false,eval b X.env)]:=by rfl) :
  PI X tg (.Call (.Name "range" p) [a,b] [] pos) (iRng2 ta):=by
 intro pins s σ H R I h;refine Call_ (zlv I hg hm boot_range (ybn (thn (ha pos pins s σ H _ I h) fun us s1 ⟨vs,H1,I1,r1,q1⟩=>?_) (by rw[hs,hs2]) (by rw[hs2];rfl)))
 obtain⟨i,j,e,⟨q1,q2,q3,q4⟩,q⟩:=q1;subst e;cases r1 with
 |cons r rr =>
  cases rr with
  |cons r' rr =>
   cases rr;obtain⟨t,rfl⟩:=r;obtain⟨t',rfl⟩:=r';exact call_range_2 (range_it I1 q1 q2 q3 q4 q)
def tFor(wi:TI)(g:TG)(tb:TS):TS:=fun D σ H=>wi σ H fun J H1=>∃W:Nat->Nat->St->Hp->Prop,(∃m,W 0 m σ H1)/\∀i m σ H,W i m σ H ->
 (J.stop i H/\D.nx σ H)\/(J.go i H/\∃N:St->Hp->Prop,(∀σ' H',N σ' H'->∃m',m'<m/\W (i+1) m' σ' H')/\∀x H',J.yld i H x H'->g x σ H' fun σ2 H2=>tb { D with nx:=N,ct:=N,bk:=D.nx } σ2 H2)
def zjq(fp:List Addr)(h:Heap):List (Addr×Obj):=fp.filterMap fun b=>(h.get? b).map fun o=>(b,o)
theorem zcs{fp:List Addr}{h:Heap}{b:Addr}{o:Obj}(hb:b∈fp)(e:h.get? b=some o):(b,o)∈zjq fp h:=ybo.mpr ⟨b,hb,by rw[e];rfl⟩
theorem of_pinsAt{fp:List Addr}{h:Heap}{p:Addr×Obj}(hp:p∈zjq fp h):p.1∈fp/\h.get? p.1=some p.2:=by
 obtain⟨b,hb,e⟩:=ybo.mp hp;cases q:h.get? b with
 |none=>rw[q]at e;cases e
 |some o =>
  rw[q]at e;have e':(b,o)=p:=yal e;subst e';exact⟨hb,q⟩
theorem Inv.pinned{pins:List (Addr×Obj)}{σ:St}{H:Hp}{s:Shared}{fp:List Addr}(I:Inv X pins σ H s)(hf:∀b∈fp,FpOk X pins H b)(ho:∀b∈fp,∃o,s.heap.get? b=some o/\∀v,o.data≠.cell v):Inv X (pins++zjq fp s.heap) σ H s :=
 I.pins_of fun p hp=>(yb7.mp hp).elim (fun z=>I.pin p (yak _ z)) fun z=>by
  obtain⟨hb,e⟩:=of_pinsAt z;obtain⟨f0,f1,f2,_⟩:=hf p.1 hb;obtain⟨o,e',d⟩:=ho p.1 hb;rw[e]at e';cases e';exact⟨e,f0,f1,f2,d⟩
theorem Inv.unpinned{pins pl:List (Addr×Obj)}{σ:St}{H:Hp}{s:Shared}(I:Inv X (pins++pl) σ H s):Inv X pins σ H s:=I.pins_of fun p hp=>I.pin p (yak _ (ybf _ hp))
theorem ps_for{iter:Expr}{body:List Stmt}{wi:TI}{g:TG}{tb:TS}{pos:Pos}(hp:PassesOwn (model X.prog X.w) X.A X.env X.xe)(hc:X.calm=true)(hi:PI X tg iter wi)(hg:PG X tg g)(hb:PSs X body tb)
  (hs:∀x,foldedSetIterable iter X.env x=pure x:=by intro _;rfl):PS X (.For tg iter body [] pos) (tFor wi g tb):=by
 intro pins s σ H D I h;refine wpAny_For (thn (hi pins s σ H _ I h) fun v s1 h1=>thn h1 fun itv s2 h2=>?_) hs
 obtain⟨it,fp,tn,J,H2,e,I2,T,st2,f2,W,⟨m0,w0⟩,turn⟩:=h2;subst e;have stat:∀{H':Hp},(∀b∈fp,H' b=none)->∀b∈fp,FpOk X pins H' b:=fun hn b hb=>⟨hn b hb,(f2 b hb).2⟩
 refine codeAny_forLoop_any (fun n s'=>∃i σ' H',Inv X pins σ' H' s'/\tn i s'.heap/\(∀b∈fp,H' b=none)/\W i n σ' H') ?_ m0 ⟨0,σ,H2,I2,st2,fun b hb=>(f2 b hb).1,w0⟩
 rintro n s3 ⟨i,σ3,H3,I3,st3,fr3,w3⟩
 rcases turn i n σ3 H3 w3 with ⟨stop,qn⟩|⟨go,N,hN,step⟩
 ·refine wpAny_passesOwn hp (thn (T.done X rfl rfl rfl hc i pins s3 σ3 H3 X.xe I3 (stat fr3) st3 stop) fun r s4 ⟨hr,I4⟩=>?_)
  subst hr;exact wpAny_execs_nil ⟨σ3,H3,I4,qn⟩
 ·refine wpAny_passesOwn hp (thn (T.item X rfl rfl rfl hc i pins s3 σ3 H3 X.xe I3 (stat fr3) st3 go) fun r s4 ⟨u,hr,h4⟩=>?_)
  subst hr;refine wpAny_passesOwn hp (thn h4 fun _ s5 ⟨x,H5,I5,r5,y5,st5,fr5⟩=>?_)
  have I5':=I5.pinned (stat fr5) (T.obj _ _ st5);refine wpAny_passesOwn hp (thn (hg _ s5 σ3 H5 x u _ I5' r5 (step x H5 y5)) fun _ s6 ⟨σ6,H6,I6,q6⟩=>?_)
  refine wpAny_passesOwn hp (thn (hb _ s6 σ6 H6 _ I6 q6) fun f s7 q7=>?_)
  have again:∀{σ7:St} {H7:Hp},Inv X (pins++zjq fp s5.heap) σ7 H7 s7->N σ7 H7->∃m,m<n/\∃i σ' H',Inv X pins σ' H' s7/\tn i s7.heap/\(∀b∈fp,H' b=none)/\W i m σ' H':=fun {σ7 H7} I7 n7=>by
   obtain⟨m',hm,w7⟩:=hN σ7 H7 n7;refine⟨m',hm,i+1,σ7,H7,I7.unpinned,T.keep _ _ _ st5 fun b hb o e=>(I7.pin (b,o) (yak _ (yak _ (zcs hb e)))).1,fun b hb=>?_,w7⟩
   obtain⟨o,e,d⟩:=T.obj _ _ st5 b hb;exact(I7.pin (b,o) (yak _ (yak _ (zcs hb e)))).2.1
  cases f with
  |next=>obtain⟨σ7,H7,I7,n7⟩:=q7;exact again I7 n7
  |cont=>obtain⟨σ7,H7,I7,n7⟩:=q7;exact again I7 n7
  |brk=>obtain⟨σ7,H7,I7,q7⟩:=q7;exact⟨σ7,H7,I7.unpinned,q7⟩
  |ret v=>obtain⟨x7,σ7,H7,I7,r7,q7⟩:=q7;exact⟨x7,σ7,H7,I7.unpinned,r7,q7⟩
end
abbrev R2:=V->V->Hp->VK->Prop
def OpR(X:Cx)(f:Value->Value->Sem Value)(r:R2):Prop :=
 ∀(pins:List (Addr×Obj)) (s:Shared) (σ:St) (H:Hp) (x y:V) (v u:Value) (Q:VK),Inv X pins σ H s->RelV x v->RelV y u->r x y H Q ->
  wpAny (model X.prog X.w) X.A (f v u) (EP X pins σ Q) X.xe s
def UnR(X:Cx)(f:Value->Sem Value)(r:V->Hp->VK->Prop):Prop :=
 ∀(pins:List (Addr×Obj)) (s:Shared) (σ:St) (H:Hp) (x:V) (v:Value) (Q:VK),Inv X pins σ H s->RelV x v->r x H Q ->
  wpAny (model X.prog X.w) X.A (f v) (EP X pins σ Q) X.xe s
def zca(X:Cx)(f:Value)(r:List V->Hp->VK->Prop):Prop :=
 ∀(pins:List (Addr×Obj)) (s:Shared) (σ:St) (H:Hp) (xs:List V) (us:List Value) (Q:VK),Inv X pins σ H s->zbl xs us->r xs H Q ->
  wpAny (model X.prog X.w) X.A (call f us) (EP X pins σ Q) X.xe s
def tOp(r:R2)(ta tb:TE):TE:=fun σ H Q=>ta σ H fun x H1=>tb σ H1 fun y H2=>r x y H2 Q
def tUn(r:V->Hp->VK->Prop)(ta:TE):TE:=fun σ H Q=>ta σ H fun x H1=>r x H1 Q
def rI(C:Int->Int->Prop)(g:Int->Int->V):R2:=fun x y H Q=>∃i j,x=.int i/\y=.int j/\C i j/\Q (g i j) H
def rI0(g:Int->Int->V):R2:=fun x y H Q=>∃i j,x=.int i/\y=.int j/\Q (g i j) H
def rU(g:Int->V):V->Hp->VK->Prop:=fun x H Q=>∃i,x=.int i/\Q (g i) H
section
variable {X:Cx}{a b c:Expr}{ta tb tc:TE}{pos:Pos}
theorem binT(ha:PE X a ta)(hb:PE X b tb){pins:List (Addr×Obj)}{s:Shared}{σ:St}{H:Hp}{R:V->V->Hp->Prop}(I:Inv X pins σ H s)
  (h:ta σ H fun x H1=>tb σ H1 fun y H2=>R x y H2) {Q:Value->Shared->Prop} {f:Value->Value->Sem Value}
  (hf:∀v u s2 x y H2,Inv X pins σ H2 s2->RelV x v->RelV y u->R x y H2->wpAny (model X.prog X.w) X.A (f v u) Q X.xe s2) :
  wpAny (model X.prog X.w) X.A (eval a X.env) (fun v s₁=>wpAny (model X.prog X.w) X.A (eval b X.env) (fun u s₂=>wpAny (model X.prog X.w) X.A (f v u) Q X.xe s₂) X.xe s₁) X.xe s:=by
 refine thn (ha pins s σ H _ I h) fun v s1 ⟨x,H1,I1,r1,q1⟩=>?_
 refine thn (hb pins s1 σ H1 _ I1 q1) fun u s2 ⟨y,H2,I2,r2,q2⟩=>?_
 exact hf v u s2 x y H2 I2 r1 r2 q2
theorem pe_op{op:Operator}{r:R2}(ho:OpR X (binaryOp op) r)(ha:PE X a ta)(hb:PE X b tb):PE X (.BinOp a op b pos) (tOp r ta tb):=by
 intro pins s σ H Q I h;exact wpAny_BinOp (binT ha hb I h fun v u s2 x y H2 I2 rx ry q=>ho pins s2 σ H2 x y v u Q I2 rx ry q)
theorem pe_un{op:UnaryOp}{r:V->Hp->VK->Prop}(ho:UnR X (unaryOp op) r)(ha:PE X a ta):PE X (.UnaryOp op a pos) (tUn r ta):=by
 intro pins s σ H Q I h;exact UnaryOp_ (thn (ha pins s σ H _ I h) fun v s1 ⟨x,H1,I1,r1,q1⟩=>ho pins s1 σ H1 x v Q I1 r1 q1)
theorem opI{f:Value->Value->Sem Value}{C:Int->Int->Prop}{g:Int->Int->Int}
  (rule:∀(i j:Int) (t u:Tok) (s:Shared) (Q:Value->Shared->Prop) (E:Value->Shared->Prop),C i j->Q (.int (g i j) s.toks) { s with toks:=s.toks+1 }->wpAny (model X.prog X.w) X.A (f (.int i t) (.int j u)) Q E s) :
  OpR X f (rI C fun i j=>.int (g i j)):=by
 intro pins s σ H x y v u Q I rx ry h;obtain⟨i,j,rfl,rfl,hc,q⟩:=h;obtain⟨t,rfl⟩:=rx;obtain⟨t',rfl⟩:=ry;exact rule i j t t' s _ _ hc ⟨.int (g i j),H,I.tok _,⟨_,rfl⟩,q⟩
theorem opI0{f:Value->Value->Sem Value}{g:Int->Int->Int}
  (rule:∀(i j:Int) (t u:Tok) (s:Shared) (Q:Value->Shared->Prop) (E:Value->Shared->Prop),Q (.int (g i j) s.toks) { s with toks:=s.toks+1 }->wpAny (model X.prog X.w) X.A (f (.int i t) (.int j u)) Q E s) :
  OpR X f (rI0 fun i j=>.int (g i j)):=by
 intro pins s σ H x y v u Q I rx ry h;obtain⟨i,j,rfl,rfl,q⟩:=h;obtain⟨t,rfl⟩:=rx;obtain⟨t',rfl⟩:=ry;exact rule i j t t' s _ _ ⟨.int (g i j),H,I.tok _,⟨_,rfl⟩,q⟩
theorem opB0{f:Value->Value->Sem Value}{g:Int->Int->Bool}
  (rule:∀(i j:Int) (t u:Tok) (s:Shared) (Q:Value->Shared->Prop) (E:Value->Shared->Prop),Q (.bool (g i j)) s->wpAny (model X.prog X.w) X.A (f (.int i t) (.int j u)) Q E s) :
  OpR X f (rI0 fun i j=>.bl (g i j)):=by
 intro pins s σ H x y v u Q I rx ry h;obtain⟨i,j,rfl,rfl,q⟩:=h;obtain⟨t,rfl⟩:=rx;obtain⟨t',rfl⟩:=ry;exact rule i j t t' s _ _ ⟨.bl (g i j),H,I,rfl,q⟩
def CPow(i j:Int):Prop:=0<=j/\j<=1000000/\i.natAbs<2 ^ 64
def CMul(i j:Int):Prop:=(-(2 ^ 64)<i/\i<2 ^ 64)\/(-(2 ^ 64)<j/\j<2 ^ 64)
theorem CMul.ok{i j:Int}(h:CMul i j):IntMulOk i j:=by
 rcases h with ⟨h1,h2⟩|⟨h1,h2⟩
 ·exact .of_left (intBits_le_64 h1 h2)
 ·exact .of_right (intBits_le_64 h1 h2)
theorem op_add:OpR X (binaryOp .Add) (rI0 fun i j=>.int (i+j)):=opI0 fun _ _ _ _ _ _ _ q=>add_int q
theorem op_sub:OpR X (binaryOp .Sub) (rI0 fun i j=>.int (i - j)):=opI0 fun _ _ _ _ _ _ _ q=>sub_int q
theorem op_mul:OpR X (binaryOp .Mult) (rI CMul fun i j=>.int (i * j)):=opI fun _ _ _ _ _ _ _ hc q=>mul_int q hc.ok
theorem op_modN:OpR X (binaryOp .Mod) (rI (fun _ j=>j≠0) fun i j=>.int (i.fmod j)):=opI fun _ _ _ _ _ _ _ hc q=>mod_int' hc q
theorem op_pow:OpR X (binaryOp .Pow) (rI CPow fun i j=>.int (i ^ j.toNat)):=opI fun _ _ _ _ _ _ _ hc q=>pow_int_small hc.1 hc.2.1 hc.2.2 q
theorem op_and:OpR X (binaryOp .BitAnd) (rI0 fun i j=>.int (Builtin.bitAnd i j)):=opI0 fun _ _ _ _ _ _ _ q=>and_int q
theorem op_or:OpR X (binaryOp .BitOr) (rI0 fun i j=>.int (Builtin.bitOr i j)):=opI0 fun _ _ _ _ _ _ _ q=>or_int q
theorem unI{f:Value->Sem Value}{g:Int->Int}
  (rule:∀(i:Int) (t:Tok) (s:Shared) (Q:Value->Shared->Prop) (E:Value->Shared->Prop),Q (.int (g i) s.toks) { s with toks:=s.toks+1 }->wpAny (model X.prog X.w) X.A (f (.int i t)) Q E s) :
  UnR X f (rU fun i=>.int (g i)):=by
 intro pins s σ H x v Q I rx h;obtain⟨i,rfl,q⟩:=h;obtain⟨t,rfl⟩:=rx;exact rule i t s _ _ ⟨.int (g i),H,I.tok _,⟨_,rfl⟩,q⟩
theorem un_neg:UnR X (unaryOp .USub) (rU fun i=>.int (-i)):=unI fun _ _ _ _ _ q=>neg_int q
end
section
variable {X:Cx}{a b c:Expr}{ta tb tc:TE}{pos:Pos}
theorem fin_bl{pins:List (Addr×Obj)}{σ:St}{H:Hp}{s:Shared}{Q:VK}{k k':Bool}(I:Inv X pins σ H s)(q:Q (.bl k) H)(e:k=k'):EP X pins σ Q (.bool k') s:=by
 subst e;exact⟨.bl k,H,I,rfl,q⟩
theorem op_lt:OpR X (compareOp .Lt) (rI0 fun i j=>.bl (decide (i<j))):=opB0 fun _ _ _ _ _ _ _ q=>lt_int q
theorem op_le:OpR X (compareOp .LtE) (rI0 fun i j=>.bl (decide (i<=j))):=opB0 fun _ _ _ _ _ _ _ q=>le_int q
theorem op_gt:OpR X (compareOp .Gt) (rI0 fun i j=>.bl (decide (j<i))):=opB0 fun _ _ _ _ _ _ _ q=>gt_int q
theorem op_ge:OpR X (compareOp .GtE) (rI0 fun i j=>.bl (decide (j<=i))):=opB0 fun _ _ _ _ _ _ _ q=>ge_int q
theorem op_isN:OpR X (compareOp .Is) (fun x y H Q=>y=.non/\Q (.bl (decide (x=.non))) H):=by
 intro pins s σ H x y v u Q I rx ry h;obtain⟨rfl,q⟩:=h;cases ry;refine is_none_gen (fin_bl I q ?_)
 cases x<;>first
  |(cases rx;rfl)
  |(obtain⟨t,rfl⟩:=rx;rfl)
theorem op_notN:OpR X (compareOp .IsNot) (fun x y H Q=>y=.non/\Q (.bl (!decide (x=.non))) H):=by
 intro pins s σ H x y v u Q I rx ry h;obtain⟨rfl,q⟩:=h;cases ry;refine isnot_none_gen (fin_bl I q ?_)
 cases x<;>first
  |(cases rx;rfl)
  |(obtain⟨t,rfl⟩:=rx;rfl)
theorem OpR.or{f:Value->Value->Sem Value}{r r':R2}(h:OpR X f r)(h':OpR X f r'):OpR X f (fun x y H Q=>r x y H Q\/r' x y H Q):=by
 intro pins s σ H x y v u Q I rx ry q
 rcases q with q|q
 ·exact h pins s σ H x y v u Q I rx ry q
 ·exact h' pins s σ H x y v u Q I rx ry q
theorem pe_cmpR{op:CmpOp}{r:R2}(ho:OpR X (compareOp op) r)(ha:PE X a ta)(hb:PE X b tb)(hm:behindInMarks op b=false):PE X (.Compare a [op] [b] pos) (tOp r ta tb):=by
 intro pins s σ H Q I h;exact wpAny_Compare1 (binT ha hb I h fun v u s2 x y H2 I2 rx ry q=>ho pins s2 σ H2 x y v u Q I2 rx ry q) hm
def tTest(t:TE):TT:=fun σ H Q=>t σ H fun x H'=>∃k,x=.bl k/\Q k H'
theorem pt_cmpR{op:CmpOp}{r:R2}(ho:OpR X (compareOp op) r)(ha:PE X a ta)(hb:PE X b tb)(hm:behindInMarks op b=false):PT X (.Compare a [op] [b] pos) (tTest (tOp r ta tb)):=by
 intro pins s σ H Q I h
 refine wpAny_isTrue_Compare1 (thn (ha pins s σ H _ I h) fun v s1 ⟨x,H1,I1,r1,q1⟩=>thn (hb pins s1 σ H1 _ I1 q1) fun u s2 ⟨y,H2,I2,r2,q2⟩ =>
  thn (ho pins s2 σ H2 x y v u _ I2 r1 r2 q2) fun c s3 ⟨z,H3,I3,r3,k,e,q3⟩=>?_) hm
 subst e;cases r3;exact wpAny_truthy_bool ⟨H3,I3,q3⟩
def tChain(r r':R2)(ta tb tc:TE):TE:=fun σ H Q=>ta σ H fun x H1=>tb σ H1 fun y H2=>r x y H2 fun z H3=>∃k,z=.bl k /\
 (if k=true then tc σ H3 fun w' H4=>r' y w' H4 Q else Q (.bl false) H3)
theorem pe_chain{op op':CmpOp}{r r':R2}(ho:OpR X (compareOp op) r)(ho':OpR X (compareOp op') r')(ha:PE X a ta)(hb:PE X b tb)(hc:PE X c tc)
  (hm:lastMarks [op,op'] [b,c]=false:=by with_unfolding_all rfl):PE X (.Compare a [op,op'] [b,c] pos) (tChain r r' ta tb tc):=by
 intro pins s σ H Q I h
 refine Compare_chain (thn (ha pins s σ H _ I h) fun v s1 ⟨x,H1,I1,r1,q1⟩=>chain_link (thn (hb pins s1 σ H1 _ I1 q1) fun u s2 ⟨y,H2,I2,r2,q2⟩ =>
  thn (ho pins s2 σ H2 x y v u _ I2 r1 r2 q2) fun d s3 ⟨z,H3,I3,r3,k,e,q3⟩=>?_)) hm
 subst e;cases r3;refine wpAny_truthy_bool ?_;cases k with
 |false=>exact ite_ff ⟨.bl false,H3,I3,rfl,q3⟩
 |true=>exact ite_tt (chain_last (thn (hc pins s3 σ H3 _ I3 q3) fun w' s4 ⟨z',H4,I4,r4,q4⟩=>ho' pins s4 σ H4 y z' u w' Q I4 r2 r4 q4))
theorem pt_chain{op op':CmpOp}{r r':R2}(ho:OpR X (compareOp op) r)(ho':OpR X (compareOp op') r')(ha:PE X a ta)(hb:PE X b tb)(hc:PE X c tc)
  (hm:lastMarks [op,op'] [b,c]=false:=by with_unfolding_all rfl):PT X (.Compare a [op,op'] [b,c] pos) (tTest (tChain r r' ta tb tc)):=by
 intro pins s σ H Q I h
 refine isTrue_chain (thn (ha pins s σ H _ I h) fun v s1 ⟨x,H1,I1,r1,q1⟩=>test_link (thn (hb pins s1 σ H1 _ I1 q1) fun u s2 ⟨y,H2,I2,r2,q2⟩ =>
  thn (ho pins s2 σ H2 x y v u _ I2 r1 r2 q2) fun d s3 ⟨z,H3,I3,r3,k,e,q3⟩=>?_)) hm
 subst e;cases r3;refine wpAny_truthy_bool ?_;cases k with
 |false =>
  obtain⟨k',e',q'⟩:=q3;cases e';exact ite_ff ⟨H3,I3,q'⟩
 |true =>
  refine ite_tt (test_last (thn (hc pins s3 σ H3 _ I3 q3) fun w' s4 ⟨z',H4,I4,r4,q4⟩=>thn (ho' pins s4 σ H4 y z' u w' _ I4 r2 r4 q4) fun d' s5 ⟨z2,H5,I5,r5,k2,e2,q5⟩=>?_))
  subst e2;cases r5;exact wpAny_truthy_bool ⟨H5,I5,q5⟩
theorem line63:(sizeLine:Nat)<2 ^ 63:=by rw[sizeLine_eq];decide
theorem op_add_str:OpR X (binaryOp .Add) (fun x y H Q=>∃i j,x=.str i/\y=.str j/\i.length+j.length<=sizeLine/\Q (.str (i++j)) H):=by
 intro pins s σ H x y v u Q I rx ry h;obtain⟨i,j,rfl,rfl,hz,q⟩:=h;obtain⟨t,rfl⟩:=rx;obtain⟨t',rfl⟩:=ry;exact add_str (fun t' tk=>⟨.str (i++j),H,I.tok _,⟨_,rfl⟩,q⟩) hz
theorem vals1{x:V}{us:List Value}(r:zbl [x] us):∃u,us=[u]/\RelV x u:=by
 cases r with
 |cons r1 r2=>cases r2;exact⟨_,rfl,r1⟩
theorem vals2{x y:V}{us:List Value}(r:zbl [x,y] us):∃u w',us=[u,w']/\RelV x u/\RelV y w':=by
 cases r with
 |cons r1 r2 =>
  cases r2 with
  |cons r3 r4=>cases r4;exact⟨_,_,rfl,r1,r3⟩
theorem call_abs:zca X (.builtin "abs") (fun xs H Q=>∃i,xs=[.int i]/\Q (.int (if i<0 then -i else i)) H):=by
 intro pins s σ H xs us Q I r h;obtain⟨i,rfl,q⟩:=h;obtain⟨u,rfl,t,rfl⟩:=vals1 r;exact call_abs_int fun u tk=>⟨.int (if i<0 then -i else i),H,I.tok _,⟨_,rfl⟩,q⟩
theorem call_max2(hc:X.calm=true):zca X (.builtin "max") (fun xs H Q=>∃i j,xs=[.int i,.int j]/\Q (.int (if j > i then j else i)) H):=by
 intro pins s σ H xs us Q I r h;obtain⟨i,j,rfl,q⟩:=h;obtain⟨u,w',rfl,⟨t,rfl⟩,⟨t',rfl⟩⟩:=vals2 r;refine max_two_ints (I.ok.hd hc) fun h' tk k=>⟨_,H,I.kept k,?_,q⟩
 by_cases hj:j > i
 ·rw[if_pos hj,if_pos hj];exact⟨_,rfl⟩
 ·rw[if_neg hj,if_neg hj];exact⟨_,rfl⟩
theorem call_min2(hc:X.calm=true):zca X (.builtin "min") (fun xs H Q=>∃i j,xs=[.int i,.int j]/\Q (.int (if j<i then j else i)) H):=by
 intro pins s σ H xs us Q I r h;obtain⟨i,j,rfl,q⟩:=h;obtain⟨u,w',rfl,⟨t,rfl⟩,⟨t',rfl⟩⟩:=vals2 r;refine min_two_ints (I.ok.hd hc) fun h' tk k=>⟨_,H,I.kept k,?_,q⟩
 by_cases hj:j<i
 ·rw[if_pos hj,if_pos hj];exact⟨_,rfl⟩
 ·rw[if_neg hj,if_neg hj];exact⟨_,rfl⟩
def LenV(K:PySem.W.Frag)(x:V)(H:Hp)(n:Nat):Prop :=
 match x with
 |.str y=>y.length<=sizeLine/\n=y.length
 |.byt y=>y.size<=sizeLine/\n=y.size
 |.ref p=>(∃xs,SqL K H p xs/\n=xs.length)\/∃xs,SqT K H p xs/\n=xs.length
 |_=>False
theorem call_len:zca X (.builtin "len") (fun xs H Q=>∃x n,xs=[x]/\LenV X.K x H n/\Q (.int n) H):=by
 intro pins s σ H xs us Q I r h;obtain⟨x,n,rfl,e,q⟩:=h;obtain⟨u,rfl,rx⟩:=vals1 r;have hl:=line63;have hs:sizeLine=16777216:=sizeLine_eq;cases x with
 |str y =>
  obtain⟨t,rfl⟩:=rx;obtain⟨hy,e'⟩:y.length<=sizeLine/\n=y.length:=e;subst e';exact len_str (by omega) ⟨.int _,H,I.tok _,⟨_,rfl⟩,q⟩
 |byt y =>
  obtain⟨t,rfl⟩:=rx;obtain⟨hy,e'⟩:y.size<=sizeLine/\n=y.size:=e;subst e';exact PySem.W.len_bytes (by omega) ⟨.int _,H,I.tok _,⟨_,rfl⟩,q⟩
 |ref p =>
  cases rx;have e':(∃xs,SqL X.K H p xs/\n=xs.length)\/∃xs,SqT X.K H p xs/\n=xs.length:=e
  rcases e' with ⟨xs,hx,e'⟩|⟨xs,hx,e'⟩
  ·subst e';obtain⟨its,r',pl,hz⟩:=I.list hx;have hlen:=r'.length;exact Calls.call_len_list pl.isList (by simp only[yad];omega) ⟨.int xs.length,H,I.tok _,⟨_,by simp only[yad];rw[hlen]⟩,q⟩
  ·subst e';obtain⟨its,r',pl,hz⟩:=I.tuple hx;have hlen:=r'.length;exact len_tuple pl (by simp only[yad];omega) ⟨.int xs.length,H,I.tok _,⟨_,by simp only[yad];rw[hlen]⟩,q⟩
 |_=>exact(show False from e).elim
end
structure ObjM(h:Heap)(x dx C:Addr)(mA:Str->Option Value):Prop where
 obj:h.get? x=some (PySem.W.instObj C dx)
 ns:h.Ns1 dx mA
 ne:dx≠x
theorem lookIn_ns{h:Heap}{dx:Addr}{mA:Str->Option Value}(n:h.Ns1 dx mA):∃od,h.get? dx=some od/\∀name,PySem.W.lookIn name od=some (mA name):=by
 obtain⟨o,es,ep,ho,hd,hk,_,hm⟩:=n;refine⟨o,ho,fun name=>?_⟩
 have e:=hm name;unfold nsFind findBy at e;rw[<- Array.find?_toList]at e;unfold PySem.W.lookIn;rw[hd];dsimp only;split
 ·rename_i y q;rw[q]at e;exact congrArg some e
 ·rename_i q;rw[q]at e
  have a:es.toList.any (·.refKey)=false:=by
   rw[List.any_eq_false];intro y hy;obtain⟨z,t,hkey⟩:=hk y (Array.mem_toList_iff.mp hy);simp[DictEntry.refKey,hkey]
  have a':¬ es.toList.any (·.refKey)=true:=by rw[a];exact yav
  rw[if_neg a'];exact congrArg some e
theorem ObjM.look{h:Heap}{x dx C:Addr}{mA:Str->Option Value}(I:ObjM h x dx C mA):∃od,PySem.W.InstAt h x (PySem.W.instObj C dx) C (some od)/\∀name,PySem.W.lookIn name od=some (mA name) :=
 let ⟨od,ho,hl⟩:=lookIn_ns I.ns
 ⟨od,⟨I.obj,rfl,rfl,ho⟩,hl⟩
section
variable {prog:Program}{w:World}{A:Around}{E:Value->Shared->Prop}{s:Shared}{K:PySem.W.Frag}{x dx C f:Addr}{mA:Str->Option Value}{name:Str}{v:Value}
theorem get_map{expr:Bool}{Q:Value->Shared->Prop}(X:K.In s.heap)(I:ObjM s.heap x dx C mA)(hg:PySem.W.plainGet K C name=true)(hh:PySem.W.hasDictIn K C=true)
  (ha:PySem.W.findIn K (.ref C) name=some none) (hv:mA name=some v) (hv':PySem.W.handedIn v=true) (h:Q v { s with toks:=s.toks+1 }) :
  wpAny (model prog w) A (getAttr (.ref x) name expr) Q E s:=by
 obtain⟨od,J,hl⟩:=I.look;exact PySem.W.get_value X J (yd1 hg).1 (PySem.W.findObj_own hh ha rfl (by rw[hl,hv])) hv' h
theorem get_meth{pl:Sem Bool}{Q:Value×List Value->Shared->Prop}(X:K.In s.heap)(I:ObjM s.heap x dx C mA)(hg:PySem.W.plainGet K C name=true)
  (hf:PySem.W.findIn K (.ref C) name=some (some (.ref f))) (ht:PySem.W.isFn K (.ref f)=true) (hv:mA name=none) (h:Q (.ref f,[.ref x]) s) :
  wpAny (model prog w) A (getMethod (.ref x) name pl) Q E s:=by
 obtain⟨od,J,hl⟩:=I.look;exact PySem.W.method_fn X J (yd1 hg).1 (yd1 hg).2 hf (beq_iff_eq.mp ht) (by show(PySem.W.lookIn name od).map (·.isSome)=some false;rw[hl,hv];rfl) h
theorem set_map{ns:List Str}{Q:Unit->Shared->Prop}(X:K.In s.heap)(I:ObjM s.heap x dx C mA)
  (hs:PySem.W.findIn K (.ref C) "__setattr__"=some (some (.builtin "object.__setattr__"))) (hp:PySem.W.plainOver K C=true) (ht:PySem.W.takerIn K C name=some none) (hh:PySem.W.hasDictIn K C=true)
  (hw:PySem.Within mA ns) (hsz:ns.length<=sizeLine)
  (h:∀h',ObjM h' x dx C (fun y=>if y=name then some v else mA y)->Heap.SameBut dx s.heap h'->Q () { s with heap:=h',toks:=s.toks+2 }) :
  wpAny (model prog w) A (setAttr (.ref x) name v) Q E s:=by
 obtain⟨od,J,hl⟩:=I.look;refine PySem.W.set_plain X J hs (PySem.W.osa_open (s:={ s with toks:=s.toks+1 }) (r:=none) X J hp ht fun b=>?_)
 obtain⟨cd,hc,hd'⟩:=PySem.W.any_some hh;have hx:s.heap.get? x=some ⟨.ref C,some dx,.plain,#[]⟩:=I.obj;refine wpAny_bind (wpAny_pure (wpAny_bind (wpAny_bind (wpAny_loadPart hx (wpAny_bind (PySem.W.Looks.here (s:={ s with toks:=s.toks+1 }) (PySem.W.looks_clsIn X hc) ?_))))))
 rw[hd'];refine wpAny_pure (a:=some dx) (wpAny_bind (wpAny_pure (wpAny_bind ?_)));refine wpAny_nsSet1 (s:={ s with toks:=s.toks+1 }) I.ns fun h' hn2 hs2=>?_
 obtain⟨oD,esD,epD,hoD,hdD,hcD⟩:=hn2.count (PySem.Within.cons name v hw);refine wpAny_bind (wpAny_lookBehind hoD (by rw[hdD];exact pastItsLine_dict (yao hcD (by rw[yax];omega))) ?_)
 exact wpAny_pure (h _ ⟨(hs2.2 _ (yaz I.ne)).trans I.obj,hn2,I.ne⟩ hs2)
theorem make_map{R:Result->Shared->Prop}{vs:List Value}{kw:List (Str×Value)}(X:K.In s.heap)(hm:PySem.W.makesIn K C=true)
  (hi:PySem.W.findIn K (.ref C) "__init__"=some (some (.ref f))) (hf:PySem.W.typeIn K (.ref f)=some (.type "function"))
  (h : codeAny (model prog w) (A.under (.builtin "type.__call__" ⟨.ref C :: vs, kw⟩)) (.call (.ref f) ⟨.ref (s.heap.objs.size + 1) :: vs, kw⟩) (PySem.W.InitBack (s.heap.objs.size + 1) R)
   { s with heap:=(s.heap.push PySem.W.emptyDict).push (PySem.W.instObj C s.heap.objs.size) }) :
  codeAny (model prog w) A (.call (.ref C) ⟨vs,kw⟩) R s:=by
 obtain⟨hh,g,d,t,os⟩:=s;exact PySem.W.make_core (PySem.W.makes_of X hm) (PySem.W.looks_findIn X hi) (fun self=>PySem.W.bind_fn X self hf) (.inl rfl) h
end
def putF(f:Str)(v:V):List (Str×V)->List (Str×V)
 |[]=>[(f,v)]
 |(g,x)::r=>if g=f then (g,v)::r else (g,x)::putF f v r
theorem zjy(f g:Str)(v:V):∀fs:List (Str×V),(putF f v fs).lookup g=if g=f then some v else fs.lookup g
 |[]=>by
  show List.lookup g [(f,v)]=_
  by_cases h:g=f
  ·have hb:(g == f)=true:=beq_iff_eq.mpr h;simp only[List.lookup,hb,if_pos h]
  ·have hb:(g == f)=false:=beq_eq_false_iff_ne.mpr h;simp only[List.lookup,hb,if_neg h]
 |(k,x)::r=>by
  have ih:=zjy f g v r;rw[show putF f v ((k,x)::r)=(if k=f then (k,v)::r else (k,x)::putF f v r) from rfl]
  by_cases hk:k=f
  ·rw[if_pos hk]
   by_cases h:g=k
   ·have hb:(g == k)=true:=beq_iff_eq.mpr h;simp only[List.lookup,hb,if_pos (h.trans hk)]
   ·have hb:(g == k)=false:=beq_eq_false_iff_ne.mpr h;simp only[List.lookup,hb,if_neg (fun e:g=f=>h (e.trans hk.symm))]
  ·rw[if_neg hk]
   by_cases h:g=k
   ·have hb:(g == k)=true:=beq_iff_eq.mpr h;simp only[List.lookup,hb,if_neg (fun e:g=f=>hk (h.symm.trans e))]
   ·have hb:(g == k)=false:=beq_eq_false_iff_ne.mpr h;simp only[List.lookup,hb];exact ih
theorem zk1(f:Str)(v:V):∀fs:List (Str×V),f∈(putF f v fs).map (·.1)/\∀g,g∈fs.map (·.1)->g∈(putF f v fs).map (·.1)
 |[]=>⟨by simp[putF],fun g h=>by simp at h⟩
 |(k,x)::r=>by
  obtain⟨i1,i2⟩:=zk1 f v r;rw[show putF f v ((k,x)::r)=(if k=f then (k,v)::r else (k,x)::putF f v r) from rfl]
  by_cases hk:k=f
  ·rw[if_pos hk];subst hk;exact⟨by simp,fun g h=>by simpa using h⟩
  ·rw[if_neg hk];refine⟨?_,fun g h=>?_⟩
   ·rw[yaf];exact ya8 _ i1
   ·rw[yaf]at h ⊢
    rcases yaj.mp h with e|e
    ·exact yaj.mpr (.inl e)
    ·exact ya8 _ (i2 g e)
theorem zjz(f:Str)(v:V):∀fs:List (Str×V),(putF f v fs).length<=fs.length+1
 |[]=>by simp[putF]
 |(k,x)::r=>by
  have ih:=zjz f v r;rw[show putF f v ((k,x)::r)=(if k=f then (k,v)::r else (k,x)::putF f v r) from rfl]
  by_cases hk:k=f
  ·rw[if_pos hk,yax,yax];omega
  ·rw[if_neg hk,yax,yax];omega
theorem RelO.some_of{v:V}{o:Option Value}(r:RelO (some v) o):∃u,o=some u/\RelV v u:=by
 cases o with
 |none=>exact(show False from r).elim
 |some u=>exact⟨u,rfl,r⟩
theorem RelO.none_of{o:Option Value}(r:RelO none o):o=none:=by
 cases o with
 |none=>rfl
 |some u=>exact(show False from r).elim
theorem handed_of{v:V}{u:Value}(r:RelV v u):PySem.W.handedIn u=true:=by
 cases v with
 |non=>cases (show u=Value.none from r);rfl
 |bl b=>cases (show u=Value.bool b from r);rfl
 |int i=>obtain⟨t,e⟩:=(show ∃t,u=Value.int i t from r);cases e;rfl
 |str x=>obtain⟨t,e⟩:=(show ∃t,u=Value.str x t from r);cases e;rfl
 |byt b=>obtain⟨t,e⟩:=(show ∃t,u=Value.bytes b t from r);cases e;rfl
 |flt b=>obtain⟨t,e⟩:=(show ∃t,u=Value.float b t from r);cases e;rfl
 |ref a=>cases (show u=Value.ref a from r);rfl
 |ty n=>cases (show u=Value.type n from r);rfl
section
variable {P:Program}{w:World}{H H':Hp}{h h':Heap}{a C dx:Addr}{fs fs':List (Str×V)}
theorem ins_get(hok:HOk P w H h)(e:H a=some (.ins C dx fs)):∃mA,ObjM h a dx C mA/\(∀f,RelO (fs.lookup f) (mA f))/\PySem.Within mA (fs.map (·.1))/\fs.length<=1000/\H dx=some (.own a):=by
 obtain⟨d,z,ne,ob,mA,n,r,q⟩:=(show zbx P w H h a (.ins C dx fs) from hok a _ e);exact⟨mA,⟨ob,n,ne⟩,r,q,z,d⟩
end
structure Cls(K:PySem.W.Frag)(C:Addr):Prop where
 pg:PySem.W.plainGet K C Str.empty=true
 hd:PySem.W.hasDictIn K C=true
 po:PySem.W.plainOver K C=true
 sa:PySem.W.findIn K (.ref C) "__setattr__"=some (some (.builtin "object.__setattr__"))
theorem Cls.get{K:PySem.W.Frag}{C:Addr}(c:Cls K C)(f:Str):PySem.W.plainGet K C f=true:=c.pg
def zaz(K:PySem.W.Frag)(C:Addr)(f:Str):Prop:=PySem.W.findIn K (.ref C) f=some none
theorem zaz.taker{K:PySem.W.Frag}{C:Addr}{f:Str}(n:zaz K C f):PySem.W.takerIn K C f=some none:=by
 unfold PySem.W.takerIn;rw[show PySem.W.findIn K (.ref C) f=some none from n]
 rfl
structure Meth(K:PySem.W.Frag)(C:Addr)(m:Str)(f:Addr):Prop where
 at_:PySem.W.findIn K (.ref C) m=some (some (.ref f))
 fn:PySem.W.isFn K (.ref f)=true
 kp:PySem.W.keepIn K (.ref f)=true
section
variable {X:Cx}{pins:List (Addr×Obj)}{σ:St}{H:Hp}{s:Shared}{a C dx:Addr}{fs:List (Str×V)}{f:Str}{v:V}{A:Around}{E:Value->Shared->Prop}
theorem getattr_ok{b:Bool}{Q:Value->Shared->Prop}(I:Inv X pins σ H s)(e:H a=some (.ins C dx fs))(c:Cls X.K C)(n:zaz X.K C f)(l:fs.lookup f=some v)
  (h:∀u s',Inv X pins σ H s'->RelV v u->Q u s'):wpAny (model X.prog X.w) A (getAttr (.ref a) f b) Q E s:=by
 obtain⟨mA,O,r,_,_,_⟩:=ins_get I.hok e;obtain⟨u,hu,ru⟩:=RelO.some_of (v:=v) (o:=mA f) (by rw[<- l];exact r f)
 exact get_map I.kIn O (c.get f) c.hd n hu (handed_of ru) (h u _ (I.tok _) ru)
theorem zm5{m:Str}{g:Addr}{pl:Sem Bool}{Q:Value×List Value->Shared->Prop}(I:Inv X pins σ H s)(e:H a=some (.ins C dx fs))(c:Cls X.K C)(k:Meth X.K C m g)(l:fs.lookup m=none)
  (h:Q (.ref g,[.ref a]) s):wpAny (model X.prog X.w) A (getMethod (.ref a) m pl) Q E s:=by
 obtain⟨mA,O,r,_,_,_⟩:=ins_get I.hok e;have hn:mA m=none:=RelO.none_of (by rw[<- l];exact r m)
 exact get_meth I.kIn O (c.get m) k.at_ k.fn hn h
theorem setattr_ok{y:V}{u:Value}{Q:Unit->Shared->Prop}(I:Inv X pins σ H s)(e:H a=some (.ins C dx fs))(c:Cls X.K C)(n:zaz X.K C f)(hl:fs.length<1000)(ry:RelV y u)
  (h:∀s',Inv X pins σ (upd H a (.ins C dx (putF f y fs))) s'->Q () s'):wpAny (model X.prog X.w) A (setAttr (.ref a) f u) Q E s:=by
 obtain⟨mA,O,r,wi,_,ho⟩:=ins_get I.hok e;have hz:(fs.map (·.1)).length<=sizeLine:=by rw[ya1,sizeLine_eq];omega
 refine set_map I.kIn O c.sa c.po n.taker c.hd wi hz fun h' O' sb=>h _ ?_
 have hd:∃o,h'.get? dx=some o:=let ⟨o,_,_,e',_⟩:=O'.ns;⟨o,e'⟩;refine I.write (x:=a) (e:=dx) (by rw[e];exact True.intro) (.inr ho) (fun b q hb z=>(sb.2 b hb).trans z) hd ?_
 refine⟨by rw[zam O.ne];exact ho,?_,O.ne,O'.obj,_,O'.ns,fun g=>?_,fun g hg=>?_⟩
 ·have:=zjz f y fs;omega
 ·show RelO ((putF f y fs).lookup g) (if g=f then some u else mA g)
  rw[zjy]
  by_cases q:g=f
  ·rw[if_pos q,if_pos q];exact ry
  ·rw[if_neg q,if_neg q];exact r g
 ·by_cases q:g=f
  ·rw[q];exact(zk1 f y fs).1
  ·refine(zk1 f y fs).2 g (wi g fun z=>hg ?_)
   show(if g=f then some u else mA g)=none
   rw[if_neg q];exact z
theorem Inv.made(I:Inv X pins σ H s):Inv X pins σ (upd (upd H s.heap.objs.size (.own (s.heap.objs.size+1))) (s.heap.objs.size+1) (.ins C s.heap.objs.size []))
  { s with heap:=(s.heap.push PySem.W.emptyDict).push (PySem.W.instObj C s.heap.objs.size) }:=by
 have e1:(s.heap.push PySem.W.emptyDict).get? s.heap.objs.size=some PySem.W.emptyDict:=yar s.heap rfl
 have e2:((s.heap.push PySem.W.emptyDict).push (PySem.W.instObj C s.heap.objs.size)).get? (s.heap.objs.size+1)=some (PySem.W.instObj C s.heap.objs.size):=by
  have:=yar (s.heap.push PySem.W.emptyDict) (o:=PySem.W.instObj C s.heap.objs.size) rfl
  rwa[ybj]at this
 have e3:(s.heap.push PySem.W.emptyDict).Ns s.heap.objs.size (fun _=>none):=⟨PySem.W.emptyDict,#[],_,e1,rfl,(fun e he=>absurd he (by simp)),fun _=>rfl⟩
 have I1:=I.laid (a:=s.heap.objs.size) (o:=.own (s.heap.objs.size+1)) (h':=s.heap.push PySem.W.emptyDict) (t':=s.toks) (fun b u q=>ya7 _ q) (yaa _) ⟨_,e1⟩
 refine I1.laid (a:=s.heap.objs.size+1) (o:=.ins C s.heap.objs.size []) (t':=s.toks) (fun b u q=>ya7 _ q) (Nat.le_of_eq (ybj _ _)) ?_
 have ne:s.heap.objs.size≠s.heap.objs.size+1:=yau (ybk _);refine⟨by rw[zam ne,zay],ybe _,ne,e2,fun _=>none,(Heap.Ns1.of_empty e3).at fun o q=>ya7 _ q,fun _=>True.intro,fun y hy=>absurd rfl hy⟩
theorem attr_of{prog:Program}{w:World}{env:Env}{e:Expr}{f:Str}{pos:Pos}{s:Shared}{Q:Value->Shared->Prop}(hb:attributeBase e f env (eval e env)=eval e env)
  (h:wpAny (model prog w) A (eval e env) (fun o s₁=>wpAny (model prog w) A (getAttr o f true) Q E s₁) E s):wpAny (model prog w) A (eval (.Attribute e f pos) env) Q E s :=
 Attribute_any_ h (by rw[arm_eval_Attribute,hb])
end
def tFld(K:PySem.W.Frag)(ta:TE)(f:Str):TE:=fun σ H Q=>ta σ H fun x H1=>∃a C dx fs v,x=.ref a/\H1 a=some (.ins C dx fs)/\Cls K C/\zaz K C f/\fs.lookup f=some v/\Q v H1
def sFld(K:PySem.W.Frag)(ta tv:TE)(f:Str):TS:=fun D σ H=>tv σ H fun y H1=>ta σ H1 fun x H2=>∃a C dx fs,x=.ref a/\H2 a=some (.ins C dx fs)/\Cls K C/\zaz K C f/\fs.length<1000 /\
 D.nx σ (upd H2 a (.ins C dx (putF f y fs)))
section
variable {X:Cx}{o e value:Expr}{f:Str}{pos pos' tpos:Pos}{ta tv:TE}
theorem pe_fld(he:PE X e ta)(hb:attributeBase e f X.env (eval e X.env)=eval e X.env):PE X (.Attribute e f pos) (tFld X.K ta f):=by
 intro pins s σ H Q I h;refine attr_of hb (thn (he pins s σ H _ I h) fun u s1 ⟨x,H1,I1,rx,a,C,dx,fs,v,ex,ea,c,n,l,q⟩=>?_)
 subst ex;obtain rfl:u=Value.ref a:=rx;exact getattr_ok I1 ea c n l fun u' s2 I2 ru=>⟨v,H1,I2,ru,q⟩
theorem ps_fld(ha:PE X o ta)(hv:PE X value tv)(hs:swapsWith value (some (.Attribute o f pos')) pos.line X.env=pure false):PS X (.Assign [.Attribute o f pos'] value pos) (sFld X.K ta tv f):=by
 intro pins s σ H D I h;refine plainObj_wpAny_Assign_Attribute (thn (hv pins s σ H _ I h) fun u s1 ⟨y,H1,I1,ry,q⟩=>thn (ha pins s1 σ H1 _ I1 q) fun ov s2 ⟨x,H2,I2,rx,a,C,dx,fs,ex,ea,c,n,l,q2⟩=>?_) hs
 subst ex;obtain rfl:ov=Value.ref a:=rx;exact setattr_ok I2 ea c n l ry fun s3 I3=>⟨σ,_,I3,q2⟩
end
section
variable {X:Cx}{pins:List (Addr×Obj)}{σ:St}{H:Hp}{s:Shared}{A:Around}{E:Value->Shared->Prop}{Q:Value->Shared->Prop}{c:Value}{b:Bool}
inductive TyOf(K:PySem.W.Frag)(H:Hp):V->Value->Prop where
 |non:TyOf K H .non (.type "NoneType")
 |bl (x:Bool):TyOf K H (.bl x) (.type "bool")
 |int (i:Int):TyOf K H (.int i) (.type "int")
 |str (x:Str):TyOf K H (.str x) (.type "str")
 |flt (x:UInt64):TyOf K H (.flt x) (.type "float")
 |lst {a:Addr} {xs:List V} (e:H a=some (.lst xs)):TyOf K H (.ref a) (.type "list")
 |frz {a:Addr} {o:Obj} {xs:List V} (e:H a=some (.frz o (.lst xs))):TyOf K H (.ref a) (.type "list")
 |tup {a:Addr} {xs:List V} (e:H a=some (.tup xs)):TyOf K H (.ref a) (.type "tuple")
 |dK {a:Addr} {kvs:List (Key×V)} (e:H a=some (.dK kvs)):TyOf K H (.ref a) (.type "dict")
 |dT {a:Addr} {kvs:List (List Key×V)} (e:H a=some (.dT kvs)):TyOf K H (.ref a) (.type "dict")
 |ins {a C dx:Addr} {fs:List (Str×V)} (e:H a=some (.ins C dx fs)) (cl:Cls K C) (ha:PySem.W.findIn K (.ref C) "__class__"=some (some (.builtin "object.__class__")))
   (hn:PySem.W.specialIn K (.builtin "object.__class__") "__get__"=some (some (.builtin "getset_descriptor.__get__"))) (htk:PySem.W.takesIn K (.builtin "object.__class__")=some true)
   (hm:PySem.W.mroIn K C (.type "object")=some true):TyOf K H (.ref a) (.ref C)
theorem isinst_ok{x:V}{u t:Value}(I:Inv X pins σ H s)(rx:RelV x u)(ty:TyOf X.K H x t)(e:PySem.W.kitOne X.K t c=some b)(h:∀tk,Q (.bool b) { s with toks:=tk }) :
  wpAny (model X.prog X.w) A (call (.builtin "isinstance") [u,c]) Q E s:=by
 cases ty with
 |non=>cases (show u=Value.none from rx);exact yb4 PySem.W.kitx_none I.kIn True.intro e (fun z=>nomatch z) h
 |bl y=>cases (show u=Value.bool y from rx);exact yb4 PySem.W.kitx_bool I.kIn True.intro e (fun z=>nomatch z) h
 |int i=>obtain⟨t,q⟩:=(show ∃t,u=Value.int i t from rx);cases q;exact yb4 PySem.W.kitx_int I.kIn True.intro e (fun z=>nomatch z) h
 |str y=>obtain⟨t,q⟩:=(show ∃t,u=Value.str y t from rx);cases q;exact yb4 PySem.W.kitx_str I.kIn True.intro e (fun z=>nomatch z) h
 |flt y=>obtain⟨t,q⟩:=(show ∃t,u=Value.float y t from rx);cases q;exact yb4 PySem.W.kitx_float I.kIn True.intro e (fun z=>nomatch z) h
 |@lst a xs ea =>
  cases (show u=Value.ref a from rx);obtain⟨_,_,n,_,h1⟩:=(show zbx X.prog X.w H s.heap a (.lst xs) from I.hok a _ ea);exact yb4 PySem.W.kitx_list I.kIn ⟨_,h1,rfl⟩ e (fun z=>nomatch z) h
 |@frz a ob xs ea =>
  cases (show u=Value.ref a from rx);obtain⟨_,_,_,n,_,h1⟩:=(show zbx X.prog X.w H s.heap a (.frz ob (.lst xs)) from I.hok a _ ea);exact yb4 PySem.W.kitx_list I.kIn ⟨_,h1,rfl⟩ e (fun z=>nomatch z) h
 |@tup a xs ea =>
  cases (show u=Value.ref a from rx);obtain⟨_,_,_,p⟩:=(show zbx X.prog X.w H s.heap a (.tup xs) from I.hok a _ ea);obtain⟨o,h1,h2,_⟩:=p;exact yb4 PySem.W.kitx_tuple I.kIn ⟨o,h1,h2⟩ e (fun z=>nomatch z) h
 |@dK a kvs ea =>
  cases (show u=Value.ref a from rx);obtain⟨_,_,vs,_,p⟩:=(show zbx X.prog X.w H s.heap a (.dK kvs) from I.hok a _ ea);obtain⟨o,es,ep,h1,h2,_⟩:=p;exact yb4 ydb I.kIn ⟨o,h1,h2.1⟩ e (fun z=>nomatch z) h
 |@dT a kvs ea =>
  cases (show u=Value.ref a from rx);obtain⟨_,_,xs,_,o,es,ep,h1,h2,_⟩:=(show zbx X.prog X.w H s.heap a (.dT kvs) from I.hok a _ ea);exact yb4 ydb I.kIn ⟨o,h1,h2.1⟩ e (fun z=>nomatch z) h
 |@ins a C dx fs ea cl ha hn htk hm =>
  cases (show u=Value.ref a from rx);obtain⟨mA,O,_⟩:=ins_get I.hok ea;obtain⟨od,J,_⟩:=O.look;exact yb4 (PySem.W.kitx_own (cl.get _) cl.hd ha hn htk hm) I.kIn J e (fun z=>nomatch z) h
end
structure Room(k:Nat)(A:Around):Prop where
 hd:A.handled=none
 dp:A.depth+3 * k+5<recursionLimit
 un:A.units+16 * k+200<cLine
theorem Room.mono{j k:Nat}{A:Around}(r:Room k A)(h:j<=k):Room j A:=⟨r.hd,by have:=r.dp;omega,by have:=r.un;omega⟩
theorem Room.deeper{k:Nat}{A:Around}(r:Room (k+1) A)(env:Env):Room k (A.deeper env) :=
 ⟨r.hd,by have:=r.dp;show A.depth+1+3 * k+5<_;omega,by have:=r.un;show A.units+3+16 * k+200<_;omega⟩
theorem Room.in1{k:Nat}{A:Around}(r:Room (k+1) A):Room k A.in1 :=
 ⟨r.hd,by have:=r.dp;show A.depth+3 * k+5<_;omega,by have:=r.un;show A.units+1+16 * k+200<_;omega⟩
theorem make_depth{A:Around}{C:Addr}{us:List Value}{kw:List (Str×Value)}:(A.under (.builtin "type.__call__" ⟨.ref C::us,kw⟩)).depth=A.depth+1:=by
 first|rfl|simp[Around.under,Code.weight,Code.isCreation,Code.isGuard,Code.isCaller,Code.frames,Code.isFrame,guardIds]
theorem make_units{A:Around}{C:Addr}{us:List Value}{kw:List (Str×Value)}:(A.under (.builtin "type.__call__" ⟨.ref C::us,kw⟩)).units=A.units+1:=by
 first|rfl|simp[Around.under,Code.cUnits,Code.frames,Code.isFrame]
theorem Room.make{k:Nat}{A:Around}(r:Room (k+1) A)(C:Addr)(us:List Value)(kw:List (Str×Value)):Room k (A.under (.builtin "type.__call__" ⟨.ref C::us,kw⟩)) :=
 ⟨r.hd,by have:=r.dp;rw[make_depth];omega,by have:=r.un;rw[make_units];omega⟩
theorem Room.depth{k:Nat}{A:Around}(r:Room k A):A.depth<recursionLimit:=by have:=r.dp;omega
theorem Room.units{k:Nat}{A:Around}(r:Room k A):A.units+64<cLine:=by have:=r.un;omega
def tNil:TA:=fun _ H Q=>Q [] H
def tCons(ta:TE)(tr:TA):TA:=fun σ H Q=>ta σ H fun x H1=>tr σ H1 fun xs H2=>Q (x::xs) H2
section
variable {X:Cx}{e:Expr}{es:List Expr}{te:TE}{t:TA}{pos:Pos}
theorem zfb:PA X [] tNil:=fun _ _ _ _ H Q I h=>Calls.spliced_nil ⟨[],H,I,.nil,h⟩
theorem zbw(ha:PE X e te)(hr:PA X es t)(hs:starEach (e::es) X.env=(false,eval e X.env)::starEach es X.env:=by rfl):PA X (e::es) (tCons te t):=by
 intro pos pins s σ H Q I h;rw[hs];show wpAny _ _ (spliced ((false,eval e X.env)::backTo pos (starEach es X.env))) _ _ s;refine Calls.spliced_cons (thn (ha pins s σ H _ I h) fun u s1 ⟨x,H1,I1,r1,q1⟩=>?_)
 exact thn (hr pos pins s1 σ H1 _ I1 q1) fun us s2 ⟨xs,H2,I2,r2,q2⟩=>⟨x::xs,H2,I2,.cons r1 r2,q2⟩
def tTup(t:TA):TE:=fun σ H Q=>t σ H fun xs H1=>xs.length<=sizeLine/\∀p,H1 p=none->Q (.ref p) (upd H1 p (.tup xs))
def tLst(t:TA):TE:=fun σ H Q=>t σ H fun xs H1=>xs.length<=sizeLine/\∀p,H1 p=none->Q (.ref p) (upd H1 p (.lst xs))
theorem pe_tup{x1}(h:PA X es t):PE X (.Tuple es x1 pos) (tTup t):=by
 intro pins s σ H Q I hq;refine wpAny_Tuple_spliced (thn (h pos pins s σ H _ I hq) fun us s1 ⟨xs,H1,I1,r,z,q⟩=>⟨by rw[<- r.length];exact z,?_⟩)
 have hf:H1 s1.heap.objs.size=none:=I1.hok.fresh (yaa _);refine⟨.ref s1.heap.objs.size,upd H1 s1.heap.objs.size (.tup xs),I1.laid (t':=s1.toks) (fun b u e=>ya7 _ e) (yaa _) ?_,rfl,q _ hf⟩
 exact⟨z,us,r,⟨_,yar _ rfl,rfl,_,rfl⟩⟩
theorem pe_lst(h:PA X es t):PE X (.List es pos) (tLst t):=by
 intro pins s σ H Q I hq;refine wpAny_List_spliced (thn (h pos pins s σ H _ I hq) fun us s1 ⟨xs,H1,I1,r,z,q⟩=>⟨by rw[<- r.length];exact z,?_⟩)
 have hf:H1 s1.heap.objs.size=none:=I1.hok.fresh (yaa _);refine⟨.ref s1.heap.objs.size,upd H1 s1.heap.objs.size (.lst xs),I1.laid (t':=s1.toks) (fun b u e=>ya7 _ e) (yaa _) ?_,rfl,q _ hf⟩
 exact⟨z,us,0,r,yar _ rfl⟩
end
abbrev Sp:=List V->Hp->VK->XK->Prop
abbrev CXT:=List Env->Hp->Shared->XK->Value->Shared->Prop
structure Env0(P:Program)(w:World)(K:PySem.W.Frag)(mg:Str->Option Value)(base:Heap)(A:Around)(outer:List Env)(s:Shared)(H:Hp):Prop where
 frames:A.frames=some outer
 mod:Mod K mg base
 bs:∀b o,base.get? b=some o->s.heap.get? b=some o/\H b=none
 bsz:base.objs.size<=s.heap.objs.size
 funs:s.heap.FunFrames base outer
 frf:∀b∈frs outer,H b=none
 hok:HOk P w H s.heap
 bare:AllBare s.gens
def CE(outer:List Env)(P:Program)(w:World)(H:Hp)(s:Shared)(Q:VK)(u:Value)(s':Shared):Prop :=
 ∃v H',s'.os=s.os/\AllBare s'.gens/\Un (frs outer) [] H H' s.heap s'.heap/\HOk P w H' s'.heap/\RelV v u/\Q v H'
def CR(CX:CXT)(outer:List Env)(P:Program)(w:World)(H:Hp)(s:Shared)(Q:VK)(E:XK)(r:Result)(s':Shared):Prop :=
 match r with
 |.ok (.ret u)=>CE outer P w H s Q u s'
 |.ok _=>False
 |.error e=>CX outer H s E e s'
structure FnOk(P:Program)(w:World)(K:PySem.W.Frag)(mg:Str->Option Value)(base:Heap)(CX:CXT)(k:Nat)(f:Addr)(fd:FuncData)(ps:List Str)(sp:Sp):Prop where
 len:∀vs H Q E,sp vs H Q E->vs.length=ps.length
 run:∀(A:Around) (outer:List Env) (s:Shared) (H:Hp) (args:Args) (us:List Value) (vs:List V) (Q:VK) (E:XK),Room k A->Env0 P w K mg base A outer s H->BindsTo s fd args (ps.zip us)->zbl vs us->sp vs H Q E ->
  codeAny (model P w) A (.call (.ref f) args) (CR CX outer P w H s Q E) s
theorem FnOk.mono{P:Program}{w:World}{K:PySem.W.Frag}{mg:Str->Option Value}{base:Heap}{CX:CXT}{j k:Nat}{f:Addr}{fd:FuncData}{ps:List Str}{sp:Sp}(F:FnOk P w K mg base CX j f fd ps sp)(h:j<=k) :
  FnOk P w K mg base CX k f fd ps sp:=⟨F.len,fun A outer s H args us vs Q E hr=>F.run A outer s H args us vs Q E (hr.mono h)⟩
theorem Env0.make{P:Program}{w:World}{K:PySem.W.Frag}{mg:Str->Option Value}{base:Heap}{A:Around}{outer:List Env}{s:Shared}{H:Hp}(e:Env0 P w K mg base A outer s H)(C:Addr)(us:List Value)(kw:List (Str×Value)) :
  Env0 P w K mg base (A.under (.builtin "type.__call__" ⟨.ref C::us,kw⟩)) outer s H:=⟨by first|exact e.frames|(simpa[Around.under,Code.envs,Code.isFrame,pushEnvs] using e.frames),e.mod,e.bs,e.bsz,e.funs,e.frf,e.hok,e.bare⟩
theorem Env0.in1{P:Program}{w:World}{K:PySem.W.Frag}{mg:Str->Option Value}{base:Heap}{A:Around}{outer:List Env}{s:Shared}{H:Hp}(e:Env0 P w K mg base A outer s H) :
  Env0 P w K mg base A.in1 outer s H:=⟨e.frames,e.mod,e.bs,e.bsz,e.funs,e.frf,e.hok,e.bare⟩
section
variable {X:Cx}{pins:List (Addr×Obj)}{σ:St}{H:Hp}{s s':Shared}
theorem Inv.env0(I:Inv X pins σ H s):Env0 X.prog X.w X.K X.mg X.base X.A X.stack s H :=
 ⟨I.ok.frames,I.ok.mod,I.bs,yao I.ok.bsz I.sz,I.stack,I.stkFree,I.hok,I.bare⟩
theorem Inv.after{Q:VK}{u:Value}(I:Inv X pins σ H s)(h:CE X.stack X.prog X.w H s Q u s'):EP X pins σ Q u s':=by
 obtain⟨v,H',os,bare,un,hok,r,q⟩:=h;obtain⟨hh,g,d,t,os'⟩:=s';obtain rfl:os'=s.os:=os;exact⟨v,H',I.call (h':=hh) (g':=g) (d':=d) (t':=t) (ch:=[]) un hok bare (fun b z=>absurd z (by simp)),r,q⟩
end
def tCall(sp:Sp)(dvs:List V)(E:XK)(t:TA):TE:=fun σ H Q=>t σ H fun vs H1=>sp (vs++dvs) H1 Q E
def zh9(K:PySem.W.Frag)(fd:FuncData)(ps:List Str)(ds:List Value):Prop :=
 ∀(s:Shared) (us:List Value),K.In s.heap->(us++ds).length=ps.length->BindsTo s fd ⟨us,[]⟩ (ps.zip (us++ds))
theorem zh9.all{K:PySem.W.Frag}{fd:FuncData}{ps:List Str}(h:∀us:List Value,us.length=ps.length->bindArgs fd ⟨us,[]⟩=pure (ps.zip us)):zh9 K fd ps []:=fun s us _ hl=>by
 rw[yc0]at hl ⊢;exact .of_eq (h us hl)
def Passes(CX:CXT)(X:Cx)(E:XK):Prop:=∀(pins:List (Addr×Obj)) (σ:St) (H:Hp) (s:Shared) (e:Value) (s':Shared),Inv X pins σ H s->CX X.stack H s E e s'->X.xe e s'
section
variable {X:Cx}{CX:CXT}{k:Nat}{f C:Addr}{fd:FuncData}{ps:List Str}{sp:Sp}{dvs:List V}{ds:List Value}{E:XK}{x m:Str}{p pos apos:Pos}{e o:Expr}{es:List Expr}{ta:TE}{t:TA}
theorem run_fn{pins:List (Addr×Obj)}{σ:St}{H:Hp}{s:Shared}{Q:VK}{us:List Value}{vs:List V}(F:FnOk X.prog X.w X.K X.mg X.base CX k f fd ps sp)(hr:Room k X.A)(hb:zh9 X.K fd ps ds)(hd:zbl dvs ds)(hx:Passes CX X E)
  (I:Inv X pins σ H s) (r:zbl vs us) (h:sp (vs++dvs) H Q E):wpAny (model X.prog X.w) X.A (call (.ref f) us) (EP X pins σ Q) X.xe s:=by
 have r2:zbl (vs++dvs) (us++ds):=r.append hd;have hl:(us++ds).length=ps.length:=by rw[<- r2.length];exact F.len _ _ _ _ h
 refine wpAny_call (codeAny_mono (F.run X.A X.stack s H ⟨us,[]⟩ (us++ds) (vs++dvs) Q E hr I.env0 (hb s us I.kIn hl) r2 h) fun r s' hq=>?_)
 cases r with
 |error e=>exact hx pins σ H s e s' I hq
 |ok fl =>
  cases fl with
  |ret u=>exact I.after hq
  |next=>exact False.elim hq
  |brk=>exact False.elim hq
  |cont=>exact False.elim hq
theorem pe_call(F:FnOk X.prog X.w X.K X.mg X.base CX k f fd ps sp)(hr:Room k X.A)(hg:Gl X x)(hm:X.mg x=some (.ref f))(hk:PySem.W.keepIn X.K (.ref f)=true)(hb:zh9 X.K fd ps ds)(hd:zbl dvs ds)(hx:Passes CX X E)
  (ha:PA X (e::es) t) (hdb:(x == ("__debug__":Str))=false:=by decide) (he:starEach (e::es) X.env=(false,eval e X.env)::starEach es X.env:=by rfl) (hpl:(backTo pos (starEach es X.env)).any (·.1)=false:=by rfl) :
  PE X (.Call (.Name x p) (e::es) [] pos) (tCall sp dvs E t):=by
 intro pins s σ H Q I h;refine wpAny_Call_Name_kw (zi7 I hg hm ?_ hdb);refine yca (h₀:=X.base) I.ok.mod.kin hk (thn (ha pos pins s σ H _ I h) fun us s1 ⟨vs,H1,I1,r,q⟩=>⟨I1.kIn,?_⟩) he hpl
 exact run_fn F hr hb hd hx I1 r q
structure Mk(K:PySem.W.Frag)(C f:Addr):Prop where
 makes:PySem.W.makesIn K C=true
 init:PySem.W.findIn K (.ref C) "__init__"=some (some (.ref f))
 fn:PySem.W.isFn K (.ref f)=true
 kp:PySem.W.keepIn K (.ref C)=true
end
section
variable {X:Cx}{CX:CXT}{k:Nat}{f C:Addr}{fd:FuncData}{ps ks:List Str}{sp:Sp}{E:XK}{x m:Str}{p pos apos kpos:Pos}{e o:Expr}{es:List Expr}{kws:List Keyword}{te ta:TE}{t tk:TA}{nm:Option Str}
variable {g:List Value->List Value->List Value}{gV:List V->List V->List V}
end
structure FnScope(N P:List Str)(sc:Scope):Prop where
 kind:sc.kind=.function
 co:sc.isCoroutine=false
 gen:sc.isGenerator=false
 nd:N.Nodup
 pre:N.take P.length=P
 par:∀x∈P,sc.names.lookup x=some .local\/sc.names.lookup x=some .cell
 nofree:∀y∈sc.names,y.2≠.free
theorem bindL_out{kindOf:Str->Option NameKind}{x:Str}:∀{binds:List (Str×Value)} {m:Str->Option Value},(∀v,(x,v)∉binds)->bindL kindOf binds m x=m x
 |[],_,_=>rfl
 |(n,v)::r,m,h=>by
  unfold bindL;rw[bindL_out fun w hw=>h w (ya8 _ hw)]
  split
  ·have:x≠n:=by rintro rfl;exact h v ya9
   simp[this]
  ·rfl
theorem bindC_out{kindOf:Str->Option NameKind}{x:Str}:∀{binds:List (Str×Value)} {m:Str->Option Value},(∀v,(x,v)∉binds)->bindC kindOf binds m x=m x
 |[],_,_=>rfl
 |(n,v)::r,m,h=>by
  unfold bindC;rw[bindC_out fun w hw=>h w (ya8 _ hw)]
  split
  ·rfl
  ·have:x≠n:=by rintro rfl;exact h v ya9
   simp[this]
theorem bindL_get{kindOf:Str->Option NameKind}{x:Str}{v:Value}:∀{P:List Str} {vs:List Value} {i:Nat} {m:Str->Option Value},P.Nodup->P[i]?=some x->vs[i]?=some v->kindOf x=some .local ->
  bindL kindOf (P.zip vs) m x=some v
 |[],_,_,_,_,h,_,_=>by simp at h
 |_::_,[],_,_,_,_,h,_=>by simp at h
 |p::P,w::vs,0,m,nd,h1,h2,hk=>by
  simp at h1 h2;subst h1;subst h2;show bindL kindOf ((p,w)::P.zip vs) m p=_;unfold bindL;rw[bindL_out fun v hv=>(yc1.mp nd).1 (List.of_mem_zip hv).1,if_pos hk]
  simp
 |p::P,w::vs,i+1,m,nd,h1,h2,hk=>by
  show bindL kindOf ((p,w)::P.zip vs) m x=_;unfold bindL;exact bindL_get (i:=i) (yc1.mp nd).2 (by simpa using h1) (by simpa using h2) hk
theorem bindC_get{kindOf:Str->Option NameKind}{x:Str}{v:Value}:∀{P:List Str} {vs:List Value} {i:Nat} {m:Str->Option Value},P.Nodup->P[i]?=some x->vs[i]?=some v->kindOf x≠some .local ->
  bindC kindOf (P.zip vs) m x=some v
 |[],_,_,_,_,h,_,_=>by simp at h
 |_::_,[],_,_,_,_,h,_=>by simp at h
 |p::P,w::vs,0,m,nd,h1,h2,hk=>by
  simp at h1 h2;subst h1;subst h2;show bindC kindOf ((p,w)::P.zip vs) m p=_;unfold bindC;rw[bindC_out fun v hv=>(yc1.mp nd).1 (List.of_mem_zip hv).1,if_neg hk]
  simp
 |p::P,w::vs,i+1,m,nd,h1,h2,hk=>by
  show bindC kindOf ((p,w)::P.zip vs) m x=_;unfold bindC;exact bindC_get (i:=i) (yc1.mp nd).2 (by simpa using h1) (by simpa using h2) hk
def start(N:List Str)(vs:List V):St:=vs.map some++List.replicate (N.length - vs.length) none
def cxOf(CX:CXT)(P:Program)(w:World)(K:PySem.W.Frag)(mg:Str->Option Value)(base:Heap)(N:List Str)(qual:Str)(scope:Scope)(f:Addr)(cd:Value)(A:Around)(outer:List Env)(s:Shared)(H:Hp)(E:XK):Cx where
 prog:=P
 w:=w
 K:=K
 mg:=mg
 base:=base
 A:=A.deeper (envOfC qual scope s.heap.objs.size f cd)
 N:=N
 s₀:=s
 H₀:=H
 env:=envOfC qual scope s.heap.objs.size f cd
 outer:=outer
 stack:=envOfC qual scope s.heap.objs.size f cd::outer
 ex:=[]
 calm:=true
 fn:=fun _=>true
 pn:=[]
 xe:=fun e s'=>wpAny (model P w) (A.deeper (envOfC qual scope s.heap.objs.size f cd)) (leaving (envOfC qual scope s.heap.objs.size f cd) e) (fun _ s''=>CX outer H s E e s'') (fun e' s''=>CX outer H s E e' s'') s'
theorem cell_has{sc:Scope}{n:Nat}{x:Str}(h:sc.names.lookup x=some .cell):∃c,(cellsFrom n sc.names []).lookup x=some c:=by
 have q:=PySem.W.cellsFrom_some sc.names n [] (.inl h);exact Option.isSome_iff_exists.mp q
theorem inv_start{CX:CXT}{P:Program}{w:World}{K:PySem.W.Frag}{mg:Str->Option Value}{base:Heap}{N ps:List Str}{qual:Str}{scope:Scope}{f:Addr}{cd:Value}{A:Around}{outer:List Env}{s s1:Shared}{H:Hp}{E:XK}{us:List Value}{vs:List V}
  (S:FnScope N ps scope) (hd:A.handled=none) (e0:Env0 P w K mg base A outer s H) (hl:vs.length=ps.length) (r:zbl vs us)
  (x:InCallC s s.heap.objs.size (bindL (envOfC qual scope s.heap.objs.size f cd).kindOf (ps.zip us) fun _=>none) (cellsFrom (s.heap.objs.size+1) scope.names []) (bindC (envOfC qual scope s.heap.objs.size f cd).kindOf (ps.zip us) fun _=>none) s1) :
  Inv (cxOf CX P w K mg base N qual scope f cd A outer s H E) [] (start N vs) H s1:=by
 have hpl:ps.length<=N.length:=by have:=congrArg List.length S.pre;rw[yb6]at this;omega
 obtain⟨h1,tk,rfl,hk⟩:=x.done;have noA:∀b:Addr,b∉(cxOf CX P w K mg base N qual scope f cd A outer s H E).ex:=fun b z=>absurd (show b∈([]:List Addr) from z) (by simp)
 refine⟨⟨e0.mod,S.kind,rfl,rfl,yaa _,fun y z c h1 h2=>?_,fun y hy=>?_,fun y c _ h=>?_,fun _=>hd,Around.frames_deeper e0.frames,.inr ⟨rfl,rfl⟩,fun b z=>absurd z (noA b),e0.bs,e0.bsz,fun b _ _=>noA b,fun b z=>absurd z (noA b),e0.funs,e0.frf⟩,
  rfl,e0.bare,Un.kept hk,⟨_,x.toInCall.ns,fun i y v h1 h2 h3=>?_⟩,fun y c h=>⟨_,x.cell y c h⟩,e0.hok.fresh (yaa _),fun y c h=>?_,fun p hp=>absurd (show p∈([]:List (Addr×Obj)) from hp) (by simp),e0.hok.kept hk,?_⟩
 ·exact name_of_addr x.apart (ybc h1) (ybc h2)
 ·have hy:scope.names.lookup y=some .cell\/scope.names.lookup y=some .free:=hy
  rcases hy with hy|hy
  ·exact cell_has hy
  ·exact absurd rfl (S.nofree _ (ybc hy))
 ·exact ycu (x.above y c (ybc h))
 ·have hi:i<vs.length:=by
   unfold start at h2
   by_cases hi:i<vs.length
   ·exact hi
   ·rw[yb0 (by simpa using hi)]at h2
    rw[ycf]at h2;split at h2<;>cases h2
  have ha:vs[i]?=some v:=by
   unfold start at h2;rw[yas (by simpa using hi),ya5]at h2
   cases e:vs[i]? with
   |none=>rw[e]at h2;cases h2
   |some a=>rw[e]at h2;cases h2;rfl
  obtain⟨u,hu,rv⟩:=r.get ha
  have hp:ps[i]?=some y:=by
   rw[<- S.pre,List.getElem?_take_of_lt (by omega)];exact h1
  have ndP:ps.Nodup:=by rw[<- S.pre];exact S.nd.sublist (List.take_sublist _ _)
  refine⟨u,rv,?_⟩
  rcases S.par y (ybv hp) with k|k
  ·exact .inl ⟨k,bindL_get ndP hp hu k⟩
  ·obtain⟨c,e⟩:=cell_has (n:=s.heap.objs.size+1) k;refine .inr ⟨.inl k,c,e,?_⟩;have q:=x.cell y c e;rw[bindC_get ndP hp hu (by show scope.names.lookup y≠_;rw[k];decide)]at q
   exact q
 ·exact e0.hok.fresh (ycu (x.above y c (ybc h)))
 ·unfold start;show _=N.length;rw[yaq,ya1,ycp]
  omega
theorem fn_of{CX:CXT}{P:Program}{w:World}{K:PySem.W.Frag}{mg:Str->Option Value}{base:Heap}{k:Nat}{f:Addr}{name qual:Str}{params:Arguments}{body:List Stmt}{scope:Scope}{dV kV doc pm cdv ct oc:Value}{an od:Option Addr}
  {osl:Array (Option Value)} {N ps:List Str} {sp:Sp} (lk:K.lookup f=some ⟨oc,od,.func (PySem.W.fnOf name qual params body scope dV kV doc pm an cdv ct),osl⟩) (hcd:PySem.W.codeIn K cdv qual=true) (S:FnScope N ps scope)
  (len:∀vs H Q E,sp vs H Q E->vs.length=ps.length)
  (hbody : ∀ (A : Around) (outer : List Env) (s : Shared) (H : Hp) (vs : List V) (Q : VK) (E : XK), Room k (A.deeper (envOfC qual scope s.heap.objs.size f cdv)) -> sp vs H Q E ->
   ∃t,PSs (cxOf CX P w K mg base N qual scope f cdv A outer s H E) body t/\t { nx:=fun _ H'=>Q .non H',rt:=Q } (start N vs) H) :
  FnOk P w K mg base CX (k+1) f (PySem.W.fnOf name qual params body scope dV kV doc pm an cdv ct) ps sp:=by
 refine⟨len,fun A outer s H args us vs Q E hr e0 hb r hsp=>?_⟩
 have hl:=len _ _ _ _ hsp;have KX:K.In s.heap:=e0.mod.kin.keeps fun b o e=>(e0.bs b o e).1
 have lim:s.heap.NoLimit:=e0.mod.nolimit.keeps fun b o e=>(e0.bs b o e).1
 have hkind:∀y∈ps.zip us,scope.names.lookup y.1=some .local\/(scope.names.lookup y.1=some .cell/\((cellsFrom (s.heap.objs.size+1) scope.names []).lookup y.1).isSome=true):=fun⟨n,v⟩ hy=>by
  rcases S.par n (List.of_mem_zip hy).1 with q|q
  ·exact .inl q
  ·exact .inr ⟨q,PySem.W.cellsFrom_some _ _ _ (.inl q)⟩
 refine codeAny_call_function hr.depth (KX _ _ lk) rfl S.co S.gen rfl (PySem.W.codeRec_of KX hcd) (hb _ _ _ _ ?_);refine wpAny_newFunctionEnv_cells S.kind hkind fun env he s1 x=>?_
 subst he;refine⟨lim.keeps x.toInCall.keep,codeAny_func ?_⟩;obtain⟨t,ht,hq⟩:=hbody A outer s H vs Q E (hr.deeper _) hsp;have I:Inv (cxOf CX P w K mg base N qual scope f cdv A outer s H E) [] (start N vs) H s1:=inv_start S hr.hd e0 hl r x;refine wpAny_mono (ht [] s1 (start N vs) H _ I hq) (fun fl s' hs=>?_) fun e s' hs=>hs
 have fin:∀{σ':St} {H':Hp} {v:V} {u:Value},Inv (cxOf CX P w K mg base N qual scope f cdv A outer s H E) [] σ' H' s'->RelV v u->Q v H'->CE outer P w H s Q u s' :=
  fun {σ' H' v u} J rv q=>⟨v,H',J.os,J.bare,J.base,J.hok,rv,q⟩
 cases fl with
 |ret u =>
  obtain⟨v,σ',H',J,rv,q⟩:=hs;exact fin J rv q
 |next =>
  obtain⟨σ',H',J,q⟩:=hs;exact fin (v:=V.non) (u:=Value.none) J rfl q
 |brk =>
  obtain⟨_,_,_,q⟩:=hs;exact False.elim q
 |cont =>
  obtain⟨_,_,_,q⟩:=hs;exact False.elim q
section
variable {X:Cx}{x:Str}{p pos:Pos}{e:Expr}{es:List Expr}{t:TA}{id T:String}{r:List V->Hp->VK->Prop}
def tCB(r:List V->Hp->VK->Prop)(t:TA):TE:=fun σ H Q=>t σ H fun vs H1=>r vs H1 Q
theorem zgc(hc:zca X (.builtin id) r)(hg:Gl X x)(hm:X.mg x=none)(hv:bootBuiltins x=some (.builtin id))(ha:PA X (e::es) t)(hn:x≠"__name__":=by decide)(hdb:(x == ("__debug__":Str))=false:=by decide)
  (he:starEach (e::es) X.env=(false,eval e X.env)::starEach es X.env:=by rfl) (hpl:(backTo pos (starEach es X.env)).any (·.1)=false:=by rfl):PE X (.Call (.Name x p) (e::es) [] pos) (tCB r t):=by
 intro pins s σ H Q I h;refine wpAny_Call_Name_kw (zlv I hg hm hv ?_ hn hdb);exact PyProof.Rows.callWith_builtin1 (thn (ha pos pins s σ H _ I h) fun us s1 ⟨vs,H1,I1,r1,q1⟩=>hc pins s1 σ H1 vs us Q I1 r1 q1) he hpl
theorem pe_callTy(hc:zca X (.type T) r)(hg:Gl X x)(hm:X.mg x=none)(hv:bootBuiltins x=some (.type T))(ha:PA X (e::es) t)(hn:x≠"__name__":=by decide)(hdb:(x == ("__debug__":Str))=false:=by decide)
  (he:starEach (e::es) X.env=(false,eval e X.env)::starEach es X.env:=by rfl) (hpl:(backTo pos (starEach es X.env)).any (·.1)=false:=by rfl):PE X (.Call (.Name x p) (e::es) [] pos) (tCB r t):=by
 intro pins s σ H Q I h;refine wpAny_Call_Name_kw (zlv I hg hm hv ?_ hn hdb);exact ybn (thn (ha pos pins s σ H _ I h) fun us s1 ⟨vs,H1,I1,r1,q1⟩=>hc pins s1 σ H1 vs us Q I1 r1 q1) he hpl
end
end L2
namespace HT
open PySem PyProof.Rows
section
open PySem.SeqAt
open PySem.AutoSeq1 (wpAny_loadPart')
open PySem.MeetsSeq PySem.MeetsSeq2 PySem.MeetsSeq3
end
section
variable {prog:Program}{w:World}{A:Around}{E:Value->Shared->Prop}{s:Shared}
def sIx(n d:Nat):Option Int->Nat
 |none=>d
 |some v=>if v<0 then (v+(n:Int)).toNat else min v.toNat n
theorem sIx_none(n d:Nat):sIx n d none=d:=rfl
theorem sIx_nat(n d k:Nat):sIx n d (some (k:Int))=min k n:=by
 show(if (k:Int)<0 then ((k:Int)+(n:Int)).toNat else min (k:Int).toNat n)=min k n
 rw[if_neg (by omega),ych]
end
end HT
namespace L2
open PySem PySem.Spec PyProof.Rows
abbrev TO:=St->Hp->(Option Int->Hp->Prop)->Prop
def PO(X:Cx)(e:Option Expr)(t:TO):Prop :=
 ∀(pins:List (Addr×Obj)) (s:Shared) (σ:St) (H:Hp) (Q:Option Int->Hp->Prop),Inv X pins σ H s->t σ H Q ->
  wpAny (model X.prog X.w) X.A (evalPart e X.env) (fun u s'=>∃o H',Inv X pins σ H' s'/\IsPart u o/\Q o H') X.xe s
def tNoPart:TO:=fun _ H Q=>Q none H
def tPart(t:TE):TO:=fun σ H Q=>t σ H fun x H1=>∃i,x=.int i/\Q (some i) H1
section
variable {X:Cx}{e:Expr}{te:TE}{lo hi:Option Expr}{tl th:TO}{pos p2:Pos}
theorem po_none:PO X none tNoPart:=by
 intro pins s σ H Q I h;rw[evalPart_none];exact wpAny_pure ⟨none,H,I,.none,h⟩
theorem po_some(h:PE X e te):PO X (some e) (tPart te):=by
 intro pins s σ H Q I hw;rw[evalPart_some];refine thn (h pins s σ H _ I hw) fun u s1 ⟨x,H1,I1,r1,q1⟩=>?_
 obtain⟨i,rfl,q⟩:=q1;obtain⟨t,rfl⟩:=r1;exact⟨some i,H1,I1,.int i t,q⟩
def SlR(X:Cx)(r:V->Option Int->Option Int->Hp->VK->Prop):Prop :=
 ∀(pins:List (Addr×Obj)) (s:Shared) (σ:St) (H:Hp) (x:V) (v vl vu:Value) (lo hi:Option Int) (sl:Addr) (Q:VK),Inv X pins σ H s->RelV x v->s.heap.IsSliceOf sl vl vu .none->IsPart vl lo->IsPart vu hi->r x lo hi H Q ->
  ∃T id,typeLookup (.type T) "__getitem__"=pure (some (.builtin id))/\s.TypeIs v T/\wpAny (model X.prog X.w) X.A (getItem v (.ref sl)) (EP X pins σ Q) X.xe s
theorem SlR.or{r r':V->Option Int->Option Int->Hp->VK->Prop}(h:SlR X r)(h':SlR X r'):SlR X (fun x lo hi H Q=>r x lo hi H Q\/r' x lo hi H Q):=by
 intro pins s σ H x v vl vu lo hi sl Q I rx hs pl pu q
 rcases q with q|q
 ·exact h pins s σ H x v vl vu lo hi sl Q I rx hs pl pu q
 ·exact h' pins s σ H x v vl vu lo hi sl Q I rx hs pl pu q
def tSl(r:V->Option Int->Option Int->Hp->VK->Prop)(te:TE)(tl th:TO):TE:=fun σ H Q=>te σ H fun x H1=>tl σ H1 fun l H2=>th σ H2 fun u H3=>r x l u H3 Q
theorem pe_slice{r:V->Option Int->Option Int->Hp->VK->Prop}(hr:SlR X r)(he:PE X e te)(hl:PO X lo tl)(hu:PO X hi th):PE X (.Subscript e (.Slice lo hi none p2) pos) (tSl r te tl th):=by
 intro pins s σ H Q I h;refine Subscript_ (thn (he pins s σ H _ I h) fun v s1 ⟨x,H1,I1,r1,q1⟩=>?_)
 refine wpAny_Slice (thn (hl pins s1 σ H1 _ I1 q1) fun vl s2 ⟨l,H2,I2,pl,q2⟩=>thn (hu pins s2 σ H2 _ I2 q2) fun vu s3 ⟨u,H3,I3,pu,q3⟩=>?_)
 rw[evalPart_none];refine wpAny_pure ?_;have I4:Inv X pins σ H3 { s3 with heap:=s3.heap.push { cls:=.type "slice",data:=.fields #[vl,vu,.none] } }:=I3.kept (t':=s3.toks) fun b ob q=>ya7 _ q
 obtain⟨T,id,hT,ht,hg⟩:=hr pins { s3 with heap:=s3.heap.push { cls:=.type "slice",data:=.fields #[vl,vu,.none] } } σ H3 x v vl vu l u s3.heap.objs.size Q I4 r1 (Heap.IsSliceOf.new ..) pl pu q3
 show wpAny (model X.prog X.w) X.A (subscriptTail e (.Slice lo hi none p2) v (.ref s3.heap.objs.size)) (EP X pins σ Q) X.xe { s3 with heap:=s3.heap.push { cls:=.type "slice",data:=.fields #[vl,vu,.none] } }
 exact tail_any (ops:=[.ref s3.heap.objs.size,v]) ht hT hg (by with_unfolding_all rfl)
def cutV(xs:List V)(lo hi:Option Int):List V:=(xs.drop (HT.sIx xs.length 0 lo)).take (HT.sIx xs.length xs.length hi - HT.sIx xs.length 0 lo)
theorem cutV_length(xs:List V)(lo hi:Option Int):(cutV xs lo hi).length<=xs.length:=by
 unfold cutV;rw[yb6,ybx]
 omega
end
def ixN(n:Nat)(i:Int):Option Nat:=if 0<=i then (if i<n then some i.toNat else none) else if -(n:Int)<=i then some (i+n).toNat else none
def atI{α:Type}(xs:List α)(i:Int):Option α:=(ixN xs.length i).bind fun j=>xs[j]?
theorem ixN_seq{n:Nat}{i:Int}{j:Nat}(h:ixN n i=some j):seqIndex? i n=some j/\j<n/\-(n:Int)<=i/\i<n:=by
 unfold ixN at h
 by_cases h0:0<=i
 ·rw[if_pos h0]at h
  by_cases h1:i<n
  ·rw[if_pos h1]at h;have e:i.toNat=j:=yal h;exact⟨by rw[seqIndex_of h0 h1,e],by omega,by omega,h1⟩
  ·rw[if_neg h1]at h;cases h
 ·rw[if_neg h0]at h
  by_cases h1:-(n:Int)<=i
  ·rw[if_pos h1]at h;have e:(i+n).toNat=j:=yal h;exact⟨by rw[seqIndex_neg (by omega) h1,e],by omega,h1,by omega⟩
  ·rw[if_neg h1]at h;cases h
theorem atI_get{α:Type}{xs:List α}{i:Int}{v:α}(h:atI xs i=some v):∃j,seqIndex? i xs.length=some j/\xs[j]?=some v/\j<xs.length/\-(xs.length:Int)<=i/\i<xs.length:=by
 unfold atI at h;cases e:ixN xs.length i with
 |none=>rw[e]at h;cases h
 |some j =>
  rw[e]at h;obtain⟨h1,h2,h3,h4⟩:=ixN_seq e;exact⟨j,h1,h,h2,h3,h4⟩
theorem zbr{α:Type}{xs:List α}{j:Nat}{v:α}(h:xs[j]?=some v):atI xs (j:Int)=some v:=by
 have hj:j<xs.length:=(ya6.mp h).1
 have e:ixN xs.length (j:Int)=some j:=by
  unfold ixN;rw[if_pos (by omega),if_pos (by omega)];simp
 unfold atI;rw[e];exact h
def PlainIx(b:Expr):Prop:=∀o i,subscripted b false o i=operate [o,i] (getItem o i)
def IxR(X:Cx)(r:R2):Prop :=
 ∀(value slice:Expr) (pins:List (Addr×Obj)) (s:Shared) (σ:St) (H:Hp) (x y:V) (v u:Value) (Q:VK),Inv X pins σ H s->RelV x v->RelV y u->r x y H Q ->
  subscripted slice false v u=operate [v,u] (getItem v u)->wpAny (model X.prog X.w) X.A (subscriptTail value slice v u) (EP X pins σ Q) X.xe s
def MtR(X:Cx)(id:String)(r:V->List V->Hp->VK->Prop):Prop :=
 ∀(pins:List (Addr×Obj)) (s:Shared) (σ:St) (H:Hp) (x:V) (xs:List V) (v:Value) (us:List Value) (Q:VK),Inv X pins σ H s->RelV x v->zbl xs us->r x xs H Q ->
  wpAny (model X.prog X.w) X.A (call (.builtin id) (v::us)) (EP X pins σ Q) X.xe s
section
variable {X:Cx}{a b:Expr}{ta tb:TE}{pos:Pos}
theorem IxR.or{r r':R2}(h:IxR X r)(h':IxR X r'):IxR X (fun x y H Q=>r x y H Q\/r' x y H Q):=by
 intro value slice pins s σ H x y v u Q I rx ry q hs
 rcases q with q|q
 ·exact h value slice pins s σ H x y v u Q I rx ry q hs
 ·exact h' value slice pins s σ H x y v u Q I rx ry q hs
theorem MtR.or{id:String}{r r':V->List V->Hp->VK->Prop}(h:MtR X id r)(h':MtR X id r'):MtR X id (fun x xs H Q=>r x xs H Q\/r' x xs H Q):=by
 intro pins s σ H x xs v us Q I rx rs q
 rcases q with q|q
 ·exact h pins s σ H x xs v us Q I rx rs q
 ·exact h' pins s σ H x xs v us Q I rx rs q
theorem pe_ix{r:R2}(hr:IxR X r)(ha:PE X a ta)(hb:PE X b tb)(hs:PlainIx b):PE X (.Subscript a b pos) (tOp r ta tb):=by
 intro pins s σ H Q I h;exact Subscript_ (binT ha hb I h fun v u s2 x y H2 I2 rx ry q=>hr a b pins s2 σ H2 x y v u Q I2 rx ry q (hs _ _))
def rIxL(K:PySem.W.Frag):R2:=fun x y H Q=>∃p xs i v,x=.ref p/\y=.int i/\SqL K H p xs/\atI xs i=some v/\Q v H
def rIxT(K:PySem.W.Frag):R2:=fun x y H Q=>∃p xs i v,x=.ref p/\y=.int i/\SqT K H p xs/\atI xs i=some v/\Q v H
def rIxS:R2:=fun x y H Q=>∃z i c,x=.str z/\y=.int i/\z.length<=sizeLine/\atI z.cps.toList i=some c/\Q (.str ⟨#[c]⟩) H
theorem ix_list:IxR X (rIxL X.K):=by
 intro value slice pins s σ H x y v u Q I rx ry h hs;obtain⟨p,xs,i,z,rfl,rfl,hq,he,q⟩:=h;cases rx;obtain⟨t,rfl⟩:=ry;obtain⟨its,r,pl,hz⟩:=I.list hq;obtain⟨j,h1,h2,h3,h4,h5⟩:=atI_get he;obtain⟨w,ew,rw'⟩:=r.get h2;have hl:=r.length;have hn:=line63;have fin:EP X pins σ Q w s:=⟨z,H,I,rw',q⟩
 by_cases h0:0<=i
 ·have hj:i.toNat=j:=by
   rw[seqIndex_of h0 h5]at h1;exact yal h1
  exact item_listR pl.isList h0 (by omega) (by rw[hj];simpa using ew) fin hs
 ·have hj:(i+(its.toArray.size:Int)).toNat=j:=by
   rw[seqIndex_neg (by omega) h4]at h1
   rw[yad,<- hl];exact yal h1
  exact subscriptTail_builtinR (x:=w) pl.isList.typeIs slot_list_getitem.lookup
   (wpAny_getItem_list_neg (Q:=fun r s'=>r=w/\EP X pins σ Q r s') pl.isList (by omega) (by rw[yad]<;>omega) (by omega) (by rw[hj];simpa using ew) ⟨rfl,fin⟩) hs
theorem ix_tup:IxR X (rIxT X.K):=by
 intro value slice pins s σ H x y v u Q I rx ry h hs;obtain⟨p,xs,i,z,rfl,rfl,hq,he,q⟩:=h;cases rx;obtain⟨t,rfl⟩:=ry;obtain⟨its,r,pl,hz⟩:=I.tuple hq;obtain⟨j,h1,h2,h3,h4,h5⟩:=atI_get he;obtain⟨w,ew,rw'⟩:=r.get h2;have hl:=r.length;have hn:=line63;have fin:EP X pins σ Q w s:=⟨z,H,I,rw',q⟩
 exact subscriptTail_builtinR (x:=w) pl.typeIs slot_tuple_getitem.lookup
  (getItem_tuple (j:=j) (Q:=fun r s'=>r=w/\EP X pins σ Q r s') pl (by omega) (by omega) (by rw[yad,<- hl];exact h1) (by simpa using ew) ⟨rfl,fin⟩) hs
theorem ix_str:IxR X rIxS:=by
 intro value slice pins s σ H x y v u Q I rx ry h hs;obtain⟨z,i,c,rfl,rfl,hz,he,q⟩:=h;obtain⟨t,rfl⟩:=rx;obtain⟨t',rfl⟩:=ry;obtain⟨j,h1,h2,h3,h4,h5⟩:=atI_get he;have hl:z.cps.toList.length=z.length:=by simp[Str.length]
 rw[hl]at h1 h4 h5;have hn:=line63
 exact tail_any (typeIs_str s z t) slot_str_getitem.lookup (getItem_str (c:=c) (by
  have e1:decide (i < -(2 ^ 63:Int))=false:=decide_eq_false (by omega)
  have e2:decide (i ≥ 2 ^ 63)=false:=decide_eq_false (by omega)
  rw[e1,e2,yc5]) (by rw[h1];simpa using h2) ⟨.str ⟨#[c]⟩,H,I.tok _,⟨_,rfl⟩,q⟩) hs
def rIx(K:PySem.W.Frag):R2:=fun x y H Q=>rIxL K x y H Q\/rIxT K x y H Q\/rIxS x y H Q
theorem ix_seq:IxR X (rIx X.K):=ix_list.or (ix_tup.or ix_str)
theorem mapSeq_set(its:List Value)(n j:Nat)(u:Value):Obj.mapSeq (·.setIfInBounds j u) { cls:=.type "list",data:=.seq its.toArray n }={ cls:=.type "list",data:=.seq (its.set j u).toArray n }:=by
 simp[Obj.mapSeq]
theorem Inv.lst{pins:List (Addr×Obj)}{σ:St}{H:Hp}{s:Shared}{p:Addr}{xs:List V}(I:Inv X pins σ H s)(h:H p=some (.lst xs)) :
  ∃(its:List Value) (n:Nat),zbl xs its/\s.heap.get? p=some { cls:=.type "list",data:=.seq its.toArray n }/\xs.length<=sizeLine:=by
 obtain⟨z,its,n,r,e⟩:=I.hok p _ h;exact⟨its,n,r,e,z⟩
theorem Inv.lstUpd{pins:List (Addr×Obj)}{σ:St}{H:Hp}{s:Shared}{p:Addr}{xs ys:List V}{its its':List Value}{n n':Nat}{f:Obj->Obj}(I:Inv X pins σ H s)(h:H p=some (.lst xs))
  (ho:s.heap.get? p=some { cls:=.type "list",data:=.seq its.toArray n }) (hf:f { cls:=.type "list",data:=.seq its.toArray n }={ cls:=.type "list",data:=.seq its'.toArray n' }) (r:zbl ys its') (hz:ys.length<=sizeLine) (t:Nat) :
  Inv X pins σ (upd H p (.lst ys)) { s with heap:=s.heap.update p f,toks:=t }:=by
 have e:(s.heap.update p f).get? p=some { cls:=.type "list",data:=.seq its'.toArray n' }:=by
  rw[Heap.get?_update_self f ho (by rw[hf]<;>rfl),hf]
 refine I.write (x:=p) (e:=p) (by rw[h];trivial) (.inl rfl) (fun b u hb q=>(ybm _ _ (yaz hb)).trans q) ⟨_,e⟩ ?_
 exact⟨hz,its',n',r,e⟩
def rSetL:V->V->V->Hp->(Hp->Prop)->Prop:=fun o i v H Q=>∃p xs k j,o=.ref p/\i=.int k/\H p=some (.lst xs)/\ixN xs.length k=some j/\Q (upd H p (.lst (xs.set j v)))
theorem set_list:PSet X rSetL:=by
 intro pins s σ H o i v ov iv u Q I ro ri rv h;obtain⟨p,xs,k,j,rfl,rfl,hp,hj,q⟩:=h;cases ro;obtain⟨t,rfl⟩:=ri;obtain⟨its,n,r,ho,hz⟩:=I.lst hp;obtain⟨h1,h2,h3,h4⟩:=ixN_seq hj;have hl:=r.length;have hn:=line63
 have I':Inv X pins σ (upd H p (.lst (xs.set j v))) { s with heap:=s.heap.update p (Obj.mapSeq (·.setIfInBounds j u)) } :=
  I.lstUpd hp ho (mapSeq_set its n j u) (r.set rv j) (by rw[ycv];exact hz) s.toks
 by_cases h0:0<=k
 ·have hk:k.toNat=j:=by
   rw[seqIndex_of h0 h4]at h1;exact yal h1
  exact PySem.W.ki_setAt ho h0 (by omega) (by rw[yad,<- hl];exact h4) (by rw[hk];exact⟨_,I',q⟩)
 ·have hk:(k+(its.toArray.size:Int)).toNat=j:=by
   rw[seqIndex_neg (by omega) h3]at h1
   rw[yad,<- hl];exact yal h1
  exact PySem.W.ki_setBack ho (by omega) (by rw[yad,<- hl];exact h3) (by omega) (by rw[hk];exact⟨_,I',q⟩)
theorem slice_bounds(lo hi:Option Int)(n:Nat):(sliceBounds lo hi none n).1=((HT.sIx n 0 lo:Nat):Int)/\(sliceBounds lo hi none n).2.1=((HT.sIx n n hi:Nat):Int)/\(sliceBounds lo hi none n).2.2=1:=by
 refine⟨?_,?_,rfl⟩
 ·cases lo with
  |none=>simp[sliceBounds,HT.sIx]
  |some i =>
   simp only[sliceBounds,HT.sIx,Option.getD_none,show(1:Int) > 0 by decide,if_true]
   by_cases h:i<0
   ·simp only[h,if_true]<;>omega
   ·simp only[h,if_false]<;>omega
 ·cases hi with
  |none=>simp[sliceBounds,HT.sIx]
  |some i =>
   simp only[sliceBounds,HT.sIx,Option.getD_none,show(1:Int) > 0 by decide,if_true]
   by_cases h:i<0
   ·simp only[h,if_true]<;>omega
   ·simp only[h,if_false]<;>omega
theorem slicePick_cut(its:List Value)(lo hi:Option Int):slicePick its.toArray lo hi none=((its.drop (HT.sIx its.length 0 lo)).take (HT.sIx its.length its.length hi - HT.sIx its.length 0 lo)).toArray:=by
 obtain⟨h1,h2,h3⟩:=slice_bounds lo hi its.toArray.size;unfold slicePick;rw[h1,h2,h3];simp only[sliceRange_one,pick_run,yad]<;>rfl
def rSlL(K:PySem.W.Frag):V->Option Int->Option Int->Hp->VK->Prop:=fun x lo hi H Q=>∃a xs,x=.ref a/\SqL K H a xs/\∀p,H p=none->Q (.ref p) (upd H p (.lst (cutV xs lo hi)))
theorem sl_list:SlR X (rSlL X.K):=by
 intro pins s σ H x v vl vu lo hi sl Q I rx hs pl pu h;obtain⟨a,xs,rfl,hx,q⟩:=h;cases rx;obtain⟨its,r,ht,hz⟩:=I.list hx;have hlen:=r.length;refine⟨"list",_,slot_list_getitem.lookup,ht.isList.typeIs,?_⟩;refine wpAny_getItem_list_slice ht.isList hs pl pu .none (by simp) ?_ (by rw[yad]<;>omega)
 rw[slicePick_cut,<- hlen];refine⟨.ref s.heap.objs.size,_,I.laid (t':=s.toks) (o:=.lst (cutV xs lo hi)) (fun b ob q=>ya7 _ q) (yaa _) ?_,rfl,q _ (I.hok.fresh (yaa _))⟩
 exact⟨yao (cutV_length xs lo hi) hz,_,0,(r.drop (HT.sIx xs.length 0 lo)).take (HT.sIx xs.length xs.length hi - HT.sIx xs.length 0 lo),yar _ rfl⟩
theorem zca.or{f:Value}{r r':List V->Hp->VK->Prop}(h:zca X f r)(h':zca X f r'):zca X f (fun xs H Q=>r xs H Q\/r' xs H Q):=by
 intro pins s σ H xs us Q I rs q
 rcases q with q|q
 ·exact h pins s σ H xs us Q I rs q
 ·exact h' pins s σ H xs us Q I rs q
theorem call_list_of:zca X (.type "list") (fun xs H Q=>∃p ys,xs=[.ref p]/\(SqL X.K H p ys\/SqT X.K H p ys)/\∀l,H l=none->Q (.ref l) (upd H l (.lst ys))):=by
 intro pins s σ H xs us Q I r h;obtain⟨p,ys,rfl,hq,q⟩:=h;obtain⟨u,rfl,rx⟩:=vals1 r;cases rx
 have fin:∀(its:List Value),zbl ys its->ys.length<=sizeLine->∀(h':Heap) (c':Nat),(∀b o',s.heap.get? b=some o'->h'.get? b=some o') ->
   h'.get? s.heap.objs.size=some { cls:=.type "list",dict:=none,data:=.seq its.toArray c',slots:=#[] }->EP X pins σ Q (.ref s.heap.objs.size) { s with heap:=h' }:=fun its r' hz h' c' kp e =>
  ⟨.ref s.heap.objs.size,_,I.laid (t':=s.toks) kp (yaa _) (show zbx X.prog X.w _ h' _ (.lst ys) from⟨hz,its,c',r',e⟩),rfl,q _ (I.hok.fresh (yaa _))⟩
 rcases hq with hq|hq
 ·obtain⟨its,r',pl,hz⟩:=I.list hq;have hlen:=r'.length;obtain⟨o,ho,hc,n,hd⟩:=pl.isList;exact call_list_seq p (.inl rfl) ho hc hd (fun h' c' kp e=>fin its r' hz h' c' kp e) (by simp only[yad]<;>omega)
 ·obtain⟨its,r',pl,hz⟩:=I.tuple hq;have hlen:=r'.length;obtain⟨o,ho,hc,n,hd⟩:=pl;exact call_list_seq p (.inr rfl) ho hc hd (fun h' c' kp e=>fin its r' hz h' c' kp e) (by simp only[yad]<;>omega)
theorem call_tuple_of:zca X (.type "tuple") (fun xs H Q=>∃p ys,xs=[.ref p]/\((SqL X.K H p ys/\∀l,H l=none->Q (.ref l) (upd H l (.tup ys)))\/(SqT X.K H p ys/\Q (.ref p) H))):=by
 intro pins s σ H xs us Q I r h;obtain⟨p,ys,rfl,h⟩:=h;obtain⟨u,rfl,rx⟩:=vals1 r;cases rx
 rcases h with ⟨hq,q⟩|⟨hq,q⟩
 ·obtain⟨its,r',pl,hz⟩:=I.list hq;have hlen:=r'.length;refine call_tuple_list pl.isList (fun h' kp=>?_) (by simp only[yad]<;>omega)
  have I1:Inv X pins σ H { s with heap:=h' }:=I.kept (t':=s.toks) kp
  have I2:Inv X pins σ (upd H h'.objs.size (.tup ys)) { s with heap:=h'.push { cls:=.type "tuple",data:=.seq its.toArray } } :=
   I1.laid (t':=s.toks) (fun b o e=>ya7 _ e) (yaa _) (show zbx X.prog X.w _ _ _ (.tup ys) from⟨hz,its,r',IsTup.new _ _⟩)
  exact⟨.ref h'.objs.size,_,I2,rfl,q _ (I1.hok.fresh (yaa _))⟩
 ·obtain⟨its,r',pl,hz⟩:=I.tuple hq;exact call_tuple_same pl ⟨.ref p,H,I,rfl,q⟩
def tyV(K:PySem.W.Frag)(T:String)(x:V)(H:Hp):Prop:=match x with
 |.str _=>T="str"
 |.int _=>T="int"
 |.ref p=>(T="list"/\∃xs,SqL K H p xs)\/(T="tuple"/\∃o,K.lookup p=some o/\o.cls=.type "tuple"/\o.dict=none) \/
   (T="dict"/\((∃kvs,H p=some (.dK kvs))\/∃kvs,H p=some (.dT kvs)))\/(T="set"/\∃S n,H p=some (.set S n))
 |_=>False
theorem tyV_is{pins:List (Addr×Obj)}{σ:St}{H:Hp}{s:Shared}{T:String}{x:V}{v:Value}(I:Inv X pins σ H s)(r:RelV x v)(ty:tyV X.K T x H) :
  s.TypeIs v T/\∀a,v=.ref a->∃ob,s.heap.get? a=some ob/\ob.dict=none:=by
 cases x with
 |str z =>
  obtain⟨t,rfl⟩:=r;cases (show T="str" from ty);exact⟨typeIs_str s z t,fun _ e=>nomatch e⟩
 |int i =>
  obtain⟨t,rfl⟩:=r;cases (show T="int" from ty);exact⟨typeIs_int s i t,fun _ e=>nomatch e⟩
 |ref p =>
  cases r
  rcases ty with ⟨rfl,xs,hq⟩|⟨rfl,o,hk,hc,hd⟩|⟨rfl,hk⟩|⟨rfl,S,n,hk⟩
  ·obtain⟨its,_,pl,_⟩:=I.list hq;refine⟨pl.isList.typeIs,fun a e=>?_⟩
   cases e;obtain⟨o,n,e,c,hd,_⟩:=pl;exact⟨o,e,hd⟩
  ·refine⟨⟨o,I.kIn p o hk,hc⟩,fun a e=>?_⟩
   cases e;exact⟨o,I.kIn _ o hk,hd⟩
  ·have z:∃o,s.heap.get? p=some o/\o.ExactDict:=by
    rcases hk with ⟨kvs,hk⟩|⟨kvs,hk⟩
    ·obtain⟨_,_,_,_,o,_,_,e,ex,_⟩:=I.hok p _ hk;exact⟨o,e,ex⟩
    ·obtain⟨_,_,_,_,o,_,_,e,ex,_⟩:=I.hok p _ hk;exact⟨o,e,ex⟩
   obtain⟨o,e,ex⟩:=z;refine⟨⟨o,e,ex.1⟩,fun a e2=>?_⟩
   cases e2;exact⟨o,e,ex.2.1⟩
  ·obtain⟨o,_,_,_,e,ex,_⟩:=I.hok p _ hk;refine⟨⟨o,e,ex.1⟩,fun a e2=>?_⟩
   cases e2;exact⟨o,e,ex.2.1⟩
 |_=>exact False.elim ty
def tBM(K:PySem.W.Frag)(T:String)(r:V->List V->Hp->VK->Prop)(to:TE)(t:TA):TE:=fun σ H Q=>to σ H fun x H1=>tyV K T x H1/\t σ H1 fun xs H2=>r x xs H2 Q
variable {o e:Expr}{es:List Expr}{to:TE}{t:TA}{name:Str}{apos cpos:Pos}{T id:String}{r:V->List V->Hp->VK->Prop}
theorem pe_bm(pa:PlainAttrs T)(slot:Slot T name id)(hty:typeOf (.builtin id)=pure (.type "method_descriptor"))(hm:MtR X id r)(ho:PE X o to)(ha:PA X (e::es) t)
  (hbase:attributeBase o name X.env (eval o X.env)=eval o X.env:=by rfl)
  (hfew : ((backTo cpos (starEach (e :: es) X.env)).all (fun x => !x.1) && (backToKw cpos (keywordEach [] X.env)).all (fun x => x.1.isSome)
   && decide ((e::es).length+([]:List Keyword).length+(if ([]:List Keyword).isEmpty then 0 else 1)<30))=true:=by rfl)
  (hline:(apos.endLine == cpos.line)=true:=by rfl) (hs:starEach (e::es) X.env=(false,eval e X.env)::starEach es X.env:=by rfl) (hplain:(backTo cpos (starEach es X.env)).any (·.1)=false:=by rfl) :
  PE X (.Call (.Attribute o name apos) (e::es) [] cpos) (tBM X.K T r to t):=by
 intro pins s σ H Q I h;refine wpAny_Call_method_late hbase hfew hline rfl (thn (ho pins s σ H _ I h) fun v s1 ⟨x,H1,I1,r1,ty,q1⟩=>?_)
 obtain⟨h1,h2⟩:=tyV_is I1 r1 ty;refine⟨T,id,pa,slot,hty,h1,h2,?_⟩;have hA:=ha cpos pins s1 σ H1 _ I1 q1;rw[hs]at hA ⊢;refine Calls.callWith_builtin (by show(false || (backTo cpos (starEach es X.env)).any (·.1))=false;rw[hplain]<;>rfl) (Calls.evalArgs_plain ?_)
 exact thn hA fun us s2 ⟨vs,H2,I2,r2,q2⟩=>hm pins s2 σ H2 x vs v us Q I2 r1 r2 q2
end
def MtM(X:Cx)(id:String)(r:V->List V->Hp->VK->Prop):Prop :=
 ∀(pins:List (Addr×Obj)) (s:Shared) (σ:St) (H:Hp) (x:V) (xs:List V) (v:Value) (us:List Value) (Q:VK),Inv X pins σ H s->RelV x v->zbl xs us->r x xs H Q ->
  wpAny (model X.prog X.w) X.A (call (.builtin id) (v::us)) (EP X pins σ Q) X.xe s
theorem zbl.one:∀{x:V} {us:List Value},zbl [x] us->∃u,us=[u]/\RelV x u
 |_,_,.cons r .nil=>⟨_,rfl,r⟩
theorem zbl.two:∀{x y:V} {us:List Value},zbl [x,y] us->∃u v,us=[u,v]/\RelV x u/\RelV y v
 |_,_,_,.cons r (.cons q .nil)=>⟨_,_,rfl,r,q⟩
theorem zbl.zero:∀{us:List Value},zbl [] us->us=[]
 |_,.nil=>rfl
theorem zbl.reverse{xs:List V}{us:List Value}(h:zbl xs us):zbl xs.reverse us.reverse:=by
 induction h with
 |nil=>exact .nil
 |cons r t ih=>rw[List.reverse_cons,List.reverse_cons];exact zbl.append ih (.cons r .nil)
theorem zbl.rep{xs:List V}{us:List Value}(h:zbl xs us):∀k:Nat,zbl (List.replicate k xs).flatten (List.replicate k us).flatten
 |0=>.nil
 |k+1=>by
  rw[ybd,ybd,ybt,ybt];exact zbl.append h (zbl.rep h k)
theorem foldl_rep(its:List Value):∀(k:Nat) (acc:List Value),
  List.foldl (fun x1 x2=>x1++x2) acc.toArray (List.replicate k its.toArray)=(acc++(List.replicate k its).flatten).toArray
 |0,acc=>by simp
 |k+1,acc=>by
  have e:acc.toArray++its.toArray=(acc++its).toArray:=by simp
  have e2:(acc++its)++(List.replicate k its).flatten=acc++(List.replicate (k+1) its).flatten:=by
   rw[ybd,ybt,ydc]
  rw[<- e2,<- foldl_rep its k (acc++its),<- e,ybd,List.foldl_cons]
section
variable {X:Cx}{pins:List (Addr×Obj)}{σ:St}{H:Hp}{s:Shared}{l b:Addr}{xs ys zs:List V}
theorem Inv.lset{its its':List Value}{n:Nat}{f:Array Value->Array Value}{t':Nat}(I:Inv X pins σ H s)(hH:H l=some (.lst xs))
  (e:s.heap.get? l=some { cls:=.type "list",data:=.seq its.toArray n }) (hf:f its.toArray=its'.toArray) (hv:zbl ys its') (hz:ys.length<=sizeLine) :
  Inv X pins σ (upd H l (.lst ys)) { s with heap:=s.heap.update l (Obj.mapSeq f),toks:=t' }:=by
 have q:=PySem.IsL.update e f;rw[hf]at q;refine I.write (x:=l) (e:=l) (by rw[hH];exact trivial) (.inl rfl) (fun b' u hb hu=>(ybm s.heap (Obj.mapSeq f) (yaz hb)).trans hu) ⟨_,q⟩ ?_
 exact⟨hz,its',_,hv,q⟩
theorem Inv.lnew{its:List Value}{t':Nat}(I:Inv X pins σ H s)(hv:zbl ys its)(hz:ys.length<=sizeLine) :
  Inv X pins σ (upd H s.heap.objs.size (.lst ys)) { s with heap:=s.heap.push { cls:=.type "list",data:=.seq its.toArray },toks:=t' } :=
 I.laid (fun _ _ q=>ya7 _ q) (yaa _) ⟨hz,its,0,hv,yar _ rfl⟩
theorem Inv.fresh(I:Inv X pins σ H s):H s.heap.objs.size=none:=I.hok.fresh (yaa _)
theorem Inv.lstM(I:Inv X pins σ H s)(hH:H l=some (.lst xs)):xs.length<=sizeLine/\∃(its:List Value) (n:Nat),zbl xs its/\xs.length=its.length/\s.heap.get? l=some { cls:=.type "list",data:=.seq its.toArray n }:=by
 obtain⟨z,its,n,r,e⟩:=I.hok l _ hH;exact⟨z,its,n,r,r.length,e⟩
theorem notLongL{n:Nat}(h:n<=sizeLine):Builtin.List.listTooLong n=false:=by
 unfold Builtin.List.listTooLong;exact decide_eq_false (by omega)
end
section
variable {X:Cx}
def rAppend:V->List V->Hp->VK->Prop:=fun x vs H Q=>∃l xs y,x=.ref l/\vs=[y]/\H l=some (.lst xs)/\xs.length<sizeLine/\Q .non (upd H l (.lst (xs++[y])))
theorem mt_append:MtM X "list.append" rAppend:=by
 intro pins s σ H x vs v us Q I rx rv h;obtain⟨l,xs,y,rfl,rfl,hH,hz,q⟩:=h;cases rx;obtain⟨u,rfl,ru⟩:=rv.one;obtain⟨z,its,n,r,hl,e⟩:=I.lstM hH;refine call_meets F.slot_list_append ⟨_,e,rfl⟩ F.entry_list_append (F.args_list_append_2 _ _) (PySem.list_append l its.toArray n u (by rw[yad];omega)) ⟨e,?_⟩
 refine⟨.non,_,I.lset (its':=its++[u]) hH e (by simp) (r.append (.cons ru .nil)) ?_,rfl,q⟩
 rw[yaq,ybq]
 omega
def rCat:R2:=fun x y H Q=>∃l b xs zs,x=.ref l/\y=.ref b/\H l=some (.lst xs)/\H b=some (.lst zs)/\xs.length+zs.length<=sizeLine/\∀p,H p=none->Q (.ref p) (upd H p (.lst (xs++zs)))
theorem op_cat:OpR X (binaryOp .Add) rCat:=by
 intro pins s σ H x y v u Q I rx ry h;obtain⟨l,b,xs,zs,rfl,rfl,hH,hB,hz,q⟩:=h;cases rx;cases ry;obtain⟨z,its,n,r,hl,e⟩:=I.lstM hH;obtain⟨z2,its2,n2,r2,hl2,e2⟩:=I.lstM hB;refine PySem.P.add_list e e2 ?_ (by rw[yad,yad];omega)
 have ea:its.toArray++its2.toArray=(its++its2).toArray:=by simp
 rw[ea];exact⟨.ref _,_,I.lnew (t':=s.toks) (r.append r2) (by rw[yaq];omega),rfl,q _ I.fresh⟩
def rRep:R2:=fun x y H Q=>∃l k xs,x=.ref l/\y=.int k/\H l=some (.lst xs)/\-(2 ^ 63)<=k/\k<2 ^ 63/\xs.length * k.toNat<=sizeLine /\
 ∀p,H p=none->Q (.ref p) (upd H p (.lst (List.replicate k.toNat xs).flatten))
theorem len_rep{α:Type}(xs:List α)(k:Nat):(List.replicate k xs).flatten.length=k * xs.length:=by
 induction k with
 |zero=>simp
 |succ k ih=>rw[ybd,ybt,yaq,ih,Nat.succ_mul,Nat.add_comm]
theorem op_rep:OpR X (binaryOp .Mult) rRep:=by
 intro pins s σ H x y v u Q I rx ry h;obtain⟨l,k,xs,rfl,rfl,hH,h1,h2,hz,q⟩:=h;cases rx;obtain⟨t,rfl⟩:=ry;obtain⟨z,its,n,r,hl,e⟩:=I.lstM hH;have hlen:its.toArray.size * k.toNat<=sizeLine:=by rw[yad,<- hl];exact hz
 have hcap:¬ its.toArray.size * k.toNat > (2 ^ 63 - 1) / 8:=by
  have:(sizeLine:Nat)<=(2 ^ 63 - 1) / 8:=by decide
  omega
 have hfit:¬ (!Builtin.List.listFitsIndex k)=true:=by
  rw[fitsIndex_both h1 h2];exact yav
 have hlong:¬ Builtin.List.listTooLong (its.toArray.size * k.toNat)=true:=by
  rw[notLongL hlen];exact yav
 have hnew:List.foldl (fun x1 x2=>x1++x2) #[] (List.replicate (if its.toArray.isEmpty=true then 0 else k.toNat) its.toArray)=(List.replicate k.toNat its).flatten.toArray:=by
  have f0:∀m:Nat,List.foldl (fun x1 x2=>x1++x2) #[] (List.replicate m its.toArray)=(List.replicate m its).flatten.toArray:=fun m=>by
   have:=foldl_rep its m [];rw[ycw]at this;exact this
  rw[f0];cases its with
  |nil=>simp
  |cons a r'=>rw[if_neg (by simp)]
 refine wpAny_binaryOp_repeat_ref (T:="list") (U:="int") (by decide) ⟨_,e,rfl⟩ (fun s'=>typeIs_int s' k t) noFill_list_mul F.fills_int_mul F.slot_int_rmul repeat_list F.slot_int_index.lookup
  (call_meets F.slot_int_rmul (typeIs_int s k t) F.entry_int_rmul (F.args_int_rmul_2 _ _) (int___rmul___int_list k t l its.toArray n)
   ⟨e,rfl,⟨_,e,rfl⟩,call_meets F.slot_list_mul ⟨_,e,rfl⟩ F.entry_list_mul (F.args_list_mul_2 _ _) (AutoListH.list___mul___list_int_3 l its.toArray n k t hfit hcap hlong) ⟨e,?_⟩⟩)
 rw[hnew];exact⟨.ref _,_,I.lnew (t':=s.toks) (r.rep k.toNat) (by rw[len_rep,Nat.mul_comm];exact hz),rfl,q _ I.fresh⟩
end
section
variable {prog:Program}{w:World}{A:Around}{E:Value->Shared->Prop}{s:Shared}
end
section
variable {X:Cx}
end
end L2
namespace Att
open PySem PySem.W PySem.Calls PyProof.Rows
theorem zk3{P:Params}{h:Heap}:∀(ns:List Int) (vs:List Value),WellAll P h vs (ns.map WData.int)->IntsAre vs ns:=by
 intro ns
 induction ns with
 |nil =>
  intro vs w;rw[ycx]at w;cases w;exact .nil
 |cons n ns ih =>
  intro vs w;rw[yaf]at w;cases w with
  |cons a b =>
   cases a;exact .cons _ _ (ih _ b)
theorem script_of{l:OpenLaw}{n:Nat}(hn:l.most=some n){P:Params}{h:Heap}{args:List WData}{vals:List Value}
  (hpre:l.row.toRowW.claim.pre args=true) (hwl:WellAll P h vals args) :
  ∃a vs ns,vals=[Value.ref a]/\args=[WData.list (ns.map WData.int)]/\h.get? a=some { cls:=.type "list",data:=.seq vs.toArray }/\IntsAre vs ns/\ns.length<=n:=by
 have hsh:WShape.hasAll [] args [.list .int]=true:=(pre_splitW hpre).1;have hc:l.pre.holds [] { args:=args }=true:=(pre_splitW hpre).2;obtain⟨d,r,rfl,h1,h2⟩:=hasAllW_cons hsh;obtain rfl:=hasAllW_nil h2;obtain⟨xs,rfl,h3⟩:=hasW_list h1;obtain⟨ns,rfl⟩:=items_int h3
 have hlen:ns.length<=n:=by
  unfold OpenLaw.pre at hc
  have h4:(WTm.not (.lt (.lit (.int (n:Int))) (.len (.arg 0)))).holds [] { args:=[.list (ns.map .int)] }=true:=by
   have h4:=(holds_andW hc).1;rw[hn]at h4;exact h4
  have h5:=condW_of h4 (w_not (w_lt w_lit (w_len_list (w_arg rfl))));rw[ya1]at h5;refine Nat.le_of_not_lt fun q=>?_
  have q':(n:Int)<((ns.length:Nat):Int):=by omega
  first
   |(rw[decide_eq_true q']at h5;exact absurd h5 (by decide))
   |(simp at h5;omega)
 cases hwl with
 |cons w1 w2 =>
  cases w2;cases w1 with
  |list ho hall=>exact⟨_,_,ns,rfl,rfl,ho,zk3 ns _ hall,hlen⟩
theorem post_true(l:OpenLaw)(args:List WData):l.row.toRowW.claim.post args (.bool true) args=true :=
 postW_of (r:=l.row.toRowW) (X:=(true == true))
  (show WShape.has [] (.bool true) .bool=true by first|rfl|decide|simp[WShape.has,WShape.arms,WShape.armsAll])
  (show(WTm.eq .res (.lit (.bool true))).value [] { args:=args,res:=some (.bool true),after:=args }=some (.bool (true == true)) from w_eq_bool (w_res rfl) w_lit) rfl
theorem attach_call{l:OpenLaw}{n:Nat}{q:Program}{loose:List Str}{XP:(Str->Option Value)->Heap->Prop}{YP:World->Heap->Prop}{d:DefRec}
  (hn:l.most=some n) (hdf:d.params.defaults=[])
  (call : ∀ (w : World) (s₀ s₁ : Shared) (mg mb : Str -> Option Value) (fa : Addr) (o : Obj) (pm cd doc : Value) (a : Addr) (vs : List Value) (ns : List Int),
   Ground q loose [] XP w s₀ mg mb s₁.heap->YP w s₁.heap ->
   s₁.heap.get? fa=some o->o.data=.func (docDef d.name d.params d.body d.scope pm cd doc)->s₁.heap.CodeRec cd d.name->mg d.name=some (.ref fa) ->
   s₁.heap.get? a=some { cls:=.type "list",data:=.seq vs.toArray }->IntsAre vs ns->ns.length<=n->s₁.gens=#[] ->
   codeAny (model l.prog w) callerA (.call (.ref fa) ⟨[.ref a],[]⟩) (fun r s'=>r=.ok (.ret (.bool true))/\OldK s₁.heap s'.heap/\s'.os=s₁.os/\AllBare s'.gens) s₁) :
  WalkO q loose XP YP l.row.toRowW d [] (fun f vs=>PySem.call f vs):=by
 intro w s₀ s₁ mg mb G Y fa o pm cd doc dV kV ho hd hcd hD hmg hg args vals as hpre hlay hrd hwl hlo;obtain rfl:dV=.none:=Dflts.none hD hdf;obtain rfl:kV=.none:=Dflts.noKw hD;obtain⟨a,vs,ns,rfl,rfl,hobj,hints,hlen⟩:=script_of hn hpre hwl;refine enter_call (codeAny_mono (call w s₀ s₁ mg mb fa o pm cd doc a vs ns G Y ho (fd_plain hd) hcd hmg hobj hints hlen hg) fun r s' hq=>?_)
 obtain⟨rfl,h2,h3,h4⟩:=hq;exact⟨.inl ⟨.bool true,.bool true,[],rfl,fun _=>rfl,.bool true,post_true l _,fun _=>⟨List.Pairwise.nil,fun _ hm=>(nomatch hm)⟩⟩,h2,h3,h4⟩
section
variable {prog:Program}{w:World}{A:Around}{E:Value->Shared->Prop}{s:Shared}{K:Frag}
end
end Att
namespace L2
open PySem PySem.Spec PyProof.Rows
theorem vals_ints:∀{vs:List Value} {ns:List Int},IntsAre vs ns->zbl (ns.map V.int) vs
 |_,_,.nil=>.nil
 |_,_,.cons n t h=>.cons ⟨t,rfl⟩ (vals_ints h)
def Only(H:Hp):Prop:=∀b,H b=none\/∃o xs,H b=some (.frz o (.lst xs))
theorem law_call{P:Program}{w:World}{K:PySem.W.Frag}{mg mb:Str->Option Value}{CX:CXT}{k:Nat}{fa a:Addr}{fd:FuncData}{x:Str}{sp:Sp}{s₁:Shared}{vs:List Value}{ns:List Int}
  (KX:K.In s₁.heap) (hns:s₁.heap.Ns mainGlobals mg) (hb:s₁.heap.Ns builtinsNs mb) (hbb:∀x:Str,x≠"__name__"->mb x=bootBuiltins x) (hlim:s₁.heap.NoLimit) (hg:s₁.gens=#[])
  (ha:s₁.heap.get? a=some { cls:=.type "list",data:=.seq vs.toArray }) (hi:IntsAre vs ns) (hl:ns.length<=sizeLine) (hr:Room k callerA)
  (F:∀base:Heap,K.In base->base.Ns mainGlobals mg->FnOk P w K mg base CX k fa fd [x] sp) (hbind:∀(s:Shared) (u:Value),BindsTo s fd ⟨[u],[]⟩ [(x,u)])
  (hsp:∀H:Hp,Only H->SqL K H a (ns.map V.int)->sp [.ref a] H (fun v _=>v=.bl true) fun _ _ _=>False)
  (hCX:∀H e s',CX [] H s₁ (fun _ _ _=>False) e s'->False) :
  codeAny (model P w) callerA (.call (.ref fa) ⟨[.ref a],[]⟩) (fun r s'=>r=.ok (.ret (.bool true))/\OldK s₁.heap s'.heap/\s'.os=s₁.os/\AllBare s'.gens) s₁:=by
 have rv:=vals_ints hi;have lenV:=hi.length
 have core:∀H:Hp,Only H->SqL K H a (ns.map V.int)->HOk P w H s₁.heap->(∀b,H b≠none->b=a)->(H a≠none->K.lookup a=none) ->
   codeAny (model P w) callerA (.call (.ref fa) ⟨[.ref a],[]⟩) (fun r s'=>r=.ok (.ret (.bool true))/\OldK s₁.heap s'.heap/\s'.os=s₁.os/\AllBare s'.gens) s₁:=by
  intro H hO hS hok hA hK;have base_of:∀{b:Addr} {o:Obj},s₁.heap.get? b=some o->H b=none->(hidT s₁.heap H).get? b=some o:=fun e n=>hidT_get e n
  have noA:∀{b:Addr} {o:Obj} {es:Array DictEntry} {ep:Nat},s₁.heap.get? b=some o->o.data=.dict es ep->H b=none:=fun {b o es ep} e d=>by
   cases q:H b with
   |none=>rfl
   |some u =>
    have e':b=a:=hA b (by rw[q];simp)
    subst e';rw[ha]at e;cases e;have d':Data.seq vs.toArray _=Data.dict es ep:=d;cases d'
  have nsK:∀{b:Addr} {m:Str->Option Value},s₁.heap.Ns b m->(hidT s₁.heap H).Ns b m:=fun {b m} ⟨o,es,ep,e,d,r⟩=>⟨o,es,ep,base_of e (noA e d),d,r⟩
  have hKb:K.In (hidT s₁.heap H):=fun b o e=>base_of (KX b o e) (by
   cases q:H b with
   |none=>rfl
   |some u =>
    have e':b=a:=hA b (by rw[q];simp)
    subst e';rw[hK (by rw[q];simp)]at e;cases e)
  have hM:Mod K mg (hidT s₁.heap H):=⟨hKb,nsK hns,⟨mb,nsK hb,hbb⟩,let ⟨mc,h1,h2⟩:=hlim;⟨mc,nsK h1,h2⟩⟩;have e0:Env0 P w K mg (hidT s₁.heap H) callerA [] s₁ H:=⟨rfl,hM,fun b o e=>of_hidT e,Nat.le_of_eq (hidT_size _ _),trivial,fun b hb=>absurd (show b∈([]:List Addr) from hb) (by simp),hok,.of_eq hg⟩
  refine codeAny_mono ((F _ hKb (nsK hns)).run callerA [] s₁ H ⟨[.ref a],[]⟩ [.ref a] [.ref a] _ _ hr e0 (hbind s₁ (.ref a)) (.cons rfl .nil) (hsp H hO hS)) fun r s' h=>?_
  cases r with
  |error e=>exact(hCX H e s' h).elim
  |ok fl =>
   cases fl with
   |next=>exact False.elim h
   |brk=>exact False.elim h
   |cont=>exact False.elim h
   |ret u =>
    obtain⟨v,H',os,bare,un,hok',r',q⟩:=h;have q':v=.bl true:=q;subst q';obtain rfl:u=Value.bool true:=r';refine⟨rfl,OldK.of_keep fun b o e=>?_,os,bare⟩
    cases q:H b with
    |none=>exact un.keep b o e q (by intro z;exact absurd (show b∈([]:List Addr) from z) (by simp)) (by simp)
    |some u =>
     rcases hO b with z|⟨ob,xs,z⟩
     ·rw[q]at z;cases z
     ·have z2:=un.frzs b ob _ z;obtain⟨e1,_⟩:=hok b _ z;obtain⟨e2,_⟩:=hok' b _ z2;rw[e]at e1;cases e1;exact e2
 cases hk:K.lookup a with
 |some o =>
  have e:=KX a o hk;rw[ha]at e;cases e;refine core (fun _=>none) (fun _=>.inl rfl) (.inr ⟨_,vs.toArray,_,hk,rfl,rfl,rfl,by rw[yad,lenV];exact hl,by simpa using rv⟩) (fun b u z=>by have z':(none:Option HO)=some u:=z;cases z') (fun b z=>absurd rfl z) fun z=>absurd rfl z
 |none =>
  refine core (fun b=>if b=a then some (.frz { cls:=.type "list",data:=.seq vs.toArray } (.lst (ns.map V.int))) else none) (fun b=>?_) (.inl (.inr ⟨{ cls:=.type "list",data:=.seq vs.toArray },if_pos rfl⟩)) (fun b u z=>?_) (fun b z=>?_) fun _=>hk
  ·by_cases hb:b=a
   ·exact .inr ⟨_,_,if_pos hb⟩
   ·exact .inl (if_neg hb)
  ·by_cases hb:b=a
   ·have z':=(if_pos hb).symm.trans z;cases z';subst hb;exact⟨ha,by rw[ya1];exact hl,vs,_,rv,ha⟩
   ·have z':=(if_neg hb).symm.trans z;cases z'
  ·by_cases hb:b=a
   ·exact hb
   ·exact absurd (if_neg hb) z
theorem walk_of{l:PySem.W.OpenLaw}{n k:Nat}{q:Program}{loose:List Str}{XP:(Str->Option Value)->Heap->Prop}{YP:World->Heap->Prop}{d:DefRec}{K:Params->PySem.W.Frag}{CX:World->CXT}{sp:World->Sp}{x:Str}
  (hn:l.most=some n) (hn2:n<=sizeLine) (hdf:d.params.defaults=[]) (hr:Room k callerA)
  (hY:∀(w:World) (h:Heap),YP w h->(K w.params).In h)
  (F : ∀ (w : World) (mg : Str -> Option Value) (fa : Addr) (h : Heap), (K w.params).In h -> h.Ns mainGlobals mg -> mg d.name = some (.ref fa) ->
   ∃fd:FuncData,(∀(s:Shared) (u:Value),BindsTo s fd ⟨[u],[]⟩ [(x,u)]) /\
    ∀base:Heap,(K w.params).In base->base.Ns mainGlobals mg->FnOk l.prog w (K w.params) mg base (CX w) k fa fd [x] (sp w))
  (hsp:∀(w:World) (H:Hp) (a:Addr) (ns:List Int),ns.length<=n->Only H->SqL (K w.params) H a (ns.map V.int)->sp w [.ref a] H (fun v _=>v=.bl true) fun _ _ _=>False)
  (hCX:∀(w:World) (H:Hp) (s:Shared) (e:Value) (s':Shared),CX w [] H s (fun _ _ _=>False) e s'->False) :
  PySem.W.WalkO q loose XP YP l.row.toRowW d [] (fun f vs=>PySem.call f vs):=by
 refine Att.attach_call hn hdf fun w s₀ s₁ mg mb fa o pm cd doc a vs ns G Y ho hd hcd hmg hobj hints hlen hg=>?_
 have KX:=hY w _ Y;obtain⟨fd,hb,hF⟩:=F w mg fa _ KX G.T.g hmg;exact law_call KX G.T.g G.T.b G.T.builtins G.T.nolimit hg hobj hints (yao hlen hn2) hr hF hb (fun H hO hS=>hsp w H a ns hlen hO hS) fun H e s'=>hCX w H s₁ e s'
def zi9(s:Stmt):Arguments:=match s with
 |.FunctionDef _ a _ _ _ _ _ _ _ _=>a
 |_=>{ posonlyargs:=[],args:=[],vararg:=none,kwonlyargs:=[],kw_defaults:=[],kwarg:=none,defaults:=[] }
def zab(s:Stmt):List Stmt:=match s with
 |.FunctionDef _ _ b _ _ _ _ _ _ _=>b
 |_=>[]
def za4(s:Stmt):Scope:=match s with
 |.FunctionDef _ _ _ _ _ _ sc _ _ _=>sc
 |_=>{ kind:=.function,names:=[],isGenerator:=false,isCoroutine:=false }
abbrev CX0:CXT:=fun _ _ _ _ _ _=>False
abbrev E0:XK:=fun _ _ _=>False
theorem pass0{X:Cx}:Passes CX0 X E0:=fun _ _ _ _ _ _ _ h=>h.elim
structure Fun(K:PySem.W.Frag)(x qual:Str)(st:Stmt)(f:Addr)(fd:FuncData):Prop where
 ex:∃(oc:Value) (od:Option Addr) (kV doc pm:Value) (an:Option Addr) (cdv ct:Value) (osl:Array (Option Value)),
  fd=PySem.W.fnOf x qual (zi9 st) (zab st) (za4 st) .none kV doc pm an cdv ct/\K.lookup f=some ⟨oc,od,.func fd,osl⟩/\PySem.W.codeIn K cdv qual=true
 kp:PySem.W.keepIn K (.ref f)=true
section
variable {P:Program}{w:World}{K:PySem.W.Frag}{mg:Str->Option Value}{base:Heap}
theorem Fun.ok{x qual:Str}{st:Stmt}{f:Addr}{fd:FuncData}{N ps:List Str}{k:Nat}{sp:Sp}(F:Fun K x qual st f fd)(S:FnScope N ps (za4 st))(len:∀vs H Q E,sp vs H Q E->vs.length=ps.length)
  (hbody : ∀ (cdv : Value) (A : Around) (outer : List Env) (s : Shared) (H : Hp) (vs : List V) (Q : VK) (E : XK), Room k (A.deeper (envOfC qual (za4 st) s.heap.objs.size f cdv)) -> sp vs H Q E ->
   ∃t,PSs (cxOf CX0 P w K mg base N qual (za4 st) f cdv A outer s H E).nox (zab st) t/\t { nx:=fun _ H'=>Q .non H',rt:=Q } (start N vs) H):FnOk P w K mg base CX0 (k+1) f fd ps sp:=by
 obtain⟨oc,od,kV,doc,pm,an,cdv,ct,osl,rfl,lk,hcd⟩:=F.ex;refine fn_of lk hcd S len fun A outer s H vs Q E hr hsp=>?_
 obtain⟨t,h,q⟩:=hbody cdv A outer s H vs Q E hr hsp;exact⟨t,h.nox,q⟩
theorem Fun.binds{x qual:Str}{st:Stmt}{f:Addr}{fd:FuncData}{ps:List Str}(F:Fun K x qual st f fd)
  (h:∀(kV doc pm:Value) (an:Option Addr) (cdv ct:Value) (us:List Value),us.length=ps.length->bindArgs (PySem.W.fnOf x qual (zi9 st) (zab st) (za4 st) .none kV doc pm an cdv ct) ⟨us,[]⟩=pure (ps.zip us)):zh9 K fd ps []:=by
 obtain⟨oc,od,kV,doc,pm,an,cdv,ct,osl,rfl,lk,hcd⟩:=F.ex;exact .all (h kV doc pm an cdv ct)
end
theorem small1000{n:Nat}(h:n<=1000):n<sizeLine:=Nat.lt_of_le_of_lt h (by decide)
section
variable {X:Cx}
theorem pv(i:Nat){x:Str}{pos:Pos}(hN:X.N[i]?=some x:=by rfl)(hv:Vis X.env.scope x:=by first|exact Or.inl rfl|exact Or.inr (Or.inl rfl)|exact Or.inr (Or.inr rfl))(hd:(x == ("__debug__":Str))=false:=by decide)
  (hcd:(x == ("__classdict__":Str))=false:=by decide):PE X (.Name x pos) (tVar i):=zlp hN hv hd hcd
end
theorem iteF{A B:Prop}(h:B):if false=true then A else B:=by
 rw[if_neg yav];exact h
theorem iteT{A B:Prop}(h:A):if true=true then A else B:=by
 rw[if_pos rfl];exact h
def zbs(H H':Hp):Prop:=∀b o,H b=some o->H' b=some o
theorem zbs.refl(H:Hp):zbs H H:=fun _ _ h=>h
theorem zbs.trans{H H1 H2:Hp}(a:zbs H H1)(b:zbs H1 H2):zbs H H2:=fun c o h=>b c o (a c o h)
theorem zbs.free{H H':Hp}(e:zbs H H'){l:Addr}(h:H' l=Option.none):H l=Option.none:=by
 cases q:H l with
 |none=>rfl
 |some o =>
  rw[e l o q]at h;cases h
theorem zbs.seq{K:PySem.W.Frag}{H H':Hp}{a:Addr}{xs:List V}(e:zbs H H')(h:SqL K H a xs):SqL K H' a xs:=by
 rcases h with (h|⟨o,h⟩)|h
 ·exact .inl (.inl (e _ _ h))
 ·exact .inl (.inr ⟨o,e _ _ h⟩)
 ·exact .inr h
section
variable {κ:Type} [DecidableEq κ]
def valV(kvs:List (κ×V))(k:κ):Option V:=(kvs.find? fun kv=>decide (kv.1=k)).map (·.2)
def zky(kvs:List (κ×V))(k:κ)(v:V):List (κ×V) :=
 if (kvs.any fun kv=>decide (kv.1=k))=true then kvs.map (fun kv=>if kv.1=k then (kv.1,v) else kv) else kvs++[(k,v)]
def dropK(kvs:List (κ×V))(k:κ):List (κ×V):=kvs.filter fun kv=>decide (kv.1≠k)
theorem zj2{p:κ×V}{r:List (κ×V)}{k:κ}(e:p.1=k):valV (p::r) k=some p.2:=by simp[valV,yc2,e]
theorem zj3{p:κ×V}{r:List (κ×V)}{k:κ}(e:¬ p.1=k):valV (p::r) k=valV r k:=by simp[valV,yc2,e]
theorem valV_any(k:κ):∀kvs:List (κ×V),(kvs.any fun kv=>decide (kv.1=k))=(valV kvs k).isSome
 |[]=>rfl
 |p::r=>by
  rw[yd9]
  by_cases e:p.1=k
  ·simp only[zj2 e,decide_eq_true e,ycy,Option.isSome_some]
  ·rw[zj3 e,decide_eq_false e,ycm];exact valV_any k r
theorem zh2(kvs:List (κ×V))(k:κ)(v:V):(zky kvs k v).length<=kvs.length+1:=by
 unfold zky;split
 ·rw[ya1];omega
 ·rw[yaq,yax,yc8];omega
theorem RelO.isSome_eq{o:Option V}{u:Option Value}(r:RelO o u):o.isSome=u.isSome:=by
 cases o with
 |none=>cases u with
  |none=>rfl
  |some _=>exact(show False from r).elim
 |some _=>cases u with
  |none=>exact(show False from r).elim
  |some _=>rfl
theorem RelO.getD{o:Option V}{u:Option Value}{d:V}{d':Value}(r:RelO o u)(rd:RelV d d'):RelV (o.getD d) (u.getD d'):=by
 cases o with
 |none=>cases u with
  |none=>exact rd
  |some _=>exact(show False from r).elim
 |some _=>cases u with
  |none=>exact(show False from r).elim
  |some _=>exact r
theorem KV.val{kvs:List (κ×V)}{vs:List (κ×Value)}(r:KV kvs vs)(k:κ):RelO (valV kvs k) (valueAt vs k):=by
 unfold KV at r
 induction r with
 |nil=>exact True.intro
 |@cons p q ps qs h t ih =>
  obtain⟨h1,h2⟩:=h
  by_cases e:p.1=k
  ·have e':q.1=k:=h1.symm.trans e;have b:valueAt (q::qs) k=some q.2:=by simp[valueAt,yc2,e']
   rw[zj2 e,b];exact h2
  ·have e':¬ q.1=k:=fun z=>e (h1.trans z)
   have b:valueAt (q::qs) k=valueAt qs k:=by simp[valueAt,yc2,e']
   rw[zj3 e,b];exact ih
theorem KV.any{kvs:List (κ×V)}{vs:List (κ×Value)}(r:KV kvs vs)(k:κ):(kvs.any fun kv=>decide (kv.1=k))=vs.any fun kv=>decide (kv.1=k):=by
 unfold KV at r
 induction r with
 |nil=>rfl
 |cons h t ih=>rw[yd9,yd9,ih,h.1]
theorem KV.repl{kvs:List (κ×V)}{vs:List (κ×Value)}(r:KV kvs vs)(k:κ){y:V}{u:Value}(ry:RelV y u) :
  KV (kvs.map fun kv=>if kv.1=k then (kv.1,y) else kv) (vs.map fun kv=>if kv.1=k then (kv.1,u) else kv):=by
 unfold KV at r ⊢
 induction r with
 |nil=>exact .nil
 |@cons p q ps qs h t ih =>
  rw[yaf,yaf];refine .cons ?_ ih;obtain⟨h1,h2⟩:=h
  by_cases e:p.1=k
  ·rw[if_pos e,if_pos (h1.symm.trans e)];exact⟨h1,ry⟩
  ·rw[if_neg e,if_neg (fun z=>e (h1.trans z))];exact⟨h1,h2⟩
theorem KV.put{kvs:List (κ×V)}{vs:List (κ×Value)}(r:KV kvs vs)(k:κ){y:V}{u:Value}(ry:RelV y u):KV (zky kvs k y) (stored vs k u):=by
 unfold zky stored;rw[r.any k]
 by_cases e:(vs.any fun kv=>decide (kv.1=k))=true
 ·rw[if_pos e,if_pos e];exact r.repl k ry
 ·rw[if_neg e,if_neg e];exact Paired.snoc r ⟨rfl,ry⟩
theorem KV.drop{kvs:List (κ×V)}{vs:List (κ×Value)}(r:KV kvs vs)(k:κ):KV (dropK kvs k) (without vs k):=by
 unfold KV at r ⊢;unfold dropK without
 induction r with
 |nil=>exact .nil
 |@cons p q ps qs h t ih =>
  obtain⟨h1,h2⟩:=h;rw[List.filter_cons,List.filter_cons]
  by_cases e:p.1=k
  ·have a:¬ decide (p.1≠k)=true:=by simp[e]
   have b:¬ decide (q.1≠k)=true:=by simp[h1.symm.trans e]
   rw[if_neg a,if_neg b];exact ih
  ·have e':¬ q.1=k:=fun z=>e (h1.trans z)
   have a:decide (p.1≠k)=true:=by simp[e]
   have b:decide (q.1≠k)=true:=by simp[e']
   rw[if_pos a,if_pos b];exact .cons ⟨h1,h2⟩ ih
theorem KV.keys{kvs:List (κ×V)}{vs:List (κ×Value)}(r:KV kvs vs):kvs.map (·.1)=vs.map (·.1):=by
 unfold KV at r
 induction r with
 |nil=>rfl
 |cons h t ih=>rw[yaf,yaf,ih,h.1]
theorem KV.length{kvs:List (κ×V)}{vs:List (κ×Value)}(r:KV kvs vs):kvs.length=vs.length:=yd8 r
end
theorem kV_is{P:Program}{w:World}{k:Key}{u:Value}(r:RelV (kV k) u):(zbg P w).is k u=true:=by
 cases k with
 |inl i=>obtain⟨t,e⟩:=(show ∃t,u=Value.int i t from r);subst e;exact mixKind_int P w i t
 |inr x=>obtain⟨t,e⟩:=(show ∃t,u=Value.str x t from r);subst e;exact mixKind_str P w x t
theorem items_are{P:Program}{w:World}:∀{ks:List Key} {us:List Value},zbl (ks.map kV) us->ItemsAre (zbg P w) ks us
 |[],_,r=>by rw[ycx]at r;cases r;exact .nil
 |k::ks,_,r=>by
  rw[yaf]at r;cases r with
  |cons h t=>exact .cons (kV_is h) (items_are t)
abbrev KT(H:Hp):List (List Key×V)->List (List Key×Addr×Value)->Prop:=Paired fun p q=>p.1=q.1/\H q.2.1=some (.tup (p.1.map kV))/\RelV p.2 q.2.2
theorem KT.val{H:Hp}{kvs:List (List Key×V)}{xs:List (List Key×Addr×Value)}(r:KT H kvs xs)(k:List Key):RelO (valV kvs k) ((atKey xs k).map (·.2)):=by
 induction r with
 |nil=>exact True.intro
 |@cons p q ps qs h t ih =>
  obtain⟨h1,_,h2⟩:=h
  by_cases e:p.1=k
  ·have e':q.1=k:=h1.symm.trans e;have b:atKey (q::qs) k=some q.2:=by simp[atKey,yc2,e']
   rw[zj2 e,b];exact h2
  ·have e':¬ q.1=k:=fun z=>e (h1.trans z)
   have b:atKey (q::qs) k=atKey qs k:=by simp[atKey,yc2,e']
   rw[zj3 e,b];exact ih
theorem KT.repl{H:Hp}{kvs:List (List Key×V)}{xs:List (List Key×Addr×Value)}(r:KT H kvs xs)(k:List Key){y:V}{u:Value}(ry:RelV y u) :
  KT H (kvs.map fun kv=>if kv.1=k then (kv.1,y) else kv) (xs.map (putAt k u)):=by
 induction r with
 |nil=>exact .nil
 |@cons p q ps qs h t ih =>
  rw[yaf,yaf];refine .cons ?_ ih;obtain⟨h1,h2,h3⟩:=h;unfold putAt
  by_cases e:p.1=k
  ·rw[if_pos e,if_pos (h1.symm.trans e)];exact⟨h1,h2,ry⟩
  ·rw[if_neg e,if_neg (fun z=>e (h1.trans z))];exact⟨h1,h2,h3⟩
theorem KT.put{H:Hp}{kvs:List (List Key×V)}{xs:List (List Key×Addr×Value)}(r:KT H kvs xs)(k:List Key){b:Addr}{y:V}{u:Value}(hb:H b=some (.tup (k.map kV)))(ry:RelV y u) :
  KT H (zky kvs k y) (storedH xs k b u):=by
 have e:(kvs.any fun kv=>decide (kv.1=k))=(atKey xs k).isSome:=by
  rw[valV_any,(r.val k).isSome_eq,Option.isSome_map]
 unfold zky storedH;rw[e]
 by_cases q:(atKey xs k).isSome=true
 ·rw[if_pos q,if_pos q];exact r.repl k ry
 ·rw[if_neg q,if_neg q];exact Paired.snoc r ⟨rfl,hb,ry⟩
theorem KT.keeps{H H':Hp}{kvs:List (List Key×V)}{xs:List (List Key×Addr×Value)}(r:KT H kvs xs)(ht:∀b ys,H b=some (.tup ys)->H' b=some (.tup ys)):KT H' kvs xs :=
 Paired.mapP r fun _ _ z=>⟨z.1,ht _ _ z.2.1,z.2.2⟩
section
variable {P:Program}{w:World}{H:Hp}{h:Heap}{a:Addr}
theorem rd_of{u:HO}(ok:HOk P w H h)(e:Rd H a u):zbx P w H h a u:=e.ok ok
theorem dk_rd{kvs:List (Key×V)}(ok:HOk P w H h)(e:Rd H a (.dK kvs)):kvs.length<=sizeLine/\(a == sysModules)=false/\∃vs,KV kvs vs/\h.DictOf (zbg P w) a vs :=
 show zbx P w H h a (.dK kvs) from rd_of ok e
theorem dk_of{kvs:List (Key×V)}(ok:HOk P w H h)(e:H a=some (.dK kvs)):kvs.length<=sizeLine/\(a == sysModules)=false/\∃vs,KV kvs vs/\h.DictOf (zbg P w) a vs:=dk_rd ok (.inl e)
theorem key_of{ks:List Key}(ok:HOk P w H h)(e:H a=some (.tup (ks.map kV))):(tupleKind (zbg P w)).is h ks a:=by
 obtain⟨_,its,r,o,h1,h2,n,h3⟩:=(show zbx P w H h a (.tup (ks.map kV)) from ok a _ e);exact⟨o,its.toArray,n,h1,h2,h3,by simpa using items_are r⟩
theorem dt_rd{kvs:List (List Key×V)}(ok:HOk P w H h)(e:Rd H a (.dT kvs)):kvs.length<=sizeLine/\(a == sysModules)=false /\
  ∃xs,KT H kvs xs/\h.DictOfH (tupleKind (zbg P w)) a xs:=by
 obtain⟨z,y,xs,r,o,es,ep,h1,h2,h3,h4,h5⟩:=(show zbx P w H h a (.dT kvs) from rd_of ok e);refine⟨z,y,xs,r,o,es,ep,h1,h2,h3,h4,fun x hx=>?_,h5⟩
 have all:∀{l:List (List Key×V)} {m:List (List Key×Addr×Value)},KT H l m->∀x∈m,(tupleKind (zbg P w)).is h x.1 x.2.1:=by
  intro l m q
  induction q with
  |nil=>intro x hx;exact nomatch hx
  |@cons p q ps qs hq t ih =>
   intro x hx
   rcases(yaj.mp hx) with e|hx
   ·subst e;exact key_of ok (by rw[<- hq.1];exact hq.2.1)
   ·exact ih x hx
 exact all r x hx
theorem dt_of{kvs:List (List Key×V)}(ok:HOk P w H h)(e:H a=some (.dT kvs)):kvs.length<=sizeLine/\(a == sysModules)=false /\
  ∃xs,KT H kvs xs/\h.DictOfH (tupleKind (zbg P w)) a xs:=dt_rd ok (.inl e)
end
def DGet(H:Hp)(a:Addr)(y:V)(r:Option V):Prop :=
 (∃kvs k,Rd H a (.dK kvs)/\y=kV k/\r=valV kvs k)\/∃kvs k b,Rd H a (.dT kvs)/\y=.ref b/\H b=some (.tup (k.map kV))/\r=valV kvs k
def DPut(H:Hp)(a:Addr)(y v:V)(H':Hp):Prop :=
 (∃kvs k,H a=some (.dK kvs)/\y=kV k/\kvs.length<sizeLine/\H'=upd H a (.dK (zky kvs k v))) \/
 ∃kvs k b,H a=some (.dT kvs)/\y=.ref b/\H b=some (.tup (k.map kV))/\kvs.length<sizeLine/\H'=upd H a (.dT (zky kvs k v))
theorem DGet.k{H:Hp}{a:Addr}{kvs:List (Key×V)}{k:Key}(e:H a=some (.dK kvs)):DGet H a (kV k) (valV kvs k):=.inl ⟨kvs,k,.inl e,rfl,rfl⟩
theorem DGet.t{H:Hp}{a b:Addr}{kvs:List (List Key×V)}{k:List Key}(e:H a=some (.dT kvs))(eb:H b=some (.tup (k.map kV))):DGet H a (.ref b) (valV kvs k):=.inr ⟨kvs,k,b,.inl e,rfl,eb,rfl⟩
theorem DPut.k{H:Hp}{a:Addr}{kvs:List (Key×V)}{k:Key}{v:V}(e:H a=some (.dK kvs))(hl:kvs.length<sizeLine):DPut H a (kV k) v (upd H a (.dK (zky kvs k v))):=.inl ⟨kvs,k,e,rfl,hl,rfl⟩
theorem DPut.t{H:Hp}{a b:Addr}{kvs:List (List Key×V)}{k:List Key}{v:V}(e:H a=some (.dT kvs))(eb:H b=some (.tup (k.map kV)))(hl:kvs.length<sizeLine) :
  DPut H a (.ref b) v (upd H a (.dT (zky kvs k v))):=.inr ⟨kvs,k,b,e,rfl,eb,hl,rfl⟩
section
variable {X:Cx}{pins:List (Addr×Obj)}{σ:St}{H:Hp}{s:Shared}{a:Addr}{y v:V}{u r:Value}{o:Option V}{A:Around}{E:Value->Shared->Prop}
theorem Inv.big(I:Inv X pins σ H s):sysModules<s.heap.objs.size:=by
 have h:mainGlobals<s.heap.objs.size:=(I.mod.glob.keeps I.bk).lt;exact ycr (by decide) h
theorem d_getItem{Q:Value->Shared->Prop}(hu:A.units+1<cLine)(I:Inv X pins σ H s)(g:DGet H a y (some v))(ry:RelV y u)(h:∀w' s',Inv X pins σ H s'->RelV v w'->Q w' s') :
  wpAny (model X.prog X.w) A (getItem (.ref a) u) Q E s:=by
 rcases g with ⟨kvs,k,e,ey,l⟩|⟨kvs,k,b,e,ey,eb,l⟩
 ·subst ey;obtain⟨z,hd,vs,rel,dd⟩:=dk_rd I.hok e;obtain⟨w',hw,rw'⟩:=RelO.some_of (v:=v) (o:=valueAt vs k) (by rw[l];exact rel.val k)
  exact wpAny_getItem_of (kV_is ry) dd.mapOf hw (h w' _ (I.tok _) rw')
 ·subst ey;cases (show u=Value.ref b from ry);obtain⟨z,hd,xs,rel,dd⟩:=dt_rd I.hok e;obtain⟨w',hw,rw'⟩:=RelO.some_of (v:=v) (o:=(atKey xs k).map (·.2)) (by rw[l];exact rel.val k)
  obtain⟨p,hp,hp2⟩:=ya3.mp hw;refine wpAny_getItem_heap (tupleKind_room_in1 hu) (key_of I.hok eb) dd hp ?_;rw[hp2];exact h w' _ (I.tok _) rw'
theorem d_write{h':Heap}{t':Nat}{ob:HO}(I:Inv X pins σ H s)(mu:Mut (H a))(hs:Heap.SameBut a s.heap h')(he:∃q,h'.get? a=some q)(new:zbx X.prog X.w (upd H a ob) h' a ob) :
  Inv X pins σ (upd H a ob) { s with heap:=h',toks:=t' } :=
 I.write (x:=a) (e:=a) mu (.inl rfl) (fun b q hb z=>(hs.2 b hb).trans z) he new
theorem dk_new{P:Program}{w:World}{H':Hp}{h':Heap}{kvs:List (Key×V)}{vs:List (Key×Value)}(z:kvs.length<=sizeLine)(hd:(a == sysModules)=false)(rel:KV kvs vs)(dd:h'.DictOf (zbg P w) a vs) :
  zbx P w H' h' a (.dK kvs):=⟨z,hd,vs,rel,dd⟩
theorem d_setItem{H':Hp}{Q:Unit->Shared->Prop}(hu:A.units+1<cLine)(I:Inv X pins σ H s)(g:DPut H a y v H')(ry:RelV y u)(rv:RelV v r)(h:∀s',Inv X pins σ H' s'->Q () s') :
  wpAny (model X.prog X.w) A (setItem (.ref a) u r) Q E s:=by
 rcases g with ⟨kvs,k,e,ey,l,eH⟩|⟨kvs,k,b,e,ey,eb,l,eH⟩
 ·subst ey eH;obtain⟨z,hd,vs,rel,dd⟩:=dk_of I.hok e;have hz:vs.length<=sizeLine:=by rw[<- rel.length];exact z
  have hl:(zky kvs k v).length<=sizeLine:=by have:=zh2 kvs k v;omega
  refine wpAny_setItem_pairs (hsz:=hz) (kV_is ry) dd fun h' dd' hs=>h _ ?_
  have he:∃q,h'.get? a=some q:=let ⟨q,_,_,hq,_⟩:=dd';⟨q,hq⟩;exact d_write I (by rw[e];exact True.intro) hs he (dk_new hl hd (rel.put k rv) dd')
 ·subst ey eH;cases (show u=Value.ref b from ry);obtain⟨z,hd,xs,rel,dd⟩:=dt_of I.hok e;have hz:xs.length<=sizeLine:=by rw[<- yd8 rel];exact z
  have hl:(zky kvs k v).length<=sizeLine:=by have:=zh2 kvs k v;omega
  refine wpAny_setItem_heap (hsz:=hz) (tupleKind_room_in1 hu) (key_of I.hok eb) dd fun h' dd' hs=>h _ ?_
  obtain⟨q,es,ep,hq,h2,h3,h4,_,h5⟩:=dd';refine d_write I (by rw[e];exact True.intro) hs ⟨q,hq⟩ ⟨hl,hd,_,(rel.put k eb rv).keeps fun c ys ec=>?_,q,es,ep,hq,h2,h3,h4,h5⟩
  rw[zam (ne_of ec e (fun z=>nomatch z))]
  exact ec
end
section
variable {X:Cx}{pins:List (Addr×Obj)}{σ:St}{H:Hp}{s:Shared}{a:Addr}{kvs:List (Key×V)}{k:Key}{u:Value}{A:Around}{E:Value->Shared->Prop}
end
section
variable {X:Cx}{o i e value:Expr}{pos pos' tpos:Pos}{td ty tv:TE}
end
theorem dk_empty{P:Program}{w:World}{H:Hp}(h:Heap)(hb:sysModules<h.objs.size):zbx P w H (h.push { cls:=.type "dict",data:=.dict #[] }) h.objs.size (.dK []) :=
 ⟨ybe _,beq_eq_false_iff_ne.mpr (yaz (yau hb)),[],.nil,Heap.DictOf.new h⟩
section
variable {X:Cx}{pos:Pos}
end
def tPairs:List (TE×TE)->St->Hp->(List (V×V)->Hp->Prop)->Prop
 |[],_,H,Q=>Q [] H
 |(tk,tv)::r,σ,H,Q=>tk σ H fun x H1=>tv σ H1 fun y H2=>tPairs r σ H2 fun ps H3=>Q ((x,y)::ps) H3
abbrev VV:List (V×V)->List (Value×Value)->Prop:=Paired fun p q=>RelV p.1 q.1/\RelV p.2 q.2
def PPs(X:Cx)(pos:Pos)(keys:List (Option Expr))(values:List Expr)(trs:List (TE×TE)):Prop :=
 ∀(pins:List (Addr×Obj)) (s:Shared) (σ:St) (H:Hp) (Q:List (V×V)->Hp->Prop),Inv X pins σ H s->tPairs trs σ H Q ->
  wpAny (model X.prog X.w) X.A (evalPairs (pairTrees keys values X.env pos)) (fun vs s'=>∃ps H',Inv X pins σ H' s'/\VV ps vs/\Q ps H') X.xe s
theorem pps_nil{X:Cx}{pos:Pos}:PPs X pos [] [] []:=fun pins s σ H Q I h=>pairTrees_nil_walk ⟨[],H,I,.nil,h⟩
theorem pps_cons{X:Cx}{pos:Pos}{k v:Expr}{ks:List (Option Expr)}{vs:List Expr}{tk tv:TE}{trs:List (TE×TE)}(hk:PE X k tk)(hv:PE X v tv)(hr:PPs X pos ks vs trs) :
  PPs X pos (some k::ks) (v::vs) ((tk,tv)::trs):=fun pins s σ H Q I h =>
 pairTrees_cons_walk (thn (hk pins s σ H _ I h) fun u s1 ⟨x,H1,I1,rx,q1⟩=>thn (hv pins s1 σ H1 _ I1 q1) fun w2 s2 ⟨y,H2,I2,ry,q2⟩ =>
  thn (hr pins s2 σ H2 _ I2 q2) fun ws s3 ⟨ps,H3,I3,rel,q3⟩=>⟨(x,y)::ps,H3,I3,.cons ⟨rx,ry⟩ rel,q3⟩)
def zij(kvs more:List (Key×V)):List (Key×V):=more.foldl (fun acc kv=>zky acc kv.1 kv.2) kvs
theorem KV.merge:∀{more:List (Key×V)} {rs:List (Key×Value)} {kvs:List (Key×V)} {vs:List (Key×Value)},KV more rs->KV kvs vs->KV (zij kvs more) (merged vs rs):=by
 intro more rs kvs vs r;unfold KV at r
 induction r generalizing kvs vs with
 |nil=>intro q;exact q
 |@cons p q ps qs h t ih =>
  intro r0
  have e:KV (zky kvs p.1 p.2) (stored vs q.1 q.2):=by
   have:=r0.put p.1 h.2;rw[<- h.1];exact this
  exact ih e
theorem zhm:∀(more kvs:List (Key×V)),(zij kvs more).length<=kvs.length+more.length
 |[],kvs=>by show kvs.length<=kvs.length+0;omega
 |p::r,kvs=>by
  have h1:=zhm r (zky kvs p.1 p.2);have h2:=zh2 kvs p.1 p.2;show(zij (zky kvs p.1 p.2) r).length<=_;rw[yax];omega
theorem zm9{P:Program}{w:World}:∀{kvs:List (Key×V)} {ws:List (Value×Value)},VV (kvs.map fun kv=>(kV kv.1,kv.2)) ws->∃rs,Carries (zbg P w) ws rs/\KV kvs rs
 |[],_,r=>by rw[ycx]at r;cases r;exact⟨[],True.intro,.nil⟩
 |p::kvs,_,r=>by
  rw[yaf]at r;cases r with
  |@cons a b as bs h t =>
   obtain⟨rs,c,q⟩:=zm9 (P:=P) (w:=w) t;obtain⟨b1,b2⟩:=b;exact⟨(p.1,b2)::rs,⟨kV_is h.1,rfl,c⟩,.cons ⟨rfl,h.2⟩ q⟩
def tDisp(trs:List (TE×TE)):TE:=fun σ H Q=>∀p,H p=none->tPairs trs σ (upd H p (.dK [])) fun ps H2=>H2 p=some (.dK [])/\∃kvs:List (Key×V),ps=kvs.map (fun kv=>(kV kv.1,kv.2))/\kvs.length<=15/\Q (.ref p) (upd H2 p (.dK (zij [] kvs)))
theorem pe_disp{X:Cx}{pos:Pos}{keys:List (Option Expr)}{values:List Expr}{trs:List (TE×TE)}(h:PPs X pos keys values trs)(hall:keys.all (·.isSome)=true)(hl:keys.length=values.length)(h0:keys≠[])
  (h15:keys.length<=15):PE X (.Dict keys values pos) (tDisp trs):=by
 intro pins s σ H Q I q;have hn:=I.hok.fresh (yaa s.heap.objs.size);have I1:=I.laid (a:=s.heap.objs.size) (o:=.dK []) (h':=s.heap.push { cls:=.type "dict",data:=.dict #[] }) (t':=s.toks) (fun _ _ q=>ya7 _ q) (yaa _) (dk_empty s.heap I.big)
 refine wpAny_Dict_walk (knd:=zbg X.prog X.w) hall hl h0 h15 (thn (h pins _ σ _ _ I1 (q _ hn)) fun ws s2 ⟨ps,H2,I2,rel,e,kvs,ep,lk,q2⟩=>?_)
 subst ep;obtain⟨rs,c,rk⟩:=zm9 (P:=X.prog) (w:=X.w) rel;obtain⟨z,hd,vs0,r0,dd⟩:=dk_of I2.hok e;cases r0;refine⟨rs,c,dd,fun h' dd' hs=>⟨.ref s.heap.objs.size,_,?_,rfl,q2⟩⟩
 have hz:(zij [] kvs).length<=sizeLine:=by
  have h1:=zhm kvs [];rw[yc8]at h1;rw[sizeLine_eq];omega
 have he:∃q,h'.get? s.heap.objs.size=some q:=let ⟨q,_,_,hq,_⟩:=dd';⟨q,hq⟩;exact d_write I2 (by rw[e];exact True.intro) hs he (dk_new hz hd (rk.merge .nil) dd')
section
variable {X:Cx}{pins:List (Addr×Obj)}{σ:St}{H:Hp}{s:Shared}{a:Addr}{y d:V}{u r:Value}{o:Option V}{A:Around}{E:Value->Shared->Prop}
end
section
variable {X:Cx}{o e f:Expr}{apos cpos:Pos}{td ty tx:TE}
end
section
variable {X:Cx}{pins:List (Addr×Obj)}{σ:St}{H:Hp}{s:Shared}{a:Addr}{kvs:List (Key×V)}{A:Around}{E:Value->Shared->Prop}
end
section
variable {X:Cx}{pins:List (Addr×Obj)}{σ:St}{H:Hp}{s:Shared}{a:Addr}{y:V}{u:Value}{A:Around}{E:Value->Shared->Prop}
end
end L2
namespace Zm
theorem gcd_fmod(a b:Int):Int.gcd b (a.fmod b)=Int.gcd a b:=by
 rw[Int.fmod_def,Int.gcd_comm a b,Int.mul_comm];exact Int.gcd_sub_mul_right_right b a (a.fdiv b)
theorem fmod_less(a:Int){b:Int}(h:b≠0):(a.fmod b).natAbs<b.natAbs:=by
 rcases Int.lt_or_gt_of_ne h with hb|hb
 ·have e:a.fmod b=-((-a).fmod (-b)):=by rw[Int.neg_fmod_neg,Int.neg_neg]
  have h1:=Int.fmod_nonneg_of_pos (-a) (show 0 < -b by omega)
  have h2:=Int.fmod_lt_of_pos (-a) (show 0 < -b by omega)
  omega
 ·have h1:=Int.fmod_nonneg_of_pos a hb;have h2:=Int.fmod_lt_of_pos a hb
  omega
def gd(a b:Int):Int:=(Int.gcd a b:Nat)
theorem gd_end{a b a0 b0:Int}(hg:gd a b=gd a0 b0)(hb:b=0):(if a<0 then -a else a)=gd a0 b0:=by
 subst hb;rw[<- hg];unfold gd;rw[Int.gcd_zero_right];split<;>omega
theorem gd_turn{a b a0 b0:Int}(hg:gd a b=gd a0 b0):gd b (a.fmod b)=gd a0 b0:=by
 rw[<- hg];unfold gd;rw[gcd_fmod]
theorem gd_pos{a b:Int}(h:b≠0):0<gd a b:=by
 unfold gd;have:=Int.gcd_pos_of_ne_zero_right a h
 omega
theorem gd_le{a b:Int}(h:0<b):gd a b<=b:=by
 unfold gd;exact Int.le_of_dvd h (Int.gcd_dvd_right a b)
def lt(t b:Int):Int:=t.fdiv (gd t b)
def lb(t b:Int):Int:=b.fdiv (gd t b)
theorem fdiv_exact{x g:Int}(hg:g≠0)(h:g ∣ x):x.fdiv g * g=x:=by
 rw[Int.mul_comm];exact Int.mul_fdiv_cancel' h
theorem lb_mul{t b:Int}(h:b≠0):lb t b * gd t b=b:=by
 unfold lb;exact fdiv_exact (by have:=gd_pos (a:=t) h;omega) (Int.gcd_dvd_right t b)
theorem lb_pos{t b:Int}(h:0<b):0<lb t b:=by
 have h1:=lb_mul (t:=t) (show b≠0 by omega)
 have h2:=gd_pos (a:=t) (show b≠0 by omega)
 rcases Int.lt_or_le 0 (lb t b) with q|q
 ·exact q
 ·have:=Int.mul_nonpos_of_nonpos_of_nonneg q (Int.le_of_lt h2)
  omega
theorem abs_le_mul{x g:Int}(h:0<g):x.natAbs<=(x * g).natAbs:=by
 rw[Int.natAbs_mul];exact Nat.le_mul_of_pos_right _ (by omega)
theorem lb_le{t b:Int}(h:0<b):lb t b<=b:=by
 have h1:=lb_mul (t:=t) (show b≠0 by omega)
 have h2:=abs_le_mul (x:=lb t b) (gd_pos (a:=t) (show b≠0 by omega))
 have h3:=lb_pos (t:=t) h
 omega
def sg(t b:Int):Int:=if b<0 then -(gd t b) else gd t b
end Zm
namespace Zw
open PySem PySem.Spec PyProof.Rows L2
def Sm(i:Int):Prop:=-(10 ^ 70)<i/\i<10 ^ 70
theorem Sm.nat{i:Int}(h:Sm i):i.natAbs<10 ^ 70:=by
 unfold Sm at h
 omega
theorem pow300:10 ^ 70<=2 ^ 300:=by decide +kernel
theorem Sm.log{i:Int}(h:Sm i):i.natAbs.log2<300:=by
 by_cases z:i.natAbs=0
 ·rw[z]
  decide
 ·exact(Nat.log2_lt z).mpr (yai h.nat pow300)
theorem Sm.bits{i:Int}(h:Sm i):Builtin.Int.intBits i<=2 ^ 20:=by
 have q:=h.log;have e20:(2:Nat) ^ 20=1048576:=by decide
 unfold Builtin.Int.intBits;split<;>omega
theorem Sm.of{i:Int}(h1:-(10 ^ 70)<i)(h2:i<10 ^ 70):Sm i:=⟨h1,h2⟩
theorem Sm.abs{i:Int}{m:Nat}(h:i.natAbs<=m)(hm:m<10 ^ 70):Sm i:=by
 constructor<;>omega
section
variable {X:Cx}
theorem op_mulS:OpR X (binaryOp .Mult) (rI (fun i j=>Sm i/\Sm j) fun i j=>.int (i * j)):=opI fun _ _ _ _ _ _ _ hc q=>mul_int q (.of_bits hc.1.bits hc.2.bits)
theorem op_fdivL:OpR X (binaryOp .FloorDiv) (rI (fun _ j=>j≠0/\Sm j) fun i j=>.int (i.fdiv j)) :=
 opI fun _ _ _ _ _ _ _ hc q=>floordiv_int hc.1 q (.inl (PyProof.noPylong_of_log2 (ycr hc.2.log (by decide))))
theorem isB_val{x:V}{v:Value}{b:Bool}(r:RelV x v):PySem.plainIs v (.bool b)=true/\(v == Value.bool b)=decide (x=V.bl b):=by
 cases x with
 |non=>cases r;exact⟨rfl,by simp⟩
 |bl c=>cases r;exact⟨rfl,by cases c<;>cases b<;>simp⟩
 |int i=>obtain⟨t,rfl⟩:=r;exact⟨rfl,by simp⟩
 |str i=>obtain⟨t,rfl⟩:=r;exact⟨rfl,by simp⟩
 |byt i=>obtain⟨t,rfl⟩:=r;exact⟨rfl,by simp⟩
 |flt i=>obtain⟨t,rfl⟩:=r;exact⟨rfl,by simp⟩
 |ref i=>cases r;exact⟨rfl,by simp⟩
 |ty i=>cases r;exact⟨rfl,by simp⟩
theorem op_isB:OpR X (compareOp .Is) (fun x y H Q=>∃b,y=.bl b/\Q (.bl (decide (x=.bl b))) H):=by
 intro pins s σ H x y v u Q I rx ry h;obtain⟨b,rfl,q⟩:=h;cases ry;obtain⟨e1,e2⟩:=isB_val (b:=b) rx;exact wpAny_is_plain e1 (fin_bl I q e2.symm)
theorem op_notB:OpR X (compareOp .IsNot) (fun x y H Q=>∃b,y=.bl b/\Q (.bl (!decide (x=.bl b))) H):=by
 intro pins s σ H x y v u Q I rx ry h;obtain⟨b,rfl,q⟩:=h;cases ry;obtain⟨e1,e2⟩:=isB_val (b:=b) rx;exact wpAny_isNot_plain e1 (fin_bl I q (by rw[e2]))
theorem call_isT{c:String}:zca X (.builtin "isinstance") (fun xs H Q=>∃x t b,xs=[x,.ty c]/\TyOf X.K H x t/\PySem.W.kitOne X.K t (.type c)=some b/\Q (.bl b) H):=by
 intro pins s σ H xs us Q I r h;obtain⟨x,t,b,rfl,ty,e,q⟩:=h;obtain⟨u,w',rfl,rx,ry⟩:=vals2 r;cases ry;exact isinst_ok I rx ty e fun tk=>⟨.bl b,H,I.tok _,rfl,q⟩
end
section
variable {X:Cx}
end
section
variable {X:Cx}{pos:Pos}
end
section
variable {X:Cx}
end
theorem kitMeta_int:PySem.W.kitMeta "int"=true:=by decide +kernel
theorem kitMeta_bool:PySem.W.kitMeta "bool"=true:=by decide +kernel
theorem kitMeta_tuple:PySem.W.kitMeta "tuple"=true:=by decide +kernel
theorem kit_same(K:PySem.W.Frag)(c:String):PySem.W.kitOne K (.type c) (.type c)=some true:=by
 unfold PySem.W.kitOne;rw[if_pos (by simp)]
theorem kit_ne(K:PySem.W.Frag){t c:String}{l:List Value}{b:Bool}(h:t≠c)(hm:PySem.W.kitMeta c=true)(hl:(fastBuiltinMro t).map (·.contains (Value.type c))=some b):PySem.W.kitOne K (.type t) (.type c)=some b:=by
 unfold PySem.W.kitOne;rw[if_neg (by simpa using h)]
 unfold PySem.W.kitCls;show(if PySem.W.kitMeta c=true then PySem.W.subIn K (.type t) (.type c) else none)=some b
 rw[if_pos hm];exact hl
inductive Known(H:Hp):V->Prop where
 |non:Known H .non
 |bl (b:Bool):Known H (.bl b)
 |int (i:Int):Known H (.int i)
 |str (x:Str):Known H (.str x)
 |lst {p:Addr} {xs:List V} (e:H p=some (.lst xs)):Known H (.ref p)
 |tup {p:Addr} {xs:List V} (e:H p=some (.tup xs)):Known H (.ref p)
 |dic {p:Addr} {kvs:List (Key×V)} (e:H p=some (.dK kvs)):Known H (.ref p)
theorem Known.same{H H':Hp}{x:V}(h:Known H x)(s:zbs H H'):Known H' x:=by
 cases h with
 |non=>exact .non
 |bl b=>exact .bl b
 |int i=>exact .int i
 |str y=>exact .str y
 |lst e=>exact .lst (s _ _ e)
 |tup e=>exact .tup (s _ _ e)
 |dic e=>exact .dic (s _ _ e)
set_option genInjectivity false in
structure FunD(K:PySem.W.Frag)(x qual:Str)(st:Stmt)(f:Addr)(fd:FuncData):Prop where
 ex:∃(oc:Value) (od:Option Addr) (dV kV doc pm:Value) (an:Option Addr) (cdv ct:Value) (osl:Array (Option Value)),
  fd=PySem.W.fnOf x qual (zi9 st) (zab st) (za4 st) dV kV doc pm an cdv ct/\K.lookup f=some ⟨oc,od,.func fd,osl⟩/\PySem.W.codeIn K cdv qual=true
 kp:PySem.W.keepIn K (.ref f)=true
theorem FunD.ok{P:Program}{w:World}{K:PySem.W.Frag}{mg:Str->Option Value}{base:Heap}{x qual:Str}{st:Stmt}{f:Addr}{fd:FuncData}{N ps:List Str}{k:Nat}{sp:Sp}(F:FunD K x qual st f fd)(S:FnScope N ps (za4 st))(len:∀vs H Q E,sp vs H Q E->vs.length=ps.length)
  (hbody : ∀ (cdv : Value) (A : Around) (outer : List Env) (s : Shared) (H : Hp) (vs : List V) (Q : VK) (E : XK), Room k (A.deeper (envOfC qual (za4 st) s.heap.objs.size f cdv)) -> sp vs H Q E ->
   ∃t,PSs (cxOf CX0 P w K mg base N qual (za4 st) f cdv A outer s H E).nox (zab st) t/\t { nx:=fun _ H'=>Q .non H',rt:=Q } (start N vs) H):FnOk P w K mg base CX0 (k+1) f fd ps sp:=by
 obtain⟨oc,od,dV,kV,doc,pm,an,cdv,ct,osl,rfl,lk,hcd⟩:=F.ex;refine fn_of lk hcd S len fun A outer s H vs Q E hr hsp=>?_
 obtain⟨t,h,q⟩:=hbody cdv A outer s H vs Q E hr hsp;exact⟨t,h.nox,q⟩
theorem zag{K:PySem.W.Frag}{x qual:Str}{st:Stmt}{f:Addr}{oc:Value}{od an:Option Addr}{osl:Array (Option Value)}{dV kV doc pm cdv ct:Value}(l:K.lookup f=some ⟨oc,od,.func (PySem.W.fnOf x qual (zi9 st) (zab st) (za4 st) dV kV doc pm an cdv ct),osl⟩)
  (c:PySem.W.codeIn K cdv qual=true) (k:PySem.W.keepIn K (.ref f)=true):FunD K x qual st f (PySem.W.fnOf x qual (zi9 st) (zab st) (za4 st) dV kV doc pm an cdv ct):=⟨⟨oc,od,dV,kV,doc,pm,an,cdv,ct,osl,rfl,l,c⟩,k⟩
set_option genInjectivity false in
structure Tx(K:PySem.W.Frag)(mg:Str->Option Value)(x:Str)(st:Stmt)(ps:List Str) where
 f:Addr
 fd:FuncData
 F:FunD K x x st f fd
 m:mg x=some (.ref f)
 b:zh9 K fd ps []
structure Def(P:Program)(w:World)(K:PySem.W.Frag)(mg:Str->Option Value)(base:Heap)(k:Nat)(x:Str)(ps:List Str)(sp:Sp) where
 f:Addr
 fd:FuncData
 ok:FnOk P w K mg base CX0 k f fd ps sp
 m:mg x=some (.ref f)
 kp:PySem.W.keepIn K (.ref f)=true
 b:zh9 K fd ps []
section
variable {X:Cx}{k j:Nat}{x:Str}{ps:List Str}{sp:Sp}{p pos:Pos}{e:Expr}{es:List Expr}{t:TA}
theorem pd(D:Def X.prog X.w X.K X.mg X.base k x ps sp)(hr:Room j X.A)(ha:PA X (e::es) t)(hk:k<=j:=by decide)(hg:Gl X x:=by rfl)(hdb:(x == ("__debug__":Str))=false:=by decide)
  (he:starEach (e::es) X.env=(false,eval e X.env)::starEach es X.env:=by rfl) (hpl:(backTo pos (starEach es X.env)).any (·.1)=false:=by rfl) :
  PE X (.Call (.Name x p) (e::es) [] pos) (tCall sp [] E0 t):=pe_call D.ok (hr.mono hk) hg D.m D.kp D.b .nil pass0 ha hdb he hpl
end
theorem zj6{H:Hp}{p:Addr}(h:H p=none)(o:HO):zbs H (upd H p o):=fun b u q=>by
 rw[zam (zaq q h)];exact q
def Fra(H:Hp)(p:Addr)(a b:Int):Prop:=H p=some (.tup [.int a,.int b])
theorem Fra.same{H H':Hp}{p:Addr}{a b:Int}(h:Fra H p a b)(s:zbs H H'):Fra H' p a b:=s _ _ h
theorem Fra.new{H:Hp}{p:Addr}{a b:Int}:Fra (upd H p (.tup [.int a,.int b])) p a b:=zay
theorem sz{n:Nat}(h:n<=1000:=by exact Nat.le_of_ble_eq_true rfl):n<=sizeLine:=ycu (small1000 h)
def compCx(X:Cx)(scope:Scope)(cl:List (Str×Addr))(N':List Str)(C:Addr)(s₀:Shared)(H₀:Hp)(ex:List Addr):Cx :=
 { X with N:=N',s₀:=s₀,H₀:=H₀,env:=compEnvC scope cl C X.env,outer:=X.stack,ex:=ex,fn:=fun _=>false,xe:=fun _ _=>False }
theorem HOk.adopt{P:Program}{w:World}{H:Hp}{h:Heap}{a:Addr}{o:HO}(x:HOk P w H h)(hn:H a=none)(new:zbx P w (upd H a o) h a o):HOk P w (upd H a o) h:=fun b u e=>by
 by_cases hb:b=a
 ·subst hb;rw[zay]at e;cases e;exact new
 ·rw[zam hb]at e;exact(x b u e).stay (fun c v _ q=>q) (fun c q=>by rw[zam (zaq q hn)];exact q) fun c xs q=>by rw[zam (zaq q hn)];exact q
section
variable {X:Cx}{elt iter tg:Expr}{scope:Scope}{pos:Pos}{cl:List (Str×Addr)}{N':List Str}{wi:TI}{g:TG}{te:TE}
end
end Zw
namespace Zx
open PySem PySem.Spec PyProof.Rows L2 Zw
def FlyX(B:Heap)(l:List Env)(a:Addr)(cls a0:Value)(h:Heap):Prop:=∃fl,B.StaysIn h/\B.get? a=none/\h.FunFrames B l/\h.TracedAtW B a cls a0 fl
theorem flyX{B h:Heap}{l:List Env}{a:Addr}{cls a0:Value}(x:Heap.FlyingW B l a cls a0 h):FlyX B l a cls a0 h:=⟨.none,x⟩
section
variable {M:Model}{A:Around}{E:Value->Shared->Prop}{s:Shared}{B:Heap}{env v:Env}{l:List Env}{L a:Addr}{cls a0:Value}{Q:Unit->Shared->Prop}
theorem noteX(hfr:A.frames=some (v::l))(hv:env.frame=v.frame)(hL:v.frame=some L)(hx:FlyX B (v::l) a cls a0 s.heap)(hQ:∀h',Heap.HeldW B (v::l) a cls a0 L h'->s.heap.UpToSlots h'->Q () { s with heap:=h' }):wpAny M A (noteFrame (.ref a) env) Q E s:=by
 have en:noteFrame (.ref a) env=noteFrame (.ref a) v:=by
  unfold noteFrame PySem.frameOf;rw[hv]
 rw[en];obtain⟨fl,f1,f2,f3,f4⟩:=hx
 by_cases hfl:fl=rawInt L
 ·subst hfl;exact wpAny_noteFrame_againW hL f4 (hQ _ ⟨f1,f2,f3,f4⟩ (.refl _))
 ·obtain⟨oe,ws,Tb,oT,ts,ha,⟨rfl,g0⟩,hd,g1,nT,Tne,hT,dT,g3⟩:=f4;have g3s:=(ybs.mp g3).1;have oth:∀b,b≠Tb->(s.heap.update Tb (Obj.mapFields (·.setIfInBounds 3 Value.none))).get? b=s.heap.get? b:=fun b hb=>ybm _ _ (yaz hb)
  have nr:∀b o,s.heap.get? b=some o->(∀us,o.data≠.fields us)->b≠Tb:=fun b o hb hn z=>by
   rw[z,hT]at hb;cases hb;exact hn ts dT
  unfold noteFrame;simp only[hL];refine wpAny_bind (wpAny_field ha hd g1 ?_);rw[if_pos (by simp)]
  refine wpAny_bind (wpAny_field hT dT g3 ?_);rw[if_neg (fun z=>hfl (beq_iff_eq.mp z))]
  refine wpAny_bind (wpAny_setField hT dT g3s ?_);refine wpAny_entryW hfr (f3.of_keeps fun b o hb hn=>⟨o,(oth b (nr b o hb hn)).trans hb,rfl⟩) hL ((oth a (yaz Tne)).trans ha) (fun b o hb=>(oth b fun z=>by rw[z,nT]at hb;cases hb).trans (f1 b o hb)) f2 hd (ybs.mp g1).1 g0 fun h' k=>?_
  obtain⟨k1,k2,k3,k4⟩:=k;exact hQ h' ⟨k1,f2,k2,k3⟩ fun b o hb hn=>k4 b o ((oth b (nr b o hb hn)).trans hb) hn
theorem leavX(hfr:A.frames=some (v::l))(hL:v.frame=some L)(hx:FlyX B (v::l) a cls a0 s.heap)(hQ:∀h',Heap.FlyingW B l a cls a0 h'->s.heap.UpToSlots h'->Q () { s with heap:=h' }):wpAny M A (leaving v (.ref a)) Q E s:=by
 unfold leaving;refine wpAny_bind (noteX hfr rfl hL hx fun h1 hh sm1=>wpAny_landsW hh fun h2 hf sm2=>?_)
 obtain⟨k1,k2,⟨_,_,k3⟩,k4⟩:=hf;exact hQ h2 ⟨k1,k2,k3,k4⟩ (sm1.trans sm2)
end
def CX1(P:Program)(w:World):CXT:=fun outer H s E e s'=>∃(a:Addr) (cls:Value) (H':Hp) (B:Heap) (a0:Value),
 e=.ref a/\s'.os=s.os/\AllBare s'.gens/\Un (frs outer) [] H H' s.heap s'.heap/\HOk P w H' B/\(∀b o,s.heap.get? b=some o->H b=none->b∉frs outer->B.get? b=some o) /\
 (∀b o,s.heap.get? b=some o->b∉frs outer->∃o',B.get? b=some o')/\FlyX B outer a cls a0 s'.heap/\E cls none H'
theorem there_of{P:Program}{w:World}{H:Hp}{h:Heap}{a:Addr}{o:HO}(x:zbx P w H h a o):∃ob,h.get? a=some ob:=by
 cases o with
 |lst xs=>obtain⟨_,_,_,_,e⟩:=x;exact⟨_,e⟩
 |tup xs=>obtain⟨_,_,_,o',e,_⟩:=x;exact⟨o',e⟩
 |dK kvs=>obtain⟨_,_,_,_,o',_,_,e,_⟩:=x;exact⟨o',e⟩
 |dT kvs=>obtain⟨_,_,_,_,o',_,_,e,_⟩:=x;exact⟨o',e⟩
 |set S n=>obtain⟨o',_,_,_,e,_⟩:=x;exact⟨o',e⟩
 |ins C dx fs=>obtain⟨_,_,_,e,_⟩:=x;exact⟨_,e⟩
 |own y=>exact x
 |xd fs=>obtain⟨_,⟨o',_,_,e,_⟩,_⟩:=x;exact⟨o',e⟩
 |rng lo hi=>obtain⟨_,_,_,e⟩:=x;exact⟨_,e⟩
 |frz ob u=>obtain⟨e,_⟩:=x;exact⟨_,e⟩
 |tbl ps=>exact⟨_,(show h.get? a=some _ from x)⟩
 |met f y=>exact⟨_,(show h.get? a=some _ from x)⟩
 |ext φ=>obtain⟨_,e,_⟩:=x;exact e
theorem none_of{P:Program}{w:World}{H:Hp}{h:Heap}{a:Addr}(x:HOk P w H h)(e:h.get? a=none):H a=none:=by
 cases q:H a with
 |none=>rfl
 |some u =>
  obtain⟨ob,z⟩:=there_of (x a u q);rw[e]at z;cases z
def zbo(X:Cx)(E:L2.St->XK):Prop:=∀(pins:List (Addr×Obj)) (σ:L2.St) (H:Hp) (s:Shared) (e:Value) (s':Shared),Inv X pins σ H s->CX1 X.prog X.w X.stack H s (E σ) e s'->X.xe e s'
def MadeS(X:Cx)(E:L2.St->XK):Prop:=∀(pins:List (Addr×Obj)) (σ:L2.St) (H:Hp) (s:Shared) (a:Addr) (cls:Value) (vs:List Value) (h':Heap),Inv X pins σ H s->Heap.MadeExcOf s.heap h' a cls vs->E σ cls none H->X.xe (.ref a) { s with heap:=h' }
section
variable {X:Cx}{pins:List (Addr×Obj)}{σ:L2.St}{H:Hp}{s:Shared}
theorem noframe(I:Inv X pins σ H s){b:Addr}{o:Obj}(e:X.s₀.heap.get? b=some o)(hb:b∉frs X.outer):b∉frs X.stack:=fun z=>by
 rcases yaj.mp (I.stkSub b z) with q|q
 ·exact absurd (yai (yab e) I.ok.above) (by rw[q];exact yb3 _)
 ·exact hb q
theorem stack_sub(hst:X.stack=X.env::X.outer){b:Addr}(hb:b∈frs X.outer):b∈frs X.stack:=by
 rw[hst];obtain⟨v,h1,h2⟩:=ybo.mp hb;exact ybo.mpr ⟨v,ya8 _ h1,h2⟩
theorem hid_ok(I:Inv X pins σ H s):HOk X.prog X.w H (PySem.W.hideAll s.heap (frs X.stack)):=fun b u e=>(I.hok b u e).stay (fun c v hc q=>ybi _ q fun z=>by
  have f:=I.stkFree c z
  rcases hc with y|y
  ·rw[y,e]at f;cases f
  ·rw[y]at f;cases f) (fun _ q=>q) fun _ _ q=>q
theorem made_ok(hst:X.stack=X.env::X.outer)(hf:X.env.frame=some X.env.locals)(hex:X.ex=[]){E:XK}{a:Addr}{cls:Value}{vs:List Value}{h':Heap}{Ex:Value->Shared->Prop}(I:Inv X pins σ H s)(hx:Heap.MadeExcOf s.heap h' a cls vs)(he:E cls none H) :
  wpAny (model X.prog X.w) X.A (leaving X.env (.ref a)) (fun _ s2=>CX1 X.prog X.w X.outer X.H₀ X.s₀ E (.ref a) s2) Ex { s with heap:=h' }:=by
 have nex:∀b:Addr,b∉X.ex:=fun b z=>by rw[hex]at z;cases z
 have hfr:X.A.frames=some (X.env::X.outer):=hst▸I.ok.frames
 have FF:s.heap.FunFrames (PySem.W.hideAll s.heap (frs X.stack)) (X.env::X.outer):=by
  rw[<- hst];exact PySem.W.funFrames_hide I.stack fun v hv b hb=>ybo.mpr ⟨v,hv,hb⟩
 refine wpAny_leaves_madeW (base:=PySem.W.hideAll s.heap (frs X.stack)) (h:=s.heap) (args:=vs) hfr hf (fun b o q=>ybz _ q) FF hx fun h2 t fl _ _ sm=>?_
 have kB:∀b o,X.s₀.heap.get? b=some o->X.H₀ b=none->b∉frs X.outer->(PySem.W.hideAll s.heap (frs X.stack)).get? b=some o:=fun b o e n hb=>ybi _ (I.base.keep b o e n hb (nex b)) (noframe I e hb)
 have tB:∀b o,X.s₀.heap.get? b=some o->b∉frs X.outer->∃o',(PySem.W.hideAll s.heap (frs X.stack)).get? b=some o':=fun b o e hb=>by
  obtain⟨o',e'⟩:=I.base.there b o e (nex b);exact⟨o',ybi _ e' (noframe I e hb)⟩
 have sl:∀b o,X.s₀.heap.get? b=some o->X.H₀ b=none->b∈frs X.outer->∃z,h2.get? b=some { o with slots:=z }:=fun b o e n hb=>by
  obtain⟨z,e1⟩:=I.base.slot b o e n hb (nex b);obtain⟨_,o2,ho2,hd⟩:=I.funs.mem hb;rw[e1]at ho2;cases ho2;obtain⟨z3,e3⟩:=sm b { o with slots:=z } (hx.keeps b _ e1) hd
  exact⟨z3,e3⟩
 refine⟨a,cls,H,_,_,rfl,I.os,I.bare,⟨fun b o e n hb _=>fl.1 b o (kB b o e n hb),fun b o e n hb _=>sl b o e n hb,fun b o e n _=>I.base.free b o e n (nex b),fun b o e _=>?_,I.base.tups,I.base.frzs,I.base.tbls⟩,hid_ok I,kB,tB,flyX fl,he⟩
 by_cases hb:b∈frs X.outer
 ·obtain⟨z,q⟩:=sl b o e (I.ok.frf b hb) hb;exact⟨_,q⟩
 ·obtain⟨o',q⟩:=tB b o e hb;exact⟨o',fl.1 b o' q⟩
theorem pass_ok(hst:X.stack=X.env::X.outer)(hf:X.env.frame=some X.env.locals)(hex:X.ex=[]){E:XK}{e:Value}{s':Shared}{Ex:Value->Shared->Prop}(I:Inv X pins σ H s)(h:CX1 X.prog X.w X.stack H s E e s') :
  wpAny (model X.prog X.w) X.A (leaving X.env e) (fun _ s2=>CX1 X.prog X.w X.outer X.H₀ X.s₀ E e s2) Ex s':=by
 obtain⟨a,cls,H',B,a0,rfl,os,bare,un,hok,kB0,tB0,fl0,he⟩:=h;have nex:∀b:Addr,b∉X.ex:=fun b z=>by rw[hex]at z;cases z
 have hfr:X.A.frames=some (X.env::X.outer):=hst▸I.ok.frames;have fl1:FlyX B (X.env::X.outer) a cls a0 s'.heap:=hst▸fl0;refine leavX hfr hf fl1 fun h2 fl sm=>?_
 have kB:∀b o,X.s₀.heap.get? b=some o->X.H₀ b=none->b∉frs X.outer->B.get? b=some o:=fun b o e n hb=>kB0 b o (I.base.keep b o e n hb (nex b)) (I.base.free b o e n (nex b)) (noframe I e hb)
 have tB:∀b o,X.s₀.heap.get? b=some o->b∉frs X.outer->∃o',B.get? b=some o':=fun b o e hb=>by
  obtain⟨o',e'⟩:=I.base.there b o e (nex b);exact tB0 b o' e' (noframe I e hb)
 have sl:∀b o,X.s₀.heap.get? b=some o->X.H₀ b=none->b∈frs X.outer->∃z,h2.get? b=some { o with slots:=z }:=fun b o e n hb=>by
  obtain⟨z,e1⟩:=I.base.slot b o e n hb (nex b);obtain⟨_,o2,ho2,hd⟩:=I.funs.mem hb;rw[e1]at ho2;cases ho2;obtain⟨z2,e2⟩:=un.slot b { o with slots:=z } e1 (I.base.free b o e n (nex b)) (stack_sub hst hb) (by simp)
  obtain⟨z3,e3⟩:=sm b { o with slots:=z2 } e2 hd
  exact⟨z3,e3⟩
 refine⟨a,cls,H',B,a0,rfl,os.trans I.os,bare,⟨fun b o e n hb _=>fl.1 b o (kB b o e n hb),fun b o e n hb _=>sl b o e n hb,fun b o e n _=>?_,fun b o e _=>?_,fun b xs e=>un.tups b xs (I.base.tups b xs e),fun b o u e=>un.frzs b o u (I.base.frzs b o u e),fun b ps e=>?_⟩,hok,kB,tB,flyX fl,he⟩
 ·obtain⟨o',e'⟩:=I.base.there b o e (nex b);exact un.free b o' e' (I.base.free b o e n (nex b)) (by simp)
 ·by_cases hb:b∈frs X.outer
  ·obtain⟨z,q⟩:=sl b o e (I.ok.frf b hb) hb;exact⟨_,q⟩
  ·obtain⟨o',q⟩:=tB b o e hb;exact⟨o',fl.1 b o' q⟩
 ·obtain⟨m1,e1⟩:=I.base.tbls b ps e;obtain⟨m2,e2⟩:=un.tbls b _ e1;exact⟨m1++m2,e2.trans (by rw[yd5])⟩
end
section
variable {P:Program}{w:World}{K:PySem.W.Frag}{mg:Str->Option Value}{base:Heap}
theorem passD{N:List Str}{qual:Str}{sc:Scope}{f:Addr}{cd:Value}{A:Around}{outer:List Env}{s:Shared}{H:Hp}{E:XK}:zbo (cxOf (CX1 P w) P w K mg base N qual sc f cd A outer s H E) (fun _=>E) :=
 fun _ _ _ _ _ _ I h=>pass_ok rfl rfl rfl I h
theorem madeD{N:List Str}{qual:Str}{sc:Scope}{f:Addr}{cd:Value}{A:Around}{outer:List Env}{s:Shared}{H:Hp}{E:XK}:MadeS (cxOf (CX1 P w) P w K mg base N qual sc f cd A outer s H E) (fun _=>E) :=
 fun _ _ _ _ _ _ _ _ I hx he=>made_ok rfl rfl rfl I hx he
theorem okX{x qual:Str}{st:Stmt}{f:Addr}{fd:FuncData}{N ps:List Str}{k:Nat}{sp:Sp}(F:FunD K x qual st f fd)(S:FnScope N ps (za4 st))(len:∀vs H Q E,sp vs H Q E->vs.length=ps.length)
  (hbody : ∀ (cdv : Value) (A : Around) (outer : List Env) (s : Shared) (H : Hp) (vs : List V) (Q : VK) (E : XK), Room k (A.deeper (envOfC qual (za4 st) s.heap.objs.size f cdv)) -> sp vs H Q E ->
   ∃t,PSs (cxOf (CX1 P w) P w K mg base N qual (za4 st) f cdv A outer s H E) (zab st) t/\t { nx:=fun _ H'=>Q .non H',rt:=Q } (start N vs) H):FnOk P w K mg base (CX1 P w) (k+1) f fd ps sp:=by
 obtain⟨oc,od,dV,kV,doc,pm,an,cdv,ct,osl,rfl,lk,hcd⟩:=F.ex;exact fn_of lk hcd S len fun A outer s H vs Q E hr hsp=>hbody cdv A outer s H vs Q E hr hsp
end
set_option genInjectivity false in
structure DefX(P:Program)(w:World)(K:PySem.W.Frag)(mg:Str->Option Value)(base:Heap)(k:Nat)(x:Str)(ps:List Str)(sp:Sp) where
 f:Addr
 fd:FuncData
 ok:FnOk P w K mg base (CX1 P w) k f fd ps sp
 m:mg x=some (.ref f)
 kp:PySem.W.keepIn K (.ref f)=true
 b:zh9 K fd ps []
section
variable {X:Cx}{k j:Nat}{f:Addr}{fd:FuncData}{x:Str}{ps:List Str}{sp:Sp}{p pos:Pos}{e:Expr}{es:List Expr}{t:TA}{E:L2.St->XK}{dvs:List V}
theorem run_fnX{pins:List (Addr×Obj)}{σ:L2.St}{H:Hp}{s:Shared}{Q:VK}{us ds:List Value}{vs:List V}(F:FnOk X.prog X.w X.K X.mg X.base (CX1 X.prog X.w) k f fd ps sp)(hr:Room k X.A)(hb:zh9 X.K fd ps ds)(hd:zbl dvs ds)(hx:zbo X E)
  (I:Inv X pins σ H s) (r:zbl vs us) (h:sp (vs++dvs) H Q (E σ)):wpAny (model X.prog X.w) X.A (call (.ref f) us) (EP X pins σ Q) X.xe s:=by
 have r2:zbl (vs++dvs) (us++ds):=r.append hd;have hl:(us++ds).length=ps.length:=r2.length.symm.trans (F.len _ _ _ _ h);refine wpAny_call (codeAny_mono (F.run X.A X.stack s H ⟨us,[]⟩ (us++ds) (vs++dvs) Q (E σ) hr I.env0 (hb s us I.kIn hl) r2 h) fun r s' hq=>?_)
 cases r with
 |error v=>exact hx pins σ H s v s' I hq
 |ok fl =>
  cases fl with
  |ret u=>exact I.after hq
  |_=>exact False.elim hq
def tCallX(sp:Sp)(dvs:List V)(E:L2.St->XK)(t:TA):TE:=fun σ H Q=>t σ H fun vs H1=>sp (vs++dvs) H1 Q (E σ)
theorem px(D:DefX X.prog X.w X.K X.mg X.base k x ps sp)(hr:Room j X.A)(hx:zbo X E)(ha:PA X (e::es) t)(hk:k<=j:=by decide)(hg:Gl X x:=by rfl)(hdb:(x == ("__debug__":Str))=false:=by decide)
  (he:starEach (e::es) X.env=(false,eval e X.env)::starEach es X.env:=by rfl) (hpl:(backTo pos (starEach es X.env)).any (·.1)=false:=by rfl):PE X (.Call (.Name x p) (e::es) [] pos) (tCallX sp [] E t):=by
 intro pins s σ H Q I h;refine wpAny_Call_Name_kw (zi7 I hg D.m ?_ hdb);refine yca (h₀:=X.base) I.ok.mod.kin D.kp (thn (ha pos pins s σ H _ I h) fun us s1 ⟨vs,H1,I1,r,q⟩=>⟨I1.kIn,?_⟩) he hpl
 exact run_fnX D.ok (hr.mono hk) D.b .nil hx I1 r q
end
abbrev vmro:List Value:=[.type "ValueError",.type "Exception",.type "BaseException",.type "object"]
structure ExcK(K:PySem.W.Frag)(C:Addr):Prop where
 q:PySem.W.excIn K C vmro "ValueError.__new__"=true
 self:PySem.W.subIn K (.ref C) (.ref C)=some true
 cd:∃cd,PySem.W.clsIn K C=some cd
 ty:PySem.W.typeIn K (.ref C)=some (.type "type")
 ga:PySem.W.findIn K (.ref C) "__getattribute__"=some (some (.builtin "BaseException.__getattribute__"))
 gt:PySem.W.findIn K (.ref C) "__getattr__"=some none
 ca:PySem.W.findIn K (.ref C) "__class__"=some (some (.builtin "object.__class__"))
 ob:PySem.W.mroIn K C (.type "object")=some true
 be:PySem.W.mroIn K C (.type "BaseException")=some true
 gs:PySem.W.specialIn K (.builtin "object.__class__") "__get__"=some (some (.builtin "getset_descriptor.__get__"))
 tk:PySem.W.takesIn K (.builtin "object.__class__")=some true
structure ECls(K:PySem.W.Frag)(mg:Str->Option Value)(x:Str) where
 C:Addr
 m:mg x=some (.ref C)
 k:ExcK K C
theorem exc_in{K:PySem.W.Frag}{h:Heap}{C:Addr}{bmB:List Value}{newId:String}(X:K.In h)(q:PySem.W.excIn K C bmB newId=true):∃bm N nm qn bs hd sn sub ab col dd k0 k1 k2 k3 k5 mN,
  h.get? C=some (excClassObj nm qn C N bs bm hd sn sub ab col dd k0 k1 k2 k3 k5 newId)/\h.Ns N mN/\mN "__init__"=none/\OwnTail h bmB bm:=by
 unfold PySem.W.excIn at q;split at q
 ·rename_i dd cd sl ho;split at q
  ·rename_i C2 bm k0 k1 k2 k3 nid k5 hm hs;simp only[yb1,ya2,beq_iff_eq]at q;obtain⟨⟨⟨⟨⟨z1,z2⟩,hdel⟩,ht⟩,hok⟩,hni⟩:=q;subst z1;subst z2;obtain⟨nm,bs,mro,nsp,qn,hd,sn,sub,ab,col,dl⟩:=cd;dsimp only at hm hok hni hdel;subst hm;subst hdel
   have hsl:sl=#[k0,k1,k2,k3,some (.builtin nid),k5]:=by
    obtain⟨l⟩:=sl;have hs':l=[k0,k1,k2,k3,some (.builtin nid),k5]:=hs;rw[hs']
   subst hsl;exact⟨bm,nsp,nm,qn,bs,hd,sn,sub,ab,col,dd,k0,k1,k2,k3,k5,_,X _ _ ho,.of_isNs (PySem.W.isNs_of_in X hok),PySem.W.nsMap_none_of_in X hok hni,PySem.W.tail_of_in X ht⟩
  ·exact absurd q yav
 ·exact absurd q yav
section
variable {X:Cx}{x:Str}{p cpos pos:Pos}{e:Expr}{es:List Expr}{t:TA}{E:L2.St->XK}
def tRaise(C:Addr)(E:L2.St->XK)(t:TA):TS:=fun _ σ H=>t σ H fun vs H1=>vs.length<=sizeLine/\E σ (.ref C) none H1
theorem ps_raise(T:ECls X.K X.mg x)(hc:X.calm=true)(hx:MadeS X E)(ha:PA X (e::es) t)(hg:Gl X x:=by rfl)(hdb:(x == ("__debug__":Str))=false:=by decide)
  (he:starEach (e::es) X.env=(false,eval e X.env)::starEach es X.env:=by rfl) (hpl:(backTo cpos (starEach (e::es) X.env)).any (·.1)=false:=by rfl) :
  PS X (.Raise (some (.Call (.Name x p) (e::es) [] cpos)) none pos) (tRaise T.C E t):=by
 intro pins s σ H D I h;obtain⟨bm,N,nm,qn,bs,hd,sn,sub,ab,col,dd,k0,k1,k2,k3,k5,mN,hC,hN,hni,TL⟩:=exc_in I.mod.kin T.k.q
 refine wpAny_Raise_call_subT (C:=T.C) (nm:=nm) (q:=qn) (N:=N) (bs:=bs) (bm:=bm) (hdct:=hd) (sn:=sn) (sub:=sub) (ab:=ab) (col:=col) (dd:=dd) (k0:=k0) (k1:=k1) (k2:=k2) (k3:=k3) (k5:=k5) (mN:=mN)
  yc6 (TL.hasType yc6.hasBase) (I.ok.hd hc) hpl hni (zi7 I hg T.m ⟨rfl,?_⟩ hdb)
 have h2:=ha cpos pins s σ H _ I h;rw[he]at h2 ⊢;exact Calls.evalArgs_plain (thn h2 fun us s1 ⟨vs,H1,I1,r,z,q1⟩=>⟨rfl,r.length▸z,I1.bk _ _ hC,hN.keeps I1.bk,TL.keeps I1.bk,fun h' a hm=>hx pins σ H1 s1 a _ us h' I1 hm q1⟩)
end
def ExcO(a C:Addr):HO:=.ext fun h=>∃o,h.get? a=some o/\o.cls=.ref C
section
variable {K:PySem.W.Frag}{a C:Addr}
open PySem.W PySem.Builtin PySem.Builtin.ObjectAttr PySem.Builtin.Getset_descriptor in
theorem xc_get{prog:Program}{w:World}{A:Around}{R:Result->Shared->Prop}{s:Shared}{tp:Value}(X:K.In s.heap)(k:ExcK K C)(h0:∃o,s.heap.get? a=some o/\o.cls=.ref C)
  (h:R (.ok (.ret (.ref C))) s):codeAny (model prog w) A (.call (.builtin "getset_descriptor.__get__") ⟨[.builtin "object.__class__",.ref a,tp],[]⟩) R s:=by
 obtain⟨o,ho,hc⟩:=h0;obtain⟨hp9,g,dr,t,os⟩:=s;have L0:Looks (model prog w) hp9 (typeOf (.ref a)) (.ref C):=hc▸(Looks.ld ho).andThen .now;have L1:=looks_mroIn (M:=model prog w) X k.ob;refine(codeAny_call_builtin KF.slot_gs.plain KF.entry_gs (KF.slot_gs.check _ _ _ _ _ _ _ _ KF.type_class (KF.args_gs _ _ _) ?_));unfold Builtin.«getset_descriptor.__get__» descrGet;rw[dga_obj];refine wpAny_bind (wpAny_pure ?_);unfold descrGetter descrCheckInstance descrNameAndClass isInstance;simp only[KF.owner_class]
 repeat lk
 refine⟨(Code.quiet_builtin _ (by decide +kernel)),(codeAny_builtin KF.entry_class ?_)⟩
 (unfold Builtin.«object.__class__» shownTypeOf)
 repeat lk
 exact h
open PySem.W PySem.Builtin PySem.Builtin.ObjectAttr in
theorem xc_find{M:Model}{h:Heap}(X:K.In h)(k:ExcK K C):Looks M h (Builtin.ObjectAttr.find (.ref a) (.ref C) "__class__") (.bind (.builtin "getset_descriptor.__get__") (.builtin "object.__class__")):=by
 have L1:=looks_findIn (M:=M) X k.ca;have L2:Looks M h (getOf (some (.builtin "object.__class__"))) (some (.builtin "getset_descriptor.__get__")):=looks_specialIn X k.gs;have L3:=looks_takesIn (M:=M) X k.tk;exact L1.andThen (L2.andThen ((show Looks M h (dataDescriptor? (some (.builtin "object.__class__")) (some (.builtin "getset_descriptor.__get__"))) (some (.builtin "getset_descriptor.__get__",.builtin "object.__class__")) from L3.andThen .now).andThen (Looks.tag .now)))
theorem xc_ga_ne:(Value.builtin "BaseException.__getattribute__" == Value.builtin "object.__getattribute__")=false:=by decide +kernel
theorem xc_kind:builtinKind "BaseException.__getattribute__"=some .slot:=by decide +kernel
theorem xc_split:splitId "BaseException.__getattribute__"=some ("BaseException","__getattribute__"):=by decide +kernel
open PySem.W in
theorem xc_attr{prog:Program}{w:World}{A:Around}{E:Value->Shared->Prop}{Q:Option Value->Shared->Prop}{s:Shared}(X:K.In s.heap)(k:ExcK K C)(h0:∃o,s.heap.get? a=some o/\o.cls=.ref C)
  (h:Q (some (.ref C)) { s with toks:=s.toks+1 }):wpAny (model prog w) A (getAttr? (.ref a) "__class__") Q E s:=by
 obtain⟨o,ho,hc⟩:=id h0;obtain⟨hp9,g,dr,t,os⟩:=s;have L0:Looks (model prog w) hp9 (typeOf (.ref a)) (.ref C):=hc▸(Looks.ld ho).andThen .now;have L1:=looks_findIn (M:=model prog w) X k.ga;have L2:=looks_findIn (M:=model prog w) X k.gt;have LI:Looks (model prog w) hp9 (isInstance (.ref a) (.type "BaseException")) true:=L0.andThen (looks_mroIn X k.be);have LF:=xc_find (M:=model prog w) (a:=a) X k
 (unfold getAttr? getAttrBy? getAttrBy)
 refine wpAny_bind (wpAny_mkText (wpAny_bind (wpAny_attempt (wpAny_holding (wpAny_bind (L0.at (wpAny_bind (L1.at ?ga))))))))
 case ga =>
  have hx1:(onTheHeap (Value.ref C) && Value.builtin "BaseException.__getattribute__" == Value.builtin "object.__getattribute__")=false:=by
   rw[xc_ga_ne]
   rfl
  dsimp only;rw[if_neg (by rw[hx1];exact yav)]
  unfold getAttrByItsOwn hookBefore;rw[if_pos (show onTheHeap (Value.ref C)=true from rfl)];refine wpAny_bind (L2.at (wpAny_bind (wpAny_attempt (wpAny_holding ?_))));unfold callGetattribute boundAndCalled;rw[if_neg (by exact yav)]
  refine wpAny_bind (wpAny_of_eq (PySem.F.excAttr_ValueError.ga.bind (.ref a)) ?_);show wpAny _ _ (call (.builtin "BaseException.__getattribute__") [.ref a,.str "__class__" t]) _ _ _;refine wpAny_call (codeAny_call_builtin PySem.F.excAttr_ValueError.ga.plain PySem.F.entry_bexc_ga ?_);have ha:=PySem.F.args_bexc_ga (.ref a) (.str (Str.ofString "__class__") t);obtain⟨i,hi⟩:∃i,i="BaseException.__getattribute__":=⟨_,rfl⟩;have k1:=xc_kind;have k2:=xc_split;rw[<- hi]at k1 k2 ha ⊢;refine PySem.W.check_slot k1 k2 LI ha ?_;refine wpAny_bind (wpAny_pure (wpAny_bind (wpAny_pure (wpAny_bind (L0.at (wpAny_bind (LF.at ?_)))))));show wpAny _ _ (holding [.builtin "object.__class__"] (call (.builtin "getset_descriptor.__get__") [.builtin "object.__class__",.ref a,.ref C]) >>= ret) _ _ _;refine wpAny_bind (wpAny_holding (wpAny_call (xc_get X k h0 ?_)));exact wpAny_pure (handed_on rfl (wpAny_pure h))
open PySem.W in
theorem kitx_exc(k:ExcK K C):KitX K (.ref a) (.ref C) (fun h=>∃o,h.get? a=some o/\o.cls=.ref C) where
 ty:=fun _ _ _ p=>by
  obtain⟨o,ho,hc⟩:=p;exact hc▸(Looks.ld ho).andThen .now
 it:=fun _ _ X _=>by
  obtain⟨cd,hcd⟩:=k.cd;unfold clsIn at hcd;split at hcd
  ·rename_i c' d' cd' sl' ho;intro A' Q' E' s' kk q;unfold isType loadHead;exact(wpAny_bind (wpAny_loadPart (kk _ _ (X _ _ ho)) (wpAny_pure q)))
  ·cases hcd
 ne:=fun h tp dd its n sl X hq0=>by
  obtain⟨cd,hcd⟩:=k.cd;refine(yan.mpr fun q=>?_)
  have e:C=tp:=Value.ref.inj (beq_iff_eq.mp q);subst e;unfold clsIn at hcd;split at hcd
  ·rename_i c' d' cd' sl' ho;have z:=(X _ _ ho).symm.trans hq0;cases z
  ·cases hcd
 ca:=fun X p kk=>xc_attr X k p kk
theorem kit_own{D:Addr}{b:Bool}(k:ExcK K C)(kd:ExcK K D)(hs:PySem.W.subIn K (.ref C) (.ref D)=some b):PySem.W.kitOne K (.ref C) (.ref D)=some b:=by
 unfold PySem.W.kitOne;split
 ·rename_i q;have e:C=D:=Value.ref.inj (beq_iff_eq.mp q);subst e;exact k.self.symm.trans hs
 ·unfold PySem.W.kitCls;obtain⟨cd,hcd⟩:=kd.cd;show(if _ then PySem.W.subIn K (.ref C) (.ref D) else none)=some b
  rw[if_pos (by rw[hcd,kd.ty];rfl)]
  exact hs
end
def clsV:V->Value
 |.ref C=>.ref C
 |.ty T=>.type T
 |_=>.none
section
variable {X:Cx}
theorem call_isX:zca X (.builtin "isinstance") (fun xs H Q=>∃a C c b,xs=[.ref a,c]/\H a=some (ExcO a C)/\ExcK X.K C/\(∃D,c=.ref D\/∃T,c=.ty T)/\PySem.W.kitOne X.K (.ref C) (clsV c)=some b/\Q (.bl b) H):=by
 intro pins s σ H xs us Q I r h;obtain⟨a,C,c,b,rfl,ho,k,hc,e,q⟩:=h;obtain⟨u,w',rfl,rx,ry⟩:=vals2 r;cases rx
 have hv:w'=clsV c:=by
  obtain⟨D,hc|⟨T,hc⟩⟩:=hc
  ·subst hc;exact ry
  ·subst hc;exact ry
 subst hv;have p0:∃o,s.heap.get? a=some o/\o.cls=.ref C:=(I.hok a _ ho).1;exact yb4 (kitx_exc k) I.kIn p0 e (fun z=>nomatch z) fun tk=>⟨.bl b,H,I.tok _,rfl,q⟩
end
abbrev cxTry(X:Cx)(pins:List (Addr×Obj))(xe:Value->Shared->Prop):Cx:={ X with pn:=X.pn++pins,xe:=xe }
abbrev zia(X:Cx)(a:Addr):Cx:={ X with A:=X.A.mark (some (.ref a)),calm:=false,xe:=fun _ _=>False }
section
variable {X:Cx}{pins:List (Addr×Obj)}{σ:L2.St}{H:Hp}{s:Shared}{xe:Value->Shared->Prop}
theorem ok_try(ok:X.Ok):(cxTry X pins xe).Ok:=⟨ok.mod,ok.kind,ok.glob,ok.blt,ok.above,ok.inj,ok.has,ok.cab,ok.hd,ok.frames,ok.stk,ok.exf,ok.bs,ok.bsz,ok.noex,ok.exfs,ok.funs,ok.frf⟩
theorem ok_suite{a:Addr}(ok:X.Ok):(zia X a).Ok:=⟨ok.mod,ok.kind,ok.glob,ok.blt,ok.above,ok.inj,ok.has,ok.cab,fun z=>Bool.noConfusion z,ok.frames,ok.stk,ok.exf,ok.bs,ok.bsz,ok.noex,ok.exfs,ok.funs,ok.frf⟩
theorem in_try(I:Inv X pins σ H s):Inv (cxTry X pins xe) [] σ H s:=⟨ok_try I.ok,I.os,I.bare,I.base,I.loc,I.cell,I.free,I.freeC,fun p hp=>I.pin p (by simpa using hp),I.hok,I.len⟩
theorem of_try{ok:X.Ok}{pn2:List (Addr×Obj)}(I:Inv (cxTry X pins xe) pn2 σ H s):Inv X pins σ H s:=⟨ok,I.os,I.bare,I.base,I.loc,I.cell,I.free,I.freeC,fun p hp=>I.pin p (ybf _ hp),I.hok,I.len⟩
theorem in_suite{a:Addr}(I:Inv X pins σ H s):Inv (zia X a) pins σ H s:=⟨ok_suite I.ok,I.os,I.bare,I.base,I.loc,I.cell,I.free,I.freeC,I.pin,I.hok,I.len⟩
theorem zj8{a:Addr}(ok:X.Ok)(I:Inv (zia X a) pins σ H s):Inv X pins σ H s:=⟨ok,I.os,I.bare,I.base,I.loc,I.cell,I.free,I.freeC,I.pin,I.hok,I.len⟩
end
section
variable {A:Around}{E:Value->Shared->Prop}{M:Model}
theorem exm{h:Heap}{g:Array GenState}{d:Drawn}{t:Nat}{os:OsState}{a C W N:Addr}{oe:Obj}{Q:Bool->Shared->Prop}{nm q:Str}{bs bm:List Value}{hdct:Bool}{sn:List Str}{sub:List Value}{ab:Bool}{col:Option Bool}{dd:Option Addr}
  {k0 k1 k2 k3 k5:Option Value} {newId:String} (hW:h.get? W=some (excClassObj nm q W N bs bm hdct sn sub ab col dd k0 k1 k2 k3 k5 newId)) (he:h.get? a=some oe) (hcls:oe.cls=.ref C) (hb:bm.contains (.type "BaseException")=true)
  (LS:PySem.W.Looks M h (isSubtype (.ref C) (.ref W)) true) (hq:Q true ⟨h,g,d,t,os⟩):wpAny M A (excMatches (.ref a) (.ref W)) Q E ⟨h,g,d,t,os⟩:=by
 have hcB:(Value.ref W::bm).contains (.type "BaseException")=true:=by
  rw[yd6,hb];exact ydd _
 have f:=tc_notTuple;unfold excMatches
 repeat (first|(with_reducible refine wpAny_loadPart_at he ?_;rw[hcls])|with_reducible refine wpAny_loadPart_at hW ?_|(with_reducible refine wpAny_isSubtype_exc hW ?_;rw[hcB])|with_reducible refine PySem.W.Looks.at LS ?_|wp_step)
 exact hq
end
section
variable {X:Cx}{i:Nat}{x n:Str}{np pos hpos:Pos}{body suite:List Stmt}{b₀:Stmt}{tb th:TS}{E:L2.St->XK}
end
end Zx
namespace Pu
open PySem PySem.Spec PyProof.Rows L2 Zw Zx
abbrev Rg:=Addr->Prop
def R0:Rg:=fun _=>False
inductive Kd where
 |lst|rl|tup|rt|pin (p:Addr)
inductive Ob where
 |ins (C:Addr) (fs:List Str)|exn (C:Addr)|sdc (ks:List Str)
inductive T where
 |non|bl (b:Bool)|int (i:Int)|str (x:Str)|nd (o:Bool) (k:Kd) (l:List T)|dic (ks:List Int) (l:List T)|pdc (ks:List Int) (l:List T)|odc (ks:List Int) (l:List T)
 |obj (k:Ob) (l:List T)|oob (p C:Addr) (fs:List Str) (l:List T)|osd (ks:List Str) (l:List T)
abbrev T.lst(l:List T):T:=.nd false .lst l
abbrev T.own(l:List T):T:=.nd true .lst l
abbrev T.tup(l:List T):T:=.nd false .tup l
mutual
def T.share:T->T
 |.nd _ k l=>.nd false k (zb9 l)
 |.dic ks l=>.dic ks (zb9 l)
 |.pdc ks l=>.pdc ks (zb9 l)
 |.odc ks l=>.pdc ks (zb9 l)
 |.obj k l=>.obj k (zb9 l)
 |.oob _ C fs l=>.obj (.ins C fs) (zb9 l)
 |.osd ks l=>.obj (.sdc ks) (zb9 l)
 |.non=>.non
 |.bl b=>.bl b
 |.int i=>.int i
 |.str x=>.str x
def zb9:List T->List T
 |[]=>[]
 |t::r=>t.share::zb9 r
end
mutual
def T.sh:T->Bool
 |.nd o _ l=>!o && shL l
 |.dic _ l=>shL l
 |.pdc _ l=>shL l
 |.odc _ _=>false
 |.obj _ l=>shL l
 |.oob _ _ _ _=>false
 |.osd _ _=>false
 |.non=>true
 |.bl _=>true
 |.int _=>true
 |.str _=>true
def shL:List T->Bool
 |[]=>true
 |t::r=>t.sh && shL r
end
def T.flat:T->Bool
 |.nd _ _ _=>false
 |.dic _ _=>false
 |.pdc _ _=>false
 |.odc _ _=>false
 |.obj _ _=>false
 |.oob _ _ _ _=>false
 |.osd _ _=>false
 |_=>true
theorem zbd:∀l:List T,zb9 l=l.map T.share
 |[]=>rfl
 |t::r=>by rw[zb9,zbd r];rfl
theorem zb0:∀l:List T,shL l=l.all T.sh
 |[]=>rfl
 |t::r=>by rw[shL,zb0 r];rfl
mutual
theorem zat:∀t:T,t.sh=true->t.share=t
 |.nd o k l,h=>by
  rw[T.sh,ya2]at h;have ho:o=false:=by simpa using h.1
  subst ho;rw[T.share,za1 l h.2]
 |.dic ks l,h=>by
  rw[T.sh]at h;rw[T.share,za1 l h]
 |.pdc ks l,h=>by
  rw[T.sh]at h;rw[T.share,za1 l h]
 |.odc ks l,h=>by
  rw[T.sh]at h;cases h
 |.obj k l,h=>by
  rw[T.sh]at h;rw[T.share,za1 l h]
 |.oob p C fs l,h=>by
  rw[T.sh]at h;cases h
 |.osd ks l,h=>by
  rw[T.sh]at h;cases h
 |.non,_=>rfl
 |.bl _,_=>rfl
 |.int _,_=>rfl
 |.str _,_=>rfl
theorem za1:∀l:List T,shL l=true->zb9 l=l
 |[],_=>rfl
 |t::r,h=>by
  rw[shL,ya2]at h;rw[zb9,zat t h.1,za1 r h.2]
end
theorem shL_get{l:List T}(h:shL l=true){i:Nat}{t:T}(e:l[i]?=some t):t.sh=true:=by
 rw[zb0]at h;exact yag.mp h _ (ybv e)
def zlk(K:PySem.W.Frag)(F:Hp)(k:Kd)(p:Addr)(xs:List V):Prop:=match k with
 |.lst=>F p=some (.lst xs)
 |.rl=>SqL K F p xs
 |.tup=>F p=some (.tup xs)
 |.rt=>SqT K F p xs
 |.pin _=>F p=some (.lst xs)
theorem zd4{K:PySem.W.Frag}{F F':Hp}{p:Addr}{xs:List V}(s:zbs F F')(h:SqT K F p xs):SqT K F' p xs:=by
 rcases h with (h|⟨o,h⟩)|h
 ·exact .inl (.inl (s _ _ h))
 ·exact .inl (.inr ⟨o,s _ _ h⟩)
 ·exact .inr h
theorem zlk.same{K:PySem.W.Frag}{F F':Hp}{k:Kd}{p:Addr}{xs:List V}(h:zlk K F k p xs)(s:zbs F F'):zlk K F' k p xs:=by
 cases k with
 |lst=>exact s _ _ h
 |rl=>exact s.seq h
 |tup=>exact s _ _ h
 |rt=>exact zd4 s h
 |pin q=>exact s _ _ h
def OwnK(k:Kd)(p:Addr):Prop:=match k with
 |.lst=>True
 |.pin q=>q=p
 |_=>False
theorem OwnK.node{K:PySem.W.Frag}{F:Hp}{k:Kd}{p:Addr}{xs:List V}(hk:OwnK k p)(h:F p=some (.lst xs)):zlk K F k p xs:=by
 cases k with
 |lst=>exact h
 |pin q=>exact h
 |_=>exact hk.elim
def kvK(ks:List Int)(xs:List V):List (Key×V):=List.zipWith (fun k x=>(Sum.inl k,x)) ks xs
def kvS(ks:List Str)(xs:List V):List (Key×V):=List.zipWith (fun k x=>(Sum.inr k,x)) ks xs
def ObS(F:Hp)(k:Ob)(p:Addr)(xs:List V):Prop:=match k with
 |.ins C fs=>∃dx,F p=some (.ins C dx (fs.zip xs))
 |.exn C=>F p=some (ExcO p C)
 |.sdc ks=>ks.length=xs.length/\F p=some (.dK (kvS ks xs))
theorem ObS.same{F F':Hp}{k:Ob}{p:Addr}{xs:List V}(h:ObS F k p xs)(s:zbs F F'):ObS F' k p xs:=by
 cases k with
 |ins C fs=>exact h.elim fun dx e=>⟨dx,s _ _ e⟩
 |exn C=>exact s _ _ h
 |sdc ks=>exact⟨h.1,s _ _ h.2⟩
inductive Rp(K:PySem.W.Frag)(F H:Hp):T->V->Rg->Prop where
 |non:Rp K F H .non .non R0
 |bl (b:Bool):Rp K F H (.bl b) (.bl b) R0
 |int (i:Int):Rp K F H (.int i) (.int i) R0
 |str (x:Str):Rp K F H (.str x) (.str x) R0
 |shr {k:Kd} {p:Addr} {xs:List V} {l:List T} (h:zlk K F k p xs) (e:l.length=xs.length) (c:∀(i:Nat) (t:T) (x:V),l[i]?=some t->xs[i]?=some x->Rp K F H t x R0):Rp K F H (.nd false k l) (.ref p) R0
 |dic {p:Addr} {ob:Obj} {ks:List Int} {xs:List V} {l:List T} (h:F p=some (.frz ob (.dK (kvK ks xs)))) (e:l.length=xs.length) (ek:ks.length=xs.length) (c:∀(i:Nat) (t:T) (x:V),l[i]?=some t->xs[i]?=some x->Rp K F H t x R0):Rp K F H (.dic ks l) (.ref p) R0
 |pdc {p:Addr} {ks:List Int} {xs:List V} {l:List T} (h:F p=some (.dK (kvK ks xs))) (e:l.length=xs.length) (ek:ks.length=xs.length) (c:∀(i:Nat) (t:T) (x:V),l[i]?=some t->xs[i]?=some x->Rp K F H t x R0):Rp K F H (.pdc ks l) (.ref p) R0
 |odc {p:Addr} {ks:List Int} {xs:List V} {l:List T} (f:F p=none) (h:H p=some (.dK (kvK ks xs))) (e:l.length=xs.length) (ek:ks.length=xs.length) (c:∀(i:Nat) (t:T) (x:V),l[i]?=some t->xs[i]?=some x->Rp K F H t x R0):Rp K F H (.odc ks l) (.ref p) (fun a=>a=p)
 |obj {k:Ob} {p:Addr} {xs:List V} {l:List T} (h:ObS F k p xs) (e:l.length=xs.length) (c:∀(i:Nat) (t:T) (x:V),l[i]?=some t->xs[i]?=some x->Rp K F H t x R0):Rp K F H (.obj k l) (.ref p) R0
 |oob {C p dx:Addr} {fs:List Str} {xs:List V} {l:List T} (R:Nat->Rg) (f:F p=none) (h:H p=some (.ins C dx (fs.zip xs))) (e:l.length=xs.length) (c:∀(i:Nat) (t:T) (x:V),l[i]?=some t->xs[i]?=some x->Rp K F H t x (R i))
   (d:∀i j a,i≠j->R i a->¬ R j a) (dp:∀i,¬ R i p) (o:∀i a,R i a->i<l.length):Rp K F H (.oob p C fs l) (.ref p) (fun a=>a=p\/∃i,R i a)
 |osd {p:Addr} {ks:List Str} {xs:List V} {l:List T} (f:F p=none) (h:H p=some (.dK (kvS ks xs))) (e:l.length=xs.length) (ek:ks.length=xs.length) (c:∀(i:Nat) (t:T) (x:V),l[i]?=some t->xs[i]?=some x->Rp K F H t x R0):Rp K F H (.osd ks l) (.ref p) (fun a=>a=p)
 |own {k:Kd} {p:Addr} {xs:List V} {l:List T} (hk:OwnK k p) (R:Nat->Rg) (f:F p=none) (h:H p=some (.lst xs)) (e:l.length=xs.length) (c:∀(i:Nat) (t:T) (x:V),l[i]?=some t->xs[i]?=some x->Rp K F H t x (R i))
   (d:∀i j a,i≠j->R i a->¬ R j a) (dp:∀i,¬ R i p) (o:∀i a,R i a->i<l.length):Rp K F H (.nd true k l) (.ref p) (fun a=>a=p\/∃i,R i a)
section
variable {K:PySem.W.Frag}{F F' H H':Hp}{t:T}{x:V}{A:Rg}
theorem Rp.frame(h:Rp K F H t x A)(s:zbs F F')(k:∀a,A a->H' a=H a/\F' a=none):Rp K F' H' t x A:=by
 induction h with
 |non=>exact .non
 |bl b=>exact .bl b
 |int i=>exact .int i
 |str y=>exact .str y
 |shr h e c ih=>exact .shr (h.same s) e fun i t x h1 h2=>ih i t x h1 h2 fun a z=>z.elim
 |dic h e ek c ih=>exact .dic (s _ _ h) e ek fun i t x h1 h2=>ih i t x h1 h2 fun a z=>z.elim
 |pdc h e ek c ih=>exact .pdc (s _ _ h) e ek fun i t x h1 h2=>ih i t x h1 h2 fun a z=>z.elim
 |odc f h e ek c ih =>
  have q:=k _ rfl;exact .odc q.2 (q.1.trans h) e ek fun i t x h1 h2=>ih i t x h1 h2 fun a z=>z.elim
 |obj h e c ih=>exact .obj (h.same s) e fun i t x h1 h2=>ih i t x h1 h2 fun a z=>z.elim
 |oob R f h e c d dp o ih =>
  have q:=k _ (.inl rfl);exact .oob R q.2 (q.1.trans h) e (fun i t x h1 h2=>ih i t x h1 h2 fun a z=>k a (.inr ⟨i,z⟩)) d dp o
 |osd f h e ek c ih =>
  have q:=k _ rfl;exact .osd q.2 (q.1.trans h) e ek fun i t x h1 h2=>ih i t x h1 h2 fun a z=>z.elim
 |own hk R f h e c d dp o ih =>
  have q:=k _ (.inl rfl);exact .own hk R q.2 (q.1.trans h) e (fun i t x h1 h2=>ih i t x h1 h2 fun a z=>k a (.inr ⟨i,z⟩)) d dp o
theorem Rp.dom(h:Rp K F H t x A){a:Addr}(ha:A a):F a=none/\∃u,H a=some u:=by
 induction h with
 |non=>exact ha.elim
 |bl b=>exact ha.elim
 |int i=>exact ha.elim
 |str y=>exact ha.elim
 |shr h e c ih=>exact ha.elim
 |dic h e ek c ih=>exact ha.elim
 |pdc h e ek c ih=>exact ha.elim
 |odc f h e ek c ih =>
  cases ha;exact⟨f,_,h⟩
 |obj h e c ih=>exact ha.elim
 |osd f h e ek c ih =>
  cases ha;exact⟨f,_,h⟩
 |@oob C p dx fs xs l R f h e c d dp o ih =>
  rcases ha with rfl|⟨i,z⟩
  ·exact⟨f,_,h⟩
  ·have hi:=o i a z;have hx:i<xs.length:=by omega
   exact ih i _ _ (ya0 hi) (ya0 hx) z
 |@own k0 p xs l hk R f h e c d dp o ih =>
  rcases ha with rfl|⟨i,z⟩
  ·exact⟨f,_,h⟩
  ·have hi:=o i a z;have hx:i<xs.length:=by omega
   exact ih i _ _ (ya0 hi) (ya0 hx) z
theorem Rp.share(h:Rp K F H t x A)(s:zbs F F')(k:∀a u,A a->H a=some u->F' a=some u):Rp K F' H' t.share x R0:=by
 induction h with
 |non=>exact .non
 |bl b=>exact .bl b
 |int i=>exact .int i
 |str y=>exact .str y
 |@shr k0 p xs l h e c ih =>
  rw[T.share,zbd];refine .shr (h.same s) (by rw[ya1];exact e) fun i t x h1 h2=>?_
  rw[ya5]at h1;obtain⟨t0,e0,rfl⟩:=ya3.mp h1;exact ih i t0 x e0 h2 fun a u z=>z.elim
 |@dic p ob ks xs l h e ek c ih =>
  rw[T.share,zbd];refine .dic (s _ _ h) (by rw[ya1];exact e) ek fun i t x h1 h2=>?_
  rw[ya5]at h1;obtain⟨t0,e0,rfl⟩:=ya3.mp h1;exact ih i t0 x e0 h2 fun a u z=>z.elim
 |@pdc p ks xs l h e ek c ih =>
  rw[T.share,zbd];refine .pdc (s _ _ h) (by rw[ya1];exact e) ek fun i t x h1 h2=>?_
  rw[ya5]at h1;obtain⟨t0,e0,rfl⟩:=ya3.mp h1;exact ih i t0 x e0 h2 fun a u z=>z.elim
 |@odc p ks xs l f h e ek c ih =>
  rw[T.share,zbd];refine .pdc (k _ _ rfl h) (by rw[ya1];exact e) ek fun i t x h1 h2=>?_
  rw[ya5]at h1;obtain⟨t0,e0,rfl⟩:=ya3.mp h1;exact ih i t0 x e0 h2 fun a u z=>z.elim
 |@obj k0 p xs l h e c ih =>
  rw[T.share,zbd];refine .obj (h.same s) (by rw[ya1];exact e) fun i t x h1 h2=>?_
  rw[ya5]at h1;obtain⟨t0,e0,rfl⟩:=ya3.mp h1;exact ih i t0 x e0 h2 fun a u z=>z.elim
 |@oob C p dx fs xs l R f h e c d dp o ih =>
  rw[T.share,zbd];refine .obj (k:=.ins C fs) (xs:=xs) ⟨dx,k _ _ (.inl rfl) h⟩ (by rw[ya1];exact e) fun i t x h1 h2=>?_
  rw[ya5]at h1;obtain⟨t0,e0,rfl⟩:=ya3.mp h1;exact ih i t0 x e0 h2 fun a u z=>k a u (.inr ⟨i,z⟩)
 |@osd p ks xs l f h e ek c ih =>
  rw[T.share,zbd];refine .obj (k:=.sdc ks) (xs:=xs) ⟨ek,k _ _ rfl h⟩ (by rw[ya1];exact e) fun i t x h1 h2=>?_
  rw[ya5]at h1;obtain⟨t0,e0,rfl⟩:=ya3.mp h1;exact ih i t0 x e0 h2 fun a u z=>z.elim
 |@own k0 p xs l hk R f h e c d dp o ih =>
  rw[T.share,zbd];refine .shr (k:=k0) (xs:=xs) (hk.node (k _ _ (.inl rfl) h)) (by rw[ya1];exact e) fun i t x h1 h2=>?_
  rw[ya5]at h1;obtain⟨t0,e0,rfl⟩:=ya3.mp h1;exact ih i t0 x e0 h2 fun a u z=>k a u (.inr ⟨i,z⟩)
theorem Rp.r0(h:Rp K F H t x A)(s:t.sh=true):A=R0:=by
 cases h with
 |own hk R f h e c d dp o =>
  rw[T.sh]at s;cases s
 |odc f h e ek c =>
  rw[T.sh]at s;cases s
 |oob R f h e c d dp o =>
  rw[T.sh]at s;cases s
 |osd f h e ek c =>
  rw[T.sh]at s;cases s
 |_=>rfl
theorem Rp.move(h:Rp K F H t x A)(s:t.sh=true)(q:zbs F F'):Rp K F' H' t x R0:=by
 have e:=h.r0 s;subst e;exact h.frame q fun a z=>z.elim
theorem Rp.flat_any(h:Rp K F H t x A)(s:t.flat=true):Rp K F' H' t x R0:=by
 cases h with
 |non=>exact .non
 |bl b=>exact .bl b
 |int i=>exact .int i
 |str y=>exact .str y
 |shr h e c=>cases s
 |dic h e ek c=>cases s
 |pdc h e ek c=>cases s
 |odc f h e ek c=>cases s
 |obj h e c=>cases s
 |oob R f h e c d dp o=>cases s
 |osd f h e ek c=>cases s
 |own hk R f h e c d dp o=>cases s
theorem Rp.int_inv{i:Int}(h:Rp K F H (.int i) x A):x=.int i:=by cases h;rfl
theorem Rp.bl_inv{b:Bool}(h:Rp K F H (.bl b) x A):x=.bl b:=by cases h;rfl
theorem Rp.non_inv(h:Rp K F H .non x A):x=.non:=by cases h;rfl
theorem Rp.str_inv{y:Str}(h:Rp K F H (.str y) x A):x=.str y:=by cases h;rfl
end
def Rps(K:PySem.W.Frag)(F:Hp)(ts:List T)(xs:List V):Prop:=ts.length=xs.length/\∀(i:Nat) (t:T) (x:V),ts[i]?=some t->xs[i]?=some x->Rp K F F t x R0
theorem Rps.nil{K:PySem.W.Frag}{F:Hp}:Rps K F [] []:=⟨rfl,fun i t x h=>by simp at h⟩
theorem Rp.any{K:PySem.W.Frag}{F H H':Hp}{t:T}{x:V}(h:Rp K F H t x R0):Rp K F H' t x R0:=h.frame (zbs.refl F) fun a z=>z.elim
theorem Rps.cons{K:PySem.W.Frag}{F H:Hp}{t:T}{x:V}{ts:List T}{xs:List V}(h:Rp K F H t x R0)(r:Rps K F ts xs):Rps K F (t::ts) (x::xs):=by
 refine⟨by simp[r.1],fun i t' x' h1 h2=>?_⟩
 cases i with
 |zero =>
  simp at h1 h2;subst h1;subst h2;exact h.any
 |succ j=>exact r.2 j t' x' (by simpa using h1) (by simpa using h2)
theorem Rps.inv{K:PySem.W.Frag}{F:Hp}{t:T}{ts:List T}{xs:List V}(r:Rps K F (t::ts) xs):∃x xs',xs=x::xs'/\Rp K F F t x R0/\Rps K F ts xs':=by
 obtain⟨e,h⟩:=r;cases xs with
 |nil=>simp at e
 |cons x xs'=>exact⟨x,xs',rfl,h 0 t x rfl rfl,by simpa using e,fun i t' x' h1 h2=>h (i+1) t' x' (by simpa using h1) (by simpa using h2)⟩
theorem Rps.inv0{K:PySem.W.Frag}{F:Hp}{xs:List V}(r:Rps K F [] xs):xs=[]:=by
 obtain⟨e,h⟩:=r;cases xs with
 |nil=>rfl
 |cons x xs'=>simp at e
theorem Rps.same{K:PySem.W.Frag}{F F':Hp}{ts:List T}{xs:List V}(r:Rps K F ts xs)(s:zbs F F'):Rps K F' ts xs:=⟨r.1,fun i t x h1 h2=>((r.2 i t x h1 h2).frame (H':=F') s fun a z=>z.elim)⟩
theorem Rps.node{K:PySem.W.Frag}{F H:Hp}{k:Kd}{p:Addr}{l:List T}{A:Rg}(h:Rp K F H (.nd false k l) (.ref p) A):∃xs,zlk K F k p xs/\Rps K F l xs:=by
 cases h with
 |shr h e c=>exact⟨_,h,e,fun i t x h1 h2=>(c i t x h1 h2).any⟩
theorem Rp.ref_inv{K:PySem.W.Frag}{F H:Hp}{o:Bool}{k:Kd}{l:List T}{x:V}{A:Rg}(h:Rp K F H (.nd o k l) x A):∃p,x=.ref p:=by
 cases h with
 |shr h e c=>exact⟨_,rfl⟩
 |own hk R f h e c d dp o=>exact⟨_,rfl⟩
theorem Rps.of_node{K:PySem.W.Frag}{F H:Hp}{k:Kd}{p:Addr}{l:List T}{xs:List V}(h:zlk K F k p xs)(r:Rps K F l xs):Rp K F H (.nd false k l) (.ref p) R0:=.shr h r.1 fun i t x h1 h2=>(r.2 i t x h1 h2).any
structure Ext(F H F' H':Hp)(B:Rg):Prop where
 hh:zbs H H'
 ff:zbs F F'
 fh:zbs F' H'
 nb:∀b,B b->H b=none
 nf:∀b u,F' b=some u->F b=some u\/H b=none
theorem zbm{H H':Hp}(s:zbs H H'){b:Addr}(h:H' b=none):H b=none:=by
 cases e:H b with
 |none=>rfl
 |some u=>rw[s b u e]at h;cases h
section
variable {F H F1 H1 F2 H2:Hp}{B C:Rg}
theorem Ext.refl(s:zbs F H):Ext F H F H R0:=⟨.refl _,.refl _,s,fun _ z=>z.elim,fun _ _ e=>.inl e⟩
theorem Ext.trans(a:Ext F H F1 H1 B)(b:Ext F1 H1 F2 H2 C):Ext F H F2 H2 (fun x=>B x\/C x) where
 hh:=a.hh.trans b.hh
 ff:=a.ff.trans b.ff
 fh:=b.fh
 nb:=fun x z=>z.elim (a.nb x) fun z=>zbm a.hh (b.nb x z)
 nf:=fun x u e=>(b.nf x u e).elim (a.nf x u) fun z=>.inr (zbm a.hh z)
theorem Ext.mono(a:Ext F H F1 H1 B)(h:∀x,C x->B x):Ext F H F1 H1 C:=⟨a.hh,a.ff,a.fh,fun x z=>a.nb x (h x z),a.nf⟩
theorem Ext.trans0(a:Ext F H F1 H1 R0)(b:Ext F1 H1 F2 H2 C):Ext F H F2 H2 C:=(a.trans b).mono fun x z=>.inr z
open Classical in
noncomputable def frz(F H:Hp)(A:Rg):Hp:=fun b=>if A b then H b else F b
theorem zio{A:Rg}{b:Addr}(h:A b):frz F H A b=H b:=by unfold frz;rw[if_pos h]
theorem zf2{A:Rg}{b:Addr}(h:¬ A b):frz F H A b=F b:=by unfold frz;rw[if_neg h]
theorem zg5{A:Rg}(n:∀a,A a->F a=none):zbs F (frz F H A):=fun b u e=>by
 by_cases h:A b
 ·rw[n b h]at e;cases e
 ·rw[zf2 h];exact e
theorem zm6{A:Rg}(s:zbs F H):zbs (frz F H A) H:=fun b u e=>by
 by_cases h:A b
 ·rw[zio h]at e;exact e
 ·rw[zf2 h]at e;exact s b u e
theorem Ext.frz(a:Ext F H F1 H1 B)(n:∀b,B b->F1 b=none):Ext F H (frz F1 H1 B) H1 R0 where
 hh:=a.hh
 ff:=a.ff.trans (zg5 n)
 fh:=zm6 a.fh
 nb:=fun _ z=>z.elim
 nf:=fun b u e=>by
  by_cases h:B b
  ·exact .inr (a.nb b h)
  ·rw[zf2 h]at e;exact a.nf b u e
theorem Rp.ext{K:PySem.W.Frag}{t:T}{x:V}{A:Rg}(h:Rp K F H t x A)(a:Ext F H F1 H1 B):Rp K F1 H1 t x A:=h.frame a.ff fun b z=>by
 obtain⟨f,u,e⟩:=h.dom z;refine⟨(a.hh b u e).trans e.symm,?_⟩;cases q:F1 b with
 |none=>rfl
 |some u' =>
  rcases a.nf b u' q with z|z
  ·rw[f]at z;cases z
  ·rw[e]at z;cases z
theorem Rp.apart{K:PySem.W.Frag}{t:T}{x:V}{A:Rg}(h:Rp K F H t x A)(a:Ext F H F1 H1 B){b:Addr}(hb:B b):¬ A b:=fun z=>by
 obtain⟨f,u,e⟩:=h.dom z;rw[a.nb b hb]at e;cases e
theorem Ext.new{p:Addr}{o:HO}(s:zbs F H)(h:H p=none):Ext F H (upd F p o) (upd H p o) R0 where
 hh:=zj6 h o
 ff:=zj6 (zbm s h) o
 fh:=fun b u e=>by
  by_cases hb:b=p
  ·subst hb;rw[zay]at e ⊢;exact e
  ·rw[zam hb]at e ⊢;exact s b u e
 nb:=fun _ z=>z.elim
 nf:=fun b u e=>by
  by_cases hb:b=p
  ·subst hb;exact .inr h
  ·rw[zam hb]at e;exact .inl e
theorem Ext.newO{p:Addr}{o:HO}(s:zbs F H)(h:H p=none):Ext F H F (upd H p o) (fun a=>a=p) where
 hh:=zj6 h o
 ff:=.refl _
 fh:=fun b u e=>zj6 h o b u (s b u e)
 nb:=fun b z=>by rw[z];exact h
 nf:=fun b u e=>.inl e
end
abbrev PSt:=List (Option T)
structure StR(K:PySem.W.Frag)(F H:Hp)(σ:L2.St)(τ:PSt)(R:Nat->Rg):Prop where
 fh:zbs F H
 len:σ.length=τ.length
 rep:∀i t,τ[i]?=some (some t)->∃x,σ[i]?=some (some x)/\Rp K F H t x (R i)
 out:∀i a,R i a->∃t,τ[i]?=some (some t)
 dis:∀i j a,i≠j->R i a->¬ R j a
section
variable {K:PySem.W.Frag}{F H F1 H1:Hp}{σ:L2.St}{τ:PSt}{R:Nat->Rg}{B:Rg}
theorem StR.dom(h:StR K F H σ τ R){i:Nat}{a:Addr}(ha:R i a):F a=none/\∃u,H a=some u:=by
 obtain⟨t,e⟩:=h.out i a ha;obtain⟨x,_,r⟩:=h.rep i t e;exact r.dom ha
theorem StR.ext(h:StR K F H σ τ R)(a:Ext F H F1 H1 B):StR K F1 H1 σ τ R where
 fh:=a.fh
 len:=h.len
 rep:=fun i t e=>by
  obtain⟨x,e1,r⟩:=h.rep i t e;exact⟨x,e1,r.ext a⟩
 out:=h.out
 dis:=h.dis
theorem StR.apart(h:StR K F H σ τ R)(a:Ext F H F1 H1 B){b:Addr}(hb:B b)(i:Nat):¬ R i b:=fun z=>by
 obtain⟨f,u,e⟩:=h.dom z;rw[a.nb b hb]at e;cases e
end
end Pu
set_option Elab.async false
set_option linter.all false
set_option maxRecDepth 100000
namespace Pu
open PySem PySem.Spec PyProof.Rows L2 Zw Zx
def keyD:Key->PyData
 |.inl i=>.int i
 |.inr x=>.str x
mutual
def T.data:T->PyData
 |.non=>.none
 |.bl b=>.bool b
 |.int i=>.int i
 |.str x=>.str x
 |.nd _ .lst l=>.list (zc4 l)
 |.nd _ .rl l=>.list (zc4 l)
 |.nd _ .tup l=>.tuple (zc4 l)
 |.nd _ .rt l=>.tuple (zc4 l)
 |.nd _ (.pin _) l=>.list (zc4 l)
 |.dic ks l=>.dict ((ks.map PyData.int).zip (zc4 l))
 |.pdc ks l=>.dict ((ks.map PyData.int).zip (zc4 l))
 |.odc ks l=>.dict ((ks.map PyData.int).zip (zc4 l))
 |.obj _ _=>.none
 |.oob _ _ _ _=>.none
 |.osd _ _=>.none
def zc4:List T->List PyData
 |[]=>[]
 |t::r=>t.data::zc4 r
end
mutual
def T.pln:T->Bool
 |.nd _ _ l=>plnL l
 |.dic _ l=>plnL l
 |.pdc _ l=>plnL l
 |.odc _ l=>plnL l
 |.obj _ _=>false
 |.oob _ _ _ _=>false
 |.osd _ _=>false
 |.non=>true
 |.bl _=>true
 |.int _=>true
 |.str _=>true
def plnL:List T->Bool
 |[]=>true
 |t::r=>t.pln && plnL r
end
theorem zcl:∀{l:List T},plnL l=true->∀{i:Nat} {t:T},l[i]?=some t->t.pln=true
 |[],_,i,t,e=>by simp at e
 |a::r,h,i,t,e=>by
  rw[plnL,ya2]at h;cases i with
  |zero =>
   simp at e;subst e;exact h.1
  |succ i=>exact zcl h.2 (by simpa using e)
theorem zjo{h:Heap}:∀{l:List T} {us:List Value},l.length=us.length->(∀(i:Nat) (t:T) (u:Value),l[i]?=some t->us[i]?=some u->∃as,Reads h u t.data as)->∃as,ReadsAll h us (zc4 l) as
 |[],[],_,_=>⟨_,.nil⟩
 |[],_::_,e,_=>by simp at e
 |_::_,[],e,_=>by simp at e
 |t::l,u::us,e,f=>by
  obtain⟨a1,r1⟩:=f 0 t u rfl rfl;obtain⟨a2,r2⟩:=zjo (l:=l) (us:=us) (by simpa using e) fun i t' u' h1 h2=>f (i+1) t' u' (by simpa using h1) (by simpa using h2)
  exact⟨_,.cons r1 r2⟩
theorem zk2{P:Program}{w:World}{h:Heap}{k:Key}{v:Value}(e:(zbg P w).is k v=true):Reads h v (keyD k) []:=by
 rcases zb5 (show keyIs k v=true from e) with ⟨i,t,rfl,rfl⟩|⟨x,t,rfl,rfl⟩
 ·exact .int i t
 ·exact .str x t
theorem zgd{h:Heap}:∀(ks:List Int) (xs:List V) (l:List T) (vs:List (Key×Value)),KV (kvK ks xs) vs->l.length=xs.length->ks.length=xs.length->(∀(i:Nat) (t:T) (x:V),l[i]?=some t->xs[i]?=some x->∀{u:Value},RelV x u->∃as,Reads h u t.data as) ->
  ∃bs,PyProof.V.PairsRead h keyD vs ((ks.map PyData.int).zip (zc4 l)) bs
 |[],xs,l,vs,r,_,_,_=>by
  have r':Paired _ [] vs:=(show Paired _ (kvK [] xs) vs from r);cases r';exact⟨_,.nil⟩
 |k::ks,[],l,vs,r,_,ek,_=>by simp at ek
 |k::ks,x::xs,[],vs,r,e,_,_=>by simp at e
 |k::ks,x::xs,t::l,vs,r,e,ek,f=>by
  have r':Paired (fun(p:Key×V) (q:Key×Value)=>p.1=q.1/\RelV p.2 q.2) ((Sum.inl k,x)::kvK ks xs) vs:=r
  cases r' with
  |@cons _ q _ qs hd tl =>
   obtain⟨a1,r1⟩:=f 0 t x rfl rfl hd.2;obtain⟨a2,r2⟩:=zgd ks xs l qs tl (by simpa using e) (by simpa using ek) fun i t' x' h1 h2=>f (i+1) t' x' (by simpa using h1) (by simpa using h2)
   obtain⟨q1,q2⟩:=q;cases (show Sum.inl k=q1 from hd.1);exact⟨_,.cons r1 r2⟩
section
variable {X:Cx}{pins:List (Addr×Obj)}{σ:L2.St}{F H:Hp}{s:Shared}
theorem ze0(I:Inv X pins σ H s)(fh:zbs F H){t:T}{x:V}{A:Rg}(h:Rp X.K F H t x A)(hpl:t.pln=true):∀{u:Value},RelV x u->∃as,Reads s.heap u t.data as:=by
 have kids:∀{l:List T} {xs:List V} {its:List Value},zbl xs its->l.length=xs.length->(∀(i:Nat) (t:T) (x:V),l[i]?=some t->xs[i]?=some x->∀{u:Value},RelV x u->∃as,Reads s.heap u t.data as)->∃as,ReadsAll s.heap its (zc4 l) as:=by
  intro l xs its r e ih;refine zjo (e.trans r.length) fun i t u h1 h2=>?_
  have hi:i<xs.length:=by
   have:=(ya6.mp h1).1
   omega
  obtain⟨u',e1,r1⟩:=r.get (ya0 hi);rw[h2]at e1;cases e1;exact ih i t _ h1 (ya0 hi) r1
 have lsts:∀{p:Addr} {l:List T} {xs:List V},SqL X.K H p xs->l.length=xs.length->(∀(i:Nat) (t:T) (x:V),l[i]?=some t->xs[i]?=some x->∀{u:Value},RelV x u->∃as,Reads s.heap u t.data as)->∃as,Reads s.heap (.ref p) (.list (zc4 l)) as:=by
  intro p l xs hq e ih;obtain⟨its,r,⟨o,n,e1,e2,e3,e4⟩,_⟩:=I.list hq;obtain⟨as,ra⟩:=kids r e ih;exact⟨_,.list e1 e2 e4 (by simpa using ra)⟩
 have tups:∀{p:Addr} {l:List T} {xs:List V},SqT X.K H p xs->l.length=xs.length->(∀(i:Nat) (t:T) (x:V),l[i]?=some t->xs[i]?=some x->∀{u:Value},RelV x u->∃as,Reads s.heap u t.data as)->∃as,Reads s.heap (.ref p) (.tuple (zc4 l)) as:=by
  intro p l xs hq e ih;obtain⟨its,r,⟨o,e1,e2,n,e4⟩,_⟩:=I.tuple hq;obtain⟨as,ra⟩:=kids r e ih;exact⟨_,.tuple e1 e2 e4 (by simpa using ra)⟩
 induction h with
 |non=>intro u r;cases r;exact⟨_,.none⟩
 |bl b=>intro u r;cases r;exact⟨_,.bool b⟩
 |int i=>intro u r;obtain⟨t,rfl⟩:=r;exact⟨_,.int i t⟩
 |str y=>intro u r;obtain⟨t,rfl⟩:=r;exact⟨_,.str y t⟩
 |@shr k p xs l h e c ih =>
  intro u r;cases r;cases k with
  |lst=>exact lsts (SqL.of (fh _ _ h)) e fun i t x h1 h2=>ih i t x h1 h2 (zcl hpl h1)
  |rl=>exact lsts (fh.seq h) e fun i t x h1 h2=>ih i t x h1 h2 (zcl hpl h1)
  |tup=>exact tups (SqT.of (fh _ _ h)) e fun i t x h1 h2=>ih i t x h1 h2 (zcl hpl h1)
  |rt=>exact tups (zd4 fh h) e fun i t x h1 h2=>ih i t x h1 h2 (zcl hpl h1)
  |pin q=>exact lsts (SqL.of (fh _ _ h)) e fun i t x h1 h2=>ih i t x h1 h2 (zcl hpl h1)
 |@dic p ob ks xs l h e ek c ih =>
  intro u r;cases r;obtain⟨ho,z,hd,vs,rel,dd⟩:=(show zbx X.prog X.w H s.heap p (.frz ob (.dK (kvK ks xs))) from I.hok p _ (fh _ _ h));obtain⟨bs,pr⟩:=zgd ks xs l vs rel e ek fun i t x h1 h2=>ih i t x h1 h2 (zcl hpl h1)
  exact⟨_,ycj (fun k v q=>zk2 q) dd pr⟩
 |@pdc p ks xs l h e ek c ih =>
  intro u r;cases r;obtain⟨z,hd,vs,rel,dd⟩:=(show zbx X.prog X.w H s.heap p (.dK (kvK ks xs)) from I.hok p _ (fh _ _ h));obtain⟨bs,pr⟩:=zgd ks xs l vs rel e ek fun i t x h1 h2=>ih i t x h1 h2 (zcl hpl h1)
  exact⟨_,ycj (fun k v q=>zk2 q) dd pr⟩
 |@odc p ks xs l f h e ek c ih =>
  intro u r;cases r;obtain⟨z,hd,vs,rel,dd⟩:=(show zbx X.prog X.w H s.heap p (.dK (kvK ks xs)) from I.hok p _ h);obtain⟨bs,pr⟩:=zgd ks xs l vs rel e ek fun i t x h1 h2=>ih i t x h1 h2 (zcl hpl h1)
  exact⟨_,ycj (fun k v q=>zk2 q) dd pr⟩
 |obj h e c ih=>cases hpl
 |oob R f h e c d dp o ih=>cases hpl
 |osd f h e ek c ih=>cases hpl
 |@own k0 p xs l hk R f h e c d dp o ih =>
  intro u r;cases r;cases k0 with
  |lst=>exact lsts (SqL.of h) e fun i t x h1 h2=>ih i t x h1 h2 (zcl hpl h1)
  |pin q=>exact lsts (SqL.of h) e fun i t x h1 h2=>ih i t x h1 h2 (zcl hpl h1)
  |_=>exact hk.elim
end
def fitT(t:T):Bool:=t.pln && t.data.canLay0
def eqvT(t u:T):Bool:=PyData.eqv t.data u.data
def eqOk(t u:T):Bool:=fitT t && fitT u && decide (min t.data.depth u.data.depth<=60)
def eqT(t u:T):Option T:=if eqOk t u then some (.bl (eqvT t u)) else none
def neT(t u:T):Option T:=if eqOk t u then some (.bl (!eqvT t u)) else none
def inOk(t:T)(l:List T):Bool:=fitT t && (plnL l && PyData.canLayAll0 (zc4 l)) && decide (min (PyData.depthAll (zc4 l)) t.data.depth<=60)
def hasT(t:T)(l:List T):Bool:=(zc4 l).any fun y=>PyData.eqv y t.data
def inT(t c:T):Option T:=match c with
 |.nd _ _ l=>if inOk t l then some (.bl (hasT t l)) else none
 |_=>none
def zfu(t c:T):Option T:=match c with
 |.nd _ _ l=>if inOk t l then some (.bl (!hasT t l)) else none
 |_=>none
def zll(K:PySem.W.Frag)(F H:Hp)(v:T)(Q:VK):Prop:=∀F' H' z C,Ext F H F' H' C->Rp K F' H' v z C->Q z H'
def rT2(K:PySem.W.Frag)(g:T->T->Option T):R2:=fun x y H Q=>∃F t u v,zbs F H/\Rp K F F t x R0/\Rp K F F u y R0/\g t u=some v/\zll K F H v Q
def rT1(K:PySem.W.Frag)(g:T->Option T):V->Hp->VK->Prop:=fun x H Q=>∃F t v,zbs F H/\Rp K F F t x R0/\g t=some v/\zll K F H v Q
def rTn(K:PySem.W.Frag)(g:List T->Option T):List V->Hp->VK->Prop:=fun xs H Q=>∃F ts v,zbs F H/\Rps K F ts xs/\g ts=some v/\zll K F H v Q
section
variable {K:PySem.W.Frag}{F H:Hp}{Q:VK}
theorem zll.int{i:Int}(q:zll K F H (.int i) Q)(s:zbs F H):Q (.int i) H:=q F H _ _ (Ext.refl s) (.int i)
theorem zll.bl{b:Bool}(q:zll K F H (.bl b) Q)(s:zbs F H):Q (.bl b) H:=q F H _ _ (Ext.refl s) (.bl b)
theorem zll.str{x:Str}(q:zll K F H (.str x) Q)(s:zbs F H):Q (.str x) H:=q F H _ _ (Ext.refl s) (.str x)
theorem zll.non(q:zll K F H .non Q)(s:zbs F H):Q .non H:=q F H _ _ (Ext.refl s) .non
theorem zll.list{l:List T}{xs:List V}(q:zll K F H (.own l) Q)(s:zbs F H)(r:Rps K F l xs){p:Addr}(hp:H p=none):Q (.ref p) (upd H p (.lst xs)):=by
 refine q F (upd H p (.lst xs)) (.ref p) _ ((Ext.newO s hp).mono ?_) (.own (k:=.lst) (xs:=xs) trivial (fun _=>R0) (zbm s hp) zay r.1 (fun i t x h1 h2=>?_) (fun _ _ _ _ z=>z.elim) (fun _ z=>z) (fun _ _ z=>z.elim))
 ·rintro a (z|⟨i,z⟩)
  ·exact z
  ·exact z.elim
 ·exact(r.2 i t x h1 h2).any
theorem zll.tuple{l:List T}{xs:List V}(q:zll K F H (.tup l) Q)(s:zbs F H)(r:Rps K F l xs){p:Addr}(hp:H p=none):Q (.ref p) (upd H p (.tup xs)):=by
 have e:=Ext.new (o:=.tup xs) s hp;exact q _ _ _ _ e (Rps.of_node (k:=.tup) zay (r.same e.ff))
theorem zll.same{t:T}{x:V}(q:zll K F H t Q)(s:zbs F H)(r:Rp K F F t x R0):Q x H:=q F H x _ (Ext.refl s) r.any
end
noncomputable def s64(i:Int):Bool:=@decide (-(2 ^ 64)<i/\i<2 ^ 64) (Classical.propDecidable _)
noncomputable def s70(i:Int):Bool:=@decide (-(10 ^ 70)<i/\i<10 ^ 70) (Classical.propDecidable _)
noncomputable def k63(k:Int):Bool:=@decide (k<2 ^ 63/\-(2 ^ 63)<=k) (Classical.propDecidable _)
noncomputable def zdx(i j:Int):Bool:=s64 i || s64 j || (s70 i && s70 j)
def lim:Nat:=16777216
def zeq:T->T->Option T
 |.int i,.int j=>some (.int (i+j))
 |.str x,.str y=>if x.length+y.length<=lim then some (.str (x++y)) else none
 |.nd _ .lst l,.nd _ .lst m=>if l.length+m.length<=lim then some (.own (l++m)) else none
 |_,_=>none
def subT:T->T->Option T
 |.int i,.int j=>some (.int (i - j))
 |_,_=>none
noncomputable def zlt:T->T->Option T
 |.int i,.int j=>if zdx i j then some (.int (i * j)) else none
 |.nd _ .lst l,.int k=>if k63 k=true/\l.length * k.toNat<=lim then some (.own (List.replicate k.toNat l).flatten) else none
 |_,_=>none
def zen:T->T->Option T
 |.int i,.int j=>if j≠0 then some (.int (i.fmod j)) else none
 |_,_=>none
noncomputable def zd6:T->T->Option T
 |.int i,.int j=>if j≠0/\s70 j then some (.int (i.fdiv j)) else none
 |_,_=>none
noncomputable def powT:T->T->Option T
 |.int i,.int j=>if 0<=j/\j<=1000000/\s64 i then some (.int (i ^ j.toNat)) else none
 |_,_=>none
def borT:T->T->Option T
 |.int i,.int j=>some (.int (Builtin.bitOr i j))
 |_,_=>none
def bandT:T->T->Option T
 |.int i,.int j=>some (.int (Builtin.bitAnd i j))
 |_,_=>none
def cmpT(f:Int->Int->Bool):T->T->Option T
 |.int i,.int j=>some (.bl (f i j))
 |_,_=>none
def negT:T->Option T
 |.int i=>some (.int (-i))
 |_=>none
theorem s64_iff{i:Int}(h:s64 i=true):-(2 ^ 64)<i/\i<2 ^ 64:=@of_decide_eq_true _ (Classical.propDecidable _) h
theorem s70_iff{i:Int}(h:s70 i=true):Sm i:=@of_decide_eq_true _ (Classical.propDecidable _) h
theorem k63_iff{k:Int}(h:k63 k=true):k<2 ^ 63/\-(2 ^ 63)<=k:=@of_decide_eq_true _ (Classical.propDecidable _) h
theorem zfd:lim=sizeLine:=by rw[sizeLine_eq];rfl
theorem zga{K:PySem.W.Frag}{F:Hp}:∀{l m:List T} {xs ys:List V},Rps K F l xs->Rps K F m ys->Rps K F (l++m) (xs++ys)
 |[],m,xs,ys,r,q=>by rw[r.inv0];exact q
 |t::l,m,xs,ys,r,q=>by
  obtain⟨x,xs',rfl,r1,r2⟩:=r.inv;exact .cons r1 (zga r2 q)
theorem rps_rep{K:PySem.W.Frag}{F:Hp}{l:List T}{xs:List V}(r:Rps K F l xs):∀n:Nat,Rps K F (List.replicate n l).flatten (List.replicate n xs).flatten
 |0=>.nil
 |n+1=>by
  rw[ybd,ybd,ybt,ybt];exact zga r (rps_rep r n)
section
variable {X:Cx}
theorem zda{K:PySem.W.Frag}{F H:Hp}{o:Bool}{k:Kd}{l:List T}{x:V}(h:Rp K F H (.nd o k l) x R0):∃p xs,x=.ref p/\o=false/\zlk K F k p xs/\Rps K F l xs:=by
 generalize hA:R0=A at h;cases h with
 |shr h e c=>exact⟨_,_,rfl,rfl,h,e,fun i t x h1 h2=>(hA▸c i t x h1 h2).any⟩
 |@own k0 p xs l hk R f h e c d dp o =>
  exfalso
  have z:=congrFun hA p;have:R0 p:=by rw[z];exact .inl rfl
  exact this
theorem opT_add:OpR X (binaryOp .Add) (rT2 X.K zeq):=by
 intro pins s σ H x y v u Q I rx ry h;obtain⟨F,t1,t2,r,fh,r1,r2,e,q⟩:=h;unfold zeq at e;split at e
 ·cases e;rw[r1.int_inv]at rx;rw[r2.int_inv]at ry;exact op_add pins s σ H _ _ v u Q I rx ry ⟨_,_,rfl,rfl,q.int fh⟩
 ·split at e
  ·cases e;rename_i hz;rw[r1.str_inv]at rx;rw[r2.str_inv]at ry;exact op_add_str pins s σ H _ _ v u Q I rx ry ⟨_,_,rfl,rfl,by rw[<- zfd];exact hz,q.str fh⟩
  ·cases e
 ·split at e
  ·cases e;rename_i hz;obtain⟨p,xs,rfl,rfl,n1,k1⟩:=zda r1;obtain⟨p2,ys,rfl,rfl,n2,k2⟩:=zda r2;refine op_cat pins s σ H _ _ v u Q I rx ry ⟨p,p2,xs,ys,rfl,rfl,fh _ _ n1,fh _ _ n2,?_,fun a ha=>q.list fh (zga k1 k2) ha⟩
   rw[<- k1.1,<- k2.1,<- zfd];exact hz
  ·cases e
 ·cases e
theorem zgx{f:Value->Value->Sem Value}{C:Int->Int->Prop}{g:Int->Int->V}{gT:T->T->Option T}(ho:OpR X f (rI C g))(hg:∀t u v,gT t u=some v->∃i j,t=.int i/\u=.int j/\C i j/\((∃k,v=.int k/\g i j=.int k)\/∃k,v=.bl k/\g i j=.bl k)):OpR X f (rT2 X.K gT):=by
 intro pins s σ H x y v u Q I rx ry h;obtain⟨F,t1,t2,r,fh,r1,r2,e,q⟩:=h;obtain⟨i,j,rfl,rfl,hc,hv⟩:=hg _ _ _ e;rw[r1.int_inv]at rx;rw[r2.int_inv]at ry;refine ho pins s σ H _ _ v u Q I rx ry ⟨i,j,rfl,rfl,hc,?_⟩
 rcases hv with ⟨k,rfl,ek⟩|⟨k,rfl,ek⟩
 ·rw[ek];exact q.int fh
 ·rw[ek];exact q.bl fh
theorem OpR.weak{f:Value->Value->Sem Value}{r r':R2}(h:OpR X f r)(w:∀x y H Q,r' x y H Q->r x y H Q):OpR X f r':=fun pins s σ H x y v u Q I rx ry q=>h pins s σ H x y v u Q I rx ry (w x y H Q q)
theorem ri0{g:Int->Int->V}{f:Value->Value->Sem Value}(h:OpR X f (rI0 g)):OpR X f (rI (fun _ _=>True) g):=OpR.weak h fun x y H Q ⟨i,j,a,b,_,q⟩=>⟨i,j,a,b,q⟩
theorem opT_sub:OpR X (binaryOp .Sub) (rT2 X.K subT):=zgx (ri0 op_sub) fun t u v h=>by
 unfold subT at h;split at h
 ·cases h;exact⟨_,_,rfl,rfl,trivial,.inl ⟨_,rfl,rfl⟩⟩
 ·cases h
theorem opT_bor:OpR X (binaryOp .BitOr) (rT2 X.K borT):=zgx (ri0 op_or) fun t u v h=>by
 unfold borT at h;split at h
 ·cases h;exact⟨_,_,rfl,rfl,trivial,.inl ⟨_,rfl,rfl⟩⟩
 ·cases h
theorem opT_band:OpR X (binaryOp .BitAnd) (rT2 X.K bandT):=zgx (ri0 op_and) fun t u v h=>by
 unfold bandT at h;split at h
 ·cases h;exact⟨_,_,rfl,rfl,trivial,.inl ⟨_,rfl,rfl⟩⟩
 ·cases h
theorem opT_mod:OpR X (binaryOp .Mod) (rT2 X.K zen):=zgx op_modN fun t u v h=>by
 unfold zen at h;split at h
 ·split at h
  ·cases h;exact⟨_,_,rfl,rfl,by assumption,.inl ⟨_,rfl,rfl⟩⟩
  ·cases h
 ·cases h
theorem opT_fdiv:OpR X (binaryOp .FloorDiv) (rT2 X.K zd6):=zgx op_fdivL fun t u v h=>by
 unfold zd6 at h;split at h
 ·split at h
  ·cases h;rename_i hc;exact⟨_,_,rfl,rfl,⟨hc.1,s70_iff hc.2⟩,.inl ⟨_,rfl,rfl⟩⟩
  ·cases h
 ·cases h
theorem opT_pow:OpR X (binaryOp .Pow) (rT2 X.K powT):=zgx op_pow fun t u v h=>by
 unfold powT at h;split at h
 ·split at h
  ·cases h;rename_i hc;have q:=s64_iff hc.2.2;exact⟨_,_,rfl,rfl,⟨hc.1,hc.2.1,by omega⟩,.inl ⟨_,rfl,rfl⟩⟩
  ·cases h
 ·cases h
theorem opT_cmp{op:CmpOp}{g:Int->Int->Bool}(ho:OpR X (compareOp op) (rI0 fun i j=>.bl (g i j))):OpR X (compareOp op) (rT2 X.K (cmpT g)):=zgx (ri0 ho) fun t u v h=>by
 unfold cmpT at h;split at h
 ·cases h;exact⟨_,_,rfl,rfl,trivial,.inr ⟨_,rfl,rfl⟩⟩
 ·cases h
theorem opT_mul:OpR X (binaryOp .Mult) (rT2 X.K zlt):=by
 intro pins s σ H x y v u Q I rx ry h;obtain⟨F,t1,t2,r,fh,r1,r2,e,q⟩:=h;unfold zlt at e;split at e
 ·rename_i i j;split at e
  ·cases e;rename_i hc;rw[r1.int_inv]at rx;rw[r2.int_inv]at ry;unfold zdx at hc;rw[ybg,ybg,ya2]at hc
   rcases hc with (hc|hc)|hc
   ·exact op_mul pins s σ H _ _ v u Q I rx ry ⟨i,j,rfl,rfl,.inl (s64_iff hc),q.int fh⟩
   ·exact op_mul pins s σ H _ _ v u Q I rx ry ⟨i,j,rfl,rfl,.inr (s64_iff hc),q.int fh⟩
   ·exact op_mulS pins s σ H _ _ v u Q I rx ry ⟨i,j,rfl,rfl,⟨s70_iff hc.1,s70_iff hc.2⟩,q.int fh⟩
  ·cases e
 ·split at e
  ·cases e;rename_i hc;obtain⟨p,xs,rfl,rfl,n1,k1⟩:=zda r1;rw[r2.int_inv]at ry;refine op_rep pins s σ H _ _ v u Q I rx ry ⟨p,_,xs,rfl,rfl,fh _ _ n1,(k63_iff hc.1).2,(k63_iff hc.1).1,?_,fun a ha=>q.list fh (rps_rep k1 _) ha⟩
   rw[<- k1.1,<- zfd];exact hc.2
  ·cases e
 ·cases e
theorem unT_neg:UnR X (unaryOp .USub) (rT1 X.K negT):=by
 intro pins s σ H x v Q I rx h;obtain⟨F,t,r,fh,r1,e,q⟩:=h;unfold negT at e;split at e
 ·cases e;rw[r1.int_inv]at rx;exact un_neg pins s σ H _ v Q I rx ⟨_,rfl,q.int fh⟩
 ·cases e
theorem depth_le{A:Around}{n:Nat}(hu:A.units+64<cLine)(h:n<=60):A.units+n<cLine:=by omega
theorem opT_eq(hu:X.A.units+64<cLine):OpR X (compareOp .Eq) (rT2 X.K eqT):=by
 intro pins s σ H x y v u Q I rx ry h;obtain⟨F,t1,t2,r,fh,r1,r2,e,q⟩:=h;unfold eqT at e;split at e
 ·cases e;rename_i hc;unfold eqOk fitT at hc;rw[ya2,ya2,ya2,ya2,decide_eq_true_eq]at hc;obtain⟨a1,q1⟩:=ze0 I fh (r1.any) hc.1.1.1 rx;obtain⟨a2,q2⟩:=ze0 I fh (r2.any) hc.1.2.1 ry;exact SeqAt.compareEq_reads q1 q2 hc.1.1.2 hc.1.2.2 (depth_le hu hc.2) ⟨.bl _,H,I,rfl,q.bl fh⟩
 ·cases e
theorem opT_ne(hu:X.A.units+64<cLine):OpR X (compareOp .NotEq) (rT2 X.K neT):=by
 intro pins s σ H x y v u Q I rx ry h;obtain⟨F,t1,t2,r,fh,r1,r2,e,q⟩:=h;unfold neT at e;split at e
 ·cases e;rename_i hc;unfold eqOk fitT at hc;rw[ya2,ya2,ya2,ya2,decide_eq_true_eq]at hc;obtain⟨a1,q1⟩:=ze0 I fh (r1.any) hc.1.1.1 rx;obtain⟨a2,q2⟩:=ze0 I fh (r2.any) hc.1.2.1 ry;exact SeqAt.compareNe_reads q1 q2 hc.1.1.2 hc.1.2.2 (depth_le hu hc.2) ⟨.bl _,H,I,rfl,q.bl fh⟩
 ·cases e
theorem opT_in(hu:X.A.units+64<cLine):OpR X (compareOp .In) (rT2 X.K inT):=by
 intro pins s σ H x y v u Q I rx ry h;obtain⟨F,t1,t2,r,fh,r1,r2,e,q⟩:=h;unfold inT at e;split at e
 ·rename_i o k l;split at e
  ·cases e;rename_i hc;unfold inOk fitT at hc;rw[ya2,ya2,ya2,ya2,decide_eq_true_eq]at hc;obtain⟨a1,q1⟩:=ze0 I fh (r1.any) hc.1.1.1 rx;obtain⟨a2,q2⟩:=ze0 I fh (r2.any) (show(T.nd o k l).pln=true from hc.1.2.1) ry;have hd:X.A.units+1+min (PyData.depthAll (zc4 l)) t1.data.depth<cLine:=by omega
   cases k with
   |lst=>exact yd2 q2 q1 hc.1.2.2 hc.1.1.2 hd ⟨.bl _,H,I,rfl,q.bl fh⟩
   |rl=>exact yd2 q2 q1 hc.1.2.2 hc.1.1.2 hd ⟨.bl _,H,I,rfl,q.bl fh⟩
   |tup=>exact SeqAt.in_tuple_reads q2 q1 hc.1.2.2 hc.1.1.2 hd ⟨.bl _,H,I,rfl,q.bl fh⟩
   |rt=>exact SeqAt.in_tuple_reads q2 q1 hc.1.2.2 hc.1.1.2 hd ⟨.bl _,H,I,rfl,q.bl fh⟩
   |pin _=>exact yd2 q2 q1 hc.1.2.2 hc.1.1.2 hd ⟨.bl _,H,I,rfl,q.bl fh⟩
  ·cases e
 ·cases e
theorem opT_notIn(hu:X.A.units+64<cLine):OpR X (compareOp .NotIn) (rT2 X.K zfu):=by
 intro pins s σ H x y v u Q I rx ry h;obtain⟨F,t1,t2,r,fh,r1,r2,e,q⟩:=h;unfold zfu at e;split at e
 ·rename_i o k l;split at e
  ·cases e;rename_i hc;unfold inOk fitT at hc;rw[ya2,ya2,ya2,ya2,decide_eq_true_eq]at hc;obtain⟨a1,q1⟩:=ze0 I fh (r1.any) hc.1.1.1 rx;obtain⟨a2,q2⟩:=ze0 I fh (r2.any) (show(T.nd o k l).pln=true from hc.1.2.1) ry;have hd:X.A.units+1+min (PyData.depthAll (zc4 l)) t1.data.depth<cLine:=by omega
   cases k with
   |lst=>exact yck q2 q1 hc.1.2.2 hc.1.1.2 hd ⟨.bl _,H,I,rfl,q.bl fh⟩
   |rl=>exact yck q2 q1 hc.1.2.2 hc.1.1.2 hd ⟨.bl _,H,I,rfl,q.bl fh⟩
   |tup=>exact SeqAt.notIn_tuple_reads q2 q1 hc.1.2.2 hc.1.1.2 hd ⟨.bl _,H,I,rfl,q.bl fh⟩
   |rt=>exact SeqAt.notIn_tuple_reads q2 q1 hc.1.2.2 hc.1.1.2 hd ⟨.bl _,H,I,rfl,q.bl fh⟩
   |pin _=>exact yck q2 q1 hc.1.2.2 hc.1.1.2 hd ⟨.bl _,H,I,rfl,q.bl fh⟩
  ·cases e
 ·cases e
end
end Pu
set_option Elab.async false
set_option linter.all false
set_option maxRecDepth 100000
namespace Pu
open PySem PySem.Spec PyProof.Rows L2 Zw Zx
inductive Rs where
 |v (t:T) (b:Bool)|x (c:Str)
inductive RsL where
 |v (ts:List T) (b:Bool)|x (c:Str)
def tot(R:Nat->Rg):Rg:=fun a=>∃i,R i a
def Got(K:PySem.W.Frag)(F H:Hp)(R:Nat->Rg)(v:T)(b:Bool)(x:V)(B:Rg):Prop:=match b with
 |true=>B=R0/\∃A,(∀a,A a->tot R a)/\Rp K F H v x A
 |false=>Rp K F H v x B
noncomputable def Gz(b:Bool)(F H:Hp)(R:Nat->Rg):Hp:=match b with
 |true=>frz F H (tot R)
 |false=>F
section
variable {K:PySem.W.Frag}{F H F1 H1:Hp}{σ:L2.St}{τ:PSt}{R:Nat->Rg}{B:Rg}{b c:Bool}{v:T}{x:V}
theorem StR.tot(S:StR K F H σ τ R){a:Addr}(h:tot R a):F a=none/\∃u,H a=some u:=by
 obtain⟨i,z⟩:=h;exact S.dom z
theorem gz_ff(S:StR K F H σ τ R):zbs F (Gz b F H R):=by
 cases b with
 |true=>exact zg5 fun a z=>(S.tot z).1
 |false=>exact .refl _
theorem gz_fh(S:StR K F H σ τ R):zbs (Gz b F H R) H:=by
 cases b with
 |true=>exact zm6 S.fh
 |false=>exact S.fh
theorem gz_mono(S:StR K F H σ τ R)(e:Ext F H F1 H1 B)(h:b=true->c=true):zbs (Gz b F H R) (Gz c F1 H1 R):=by
 have S1:=S.ext e;cases b with
 |false=>exact e.ff.trans (gz_ff S1)
 |true =>
  rw[h rfl];intro a u q;show frz F1 H1 (Pu.tot R) a=some u
  by_cases z:Pu.tot R a
  ·rw[zio z];have q':frz F H (Pu.tot R) a=some u:=q;rw[zio z]at q';exact e.hh _ _ q'
  ·rw[zf2 z];have q':frz F H (Pu.tot R) a=some u:=q;rw[zf2 z]at q';exact e.ff _ _ q'
theorem Got.frz(S:StR K F H σ τ R)(e:Ext F H F1 H1 B)(g:Got K F1 H1 R v b x B):∃F2,Ext F H F2 H1 R0/\zbs F1 F2/\Rp K (Gz b F2 H1 R) (Gz b F2 H1 R) v.share x R0:=by
 have S1:=S.ext e;cases b with
 |true =>
  obtain⟨rfl,A,hA,r⟩:=g
  exact⟨F1,e,.refl _,r.share (gz_ff (b:=true) S1) fun a u z q=>by
   show Pu.frz F1 H1 (Pu.tot R) a=some u;rw[zio (hA a z)];exact q⟩
 |false =>
  have g':Rp K F1 H1 v x B:=g;have n:∀a,B a->F1 a=none:=fun a z=>(g'.dom z).1
  exact⟨_,e.frz n,zg5 n,g'.share (zg5 n) fun a u z q=>by
   show Pu.frz F1 H1 B a=some u;rw[zio z];exact q⟩
theorem Ext.grow{H2:Hp}(e:Ext F H F1 H1 R0)(s:zbs H1 H2):Ext F H F1 H2 R0:=⟨e.hh.trans s,e.ff,e.fh.trans s,fun _ z=>z.elim,e.nf⟩
end
def tM(K:PySem.W.Frag)(E:L2.St->XK)(ca:Str->Value)(m:PSt->Option Rs):TE:=fun σ H Q=>∃F τ R,StR K F H σ τ R/\match m τ with
 |some (.v v b)=>∀F' H' x B,Ext F H F' H' B->Got K F' H' R v b x B->Q x H'
 |some (.x c)=>∀F' H',Ext F H F' H' R0->E σ (ca c) none H'
 |none=>False
def tMs(K:PySem.W.Frag)(E:L2.St->XK)(ca:Str->Value)(m:PSt->Option RsL):TA:=fun σ H Q=>∃F τ R,StR K F H σ τ R/\match m τ with
 |some (.v ts b)=>∀F' H' xs,Ext F H F' H' R0->Rps K (Gz b F' H' R) ts xs->Q xs H'
 |some (.x c)=>∀F' H',Ext F H F' H' R0->E σ (ca c) none H'
 |none=>False
def tMB(K:PySem.W.Frag)(E:L2.St->XK)(ca:Str->Value)(m:PSt->Option Rs):TT:=fun σ H Q=>∃F τ R,StR K F H σ τ R/\match m τ with
 |some (.v (.bl c) _)=>∀F' H',Ext F H F' H' R0->Q c H'
 |some (.v _ _)=>False
 |some (.x c)=>∀F' H',Ext F H F' H' R0->E σ (ca c) none H'
 |none=>False
def za7(i:Nat):PSt->Option Rs:=fun τ=>match τ[i]? with
 |some (some t)=>some (.v t (!t.sh))
 |_=>none
def mC(t:T):PSt->Option Rs:=fun _=>some (.v t false)
def za6:PSt->Option RsL:=fun _=>some (.v [] false)
def za0(m:PSt->Option Rs)(ms:PSt->Option RsL):PSt->Option RsL:=fun τ=>match m τ with
 |some (.v t b)=>(match ms τ with
  |some (.v ts b')=>some (.v (t.share::ts) (b || b'))
  |r=>r)
 |some (.x c)=>some (.x c)
 |none=>none
def fin(b:Bool)(v:T):Option Rs:=if b && !v.flat then none else some (.v v false)
def mAp(g:List T->Option T)(ms:PSt->Option RsL):PSt->Option Rs:=fun τ=>match ms τ with
 |some (.v ts b)=>(match g ts with
  |some v=>fin b v
  |none=>none)
 |some (.x c)=>some (.x c)
 |none=>none
def g2(g:T->T->Option T):List T->Option T
 |[t,u]=>g t u
 |_=>none
def g1(g:T->Option T):List T->Option T
 |[t]=>g t
 |_=>none
def mIf(c:PSt->Option Rs)(a b:PSt->Option Rs):PSt->Option Rs:=fun τ=>match c τ with
 |some (.v (.bl true) _)=>a τ
 |some (.v (.bl false) _)=>b τ
 |some (.x c)=>some (.x c)
 |_=>none
def zfc(c:PSt->Option Rs):PSt->Option Rs:=fun τ=>match c τ with
 |some (.v (.bl b) _)=>some (.v (.bl (!b)) false)
 |some (.x c)=>some (.x c)
 |_=>none
def mAnd(a b:PSt->Option Rs):PSt->Option Rs:=mIf a b (mC (.bl false))
def mOr(a b:PSt->Option Rs):PSt->Option Rs:=mIf a (mC (.bl true)) b
section
variable {X:Cx}{E:L2.St->XK}{ca:Str->Value}{σ:L2.St}{H:Hp}{m ma mb mc:PSt->Option Rs}{ms:PSt->Option RsL}{K:PySem.W.Frag}{a b c e:Expr}{es:List Expr}{pos:Pos}
theorem PE.weak{t t':TE}(h:PE X e t)(w:∀σ H Q,t' σ H Q->t σ H Q):PE X e t':=fun pins s σ H Q I q=>h pins s σ H Q I (w σ H Q q)
theorem PT.weak{t t':TT}(h:PT X e t)(w:∀σ H Q,t' σ H Q->t σ H Q):PT X e t':=fun pins s σ H Q I q=>h pins s σ H Q I (w σ H Q q)
theorem PA.weak{t t':TA}(h:PA X es t)(w:∀σ H Q,t' σ H Q->t σ H Q):PA X es t':=fun pos pins s σ H Q I q=>h pos pins s σ H Q I (w σ H Q q)
theorem tM.mono{Q Q':VK}(h:tM K E ca m σ H Q)(w:∀x H',Q x H'->Q' x H'):tM K E ca m σ H Q':=by
 obtain⟨F,τ,R,S,q⟩:=h;refine⟨F,τ,R,S,?_⟩;cases hm:m τ with
 |none=>rw[hm]at q;exact q
 |some r =>
  rw[hm]at q;cases r with
  |v v b=>exact fun F' H' x B e g=>w _ _ (q F' H' x B e g)
  |x c=>exact q
theorem tMs.mono{Q Q':List V->Hp->Prop}(h:tMs K E ca ms σ H Q)(w:∀x H',Q x H'->Q' x H'):tMs K E ca ms σ H Q':=by
 obtain⟨F,τ,R,S,q⟩:=h;refine⟨F,τ,R,S,?_⟩;cases hm:ms τ with
 |none=>rw[hm]at q;exact q
 |some r =>
  rw[hm]at q;cases r with
  |v v b=>exact fun F' H' x e g=>w _ _ (q F' H' x e g)
  |x c=>exact q
theorem ze8{Q:List V->Hp->Prop}(h:tMs K E ca za6 σ H Q):Q [] H:=by
 obtain⟨F,τ,R,S,q⟩:=h;exact q F H [] (Ext.refl S.fh) .nil
theorem zd0{Q:List V->Hp->Prop}(h:tMs K E ca (za0 m ms) σ H Q):tM K E ca m σ H fun x H1=>tMs K E ca ms σ H1 fun xs H2=>Q (x::xs) H2:=by
 obtain⟨F,τ,R,S,q⟩:=h;refine⟨F,τ,R,S,?_⟩;unfold za0 at q;cases hm:m τ with
 |none=>rw[hm]at q;exact q
 |some r =>
  rw[hm]at q;cases r with
  |x c=>exact q
  |v t b =>
   intro F' H' x B e g;obtain⟨F2,e2,_,r2⟩:=Got.frz S e g;have S2:=S.ext e2;refine⟨F2,τ,R,S2,?_⟩;cases hs:ms τ with
   |none=>simp only[hs]at q
   |some r =>
    simp only[hs]at q;cases r with
    |x c=>exact fun F3 H3 e3=>q F3 H3 (e2.trans0 e3)
    |v ts b' =>
     intro F3 H3 xs e3 rs;refine q F3 H3 (x::xs) (e2.trans0 e3) ?_;refine .cons (H:=H3) ((r2.frame (gz_mono S2 e3 (by intro z;simp[z])) fun a z=>z.elim)) ?_
     cases b' with
     |true=>rw[ydd];exact rs
     |false =>
      rw[yc5];cases b with
      |false=>exact rs
      |true=>exact rs.same (gz_ff (b:=true) (S2.ext e3))
theorem tM_ap{g:List T->Option T}{Q:VK}(h:tM K E ca (mAp g ms) σ H Q):tMs K E ca ms σ H fun xs H1=>rTn K g xs H1 Q:=by
 obtain⟨F,τ,R,S,q⟩:=h;refine⟨F,τ,R,S,?_⟩;unfold mAp at q;cases hs:ms τ with
 |none=>simp only[hs]at q
 |some r =>
  simp only[hs]at q;cases r with
  |x c=>exact q
  |v ts b =>
   intro F1 H1 xs e1 rs;have S1:=S.ext e1;cases hg:g ts with
   |none=>simp only[hg]at q
   |some v =>
    simp only[hg]at q;refine⟨Gz b F1 H1 R,ts,v,gz_fh S1,rs,hg,fun F2 H2 z C e2 r2=>?_⟩
    unfold fin at q;cases b with
    |false=>exact q F2 H2 z C (e1.trans0 e2) r2
    |true =>
     cases hf:v.flat with
     |false =>
      rw[hf]at q;exact False.elim q
     |true =>
      rw[hf]at q;exact q F1 H2 z R0 (e1.grow e2.hh) (r2.flat_any hf)
theorem rTn2{g:T->T->Option T}{x y:V}{Q:VK}(h:rTn K (g2 g) [x,y] H Q):rT2 K g x y H Q:=by
 obtain⟨F,ts,v,fh,rs,e,q⟩:=h;unfold g2 at e;split at e
 ·obtain⟨x1,xs1,e1,r1,rs1⟩:=rs.inv;obtain⟨x2,xs2,e2,r2,rs2⟩:=rs1.inv;cases e1;cases e2;exact⟨F,_,_,v,fh,r1,r2,e,q⟩
 ·cases e
theorem rTn1{g:T->Option T}{x:V}{Q:VK}(h:rTn K (g1 g) [x] H Q):rT1 K g x H Q:=by
 obtain⟨F,ts,v,fh,rs,e,q⟩:=h;unfold g1 at e;split at e
 ·obtain⟨x1,xs1,e1,r1,rs1⟩:=rs.inv;cases e1;exact⟨F,_,v,fh,r1,e,q⟩
 ·cases e
theorem tM_op2{g:T->T->Option T}{Q:VK}(h:tM K E ca (mAp (g2 g) (za0 ma (za0 mb za6))) σ H Q):tOp (rT2 K g) (tM K E ca ma) (tM K E ca mb) σ H Q :=
 (zd0 (tM_ap h)).mono fun x H1 h1=>(zd0 h1).mono fun y H2 h2=>rTn2 (ze8 h2)
theorem tM_op1{g:T->Option T}{Q:VK}(h:tM K E ca (mAp (g1 g) (za0 ma za6)) σ H Q):tUn (rT1 K g) (tM K E ca ma) σ H Q :=
 (zd0 (tM_ap h)).mono fun x H1 h1=>rTn1 (ze8 h1)
theorem r_var{i:Nat}{x:Str}(hN:X.N[i]?=some x)(hv:Vis X.env.scope x)(hd:(x == ("__debug__":Str))=false)(hcd:(x == ("__classdict__":Str))=false):PE X (.Name x pos) (tM X.K E ca (za7 i)):=by
 refine PE.weak (zlp hN hv hd hcd) fun σ H Q h=>?_
 obtain⟨F,τ,R,S,q⟩:=h;unfold za7 at q;split at q
 ·rename_i t b hm;split at hm
  ·rename_i ht;cases hm;obtain⟨x,e,r⟩:=S.rep i t ht;refine⟨x,e,q F H x R0 (Ext.refl S.fh) ?_⟩;cases hs:t.sh with
   |true=>exact r.move hs (.refl _)
   |false=>exact⟨rfl,R i,fun a z=>⟨i,z⟩,r⟩
  ·cases hm
 ·rename_i c hm;split at hm<;>cases hm
 ·exact q.elim
theorem zhy{t:T}{v:V}(h:PE X e (tC v))(r:∀F H,Rp X.K F H t v R0):PE X e (tM X.K E ca (mC t)):=PE.weak h fun σ H Q h=>by
 obtain⟨F,τ,R,S,q⟩:=h;exact q F H v R0 (Ext.refl S.fh) (r _ _)
theorem r_nil:PA X [] (tMs X.K E ca za6):=PA.weak zfb fun σ H Q h=>ze8 h
theorem r_cons(ha:PE X e (tM X.K E ca m))(hr:PA X es (tMs X.K E ca ms))(hs:starEach (e::es) X.env=(false,eval e X.env)::starEach es X.env):PA X (e::es) (tMs X.K E ca (za0 m ms)) :=
 PA.weak (zbw ha hr hs) fun σ H Q h=>zd0 h
theorem r_bin{op:Operator}{g:T->T->Option T}(ho:OpR X (binaryOp op) (rT2 X.K g))(ha:PE X a (tM X.K E ca ma))(hb:PE X b (tM X.K E ca mb)):PE X (.BinOp a op b pos) (tM X.K E ca (mAp (g2 g) (za0 ma (za0 mb za6)))) :=
 PE.weak (pe_op ho ha hb) fun σ H Q h=>tM_op2 h
theorem r_un{op:UnaryOp}{g:T->Option T}(ho:UnR X (unaryOp op) (rT1 X.K g))(ha:PE X a (tM X.K E ca ma)):PE X (.UnaryOp op a pos) (tM X.K E ca (mAp (g1 g) (za0 ma za6))) :=
 PE.weak (pe_un ho ha) fun σ H Q h=>tM_op1 h
theorem r_cmp{op:CmpOp}{g:T->T->Option T}(ho:OpR X (compareOp op) (rT2 X.K g))(ha:PE X a (tM X.K E ca ma))(hb:PE X b (tM X.K E ca mb))(hm:behindInMarks op b=false):PE X (.Compare a [op] [b] pos) (tM X.K E ca (mAp (g2 g) (za0 ma (za0 mb za6)))) :=
 PE.weak (pe_cmpR ho ha hb hm) fun σ H Q h=>tM_op2 h
theorem tMB_val{Q:Bool->Hp->Prop}(h:tMB K E ca m σ H Q):tM K E ca m σ H fun x H1=>∃k,x=.bl k/\Q k H1:=by
 obtain⟨F,τ,R,S,q⟩:=h;refine⟨F,τ,R,S,?_⟩;cases hm:m τ with
 |none=>rw[hm]at q;exact q
 |some r =>
  rw[hm]at q;cases r with
  |x c=>exact q
  |v v b =>
   cases v with
   |bl k =>
    intro F' H' x B e g
    have hx:x=.bl k:=by
     cases b with
     |true=>obtain⟨_,A,_,r⟩:=g;exact r.bl_inv
     |false=>exact(show Rp K F' H' _ _ _ from g).bl_inv
    exact⟨k,hx,q F' H' (e.mono fun _ z=>z.elim)⟩
   |_=>exact q.elim
theorem r_tcmp{op:CmpOp}{g:T->T->Option T}(ho:OpR X (compareOp op) (rT2 X.K g))(ha:PE X a (tM X.K E ca ma))(hb:PE X b (tM X.K E ca mb))(hm:behindInMarks op b=false):PT X (.Compare a [op] [b] pos) (tMB X.K E ca (mAp (g2 g) (za0 ma (za0 mb za6)))) :=
 PT.weak (pt_cmpR ho ha hb hm) fun σ H Q h=>tM_op2 (tMB_val h)
theorem r_tval(h:PE X e (tM X.K E ca m))(he:∀whole,isTrue e X.env whole=(do let v <- whole;standAt e.pos;holding [v] (truthy v))):PT X e (tMB X.K E ca m):=PT.weak (pt_val h he) fun σ H Q h=>tMB_val h
theorem tMB_if{Q:Bool->Hp->Prop}(h:tMB K E ca (mIf mc ma mb) σ H Q):tMB K E ca mc σ H fun k H1=>if k=true then tMB K E ca ma σ H1 Q else tMB K E ca mb σ H1 Q:=by
 obtain⟨F,τ,R,S,q⟩:=h;refine⟨F,τ,R,S,?_⟩;unfold mIf at q;cases hm:mc τ with
 |none=>simp only[hm]at q
 |some r =>
  simp only[hm]at q;cases r with
  |x c=>exact q
  |v v b =>
   cases v with
   |bl k =>
    intro F1 H1 e1;have S1:=S.ext e1
    have key:∀{mm:PSt->Option Rs},(match mm τ with
      |some (.v (.bl c) _)=>∀F' H',Ext F H F' H' R0->Q c H'
      |some (.v _ _)=>False
      |some (.x c)=>∀F' H',Ext F H F' H' R0->E σ (ca c) none H'
      |none=>False)->tMB K E ca mm σ H1 Q:=fun {mm} q=>by
     refine⟨F1,τ,R,S1,?_⟩;cases hr:mm τ with
     |none=>simp only[hr]at q
     |some r =>
      simp only[hr]at q;cases r with
      |x c=>exact fun F' H' e=>q F' H' (e1.trans0 e)
      |v v b =>
       cases v with
       |bl k=>exact fun F' H' e=>q F' H' (e1.trans0 e)
       |_=>exact q.elim
    cases k with
    |true=>exact iteT (key q)
    |false=>exact iteF (key q)
   |_=>exact q.elim
theorem tM_if{Q:VK}(h:tM K E ca (mIf mc ma mb) σ H Q):tMB K E ca mc σ H fun k H1=>if k=true then tM K E ca ma σ H1 Q else tM K E ca mb σ H1 Q:=by
 obtain⟨F,τ,R,S,q⟩:=h;refine⟨F,τ,R,S,?_⟩;unfold mIf at q;cases hm:mc τ with
 |none=>simp only[hm]at q
 |some r =>
  simp only[hm]at q;cases r with
  |x c=>exact q
  |v v b =>
   cases v with
   |bl k =>
    intro F1 H1 e1;have S1:=S.ext e1
    have key:∀{mm:PSt->Option Rs},(match mm τ with
      |some (.v v b)=>∀F' H' x B,Ext F H F' H' B->Got K F' H' R v b x B->Q x H'
      |some (.x c)=>∀F' H',Ext F H F' H' R0->E σ (ca c) none H'
      |none=>False)->tM K E ca mm σ H1 Q:=fun {mm} q=>by
     refine⟨F1,τ,R,S1,?_⟩;cases hr:mm τ with
     |none=>simp only[hr]at q
     |some r =>
      simp only[hr]at q;cases r with
      |x c=>exact fun F' H' e=>q F' H' (e1.trans0 e)
      |v v b=>exact fun F' H' x B e g=>q F' H' x B (e1.trans0 e) g
    cases k with
    |true=>exact iteT (key q)
    |false=>exact iteF (key q)
   |_=>exact q.elim
theorem r_ife(hc:PT X c (tMB X.K E ca mc))(ha:PE X a (tM X.K E ca ma))(hb:PE X b (tM X.K E ca mb)):PE X (.IfExp c a b pos) (tM X.K E ca (mIf mc ma mb)):=PE.weak (pe_ifExp hc ha hb) fun σ H Q h=>tM_if h
theorem tMB_not{Q:Bool->Hp->Prop}(h:tMB K E ca (zfc mc) σ H Q):tNot (tMB K E ca mc) σ H Q:=by
 obtain⟨F,τ,R,S,q⟩:=h;refine⟨F,τ,R,S,?_⟩;unfold zfc at q;cases hm:mc τ with
 |none=>simp only[hm]at q
 |some r =>
  simp only[hm]at q;cases r with
  |x c=>exact q
  |v v b =>
   cases v with
   |bl k=>exact q
   |_=>exact q.elim
theorem r_tnot(hc:PT X c (tMB X.K E ca mc)):PT X (.UnaryOp .Not c pos) (tMB X.K E ca (zfc mc)):=PT.weak (pt_not hc) fun σ H Q h=>tMB_not h
theorem tM_not{Q:VK}(h:tM K E ca (zfc mc) σ H Q):tNotV (tM K E ca mc) σ H Q:=by
 obtain⟨F,τ,R,S,q⟩:=h;refine⟨F,τ,R,S,?_⟩;unfold zfc at q;cases hm:mc τ with
 |none=>simp only[hm]at q
 |some r =>
  simp only[hm]at q;cases r with
  |x c=>exact q
  |v v b =>
   cases v with
   |bl k =>
    intro F' H' x B e g
    have hx:x=.bl k:=by
     cases b with
     |true=>obtain⟨_,A,_,r⟩:=g;exact r.bl_inv
     |false=>exact(show Rp K F' H' _ _ _ from g).bl_inv
    exact⟨k,hx,q F' H' _ R0 (e.mono fun _ z=>z.elim) (.bl _)⟩
   |_=>exact q.elim
theorem r_not(ha:PE X a (tM X.K E ca ma)):PE X (.UnaryOp .Not a pos) (tM X.K E ca (zfc ma)):=PE.weak (pe_not ha) fun σ H Q h=>tM_not h
theorem tM_ifV{Q:VK}(h:tM K E ca (mIf mc ma mb) σ H Q):tM K E ca mc σ H fun x H1=>∃k,x=.bl k/\if k=true then tM K E ca ma σ H1 Q else tM K E ca mb σ H1 Q:=tMB_val (tM_if h)
theorem tM_c{t:T}{v:V}(r:∀F H,Rp K F H t v R0){Q:VK}(h:tM K E ca (mC t) σ H Q):Q v H:=by
 obtain⟨F,τ,R,S,q⟩:=h;exact q F H v R0 (Ext.refl S.fh) (r _ _)
theorem r_and{zgb:List Expr}(ha:PE X a (tM X.K E ca ma))(hb:PE X (.BoolOp .And (b::zgb) pos) (tM X.K E ca mb)):PE X (.BoolOp .And (a::b::zgb) pos) (tM X.K E ca (mAnd ma mb)) :=
 PE.weak (pe_and ha hb) fun σ H Q h=>(tM_ifV h).mono fun x H1 ⟨k,e,q⟩=>⟨k,e,by
  cases k with
  |true=>exact q
  |false=>exact tM_c (E:=E) (ca:=ca) (fun _ _=>.bl _) q⟩
theorem r_or{zgb:List Expr}(ha:PE X a (tM X.K E ca ma))(hb:PE X (.BoolOp .Or (b::zgb) pos) (tM X.K E ca mb)):PE X (.BoolOp .Or (a::b::zgb) pos) (tM X.K E ca (mOr ma mb)) :=
 PE.weak (pe_or ha hb) fun σ H Q h=>(tM_ifV h).mono fun x H1 ⟨k,e,q⟩=>⟨k,e,by
  cases k with
  |true=>exact tM_c (E:=E) (ca:=ca) (fun _ _=>.bl _) q
  |false=>exact q⟩
theorem r_one{op:BoolOp}(ha:PE X a (tM X.K E ca ma)):PE X (.BoolOp op [a] pos) (tM X.K E ca ma):=pe_one ha
theorem tMB.mono{Q Q':Bool->Hp->Prop}(h:tMB K E ca m σ H Q)(w:∀x H',Q x H'->Q' x H'):tMB K E ca m σ H Q':=by
 obtain⟨F,τ,R,S,q⟩:=h;refine⟨F,τ,R,S,?_⟩;cases hm:m τ with
 |none=>rw[hm]at q;exact q
 |some r =>
  rw[hm]at q;cases r with
  |v v b =>
   cases v with
   |bl k=>exact fun F' H' e=>w _ _ (q F' H' e)
   |_=>exact q.elim
  |x c=>exact q
theorem tMB_c{k:Bool}{Q:Bool->Hp->Prop}(h:tMB K E ca (mC (.bl k)) σ H Q):Q k H:=by
 obtain⟨F,τ,R,S,q⟩:=h;exact q F H (Ext.refl S.fh)
theorem PW.weak{t t':TT}(h:PW X e t)(w:∀σ H Q,t' σ H Q->t σ H Q):PW X e t':=fun wh pins s σ H Q I q=>h wh pins s σ H Q I (w σ H Q q)
theorem r_wand{zgb:List Expr}(ha:PT X a (tMB X.K E ca ma))(hb:PW X (.BoolOp .And (b::zgb) pos) (tMB X.K E ca mb)):PW X (.BoolOp .And (a::b::zgb) pos) (tMB X.K E ca (mAnd ma mb)) :=
 PW.weak (pw_and ha hb) fun σ H Q h=>(tMB_if h).mono fun k H1 q=>by
  cases k with
  |true=>exact q
  |false=>exact tMB_c (E:=E) (ca:=ca) q
theorem r_wor{zgb:List Expr}(ha:PT X a (tMB X.K E ca ma))(hb:PW X (.BoolOp .Or (b::zgb) pos) (tMB X.K E ca mb)):PW X (.BoolOp .Or (a::b::zgb) pos) (tMB X.K E ca (mOr ma mb)) :=
 PW.weak (pw_or ha hb) fun σ H Q h=>(tMB_if h).mono fun k H1 q=>by
  cases k with
  |true=>exact tMB_c (E:=E) (ca:=ca) q
  |false=>exact q
theorem r_wone1(ha:PT X a (tMB X.K E ca ma)):PW X (.BoolOp .And [a] pos) (tMB X.K E ca ma):=pw_and1 ha
theorem r_wone2(ha:PT X a (tMB X.K E ca ma)):PW X (.BoolOp .Or [a] pos) (tMB X.K E ca ma):=pw_or1 ha
end
end Pu
set_option Elab.async false
set_option linter.all false
set_option maxRecDepth 100000
namespace Pu
open PySem PySem.Spec PyProof.Rows L2 Zw Zx
section
variable {X:Cx}{pins:List (Addr×Obj)}{σ:L2.St}{H:Hp}{s:Shared}{h':Heap}
theorem turnedN{t':Nat}{ch:List Addr}(I:Inv X pins σ H s)(k:∀b o,b∉ch->s.heap.get? b=some o->h'.get? b=some o)(f:∀b∈ch,FpOk X pins H b):Inv X pins σ H { s with heap:=h',toks:=t' }:=by
 have nit:∀b u,H b=some u->b∉ch:=fun b u e z=>by rw[(f b z).1]at e;cases e
 refine I.step (g':=s.gens) (d':=s.drawn) (ch:=ch) (fun b hb=>?_) (fun b o _ _ hc e _=>k b o hc e) (fun b o _ _ hc e _=>⟨o.slots,k b o hc e⟩) (fun _ _ _ _ n=>n)
  (fun b o hc e=>⟨o,k b o hc e⟩) (fun _ _ e=>e) (fun _ _ _ e=>e) (fun b ps e=>⟨#[],by rw[e];simp⟩) (fun m hm=>?_) (fun b u e=>?_) I.bare
 ·obtain⟨_,f1,f2,f3,f4,f5⟩:=f b hb;exact⟨f3,f1,f4,f5⟩
 ·obtain⟨o,es,ep,ho,r⟩:=hm;exact⟨o,es,ep,k _ o (fun z=>(f _ z).2.1 rfl) ho,r⟩
 ·refine(I.hok b u e).stay (fun c v hc q=>k c v ?_ q) (fun _ q=>q) fun _ _ q=>q
  rcases hc with z|z
  ·rw[z];exact nit b u e
  ·exact nit c _ z
end
section
variable {X:Cx}{elts:List Expr}{kk:Nat}{tpos:Pos}
end
end Pu
set_option Elab.async false
set_option linter.all false
set_option maxRecDepth 100000
namespace Pu
open PySem PySem.Spec PyProof.Rows L2 Zw Zx
section
variable {X:Cx}{pins:List (Addr×Obj)}{σ:L2.St}{H:Hp}{s:Shared}{a:Addr}{o:Obj}{kvs:List (Key×V)}
theorem kv_len{vs:List (Key×Value)}(r:KV kvs vs):kvs.length=vs.length:=yd8 (show Paired _ kvs vs from r)
end
section
variable {X:Cx}{o:Expr}{to:TE}{ap cp:Pos}{elts:List Expr}{kk:Nat}{tpos:Pos}
end
end Pu
set_option Elab.async false
set_option linter.all false
set_option maxRecDepth 100000
namespace Pu
open PySem PySem.Spec PyProof.Rows L2 Zw Zx
def zjd(ifs:List Expr)(env:Env):Sem Bool:=forIn ifs true fun c r=>if r=true then do let ok <- isTrue c env (eval c env);pure (ForInStep.yield ok) else pure (ForInStep.yield r)
def PTs(X:Cx)(ifs:List Expr)(t:TT):Prop :=
 ∀(pins:List (Addr×Obj)) (s:Shared) (σ:L2.St) (H:Hp) (Q:Bool->Hp->Prop),Inv X pins σ H s->t σ H Q->wpAny (model X.prog X.w) X.A (zjd ifs X.env) (TP X pins σ Q) X.xe s
theorem pts_nil{X:Cx}:PTs X [] (fun _ H Q=>Q true H):=fun pins s σ H Q I h=>wpAny_pure ⟨H,I,h⟩
theorem pts_one{X:Cx}{c:Expr}{t:TT}(h:PT X c t):PTs X [c] t:=fun pins s σ H Q I q=>by
 have e:zjd [c] X.env=(isTrue c X.env (eval c X.env) >>= fun ok=>pure ok):=by
  unfold zjd;simp[List.forIn_cons]
 rw[e];exact wpAny_bind (wpAny_mono (h pins s σ H Q I q) (fun b s1 h1=>wpAny_pure h1) fun _ _ z=>z)
theorem comp_turn2{elt target iter:Expr}{ifs:List Expr}{scope:Scope}{pos:Pos}{it acc:Value}{env:Env}:compTurn (.ListComp elt [⟨target,iter,ifs,0⟩] scope pos) 0 it acc env=(standAt iter.pos >>= fun _=>pyNext it >>= fun r=>match r with
  |none=>pure (.done .next)
  |some u=>letOwnedTupleGo target it u >>= fun _=>assign target env u >>= fun _=>zjd ifs env >>= fun ok =>
   if ok=true then ((eval elt env >>= fun x=>call (.builtin "list.append") [acc,x] >>= fun _=>pure ()) >>= fun _=>again (.compLoop (.ListComp elt [⟨target,iter,ifs,0⟩] scope pos) 0 it acc env))
   else again (.compLoop (.ListComp elt [⟨target,iter,ifs,0⟩] scope pos) 0 it acc env)):=by rfl
theorem comp_loop2{prog:Program}{w:World}{A:Around}{R:Result->Shared->Prop}{s:Shared}{elt target iter:Expr}{ifs:List Expr}{scope:Scope}{pos:Pos}{it acc:Value}{env:Env}{NE:Value->Shared->Prop}(hN:NE=notedBy (model prog w) A env fun e s'=>R (.error e) s')(I:Nat->Shared->Prop)
  (hturn : ∀ n s, I n s -> wpAny (model prog w) A (pyNext it) (fun r s₁ => match r with
   |none=>R (.ok .next) s₁
   |some v=>wpAny (model prog w) A (letOwnedTupleGo target it v) (fun _ s₁'=>wpAny (model prog w) A (assign target env v) (fun _ s₂=>wpAny (model prog w) A (zjd ifs env) (fun ok s₂'=>if ok=true then wpAny (model prog w) A (eval elt env) (fun x s₃ =>
     wpAny (model prog w) A (call (.builtin "list.append") [acc,x]) (fun _ s₄=>∃m,m<n/\I m s₄) NE s₃)
     NE s₂' else ∃m,m<n/\I m s₂') NE s₂) NE s₁') NE s₁) NE s)
  (k:Nat) (hk:I k s):codeAny (model prog w) A (.compLoop (.ListComp elt [⟨target,iter,ifs,0⟩] scope pos) 0 it acc env) R s:=by
 subst hN;refine codeAny_loop rfl I (fun n s hI=>?_) k hk
 show wpAny _ _ ((compTurn (.ListComp elt [⟨target,iter,ifs,0⟩] scope pos) 0 it acc env).onRaise (fun y=>do noteFrame y env;theTreesLotGoes y)) _ _ s
 refine wpAny_noted ?_;rw[comp_turn2];refine wpAny_bind (wpAny_standAt (wpAny_bind (wpAny_mono (hturn n s hI) (fun r s₁ h₁=>?_) fun _ _ z=>z)))
 cases r with
 |none=>exact wpAny_pure h₁
 |some v =>
  refine wpAny_bind (wpAny_mono h₁ (fun _ s₁' h₁'=>?_) fun _ _ z=>z)
  refine wpAny_bind (wpAny_mono h₁' (fun _ s₂ h₂=>wpAny_bind (wpAny_mono h₂ (fun ok s₂' h₂'=>?_) fun _ _ z=>z)) fun _ _ z=>z)
  cases ok with
  |false =>
   rw[if_neg (by decide)]at h₂' ⊢
   exact wpAny_pure ⟨rfl,h₂'⟩
  |true =>
   rw[if_pos rfl]at h₂' ⊢;exact wpAny_bind (wpAny_bind (wpAny_mono h₂' (fun x s₃ h₃=>wpAny_bind (wpAny_mono h₃ (fun _ s₄ h₄=>wpAny_pure (wpAny_pure ⟨rfl,h₄⟩)) fun _ _ z=>z)) fun _ _ z=>z))
theorem zib(env:Env):∀(names:List (Str×NameKind)),(∀y∈names,y.2=.free->∃c,env.cells.lookup y.1=some c)->∀acc:List (Str×Addr),∃cl:List (Str×Addr),
  (forIn names acc fun(x:Str×NameKind) (r:List (Str×Addr))=>(if (x.2 == NameKind.free)=true then do let a <- cellOf env x.1;pure (ForInStep.yield ((x.1,a)::r)) else pure (ForInStep.yield r):Sem (ForInStep (List (Str×Addr)))))=(pure cl:Sem (List (Str×Addr))) /\
  (∀y c,cl.lookup y=some c->acc.lookup y=some c\/env.cells.lookup y=some c)/\(∀y∈names,y.2=.free->∃c,cl.lookup y.1=some c)/\∀y c,acc.lookup y=some c->∃c',cl.lookup y=some c'
 |[],_,acc=>⟨acc,rfl,fun _ _ e=>.inl e,(fun _ z=>by cases z),fun _ c e=>⟨c,e⟩⟩
 |(n,k)::r,h,acc=>by
  rw[List.forIn_cons]
  by_cases hk:k=.free
  ·subst hk;obtain⟨c,hc⟩:=h (n,.free) (ya9 ..) rfl;have e1:cellOf env n=pure c:=by unfold cellOf;rw[hc]
   obtain⟨cl,e,h1,h2,h3⟩:=zib env r (fun y hy=>h y (ya8 _ hy)) ((n,c)::acc)
   refine⟨cl,?_,fun y c' q=>?_,fun y hy hf=>?_,fun y c' q=>?_⟩
   ·simp only[beq_self_eq_true,if_true,e1,pure_bind];exact e
   ·rcases h1 y c' q with z|z
    ·rw[yat]at z;cases hy:y == n with
     |true =>
      rw[hy]at z;cases z;exact .inr (by rw[eq_of_beq hy];exact hc)
     |false=>rw[hy]at z;exact .inl z
    ·exact .inr z
   ·obtain rfl|hy:=yaj.mp hy
    ·exact h3 n c (by simp)
    ·exact h2 y hy hf
   ·by_cases hy:y=n
    ·subst hy;exact h3 y c (by simp)
    ·exact h3 y c' (by rw[yat,beq_eq_false_iff_ne.mpr hy];exact q)
  ·have hk':(k == NameKind.free)=false:=beq_eq_false_iff_ne.mpr hk;obtain⟨cl,e,h1,h2,h3⟩:=zib env r (fun y hy=>h y (ya8 _ hy)) acc
   refine⟨cl,?_,h1,fun y hy hf=>?_,h3⟩
   ·simp only[hk',pure_bind];exact e
   ·obtain rfl|hy:=yaj.mp hy
    ·exact absurd hf hk
    ·exact h2 y hy hf
theorem closure_for(scope:Scope)(env:Env)(h:∀y∈scope.names,y.2=.free->∃c,env.cells.lookup y.1=some c):∃cl,closureFor scope env=pure cl/\(∀y c,cl.lookup y=some c->env.cells.lookup y=some c)/\∀y∈scope.names,y.2=.free->∃c,cl.lookup y.1=some c:=by
 obtain⟨cl,e,h1,h2,_⟩:=zib env scope.names h [];refine⟨cl,?_,fun y c q=>?_,h2⟩
 ·have e2:closureFor scope env=(forIn scope.names [] fun(x:Str×NameKind) (r:List (Str×Addr))=>(if (x.2 == NameKind.free)=true then do let a <- cellOf env x.1;pure (ForInStep.yield ((x.1,a)::r)) else pure (ForInStep.yield r):Sem (ForInStep (List (Str×Addr))))) >>= pure:=rfl
  rw[e2,e,pure_bind]
 ·rcases h1 y c q with z|z
  ·cases z
  ·exact z
theorem zkn:∀(names:List (Str×NameKind)) (h:Heap) (acc:List (Str×Addr)) (y:Str) (c:Addr),(cellsFrom h.objs.size names acc).lookup y=some c->acc.lookup y=some c\/(h.objs.size<=c/\(pushCells h names).IsCell c none/\(y,NameKind.cell)∈names)
 |[],h,acc,y,c,e=>.inl e
 |(n,k)::r,h,acc,y,c,e=>by
  unfold cellsFrom at e;unfold pushCells;split at e
  ·rename_i hk;rw[if_pos hk];have ez:(h.push { cls:=.type "cell",data:=.cell none }).objs.size=h.objs.size+1:=ybj ..;rw[<- ez]at e
   rcases zkn r _ _ y c e with q|⟨q1,q2,q3⟩
   ·rw[yat]at q;cases hy:y == n with
    |true =>
     rw[hy]at q;cases q;have e1:y=n:=eq_of_beq hy;subst e1;exact .inr ⟨yaa _,⟨_,pushCells_keeps _ _ _ _ (yar _ rfl),rfl⟩,by rw[eq_of_beq hk];exact ya9 ..⟩
    |false=>rw[hy]at q;exact .inl q
   ·exact .inr ⟨by rw[ez]at q1;exact yao (yc7 _) q1,q2,ya8 _ q3⟩
  ·rename_i hk;rw[if_neg hk]
   rcases zkn r h acc y c e with q|⟨q1,q2,q3⟩
   ·exact .inl q
   ·exact .inr ⟨q1,q2,ya8 _ q3⟩
theorem zko:∀(names:List (Str×NameKind)) (h:Heap) (acc:List (Str×Addr)),(∀y z c,acc.lookup y=some c->acc.lookup z=some c->y=z)->(∀y c,acc.lookup y=some c->c<h.objs.size) ->
  ∀y z c,(cellsFrom h.objs.size names acc).lookup y=some c->(cellsFrom h.objs.size names acc).lookup z=some c->y=z
 |[],h,acc,hi,_=>hi
 |(n,k)::r,h,acc,hi,hl=>by
  unfold cellsFrom;split
  ·have ez:(h.push { cls:=.type "cell",data:=.cell none }).objs.size=h.objs.size+1:=ybj ..;rw[<- ez];refine zko r _ _ (fun y z c h1 h2=>?_) (fun y c h1=>?_)
   ·rw[yat]at h1 h2;cases hy:y == n with
    |true =>
     rw[hy]at h1;cases h1;cases hz:z == n with
     |true=>rw[eq_of_beq hy,eq_of_beq hz]
     |false =>
      rw[hz]at h2;exact absurd (hl z _ h2) (yb3 _)
    |false =>
     rw[hy]at h1;cases hz:z == n with
     |true =>
      rw[hz]at h2;cases h2;exact absurd (hl y _ h1) (yb3 _)
     |false=>rw[hz]at h2;exact hi y z c h1 h2
   ·rw[yat]at h1;rw[ez];cases hy:y == n with
    |true=>rw[hy]at h1;cases h1;exact ybk _
    |false=>rw[hy]at h1;exact ybu (hl y c h1)
  ·exact zko r h acc hi hl
theorem zkm:∀(names:List (Str×NameKind)) (n lo:Nat) (acc:List (Str×Addr)) (y:Str) (c:Addr),lo<=n->((y,NameKind.cell)∈names\/∃c0,acc.lookup y=some c0/\lo<=c0)->(cellsFrom n names acc).lookup y=some c->lo<=c
 |[],n,lo,acc,y,c,hn,h,e=>by
  rcases h with h|⟨c0,h1,h2⟩
  ·cases h
  ·have e':acc.lookup y=some c:=e;rw[h1]at e';cases e';exact h2
 |(m,k)::r,n,lo,acc,y,c,hn,h,e=>by
  unfold cellsFrom at e;split at e
  ·refine zkm r (n+1) lo _ y c (Nat.le_succ_of_le hn) ?_ e
   by_cases hy:y=m
   ·subst hy;exact .inr ⟨n,by simp,hn⟩
   ·rcases h with h|⟨c0,h1,h2⟩
    ·rcases yaj.mp h with z|z
     ·cases z;exact absurd rfl hy
     ·exact .inl z
    ·exact .inr ⟨c0,by rw[yat,beq_eq_false_iff_ne.mpr hy];exact h1,h2⟩
  ·rename_i hk;refine zkm r n lo acc y c hn ?_ e
   rcases h with h|h
   ·rcases yaj.mp h with z|z
    ·cases z;exact absurd rfl hk
    ·exact .inl z
   ·exact .inr h
theorem newEnv_cells{M:Model}{A:Around}{E:Value->Shared->Prop}{s:Shared}{scope:Scope}{globals:Addr}{cl:List (Str×Addr)}{qual:Str}{func:Option Addr}{code:Value}{outer:Env}{builtins:Addr}{Q:Env->Shared->Prop}
  (hQ:Q (newEnv scope s.heap.objs.size globals (cellsFrom (s.heap.objs.size+1) scope.names cl) qual func code (some outer) builtins) { s with heap:=pushCells (s.heap.push { cls:=.type "dict",data:=.dict #[] }) scope.names }) :
  wpAny M A (newFunctionEnv scope globals cl [] qual func code (some outer) builtins) Q E s:=by
 simp only[newFunctionEnv,Option.isSome_some,if_true];refine wpAny_bind (wpAny_alloc ?_);refine wpAny_bind (wpAny_layCells _ (fun name kind cells=>by cases hkc:kind == NameKind.cell<;>simp[hkc]) _ _ _ _ ?_);rw[show({ s with heap:=s.heap.push { cls:=.type "dict",data:=.dict #[] } }:Shared).heap.objs.size=s.heap.objs.size+1 from ybj ..]
 rw[List.forIn_nil];exact wpAny_bind (wpAny_pure (wpAny_pure hQ))
abbrev zad(X:Cx)(scope:Scope)(cl:List (Str×Addr))(N':List Str)(C:Addr)(s₀:Shared)(H₀:Hp)(ex:List Addr)(xb:Value->Shared->Prop):Cx:={ compCx X scope cl N' C s₀ H₀ ex with fn:=fun x=>decide (scope.names.lookup x=some .cell),xe:=xb }
theorem ff_to{h h' B B':Heap}(k:∀b o,B.get? b=none->h.get? b=some o->(∀us,o.data≠.fields us)->B'.get? b=none/\∃o',h'.get? b=some o'/\∀us,o'.data≠.fields us):∀{l:List Env},h.FunFrames B l->h'.FunFrames B' l
 |[],_=>trivial
 |_::_,⟨x,⟨L,o,y1,y2,y3,y4⟩,r⟩=>by
  obtain⟨z1,o',z2,z3⟩:=k L o y2 y3 y4;exact⟨x,⟨L,o',y1,z1,z2,z3⟩,ff_to k r⟩
def FrOk(X:Cx):Prop:=∃v l,X.stack=v::l/\X.env.frame=v.frame
theorem comp_pass{X:Cx}{E:L2.St->XK}{pins:List (Addr×Obj)}{σ:L2.St}{H:Hp}{s s':Shared}{C:Addr}{benv:Env}{e acc:Value}{use:Option (Value->Sem Unit)}{QQ:Value->Shared->Prop}{EE:Value->Shared->Prop}(hx:zbo X E)(hst:FrOk X)(I:Inv X pins σ H s)(fC:FpOk X pins H C)(hC:∃m,s.heap.Ns C m)(nC:C∉frs X.stack)
  (hb:benv.frame=X.env.frame) (h:CX1 X.prog X.w X.stack H s (E σ) e s'):wpAny (model X.prog X.w) X.A (noteFrame e benv) (fun _ s2=>compPost (model X.prog X.w) X.A X.xe use QQ acc C (.error e) s2) EE s':=by
 obtain⟨v,l,st,hv⟩:=hst;obtain⟨a,cls,H',B,a0,rfl,os,bare,un,hok,kB,tB,fl0,he⟩:=h;have fl1:FlyX B (v::l) a cls a0 s'.heap:=st▸fl0
 obtain⟨L,hL⟩:∃L,v.frame=some L:=by
  obtain⟨_,_,_,⟨_,⟨L,_,y,_⟩,_⟩,_⟩:=fl1;exact⟨L,y⟩
 refine noteX (st▸I.ok.frames) (hb.trans hv) hL fl1 fun h4 held sm=>?_
 obtain⟨m,oC,es,ep,hCo,dC,rC⟩:=hC;have bC:B.get? C=some oC:=kB C oC hCo fC.1 nC;obtain⟨f1,f2,f3,oe,ws,Tb,oT,ts,ha,hcl,hd,g1,nT,Tne,hT,dT,g3⟩:=held
 have hne:∀{b:Addr},B.get? b=none->b≠C:=fun z w=>by
  rw[w,bC]at z;cases z
 have key:∃m,h4.Ns C m/\∀h',Heap.SameBut C h4 h'->∀cenv:Env,cenv.locals=C->wpAny (model X.prog X.w) X.A (PySem.passOn "comprehension.variables-let-go" (.ref a) cenv:Sem Value) (fun _ _=>False) X.xe { s' with heap:=h' }:=by
  refine⟨m,⟨oC,es,ep,f1 C oC bC,dC,rC⟩,fun h5 sb cenv _=>?_⟩
  have ha5:h5.get? a=some oe:=(sb.2 a (hne f2)).trans ha;have hT5:h5.get? Tb=some oT:=(sb.2 Tb (hne nT)).trans hT;unfold PySem.passOn;refine wpAny_bind (wpAny_field ha5 hd g1 ?_);rw[if_neg (by simp)]
  refine wpAny_bind ?_;unfold setFlight;refine wpAny_bind (wpAny_field ha5 hd g1 ?_);rw[if_pos (by simp)]
  refine wpAny_setField hT5 dT (ybs.mp g3).1 (wpAny_throw ?_);generalize hfl:(cenv.frame.elim Value.none fun f=>rawInt f)=fl
  have dT6:=Obj.data_mapFields dT (·.setIfInBounds 3 fl);have hT6:=Heap.get?_update_self (Obj.mapFields (·.setIfInBounds 3 fl)) hT5 (Obj.isFreed_of_fields dT6);generalize hh6:h5.update Tb (Obj.mapFields (·.setIfInBounds 3 fl))=h6 at hT6 ⊢
  have to6:∀b o,b≠C->b≠Tb->h4.get? b=some o->h6.get? b=some o:=fun b o n1 n2 e=>by
   rw[<- hh6,ybm _ _ (yaz n2)];exact(sb.2 b n1).trans e
  have B6:∀b o,b≠C->B.get? b=some o->h6.get? b=some o:=fun b o n e=>to6 b o n (fun z=>by rw[z,nT]at e;cases e) (f1 b o e)
  have hid:∀{b:Addr} {o:Obj},(PySem.W.hideAll s.heap [C]).get? b=some o->s.heap.get? b=some o/\b≠C:=fun {b o} e=>⟨ybz _ e,fun z=>by
   rw[z,yct [C] (yae.mpr rfl)]at e;cases e⟩
  have hidB:∀{b:Addr} {o:Obj},b≠C->B.get? b=some o->(PySem.W.hideAll B [C]).get? b=some o:=fun {b o} n e=>ybi _ e (fun z=>n (yae.mp z))
  have hidN:∀{b:Addr},B.get? b=none->(PySem.W.hideAll B [C]).get? b=none:=fun {b} e=>by
   cases q:(PySem.W.hideAll B [C]).get? b with
   |none=>rfl
   |some o =>
    rw[ybz _ q]at e;cases e
  have IX:Inv X pins σ H { s with heap:=PySem.W.hideAll s.heap [C] }:=turnedN (t':=s.toks) (ch:=[C]) I (fun b o n e=>ybi _ e n) fun b z=>by
   rw[yae.mp z];exact fC
  have slot:∀b o,s.heap.get? b=some o->H b=none->b∈frs X.stack->∃z,h6.get? b=some { o with slots:=z }:=fun b o e n z=>by
   obtain⟨_,o2,ho2,d2⟩:=I.stack.mem z;rw[e]at ho2;cases ho2;obtain⟨z2,e2⟩:=un.slot b o e n z (by simp)
   obtain⟨z3,e3⟩:=sm b _ e2 d2;refine⟨z3,to6 b _ (fun w=>nC (w▸z)) (fun w=>?_) e3⟩
   rw[w,hT]at e3;cases e3;exact d2 _ dT
  have HC:H' C=none:=un.free C oC hCo fC.1 (by simp)
  refine hx pins σ H _ _ _ IX ⟨a,cls,H',PySem.W.hideAll B [C],a0,rfl,os,bare,⟨fun b o e n z _=>?_,fun b o e n z _=>slot b o (hid e).1 n z,fun b o e n z=>un.free b o (hid e).1 n z,fun b o e _=>?_,un.tups,un.frzs,un.tbls⟩,?_,fun b o e n z=>hidB (hid e).2 (kB b o (hid e).1 n z),fun b o e z=>?_,⟨fl,fun b o e=>?_,hidN f2,?_,?_⟩,he⟩
  ·exact B6 b o (hid e).2 (kB b o (hid e).1 n z)
  ·by_cases z:b∈frs X.stack
   ·obtain⟨w,q⟩:=slot b o (hid e).1 (I.stkFree b z) z;exact⟨_,q⟩
   ·obtain⟨o',q⟩:=tB b o (hid e).1 z;exact⟨o',B6 b o' (hid e).2 q⟩
  ·intro b u e;refine(hok b u e).stay (fun c x hc q=>hidB (fun w=>?_) q) (fun _ q=>q) fun _ _ q=>q
   rcases hc with y|y
   ·rw[<- y,w,HC]at e;cases e
   ·rw[w,HC]at y;cases y
  ·obtain⟨o',q⟩:=tB b o (hid e).1 z;exact⟨o',hidB (hid e).2 q⟩
  ·have e':=ybz _ e;refine B6 b o (fun w=>?_) e'
   rw[w,yct [C] (yae.mpr rfl)]at e;cases e
  ·rw[st];refine ff_to (fun b o n e d=>⟨hidN n,o,to6 b o (hne n) (fun w=>?_) e,d⟩) f3
   rw[w,hT]at e;cases e;exact d _ dT
  ·refine⟨oe,ws,Tb,_,_,?_,hcl,hd,g1,hidN nT,Tne,hT6,dT6,?_⟩
   ·rw[<- hh6,ybm _ _ Tne];exact ha5
   ·simp[Array.getElem?_setIfInBounds,(ybs.mp g3).1]
 cases use<;>exact key
section
variable {X:Cx}{elt iter tg:Expr}{ifs:List Expr}{scope:Scope}{pos pos2:Pos}{cl:List (Str×Addr)}{N':List Str}{wi:TI}{g:TG}{tt:TT}{te:TE}
def tLC2(σ':L2.St->L2.St)(wi:TI)(g:TG)(tt:TT)(te:TE):TE:=fun σ H Q=>wi σ H fun J H1=>∃(W:Nat->List V->L2.St->Hp->Prop) (n:Nat),n<=sizeLine/\W 0 [] (σ' σ) H1/\∀i ys τ H,W i ys τ H->ys.length<=i/\i<=n /\
 ((J.stop i H/\∀p,H p=none->Q (.ref p) (upd H p (.lst ys)))\/(i<n/\J.go i H/\∀x H',J.yld i H x H'->g x τ H' fun τ2 H2=>tt τ2 H2 fun k H3=>if k=true then te τ2 H3 fun y H4=>W (i+1) (ys++[y]) τ2 H4 else W (i+1) ys τ2 H3))
theorem lc_any(σ':L2.St->L2.St)(hclos:closureFor scope X.env=pure cl)(hkind:scope.kind=.function)(hnames:∀y∈scope.names,y.2=.local->scope.names.lookup y.1=some .local)
  (hcl:∀y c,cl.lookup y=some c->X.env.cells.lookup y=some c) (hhas:∀y,(relabel scope X.env).names.lookup y=some .cell\/(relabel scope X.env).names.lookup y=some .free->(y,NameKind.cell)∈scope.names\/∃c,cl.lookup y=some c) (hcap:∀(σ:L2.St) (i:Nat) (y:Str) (v:V),N'[i]?=some y->(σ' σ)[i]?=some (some v)->(y,NameKind.cell)∉scope.names)
  (hσ:∀σ:L2.St,σ.length=X.N.length->(σ' σ).length=N'.length)
  (hvis:∀(σ:L2.St) (i:Nat) (y:Str) (v:V),N'[i]?=some y->(σ' σ)[i]?=some (some v)->((relabel scope X.env).names.lookup y=some .cell\/(relabel scope X.env).names.lookup y=some .free)/\∃j:Nat,X.N[j]?=some y/\σ[j]?=some (some v)/\Vis X.env.scope y/\X.env.kindOf y≠some .local)
  (hc:X.calm=true) (hi:PI X tg iter wi) {E:L2.St->XK} (hps:zbo X E) (hst:FrOk X) {σ:L2.St} (hg:∀cl C s₀ H₀ ex xb,zbo (zad X scope cl N' C s₀ H₀ ex xb) (fun _=>E σ)->PG (zad X scope cl N' C s₀ H₀ ex xb) tg g) (ht:∀cl C s₀ H₀ ex xb,zbo (zad X scope cl N' C s₀ H₀ ex xb) (fun _=>E σ)->PTs (zad X scope cl N' C s₀ H₀ ex xb) ifs tt) (he:∀cl C s₀ H₀ ex xb,zbo (zad X scope cl N' C s₀ H₀ ex xb) (fun _=>E σ)->PE (zad X scope cl N' C s₀ H₀ ex xb) elt te)
  (hs:∀x,foldedSetIterable iter X.env x=pure x) {use:Option (Value->Sem Unit)} {pins:List (Addr×Obj)} {s:Shared} {H:Hp} {Q:VK} {QQ:Value->Shared->Prop} (I:Inv X pins σ H s) (h:tLC2 σ' wi g tt te σ H Q)
  (hend:∀(D C:Addr) (s5:Shared) (H5:Hp),Inv X pins σ H5 s5->Q (.ref D) H5->(∃m,s5.heap.Ns C m)->FpOk X pins H5 C->compPost (model X.prog X.w) X.A X.xe use QQ (.ref D) C (.ok .next) s5) :
  wpAny (model X.prog X.w) X.A (comprehension (.ListComp elt [⟨tg,iter,ifs,0⟩] scope pos) scope X.env pos2 (newList []) false (eval iter X.env) use) QQ X.xe s:=by
 refine wpAny_comprehension_free (use:=use) rfl hs hclos hkind hnames (thn (hi pins s σ H _ I h) fun v s1 h1=>thn h1 fun itv s2 h2=>?_)
 obtain⟨it,fp,tn,J,H2,e,I2,T,st2,f2,W,n,hn,w0,turn⟩:=h2;subst e;refine wpAny_newObj_type (newEnv_cells ?_);dsimp only;generalize hHp:s2.heap.push { cls:=.type "list",dict:=none,data:=.seq ([]:List Value).toArray }=P2;generalize hcl':cellsFrom (P2.objs.size+1) scope.names cl=cl';generalize hh1:pushCells (P2.push { cls:=.type "dict",data:=.dict #[] }) scope.names=h₁;have hC:P2.objs.size=s2.heap.objs.size+1:=by rw[<- hHp,ybj]
 have hP3:(P2.push { cls:=.type "dict",data:=.dict #[] }).objs.size=P2.objs.size+1:=ybj ..;have hDC:s2.heap.objs.size≠P2.objs.size:=by rw[hC];exact yau (ybk _)
 have below:∀b,b<s2.heap.objs.size->b≠P2.objs.size/\b≠s2.heap.objs.size:=fun b hb=>⟨by rw[hC];exact yau (ybu hb),yau hb⟩
 have old:∀b o,s2.heap.get? b=some o->h₁.get? b=some o:=fun b o e=>by
  rw[<- hh1];exact pushCells_keeps _ _ _ _ (ya7 _ (hHp▸ya7 _ e))
 have hacc:h₁.PlainList s2.heap.objs.size #[]:=⟨_,by
  rw[<- hh1];exact pushCells_keeps _ _ _ _ (ya7 _ (hHp▸yar _ rfl))⟩
 have hns₁:h₁.Ns P2.objs.size (fun _=>none):=by
  rw[<- hh1];exact(Heap.Ns.new P2 (.type "dict")).keeps (pushCells_keeps _ _)
 have cells:∀y c,cl'.lookup y=some c->X.env.cells.lookup y=some c\/(P2.objs.size<c/\h₁.IsCell c none/\(y,NameKind.cell)∈scope.names):=fun y c e=>by
  rw[<- hcl',<- hP3]at e
  rcases zkn _ _ _ y c e with q|⟨q1,q2,q3⟩
  ·exact .inl (hcl y c q)
  ·rw[hP3]at q1;rw[hh1]at q2;exact .inr ⟨q1,q2,q3⟩
 have has':∀y,(y,NameKind.cell)∈scope.names\/(∃c,cl.lookup y=some c)->∃c,cl'.lookup y=some c:=fun y hy=>by
  rw[<- hcl']
  have go:∀(names:List (Str×NameKind)) (n:Nat) (acc:List (Str×Addr)),((y,NameKind.cell)∈names\/∃c,acc.lookup y=some c)->∃c,(cellsFrom n names acc).lookup y=some c:=by
   intro names
   induction names with
   |nil =>
    intro n acc h
    rcases h with h|h
    ·cases h
    ·exact h
   |cons x r ih =>
    obtain⟨m,k⟩:=x;intro n acc h;unfold cellsFrom;split
    ·refine ih _ _ ?_
     by_cases hm:y=m
     ·subst hm;exact .inr ⟨n,by simp⟩
     ·rcases h with h|⟨c,h⟩
      ·rcases yaj.mp h with z|z
       ·cases z;exact absurd rfl hm
       ·exact .inl z
      ·exact .inr ⟨c,by rw[yat,beq_eq_false_iff_ne.mpr hm];exact h⟩
    ·rename_i hk;refine ih _ _ ?_
     rcases h with h|h
     ·rcases yaj.mp h with z|z
      ·cases z;exact absurd rfl hk
      ·exact .inl z
     ·exact .inr h
  exact go _ _ _ hy
 have fsub:∀b∈frs X.stack,b∈X.env.locals::X.fs:=I2.stkSub
 have fpfs:∀b∈fp,b∉frs X.stack:=fun b hb z=>by
  obtain⟨_,h2,h3,_⟩:=f2 b hb
  rcases yaj.mp (fsub b z) with q|q
  ·exact h2 q
  ·exact h3 q
 have fpold:∀b∈fp,b<s2.heap.objs.size:=fun b hb=>by
  obtain⟨o,e,_⟩:=T.obj 0 _ st2 b hb;exact yab e
 have cold:∀y c,cl'.lookup y=some c->c<s2.heap.objs.size\/P2.objs.size<c:=fun y c e=>by
  rcases cells y c e with q|q
  ·obtain⟨v,z⟩:=I2.cell y c q;exact .inl z.lt
  ·exact .inr q.1
 have cneD:∀y c,cl'.lookup y=some c->c≠s2.heap.objs.size:=fun y c e z=>by
  rcases cold y c e with q|q
  ·rw[z]at q;exact yb3 _ q
  ·rw[z,hC]at q;exact absurd q (Nat.not_lt.mpr (yc7 _))
 have cneF:∀b,b<s2.heap.objs.size->(∀y c,X.env.cells.lookup y=some c->c≠b)->∀y c,cl'.lookup y=some c->c≠b:=fun b hb hx y c e z=>by
  rcases cells y c e with q|q
  ·exact hx y c q z
  ·have:=q.1;rw[z,hC]at this;exact absurd (ycr hb (Nat.lt_of_succ_lt this)) (yb3 _)
 have fresh2:∀b,s2.heap.objs.size<=b->H2 b=none:=fun b hb=>I2.hok.fresh hb
 have CS:s2.heap.objs.size<=P2.objs.size:=by rw[hC];exact yc7 _
 obtain⟨xb,hxb⟩:∃xb,xb=notedBy (model X.prog X.w) X.A (compEnvC scope cl' P2.objs.size X.env) fun e s'=>compPost (model X.prog X.w) X.A X.xe use QQ (.ref s2.heap.objs.size) P2.objs.size (.error e) s':=⟨_,rfl⟩
 have hpb:zbo (zad X scope cl' N' P2.objs.size s2 H2 fp xb) (fun _=>E σ):=by
  subst hxb;intro pins4 σ4 H4 s4 e s' I4 hcx
  have IX:Inv X pins σ H4 s4:=I2.call' (s':=s4) (ch:=fp) I4.os I4.base I4.hok I4.bare fun b hb=>by
   obtain⟨g1,g2,g3,g4,g5,g6⟩:=f2 b hb;exact⟨g4,g2,g5,g6⟩
  obtain⟨m4,hm4,_⟩:=I4.loc
  exact comp_pass hps hst IX ⟨I4.free,(I2.fpOk (H':=H2) CS (fresh2 _ CS)).2⟩ ⟨m4,hm4⟩ (fun z=>by
   obtain⟨o,ho,_⟩:=(I2.stack.mem z).2;exact absurd (yab ho) (Nat.not_lt.mpr CS)) rfl hcx
 have ok':(zad X scope cl' N' P2.objs.size s2 H2 fp xb).Ok:=by
  refine⟨I2.ok.mod,hkind,I2.ok.glob,I2.ok.blt,CS,?inj,fun y hy=>has' y (hhas y hy),?cab,I2.ok.hd,I2.ok.frames,.inl rfl,fun b hb=>⟨(below b (fpold b hb)).1,cneF b (fpold b hb) fun y c e=>(f2 b hb).2.2.2.2.1 y c e⟩,
   fun b o e=>I2.bs b o e,yao I2.ok.bsz I2.sz,fun b o e hb=>?_,fun b hb=>fpfs b hb,I2.stack,I2.stkFree⟩
  case inj =>
   intro y z c h1 h2;have h1':(cellsFrom (P2.push { cls:=.type "dict",data:=.dict #[] }).objs.size scope.names cl).lookup y=some c:=by rw[hP3,hcl'];exact h1
   have h2':(cellsFrom (P2.push { cls:=.type "dict",data:=.dict #[] }).objs.size scope.names cl).lookup z=some c:=by rw[hP3,hcl'];exact h2
   refine zko scope.names _ cl (fun y z c g1 g2=>I2.ok.inj y z c (hcl y c g1) (hcl z c g2)) (fun y c g=>?_) y z c h1' h2'
   obtain⟨v,q⟩:=I2.cell y c (hcl y c g);rw[hP3,hC];exact ybu (ybu q.lt)
  case cab =>
   intro y c hy e;have hy':scope.names.lookup y=some .cell:=of_decide_eq_true hy;have e':(cellsFrom (P2.objs.size+1) scope.names cl).lookup y=some c:=by rw[hcl'];exact e
   exact yao CS (yao (yc7 _) (zkm scope.names _ (P2.objs.size+1) cl y c (yaa _) (.inl (ybc hy')) e'))
  ·obtain⟨_,_,_,q,_⟩:=f2 b hb
   rcases q with q|q
   ·exact I2.ok.noex b o e q
   ·exact absurd (yai (yab e) (yao I2.ok.bsz q)) (yb3 _)
 have I':Inv (zad X scope cl' N' P2.objs.size s2 H2 fp xb) pins (σ' σ) H2 { s2 with heap:=h₁ }:=by
  refine⟨ok',rfl,I2.bare,Un.kept old,⟨_,hns₁,fun i y v h1 h2 h3=>?_⟩,fun y c e=>?_,fresh2 _ CS,?fc,fun p hp=>?_,I2.hok.kept old,hσ σ I2.len⟩
  case fc =>
   intro y c e
   rcases cells y c e with q|q
   ·exact I2.freeC y c q
   ·exact fresh2 c (yao CS (ycu q.1))
  ·obtain⟨hk,j,h4,h5,h6,h7⟩:=hvis σ i y v h1 h2;have hno:=hcap σ i y v h1 h2;obtain⟨m,hn',hl⟩:=I2.loc;obtain⟨u,r,l⟩:=hl j y v h4 h5 h6;obtain⟨c,hcc⟩:=has' y (hhas y hk);refine⟨u,r,.inr ⟨hk,c,hcc,?_⟩⟩
   rcases l with ⟨k1,_⟩|⟨_,c',e',z⟩
   ·exact absurd k1 h7
   ·rcases cells y c hcc with w|w
    ·rw[w]at e';cases e';obtain⟨o,ho,hd⟩:=z;exact⟨o,old _ _ ho,hd⟩
    ·exact absurd w.2.2 hno
  ·rcases cells y c e with w|w
   ·obtain⟨v,o,ho,hd⟩:=I2.cell y c w;exact⟨v,o,old _ _ ho,hd⟩
   ·exact⟨none,w.2.1⟩
  ·obtain⟨e1,e2,e3,e4,e5⟩:=I2.pin p hp;refine⟨old _ _ e1,e2,(below _ (yab e1)).1,fun z=>?_,e5⟩
   rcases yaj.mp (fsub _ z) with q|q
   ·exact e3 q
   ·exact e4 q
 have stat:∀{H':Hp},(∀b∈fp,H' b=none)->∀b∈fp,FpOk (zad X scope cl' N' P2.objs.size s2 H2 fp xb) pins H' b:=fun hn' b hb =>
  ⟨hn' b hb,(below b (fpold b hb)).1,fpfs b hb,.inl hb,cneF b (fpold b hb) fun y c e=>(f2 b hb).2.2.2.2.1 y c e,(f2 b hb).2.2.2.2.2⟩
 have Dok:∀{H':Hp},H' s2.heap.objs.size=none->FpOk (zad X scope cl' N' P2.objs.size s2 H2 fp xb) pins H' s2.heap.objs.size:=fun hn' =>
  ⟨hn',hDC,(fun z=>by
   obtain⟨o,ho,_⟩:=(I2.stack.mem z).2;exact absurd (yab ho) (yb3 _)),.inr (yaa _),cneD,fun p hp z=>absurd (yab (I2.pin p hp).1) (by rw[z];exact yb3 _)⟩
 have loop:∀s3:Shared,s3={ s2 with heap:=h₁ } ->
   codeAny (model X.prog X.w) X.A (.compLoop (.ListComp elt [⟨tg,iter,ifs,0⟩] scope pos) 0 (.ref it) (.ref s2.heap.objs.size) (compEnvC scope cl' P2.objs.size X.env))
    (compPost (model X.prog X.w) X.A X.xe use QQ (.ref s2.heap.objs.size) P2.objs.size) s3:=by
  rintro s3 rfl
  refine comp_loop2 hxb (fun m s'=>∃i ys τ H',m=n - i/\Inv (zad X scope cl' N' P2.objs.size s2 H2 fp xb) pins τ H' s'/\tn i s'.heap/\(∀b∈fp,H' b=none)/\H' s2.heap.objs.size=none/\(∃its:List Value,zbl ys its/\s'.heap.PlainList s2.heap.objs.size its.toArray)/\W i ys τ H')
   ?_ n ⟨0,[],σ' σ,H2,rfl,I',T.keep _ _ _ st2 fun b _ o e=>old b o e,fun b hb=>(f2 b hb).1,fresh2 _ (yaa _),⟨[],.nil,hacc⟩,w0⟩
  rintro m s4 ⟨i,ys,τ,H4,rfl,I4,st4,fr4,hD4,⟨its,rv,hpl⟩,w4⟩;obtain⟨hly,hin,c⟩:=turn i ys τ H4 w4
  have statp:∀{H':Hp},(∀b∈fp,H' b=none)->∀b∈fp,FpOk (zad X scope cl' N' P2.objs.size s2 H2 fp xb) (pins++zjq [s2.heap.objs.size] s4.heap) H' b:=fun {H'} fr' b hb=>by
    obtain⟨g1,g2,g3,g4,g5,g6⟩:=stat fr' b hb;refine⟨g1,g2,g3,g4,g5,fun p hp z=>?_⟩
    rcases yb7.mp hp with y|y
    ·exact g6 p (ybf _ y) z
    ·rcases yb7.mp y with y|y
     ·exact g6 p (yak _ y) z
     ·obtain⟨hb',_⟩:=of_pinsAt y;rw[z,yae]at hb';exact absurd (fpold b hb) (by rw[hb'];exact yb3 _)
  rcases c with ⟨stop,q⟩|⟨hlt,go,step⟩
  ·obtain⟨k,hDo⟩:=hpl;have I4p:=I4.pinned (fp:=[s2.heap.objs.size]) (fun b hb=>by rw[yae.mp hb];exact Dok hD4) (fun b hb=>by rw[yae.mp hb];exact⟨_,hDo,fun v z=>(by cases z)⟩)
   refine thn (T.done (zad X scope cl' N' P2.objs.size s2 H2 fp xb) rfl rfl rfl hc i _ s4 τ H4 _ I4p (statp fr4) st4 stop) fun r s5 ⟨hr,I5⟩=>?_
   subst hr;have hD5:s5.heap.get? s2.heap.objs.size=some { cls:=.type "list",data:=.seq its.toArray k }:=(I5.pin (s2.heap.objs.size,_) (yak _ (yak _ (zcs (yae.mpr rfl) hDo)))).1;obtain⟨m5,hn5,_⟩:=I5.loc;have fC:H4 P2.objs.size=none:=I5.free
   have U5:Un (frs X.stack) fp H2 (upd H4 s2.heap.objs.size (.lst ys)) s2.heap s5.heap:=by
    have B:=I5.base;refine⟨fun b o e1 e2 e3 e4=>B.keep b o e1 e2 e3 e4,fun b o e1 e2 e3 e4=>B.slot b o e1 e2 e3 e4,fun b o e1 e2 e4=>?_,fun b o e1 e4=>B.there b o e1 e4,fun b xs e1=>?_,fun b o u e1=>?_,fun b ps e1=>?_⟩
    ·rw[zam (below b (yab e1)).2];exact B.free b o e1 e2 e4
    ·have q':=B.tups b xs e1;rw[zam (zaq q' hD4)];exact q'
    ·have q':=B.frzs b o u e1;rw[zam (zaq q' hD4)];exact q'
    ·obtain⟨more,q'⟩:=B.tbls b ps e1;exact⟨more,by rw[zam (zaq q' hD4)];exact q'⟩
   have hzy:ys.length<=sizeLine:=yao hly (yao hin hn);have HK:HOk X.prog X.w (upd H4 s2.heap.objs.size (.lst ys)) s5.heap:=Zw.HOk.adopt I5.hok hD4 ⟨hzy,its,k,rv,hD5⟩;have os5:s5.os=s2.os:=I5.os
   have IX:Inv X pins σ (upd H4 s2.heap.objs.size (.lst ys)) s5:=I2.call' (s':=s5) (ch:=fp) os5 U5 HK I5.bare (fun b hb=>by
    obtain⟨g1,g2,g3,g4,g5,g6⟩:=f2 b hb;exact⟨g4,g2,g5,g6⟩)
   refine hend s2.heap.objs.size P2.objs.size s5 _ IX (q _ hD4) ⟨m5,hn5⟩ ?_;have CL:s2.heap.objs.size<=P2.objs.size:=CS;have fp0:FpOk X pins H2 P2.objs.size:=I2.fpOk CS (fresh2 _ CS);exact⟨by rw[zam (yaz hDC)];exact fC,fp0.2⟩
  ·obtain⟨k,hDo⟩:=hpl;have I4p:=I4.pinned (fp:=[s2.heap.objs.size]) (fun b hb=>by rw[yae.mp hb];exact Dok hD4) (fun b hb=>by rw[yae.mp hb];exact⟨_,hDo,fun v z=>(by cases z)⟩)
   refine thn (T.item (zad X scope cl' N' P2.objs.size s2 H2 fp xb) rfl rfl rfl hc i _ s4 τ H4 _ I4p (statp fr4) st4 go) fun r s5 ⟨u,hr,h5⟩=>?_
   subst hr;refine thn h5 fun _ s6 ⟨x,H6,I6,r6,y6,st6,fr6⟩=>?_
   have I6':=I6.pinned (statp fr6) (T.obj _ _ st6);refine thn (hg _ _ _ _ _ _ hpb _ s6 τ H6 x u _ I6' r6 (step x H6 y6)) fun _ s7 ⟨τ7,H7,I7,q7⟩=>?_
   refine thn (ht _ _ _ _ _ _ hpb _ s7 τ7 H7 _ I7 q7) fun ok s7b ⟨H7b,I7b,q7b⟩=>?_
   have fin:∀{H8:Hp} {s8:Shared} {τ8:L2.St},Inv (zad X scope cl' N' P2.objs.size s2 H2 fp xb) (pins++zjq [s2.heap.objs.size] s4.heap++zjq fp s6.heap) τ8 H8 s8->∀h9:Heap,(∀b o,b≠s2.heap.objs.size->s8.heap.get? b=some o->h9.get? b=some o)->tn (i+1) h9/\∀b∈fp,H8 b=none:=fun {H8 s8 τ8} I8 h9 sb=>by
    refine⟨T.keep _ _ _ st6 fun b hb o e=>?_,fun b hb=>?_⟩
    ·exact sb b o (below b (fpold b hb)).2 (I8.pin (b,o) (yak _ (yak _ (zcs hb e)))).1
    ·obtain⟨o,e,d⟩:=T.obj _ _ st6 b hb;exact(I8.pin (b,o) (yak _ (yak _ (zcs hb e)))).2.1
   cases ok with
   |false =>
    rw[if_neg (by decide)]at q7b ⊢
    have hD8:=I7b.pin (s2.heap.objs.size,_) (yak _ (ybf _ (yak _ (zcs (yae.mpr rfl) hDo))));obtain⟨t9,f9⟩:=fin I7b s7b.heap fun b o _ e=>e
    exact⟨n - (i+1),by omega,i+1,ys,τ7,H7b,rfl,I7b.unpinned.unpinned,t9,f9,hD8.2.1,⟨its,rv,k,hD8.1⟩,q7b⟩
   |true =>
    rw[if_pos rfl]at q7b ⊢;refine thn (he _ _ _ _ _ _ hpb _ s7b τ7 H7b _ I7b q7b) fun uy s8 ⟨y,H8,I8,ry,w8⟩=>?_
    have hD8:=I8.pin (s2.heap.objs.size,_) (yak _ (ybf _ (yak _ (zcs (yae.mpr rfl) hDo))));have P8:s8.heap.PlainList s2.heap.objs.size its.toArray:=⟨k,hD8.1⟩;have hlen:=rv.length;refine wpAny_list_append_plain P8 (fun h' pl' sb=>?_) (by rw[yad,<- hlen];omega)
    have I8u:Inv (zad X scope cl' N' P2.objs.size s2 H2 fp xb) pins τ7 H8 s8:=I8.unpinned.unpinned;obtain⟨d1,d2,d3,d4,d5,d6⟩:=Dok hD8.2.1;have I9:Inv (zad X scope cl' N' P2.objs.size s2 H2 fp xb) pins τ7 H8 { s8 with heap:=h' }:=I8u.turned (t':=s8.toks) (fun b o hb e=>(sb.2 b hb).trans e) d1 d2 d4 d5 d6
    obtain⟨t9,f9⟩:=fin I8 h' fun b o hb e=>(sb.2 b hb).trans e
    exact⟨n - (i+1),by omega,i+1,ys++[y],τ7,H8,rfl,I9,t9,f9,hD8.2.1,⟨its++[uy],rv.append (.cons ry .nil),by simpa using pl'⟩,w8⟩
 refine codeAny_compStart_list (loop _ rfl) (T.self _ 0 _ _ _ (T.keep _ _ _ st2 fun b _ o e=>old b o e) (loop _ rfl))
theorem lc_val(σ':L2.St->L2.St)(hclos:closureFor scope X.env=pure cl)(hkind:scope.kind=.function)(hnames:∀y∈scope.names,y.2=.local->scope.names.lookup y.1=some .local)
  (hcl:∀y c,cl.lookup y=some c->X.env.cells.lookup y=some c) (hhas:∀y,(relabel scope X.env).names.lookup y=some .cell\/(relabel scope X.env).names.lookup y=some .free->(y,NameKind.cell)∈scope.names\/∃c,cl.lookup y=some c) (hcap:∀(σ:L2.St) (i:Nat) (y:Str) (v:V),N'[i]?=some y->(σ' σ)[i]?=some (some v)->(y,NameKind.cell)∉scope.names)
  (hσ:∀σ:L2.St,σ.length=X.N.length->(σ' σ).length=N'.length)
  (hvis:∀(σ:L2.St) (i:Nat) (y:Str) (v:V),N'[i]?=some y->(σ' σ)[i]?=some (some v)->((relabel scope X.env).names.lookup y=some .cell\/(relabel scope X.env).names.lookup y=some .free)/\∃j:Nat,X.N[j]?=some y/\σ[j]?=some (some v)/\Vis X.env.scope y/\X.env.kindOf y≠some .local)
  (hc:X.calm=true) (hi:PI X tg iter wi) {E:L2.St->XK} (hps:zbo X E) (hst:FrOk X) {σ:L2.St} (hg:∀cl C s₀ H₀ ex xb,zbo (zad X scope cl N' C s₀ H₀ ex xb) (fun _=>E σ)->PG (zad X scope cl N' C s₀ H₀ ex xb) tg g) (ht:∀cl C s₀ H₀ ex xb,zbo (zad X scope cl N' C s₀ H₀ ex xb) (fun _=>E σ)->PTs (zad X scope cl N' C s₀ H₀ ex xb) ifs tt) (he:∀cl C s₀ H₀ ex xb,zbo (zad X scope cl N' C s₀ H₀ ex xb) (fun _=>E σ)->PE (zad X scope cl N' C s₀ H₀ ex xb) elt te)
  (hs:∀x,foldedSetIterable iter X.env x=pure x) {pins:List (Addr×Obj)} {s:Shared} {H:Hp} {Q:VK} (I:Inv X pins σ H s) (h:tLC2 σ' wi g tt te σ H Q) :
  wpAny (model X.prog X.w) X.A (eval (.ListComp elt [⟨tg,iter,ifs,0⟩] scope pos) X.env) (EP X pins σ Q) X.xe s:=by
 rw[eval_ListComp];refine lc_any σ' hclos hkind hnames hcl hhas hcap hσ hvis hc hi hps hst hg ht he hs I h fun D C s5 H5 I5 q5 ⟨m,hm⟩ f=>⟨m,hm,fun h' sb=>?_⟩
 exact⟨.ref D,H5,turnedN (t':=s5.toks) (ch:=[C]) I5 (fun b o hb e=>(sb.2 b (fun z=>hb (by simp[z]))).trans e) (fun b hb=>by rw[yae.mp hb];exact f),rfl,q5⟩
theorem lc_set(σ':L2.St->L2.St)(hclos:closureFor scope X.env=pure cl)(hkind:scope.kind=.function)(hnames:∀y∈scope.names,y.2=.local->scope.names.lookup y.1=some .local)
  (hcl:∀y c,cl.lookup y=some c->X.env.cells.lookup y=some c) (hhas:∀y,(relabel scope X.env).names.lookup y=some .cell\/(relabel scope X.env).names.lookup y=some .free->(y,NameKind.cell)∈scope.names\/∃c,cl.lookup y=some c) (hcap:∀(σ:L2.St) (i:Nat) (y:Str) (v:V),N'[i]?=some y->(σ' σ)[i]?=some (some v)->(y,NameKind.cell)∉scope.names)
  (hσ:∀σ:L2.St,σ.length=X.N.length->(σ' σ).length=N'.length)
  (hvis:∀(σ:L2.St) (i:Nat) (y:Str) (v:V),N'[i]?=some y->(σ' σ)[i]?=some (some v)->((relabel scope X.env).names.lookup y=some .cell\/(relabel scope X.env).names.lookup y=some .free)/\∃j:Nat,X.N[j]?=some y/\σ[j]?=some (some v)/\Vis X.env.scope y/\X.env.kindOf y≠some .local)
  (hc:X.calm=true) (hi:PI X tg iter wi) {E:L2.St->XK} (hps:zbo X E) (hst:FrOk X) {σ:L2.St} (hg:∀cl C s₀ H₀ ex xb,zbo (zad X scope cl N' C s₀ H₀ ex xb) (fun _=>E σ)->PG (zad X scope cl N' C s₀ H₀ ex xb) tg g) (ht:∀cl C s₀ H₀ ex xb,zbo (zad X scope cl N' C s₀ H₀ ex xb) (fun _=>E σ)->PTs (zad X scope cl N' C s₀ H₀ ex xb) ifs tt) (he:∀cl C s₀ H₀ ex xb,zbo (zad X scope cl N' C s₀ H₀ ex xb) (fun _=>E σ)->PE (zad X scope cl N' C s₀ H₀ ex xb) elt te)
  (hs:∀x,foldedSetIterable iter X.env x=pure x) {pins:List (Addr×Obj)} {s:Shared} {H:Hp} {D:Ends} {i:Nat} {x:Str} {pos':Pos} (hN:X.N.Nodup) (hix:X.N[i]?=some x) (hx:X.env.scope.names.lookup x=some .local)
  (hsw:swapsWith (.ListComp elt [⟨tg,iter,ifs,0⟩] scope pos) (some (.Name x pos')) pos2.line X.env=pure true)
  (I:Inv X pins σ H s) (h:tLC2 σ' wi g tt te σ H fun v H1=>D.nx (σ.set i (some v)) H1) :
  wpAny (model X.prog X.w) X.A (exec (.Assign [.Name x pos'] (.ListComp elt [⟨tg,iter,ifs,0⟩] scope pos) pos2) X.env) (SP X pins D) X.xe s:=by
 rw[exec_Assign_Name_used _ _ _ _ hsw];refine wpAny_bind (wpAny_standAt (wpAny_bind ?_));show wpAny _ X.A (do let _ <- comprehension (.ListComp elt [⟨tg,iter,ifs,0⟩] scope pos) scope X.env _ (newList []) false (eval iter X.env) (some (assign (.Name x pos') X.env))) _ _ s
 refine wpAny_bind (wpAny_mono (lc_any (QQ:=fun _ s'=>SP X pins D .next s') σ' hclos hkind hnames hcl hhas hcap hσ hvis hc hi hps hst hg ht he hs I h fun A C s5 H5 I5 q5 ⟨m,hm⟩ f=>?_) (fun _ s' hq=>wpAny_pure (wpAny_pure hq)) fun _ _ e=>e)
 show wpAny _ X.A (assign (.Name x pos') X.env (.ref A)) _ _ _;refine wpAny_assign_Name (store_ok2 I5 hN hix (.inl hx) (v:=.ref A) rfl (fun s6 I6 ⟨a,sb,ha⟩=>?_) (.inr hx))
 have hCa:C≠a:=by
  rcases ha with rfl|ha
  ·exact f.2.1
  ·exact fun z=>f.2.2.2.2.1 x a ha z.symm
 refine⟨m,hm.sameBut sb hCa,fun h' sb2=>⟨_,H5,turnedN (t':=s6.toks) (ch:=[C]) I6 (fun b o hb e=>(sb2.2 b (fun z=>hb (by simp[z]))).trans e) (fun b hb=>by rw[yae.mp hb];exact f),q5⟩⟩
end
end Pu
set_option Elab.async false
set_option linter.all false
set_option maxRecDepth 100000
namespace Pu
open PySem PySem.Spec PyProof.Rows L2 Zw Zx
structure RpO(K:PySem.W.Frag)(F H:Hp)(l:List T)(xs:List V)(R:Nat->Rg):Prop where
 len:l.length=xs.length
 rep:∀(i:Nat) (t:T) (x:V),l[i]?=some t->xs[i]?=some x->Rp K F H t x (R i)
 dis:∀i j a,i≠j->R i a->¬ R j a
 out:∀i a,R i a->i<l.length
section
variable {K:PySem.W.Frag}{F H F1 H1:Hp}{l:List T}{xs:List V}{R:Nat->Rg}{B:Rg}
theorem RpO.nil:RpO K F H [] [] (fun _=>R0):=⟨rfl,fun i t x h=>by simp at h,fun _ _ _ _ z=>z.elim,fun _ _ z=>z.elim⟩
theorem RpO.dom(h:RpO K F H l xs R){i:Nat}{a:Addr}(z:R i a):F a=none/\∃u,H a=some u:=by
 have hi:=h.out i a z;have hx:i<xs.length:=by have:=h.len;omega
 exact(h.rep i _ _ (ya0 hi) (ya0 hx)).dom z
theorem RpO.ext(h:RpO K F H l xs R)(e:Ext F H F1 H1 B):RpO K F1 H1 l xs R:=⟨h.len,fun i t x h1 h2=>(h.rep i t x h1 h2).ext e,h.dis,h.out⟩
theorem RpO.apart(h:RpO K F H l xs R)(e:Ext F H F1 H1 B){b:Addr}(hb:B b)(i:Nat):¬ R i b:=fun z=>by
 obtain⟨f,u,q⟩:=h.dom z;rw[e.nb b hb]at q;cases q
theorem RpO.snoc(h:RpO K F H l xs R){t:T}{x:V}(r:Rp K F H t x B)(d:∀i a,R i a->¬ B a):RpO K F H (l++[t]) (xs++[x]) (fun j=>if j=l.length then B else R j):=by
 have hl:=h.len;refine⟨by simp[hl],fun i t' x' h1 h2=>?_,fun i j a hij z1 z2=>?_,fun i a z=>?_⟩
 ·by_cases hi:i=l.length
  ·subst hi;rw[if_pos rfl];have e1:t=t':=by simpa using h1
   have e2:x=x':=by rw[hl]at h2;simpa using h2
   subst e1;subst e2;exact r
  ·rw[if_neg hi]
   have hlt:i<l.length:=by
    have:=(ya6.mp h1).1;simp at this
    omega
   rw[yas hlt]at h1;rw[yas (by omega)]at h2
   exact h.rep i t' x' h1 h2
 ·by_cases hi:i=l.length
  ·simp only[hi,if_true]at z1;have hj:¬ j=l.length:=fun z=>hij (hi.trans z.symm)
   simp only[hj,if_false]at z2;exact d j a z2 z1
  ·simp only[hi,if_false]at z1
   by_cases hj:j=l.length
   ·simp only[hj,if_true]at z2;exact d i a z1 z2
   ·simp only[hj,if_false]at z2;exact h.dis i j a hij z1 z2
 ·by_cases hi:i=l.length
  ·simp[hi]
  ·simp only[hi,if_false]at z;have:=h.out i a z;simp
   omega
theorem RpO.cons(h:RpO K F H l xs R){t:T}{x:V}(r:Rp K F H t x B)(d:∀i a,R i a->¬ B a):RpO K F H (t::l) (x::xs) (fun j=>match j with|0=>B|j+1=>R j):=by
 refine⟨by simp[h.len],fun i t' x' h1 h2=>?_,fun i j a hij z1 z2=>?_,fun i a z=>?_⟩
 ·cases i with
  |zero =>
   simp at h1 h2;subst h1;subst h2;exact r
  |succ i=>exact h.rep i t' x' (by simpa using h1) (by simpa using h2)
 ·cases i with
  |zero =>
   cases j with
   |zero=>exact hij rfl
   |succ j=>exact d j a z2 z1
  |succ i =>
   cases j with
   |zero=>exact d i a z1 z2
   |succ j=>exact h.dis i j a (fun z=>hij (by rw[z])) z1 z2
 ·cases i with
  |zero=>simp
  |succ i=>have:=h.out i a z;simp;omega
theorem RpO.r0(h:RpO K F H l xs R)(s:shL l=true):Rps K F l xs:=⟨h.len,fun i t x h1 h2=>(h.rep i t x h1 h2).move (shL_get s h1) (.refl _)⟩
theorem RpO.list(h:RpO K F H l xs R)(s:zbs F H){p:Addr}(hp:H p=none):Rp K F (upd H p (.lst xs)) (.own l) (.ref p) (fun a=>a=p\/∃i,R i a)/\Ext F H F (upd H p (.lst xs)) (fun a=>a=p):=by
 have e:=Ext.newO (o:=.lst xs) s hp;have h':=h.ext e;exact⟨.own (k:=.lst) trivial R (zbm s hp) zay h.len h'.rep h.dis (fun i z=>h.apart e rfl i z) h.out,e⟩
end
def mIx(ma mk:PSt->Option Rs):PSt->Option Rs:=fun τ=>match ma τ with
 |some (.v t b)=>(match mk τ with
  |some (.v (.int i) _)=>(match t with
   |.nd _ _ l=>(match atI l i with
    |some c=>some (.v c (b && !c.sh))
    |none=>none)
   |.str z=>if z.length<=lim then (match atI z.cps.toList i with
    |some c=>some (.v (.str ⟨#[c]⟩) false)
    |none=>none) else none
   |_=>none)
  |some (.v _ _)=>none
  |r=>r)
 |r=>r
theorem atI_two{α β:Type}{l:List α}{m:List β}{i:Int}{c:α}(e:l.length=m.length)(h:atI l i=some c):∃(j:Nat) (d:β),l[j]?=some c/\m[j]?=some d/\atI m i=some d:=by
 unfold atI at h ⊢;rw[<- e];cases q:ixN l.length i with
 |none=>rw[q]at h;cases h
 |some j =>
  rw[q]at h;have h':l[j]?=some c:=h
  have hj:j<m.length:=by
   have:=(ya6.mp h').1
   omega
  exact⟨j,m[j],h',ya0 hj,ya0 hj⟩
section
variable {K:PySem.W.Frag}{F H:Hp}
theorem Rp.seq{o:Bool}{k:Kd}{l:List T}{x:V}{A:Rg}(s:zbs F H)(h:Rp K F H (.nd o k l) x A):∃p xs,x=.ref p/\(SqL K H p xs\/SqT K H p xs)/\l.length=xs.length/\∀(i:Nat) (t:T) (x:V),l[i]?=some t->xs[i]?=some x->∃B,(∀a,B a->A a)/\Rp K F H t x B:=by
 cases h with
 |@shr k p xs l h e c =>
  refine⟨p,xs,rfl,?_,e,fun i t x h1 h2=>⟨R0,fun _ z=>z.elim,c i t x h1 h2⟩⟩
  cases k with
  |lst=>exact .inl (SqL.of (s _ _ h))
  |rl=>exact .inl (s.seq h)
  |tup=>exact .inr (SqT.of (s _ _ h))
  |rt=>exact .inr (zd4 s h)
  |pin q=>exact .inl (SqL.of (s _ _ h))
 |@own k0 p xs l hk R f h e c d dp o=>exact⟨p,xs,rfl,.inl (SqL.of h),e,fun i t x h1 h2=>⟨R i,fun a z=>.inr ⟨i,z⟩,c i t x h1 h2⟩⟩
end
section
variable {X:Cx}{E:L2.St->XK}{ca:Str->Value}{σ:L2.St}{H:Hp}{m ma mb mc:PSt->Option Rs}{ms:PSt->Option RsL}{K:PySem.W.Frag}{a b c e:Expr}{es:List Expr}{pos:Pos}
theorem tM_ix{Q:VK}(h:tM K E ca (mIx ma mb) σ H Q):tOp (rIx K) (tM K E ca ma) (tM K E ca mb) σ H Q:=by
 obtain⟨F,τ,R,S,q⟩:=h;refine⟨F,τ,R,S,?_⟩;unfold mIx at q;cases hm:ma τ with
 |none=>simp only[hm]at q
 |some r =>
  simp only[hm]at q;cases r with
  |x c=>exact q
  |v t bb =>
   intro F1 H1 x B e1 g1;have S1:=S.ext e1;refine⟨F1,τ,R,S1,?_⟩;cases hk:mb τ with
   |none=>simp only[hk]at q
   |some r =>
    simp only[hk]at q;cases r with
    |x c=>exact fun F' H' e=>q F' H' ((e1.trans e).mono fun _ z=>z.elim)
    |v tk bk =>
     cases tk with
     |int i =>
      intro F2 H2 y C e2 g2
      have hy:y=.int i:=by
       cases bk with
       |true=>obtain⟨_,A,_,r⟩:=g2;exact r.int_inv
       |false=>exact(show Rp K F2 H2 _ _ _ from g2).int_inv
      subst hy;have e02:Ext F H F2 H2 B:=(e1.trans e2).mono fun _ z=>.inl z
      have S2:=S1.ext e2;cases t with
      |nd o k l =>
       simp only at q;cases hc:atI l i with
       |none=>simp only[hc]at q
       |some cc =>
        simp only[hc]at q
        have node:∃A0,(bb=true->∀a,A0 a->tot R a)/\(bb=false->∀a,A0 a->B a)/\Rp K F2 H2 (.nd o k l) x A0:=by
         cases bb with
         |true =>
          obtain⟨_,A,hA,r⟩:=g1;exact⟨A,fun _=>hA,(fun z=>by cases z),r.ext e2⟩
         |false=>exact⟨B,(fun z=>by cases z),fun _ _ z=>z,(show Rp K F1 H1 _ _ _ from g1).ext e2⟩
        obtain⟨A0,hA1,hA2,rn⟩:=node;obtain⟨p,xs,rfl,hq,hl,kids⟩:=Rp.seq S2.fh rn;obtain⟨j,d,h1,h2,h3⟩:=atI_two hl hc;obtain⟨A1,hA,rk⟩:=kids j cc d h1 h2
        have qq:Q d H2:=by
         cases bb with
         |false=>exact q F2 H2 d A1 (e02.mono fun a z=>hA2 rfl a (hA a z)) rk
         |true =>
          cases hs:cc.sh with
          |true =>
           rw[hs]at q;exact q F2 H2 d R0 (e02.mono fun _ z=>z.elim) (rk.move hs (.refl _))
          |false =>
           rw[hs]at q;exact q F2 H2 d R0 (e02.mono fun _ z=>z.elim) ⟨rfl,A1,fun a z=>hA1 rfl a (hA a z),rk⟩
        rcases hq with hq|hq
        ·exact .inl ⟨p,xs,i,d,rfl,rfl,hq,h3,qq⟩
        ·exact .inr (.inl ⟨p,xs,i,d,rfl,rfl,hq,h3,qq⟩)
      |str z =>
       by_cases hz:z.length<=lim
       ·simp only[hz,if_true]at q;cases hc:atI z.cps.toList i with
        |none=>simp only[hc]at q
        |some cc =>
         simp only[hc]at q
         have hx:x=.str z:=by
          cases bb with
          |true=>obtain⟨_,A,_,r⟩:=g1;exact r.str_inv
          |false=>exact(show Rp K F1 H1 _ _ _ from g1).str_inv
         subst hx;exact .inr (.inr ⟨z,i,cc,rfl,rfl,by rw[<- zfd];exact hz,hc,q F2 H2 _ R0 (e02.mono fun _ z=>z.elim) (.str _)⟩)
       ·simp only[hz,if_false]at q
      |_=>exact q.elim
     |_=>exact q.elim
theorem r_ix(ha:PE X a (tM X.K E ca ma))(hb:PE X b (tM X.K E ca mb))(hs:PlainIx b):PE X (.Subscript a b pos) (tM X.K E ca (mIx ma mb)):=PE.weak (pe_ix ix_seq ha hb hs) fun σ H Q h=>tM_ix h
def zhr{α:Type}(l:List α)(lo hi:Option Int):List α:=(l.drop (HT.sIx l.length 0 lo)).take (HT.sIx l.length l.length hi - HT.sIx l.length 0 lo)
def zjw(m:Option (PSt->Option Rs)):PSt->Option (Option Int):=fun τ=>match m with
 |none=>some none
 |some m=>match m τ with
  |some (.v (.int i) _)=>some (some i)
  |_=>none
def mSl(ma:PSt->Option Rs)(ml mh:Option (PSt->Option Rs)):PSt->Option Rs:=fun τ=>match ma τ with
 |some (.v t false)=>(match zjw ml τ with
  |some lo=>(match zjw mh τ with
   |some hi=>(match t with
    |.nd _ .lst l=>some (.v (.own (zhr (zb9 l) lo hi)) false)
    |.nd _ .rl l=>some (.v (.own (zhr (zb9 l) lo hi)) false)
    |_=>none)
   |none=>none)
  |none=>none)
 |some (.v _ true)=>none
 |r=>r
def tPo(K:PySem.W.Frag)(m:Option (PSt->Option Rs)):TO:=fun σ H Q=>∃F τ R o,StR K F H σ τ R/\zjw m τ=some o/\∀F' H',Ext F H F' H' R0->Q o H'
theorem r_po0:PO X none (tPo X.K none):=fun pins s σ H Q I h=>by
 obtain⟨F,τ,R,o,S,e,q⟩:=h;cases e;exact po_none pins s σ H Q I (q F H (Ext.refl S.fh))
theorem r_po1(ha:PE X e (tM X.K E ca m)):PO X (some e) (tPo X.K (some m)):=fun pins s σ H Q I h=>by
 obtain⟨F,τ,R,o,S,e',q⟩:=h;refine po_some ha pins s σ H Q I ⟨F,τ,R,S,?_⟩;unfold zjw at e';simp only at e';cases hm:m τ with
 |none=>rw[hm]at e';cases e'
 |some r =>
  rw[hm]at e';cases r with
  |x c=>cases e'
  |v v b =>
   cases v with
   |int i =>
    cases e';intro F' H' x B e g
    have hx:x=.int i:=by
     cases b with
     |true=>obtain⟨_,A,_,r⟩:=g;exact r.int_inv
     |false=>exact(show Rp X.K F' H' _ _ _ from g).int_inv
    exact⟨i,hx,q F' H' (e.mono fun _ z=>z.elim)⟩
   |_=>cases e'
theorem cutL_rps{F:Hp}{l:List T}{xs:List V}(r:Rps K F l xs)(lo hi:Option Int):Rps K F (zhr l lo hi) (cutV xs lo hi):=by
 have hl:=r.1;unfold zhr cutV;rw[hl];refine⟨by simp[hl],fun i t x h1 h2=>?_⟩
 rw[List.getElem?_take]at h1 h2;split at h1
 ·rename_i hi';rw[if_pos hi',ycb]at h2;rw[ycb]at h1;exact r.2 _ t x h1 h2
 ·cases h1
theorem r_slice{lo hi:Option Expr}{ml mh:Option (PSt->Option Rs)}{p2:Pos}(ha:PE X a (tM X.K E ca ma))(hl:PO X lo (tPo X.K ml))(hh:PO X hi (tPo X.K mh)):PE X (.Subscript a (.Slice lo hi none p2) pos) (tM X.K E ca (mSl ma ml mh)):=by
 refine PE.weak (pe_slice sl_list ha hl hh) fun σ H Q h=>?_
 obtain⟨F,τ,R,S,q⟩:=h;refine⟨F,τ,R,S,?_⟩;unfold mSl at q;cases hm:ma τ with
 |none=>simp only[hm]at q
 |some r =>
  simp only[hm]at q;cases r with
  |x c=>exact q
  |v t bb =>
   cases bb with
   |true=>exact q.elim
   |false =>
    intro F1 H1 x B e1 g1;obtain⟨F1',e1',_,r1⟩:=Got.frz (b:=false) S e1 g1;have S1:=S.ext e1';simp only at q;cases h1:zjw ml τ with
    |none=>simp only[h1]at q
    |some lo' =>
     simp only[h1]at q;refine⟨F1',τ,R,lo',S1,h1,fun F2 H2 e2=>?_⟩
     have S2:=S1.ext e2;cases h2:zjw mh τ with
     |none=>simp only[h2]at q
     |some hi' =>
      simp only[h2]at q;refine⟨F2,τ,R,hi',S2,h2,fun F3 H3 e3=>?_⟩
      have S3:=S2.ext e3;have e03:=e1'.trans0 (e2.trans0 e3);have r3:Rp X.K F3 F3 t.share x R0:=(show Rp X.K F1' F1' t.share x R0 from r1).frame (e2.ff.trans e3.ff) fun _ z=>z.elim
      have key:∀{o:Bool} {k:Kd} {l:List T},t=.nd o k l->(k=.lst\/k=.rl)->(∀F' H' x B,Ext F H F' H' B->Rp X.K F' H' (.own (zhr (zb9 l) lo' hi')) x B->Q x H')->rSlL X.K x lo' hi' H3 Q:=by
       intro o k l et hk qq;subst et;rw[T.share]at r3;obtain⟨p,xs,rfl,_,n3,k3⟩:=zda r3
       have sq:SqL X.K H3 p xs:=by
        rcases hk with rfl|rfl
        ·exact SqL.of (S3.fh _ _ n3)
        ·exact S3.fh.seq n3
       refine⟨p,xs,rfl,sq,fun p' hp'=>?_⟩
       have gg:zll X.K F3 H3 (.own (zhr (zb9 l) lo' hi')) Q:=fun F' H' z C e g=>qq F' H' z C (e03.trans0 e) g
       exact gg.list S3.fh (cutL_rps k3 lo' hi') hp'
      cases t with
      |nd o k l =>
       cases k with
       |lst=>exact key rfl (.inl rfl) q
       |rl=>exact key rfl (.inr rfl) q
       |tup=>exact q.elim
       |rt=>exact q.elim
       |pin _=>exact q.elim
      |_=>exact q.elim
def tMo(K:PySem.W.Frag)(E:L2.St->XK)(ca:Str->Value)(m:PSt->Option RsL):TA:=fun σ H Q=>∃F τ R,StR K F H σ τ R/\match m τ with
 |some (.v ts _)=>∀F' H' xs (Rr:Nat->Rg),Ext F H F' H' (tot Rr)->RpO K F' H' ts xs Rr->Q xs H'
 |some (.x c)=>∀F' H',Ext F H F' H' R0->E σ (ca c) none H'
 |none=>False
def zac(m:PSt->Option Rs)(ms:PSt->Option RsL):PSt->Option RsL:=fun τ=>match m τ with
 |some (.v t false)=>(match ms τ with
  |some (.v ts _)=>some (.v (t::ts) false)
  |r=>r)
 |some (.v _ true)=>none
 |some (.x c)=>some (.x c)
 |none=>none
theorem r_nilO:PA X [] (tMo X.K E ca za6):=PA.weak zfb fun σ H Q h=>by
 obtain⟨F,τ,R,S,q⟩:=h;exact q F H [] (fun _=>R0) ((Ext.refl S.fh).mono fun a ⟨i,z⟩=>z.elim) .nil
theorem r_consO(ha:PE X e (tM X.K E ca m))(hr:PA X es (tMo X.K E ca ms))(hs:starEach (e::es) X.env=(false,eval e X.env)::starEach es X.env):PA X (e::es) (tMo X.K E ca (zac m ms)):=by
 refine PA.weak (zbw ha hr hs) fun σ H Q h=>?_
 obtain⟨F,τ,R,S,q⟩:=h;refine⟨F,τ,R,S,?_⟩;unfold zac at q;cases hm:m τ with
 |none=>simp only[hm]at q
 |some r =>
  simp only[hm]at q;cases r with
  |x c=>exact q
  |v t bb =>
   cases bb with
   |true=>exact q.elim
   |false =>
    intro F1 H1 x B e1 g1;have S1:=S.ext e1;refine⟨F1,τ,R,S1,?_⟩;simp only at q;cases hs:ms τ with
    |none=>simp only[hs]at q
    |some r =>
     simp only[hs]at q;cases r with
     |x c=>exact fun F' H' e=>q F' H' ((e1.trans e).mono fun _ z=>z.elim)
     |v ts b' =>
      intro F2 H2 xs Rr e2 ro;have g1':Rp X.K F1 H1 t x B:=g1;refine q F2 H2 (x::xs) _ ((e1.trans e2).mono ?_) (ro.cons (g1'.ext e2) fun i a z=>?_)
      ·rintro a ⟨j,z⟩;cases j with
       |zero=>exact .inl z
       |succ j=>exact .inr ⟨j,z⟩
      ·exact g1'.apart e2 ⟨i,z⟩
def zfi(ms:PSt->Option RsL):PSt->Option Rs:=fun τ=>match ms τ with
 |some (.v ts _)=>if ts.length<=lim then some (.v (.own ts) false) else none
 |some (.x c)=>some (.x c)
 |none=>none
theorem r_lst(h:PA X es (tMo X.K E ca ms)):PE X (.List es pos) (tM X.K E ca (zfi ms)):=by
 refine PE.weak (pe_lst h) fun σ H Q h=>?_
 obtain⟨F,τ,R,S,q⟩:=h;refine⟨F,τ,R,S,?_⟩;unfold zfi at q;cases hm:ms τ with
 |none=>simp only[hm]at q
 |some r =>
  simp only[hm]at q;cases r with
  |x c=>exact q
  |v ts b =>
   intro F1 H1 xs Rr e1 ro
   by_cases hz:ts.length<=lim
   ·simp only[hz,if_true]at q;refine⟨by rw[<- ro.len,<- zfd];exact hz,fun p hp=>?_⟩
    obtain⟨r,e2⟩:=ro.list e1.fh hp;refine q F1 _ _ _ ((e1.trans e2).mono ?_) r;rintro a (z|⟨i,z⟩)
    ·exact .inr z
    ·exact .inl ⟨i,z⟩
   ·simp only[hz,if_false]at q
def zgm(ms:PSt->Option RsL):PSt->Option Rs:=fun τ=>match ms τ with
 |some (.v ts false)=>if ts.length<=lim then some (.v (.tup ts) false) else none
 |some (.v _ true)=>none
 |some (.x c)=>some (.x c)
 |none=>none
theorem r_tup{k:Nat}(h:PA X es (tMs X.K E ca ms)):PE X (.Tuple es k pos) (tM X.K E ca (zgm ms)):=by
 refine PE.weak (pe_tup h) fun σ H Q h=>?_
 obtain⟨F,τ,R,S,q⟩:=h;refine⟨F,τ,R,S,?_⟩;unfold zgm at q;cases hm:ms τ with
 |none=>simp only[hm]at q
 |some r =>
  simp only[hm]at q;cases r with
  |x c=>exact q
  |v ts b =>
   cases b with
   |true=>exact q.elim
   |false =>
    intro F1 H1 xs e1 rs
    by_cases hz:ts.length<=lim
    ·simp only[hz,if_true]at q;refine⟨by rw[<- rs.1,<- zfd];exact hz,fun p hp=>?_⟩
     have gg:zll X.K F1 H1 (.tup ts) Q:=fun F' H' z C e g=>q F' H' z C (e1.trans0 e) g
     exact gg.tuple e1.fh rs hp
    ·simp only[hz,if_false]at q
theorem zlo{id:String}{x:Str}{p:Pos}{g:List T->Option T}(hc:zca X (.builtin id) (rTn X.K g))(hg:Gl X x)(hm:X.mg x=none)(hv:bootBuiltins x=some (.builtin id))(ha:PA X (e::es) (tMs X.K E ca ms))(hn:x≠"__name__")(hdb:(x == ("__debug__":Str))=false)
  (he:starEach (e::es) X.env=(false,eval e X.env)::starEach es X.env) (hpl:(backTo pos (starEach es X.env)).any (·.1)=false):PE X (.Call (.Name x p) (e::es) [] pos) (tM X.K E ca (mAp g ms)) :=
 PE.weak (zgc hc hg hm hv ha hn hdb he hpl) fun σ H Q h=>tM_ap h
theorem r_bltT{T':String}{x:Str}{p:Pos}{g:List T->Option T}(hc:zca X (.type T') (rTn X.K g))(hg:Gl X x)(hm:X.mg x=none)(hv:bootBuiltins x=some (.type T'))(ha:PA X (e::es) (tMs X.K E ca ms))(hn:x≠"__name__")(hdb:(x == ("__debug__":Str))=false)
  (he:starEach (e::es) X.env=(false,eval e X.env)::starEach es X.env) (hpl:(backTo pos (starEach es X.env)).any (·.1)=false):PE X (.Call (.Name x p) (e::es) [] pos) (tM X.K E ca (mAp g ms)) :=
 PE.weak (pe_callTy hc hg hm hv ha hn hdb he hpl) fun σ H Q h=>tM_ap h
end
end Pu
set_option Elab.async false
set_option linter.all false
set_option maxRecDepth 100000
namespace Pu
open PySem PySem.Spec PyProof.Rows L2 Zw Zx
def zik:T->Option T
 |.nd _ _ l=>some (.int l.length)
 |.str z=>if z.length<=lim then some (.int z.length) else none
 |_=>none
def zf0:T->Option T
 |.nd _ _ l=>some (.own l)
 |_=>none
def absT:T->Option T
 |.int i=>some (.int (if i<0 then -i else i))
 |_=>none
def minT:T->T->Option T
 |.int i,.int j=>some (.int (if j<i then j else i))
 |_,_=>none
def maxT:T->T->Option T
 |.int i,.int j=>some (.int (if j > i then j else i))
 |_,_=>none
def intsOf:List T->Option (List Int)
 |[]=>some []
 |.int i::r=>(intsOf r).map (i::·)
 |_=>none
def maxL(ns:List Int):Int:=ns.getD (argBest (fun i j=>decide (ns.getD i 0 > ns.getD j 0)) (ns.length - 1)) 0
def gMx:List T->Option T
 |[.nd _ .lst l]=>(match intsOf l with
  |some (i::r)=>some (.int (maxL (i::r)))
  |_=>none)
 |[t,u]=>maxT t u
 |_=>none
def zkv:List T->Option (List Bool)
 |[]=>some []
 |.bl b::r=>(match zkv r with
  |some l=>some (b::l)
  |none=>none)
 |_::_=>none
def allT:T->Option T
 |.nd _ .lst l=>(match zkv l with
  |some bs=>some (.bl (bs.all id))
  |none=>none)
 |_=>none
def anyT:T->Option T
 |.nd _ .lst l=>(match zkv l with
  |some bs=>some (.bl (bs.any id))
  |none=>none)
 |_=>none
def tyN:T->Option String
 |.non=>some "NoneType"
 |.bl _=>some "bool"
 |.int _=>some "int"
 |.str _=>some "str"
 |.nd _ .lst _=>some "list"
 |.nd _ .tup _=>some "tuple"
 |.dic _ _=>some "dict"
 |.pdc _ _=>some "dict"
 |_=>none
def tyCs:List String:=["int","bool","str","list","tuple"]
def subTy(a c:String):Bool:=a == c || (a == "bool" && c == "int")
def zdy(c:String)(t:T):Option T:=match tyN t with
 |some a=>if c∈tyCs then some (.bl (subTy a c)) else none
 |none=>none
theorem kitMeta_str:PySem.W.kitMeta "str"=true:=by decide +kernel
theorem kitMeta_list:PySem.W.kitMeta "list"=true:=by decide +kernel
theorem kit_ok(K:PySem.W.Frag){a c:String}(ha:a∈["NoneType","bool","int","str","list","tuple","dict"])(hc:c∈tyCs):PySem.W.kitOne K (.type a) (.type c)=some (subTy a c):=by
 have km:PySem.W.kitMeta c=true:=by
  simp only[tyCs,yaj,yba,or_false]at hc
  rcases hc with rfl|rfl|rfl|rfl|rfl
  ·exact kitMeta_int
  ·exact kitMeta_bool
  ·exact kitMeta_str
  ·exact kitMeta_list
  ·exact kitMeta_tuple
 by_cases h:a=c
 ·subst h;rw[kit_same];simp[subTy]
 ·refine kit_ne K (l:=[]) h km ?_;simp only[tyCs,yaj,yba,or_false]at hc ha
  rcases ha with rfl|rfl|rfl|rfl|rfl|rfl|rfl<;>rcases hc with rfl|rfl|rfl|rfl|rfl<;>first|exact absurd rfl h|decide +kernel
section
variable {X:Cx}
theorem callT_len:zca X (.builtin "len") (rTn X.K (g1 zik)):=by
 intro pins s σ H xs us Q I r h;obtain⟨F,ts,v,fh,rs,e,q⟩:=h;unfold g1 at e;split at e
 ·obtain⟨x1,xs1,rfl,r1,rs1⟩:=rs.inv;cases rs1.inv0;unfold zik at e;split at e
  ·cases e;obtain⟨p,ys,rfl,hq,hl,_⟩:=Rp.seq (H:=H) fh (r1.any);refine call_len pins s σ H _ us Q I r ⟨_,ys.length,rfl,?_,by rw[<- hl];exact q.int fh⟩
   rcases hq with hq|hq
   ·exact .inl ⟨ys,hq,rfl⟩
   ·exact .inr ⟨ys,hq,rfl⟩
  ·split at e
   ·cases e;rename_i hz;rw[r1.str_inv]at r;exact call_len pins s σ H _ us Q I r ⟨_,_,rfl,⟨by rw[<- zfd];exact hz,rfl⟩,q.int fh⟩
   ·cases e
  ·cases e
 ·cases e
theorem nodeS_seq{K:PySem.W.Frag}{F H:Hp}{k:Kd}{p:Addr}{xs:List V}(s:zbs F H)(h:zlk K F k p xs):SqL K H p xs\/SqT K H p xs:=by
 cases k with
 |lst=>exact .inl (SqL.of (s _ _ h))
 |rl=>exact .inl (s.seq h)
 |tup=>exact .inr (SqT.of (s _ _ h))
 |rt=>exact .inr (zd4 s h)
 |pin q=>exact .inl (SqL.of (s _ _ h))
theorem callT_list:zca X (.type "list") (rTn X.K (g1 zf0)):=by
 intro pins s σ H xs us Q I r h;obtain⟨F,ts,v,fh,rs,e,q⟩:=h;unfold g1 at e;split at e
 ·obtain⟨x1,xs1,rfl,r1,rs1⟩:=rs.inv;cases rs1.inv0;unfold zf0 at e;split at e
  ·cases e;obtain⟨p,ys,rfl,rfl,n1,k1⟩:=zda r1;have hq:SqL X.K H p ys\/SqT X.K H p ys:=nodeS_seq fh n1;exact call_list_of pins s σ H _ us Q I r ⟨p,ys,rfl,hq,fun l hl=>q.list fh k1 hl⟩
  ·cases e
 ·cases e
theorem callT_abs:zca X (.builtin "abs") (rTn X.K (g1 absT)):=by
 intro pins s σ H xs us Q I r h;obtain⟨F,ts,v,fh,rs,e,q⟩:=h;unfold g1 at e;split at e
 ·obtain⟨x1,xs1,rfl,r1,rs1⟩:=rs.inv;cases rs1.inv0;unfold absT at e;split at e
  ·cases e;rw[r1.int_inv]at r;exact call_abs pins s σ H _ us Q I r ⟨_,rfl,q.int fh⟩
  ·cases e
 ·cases e
theorem callT_two{f:String}{g:T->T->Option T}{gi:Int->Int->Int}(hc:zca X (.builtin f) (fun xs H Q=>∃i j,xs=[.int i,.int j]/\Q (.int (gi i j)) H))(hg:∀t u v,g t u=some v->∃i j,t=.int i/\u=.int j/\v=.int (gi i j)):zca X (.builtin f) (rTn X.K (g2 g)):=by
 intro pins s σ H xs us Q I r h;obtain⟨F,ts,v,fh,rs,e,q⟩:=h;unfold g2 at e;split at e
 ·obtain⟨x1,xs1,rfl,r1,rs1⟩:=rs.inv;obtain⟨x2,xs2,rfl,r2,rs2⟩:=rs1.inv;cases rs2.inv0;obtain⟨i,j,rfl,rfl,rfl⟩:=hg _ _ _ e;rw[r1.int_inv,r2.int_inv]at r;exact hc pins s σ H _ us Q I r ⟨_,_,rfl,q.int fh⟩
 ·cases e
theorem callT_min(hc:X.calm=true):zca X (.builtin "min") (rTn X.K (g2 minT)):=callT_two (call_min2 hc) fun t u v h=>by
 unfold minT at h;split at h
 ·cases h;exact⟨_,_,rfl,rfl,rfl⟩
 ·cases h
theorem callT_max(hc:X.calm=true):zca X (.builtin "max") (rTn X.K (g2 maxT)):=callT_two (call_max2 hc) fun t u v h=>by
 unfold maxT at h;split at h
 ·cases h;exact⟨_,_,rfl,rfl,rfl⟩
 ·cases h
theorem zlw{F:Hp}:∀{l:List T} {ns:List Int} {ys:List V} {its:List Value},intsOf l=some ns->Rps X.K F l ys->zbl ys its->∃xs:List (Int×Tok),its=xs.map (fun p=>.int p.1 p.2)/\xs.map (·.1)=ns
 |[],ns,ys,its,h,r,rv=>by
  cases h;cases r.inv0;cases rv;exact⟨[],rfl,rfl⟩
 |t::l,ns,ys,its,h,r,rv=>by
  cases t with
  |int i =>
   unfold intsOf at h;obtain⟨ms,hm,rfl⟩:=ya3.mp h;obtain⟨x,ys',rfl,r1,r2⟩:=r.inv;rw[r1.int_inv]at rv;cases rv with
   |cons ru rv =>
    obtain⟨tk,rfl⟩:=ru;obtain⟨xs,rfl,rfl⟩:=zlw hm r2 rv;exact⟨(i,tk)::xs,rfl,rfl⟩
  |_=>cases h
theorem callT_mx(hc:X.calm=true):zca X (.builtin "max") (rTn X.K gMx):=by
 intro pins s σ H xs us Q I r h;obtain⟨F,ts,v,fh,rs,e,q⟩:=h;unfold gMx at e;split at e
 ·split at e
  ·rename_i l i m hi;cases e;obtain⟨x1,xs1,rfl,r1,rs1⟩:=rs.inv;cases rs1.inv0;obtain⟨p,ys,rfl,_,n1,k1⟩:=zda r1;obtain⟨u,rfl,ru⟩:=vals1 r;cases ru;obtain⟨its,rv,pl,hz⟩:=I.list (SqL.of (fh _ _ n1):SqL X.K H p ys);obtain⟨zs,rfl,en⟩:=zlw hi k1 rv;have ez:(zs.map fun p=>Value.int p.1 p.2).toArray=intItems zs.toArray:=by simp[intItems]
   have ln:zs.length=(i::m).length:=by rw[<- en,ya1]
   have na:numAt zs.toArray=fun k=>(i::m).getD k 0:=funext fun k=>by
    rw[<- en];simp[numAt]
   refine max_intList (I.ok.hd hc) (ez▸pl.isList) (by rw[yad,ln];simp) fun v h' tk hv hk=>?_
   obtain⟨t,rfl⟩:=intItems_at hv;rw[yad,ln,na];exact⟨.int _,H,I.kept hk,⟨_,rfl⟩,q.int fh⟩
  ·cases e
 ·exact callT_max hc pins s σ H xs us Q I r ⟨F,_,v,fh,rs,e,q⟩
 ·cases e
theorem bools_get:∀{l:List T} {bs:List Bool},zkv l=some bs->l.length=bs.length/\∀(i:Nat) (t:T),l[i]?=some t->∃b,bs[i]?=some b/\t=.bl b
 |[],bs,h=>by cases h;exact⟨rfl,fun i t e=>by simp at e⟩
 |t::r,bs,h=>by
  unfold zkv at h;cases t with
  |bl b =>
   simp only at h;cases hr:zkv r with
   |none=>simp only[hr]at h;cases h
   |some l =>
    simp only[hr]at h;cases h;obtain⟨h1,h2⟩:=bools_get hr;refine⟨by simp[h1],fun i t e=>?_⟩
    cases i with
    |zero=>simp at e;exact⟨b,rfl,e.symm⟩
    |succ i=>exact h2 i t (by simpa using e)
  |_=>cases h
theorem range_all{bs:List Bool}{tr:Nat->Bool}(h:∀(i:Nat) (b:Bool),bs[i]?=some b->tr i=b):(List.range bs.length).all tr=bs.all id/\(List.range bs.length).any tr=bs.any id:=by
 have e:(List.range bs.length).map tr=bs:=by
  apply List.ext_getElem?;intro i;rw[ya5]
  by_cases hi:i<bs.length
  ·rw[yd3 hi,ya0 hi];simp only[ybh];rw[h i _ (ya0 hi)]
  ·rw[yb5 (by simp;omega),yb5 (by omega)]
   rfl
 constructor
 ·have:(List.range bs.length).all tr=((List.range bs.length).map tr).all id:=by rw[yde];rfl
  rw[this,e]
 ·have:(List.range bs.length).any tr=((List.range bs.length).map tr).any id:=by rw[List.any_map];rfl
  rw[this,e]
theorem walkB(hc:X.calm=true){pins:List (Addr×Obj)}{s:Shared}{σ:L2.St}{H:Hp}{F:Hp}{l:List T}{bs:List Bool}{p:Addr}{E':Value->Shared->Prop}{P:Value->Shared->Prop}{o:Bool}(I:Inv X pins σ H s)(fh:zbs F H)(r1:Rp X.K F F (.nd o .lst l) (.ref p) R0)(hb:zkv l=some bs)
  (hP : ∀ (I0 : Addr) (wr fp : List Addr) (St : Nat -> Heap -> Prop) (PP : Nat -> Value -> Prop) (tr : Nat -> Bool) (s2 : Shared), Walks X.prog X.w X.A.in1 I0 fp wr bs.length PP St -> St 0 s2.heap -> TruthOf X.prog X.w X.A.in1 PP tr -> (∀ (i : Nat) (b : Bool), bs[i]? = some b -> tr i = b) ->
   (∀h' tk,(∀b o,b∉wr->s2.heap.get? b=some o->h'.get? b=some o)->Inv X pins σ H { s2 with heap:=h',toks:=tk })->P (.ref I0) s2):wpAny (model X.prog X.w) X.A.in1 (pyIter (.ref p)) P E' s:=by
 obtain⟨p',ys,e',rfl,n1,k1⟩:=zda r1;cases e';obtain⟨hlen,hget⟩:=bools_get hb;obtain⟨its,rv,pl,hz⟩:=I.list (SqL.of (fh _ _ n1):SqL X.K H p ys);have hl:=rv.length
 have hne:p≠s.heap.objs.size:=yau (by
  obtain⟨o,n,e,_⟩:=pl;exact yab e)
 have hh:X.A.in1.handled=none:=I.ok.hd hc
 have val:∀(i:Nat) (v:Value),its[i]?=some v->∃b,bs[i]?=some b/\v=.bool b:=fun i v hv=>by
  have hi:i<ys.length:=by
   have:=(ya6.mp hv).1
   omega
  have hi2:i<l.length:=by rw[k1.1];exact hi
  obtain⟨b,h1,h2⟩:=hget i _ (ya0 hi2);have rr:=k1.2 i _ _ (ya0 hi2) (ya0 hi);rw[h2]at rr;obtain⟨u,e1,ru⟩:=rv.get (ya0 hi);rw[hv]at e1;cases e1;rw[rr.bl_inv]at ru;exact⟨b,h1,ru⟩
 have hbl:its.toArray.size=bs.length:=by rw[yad,<- hl,<- k1.1,hlen]
 refine wpAny_pyIter_list pl.isList ?_;have W:=Walks.list (prog:=X.prog) (w:=X.w) hh s.heap.objs.size p hne its.toArray;rw[hbl]at W;refine hP s.heap.objs.size _ _ _ _ (fun i=>bs.getD i false) _ W ⟨⟨_,yar _ rfl,rfl,rfl⟩,?_⟩ ?_ ?_ ?_
 ·obtain⟨o,ho,hr⟩:=pl.isList;exact⟨o,ya7 _ ho,hr⟩
 ·intro i v s' Q' E'' hv hq';obtain⟨b,h1,h2⟩:=val i v (by simpa using hv)
  subst h2;refine wpAny_truthy_bool ?_;have e:bs.getD i false=b:=by rw[ya4,h1];rfl
  rw[<- e];exact hq'
 ·intro i b hb';show bs.getD i false=b;rw[ya4,hb']
  rfl
 ·intro h' tk k
  exact I.kept fun b o e=>k b o (fun z=>by
   rw[yae]at z;exact absurd (yab e) (by rw[z];exact yb3 _)) (ya7 _ e)
theorem callT_all(hc:X.calm=true):zca X (.builtin "all") (rTn X.K (g1 allT)):=by
 intro pins s σ H xs us Q I r h;obtain⟨F,ts,v,fh,rs,e,q⟩:=h;unfold g1 at e;split at e
 ·obtain⟨x1,xs1,rfl,r1,rs1⟩:=rs.inv;cases rs1.inv0;unfold allT at e;split at e
  ·split at e
   ·cases e;rename_i bs hbs;obtain⟨p,rfl⟩:=r1.ref_inv;obtain⟨u,rfl,ru⟩:=vals1 r;cases ru;refine call_all_walk (walkB hc I fh r1 hbs fun I0 wr fp St PP tr s2 W st0 tro htr fin=>⟨I0,fp,wr,bs.length,PP,St,tr,rfl,W,st0,tro,fun h' tk k=>?_⟩)
    rw[(range_all htr).1];exact⟨.bl _,H,fin h' tk k,rfl,q.bl fh⟩
   ·cases e
  ·cases e
 ·cases e
theorem callT_any(hc:X.calm=true):zca X (.builtin "any") (rTn X.K (g1 anyT)):=by
 intro pins s σ H xs us Q I r h;obtain⟨F,ts,v,fh,rs,e,q⟩:=h;unfold g1 at e;split at e
 ·obtain⟨x1,xs1,rfl,r1,rs1⟩:=rs.inv;cases rs1.inv0;unfold anyT at e;split at e
  ·split at e
   ·cases e;rename_i bs hbs;obtain⟨p,rfl⟩:=r1.ref_inv;obtain⟨u,rfl,ru⟩:=vals1 r;cases ru;refine call_any_walk (walkB hc I fh r1 hbs fun I0 wr fp St PP tr s2 W st0 tro htr fin=>⟨I0,fp,wr,bs.length,PP,St,tr,rfl,W,st0,tro,fun h' tk k=>?_⟩)
    rw[(range_all htr).2];exact⟨.bl _,H,fin h' tk k,rfl,q.bl fh⟩
   ·cases e
  ·cases e
 ·cases e
theorem isinst_dic{pins:List (Addr×Obj)}{σ:L2.St}{H:Hp}{s:Shared}{p:Addr}{ob:Obj}{kvs:List (Key×V)}{c:Value}{b:Bool}{A:Around}{Q:Value->Shared->Prop}{E:Value->Shared->Prop}(I:Inv X pins σ H s)(ea:H p=some (.frz ob (.dK kvs)))(e:PySem.W.kitOne X.K (.type "dict") c=some b)(h:∀tk,Q (.bool b) { s with toks:=tk }) :
  wpAny (model X.prog X.w) A (call (.builtin "isinstance") [.ref p,c]) Q E s:=by
 obtain⟨_,_,_,vs,_,q⟩:=(show zbx X.prog X.w H s.heap p (.frz ob (.dK kvs)) from I.hok p _ ea);obtain⟨o,es,ep,h1,h2,_⟩:=q;exact yb4 ydb I.kIn ⟨o,h1,h2.1⟩ e (fun z=>nomatch z) h
theorem tyOf_T{F H:Hp}{t:T}{x:V}{a:String}(fh:zbs F H)(r:Rp X.K F F t x R0)(h:tyN t=some a):(TyOf X.K H x (.type a)\/a="dict"/\∃p ob kvs,x=.ref p/\H p=some (.frz ob (.dK kvs)))/\a∈["NoneType","bool","int","str","list","tuple","dict"]:=by
 cases t with
 |non=>cases h;rw[r.non_inv];exact⟨.inl .non,by simp⟩
 |bl b=>cases h;rw[r.bl_inv];exact⟨.inl (.bl b),by simp⟩
 |int i=>cases h;rw[r.int_inv];exact⟨.inl (.int i),by simp⟩
 |str y=>cases h;rw[r.str_inv];exact⟨.inl (.str y),by simp⟩
 |nd o k l =>
  obtain⟨p,xs,rfl,_,n,_⟩:=zda r;cases k with
  |lst=>cases h;exact⟨.inl (.lst (fh _ _ n)),by simp⟩
  |tup=>cases h;exact⟨.inl (.tup (fh _ _ n)),by simp⟩
  |rl=>cases h
  |rt=>cases h
  |pin _=>cases h
 |dic ks l =>
  cases h;cases r with
  |dic h e ek c=>exact⟨.inr ⟨rfl,_,_,_,rfl,fh _ _ h⟩,by simp⟩
 |pdc ks l =>
  cases h;cases r with
  |pdc h e ek c=>exact⟨.inl (.dK (fh _ _ h)),by simp⟩
 |odc ks l=>cases h
 |obj k l=>cases h
 |oob p C fs l=>cases h
 |osd ks l=>cases h
theorem callT_isT{c:String}:zca X (.builtin "isinstance") (fun xs H Q=>∃x,xs=[x,.ty c]/\rTn X.K (g1 (zdy c)) [x] H Q):=by
 intro pins s σ H xs us Q I r h;obtain⟨x,rfl,F,ts,v,fh,rs,e,q⟩:=h;unfold g1 at e;split at e
 ·obtain⟨x1,xs1,e1,r1,rs1⟩:=rs.inv;cases e1;unfold zdy at e;split at e
  ·rename_i a ha;split at e
   ·cases e;rename_i hc;obtain⟨ty,hm⟩:=tyOf_T fh r1 ha
    rcases ty with ty|⟨rfl,p,ob,kvs,rfl,hp⟩
    ·exact call_isT pins s σ H _ us Q I r ⟨x,_,_,rfl,ty,kit_ok X.K hm hc,q.bl fh⟩
    ·obtain⟨u,w',rfl,rx,ry⟩:=vals2 r;cases ry;cases rx;exact isinst_dic I hp (kit_ok X.K hm hc) fun tk=>⟨.bl _,H,I.tok _,rfl,q.bl fh⟩
   ·cases e
  ·cases e
 ·cases e
def T.isN:T->Bool
 |.non=>true
 |_=>false
def T.isB(b:Bool):T->Bool
 |.bl c=>c == b
 |_=>false
def isT2(neg:Bool)(t u:T):Option T:=match u with
 |.non=>some (.bl (neg ^^ t.isN))
 |.bl b=>some (.bl (neg ^^ t.isB b))
 |_=>none
theorem dec_non{K:PySem.W.Frag}{F H:Hp}{t:T}{x:V}{A:Rg}(r:Rp K F H t x A):decide (x=V.non)=t.isN:=by
 cases r<;>simp[T.isN]
theorem dec_b{K:PySem.W.Frag}{F H:Hp}{t:T}{x:V}{A:Rg}{b:Bool}(r:Rp K F H t x A):decide (x=V.bl b)=t.isB b:=by
 cases r<;>simp[T.isB]
 rename_i c;cases c<;>cases b<;>rfl
theorem opT_is:OpR X (compareOp .Is) (rT2 X.K (isT2 false)):=by
 intro pins s σ H x y v u Q I rx ry h;obtain⟨F,t1,t2,r,fh,r1,r2,e,q⟩:=h;unfold isT2 at e;split at e
 ·cases e;rw[r2.non_inv]at ry;refine op_isN pins s σ H _ _ v u Q I rx ry ⟨rfl,?_⟩;rw[dec_non r1];have:=q.bl fh;rw[Bool.false_xor]at this;exact this
 ·cases e;rw[r2.bl_inv]at ry;refine op_isB pins s σ H _ _ v u Q I rx ry ⟨_,rfl,?_⟩;rw[dec_b r1];have:=q.bl fh;rw[Bool.false_xor]at this;exact this
 ·cases e
theorem opT_isNot:OpR X (compareOp .IsNot) (rT2 X.K (isT2 true)):=by
 intro pins s σ H x y v u Q I rx ry h;obtain⟨F,t1,t2,r,fh,r1,r2,e,q⟩:=h;unfold isT2 at e;split at e
 ·cases e;rw[r2.non_inv]at ry;refine op_notN pins s σ H _ _ v u Q I rx ry ⟨rfl,?_⟩;rw[dec_non r1];have:=q.bl fh;rw[Bool.true_xor]at this;exact this
 ·cases e;rw[r2.bl_inv]at ry;refine op_notB pins s σ H _ _ v u Q I rx ry ⟨_,rfl,?_⟩;rw[dec_b r1];have:=q.bl fh;rw[Bool.true_xor]at this;exact this
 ·cases e
end
section
variable {X:Cx}{E:L2.St->XK}{ca:Str->Value}{σ:L2.St}{H:Hp}{m ma mb mc:PSt->Option Rs}{ms:PSt->Option RsL}{K:PySem.W.Frag}{a b c e:Expr}{es:List Expr}{pos p p2:Pos}
theorem r_isT{c:String}{cn:Str}(hv:bootBuiltins cn=some (.type c))(hg:Gl X "isinstance")(hm:X.mg "isinstance"=none)(hgc:Gl X cn)(hmc:X.mg cn=none)(hn:cn≠"__name__")(hd:(cn == ("__debug__":Str))=false)(ha:PE X e (tM X.K E ca m))(he:starEach [e,.Name cn p2] X.env=(false,eval e X.env)::starEach [.Name cn p2] X.env) :
  PE X (.Call (.Name "isinstance" p) [e,.Name cn p2] [] pos) (tM X.K E ca (mAp (g1 (zdy c)) (za0 m za6))):=by
 refine PE.weak (zgc (callT_isT (c:=c)) hg hm ybl (zbw ha (zbw (pe_bltn (v:=.ty c) hgc hmc hv rfl hn hd) zfb) he) (by decide) (by decide) he rfl) fun σ H Q h=>?_
 exact(zd0 (tM_ap h)).mono fun x H1 h1=>⟨x,rfl,ze8 h1⟩
inductive Ru where
 |ok (t:T)|exc (c:Str)
def spP(K:PySem.W.Frag)(ca:Str->Value)(g:List T->Option Ru):Sp:=fun vs H Q E=>∃F ts,zbs F H/\Rps K F ts vs/\match g ts with
 |some (.ok v)=>zll K F H v Q
 |some (.exc c)=>∀F' H',Ext F H F' H' R0->E (ca c) none H'
 |none=>False
def zap(g:List T->Option Ru)(ms:PSt->Option RsL):PSt->Option Rs:=fun τ=>match ms τ with
 |some (.v ts b)=>(match g ts with
  |some (.ok v)=>fin b v
  |some (.exc c)=>some (.x c)
  |none=>none)
 |some (.x c)=>some (.x c)
 |none=>none
theorem r_call{k j:Nat}{x:Str}{ps:List Str}{g:List T->Option Ru}(D:DefX X.prog X.w X.K X.mg X.base k x ps (spP X.K ca g))(hr:Room j X.A)(hx:zbo X E)(ha:PA X (e::es) (tMs X.K E ca ms))(hk:k<=j)(hg:Gl X x)(hdb:(x == ("__debug__":Str))=false)
  (he:starEach (e::es) X.env=(false,eval e X.env)::starEach es X.env) (hpl:(backTo pos (starEach es X.env)).any (·.1)=false):PE X (.Call (.Name x p) (e::es) [] pos) (tM X.K E ca (zap g ms)):=by
 refine PE.weak (px D hr hx ha hk hg hdb he hpl) fun σ H Q h=>?_
 obtain⟨F,τ,R,S,q⟩:=h;refine⟨F,τ,R,S,?_⟩;unfold zap at q;cases hs:ms τ with
 |none=>simp only[hs]at q
 |some r =>
  simp only[hs]at q;cases r with
  |x c=>exact q
  |v ts b =>
   intro F1 H1 xs e1 rs;have S1:=S.ext e1;simp only at q;rw[yc0];refine⟨Gz b F1 H1 R,ts,gz_fh S1,rs,?_⟩;cases hg:g ts with
   |none=>simp only[hg]at q
   |some r =>
    simp only[hg]at q;cases r with
    |exc c=>exact fun F' H' e2=>q F1 H' (e1.grow e2.hh)
    |ok v =>
     intro F2 H2 z C e2 r2;simp only at q;unfold fin at q;cases b with
     |false=>exact q F2 H2 z C (e1.trans0 e2) r2
     |true =>
      cases hf:v.flat with
      |false=>rw[hf]at q;exact False.elim q
      |true=>rw[hf]at q;exact q F1 H2 z R0 (e1.grow e2.hh) (r2.flat_any hf)
end
end Pu
set_option Elab.async false
set_option linter.all false
set_option maxRecDepth 100000
namespace Pu
open PySem PySem.Spec PyProof.Rows L2 Zw Zx
def Its(K:PySem.W.Frag)(J:It)(F:Hp)(ts:List T):Prop:=∀(i:Nat) (F' H':Hp),zbs F F'->zbs F' H' ->
 (∀t,ts[i]?=some t->J.go i H'/\∀x H'',J.yld i H' x H''->∃F'',Ext F' H' F'' H'' R0/\Rp K F'' H'' t x R0)/\(i=ts.length->J.stop i H')
def tI(K:PySem.W.Frag)(E:L2.St->XK)(ca:Str->Value)(m:PSt->Option RsL):TI:=fun σ H P=>∃F τ R,StR K F H σ τ R/\match m τ with
 |some (.v ts _)=>∀F' H' J,Ext F H F' H' R0->Its K J F' ts->P J H'
 |some (.x c)=>∀F' H',Ext F H F' H' R0->E σ (ca c) none H'
 |none=>False
def isL:T->Bool
 |.nd _ .lst _=>true
 |.nd _ .rl _=>true
 |.nd _ (.pin _) _=>true
 |_=>false
def iVal(m:PSt->Option Rs):PSt->Option RsL:=fun τ=>match m τ with
 |some (.v (.nd _ k l) false)=>some (.v (zb9 l) false)
 |some (.x c)=>some (.x c)
 |_=>none
def zcq(lo:Int)(n:Nat):List T:=(List.range n).map fun(i:Nat)=>.int (lo+(i:Int))
noncomputable def zlr(j:Int):Bool:=@decide (-(2 ^ 62)<=j/\j<2 ^ 62) (Classical.propDecidable _)
def as1:List T->Option Int
 |[.int j]=>some j
 |_=>none
def as2:List T->Option (Int×Int)
 |[.int i,.int j]=>some (i,j)
 |_=>none
noncomputable def zc3(ms:PSt->Option RsL):PSt->Option RsL:=fun τ=>match ms τ with
 |some (.v ts _)=>(match as1 ts with
  |some j=>if zlr j then some (.v (zcq 0 j.toNat) false) else none
  |none=>none)
 |r=>r
noncomputable def zh4(ms:PSt->Option RsL):PSt->Option RsL:=fun τ=>match ms τ with
 |some (.v ts _)=>(match as2 ts with
  |some (i,j)=>if zlr i && zlr j then some (.v (zcq i (j - i).toNat) false) else none
  |none=>none)
 |r=>r
def asL:List T->Option (List T)
 |[.nd o k l]=>if isL (.nd o k l) then some l else none
 |_=>none
def asL2:List T->Option (List T×List T)
 |[.nd o k l,.nd o' k' m]=>if isL (.nd o k l) && isL (.nd o' k' m) then some (l,m) else none
 |_=>none
section
variable {X:Cx}{E:L2.St->XK}{ca:Str->Value}{σ:L2.St}{H:Hp}{m ma mb mc:PSt->Option Rs}{ms:PSt->Option RsL}{K:PySem.W.Frag}{a b c e tg:Expr}{es elts:List Expr}{pos p tpos:Pos}{kk:Nat}
theorem its_list{F:Hp}{p:Addr}{xs:List V}{l:List T}(n:∀F' H':Hp,zbs F F'->zbs F' H'->SqL K H' p xs)(r:Rps K F l xs):Its K (Itl K p) F l:=by
 intro i F' H' s1 s2;have sq:=n F' H' s1 s2;refine⟨fun t ht=>?_,fun e=>⟨xs,sq,by rw[e,r.1];exact yaa _⟩⟩
 have hi:i<xs.length:=by
  have:=(ya6.mp ht).1;have:=r.1
  omega
 refine⟨⟨xs,xs[i],sq,ya0 hi⟩,fun x H'' y=>?_⟩
 obtain⟨rfl,y⟩:=y;have hx:=y xs sq;exact⟨F',Ext.refl s2,((r.same s1).2 i t x ht hx).any⟩
theorem its_tup{F:Hp}{p:Addr}{xs:List V}{l:List T}(n:∀F' H':Hp,zbs F F'->zbs F' H'->SqT K H' p xs)(r:Rps K F l xs):Its K (Itt K p) F l:=by
 intro i F' H' s1 s2;have sq:=n F' H' s1 s2;refine⟨fun t ht=>?_,fun e=>⟨xs,sq,by rw[e,r.1];exact yaa _⟩⟩
 have hi:i<xs.length:=by
  have:=(ya6.mp ht).1;have:=r.1
  omega
 refine⟨⟨xs,xs[i],sq,ya0 hi⟩,fun x H'' y=>?_⟩
 obtain⟨rfl,y⟩:=y;have hx:=y xs sq;exact⟨F',Ext.refl s2,((r.same s1).2 i t x ht hx).any⟩
theorem its_range{F:Hp}{lo:Int}{n:Nat}:Its K (Itr lo n) F (zcq lo n):=by
 intro i F' H' s1 s2;refine⟨fun t ht=>?_,fun e=>?_⟩
 ·unfold zcq at ht;rw[ya5]at ht;obtain⟨j,e1,e2⟩:=ya3.mp ht
  have hi:i<n:=by
   have:=(ya6.mp e1).1
   simpa using this
  have hj:i=j:=by rw[yd3 hi]at e1;exact yal e1
  subst hj;subst e2;refine⟨hi,fun x H'' y=>?_⟩
  obtain⟨rfl,rfl⟩:=y;exact⟨F',Ext.refl s2,.int _⟩
 ·have:n<=i:=by rw[e];simp[zcq]
  exact this
theorem PI.weak{t t':TI}(h:PI X tg e t)(w:∀σ H P,t' σ H P->t σ H P):PI X tg e t':=fun pins s σ H P I q=>h pins s σ H P I (w σ H P q)
theorem PI.or{t t':TI}(h:PI X tg e t)(h':PI X tg e t'):PI X tg e (fun σ H P=>t σ H P\/t' σ H P):=fun pins s σ H P I q=>q.elim (h pins s σ H P I) (h' pins s σ H P I)
theorem r_iVal(ha:PE X e (tM X.K E ca m)):PI X tg e (tI X.K E ca (iVal m)):=by
 refine PI.weak (PI.or (pi_list ha) (pi_tup ha)) fun σ H P h=>?_
 obtain⟨F,τ,R,S,q⟩:=h;unfold iVal at q
 have key:∀{o:Bool} {k:Kd} {l:List T},m τ=some (.v (.nd o k l) false)->(∀F' H' J,Ext F H F' H' R0->Its X.K J F' (zb9 l)->P J H')->∀F1 H1 x B,Ext F H F1 H1 B->Got X.K F1 H1 R (.nd o k l) false x B->∃(F2:Hp) (p:Addr) (xs:List V),x=.ref p/\Ext F H F2 H1 R0/\zlk X.K F2 k p xs/\Rps X.K F2 (zb9 l) xs:=by
  intro o k l hm q F1 H1 x B e1 g1;obtain⟨F2,e2,_,r2⟩:=Got.frz (b:=false) S e1 g1;have r2':Rp X.K F2 F2 (T.nd o k l).share x R0:=r2;rw[T.share]at r2';obtain⟨p,xs,rfl,_,n,kd⟩:=zda r2';exact⟨F2,p,xs,rfl,e2,n,kd⟩
 cases hm:m τ with
 |none=>simp only[hm]at q
 |some r =>
  simp only[hm]at q;cases r with
  |x c=>exact .inl ⟨F,τ,R,S,by rw[hm];exact q⟩
  |v t bb =>
   cases t with
   |nd o k l =>
    cases bb with
    |true=>exact q.elim
    |false =>
     simp only at q;cases k with
     |lst =>
      refine .inl ⟨F,τ,R,S,?_⟩;rw[hm];intro F1 H1 x B e1 g1;obtain⟨F2,p,xs,rfl,e2,n,kd⟩:=key hm q F1 H1 x B e1 g1;exact⟨p,rfl,⟨xs,SqL.of (e2.fh _ _ n)⟩,q F2 H1 _ e2 (its_list (fun F' H' s1 s2=>SqL.of (s2 _ _ (s1 _ _ n))) kd)⟩
     |pin _ =>
      refine .inl ⟨F,τ,R,S,?_⟩;rw[hm];intro F1 H1 x B e1 g1;obtain⟨F2,p,xs,rfl,e2,n,kd⟩:=key hm q F1 H1 x B e1 g1;exact⟨p,rfl,⟨xs,SqL.of (e2.fh _ _ n)⟩,q F2 H1 _ e2 (its_list (fun F' H' s1 s2=>SqL.of (s2 _ _ (s1 _ _ n))) kd)⟩
     |rl =>
      refine .inl ⟨F,τ,R,S,?_⟩;rw[hm];intro F1 H1 x B e1 g1;obtain⟨F2,p,xs,rfl,e2,n,kd⟩:=key hm q F1 H1 x B e1 g1;exact⟨p,rfl,⟨xs,e2.fh.seq n⟩,q F2 H1 _ e2 (its_list (fun F' H' s1 s2=>s2.seq (s1.seq n)) kd)⟩
     |tup =>
      refine .inr ⟨F,τ,R,S,?_⟩;rw[hm];intro F1 H1 x B e1 g1;obtain⟨F2,p,xs,rfl,e2,n,kd⟩:=key hm q F1 H1 x B e1 g1;exact⟨p,rfl,⟨xs,SqT.of (e2.fh _ _ n)⟩,q F2 H1 _ e2 (its_tup (fun F' H' s1 s2=>SqT.of (s2 _ _ (s1 _ _ n))) kd)⟩
     |rt =>
      refine .inr ⟨F,τ,R,S,?_⟩;rw[hm];intro F1 H1 x B e1 g1;obtain⟨F2,p,xs,rfl,e2,n,kd⟩:=key hm q F1 H1 x B e1 g1;exact⟨p,rfl,⟨xs,zd4 e2.fh n⟩,q F2 H1 _ e2 (its_tup (fun F' H' s1 s2=>zd4 s2 (zd4 s1 n)) kd)⟩
   |_=>exact q.elim
theorem tI_args{f:(PSt->Option RsL)->PSt->Option RsL}{P:It->Hp->Prop}{W:List V->Hp->Prop}(hx:∀τ c,ms τ=some (.x c)->f ms τ=some (.x c))(hn:∀τ,ms τ=none->f ms τ=none)
  (hv : ∀ F τ R ts b, StR K F H σ τ R -> ms τ = some (.v ts b) -> (match f ms τ with
   |some (.v us _)=>∀F' H' J,Ext F H F' H' R0->Its K J F' us->P J H'
   |some (.x c)=>∀F' H',Ext F H F' H' R0->E σ (ca c) none H'
   |none=>False)->∀F' H' xs,Ext F H F' H' R0->Rps K (Gz b F' H' R) ts xs->W xs H') (h:tI K E ca (f ms) σ H P):tMs K E ca ms σ H W:=by
 obtain⟨F,τ,R,S,q⟩:=h;refine⟨F,τ,R,S,?_⟩;cases hm:ms τ with
 |none=>rw[hn τ hm]at q;exact q.elim
 |some r =>
  cases r with
  |x c=>rw[hx τ c hm]at q;exact q
  |v ts b=>exact fun F' H' xs e rs=>hv F τ R ts b S hm q F' H' xs e rs
theorem ok62_iff{j:Int}(h:zlr j=true):-(2 ^ 62)<=j/\j<2 ^ 62:=@of_decide_eq_true _ (Classical.propDecidable _) h
theorem r_range1(hg:Gl X "range")(hm:X.mg "range"=none)(ha:PA X [a] (tMs X.K E ca ms))(hs:starEach [a] X.env=[(false,eval a X.env)]):PI X tg (.Call (.Name "range" p) [a] [] pos) (tI X.K E ca (zc3 ms)):=by
 refine PI.weak (pi_range1 hg hm ha hs) fun σ H P h=>?_
 refine tI_args (f:=zc3) (fun τ c e=>by unfold zc3;rw[e]) (fun τ e=>by unfold zc3;rw[e]) (fun F τ R ts b S e q F' H' xs e1 rs=>?_) h
 unfold zc3 at q;rw[e]at q;simp only at q;cases h1:as1 ts with
 |none=>simp only[h1]at q
 |some j =>
  simp only[h1]at q
  by_cases hj:zlr j=true
  ·simp only[hj,if_true]at q;obtain⟨g1,g2⟩:=ok62_iff hj;unfold as1 at h1;split at h1
   ·cases h1;obtain⟨x1,xs1,rfl,r1,rs1⟩:=rs.inv;cases rs1.inv0;rw[r1.int_inv];exact⟨j,rfl,g1,g2,q F' H' _ e1 its_range⟩
   ·cases h1
  ·simp only[hj]at q;exact q.elim
theorem r_range2(hg:Gl X "range")(hm:X.mg "range"=none)(ha:PA X [a,b] (tMs X.K E ca ms))(hs:starEach [a,b] X.env=[(false,eval a X.env),(false,eval b X.env)])(hs2:starEach [b] X.env=[(false,eval b X.env)]):PI X tg (.Call (.Name "range" p) [a,b] [] pos) (tI X.K E ca (zh4 ms)):=by
 refine PI.weak (pi_range2 hg hm ha hs hs2) fun σ H P h=>?_
 refine tI_args (f:=zh4) (fun τ c e=>by unfold zh4;rw[e]) (fun τ e=>by unfold zh4;rw[e]) (fun F τ R ts b S e q F' H' xs e1 rs=>?_) h
 unfold zh4 at q;rw[e]at q;simp only at q;cases h1:as2 ts with
 |none=>simp only[h1]at q
 |some ij =>
  obtain⟨i,j⟩:=ij;simp only[h1]at q
  by_cases hj:(zlr i && zlr j)=true
  ·simp only[hj,if_true]at q;rw[ya2]at hj;obtain⟨g1,g2⟩:=ok62_iff hj.1;obtain⟨g3,g4⟩:=ok62_iff hj.2;unfold as2 at h1;split at h1
   ·cases h1;obtain⟨x1,xs1,rfl,r1,rs1⟩:=rs.inv;obtain⟨x2,xs2,rfl,r2,rs2⟩:=rs1.inv;cases rs2.inv0;rw[r1.int_inv,r2.int_inv];exact⟨i,j,rfl,⟨g1,g2,g3,g4⟩,q F' H' _ e1 its_range⟩
   ·cases h1
  ·simp only[hj]at q;exact q.elim
end
theorem StR.set{K:PySem.W.Frag}{F H:Hp}{σ:L2.St}{τ:PSt}{R:Nat->Rg}(S:StR K F H σ τ R){i:Nat}{t:T}{x:V}{A:Rg}(r:Rp K F H t x A)(d:∀j a,j≠i->R j a->¬ A a)(hi:i<τ.length) :
  StR K F H (σ.set i (some x)) (τ.set i (some t)) (fun j=>if j=i then A else R j):=by
 have hl:=S.len;refine⟨S.fh,by simp[hl],fun j t' e=>?_,fun j a z=>?_,fun j k a hjk z1 z2=>?_⟩
 ·by_cases hj:j=i
  ·subst hj;rw[yam hi]at e;cases e;exact⟨x,yam (by omega),by simpa using r⟩
  ·rw[yap (yaz hj)]at e ⊢;obtain⟨y,e1,r1⟩:=S.rep j t' e;exact⟨y,e1,by simpa[hj] using r1⟩
 ·by_cases hj:j=i
  ·subst hj;exact⟨t,yam hi⟩
  ·simp only[hj,if_false]at z;obtain⟨t',e⟩:=S.out j a z;exact⟨t',by rw[yap (yaz hj)];exact e⟩
 ·by_cases hj:j=i
  ·simp only[hj,if_true]at z1;have hk:¬ k=i:=fun z=>hjk (hj.trans z.symm)
   simp only[hk,if_false]at z2;exact d k a hk z2 z1
  ·simp only[hj,if_false]at z1
   by_cases hk:k=i
   ·simp only[hk,if_true]at z2;exact d j a hj z1 z2
   ·simp only[hk,if_false]at z2;exact S.dis j k a hjk z1 z2
def tGM(K:PySem.W.Frag)(b:T->PSt->Option PSt):TG:=fun v σ H Q=>∃F τ R t τ',StR K F H σ τ R/\Rp K F H t v R0/\b t τ=some τ'/\∀σ' R',StR K F H σ' τ' R'->(∀i a,R' i a->R i a)->Q σ' H
def tGMs(K:PySem.W.Frag)(b:List T->PSt->Option PSt):TGs:=fun vs σ H Q=>∃F τ R ts τ',StR K F H σ τ R/\Rps K F ts vs/\b ts τ=some τ'/\∀σ' R',StR K F H σ' τ' R'->(∀i a,R' i a->R i a)->Q σ' H
def bNm(i:Nat):T->PSt->Option PSt:=fun t τ=>if i<τ.length then some (τ.set i (some t)) else none
def zg7:List T->PSt->Option PSt
 |[],τ=>some τ
 |_::_,_=>none
def zai(b:T->PSt->Option PSt)(bs:List T->PSt->Option PSt):List T->PSt->Option PSt
 |t::ts,τ=>(match b t τ with
  |some τ'=>bs ts τ'
  |none=>none)
 |[],_=>none
def zfk(n:Nat)(bs:List T->PSt->Option PSt):T->PSt->Option PSt
 |.nd _ .tup l,τ=>if l.length=n then bs l τ else none
 |.nd _ .rt l,τ=>if l.length=n then bs l τ else none
 |_,_=>none
section
variable {X:Cx}{e:Expr}{es:List Expr}{pos:Pos}{b:T->PSt->Option PSt}{bs:List T->PSt->Option PSt}
theorem PG.weak{t t':TG}(h:PG X e t)(w:∀v σ H Q,t' v σ H Q->t v σ H Q):PG X e t':=fun pins s σ H v u Q I r q=>h pins s σ H v u Q I r (w v σ H Q q)
theorem PGs.weak{t t':TGs}(h:PGs X es t)(w:∀v σ H Q,t' v σ H Q->t v σ H Q):PGs X es t':=fun pins s σ H v u Q I r q=>h pins s σ H v u Q I r (w v σ H Q q)
theorem g_nm{i:Nat}{x:Str}(hN:X.N.Nodup)(hi:X.N[i]?=some x)(hx:Loc X.env.scope x)(hf:X.fn x=true\/X.env.scope.names.lookup x=some .local):PG X (.Name x pos) (tGM X.K (bNm i)):=by
 refine PG.weak (pg_name hN hi hx hf) fun v σ H Q h=>?_
 obtain⟨F,τ,R,t,τ',S,r,e,q⟩:=h;unfold bNm at e;split at e
 ·cases e;rename_i hl;refine q _ _ (S.set r (fun _ _ _ _ z=>z.elim) hl) fun j a z=>?_
  by_cases hj:j=i
  ·simp only[hj,if_true]at z;exact z.elim
  ·simpa[hj] using z
 ·cases e
theorem g_nil:PGs X [] (tGMs X.K zg7):=PGs.weak pgs_nil fun v σ H Q h=>by
 obtain⟨F,τ,R,ts,τ',S,r,e,q⟩:=h;cases ts with
 |nil=>cases e;exact⟨r.inv0,q σ R S fun _ _ z=>z⟩
 |cons _ _=>cases e
theorem g_cons(h1:PG X e (tGM X.K b))(h2:PGs X es (tGMs X.K bs))(hs:(assignEach (e::es) X.env).map (·.2)=assign e X.env::(assignEach es X.env).map (·.2)):PGs X (e::es) (tGMs X.K (zai b bs)):=by
 refine PGs.weak (pgs_cons h1 h2 hs) fun v σ H Q h=>?_
 obtain⟨F,τ,R,ts,τ',S,r,e,q⟩:=h;cases ts with
 |nil=>cases e
 |cons t ts =>
  obtain⟨x,xs,rfl,r1,rs⟩:=r.inv;unfold zai at e;simp only at e;cases hb:b t τ with
  |none=>rw[hb]at e;cases e
  |some τ1 =>
   rw[hb]at e;exact⟨x,xs,rfl,F,τ,R,t,τ1,S,r1.any,hb,fun σ1 R1 S1 w1=>⟨F,τ1,R1,ts,τ',S1,rs,e,fun σ2 R2 S2 w2=>q σ2 R2 S2 fun i a z=>w1 i a (w2 i a z)⟩⟩
theorem g_tup{k n:Nat}(hc:X.calm=true)(h:PGs X es (tGMs X.K bs))(hn:(assignEach es X.env).length=n)(hst:(assignEach es X.env).findIdx? (·.1)=none):PG X (.Tuple es k pos) (tGM X.K (zfk n bs)):=by
 refine PG.weak (pg_tup hc h hn hst) fun v σ H Q h=>?_
 obtain⟨F,τ,R,t,τ',S,r,e,q⟩:=h
 have key:∀{o:Bool} {kd:Kd} {l:List T},t=.nd o kd l->(kd=.tup\/kd=.rt)->(if l.length=n then bs l τ else none)=some τ'->gTup X.K n (tGMs X.K bs) v σ H Q:=by
  intro o kd l et hk e';subst et;split at e'
  ·rename_i hl;obtain⟨p,xs,rfl,_,nn,kid⟩:=zda (r.any (H':=F))
   have sq:SqT X.K H p xs:=by
    rcases hk with rfl|rfl
    ·exact SqT.of (S.fh _ _ nn)
    ·exact zd4 S.fh nn
   exact⟨p,xs,rfl,sq,by rw[<- kid.1];exact hl,F,τ,R,l,τ',S,kid,e',q⟩
  ·cases e'
 unfold zfk at e;split at e
 ·exact key rfl (.inl rfl) e
 ·exact key rfl (.inr rfl) e
 ·cases e
end
end Pu
set_option Elab.async false
set_option linter.all false
set_option maxRecDepth 100000
namespace Pu
open PySem PySem.Spec PyProof.Rows L2 Zw Zx
def E00:L2.St->XK:=fun _=>E0
def zk0(b:T->PSt->Option PSt)(mt me:PSt->Option Rs):List T->PSt->Option (List T)
 |[],_=>some []
 |t::ts,τ=>(match b t τ with
  |some τ1=>(match mt τ1 with
   |some (.v (.bl true) _)=>(match me τ1 with
    |some (.v v false)=>(match zk0 b mt me ts τ1 with
     |some l=>some (v::l)
     |none=>none)
    |_=>none)
   |some (.v (.bl false) _)=>zk0 b mt me ts τ1
   |_=>none)
  |none=>none)
def lcX(b:T->PSt->Option PSt)(mt me:PSt->Option Rs):List T->PSt->Option Str
 |[],_=>none
 |t::ts,τ=>(match b t τ with
  |some τ1=>(match mt τ1 with
   |some (.v (.bl true) _)=>(match me τ1 with
    |some (.v _ false)=>lcX b mt me ts τ1
    |some (.x c)=>some c
    |_=>none)
   |some (.v (.bl false) _)=>lcX b mt me ts τ1
   |some (.x c)=>some c
   |_=>none)
  |none=>none)
def capT(τ:PSt)(j:Nat):Option T:=match τ[j]? with
 |some (some t)=>if t.sh then some t else none
 |_=>none
def blk(n:Nat)(caps:List Nat)(τ:PSt):PSt:=List.replicate n none++caps.map (capT τ)
def capV(σ:L2.St)(j:Nat):Option V:=match σ[j]? with
 |some (some v)=>some v
 |_=>none
def blkV(n:Nat)(caps:List Nat)(σ:L2.St):L2.St:=List.replicate n none++caps.map (capV σ)
def mLC(n:Nat)(caps:List Nat)(mi:PSt->Option RsL)(b:T->PSt->Option PSt)(mt me:PSt->Option Rs):PSt->Option Rs:=fun τ=>match mi τ with
 |some (.v ts _)=>if ts.length<=lim then (match zk0 b mt me ts (blk n caps τ) with
  |some l=>some (.v (.own l) false)
  |none=>(match lcX b mt me ts (blk n caps τ) with
   |some c=>some (.x c)
   |none=>none)) else none
 |some (.x c)=>some (.x c)
 |none=>none
theorem blk_st{K:PySem.W.Frag}{F H:Hp}{σ:L2.St}{τ:PSt}{R:Nat->Rg}(S:StR K F H σ τ R)(n:Nat)(caps:List Nat):StR K F H (blkV n caps σ) (blk n caps τ) (fun _=>R0):=by
 refine⟨S.fh,by simp[blkV,blk],fun i t e=>?_,fun _ _ z=>z.elim,fun _ _ _ _ z=>z.elim⟩
 unfold blk at e;unfold blkV
 by_cases hi:i<n
 ·rw[yas (by simpa using hi),ycf,if_pos hi]at e
  cases e
 ·rw[yb0 (by simp;omega),ya5]at e ⊢
  simp only[ycp]at e ⊢;cases hc:caps[i - n]? with
  |none=>rw[hc]at e;cases e
  |some j =>
   rw[hc]at e;simp only[ybh]at e ⊢;have e':capT τ j=some t:=yal e;unfold capT at e';split at e'
   ·rename_i t' ht;split at e'
    ·cases e';rename_i hs;obtain⟨x,ex,r⟩:=S.rep j _ ht;refine⟨x,?_,r.move hs (.refl _)⟩;unfold capV;rw[ex]
    ·cases e'
   ·cases e'
theorem snoc_tot{l:List T}{Rr:Nat->Rg}{B:Rg}{a:Addr}(h:tot (fun j=>if j=l.length then B else Rr j) a):tot Rr a\/B a:=by
 obtain⟨j,z⟩:=h
 by_cases hj:j=l.length
 ·simp only[hj,if_true]at z;exact .inr z
 ·simp only[hj,if_false]at z;exact .inl ⟨j,z⟩
section
variable {X:Cx}{E:L2.St->XK}{ca:Str->Value}{σ:L2.St}{H:Hp}{K:PySem.W.Frag}{n:Nat}{caps:List Nat}{mi:PSt->Option RsL}{b:T->PSt->Option PSt}{mt me:PSt->Option Rs}
theorem lcGo_cons{t:T}{us l2:List T}{τ1:PSt}(h:zk0 b mt me (t::us) τ1=some l2):∃τ2,b t τ1=some τ2/\((∃bt,mt τ2=some (.v (.bl false) bt)/\zk0 b mt me us τ2=some l2)\/∃bt w l3,mt τ2=some (.v (.bl true) bt)/\me τ2=some (.v w false)/\zk0 b mt me us τ2=some l3/\l2=w::l3):=by
 unfold zk0 at h;split at h
 ·rename_i τ2 hb;refine⟨τ2,hb,?_⟩;split at h
  ·rename_i bt ht;split at h
   ·rename_i w hw;split at h
    ·rename_i l3 h3;cases h;exact .inr ⟨bt,w,l3,ht,hw,h3,rfl⟩
    ·cases h
   ·cases h
  ·rename_i bt ht;exact .inl ⟨bt,ht,h⟩
  ·cases h
 ·cases h
theorem lcX_cons{t:T}{us:List T}{c:Str}{τ1:PSt}(h:lcX b mt me (t::us) τ1=some c):∃τ2,b t τ1=some τ2/\((∃bt,mt τ2=some (.v (.bl false) bt)/\lcX b mt me us τ2=some c)\/(∃bt,mt τ2=some (.v (.bl true) bt)/\((∃w,me τ2=some (.v w false)/\lcX b mt me us τ2=some c)\/me τ2=some (.x c)))\/mt τ2=some (.x c)):=by
 unfold lcX at h;split at h
 ·rename_i τ2 hb;refine⟨τ2,hb,?_⟩;split at h
  ·rename_i bt ht;split at h
   ·rename_i w hw;exact .inr (.inl ⟨bt,ht,.inl ⟨w,hw,h⟩⟩)
   ·rename_i c' hw;cases h;exact .inr (.inl ⟨bt,ht,.inr hw⟩)
   ·cases h
  ·rename_i bt ht;exact .inl ⟨bt,ht,h⟩
  ·rename_i c' ht;cases h;exact .inr (.inr ht)
  ·cases h
 ·cases h
theorem tM_lc{Q:VK}(h:tM K E ca (mLC n caps mi b mt me) σ H Q):tLC2 (blkV n caps) (tI K E ca mi) (tGM K b) (tMB K (fun _=>E σ) ca mt) (tM K (fun _=>E σ) ca me) σ H Q:=by
 obtain⟨F,τ,R,S,q⟩:=h;refine⟨F,τ,R,S,?_⟩;unfold mLC at q;cases hi:mi τ with
 |none=>simp only[hi]at q
 |some r =>
  simp only[hi]at q;cases r with
  |x c=>exact q
  |v ts bb =>
   intro F1 H1 J e1 its
   by_cases hz':¬ ts.length<=lim
   ·simp only[hz',if_false]at q
   have hz:ts.length<=lim:=Decidable.not_not.mp hz';simp only[hz,if_true]at q
   obtain⟨G,g1,g0,gs⟩:∃G:List T->PSt->List T->Prop,(∀t us τ1 l,G (t::us) τ1 l->∃τ2,b t τ1=some τ2/\((∃bt,mt τ2=some (.v (.bl false) bt)/\G us τ2 l)\/(∃bt,mt τ2=some (.v (.bl true) bt)/\((∃w,me τ2=some (.v w false)/\G us τ2 (l++[w]))\/∃c,me τ2=some (.x c)/\∀F' H',Ext F H F' H' R0->E σ (ca c) none H'))\/∃c,mt τ2=some (.x c)/\∀F' H',Ext F H F' H' R0->E σ (ca c) none H')) /\
     (∀τ1 l,G [] τ1 l->∀F' H' x B,Ext F H F' H' B->Rp K F' H' (.own l) x B->Q x H')/\G ts (blk n caps τ) []:=by
    cases hg:zk0 b mt me ts (blk n caps τ) with
    |some res =>
     simp only[hg]at q;refine⟨fun us τ1 l=>∃l2,zk0 b mt me us τ1=some l2/\l++l2=res,fun t us τ1 l z=>?_,fun τ1 l z=>?_,res,hg,rfl⟩
     ·obtain⟨l2,z,e⟩:=z;obtain⟨τ2,y,w|⟨bt,w,l3,y1,y2,y3,rfl⟩⟩:=lcGo_cons z
      ·obtain⟨bt,w1,w2⟩:=w;exact⟨τ2,y,.inl ⟨bt,w1,l2,w2,e⟩⟩
      ·exact⟨τ2,y,.inr (.inl ⟨bt,y1,.inl ⟨w,y2,l3,y3,by simpa using e⟩⟩)⟩
     ·obtain⟨l2,z,e⟩:=z;cases z;rw[yc0]at e;subst e;exact q
    |none =>
     simp only[hg]at q;cases hx:lcX b mt me ts (blk n caps τ) with
     |none=>simp only[hx]at q
     |some c =>
      simp only[hx]at q;refine⟨fun us τ1 l=>lcX b mt me us τ1=some c,fun t us τ1 l z=>?_,fun τ1 l z=>(by cases z),hx⟩
      obtain⟨τ2,y,w|⟨bt,y1,⟨w,y2,y3⟩|y2⟩|w⟩:=lcX_cons z
      ·exact⟨τ2,y,.inl w⟩
      ·exact⟨τ2,y,.inr (.inl ⟨bt,y1,.inl ⟨w,y2,y3⟩⟩)⟩
      ·exact⟨τ2,y,.inr (.inl ⟨bt,y1,.inr ⟨c,y2,q⟩⟩)⟩
      ·exact⟨τ2,y,.inr (.inr ⟨c,w,q⟩)⟩
   have S1:=S.ext e1;refine⟨fun i ys st H'=>∃(F':Hp) (τ':PSt) (l:List T) (Rr:Nat->Rg),Ext F1 H1 F' H' (tot Rr)/\RpO K F' H' l ys Rr/\StR K F' H' st τ' (fun _=>R0)/\i<=ts.length/\G (ts.drop i) τ' l/\l.length<=i,ts.length,by rw[<- zfd];exact hz,?_,?_⟩
   ·exact⟨F1,blk n caps τ,[],fun _=>R0,(Ext.refl S1.fh).mono fun a ⟨_,z⟩=>z.elim,.nil,blk_st S1 n caps,ybe _,gs,yaa _⟩
   ·rintro i ys st H' ⟨F',τ',l,Rr,e2,ro,S2,hle,hgo,hll⟩;have hly:=ro.len;refine⟨by omega,hle,?_⟩
    obtain⟨i1,i2⟩:=its i F' H' e2.ff e2.fh
    by_cases hlt:i<ts.length
    ·refine .inr ⟨hlt,?_⟩;obtain⟨go,yld⟩:=i1 _ (ya0 hlt);refine⟨go,fun x H'' y=>?_⟩
     obtain⟨F'',e3,rx⟩:=yld x H'' y;have S3:=S2.ext e3;rw[ybw hlt]at hgo;obtain⟨τ1,hb,hgo⟩:=g1 _ _ _ _ hgo;refine⟨F'',τ',_,ts[i],τ1,S3,rx,hb,fun st1 R1 S4 hR1=>?_⟩
     have R1e:R1=fun _=>R0:=funext fun j=>funext fun a=>propext ⟨fun z=>hR1 j a z,fun z=>z.elim⟩
     subst R1e;refine⟨F'',τ1,_,S4,?_⟩;have eX:∀{c:Str},(∀F' H',Ext F H F' H' R0->E σ (ca c) none H')->∀F' H',Ext F'' H'' F' H' R0->E σ (ca c) none H':=fun z F' H' e=>z F' H' (((e1.trans0 e2).trans (e3.trans0 e)).mono fun _ z=>z.elim)
     rcases hgo with ⟨bt,ht,hgo⟩|⟨bt,ht,hgo⟩|⟨c,ht,hX⟩
     ·rw[ht];intro F4 H4 e4;exact iteF ⟨F4,τ1,l,Rr,(e2.trans ((e3.trans0 e4).mono fun _ z=>z)).mono fun a z=>.inl z,(ro.ext e3).ext e4,S4.ext e4,hlt,hgo,by omega⟩
     ·rw[ht];intro F4 H4 e4;have S5:=S4.ext e4;have e24:=e2.trans ((e3.trans0 e4).mono fun _ z=>z)
      refine iteT ⟨F4,τ1,_,S5,?_⟩
      rcases hgo with ⟨ve,he,hgo⟩|⟨c,he,hX⟩
      ·rw[he];intro F5 H5 y B e5 ry;have ry':Rp K F5 H5 ve y B:=ry;have ro4:=(ro.ext e3).ext e4;have ro5:=ro4.ext e5;refine⟨F5,τ1,l++[ve],_,(e24.trans e5).mono ?_,ro5.snoc ry' (fun j a z1 z2=>ro4.apart e5 z2 j z1),S5.ext e5,hlt,hgo,by simp;omega⟩
       intro a z
       rcases snoc_tot z with z|z
       ·exact .inl (.inl z)
       ·exact .inr z
      ·rw[he];exact fun F' H' e=>eX hX F' H' (e4.trans0 e)
     ·rw[ht];exact eX hX
    ·have hi':i=ts.length:=by omega
     subst hi';refine .inl ⟨i2 rfl,fun p hp=>?_⟩
     rw[List.drop_length]at hgo;obtain⟨rl,e3⟩:=ro.list e2.fh hp;refine g0 _ _ hgo F' _ _ _ (((e1.trans0 e2).trans e3).mono ?_) rl;rintro a (z|⟨j,z⟩)
     ·exact .inr z
     ·exact .inl ⟨j,z⟩
structure BlkOk(X:Cx)(scope:Scope)(N':List Str)(n:Nat)(caps:List Nat):Prop where
 kind:scope.kind=.function
 names:∀y∈scope.names,y.2=.local->scope.names.lookup y.1=some .local
 len:N'.length=n+caps.length
 cap:∀(k j:Nat),caps[k]?=some j->∃y,X.N[j]?=some y/\N'[n+k]?=some y/\scope.names.lookup y=some .free/\(y,NameKind.cell)∉scope.names
 free:∀y∈scope.names,y.2=.free->scope.names.lookup y.1=some .free/\(X.env.scope.names.lookup y.1=some .cell\/X.env.scope.names.lookup y.1=some .free)
theorem zec{env:Env}(y:Str):∀(names:List (Str×NameKind)),(names.map fun(n,k)=>if (k == NameKind.free && env.scope.kind == .function && env.kindOf n == some .cell) then (n,NameKind.cell) else (n,k)).lookup y =
  (names.lookup y).map fun k=>if (k == NameKind.free && env.scope.kind == .function && env.kindOf y == some .cell) then .cell else k
 |[]=>rfl
 |(n,k)::r=>by
  rw[yaf];cases hy:y == n with
  |true =>
   have e:y=n:=eq_of_beq hy;subst e
   by_cases hc:(k == NameKind.free && env.scope.kind == .function && env.kindOf y == some .cell)=true
   ·simp only[hc,if_true,yat,beq_self_eq_true,ybh]
   ·simp only[hc,yat,beq_self_eq_true,ybh];simp
  |false =>
   by_cases hc:(k == .free && env.scope.kind == .function && env.kindOf n == some .cell)=true
   ·simp only[hc,if_true,yat,hy];exact zec y r
   ·simp only[hc,yat,hy];simp only[yc3,if_false,yat,hy];exact zec y r
theorem ze9(scope:Scope)(env:Env)(y:Str):(relabel scope env).names.lookup y=(scope.names.lookup y).map fun k=>if (k == NameKind.free && env.scope.kind == .function && env.kindOf y == some .cell) then .cell else k:=zec y scope.names
theorem zi6{y:Str}{k:NameKind}:∀{names:List (Str×NameKind)},names.lookup y=some k->(y,k)∈names:=fun h=>ybc h
theorem blk_go{scope:Scope}{N':List Str}(B:BlkOk X scope N' n caps){pins:List (Addr×Obj)}{s:Shared}(I:Inv X pins σ H s) :
  ∃cl,closureFor scope X.env=pure cl/\(∀y c,cl.lookup y=some c->X.env.cells.lookup y=some c)/\(∀y,(relabel scope X.env).names.lookup y=some .cell\/(relabel scope X.env).names.lookup y=some .free->(y,NameKind.cell)∈scope.names\/∃c,cl.lookup y=some c) /\
   (∀(σ:L2.St) (i:Nat) (y:Str) (v:V),N'[i]?=some y->(blkV n caps σ)[i]?=some (some v)->(y,NameKind.cell)∉scope.names) /\
   (∀σ:L2.St,σ.length=X.N.length->(blkV n caps σ).length=N'.length) /\
   (∀(σ:L2.St) (i:Nat) (y:Str) (v:V),N'[i]?=some y->(blkV n caps σ)[i]?=some (some v)->((relabel scope X.env).names.lookup y=some .cell\/(relabel scope X.env).names.lookup y=some .free)/\∃j:Nat,X.N[j]?=some y/\σ[j]?=some (some v)/\Vis X.env.scope y/\X.env.kindOf y≠some .local):=by
 obtain⟨cl,h1,h2,h3⟩:=closure_for scope X.env fun y hy hf=>I.ok.has y.1 (B.free y hy hf).2
 have at1:∀(σ:L2.St) (i:Nat) (y:Str) (v:V),N'[i]?=some y->(blkV n caps σ)[i]?=some (some v)->∃j:Nat,X.N[j]?=some y/\σ[j]?=some (some v)/\scope.names.lookup y=some .free/\(y,NameKind.cell)∉scope.names:=by
  intro σ i y v e1 e2;unfold blkV at e2
  by_cases hi:i<n
  ·rw[yas (by simpa using hi),ycf,if_pos hi]at e2
   cases e2
  ·rw[yb0 (by simp;omega),ya5]at e2
   simp only[ycp]at e2;cases hc:caps[i - n]? with
   |none=>rw[hc]at e2;cases e2
   |some j =>
    rw[hc]at e2;simp only[ybh]at e2;have e':capV σ j=some v:=yal e2;obtain⟨y',g1,g2,g3,g4⟩:=B.cap (i - n) j hc;have en:n+(i - n)=i:=by omega
    rw[en,e1]at g2;cases g2
    have sv:σ[j]?=some (some v):=by
     unfold capV at e';split at e'
     ·rename_i v' hv;cases e';exact hv
     ·cases e'
    exact⟨j,g1,sv,g3,g4⟩
 refine⟨cl,h1,h2,fun y hy=>?_,fun σ i y v e1 e2=>?_,fun σ hσ=>by simp[blkV,B.len],fun σ i y v e1 e2=>?_⟩
 ·cases hk:scope.names.lookup y with
  |none =>
   rw[ze9,hk]at hy
   rcases hy with hy|hy<;>cases hy
  |some k =>
   by_cases hf:k=.free
   ·subst hf;exact .inr (h3 _ (zi6 hk) rfl)
   ·rw[ze9,hk]at hy;simp only[ybh]at hy;have hf':(k == NameKind.free)=false:=beq_eq_false_iff_ne.mpr hf;simp only[hf',yd4,yc3,if_false]at hy
    rcases hy with hy|hy
    ·cases hy;exact .inl (zi6 hk)
    ·cases hy;exact absurd rfl hf
 ·exact(at1 σ i y v e1 e2).choose_spec.2.2.2
 ·obtain⟨j,g1,sv,g3,g4⟩:=at1 σ i y v e1 e2;have fr:=B.free _ (zi6 g3) rfl;refine⟨?_,j,g1,sv,?_,?_⟩
  ·rw[ze9,g3];simp only[ybh]
   by_cases hc2:(NameKind.free == NameKind.free && X.env.scope.kind == .function && X.env.kindOf y == some .cell)=true
   ·exact .inl (by rw[if_pos hc2])
   ·exact .inr (by rw[if_neg hc2])
  ·rcases fr.2 with z|z
   ·exact .inr (.inl z)
   ·exact .inr (.inr z)
  ·intro z;have z':X.env.scope.names.lookup y=some .local:=z
   rcases fr.2 with w|w
   ·rw[z']at w;cases w
   ·rw[z']at w;cases w
theorem r_lcV{elt iter tg:Expr}{ifs:List Expr}{scope:Scope}{pos:Pos}{N':List Str}(B:BlkOk X scope N' n caps)(hc:X.calm=true)(hi:PI X tg iter (tI X.K E ca mi))
  (hps:zbo X E) (hst:FrOk X) (hg:∀cl C s₀ H₀ ex xb E',zbo (zad X scope cl N' C s₀ H₀ ex xb) E'->PG (zad X scope cl N' C s₀ H₀ ex xb) tg (tGM X.K b)) (ht:∀cl C s₀ H₀ ex xb E',zbo (zad X scope cl N' C s₀ H₀ ex xb) E'->PTs (zad X scope cl N' C s₀ H₀ ex xb) ifs (tMB X.K E' ca mt)) (he:∀cl C s₀ H₀ ex xb E',zbo (zad X scope cl N' C s₀ H₀ ex xb) E'->PE (zad X scope cl N' C s₀ H₀ ex xb) elt (tM X.K E' ca me))
  (hs:∀x,foldedSetIterable iter X.env x=pure x):PE X (.ListComp elt [⟨tg,iter,ifs,0⟩] scope pos) (tM X.K E ca (mLC n caps mi b mt me)):=by
 intro pins s σ H Q I h;obtain⟨cl,h1,h2,h3,h4,h5,h6⟩:=blk_go B I;exact lc_val (blkV n caps) h1 B.kind B.names h2 h3 h4 h5 h6 hc hi hps hst (fun cl C s₀ H₀ ex xb=>hg cl C s₀ H₀ ex xb _) (fun cl C s₀ H₀ ex xb=>ht cl C s₀ H₀ ex xb _) (fun cl C s₀ H₀ ex xb=>he cl C s₀ H₀ ex xb _) hs I (tM_lc h)
theorem r_lcS{elt iter tg:Expr}{ifs:List Expr}{scope:Scope}{pos pos2 pos':Pos}{N':List Str}(B:BlkOk X scope N' n caps)(hc:X.calm=true)(hi:PI X tg iter (tI X.K E ca mi))
  (hps:zbo X E) (hst:FrOk X) (hg:∀cl C s₀ H₀ ex xb E',zbo (zad X scope cl N' C s₀ H₀ ex xb) E'->PG (zad X scope cl N' C s₀ H₀ ex xb) tg (tGM X.K b)) (ht:∀cl C s₀ H₀ ex xb E',zbo (zad X scope cl N' C s₀ H₀ ex xb) E'->PTs (zad X scope cl N' C s₀ H₀ ex xb) ifs (tMB X.K E' ca mt)) (he:∀cl C s₀ H₀ ex xb E',zbo (zad X scope cl N' C s₀ H₀ ex xb) E'->PE (zad X scope cl N' C s₀ H₀ ex xb) elt (tM X.K E' ca me))
  (hs:∀x,foldedSetIterable iter X.env x=pure x) {i:Nat} {x:Str} (hN:X.N.Nodup) (hix:X.N[i]?=some x) (hx:X.env.scope.names.lookup x=some .local)
  (hsw:swapsWith (.ListComp elt [⟨tg,iter,ifs,0⟩] scope pos) (some (.Name x pos')) pos2.line X.env=pure true):PS X (.Assign [.Name x pos'] (.ListComp elt [⟨tg,iter,ifs,0⟩] scope pos) pos2) (fun D σ H=>tM X.K E ca (mLC n caps mi b mt me) σ H fun v H1=>D.nx (σ.set i (some v)) H1):=by
 intro pins s σ H D I h;obtain⟨cl,h1,h2,h3,h4,h5,h6⟩:=blk_go B I;exact lc_set (blkV n caps) h1 B.kind B.names h2 h3 h4 h5 h6 hc hi hps hst (fun cl C s₀ H₀ ex xb=>hg cl C s₀ H₀ ex xb _) (fun cl C s₀ H₀ ex xb=>ht cl C s₀ H₀ ex xb _) (fun cl C s₀ H₀ ex xb=>he cl C s₀ H₀ ex xb _) hs hN hix hx hsw I (tM_lc h)
end
end Pu
set_option Elab.async false
set_option linter.all false
set_option maxRecDepth 100000
namespace Pu
open PySem PySem.Spec PyProof.Rows L2 Zw Zx
section
variable {X:Cx}{E:L2.St->XK}{ca:Str->Value}{m mk mv:PSt->Option Rs}{o k v:Expr}{pos p p2 ap cp:Pos}{K:PySem.W.Frag}{elts:List Expr}{kk:Nat}{tpos:Pos}
end
end Pu
set_option Elab.async false
set_option linter.all false
set_option maxRecDepth 100000
namespace Pu
open PySem PySem.Spec PyProof.Rows L2 Zw Zx
inductive Out where
 |nx (τ:PSt)|rt (t:T)|bk (τ:PSt)|ct (τ:PSt)|xc (c:Str) (τ:PSt)
structure Stp(F H:Hp)(O:Rg)(F' H':Hp)(O':Rg):Prop where
 ff:zbs F F'
 fh:zbs F' H'
 kp:∀b u,¬ O b->H b=some u->H' b=some u
 nw:∀b,O' b->O b\/H b=none
 nf:∀b u,F' b=some u->F b=some u\/O b\/H b=none
section
variable {F H F1 H1 F2 H2:Hp}{O O1 O2 B:Rg}{R:Nat->Rg}
theorem Stp.refl(s:zbs F H):Stp F H O F H O:=⟨.refl _,s,fun _ _ _ e=>e,fun _ z=>.inl z,fun _ _ e=>.inl e⟩
theorem Stp.trans(a:Stp F H O F1 H1 O1)(b:Stp F1 H1 O1 F2 H2 O2):Stp F H O F2 H2 O2 where
 ff:=a.ff.trans b.ff
 fh:=b.fh
 kp:=fun x u n e=>b.kp x u (fun z=>(a.nw x z).elim n fun w=>by rw[e]at w;cases w) (a.kp x u n e)
 nw:=fun x z=>(b.nw x z).elim (a.nw x) fun w=>by
  by_cases hO:O x
  ·exact .inl hO
  ·cases e:H x with
   |none=>exact .inr rfl
   |some u=>rw[a.kp x u hO e]at w;cases w
 nf:=fun x u e=>(b.nf x u e).elim (a.nf x u) fun z=>.inr (z.elim (a.nw x) fun w=>by
  by_cases hO:O x
  ·exact .inl hO
  ·cases e':H x with
   |none=>exact .inr rfl
   |some u'=>rw[a.kp x u' hO e']at w;cases w)
theorem Stp.mono(a:Stp F H O F1 H1 O1)(h:∀x,O2 x->O1 x):Stp F H O F1 H1 O2:=⟨a.ff,a.fh,a.kp,fun x z=>a.nw x (h x z),a.nf⟩
theorem Ext.stp(e:Ext F H F1 H1 B):Stp F H O F1 H1 (fun x=>O x\/B x):=⟨e.ff,e.fh,fun b u _ q=>e.hh b u q,fun b z=>z.elim .inl fun z=>.inr (e.nb b z),fun b u q=>(e.nf b u q).elim .inl fun z=>.inr (.inr z)⟩
theorem Ext.stp0(e:Ext F H F1 H1 B):Stp F H O F1 H1 O:=e.stp.mono fun _ z=>.inl z
end
section
def Wr(K:PySem.W.Frag)(mu:Bool)(F H:Hp)(t:T)(x:V)(B:Rg):Prop:=match mu with
 |false=>Rp K F H t x B
 |true=>∃v q l,t=.own [v,.nd true (.pin q) l]/\v.flat=true/\Rp K F H v x R0/\Rp K F H (.nd true (.pin q) l) (.ref q) B
def tS(K:PySem.W.Frag)(E:L2.St->XK)(ca:Str->Value)(mu:Bool)(m:PSt->Option Out):TS:=fun D σ H=>∃F τ R,StR K F H σ τ R/\match m τ with
 |some (.nx τ')=>∀F' H' σ' R',Stp F H (tot R) F' H' (tot R')->StR K F' H' σ' τ' R'->D.nx σ' H'
 |some (.bk τ')=>∀F' H' σ' R',Stp F H (tot R) F' H' (tot R')->StR K F' H' σ' τ' R'->D.bk σ' H'
 |some (.ct τ')=>∀F' H' σ' R',Stp F H (tot R) F' H' (tot R')->StR K F' H' σ' τ' R'->D.ct σ' H'
 |some (.rt t)=>∀F' H' x B,Stp F H (tot R) F' H' B->Wr K mu F' H' t x B->D.rt x H'
 |some (.xc c τ')=>∀F' H' σ' R',Stp F H (tot R) F' H' (tot R')->StR K F' H' σ' τ' R'->E σ' (ca c) none H'
 |none=>False
end
def zas(m n:PSt->Option Out):PSt->Option Out:=fun τ=>match m τ with
 |some (.nx τ')=>n τ'
 |r=>r
def sNx:PSt->Option Out:=fun τ=>some (.nx τ)
def sNo:PSt->Option Out:=fun _=>none
def sBk:PSt->Option Out:=fun τ=>some (.bk τ)
def sCt:PSt->Option Out:=fun τ=>some (.ct τ)
def sExp(m:PSt->Option Rs):PSt->Option Out:=fun τ=>match m τ with
 |some (.v _ _)=>some (.nx τ)
 |some (.x c)=>some (.xc c τ)
 |none=>none
def zd2(m:PSt->Option Rs):PSt->Option Out:=fun τ=>match m τ with
 |some (.v t _)=>some (.rt t)
 |some (.x c)=>some (.xc c τ)
 |none=>none
def sRetN:PSt->Option Out:=fun _=>some (.rt .non)
def zcd(m:PSt->Option Rs)(b:T->PSt->Option PSt):PSt->Option Out:=fun τ=>match m τ with
 |some (.v t false)=>(match b t.share τ with
  |some τ'=>some (.nx τ')
  |none=>none)
 |some (.v _ true)=>none
 |some (.x c)=>some (.xc c τ)
 |none=>none
def sOwn(i:Nat)(m:PSt->Option Rs):PSt->Option Out:=fun τ=>match m τ with
 |some (.v t false)=>if i<τ.length then some (.nx (τ.set i (some t))) else none
 |some (.v _ true)=>none
 |some (.x c)=>some (.xc c τ)
 |none=>none
def sFrz(i:Nat):PSt->Option Out:=fun τ=>match τ[i]? with
 |some (some t)=>some (.nx (τ.set i (some t.share)))
 |_=>some (.nx τ)
def sIf(c:PSt->Option Rs)(a b:PSt->Option Out):PSt->Option Out:=fun τ=>match c τ with
 |some (.v (.bl true) _)=>a τ
 |some (.v (.bl false) _)=>b τ
 |some (.x c)=>some (.xc c τ)
 |_=>none
def zf3(b:T->PSt->Option PSt)(body:PSt->Option Out):List T->PSt->Option Out
 |[],τ=>some (.nx τ)
 |t::ts,τ=>(match b t τ with
  |some τ1=>(match body τ1 with
   |some (.nx τ2)=>zf3 b body ts τ2
   |some (.ct τ2)=>zf3 b body ts τ2
   |some (.bk τ2)=>some (.nx τ2)
   |r=>r)
  |none=>none)
def sFor(mi:PSt->Option RsL)(b:T->PSt->Option PSt)(body:PSt->Option Out):PSt->Option Out:=fun τ=>match mi τ with
 |some (.v ts _)=>zf3 b body ts τ
 |some (.x c)=>some (.xc c τ)
 |none=>none
def whN(c:PSt->Option Rs)(body:PSt->Option Out):Nat->PSt->Option Out
 |0,_=>none
 |n+1,τ=>(match c τ with
  |some (.v (.bl true) _)=>(match body τ with
   |some (.nx τ2)=>whN c body n τ2
   |some (.ct τ2)=>whN c body n τ2
   |some (.bk τ2)=>some (.nx τ2)
   |r=>r)
  |some (.v (.bl false) _)=>some (.nx τ)
  |some (.x c)=>some (.xc c τ)
  |_=>none)
open Classical in
noncomputable def sWh(c:PSt->Option Rs)(body:PSt->Option Out):PSt->Option Out:=fun τ=>if h:∃n,(whN c body n τ).isSome=true then whN c body h.choose τ else none
theorem sWh_some{c:PSt->Option Rs}{body:PSt->Option Out}{τ:PSt}{o:Out}(h:sWh c body τ=some o):∃n,whN c body n τ=some o:=by
 unfold sWh at h;split at h
 ·exact⟨_,h⟩
 ·cases h
theorem whN_more{c:PSt->Option Rs}{body:PSt->Option Out}:∀{n:Nat} {τ:PSt} {o:Out},whN c body n τ=some o->whN c body (n+1) τ=some o
 |0,τ,o,h=>by cases h
 |n+1,τ,o,h=>by
  unfold whN at h ⊢;split at h
  ·split at h
   ·exact whN_more h
   ·exact whN_more h
   ·exact h
   ·exact h
  ·exact h
  ·exact h
  ·cases h
theorem whN_le{c:PSt->Option Rs}{body:PSt->Option Out}{n m:Nat}{τ:PSt}{o:Out}(h:whN c body n τ=some o)(hm:n<=m):whN c body m τ=some o:=by
 induction hm with
 |refl=>exact h
 |step _ ih=>exact whN_more ih
theorem sWh_of{c:PSt->Option Rs}{body:PSt->Option Out}{n:Nat}{τ:PSt}{o:Out}(h:whN c body n τ=some o):sWh c body τ=some o:=by
 unfold sWh;have hx:∃n,(whN c body n τ).isSome=true:=⟨n,by rw[h];rfl⟩
 rw[dif_pos hx];obtain⟨o',e⟩:=Option.isSome_iff_exists.mp hx.choose_spec;have e1:=whN_le e (Nat.le_max_left hx.choose n);have e2:=whN_le h (Nat.le_max_right hx.choose n);rw[e1]at e2;rw[e,<- e2]
section
variable {mu:Bool}{X:Cx}{E:L2.St->XK}{ca:Str->Value}{σ:L2.St}{H:Hp}{K:PySem.W.Frag}{m mk mc:PSt->Option Rs}{ms mi:PSt->Option RsL}{b:T->PSt->Option PSt}{u w:PSt->Option Out}{D:Ends}{e c tg iter:Expr}{st:Stmt}{zgb body sa sb:List Stmt}{pos pos':Pos}
theorem PS.weak{t t':TS}(h:PS X st t)(w:∀D σ H,t' D σ H->t D σ H):PS X st t':=fun pins s σ H D I q=>h pins s σ H D I (w D σ H q)
theorem PSs.weak{t t':TS}(h:PSs X zgb t)(w:∀D σ H,t' D σ H->t D σ H):PSs X zgb t':=fun pins s σ H D I q=>h pins s σ H D I (w D σ H q)
theorem tS_seq(h:tS K E ca mu (zas u w) D σ H):tSeq (tS K E ca mu u) (tS K E ca mu w) D σ H:=by
 obtain⟨F,τ,R,S,q⟩:=h;refine⟨F,τ,R,S,?_⟩;unfold zas at q;cases hm:u τ with
 |none=>simp only[hm]at q
 |some o =>
  simp only[hm]at q;cases o with
  |nx τ' =>
   intro F1 H1 σ1 R1 s1 S1;refine⟨F1,τ',R1,S1,?_⟩;simp only at q;cases hw:w τ' with
   |none=>simp only[hw]at q
   |some o =>
    simp only[hw]at q;cases o with
    |nx _=>exact fun F' H' σ' R' s S=>q F' H' σ' R' (s1.trans s) S
    |bk _=>exact fun F' H' σ' R' s S=>q F' H' σ' R' (s1.trans s) S
    |ct _=>exact fun F' H' σ' R' s S=>q F' H' σ' R' (s1.trans s) S
    |rt _=>exact fun F' H' x B s r=>q F' H' x B (s1.trans s) r
    |xc _ _=>exact fun F' H' σ' R' s S=>q F' H' σ' R' (s1.trans s) S
  |rt _=>exact q
  |bk _=>exact q
  |ct _=>exact q
  |xc _ _=>exact q
theorem s_nil:PSs X [] (tS X.K E ca mu sNx):=PSs.weak pss_nil fun D σ H h=>by
 obtain⟨F,τ,R,S,q⟩:=h;exact q F H σ R (Stp.refl S.fh) S
theorem s_cons(h1:PS X st (tS X.K E ca mu u))(h2:PSs X zgb (tS X.K E ca mu w)):PSs X (st::zgb) (tS X.K E ca mu (zas u w)):=PSs.weak (pss_cons h1 h2) fun D σ H h=>tS_seq h
theorem s_one(h1:PS X st (tS X.K E ca mu u)):PSs X [st] (tS X.K E ca mu u):=pss_one h1
theorem s_no:PS X st (tS X.K E ca mu sNo):=fun pins s σ H D I h=>by
 obtain⟨_,_,_,_,q⟩:=h;exact q.elim
theorem s_pass:PS X (.Pass pos) (tS X.K E ca mu sNx):=PS.weak ps_pass fun D σ H h=>by
 obtain⟨F,τ,R,S,q⟩:=h;exact q F H σ R (Stp.refl S.fh) S
theorem s_break:PS X (.Break pos) (tS X.K E ca mu sBk):=PS.weak ps_break fun D σ H h=>by
 obtain⟨F,τ,R,S,q⟩:=h;exact q F H σ R (Stp.refl S.fh) S
theorem s_continue:PS X (.Continue pos) (tS X.K E ca mu sCt):=PS.weak ps_continue fun D σ H h=>by
 obtain⟨F,τ,R,S,q⟩:=h;exact q F H σ R (Stp.refl S.fh) S
theorem tS_frz{i:Nat}(h:tS K E ca mu (zas (sFrz i) w) D σ H):tS K E ca mu w D σ H:=by
 obtain⟨F,τ,R,S,q⟩:=h;unfold zas sFrz at q;cases ht:τ[i]? with
 |none =>
  rw[ht]at q;exact⟨F,τ,R,S,q⟩
 |some ot =>
  rw[ht]at q;cases ot with
  |none=>exact⟨F,τ,R,S,q⟩
  |some t =>
   simp only at q;obtain⟨x,ex,r⟩:=S.rep i t ht;have hi:i<τ.length:=(ya6.mp ht).1;have n:∀a,R i a->F a=none:=fun a z=>(r.dom z).1
   have S0:StR K (frz F H (R i)) H σ (τ.set i (some t.share)) (fun j=>if j=i then R0 else R j):=by
    refine⟨zm6 S.fh,by simpa using S.len,fun j t' e=>?_,fun j a z=>?_,fun j k a hjk z1 z2=>?_⟩
    ·by_cases hj:j=i
     ·subst hj;rw[yam hi]at e;cases e;exact⟨x,ex,by simpa using r.share (zg5 n) fun a u z q=>by rw[zio z];exact q⟩
     ·rw[yap (yaz hj)]at e;obtain⟨y,e1,r1⟩:=S.rep j t' e;refine⟨y,e1,?_⟩;simp only[hj,if_false]
      exact r1.frame (zg5 n) fun a z=>⟨rfl,by
       rw[zf2 (fun z'=>S.dis j i a hj z z')]
       exact(r1.dom z).1⟩
    ·by_cases hj:j=i
     ·simp only[hj,if_true]at z;exact z.elim
     ·simp only[hj,if_false]at z;obtain⟨t',e⟩:=S.out j a z;exact⟨t',by rw[yap (yaz hj)];exact e⟩
    ·by_cases hj:j=i
     ·simp only[hj,if_true]at z1;exact z1.elim
     ·by_cases hk:k=i
      ·simp only[hk,if_true]at z2;exact z2.elim
      ·simp only[hj,if_false]at z1;simp only[hk,if_false]at z2;exact S.dis j k a hjk z1 z2
   have st0:Stp F H (tot R) (frz F H (R i)) H (tot fun j=>if j=i then R0 else R j):=by
    refine⟨zg5 n,zm6 S.fh,fun _ _ _ e=>e,fun b ⟨j,z⟩=>?_,fun b u e=>?_⟩
    ·by_cases hj:j=i
     ·simp only[hj,if_true]at z;exact z.elim
     ·simp only[hj,if_false]at z;exact .inl ⟨j,z⟩
    ·by_cases hb:R i b
     ·exact .inr (.inl ⟨i,hb⟩)
     ·rw[zf2 hb]at e;exact .inl e
   refine⟨_,_,_,S0,?_⟩;cases hw:w (τ.set i (some t.share)) with
   |none=>simp only[hw]at q
   |some o =>
    simp only[hw]at q;cases o with
    |nx _=>exact fun F' H' σ' R' s S=>q F' H' σ' R' (st0.trans s) S
    |bk _=>exact fun F' H' σ' R' s S=>q F' H' σ' R' (st0.trans s) S
    |ct _=>exact fun F' H' σ' R' s S=>q F' H' σ' R' (st0.trans s) S
    |rt _=>exact fun F' H' x B s r=>q F' H' x B (st0.trans s) r
    |xc _ _=>exact fun F' H' σ' R' s S=>q F' H' σ' R' (st0.trans s) S
theorem s_frz{i:Nat}(h:PSs X zgb (tS X.K E ca mu w)):PSs X zgb (tS X.K E ca mu (zas (sFrz i) w)):=PSs.weak h fun D σ H h=>tS_frz h
theorem s_exp(he:PE X e (tM X.K E ca m))(hs:swapsWith e none pos.line X.env=pure false):PS X (.Expr e pos) (tS X.K E ca mu (sExp m)):=by
 refine PS.weak (ps_expr he hs) fun D σ H h=>?_
 obtain⟨F,τ,R,S,q⟩:=h;refine⟨F,τ,R,S,?_⟩;unfold sExp at q;cases hm:m τ with
 |none=>simp only[hm]at q
 |some r =>
  simp only[hm]at q;cases r with
  |x c=>exact fun F' H' e=>q F' H' σ R e.stp0 (S.ext e)
  |v t bb=>exact fun F' H' x B e g=>q F' H' σ R e.stp0 (S.ext e)
theorem s_ret(he:PE X e (tM X.K E ca m)):PS X (.Return (some e) pos) (tS X.K E ca false (zd2 m)):=by
 refine PS.weak (ps_ret he) fun D σ H h=>?_
 obtain⟨F,τ,R,S,q⟩:=h;refine⟨F,τ,R,S,?_⟩;unfold zd2 at q;cases hm:m τ with
 |none=>simp only[hm]at q
 |some r =>
  simp only[hm]at q;cases r with
  |x c=>exact fun F' H' e=>q F' H' σ R e.stp0 (S.ext e)
  |v t bb =>
   intro F' H' x B e g;cases bb with
   |false=>exact q F' H' x B (e.stp.mono fun _ z=>.inr z) g
   |true =>
    obtain⟨_,A,hA,r⟩:=g;exact q F' H' x A (e.stp.mono fun a z=>.inl (hA a z)) r
theorem s_retN:PS X (.Return none pos) (tS X.K E ca false sRetN):=PS.weak ps_retN fun D σ H h=>by
 obtain⟨F,τ,R,S,q⟩:=h;exact q F H .non R0 ((Stp.refl S.fh).mono fun _ z=>z.elim) .non
theorem s_if(hc:PT X c (tMB X.K E ca mc))(ha:PSs X sa (tS X.K E ca mu u))(hb:PSs X sb (tS X.K E ca mu w)):PS X (.If c sa sb pos) (tS X.K E ca mu (sIf mc u w)):=by
 refine PS.weak (ps_if hc ha hb) fun D σ H h=>?_
 obtain⟨F,τ,R,S,q⟩:=h;refine⟨F,τ,R,S,?_⟩;unfold sIf at q;cases hm:mc τ with
 |none=>simp only[hm]at q
 |some r =>
  simp only[hm]at q;cases r with
  |x c=>exact fun F' H' e=>q F' H' σ R e.stp0 (S.ext e)
  |v t bb =>
   cases t with
   |bl k =>
    intro F1 H1 e1;have S1:=S.ext e1
    have key:∀{mm:PSt->Option Out},(match mm τ with
      |some (.nx τ')=>∀F' H' σ' R',Stp F H (tot R) F' H' (tot R')->StR X.K F' H' σ' τ' R'->D.nx σ' H'
      |some (.bk τ')=>∀F' H' σ' R',Stp F H (tot R) F' H' (tot R')->StR X.K F' H' σ' τ' R'->D.bk σ' H'
      |some (.ct τ')=>∀F' H' σ' R',Stp F H (tot R) F' H' (tot R')->StR X.K F' H' σ' τ' R'->D.ct σ' H'
      |some (.rt t)=>∀F' H' x B,Stp F H (tot R) F' H' B->Wr X.K mu F' H' t x B->D.rt x H'
      |some (.xc c τ')=>∀F' H' σ' R',Stp F H (tot R) F' H' (tot R')->StR X.K F' H' σ' τ' R'->E σ' (ca c) none H'
      |none=>False)->tS X.K E ca mu mm D σ H1:=fun {mm} q=>by
     refine⟨F1,τ,R,S1,?_⟩;cases hr:mm τ with
     |none=>simp only[hr]at q
     |some o =>
      simp only[hr]at q;cases o with
      |nx _=>exact fun F' H' σ' R' s S=>q F' H' σ' R' (e1.stp0.trans s) S
      |bk _=>exact fun F' H' σ' R' s S=>q F' H' σ' R' (e1.stp0.trans s) S
      |ct _=>exact fun F' H' σ' R' s S=>q F' H' σ' R' (e1.stp0.trans s) S
      |rt _=>exact fun F' H' x B s r=>q F' H' x B (e1.stp0.trans s) r
      |xc _ _=>exact fun F' H' σ' R' s S=>q F' H' σ' R' (e1.stp0.trans s) S
    cases k with
    |true=>exact iteT (key q)
    |false=>exact iteF (key q)
   |_=>exact q.elim
theorem tS_set{g:TG}(hg:∀v σ H Q,tGM K b v σ H Q->g v σ H Q)(h:tS K E ca mu (zcd m b) D σ H):tAsg (tM K E ca m) g D σ H:=by
 obtain⟨F,τ,R,S,q⟩:=h;refine⟨F,τ,R,S,?_⟩;unfold zcd at q;cases hm:m τ with
 |none=>simp only[hm]at q
 |some r =>
  simp only[hm]at q;cases r with
  |x c=>exact fun F' H' e=>q F' H' σ R e.stp0 (S.ext e)
  |v t bb =>
   cases bb with
   |true=>exact q.elim
   |false =>
    intro F1 H1 x B e1 g1;obtain⟨F2,e2,_,r2⟩:=Got.frz (b:=false) S e1 g1;simp only at q;cases hb:b t.share τ with
    |none=>simp only[hb]at q
    |some τ' =>
     simp only[hb]at q;refine hg _ _ _ _ ⟨F2,τ,R,t.share,τ',S.ext e2,(show Rp K F2 F2 t.share x R0 from r2).any,hb,fun σ' R' S' hR=>?_⟩
     exact q F2 H1 σ' R' (e2.stp0.mono fun a ⟨i,z⟩=>⟨i,hR i a z⟩) S'
theorem gName_of{i:Nat}{v:V}{Q:L2.St->Hp->Prop}(h:tGM K (bNm i) v σ H Q):gName i v σ H Q:=by
 obtain⟨F,τ,R,t,τ',S,r,e,q⟩:=h;unfold bNm at e;split at e
 ·cases e;rename_i hl;refine q _ _ (S.set r (fun _ _ _ _ z=>z.elim) hl) fun j a z=>?_
  by_cases hj:j=i
  ·simp only[hj,if_true]at z;exact z.elim
  ·simpa[hj] using z
 ·cases e
theorem s_setN{i:Nat}{x:Str}(hN:X.N.Nodup)(hi:X.N[i]?=some x)(hx:Loc X.env.scope x)(he:PE X e (tM X.K E ca m))(hs:swapsWith e (some (.Name x pos')) pos.line X.env=pure false)(hf:X.fn x=true\/X.env.scope.names.lookup x=some .local) :
  PS X (.Assign [.Name x pos'] e pos) (tS X.K E ca mu (zcd m (bNm i))):=PS.weak (ps_set hN hi hx he hs hf) fun D σ H h=>tS_set (fun _ _ _ _ z=>gName_of z) h
theorem s_setG(he:PE X e (tM X.K E ca m))(hg:PG X tg (tGM X.K b))(hs:swapsWithSole [tg] e pos.line X.env=pure false)(hw:swappedStores [tg] e X.env=pure none)(h1:(assignEach [tg] X.env).map (·.2)=[assign tg X.env]) :
  PS X (.Assign [tg] e pos) (tS X.K E ca mu (zcd m b)):=PS.weak (ps_asg he hg hs hw h1) fun D σ H h=>tS_set (fun _ _ _ _ z=>z) h
theorem tS_own{i:Nat}(h:tS K E ca mu (sOwn i m) D σ H):tAsg (tM K E ca m) (gName i) D σ H:=by
 obtain⟨F,τ,R,S,q⟩:=h;refine⟨F,τ,R,S,?_⟩;unfold sOwn at q;cases hm:m τ with
 |none=>simp only[hm]at q
 |some r =>
  simp only[hm]at q;cases r with
  |x c=>exact fun F' H' e=>q F' H' σ R e.stp0 (S.ext e)
  |v t bb =>
   cases bb with
   |true=>exact q.elim
   |false =>
    intro F1 H1 x B e1 g1;have g1':Rp K F1 H1 t x B:=g1;have S1:=S.ext e1
    by_cases hl:i<τ.length
    ·simp only[hl,if_true]at q;refine q F1 H1 _ _ (e1.stp.mono ?_) (S1.set g1' (fun j a _ z1 z2=>S.apart e1 z2 j z1) hl)
     rintro a ⟨j,z⟩
     by_cases hj:j=i
     ·simp only[hj,if_true]at z;exact .inr z
     ·simp only[hj,if_false]at z;exact .inl ⟨j,z⟩
    ·simp only[hl,if_false]at q
theorem s_ownN{i:Nat}{x:Str}(hN:X.N.Nodup)(hi:X.N[i]?=some x)(hx:Loc X.env.scope x)(he:PE X e (tM X.K E ca m))(hs:swapsWith e (some (.Name x pos')) pos.line X.env=pure false)(hf:X.fn x=true\/X.env.scope.names.lookup x=some .local) :
  PS X (.Assign [.Name x pos'] e pos) (tS X.K E ca mu (sOwn i m)):=PS.weak (ps_set hN hi hx he hs hf) fun D σ H h=>tS_own h
theorem s_for(hp:PassesOwn (model X.prog X.w) X.A X.env X.xe)(hc:X.calm=true)(hi:PI X tg iter (tI X.K E ca mi))(hg:PG X tg (tGM X.K b))(hb:PSs X body (tS X.K E ca mu u))(hs:∀x,foldedSetIterable iter X.env x=pure x) :
  PS X (.For tg iter body [] pos) (tS X.K E ca mu (sFor mi b u)):=by
 refine PS.weak (ps_for hp hc hi hg hb hs) fun D σ H h=>?_
 obtain⟨F,τ,R,S,q⟩:=h;refine⟨F,τ,R,S,?_⟩;unfold sFor at q;cases hm:mi τ with
 |none=>simp only[hm]at q
 |some r =>
  simp only[hm]at q;cases r with
  |x c=>exact fun F' H' e=>q F' H' σ R e.stp0 (S.ext e)
  |v ts bb =>
   intro F1 H1 J e1 its;simp only at q;have S1:=S.ext e1;cases hg:zf3 b u ts τ with
   |none=>simp only[hg]at q
   |some out =>
    simp only[hg]at q;refine⟨fun i mm σ' H'=>mm=ts.length - i/\i<=ts.length/\∃F' τ' R',Stp F H (tot R) F' H' (tot R')/\zbs F1 F'/\StR X.K F' H' σ' τ' R'/\zf3 b u (ts.drop i) τ'=some out,⟨ts.length,by simp,ybe _,F1,τ,R,e1.stp0,.refl _,S1,by simpa using hg⟩,?_⟩
    rintro i mm σ' H' ⟨rfl,hle,F',τ',R',st,sf,S',hgo⟩;obtain⟨i1,i2⟩:=its i F' H' sf S'.fh
    by_cases hlt:i<ts.length
    ·refine .inr ⟨(i1 _ (ya0 hlt)).1,fun σ2 H2=>i+1<=ts.length/\∃F2 τ2 R2,Stp F H (tot R) F2 H2 (tot R2)/\zbs F1 F2/\StR X.K F2 H2 σ2 τ2 R2/\zf3 b u (ts.drop (i+1)) τ2=some out,fun σ2 H2 n2=>⟨ts.length - (i+1),by omega,rfl,n2⟩,fun x H'' y=>?_⟩
     obtain⟨F'',e3,rx⟩:=(i1 _ (ya0 hlt)).2 x H'' y;have S3:=S'.ext e3;rw[ybw hlt]at hgo;unfold zf3 at hgo;cases hb2:b ts[i] τ' with
     |none=>simp only[hb2]at hgo;cases hgo
     |some τ1 =>
      simp only[hb2]at hgo;refine⟨F'',τ',R',ts[i],τ1,S3,rx,hb2,fun σ3 R3 S4 hR3=>?_⟩
      have st3:Stp F H (tot R) F'' H'' (tot R3):=(st.trans e3.stp0).mono fun a ⟨j,z⟩=>⟨j,hR3 j a z⟩
      refine⟨F'',τ1,R3,S4,?_⟩;cases hu:u τ1 with
      |none=>simp only[hu]at hgo;cases hgo
      |some o =>
       simp only[hu]at hgo;cases o with
       |nx τ2=>exact fun F4 H4 σ4 R4 s4 S5=>⟨hlt,F4,τ2,R4,st3.trans s4,(sf.trans e3.ff).trans s4.ff,S5,hgo⟩
       |ct τ2=>exact fun F4 H4 σ4 R4 s4 S5=>⟨hlt,F4,τ2,R4,st3.trans s4,(sf.trans e3.ff).trans s4.ff,S5,hgo⟩
       |bk τ2 =>
        cases hgo;exact fun F4 H4 σ4 R4 s4 S5=>q F4 H4 σ4 R4 (st3.trans s4) S5
       |rt v =>
        cases hgo;exact fun F4 H4 x B s4 r=>q F4 H4 x B (st3.trans s4) r
       |xc cc τ2 =>
        cases hgo;exact fun F4 H4 σ4 R4 s4 S5=>q F4 H4 σ4 R4 (st3.trans s4) S5
    ·have hi':i=ts.length:=by omega
     subst hi';refine .inl ⟨i2 rfl,?_⟩;rw[List.drop_length]at hgo;unfold zf3 at hgo;cases hgo;exact q F' H' σ' R' st S'
theorem s_wh(hp:PassesOwn (model X.prog X.w) X.A X.env X.xe)(hc:PT X c (tMB X.K E ca mc))(hb:PSs X body (tS X.K E ca mu u)):PS X (.While c body [] pos) (tS X.K E ca mu (sWh mc u)):=by
 refine PS.weak (ps_while hp hc hb) fun D σ H h=>?_
 obtain⟨F,τ,R,S,q⟩:=h;cases hw:sWh mc u τ with
 |none=>simp only[hw]at q
 |some out =>
  simp only[hw]at q;obtain⟨n,hn⟩:=sWh_some hw;refine⟨fun mm σ' H'=>∃F' τ' R',Stp F H (tot R) F' H' (tot R')/\StR X.K F' H' σ' τ' R'/\whN mc u mm τ'=some out,⟨n,F,τ,R,Stp.refl S.fh,S,hn⟩,?_⟩
  rintro mm σ' H' ⟨F',τ',R',st,S',hgo⟩;cases mm with
  |zero=>cases hgo
  |succ mm =>
   refine⟨F',τ',R',S',?_⟩;unfold whN at hgo;cases hm:mc τ' with
   |none=>simp only[hm]at hgo;cases hgo
   |some r =>
    simp only[hm]at hgo;cases r with
    |x cc =>
     cases hgo;exact fun F2 H2 e2=>q F2 H2 σ' R' (st.trans e2.stp0) (S'.ext e2)
    |v t bb =>
     cases t with
     |bl k =>
      intro F2 H2 e2;have S2:=S'.ext e2;have st2:Stp F H (tot R) F2 H2 (tot R'):=st.trans e2.stp0;cases k with
      |false =>
       cases hgo;exact iteF (q F2 H2 σ' R' st2 S2)
      |true =>
       simp only at hgo;refine iteT ⟨fun σ2 H2=>∃F2 τ2 R2,Stp F H (tot R) F2 H2 (tot R2)/\StR X.K F2 H2 σ2 τ2 R2/\whN mc u mm τ2=some out,fun σ3 H3 n3=>⟨mm,ybk _,n3⟩,F2,τ',R',S2,?_⟩
       cases hu:u τ' with
       |none=>simp only[hu]at hgo;cases hgo
       |some o =>
        simp only[hu]at hgo;cases o with
        |nx τ2=>exact fun F4 H4 σ4 R4 s4 S5=>⟨F4,τ2,R4,st2.trans s4,S5,hgo⟩
        |ct τ2=>exact fun F4 H4 σ4 R4 s4 S5=>⟨F4,τ2,R4,st2.trans s4,S5,hgo⟩
        |bk τ2 =>
         cases hgo;exact fun F4 H4 σ4 R4 s4 S5=>q F4 H4 σ4 R4 (st2.trans s4) S5
        |rt v =>
         cases hgo;exact fun F4 H4 x B s4 r=>q F4 H4 x B (st2.trans s4) r
        |xc cc τ2 =>
         cases hgo;exact fun F4 H4 σ4 R4 s4 S5=>q F4 H4 σ4 R4 (st2.trans s4) S5
     |_=>cases hgo
end
end Pu
set_option Elab.async false
set_option linter.all false
set_option maxRecDepth 100000
namespace Pu
open PySem PySem.Spec PyProof.Rows L2 Zw Zx
section
variable {K:PySem.W.Frag}{F H:Hp}{l:List T}{xs:List V}{Rr:Nat->Rg}{p:Addr}{o:HO}
theorem Rp.own_inv{x:V}{A:Rg}{k:Kd}(h:Rp K F H (.nd true k l) x A):∃p xs Rr,x=.ref p/\A=(fun a=>a=p\/∃j,Rr j a)/\F p=none/\H p=some (.lst xs)/\RpO K F H l xs Rr/\(∀j,¬ Rr j p)/\OwnK k p:=by
 cases h with
 |own hk R f h e c d dp o=>exact⟨_,_,R,rfl,rfl,f,h,⟨e,c,d,o⟩,dp,hk⟩
theorem own_mk{k:Kd}(hk:OwnK k p)(r:RpO K F H l xs Rr)(f:F p=none)(h:H p=some (.lst xs))(dp:∀j,¬ Rr j p):Rp K F H (.nd true k l) (.ref p) (fun a=>a=p\/∃j,Rr j a):=.own hk Rr f h r.len r.rep r.dis dp r.out
theorem RpO.upd(r:RpO K F H l xs Rr)(dp:∀j,¬ Rr j p):RpO K F (L2.upd H p o) l xs Rr:=⟨r.len,fun i t x h1 h2=>(r.rep i t x h1 h2).frame (.refl _) fun a z=>⟨zam (fun e=>dp i (e▸z)),(r.dom z).1⟩,r.dis,r.out⟩
theorem Rp.upd{t:T}{x:V}{A:Rg}(r:Rp K F H t x A)(dp:¬ A p):Rp K F (L2.upd H p o) t x A:=r.frame (.refl _) fun a z=>⟨zam (fun e=>dp (e▸z)),(r.dom z).1⟩
theorem RpO.set(r:RpO K F H l xs Rr){j0:Nat}{t:T}{y:V}{B:Rg}(hj:j0<l.length)(rt:Rp K F H t y B)(d:∀j a,j≠j0->Rr j a->¬ B a):RpO K F H (l.set j0 t) (xs.set j0 y) (fun j=>if j=j0 then B else Rr j):=by
 have hl:=r.len;refine⟨by simp[hl],fun i t' x' h1 h2=>?_,fun i k a hik z1 z2=>?_,fun i a z=>?_⟩
 ·by_cases hi:i=j0
  ·subst hi;rw[yam hj]at h1;rw[yam (by omega)]at h2
   cases h1;cases h2
   simpa using rt
  ·rw[yap (yaz hi)]at h1 h2
   simpa[hi] using r.rep i t' x' h1 h2
 ·by_cases hi:i=j0
  ·simp only[hi,if_true]at z1;have hk:¬ k=j0:=fun z=>hik (hi.trans z.symm)
   simp only[hk,if_false]at z2;exact d k a hk z2 z1
  ·simp only[hi,if_false]at z1
   by_cases hk:k=j0
   ·simp only[hk,if_true]at z2;exact d i a hi z1 z2
   ·simp only[hk,if_false]at z2;exact r.dis i k a hik z1 z2
 ·by_cases hi:i=j0
  ·simp[hi];omega
  ·simp only[hi,if_false]at z
   simpa using r.out i a z
variable {σ:L2.St}{τ:PSt}{R:Nat->Rg}
theorem StR.upd(S:StR K F H σ τ R){i:Nat}{t t':T}{x:V}{A' B:Rg}(ht:τ[i]?=some (some t))(hx:σ[i]?=some (some x))(hp:R i p)(r':Rp K F (L2.upd H p o) t' x A')(hA:∀a,A' a->R i a\/B a)(hB:∀j a,R j a->¬ B a) :
  StR K F (L2.upd H p o) σ (τ.set i (some t')) (fun j=>if j=i then A' else R j)/\Stp F H (fun a=>Pu.tot R a\/B a) F (L2.upd H p o) (Pu.tot fun j=>if j=i then A' else R j):=by
 have fp:F p=none:=(S.dom hp).1;have hi:i<τ.length:=(ya6.mp ht).1
 have fh':zbs F (L2.upd H p o):=fun b u e=>by
  rw[zam (fun z=>by rw[z,fp]at e;cases e)]
  exact S.fh b u e
 refine⟨⟨fh',by simpa using S.len,fun j t1 e=>?_,fun j a z=>?_,fun j k a hjk z1 z2=>?_⟩,⟨.refl _,fh',fun b u n e=>?_,fun b ⟨j,z⟩=>?_,fun b u e=>.inl e⟩⟩
 ·by_cases hj:j=i
  ·subst hj;rw[yam hi]at e;cases e;exact⟨x,hx,by simpa using r'⟩
  ·rw[yap (yaz hj)]at e;obtain⟨y,e1,r1⟩:=S.rep j t1 e;exact⟨y,e1,by simpa[hj] using r1.upd (o:=o) (fun z=>S.dis j i p hj z hp)⟩
 ·by_cases hj:j=i
  ·subst hj;exact⟨t',yam hi⟩
  ·simp only[hj,if_false]at z;obtain⟨t1,e⟩:=S.out j a z;exact⟨t1,by rw[yap (yaz hj)];exact e⟩
 ·by_cases hj:j=i
  ·simp only[hj,if_true]at z1;have hk:¬ k=i:=fun z=>hjk (hj.trans z.symm)
   simp only[hk,if_false]at z2
   rcases hA a z1 with w|w
   ·exact S.dis i k a (yaz hk) w z2
   ·exact hB k a z2 w
  ·simp only[hj,if_false]at z1
   by_cases hk:k=i
   ·simp only[hk,if_true]at z2
    rcases hA a z2 with w|w
    ·exact S.dis i j a (yaz hj) w z1
    ·exact hB j a z1 w
   ·simp only[hk,if_false]at z2;exact S.dis j k a hjk z1 z2
 ·rw[zam (fun z=>n (.inl (by rw[z];exact⟨i,hp⟩)))]
  exact e
 ·by_cases hj:j=i
  ·simp only[hj,if_true]at z
   rcases hA b z with w|w
   ·exact .inl (.inl ⟨i,w⟩)
   ·exact .inl (.inr w)
  ·simp only[hj,if_false]at z;exact .inl (.inl ⟨j,z⟩)
end
def ownAt(τ:PSt)(i:Nat):Option (Kd×List T):=match τ[i]? with
 |some (some (.nd true k l))=>some (k,l)
 |_=>none
theorem zlq{τ:PSt}{i:Nat}{k:Kd}{l:List T}(h:ownAt τ i=some (k,l)):τ[i]?=some (some (.nd true k l)):=by
 unfold ownAt at h;split at h
 ·rename_i k' l' e;cases h;exact e
 ·cases h
def sApp(i:Nat)(m:PSt->Option Rs):PSt->Option Out:=fun τ=>match ownAt τ i with
 |some (kd,l)=>(match m τ with
  |some (.v t false)=>if l.length<lim then some (.nx (τ.set i (some (.nd true kd (l++[t]))))) else none
  |some (.v _ true)=>none
  |some (.x c)=>some (.xc c τ)
  |none=>none)
 |none=>none
def sSto(i:Nat)(mk m:PSt->Option Rs):PSt->Option Out:=fun τ=>match m τ with
 |some (.v t false)=>(match ownAt τ i with
  |some (kd,l)=>(match mk τ with
   |some (.v (.int k) _)=>(match ixN l.length k with
    |some j=>some (.nx (τ.set i (some (.nd true kd (l.set j t)))))
    |none=>none)
   |some (.v _ _)=>none
   |some (.x c)=>some (.xc c τ)
   |none=>none)
  |none=>none)
 |some (.v _ true)=>none
 |some (.x c)=>some (.xc c τ)
 |none=>none
def ownKid:Option T->Option (List T)
 |some (.nd true .lst l)=>some l
 |_=>none
section
variable {mu:Bool}{X:Cx}{E:L2.St->XK}{ca:Str->Value}{σ:L2.St}{H:Hp}{K:PySem.W.Frag}{m mk mn:PSt->Option Rs}{D:Ends}{e k n:Expr}{pos apos cpos p1 pos2 pos3:Pos}{i:Nat}{x:Str}
theorem got_int{F:Hp}{R:Nat->Rg}{j:Int}{b:Bool}{y:V}{B:Rg}(g:Got K F H R (.int j) b y B):y=.int j:=by
 cases b with
 |true=>obtain⟨_,A,_,r⟩:=g;exact r.int_inv
 |false=>exact(show Rp K F H _ _ _ from g).int_inv
theorem snoc_tot'{l:List T}{Rr:Nat->Rg}{B:Rg}{a:Addr}(h:∃j,(fun j=>if j=l.length then B else Rr j) j a):(∃j,Rr j a)\/B a:=snoc_tot (l:=l) h
theorem set_tot{j0:Nat}{Rr:Nat->Rg}{B:Rg}{a:Addr}(h:∃j,(fun j=>if j=j0 then B else Rr j) j a):(∃j,Rr j a)\/B a:=by
 obtain⟨j,z⟩:=h
 by_cases hj:j=j0
 ·simp only[hj,if_true]at z;exact .inr z
 ·simp only[hj,if_false]at z;exact .inl ⟨j,z⟩
theorem s_app(hN:X.N[i]?=some x)(hv:Vis X.env.scope x)(hd:(x == ("__debug__":Str))=false)(hcd:(x == ("__classdict__":Str))=false)(he:PE X e (tM X.K E ca m))(hs:starEach [e] X.env=[(false,eval e X.env)])(hline:(apos.endLine == cpos.line)=true) :
  PS X (.Expr (.Call (.Attribute (.Name x p1) "append" apos) [e] [] cpos) pos) (tS X.K E ca mu (sApp i m)):=by
 refine PS.weak (ps_expr (pe_bm PySem.F.plainAttrs_list PySem.F.slot_list_append PySem.F.type_list_append mt_append (zlp hN hv hd hcd) (zbw he zfb hs) rfl (by rw[hs];rfl) hline hs rfl) rfl) fun D σ H h=>?_
 obtain⟨F,τ,R,S,q⟩:=h;unfold sApp at q;cases ho:ownAt τ i with
 |none=>simp only[ho]at q
 |some kl =>
  obtain⟨kd,l⟩:=kl;simp only[ho]at q;have ht:=zlq ho;obtain⟨y,ey,ry⟩:=S.rep i _ ht;obtain⟨p,xs,Rr,rfl,hA,fp,hp,ro,dp,hOw⟩:=ry.own_inv;refine⟨_,ey,.inl ⟨rfl,xs,SqL.of hp⟩,F,τ,R,S,?_⟩;cases hm:m τ with
  |none=>simp only[hm]at q
  |some r =>
   simp only[hm]at q;cases r with
   |x c=>exact fun F' H' e=>q F' H' σ R e.stp0 (S.ext e)
   |v t bb =>
    cases bb with
    |true=>exact q.elim
    |false =>
     intro F1 H1 y B e1 g1;have g1':Rp X.K F1 H1 t y B:=g1
     by_cases hz:l.length<lim
     ·simp only[hz,if_true]at q;have S1:=S.ext e1;have ro1:=ro.ext e1;have hp1:=e1.hh _ _ hp;have pB:¬ B p:=fun z=>by rw[e1.nb p z]at hp;cases hp
      have fp1:F1 p=none:=(ry.ext e1 |>.dom (by rw[hA];exact .inl rfl)).1
      refine⟨p,xs,y,rfl,rfl,hp1,by rw[<- ro.len,<- zfd];exact hz,?_⟩
      have ro2:RpO X.K F1 (upd H1 p (.lst (xs++[y]))) (l++[t]) (xs++[y]) _:=(ro1.upd dp).snoc (g1'.upd pB) fun j a z1 z2=>ro.apart e1 z2 j z1
      have dp2:∀j,¬ (if j=l.length then B else Rr j) p:=fun j z=>by
       by_cases hj:j=l.length
       ·simp only[hj,if_true]at z;exact pB z
       ·simp only[hj,if_false]at z;exact dp j z
      have r2:=own_mk hOw ro2 fp1 zay dp2
      obtain⟨S3,st3⟩:=S1.upd ht ey (by rw[hA];exact .inl rfl) r2 (B:=B) (fun a z=>by
       rw[hA]
       rcases z with z|z
       ·exact .inl (.inl z)
       ·rcases snoc_tot' z with w|w
        ·exact .inl (.inr w)
        ·exact .inr w) (fun j a z1 z2=>S.apart e1 z2 j z1)
      exact q F1 _ σ _ (e1.stp.trans st3) S3
     ·simp only[hz,if_false]at q
theorem s_sto(hN:X.N[i]?=some x)(hv:Vis X.env.scope x)(hd:(x == ("__debug__":Str))=false)(hcd:(x == ("__classdict__":Str))=false)(he:PE X e (tM X.K E ca m))(hk:PE X k (tM X.K E ca mk))(hs:swapsWithSole [.Subscript (.Name x p1) k pos2] e pos.line X.env=pure false)(hw:swappedStores [.Subscript (.Name x p1) k pos2] e X.env=pure none)
  (ha : ∀ v, assign (.Subscript (.Name x p1) k pos2) X.env v = (do
   let ov <- holding [v] (eval (.Name x p1) X.env);let iv <- holding [v,ov] (eval k X.env)
   standAt pos2
   holding [v,ov,iv] (setItem ov iv v)
   release [v,ov,iv] [])) :
  PS X (.Assign [.Subscript (.Name x p1) k pos2] e pos) (tS X.K E ca mu (sSto i mk m)):=by
 refine PS.weak (ps_asg he (pg_sub (zlp hN hv hd hcd) hk set_list ha) hs hw rfl) fun D σ H h=>?_
 obtain⟨F,τ,R,S,q⟩:=h;refine⟨F,τ,R,S,?_⟩;unfold sSto at q;cases hm:m τ with
 |none=>simp only[hm]at q
 |some r =>
  simp only[hm]at q;cases r with
  |x c=>exact fun F' H' e=>q F' H' σ R e.stp0 (S.ext e)
  |v t bb =>
   cases bb with
   |true=>exact q.elim
   |false =>
    intro F1 H1 y B e1 g1;have g1':Rp X.K F1 H1 t y B:=g1;simp only at q;cases ho:ownAt τ i with
    |none=>simp only[ho]at q
    |some kl =>
     obtain⟨kd,l⟩:=kl;simp only[ho]at q;have S1:=S.ext e1;have ht:=zlq ho;obtain⟨y2,ey,ry⟩:=S1.rep i _ ht;refine⟨y2,ey,F1,τ,R,S1,?_⟩;cases hkk:mk τ with
     |none=>simp only[hkk]at q
     |some r =>
      simp only[hkk]at q;cases r with
      |x c=>exact fun F' H' e=>q F' H' σ R ((e1.stp0).trans e.stp0) (S1.ext e)
      |v tk bk =>
       cases tk with
       |int kk =>
        simp only at q;cases hj:ixN l.length kk with
        |none=>simp only[hj]at q
        |some j =>
         simp only[hj]at q;intro F2 H2 z C e2 g2;have hz:=got_int g2;subst hz;have S2:=S1.ext e2;have ry2:=ry.ext e2;obtain⟨p,xs,Rr,rfl,hA,fp,hp,ro,dp,hOw⟩:=ry2.own_inv;have hjl:=(ixN_seq hj).2.1;have g2':=g1'.ext e2
         have pB:¬ B p:=fun z=>by
          have:R i p:=by rw[hA];exact .inl rfl
          exact S.apart e1 z i this
         refine⟨p,xs,kk,j,rfl,rfl,hp,by rw[<- ro.len];exact hj,?_⟩
         have ro2:RpO X.K F2 (upd H2 p (.lst (xs.set j y))) (l.set j t) (xs.set j y) _:=(ro.upd dp).set hjl (g2'.upd pB) fun j' a _ z1 z2=>S.apart e1 z2 i (by rw[hA];exact .inr ⟨j',z1⟩)
         have dp2:∀j',¬ (if j'=j then B else Rr j') p:=fun j' z=>by
          by_cases hj':j'=j
          ·simp only[hj',if_true]at z;exact pB z
          ·simp only[hj',if_false]at z;exact dp j' z
         have r3:=own_mk hOw ro2 fp zay dp2
         obtain⟨S3,st3⟩:=S2.upd ht ey (by rw[hA];exact .inl rfl) r3 (B:=B) (fun a z=>by
          rw[hA]
          rcases z with z|z
          ·exact .inl (.inl z)
          ·rcases set_tot z with w|w
           ·exact .inl (.inr w)
           ·exact .inr w) (fun j a z1 z2=>S.apart e1 z2 j z1)
         exact q F2 _ σ _ ((e1.stp.trans e2.stp0).trans st3) S3
       |_=>exact q.elim
def sPar(i j:Nat)(ms:PSt->Option RsL):PSt->Option Out:=fun τ=>match ms τ with
 |some (.v ts false)=>(match ts with
  |[t,u]=>if i<τ.length/\j<τ.length then some (.nx ((τ.set i (some t)).set j (some u))) else none
  |_=>none)
 |some (.v _ true)=>none
 |some (.x c)=>some (.xc c τ)
 |none=>none
theorem s_par{i j:Nat}{x y:Str}{a b:Expr}{ms:PSt->Option RsL}{px py pt:Pos}{kt k2 pt2}(hc:X.calm=true)(hN:X.N.Nodup)(hi:X.N[i]?=some x)(hj:X.N[j]?=some y)(hij:i≠j)
  (hx:X.env.scope.names.lookup x=some .local) (hy:X.env.scope.names.lookup y=some .local) (ha:PA X [a,b] (tMs X.K E ca ms))
  (hw:swappedStores [.Tuple [.Name x px,.Name y py] kt pt] (.Tuple [a,b] k2 pt2) X.env=pure (some [x,y]))
  (hs:swapsWithSole [.Tuple [.Name x px,.Name y py] kt pt] (.Tuple [a,b] k2 pt2) pos.line X.env=pure false) :
  PS X (.Assign [.Tuple [.Name x px,.Name y py] kt pt] (.Tuple [a,b] k2 pt2) pos) (tS X.K E ca mu (sPar i j ms)):=by
 refine PS.weak (ps_par hc hN hi hj hij hx hy ha hw hs) fun D σ H h=>?_
 obtain⟨F,τ,R,S,q⟩:=h;refine⟨F,τ,R,S,?_⟩;unfold sPar at q;cases hm:ms τ with
 |none=>simp only[hm]at q
 |some r =>
  simp only[hm]at q;cases r with
  |x c=>exact fun F' H' e=>q F' H' σ R e.stp0 (S.ext e)
  |v ts bb =>
   cases bb with
   |true=>exact q.elim
   |false =>
    intro F1 H1 xs e1 rs;simp only at q
    match ts,q,rs with
    |[t,u],q,rs =>
     simp only at q
     by_cases hl:i<τ.length/\j<τ.length
     ·simp only[hl,if_true]at q;obtain⟨x1,xs1,rfl,r1,rs1⟩:=rs.inv;obtain⟨x2,xs2,rfl,r2,rs2⟩:=rs1.inv;cases rs2.inv0;have S1:=S.ext e1;have S2:=S1.set (i:=i) (show Rp X.K F1 H1 t x1 R0 from(show Rp X.K F1 F1 t x1 R0 from r1).any) (fun _ _ _ _ z=>z.elim) hl.1
      have S3:=S2.set (i:=j) (show Rp X.K F1 H1 u x2 R0 from(show Rp X.K F1 F1 u x2 R0 from r2).any) (fun _ _ _ _ z=>z.elim) (by simpa using hl.2)
      refine⟨x1,x2,rfl,q F1 H1 _ _ (e1.stp0.mono ?_) S3⟩;rintro a ⟨k,z⟩
      by_cases hk:k=j
      ·simp only[hk,if_true]at z;exact z.elim
      ·simp only[hk,if_false]at z
       by_cases hk2:k=i
       ·simp only[hk2,if_true]at z;exact z.elim
       ·simp only[hk2,if_false]at z;exact⟨k,z⟩
     ·simp only[hl,if_false]at q
    |[],q,rs=>exact q.elim
    |[_],q,rs=>exact q.elim
    |_::_::_::_,q,rs=>exact q.elim
end
section
variable {X:Cx}{E:L2.St->XK}{ca:Str->Value}{σ:L2.St}{H F:Hp}{K:PySem.W.Frag}{m mk:PSt->Option Rs}{ms:PSt->Option RsL}{D:Ends}{e:Expr}{es:List Expr}{pos apos cpos p1 p2:Pos}{i j:Nat}{x y:Str}{τ:PSt}{R:Nat->Rg}{mu:Bool}
theorem Rp.kind{k k':Kd}{l:List T}{p:Addr}{A:Rg}(h:Rp K F H (.nd true k l) (.ref p) A)(o:OwnK k' p):Rp K F H (.nd true k' l) (.ref p) A:=by
 obtain⟨p',xs,Rr,e,rfl,fp,hp,ro,dp,_⟩:=h.own_inv;cases e;exact own_mk o ro fp hp dp
theorem Rp.pin_at{q:Addr}{l:List T}{x:V}{A:Rg}(h:Rp K F H (.nd true (.pin q) l) x A):x=.ref q:=by
 obtain⟨p',xs,Rr,rfl,rfl,fp,hp,ro,dp,o⟩:=h.own_inv;have o':q=p':=o;rw[o']
def retAt(t:T)(τ:PSt):Option Out:=match τ[(0:Nat)]? with
 |some (some (.nd true (.pin q) l))=>some (.rt (.own [t,.nd true (.pin q) l]))
 |_=>none
theorem zln{t:T}{o:Out}(h:retAt t τ=some o):∃q l,τ[0]?=some (some (.nd true (.pin q) l))/\o=.rt (.own [t,.nd true (.pin q) l]):=by
 unfold retAt at h;split at h
 ·rename_i q l e;cases h;exact⟨q,l,e,rfl⟩
 ·cases h
theorem retAt_w{t:T}{q:Addr}{l:List T}{x:V}{F' H':Hp}(S:StR K F' H' σ τ R)(h:τ[0]?=some (some (.nd true (.pin q) l)))(hf:t.flat=true)(r:Rp K F' H' t x R0):Wr K true F' H' (.own [t,.nd true (.pin q) l]) x (R 0):=by
 obtain⟨y,_,ry⟩:=S.rep 0 _ h;have hy:=ry.pin_at;subst hy;exact⟨t,q,l,rfl,hf,r,ry⟩
def sRetM(m:PSt->Option Rs):PSt->Option Out:=fun τ=>match m τ with
 |some (.v t _)=>if t.flat then retAt t τ else none
 |some (.x c)=>some (.xc c τ)
 |none=>none
def sRetMN:PSt->Option Out:=fun τ=>retAt .non τ
theorem got_flat{F H:Hp}{t:T}{b:Bool}{x:V}{B:Rg}(g:Got K F H R t b x B)(hf:t.flat=true):Rp K F H t x R0:=by
 cases b with
 |true=>obtain⟨_,A,_,r⟩:=g;exact r.flat_any hf
 |false=>exact(show Rp K F H _ _ _ from g).flat_any hf
theorem s_retM(he:PE X e (tM X.K E ca m)):PS X (.Return (some e) pos) (tS X.K E ca true (sRetM m)):=by
 refine PS.weak (ps_ret he) fun D σ H h=>?_
 obtain⟨F,τ,R,S,q⟩:=h;refine⟨F,τ,R,S,?_⟩;unfold sRetM at q;cases hm:m τ with
 |none=>simp only[hm]at q
 |some r =>
  simp only[hm]at q;cases r with
  |x c=>exact fun F' H' e=>q F' H' σ R e.stp0 (S.ext e)
  |v t bb =>
   intro F' H' x B e g;simp only at q;cases hf:t.flat with
   |false=>rw[hf]at q;exact False.elim q
   |true =>
    rw[hf,if_pos rfl]at q;cases ho:retAt t τ with
    |none=>rw[ho]at q;exact q.elim
    |some o =>
     rw[ho]at q;obtain⟨p,l,h0,rfl⟩:=zln ho;exact q F' H' x (R 0) (e.stp0.mono fun a z=>⟨0,z⟩) (retAt_w (S.ext e) h0 hf (got_flat g hf))
theorem s_retMN:PS X (.Return none pos) (tS X.K E ca true sRetMN):=PS.weak ps_retN fun D σ H h=>by
 obtain⟨F,τ,R,S,q⟩:=h;unfold sRetMN at q;cases ho:retAt .non τ with
 |none=>simp only[ho]at q
 |some o =>
  simp only[ho]at q;obtain⟨p,l,h0,rfl⟩:=zln ho;exact q F H .non (R 0) ((Stp.refl S.fh).mono fun a z=>⟨0,z⟩) (retAt_w S h0 rfl .non)
inductive Mo where
 |ok (v:T) (τ:PSt)|exc (c:Str) (τ:PSt)
def gAll(g:List T->Option Ru)(l ts:List T)(r:T×List T):Prop:=∀p,g (.nd true (.pin p) l::ts)=some (.ok (.own [r.1,.nd true (.pin p) r.2]))
open Classical in
noncomputable def gMu(g:List T->Option Ru)(l ts:List T):Option (T×List T):=if h:∃r,gAll g l ts r then some h.choose else none
noncomputable def mMut(i:Nat)(g:List T->Option Ru)(ms:PSt->Option RsL):PSt->Option Mo:=fun τ=>match ownAt τ i with
 |some (kd,l)=>(match ms τ with
  |some (.v ts false)=>(match gMu g l ts with
   |some (v,l')=>if v.flat then some (.ok v (τ.set i (some (.nd true kd l')))) else none
   |none=>none)
  |some (.v _ true)=>none
  |some (.x c)=>some (.exc c τ)
  |none=>none)
 |none=>none
def spM(K:PySem.W.Frag)(ca:Str->Value)(g:List T->Option Ru):Sp:=fun vs H Q E=>∃F p l ts A vs',zbs F H/\vs=.ref p::vs'/\Rp K F H (.nd true (.pin p) l) (.ref p) A/\Rps K F ts vs'/\match g (.nd true (.pin p) l::ts) with
 |some (.ok t)=>∀F' H' x B,Stp F H A F' H' B->Wr K true F' H' t x B->Q x H'
 |some (.exc c)=>∀F' H',Stp F H A F' H' R0->E (ca c) none H'
 |none=>False
variable {mm:PSt->Option Mo}
end
end Pu
set_option Elab.async false
set_option linter.all false
set_option maxRecDepth 100000
namespace Pu
open PySem PySem.Spec PyProof.Rows L2 Zw Zx
section
variable {X:Cx}{pins:List (Addr×Obj)}{σ:L2.St}{H:Hp}{s:Shared}{a:Addr}{kvs:List (Key×V)}
end
section
variable {X:Cx}
def tDicO:TE:=fun _ H Q=>∀p,H p=none->Q (.ref p) (upd H p (.dK []))
theorem pe_dicO{pos:Pos}:PE X (.Dict [] [] pos) tDicO:=fun pins s σ H Q I h=>by
 refine wpAny_Dict_empty ⟨.ref s.heap.objs.size,_,I.laid (a:=s.heap.objs.size) (o:=.dK []) (t':=s.toks) (fun _ _ q=>ya7 _ q) (yaa _) (dk_empty s.heap I.big),rfl,h _ (I.hok.fresh (yaa _))⟩
end
section
variable {X:Cx}{E:L2.St->XK}{ca:Str->Value}{m mk mv:PSt->Option Rs}{e k:Expr}{pos p1 pos2:Pos}{mu:Bool}
end
section
variable {X:Cx}{E:L2.St->XK}{ca:Str->Value}{m mk:PSt->Option Rs}{e k:Expr}{pos p1 pos2:Pos}{mu:Bool}{i:Nat}{x:Str}
end
end Pu
set_option Elab.async false
set_option linter.all false
set_option maxRecDepth 100000
namespace Pu
open PySem PySem.Spec PyProof.Rows L2 Zw Zx
theorem StR.frz{K:PySem.W.Frag}{F H:Hp}{σ:L2.St}{τ:PSt}{R:Nat->Rg}{i:Nat}{t:T}(S:StR K F H σ τ R)(ht:τ[i]?=some (some t)):StR K (Pu.frz F H (R i)) H σ (τ.set i (some t.share)) (fun j=>if j=i then R0 else R j):=by
 obtain⟨x,ex,r⟩:=S.rep i t ht;have hi:i<τ.length:=(ya6.mp ht).1;have n:∀a,R i a->F a=none:=fun a z=>(r.dom z).1
 refine⟨zm6 S.fh,by simpa using S.len,fun j t' e=>?_,fun j a z=>?_,fun j k a hjk z1 z2=>?_⟩
 ·by_cases hj:j=i
  ·subst hj;rw[yam hi]at e;cases e;exact⟨x,ex,by simpa using r.share (zg5 n) fun a u z q=>by rw[zio z];exact q⟩
  ·rw[yap (yaz hj)]at e;obtain⟨y,e1,r1⟩:=S.rep j t' e;refine⟨y,e1,?_⟩;simp only[hj,if_false]
   exact r1.frame (zg5 n) fun a z=>⟨rfl,by
    rw[zf2 (fun z'=>S.dis j i a hj z z')]
    exact(r1.dom z).1⟩
 ·by_cases hj:j=i
  ·simp only[hj,if_true]at z;exact z.elim
  ·simp only[hj,if_false]at z;obtain⟨t',e⟩:=S.out j a z;exact⟨t',by rw[yap (yaz hj)];exact e⟩
 ·by_cases hj:j=i
  ·simp only[hj,if_true]at z1;exact z1.elim
  ·by_cases hk:k=i
   ·simp only[hk,if_true]at z2;exact z2.elim
   ·simp only[hj,if_false]at z1;simp only[hk,if_false]at z2;exact S.dis j k a hjk z1 z2
section
variable {X:Cx}{E:L2.St->XK}{ca:Str->Value}{σ:L2.St}{H:Hp}{K:PySem.W.Frag}{u w:PSt->Option Out}{D:Ends}
end
end Pu
set_option Elab.async false
set_option linter.all false
set_option maxRecDepth 100000
namespace Pu
open PySem PySem.Spec PyProof.Rows L2 Zw Zx
theorem zlu{fs:List Str}{xs:List V}{f:Str}:∀{j:Nat} {x:V},fs.findIdx? (· == f)=some j->xs[j]?=some x->(fs.zip xs).lookup f=some x:=by
 induction fs generalizing xs with
 |nil=>intro j x h;simp at h
 |cons g r ih =>
  intro j x h hx;rw[yd7]at h;cases xs with
  |nil=>simp at hx
  |cons y ys =>
   rw[ycc,yat]
   by_cases hg:g=f
   ·subst hg;simp only[beq_self_eq_true,if_true,yci]at h;subst h;simp at hx;rw[beq_self_eq_true,hx]
   ·have h1:(g == f)=false:=beq_eq_false_iff_ne.mpr hg;have h2:(f == g)=false:=beq_eq_false_iff_ne.mpr (yaz hg);rw[h1]at h;simp only[yc3,if_false,ya3]at h;obtain⟨j',h3,rfl⟩:=h;rw[h2];exact ih h3 (by simpa using hx)
theorem zjx{fs:List Str}{xs:List V}{f:Str}(h:fs.contains f=false):(fs.zip xs).lookup f=none:=by
 induction fs generalizing xs with
 |nil=>rfl
 |cons g r ih =>
  cases xs with
  |nil=>rfl
  |cons y ys =>
   rw[yd6,ybb]at h;rw[ycc,yat,h.1];exact ih h.2
theorem Rp.obj_inv{K:PySem.W.Frag}{F H:Hp}{k:Ob}{l:List T}{x:V}{A:Rg}(h:Rp K F H (.obj k l) x A):∃p xs,x=.ref p/\A=R0/\ObS F k p xs/\l.length=xs.length/\∀(i:Nat) (t:T) (x:V),l[i]?=some t->xs[i]?=some x->Rp K F H t x R0:=by
 cases h with
 |obj h e c=>exact⟨_,_,rfl,rfl,h,e,c⟩
def insT(C:Addr)(fs:List Str):T->Option (List T)
 |.obj (.ins C' fs') l=>if C'=C/\fs'=fs then some l else none
 |_=>none
theorem insT_some{C:Addr}{fs:List Str}{t:T}{l:List T}(h:insT C fs t=some l):t=.obj (.ins C fs) l:=by
 unfold insT at h;split at h
 ·split at h
  ·rename_i hc;cases h;rw[hc.1,hc.2]
  ·cases h
 ·cases h
def mFld(C:Addr)(fs:List Str)(j:Nat)(m:PSt->Option Rs):PSt->Option Rs:=fun τ=>match m τ with
 |some (.v t b)=>(match insT C fs t with
  |some l=>(match l[j]? with
   |some u=>some (.v u (b && !u.sh))
   |none=>none)
  |none=>none)
 |some (.x c)=>some (.x c)
 |none=>none
def zl4(C:Addr)(fs:List Str)(g:List T->Option Ru)(m:PSt->Option Rs)(ms:PSt->Option RsL):PSt->Option Rs:=fun τ=>match m τ with
 |some (.v t _)=>(match insT C fs t with
  |some _=>(match ms τ with
   |some (.v ts b)=>(match g (t.share::ts) with
    |some (.ok v)=>fin b v
    |some (.exc c)=>some (.x c)
    |none=>none)
   |some (.x c)=>some (.x c)
   |none=>none)
  |none=>none)
 |some (.x c)=>some (.x c)
 |none=>none
def mAlt(m n:PSt->Option Rs):PSt->Option Rs:=fun τ=>match m τ with
 |some r=>some r
 |none=>n τ
section
variable {X:Cx}{E:L2.St->XK}{ca:Str->Value}{m n:PSt->Option Rs}{ms:PSt->Option RsL}{e o:Expr}{es:List Expr}{pos p apos:Pos}{C:Addr}{fs:List Str}{f:Str}{j:Nat}
theorem r_alt(h1:PE X e (tM X.K E ca m))(h2:PE X e (tM X.K E ca n)):PE X e (tM X.K E ca (mAlt m n)):=fun pins s σ H Q I h=>by
 obtain⟨F,τ,R,S,q⟩:=h;unfold mAlt at q;cases hm:m τ with
 |none =>
  rw[hm]at q;exact h2 pins s σ H Q I ⟨F,τ,R,S,q⟩
 |some r =>
  rw[hm]at q;exact h1 pins s σ H Q I ⟨F,τ,R,S,by rw[hm];exact q⟩
theorem got_obj{K:PySem.W.Frag}{F H:Hp}{R:Nat->Rg}{k:Ob}{l:List T}{b:Bool}{x:V}{B:Rg}(g:Got K F H R (.obj k l) b x B):Rp K F H (.obj k l) x R0/\B=R0:=by
 cases b with
 |true =>
  obtain⟨hB,A,_,r⟩:=g;obtain⟨p,xs,rfl,hA,_⟩:=r.obj_inv;exact⟨hA▸r,hB⟩
 |false =>
  have r:Rp K F H (.obj k l) x B:=g;obtain⟨p,xs,rfl,hA,_⟩:=r.obj_inv;exact⟨hA▸r,hA⟩
theorem r_fld(c:Cls X.K C)(hn:zaz X.K C f)(hj:fs.findIdx? (· == f)=some j)(ho:PE X o (tM X.K E ca m))(hb:attributeBase o f X.env (eval o X.env)=eval o X.env):PE X (.Attribute o f pos) (tM X.K E ca (mFld C fs j m)):=by
 refine PE.weak (pe_fld ho hb) fun σ H Q h=>?_
 obtain⟨F,τ,R,S,q⟩:=h;refine⟨F,τ,R,S,?_⟩;unfold mFld at q;cases hm:m τ with
 |none=>simp only[hm]at q
 |some r =>
  simp only[hm]at q;cases r with
  |x c=>exact q
  |v t b =>
   intro F1 H1 x B e1 g1;cases hi:insT C fs t with
   |none=>simp only[hi]at q
   |some l =>
    simp only[hi]at q;have ht:=insT_some hi;subst ht;cases hu:l[j]? with
    |none=>simp only[hu]at q
    |some u =>
     simp only[hu]at q;obtain⟨r1,hB⟩:=got_obj g1;subst hB;obtain⟨a,xs,rfl,_,⟨dx,hF⟩,el,cc⟩:=r1.obj_inv;have hjl:=(ya6.mp hu).1;have hx:xs[j]?=some xs[j]:=ya0 (by omega)
     have hc:=cc j u _ hu hx;refine⟨a,_,dx,_,xs[j],rfl,e1.fh _ _ hF,c,hn,zlu hj hx,?_⟩;refine q F1 H1 _ R0 e1 ?_;cases b with
     |false=>exact hc
     |true =>
      cases hs:u.sh with
      |true=>exact hc
      |false=>exact⟨rfl,R0,fun _ z=>z.elim,hc⟩
structure MetX(P:Program)(w:World)(K:PySem.W.Frag)(mg:Str->Option Value)(base:Heap)(C:Addr)(m:Str)(k:Nat)(ps:List Str)(sp:Sp) where
 f:Addr
 fd:FuncData
 c:Cls K C
 me:Meth K C m f
 ok:FnOk P w K mg base (CX1 P w) k f fd ps sp
 b:zh9 K fd ps []
def tMethX(C:Addr)(m:Str)(sp:Sp)(E:L2.St->XK)(ta:TE)(t:TA):TE:=fun σ H Q=>ta σ H fun x H1=>∃a dx fs,x=.ref a/\H1 a=some (.ins C dx fs)/\fs.lookup m=none /\
 t σ H1 fun vs H2=>sp (x::vs) H2 Q (E σ)
theorem pmx{k j:Nat}{ps:List Str}{sp:Sp}{ta:TE}{t:TA}{pl:Sem Bool}(D:MetX X.prog X.w X.K X.mg X.base C f k ps sp)(hr:Room j X.A)(hx:zbo X E)(he:PE X o ta)(ha:PA X (e::es) t)(hk:k<=j)
  (hst:starEach (e::es) X.env=(false,eval e X.env)::starEach es X.env) (hpl:(backTo pos (starEach es X.env)).any (·.1)=false)
  (ht : eval (.Call (.Attribute o f apos) (e :: es) [] pos) X.env = (do
   let ov <- eval o X.env
   standAt apos.atName
   let (f,first) <- holding [ov] (getMethod ov f pl)
   callWith pos f first (backTo pos (starEach (e::es) X.env)) (backToKw pos (keywordEach [] X.env)))):PE X (.Call (.Attribute o f apos) (e::es) [] pos) (tMethX C f sp E ta t):=by
 intro pins s σ H Q I h;refine PySem.W.methodCall_KW (pl:=pl) (thn (he pins s σ H _ I h) fun u s1 ⟨x,H1,I1,rx,a,dx,fs,ex,ea,l,q⟩=>?_) ht
 subst ex;obtain rfl:u=Value.ref a:=rx;refine zm5 I1 ea D.c D.me l ?_;refine yca (first:=[.ref a]) (h₀:=X.base) I.ok.mod.kin D.me.kp (thn (ha pos pins s1 σ H1 _ I1 q) fun us s2 ⟨vs,H2,I2,r,q2⟩=>⟨I2.kIn,?_⟩) hst hpl
 exact run_fnX (us:=.ref a::us) (vs:=.ref a::vs) (dvs:=[]) D.ok (hr.mono hk) D.b .nil hx I2 (.cons rfl r) (by rw[yc0];exact q2)
theorem pmx0{k j:Nat}{ps:List Str}{sp:Sp}{ta:TE}{pl:Sem Bool}(D:MetX X.prog X.w X.K X.mg X.base C f k ps sp)(hr:Room j X.A)(hx:zbo X E)(he:PE X o ta)(hk:k<=j)
  (ht : eval (.Call (.Attribute o f apos) [] [] pos) X.env = (do
   let ov <- eval o X.env
   standAt apos.atName
   let (f,first) <- holding [ov] (getMethod ov f pl)
   callWith pos f first (backTo pos (starEach [] X.env)) (backToKw pos (keywordEach [] X.env)))):PE X (.Call (.Attribute o f apos) [] [] pos) (tMethX C f sp E ta tNil):=by
 intro pins s σ H Q I h;refine PySem.W.methodCall_KW (pl:=pl) (thn (he pins s σ H _ I h) fun u s1 ⟨x,H1,I1,rx,a,dx,fs,ex,ea,l,q⟩=>?_) ht
 subst ex;obtain rfl:u=Value.ref a:=rx;refine zm5 I1 ea D.c D.me l ?_;exact PySem.W.callWith_K0 (first:=[.ref a]) I1.kIn D.me.kp (run_fnX (us:=[.ref a]) (vs:=[.ref a]) (dvs:=[]) D.ok (hr.mono hk) D.b .nil hx I1 (.cons rfl .nil) q)
theorem tM_meth{g:List T->Option Ru}{σ:L2.St}{H:Hp}{Q:VK}(hf:fs.contains f=false)(h:tM X.K E ca (zl4 C fs g m ms) σ H Q):tMethX C f (spP X.K ca g) E (tM X.K E ca m) (tMs X.K E ca ms) σ H Q:=by
 obtain⟨F,τ,R,S,q⟩:=h;refine⟨F,τ,R,S,?_⟩;unfold zl4 at q;cases hm:m τ with
 |none=>simp only[hm]at q
 |some r =>
  simp only[hm]at q;cases r with
  |x c=>exact q
  |v t b =>
   intro F1 H1 x B e1 g1;cases hi:insT C fs t with
   |none=>simp only[hi]at q
   |some l =>
    simp only[hi]at q;have ht:=insT_some hi;subst ht;obtain⟨r1,hB⟩:=got_obj g1;subst hB;have S1:=S.ext e1;obtain⟨a,xs,rfl,_,⟨dx,hF⟩,el,cc⟩:=r1.obj_inv;refine⟨a,dx,_,rfl,e1.fh _ _ hF,zjx hf,F1,τ,R,S1,?_⟩;cases hs:ms τ with
    |none=>simp only[hs]at q
    |some r =>
     simp only[hs]at q;cases r with
     |x c=>exact fun F' H' e=>q F' H' (e1.trans0 e)
     |v ts b' =>
      intro F2 H2 vs e2 rs;have S2:=S1.ext e2;simp only at q;have r2:Rp X.K (Gz b' F2 H2 R) H2 (T.obj (.ins C fs) l).share (.ref a) R0:=(r1.ext e2).share (gz_ff S2) fun _ _ z=>z.elim
      refine⟨Gz b' F2 H2 R,_,gz_fh S2,.cons r2 rs,?_⟩;have e12:=e1.trans0 e2;cases hg:g ((T.obj (.ins C fs) l).share::ts) with
      |none=>simp only[hg]at q
      |some r =>
       simp only[hg]at q;cases r with
       |exc c=>exact fun F' H' e3=>q F2 H' (e12.grow e3.hh)
       |ok v =>
        intro F3 H3 z C3 e3 r3;simp only at q;unfold fin at q;cases b' with
        |false=>exact q F3 H3 z C3 (e12.trans0 e3) r3
        |true =>
         cases hf:v.flat with
         |false=>rw[hf]at q;exact False.elim q
         |true=>rw[hf]at q;exact q F2 H3 z R0 (e12.grow e3.hh) (r3.flat_any hf)
theorem r_meth{k j:Nat}{ps:List Str}{g:List T->Option Ru}{pl:Sem Bool}(D:MetX X.prog X.w X.K X.mg X.base C f k ps (spP X.K ca g))(hf:fs.contains f=false)(hr:Room j X.A)(hx:zbo X E)(he:PE X o (tM X.K E ca m))(ha:PA X (e::es) (tMs X.K E ca ms))(hk:k<=j)
  (hst:starEach (e::es) X.env=(false,eval e X.env)::starEach es X.env) (hpl:(backTo pos (starEach es X.env)).any (·.1)=false)
  (ht : eval (.Call (.Attribute o f apos) (e :: es) [] pos) X.env = (do
   let ov <- eval o X.env
   standAt apos.atName
   let (f,first) <- holding [ov] (getMethod ov f pl)
   callWith pos f first (backTo pos (starEach (e::es) X.env)) (backToKw pos (keywordEach [] X.env)))):PE X (.Call (.Attribute o f apos) (e::es) [] pos) (tM X.K E ca (zl4 C fs g m ms)) :=
 PE.weak (pmx D hr hx he ha hk hst hpl ht) fun σ H Q h=>tM_meth hf h
structure NewX(P:Program)(w:World)(K:PySem.W.Frag)(mg:Str->Option Value)(base:Heap)(x:Str)(C:Addr)(k:Nat)(ps:List Str)(sp:Sp) where
 f:Addr
 fd:FuncData
 m:mg x=some (.ref C)
 ma:Mk K C f
 ok:FnOk P w K mg base (CX1 P w) k f fd ps sp
def tMakeX(C:Addr)(sp:Sp)(dvs:List V)(E:L2.St->XK)(t:TA):TE:=fun σ H Q=>t σ H fun vs H1=>∀x dx,H1 x=none->H1 dx=none->dx≠x ->
 sp (.ref x::(vs++dvs)) (upd (upd H1 dx (.own x)) x (.ins C dx [])) (fun v H2=>v=.non/\Q (.ref x) H2) (E σ)
theorem pnx{k j:Nat}{x:Str}{ps:List Str}{sp:Sp}{t:TA}{dvs:List V}{ds:List Value}(D:NewX X.prog X.w X.K X.mg X.base x C k ps sp)(hb:zh9 X.K D.fd ps ds)(hd:zbl dvs ds)(hr:Room j X.A)(hx:zbo X E)(ha:PA X (e::es) t)(hk:k+1<=j)(hg:Gl X x)(hdb:(x == ("__debug__":Str))=false)
  (he:starEach (e::es) X.env=(false,eval e X.env)::starEach es X.env) (hpl:(backTo pos (starEach es X.env)).any (·.1)=false):PE X (.Call (.Name x p) (e::es) [] pos) (tMakeX C sp dvs E t):=by
 intro pins s σ H Q I h;refine wpAny_Call_Name_kw (zi7 I hg D.m ?_ hdb);refine yca (h₀:=X.base) I.ok.mod.kin D.ma.kp (thn (ha pos pins s σ H _ I h) fun us s1 ⟨vs,H1,I1,r,q⟩=>⟨I1.kIn,?_⟩) he hpl
 have hq:=q (s1.heap.objs.size+1) s1.heap.objs.size (I1.hok.fresh (yc7 _)) (I1.hok.fresh (yaa _)) (yau (ybk _));have I2:=Inv.made (C:=C) I1;have r2:zbl (V.ref (s1.heap.objs.size+1)::(vs++dvs)) (Value.ref (s1.heap.objs.size+1)::(us++ds)):=.cons rfl (r.append hd)
 have hl:(Value.ref (s1.heap.objs.size+1)::us++ds).length=ps.length:=by
  have e:=r2.length;rw[D.ok.len _ _ _ _ hq]at e;exact e.symm
 refine wpAny_call (make_map (f:=D.f) I1.kIn D.ma.makes D.ma.init (beq_iff_eq.mp D.ma.fn) (codeAny_mono (D.ok.run _ X.stack _ _ ⟨Value.ref (s1.heap.objs.size+1)::us,[]⟩ (Value.ref (s1.heap.objs.size+1)::(us++ds)) _ _ (E σ) ((hr.mono hk).make C us [])
  (I2.env0.make C us []) (hb _ (Value.ref (s1.heap.objs.size+1)::us) I2.kIn hl) r2 hq) fun r s' hq'=>?_))
 cases r with
 |error v=>exact hx pins σ _ _ v s' I2 hq'
 |ok fl =>
  cases fl with
  |ret u =>
   obtain⟨v,H',I3,rv,ev,q3⟩:=I2.after hq';subst ev;exact⟨rv,⟨V.ref (s1.heap.objs.size+1),H',I3,rfl,q3⟩⟩
  |next=>exact False.elim hq'
  |brk=>exact False.elim hq'
  |cont=>exact False.elim hq'
def spN(K:PySem.W.Frag)(ca:Str->Value)(C:Addr)(g:List T->Option Ru):Sp:=fun vs H Q E=>∃F p dx ts vs',zbs F H/\vs=.ref p::vs'/\F p=none/\H p=some (.ins C dx [])/\Rps K F ts vs'/\match g ts with
 |some (.ok t)=>∀F' H',Stp F H (fun a=>a=p) F' H' R0->Rp K F' H' t (.ref p) R0->Q .non H'
 |some (.exc c)=>∀F' H',Stp F H (fun a=>a=p) F' H' R0->E (ca c) none H'
 |none=>False
def mNew(g:List T->Option Ru)(ds:List T)(ms:PSt->Option RsL):PSt->Option Rs:=fun τ=>match ms τ with
 |some (.v ts false)=>(match g (ts++ds) with
  |some (.ok t)=>some (.v t false)
  |some (.exc c)=>some (.x c)
  |none=>none)
 |some (.v _ true)=>none
 |some (.x c)=>some (.x c)
 |none=>none
theorem r_new{k j:Nat}{x:Str}{ps:List Str}{g:List T->Option Ru}{dvs:List V}{dts:List T}{ds:List Value}(D:NewX X.prog X.w X.K X.mg X.base x C k ps (spN X.K ca C g))(hb:zh9 X.K D.fd ps ds)(hd:zbl dvs ds)(hdt:∀F:Hp,Rps X.K F dts dvs)(hr:Room j X.A)(hx:zbo X E)(ha:PA X (e::es) (tMs X.K E ca ms))(hk:k+1<=j)(hg:Gl X x)(hdb:(x == ("__debug__":Str))=false)
  (he:starEach (e::es) X.env=(false,eval e X.env)::starEach es X.env) (hpl:(backTo pos (starEach es X.env)).any (·.1)=false):PE X (.Call (.Name x p) (e::es) [] pos) (tM X.K E ca (mNew g dts ms)):=by
 refine PE.weak (pnx D hb hd hr hx ha hk hg hdb he hpl) fun σ H Q h=>?_
 obtain⟨F,τ,R,S,q⟩:=h;refine⟨F,τ,R,S,?_⟩;unfold mNew at q;cases hs:ms τ with
 |none=>simp only[hs]at q
 |some r =>
  simp only[hs]at q;cases r with
  |x c=>exact q
  |v ts b =>
   cases b with
   |true=>exact fun F1 H1 xs e1 rs=>q.elim
   |false =>
    intro F1 H1 xs e1 rs a dx ha hdx hne;simp only at q;have rs':Rps X.K F1 ts xs:=rs
    have key:∀F' H',Stp F1 (upd (upd H1 dx (.own a)) a (.ins C dx [])) (fun b=>b=a) F' H' R0->Ext F H F' H' R0:=fun F' H' st=>by
     refine e1.trans0 ⟨fun b u z=>?_,st.ff,st.fh,fun _ z=>z.elim,fun b u z=>?_⟩
     ·have h1:b≠a:=zaq z ha;have h2:b≠dx:=zaq z hdx;exact st.kp b u h1 (by rw[zam h1,zam h2];exact z)
     ·rcases st.nf b u z with w|w|w
      ·exact .inl w
      ·rw[w];exact .inr ha
      ·by_cases h1:b=a
       ·rw[h1];exact .inr ha
       ·by_cases h2:b=dx
        ·rw[h2];exact .inr hdx
        ·rw[zam h1,zam h2]at w;exact .inr w
    have fh2:zbs F1 (upd (upd H1 dx (.own a)) a (.ins C dx [])):=fun b u z=>by
     have z':=e1.fh b u z;rw[zam (zaq z' ha),zam (zaq z' hdx)];exact z'
    refine⟨F1,a,dx,ts++dts,xs++dvs,fh2,rfl,zbm e1.fh ha,zay,zga rs' (hdt F1),?_⟩;cases hg:g (ts++dts) with
    |none=>simp only[hg]at q
    |some r =>
     simp only[hg]at q;cases r with
     |exc c=>exact fun F' H' st=>q F' H' (key F' H' st)
     |ok t=>exact fun F' H' st r=>⟨rfl,q F' H' _ R0 (key F' H' st) r⟩
end
end Pu
set_option Elab.async false
set_option linter.all false
set_option maxRecDepth 100000
namespace Pu
open PySem PySem.Spec PyProof.Rows L2 Zw Zx
def oobAt(τ:PSt)(i:Nat)(C:Addr)(fs:List Str):Option (Addr×List T):=match τ[i]? with
 |some (some (.oob p C' fs' l))=>if C'=C/\fs'=fs then some (p,l) else none
 |_=>none
theorem zhz{τ:PSt}{i:Nat}{C:Addr}{fs:List Str}{p:Addr}{l:List T}(h:oobAt τ i C fs=some (p,l)):τ[i]?=some (some (.oob p C fs l)):=by
 unfold oobAt at h;split at h
 ·rename_i q;split at h
  ·rename_i hc;cases h;rw[q,hc.1,hc.2]
  ·cases h
 ·cases h
def zhx(C:Addr)(fs:List Str)(j i:Nat)(m:PSt->Option Rs):PSt->Option Out:=fun τ=>match m τ with
 |some (.v t false)=>(match oobAt τ i C fs with
  |some (p,l)=>if l.length=j then some (.nx (τ.set i (some (.oob p C fs (l++[t]))))) else none
  |none=>none)
 |some (.v _ true)=>none
 |some (.x c)=>some (.xc c τ)
 |none=>none
def osdAt:Option T->Option (List Str×List T)
 |some (.osd ks l)=>some (ks,l)
 |_=>none
theorem osdAt_some{o:Option T}{ks:List Str}{l:List T}(h:osdAt o=some (ks,l)):o=some (.osd ks l):=by
 unfold osdAt at h;split at h
 ·cases h;rfl
 ·cases h
open Classical in
noncomputable def sDpf(C:Addr)(fs:List Str)(j i:Nat)(mk m:PSt->Option Rs):PSt->Option Out:=fun τ=>match m τ with
 |some (.v t false)=>(match oobAt τ i C fs with
  |some (p,l)=>(match osdAt l[j]? with
   |some (ks,lv)=>(match mk τ with
    |some (.v (.str k) _)=>if k∉ks/\ks.length<100000 then some (.nx (τ.set i (some (.oob p C fs (l.set j (.osd (ks++[k]) (lv++[t.share]))))))) else none
    |some (.v _ _)=>none
    |some (.x c)=>some (.xc c τ)
    |none=>none)
   |none=>none)
  |none=>none)
 |some (.v _ true)=>none
 |some (.x c)=>some (.xc c τ)
 |none=>none
def mDicS:PSt->Option Rs:=fun _=>some (.v (.osd [] []) false)
theorem putF_zip{f:Str}{y:V}:∀{fs:List Str} {xs:List V},fs[xs.length]?=some f->(fs.take xs.length).contains f=false->putF f y (fs.zip xs)=fs.zip (xs++[y])
 |[],xs,h,_=>by simp at h
 |g::r,[],h,_=>by
  simp at h;subst h;simp[putF]
 |g::r,x::xs,h,hn=>by
  rw[yax,List.take_succ_cons,yd6,ybb]at hn
  have hg:¬ g=f:=fun z=>by
   have:=hn.1;rw[z,beq_self_eq_true]at this;cases this
  have ih:=putF_zip (f:=f) (y:=y) (fs:=r) (xs:=xs) (by simpa using h) hn.2
  rw[ycc,ydf,ycc,<- ih];show(if g=f then _ else _)=_
  rw[if_neg hg]
section
variable {K:PySem.W.Frag}{F H:Hp}{C:Addr}{fs:List Str}{l:List T}
theorem Rp.oob_inv{p:Addr}{x:V}{A:Rg}(h:Rp K F H (.oob p C fs l) x A):∃dx xs Rr,x=.ref p/\A=(fun a=>a=p\/∃j,Rr j a)/\F p=none/\H p=some (.ins C dx (fs.zip xs))/\RpO K F H l xs Rr/\∀j,¬ Rr j p:=by
 cases h with
 |oob R f h e c d dp o=>exact⟨_,_,R,rfl,rfl,f,h,⟨e,c,d,o⟩,dp⟩
theorem oob_mk{p dx:Addr}{xs:List V}{Rr:Nat->Rg}(r:RpO K F H l xs Rr)(f:F p=none)(h:H p=some (.ins C dx (fs.zip xs)))(dp:∀j,¬ Rr j p):Rp K F H (.oob p C fs l) (.ref p) (fun a=>a=p\/∃j,Rr j a):=.oob Rr f h r.len r.rep r.dis dp r.out
theorem Rp.osd_inv{ks:List Str}{x:V}{A:Rg}(h:Rp K F H (.osd ks l) x A):∃p xs,x=.ref p/\A=(fun a=>a=p)/\F p=none/\H p=some (.dK (kvS ks xs))/\l.length=xs.length/\ks.length=xs.length/\∀(i:Nat) (t:T) (x:V),l[i]?=some t->xs[i]?=some x->Rp K F H t x R0:=by
 cases h with
 |osd f h e ek c=>exact⟨_,_,rfl,rfl,f,h,e,ek,c⟩
end
theorem kvS_len{ks:List Str}{xs:List V}(h:ks.length=xs.length):(kvS ks xs).length=xs.length:=by
 unfold kvS;rw[List.length_zipWith,h,Nat.min_self]
theorem kvS_key{ks:List Str}{xs:List V}{kv:Key×V}(h:kv∈kvS ks xs):∃k∈ks,kv.1=Sum.inr k:=by
 induction ks generalizing xs with
 |nil=>cases xs<;>cases h
 |cons a r ih =>
  cases xs with
  |nil=>cases h
  |cons b s =>
   unfold kvS at h;rw[List.zipWith_cons_cons]at h
   rcases yaj.mp h with e|e
   ·exact⟨a,ya9 ..,by rw[e]⟩
   ·obtain⟨k,hk,e⟩:=ih (xs:=s) e;exact⟨k,ya8 _ hk,e⟩
theorem putS_new{ks:List Str}{xs:List V}{k:Str}{y:V}(h:ks.length=xs.length)(hk:k∉ks):zky (kvS ks xs) (Sum.inr k) y=kvS (ks++[k]) (xs++[y]):=by
 unfold zky;rw[if_neg]
 ·unfold kvS;rw[List.zipWith_append h]
  rfl
 ·intro c;obtain⟨kv,h1,h2⟩:=List.any_eq_true.mp c;obtain⟨k',h3,h4⟩:=kvS_key h1;have:=of_decide_eq_true h2;rw[h4]at this;cases this;exact hk h3
section
variable {X:Cx}{E:L2.St->XK}{ca:Str->Value}{m mk:PSt->Option Rs}{e k:Expr}{pos p1 pos2 pos3:Pos}{mu:Bool}{i j:Nat}{x f:Str}{C:Addr}{fs:List Str}
theorem r_dicS:PE X (.Dict [] [] pos) (tM X.K E ca mDicS):=PE.weak pe_dicO fun σ H Q h p hp=>by
 obtain⟨F,τ,R,S,q⟩:=h;exact q F (upd H p (.dK [])) (.ref p) _ (Ext.newO S.fh hp) (Rp.osd (ks:=[]) (xs:=[]) (l:=[]) (zbm S.fh hp) zay rfl rfl fun i t x h=>by simp at h)
theorem s_fldA(c:Cls X.K C)(hn:zaz X.K C f)(hj:fs[j]?=some f)(hnf:(fs.take j).contains f=false)(hjl:j<900)(hN:X.N[i]?=some x)(hv:Vis X.env.scope x)(hd:(x == ("__debug__":Str))=false)(hcd:(x == ("__classdict__":Str))=false)(he:PE X e (tM X.K E ca m))
  (hs:swapsWith e (some (.Attribute (.Name x p1) f pos2)) pos.line X.env=pure false):PS X (.Assign [.Attribute (.Name x p1) f pos2] e pos) (tS X.K E ca mu (zhx C fs j i m)):=by
 refine PS.weak (ps_fld (zlp hN hv hd hcd) he hs) fun D σ H h=>?_
 obtain⟨F,τ,R,S,q⟩:=h;refine⟨F,τ,R,S,?_⟩;unfold zhx at q;cases hm:m τ with
 |none=>simp only[hm]at q
 |some r =>
  simp only[hm]at q;cases r with
  |x c=>exact fun F' H' e=>q F' H' σ R e.stp0 (S.ext e)
  |v t bb =>
   cases bb with
   |true=>exact fun F1 H1 y B e1 g1=>q.elim
   |false =>
    intro F1 H1 y B e1 g1;have g1':Rp X.K F1 H1 t y B:=g1;simp only at q;cases ho:oobAt τ i C fs with
    |none=>simp only[ho]at q
    |some pl =>
     obtain⟨p,l⟩:=pl;simp only[ho]at q
     by_cases hl:l.length=j
     ·rw[if_pos hl]at q;have S1:=S.ext e1;have ht:=zhz ho;obtain⟨y2,ey,ry⟩:=S.rep i _ ht;obtain⟨dx,xs,Rr,rfl,hA,fp,hp,ro,dp⟩:=ry.oob_inv;have hxs:xs.length=j:=by rw[<- ro.len];exact hl
      have hp1:=e1.hh _ _ hp;have pB:¬ B p:=fun z=>by rw[e1.nb p z]at hp;cases hp
      have fp1:F1 p=none:=(ry.ext e1 |>.dom (by rw[hA];exact .inl rfl)).1
      refine⟨_,ey,p,C,dx,fs.zip xs,rfl,hp1,c,hn,?_,?_⟩
      ·rw[List.length_zip]
       omega
      ·rw[putF_zip (by rw[hxs];exact hj) (by rw[hxs];exact hnf)]
       have ro1:=ro.ext e1;have ro2:RpO X.K F1 (upd H1 p (.ins C dx (fs.zip (xs++[y])))) (l++[t]) (xs++[y]) _:=(ro1.upd dp).snoc (g1'.upd pB) fun j a z1 z2=>ro.apart e1 z2 j z1
       have dp2:∀j,¬ (if j=l.length then B else Rr j) p:=fun j z=>by
        by_cases hj:j=l.length
        ·simp only[hj,if_true]at z;exact pB z
        ·simp only[hj,if_false]at z;exact dp j z
       have r2:=oob_mk (C:=C) (fs:=fs) ro2 fp1 zay dp2
       obtain⟨S3,st3⟩:=S1.upd ht ey (by rw[hA];exact .inl rfl) r2 (B:=B) (fun a z=>by
        rw[hA]
        rcases z with z|z
        ·exact .inl (.inl z)
        ·rcases snoc_tot' z with w|w
         ·exact .inl (.inr w)
         ·exact .inr w) (fun j a z1 z2=>S.apart e1 z2 j z1)
       exact q F1 _ σ _ (e1.stp.trans st3) S3
     ·rw[if_neg hl]at q;exact q.elim
def rSetS:TSet:=fun o i v H Q=>∃p kvs k,o=.ref p/\i=.str k/\H p=some (.dK kvs)/\kvs.length<sizeLine/\Q (upd H p (.dK (zky kvs (Sum.inr k) v)))
theorem set_dicS(hu:X.A.units+1<cLine):PSet X rSetS:=by
 intro pins s σ H o i v ov iv u Q I ro ri rv h;obtain⟨p,kvs,k,rfl,rfl,hp,hl,q⟩:=h;cases ro;exact d_setItem hu I (DPut.k (k:=Sum.inr k) hp hl) (show L2.RelV (kV (Sum.inr k)) iv from ri) rv fun s' I'=>⟨_,I',q⟩
theorem zi8{K:PySem.W.Frag}{F H:Hp}{R:Nat->Rg}{z:Str}{b:Bool}{y:V}{B:Rg}(g:Got K F H R (.str z) b y B):y=.str z:=by
 cases b with
 |true=>obtain⟨_,A,_,r⟩:=g;exact r.str_inv
 |false=>exact(show Rp K F H _ _ _ from g).str_inv
theorem s_dpf(hu:X.A.units+1<cLine)(c:Cls X.K C)(hn:zaz X.K C f)(hj:fs.findIdx? (· == f)=some j)(hN:X.N[i]?=some x)(hv:Vis X.env.scope x)(hd:(x == ("__debug__":Str))=false)(hcd:(x == ("__classdict__":Str))=false)(he:PE X e (tM X.K E ca m))(hk:PE X k (tM X.K E ca mk))
  (hs:swapsWithSole [.Subscript (.Attribute (.Name x p1) f pos3) k pos2] e pos.line X.env=pure false) (hw:swappedStores [.Subscript (.Attribute (.Name x p1) f pos3) k pos2] e X.env=pure none)
  (ha : ∀ v, assign (.Subscript (.Attribute (.Name x p1) f pos3) k pos2) X.env v = (do
   let ov <- holding [v] (eval (.Attribute (.Name x p1) f pos3) X.env);let iv <- holding [v,ov] (eval k X.env)
   standAt pos2
   holding [v,ov,iv] (setItem ov iv v)
   release [v,ov,iv] [])) :
  PS X (.Assign [.Subscript (.Attribute (.Name x p1) f pos3) k pos2] e pos) (tS X.K E ca mu (sDpf C fs j i mk m)):=by
 refine PS.weak (ps_asg he (pg_sub (pe_fld (zlp hN hv hd hcd) rfl) hk (set_dicS hu) ha) hs hw rfl) fun D σ H h=>?_
 obtain⟨F,τ,R,S,q⟩:=h;refine⟨F,τ,R,S,?_⟩;unfold sDpf at q;cases hm:m τ with
 |none=>simp only[hm]at q
 |some r =>
  simp only[hm]at q;cases r with
  |x c=>exact fun F' H' e=>q F' H' σ R e.stp0 (S.ext e)
  |v t bb =>
   cases bb with
   |true=>exact fun F1 H1 y B e1 g1=>q.elim
   |false =>
    intro F0 H1 y B e0 g0;simp only at q;obtain⟨F1,e1,_,g1⟩:=Got.frz (b:=false) S e0 g0;have g1':Rp X.K F1 H1 t.share y R0:=(show Rp X.K F1 F1 t.share y R0 from g1).any;cases ho:oobAt τ i C fs with
    |none=>simp only[ho]at q
    |some pl =>
     obtain⟨p,l⟩:=pl;simp only[ho]at q;cases hos:osdAt l[j]? with
     |none=>simp only[hos]at q
     |some kl =>
      obtain⟨ks,lv⟩:=kl;simp only[hos]at q;have hlj:=osdAt_some hos;have S1:=S.ext e1;have ht:=zhz ho;obtain⟨y2,ey,ry⟩:=S1.rep i _ ht;obtain⟨dx,xs,Rr,rfl,hA,fp,hp,ro,dp⟩:=ry.oob_inv;have hjl:=(ya6.mp hlj).1;have hjx:j<xs.length:=by rw[<- ro.len];exact hjl
      have hx:xs[j]?=some xs[j]:=ya0 hjx;refine⟨_,ey,p,C,dx,_,xs[j],rfl,hp,c,hn,zlu hj hx,F1,τ,R,S1,?_⟩;cases hkk:mk τ with
      |none=>simp only[hkk]at q
      |some r =>
       simp only[hkk]at q;cases r with
       |x c=>exact fun F' H' e=>q F' H' σ R ((e1.stp0).trans e.stp0) (S1.ext e)
       |v tk bk =>
        cases tk with
        |str kk =>
         simp only at q
         by_cases hc:kk∉ks/\ks.length<100000
         ·rw[if_pos hc]at q;intro F2 H2 z CC e2 g2;have hz:=zi8 g2;subst hz;have e2':Ext F1 H1 F2 H2 R0:=e2.mono fun _ z=>z.elim
          have S2:=S1.ext e2;have ry2:=ry.ext e2;have ro2:=ro.ext e2;have fp2:F2 p=none:=(ry2.dom (by rw[hA];exact .inl rfl)).1
          have hp2:=e2.hh _ _ hp;have rk:=ro2.rep j _ _ hlj hx;obtain⟨pd,ys,exj,hAd,fpd,hpd,el,ek,cc⟩:=rk.osd_inv;have g2':Rp X.K F2 H2 t.share y R0:=g1'.ext e2;have pdj:Rr j pd:=by rw[hAd]
          have pne:pd≠p:=fun z=>dp j (z▸pdj)
          refine⟨pd,kvS ks ys,kk,exj,rfl,hpd,?_,?_⟩
          ·rw[kvS_len ek,<- ek,sizeLine_eq];exact ycr hc.2 (by decide)
          ·rw[putS_new ek hc.1]
           have r3:Rp X.K F2 (upd H2 pd (.dK (kvS (ks++[kk]) (ys++[y])))) (.osd (ks++[kk]) (lv++[t.share])) (.ref pd) (fun a=>a=pd):=by
            refine .osd fpd zay (by simp[el]) (by simp[ek]) fun j t' x' h1 h2=>?_
            rcases Nat.lt_or_ge j lv.length with w|w
            ·rw[yas w]at h1;rw[yas (by omega)]at h2
             exact(cc j t' x' h1 h2).any
            ·rw[yb0 w]at h1;rw[yb0 (by omega)]at h2
             have hj:j - lv.length=0:=by
              have:=(ya6.mp h1).1;simp at this
              omega
             have hj2:j - ys.length=0:=by omega
             rw[hj]at h1;rw[hj2]at h2;simp at h1 h2;subst h1 h2;exact g2'.any
           have oth:∀k,k≠j->¬ Rr k pd:=fun k hk z=>ro2.dis k j pd hk z pdj
           have ro3:RpO X.K F2 (upd H2 pd (.dK (kvS (ks++[kk]) (ys++[y])))) (l.set j (.osd (ks++[kk]) (lv++[t.share]))) xs Rr:=by
            refine⟨by rw[ycv];exact ro2.len,fun k t' x' h1 h2=>?_,ro2.dis,fun k a z=>by rw[ycv];exact ro2.out k a z⟩
            by_cases hk:k=j
            ·subst hk;rw[yam hjl]at h1;rw[hx]at h2;cases h1;cases h2;rw[exj,hAd];exact r3
            ·rw[yap (yaz hk)]at h1;exact(ro2.rep k t' x' h1 h2).upd (oth k hk)
           have r4:=oob_mk (C:=C) (fs:=fs) (p:=p) (dx:=dx) ro3 fp2 (by rw[zam (yaz pne)];exact hp2) dp
           obtain⟨S3,st3⟩:=S2.upd ht ey (p:=pd) (by rw[hA];exact .inr ⟨j,pdj⟩) r4 (B:=R0) (fun a z=>.inl (by rw[hA];exact z)) (fun j a z1 z2=>z2)
           exact q F2 _ σ _ ((e1.stp.trans e2.stp0).trans st3) S3
         ·rw[if_neg hc]at q;exact q.elim
        |_=>exact fun F' H' z CC e2 g2=>q.elim
end
end Pu
set_option Elab.async false
set_option linter.all false
set_option maxRecDepth 100000
namespace Pu
open PySem PySem.Spec PyProof.Rows L2 Zw Zx
section
variable {X:Cx}{E:L2.St->XK}{ca:Str->Value}{ma mb mc:PSt->Option Rs}{a b c:Expr}{pos:Pos}{x:Str}{t:T}
theorem r_con{v:V}{u:Value}(hg:Gl X x)(hm:X.mg x=some u)(rv:RelV v u)(hd:(x == ("__debug__":Str))=false)(r:∀F:Hp,Rp X.K F F t v R0):PE X (.Name x pos) (tM X.K E ca (mC t)) :=
 PE.weak (zjr hg hm rv hd) fun σ H Q h=>by
  obtain⟨F,τ,R,S,q⟩:=h;exact q F H v R0 (Ext.refl S.fh) (r F).any
def mChn(g g':T->T->Option T)(ma mb mc:PSt->Option Rs):PSt->Option Rs:=fun τ=>match ma τ,mb τ with
 |some (.v t _),some (.v u _)=>if t.flat && u.flat then (match g t u with
  |some (.bl true)=>(match mc τ with
   |some (.v w _)=>if w.flat then (match g' u w with
    |some (.bl k)=>some (.v (.bl k) false)
    |_=>none) else none
   |_=>none)
  |some (.bl false)=>some (.v (.bl false) false)
  |_=>none) else none
 |_,_=>none
theorem zlx{K:PySem.W.Frag}{F H F' H':Hp}{R:Nat->Rg}{v:T}{b:Bool}{x:V}{B:Rg}(g:Got K F H R v b x B)(h:v.flat=true):Rp K F' H' v x R0:=by
 cases b with
 |true=>obtain⟨_,A,_,r⟩:=g;exact r.flat_any h
 |false=>exact(show Rp K F H v x B from g).flat_any h
theorem tM_chn{g g':T->T->Option T}{σ:L2.St}{H:Hp}{Q:VK}(h:tM X.K E ca (mChn g g' ma mb mc) σ H Q):tChain (rT2 X.K g) (rT2 X.K g') (tM X.K E ca ma) (tM X.K E ca mb) (tM X.K E ca mc) σ H Q:=by
 obtain⟨F,τ,R,S,q⟩:=h;refine⟨F,τ,R,S,?_⟩;unfold mChn at q;cases h1:ma τ with
 |none=>simp only[h1]at q
 |some r1 =>
  cases r1 with
  |x c=>simp only[h1]at q
  |v t b1 =>
   cases h2:mb τ with
   |none=>simp only[h1,h2]at q
   |some r2 =>
    cases r2 with
    |x c=>simp only[h1,h2]at q
    |v u b2 =>
     simp only[h1,h2]at q
     by_cases hf:(t.flat && u.flat)=true
     ·rw[if_pos hf]at q;rw[ya2]at hf;intro F1 H1 x B1 e1 g1;have S1:=S.ext e1;refine⟨F1,τ,R,S1,?_⟩;rw[h2];intro F2 H2 y B2 e2 g2;have S2:=S1.ext e2;have e12:Ext F H F2 H2 R0:=(e1.trans e2).mono fun _ z=>z.elim
      cases hg:g t u with
      |none=>simp only[hg]at q
      |some k =>
       cases k with
       |bl k =>
        cases k with
        |false =>
         simp only[hg]at q;refine⟨F2,t,u,_,S2.fh,zlx g1 hf.1,zlx g2 hf.2,hg,fun F3 H3 z C3 e3 r3=>⟨false,r3.bl_inv,?_⟩⟩
         rw[if_neg yav];exact q F3 H3 _ R0 (e12.trans0 (e3.mono fun _ z=>z.elim)) (.bl false)
        |true =>
         simp only[hg]at q;refine⟨F2,t,u,_,S2.fh,zlx g1 hf.1,zlx g2 hf.2,hg,fun F3 H3 z C3 e3 r3=>⟨true,r3.bl_inv,?_⟩⟩
         rw[if_pos rfl];have S3:=S2.ext e3;refine⟨F3,τ,R,S3,?_⟩;cases h3:mc τ with
         |none=>simp only[h3]at q
         |some r3 =>
          cases r3 with
          |x c=>simp only[h3]at q
          |v w b3 =>
           simp only[h3]at q
           by_cases hw:w.flat=true
           ·rw[if_pos hw]at q;intro F4 H4 z4 B4 e4 g4;have S4:=S3.ext e4;cases hg':g' u w with
            |none=>simp only[hg']at q
            |some k =>
             cases k with
             |bl k =>
              simp only[hg']at q;refine⟨F4,u,w,_,S4.fh,zlx g2 hf.2,zlx g4 hw,hg',fun F5 H5 z5 C5 e5 r5=>?_⟩
              rw[r5.bl_inv];exact q F5 H5 _ R0 (e12.trans0 (((e3.trans e4).trans e5).mono fun _ z=>z.elim)) (.bl k)
             |_=>simp only[hg']at q
           ·rw[if_neg hw]at q;exact q.elim
       |_=>simp only[hg]at q
     ·rw[if_neg hf]at q;exact q.elim
theorem r_chn{op op':CmpOp}{g g':T->T->Option T}(ho:OpR X (compareOp op) (rT2 X.K g))(ho':OpR X (compareOp op') (rT2 X.K g'))(ha:PE X a (tM X.K E ca ma))(hb:PE X b (tM X.K E ca mb))(hc:PE X c (tM X.K E ca mc))(hm:lastMarks [op,op'] [b,c]=false) :
  PE X (.Compare a [op,op'] [b,c] pos) (tM X.K E ca (mChn g g' ma mb mc)):=PE.weak (pe_chain ho ho' ha hb hc hm) fun σ H Q h=>tM_chn h
theorem r_tchn{op op':CmpOp}{g g':T->T->Option T}(ho:OpR X (compareOp op) (rT2 X.K g))(ho':OpR X (compareOp op') (rT2 X.K g'))(ha:PE X a (tM X.K E ca ma))(hb:PE X b (tM X.K E ca mb))(hc:PE X c (tM X.K E ca mc))(hm:lastMarks [op,op'] [b,c]=false) :
  PT X (.Compare a [op,op'] [b,c] pos) (tMB X.K E ca (mChn g g' ma mb mc)):=PT.weak (pt_chain ho ho' ha hb hc hm) fun σ H Q h=>tM_chn (tMB_val h)
end
end Pu
set_option Elab.async false
set_option linter.all false
set_option maxRecDepth 100000
namespace Pu
open PySem PySem.Spec PyProof.Rows L2 Zw Zx
def ItS(x:Str):It:=⟨fun i _=>i<x.cps.size,fun i H y H'=>H'=H/\∃c,x.cps[i]?=some c/\y=.str ⟨#[c]⟩,fun i _=>x.cps.size<=i⟩
theorem turn_str{P:Program}{w:World}{K:PySem.W.Frag}{tg:Expr}(x:Str)(t:Tok)(it:Addr):Turn P w K tg (ItS x) [it] it (fun i h=>h.IsStrIter it (strIterType x) x t i) where
 mem:=by simp
 obj:=fun i h st b hb=>by
  have e:b=it:=by simpa using hb
  subst e;obtain⟨o,e,c,d⟩:=st;exact⟨o,e,fun v z=>by rw[d]at z;cases z⟩
 keep:=fun i h h' st k=>by
  obtain⟨o,e,c,d⟩:=st;exact⟨o,k it (by simp) o e,c,d⟩
 item:=by
  intro X hP hw hK hc i pins s σ H E I hf st hg;subst hP hw hK;have hi:i<x.cps.size:=hg;obtain⟨f0,f1,f2,f3,f4,f5⟩:=hf it (by simp)
  have fin:∀(h':Heap),h'.IsStrIter it (strIterType x) x t (i+1)->Heap.SameBut it s.heap h'->∃u,some (Value.str ⟨#[x.cps[i]]⟩ s.toks)=some u /\
   wpAny (model X.prog X.w) X.A (letOwnedTupleGo tg (.ref it) u) (fun _ s2=>∃y H',Inv X pins σ H' s2/\RelV y u/\(ItS x).yld i H y H'/\s2.heap.IsStrIter it (strIterType x) x t (i+1)/\∀b∈[it],H' b=none) E { s with heap:=h',toks:=s.toks+1 }:=fun h' st' sb=>by
   have I1:Inv X pins σ H { s with heap:=h',toks:=s.toks+1 }:=I.turned (t':=s.toks+1) (fun b o hb e=>(sb.2 b hb).trans e) f0 f1 f3 f4 f5
   obtain⟨o,e,c,d⟩:=id st';refine⟨_,rfl,go_of (s:={ s with heap:=h',toks:=s.toks+1 }) e c d ?_ ⟨.str ⟨#[x.cps[i]]⟩,H,I1,⟨_,rfl⟩,⟨rfl,_,yb8 hi,rfl⟩,st',fun b hb=>(hf b hb).1⟩⟩
   unfold strIterType;split<;>decide
  cases ha:(x.cps.all fun x=>decide (x<128)) with
  |true =>
   have e:strIterType x="str_ascii_iterator":=by unfold strIterType;rw[ha];rfl
   rw[e]at st fin ⊢;exact wpAny_pyNext_ascii_item st (yb8 hi) fin
  |false =>
   have e:strIterType x="str_iterator":=by unfold strIterType;rw[ha];rfl
   rw[e]at st fin ⊢;exact wpAny_pyNext_wide_item st (yb8 hi) fin
 done:=by
  intro X hP hw hK hc i pins s σ H E I hf st hg;subst hP hw hK;have hi:x.cps.size<=i:=hg;obtain⟨f0,f1,f2,f3,f4,f5⟩:=hf it (by simp)
  have n:x.cps[i]?=none:=Array.getElem?_eq_none hi;cases ha:(x.cps.all fun x=>decide (x<128)) with
  |true =>
   have e:strIterType x="str_ascii_iterator":=by unfold strIterType;rw[ha];rfl
   rw[e]at st;exact wpAny_pyNext_ascii_end (I.ok.hd hc) st n fun h' eb=>⟨rfl,I.turned (t':=s.toks) (fun b o hb e=>eb b o hb e) f0 f1 f3 f4 f5⟩
  |false =>
   have e:strIterType x="str_iterator":=by unfold strIterType;rw[ha];rfl
   rw[e]at st;exact wpAny_pyNext_wide_end (I.ok.hd hc) st n fun h' eb=>⟨rfl,I.turned (t':=s.toks) (fun b o hb e=>eb b o hb e) f0 f1 f3 f4 f5⟩
 self:=fun _ i s Q E st h=>by
  cases ha:(x.cps.all fun x=>decide (x<128)) with
  |true =>
   have e:strIterType x="str_ascii_iterator":=by unfold strIterType;rw[ha];rfl
   rw[e]at st;exact wpAny_pyIter_striter_ascii st h
  |false =>
   have e:strIterType x="str_iterator":=by unfold strIterType;rw[ha];rfl
   rw[e]at st;exact wpAny_pyIter_striter_wide st h
def iStrT(tl:TE):TI:=fun σ H P=>tl σ H fun x H1=>∃y,x=.str y/\P (ItS y) H1
section
variable {X:Cx}{tg l e:Expr}{tl:TE}{E:L2.St->XK}{ca:Str->Value}{m:PSt->Option Rs}
theorem pi_str(hl:PE X l tl):PI X tg l (iStrT tl):=by
 intro pins s σ H R I h;refine thn (hl pins s σ H _ I h) fun v s1 ⟨x,H1,I1,r1,q1⟩=>?_
 obtain⟨y,rfl,q⟩:=q1;obtain⟨t,rfl⟩:=(show ∃t,v=Value.str y t from r1);refine wpAny_pyIter_strU ?_;refine⟨s1.heap.objs.size,[s1.heap.objs.size],_,_,H1,rfl,I1.kept (t':=s1.toks) fun b o e=>ya7 _ e,turn_str y t _,⟨_,yar _ rfl,rfl,rfl⟩,fun b hb=>?_,q⟩
 have e:b=s1.heap.objs.size:=by simpa using hb
 subst e;exact I1.fpOk (yaa _) (I1.hok.fresh (yaa _))
def sgnT(x:Str):List T:=x.cps.toList.map fun c=>.str ⟨#[c]⟩
theorem its_str{K:PySem.W.Frag}{F:Hp}{x:Str}:Its K (ItS x) F (sgnT x):=by
 intro i F' H' s1 s2;refine⟨fun t ht=>?_,fun e=>?_⟩
 ·unfold sgnT at ht;rw[ya5]at ht;obtain⟨c,e1,rfl⟩:=ya3.mp ht;have hi:i<x.cps.size:=by simpa using (ya6.mp e1).1
  refine⟨hi,fun y H'' z=>?_⟩
  obtain⟨rfl,c',hc,rfl⟩:=z;rw[ycq,hc]at e1;cases e1;exact⟨F',Ext.refl s2,.str _⟩
 ·show x.cps.size<=i;rw[e];simp[sgnT]
def zgn(m:PSt->Option Rs):PSt->Option RsL:=fun τ=>match m τ with
 |some (.v (.str x) _)=>some (.v (sgnT x) false)
 |_=>iVal m τ
theorem r_iTxt(ha:PE X e (tM X.K E ca m)):PI X tg e (tI X.K E ca (zgn m)):=by
 refine PI.weak (PI.or (r_iVal ha) (pi_str ha)) fun σ H P h=>?_
 obtain⟨F,τ,R,S,q⟩:=h
 by_cases hs:∃x b,m τ=some (.v (.str x) b)
 ·obtain⟨x,b,hm⟩:=hs;have e:zgn m τ=some (.v (sgnT x) false):=by unfold zgn;rw[hm]
  rw[e]at q;refine .inr ⟨F,τ,R,S,?_⟩;rw[hm];intro F1 H1 y B e1 g1;exact⟨x,zi8 g1,q F1 H1 _ (e1.mono fun _ z=>z.elim) its_str⟩
 ·have e:zgn m τ=iVal m τ:=by
   unfold zgn;split
   ·rename_i x b hm;exact absurd ⟨x,b,hm⟩ hs
   ·rfl
  rw[e]at q;exact .inl ⟨F,τ,R,S,q⟩
end
end Pu
set_option Elab.async false
set_option linter.all false
set_option maxRecDepth 100000
namespace Pu
open PySem PySem.Spec PyProof.Rows L2 Zw Zx
open Classical in
noncomputable def met(val:Nat->Key):Nat->List Key
 |0=>[]
 |i+1=>if val i∈met val i then met val i else met val i++[val i]
open Classical in
theorem met_len(val:Nat->Key):∀i,(met val i).length<=i
 |0=>yaa 0
 |i+1=>by
  have:=met_len val i;unfold met;split
  ·omega
  ·rw[yaq,ybq]
   omega
section
variable {prog:Program}{w:World}{A:Around}{E:Value->Shared->Prop}
open Classical in
theorem loop_set{knd:PySem.KeyKind prog w Key}{R:Result->Shared->Prop}{I:Addr}{fp wr:List Addr}{G:Array GenState->Array GenState->Prop}{n:Nat}{P:Nat->Value->Prop}{St:Nat->Shared->Prop}(W:WalksS prog w A.in1 I fp wr G n P St)(S:Addr)(hS:S∉fp)(val:Nat->Key)
  (hP:∀i v,P i v->knd.is (val i) v=true/\v.scannable=true) (hn:n+1<scanBound):∀(k i:Nat) (s:Shared),n - i=k->i<=n->St i s->Heap.SetOf knd s.heap S (fun k'=>decide (k'∈met val i)) (met val i).length ->
   (∀s':Shared,Moved (S::wr) G s s'->Heap.SetOf knd s'.heap S (fun k'=>decide (k'∈met val n)) (met val n).length->R (Except.ok (Flow.ret Value.none)) s') ->
   codeAny (model prog w) A (Code.builtin "set.update.loop" { pos:=[Value.ref S,Value.ref I] }) R s
 |0,i,s,hk,hi,st,hset,h=>by
  have e:i=n:=by omega
  subst e;refine codeAny_builtin F.entry_set_update_loop ?_;rw[Around.under_plainId ycg];unfold Builtin.«set.update.loop»;refine wpAny_bind (W.done s _ _ st fun s' mv=>?_)
  refine wpAny_pure ?_;refine h s' (mv.mono fun b hb=>ya8 _ hb) ?_
  obtain⟨o,es,ep,t,h1,h2⟩:=hset;exact⟨o,es,ep,t,mv.heap S o (fun z=>hS (W.sub S z)) h1,h2⟩
 |k+1,i,s,hk,hi,st,hset,h=>by
  have hi':i<n:=by omega
  refine codeAny_builtin F.entry_set_update_loop ?_;rw[Around.under_plainId ycg];unfold Builtin.«set.update.loop»;refine wpAny_bind (W.item i s _ _ hi' st fun v s' pv st' mv=>?_)
  obtain⟨hk1,hk2⟩:=hP i v pv
  have hset':Heap.SetOf knd s'.heap S (fun k'=>decide (k'∈met val i)) (met val i).length:=by
   obtain⟨o,es,ep,t,h1,h2⟩:=hset;exact⟨o,es,ep,t,mv.heap S o (fun z=>hS (W.sub S z)) h1,h2⟩
  refine wpAny_bind (wpAny_holding ?_);unfold setAdd;refine wpAny_holding (wpAny_bind (knd.pyHash hk1 ?_));have hl:=met_len val i;refine wpAny_setAddHashed_of (s:={ s' with toks:=s'.toks+1 }) hk1 hk2 hset' (by omega) fun h' sb hset2=>?_
  refine wpAny_pure ⟨plainId_quiet ycg _,?_⟩;have st2:=W.frame (i+1) s' h' (s'.toks+1) st' (yc7 _) fun b hb o e=>(sb.2 b (fun z=>hS (z▸hb))).trans e
  have mv2:Moved (S::wr) G s { s' with heap:=h',toks:=s'.toks+1 }:=(mv.mono fun b hb=>ya8 _ hb).then_heap (yc7 _) fun b o hb e=>(sb.2 b (fun z=>hb (by rw[z];exact ya9 ..))).trans e
  refine loop_set W S hS val hP hn k (i+1) _ (by omega) (by omega) st2 ?_ fun s'' mv3 hs3=>h s'' (mv2.trans W.gtrans mv3) hs3
  have hS:(fun k'=>(decide (k'∈met val i) || decide (k'=val i)))=fun k'=>decide (k'∈met val (i+1)):=funext fun k'=>by
   conv=>rhs;unfold met
   by_cases hm:val i∈met val i
   ·rw[if_pos hm]
    by_cases e:k'=val i
    ·rw[e,decide_eq_true hm];rfl
    ·rw[decide_eq_false e,yc5]
   ·rw[if_neg hm,ybr];simp only[ybg,decide_eq_true_eq,yb7,yae]
  have hN:(if decide (val i∈met val i)=true then (met val i).length else (met val i).length+1)=(met val (i+1)).length:=by
   conv=>rhs;unfold met
   by_cases hm:val i∈met val i
   ·rw[if_pos hm,if_pos (decide_eq_true hm)]
   ·rw[if_neg hm,if_neg (fun z=>hm (of_decide_eq_true z)),yaq,ybq]
  obtain⟨o,es,ep,t,h1,h2,h3,h4,h5,h6,h7,h8⟩:=hset2;refine⟨o,es,ep,t,h1,h2,h3,h4,fun k'=>?_,h6,h7,h8.trans hN⟩
  rw[<- h5 k'];have e:=congrFun hS k';show decide (k'∈met val (i+1))=true ↔ _;rw[<- e]
end
open Classical in
theorem call_set_keys{prog:Program}{w:World}{A:Around}{E:Value->Shared->Prop}{s:Shared}{l:Addr}{items:Array Value}{knd:PySem.KeyKind prog w Key}{val:Nat->Key}{Q:Value->Shared->Prop}(hh:A.handled=none)(hl:s.heap.IsList l items)
  (hP:∀(i:Nat) (v:Value),items[i]?=some v->knd.is (val i) v=true/\v.scannable=true) (hb:items.size+1<scanBound)
  (h:∀(h':Heap) (tk:Nat),Heap.SetOf knd h' s.heap.objs.size (fun k'=>decide (k'∈met val items.size)) (met val items.size).length->(∀(b:Nat) (o:Obj),b<s.heap.objs.size->s.heap.get? b=some o->h'.get? b=some o)->Q (.ref s.heap.objs.size) { s with heap:=h',toks:=tk }) :
  wpAny (model prog w) A (call (Value.type "set") [Value.ref l]) Q E s:=by
 obtain⟨c,tl,hmro⟩:=ycd.mro;have hmade:=ycd.made;have hsub:=ycd.sub;refine wpAny_call (codeAny_of_tree ?_);refine wpAny_pure ⟨Code.quiet_builtin _ (by decide +kernel),codeAny_builtin F.entry_type_call ?_⟩
 have hu:=Around.under_plain (A:=A) (weight_type_call_type "set" [Value.ref l] []) rfl;have h1:=ycd.notType;have h2:=ycd.canCreate;have hct:=F.typeCall_set_1 (Value.ref l);show wpAny (model prog w) (A.under (Code.builtin "type.__call__" { pos:=[Value.type "set",Value.ref l] })) _ _ _ s;rw[hu];unfold Builtin.«type.__call__»;refine wpAny_ite_false (by rw[h1];rfl) (wpAny_ite_false (by rw[h2];rfl) ?_)
 refine wpAny_bind (wpAny_of_eq hct (wpAny_bind (wpAny_of_eq hmro (wpAny_ite_false rfl (wpAny_bind (wpAny_of_eq hmade (wpAny_bind (wpAny_pure (wpAny_bind (wpAny_holding (wpAny_call (codeAny_mono (code_set_new_1 (E:=fun _ _=>False) (Value.ref l) (Q₁:=fun v s'=>∃led:Bool,v=.ref s.heap.objs.size/\s'={ s with heap:=s.heap.push { cls:=.type "set",data:=.set #[] 0 (SetTable.fresh 0 0 led) } }) fun led=>⟨led,rfl,rfl⟩) fun r s₁ hr=>?_))))))))))))
 cases r with
 |error e=>exact False.elim hr
 |ok fl =>
  cases fl with
  |next=>exact False.elim hr
  |brk=>exact False.elim hr
  |cont=>exact False.elim hr
  |ret v =>
   obtain⟨led,rfl,rfl⟩:=(show ∃led:Bool,v=.ref s.heap.objs.size/\s₁={ s with heap:=s.heap.push { cls:=.type "set",data:=.set #[] 0 (SetTable.fresh 0 0 led) } } from hr)
   have ho:(s.heap.push { cls:=.type "set",data:=.set #[] 0 (SetTable.fresh 0 0 led) }).get? s.heap.objs.size=some { cls:=.type "set",data:=.set #[] 0 (SetTable.fresh 0 0 led) }:=yar _ rfl;have hT:Shared.TypeIs { s with heap:=s.heap.push { cls:=.type "set",data:=.set #[] 0 (SetTable.fresh 0 0 led) } } (.ref s.heap.objs.size) "set":=⟨_,ho,rfl⟩
   have hin:=ycd.init;refine wpAny_bind (wpAny_isInstance hT hsub (wpAny_ite_false rfl (wpAny_bind (wpAny_holding ?_))));unfold callSpecial?;refine wpAny_bind (wpAny_specialOf hT hin.lookup (wpAny_holding (wpAny_bind (wpAny_of_eq (hin.bind _) (wpAny_bind (wpAny_call (codeAny_mono (R:=wants (fun v s'=>v=.none/\∃tk h',s'={ s with heap:=h',toks:=tk }/\Heap.SetOf knd h' s.heap.objs.size (fun k'=>decide (k'∈met val items.size)) (met val items.size).length/\∀(b:Nat) (o:Obj),b<s.heap.objs.size->s.heap.get? b=some o->h'.get? b=some o) fun _ _=>False) (codeAny_call_builtin hin.plain F.entry_set_init (check_set_init_1 hT ?_)) fun r s₂ hr₂=>?_)))))))
   ·unfold Builtin.«set.__init__» noKeywords;refine wpAny_bind (wpAny_ite_true rfl (wpAny_pure ?_));unfold typeNameOfCut shownTypeOf;refine wpAny_bind (wpAny_bind (wpAny_bind (wpAny_typeOf hT (wpAny_ite_false (by decide +kernel) (wpAny_pure ?_)))))
    refine wpAny_of_eq (rfl:typeNameCut 200 (Value.type "set")=pure _) ?_;refine wpAny_bind (wpAny_of_eq (rfl:checkCount _ 0 1 1=pure ()) ?_);refine wpAny_bind (wpAny_pure ?_);unfold setUsed setState;refine wpAny_bind (wpAny_bind (wpAny_bind (wpAny_load ho (wpAny_ite_false rfl (wpAny_pure (wpAny_pure (wpAny_ite_false rfl ?_)))))));obtain⟨ol,hol,hcl,nl,hdl⟩:=id hl;have hol2:(s.heap.push { cls:=.type "set",data:=.set #[] 0 (SetTable.fresh 0 0 led) }).get? l=some ol:=ya7 _ hol;have hTl:Shared.TypeIs { s with heap:=s.heap.push { cls:=.type "set",data:=.set #[] 0 (SetTable.fresh 0 0 led) } } (.ref l) "list":=⟨_,hol2,hcl⟩
    unfold Builtin.Frozenset.updateFrom Builtin.Frozenset.isAnySet;refine wpAny_bind (wpAny_bind (wpAny_bind (wpAny_isInstance hTl F.sub_list_set ?_)));have hl2:(s.heap.push { cls:=.type "set",data:=.set #[] 0 (SetTable.fresh 0 0 led) }).IsList l items:=⟨ol,hol2,hcl,nl,hdl⟩;refine wpAny_isInstance hTl F.sub_list_frozenset (wpAny_ite_false rfl (wpAny_bind (wpAny_typeOf hTl (wpAny_ite_false (by decide +kernel) (wpAny_bind (wpAny_pyIter_list hl2 ?_))))))
    have lt:l<s.heap.objs.size:=yab hol;have hsz:(s.heap.push { cls:=.type "set",data:=.set #[] 0 (SetTable.fresh 0 0 led) }).objs.size=s.heap.objs.size+1:=ybj _ _;generalize hhp:s.heap.push { cls:=.type "set",data:=.set #[] 0 (SetTable.fresh 0 0 led) }=hp at *
    have hS:s.heap.objs.size∉[hp.objs.size,l]:=by
     rw[hsz];intro z
     rcases yaj.mp z with e|e
     ·exact absurd e (yau (ybk _))
     ·exact absurd (yae.mp e) (Nat.ne_of_gt lt)
    refine wpAny_bind (wpAny_runValue ?_);refine loop_set (knd:=knd) (A:=A.in1.in1) (Walks.list (A:=A.in1.in1.in1) hh hp.objs.size l (by rw[hsz];exact yau (ybu lt)) items).toS s.heap.objs.size hS val (fun i v e=>hP i v e) hb items.size 0 _ (by omega) (ybe _) ⟨?_,?_⟩ ?_ fun s' mv hs'=>?_
    ·exact⟨_,yar _ rfl,rfl,rfl⟩
    ·exact⟨ol,ya7 _ hol2,hcl,nl,hdl⟩
    ·letI:BEq Key:=⟨fun a b=>decide (a=b)⟩
     haveI:LawfulBEq Key:={ eq_of_beq:=fun h=>of_decide_eq_true h,rfl:=decide_eq_true rfl }
     have e0:=(setObjOf_fresh (prog:=prog) (w:=w) (knd:=knd) led).setOf (h:=hp.push { cls:=.type "list_iterator",data:=.fields #[.ref l,.int 0 0] }) (a:=s.heap.objs.size) (ya7 _ ho) (by decide)
     obtain⟨o,es,ep,t,g1,g2,g3,g4,g5,g6,g7,g8⟩:=e0;refine⟨o,es,ep,t,g1,g2,g3,g4,fun k'=>?_,g6,g7,g8⟩
     rw[<- g5 k'];simp[met]
    ·refine wpAny_pure (wpAny_pure ?_)
     have b2:∀(b:Nat) (o:Obj),b<s.heap.objs.size->s.heap.get? b=some o->s'.heap.get? b=some o:=fun b o hb e=>by
      refine mv.heap b o (fun z=>?_) (ya7 _ (by rw[<- hhp];exact ya7 _ e))
      rcases yaj.mp z with e|e
      ·exact absurd e (yau hb)
      ·have e:=yae.mp e;rw[hsz]at e;exact absurd e (yau (ybu hb))
     have m1:=mv.gens;have m2:=mv.drawn;have m3:=mv.os;obtain⟨hh',g',d',t',os'⟩:=s';refine⟨rfl,t',hh',?_,hs',b2⟩;simp only at m1 m2 m3;rw[m1,m2,m3]
   ·cases r with
    |error e=>exact False.elim hr₂
    |ok fl =>
     cases fl with
     |next=>exact False.elim hr₂
     |brk=>exact False.elim hr₂
     |cont=>exact False.elim hr₂
     |ret v =>
      obtain⟨rfl,tk,h',rfl,hs,hk⟩:=(show v=.none/\∃tk h',s₂={ s with heap:=h',toks:=tk }/\Heap.SetOf knd h' s.heap.objs.size (fun k'=>decide (k'∈met val items.size)) (met val items.size).length/\∀(b:Nat) (o:Obj),b<s.heap.objs.size->s.heap.get? b=some o->h'.get? b=some o from hr₂)
      refine wpAny_pure (wpAny_ite_false rfl (wpAny_pure ?_));exact h h' tk hs hk
noncomputable def SetK(P:Program)(w:World)(a:Addr)(ks:List Key):HO:=.ext fun h=>Heap.SetOf (zbg P w) h a (fun k=>@decide (k∈ks) (Classical.propDecidable _)) ks.length
section
variable {X:Cx}
theorem call_setT(hc:X.calm=true):zca X (.type "set") (fun xs H Q=>∃(p:Addr) (ys:List Str),xs=[.ref p]/\SqL X.K H p (ys.map V.str)/\ys.length<1000/\∀a,H a=none->Q (.ref a) (upd H a (SetK X.prog X.w a (met (fun i=>Sum.inr (ys.getD i Str.empty)) ys.length)))):=by
 intro pins s σ H xs us Q I r h;obtain⟨p,ys,rfl,hq,hz,q⟩:=h;obtain⟨u,rfl,rx⟩:=vals1 r;cases rx;obtain⟨its,r',pl,_⟩:=I.list hq;have hlen:=r'.length;rw[ya1]at hlen;have hsz:its.toArray.size=ys.length:=by rw[yad];exact hlen.symm
 refine call_set_keys (knd:=zbg X.prog X.w) (val:=fun i=>Sum.inr (ys.getD i Str.empty)) (I.ok.hd hc) pl.isList (fun i v e=>?_) (by rw[hsz];exact yai (Nat.succ_lt_succ hz) (by decide)) fun h' tk hs kp=>?_
 ·have e':its[i]?=some v:=by simpa using e
  have hi:i<ys.length:=by rw[hlen];exact(ya6.mp e').1
  have hx:(ys.map V.str)[i]?=some (.str ys[i]):=by rw[ya5,ya0 hi];rfl
  obtain⟨u,e2,ru⟩:=r'.get hx;rw[e']at e2;cases e2;obtain⟨t,rfl⟩:=(show ∃t,v=Value.str ys[i] t from ru);refine⟨?_,rfl⟩;show keyIs (Sum.inr (ys.getD i Str.empty)) (Value.str ys[i] t)=true;rw[ya4,ya0 hi];show(ys[i] == ys[i])=true;exact beq_self_eq_true _
 ·rw[hsz]at hs;refine⟨.ref s.heap.objs.size,_,I.laid (a:=s.heap.objs.size) (o:=SetK X.prog X.w s.heap.objs.size (met (fun i=>Sum.inr (ys.getD i Str.empty)) ys.length)) (t':=tk) (fun b o e=>kp b o (yab e) e) (yaa _) ⟨?_,?_,?_⟩,rfl,q _ (I.hok.fresh (yaa _))⟩
  ·exact hs
  ·obtain⟨o,es,ep,t,g1,_⟩:=hs;exact⟨o,g1⟩
  ·intro h1 h2 p1 k;obtain⟨o,es,ep,t,g1,g2⟩:=p1;exact⟨o,es,ep,t,k o g1,g2⟩
theorem call_lenK:zca X (.builtin "len") (fun xs H Q=>∃a ks,xs=[.ref a]/\H a=some (SetK X.prog X.w a ks)/\Q (.int ks.length) H):=by
 intro pins s σ H xs us Q I r h;obtain⟨a,ks,rfl,ha,q⟩:=h;obtain⟨u,rfl,rx⟩:=vals1 r;cases rx;obtain⟨⟨o,es,ep,t,g1,g2,g3,g4,g5,g6,g7,g8⟩,_⟩:=(show _/\_ from I.hok a _ ha)
 have hb:((es.size:Nat):Int)<2 ^ 63:=by
  have:scanBound<=2 ^ 40:=by decide
  have g6':es.size<scanBound:=g6
  omega
 refine call_len_set g1 g2 g3 g7 hb ⟨.int (es.size:Int),H,I.tok _,⟨_,rfl⟩,?_⟩;rw[show es.size=ks.length from g8];exact q
end
def zdz:List T->Option (List Str)
 |[]=>some []
 |.str x::r=>(match zdz r with
  |some l=>some (x::l)
  |none=>none)
 |_::_=>none
theorem zhw{K:PySem.W.Frag}{F:Hp}:∀{l:List T} {ys:List Str} {xs:List V},zdz l=some ys->Rps K F l xs->xs=ys.map V.str
 |[],ys,xs,h,r=>by
  cases h;exact r.inv0
 |t::l,ys,xs,h,r=>by
  obtain⟨x,xs',rfl,r1,r2⟩:=r.inv;unfold zdz at h;split at h
  ·rename_i e;cases e
  ·rename_i y r e;cases e;split at h
   ·rename_i l' hl;cases h;rw[r1.str_inv,zhw hl r2]
    rfl
   ·cases h
  ·cases h
noncomputable def unqN(ys:List Str):Nat:=(met (fun i=>Sum.inr (ys.getD i Str.empty)) ys.length).length
noncomputable def unqT:T->Option T
 |.nd _ .lst l=>(match zdz l with
  |some ys=>if ys.length<1000 then some (.int (unqN ys)) else none
  |none=>none)
 |_=>none
section
variable {X:Cx}{E:L2.St->XK}{ca:Str->Value}{m:PSt->Option Rs}{e:Expr}{pos p p2 p3:Pos}
theorem r_unq(hc:X.calm=true)(hg:Gl X "len")(hm:X.mg "len"=none)(hg2:Gl X "set")(hm2:X.mg "set"=none)(ha:PE X e (tM X.K E ca m))(he:starEach [e] X.env=[(false,eval e X.env)]) :
  PE X (.Call (.Name "len" p) [.Call (.Name "set" p2) [e] [] p3] [] pos) (tM X.K E ca (mAp (g1 unqT) (za0 m za6))):=by
 have hset:=pe_callTy (pos:=p3) (p:=p2) (call_setT hc) hg2 hm2 (show bootBuiltins "set"=some (.type "set") from rfl) (zbw ha zfb he) (by decide) (by decide) he rfl
 refine PE.weak (zgc (call_lenK (X:=X)) hg hm PySem.boot_len (zbw hset zfb rfl) (by decide) (by decide) rfl rfl) fun σ H Q h=>?_
 refine(zd0 (tM_ap h)).mono fun x H1 h1=>?_
 obtain⟨F,ts,v,fh,rs,e,q⟩:=ze8 h1;unfold g1 at e;split at e
 ·obtain⟨x1,xs1,e1,r1,rs1⟩:=rs.inv;cases e1;unfold unqT at e;split at e
  ·split at e
   ·rename_i o l ys hy;split at e
    ·rename_i hz;cases e;obtain⟨pp,zs,rfl,_,n,kd⟩:=zda r1;have hF:F pp=some (.lst zs):=n;refine⟨pp,ys,rfl,SqL.of (by rw[<- zhw hy kd];exact fh _ _ hF),hz,fun a ha=>⟨a,_,rfl,zay,?_⟩⟩
     exact q F _ _ R0 ((Ext.newO fh ha).mono fun _ z=>z.elim) (Rp.int _)
    ·cases e
   ·cases e
  ·cases e
 ·cases e
end
end Pu
set_option Elab.async false
set_option linter.all false
set_option maxRecDepth 100000
namespace Pu
open PySem PySem.Spec PyProof.Rows L2 Zw Zx
noncomputable def leT:T->T->Option T
 |.int i,.int j=>some (.bl (decide (i<=j)))
 |.str x,.str y=>some (.bl (!(@decide (y.cps.toList<x.cps.toList) (Classical.propDecidable _))))
 |_,_=>none
section
variable {X:Cx}{E:L2.St->XK}{ca:Str->Value}{m mk:PSt->Option Rs}{o k:Expr}{pos apos cpos:Pos}
theorem opT_leT:OpR X (compareOp .LtE) (rT2 X.K leT):=by
 intro pins s σ H x y v u Q I rx ry h;obtain⟨F,t1,t2,r,fh,r1,r2,e,q⟩:=h;unfold leT at e;split at e
 ·cases e;rw[r1.int_inv]at rx;rw[r2.int_inv]at ry;exact op_le pins s σ H _ _ v u Q I rx ry ⟨_,_,rfl,rfl,q.bl fh⟩
 ·rename_i a b;cases e;rw[r1.str_inv]at rx;rw[r2.str_inv]at ry;obtain⟨t,rfl⟩:=(show ∃t,v=Value.str a t from rx);obtain⟨t',rfl⟩:=(show ∃t,u=Value.str b t from ry);refine PySem.P.le_str ⟨.bl _,H,I,rfl,?_⟩;have q1:=q.bl fh;rw[show(!decide (b.cps.toList<a.cps.toList))=!(@decide (b.cps.toList<a.cps.toList) (Classical.propDecidable _)) from congrArg _ (by rw[ybr,decide_eq_true_eq,@decide_eq_true_eq _ (Classical.propDecidable _)])]
  exact q1
 ·cases e
end
noncomputable def idxS(ys:List Str)(y:Str):Option Nat:=ys.findIdx? fun x=>@decide (x=y) (Classical.propDecidable _)
theorem idxS_some{ys:List Str}{y:Str}{j:Nat}(h:idxS ys y=some j):∃hj:j<ys.length,ys[j]=y/\∀(m:Nat) (hm:m<ys.length),m<j->ys[m]≠y:=by
 unfold idxS at h;obtain⟨h1,h2,h3⟩:=yb2.mp h;refine⟨h1,@of_decide_eq_true _ (Classical.propDecidable _) h2,fun m hm hmj e=>?_⟩
 exact h3 m hmj (@decide_eq_true _ (Classical.propDecidable _) e)
theorem cps_eq{x y:Str}:(x.cps.toList == y.cps.toList)=true ↔ x=y:=by
 rw[beq_iff_eq];constructor
 ·intro h;cases x;cases y;simp only at h;rw[Array.toList_inj.mp h]
 ·intro h;rw[h]
def rIndex:V->List V->Hp->VK->Prop:=fun x vs H Q=>∃(l:Addr) (ys:List Str) (y:Str) (j:Nat),x=.ref l/\vs=[.str y]/\H l=some (.lst (ys.map V.str))/\idxS ys y=some j/\ys.length<1000000/\Q (.int j) H
section
variable {X:Cx}{E:L2.St->XK}{ca:Str->Value}{m mk:PSt->Option Rs}{o k:Expr}{pos apos cpos:Pos}
theorem mt_index:MtM X "list.index" rIndex:=by
 intro pins s σ H x vs v us Q I rx rv h;obtain⟨l,ys,y,j,rfl,rfl,hH,hj,hz,q⟩:=h;cases rx;obtain⟨u,rfl,ru⟩:=rv.one;obtain⟨z,its,n,r,hl,e⟩:=I.lstM hH;obtain⟨t,rfl⟩:=(show ∃t,u=Value.str y t from ru);obtain⟨hj1,hj2,hj3⟩:=idxS_some hj;rw[ya1]at hl
 have at_:∀(i:Nat) (hi:i<its.toArray.size),∃(t':Tok) (hi':i<ys.length),its.toArray[i]=Value.str ys[i] t':=fun i hi=>by
  have hi0:i<its.length:=by simpa using hi
  have hi':i<ys.length:=by omega
  have hx:(ys.map V.str)[i]?=some (.str ys[i]):=by rw[ya5,ya0 hi'];rfl
  obtain⟨u,e2,ru⟩:=r.get hx;obtain⟨t',rfl⟩:=(show ∃t',u=Value.str ys[i] t' from ru);rw[ya0 hi0]at e2;refine⟨t',hi',?_⟩
  simpa using e2
 let ev:Value->Bool:=fun v=>match v with
  |.str x _=>x.cps.toList == y.cps.toList
  |_=>false
 have evs:∀(x:Str) (t':Tok),ev (.str x t')=(x.cps.toList == y.cps.toList):=fun _ _=>rfl
 have hjs:j<its.toArray.size:=by rw[yad];omega
 refine call_meets F.slot_list_index ⟨_,e,rfl⟩ F.entry_list_index (F.args_list_index_2 _ _) (MeetsSeq.list_index l its.toArray n (.str y t) ev (fun y' hy'=>?_) j hjs (by omega) ?_ fun m hm hmj=>?_) ⟨e,.int j,H,I.tok _,⟨_,rfl⟩,q⟩
 ·obtain⟨i,hi,rfl⟩:=Array.mem_iff_getElem.mp hy';obtain⟨t',hi',e1⟩:=at_ i hi;rw[e1,evs _ t'];exact SeqRoads2.EqGives.str _ _ _ _
 ·obtain⟨t',hi',e1⟩:=at_ j hjs;rw[e1,evs _ t'];exact cps_eq.mpr hj2
 ·obtain⟨t',hi',e1⟩:=at_ m hm;rw[e1,evs _ t',yan];exact fun z=>hj3 m hi' hmj (cps_eq.mp z)
noncomputable def mIdx(m mk:PSt->Option Rs):PSt->Option Rs:=fun τ=>match m τ with
 |some (.v (.nd false .lst l) false)=>(match zdz l with
  |some ys=>(match mk τ with
   |some (.v (.str y) _)=>(match idxS ys y with
    |some j=>if ys.length<1000000 then some (.v (.int j) false) else none
    |none=>none)
   |_=>none)
  |none=>none)
 |_=>none
theorem r_index(ho:PE X o (tM X.K E ca m))(hk:PE X k (tM X.K E ca mk))(hbase:attributeBase o "index" X.env (eval o X.env)=eval o X.env)(hs:starEach [k] X.env=[(false,eval k X.env)])(hline:(apos.endLine == cpos.line)=true) :
  PE X (.Call (.Attribute o "index" apos) [k] [] cpos) (tM X.K E ca (mIdx m mk)):=by
 refine PE.weak (pe_bm PySem.F.plainAttrs_list PySem.F.slot_list_index PySem.F.type_list_index mt_index ho (zbw hk zfb hs) hbase (by rw[hs];rfl) hline hs rfl) fun σ H Q h=>?_
 obtain⟨F,τ,R,S,q⟩:=h;refine⟨F,τ,R,S,?_⟩;unfold mIdx at q;cases hm:m τ with
 |none=>simp only[hm]at q
 |some r =>
  cases r with
  |x c=>simp only[hm]at q
  |v t b =>
   by_cases ht:∃l,t=.nd false .lst l/\b=false
   ·obtain⟨l,rfl,rfl⟩:=ht;simp only[hm]at q;intro F1 H1 x B e1 g1;have g1':Rp X.K F1 H1 (.nd false .lst l) x B:=g1;obtain⟨p,rfl⟩:=g1'.ref_inv;obtain⟨xs,hN,hr⟩:=Rps.node g1';have hF:F1 p=some (.lst xs):=hN;cases hy:zdz l with
    |none=>simp only[hy]at q
    |some ys =>
     simp only[hy]at q;have hxs:=zhw hy hr;refine⟨.inl ⟨rfl,xs,SqL.of (e1.fh _ _ hF)⟩,F1,τ,R,S.ext e1,?_⟩;cases hk2:mk τ with
     |none=>simp only[hk2]at q
     |some r =>
      cases r with
      |x c=>simp only[hk2]at q
      |v t2 b2 =>
       cases t2 with
       |str y =>
        simp only[hk2]at q;intro F2 H2 z B2 e2 g2;have hz:=zi8 g2;subst hz;cases hj:idxS ys y with
        |none=>simp only[hj]at q
        |some j =>
         simp only[hj]at q
         by_cases hl:ys.length<1000000
         ·rw[if_pos hl]at q;refine⟨p,ys,y,j,rfl,rfl,by rw[<- hxs];exact e2.hh _ _ (e1.fh _ _ hF),hj,hl,?_⟩
          exact q F2 H2 _ R0 ((e1.trans e2).mono fun _ z=>z.elim) (.int _)
         ·rw[if_neg hl]at q;exact q.elim
       |_=>simp only[hk2]at q
   ·exfalso
    split at q
    ·rename_i l hh;rw[hm]at hh;split at hh
     ·rename_i l' hh2;cases hh2;exact ht ⟨l',rfl,rfl⟩
     ·cases hh
    ·rename_i hh;rw[hm]at hh;split at hh
     ·rename_i l' hh2;cases hh2;exact ht ⟨l',rfl,rfl⟩
     ·cases hh
    ·exact q
end
def tupT:T->Option T
 |.nd _ .lst l=>some (.tup l)
 |_=>none
theorem callT_tup{X:Cx}:zca X (.type "tuple") (rTn X.K (g1 tupT)):=by
 intro pins s σ H xs us Q I r h;obtain⟨F,ts,v,fh,rs,e,q⟩:=h;unfold g1 at e;split at e
 ·obtain⟨x1,xs1,rfl,r1,rs1⟩:=rs.inv;cases rs1.inv0;unfold tupT at e;split at e
  ·cases e;obtain⟨p,ys,rfl,rfl,n1,k1⟩:=zda r1;have hF:F p=some (.lst ys):=n1;exact call_tuple_of pins s σ H _ us Q I r ⟨p,ys,rfl,.inl ⟨SqL.of (fh _ _ hF),fun l hl=>q.tuple fh k1 hl⟩⟩
  ·cases e
 ·cases e
end Pu
set_option Elab.async false
set_option linter.all false
set_option maxRecDepth 100000
namespace Pu
open PySem PySem.Spec PyProof.Rows L2 Zw Zx
section
variable {X:Cx}{E:L2.St->XK}{ca:Str->Value}{mu:Bool}{i:Nat}{x n:Str}{np pos hpos:Pos}{body suite:List Stmt}{b₀:Stmt}{u h:PSt->Option Out}{cs:List (Str×Addr)}
theorem StR.put{K:PySem.W.Frag}{F H:Hp}{σ:L2.St}{τ:PSt}{R:Nat->Rg}{i:Nat}{t:T}{v:V}(S:StR K F H σ τ R)(hi:i<τ.length)(r:Rp K F H t v R0):StR K F H (σ.set i (some v)) (τ.set i (some t)) (fun j=>if j=i then R0 else R j):=by
 refine⟨S.fh,by simpa using S.len,fun j t' e=>?_,fun j a z=>?_,fun j k a hjk z1 z2=>?_⟩
 ·by_cases hj:j=i
  ·subst hj;rw[yam hi]at e;cases e;exact⟨v,yam (by rw[S.len];exact hi),by simpa using r⟩
  ·rw[yap (yaz hj)]at e;obtain⟨y,e1,r1⟩:=S.rep j t' e;exact⟨y,by rw[yap (yaz hj)];exact e1,by simpa[hj] using r1⟩
 ·by_cases hj:j=i
  ·simp only[hj,if_true]at z;exact z.elim
  ·simp only[hj,if_false]at z;obtain⟨t',e⟩:=S.out j a z;exact⟨t',by rw[yap (yaz hj)];exact e⟩
 ·by_cases hj:j=i
  ·simp only[hj,if_true]at z1;exact z1.elim
  ·by_cases hk:k=i
   ·simp only[hk,if_true]at z2;exact z2.elim
   ·simp only[hj,if_false]at z1;simp only[hk,if_false]at z2;exact S.dis j k a hjk z1 z2
end
def isXT(tb:List (Addr×Bool)):T->Option T
 |.obj (.exn C) _=>(match tb.lookup C with
  |some b=>some (.bl b)
  |none=>none)
 |_=>none
section
variable {X:Cx}{E:L2.St->XK}{ca:Str->Value}{m:PSt->Option Rs}{e:Expr}{pos p p2:Pos}{c:Str}{v:V}{tb:List (Addr×Bool)}
theorem r_isX(hg:Gl X "isinstance")(hm:X.mg "isinstance"=none)(hv:PE X (.Name c p2) (tC v))(hvv:∃D,v=.ref D\/∃T,v=.ty T)(htb:∀C b,tb.lookup C=some b->ExcK X.K C/\PySem.W.kitOne X.K (.ref C) (clsV v)=some b)(ha:PE X e (tM X.K E ca m))(he:starEach [e,.Name c p2] X.env=(false,eval e X.env)::starEach [.Name c p2] X.env) :
  PE X (.Call (.Name "isinstance" p) [e,.Name c p2] [] pos) (tM X.K E ca (mAp (g1 (isXT tb)) (za0 m za6))):=by
 refine PE.weak (zgc (call_isX (X:=X)) hg hm ybl (zbw ha (zbw hv zfb) he) (by decide) (by decide) he rfl) fun σ H Q h=>?_
 refine(zd0 (tM_ap h)).mono fun x H1 h1=>?_
 obtain⟨F,ts,w,fh,rs,e,q⟩:=ze8 h1;unfold g1 at e;split at e
 ·obtain⟨x1,xs1,e1,r1,rs1⟩:=rs.inv;cases e1;unfold isXT at e;split at e
  ·rename_i C l;split at e
   ·rename_i b hb;cases e;obtain⟨k1,k2⟩:=htb C b hb;obtain⟨a,xs,rfl,_,hF,_,_⟩:=r1.obj_inv;have hF':F a=some (ExcO a C):=hF;exact⟨a,C,v,b,rfl,fh _ _ hF',k1,hvv,k2,q.bl fh⟩
   ·cases e
  ·cases e
 ·cases e
end
end Pu
set_option Elab.async false
set_option linter.all false
set_option maxRecDepth 100000
namespace Pu
open PySem PySem.Spec PyProof.Rows L2 Zw Zx
def Kd.isLst:Kd->Bool
 |.lst=>true
 |_=>false
section
variable {X:Cx}{E:L2.St->XK}{ca:Str->Value}{mu:Bool}{i j:Nat}{tg it c:Expr}{ret:List Stmt}{mc:PSt->Option Rs}{k:T}{ip pos:Pos}
end
end Pu
set_option Elab.async false
set_option linter.all false
set_option maxRecDepth 100000
namespace Pu
open PySem PySem.Spec PyProof.Rows L2 Zw Zx
section
variable {X:Cx}{E:L2.St->XK}{ca:Str->Value}{m mk ma:PSt->Option Rs}{o k e a:Expr}{pos apos cpos p p2:Pos}
def rSlS:V->Option Int->Option Int->Hp->VK->Prop:=fun x lo hi H Q=>∃z:Str,x=.str z/\z.length<=lim/\Q (.str (Txt.slice z lo hi)) H
theorem sl_str:SlR X rSlS:=by
 intro pins s σ H x v vl vu lo hi sl Q I rx hs pl pu q;obtain⟨z,rfl,hz,q⟩:=q;obtain⟨t,rfl⟩:=(show ∃t,v=Value.str z t from rx);obtain⟨ob,ho,hc,hd⟩:=hs;rw[zfd]at hz;cases pl with
 |none =>
  cases pu with
  |none=>exact⟨"str",_,yby.lookup,typeIs_str _ _ _,wpAny_getItem_str_slice (l:=none) (u:=none) (st:=none) ⟨ob,ho,hc,hd⟩ rfl (post_val_or_str ⟨yao (ydg z _ _) hz,fun t' k=>⟨.str _,H,I.tok _,⟨_,rfl⟩,q⟩⟩)⟩
  |int j uj=>exact⟨"str",_,yby.lookup,typeIs_str _ _ _,wpAny_getItem_str_slice (l:=none) (u:=some (j,uj)) (st:=none) ⟨ob,ho,hc,hd⟩ rfl (post_val_or_str ⟨yao (ydg z _ _) hz,fun t' k=>⟨.str _,H,I.tok _,⟨_,rfl⟩,q⟩⟩)⟩
 |int i ui =>
  cases pu with
  |none=>exact⟨"str",_,yby.lookup,typeIs_str _ _ _,wpAny_getItem_str_slice (l:=some (i,ui)) (u:=none) (st:=none) ⟨ob,ho,hc,hd⟩ rfl (post_val_or_str ⟨yao (ydg z _ _) hz,fun t' k=>⟨.str _,H,I.tok _,⟨_,rfl⟩,q⟩⟩)⟩
  |int j uj=>exact⟨"str",_,yby.lookup,typeIs_str _ _ _,wpAny_getItem_str_slice (l:=some (i,ui)) (u:=some (j,uj)) (st:=none) ⟨ob,ho,hc,hd⟩ rfl (post_val_or_str ⟨yao (ydg z _ _) hz,fun t' k=>⟨.str _,H,I.tok _,⟨_,rfl⟩,q⟩⟩)⟩
def mSlT(ma:PSt->Option Rs)(ml mh:Option (PSt->Option Rs)):PSt->Option Rs:=fun τ=>match ma τ with
 |some (.v (.str z) _)=>(match zjw ml τ,zjw mh τ with
  |some lo,some hi=>if z.length<=lim then some (.v (.str (Txt.slice z lo hi)) false) else none
  |_,_=>none)
 |_=>none
theorem r_sliceT{lo hi:Option Expr}{ml mh:Option (PSt->Option Rs)}(ha:PE X a (tM X.K E ca ma))(hl:PO X lo (tPo X.K ml))(hh:PO X hi (tPo X.K mh)):PE X (.Subscript a (.Slice lo hi none p2) pos) (tM X.K E ca (mSlT ma ml mh)):=by
 refine PE.weak (pe_slice sl_str ha hl hh) fun σ H Q h=>?_
 obtain⟨F,τ,R,S,q⟩:=h;refine⟨F,τ,R,S,?_⟩;unfold mSlT at q;cases hm:ma τ with
 |none=>rw[hm]at q;exact q.elim
 |some r =>
  rw[hm]at q;cases r with
  |x c=>exact q.elim
  |v t bb =>
   cases t with
   |str z =>
    simp only at q;intro F1 H1 x B e1 g1;have hx:=zi8 g1;subst hx;have e1':Ext F H F1 H1 R0:=e1.mono fun _ z=>z.elim
    have S1:=S.ext e1';cases h1:zjw ml τ with
    |none=>simp only[h1]at q
    |some lo' =>
     refine⟨F1,τ,R,lo',S1,h1,fun F2 H2 e2=>?_⟩
     have S2:=S1.ext e2;cases h2:zjw mh τ with
     |none=>simp only[h1,h2]at q
     |some hi' =>
      simp only[h1,h2]at q;refine⟨F2,τ,R,hi',S2,h2,fun F3 H3 e3=>?_⟩
      by_cases hz:z.length<=lim
      ·rw[if_pos hz]at q;exact⟨z,rfl,hz,q F3 H3 _ R0 (e1'.trans0 (e2.trans0 e3)) (.str _)⟩
      ·rw[if_neg hz]at q;exact q.elim
   |_=>exact q.elim
def rJoin:V->List V->Hp->VK->Prop:=fun x vs H Q=>∃(sep:Str) (l:Addr) (ys:List Str),x=.str sep/\vs=[.ref l]/\H l=some (.lst (ys.map V.str))/\(ys.map (·.length)).sum+ys.length * sep.length<=lim/\Q (.str (Txt.join sep ys)) H
theorem strs_are:∀{ys:List Str} {its:List Value},zbl (ys.map V.str) its->StrsAre its ys
 |[],its,r=>by
  cases r;exact .nil
 |y::ys,its,r=>by
  cases r with
  |cons h t =>
   obtain⟨tk,rfl⟩:=h;exact .cons _ _ (strs_are t)
theorem mt_join:MtM X "str.join" rJoin:=by
 intro pins s σ H x vs v us Q I rx rv h;obtain⟨sep,l,ys,rfl,rfl,hH,hz,q⟩:=h;obtain⟨t,rfl⟩:=(show ∃t,v=Value.str sep t from rx);obtain⟨u,rfl,ru⟩:=rv.one;cases ru;obtain⟨its,r,pl,_⟩:=I.list (SqL.of hH);refine join_list (items:=its.toArray) pl.isList (strs_are r) (by rw[zfd]at hz;exact hz) fun t' k=>⟨.str _,H,I.tok _,⟨_,rfl⟩,q⟩
def mJn(m mk:PSt->Option Rs):PSt->Option Rs:=fun τ=>match m τ with
 |some (.v (.str sep) _)=>(match mk τ with
  |some (.v (.nd _ .lst l) _)=>(match zdz l with
   |some ys=>if (ys.map (·.length)).sum+ys.length * sep.length<=lim then some (.v (.str (Txt.join sep ys)) false) else none
   |none=>none)
  |_=>none)
 |_=>none
theorem lst_of{K:PySem.W.Frag}{F H:Hp}{o:Bool}{l:List T}{x:V}{A:Rg}(s:zbs F H)(h:Rp K F H (.nd o .lst l) x A):∃p xs,x=.ref p/\H p=some (.lst xs)/\l.length=xs.length/\∀(i:Nat) (t:T) (x:V),l[i]?=some t->xs[i]?=some x->∃B,Rp K F H t x B:=by
 cases h with
 |shr h e c=>exact⟨_,_,rfl,s _ _ h,e,fun i t x h1 h2=>⟨_,c i t x h1 h2⟩⟩
 |own hk R f h e c d dp o=>exact⟨_,_,rfl,h,e,fun i t x h1 h2=>⟨_,c i t x h1 h2⟩⟩
theorem strs_vals{K:PySem.W.Frag}{F H:Hp}:∀{l:List T} {ys:List Str} {xs:List V},zdz l=some ys->l.length=xs.length->(∀(i:Nat) (t:T) (x:V),l[i]?=some t->xs[i]?=some x->∃B,Rp K F H t x B)->xs=ys.map V.str
 |[],ys,xs,h,e,_=>by
  cases h;cases xs with
  |nil=>rfl
  |cons _ _=>simp at e
 |t::l,ys,[],h,e,_=>by simp at e
 |t::l,ys,x::xs,h,e,f=>by
  unfold zdz at h;split at h
  ·cases ‹_::_=[]›
  ·rename_i z r hh;cases hh;split at h
   ·rename_i l' hl;cases h;obtain⟨B,r0⟩:=f 0 _ x rfl rfl;have ih:xs=l'.map V.str:=strs_vals hl (by simpa using e) fun i t x h1 h2=>f (i+1) t x (by simpa using h1) (by simpa using h2)
    rw[r0.str_inv,ih]
    rfl
   ·cases h
  ·cases h
theorem r_join(ho:PE X o (tM X.K E ca m))(hk:PE X k (tM X.K E ca mk))(hbase:attributeBase o "join" X.env (eval o X.env)=eval o X.env)(hs:starEach [k] X.env=[(false,eval k X.env)])(hline:(apos.endLine == cpos.line)=true) :
  PE X (.Call (.Attribute o "join" apos) [k] [] cpos) (tM X.K E ca (mJn m mk)):=by
 refine PE.weak (pe_bm PySem.F.plainAttrs_str PySem.F.slot_str_join PySem.F.type_str_join mt_join ho (zbw hk zfb hs) hbase (by rw[hs];rfl) hline hs rfl) fun σ H Q h=>?_
 obtain⟨F,τ,R,S,q⟩:=h;refine⟨F,τ,R,S,?_⟩;unfold mJn at q;cases hm:m τ with
 |none=>rw[hm]at q;exact q.elim
 |some r =>
  rw[hm]at q;cases r with
  |x c=>exact q.elim
  |v t b =>
   cases t with
   |str sep =>
    simp only at q;intro F1 H1 x B e1 g1;have hx:=zi8 g1;subst hx;have e1':Ext F H F1 H1 R0:=e1.mono fun _ z=>z.elim
    refine⟨rfl,F1,τ,R,S.ext e1',?_⟩;cases hk2:mk τ with
    |none=>rw[hk2]at q;exact q.elim
    |some r2 =>
     rw[hk2]at q;cases r2 with
     |x c=>exact q.elim
     |v t2 b2 =>
      cases t2 with
      |nd o2 k2 l =>
       cases k2 with
       |lst =>
        simp only at q;intro F2 H2 z B2 e2 g2
        have hr:∃A,Rp X.K F2 H2 (.nd o2 .lst l) z A:=by
         cases b2 with
         |true=>obtain⟨_,A,_,r⟩:=g2;exact⟨A,r⟩
         |false=>exact⟨_,g2⟩
        obtain⟨A,r⟩:=hr;obtain⟨p,xs,rfl,hH,el,kd⟩:=lst_of e2.fh r;cases hy:zdz l with
        |none=>simp only[hy]at q
        |some ys =>
         simp only[hy]at q;have hxs:=strs_vals hy el kd
         by_cases hz:(ys.map (·.length)).sum+ys.length * sep.length<=lim
         ·rw[if_pos hz]at q;exact⟨sep,p,ys,rfl,rfl,by rw[<- hxs];exact hH,hz,q F2 H2 _ R0 ((e1'.trans e2).mono fun _ z=>z.elim) (.str _)⟩
         ·rw[if_neg hz]at q;exact q.elim
       |_=>exact q.elim
      |_=>exact q.elim
   |_=>exact q.elim
def rIxD:R2:=fun x y H Q=>∃a kvs k v,x=.ref a/\y=.str k/\H a=some (.dK kvs)/\valV kvs (Sum.inr k)=some v/\Q v H
theorem ix_dic(hu:X.A.units+1<cLine):IxR X rIxD:=by
 intro value slice pins s σ H x y v u Q I rx ry h hs;obtain⟨a,kvs,k,w,rfl,rfl,hH,hv,q⟩:=h;cases rx;have g:DGet H a (kV (Sum.inr k)) (some w):=hv▸DGet.k hH
 have hT:s.TypeIs (.ref a) "dict":=by
  obtain⟨_,_,vs,_,dd⟩:=dk_of I.hok hH;exact dd.typeIs
 unfold subscriptTail;refine wpAny_bind ?_;rw[getitemInPython_of_ne hT.not_modules];refine wpAny_bind (wpAny_specialOf hT PySem.F.slot_dict_getitem.lookup ?_)
 have fin:wpAny (model X.prog X.w) X.A (subscripted slice false (.ref a) u) (fun r s₃=>wpAny (model X.prog X.w) X.A (letTemporaryGo value (.ref a) r >>= fun _=>pure r) (EP X pins σ Q) X.xe s₃) X.xe s:=by
  rw[hs];exact wpAny_operating (wpAny_mono (d_getItem hu I g (show L2.RelV (kV (Sum.inr k)) u from ry) fun w' s3 I3 rw'=>(⟨w,H,I3,rw',q⟩:EP X pins σ Q w' s3)) (fun r s₃ h₃=>wpAny_bind (wpAny_letTemporaryGo (wpAny_pure h₃))) fun _ _ x=>x)
 first|exact wpAny_pure (wpAny_bind fin)|exact wpAny_bind (wpAny_pure (wpAny_bind fin))|exact wpAny_bind fin
noncomputable def mGt(m mk:PSt->Option Rs):PSt->Option Rs:=fun τ=>match m τ with
 |some (.v (.obj (.sdc ks) l) _)=>(match mk τ with
  |some (.v (.str y) _)=>(match idxS ks y with
   |some j=>(match l[j]? with
    |some u=>if u.sh then some (.v u false) else none
    |none=>none)
   |none=>none)
  |_=>none)
 |_=>none
theorem valV_kvS:∀{ks:List Str} {xs:List V} {y:Str} {j:Nat} {v:V},idxS ks y=some j->xs[j]?=some v->valV (kvS ks xs) (Sum.inr y)=some v
 |[],xs,y,j,v,h,_=>by simp[idxS]at h
 |k::ks,[],y,j,v,_,h=>by simp at h
 |k::ks,x::xs,y,j,v,h,hx=>by
  show valV ((Sum.inr k,x)::kvS ks xs) (Sum.inr y)=some v;unfold idxS at h;rw[yd7]at h
  by_cases e:k=y
  ·rw[@decide_eq_true _ (Classical.propDecidable _) e]at h;simp only[if_true,yci]at h;subst h;rw[zj2 (p:=(Sum.inr k,x)) (by rw[e])]
   simpa using hx
  ·rw[@decide_eq_false _ (Classical.propDecidable _) e]at h;simp only[yc3,if_false,ya3]at h;obtain⟨j',h1,rfl⟩:=h;rw[zj3 (p:=(Sum.inr k,x)) (fun z=>e (Sum.inr.inj z))]
   exact valV_kvS (show idxS ks y=some j' from h1) (by simpa using hx)
theorem r_gt(hu:X.A.units+1<cLine)(ho:PE X o (tM X.K E ca m))(hk:PE X k (tM X.K E ca mk))(hs:PlainIx k):PE X (.Subscript o k pos) (tM X.K E ca (mGt m mk)):=by
 refine PE.weak (pe_ix (ix_dic hu) ho hk hs) fun σ H Q h=>?_
 obtain⟨F,τ,R,S,q⟩:=h;refine⟨F,τ,R,S,?_⟩;unfold mGt at q;cases hm:m τ with
 |none=>rw[hm]at q;exact q.elim
 |some r =>
  rw[hm]at q;cases r with
  |x c=>exact q.elim
  |v t b =>
   cases t with
   |obj kd l =>
    cases kd with
    |sdc ks =>
     simp only at q;intro F1 H1 x B e1 g1;obtain⟨r1,hB⟩:=got_obj g1;subst hB;obtain⟨a,xs,rfl,_,⟨hl1,hF⟩,el,cc⟩:=r1.obj_inv;refine⟨F1,τ,R,S.ext e1,?_⟩;cases hk2:mk τ with
     |none=>rw[hk2]at q;exact q.elim
     |some r2 =>
      rw[hk2]at q;cases r2 with
      |x c=>exact q.elim
      |v t2 b2 =>
       cases t2 with
       |str y =>
        simp only at q;intro F2 H2 z B2 e2 g2;have hz:=zi8 g2;subst hz;have e2':Ext F1 H1 F2 H2 R0:=e2.mono fun _ z=>z.elim
        cases hj:idxS ks y with
        |none=>simp only[hj]at q
        |some j =>
         simp only[hj]at q;cases hu2:l[j]? with
         |none=>simp only[hu2]at q
         |some u =>
          simp only[hu2]at q
          by_cases hsh:u.sh=true
          ·rw[if_pos hsh]at q;have hjl:=(ya6.mp hu2).1;have hx:xs[j]?=some xs[j]:=ya0 (by omega)
           have hc:=(cc j u _ hu2 hx).move (F':=F2) (H':=H2) hsh e2'.ff;exact⟨a,_,y,_,rfl,rfl,e2'.hh _ _ (e1.fh _ _ hF),valV_kvS hj hx,q F2 H2 _ R0 (e1.trans0 e2') hc⟩
          ·rw[if_neg hsh]at q;exact q.elim
       |_=>exact q.elim
    |_=>exact q.elim
   |_=>exact q.elim
def tKys(to:TE):TE:=fun σ H Q=>to σ H fun x H1=>∃a ks xs,x=.ref a/\ks.length=xs.length/\H1 a=some (.dK (kvS ks xs))/\∀p,H1 p=none->Q (.ref p) (upd H1 p (.lst (ks.map V.str)))
theorem kvS_ln:∀{ks:List Str} {xs:List V},ks.length=xs.length->(kvS ks xs).length=ks.length
 |[],[],_=>rfl
 |[],_::_,h=>by simp at h
 |_::_,[],h=>by simp at h
 |k::ks,x::xs,h=>by
  show(kvS ks xs).length+1=ks.length+1;rw[kvS_ln (by simpa using h)]
theorem kvS_keys:∀{ks:List Str} {xs:List V} {vs:List (Key×Value)},ks.length=xs.length->KV (kvS ks xs) vs->vs.map (·.1)=ks.map Sum.inr
 |[],[],vs,_,r=>by
  have r':Paired _ [] vs:=(show Paired _ (kvS [] []) vs from r);cases r'
  rfl
 |[],_::_,_,h,_=>by simp at h
 |_::_,[],_,h,_=>by simp at h
 |k::ks,x::xs,vs,h,r=>by
  have r':Paired (fun(p:Key×V) (q:Key×Value)=>p.1=q.1/\RelV p.2 q.2) ((Sum.inr k,x)::kvS ks xs) vs:=r
  cases r' with
  |@cons _ q _ qs hd tl =>
   rw[yaf,yaf,<- hd.1,kvS_keys (by simpa using h) tl]
theorem pe_kys(hc:X.calm=true)(hg:Gl X "list")(hm:X.mg "list"=none){to:TE}(ho:PE X o to)(hs:starEach [o] X.env=[(false,eval o X.env)]) :
  PE X (.Call (.Name "list" p) [o] [] p2) (tKys to):=by
 intro pins s σ H Q I h;refine wpAny_Call_Name_kw (zlv I hg hm ycl ?_ (by decide) (by decide))
 refine ybn ?_ (by rw[hs];rfl) rfl
 rw[hs];show wpAny _ _ (spliced ((false,eval o X.env)::backTo p2 (starEach [] X.env))) _ _ s;refine Calls.spliced_cons (thn (ho pins s σ H _ I h) fun v s1 ⟨x,H1,I1,r1,q1⟩=>?_)
 obtain⟨a,ks,xs,rfl,el,hd,q⟩:=q1;cases r1;obtain⟨z,hsm,vs,rel,o',es,ep,ho',r⟩:=(show zbx X.prog X.w H1 s1.heap a (.dK (kvS ks xs)) from I1.hok a _ hd);have hat:s1.heap.DictAt (zbg X.prog X.w) a vs ep:=⟨o',es,ho',r⟩;refine Calls.spliced_nil ?_;refine PySem.W.kdl_call (PySem.W.kdl_dict (knd:=zbg X.prog X.w) (d:=a) (kvs:=vs) (ep:=ep) hsm) (I1.ok.hd hc) hat (by rw[<- kv_len rel];exact z) fun h' tk acc' c' hk hD hacc=>?_
 have hkeys:=kvS_keys el rel;refine⟨.ref _,_,I1.laid (a:=s1.heap.objs.size) (o:=.lst (ks.map V.str)) (h':=h') (t':=tk) hk (yaa _) ?_,rfl,q _ (I1.hok.fresh (yaa _))⟩;refine⟨by rw[ya1,<- kvS_ln el];exact z,acc'.toList,c',?_,by rw[hD]⟩
 have hlen:acc'.toList.length=ks.length:=by
  rw[yd0,hacc.1,<- ya1 (f:=fun p:Key×Value=>p.1),hkeys,ya1]
 have key:∀(n:Nat) (k:Str) (v:Value),ks[n]?=some k->acc'.toList[n]?=some v->∃t,v=Value.str k t:=fun n k v h1 h2=>by
  obtain⟨k',x',e1,e2⟩:=hacc.2 n v (by rw[<- ycq];exact h2)
  have e3:(vs.map (·.1))[n]?=some k':=by rw[ya5,e1];rfl
  rw[hkeys,ya5,h1]at e3;have e4:k'=Sum.inr k:=(yal e3).symm;subst e4
  rcases zb5 (show keyIs (Sum.inr k) v=true from e2) with ⟨i,t,e5,_⟩|⟨x,t,e5,e6⟩
  ·cases e5
  ·cases e5;exact⟨t,e6⟩
 clear hD hk hacc
 generalize acc'.toList=as at hlen key
 clear hd q hkeys
 have go:∀(ks:List Str) (as:List Value),as.length=ks.length->(∀(n:Nat) (k:Str) (v:Value),ks[n]?=some k->as[n]?=some v->∃t,v=Value.str k t)->zbl (ks.map V.str) as:=by
  intro ks
  induction ks with
  |nil =>
   intro as hl _;cases as with
   |nil=>exact .nil
   |cons _ _=>simp at hl
  |cons k ks ih =>
   intro as hl key;cases as with
   |nil=>simp at hl
   |cons v as=>exact .cons (key 0 k v rfl rfl) (ih as (by simpa using hl) fun n k v h1 h2=>key (n+1) k v (by simpa using h1) (by simpa using h2))
 exact go ks as hlen key
def mKys(m:PSt->Option Rs):PSt->Option Rs:=fun τ=>match m τ with
 |some (.v (.obj (.sdc ks) _) _)=>some (.v (.own (ks.map T.str)) false)
 |_=>none
theorem rps_strs{K:PySem.W.Frag}{F:Hp}(ks:List Str):Rps K F (ks.map T.str) (ks.map V.str):=⟨by simp,fun i t x h1 h2=>by
 rw[ya5]at h1 h2;cases h:ks[i]? with
 |none=>rw[h]at h1;cases h1
 |some k =>
  rw[h]at h1 h2;cases h1;cases h2;exact .str k⟩
theorem r_kys(hc:X.calm=true)(hg:Gl X "list")(hm:X.mg "list"=none)(ho:PE X o (tM X.K E ca m))(hs:starEach [o] X.env=[(false,eval o X.env)]):PE X (.Call (.Name "list" p) [o] [] p2) (tM X.K E ca (mKys m)):=by
 refine PE.weak (pe_kys hc hg hm ho hs) fun σ H Q h=>?_
 obtain⟨F,τ,R,S,q⟩:=h;refine⟨F,τ,R,S,?_⟩;unfold mKys at q;cases hm2:m τ with
 |none=>rw[hm2]at q;exact q.elim
 |some r =>
  rw[hm2]at q;cases r with
  |x c=>exact q.elim
  |v t b =>
   cases t with
   |obj kd l =>
    cases kd with
    |sdc ks =>
     intro F1 H1 x B e1 g1;obtain⟨r1,hB⟩:=got_obj g1;subst hB;obtain⟨a,xs,rfl,_,⟨hl1,hF⟩,el,cc⟩:=r1.obj_inv;refine⟨a,ks,xs,rfl,hl1,e1.fh _ _ hF,fun p hp=>?_⟩
     have gg:zll X.K F1 H1 (.own (ks.map T.str)) Q:=fun F' H' z C e g=>q F' H' z C (e1.trans0 e) g
     exact gg.list e1.fh (rps_strs ks) hp
    |_=>exact q.elim
   |_=>exact q.elim
structure ICls(K:PySem.W.Frag)(C:Addr):Prop where
 c:Cls K C
 a:PySem.W.findIn K (.ref C) "__class__"=some (some (.builtin "object.__class__"))
 n:PySem.W.specialIn K (.builtin "object.__class__") "__get__"=some (some (.builtin "getset_descriptor.__get__"))
 k:PySem.W.takesIn K (.builtin "object.__class__")=some true
 m:PySem.W.mroIn K C (.type "object")=some true
def isCT(C:Addr):T->Option T
 |.obj (.ins C' _) _=>if C'=C then some (.bl true) else none
 |_=>none
theorem kit_own(K:PySem.W.Frag)(C:Addr):PySem.W.kitOne K (.ref C) (.ref C)=some true:=by
 unfold PySem.W.kitOne;rw[if_pos (by simp)]
theorem call_isC{C:Addr}(hC:ICls X.K C):zca X (.builtin "isinstance") (fun xs H Q=>∃a dx fs,xs=[.ref a,.ref C]/\H a=some (.ins C dx fs)/\Q (.bl true) H):=by
 intro pins s σ H xs us Q I r h;obtain⟨a,dx,fs,rfl,e,q⟩:=h;obtain⟨u,w',rfl,rx,ry⟩:=vals2 r;cases ry;exact isinst_ok I rx (.ins e hC.c hC.a hC.n hC.k hC.m) (kit_own X.K C) fun tk=>⟨.bl true,H,I.tok _,rfl,q⟩
theorem r_isC{C:Addr}{c:Str}(hC:ICls X.K C)(hg:Gl X "isinstance")(hm:X.mg "isinstance"=none)(hgc:Gl X c)(hmc:X.mg c=some (.ref C))(hd:(c == ("__debug__":Str))=false)(ha:PE X e (tM X.K E ca m))(he:starEach [e,.Name c p2] X.env=(false,eval e X.env)::starEach [.Name c p2] X.env) :
  PE X (.Call (.Name "isinstance" p) [e,.Name c p2] [] pos) (tM X.K E ca (mAp (g1 (isCT C)) (za0 m za6))):=by
 refine PE.weak (zgc (call_isC hC) hg hm ybl (zbw ha (zbw (zjr (v:=.ref C) hgc hmc rfl hd) zfb) he) (by decide) (by decide) he rfl) fun σ H Q h=>?_
 refine(zd0 (tM_ap h)).mono fun x H1 h1=>?_
 obtain⟨F,ts,w,fh,rs,e,q⟩:=ze8 h1;unfold g1 at e;split at e
 ·obtain⟨x1,xs1,e1,r1,rs1⟩:=rs.inv;cases e1;unfold isCT at e;split at e
  ·split at e
   ·rename_i hCC;subst hCC;cases e;obtain⟨a,xs,rfl,_,⟨dx,hF⟩,_,_⟩:=r1.obj_inv;exact⟨a,dx,_,rfl,fh _ _ hF,q.bl fh⟩
   ·cases e
  ·cases e
 ·cases e
end
end Pu
set_option Elab.async false
set_option linter.all false
set_option maxRecDepth 100000
namespace Zx
open PySem PySem.Spec PyProof.Rows L2 Zw
section
variable {A:Around}{E:Value->Shared->Prop}{M:Model}
end
section
variable {X:Cx}{i1 i2:Nat}{x1 x2 n1 n2:Str}{np1 np2 pos hpos1 hpos2:Pos}{body suite1 suite2:List Stmt}{b1 b2:Stmt}{tb th1 th2:TS}{E:L2.St->XK}
end
end Zx
namespace Pu
open PySem PySem.Spec PyProof.Rows L2 Zw Zx
section
variable {X:Cx}{E:L2.St->XK}{ca:Str->Value}{mu:Bool}{i1 i2:Nat}{x1 x2 n1 n2:Str}{np1 np2 pos hpos1 hpos2:Pos}{body suite1 suite2:List Stmt}{b1 b2:Stmt}{u h1 h2:PSt->Option Out}{cs1 cs2:List (Str×Addr)}
end
def isX2T(t1 t2:List (Addr×Bool)):T->Option T
 |.obj (.exn C) _=>(match t1.lookup C,t2.lookup C with
  |some b1,some b2=>some (.bl (b1 || b2))
  |_,_=>none)
 |_=>none
section
variable {X:Cx}{E:L2.St->XK}{ca:Str->Value}{m:PSt->Option Rs}{e:Expr}{pos p p2 p3 p4:Pos}{c1 c2:Str}{t1 t2:List (Addr×Bool)}{kt:Nat}
theorem call_isX2:zca X (.builtin "isinstance") (fun xs H Q=>∃a C tp D1 D2 b1 b2,xs=[.ref a,.ref tp]/\H a=some (ExcO a C)/\ExcK X.K C/\H tp=some (.tup [.ref D1,.ref D2])/\PySem.W.kitOne X.K (.ref C) (.ref D1)=some b1/\PySem.W.kitOne X.K (.ref C) (.ref D2)=some b2/\Q (.bl (b1 || b2)) H):=by
 intro pins s σ H xs us Q I r h;obtain⟨a,C,tp,D1,D2,b1,b2,rfl,ho,k,ht,e1,e2,q⟩:=h;obtain⟨u,w',rfl,rx,ry⟩:=vals2 r;cases rx;cases ry;have p0:∃o,s.heap.get? a=some o/\o.cls=.ref C:=(I.hok a _ ho).1;obtain⟨_,its,rv,o,h1,h2,n,h4⟩:=(show zbx X.prog X.w H s.heap tp (.tup [.ref D1,.ref D2]) from I.hok tp _ ht);obtain⟨u1,u2,rfl,r1,r2⟩:=vals2 rv;cases r1;cases r2
 have ek:PySem.W.kitAny X.K (.ref C) [.ref D1,.ref D2]=some (b1 || b2):=by
  unfold PySem.W.kitAny;simp only[e1];cases b1 with
  |true=>rfl
  |false =>
   unfold PySem.W.kitAny;simp only[e2];cases b2<;>rfl
 obtain⟨ocls,od,odata,osl⟩:=o;simp only at h2 h4;subst h2;subst h4;exact PySem.W.kia_tup (kitx_exc k) I.kIn p0 h1 ek (fun z=>nomatch z) fun tk=>⟨.bl _,H,I.tok _,rfl,q⟩
theorem r_isX2{D1 D2:Addr}(hg:Gl X "isinstance")(hm:X.mg "isinstance"=none)(hv1:PE X (.Name c1 p2) (tC (.ref D1)))(hv2:PE X (.Name c2 p3) (tC (.ref D2)))(h1:∀C b,t1.lookup C=some b->ExcK X.K C/\PySem.W.kitOne X.K (.ref C) (.ref D1)=some b)(h2:∀C b,t2.lookup C=some b->ExcK X.K C/\PySem.W.kitOne X.K (.ref C) (.ref D2)=some b)(ha:PE X e (tM X.K E ca m))(he:starEach [e,.Tuple [.Name c1 p2,.Name c2 p3] kt p4] X.env=(false,eval e X.env)::starEach [.Tuple [.Name c1 p2,.Name c2 p3] kt p4] X.env) :
  PE X (.Call (.Name "isinstance" p) [e,.Tuple [.Name c1 p2,.Name c2 p3] kt p4] [] pos) (tM X.K E ca (mAp (g1 (isX2T t1 t2)) (za0 m za6))):=by
 refine PE.weak (zgc (call_isX2 (X:=X)) hg hm ybl (zbw ha (zbw (pe_tup (zbw hv1 (zbw hv2 zfb))) zfb) he) (by decide) (by decide) he rfl) fun σ H Q h=>?_
 refine(zd0 (tM_ap h)).mono fun x H1 h1'=>?_
 obtain⟨F,ts,w,fh,rs,e,q⟩:=ze8 h1';refine⟨by show 2<=sizeLine;decide,fun tp htp=>?_⟩
 unfold g1 at e;split at e
 ·obtain⟨x1,xs1,e1,r1,rs1⟩:=rs.inv;cases e1;unfold isX2T at e;split at e
  ·rename_i C l;split at e
   ·rename_i b1 b2 hb1 hb2;cases e;obtain⟨k1,k2⟩:=h1 C b1 hb1;obtain⟨k3,k4⟩:=h2 C b2 hb2;obtain⟨a,xs,rfl,_,hF,_,_⟩:=r1.obj_inv;have hF':F a=some (ExcO a C):=hF;have hH:H1 a=some (ExcO a C):=fh _ _ hF';have hne:a≠tp:=fun z=>by rw[z,htp]at hH;cases hH
    exact⟨a,C,tp,D1,D2,b1,b2,rfl,(zam hne).trans hH,k1,zay,k2,k4,q _ _ _ R0 ((Ext.new fh htp).mono fun _ z=>z.elim) (.bl _)⟩
   ·cases e
  ·cases e
 ·cases e
end
end Pu
set_option Elab.async false
set_option linter.all false
set_option maxRecDepth 100000
namespace Zx
open PySem PySem.Spec PyProof.Rows L2 Zw
def tTry0(K:PySem.W.Frag)(W:Addr)(E:L2.St->XK)(tb th:TS):TS:=fun D σ H=>tb D σ H/\∀σ1 cls H1,E σ1 cls none H1->∃C,cls=.ref C/\PySem.W.subIn K (.ref C) (.ref W)=some true/\th D σ1 H1
section
variable {X:Cx}{x:Str}{np pos hpos:Pos}{body suite:List Stmt}{b₀:Stmt}{tb th:TS}{E:L2.St->XK}
theorem ps_try0(T:ECls X.K X.mg x)(hst:X.stack=X.env::X.outer)(hf:X.env.frame=some X.env.locals)(hb:∀pins xe,zbo (cxTry X pins xe) E->PSs (cxTry X pins xe) body tb)(hh:∀a,PSs (zia X a) (b₀::suite) th)(hg:Gl X x)(hdb:(x == ("__debug__":Str))=false) :
  PS X (.Try body [.ExceptHandler (some (.Name x np)) none (b₀::suite) hpos] [] [] pos) (tTry0 X.K T.C E tb th):=by
 intro pins s σ H D I h;obtain⟨h1,h2⟩:=h
 refine wpAny_Try_except (wpAny_mono (hb pins (fun e s₁=>wpAny (model X.prog X.w) X.A (noteFrame e X.env) (fun _ s₂=>wpAny (model X.prog X.w) X.A (setFlight e none) (fun _ s₃=>wpAny (model X.prog X.w) X.A (handleBy e X.env [.ExceptHandler (some (.Name x np)) none (b₀::suite) hpos]) (SP X pins D) X.xe s₃) X.xe s₂) X.xe s₁)
  ?pass [] s σ H D (in_try I) h1) (fun f s1 q=>?_) (fun e s1 q=>q))
 case pass =>
  intro pins1 σ1 H1 s1 e s' I1t hcx;have I1:Inv X pins σ1 H1 s1:=of_try (ok:=I.ok) I1t;obtain⟨a,cls,H',B,a0,rfl,os,bare,un,hok,kB,tB,fl0,he⟩:=hcx;obtain⟨C,rfl,hsub,kk⟩:=h2 σ1 cls H' he;have fl1:FlyX B (X.env::X.outer) a (.ref C) a0 s'.heap:=hst▸fl0
  have sl:∀h',s'.heap.UpToSlots h'->∀b o,s1.heap.get? b=some o->H1 b=none->b∈frs X.stack->∃z,h'.get? b=some { o with slots:=z }:=fun h' sm b o e n hb=>by
   obtain⟨_,o2,ho2,hd⟩:=I1.stack.mem hb;rw[e]at ho2;cases ho2;obtain⟨z2,e2⟩:=un.slot b o e n hb (by simp)
   obtain⟨z3,e3⟩:=sm b { o with slots:=z2 } e2 hd
   exact⟨z3,e3⟩
  have inv5:∀h',B.StaysIn h'->s'.heap.UpToSlots h'->Inv X pins σ1 H' { s' with heap:=h' }:=fun h' st sm =>
   I1.call' (s':={ s' with heap:=h' }) (ch:=[]) os ⟨fun b o e n hb _=>st b o (kB b o e n hb),fun b o e n hb _=>sl h' sm b o e n hb,un.free,fun b o e _=>by
    by_cases hb:b∈frs X.stack
    ·obtain⟨z,q⟩:=sl h' sm b o e (I1.stkFree b hb) hb;exact⟨_,q⟩
    ·obtain⟨o',q⟩:=tB b o e hb;exact⟨o',st b o' q⟩,un.tups,un.frzs,un.tbls⟩ (hok.kept st) bare (fun _ z=>nomatch z)
  refine noteX (hst▸I.ok.frames) rfl hf fl1 fun h4 held4 sm4=>?_
  refine wpAny_landsW held4 fun h5 fl5 sm5=>?_
  have I5:=inv5 h5 fl5.1 (sm4.trans sm5);obtain⟨oe,he5,hc5⟩:=fl5.there;obtain⟨bm,N,nm,qn,bs,hd,sn,sub,ab,col,dd,k0,k1,k2,k3,k5,mN,hC,hNs,hni,TL⟩:=exc_in I5.kIn T.k.q;refine wpAny_handleBy_cons (codeAny_handlers_test (zi7 (X:=zia X a) (in_suite I5) hg T.m ?_ hdb)) (by intro q;cases q)
  refine exm hC he5 hc5 (TL.hasType yc6.hasBase) (PySem.W.looks_subIn I5.kIn hsub) ?_;refine codeAny_handlers_suite (lands_againW fl5 fun h6 fl6 sm6=>?_)
  refine wpAny_mono (hh a pins _ σ1 H' D (in_suite (inv5 h6 fl6.1 ((sm4.trans sm5).trans sm6))) kk) (fun f s8 q8=>?_) (fun _ _ z=>False.elim z)
  cases f with
  |next =>
   obtain⟨σ8,H8,I8,d8⟩:=q8;exact⟨σ8,H8,zj8 I.ok I8,d8⟩
  |brk =>
   obtain⟨σ8,H8,I8,d8⟩:=q8;exact⟨σ8,H8,zj8 I.ok I8,d8⟩
  |cont =>
   obtain⟨σ8,H8,I8,d8⟩:=q8;exact⟨σ8,H8,zj8 I.ok I8,d8⟩
  |ret u =>
   obtain⟨v,σ8,H8,I8,r8,d8⟩:=q8;exact⟨v,σ8,H8,zj8 I.ok I8,r8,d8⟩
 have back:∀{xe0:Value->Shared->Prop} {σ':L2.St} {H':Hp},Inv (cxTry X pins xe0) [] σ' H' s1->Inv X pins σ' H' s1:=fun J=>of_try (ok:=I.ok) J
 cases f with
 |next =>
  obtain⟨σ',H',J,d⟩:=q;exact wpAny_execs_nil ⟨σ',H',back J,d⟩
 |brk =>
  obtain⟨σ',H',J,d⟩:=q;exact⟨σ',H',back J,d⟩
 |cont =>
  obtain⟨σ',H',J,d⟩:=q;exact⟨σ',H',back J,d⟩
 |ret u =>
  obtain⟨v,σ',H',J,r,d⟩:=q;exact⟨v,σ',H',back J,r,d⟩
end
end Zx
namespace Pu
open PySem PySem.Spec PyProof.Rows L2 Zw Zx
def sTry0(cs:List (Str×Addr))(u h:PSt->Option Out):PSt->Option Out:=fun τ=>match u τ with
 |some (.xc c τ')=>(match cs.lookup c with
  |some _=>(match h τ' with
   |some (.nx τ2)=>some (.nx τ2)
   |some (.rt t)=>some (.rt t)
   |_=>none)
  |none=>none)
 |r=>r
section
variable {X:Cx}{E:L2.St->XK}{ca:Str->Value}{mu:Bool}{x:Str}{np pos hpos:Pos}{body suite:List Stmt}{b₀:Stmt}{u h:PSt->Option Out}{cs:List (Str×Addr)}
theorem s_try0(T:ECls X.K X.mg x)(hcs:∀c C,cs.lookup c=some C->ca c=.ref C/\PySem.W.subIn X.K (.ref C) (.ref T.C)=some true)(hst:X.stack=X.env::X.outer)(hf:X.env.frame=some X.env.locals)
  (hb:∀(E':L2.St->XK) pins xe,zbo (cxTry X pins xe) E'->PSs (cxTry X pins xe) body (tS X.K E' ca mu u)) (hh:∀a,PSs (zia X a) (b₀::suite) (tS X.K E00 ca mu h)) (hg:Gl X x) (hdb:(x == ("__debug__":Str))=false) :
  PS X (.Try body [.ExceptHandler (some (.Name x np)) none (b₀::suite) hpos] [] [] pos) (tS X.K E ca mu (sTry0 cs u h)):=by
 intro pins s σ H D I hq;obtain⟨F,τ,R,S,q⟩:=hq;let E':L2.St->XK:=fun σ1 cls _ H1=>∃c τ' F' R',u τ=some (.xc c τ')/\cls=ca c/\Stp F H (tot R) F' H1 (tot R')/\StR X.K F' H1 σ1 τ' R'
 refine ps_try0 (E:=E') (tb:=tS X.K E' ca mu u) (th:=tS X.K E00 ca mu h) T hst hf (fun pins xe hp=>hb E' pins xe hp) hh hg hdb pins s σ H D I ⟨⟨F,τ,R,S,?_⟩,?_⟩
 ·unfold sTry0 at q;cases hu:u τ with
  |none=>rw[hu]at q;exact q
  |some o =>
   cases o with
   |xc c τ'=>exact fun F' H' σ' R' st S'=>⟨c,τ',F',R',hu,rfl,st,S'⟩
   |_=>rw[hu]at q;exact q
 ·intro σ1 cls H1 ⟨c,τ',F',R',hu,hcl,st,S'⟩;unfold sTry0 at q;simp only[hu]at q;cases hl:cs.lookup c with
  |none=>simp only[hl]at q
  |some C =>
   simp only[hl]at q;obtain⟨h1,h2⟩:=hcs c C hl;refine⟨C,hcl.trans h1,h2,F',τ',R',S',?_⟩;cases hh:h τ' with
   |none=>simp only[hh]at q
   |some o =>
    simp only[hh]at q;cases o with
    |nx τ2=>exact fun F4 H4 σ4 R4 st4 S4=>q F4 H4 σ4 R4 (st.trans st4) S4
    |rt t=>exact fun F4 H4 x B st4 r4=>q F4 H4 x B (st.trans st4) r4
    |bk _=>exact q.elim
    |ct _=>exact q.elim
    |xc _ _=>exact q.elim
end
def mDicN(ks:List Str)(ms:PSt->Option RsL):PSt->Option Rs:=fun τ=>match ms τ with
 |some (.v ts false)=>if ks.length=ts.length then some (.v (.osd ks ts) false) else none
 |some (.v _ true)=>none
 |some (.x c)=>some (.x c)
 |none=>none
def zg6:List (PSt->Option Rs)->PSt->Option RsL
 |[]=>za6
 |m::r=>za0 m (zg6 r)
def zje:List (Option Expr)->Option (List Str)
 |[]=>some []
 |some (.Constant (.str x) _ _)::r=>(zje r).bind fun l=>if l.contains x then none else some (x::l)
 |_=>none
section
variable {X:Cx}{E:L2.St->XK}{ca:Str->Value}{pos:Pos}
theorem pairs_of{K:PySem.W.Frag}{σ:L2.St}:∀(ks:List Str) (ml:List (PSt->Option Rs)) {H:Hp} {Q:List V->Hp->Prop} {Q':List (V×V)->Hp->Prop},ks.length=ml.length->tMs K E ca (zg6 ml) σ H Q->(∀xs H',Q xs H'->Q' (List.zipWith (fun k y=>(V.str k,y)) ks xs) H')->tPairs (List.zipWith (fun k m=>(tC (.str k),tM K E ca m)) ks ml) σ H Q'
 |[],[],H,Q,Q',_,h,w=>w [] H (ze8 h)
 |k::ks,m::ml,H,Q,Q',e,h,w=>(zd0 h).mono fun x H1 h1=>pairs_of ks ml (Q':=fun ps H3=>Q' ((V.str k,x)::ps) H3) (by simpa using e) h1 fun xs H' q=>w (x::xs) H' q
 |[],_::_,_,_,_,e,_,_=>by cases e
 |_::_,[],_,_,_,e,_,_=>by cases e
def PEs(X:Cx)(E:L2.St->XK)(ca:Str->Value):List Expr->List (PSt->Option Rs)->Prop
 |[],[]=>True
 |v::vs,m::ml=>PE X v (tM X.K E ca m)/\PEs X E ca vs ml
 |_,_=>False
theorem pps_of:∀{keys:List (Option Expr)} {ks:List Str} {vs:List Expr} {ml:List (PSt->Option Rs)},zje keys=some ks->PEs X E ca vs ml->ks.length=ml.length->PPs X pos keys vs (List.zipWith (fun k m=>(tC (.str k),tM X.K E ca m)) ks ml)/\keys.all (·.isSome)=true/\keys.length=vs.length/\keys.length=ks.length/\ks.Nodup
 |[],ks,vs,ml,h,hp,e=>by
  cases h;cases ml with
  |cons _ _=>cases e
  |nil =>
   cases vs with
   |cons _ _=>exact hp.elim
   |nil=>exact⟨pps_nil,rfl,rfl,rfl,List.nodup_nil⟩
 |k::keys,ks,vs,ml,h,hp,e=>by
  unfold zje at h;split at h
  ·cases h;rename_i z;cases z
  ·rename_i x kd p r hz;cases hz;obtain⟨l,hl,h2⟩:=Option.bind_eq_some_iff.mp h;split at h2
   ·cases h2
   ·rename_i hc;cases h2;cases ml with
    |nil=>cases e
    |cons m ml =>
     cases vs with
     |nil=>exact hp.elim
     |cons v vs =>
      obtain⟨g1,g2,g3,g4,g5⟩:=pps_of hl hp.2 (by simpa using e)
      refine⟨pps_cons pe_str hp.1 g1,by simpa using g2,by simp[g3],by simp[g4],yc1.mpr ⟨fun z=>hc (yaw.mpr z),g5⟩⟩
  ·cases h
theorem merge_new:∀(ks:List Str) (xs:List V) (acc:List (Key×V)),ks.length=xs.length->ks.Nodup->(∀k∈ks,(acc.any fun kv=>decide (kv.1=Sum.inr k))=false)->zij acc (kvS ks xs)=acc++kvS ks xs
 |[],[],acc,_,_,_=>(yc0 _).symm
 |k::ks,x::xs,acc,e,hd,h=>by
  obtain⟨d1,d2⟩:=yc1.mp hd
  have hp:zky acc (Sum.inr k) x=acc++[(Sum.inr k,x)]:=by
   unfold zky;rw[if_neg (by rw[h k (ya9 ..)];exact yav)]
  have ih:=merge_new ks xs (acc++[(Sum.inr k,x)]) (by simpa using e) d2 fun j hj=>by
   rw[List.any_append,h j (ya8 _ hj)];have:¬ (k=j):=fun z=>d1 (z▸hj)
   simp[this]
  show zij (zky acc (Sum.inr k) x) (kvS ks xs)=_;rw[hp,ih];simp[kvS]
 |[],_::_,_,e,_,_=>by cases e
 |_::_,[],_,e,_,_=>by cases e
theorem r_dicN{keys:List (Option Expr)}{ks:List Str}{vs:List Expr}{ml:List (PSt->Option Rs)}(hk:zje keys=some ks)(hp:PEs X E ca vs ml)(hl:ks.length=ml.length)(h0:ks≠[])(h15:ks.length<=15):PE X (.Dict keys vs pos) (tM X.K E ca (mDicN ks (zg6 ml))):=by
 obtain⟨g1,g2,g3,g4,g5⟩:=pps_of (pos:=pos) hk hp hl;refine PE.weak (pe_disp g1 g2 g3 (fun z=>h0 (List.length_eq_zero_iff.mp (by rw[<- g4,z];rfl))) (by rw[g4];exact h15)) fun σ H Q h p hn=>?_
 obtain⟨F,τ,R,S,q⟩:=h;have e0:=Ext.newO (o:=.dK []) S.fh hn;have S0:=S.ext e0;unfold mDicN at q
 have tms:tMs X.K E ca (zg6 ml) σ (upd H p (.dK [])) fun xs H'=>H' p=some (.dK [])/\ks.length=xs.length/\Q (.ref p) (upd H' p (.dK (zij [] (kvS ks xs)))):=by
  refine⟨F,τ,R,S0,?_⟩;cases hm:zg6 ml τ with
  |none=>simp only[hm]at q
  |some r =>
   simp only[hm]at q;cases r with
   |x c=>exact fun F' H' e=>q F' H' ((e0.trans e).mono fun _ z=>z.elim)
   |v ts b =>
    cases b with
    |true=>exact q.elim
    |false =>
     by_cases hq:ks.length=ts.length
     ·simp only[hq,if_true]at q;intro F' H' xs e rs;have ek:ks.length=xs.length:=hq.trans rs.1
      have fp:F' p=none:=by
       cases z:F' p with
       |none=>rfl
       |some u =>
        rcases e.nf p u z with w|w
        ·rw[zbm S.fh hn]at w;cases w
        ·rw[zay]at w;cases w
      refine⟨e.hh _ _ zay,ek,?_⟩;rw[merge_new ks xs [] ek g5 fun k _=>rfl,ycw]
      refine q F' _ (.ref p) (fun a=>a=p) ⟨fun b u z=>?_,e.ff,fun b u z=>?_,fun b z=>by rw[z];exact hn,fun b u z=>?_⟩ (Rp.osd fp zay rs.1 ek fun i t x h1 h2=>(rs.2 i t x h1 h2).any)
      ·rw[zam (zaq z hn)];exact e.hh b u ((zam (zaq z hn)).trans z)
      ·rw[zam (fun w=>by rw[w,fp]at z;cases z)]
       exact e.fh b u z
      ·rcases e.nf b u z with w|w
       ·exact .inl w
       ·by_cases hb:b=p
        ·rw[hb];exact .inr hn
        ·rw[zam hb]at w;exact .inr w
     ·simp only[hq,if_false]at q
 refine pairs_of ks ml hl tms fun xs H' ⟨h1,h2,h3⟩=>⟨h1,kvS ks xs,?_,by unfold kvS;rw[List.length_zipWith];omega,h3⟩
 unfold kvS;rw[List.map_zipWith]
 rfl
end
def mapO(f:Expr->Option (PSt->Option Rs)):List Expr->Option (List (PSt->Option Rs))
 |[]=>some []
 |e::es=>(match f e,mapO f es with
  |some m,some l=>some (m::l)
  |_,_=>none)
theorem mapO_ok{X:Cx}{E:L2.St->XK}{ca:Str->Value}{f:Expr->Option (PSt->Option Rs)}(hf:∀e m,f e=some m->PE X e (tM X.K E ca m)):∀{vs:List Expr} {ml:List (PSt->Option Rs)},mapO f vs=some ml->PEs X E ca vs ml
 |[],ml,h=>by cases h;exact trivial
 |v::vs,ml,h=>by
  unfold mapO at h;split at h
  ·rename_i m l h1 h2;cases h;exact⟨hf _ _ h1,mapO_ok hf h2⟩
  ·cases h
def dicN(f:Expr->Option (PSt->Option Rs))(ks:List (Option Expr))(vs:List Expr):Option (PSt->Option Rs):=match zje ks,mapO f vs with
 |some kk,some ml=>if !kk.isEmpty && decide (kk.length<=15) && decide (kk.length=ml.length) then some (mDicN kk (zg6 ml)) else none
 |_,_=>none
def dicF(f:Expr->Option (PSt->Option Rs))(ks:List (Option Expr))(vs:List Expr):Option (PSt->Option Rs) :=
 match dicN f ks vs with
 |some m=>some m
 |none =>
 none
theorem dicF_ok{X:Cx}{E:L2.St->XK}{ca:Str->Value}{f:Expr->Option (PSt->Option Rs)}{pos:Pos}(hf:∀e m,f e=some m->PE X e (tM X.K E ca m)){ks:List (Option Expr)}{vs:List Expr}{m:PSt->Option Rs}(h:dicF f ks vs=some m):PE X (.Dict ks vs pos) (tM X.K E ca m):=by
 unfold dicF at h;split at h
 ·rename_i m' hm;cases h;unfold dicN at hm;split at hm
  ·rename_i kk ml h1 h2;split at hm
   ·rename_i hc;cases hm;simp only[ya2,yb1,decide_eq_true_eq]at hc;exact r_dicN h1 (mapO_ok hf h2) hc.2 (fun z=>by rw[z]at hc;cases hc.1.1) hc.1.2
   ·cases hm
  ·cases hm
 cases h
end Pu
set_option Elab.async false
set_option linter.all false
set_option maxRecDepth 100000
noncomputable section
namespace Pu
open PySem PySem.Spec PyProof.Rows L2 Zw Zx
structure Fn where
 lv:Nat
 ps:List Str
 g:List T->Option Ru
structure Gx where
 co:List (Str×T)
 cl:List (Str×Addr×List Str)
 mt:List (Str×Addr×List Str×Fn)
 nw:List (Str×Fn×List (Nat×List T))
 nr:Bool
 tx:Bool
 df:Bool
 sf:Option (Addr×List Str)
 xs:List (Str×List (Str×Addr))
 sb:List (Str×List (Addr×Bool))
 sv:List (Str×List (Addr×Bool))
 no:Bool
 fo:List Str
 ci:List (Str×Addr)
 x2:List (Str×Str×List (Str×Addr))
 gt:List Str
set_option genInjectivity false in
structure Gm where
 N:List Str
 nm:List (Str×NameKind)
 ce:List Str
 lv:Nat
 fns:List (Str×Fn)
 bl:List Str
 ex:List Str
 ow:List Str
 pk:List Str
 mu:Bool
 mus:List (Str×Fn)
 mv:List Str
 dc:List Str
 ox:Gx
def zc6(x:Str):Bool:=!(x == ("__debug__":Str)) && !(x == ("__classdict__":Str)) && !(x == ("__name__":Str))
def visN(nm:List (Str×NameKind))(x:Str):Bool:=nm.lookup x == some .local || nm.lookup x == some .cell || nm.lookup x == some .free
def glN(nm:List (Str×NameKind))(x:Str):Bool:=nm.lookup x == some .globalImplicit
def ixOf(N:List Str)(x:Str):Option Nat:=N.findIdx? (· == x)
def Gm.var(Γ:Gm)(x:Str):Option Nat:=if zc6 x && visN Γ.nm x then ixOf Γ.N x else none
def Gm.loc(Γ:Gm)(x:Str):Bool:=zc6 x && (Γ.nm.lookup x == some .local || Γ.ce.contains x)
def zax:Expr->Bool
 |.Starred ..=>false
 |_=>true
def opF:Operator->Option (T->T->Option T)
 |.Add=>some zeq
 |.Sub=>some subT
 |.Mult=>some zlt
 |.Mod=>some zen
 |.FloorDiv=>some zd6
 |.Pow=>some powT
 |.BitOr=>some borT
 |.BitAnd=>some bandT
 |_=>none
def cmpF:CmpOp->Option (T->T->Option T)
 |.Eq=>some eqT
 |.NotEq=>some neT
 |.Lt=>some (cmpT fun i j=>decide (i<j))
 |.LtE=>some (cmpT fun i j=>decide (i<=j))
 |.Gt=>some (cmpT fun i j=>decide (j<i))
 |.GtE=>some (cmpT fun i j=>decide (j<=i))
 |.Is=>some (isT2 false)
 |.IsNot=>some (isT2 true)
 |.In=>some inT
 |.NotIn=>some zfu
def bltG(f:Str):Option (List T->Option T) :=
 if f="len" then some (g1 zik) else if f="list" then some (g1 zf0) else if f="abs" then some (g1 absT) else
 if f="tuple" then some (g1 tupT) else
 if f="min" then some (g2 minT) else
 if f="max" then some gMx else
 if f="all" then some (g1 allT) else
 if f="any" then some (g1 anyT) else none
def tyName(c:Str):Option String:=if c="int" then some "int" else if c="bool" then some "bool" else if c="str" then some "str" else if c="list" then some "list" else if c="tuple" then some "tuple" else none
def okT:Expr->Bool
 |.IfExp ..=>false
 |.NamedExpr ..=>false
 |_=>true
def nmOf:Expr->Option (Str×Pos)
 |.Name x p=>some (x,p)
 |_=>none
theorem zcc{t:Expr}{x:Str}{p:Pos}(h:nmOf t=some (x,p)):t=.Name x p:=by
 unfold nmOf at h;split at h
 ·cases h;rfl
 ·cases h
def tgNs:List Expr->List Str
 |[]=>[]
 |e::es=>(match nmOf e with
  |some (x,_)=>x::tgNs es
  |none=>tgNs es)
def tgN:Expr->List Str
 |.Name x _=>[x]
 |.Tuple es _ _=>tgNs es
 |_=>[]
def isTupE:Expr->Bool
 |.Tuple ..=>true
 |_=>false
def zg2:Expr->Bool
 |.Slice ..=>true
 |_=>false
def zfj(nm:List (Str×NameKind)):List Str:=nm.filterMap fun(y,k)=>if k == .free then some y else none
def cellsN(nm:List (Str×NameKind)):List Str:=nm.filterMap fun(y,k)=>if k == .cell then some y else none
def relabN(inner outer:List (Str×NameKind)):List (Str×NameKind):=inner.map fun(n,k)=>if (k == .free && outer.lookup n == some .cell) then (n,.cell) else (n,k)
def capIx(N:List Str):List Str->Option (List Nat)
 |[]=>some []
 |y::r=>(match ixOf N y with
  |some i=>(match capIx N r with
   |some l=>some (i::l)
   |none=>none)
  |none=>none)
def blkOk(Γ:Gm)(scope:Scope)(N':List Str):Bool :=
 (scope.kind == .function) && scope.names.all (fun x=>!(x.2 == .local) || scope.names.lookup x.1 == some .local) &&
 scope.names.all (fun x=>!(x.2 == .free) || (scope.names.lookup x.1 == some .free && (Γ.nm.lookup x.1 == some .cell || Γ.nm.lookup x.1 == some .free) && !(scope.names.contains (x.1,NameKind.cell)))) &&
 decide N'.Nodup && (cellsN scope.names).all (fun y=>(relabN scope.names Γ.nm).lookup y == some .cell)
def Gm.blk(Γ:Gm)(scope:Scope)(N':List Str):Gm:={ Γ with N:=N',nm:=relabN scope.names Γ.nm,ce:=(cellsN scope.names).filter fun y=>scope.names.lookup y == some .cell,ow:=[],ox:={ Γ.ox with df:=false,nr:=true } }
def dGs(Γ:Gm):List Expr->Option (List T->PSt->Option PSt)
 |[]=>some zg7
 |e::es=>(match nmOf e with
  |some (x,_)=>if Γ.loc x then (match ixOf Γ.N x,dGs Γ es with
   |some i,some b=>some (zai (bNm i) b)
   |_,_=>none) else none
  |none=>none)
def dG(Γ:Gm):Expr->Option (T->PSt->Option PSt)
 |.Name x _=>if Γ.loc x then (ixOf Γ.N x).map bNm else none
 |.Tuple es _ _=>(dGs Γ es).map (zfk es.length)
 |_=>none
def zjp:Expr->Bool
 |.Call ..=>false
 |_=>true
theorem base_ok{o:Expr}{f:Str}{env:Env}(h:zjp o=true):attributeBase o f env (eval o env)=eval o env:=by
 cases o<;>first|rfl|cases h
theorem meth_tree{o:Expr}{f:Str}{ap pos:Pos}{es:List Expr}{env:Env}(h:zjp o=true)(hf:((backTo pos (starEach es env)).all fun x=>!x.1)=true)(hn:es.length<30)(hl:(ap.endLine == pos.line)=true):∃pl:Sem Bool,eval (.Call (.Attribute o f ap) es [] pos) env=(do
   let ov <- eval o env
   standAt ap.atName
   let (f,first) <- holding [ov] (getMethod ov f pl)
   callWith pos f first (backTo pos (starEach es env)) (backToKw pos (keywordEach [] env))):=by
 refine⟨do let b <- importBound o env;pure (b.getD true),?_⟩
 have e:methodCallForm (es.length+([]:List Keyword).length) (backTo pos (starEach es env)) (backToKw pos (keywordEach [] env))=true:=by
  unfold methodCallForm;rw[hf];show(true && true && decide (es.length+0+0<30))=true;rw[decide_eq_true (by omega)];rfl
 rw[arm_eval_Call,base_ok h];unfold methodCall calleeOf methodCallPos;rw[e,hl]
 rfl
def fldA(f:Str)(m:PSt->Option Rs):List (Str×Addr×List Str)->Option (PSt->Option Rs)
 |[]=>none
 |(_,C,fs)::r=>(match fs.findIdx? (· == f) with
  |some j=>(match fldA f m r with
   |some m2=>some (mAlt (mFld C fs j m) m2)
   |none=>some (mFld C fs j m))
  |none=>fldA f m r)
def metA(f:Str)(m:PSt->Option Rs)(ms:PSt->Option RsL):List (Str×Addr×List Str×Fn)->Option (PSt->Option Rs)
 |[]=>none
 |(g,C,fs,F)::r=>if g=f && !(fs.contains f) then (match metA f m ms r with
   |some m2=>some (mAlt (zl4 C fs F.g m ms) m2)
   |none=>some (zl4 C fs F.g m ms))
  else metA f m ms r
def chnF:CmpOp->Option (T->T->Option T)
 |.LtE=>some leT
 |op=>cmpF op
def setOf(f:Str)(e:Expr)(es:List Expr):Option (Expr×Pos×Pos):=if f="len" then (match es with
 |[]=>(match e with
  |.Call g as ks c=>(match nmOf g,as,ks with
   |some (x,p),[a],[]=>if x="set" then some (a,p,c) else none
   |_,_,_=>none)
  |_=>none)
 |_=>none) else none
theorem setOf_is{f:Str}{e a:Expr}{es:List Expr}{p c:Pos}(h:setOf f e es=some (a,p,c)):f="len"/\es=[]/\e=.Call (.Name "set" p) [a] [] c:=by
 unfold setOf at h;split at h
 ·rename_i hf;split at h
  ·split at h
   ·split at h
    ·rename_i hn;split at h
     ·rename_i hx;cases h;rw[zcc hn,hx];exact⟨hf,rfl,rfl⟩
     ·cases h
    ·cases h
   ·cases h
  ·cases h
 ·cases h
def itV(Γ:Gm)(m:PSt->Option Rs):PSt->Option RsL:=if Γ.ox.tx then zgn m else iVal m
def isAt:Expr->Bool
 |.Attribute ..=>true
 |_=>false
def slA(Γ:Gm)(ma:PSt->Option Rs)(ml mh:Option (PSt->Option Rs)):PSt->Option Rs:=if Γ.ox.tx then mAlt (mSl ma ml mh) (mSlT ma ml mh) else mSl ma ml mh
def gtN(Γ:Gm):Expr->Bool
 |.Name x _=>Γ.ox.gt.contains x
 |_=>false
noncomputable def ixA(Γ:Gm)(a:Expr)(ma mk:PSt->Option Rs):PSt->Option Rs:=if isAt a || gtN Γ a then mGt ma mk else mIx ma mk
def kyOf(f:Str)(e:Expr)(es:List Expr):Bool:=decide (f="list") && isAt e && es.isEmpty
theorem kyOf_is{f:Str}{e:Expr}{es:List Expr}(h:kyOf f e es=true):f="list"/\es=[]/\isAt e=true:=by
 unfold kyOf at h;simp only[ya2,decide_eq_true_eq,ydh]at h;exact⟨h.1.1,h.2,h.1.2⟩
mutual
def dE:Nat->Gm->Expr->Option (PSt->Option Rs)
  |0,_,_=>none
  |n+1,Γ,e=>match e with
    |.Constant (.int i) _ _=>some (mC (.int i))
    |.Constant (.bool b) _ _=>some (mC (.bl b))
    |.Constant .none _ _=>some (mC .non)
    |.Constant (.str x) _ _=>some (mC (.str x))
    |.Name x _=>(match Γ.var x with
      |some i=>some (za7 i)
      |none=>if zc6 x && glN Γ.nm x then (Γ.ox.co.lookup x).map mC else none)
    |.Attribute o f _=>if zjp o then (match dE n Γ o with
      |some m=>fldA f m Γ.ox.cl
      |none=>none) else none
    |.Call (.Attribute o f ap) es [] c=>if !(zjp o && ap.endLine == c.line && decide (es.length<30)) then none else (match dE n Γ o,dA n Γ es with
      |some m,some ms =>
        if f="index" then (match es with
          |[k]=>(dE n Γ k).map (mIdx m)
          |_=>none)
        else
        if f="join" then (match es with
          |[k]=>(dE n Γ k).map (mJn m)
          |_=>none)
        else
        metA f m ms Γ.ox.mt
      |_,_=>none)
    |.Compare a [op,op'] [b,c] _=>(match chnF op,chnF op',dE n Γ a,dE n Γ b,dE n Γ c with
      |some g,some g',some ma,some mb,some mc=>if lastMarks [op,op'] [b,c] then none else some (mChn g g' ma mb mc)
      |_,_,_,_,_=>none)
    |.BinOp a op b _=>(match opF op,dE n Γ a,dE n Γ b with
      |some g,some ma,some mb=>some (mAp (g2 g) (za0 ma (za0 mb za6)))
      |_,_,_=>none)
    |.UnaryOp .USub a _=>(match dE n Γ a with
      |some ma=>some (mAp (g1 negT) (za0 ma za6))
      |none=>none)
    |.UnaryOp .Not a _=>if okT a then (dE n Γ a).map zfc else none
    |.BoolOp op vs _=>dB n Γ op vs
    |.Compare a [op] [b] _=>(match cmpF op,dE n Γ a,dE n Γ b with
      |some g,some ma,some mb=>if behindInMarks op b then none else some (mAp (g2 g) (za0 ma (za0 mb za6)))
      |_,_,_=>none)
    |.IfExp c a b _=>if okT c then (match dE n Γ c,dE n Γ a,dE n Γ b with
      |some mc,some ma,some mb=>some (mIf mc ma mb)
      |_,_,_=>none) else none
    |.List es _=>(dO n Γ es).map zfi
    |.Tuple es _ _=>(dA n Γ es).map zgm
    |.Subscript a k _=>(match k with
      |.Slice lo hi none _=>(match dE n Γ a,dP n Γ lo,dP n Γ hi with
        |some ma,some ml,some mh=>some (slA Γ ma ml mh)
        |_,_,_=>none)
      |_=>if zg2 k then none else (match dE n Γ a,dE n Γ k with
        |some ma,some mk=>some (ixA Γ a ma mk)
        |_,_=>none))
    |.Call (.Name f _) (e::es) [] _ =>
      if zc6 f && glN Γ.nm f then
        (if Γ.bl.contains f then
          (if f="isinstance" then (match es with
            |[.Name c _]=>if glN Γ.nm c && Γ.bl.contains c && zc6 c && zax e then (match tyName c,dE n Γ e with
              |some t,some m=>some (mAp (g1 (zdy t)) (za0 m za6))
              |_,_=>none)
              else if glN Γ.nm c && zc6 c && zax e then (match Γ.ox.ci.lookup c,dE n Γ e with
              |some C,some m=>some (mAp (g1 (isCT C)) (za0 m za6))
              |_,_=>none)
              else none
            |_=>none)
          else (
            match setOf f e es with
            |some (a,_,_)=>if glN Γ.nm "set" && Γ.bl.contains "set" && zax a then (dE n Γ a).map fun m=>mAp (g1 unqT) (za0 m za6) else none
            |none =>
            if kyOf f e es then (dE n Γ e).map (fun m=>mAlt (mAp (g1 zf0) (za0 m za6)) (mKys m)) else
            (match bltG f,dA n Γ (e::es) with
              |some g,some ms=>some (mAp g ms)
              |_,_=>none)))
        else
         match Γ.ox.nw.lookup f with
         |some (F,ds)=>(match ds.lookup (e::es).length,dA n Γ (e::es) with
           |some dts,some ms=>some (mNew F.g dts ms)
           |_,_=>none)
         |none =>
         (match Γ.fns.lookup f, dA n Γ (e :: es) with
          |some F,some ms=>some (zap F.g ms)
          |_,_=>none))
      else none
    |.ListComp elt [⟨tg,iter,ifs,0⟩] scope _=>dC n Γ elt tg iter ifs scope
    |.Dict ks vs _=>dicF (dE n Γ) ks vs
    |_=>none
def dA:Nat->Gm->List Expr->Option (PSt->Option RsL)
 |0,_,_=>none
 |n+1,Γ,es=>match es with
  |[]=>some za6
  |e::es=>if zax e then (match dE n Γ e,dA n Γ es with
   |some m,some ms=>some (za0 m ms)
   |_,_=>none) else none
def dO:Nat->Gm->List Expr->Option (PSt->Option RsL)
 |0,_,_=>none
 |n+1,Γ,es=>match es with
  |[]=>some za6
  |e::es=>if zax e then (match dE n Γ e,dO n Γ es with
   |some m,some ms=>some (zac m ms)
   |_,_=>none) else none
def dB:Nat->Gm->BoolOp->List Expr->Option (PSt->Option Rs)
 |0,_,_,_=>none
 |n+1,Γ,op,vs=>match vs with
  |[]=>none
  |[a]=>if okT a then dE n Γ a else none
  |a::r=>if okT a then (match op,dE n Γ a,dB n Γ op r with
   |.And,some ma,some mb=>some (mAnd ma mb)
   |.Or,some ma,some mb=>some (mOr ma mb)
   |_,_,_=>none) else none
def dP:Nat->Gm->Option Expr->Option (Option (PSt->Option Rs))
 |0,_,_=>none
 |n+1,Γ,o=>match o with
  |none=>some none
  |some e=>(dE n Γ e).map some
def dC:Nat->Gm->Expr->Expr->Expr->List Expr->Scope->Option (PSt->Option Rs)
 |0,_,_,_,_,_,_=>none
 |n+1,Γ,elt,tg,iter,ifs,scope =>
  if blkOk Γ scope (tgN tg++zfj scope.names) then (match capIx Γ.N (zfj scope.names),dI n Γ tg iter,dG (Γ.blk scope (tgN tg++zfj scope.names)) tg,dE n (Γ.blk scope (tgN tg++zfj scope.names)) elt with
   |some caps,some mi,some b,some me=>(match ifs with
    |[]=>some (mLC (tgN tg).length caps mi b (mC (.bl true)) me)
    |[c]=>if okT c then (match dE n (Γ.blk scope (tgN tg++zfj scope.names)) c with
     |some mt=>some (mLC (tgN tg).length caps mi b mt me)
     |none=>none) else none
    |_=>none)
   |_,_,_,_=>none) else none
def dI:Nat->Gm->Expr->Expr->Option (PSt->Option RsL)
 |0,_,_,_=>none
 |n+1,Γ,tg,e=>match e with
  |.Call (.Name f _) [a] [] _ =>
   if f="range" then (if glN Γ.nm f && Γ.bl.contains f && zax a then (dA n Γ [a]).map zc3 else none)
   else (dE n Γ e).map (itV Γ)
  |.Call (.Name f _) [a,b] [] _ =>
   if f="range" then (if glN Γ.nm f && Γ.bl.contains f && zax a && zax b then (dA n Γ [a,b]).map zh4 else none)
   else (dE n Γ e).map (itV Γ)
  |.Set ..=>none
  |_=>(dE n Γ e).map (itV Γ)
end
def dEb(n:Nat)(Γ:Gm)(e:Expr):Option (PSt->Option Rs):=match e with
    |.Constant (.int i) _ _=>some (mC (.int i))
    |.Constant (.bool b) _ _=>some (mC (.bl b))
    |.Constant .none _ _=>some (mC .non)
    |.Constant (.str x) _ _=>some (mC (.str x))
    |.Name x _=>(match Γ.var x with
      |some i=>some (za7 i)
      |none=>if zc6 x && glN Γ.nm x then (Γ.ox.co.lookup x).map mC else none)
    |.Attribute o f _=>if zjp o then (match dE n Γ o with
      |some m=>fldA f m Γ.ox.cl
      |none=>none) else none
    |.Call (.Attribute o f ap) es [] c=>if !(zjp o && ap.endLine == c.line && decide (es.length<30)) then none else (match dE n Γ o,dA n Γ es with
      |some m,some ms =>
        if f="index" then (match es with
          |[k]=>(dE n Γ k).map (mIdx m)
          |_=>none)
        else
        if f="join" then (match es with
          |[k]=>(dE n Γ k).map (mJn m)
          |_=>none)
        else
        metA f m ms Γ.ox.mt
      |_,_=>none)
    |.Compare a [op,op'] [b,c] _=>(match chnF op,chnF op',dE n Γ a,dE n Γ b,dE n Γ c with
      |some g,some g',some ma,some mb,some mc=>if lastMarks [op,op'] [b,c] then none else some (mChn g g' ma mb mc)
      |_,_,_,_,_=>none)
    |.BinOp a op b _=>(match opF op,dE n Γ a,dE n Γ b with
      |some g,some ma,some mb=>some (mAp (g2 g) (za0 ma (za0 mb za6)))
      |_,_,_=>none)
    |.UnaryOp .USub a _=>(match dE n Γ a with
      |some ma=>some (mAp (g1 negT) (za0 ma za6))
      |none=>none)
    |.UnaryOp .Not a _=>if okT a then (dE n Γ a).map zfc else none
    |.BoolOp op vs _=>dB n Γ op vs
    |.Compare a [op] [b] _=>(match cmpF op,dE n Γ a,dE n Γ b with
      |some g,some ma,some mb=>if behindInMarks op b then none else some (mAp (g2 g) (za0 ma (za0 mb za6)))
      |_,_,_=>none)
    |.IfExp c a b _=>if okT c then (match dE n Γ c,dE n Γ a,dE n Γ b with
      |some mc,some ma,some mb=>some (mIf mc ma mb)
      |_,_,_=>none) else none
    |.List es _=>(dO n Γ es).map zfi
    |.Tuple es _ _=>(dA n Γ es).map zgm
    |.Subscript a k _=>(match k with
      |.Slice lo hi none _=>(match dE n Γ a,dP n Γ lo,dP n Γ hi with
        |some ma,some ml,some mh=>some (slA Γ ma ml mh)
        |_,_,_=>none)
      |_=>if zg2 k then none else (match dE n Γ a,dE n Γ k with
        |some ma,some mk=>some (ixA Γ a ma mk)
        |_,_=>none))
    |.Call (.Name f _) (e::es) [] _ =>
      if zc6 f && glN Γ.nm f then
        (if Γ.bl.contains f then
          (if f="isinstance" then (match es with
            |[.Name c _]=>if glN Γ.nm c && Γ.bl.contains c && zc6 c && zax e then (match tyName c,dE n Γ e with
              |some t,some m=>some (mAp (g1 (zdy t)) (za0 m za6))
              |_,_=>none)
              else if glN Γ.nm c && zc6 c && zax e then (match Γ.ox.ci.lookup c,dE n Γ e with
              |some C,some m=>some (mAp (g1 (isCT C)) (za0 m za6))
              |_,_=>none)
              else none
            |_=>none)
          else (
            match setOf f e es with
            |some (a,_,_)=>if glN Γ.nm "set" && Γ.bl.contains "set" && zax a then (dE n Γ a).map fun m=>mAp (g1 unqT) (za0 m za6) else none
            |none =>
            if kyOf f e es then (dE n Γ e).map (fun m=>mAlt (mAp (g1 zf0) (za0 m za6)) (mKys m)) else
            (match bltG f,dA n Γ (e::es) with
              |some g,some ms=>some (mAp g ms)
              |_,_=>none)))
        else
         match Γ.ox.nw.lookup f with
         |some (F,ds)=>(match ds.lookup (e::es).length,dA n Γ (e::es) with
           |some dts,some ms=>some (mNew F.g dts ms)
           |_,_=>none)
         |none =>
         (match Γ.fns.lookup f, dA n Γ (e :: es) with
          |some F,some ms=>some (zap F.g ms)
          |_,_=>none))
      else none
    |.ListComp elt [⟨tg,iter,ifs,0⟩] scope _=>dC n Γ elt tg iter ifs scope
    |.Dict ks vs _=>dicF (dE n Γ) ks vs
    |_=>none
theorem zak{n:Nat}{Γ:Gm}{e:Expr}:dE (n+1) Γ e=dEb n Γ e:=rfl
end Pu
end
set_option Elab.async false
set_option linter.all false
set_option maxRecDepth 100000
namespace Pu
open PySem PySem.Spec PyProof.Rows L2 Zw Zx
structure GxOk(G:Gx)(lv:Nat)(P:Program)(w:World)(K:PySem.W.Frag)(mg:Str->Option Value)(base:Heap)(ca:Str->Value):Prop where
 co:∀x t,G.co.lookup x=some t->∃u v,mg x=some u/\RelV v u/\∀F:Hp,Rp K F F t v R0
 cl:∀c∈G.cl,Cls K c.2.1/\∀f∈c.2.2,zaz K c.2.1 f
 mt:∀c∈G.mt,c.2.2.2.lv<=lv/\Nonempty (MetX P w K mg base c.2.1 c.1 c.2.2.2.lv c.2.2.2.ps (spP K ca c.2.2.2.g))
 nw:∀x F ds,G.nw.lookup x=some (F,ds)->F.lv+1<=lv/\∃(C:Addr) (D:NewX P w K mg base x C F.lv F.ps (spN K ca C F.g)),∀k dts,ds.lookup k=some dts->∃dvs us,zh9 K D.fd F.ps us/\zbl dvs us/\∀H:Hp,Rps K H dts dvs
 sf:∀C fs,G.sf=some (C,fs)->Cls K C/\∀f∈fs,zaz K C f
 xs:∀W cs,G.xs.lookup W=some cs->∃T:ECls K mg W,∀c C,cs.lookup c=some C->ca c=.ref C/\PySem.W.subIn K (.ref C) (.ref T.C)=some true
 sb:∀D tb,G.sb.lookup D=some tb->∃A:Addr,mg D=some (.ref A)/\∀C b,tb.lookup C=some b->ExcK K C/\PySem.W.kitOne K (.ref C) (.ref A)=some b
 sv:∀D tb,G.sv.lookup D=some tb->mg D=none/\∃t,bootBuiltins D=some (.type t)/\∀C b,tb.lookup C=some b->ExcK K C/\PySem.W.kitOne K (.ref C) (.type t)=some b
 ci:∀x C,G.ci.lookup x=some C->mg x=some (.ref C)/\ICls K C
 x2:∀W1 W2 cs,(W1,W2,cs)∈G.x2->∃(T1:ECls K mg W1) (T2:ECls K mg W2),∀c C,cs.lookup c=some C->ca c=.ref C/\PySem.W.subIn K (.ref C) (.ref T1.C)=some false/\PySem.W.subIn K (.ref C) (.ref T2.C)=some true
structure CxOk(Γ:Gm)(X:Cx)(E:L2.St->XK)(ca:Str->Value):Prop where
 N:X.N=Γ.N
 nd:Γ.N.Nodup
 nm:X.env.scope.names=Γ.nm
 kd:X.env.scope.kind=.function
 calm:X.calm=true
 room:Room Γ.lv X.A
 ce:∀x∈Γ.ce,X.fn x=true/\Γ.nm.lookup x=some .cell
 bl:∀b∈Γ.bl,X.mg b=none
 ps:zbo X E
 po:Γ.ox.nr=false->PassesOwn (model X.prog X.w) X.A X.env X.xe
 md:Γ.ox.nr=false->MadeS X E
 fs:∀f F,Γ.fns.lookup f=some F->F.lv<=Γ.lv/\Nonempty (DefX X.prog X.w X.K X.mg X.base F.lv f F.ps (spP X.K ca F.g))
 ex:∀c∈Γ.ex,∃T:ECls X.K X.mg c,ca c=.ref T.C
 ms:∀f F,Γ.mus.lookup f=some F->F.lv<=Γ.lv/\Nonempty (DefX X.prog X.w X.K X.mg X.base F.lv f F.ps (spM X.K ca F.g))
 gx:GxOk Γ.ox Γ.lv X.prog X.w X.K X.mg X.base ca
 tr:Γ.ox.df=true->X.stack=X.env::X.outer/\X.env.frame=some X.env.locals
 fr:FrOk X
theorem ze1{N:List Str}{x:Str}{i:Nat}(h:ixOf N x=some i):N[i]?=some x:=by
 unfold ixOf at h;obtain⟨h1,h2,_⟩:=yb2.mp h;rw[ya0 h1];exact congrArg some (eq_of_beq h2)
theorem zb2{x:Str}(h:zc6 x=true):(x == ("__debug__":Str))=false/\(x == ("__classdict__":Str))=false/\x≠"__name__":=by
 unfold zc6 at h
 simp only[ya2,yb1]at h;exact⟨h.1.1,h.1.2,fun z=>by
  have:=h.2;rw[z]at this;simp at this⟩
theorem visN_iff{sc:Scope}{x:Str}(h:visN sc.names x=true):Vis sc x:=by
 unfold visN at h;simp only[ybg,beq_iff_eq]at h
 rcases h with (h|h)|h
 ·exact .inl h
 ·exact .inr (.inl h)
 ·exact .inr (.inr h)
theorem zb1{e:Expr}{es:List Expr}{env:Env}(h:zax e=true):starEach (e::es) env=(false,eval e env)::starEach es env:=by
 cases e<;>first|rfl|cases h
theorem zer:∀{es:List Expr} {env:Env} {pos:Pos},(∀e∈es,zax e=true)->(backTo pos (starEach es env)).any (·.1)=false
 |[],env,pos,_=>rfl
 |e::es,env,pos,h=>by
  rw[zb1 (h e (ya9 ..))];have ih:=zer (es:=es) (env:=env) (pos:=pos) fun x hx=>h x (ya8 _ hx)
  show(false || (backTo pos (starEach es env)).any (·.1))=false
  rw[ih]
  rfl
theorem ze6:∀{n:Nat} {Γ:Gm} {es:List Expr} {ms:PSt->Option RsL},dA n Γ es=some ms->∀e∈es,zax e=true
 |0,_,_,_,h=>by cases h
 |n+1,Γ,[],_,_=>fun e he=>by cases he
 |n+1,Γ,e::es,ms,h=>by
  unfold dA at h;simp only at h;split at h
  ·rename_i hs;split at h
   ·rename_i m ms' h1 h2;intro x hx;rcases yaj.mp hx with rfl|hx
    ·exact hs
    ·exact ze6 h2 x hx
   ·cases h
  ·cases h
section
variable {Γ:Gm}{X:Cx}{E:L2.St->XK}{ca:Str->Value}
theorem CxOk.var(C:CxOk Γ X E ca){x:Str}{i:Nat}{pos:Pos}(h:Γ.var x=some i):X.N[i]?=some x/\Vis X.env.scope x/\(x == ("__debug__":Str))=false/\(x == ("__classdict__":Str))=false:=by
 unfold Gm.var at h;split at h
 ·rename_i hp;rw[ya2]at hp;obtain⟨p1,p2,p3⟩:=zb2 hp.1;exact⟨by rw[C.N];exact ze1 h,visN_iff (by rw[C.nm];exact hp.2),p1,p2⟩
 ·cases h
theorem CxOk.gl(C:CxOk Γ X E ca){x:Str}(h:glN Γ.nm x=true):Gl X x:=by
 unfold glN at h;show X.env.scope.names.lookup x=some .globalImplicit;rw[C.nm];exact eq_of_beq h
theorem CxOk.loc(C:CxOk Γ X E ca){x:Str}{i:Nat}(h:Γ.loc x=true)(hi:ixOf Γ.N x=some i):X.N[i]?=some x/\Loc X.env.scope x/\(X.fn x=true\/X.env.scope.names.lookup x=some .local):=by
 unfold Gm.loc at h;simp only[ya2,ybg,beq_iff_eq]at h;refine⟨by rw[C.N];exact ze1 hi,?_⟩
 rcases h.2 with h|h
 ·exact⟨.inl (by rw[C.nm];exact h),.inr (by rw[C.nm];exact h)⟩
 ·obtain⟨c1,c2⟩:=C.ce x (yaw.mp h);exact⟨.inr (by rw[C.nm];exact c2),.inl c1⟩
theorem CxOk.nodup(C:CxOk Γ X E ca):X.N.Nodup:=by rw[C.N];exact C.nd
theorem loc_nm(C:CxOk Γ X E ca){x:Str}{i:Nat}{pos:Pos}(h1:Γ.loc x=true)(h2:ixOf Γ.N x=some i):PG X (.Name x pos) (tGM X.K (bNm i)):=by
 obtain⟨g1,g2,g3⟩:=C.loc h1 h2;exact g_nm C.nodup g1 g2 g3
theorem dGs_ok(C:CxOk Γ X E ca):∀{es:List Expr} {b:List T->PSt->Option PSt},dGs Γ es=some b->PGs X es (tGMs X.K b)/\(assignEach es X.env).length=es.length/\(assignEach es X.env).findIdx? (·.1)=none
 |[],b,h=>by
  cases h;exact⟨g_nil,rfl,rfl⟩
 |e::es,b,h=>by
  unfold dGs at h;split at h
  ·rename_i x p hn;have hn:=zcc hn;subst hn;split at h
   ·rename_i hl;split at h
    ·rename_i i b' h1 h2;cases h;obtain⟨q1,q2,q3⟩:=dGs_ok C h2;refine⟨g_cons (loc_nm C hl h1) q1 rfl,?_,?_⟩
     ·show(assignEach es X.env).length+1=es.length+1;rw[q2]
     ·show List.findIdx? (·.1) ((false,assign (.Name x p) X.env)::assignEach es X.env)=none
      rw[yd7,q3]
      rfl
    ·cases h
   ·cases h
  ·cases h
theorem dG_ok(C:CxOk Γ X E ca){tg:Expr}{b:T->PSt->Option PSt}(h:dG Γ tg=some b):PG X tg (tGM X.K b):=by
 unfold dG at h;split at h
 ·split at h
  ·rename_i hl;obtain⟨i,hi,rfl⟩:=ya3.mp h;exact loc_nm C hl hi
  ·cases h
 ·obtain⟨bs,hb,rfl⟩:=ya3.mp h;obtain⟨q1,q2,q3⟩:=dGs_ok C hb;exact g_tup C.calm q1 q2 q3
 ·cases h
theorem opF_ok{op:Operator}{g:T->T->Option T}(h:opF op=some g):OpR X (binaryOp op) (rT2 X.K g):=by
 cases op<;>cases h
 ·exact opT_add
 ·exact opT_sub
 ·exact opT_mul
 ·exact opT_mod
 ·exact opT_pow
 ·exact opT_bor
 ·exact opT_band
 ·exact opT_fdiv
theorem cmpF_ok(C:CxOk Γ X E ca){op:CmpOp}{g:T->T->Option T}(h:cmpF op=some g):OpR X (compareOp op) (rT2 X.K g):=by
 have hu:=C.room.units;cases op<;>cases h
 ·exact opT_eq hu
 ·exact opT_ne hu
 ·exact opT_cmp op_lt
 ·exact opT_cmp op_le
 ·exact opT_cmp op_gt
 ·exact opT_cmp op_ge
 ·exact opT_is
 ·exact opT_isNot
 ·exact opT_in hu
 ·exact opT_notIn hu
theorem chnF_ok(C:CxOk Γ X E ca){op:CmpOp}{g:T->T->Option T}(h:chnF op=some g):OpR X (compareOp op) (rT2 X.K g):=by
 unfold chnF at h;split at h
 ·cases h;exact opT_leT
 ·exact cmpF_ok C h
theorem fldA_ok{L:List (Str×Addr×List Str)}(hL:∀c∈L,Cls X.K c.2.1/\∀f∈c.2.2,zaz X.K c.2.1 f){f:Str}{m:PSt->Option Rs}{o:Expr}{pos:Pos}(ho:PE X o (tM X.K E ca m))(hb:attributeBase o f X.env (eval o X.env)=eval o X.env):∀{m':PSt->Option Rs},fldA f m L=some m'->PE X (.Attribute o f pos) (tM X.K E ca m'):=by
 induction L with
 |nil=>intro m' h;cases h
 |cons c r ih =>
  obtain⟨nmc,C0,fs⟩:=c;intro m' h;have ih':=@ih (fun c hc=>hL c (ya8 _ hc))
  unfold fldA at h;split at h
  ·rename_i j hj;obtain⟨h1,h2⟩:=hL _ (ya9 ..)
   have hf:f∈fs:=by
    obtain⟨q1,q2,_⟩:=yb2.mp hj;rw[<- eq_of_beq q2];exact yac q1
   have p1:PE X (.Attribute o f pos) (tM X.K E ca (mFld C0 fs j m)):=r_fld h1 (h2 f hf) hj ho hb;split at h
   ·rename_i m2 hm2;cases h;exact r_alt p1 (ih' hm2)
   ·cases h;exact p1
  ·exact ih' h
set_option maxHeartbeats 1000001 in
theorem bltG_ok(C:CxOk Γ X E ca){f:Str}{g:List T->Option T}{e:Expr}{es:List Expr}{ms:PSt->Option RsL}{p pos:Pos}(h:bltG f=some g)(hg:glN Γ.nm f=true)(hb:f∈Γ.bl)(ha:PA X (e::es) (tMs X.K E ca ms))(hs:∀x∈e::es,zax x=true)(hp:zc6 f=true) :
  PE X (.Call (.Name f p) (e::es) [] pos) (tM X.K E ca (mAp g ms)):=by
 have G:=C.gl hg;have B:=C.bl f hb;obtain⟨p1,p2,p3⟩:=zb2 hp;have s1:=zb1 (es:=es) (env:=X.env) (hs e (ya9 ..));have s2:=zer (env:=X.env) (pos:=pos) fun x hx=>hs x (ya8 e hx)
 unfold bltG at h;split at h
 ·rename_i hf;subst hf;cases h;exact zlo callT_len G B PySem.boot_len ha p3 p1 s1 s2
 split at h
 ·rename_i hf;subst hf;cases h;exact r_bltT callT_list G B ycl ha p3 p1 s1 s2
 split at h
 ·rename_i hf;subst hf;cases h;exact zlo callT_abs G B PyProof.Rows.boot_abs ha p3 p1 s1 s2
 split at h
 ·rename_i hf;subst hf;cases h;exact r_bltT callT_tup G B PyProof.Rows.boot_tuple ha p3 p1 s1 s2
 split at h
 ·rename_i hf;subst hf;cases h;exact zlo (callT_min C.calm) G B PyProof.Rows.boot_min ha p3 p1 s1 s2
 split at h
 ·rename_i hf;subst hf;cases h;exact zlo (callT_mx C.calm) G B PyProof.Rows.boot_max ha p3 p1 s1 s2
 split at h
 ·rename_i hf;subst hf;cases h;exact zlo (callT_all C.calm) G B PyProof.Rows.boot_all ha p3 p1 s1 s2
 split at h
 ·rename_i hf;subst hf;cases h;exact zlo (callT_any C.calm) G B PyProof.Rows.boot_any ha p3 p1 s1 s2
 ·cases h
theorem tyName_ok{c:Str}{t:String}(h:tyName c=some t):bootBuiltins c=some (.type t):=by
 unfold tyName at h;split at h
 ·rename_i hf;subst hf;cases h;exact PyProof.Rows.boot_int
 split at h
 ·rename_i hf;subst hf;cases h;exact PyProof.Rows.boot_bool
 split at h
 ·rename_i hf;subst hf;cases h;exact PyProof.Rows.boot_str
 split at h
 ·rename_i hf;subst hf;cases h;exact ycl
 split at h
 ·rename_i hf;subst hf;cases h;exact PyProof.Rows.boot_tuple
 ·cases h
theorem capIx_get{N:List Str}:∀{ys:List Str} {caps:List Nat},capIx N ys=some caps->ys.length=caps.length/\∀(k j:Nat),caps[k]?=some j->∃y,ys[k]?=some y/\N[j]?=some y
 |[],caps,h=>by cases h;exact⟨rfl,fun k j e=>by simp at e⟩
 |y::r,caps,h=>by
  unfold capIx at h;split at h
  ·rename_i i hi;split at h
   ·rename_i l hl;cases h;obtain⟨h1,h2⟩:=capIx_get hl;refine⟨by simp[h1],fun k j e=>?_⟩
    cases k with
    |zero=>simp at e;subst e;exact⟨y,rfl,ze1 hi⟩
    |succ k=>exact h2 k j (by simpa using e)
   ·cases h
  ·cases h
theorem frees_mem{nm:List (Str×NameKind)}{y:Str}(h:y∈zfj nm):(y,NameKind.free)∈nm:=by
 unfold zfj at h;obtain⟨⟨z,k⟩,hz,e⟩:=ybo.mp h;simp only at e;split at e
 ·rename_i hk;cases e;rw[<- eq_of_beq hk];exact hz
 ·cases e
theorem blk_ok(C:CxOk Γ X E ca){scope:Scope}{tg:Expr}{caps:List Nat}(h:blkOk Γ scope (tgN tg++zfj scope.names)=true)(hc:capIx Γ.N (zfj scope.names)=some caps):BlkOk X scope (tgN tg++zfj scope.names) (tgN tg).length caps:=by
 unfold blkOk at h;simp only[ya2]at h;obtain⟨⟨⟨⟨h1,h2⟩,h3⟩,h4⟩,h5⟩:=h;obtain⟨l1,l2⟩:=capIx_get hc
 have free:∀y∈scope.names,y.2=.free->scope.names.lookup y.1=some .free/\(Γ.nm.lookup y.1=some .cell\/Γ.nm.lookup y.1=some .free)/\(y.1,NameKind.cell)∉scope.names:=fun y hy hf=>by
  have q:=yag.mp h3 y hy;simp only[hf,beq_self_eq_true,Bool.not_true,ycm,ya2,beq_iff_eq,ybg,yb1]at q;refine⟨q.1.1,q.1.2,fun z=>?_⟩
  have:=yaw.mpr z;rw[this]at q;exact Bool.noConfusion q.2
 refine⟨eq_of_beq h1,fun y hy hl=>?_,by simp[l1],fun k j e=>?_,fun y hy hf=>?_⟩
 ·have q:=yag.mp h2 y hy;simp only[hl,beq_self_eq_true,Bool.not_true,ycm,beq_iff_eq]at q;exact q
 ·obtain⟨y,e1,e2⟩:=l2 k j e;have fm:=frees_mem (ybv e1);obtain⟨f1,_,f3⟩:=free _ fm rfl;refine⟨y,by rw[C.N];exact e2,?_,f1,f3⟩
  rw[yb0 (by omega)]
  simpa using e1
 ·obtain⟨f1,f2,_⟩:=free y hy hf;refine⟨f1,?_⟩;rw[C.nm];exact f2
theorem relab_eq{scope:Scope}{env:Env}(hk:env.scope.kind=.function):(relabel scope env).names=relabN scope.names env.scope.names:=by
 unfold relabel relabN;simp only;refine List.map_congr_left fun x hx=>?_
 obtain⟨n,k⟩:=x;have e:(env.scope.kind == ScopeKind.function)=true:=by rw[hk];rfl
 simp only[e,yda]
 rfl
theorem blk_cx(C:CxOk Γ X E ca){scope:Scope}{N':List Str}(h:blkOk Γ scope N'=true)(cl:List (Str×Addr))(A:Addr)(s₀:Shared)(H₀:Hp)(ex:List Addr)(xb:Value->Shared->Prop){E':L2.St->XK}(hp:zbo (zad X scope cl N' A s₀ H₀ ex xb) E'):CxOk (Γ.blk scope N') (zad X scope cl N' A s₀ H₀ ex xb) E' ca:=by
 unfold blkOk at h;simp only[ya2]at h;obtain⟨⟨⟨⟨h1,h2⟩,h3⟩,h4⟩,h5⟩:=h;refine⟨rfl,of_decide_eq_true h4,?_,?_,C.calm,C.room,fun x hx=>?_,C.bl,hp,fun z=>(by cases z),fun z=>(by cases z),C.fs,C.ex,C.ms,⟨C.gx.co,C.gx.cl,C.gx.mt,C.gx.nw,C.gx.sf,C.gx.xs,C.gx.sb,C.gx.sv,C.gx.ci,C.gx.x2⟩,fun z=>(by cases z),C.fr⟩
 ·show(relabel scope X.env).names=relabN scope.names Γ.nm;rw[relab_eq C.kd,C.nm]
 ·show scope.kind=.function;exact eq_of_beq h1
 ·have hx':x∈(cellsN scope.names).filter fun y=>scope.names.lookup y == some .cell:=hx
  rw[ycs]at hx';refine⟨decide_eq_true (eq_of_beq hx'.2),?_⟩;exact eq_of_beq (yag.mp h5 x hx'.1)
end
structure Good(ca:Str->Value)(n:Nat):Prop where
 e:∀{Γ:Gm} {X:Cx} {E:L2.St->XK} {e:Expr} {m:PSt->Option Rs},CxOk Γ X E ca->dE n Γ e=some m->PE X e (tM X.K E ca m)
 t:∀{Γ:Gm} {X:Cx} {E:L2.St->XK} {e:Expr} {m:PSt->Option Rs},CxOk Γ X E ca->okT e=true->dE n Γ e=some m->PT X e (tMB X.K E ca m)
 a:∀{Γ:Gm} {X:Cx} {E:L2.St->XK} {es:List Expr} {m:PSt->Option RsL},CxOk Γ X E ca->dA n Γ es=some m->PA X es (tMs X.K E ca m)
 o:∀{Γ:Gm} {X:Cx} {E:L2.St->XK} {es:List Expr} {m:PSt->Option RsL},CxOk Γ X E ca->dO n Γ es=some m->PA X es (tMo X.K E ca m)
 b:∀{Γ:Gm} {X:Cx} {E:L2.St->XK} {op:BoolOp} {es:List Expr} {m:PSt->Option Rs} {pos:Pos},CxOk Γ X E ca->dB n Γ op es=some m->PE X (.BoolOp op es pos) (tM X.K E ca m)/\PW X (.BoolOp op es pos) (tMB X.K E ca m)
 p:∀{Γ:Gm} {X:Cx} {E:L2.St->XK} {o:Option Expr} {m:Option (PSt->Option Rs)},CxOk Γ X E ca->dP n Γ o=some m->PO X o (tPo X.K m)
 c:∀{Γ:Gm} {X:Cx} {E:L2.St->XK} {elt tg iter:Expr} {ifs:List Expr} {scope:Scope} {m:PSt->Option Rs} {pos:Pos},CxOk Γ X E ca->dC n Γ elt tg iter ifs scope=some m->PE X (.ListComp elt [⟨tg,iter,ifs,0⟩] scope pos) (tM X.K E ca m)
 i:∀{Γ:Gm} {X:Cx} {E:L2.St->XK} {tg e:Expr} {m:PSt->Option RsL},CxOk Γ X E ca->dI n Γ tg e=some m->PI X tg e (tI X.K E ca m)
end Pu
set_option Elab.async false
set_option linter.all false
set_option maxRecDepth 100000
namespace Pu
open PySem PySem.Spec PyProof.Rows L2 Zw Zx
def notSet:Expr->Bool
 |.Set ..=>false
 |_=>true
theorem fold_ok{e:Expr}{env:Env}(h:notSet e=true)(x:Value):foldedSetIterable e env x=pure x:=by
 cases e<;>first|rfl|cases h
theorem zkj:∀{n:Nat} {Γ:Gm} {tg e:Expr} {m:PSt->Option RsL},dI n Γ tg e=some m->notSet e=true:=by
 intro n Γ tg e m h;cases n with
 |zero=>cases h
 |succ n =>
  cases e with
  |Set es k p=>unfold dI at h;cases h
  |_=>rfl
theorem plain_ix{k:Expr}(h:zg2 k=false):PlainIx k:=fun o i=>by
 cases k<;>first|rfl|cases h
theorem tval_ok{e:Expr}{env:Env}(h:match e with|.UnaryOp ..=>False|.BoolOp ..=>False|.IfExp ..=>False|.Compare ..=>False|_=>True)(whole:Sem Value):isTrue e env whole=(do let v <- whole;standAt e.pos;holding [v] (truthy v)):=by
 cases e<;>first|rfl|exact False.elim h
section
variable {ca:Str->Value}{n:Nat}
theorem dC_parts(G:Good ca n){Γ:Gm}{X:Cx}{E:L2.St->XK}{elt tg iter:Expr}{ifs:List Expr}{scope:Scope}{m:PSt->Option Rs}(C:CxOk Γ X E ca)(h:dC (n+1) Γ elt tg iter ifs scope=some m) :
  ∃caps mi b mt me,m=mLC (tgN tg).length caps mi b mt me/\BlkOk X scope (tgN tg++zfj scope.names) (tgN tg).length caps/\PI X tg iter (tI X.K E ca mi) /\
   (∀cl A s₀ H₀ ex xb E',zbo (zad X scope cl (tgN tg++zfj scope.names) A s₀ H₀ ex xb) E'->PG (zad X scope cl (tgN tg++zfj scope.names) A s₀ H₀ ex xb) tg (tGM X.K b))/\(∀cl A s₀ H₀ ex xb E',zbo (zad X scope cl (tgN tg++zfj scope.names) A s₀ H₀ ex xb) E'->PTs (zad X scope cl (tgN tg++zfj scope.names) A s₀ H₀ ex xb) ifs (tMB X.K E' ca mt)) /\
   (∀cl A s₀ H₀ ex xb E',zbo (zad X scope cl (tgN tg++zfj scope.names) A s₀ H₀ ex xb) E'->PE (zad X scope cl (tgN tg++zfj scope.names) A s₀ H₀ ex xb) elt (tM X.K E' ca me))/\∀x,foldedSetIterable iter X.env x=pure x:=by
 unfold dC at h;split at h
 ·rename_i hb;split at h
  ·rename_i caps mi b me h1 h2 h3 h4;have B:=blk_ok C hb h1;have PB:=fun cl A s₀ H₀ ex xb E' hp=>dG_ok (blk_cx C hb cl A s₀ H₀ ex xb (E':=E') hp) h3
   have PEl:=fun cl A s₀ H₀ ex xb E' hp=>G.e (blk_cx C hb cl A s₀ H₀ ex xb (E':=E') hp) h4
   split at h
   ·cases h;exact⟨caps,mi,b,_,me,rfl,B,G.i C h2,PB,fun cl A s₀ H₀ ex xb E' _=>fun pins s σ H Q I q=>pts_nil pins s σ H Q I (tMB_c (K:=X.K) (E:=E') (ca:=ca) q),PEl,fold_ok (zkj h2)⟩
   ·split at h
    ·rename_i hok;split at h
     ·rename_i mt h5;cases h;exact⟨caps,mi,b,mt,me,rfl,B,G.i C h2,PB,fun cl A s₀ H₀ ex xb E' hp=>pts_one (G.t (blk_cx C hb cl A s₀ H₀ ex xb (E':=E') hp) hok h5),PEl,fold_ok (zkj h2)⟩
     ·cases h
    ·cases h
   ·cases h
  ·cases h
 ·cases h
theorem good0(ca:Str->Value):Good ca 0:=by
 constructor
 ·intro Γ X E e m C h;cases h
 ·intro Γ X E e m C _ h;cases h
 ·intro Γ X E e m C h;cases h
 ·intro Γ X E e m C h;cases h
 ·intro Γ X E op e m pos C h;cases h
 ·intro Γ X E e m C h;cases h
 ·intro Γ X E elt tg iter ifs scope m pos C h;cases h
 ·intro Γ X E tg e m C h;cases h
theorem dE_cmp(G:Good ca n){Γ:Gm}{X:Cx}{E:L2.St->XK}{a:Expr}{ops:List CmpOp}{bs:List Expr}{pos:Pos}{m:PSt->Option Rs}(C:CxOk Γ X E ca)(h:dE (n+1) Γ (.Compare a ops bs pos)=some m) :
  PE X (.Compare a ops bs pos) (tM X.K E ca m)/\PT X (.Compare a ops bs pos) (tMB X.K E ca m):=by
 cases ops with
 |nil=>rw[zak]at h;unfold dEb at h;cases h
 |cons op r =>
  cases r with
  |cons op' r =>
   cases r with
   |cons _ _=>rw[zak]at h;unfold dEb at h;cases h
   |nil =>
    cases bs with
    |nil=>rw[zak]at h;unfold dEb at h;cases h
    |cons b r =>
     cases r with
     |nil=>rw[zak]at h;unfold dEb at h;cases h
     |cons c r =>
      cases r with
      |cons _ _=>rw[zak]at h;unfold dEb at h;cases h
      |nil =>
       rw[zak]at h;unfold dEb at h;simp only at h;split at h
       ·rename_i g g' ma mb mc h1 h2 h3 h4 h5;split at h
        ·cases h
        ·rename_i hm;cases h;have hm':=yan.mpr hm;exact⟨r_chn (chnF_ok C h1) (chnF_ok C h2) (G.e C h3) (G.e C h4) (G.e C h5) hm',r_tchn (chnF_ok C h1) (chnF_ok C h2) (G.e C h3) (G.e C h4) (G.e C h5) hm'⟩
       ·cases h
  |nil =>
   cases bs with
   |nil=>rw[zak]at h;unfold dEb at h;cases h
   |cons b r =>
    cases r with
    |cons _ _=>rw[zak]at h;unfold dEb at h;cases h
    |nil =>
     rw[zak]at h;unfold dEb at h;simp only at h;split at h
     ·rename_i g ma mb h1 h2 h3;split at h
      ·cases h
      ·rename_i hm;cases h;have hm':=yan.mpr hm;exact⟨r_cmp (cmpF_ok C h1) (G.e C h2) (G.e C h3) hm',r_tcmp (cmpF_ok C h1) (G.e C h2) (G.e C h3) hm'⟩
     ·cases h
theorem lc_dE{n:Nat}{Γ:Gm}{elt:Expr}{gens:List Comprehension}{scope:Scope}{pos:Pos}{m:PSt->Option Rs}(h:dE (n+1) Γ (.ListComp elt gens scope pos)=some m):∃tg iter ifs,gens=[⟨tg,iter,ifs,0⟩]/\dC n Γ elt tg iter ifs scope=some m:=by
 cases gens with
 |nil=>rw[zak]at h;unfold dEb at h;cases h
 |cons g r =>
  obtain⟨tg,iter,ifs,a⟩:=g;cases a with
  |negSucc k=>rw[zak]at h;unfold dEb at h;cases h
  |ofNat k =>
   cases k with
   |succ k=>rw[zak]at h;unfold dEb at h;cases h
   |zero =>
    cases r with
    |cons _ _=>rw[zak]at h;unfold dEb at h;cases h
    |nil=>exact⟨tg,iter,ifs,rfl,by rw[zak]at h;unfold dEb at h;exact h⟩
end
end Pu
set_option Elab.async false
set_option linter.all false
set_option maxRecDepth 100000
namespace Pu
open PySem PySem.Spec PyProof.Rows L2 Zw Zx
section
variable {ca:Str->Value}{n:Nat}
theorem dA_nil{n:Nat}{Γ:Gm}{ms:PSt->Option RsL}(h:dA n Γ []=some ms):ms=za6:=by
 cases n with
 |zero=>cases h
 |succ n=>unfold dA at h;cases h;rfl
theorem metA_ok{Γ:Gm}{X:Cx}{E:L2.St->XK}(C:CxOk Γ X E ca){f:Str}{o:Expr}{es:List Expr}{m:PSt->Option Rs}{ms:PSt->Option RsL}{ap pos:Pos}(hpo:zjp o=true)(hln:(ap.endLine == pos.line)=true)(hlen:es.length<30)(hnil:es=[]->ms=za6)(ho:PE X o (tM X.K E ca m))(ha:PA X es (tMs X.K E ca ms))(hst:∀e∈es,zax e=true){m':PSt->Option Rs}(h:metA f m ms Γ.ox.mt=some m'):PE X (.Call (.Attribute o f ap) es [] pos) (tM X.K E ca m'):=by
 have key:∀L:List (Str×Addr×List Str×Fn),(∀c∈L,c∈Γ.ox.mt)->∀{m':PSt->Option Rs},metA f m ms L=some m'->PE X (.Call (.Attribute o f ap) es [] pos) (tM X.K E ca m'):=by
  intro L
  induction L with
  |nil=>intro _ m' h;cases h
  |cons c r ih =>
   obtain⟨g,C0,fs,F⟩:=c;intro hL m' h;have ih':=@ih (fun c hc=>hL c (ya8 _ hc))
   unfold metA at h;split at h
   ·rename_i hc;rw[ya2,decide_eq_true_eq,yb1]at hc;obtain⟨rfl,hnf⟩:=hc;obtain⟨hlv,⟨D⟩⟩:=C.gx.mt _ (hL _ (ya9 ..))
    have p1:PE X (.Call (.Attribute o g ap) es [] pos) (tM X.K E ca (zl4 C0 fs F.g m ms)):=by
     obtain⟨pl,ht⟩:=meth_tree (f:=g) (ap:=ap) (pos:=pos) (es:=es) (env:=X.env) hpo (by
      have:=zer (env:=X.env) (pos:=pos) hst;rw[yag];intro z hz;rw[List.any_eq_false]at this
      simpa using this z hz) hlen hln
     cases es with
     |cons e es=>exact r_meth D hnf C.room C.ps ho ha hlv (zb1 (hst e (ya9 ..))) (zer fun x hx=>hst x (ya8 e hx)) ht
     |nil =>
      refine PE.weak (pmx0 D C.room C.ps ho hlv ht) fun σ H Q h=>?_
      obtain⟨F,τ,R,S,q⟩:=tM_meth hnf h;refine⟨F,τ,R,S,?_⟩;cases hm:m τ with
      |none=>rw[hm]at q;exact q
      |some r =>
       rw[hm]at q;cases r with
       |x c=>exact q
       |v t b =>
        intro F1 H1 x B e1 g1;obtain⟨a,dx,fs',h1,h2,h3,h4⟩:=q F1 H1 x B e1 g1;refine⟨a,dx,fs',h1,h2,h3,?_⟩;rw[hnil rfl]at h4;exact ze8 h4
    split at h
    ·rename_i m2 hm2;cases h;exact r_alt p1 (ih' hm2)
    ·cases h;exact p1
   ·exact ih' h
 exact key _ (fun _ h=>h) h
theorem itV_ok{Γ:Gm}{X:Cx}{E:L2.St->XK}{tg e:Expr}{m:PSt->Option Rs}(h:PE X e (tM X.K E ca m)):PI X tg e (tI X.K E ca (itV Γ m)):=by
 unfold itV;split
 ·exact r_iTxt h
 ·exact r_iVal h
theorem dE_ok(G:Good ca n){Γ:Gm}{X:Cx}{E:L2.St->XK}{e:Expr}{m:PSt->Option Rs}(C:CxOk Γ X E ca)(h:dE (n+1) Γ e=some m):PE X e (tM X.K E ca m)/\(okT e=true->PT X e (tMB X.K E ca m)):=by
 have val:∀{e:Expr} {m:PSt->Option Rs},PE X e (tM X.K E ca m)->(match e with|.UnaryOp ..=>False|.BoolOp ..=>False|.IfExp ..=>False|.Compare ..=>False|_=>True)->PE X e (tM X.K E ca m)/\(okT e=true->PT X e (tMB X.K E ca m)):=fun h1 h2=>⟨h1,fun _=>r_tval h1 (tval_ok h2)⟩
 cases e with
 |Compare a ops bs pos=>exact⟨(dE_cmp G C h).1,fun _=>(dE_cmp G C h).2⟩
 |Constant c k pos =>
  cases c with
  |int i=>rw[zak]at h;unfold dEb at h;cases h;exact val (zhy pe_int fun _ _=>.int i) trivial
  |bool b=>rw[zak]at h;unfold dEb at h;cases h;exact val (zhy pe_bl fun _ _=>.bl b) trivial
  |none=>rw[zak]at h;unfold dEb at h;cases h;exact val (zhy pe_non fun _ _=>.non) trivial
  |str x=>rw[zak]at h;unfold dEb at h;cases h;exact val (zhy pe_str fun _ _=>.str x) trivial
  |_=>rw[zak]at h;unfold dEb at h;cases h
 |Name x pos =>
  rw[zak]at h;unfold dEb at h;simp only at h;split at h
  ·rename_i i hi;cases h;obtain⟨h1,h2,h3,h4⟩:=C.var (pos:=pos) hi;exact val (r_var h1 h2 h3 h4) trivial
  ·split at h
   ·rename_i hp;rw[ya2]at hp;obtain⟨t,ht,rfl⟩:=ya3.mp h;obtain⟨u,v,k1,k2,k3⟩:=C.gx.co x t ht;exact val (r_con (C.gl hp.2) k1 k2 (zb2 hp.1).1 k3) trivial
   ·cases h
 |Attribute o f pos =>
  rw[zak]at h;unfold dEb at h;simp only at h;split at h
  ·rename_i hpo;split at h
   ·rename_i m1 h1;exact val (fldA_ok C.gx.cl (G.e C h1) (base_ok hpo) h) trivial
   ·cases h
  ·cases h
 |BinOp a op b pos =>
  rw[zak]at h;unfold dEb at h;simp only at h;split at h
  ·rename_i g ma mb h1 h2 h3;cases h;exact val (r_bin (opF_ok h1) (G.e C h2) (G.e C h3)) trivial
  ·cases h
 |UnaryOp op a pos =>
  cases op with
  |USub =>
   rw[zak]at h;unfold dEb at h;simp only at h;split at h
   ·rename_i ma h1;cases h;have hp:=r_un (pos:=pos) unT_neg (G.e C h1);exact⟨hp,fun _=>r_tval hp fun _=>rfl⟩
   ·cases h
  |Not =>
   rw[zak]at h;unfold dEb at h;simp only at h;split at h
   ·rename_i hok;obtain⟨ma,h1,rfl⟩:=ya3.mp h;exact⟨r_not (G.e C h1),fun _=>r_tnot (G.t C hok h1)⟩
   ·cases h
  |_=>rw[zak]at h;unfold dEb at h;cases h
 |BoolOp op vs pos =>
  rw[zak]at h;unfold dEb at h;simp only at h;obtain⟨h1,h2⟩:=G.b (pos:=pos) C h;exact⟨h1,fun _=>h2.pt⟩
 |IfExp c a b pos =>
  rw[zak]at h;unfold dEb at h;simp only at h;split at h
  ·rename_i hok;split at h
   ·rename_i mc ma mb h1 h2 h3;cases h;exact⟨r_ife (G.t C hok h1) (G.e C h2) (G.e C h3),fun z=>by cases z⟩
   ·cases h
  ·cases h
 |List es pos =>
  rw[zak]at h;unfold dEb at h;obtain⟨ms,h1,rfl⟩:=ya3.mp h;exact val (r_lst (G.o C h1)) trivial
 |Tuple es k pos =>
  rw[zak]at h;unfold dEb at h;obtain⟨ms,h1,rfl⟩:=ya3.mp h;exact val (r_tup (G.a C h1)) trivial
 |Subscript a k pos =>
  rw[zak]at h;unfold dEb at h;simp only at h;split at h
  ·rename_i lo hi p2;split at h
   ·rename_i ma ml mh h1 h2 h3;cases h;unfold slA;split
    ·exact val (r_alt (r_slice (G.e C h1) (G.p C h2) (G.p C h3)) (r_sliceT (G.e C h1) (G.p C h2) (G.p C h3))) trivial
    exact val (r_slice (G.e C h1) (G.p C h2) (G.p C h3)) trivial
   ·cases h
  ·split at h
   ·cases h
   ·rename_i hs;split at h
    ·rename_i ma mk h1 h2;cases h;unfold ixA;split
     ·exact val (r_gt (by have:=C.room.units;omega) (G.e C h1) (G.e C h2) (plain_ix (yan.mpr hs))) trivial
     exact val (r_ix (G.e C h1) (G.e C h2) (plain_ix (yan.mpr hs))) trivial
    ·cases h
 |ListComp elt gens scope pos =>
  obtain⟨tg,iter,ifs,rfl,h⟩:=lc_dE h;exact val (G.c C h) trivial
 |Dict ks vs pos =>
  rw[zak]at h;unfold dEb at h;exact val (dicF_ok (fun e m he=>G.e C he) h) trivial
 |Call f args kws pos =>
  cases f with
  |Name f p =>
   cases args with
   |nil=>rw[zak]at h;unfold dEb at h;cases h
   |cons e es =>
    cases kws with
    |cons _ _=>rw[zak]at h;unfold dEb at h;cases h
    |nil =>
     rw[zak]at h;unfold dEb at h;simp only at h;split at h
     ·rename_i hp;rw[ya2]at hp;split at h
      ·rename_i hb;have hb':f∈Γ.bl:=yaw.mp hb;split at h
       ·rename_i hf;subst hf;split at h
        ·rename_i c p2;split at h
         ·rename_i hc;simp only[ya2]at hc;split at h
          ·rename_i t m' h1 h2;cases h;obtain⟨q1,q2,q3⟩:=zb2 hc.1.2;exact val (r_isT (tyName_ok h1) (C.gl hp.2) (C.bl _ hb') (C.gl hc.1.1.1) (C.bl _ (yaw.mp hc.1.1.2)) q3 q1 (G.e C h2) (zb1 hc.2)) trivial
          ·cases h
         ·
          split at h
          ·rename_i hc2;simp only[ya2]at hc2;split at h
           ·rename_i CC m' h1 h2;cases h;obtain⟨k1,k2⟩:=C.gx.ci c CC h1;exact val (r_isC k2 (C.gl hp.2) (C.bl _ hb') (C.gl hc2.1.1) k1 (zb2 hc2.1.2).1 (G.e C h2) (zb1 hc2.2)) trivial
           ·cases h
          ·cases h
        ·cases h
       ·
        split at h
        ·rename_i a pa pc hst;obtain⟨rfl,rfl,rfl⟩:=setOf_is hst;split at h
         ·rename_i hc;simp only[ya2]at hc;obtain⟨m1,h1,rfl⟩:=ya3.mp h;exact val (r_unq C.calm (C.gl hp.2) (C.bl _ hb') (C.gl hc.1.1) (C.bl _ (yaw.mp hc.1.2)) (G.e C h1) (zb1 (es:=[]) (env:=X.env) hc.2)) trivial
         ·cases h
        split at h
        ·rename_i hky;obtain⟨rfl,rfl,hat⟩:=kyOf_is hky;obtain⟨m1,h1,rfl⟩:=ya3.mp h;have hns:zax e=true:=by cases e<;>first|rfl|cases hat
         have hst:starEach [e] X.env=[(false,eval e X.env)]:=zb1 (es:=[]) (env:=X.env) hns;have hb1:bltG "list"=some (g1 zf0):=by kernel_rfl
         exact val (r_alt (bltG_ok C hb1 hp.2 hb' (r_cons (G.e C h1) r_nil hst) (fun x hx=>by rw[yae.mp hx];exact hns) hp.1) (r_kys C.calm (C.gl hp.2) (C.bl _ hb') (G.e C h1) hst)) trivial
        split at h
        ·rename_i g ms h1 h2;cases h;exact val (bltG_ok C h1 hp.2 hb' (G.a C h2) (ze6 h2) hp.1) trivial
        ·cases h
      ·
       split at h
       ·rename_i F ds hnw;split at h
        ·rename_i dts ms hds h2;cases h;obtain⟨hl,CC,D,hD⟩:=C.gx.nw f F ds hnw;obtain⟨dvs,us,k1,k2,k3⟩:=hD _ _ hds;obtain⟨q1,q2,q3⟩:=zb2 hp.1;have hst:=ze6 h2;exact val (r_new D k1 k2 k3 C.room C.ps (G.a C h2) hl (C.gl hp.2) q1 (zb1 (hst e (ya9 ..))) (zer fun x hx=>hst x (ya8 e hx))) trivial
        ·cases h
       split at h
       ·rename_i F ms h1 h2;cases h;obtain⟨hl,⟨D⟩⟩:=C.fs f F h1;obtain⟨q1,q2,q3⟩:=zb2 hp.1;have hst:=ze6 h2;exact val (r_call D C.room C.ps (G.a C h2) hl (C.gl hp.2) q1 (zb1 (hst e (ya9 ..))) (zer fun x hx=>hst x (ya8 e hx))) trivial
       ·cases h
     ·cases h
  |Attribute o m ap =>
   cases kws with
   |cons _ _=>rw[zak]at h;unfold dEb at h;cases h
   |nil =>
    rw[zak]at h;unfold dEb at h;simp only at h;split at h
    ·cases h
    rename_i hpo;rw[yb1,Bool.not_eq_false,ya2,ya2,decide_eq_true_eq]at hpo;obtain⟨⟨hpo,hl⟩,hlen⟩:=hpo;split at h
    ·rename_i mo ms h1 h2;split at h
     ·rename_i hf;subst hf;split at h
      ·rename_i k
       ·obtain⟨mk,h3,rfl⟩:=ya3.mp h;exact val (r_index (G.e C h1) (G.e C h3) (base_ok hpo) (zb1 (es:=[]) (env:=X.env) (ze6 h2 k (ya9 ..))) hl) trivial
      ·cases h
     split at h
     ·rename_i hf;subst hf;split at h
      ·rename_i k
       ·obtain⟨mk,h3,rfl⟩:=ya3.mp h;exact val (r_join (G.e C h1) (G.e C h3) (base_ok hpo) (zb1 (es:=[]) (env:=X.env) (ze6 h2 k (ya9 ..))) hl) trivial
      ·cases h
     exact val (metA_ok C hpo hl hlen (fun z=>dA_nil (z▸h2)) (G.e C h1) (G.a C h2) (ze6 h2) h) trivial
    ·cases h
  |_=>rw[zak]at h;unfold dEb at h;cases h
 |_=>rw[zak]at h;unfold dEb at h;cases h
theorem goodS(G:Good ca n):Good ca (n+1):=by
 constructor
 ·intro Γ X E e m C h;exact(dE_ok G C h).1
 ·intro Γ X E e m C hok h;exact(dE_ok G C h).2 hok
 ·intro Γ X E es m C h;unfold dA at h;cases es with
  |nil=>cases h;exact r_nil
  |cons e es =>
   simp only at h;split at h
   ·rename_i hs;split at h
    ·rename_i m1 ms h1 h2;cases h;exact r_cons (G.e C h1) (G.a C h2) (zb1 hs)
    ·cases h
   ·cases h
 ·intro Γ X E es m C h;unfold dO at h;cases es with
  |nil=>cases h;exact r_nilO
  |cons e es =>
   simp only at h;split at h
   ·rename_i hs;split at h
    ·rename_i m1 ms h1 h2;cases h;exact r_consO (G.e C h1) (G.o C h2) (zb1 hs)
    ·cases h
   ·cases h
 ·intro Γ X E op es m pos C h;unfold dB at h;cases es with
  |nil=>cases h
  |cons a r =>
   cases r with
   |nil =>
    simp only at h;split at h
    ·rename_i hok;refine⟨r_one (G.e C h),?_⟩;cases op with
     |And=>exact r_wone1 (G.t C hok h)
     |Or=>exact r_wone2 (G.t C hok h)
    ·cases h
   |cons b r =>
    simp only at h;split at h
    ·rename_i hok;split at h
     ·rename_i ma mb h1 h2;cases h;obtain⟨b1,b2⟩:=G.b (pos:=pos) C h2;exact⟨r_and (G.e C h1) b1,r_wand (G.t C hok h1) b2⟩
     ·rename_i ma mb h1 h2;cases h;obtain⟨b1,b2⟩:=G.b (pos:=pos) C h2;exact⟨r_or (G.e C h1) b1,r_wor (G.t C hok h1) b2⟩
     ·cases h
    ·cases h
 ·intro Γ X E o m C h;unfold dP at h;cases o with
  |none=>cases h;exact r_po0
  |some e =>
   simp only at h;obtain⟨m1,h1,rfl⟩:=ya3.mp h;exact r_po1 (G.e C h1)
 ·intro Γ X E elt tg iter ifs scope m pos C h;obtain⟨caps,mi,b,mt,me,rfl,B,hi,hg,ht,he,hs⟩:=dC_parts G C h;exact r_lcV B C.calm hi C.ps C.fr hg ht he hs
 ·intro Γ X E tg e m C h
  have gen:∀{m:PSt->Option RsL},(dE n Γ e).map (itV Γ)=some m->PI X tg e (tI X.K E ca m):=fun h=>by
   obtain⟨m1,h1,rfl⟩:=ya3.mp h;exact itV_ok (G.e C h1)
  unfold dI at h;split at h
  ·rename_i f p a pos;split at h
   ·rename_i hf;subst hf;split at h
    ·rename_i hc;simp only[ya2]at hc;obtain⟨ms,h1,rfl⟩:=ya3.mp h;exact r_range1 (C.gl hc.1.1) (C.bl _ (yaw.mp hc.1.2)) (G.a C h1) (zb1 hc.2)
    ·cases h
   ·exact gen h
  ·rename_i f p a b pos;split at h
   ·rename_i hf;subst hf;split at h
    ·rename_i hc;simp only[ya2]at hc;obtain⟨ms,h1,rfl⟩:=ya3.mp h;have s2:=zb1 (es:=[]) (env:=X.env) hc.2;exact r_range2 (C.gl hc.1.1.1) (C.bl _ (yaw.mp hc.1.1.2)) (G.a C h1) (by rw[zb1 hc.1.2,s2];rfl) s2
    ·cases h
   ·exact gen h
  ·cases h
  ·exact gen h
theorem good(ca:Str->Value):∀n,Good ca n
 |0=>good0 ca
 |n+1=>goodS (good ca n)
end
end Pu
set_option Elab.async false
set_option linter.all false
set_option maxRecDepth 100000
namespace Pu
open PySem PySem.Spec PyProof.Rows L2 Zw Zx
structure CxS(Γ:Gm)(X:Cx)(ca:Str->Value):Prop where
 N:X.N=Γ.N
 nd:Γ.N.Nodup
 nm:X.env.scope.names=Γ.nm
 un:X.A.units+64<cLine
 bl:∀b∈Γ.bl,X.mg b=none
 gx:GxOk Γ.ox Γ.lv X.prog X.w X.K X.mg X.base ca
theorem CxS.var{Γ:Gm}{X:Cx}{ca:Str->Value}(C:CxS Γ X ca){x:Str}{i:Nat}(h:Γ.var x=some i):X.N[i]?=some x/\Vis X.env.scope x/\(x == ("__debug__":Str))=false/\(x == ("__classdict__":Str))=false:=by
 unfold Gm.var at h;split at h
 ·rename_i hp;rw[ya2]at hp;obtain⟨p1,p2,p3⟩:=zb2 hp.1;exact⟨by rw[C.N];exact ze1 h,visN_iff (by rw[C.nm];exact hp.2),p1,p2⟩
 ·cases h
theorem CxS.gl{Γ:Gm}{X:Cx}{ca:Str->Value}(C:CxS Γ X ca){x:Str}(h:glN Γ.nm x=true):Gl X x:=by
 unfold glN at h;show X.env.scope.names.lookup x=some .globalImplicit;rw[C.nm];exact eq_of_beq h
def isOf:Expr->Option (Expr×Str×Pos×Pos×Pos)
 |.Call f es ks c=>(match nmOf f,es,ks with
  |some (g,p),[a,b],[]=>if g="isinstance" then (match nmOf b with
   |some (d,q)=>some (a,d,p,q,c)
   |none=>none) else none
  |_,_,_=>none)
 |_=>none
theorem isOf_is{t a:Expr}{d:Str}{p q c:Pos}(h:isOf t=some (a,d,p,q,c)):t=.Call (.Name "isinstance" p) [a,.Name d q] [] c:=by
 unfold isOf at h;split at h
 ·split at h
  ·rename_i h1;split at h
   ·rename_i hg;split at h
    ·rename_i h2;cases h;rw[zcc h1,zcc h2,hg]
    ·cases h
   ·cases h
  ·cases h
 ·cases h
def isOf2:Expr->Option (Expr×Str×Str×Pos×Pos×Pos×Pos×Pos×Nat)
 |.Call f es ks c=>(match nmOf f,es,ks with
  |some (g,p),[a,.Tuple ts k r],[]=>if g="isinstance" then (match ts with
   |[t1,t2]=>(match nmOf t1,nmOf t2 with
    |some (d1,q1),some (d2,q2)=>some (a,d1,d2,p,q1,q2,r,c,k)
    |_,_=>none)
   |_=>none) else none
  |_,_,_=>none)
 |_=>none
theorem isOf2_is{t a:Expr}{d1 d2:Str}{p q1 q2 r c:Pos}{k:Nat}(h:isOf2 t=some (a,d1,d2,p,q1,q2,r,c,k)):t=.Call (.Name "isinstance" p) [a,.Tuple [.Name d1 q1,.Name d2 q2] k r] [] c:=by
 unfold isOf2 at h;split at h
 ·split at h
  ·rename_i h1;split at h
   ·rename_i hg;split at h
    ·split at h
     ·rename_i h2 h3;cases h;rw[zcc h1,zcc h2,zcc h3,hg]
     ·cases h
    ·cases h
   ·cases h
  ·cases h
 ·cases h
mutual
noncomputable def dX:Nat->Gm->Expr->Option (PSt->Option Rs)
  |0,_,_=>none
  |n+1,Γ,e=>match isOf e with
    |some (a,d,_,_,_)=>if glN Γ.nm "isinstance" && Γ.bl.contains "isinstance" && glN Γ.nm d && zc6 d && zax a then (match dX n Γ a with
        |some m=>(match Γ.ox.sb.lookup d with
          |some tb=>some (mAp (g1 (isXT tb)) (za0 m za6))
          |none=>(match Γ.ox.sv.lookup d with
            |some tb=>some (mAp (g1 (isXT tb)) (za0 m za6))
            |none=>none))
        |none=>none) else none
    |none=>(match isOf2 e with
     |some (a,d1,d2,_,_,_,_,_,_)=>if glN Γ.nm "isinstance" && Γ.bl.contains "isinstance" && glN Γ.nm d1 && zc6 d1 && glN Γ.nm d2 && zc6 d2 && zax a then (match dX n Γ a,Γ.ox.sb.lookup d1,Γ.ox.sb.lookup d2 with
        |some m,some t1,some t2=>some (mAp (g1 (isX2T t1 t2)) (za0 m za6))
        |_,_,_=>none) else none
     |none=>match e with
      |.Constant (.bool b) _ _=>some (mC (.bl b))
      |.Constant (.str x) _ _=>some (mC (.str x))
      |.UnaryOp .Not a _=>(dX n Γ a).map zfc
      |.BoolOp .And [a,b] _=>(match dX n Γ a,dX n Γ b with
        |some ma,some mb=>some (mAnd ma mb)
        |_,_=>none)
      |.Name x _=>(Γ.var x).map za7
      |.List es _=>(dXo n Γ es).map zfi
      |.BinOp a .Add b _=>(match dX n Γ a,dX n Γ b with
        |some ma,some mb=>some (mAp (g2 zeq) (za0 ma (za0 mb za6)))
        |_,_=>none)
      |.BoolOp .And [a,b,c] _=>(match dX n Γ a,dX n Γ b,dX n Γ c with
        |some ma,some mb,some mc=>some (mAnd ma (mAnd mb mc))
        |_,_,_=>none)
      |.Compare a [.NotIn] [b] _=>(match dX n Γ a,dX n Γ b with
        |some ma,some mb=>if behindInMarks .NotIn b then none else some (mAp (g2 zfu) (za0 ma (za0 mb za6)))
        |_,_=>none)
      |.Compare a [.In] [b] _=>(match dX n Γ a,dX n Γ b with
        |some ma,some mb=>if behindInMarks .In b then none else some (mAp (g2 inT) (za0 ma (za0 mb za6)))
        |_,_=>none)
      |.Tuple [a,b] _ _=>if zax a && zax b then (match dX n Γ a,dX n Γ b with
        |some ma,some mb=>some (zgm (za0 ma (za0 mb za6)))
        |_,_=>none) else none
      |_=>none)
noncomputable def dXo:Nat->Gm->List Expr->Option (PSt->Option RsL)
 |0,_,_=>none
 |n+1,Γ,es=>match es with
  |[]=>some za6
  |e::es=>if zax e then (match dX n Γ e,dXo n Γ es with
   |some m,some ms=>some (zac m ms)
   |_,_=>none) else none
end
theorem dX_ok{ca:Str->Value}{E:L2.St->XK}:∀n:Nat,(∀{Γ:Gm} {X:Cx} {e:Expr} {m:PSt->Option Rs},CxS Γ X ca->dX n Γ e=some m->PE X e (tM X.K E ca m))/\(∀{Γ:Gm} {X:Cx} {es:List Expr} {m:PSt->Option RsL},CxS Γ X ca->dXo n Γ es=some m->PA X es (tMo X.K E ca m))
 |0=>⟨(fun C h=>by cases h),(fun C h=>by cases h)⟩
 |n+1=>by
  obtain⟨G1,G2⟩:=dX_ok (ca:=ca) (E:=E) n;refine⟨fun {Γ X e m} C h=>?_,fun {Γ X es m} C h=>?_⟩
  ·unfold dX at h;split at h
   ·rename_i a d p q c hi;have hi:=isOf_is hi;subst hi;split at h
    ·rename_i hc;simp only[ya2]at hc;obtain⟨⟨⟨⟨c1,c2⟩,c3⟩,c4⟩,c5⟩:=hc;obtain⟨p1,p2,p3⟩:=zb2 c4;split at h
     ·rename_i ma h1;split at h
      ·rename_i tb ht;cases h;obtain⟨A,k1,k2⟩:=C.gx.sb d tb ht;exact r_isX (C.gl c1) (C.bl _ (yaw.mp c2)) (zjr (v:=.ref A) (C.gl c3) k1 rfl p1) ⟨A,.inl rfl⟩ k2 (G1 C h1) (zb1 c5)
      ·split at h
       ·rename_i tb ht;cases h;obtain⟨k0,t,k1,k2⟩:=C.gx.sv d tb ht;exact r_isX (C.gl c1) (C.bl _ (yaw.mp c2)) (pe_bltn (v:=.ty t) (C.gl c3) k0 k1 rfl p3 p1) ⟨0,.inr ⟨t,rfl⟩⟩ k2 (G1 C h1) (zb1 c5)
       ·cases h
     ·cases h
    ·cases h
   ·split at h
    ·rename_i a d1 d2 p q1 q2 r c k hi;have hi:=isOf2_is hi;subst hi;split at h
     ·rename_i hc;simp only[ya2]at hc;obtain⟨⟨⟨⟨⟨⟨c1,c2⟩,c3⟩,c4⟩,c5⟩,c6⟩,c7⟩:=hc;split at h
      ·rename_i ma t1 t2 h1 ht1 ht2;cases h;obtain⟨A1,k1,k2⟩:=C.gx.sb d1 t1 ht1;obtain⟨A2,k3,k4⟩:=C.gx.sb d2 t2 ht2;exact r_isX2 (C.gl c1) (C.bl _ (yaw.mp c2)) (zjr (v:=.ref A1) (C.gl c3) k1 rfl (zb2 c4).1) (zjr (v:=.ref A2) (C.gl c5) k3 rfl (zb2 c6).1) k2 k4 (G1 C h1) (zb1 c7)
      ·cases h
     ·cases h
    split at h
    ·cases h;exact zhy pe_bl fun _ _=>.bl _
    ·cases h;exact zhy pe_str fun _ _=>.str _
    ·obtain⟨ma,h1,rfl⟩:=ya3.mp h;exact r_not (G1 C h1)
    ·split at h
     ·rename_i ma mb h1 h2;cases h;exact r_and (G1 C h1) (r_one (G1 C h2))
     ·cases h
    ·obtain⟨i,hi,rfl⟩:=ya3.mp h;obtain⟨h1,h2,h3,h4⟩:=C.var hi;exact r_var h1 h2 h3 h4
    ·obtain⟨ms,h1,rfl⟩:=ya3.mp h;exact r_lst (G2 C h1)
    ·split at h
     ·rename_i ma mb h1 h2;cases h;exact r_bin opT_add (G1 C h1) (G1 C h2)
     ·cases h
    ·split at h
     ·rename_i ma mb mc h1 h2 h3;cases h;exact r_and (G1 C h1) (r_and (G1 C h2) (r_one (G1 C h3)))
     ·cases h
    ·split at h
     ·rename_i ma mb h1 h2;split at h
      ·cases h
      ·rename_i hm;cases h;exact r_cmp (opT_notIn C.un) (G1 C h1) (G1 C h2) (yan.mpr hm)
     ·cases h
    ·split at h
     ·rename_i ma mb h1 h2;split at h
      ·cases h
      ·rename_i hm;cases h;exact r_cmp (opT_in C.un) (G1 C h1) (G1 C h2) (yan.mpr hm)
     ·cases h
    ·split at h
     ·rename_i hs;rw[ya2]at hs;split at h
      ·rename_i ma mb h1 h2;cases h;exact r_tup (r_cons (G1 C h1) (r_cons (G1 C h2) r_nil (zb1 hs.2)) (zb1 hs.1))
      ·cases h
     ·cases h
    ·cases h
  ·unfold dXo at h;cases es with
   |nil=>cases h;exact r_nilO
   |cons e es =>
    simp only at h;split at h
    ·rename_i hs;split at h
     ·rename_i m1 ms h1 h2;cases h;exact r_consO (G1 C h1) (G2 C h2) (zb1 hs)
     ·cases h
    ·cases h
def notComp:Expr->Bool
 |.ListComp ..=>false
 |.SetComp ..=>false
 |.DictComp ..=>false
 |_=>true
theorem swap_no'{e:Expr}{t:Option Expr}{l:Nat}{env:Env}(h:notComp e=true):swapsWith e t l env=pure false:=by
 cases e<;>first|rfl|cases h
noncomputable def dXs:Nat->Gm->List Stmt->Option (PSt->Option Out)
 |0,_,_=>none
 |n+1,Γ,ss=>match ss with
  |[]=>some sNx
  |[.Return (some e) _]=>(dX n Γ e).map zd2
  |.Assign [.Name x _] e _::r=>if Γ.loc x && (Γ.nm.lookup x == some .local) && notComp e then (match ixOf Γ.N x,dX n Γ e,dXs n Γ r with
   |some i,some m,some ms=>some (zas (zcd m (bNm i)) ms)
   |_,_,_=>none) else none
  |_=>none
theorem dXs_ok{ca:Str->Value}{E:L2.St->XK}:∀n:Nat,∀{Γ:Gm} {X:Cx} {ss:List Stmt} {m:PSt->Option Out},CxS Γ X ca->dXs n Γ ss=some m->PSs X ss (tS X.K E ca false m)
 |0,Γ,X,ss,m,C,h=>by cases h
 |n+1,Γ,X,ss,m,C,h=>by
  unfold dXs at h;split at h
  ·cases h;exact s_nil
  ·obtain⟨m1,h1,rfl⟩:=ya3.mp h;exact s_one (s_ret ((dX_ok n).1 C h1))
  ·rename_i xx px ee pe rr;split at h
   ·rename_i hc;simp only[ya2]at hc;split at h
    ·rename_i i m1 ms h1 h2 h3;cases h;have hl:X.env.scope.names.lookup xx=some .local:=by rw[C.nm];exact eq_of_beq hc.1.2
     exact s_cons (s_setN (by rw[C.N];exact C.nd) (by rw[C.N];exact ze1 h1) (.inl hl) ((dX_ok n).1 C h2) (swap_no' hc.2) (.inr hl)) (dXs_ok n C h3)
    ·cases h
   ·cases h
  ·cases h
end Pu
set_option Elab.async false
set_option linter.all false
set_option maxRecDepth 100000
namespace Pu
open PySem PySem.Spec PyProof.Rows L2 Zw Zx
def pkB:List Str:=["len","isinstance","all","any","abs","min","max","int"]
def zhv:Nat->List Str->Expr->List Str
 |0,_,_=>[]
 |n+1,pk,e =>
  let peek:=fun(x:Expr)=>match x with
   |.Name _ _=>[]
   |x=>zhv n pk x
  match e with
  |.Name x _=>[x]
  |.BinOp a _ b _=>zhv n pk a++zhv n pk b
  |.UnaryOp _ a _=>zhv n pk a
  |.BoolOp _ vs _=>vs.flatMap (zhv n pk)
  |.Compare a _ bs _=>peek a++bs.flatMap peek
  |.IfExp c a b _=>zhv n pk c++zhv n pk a++zhv n pk b
  |.Call (.Name f _) args [] _=>if pkB.contains f || pk.contains f then args.flatMap peek else args.flatMap (zhv n pk)
  |.Subscript a k _=>(match k with
   |.Slice lo hi _ _=>zhv n pk a++(match lo with|some e=>zhv n pk e|none=>[])++(match hi with|some e=>zhv n pk e|none=>[])
   |_=>peek a++zhv n pk k)
  |.List es _=>es.flatMap (zhv n pk)
  |.Tuple es _ _=>es.flatMap (zhv n pk)
  |.ListComp _ [⟨_,iter,_,_⟩] scope _=>zhv n pk iter++zfj scope.names
  |_=>[]
def useS(pk:List Str):Stmt->List Str
 |.Expr (.Call (.Attribute (.Name _ _) _ _) [e] [] _) _=>zhv 40 pk e
 |.Expr e _=>zhv 40 pk e
 |.Return (some (.Name _ _)) _=>[]
 |.Return (some e) _=>zhv 40 pk e
 |.Assign [.Subscript (.Subscript _ k _) j _] e _=>zhv 40 pk k++zhv 40 pk j++zhv 40 pk e
 |.Assign [.Subscript _ k _] e _=>zhv 40 pk k++zhv 40 pk e
 |.Assign [_] e _=>zhv 40 pk e
 |.If c _ _ _=>zhv 40 pk c
 |.For _ it _ _ _=>zhv 40 pk it
 |.While c _ _ _=>zhv 40 pk c
 |_=>[]
def borE(Γ:Gm)(e:Expr)(m:PSt->Option Rs):PSt->Option Rs:=m
section
variable {X:Cx}{E:L2.St->XK}{ca:Str->Value}{Γ:Gm}{m:PSt->Option Rs}{e:Expr}{σ:L2.St}{H:Hp}
theorem tM_borE{Q:VK}(h:tM X.K E ca (borE Γ e m) σ H Q):tM X.K E ca m σ H Q:=h
theorem tMB_borE{Q:Bool->Hp->Prop}(h:tMB X.K E ca (borE Γ e m) σ H Q):tMB X.K E ca m σ H Q:=h
theorem pe_borE(h:PE X e (tM X.K E ca m)):PE X e (tM X.K E ca (borE Γ e m)):=PE.weak h fun σ H Q h=>tM_borE h
theorem pt_borE(h:PT X e (tMB X.K E ca m)):PT X e (tMB X.K E ca (borE Γ e m)):=fun pins s σ H Q I q=>h pins s σ H Q I (tMB_borE q)
end
def frzs(Γ:Gm)(s:Stmt):List Nat :=
 ((useS Γ.pk s).filter (Γ.ow.contains ·)).eraseDups.filterMap (ixOf Γ.N)
def frzAll(l:List Nat)(m:PSt->Option Out):PSt->Option Out:=l.foldr (fun i m=>zas (sFrz i) m) m
def ze2:Expr->Bool
 |.ListComp ..=>true
 |.SetComp ..=>true
 |.DictComp ..=>true
 |_=>false
def swp(Γ:Gm)(x:Str)(px:Pos):Expr->Bool
 |.ListComp _ _ scope p=>Γ.nm.lookup x == some .local && px.line == p.line && !(scope.names.any fun(n,k)=>n == x && (k == .local || k == .cell))
 |_=>false
def swn(Γ:Gm)(x:Str):Bool:=Γ.nm.lookup x == some .cell
def sAsg(Γ:Gm)(x:Str)(i:Nat)(m:PSt->Option Rs):PSt->Option Out:=if Γ.ow.contains x then sOwn i m else zcd m (bNm i)
def zlm(c:Str)(ms:PSt->Option RsL):PSt->Option Out:=fun τ=>match ms τ with
 |some (.v ts _)=>if ts.length<=lim then some (.xc c τ) else none
 |some (.x c)=>some (.xc c τ)
 |none=>none
def par2(Γ:Gm)(x y:Str)(px py:Pos)(a b:Expr):Bool :=
 Γ.nm.lookup x == some .local && Γ.nm.lookup y == some .local && px.line == py.line && !(x == y) && zax a && zax b && !(foldedForSure 8 a && foldedForSure 8 b) && !(constantsAlone 8 a && constantsAlone 8 b) && zc6 x && zc6 y
def appOf:Expr->Option (Str×Pos×Str×Pos×Expr×Pos)
 |.Call f es ks c=>(match f,es,ks with
  |.Attribute o f a,[e],[]=>(match o with
   |.Name x p=>some (x,p,f,a,e,c)
   |_=>none)
  |_,_,_=>none)
 |_=>none
theorem appOf_is{t:Expr}{x f:Str}{p a c:Pos}{e:Expr}(h:appOf t=some (x,p,f,a,e,c)):t=.Call (.Attribute (.Name x p) f a) [e] [] c:=by
 unfold appOf at h;split at h
 ·split at h
  ·split at h
   ·cases h;rfl
   ·cases h
  ·cases h
 ·cases h
def clrOf:Expr->Option (Str×Pos×Str×Pos×Pos)
 |.Call f es ks c=>(match f,es,ks with
  |.Attribute o f a,[],[]=>(match o with
   |.Name x p=>some (x,p,f,a,c)
   |_=>none)
  |_,_,_=>none)
 |_=>none
theorem clrOf_is{t:Expr}{x f:Str}{p a c:Pos}(h:clrOf t=some (x,p,f,a,c)):t=.Call (.Attribute (.Name x p) f a) [] [] c:=by
 unfold clrOf at h;split at h
 ·split at h
  ·split at h
   ·cases h;rfl
   ·cases h
  ·cases h
 ·cases h
def tupOf:Expr->Option (List Expr×Nat×Pos)
 |.Tuple l k p=>some (l,k,p)
 |_=>none
theorem tupOf_is{t:Expr}{l:List Expr}{k:Nat}{p:Pos}(h:tupOf t=some (l,k,p)):t=.Tuple l k p:=by
 unfold tupOf at h;split at h
 ·cases h;rfl
 ·cases h
def parOf(ts:List Expr)(e:Expr):Option ((Str×Pos)×(Str×Pos)×Expr×Expr×Nat×Pos):=match ts with
 |[t,u]=>(match nmOf t,nmOf u,tupOf e with
  |some x,some y,some (l,k,p)=>(match l with
   |[a,b]=>some (x,y,a,b,k,p)
   |_=>none)
  |_,_,_=>none)
 |_=>none
theorem parOf_is{ts:List Expr}{e a b:Expr}{x y:Str}{px py p:Pos}{k:Nat}(h:parOf ts e=some ((x,px),(y,py),a,b,k,p)):ts=[.Name x px,.Name y py]/\e=.Tuple [a,b] k p:=by
 unfold parOf at h;split at h
 ·split at h
  ·rename_i h1 h2 h3;split at h
   ·cases h;exact⟨by rw[zcc h1,zcc h2],tupOf_is h3⟩
   ·cases h
  ·cases h
 ·cases h
def subOf:Expr->Option ((Str×Pos)×Expr×Pos)
 |.Subscript a k p=>(match nmOf a with
  |some x=>some (x,k,p)
  |none=>none)
 |_=>none
theorem subOf_is{t k:Expr}{x:Str}{q p:Pos}(h:subOf t=some ((x,q),k,p)):t=.Subscript (.Name x q) k p:=by
 unfold subOf at h;split at h
 ·split at h
  ·rename_i h1;cases h;rw[zcc h1]
  ·cases h
 ·cases h
def rseOf(a b:Option Expr):Option (Str×Pos×Expr×List Expr×Pos):=match a,b with
 |some a,none=>(match a with
  |.Call f es ks c=>(match nmOf f,es,ks with
   |some (x,p),e::es,[]=>some (x,p,e,es,c)
   |_,_,_=>none)
  |_=>none)
 |_,_=>none
theorem rseOf_is{a b:Option Expr}{x:Str}{p c:Pos}{e:Expr}{es:List Expr}(h:rseOf a b=some (x,p,e,es,c)):a=some (.Call (.Name x p) (e::es) [] c)/\b=none:=by
 unfold rseOf at h;split at h
 ·split at h
  ·split at h
   ·rename_i h1;cases h;exact⟨by rw[zcc h1],rfl⟩
   ·cases h
  ·cases h
 ·cases h
def isD0:Expr->Bool
 |.Dict ks vs _=>ks.isEmpty && vs.isEmpty
 |_=>false
theorem isD0_is{e:Expr}(h:isD0 e=true):∃p,e=.Dict [] [] p:=by
 unfold isD0 at h;split at h
 ·rename_i ks vs p;rw[ya2]at h;exact⟨p,by rw[ydh.mp h.1,ydh.mp h.2]⟩
 ·cases h
def atOf:Expr->Option ((Str×Pos)×Str×Pos)
 |.Attribute o f p=>(match nmOf o with
  |some x=>some (x,f,p)
  |none=>none)
 |_=>none
theorem atOf_is{t:Expr}{x f:Str}{q p:Pos}(h:atOf t=some ((x,q),f,p)):t=.Attribute (.Name x q) f p:=by
 unfold atOf at h;split at h
 ·split at h
  ·rename_i h1;cases h;rw[zcc h1]
  ·cases h
 ·cases h
noncomputable def dFld(n:Nat)(Γ:Gm)(x f:Str)(e:Expr):Option (PSt->Option Out):=match Γ.ox.sf,Γ.var x with
 |some (C,fs),some i=>(match fs.findIdx? (· == f) with
  |some j=>if (fs.take j).contains f || !(decide (j<900)) || ze2 e then none else if isD0 e then some (zhx C fs j i mDicS) else (dE n Γ e).map (zhx C fs j i)
  |none=>none)
 |_,_=>none
noncomputable def dDpf(n:Nat)(Γ:Gm)(x f:Str)(k e:Expr):Option (PSt->Option Out):=match Γ.ox.sf,Γ.var x with
 |some (C,fs),some i=>(match fs.findIdx? (· == f) with
  |some j=>if zg2 k || ze2 e then none else (match dE n Γ k,dE n Γ e with
   |some mk,some m=>some (sDpf C fs j i mk m)
   |_,_=>none)
  |none=>none)
 |_,_=>none
noncomputable def dAsg(n:Nat)(Γ:Gm)(t e:Expr):Option (PSt->Option Out):=match t with
    |.Name x px=>if Γ.loc x then (
     match ixOf Γ.N x,dE n Γ e with
      |some i,some m=>if ze2 e && !(swp Γ x px e) && !(swn Γ x) then none else some (sAsg Γ x i (borE Γ e m))
      |_,_=>none) else none
    |.Tuple ts kt pt=>(
      match parOf ts e with
      |some ((x,px),(y,py),a,b,_,_)=>if par2 Γ x y px py a b then (match ixOf Γ.N x,ixOf Γ.N y,dA n Γ [a,b] with
        |some i,some j,some ms=>some (sPar i j ms)
        |_,_,_=>none) else none
      |none =>
      if isTupE e || ze2 e then none else (match dG Γ (.Tuple ts kt pt),dE n Γ e with
        |some b,some m=>some (zcd m b)
        |_,_=>none))
    |.Subscript a j _=>(match subOf a with
      |some ((x,_),k,_) =>
        none
      |none=>(match nmOf a with
        |some (x,_)=>if zg2 j || ze2 e then none else (match Γ.var x,dE n Γ j,dE n Γ e with
          |some i,some mk,some m=>some (sSto i mk m)
          |_,_,_=>none)
        |none=>(match atOf a with
          |some ((x,_),f,_)=>dDpf n Γ x f j e
          |none=>none)))
    |.Attribute o f _=>(match nmOf o with
      |some (x,_)=>dFld n Γ x f e
      |none=>none)
    |_=>none
mutual
noncomputable def dS:Nat->Gm->Stmt->Option (PSt->Option Out)
  |0,_,_=>none
  |n+1,Γ,s=>match s with
    |.Pass _=>some sNx
    |.Break _=>some sBk
    |.Continue _=>some sCt
    |.Return o _=>(match o with
      |none=>if Γ.mu then some sRetMN else some sRetN
      |some e=>if Γ.mu then (dE n Γ e).map sRetM else (dE n Γ e).map zd2)
    |.Expr e _=>(match appOf e with
      |some (x,_,f,apos,a,cpos)=>if zax a && (apos.endLine == cpos.line) then (
       match Γ.var x,dE n Γ a with
        |some i,some m=>if f="append" then some (sApp i m) else
          none
        |_,_=>none) else none
      |none=>(match clrOf e with
        |some (x,_,f,apos,cpos) =>
          none
        |none=>(
          if ze2 e then none else (dE n Γ e).map sExp)))
    |.Assign ts e _=>(match ts with
      |[t]=>dAsg n Γ t e
      |_=>none)
    |.If c a b _=>(
      if okT c then (match dE n Γ c,dSs n Γ a,dSs n Γ b with
        |some mc,some u,some w=>some (sIf (borE Γ c mc) u w)
        |_,_,_=>none) else none)
    |.For tg it body els _=>if Γ.ox.nr then none else (
      (match els with
        |[]=>(match dI n Γ tg it,dG Γ tg,dSs n Γ body with
          |some mi,some b,some u=>some (sFor mi b u)
          |_,_,_=>none)
        |_=>none))
    |.While c body els _=>if Γ.ox.nr then none else (match els with
      |[]=>if okT c then (match dE n Γ c,dSs n Γ body with
        |some mc,some u=>some (sWh mc u)
        |_,_=>none) else none
      |_=>none)
    |.Raise a b _ =>
     (match rseOf a b with
      |some (c,_,e,es,_)=>if !(Γ.ox.nr) && Γ.ex.contains c && glN Γ.nm c && zc6 c then (dA n Γ (e::es)).map (zlm c) else none
      |none=>none)
    |.Try body hs els fin _=>(match hs,els,fin with
      |[.ExceptHandler (some t) none (b0::suite) _],[],[]=>(match nmOf t with
        |some (W,_)=>if Γ.ox.df && !(Γ.ox.nr) && !(Γ.mu) && glN Γ.nm W && zc6 W then (match Γ.ox.xs.lookup W,dSs n { Γ with ox:={ Γ.ox with nr:=true } } body,dXs n Γ (b0::suite) with
            |some cs,some u,some h=>some (sTry0 cs u h)
            |_,_,_=>none) else none
        |none=>none)
      |_,_,_=>none)
    |_=>none
noncomputable def dSs:Nat->Gm->List Stmt->Option (PSt->Option Out)
 |0,_,_=>none
 |n+1,Γ,ss=>match ss with
  |[]=>some sNx
  |[s]=>(match dS n Γ s with
   |some m=>some (frzAll (frzs Γ s) m)
   |none=>if Γ.ox.no then some sNo else none)
  |s::r=>(match dS n Γ s,dSs n Γ r with
   |some m,some ms=>some (frzAll (frzs Γ s) (zas m ms))
   |none,some ms=>if Γ.ox.no then some (zas sNo ms) else none
   |_,none=>none)
end
section
variable {X:Cx}{E:L2.St->XK}{ca:Str->Value}{Γ:Gm}{mu:Bool}
theorem s_frzAll{zgb:List Stmt}{w:PSt->Option Out}(h:PSs X zgb (tS X.K E ca mu w)):∀l:List Nat,PSs X zgb (tS X.K E ca mu (frzAll l w))
 |[]=>h
 |i::r=>s_frz (s_frzAll h r)
theorem zj4{e:Expr}{t:Option Expr}{l:Nat}{env:Env}(h:ze2 e=false):swapsWith e t l env=pure false:=by
 cases e<;>first|rfl|cases h
theorem ziq{env:Env}(h:env.scope.kind=.function):env.blockKind=.function:=by
 unfold Env.blockKind;rw[h]
 rfl
theorem swap_yes(C:CxOk Γ X E ca){elt:Expr}{gens:List Comprehension}{scope:Scope}{p px:Pos}{x:Str}{l:Nat}(h:swp Γ x px (.ListComp elt gens scope p)=true):swapsWith (.ListComp elt gens scope p) (some (.Name x px)) l X.env=pure true:=by
 have e:swapsWith (.ListComp elt gens scope p) (some (.Name x px)) l X.env=pure (X.env.blockKind == .function && X.env.kindOf x == some .local && px.line == p.line && !(scope.names.any fun(n,k)=>n == x && (k == .local || k == .cell))):=rfl
 rw[e];unfold swp at h
 simp only[ya2]at h;have k:X.env.kindOf x=some .local:=by
  show X.env.scope.names.lookup x=some .local;rw[C.nm];exact eq_of_beq h.1.1
 rw[ziq C.kd,k,h.1.2,h.2]
 rfl
theorem swap_no(C:CxOk Γ X E ca){e:Expr}{px:Pos}{x:Str}{l:Nat}(h:swn Γ x=true):swapsWith e (some (.Name x px)) l X.env=pure false:=by
 have k:X.env.kindOf x=some .cell:=by
  show X.env.scope.names.lookup x=some .cell;rw[C.nm];exact eq_of_beq h
 have c:(some NameKind.cell == some NameKind.local)=false:=rfl;cases e<;>first|rfl|(unfold swapsWith;simp only[k,c,Bool.and_false,yd4])
theorem stores_yes(C:CxOk Γ X E ca){x y:Str}{px py pt p2:Pos}{kt k2:Nat}{a b:Expr}(h:par2 Γ x y px py a b=true):swappedStores [.Tuple [.Name x px,.Name y py] kt pt] (.Tuple [a,b] k2 p2) X.env=pure (some [x,y]):=by
 unfold par2 at h;simp only[ya2,yb1,beq_iff_eq]at h;obtain⟨⟨⟨⟨⟨⟨⟨⟨⟨h1,h2⟩,h3⟩,h4⟩,h5⟩,h6⟩,h7⟩,h8⟩,_⟩,_⟩:=h
 have kx:X.env.kindOf x=some .local:=by
  show X.env.scope.names.lookup x=some .local;rw[C.nm];exact h1
 have ky:X.env.kindOf y=some .local:=by
  show X.env.scope.names.lookup y=some .local;rw[C.nm];exact h2
 have ed:([x,y]:List Str).eraseDups=[x,y]:=by
  have:(y == x)=false:=by
   rw[beq_eq_false_iff_ne]at h4 ⊢;exact yaz h4
  simp[List.eraseDups_cons,this,h4]
 have f1:(if (X.env.kindOf x == some NameKind.local && px.line == px.line)=true then some x else none)=some x:=by rw[kx,beq_self_eq_true,beq_self_eq_true];rfl
 have f2:(if (X.env.kindOf y == some NameKind.local && py.line == px.line)=true then some y else none)=some y:=by rw[ky,beq_self_eq_true,<- h3,beq_self_eq_true];rfl
 unfold swappedStores;dsimp only[List.length,List.any,List.all,List.filterMap,List.head?,Option.map,Option.getD,Expr.pos];simp only[f1,f2,ed];refine(if_neg ?_).trans ((if_neg ?_).trans ((if_neg ?_).trans ((if_neg ?_).trans (if_neg ?_))))
 ·rw[ziq C.kd]
  decide
 ·intro z;rw[yc5,ybg]at z
  rcases z with z|z
  ·cases a<;>first|(cases h5;done)|(cases z;done)
  ·cases b<;>first|(cases h6;done)|(cases z;done)
 ·show ¬ ((2 != 2 || 2 != 2)=true)
  decide
 ·rw[yda,h7];exact yav
 ·rw[yda,h8];exact yav
theorem sole{t e:Expr}{l:Nat}{env:Env}(h:ze2 e=false):swapsWithSole [t] e l env=pure false:=zj4 h
theorem sub_asg{o k:Expr}{pos:Pos}{env:Env}(h:zg2 k=false)(v:Value):assign (.Subscript o k pos) env v=(do
   let ov <- holding [v] (eval o env);let iv <- holding [v,ov] (eval k env)
   standAt pos
   holding [v,ov,iv] (setItem ov iv v)
   release [v,ov,iv] []):=by
 cases k<;>first|rfl|cases h
theorem s_lcS{n:Nat}{elt:Expr}{gens:List Comprehension}{scope:Scope}{p px pos:Pos}{x:Str}{i:Nat}{m:PSt->Option Rs}(C:CxOk Γ X E ca)(h:dE n Γ (.ListComp elt gens scope p)=some m)(hw:swp Γ x px (.ListComp elt gens scope p)=true)(hi:ixOf Γ.N x=some i) :
  PS X (.Assign [.Name x px] (.ListComp elt gens scope p) pos) (tS X.K E ca mu (sAsg Γ x i (borE Γ (.ListComp elt gens scope p) m))):=by
 have lx:X.env.scope.names.lookup x=some .local:=by
  unfold swp at hw;simp only[ya2]at hw;rw[C.nm];exact eq_of_beq hw.1.1
 have hN:X.N[i]?=some x:=by rw[C.N];exact ze1 hi
 have main:PS X (.Assign [.Name x px] (.ListComp elt gens scope p) pos) (fun D σ H=>tM X.K E ca m σ H fun v H1=>D.nx (σ.set i (some v)) H1):=by
  cases n with
  |zero=>cases h
  |succ n =>
   obtain⟨tg,iter,ifs,rfl,h⟩:=lc_dE h;cases n with
   |zero=>cases h
   |succ n =>
    obtain⟨caps,mi,b,mt,me,rfl,B,hi',hg,ht,he,hs⟩:=dC_parts (good ca n) C h;exact r_lcS B C.calm hi' C.ps C.fr hg ht he hs C.nodup hN lx (swap_yes C hw)
 unfold sAsg;split
 ·exact PS.weak main fun D σ H h=>tM_borE (tS_own h)
 ·exact PS.weak main fun D σ H h=>tM_borE (tS_set (g:=gName i) (fun _ _ _ _ z=>gName_of z) h)
theorem s_asg{n:Nat}{e:Expr}{px pos:Pos}{x:Str}{i:Nat}{m:PSt->Option Rs}(C:CxOk Γ X E ca)(hl:Γ.loc x=true)(hi:ixOf Γ.N x=some i)(h:dE n Γ e=some m)(hc:(ze2 e && !(swp Γ x px e) && !(swn Γ x))=false) :
  PS X (.Assign [.Name x px] e pos) (tS X.K E ca mu (sAsg Γ x i (borE Γ e m))):=by
 have plain:(∀l,swapsWith e (some (.Name x px)) l X.env=pure false)->PS X (.Assign [.Name x px] e pos) (tS X.K E ca mu (sAsg Γ x i (borE Γ e m))):=fun sw=>by
  obtain⟨g1,g2,g3⟩:=C.loc hl hi;have he:=pe_borE (Γ:=Γ) ((good ca n).e C h);unfold sAsg;split
  ·exact s_ownN C.nodup g1 g2 he (sw _) g3
  ·exact s_setN C.nodup g1 g2 he (sw _) g3
 cases hcomp:ze2 e with
 |false=>exact plain fun l=>zj4 hcomp
 |true =>
  rw[hcomp]at hc;cases hn:swn Γ x with
  |true=>exact plain fun l=>swap_no C hn
  |false =>
   rw[hn]at hc;have hw:swp Γ x px e=true:=by simpa using hc
   cases e with
   |ListComp elt gens scope p=>exact s_lcS C h hw hi
   |_=>cases hw
theorem s_rse{c:Str}{e:Expr}{es:List Expr}{ms:PSt->Option RsL}{p cpos pos:Pos}(C:CxOk Γ X E ca)(hnr:Γ.ox.nr=false)(hc:c∈Γ.ex)(hg:glN Γ.nm c=true)(hp:zc6 c=true)(ha:PA X (e::es) (tMs X.K E ca ms))(hs:∀x∈e::es,zax x=true) :
  PS X (.Raise (some (.Call (.Name c p) (e::es) [] cpos)) none pos) (tS X.K E ca mu (zlm c ms)):=by
 obtain⟨T,hT⟩:=C.ex c hc;obtain⟨p1,p2,p3⟩:=zb2 hp;refine PS.weak (ps_raise T C.calm (C.md hnr) ha (C.gl hg) p1 (zb1 (hs e (ya9 ..))) (zer hs)) fun D σ H h=>?_
 obtain⟨F,τ,R,S,q⟩:=h;refine⟨F,τ,R,S,?_⟩;unfold zlm at q;cases hm:ms τ with
 |none=>simp only[hm]at q
 |some r =>
  simp only[hm]at q;cases r with
  |x c=>exact fun F' H' e=>q F' H' σ R e.stp0 (S.ext e)
  |v ts b =>
   intro F' H' xs e1 rs
   by_cases hz:ts.length<=lim
   ·simp only[hz,if_true]at q;refine⟨by rw[<- rs.1,<- zfd];exact hz,?_⟩
    have:=q F' H' σ R e1.stp0 (S.ext e1);rw[hT]at this;exact this
   ·simp only[hz,if_false]at q
structure GoodS(ca:Str->Value)(n:Nat):Prop where
 s:∀{Γ:Gm} {X:Cx} {E:L2.St->XK} {st:Stmt} {m:PSt->Option Out},CxOk Γ X E ca->dS n Γ st=some m->PS X st (tS X.K E ca Γ.mu m)
 ss:∀{Γ:Gm} {X:Cx} {E:L2.St->XK} {st:List Stmt} {m:PSt->Option Out},CxOk Γ X E ca->dSs n Γ st=some m->PSs X st (tS X.K E ca Γ.mu m)
end
theorem dAsg_ok{ca:Str->Value}{n:Nat}{Γ:Gm}{X:Cx}{E:L2.St->XK}{t e:Expr}{pos:Pos}{m:PSt->Option Out}(C:CxOk Γ X E ca)(h:dAsg n Γ t e=some m):PS X (.Assign [t] e pos) (tS X.K E ca Γ.mu m):=by
 have GE:=good ca n;unfold dAsg at h;split at h
 ·rename_i x px;split at h
  ·rename_i hl;split at h
   ·rename_i i m1 h1 h2;split at h
    ·cases h
    ·rename_i hc;cases h;exact s_asg C hl h1 h2 (yan.mpr hc)
   ·cases h
  ·cases h
 ·rename_i ts kt pt;split at h
  ·rename_i x px y py a b k2 p2 hpar;obtain⟨rfl,rfl⟩:=parOf_is hpar;split at h
   ·rename_i hp;split at h
    ·rename_i i j ms h1 h2 h3;cases h;have hp':=hp;unfold par2 at hp';simp only[ya2,yb1,beq_iff_eq]at hp';obtain⟨⟨⟨⟨⟨⟨⟨⟨⟨g1,g2⟩,g3⟩,g4⟩,_⟩,_⟩,_⟩,_⟩,_⟩,_⟩:=hp';have e1:X.N[i]?=some x:=by rw[C.N];exact ze1 h1
     have e2:X.N[j]?=some y:=by rw[C.N];exact ze1 h2
     have hij:i≠j:=fun z=>by
      subst z;rw[e1]at e2;cases e2;simp at g4
     exact s_par C.calm C.nodup e1 e2 hij (by rw[C.nm];exact g1) (by rw[C.nm];exact g2) (GE.a C h3) (stores_yes C hp) rfl
    ·cases h
   ·cases h
  split at h
  ·cases h
  ·rename_i hc;split at h
   ·rename_i b m1 h1 h2;cases h;have hc':(isTupE e || ze2 e)=false:=yan.mpr hc
    rw[ybb]at hc';refine s_setG (GE.e C h2) (dG_ok C h1) ?_ ?_ rfl
    ·exact sole hc'.2
    ·have ht:=hc'.1;cases e<;>first|rfl|cases ht
   ·cases h
 ·rename_i a j p3;split at h
  ·rename_i x p1 k p2 hsub;have hsub:=subOf_is hsub;subst hsub;cases h
  ·split at h
   ·rename_i x p1 hnm;have hnm:=zcc hnm;subst hnm;split at h
    ·cases h
    ·rename_i hc;split at h
     ·rename_i i mk m1 h1 h2 h3;have hc':(zg2 j || ze2 e)=false:=yan.mpr hc
      rw[ybb]at hc';obtain⟨v1,v2,v3,v4⟩:=C.var (pos:=p1) h1;cases h;refine s_sto v1 v2 v3 v4 (GE.e C h3) (GE.e C h2) (sole hc'.2) ?_ (sub_asg hc'.1);cases e<;>rfl
     ·cases h
   ·split at h
    ·rename_i x p1 f p2 hat;have hat:=atOf_is hat;subst hat;unfold dDpf at h;split at h
     ·rename_i CC fs i hsf hv;split at h
      ·rename_i jj hj;split at h
       ·cases h
       ·rename_i hc;have hc':(zg2 j || ze2 e)=false:=yan.mpr hc
        rw[ybb]at hc';split at h
        ·rename_i mk m1 h1 h2;cases h;obtain⟨v1,v2,v3,v4⟩:=C.var (pos:=p1) hv;obtain⟨k1,k2⟩:=C.gx.sf CC fs hsf
         have hf:f∈fs:=by
          obtain⟨q1,q2,_⟩:=yb2.mp hj;rw[<- eq_of_beq q2];exact yac q1
         refine s_dpf (by have:=C.room.units;omega) k1 (k2 f hf) hj v1 v2 v3 v4 (GE.e C h2) (GE.e C h1) (sole hc'.2) ?_ (sub_asg hc'.1)
         cases e<;>rfl
        ·cases h
      ·cases h
     ·cases h
    ·cases h
 ·rename_i o f p2;split at h
  ·rename_i x p1 hn;have hn:=zcc hn;subst hn;unfold dFld at h;split at h
   ·rename_i CC fs i hsf hv;split at h
    ·rename_i jj hj;split at h
     ·cases h
     ·rename_i hc;have hc':((fs.take jj).contains f || !(decide (jj<900)) || ze2 e)=false:=yan.mpr hc
      rw[ybb,ybb,Bool.not_eq_false',decide_eq_true_eq]at hc';obtain⟨⟨c1,c2⟩,c3⟩:=hc';obtain⟨v1,v2,v3,v4⟩:=C.var (pos:=p1) hv;obtain⟨k1,k2⟩:=C.gx.sf CC fs hsf;obtain⟨q1,q2,_⟩:=yb2.mp hj
      have hf:f∈fs:=by
       rw[<- eq_of_beq q2];exact yac q1
      have hg:fs[jj]?=some f:=by rw[ya0 q1];exact congrArg some (eq_of_beq q2)
      split at h
      ·rename_i h0;obtain⟨p0,rfl⟩:=isD0_is h0;cases h;exact s_fldA k1 (k2 f hf) hg c1 c2 v1 v2 v3 v4 r_dicS rfl
      ·obtain⟨m1,h1,rfl⟩:=ya3.mp h;exact s_fldA k1 (k2 f hf) hg c1 c2 v1 v2 v3 v4 (GE.e C h1) (zj4 c3)
    ·cases h
   ·cases h
  ·cases h
 ·cases h
theorem dS_ok{ca:Str->Value}{n:Nat}(G:GoodS ca n){Γ:Gm}{X:Cx}{E:L2.St->XK}{st:Stmt}{m:PSt->Option Out}(C:CxOk Γ X E ca)(h:dS (n+1) Γ st=some m):PS X st (tS X.K E ca Γ.mu m):=by
 have GE:=good ca n;unfold dS at h;split at h
 ·cases h;exact s_pass
 ·cases h;exact s_break
 ·cases h;exact s_continue
 ·split at h
  ·split at h
   ·rename_i hmu;cases h;rw[hmu];exact s_retMN
   ·rename_i hmu;cases h;rw[yan.mpr hmu];exact s_retN
  ·split at h
   ·rename_i hmu;obtain⟨m1,h1,rfl⟩:=ya3.mp h;rw[hmu];exact s_retM (GE.e C h1)
   ·rename_i hmu;rw[yan.mpr hmu];obtain⟨m1,h1,rfl⟩:=ya3.mp h;exact s_ret (GE.e C h1)
 ·split at h
  ·rename_i x p f apos e cpos happ;have happ:=appOf_is happ;subst happ;split at h
   ·rename_i hc;rw[ya2]at hc;split at h
    ·rename_i i m1 h1 h2;obtain⟨v1,v2,v3,v4⟩:=C.var (pos:=p) h1;have s1:=zb1 (es:=[]) (env:=X.env) hc.1;split at h
     ·rename_i hf;subst hf;cases h;exact s_app v1 v2 v3 v4 (GE.e C h2) s1 hc.2
     ·cases h
    ·cases h
   ·cases h
  ·split at h
   ·rename_i x p f apos cpos hclr;have hclr:=clrOf_is hclr;subst hclr;cases h
   ·
    split at h
    ·cases h
    ·rename_i hc;obtain⟨m1,h1,rfl⟩:=ya3.mp h;exact s_exp (GE.e C h1) (zj4 (yan.mpr hc))
 ·split at h
  ·exact dAsg_ok C h
  ·cases h
 ·rename_i c a b pos;split at h
  ·rename_i hok;split at h
   ·rename_i mc u w h1 h2 h3;cases h;exact s_if (pt_borE (GE.t C hok h1)) (G.ss C h2) (G.ss C h3)
   ·cases h
  ·cases h
 ·split at h
  ·cases h
  rename_i hnr;split at h
  ·split at h
   ·rename_i mi b u h1 h2 h3;cases h;exact s_for (C.po (yan.mpr hnr)) C.calm (GE.i C h1) (dG_ok C h2) (G.ss C h3) (fold_ok (zkj h1))
   ·cases h
  ·cases h
 ·split at h
  ·cases h
  rename_i hnr;split at h
  ·split at h
   ·rename_i hok;split at h
    ·rename_i mc u h1 h2;cases h;exact s_wh (C.po (yan.mpr hnr)) (GE.t C hok h1) (G.ss C h2)
    ·cases h
   ·cases h
  ·cases h
 ·
  split at h
  ·rename_i c p e es cpos hr;obtain⟨rfl,rfl⟩:=rseOf_is hr;split at h
   ·rename_i hc;simp only[ya2,yb1]at hc;obtain⟨ms,h1,rfl⟩:=ya3.mp h;exact s_rse C hc.1.1.1 (yaw.mp hc.1.1.2) hc.1.2 hc.2 (GE.a C h1) (ze6 h1)
   ·cases h
  ·cases h
 ·rename_i body hs els fin pos;split at h
  ·rename_i t b0 suite hpos;split at h
   ·rename_i W np hW;have hW:=zcc hW;subst hW;split at h
    ·rename_i hc;simp only[ya2,yb1]at hc;obtain⟨⟨⟨⟨c1,c2⟩,c3⟩,c5⟩,c6⟩:=hc;split at h
     ·rename_i cs u hh h2 h3 h4;cases h;obtain⟨T,hT⟩:=C.gx.xs W cs h2;obtain⟨t1,t2⟩:=C.tr c1;rw[c3];refine s_try0 (mu:=false) T hT t1 t2 (fun E' pins xe hp=>?_) (fun a=>?_) (C.gl c5) (zb2 c6).1
      ·have C':CxOk { Γ with ox:={ Γ.ox with nr:=true } } (cxTry X pins xe) E' ca:=⟨C.N,C.nd,C.nm,C.kd,C.calm,C.room,C.ce,C.bl,hp,fun z=>(by cases z),fun z=>(by cases z),C.fs,C.ex,C.ms,⟨C.gx.co,C.gx.cl,C.gx.mt,C.gx.nw,C.gx.sf,C.gx.xs,C.gx.sb,C.gx.sv,C.gx.ci,C.gx.x2⟩,C.tr,C.fr⟩
       have g:=G.ss C' h3;have e:(({ Γ with ox:={ Γ.ox with nr:=true } }:Gm)).mu=false:=c3
       rw[e]at g;exact g
      ·exact dXs_ok n ⟨C.N,C.nd,C.nm,C.room.units,C.bl,C.gx⟩ h4
     ·cases h
    ·cases h
   ·cases h
  ·cases h
 ·cases h
theorem goodSt(ca:Str->Value):∀n,GoodS ca n
 |0=>⟨(fun C h=>by cases h),(fun C h=>by cases h)⟩
 |n+1=>by
  have G:=goodSt ca n;refine⟨fun C h=>dS_ok G C h,fun {Γ X E st m} C h=>?_⟩
  unfold dSs at h;cases st with
  |nil=>cases h;exact s_nil
  |cons s r =>
   cases r with
   |nil =>
    simp only at h;split at h
    ·rename_i m1 h1;cases h;exact s_frzAll (s_one (G.s C h1)) _
    ·split at h
     ·cases h;exact s_one s_no
     ·cases h
   |cons s2 r =>
    simp only at h;split at h
    ·rename_i m1 ms h1 h2;cases h;exact s_frzAll (s_cons (G.s C h1) (G.ss C h2)) _
    ·rename_i ms h1 h2;split at h
     ·cases h;exact s_cons s_no (G.ss C h2)
     ·cases h
    ·cases h
def runF(n:Nat)(u:PSt->Option Out)(ts:List T):Option Ru:=match u (ts.map some++List.replicate (n - ts.length) none) with
 |some (.rt t)=>some (.ok t)
 |some (.nx _)=>some (.ok .non)
 |some (.xc c _)=>some (.exc c)
 |_=>none
def zdw(k n:Nat)(u:PSt->Option Out)(ts:List T):Option Ru:=if ts.length=k then runF n u ts else none
theorem stp_ext{F H F' H':Hp}{O':Rg}{R:Nat->Rg}(hR:∀i a,¬ R i a)(s:Stp F H (tot R) F' H' O'):Ext F H F' H' O' where
 hh:=fun b u e=>s.kp b u (fun⟨i,z⟩=>hR i b z) e
 ff:=s.ff
 fh:=s.fh
 nb:=fun b z=>(s.nw b z).elim (fun⟨i,w⟩=>absurd w (hR i b)) id
 nf:=fun b u e=>(s.nf b u e).elim .inl fun z=>z.elim (fun⟨i,w⟩=>absurd w (hR i b)) .inr
theorem start_st{K:PySem.W.Frag}{F H:Hp}{N:List Str}{ts:List T}{vs:List V}(fh:zbs F H)(r:Rps K F ts vs):StR K F H (start N vs) (ts.map some++List.replicate (N.length - ts.length) none) (fun _=>R0):=by
 have hl:=r.1;refine⟨fh,by simp[L2.start,hl],fun i t e=>?_,fun _ _ z=>z.elim,fun _ _ _ _ z=>z.elim⟩
 unfold L2.start
 by_cases hi:i<ts.length
 ·rw[yas (by simpa using hi),ya5]at e
  obtain⟨t',e1,e2⟩:=ya3.mp e;cases e2;have hv:i<vs.length:=by omega
  refine⟨vs[i],?_,(r.2 i t vs[i] e1 (ya0 hv)).any⟩;rw[yas (by simpa using hv),ya5,ya0 hv]
  rfl
 ·rw[yb0 (by simp;omega)]at e
  obtain⟨h1,h2⟩:=ya6.mp e;simp at h2
theorem zbh{P:Program}{w:World}{K:PySem.W.Frag}{mg:Str->Option Value}{base:Heap}{ca:Str->Value}{x qual:Str}{st:Stmt}{f:Addr}{fd:FuncData}{N ps:List Str}{k n:Nat}{Γ:Gm}{u:PSt->Option Out}(F:FunD K x qual st f fd)(S:FnScope N ps (za4 st))
  (hΓ:Γ.N=N) (hnm:Γ.nm=(za4 st).names) (hce:∀x∈Γ.ce,Γ.nm.lookup x=some .cell) (hlv:Γ.lv=k) (hbl:∀b∈Γ.bl,mg b=none)
  (hfs:∀f F,Γ.fns.lookup f=some F->F.lv<=k/\Nonempty (DefX P w K mg base F.lv f F.ps (spP K ca F.g))) (hex:∀c∈Γ.ex,∃T:ECls K mg c,ca c=.ref T.C)
  (hms:∀f F,Γ.mus.lookup f=some F->F.lv<=k/\Nonempty (DefX P w K mg base F.lv f F.ps (spM K ca F.g))) (hmu:Γ.mu=false) (hgx:GxOk Γ.ox k P w K mg base ca) (hu:dSs n Γ (zab st)=some u):FnOk P w K mg base (CX1 P w) (k+1) f fd ps (spP K ca (zdw ps.length N.length u)):=by
 refine okX F S (fun vs H Q E h=>?_) fun cdv A outer s H vs Q E hr h=>?_
 ·obtain⟨F',ts,_,r,q⟩:=h;unfold zdw at q
  by_cases hl:ts.length=ps.length
  ·rw[<- r.1,hl]
  ·simp only[hl,if_false]at q
 ·have C:CxOk Γ (cxOf (CX1 P w) P w K mg base N qual (za4 st) f cdv A outer s H E) (fun _=>E) ca:=by
   refine⟨hΓ.symm,by rw[hΓ];exact S.nd,hnm.symm,S.kind,rfl,by rw[hlv];exact hr,fun y hy=>⟨rfl,hce y hy⟩,hbl,passD,fun _=>PassesOwn.leaving,fun _=>madeD,fun f F e=>by rw[hlv];exact hfs f F e,hex,fun f F e=>by rw[hlv];exact hms f F e,by rw[hlv];exact hgx,fun _=>⟨rfl,rfl⟩,⟨_,_,rfl,rfl⟩⟩
  have G:=(goodSt ca n).ss C hu;rw[hmu]at G;refine⟨_,G,?_⟩;obtain⟨F',ts,fh,r,q⟩:=h;refine⟨F',_,_,start_st fh r,?_⟩;unfold zdw at q
  by_cases hl:ts.length=ps.length
  ·simp only[hl,if_true]at q;unfold runF at q;cases ho:u (ts.map some++List.replicate (N.length - ts.length) none) with
   |none=>simp only[ho]at q
   |some o =>
    simp only[ho]at q;cases o with
    |nx τ=>exact fun F1 H1 σ1 R1 s1 S1=>q F1 H1 .non R0 ((stp_ext (fun _ _ z=>z) s1).mono fun _ z=>z.elim) .non
    |rt t=>exact fun F1 H1 x B s1 r1=>q F1 H1 x B (stp_ext (fun _ _ z=>z) s1) r1
    |bk τ=>exact q.elim
    |ct τ=>exact q.elim
    |xc c τ=>exact fun F1 H1 σ1 R1 s1 S1=>q F1 H1 ((stp_ext (fun _ _ z=>z) s1).mono fun _ z=>z.elim)
  ·simp only[hl,if_false]at q
def runM(k n:Nat)(u:PSt->Option Out)(ts:List T):Option Ru:=if ts.length=k then (match u (ts.map some++List.replicate (n - ts.length) none) with
 |some (.rt t)=>some (.ok t)
 |some (.nx τ)=>(match retAt .non τ with
  |some (.rt t)=>some (.ok t)
  |_=>none)
 |some (.xc c _)=>some (.exc c)
 |_=>none) else none
theorem start_stM{K:PySem.W.Frag}{F H:Hp}{N:List Str}{t0:T}{ts:List T}{x0:V}{vs:List V}{A:Rg}(fh:zbs F H)(r0:Rp K F H t0 x0 A)(r:Rps K F ts vs):StR K F H (start N (x0::vs)) ((t0::ts).map some++List.replicate (N.length - (t0::ts).length) none) (fun i=>if i=0 then A else R0):=by
 have hl:=r.1;refine⟨fh,by simp[L2.start,hl],fun i t e=>?_,fun i a z=>?_,fun i j a hij z1 z2=>?_⟩
 ·unfold L2.start
  by_cases hi:i<(t0::ts).length
  ·rw[yas (by simpa using hi),ya5]at e
   obtain⟨t',e1,e2⟩:=ya3.mp e;cases e2;cases i with
   |zero =>
    cases e1;exact⟨x0,by simp,r0⟩
   |succ i =>
    have hi':i<ts.length:=by simpa using hi
    have hv:i<vs.length:=by omega
    refine⟨vs[i],?_,(r.2 i t vs[i] (by simpa using e1) (ya0 hv)).any⟩
    rw[yas (by simpa using hv),ya5,List.getElem?_cons_succ,ya0 hv]
    rfl
  ·rw[yb0 (by simp at hi ⊢;omega)]at e
   obtain⟨h1,h2⟩:=ya6.mp e;simp at h2
 ·by_cases hi:i=0
  ·subst hi;exact⟨t0,rfl⟩
  ·simp only[hi,if_false]at z;exact z.elim
 ·by_cases hi:i=0
  ·have hj:¬ j=0:=fun z=>hij (hi.trans z.symm)
   simp only[hj,if_false]at z2;exact z2
  ·simp only[hi,if_false]at z1;exact z1
theorem tot_one{A:Rg}:tot (fun i=>if i=0 then A else R0)=A:=funext fun a=>propext ⟨fun⟨i,z⟩=>by
 by_cases hi:i=0
 ·simp only[hi,if_true]at z;exact z
 ·simp only[hi,if_false]at z;exact z.elim,fun z=>⟨0,by simpa using z⟩⟩
end Pu
set_option Elab.async false
set_option linter.all false
set_option maxRecDepth 100000
namespace Pu
open PySem PySem.Spec PyProof.Rows L2 Zw Zx
theorem za2{α:Type}{P:α->Prop}:∀x∈([]:List α),P x:=fun _ h=>by cases h
theorem all_cons{α:Type}{P:α->Prop}{a:α}{l:List α}(h:P a)(r:∀x∈l,P x):∀x∈a::l,P x:=fun x hx=>by
 obtain rfl|hx:=yaj.mp hx
 ·exact h
 ·exact r x hx
theorem usN{P:List Value->Prop}(h:P []):∀us:List Value,us.length=0->P us:=fun us e=>by
 cases us with
 |nil=>exact h
 |cons a r=>cases e
theorem usS{P:List Value->Prop}{k:Nat}(h:∀a us,us.length=k->P (a::us)):∀us:List Value,us.length=k+1->P us:=fun us e=>by
 cases us with
 |nil=>cases e
 |cons a r=>exact h a r (Nat.succ.inj e)
theorem us1{P:List Value->Prop}(h:∀a,P [a]):∀us:List Value,us.length=1->P us:=usS fun a=>usN (h a)
theorem us2{P:List Value->Prop}(h:∀a b,P [a,b]):∀us:List Value,us.length=2->P us:=usS fun a=>usS fun b=>usN (h a b)
theorem us3{P:List Value->Prop}(h:∀a b c,P [a,b,c]):∀us:List Value,us.length=3->P us:=usS fun a=>usS fun b=>usS fun c=>usN (h a b c)
theorem us4{P:List Value->Prop}(h:∀a b c d,P [a,b,c,d]):∀us:List Value,us.length=4->P us:=usS fun a=>usS fun b=>usS fun c=>usS fun d=>usN (h a b c d)
section
variable {P:Program}{w:World}{K:PySem.W.Frag}{mg:Str->Option Value}{base:Heap}{ca:Str->Value}{k:Nat}
theorem zah:∀f F,([]:List (Str×Fn)).lookup f=some F->F.lv<=k/\Nonempty (DefX P w K mg base F.lv f F.ps (spP K ca F.g)):=fun _ _ h=>by cases h
theorem zaa{x:Str}{F0:Fn}{l:List (Str×Fn)}(hk:F0.lv<=k)(D:DefX P w K mg base F0.lv x F0.ps (spP K ca F0.g))(r:∀f F,l.lookup f=some F->F.lv<=k/\Nonempty (DefX P w K mg base F.lv f F.ps (spP K ca F.g))) :
  ∀f F,((x,F0)::l).lookup f=some F->F.lv<=k/\Nonempty (DefX P w K mg base F.lv f F.ps (spP K ca F.g)):=fun f F h=>by
 rw[yat]at h;cases hf:f == x with
 |true =>
  rw[hf]at h;cases h;rw[eq_of_beq hf];exact⟨hk,⟨D⟩⟩
 |false=>rw[hf]at h;exact r f F h
theorem zaf:∀f F,([]:List (Str×Fn)).lookup f=some F->F.lv<=k/\Nonempty (DefX P w K mg base F.lv f F.ps (spM K ca F.g)):=fun _ _ h=>by cases h
def spLaw(K:PySem.W.Frag):Sp:=fun vs H Q _=>∃(a:Addr) (ns:List Int),vs=[.ref a]/\SqL K H a (ns.map V.int)/\ns.length<=63/\∀H',Q (.bl true) H'
def zaw(ns:List Int):T:=.nd false .rl (ns.map T.int)
theorem rps_ints{F:Hp}:∀ns:List Int,Rps K F (ns.map T.int) (ns.map V.int)
 |[]=>.nil
 |n::r=>.cons (H:=F) (.int n) (rps_ints r)
theorem law_fn{R:List T->Option Ru}{f:Addr}{fd:FuncData}(F:FnOk P w K mg base (CX1 P w) k f fd ["_law_script"] (spP K ca R))(h:∀ns:List Int,ns.length<=63->R [zaw ns]=some (.ok (.bl true))):FnOk P w K mg base CX0 k f fd ["_law_script"] (spLaw K):=by
 refine⟨fun vs H Q E hs=>?_,fun A outer s H args us vs Q E hr e0 hb hv hs=>?_⟩
 ·obtain⟨a,ns,rfl,_⟩:=hs
  rfl
 ·obtain⟨a,ns,rfl,hq,h63,q⟩:=hs;refine codeAny_mono (F.run A outer s H args us _ Q E0 hr e0 hb hv ⟨H,[zaw ns],.refl _,.cons (H:=H) (Rps.of_node (k:=.rl) hq (rps_ints ns)) .nil,?_⟩) fun r s' hx=>?_
  ·rw[h ns h63];intro F' H' z C e r;rw[r.bl_inv];exact q H'
  ·cases r with
   |error v =>
    obtain⟨_,_,_,_,_,_,_,_,_,_,_,_,_,z⟩:=hx;exact z.elim
   |ok fl=>cases fl<;>exact hx
end
end Pu
set_option Elab.async false
set_option linter.all false
set_option maxRecDepth 100000
namespace Pu
open PySem PySem.Spec PyProof.Rows L2 Zw Zx
end Pu
set_option Elab.async false
set_option linter.all false
set_option maxRecDepth 100000
namespace Pu
open PySem PySem.Spec PyProof.Rows L2 Zw Zx
def runI0(C:Addr)(fs:List Str)(k n:Nat)(u:PSt->Option Out)(p:Addr)(ts:List T):Option Ru:=if ts.length+1=k then (match u ((T.oob p C fs []::ts).map some++List.replicate (n - (ts.length+1)) none) with
 |some (.nx τ)=>(match oobAt τ 0 C fs with
  |some (q,l)=>if q=p then some (.ok (.obj (.ins C fs) (zb9 l))) else none
  |none=>none)
 |some (.xc c _)=>some (.exc c)
 |_=>none) else none
open Classical in
noncomputable def runI(C:Addr)(fs:List Str)(k n:Nat)(u:PSt->Option Out)(ts:List T):Option Ru:=if h:∃r,∀p,runI0 C fs k n u p ts=some r then some h.choose else none
theorem runI_of{C:Addr}{fs:List Str}{k n:Nat}{u:PSt->Option Out}{ts:List T}{r:Ru}(h:∀p,runI0 C fs k n u p ts=some r):runI C fs k n u ts=some r:=by
 have hx:∃r,∀p,runI0 C fs k n u p ts=some r:=⟨r,h⟩;unfold runI;rw[dif_pos hx];have e:=(hx.choose_spec 0).symm.trans (h 0);exact e
theorem runI_at{C:Addr}{fs:List Str}{k n:Nat}{u:PSt->Option Out}{ts:List T}{r:Ru}(h:runI C fs k n u ts=some r)(p:Addr):runI0 C fs k n u p ts=some r:=by
 unfold runI at h;split at h
 ·rename_i hx;cases h;exact hx.choose_spec p
 ·cases h
theorem fn_okI{P:Program}{w:World}{K:PySem.W.Frag}{mg:Str->Option Value}{base:Heap}{ca:Str->Value}{x qual:Str}{st:Stmt}{f:Addr}{fd:FuncData}{N ps:List Str}{k n:Nat}{Γ:Gm}{u:PSt->Option Out}{C:Addr}{fs:List Str}(F:FunD K x qual st f fd)(S:FnScope N ps (za4 st))
  (hΓ:Γ.N=N) (hnm:Γ.nm=(za4 st).names) (hce:∀x∈Γ.ce,Γ.nm.lookup x=some .cell) (hlv:Γ.lv=k) (hbl:∀b∈Γ.bl,mg b=none)
  (hfs:∀f F,Γ.fns.lookup f=some F->F.lv<=k/\Nonempty (DefX P w K mg base F.lv f F.ps (spP K ca F.g))) (hex:∀c∈Γ.ex,∃T:ECls K mg c,ca c=.ref T.C)
  (hms:∀f F,Γ.mus.lookup f=some F->F.lv<=k/\Nonempty (DefX P w K mg base F.lv f F.ps (spM K ca F.g))) (hmu:Γ.mu=false) (hgx:GxOk Γ.ox k P w K mg base ca) (hu:dSs n Γ (zab st)=some u):FnOk P w K mg base (CX1 P w) (k+1) f fd ps (spN K ca C (runI C fs ps.length N.length u)):=by
 refine okX F S (fun vs H Q E h=>?_) fun cdv A outer s H vs Q E hr h=>?_
 ·obtain⟨F',p,dx,ts,vs',_,rfl,_,_,r,q⟩:=h;cases hg:runI C fs ps.length N.length u ts with
  |none=>rw[hg]at q;exact q.elim
  |some rr =>
   have h0:=runI_at hg 0;unfold runI0 at h0
   by_cases hl:ts.length+1=ps.length
   ·rw[yax,<- r.1,hl]
   ·rw[if_neg hl]at h0;cases h0
 ·have CC:CxOk Γ (cxOf (CX1 P w) P w K mg base N qual (za4 st) f cdv A outer s H E) (fun _=>E) ca:=by
   refine⟨hΓ.symm,by rw[hΓ];exact S.nd,hnm.symm,S.kind,rfl,by rw[hlv];exact hr,fun y hy=>⟨rfl,hce y hy⟩,hbl,passD,fun _=>PassesOwn.leaving,fun _=>madeD,fun f F e=>by rw[hlv];exact hfs f F e,hex,fun f F e=>by rw[hlv];exact hms f F e,by rw[hlv];exact hgx,fun _=>⟨rfl,rfl⟩,⟨_,_,rfl,rfl⟩⟩
  have G:=(goodSt ca n).ss CC hu;rw[hmu]at G;refine⟨_,G,?_⟩;obtain⟨F',p,dx,ts,vs',fh,rfl,fp,hp,r,q⟩:=h;have r0:Rp K F' H (.oob p C fs []) (.ref p) (fun a=>a=p\/∃j:Nat,R0 a):=.oob (xs:=[]) (fun _=>R0) fp (by rw[List.zip_nil_right];exact hp) rfl (fun i t x h=>by simp at h) (fun _ _ _ _ z=>z.elim) (fun _ z=>z) (fun _ _ z=>z.elim)
  have hA:(fun a=>a=p\/∃j:Nat,R0 a)=fun a=>a=p:=funext fun a=>propext ⟨fun z=>z.elim id fun⟨_,w⟩=>w.elim,fun z=>.inl z⟩
  refine⟨F',_,_,start_stM fh r0 r,?_⟩;rw[tot_one,hA];cases hg:runI C fs ps.length N.length u ts with
  |none=>rw[hg]at q;exact q.elim
  |some rr =>
   rw[hg]at q;have h0:=runI_at hg p;unfold runI0 at h0
   by_cases hl:ts.length+1=ps.length
   ·rw[if_pos hl]at h0;have el:(T.oob p C fs []::ts).length=ts.length+1:=rfl;rw[el];cases ho:u ((T.oob p C fs []::ts).map some++List.replicate (N.length - (ts.length+1)) none) with
    |none=>rw[ho]at h0;cases h0
    |some o =>
     rw[ho]at h0;cases o with
     |nx τ =>
      simp only at h0;intro F1 H1 σ1 R1 s1 S1;cases hoo:oobAt τ 0 C fs with
      |none=>rw[hoo]at h0;cases h0
      |some ql =>
       obtain⟨q0,l⟩:=ql;rw[hoo]at h0;simp only at h0
       by_cases hq:q0=p
       ·rw[if_pos hq]at h0;subst hq;cases h0;have h00:=zhz hoo;have S2:=S1.frz h00;obtain⟨y,ey,ry⟩:=S1.rep 0 _ h00;obtain⟨dx2,xs2,Rr,rfl,hA2,fp2,hp2,ro,dp⟩:=ry.oob_inv;have n1:∀a,R1 0 a->F1 a=none:=fun a z=>(S1.dom z).1
        have r2:=ry.share (H':=H1) (zg5 (H:=H1) n1) fun a u z q=>by rw[zio z];exact q
        simp only at q;refine q (frz F1 H1 (R1 0)) H1 ⟨s1.ff.trans (zg5 n1),zm6 S1.fh,s1.kp,fun b z=>z.elim,fun b u e=>?_⟩ r2
        by_cases hb:R1 0 b
        ·exact(s1.nw b ⟨0,hb⟩).elim (fun z=>.inr (.inl z)) fun z=>.inr (.inr z)
        ·rw[zf2 hb]at e;exact s1.nf b u e
       ·rw[if_neg hq]at h0;cases h0
     |rt t=>cases h0
     |bk τ=>cases h0
     |ct τ=>cases h0
     |xc c τ =>
      cases h0;simp only at q;exact fun F1 H1 σ1 R1 s1 S1=>q F1 H1 (s1.mono fun _ z=>z.elim)
   ·rw[if_neg hl]at h0;cases h0
theorem za3{κ α:Type} [BEq κ]{P:κ->α->Prop}:∀y b,([]:List (κ×α)).lookup y=some b->P y b:=fun _ _ h=>by cases h
theorem zdo{κ α:Type} [BEq κ] [LawfulBEq κ]{P:κ->α->Prop}{x:κ}{a:α}{l:List (κ×α)}(h:P x a)(r:∀y b,l.lookup y=some b->P y b):∀y b,((x,a)::l).lookup y=some b->P y b:=fun y b e=>by
 rw[yat]at e;cases hf:y == x with
 |true =>
  rw[hf]at e;cases e;rw[eq_of_beq hf];exact h
 |false=>rw[hf]at e;exact r y b e
theorem rp_strs{K:PySem.W.Frag}{F:Hp}:∀ys:List Str,Rps K F (ys.map T.str) (ys.map V.str)
 |[]=>.nil
 |y::r=>.cons (H:=F) (.str y) (rp_strs r)
theorem zao{P:Str->Fn->List (Nat×List T)->Prop}:∀x F ds,([]:List (Str×Fn×List (Nat×List T))).lookup x=some (F,ds)->P x F ds:=fun _ _ _ h=>by cases h
theorem nw_cons{P:Str->Fn->List (Nat×List T)->Prop}{l:List (Str×Fn×List (Nat×List T))}{x0:Str}{F0:Fn}{d0:List (Nat×List T)}(h:P x0 F0 d0)(r:∀x F ds,l.lookup x=some (F,ds)->P x F ds):∀x F ds,((x0,F0,d0)::l).lookup x=some (F,ds)->P x F ds:=fun x F ds e=>by
 rw[yat]at e;cases hf:x == x0 with
 |true =>
  rw[hf]at e;cases e;rw[eq_of_beq hf];exact h
 |false =>
  rw[hf]at e;exact r x F ds e
end Pu
set_option Elab.async false
set_option linter.all false
set_option maxRecDepth 100000
namespace Pu
open PySem PySem.Spec PyProof.Rows L2 Zw Zx
theorem at0{α:Type}{x:α}{l:List α}:atI (x::l) (0:Int)=some x:=by
 have:atI (x::l) ((0:Nat):Int)=some x:=zbr rfl;exact this
theorem at1{α:Type}{x y:α}{l:List α}:atI (x::y::l) (1:Int)=some y:=by
 have:atI (x::y::l) ((1:Nat):Int)=some y:=zbr rfl;exact this
theorem at2{α:Type}{x y z:α}{l:List α}:atI (x::y::z::l) (2:Int)=some z:=by
 have:atI (x::y::z::l) ((2:Nat):Int)=some z:=zbr rfl;exact this
abbrev fr(a b:Int):T:=.tup [.int a,.int b]
section
variable {b:T->PSt->Option PSt}{body:PSt->Option Out}{mc:PSt->Option Rs}
theorem zc7{ts:List T}{τ:PSt}(I:Nat->PSt->Prop)(h0:I 0 τ)(hs:∀i t τ,ts[i]?=some t->I i τ->∃τ1,b t τ=some τ1/\∃τ2,body τ1=some (.nx τ2)/\I (i+1) τ2):∃τ',zf3 b body ts τ=some (.nx τ')/\I ts.length τ':=by
 have key:∀(l:List T) (k:Nat) (τ:PSt),ts.drop k=l->k<=ts.length->I k τ->∃τ',zf3 b body l τ=some (.nx τ')/\I ts.length τ':=by
  intro l
  induction l with
  |nil =>
   intro k τ hd hk hI
   have:k=ts.length:=by
    have:=congrArg List.length hd;simp at this
    omega
   subst this;exact⟨τ,rfl,hI⟩
  |cons t l ih =>
   intro k τ hd hk hI
   have hlt:k<ts.length:=by
    have:=congrArg List.length hd;simp at this
    omega
   rw[ybw hlt]at hd;injection hd with h1 h2
   obtain⟨τ1,e1,τ2,e2,hI2⟩:=hs k t τ (by rw[ya0 hlt,h1]) hI
   obtain⟨τ',e3,h3⟩:=ih (k+1) τ2 h2 hlt hI2;exact⟨τ',by unfold zf3;simp only[e1,e2];exact e3,h3⟩
 exact key ts 0 τ rfl (ybe _) h0
theorem sWh_inv{τ:PSt}(I:PSt->Prop)(μ:PSt->Nat)(h0:I τ)(hs:∀τ,I τ->(∃bb,mc τ=some (.v (.bl true) bb)/\∃τ2,body τ=some (.nx τ2)/\I τ2/\μ τ2<μ τ)\/∃bb,mc τ=some (.v (.bl false) bb)) :
  ∃τ',sWh mc body τ=some (.nx τ')/\I τ'/\∃bb,mc τ'=some (.v (.bl false) bb):=by
 have key:∀(n:Nat) (τ:PSt),μ τ<n->I τ->∃τ',whN mc body n τ=some (.nx τ')/\I τ'/\∃bb,mc τ'=some (.v (.bl false) bb):=by
  intro n
  induction n with
  |zero=>intro τ h;exact absurd h (Nat.not_lt_zero _)
  |succ n ih =>
   intro τ hn hI
   rcases hs τ hI with ⟨bb,e1,τ2,e2,hI2,hm⟩|⟨bb,e1⟩
   ·obtain⟨τ',e3,h3⟩:=ih τ2 (by omega) hI2
    exact⟨τ',by unfold whN;simp only[e1,e2];exact e3,h3⟩
   ·exact⟨τ,by unfold whN;simp only[e1],hI,bb,e1⟩
 obtain⟨τ',e,h⟩:=key (μ τ+1) τ (ybk _) h0;exact⟨τ',sWh_of e,h⟩
theorem zgi{me:PSt->Option Rs}{ts:List T}{τ:PSt}(I:Nat->PSt->Prop)(f:Nat->T)(h0:I 0 τ)(hs:∀i t τ,ts[i]?=some t->I i τ->∃τ1,b t τ=some τ1/\me τ1=some (.v (f i) false)/\I (i+1) τ1) :
  zk0 b (mC (.bl true)) me ts τ=some ((List.range ts.length).map f):=by
 have key:∀(l:List T) (k:Nat) (τ:PSt),ts.drop k=l->k<=ts.length->I k τ->zk0 b (mC (.bl true)) me l τ=some ((List.range' k l.length).map f):=by
  intro l
  induction l with
  |nil=>intro k τ _ _ _;rfl
  |cons t l ih =>
   intro k τ hd hk hI
   have hlt:k<ts.length:=by
    have:=congrArg List.length hd;simp at this
    omega
   rw[ybw hlt]at hd;injection hd with h1 h2
   obtain⟨τ1,e1,e2,hI2⟩:=hs k t τ (by rw[ya0 hlt,h1]) hI
   have e3:=ih (k+1) τ1 h2 hlt hI2;unfold zk0;simp only[e1,mC,e2,e3];simp[List.range'_succ]
 have:=key ts 0 τ rfl (ybe _) h0;rw[this,<- List.range_eq_range']
end
theorem zi0{i j:Int}(h:s64 j=true):zdx i j=true:=by unfold zdx;rw[h,ydd,ycy]
theorem zjs{i j:Int}(h:s64 i=true):zdx i j=true:=by unfold zdx;rw[h,ycy,ycy]
theorem mulOk_s{i j:Int}(h1:s70 i=true)(h2:s70 j=true):zdx i j=true:=by unfold zdx;rw[h1,h2];simp
theorem zcp{i:Int}(h1:-(2 ^ 64)<i)(h2:i<2 ^ 64):s64 i=true:=@decide_eq_true _ (Classical.propDecidable _) ⟨h1,h2⟩
theorem zbv{i:Int}(h1:-(10 ^ 70)<i)(h2:i<10 ^ 70):s70 i=true:=@decide_eq_true _ (Classical.propDecidable _) ⟨h1,h2⟩
theorem fm{i j:Int}(h:0<j):i.fmod j=i % j:=Int.fmod_eq_emod_of_nonneg i (by omega)
theorem fd{i j:Int}(h:0<j):i.fdiv j=i / j:=Int.fdiv_eq_ediv_of_nonneg i (by omega)
theorem eq_int{i j:Int}:eqT (.int i) (.int j)=some (.bl (i == j)):=by
 unfold eqT eqOk fitT eqvT;simp only[T.data,T.pln,PyData.canLay0,PyData.depth,PyData.eqv];simp
theorem zfv{i j:Int}:neT (.int i) (.int j)=some (.bl (!(i == j))):=by
 unfold neT eqOk fitT eqvT;simp only[T.data,T.pln,PyData.canLay0,PyData.depth,PyData.eqv];simp
theorem ne_bl{i j:Bool}:neT (.bl i) (.bl j)=some (.bl (!(i == j))):=by
 unfold neT eqOk fitT eqvT;simp only[T.data,T.pln,PyData.canLay0,PyData.depth,PyData.eqv];simp
mutual
def nbD:PyData->Bool
 |.bool _=>false
 |.dict _=>false
 |.list xs=>nbDs xs
 |.tuple xs=>nbDs xs
 |_=>true
def nbDs:List PyData->Bool
 |[]=>true
 |x::xs=>nbD x && nbDs xs
end
mutual
theorem eqv_nb:∀d d':PyData,nbD d=true->nbD d'=true->(PyData.eqv d d'=true ↔ d=d')
 |.none,d',_,h'=>by cases d'<;>simp[PyData.eqv,nbD]at h' ⊢
 |.int i,d',_,h'=>by cases d'<;>simp[PyData.eqv,nbD]at h' ⊢
 |.str x,d',_,h'=>by cases d'<;>simp[PyData.eqv,nbD]at h' ⊢
 |.bool _,_,h,_=>by simp[nbD]at h
 |.dict _,_,h,_=>by simp[nbD]at h
 |.list xs,d',h,h'=>by
  cases d' with
  |list ys =>
   have:=zkg xs ys (by simpa[nbD] using h) (by simpa[nbD] using h')
   simp only[PyData.eqv];rw[this];simp
  |_=>simp[PyData.eqv,nbD]at h' ⊢
 |.tuple xs,d',h,h'=>by
  cases d' with
  |tuple ys =>
   have:=zkg xs ys (by simpa[nbD] using h) (by simpa[nbD] using h')
   simp only[PyData.eqv];rw[this];simp
  |_=>simp[PyData.eqv,nbD]at h' ⊢
theorem zkg:∀xs ys:List PyData,nbDs xs=true->nbDs ys=true->(PyData.eqvAll xs ys=true ↔ xs=ys)
 |[],[],_,_=>by simp[PyData.eqvAll]
 |[],_::_,_,_=>by simp[PyData.eqvAll]
 |_::_,[],_,_=>by simp[PyData.eqvAll]
 |x::xs,y::ys,hx,hy=>by
  simp only[nbDs,ya2]at hx hy;have h1:=eqv_nb x y hx.1 hy.1;have h2:=zkg xs ys hx.2 hy.2;simp only[PyData.eqvAll,ya2,h1,h2,List.cons.injEq]
end
structure Fit(t:T)(n:Nat):Prop where
 fit:fitT t=true
 nb:nbD t.data=true
 dep:t.data.depth<=n
theorem Fit.int(i:Int)(n:Nat):Fit (.int i) n:=⟨rfl,rfl,by simp[T.data,PyData.depth]⟩
theorem Fit.non(n:Nat):Fit .non n:=⟨rfl,rfl,by simp[T.data,PyData.depth]⟩
theorem fit_all:∀{l:List T} {n:Nat},(∀t∈l,Fit t n)->(plnL l=true/\PyData.canLayAll0 (zc4 l)=true)/\nbDs (zc4 l)=true/\PyData.depthAll (zc4 l)<=n
 |[],n,_=>⟨⟨rfl,rfl⟩,rfl,ybe _⟩
 |t::r,n,h=>by
  obtain⟨h1,h2,h3⟩:=h t (ya9 ..);obtain⟨⟨g0,g1⟩,g2,g3⟩:=fit_all (l:=r) (n:=n) fun x hx=>h x (ya8 _ hx)
  unfold fitT at h1;rw[ya2]at h1;refine⟨⟨by rw[plnL,h1.1,g0];rfl,by rw[zc4,PyData.canLayAll0,h1.2,g1];rfl⟩,by rw[zc4,nbDs,h2,g2];rfl,?_⟩
  rw[zc4,PyData.depthAll]
  omega
theorem Fit.nd{o:Bool}{k:Kd}{l:List T}{n:Nat}(h:∀t∈l,Fit t n):Fit (.nd o k l) (n+1):=by
 obtain⟨g1,g2,g3⟩:=fit_all h;cases k<;>exact⟨by simpa[fitT,T.data,T.pln,PyData.canLay0] using g1,by simpa[T.data,nbD] using g2,by simpa[T.data,PyData.depth] using g3⟩
theorem Fit.tup{l:List T}{n:Nat}(h:∀t∈l,Fit t n):Fit (.tup l) (n+1):=Fit.nd h
theorem Fit.mono{t:T}{n m:Nat}(h:Fit t n)(hm:n<=m):Fit t m:=⟨h.fit,h.nb,yao h.dep hm⟩
theorem Fit.fr(a b:Int):Fit (Pu.fr a b) 1:=Fit.tup fun t ht=>by
 simp only[yaj,yba,or_false]at ht
 rcases ht with rfl|rfl<;>exact Fit.int _ _
open Classical in
theorem eq_fit{t u:T}{n m:Nat}(h:Fit t n)(h':Fit u m)(hn:n<=60):eqT t u=some (.bl (decide (t.data=u.data)))/\neT t u=some (.bl (!decide (t.data=u.data))):=by
 have ok:eqOk t u=true:=by
  unfold eqOk;rw[h.fit,h'.fit,decide_eq_true (by have:=h.dep;omega)]
  rfl
 have e:eqvT t u=decide (t.data=u.data):=by
  unfold eqvT;rw[ybr,eqv_nb _ _ h.nb h'.nb];simp
 unfold eqT neT;rw[if_pos ok,if_pos ok,e];exact⟨rfl,rfl⟩
theorem eq_same{t u:T}{n:Nat}(h:Fit t n)(hn:n<=60)(e:t.data=u.data)(h':Fit u n):eqT t u=some (.bl true)/\neT t u=some (.bl false):=by
 have:=eq_fit h h' hn
 simpa[e] using this
theorem zbc:∀ns:List Int,zb9 (ns.map T.int)=ns.map T.int
 |[]=>rfl
 |n::r=>by rw[yaf,zb9,zbc r];rfl
theorem zes:∀ns:List Int,shL (ns.map T.int)=true
 |[]=>rfl
 |n::r=>by rw[yaf,shL,zes r];rfl
theorem zii(ns:List Int):(zaw ns).share=zaw ns:=by unfold zaw;rw[T.share,zbc]
theorem sh_script(ns:List Int):(zaw ns).sh=true:=by unfold zaw;rw[T.sh,zes];rfl
theorem zkx{α:Type}{l:List α}{k:Int}{x:α}(h0:0<=k)(h:l[k.toNat]?=some x):atI l k=some x:=by
 have:atI l ((k.toNat:Nat):Int)=some x:=zbr h
 rwa[Int.toNat_of_nonneg h0]at this
theorem cut_map{α β:Type}(f:α->β)(l:List α)(lo hi:Option Int):zhr (l.map f) lo hi=(zhr l lo hi).map f:=by
 unfold zhr;simp[List.map_drop,List.map_take]
theorem cut_len{α:Type}(l:List α)(lo hi:Option Int):(zhr l lo hi).length<=l.length:=by
 unfold zhr;simp only[yb6,ybx]
 omega
theorem own_ints(l:List Int):zb9 (l.map T.int)=l.map T.int:=zbc l
end Pu
namespace Zm
end Zm
namespace Db
open PySem
def bs(a b:Int):Int:=2 * (a / 2+b / 2)+min (a % 2) (b % 2)
theorem bs_comm(a b:Int):bs a b=bs b a:=by unfold bs;omega
abbrev B:=Option Int
def le:B->B->Prop
 |_,none=>True
 |none,some _=>False
 |some a,some b=>a<=b
def add:B->B->B
 |some a,some b=>some (bs a b)
 |_,_=>none
def mn:B->B->B
 |none,b=>b
 |some a,none=>some a
 |some a,some b=>some (min a b)
theorem le_refl(a:B):le a a:=by cases a<;>simp[le]
theorem le_trans{a b c:B}(h:le a b)(h':le b c):le a c:=by
 cases a<;>cases b<;>cases c<;>simp_all [le]
 omega
theorem add_comm(a b:B):add a b=add b a:=by
 cases a<;>cases b<;>simp[add,bs_comm]
abbrev Z:=Nat->Nat->B
def free(i j:Nat):B:=if i=0\/i=j then some 1 else none
def stp(f:Z)(k:Nat):Z:=fun i j=>mn (f i j) (add (f i k) (f k j))
end Db
set_option Elab.async false
set_option linter.all false
set_option maxRecDepth 100000
namespace Pu
open PySem PySem.Spec PyProof.Rows L2 Zw Zx
def mT(n:Nat)(g:Nat->T):List T:=(List.range n).map g
theorem nl0:((0:Nat):Int)=0:=rfl
theorem nl1:((1:Nat):Int)=1:=rfl
theorem nl2:((2:Nat):Int)=2:=rfl
theorem nl3:((3:Nat):Int)=3:=rfl
theorem nl4:((4:Nat):Int)=4:=rfl
theorem nl5:((5:Nat):Int)=5:=rfl
theorem nl6:((6:Nat):Int)=6:=rfl
theorem nl7:((7:Nat):Int)=7:=rfl
theorem nl8:((8:Nat):Int)=8:=rfl
theorem nl9:((9:Nat):Int)=9:=rfl
theorem lim_le{k:Nat}(h:k<=100000):(k<=lim)=True:=eq_true (by unfold lim;omega)
theorem lim_lt{k:Nat}(h:k<100000):(k<lim)=True:=eq_true (by unfold lim;omega)
section
variable {n:Nat}{g h:Nat->T}
theorem zce:(mT n g).length=n:=by simp[mT]
theorem zjv{i:Nat}(hi:i<n):(mT n g)[i]?=some (g i):=by simp[mT,hi]
theorem zcv{i:Nat}{t:T}(e:(mT n g)[i]?=some t):i<n/\t=g i:=by
 have hi:i<n:=by
  rcases Nat.lt_or_ge i n with q|q
  ·exact q
  ·rw[yb5 (by rw[zce];exact q)]at e
   cases e
 rw[zjv hi]at e;exact⟨hi,by injection e with e;exact e.symm⟩
theorem zhl{l:List T}(hl:l.length=n)(h:∀i,i<n->l[i]?=some (g i)):l=mT n g:=by
 refine List.ext_getElem? fun i=>?_
 rcases Nat.lt_or_ge i n with q|q
 ·rw[h i q,zjv q]
 ·rw[yb5 (by omega),yb5 (by rw[zce];exact q)]
theorem mT_congr(e:∀i,i<n->g i=h i):mT n g=mT n h:=zhl zce fun i hi=>by rw[zjv hi,e i hi]
theorem zgo{k:Nat}(h1:k<n):atI (mT n g) (k:Int)=some (g k):=zbr (zjv h1)
theorem mT_mem{t:T}(ht:t∈mT n g):∃i,i<n/\t=g i:=by
 obtain⟨i,hi,e⟩:=yah.mp ht;exact⟨i,yc4.mp hi,e.symm⟩
theorem shareL_mT:zb9 (mT n g)=mT n fun i=>(g i).share:=by
 rw[zbd];unfold mT;rw[ybp]
 rfl
theorem shL_mT(e:∀i,(g i).sh=true):shL (mT n g)=true:=by
 rw[zb0,yag];intro t ht;obtain⟨i,-,rfl⟩:=mT_mem ht;exact e i
theorem shL_mTi(xs:Nat->Int):shL (mT n fun i=>.int (xs i))=true:=shL_mT fun _=>rfl
theorem shL_mTf(u w:Nat->Int):shL (mT n fun i=>.nd false .tup [.int (u i),.int (w i)])=true:=shL_mT fun _=>rfl
theorem mT_app:mT n g++[g n]=mT (n+1) g:=by
 unfold mT;rw[List.range_succ,yb9]
 rfl
theorem mT_push{α:Type}(t:α->T)(xs:Nat->α)(r:α):mT n (fun j=>t (xs j))++[t r]=mT (n+1) fun j=>t (if j=n then r else xs j):=by
 rw[<- mT_app,if_pos rfl,mT_congr (g:=fun j=>t (if j=n then r else xs j)) (h:=fun j=>t (xs j)) fun j hj=>by rw[if_neg (by omega)]]
theorem range_mT(lo:Int):zcq lo n=mT n fun i=>.int (lo+(i:Int)):=rfl
theorem zbf:zcq 0 n=mT n fun i=>.int (i:Int):=by
 rw[range_mT];refine mT_congr fun i _=>?_
 rw[Int.zero_add]
theorem mT_of(l:List T)(d:T):l=mT l.length fun i=>l.getD i d:=zhl rfl fun i hi=>by
 rw[ya4,ya0 hi];rfl
theorem mT_set{i:Nat}{v:T}:(mT n g).set i v=mT n fun j=>if j=i then v else g j:=zhl (by simp[zce]) fun j hj=>by
 rw[List.getElem?_set,zce]
 by_cases e:i=j
 ·subst e;simp[hj]
 ·simp only[e,if_false];rw[zjv hj,if_neg (fun q=>e q.symm)]
variable {b:T->PSt->Option PSt}{body:PSt->Option Out}{me:PSt->Option Rs}{τ:PSt}
theorem for_mT(I:Nat->PSt->Prop)(h0:I 0 τ)(hs:∀i τ,i<n->I i τ->∃τ1,b (g i) τ=some τ1/\∃τ2,body τ1=some (.nx τ2)/\I (i+1) τ2):∃τ',zf3 b body (mT n g) τ=some (.nx τ')/\I n τ':=by
 have:=zc7 (ts:=mT n g) I h0 fun i t τ e hI=>by
  obtain⟨hi,rfl⟩:=zcv e;exact hs i τ hi hI
 rwa[zce]at this
theorem lc1{f:Nat->T}{x:Option T}{cs:PSt}(hs:∀i,i<n->me (some (g i)::cs)=some (.v (f i) false)):zk0 (bNm 0) (mC (.bl true)) me (mT n g) (x::cs)=some (mT n f):=by
 have:=zgi (b:=bNm 0) (me:=me) (ts:=mT n g) (τ:=x::cs) (fun _ τ=>∃y,τ=y::cs) f ⟨x,rfl⟩ fun i t τ e hI=>by
  obtain⟨hi,rfl⟩:=zcv e;obtain⟨y,rfl⟩:=hI;exact⟨some (g i)::cs,by simp[bNm],hs i hi,_,rfl⟩
 rw[this,zce]
 rfl
theorem lc2{u w f:Nat->T}{x y:Option T}{cs:PSt}(hs:∀i,i<n->me (some (u i)::some (w i)::cs)=some (.v (f i) false)):zk0 (zfk 2 (zai (bNm 0) (zai (bNm 1) zg7))) (mC (.bl true)) me (mT n fun i=>.tup [u i,w i]) (x::y::cs)=some (mT n f):=by
 have:=zgi (b:=zfk 2 (zai (bNm 0) (zai (bNm 1) zg7))) (me:=me) (ts:=mT n fun i=>.tup [u i,w i]) (τ:=x::y::cs) (fun _ τ=>∃x y,τ=x::y::cs) f ⟨x,y,rfl⟩ fun i t τ e hI=>by
  obtain⟨hi,rfl⟩:=zcv e;obtain⟨x,y,rfl⟩:=hI;exact⟨some (u i)::some (w i)::cs,by simp[zfk,zai,bNm,zg7],hs i hi,_,_,rfl⟩
 rw[this,zce]
 rfl
end
end Pu
set_option Elab.async false
set_option linter.all false
set_option maxRecDepth 100000
namespace Pu
open PySem PySem.Spec PyProof.Rows L2 Zw Zx
def bT:Db.B->T
 |none=>.non
 |some i=>.int i
theorem bT_none:bT none=.non:=rfl
theorem bT_some(i:Int):bT (some i)=.int i:=rfl
theorem bT_sh(b:Db.B):(bT b).sh=true:=by cases b<;>rfl
theorem bT_share(b:Db.B):(bT b).share=bT b:=by cases b<;>rfl
theorem zgk{n:Nat}(p:Nat->Bool):zkv (mT n fun i=>.bl (p i))=some ((List.range n).map p):=by
 unfold mT;generalize List.range n=l
 induction l with
 |nil=>rfl
 |cons x r ih=>simp only[yaf,zkv,ih]
theorem zhg{n:Nat}(h:n<=100000):zlr (n:Int)=true:=@decide_eq_true _ (Classical.propDecidable _) ⟨by omega,by omega⟩
end Pu
set_option Elab.async false
set_option linter.all false
set_option maxRecDepth 100000
namespace Pu
open PySem PySem.Spec PyProof.Rows L2 Zw Zx
theorem zeg:∀ys:List Str,zdz (ys.map T.str)=some ys
 |[]=>rfl
 |y::r=>by
  show(match zdz (r.map T.str) with|some l=>some (y::l)|none=>none)=_
  rw[zeg r]
theorem za5:∀ys:List Str,zb9 (ys.map T.str)=ys.map T.str
 |[]=>rfl
 |y::r=>by
  show T.str y::zb9 (r.map T.str)=_;rw[za5 r]
  rfl
theorem za9:∀ys:List Str,shL (ys.map T.str)=true
 |[]=>rfl
 |y::r=>by
  show(true && shL (r.map T.str))=true;rw[za9 r]
  rfl
def Txs(ys:List Str):Prop:=∀y∈ys,PyData.strOk y=true
theorem pln_strs:∀ys:List Str,plnL (ys.map T.str)=true
 |[]=>rfl
 |y::r=>by
  show(true && plnL (r.map T.str))=true;rw[pln_strs r]
  rfl
theorem lay_strs:∀{ys:List Str},Txs ys->PyData.canLayAll0 (zc4 (ys.map T.str))=true/\PyData.depthAll (zc4 (ys.map T.str))=0
 |[],_=>⟨rfl,rfl⟩
 |y::r,h=>by
  obtain⟨h1,h2⟩:=lay_strs (ys:=r) fun x hx=>h x (ya8 _ hx)
  have h3:=h y (ya9 ..);rw[yaf,zc4,PyData.canLayAll0,PyData.depthAll,h1,h2,T.data,PyData.canLay0,h3,PyData.depth];exact⟨rfl,rfl⟩
theorem zkh{x y:Str}(hx:PyData.strOk x=true)(hy:PyData.strOk y=true):eqT (.str x) (.str y)=some (.bl (decide (x=y))):=by
 have e:(x == y)=decide (x=y):=by rw[ybr,beq_iff_eq,decide_eq_true_eq]
 unfold eqT eqOk fitT eqvT;simp only[T.data,T.pln,PyData.canLay0,PyData.depth,PyData.eqv,hx,hy,e];simp
theorem Fit.str{x:Str}(h:PyData.strOk x=true)(n:Nat):Fit (.str x) n:=⟨by unfold fitT;rw[T.pln,T.data,PyData.canLay0,h];rfl,rfl,by simp[T.data,PyData.depth]⟩
theorem any_strs(x:Str):∀ys:List Str,((zc4 (ys.map T.str)).any fun y=>PyData.eqv y (.str x))=decide (x∈ys)
 |[]=>by simp[zc4]
 |y::r=>by
  have e:(y == x)=decide (x=y):=by rw[ybr,beq_iff_eq,decide_eq_true_eq];exact eq_comm
  rw[yaf,zc4,yd9,any_strs x r,T.data,PyData.eqv,e,ybr,ybg,decide_eq_true_eq,decide_eq_true_eq,decide_eq_true_eq,yaj]
theorem zh3{ys:List Str}{x:Str}{o:Bool}{k:Kd}(h:Txs ys)(hx:PyData.strOk x=true):inT (.str x) (.nd o k (ys.map T.str))=some (.bl (decide (x∈ys))):=by
 have ok:inOk (.str x) (ys.map T.str)=true:=by
  obtain⟨h1,h2⟩:=lay_strs h;unfold inOk fitT;rw[pln_strs,h1,h2,T.pln,T.data,PyData.canLay0,hx,PyData.depth]
  rfl
 unfold inT;simp only;rw[if_pos ok];unfold hasT;rw[T.data,any_strs]
end Pu
set_option linter.all false
set_option maxRecDepth 100000
namespace Hd
open PySem PySem.W PySem.Calls PyProof.Rows
def goT(st:SharedT->Thread->Option (SharedT×Thread))(ok:Thread->Bool):Nat->SharedT->Thread->Option SharedT
 |0=>fun _ _=>none
 |n+1=>fun s t=>bif through t then some s else bif ok t then (st s t).elim none fun x=>goT st ok n x.1 x.2 else none
theorem goT_top{tb:String->Option Builtin}{p:Program}{w:World}{m:Nat}{ann:Option Value}(n:Nat):∀(s:SharedT) (t:Thread) (r:SharedT),
  goT (stepT (denote tb) p w) (stepOk m ann) n s t=some r->topRun tb p w m ann n s.abs t=some r.abs:=by
 induction n with
 |zero=>intro s t r h;exact nomatch h
 |succ n ih =>
  intro s t r h;rw[goT]at h;dsimp only at h;rw[topRun];cases a:through t with
  |true=>rw[a]at h;cases h;rfl
  |false =>
   rw[a]at h;cases b:stepOk m ann t with
   |false=>rw[b]at h;exact nomatch h
   |true =>
    rw[b]at h;cases c:stepT (denote tb) p w s t with
    |none=>rw[c]at h;exact nomatch h
    |some x=>rw[c]at h;rw[stepT_spec (s':=x.1) (t':=x.2) c];exact ih _ _ _ h
def seenAll(p q:Program)(loose:List Str)(Xt:Shared->Bool){α:Type}(Yf:Shared->α)(h:Heap)(s:Shared) :=
 ((staticsOk (importedModules p.main.body) h s.heap && namesBound p s.heap && gensDone s && laidKept h s.heap),openSeen q loose (importedModules p.main.body) Xt true s,Yf s)
theorem left_of{p q:Program}{loose:List Str}{Xt:Shared->Bool}{α:Type}{Yf:Shared->α}{Ya:World->α}{N M m:Nat}{ann:Option Value}{bt:Params->BT}{lf:Params->Life}{st:World->SharedT->Thread->Option (SharedT×Thread)}{ok:Thread->Bool}(hst:∀w,stepT (denote treeTable) p w=st w)(hok:stepOk m ann=ok)
  (e:opening p=plainProg p.main.scope.names) (hN:Nat.ble 600 N=true) (f:∀s,fenceModules? p s=some s) (hM:Nat.ble M N=true)
  (hb:∀P,absHeap (bt P) m (lf P)=boot_heap P) (hs:∀P,(boot_heap P).isNs mainGlobals=true) (hz:∀P,(boot_heap P).objs.size=m) (ha:∀P,(boot_heap P).nsMap mainGlobals "__annotations__"=ann)
  (h:∀(w:World) (os:OsState),(goT (st w) ok M ⟨bt w.params,m,lf w.params,Array.mk [],boot_drawn,boot_toks,os⟩ (topStub p)).map (fun s=>seenAll p q loose Xt Yf (boot_heap w.params) s.abs)=some (true,openGood q loose,Ya w)) :
  LeftO p q loose Xt Yf Ya N true:=fun w=>by
 obtain⟨⟨h0,g0,d0,k0,os⟩,hs0,hv⟩:=ya3.mp (boot_open e hN f w);simp only[Prod.mk.injEq]at hv;obtain⟨rfl,rfl,rfl,rfl⟩:=hv;obtain⟨T,hT,hx⟩:=ya3.mp (h w os);rw[<- hst,<- hok]at hT;have r:=topRun_mono (N - M) _ _ _ _ (goT_top _ _ _ _ hT);rw[Nat.add_sub_cancel' (Nat.le_of_ble_eq_true hM)]at r;have hx1:=congrArg Prod.fst hx;have hx2:=congrArg Prod.snd hx;simp only[seenAll]at hx1 hx2;simp only[SharedT.abs,hb]at r hx1 hx2
 have k:topFrom treeTable p w N ⟨boot_heap w.params,Array.mk [],boot_drawn,boot_toks,os⟩=some T.abs:=by
  simp only[topFrom,hs,hz,ha,r];simp only[Option.bind_some,SharedT.abs];rw[hx1]
  rfl
 show((fencedOpening treeTable p w N).bind (topFrom treeTable p w N)).map _=_;rw[hs0];show(topFrom treeTable p w N _).map _=_;rw[k];exact congrArg some hx2
noncomputable def en(P:Params)(x:String)(k:Nat)(v:Value):DictEntry:=⟨PyData.keyHash P (Str.ofString x),.str (Str.ofString x) k,v⟩
noncomputable def bt(P:Params):BT:=((boot_heap P).objs.toList.foldl (fun(x:BT×Nat) o=>(x.1.ins x.2 o,x.2+1)) (BT.nil,0)).1
theorem bt_ok(P:Params):absHeap (bt P) 11 (boot_heap P).life=boot_heap P:=by kernel_rfl
theorem ann_ok(P:Params):(boot_heap P).nsMap mainGlobals "__annotations__"=some (.ref 6):=by kernel_rfl
theorem ns_ok(P:Params):(boot_heap P).isNs mainGlobals=true:=by kernel_rfl
theorem sz_ok(P:Params):(boot_heap P).objs.size=11:=by kernel_rfl
noncomputable abbrev go(p:Program)(M:Nat)(w:World)(os:OsState):Option SharedT :=
 goT (Fast.tw10156331382660048174 (Fast.tw11892475500146522536 Fast.tw14364793385576792824) p w) (Fast.tw6613529449190102663 11 (some (.ref 6))) M ⟨bt w.params,11,(boot_heap w.params).life,Array.mk [],boot_drawn,boot_toks,os⟩ (topStub p)
abbrev xt(r:RowW)(q:Program)(s:Shared):Bool:=xlAt q [] s && recOk r.records s
theorem left_go{p q:Program}{r:RowW}{loose:List Str}{α:Type}{Yf:Shared->α}{Ya:World->α}(N M:Nat)
  (e:opening p=plainProg p.main.scope.names) (hN:Nat.ble 600 N=true) (f:∀s,fenceModules? p s=some s) (hM:Nat.ble M N=true)
  (h:∀(w:World) (os:OsState),(go p M w os).map (fun s=>seenAll p q loose (xt r q) Yf (boot_heap w.params) s.abs)=some (true,openGood q loose,Ya w)):LeftO p q loose (xt r q) Yf Ya N true :=
 left_of (st:=fun w=>Fast.tw10156331382660048174 (Fast.tw11892475500146522536 Fast.tw14364793385576792824) p w) (ok:=Fast.tw6613529449190102663 11 (some (.ref 6)))
  (fun w=>by rw[Fast.te10156331382660048174,Fast.te11892475500146522536,Fast.te14364793385576792824]) (by rw[Fast.te6613529449190102663]) e hN f hM bt_ok ns_ok sz_ok ann_ok h
theorem said_of{l:OpenLaw}(h:Fast.tw9446332074065402090 l=true):l.wellSaid=true:=(congrFun Fast.te9446332074065402090 l).trans h
end Hd
set_option Elab.async false
set_option linter.all false
set_option maxRecDepth 100000
set_option maxHeartbeats 4200000
namespace Zl
open PySem L2 Zw Zx Pu
local macro_rules
  |`(tactic| simp_arith[$as,*])=>`(tactic| simp only[zdw,runF,zas,zcd,sOwn,sFrz,sIf,zd2,sRetN,sRetM,sRetMN,retAt,runM,mMut,sExp,sNx,sBk,sCt,sFor,sApp,sSto,sPar,zlm,ownAt,ownKid,za7,mC,za6,za0,zac,mAp,zap,mIf,zfc,mAnd,mOr,mIx,mSl,zjw,zfi,zgm,mLC,fin,g1,g2,bNm,zg7,zai,zfk,blk,capT,iVal,zc3,zh4,as1,as2,asL,asL2,isL,zeq,subT,zlt,zen,zd6,powT,borT,bandT,cmpT,negT,isT2,T.isN,T.isB,zik,zf0,absT,minT,maxT,gMx,intsOf,ybh,allT,anyT,zdy,tyN,tyCs,subTy,T.share,zb9,T.sh,shL,T.flat,at0,at1,at2,yaf,ycx,yax,yc8,List.replicate,yc0,ycw,ydf,List.getElem?_cons_zero,List.getElem?_cons_succ,List.getElem?_nil,List.set_cons_zero,List.set_cons_succ,ycv,nl0,nl1,nl2,nl3,nl4,nl5,nl6,nl7,nl8,nl9,Int.reduceBEq,Nat.reduceBEq,Nat.reduceAdd,Nat.reduceSub,Nat.reduceLT,Nat.reduceLeDiff,if_true,if_false,ite_true,ite_false,reduceIte,Bool.not_true,Bool.not_false,yda,Bool.true_and,Bool.and_false,yd4,ydd,ycy,yc5,ycm,Bool.false_xor,Bool.true_xor,yc3,yci,decide_true,decide_false,yaj,yba,or_false,or_true,true_or,and_true,true_and,and_self,String.reduceEq,String.reduceBEq,beq_self_eq_true,ne_eq,not_false_eq_true,not_true_eq_false,lim_le,lim_lt,bT_sh,bT_share,zce,shareL_mT,Int.reduceLT,Int.reduceAdd,ych,shL_mTi,shL_mTf,shL_mT,implies_true,forall_const,bT_none,bT_some,Int.reduceEq,Int.reduceNe,insT,mFld,zl4,mAlt,mNew,zhx,oobAt,sDpf,osdAt,mDicS,mChn,leT,zgn,mIdx,tupT,sTry0,mDicN,zg6,isXT,sNo,Kd.isLst,$as,*])
def top(i:Nat):Stmt:=PySem.Challenge.pw_zonewalk_k42_goals_met.main.body.getD i (.Pass ⟨0,0,0,0⟩)
def clsDef(s:Stmt)(j:Nat):Stmt:=match s with
 |.ClassDef _ _ _ body _ _ _ _ _ _ _=>body.getD j (.Pass ⟨0,0,0,0⟩)
 |_=>.Pass ⟨0,0,0,0⟩
def meth(i j:Nat):Stmt:=clsDef (top i) j
abbrev zcb:Addr:=182
def zdp:List Str:=["start","end","guard","noughts","sign"]
abbrev zae:Addr:=236
def zaj:List Str:=["watch_names","stays","door_list"]
def zc2:T:=(.nd false .rt [(.str "<"),(.str "<="),(.str ">"),(.str ">="),(.str "=")])
def zfz:T:=(.nd false .rt [(.str "<"),(.str "<=")])
def zed:T:=(.int 7)
def zg0:T:=(.int 64)
def zg1:T:=(.int 200)
def zfl:List (Str×Addr):=[("NoMark",68)]
abbrev zem:Stmt:=top 41
theorem sc_Lcell_at:FnScope ["_law_script","_law_k"] ["_law_script","_law_k"] (za4 zem):=⟨rfl,rfl,rfl,by decide +kernel,rfl,by decide +kernel,by decide +kernel⟩
noncomputable def zi5:PSt->Option Out :=
 (zas (sIf (mAp (g2 (cmpT fun i j=>decide (i<j))) (za0 (za7 1) (za0 (mAp (g1 zik) (za0 (za7 0) za6)) za6))) (zd2 (mIx (za7 0) (za7 1))) sNx)
 (zd2 (mC (.int 0))))
noncomputable def zar:List T->Option Ru:=zdw 2 2 zi5
noncomputable abbrev zkf:Fn:=⟨1,["_law_script","_law_k"],zar⟩
noncomputable abbrev gx_Lcell_at:Gx:=⟨[],[],[],[],false,true,true,none,[],[],[],true,[],[],[],[]⟩
noncomputable abbrev zkc:Gm:=⟨["_law_script","_law_k"],(za4 zem).names,[],0,[],["len"],[],[],[],false,[],[],[],gx_Lcell_at⟩
theorem ck_Lcell_at:dSs 200 zkc (zab zem)=some zi5:=by kernel_rfl
theorem zic(ns:List Int){k:Int}(h0:0<=k):zar [zaw ns,.int k]=some (.ok (.int (ns.getD k.toNat 0))):=by
 unfold zar zi5
 by_cases h:k<ns.length
 ·have e:ns[k.toNat]?=some (ns.getD k.toNat 0):=by
   rw[ya4,ya0 (by omega)]
   rfl
  have ea:atI (ns.map T.int) k=some (.int (ns.getD k.toNat 0)):=zkx h0 (by rw[ya5,e];rfl)
  have el:decide (k<((ns.map T.int).length:Int))=true:=by simpa using h
  simp_arith[zaw,zbc,zes,el,ea]
 ·have el:decide (k<((ns.map T.int).length:Int))=false:=by simpa using h
  have e:ns.getD k.toNat 0=0:=by
   rw[ya4,yb5 (by omega)]
   rfl
  simp_arith[zaw,zbc,zes,el,e]
abbrev zd5:Stmt:=top 29
theorem sc_are_unlike:FnScope ["texts"] ["texts"] (za4 zd5):=⟨rfl,rfl,rfl,by decide +kernel,rfl,by decide +kernel,by decide +kernel⟩
noncomputable def zfx:PSt->Option Out :=
 (zd2 (mAp (g2 eqT) (za0 (mAp (g1 unqT) (za0 (za7 0) za6)) (za0 (mAp (g1 zik) (za0 (za7 0) za6)) za6))))
noncomputable def zbn:List T->Option Ru:=zdw 1 1 zfx
noncomputable abbrev zf4:Fn:=⟨1,["texts"],zbn⟩
noncomputable abbrev gx_are_unlike:Gx:=⟨[],[],[],[],false,true,true,none,[],[],[],true,[],[],[],[]⟩
noncomputable abbrev zhp:Gm:=⟨["texts"],(za4 zd5).names,[],0,[],["len","set"],[],[],[],false,[],[],[],gx_are_unlike⟩
theorem ck_are_unlike:dSs 200 zhp (zab zd5)=some zfx:=by kernel_rfl
theorem met_un{val:Nat->L2.Key}{n:Nat}(h:∀i j,i<n->j<n->val i=val j->i=j):∀k,k<=n->(met val k).length=k/\∀x∈met val k,∃i,i<k/\x=val i
 |0,_=>⟨rfl,fun x hx=>by cases hx⟩
 |k+1,hk=>by
  obtain⟨h1,h2⟩:=met_un h k (by omega)
  have hn:val k∉met val k:=fun z=>by
   obtain⟨i,hi,e⟩:=h2 _ z;have:=h k i (by omega) (by omega) e
   omega
  have e:met val (k+1)=met val k++[val k]:=by
   conv=>lhs;unfold met
   rw[if_neg hn]
  rw[e];refine⟨by rw[yaq,ybq,h1],fun x hx=>?_⟩
  rcases yb7.mp hx with q|q
  ·obtain⟨i,hi,e⟩:=h2 x q;exact⟨i,by omega,e⟩
  ·exact⟨k,by omega,yae.mp q⟩
theorem unq_un{ys:List Str}(h:ys.Nodup):unqN ys=ys.length:=by
 unfold unqN;refine(met_un (n:=ys.length) (fun i j hi hj e=>?_) ys.length (yaa _)).1
 have e':=Sum.inr.inj e;rw[ya4,ya4,ya0 hi,ya0 hj]at e';exact(ycn h).mp e'
theorem zjc{ys:List Str}(h:ys.Nodup)(hl:ys.length<1000):zbn [.lst (ys.map T.str)]=some (.ok (.bl true)):=by
 have e:((ys.length:Int) == (ys.length:Int))=true:=beq_self_eq_true _;unfold zbn zfx
 simp_arith[unqT,za5,zeg,hl,unq_un h,eq_int,e,ya1]
abbrev zbe:Stmt:=top 20
theorem zha:FnScope ["sign"] ["sign"] (za4 zbe):=⟨rfl,rfl,rfl,by decide +kernel,rfl,by decide +kernel,by decide +kernel⟩
noncomputable def zct:PSt->Option Out :=
 (zd2 (mChn leT leT (mC (.str "a")) (za7 0) (mC (.str "z"))))
noncomputable def zau:List T->Option Ru:=zdw 1 1 zct
noncomputable abbrev ze5:Fn:=⟨1,["sign"],zau⟩
noncomputable abbrev zhn:Gx:=⟨[],[],[],[],false,true,true,none,[],[],[],true,[],[],[],[]⟩
noncomputable abbrev ze3:Gm:=⟨["sign"],(za4 zbe).names,[],0,[],[],[],[],[],false,[],[],[],zhn⟩
theorem zhs:dSs 200 ze3 (zab zbe)=some zct:=by kernel_rfl
theorem sl_ok{c:Nat}(h1:97<=c)(h2:c<=122):zau [.str ⟨#[c]⟩]=some (.ok (.bl true)):=by
 have a1:((Str.ofString "a").cps.toList)=[97]:=by decide +kernel
 have a2:((Str.ofString "z").cps.toList)=[122]:=by decide +kernel
 have b1:@decide ((#[c]:Array Nat).toList<(Str.ofString "a").cps.toList) (Classical.propDecidable _)=false:=@decide_eq_false _ (Classical.propDecidable _) (by
  rw[a1];show ¬ ([c] < [97]);rw[List.cons_lt_cons_iff];rintro(h|⟨_,h⟩)
  ·omega
  ·exact absurd h (List.not_lt_nil _))
 have b2:@decide ((Str.ofString "z").cps.toList<(#[c]:Array Nat).toList) (Classical.propDecidable _)=false:=@decide_eq_false _ (Classical.propDecidable _) (by
  rw[a2];show ¬ ([122] < [c]);rw[List.cons_lt_cons_iff];rintro(h|⟨_,h⟩)
  ·omega
  ·exact absurd h (List.not_lt_nil _))
 unfold zau zct
 simp_arith[b1,b2]
abbrev zfo:Stmt:=top 21
theorem sc_is_name:FnScope ["text"] ["text"] (za4 zfo):=⟨rfl,rfl,rfl,by decide +kernel,rfl,by decide +kernel,by decide +kernel⟩
noncomputable def zh6:PSt->Option Rs :=
 (zap zau (za0 (za7 0) za6))
noncomputable def zjt:PSt->Option Out :=
 (zd2 (mAnd (mChn leT leT (mC (.int 1)) (mAp (g1 zik) (za0 (za7 0) za6)) (mC (.int 8))) (mAp (g1 allT) (za0 (mLC 1 [] (zgn (za7 0)) (bNm 0) (mC (.bl true)) zh6) za6))))
noncomputable def zdt:List T->Option Ru:=zdw 1 1 zjt
noncomputable abbrev zm7:Fn:=⟨2,["text"],zdt⟩
noncomputable abbrev gx_is_name:Gx:=⟨[],[],[],[],false,true,true,none,[],[],[],true,[],[],[],[]⟩
noncomputable abbrev zlz:Gm:=⟨["text"],(za4 zfo).names,[],1,[("is_small_letter",ze5)],["len","all"],[],[],[],false,[],[],[],gx_is_name⟩
theorem ck_is_name:dSs 200 zlz (zab zfo)=some zjt:=by kernel_rfl
def Sml(x:Str):Prop:=∀i,i<x.cps.size->97<=x.cps.getD i 0/\x.cps.getD i 0<=122
theorem sgn_mT(x:Str):sgnT x=mT x.cps.size fun i=>.str ⟨#[x.cps.getD i 0]⟩:=by
 refine zhl (by simp[sgnT]) fun i hi=>?_
 unfold sgnT;rw[ya5,ycq,yb8 hi];simp[Array.getD,hi]
theorem nm_ok{x:Str}(h:Sml x)(h1:1<=x.cps.size)(h8:x.cps.size<=8):zdt [.str x]=some (.ok (.bl true)):=by
 have l1:x.cps.size<=100000:=by omega
 have lc:=lc1 (n:=x.cps.size) (me:=zh6) (x:=none) (cs:=[]) (g:=fun i=>.str ⟨#[x.cps.getD i 0]⟩) (f:=fun _=>.bl true) fun i hi=>by
  unfold zh6
  simp_arith[sl_ok (h i hi).1 (h i hi).2]
 have e1:decide ((1:Int)<=(x.length:Int))=true:=decide_eq_true (by show(1:Int)<=((x.cps.size:Nat):Int);omega)
 have e2:decide ((x.length:Int)<=8)=true:=decide_eq_true (by show((x.cps.size:Nat):Int)<=8;omega)
 have ll:x.length<=lim:=by
  show x.cps.size<=lim;unfold lim
  omega
 have ba:((List.range x.cps.size).map fun _=>true).all id=true:=by simp
 unfold zdt zjt
 simp_arith[sgn_mT,lc,l1,e1,e2,ll,zgk,ba]
abbrev zbt:Stmt:=top 22
theorem zir:FnScope ["thing"] ["thing"] (za4 zbt):=⟨rfl,rfl,rfl,by decide +kernel,rfl,by decide +kernel,by decide +kernel⟩
noncomputable def zdl:PSt->Option Out :=
 (zd2 (mAnd (mAp (g1 (zdy "str")) (za0 (za7 0) za6)) (mOr (mAp (g2 eqT) (za0 (za7 0) (za0 (mC (.str "/")) za6))) (zap zdt (za0 (za7 0) za6)))))
noncomputable def zb6:List T->Option Ru:=zdw 1 1 zdl
noncomputable abbrev zfh:Fn:=⟨3,["thing"],zb6⟩
noncomputable abbrev ziu:Gx:=⟨[],[],[],[],false,true,true,none,[],[],[],true,[],[],[],[]⟩
noncomputable abbrev zfe:Gm:=⟨["thing"],(za4 zbt).names,[],2,[("is_name",zm7)],["isinstance","str"],[],[],[],false,[],[],[],ziu⟩
theorem ziz:dSs 200 zfe (zab zbt)=some zdl:=by kernel_rfl
theorem sml_tx{x:Str}(h:Sml x):PyData.strOk x=true:=by
 unfold PyData.strOk;rw[Array.all_eq_true];intro i hi;have:=(h i hi).2;rw[Array.getD_eq_getD_getElem?,yb8 hi]at this;simp only[yco]at this;rw[decide_eq_true_eq]
 omega
def Wnm(x:Str):Prop:=x=Str.ofString "/"\/(Sml x/\1<=x.cps.size/\x.cps.size<=8)
theorem slash_tx:PyData.strOk (Str.ofString "/")=true:=by decide +kernel
theorem wnm_tx{x:Str}(h:Wnm x):PyData.strOk x=true:=by
 rcases h with rfl|h
 ·exact slash_tx
 ·exact sml_tx h.1
theorem wn_ok{x:Str}(h:Wnm x):zb6 [.str x]=some (.ok (.bl true)):=by
 have e:=zkh (wnm_tx h) slash_tx;unfold zb6 zdl
 by_cases q:x=Str.ofString "/"
 ·rw[decide_eq_true q]at e
  simp_arith[e]
 ·rw[decide_eq_false q]at e;have en:=nm_ok (h.resolve_left q).1 (h.resolve_left q).2.1 (h.resolve_left q).2.2
  simp_arith[e,en]
abbrev zbu:Stmt:=top 28
theorem zis:FnScope ["watches"] ["watches"] (za4 zbu):=⟨rfl,rfl,rfl,by decide +kernel,rfl,by decide +kernel,by decide +kernel⟩
noncomputable def zcw:PSt->Option Rs :=
 (zap zb6 (za0 (za7 0) za6))
noncomputable def zdm:PSt->Option Out :=
 (zas (sIf (mOr (zfc (mAp (g1 (zdy "list")) (za0 (za7 0) za6))) (mAp (g2 (cmpT fun i j=>decide (j<i))) (za0 (mAp (g1 zik) (za0 (za7 0) za6)) (za0 (mC zed) za6)))) (zlm "BadMachine" (za0 (mC (.str "a machine's watches are a list of at most seven")) za6)) sNx)
 (sIf (mOr (zfc (mAp (g1 allT) (za0 (mLC 1 [] (zgn (za7 0)) (bNm 0) (mC (.bl true)) zcw) za6))) (zfc (zap zbn (za0 (za7 0) za6)))) (zlm "BadMachine" (za0 (mC (.str "a machine's watches are unlike names")) za6)) sNx))
noncomputable def zbj:List T->Option Ru:=zdw 1 1 zdm
noncomputable abbrev zix:Fn:=⟨4,["watches"],zbj⟩
noncomputable abbrev ziv:Gx:=⟨[("MOST_WATCHES",zed)],[],[],[],false,true,true,none,[],[],[],true,[],[],[],[]⟩
noncomputable abbrev zff:Gm:=⟨["watches"],(za4 zbu).names,[],3,[("is_watch_name",zfh),("are_unlike",zf4)],["isinstance","list","len","all"],["BadMachine"],[],[],false,[],[],[],ziv⟩
theorem zj0:dSs 200 zff (zab zbu)=some zdm:=by kernel_rfl
theorem strs_mT(ws:List Str):ws.map T.str=mT ws.length fun i=>.str (ws.getD i Str.empty):=zhl (by rw[ya1]) fun i hi=>by
 rw[ya5,ya4,ya0 hi]
 rfl
theorem cw_ok{ws:List Str}(h:∀x∈ws,Wnm x)(hd:ws.Nodup)(hl:ws.length<=7):zbj [.lst (ws.map T.str)]=some (.ok .non):=by
 have lc:=lc1 (n:=ws.length) (me:=zcw) (x:=none) (cs:=[]) (g:=fun i=>.str (ws.getD i Str.empty)) (f:=fun _=>.bl true) fun i hi=>by
  have hm:ws.getD i Str.empty∈ws:=by
   rw[ya4,ya0 hi];exact yac hi
  unfold zcw
  simp_arith[wn_ok (h _ hm)]
 rw[<- strs_mT]at lc;have l1:ws.length<=100000:=by omega
 have e1:decide ((7:Int)<(ws.length:Int))=false:=decide_eq_false (by omega)
 have ba:((List.range ws.length).map fun _=>true).all id=true:=by simp
 have un:=zjc hd (by omega)
 unfold zbj zdm zed
 simp_arith[za5,za9,ya1,lc,l1,e1,zgk,ba,un]
abbrev zc5:Stmt:=top 23
theorem zjf:FnScope ["thing"] ["thing"] (za4 zc5):=⟨rfl,rfl,rfl,by decide +kernel,rfl,by decide +kernel,by decide +kernel⟩
noncomputable def zdb:PSt->Option Rs :=
 (mOr (mAp (g2 eqT) (za0 (za7 0) (za0 (mC (.str "/")) za6))) (zap zau (za0 (za7 0) za6)))
noncomputable def zea:PSt->Option Out :=
 (zas (sIf (mOr (zfc (mAp (g1 (zdy "str")) (za0 (za7 0) za6))) (zfc (mChn leT leT (mC (.int 1)) (mAp (g1 zik) (za0 (za7 0) za6)) (mC (.int 60))))) (zd2 (mC (.bl false))) sNx)
 (zd2 (mAp (g1 allT) (za0 (mLC 1 [] (zgn (za7 0)) (bNm 0) (mC (.bl true)) zdb) za6))))
noncomputable def zbp:List T->Option Ru:=zdw 1 1 zea
noncomputable abbrev zkd:Fn:=⟨2,["thing"],zbp⟩
noncomputable abbrev zk5:Gx:=⟨[],[],[],[],false,true,true,none,[],[],[],true,[],[],[],[]⟩
noncomputable abbrev zg3:Gm:=⟨["thing"],(za4 zc5).names,[],1,[("is_small_letter",ze5)],["isinstance","str","len","all"],[],[],[],false,[],[],[],zk5⟩
theorem zkk:dSs 200 zg3 (zab zc5)=some zea:=by kernel_rfl
theorem rn_ok{x:Str}(h:Sml x)(h1:1<=x.cps.size)(h8:x.cps.size<=60):zbp [.str x]=some (.ok (.bl true)):=by
 have l1:x.cps.size<=100000:=by omega
 have lc:=lc1 (n:=x.cps.size) (me:=zdb) (x:=none) (cs:=[]) (g:=fun i=>.str ⟨#[x.cps.getD i 0]⟩) (f:=fun _=>.bl true) fun i hi=>by
  have o1:PyData.strOk (Str.mk #[x.cps.getD i 0])=true:=sml_tx fun j hj=>by
   have hj':j<1:=hj;have e:j=0:=by omega
   subst e;exact h i hi
  have e:=zkh o1 slash_tx
  have n:¬ (Str.mk #[x.cps.getD i 0]=Str.ofString "/"):=fun q=>by
   have e1:(Str.ofString "/").cps=#[47]:=by decide +kernel
   have q1:#[x.cps.getD i 0]=(Str.ofString "/").cps:=congrArg Str.cps q;rw[e1]at q1;have:=(h i hi).1;have q2:x.cps.getD i 0=47:=by simpa using q1
   omega
  rw[decide_eq_false n]at e;unfold zdb
  simp_arith[e,sl_ok (h i hi).1 (h i hi).2]
 have e1:decide ((1:Int)<=(x.length:Int))=true:=decide_eq_true (by show(1:Int)<=((x.cps.size:Nat):Int);omega)
 have e2:decide ((x.length:Int)<=60)=true:=decide_eq_true (by show((x.cps.size:Nat):Int)<=60;omega)
 have ll:x.length<=100000:=l1;have ba:((List.range x.cps.size).map fun _=>true).all id=true:=by simp
 unfold zbp zea
 simp_arith[sgn_mT,lc,l1,e1,e2,ll,zgk,ba]
abbrev zei:Stmt:=top 7
theorem sc_is_whole:FnScope ["thing"] ["thing"] (za4 zei):=⟨rfl,rfl,rfl,by decide +kernel,rfl,by decide +kernel,by decide +kernel⟩
noncomputable def zgf:PSt->Option Out :=
 (zd2 (mAnd (mAp (g1 (zdy "int")) (za0 (za7 0) za6)) (zfc (mAp (g1 (zdy "bool")) (za0 (za7 0) za6)))))
noncomputable def zcz:List T->Option Ru:=zdw 1 1 zgf
noncomputable abbrev fn_is_whole:Fn:=⟨1,["thing"],zcz⟩
noncomputable abbrev gx_is_whole:Gx:=⟨[],[],[],[],false,true,true,none,[],[],[],true,[],[],[],[]⟩
noncomputable abbrev zk8:Gm:=⟨["thing"],(za4 zei).names,[],0,[],["isinstance","int","bool"],[],[],[],false,[],[],[],gx_is_whole⟩
theorem ck_is_whole:dSs 200 zk8 (zab zei)=some zgf:=by kernel_rfl
theorem whole_int(i:Int):zcz [.int i]=some (.ok (.bl true)):=by simp_arith[zcz,zgf]
abbrev zdk:Stmt:=top 13
theorem sc_is_number:FnScope ["thing"] ["thing"] (za4 zdk):=⟨rfl,rfl,rfl,by decide +kernel,rfl,by decide +kernel,by decide +kernel⟩
noncomputable def zev:PSt->Option Out :=
 (zd2 (mAnd (zap zcz (za0 (za7 0) za6)) (mAp (g2 (cmpT fun i j=>decide (j<=i))) (za0 (za7 0) (za0 (mC (.int 0)) za6)))))
noncomputable def zb7:List T->Option Ru:=zdw 1 1 zev
noncomputable abbrev fn_is_number:Fn:=⟨2,["thing"],zb7⟩
noncomputable abbrev gx_is_number:Gx:=⟨[],[],[],[],false,true,true,none,[],[],[],true,[],[],[],[]⟩
noncomputable abbrev zim:Gm:=⟨["thing"],(za4 zdk).names,[],1,[("is_whole",fn_is_whole)],[],[],[],[],false,[],[],[],gx_is_number⟩
theorem ck_is_number:dSs 200 zim (zab zdk)=some zev:=by kernel_rfl
theorem num_int(i:Int):zb7 [.int i]=some (.ok (.bl (decide (0<=i)))):=by
 unfold zb7 zev
 simp_arith[whole_int]
theorem num_no{t:T}(h:t=.non\/(∃b,t=.bl b)\/∃x,t=.str x):zb7 [t]=some (.ok (.bl false)):=by
 unfold zb7 zev zcz zgf
 rcases h with rfl|⟨b,rfl⟩|⟨x,rfl⟩<;>simp_arith[]
abbrev zfp:Stmt:=top 12
theorem sc_is_look:FnScope ["thing","watches","words"] ["thing","watches","words"] (za4 zfp):=⟨rfl,rfl,rfl,by decide +kernel,rfl,by decide +kernel,by decide +kernel⟩
noncomputable def zhi:PSt->Option Out :=
 (zas (sIf (mOr (zfc (mAp (g1 (zdy "tuple")) (za0 (za7 0) za6))) (mAp (g2 neT) (za0 (mAp (g1 zik) (za0 (za7 0) za6)) (za0 (mC (.int 3)) za6)))) (zd2 (mC (.bl false))) sNx)
 (zd2 (mAnd (mAp (g2 inT) (za0 (mIx (za7 0) (mC (.int 0))) (za0 (za7 1) za6))) (mAnd (mAp (g2 inT) (za0 (mIx (za7 0) (mC (.int 1))) (za0 (za7 2) za6))) (zap zb7 (za0 (mIx (za7 0) (mC (.int 2))) za6))))))
noncomputable def zco:List T->Option Ru:=zdw 3 3 zhi
noncomputable abbrev fn_is_look:Fn:=⟨3,["thing","watches","words"],zco⟩
noncomputable abbrev gx_is_look:Gx:=⟨[],[],[],[],false,true,true,none,[],[],[],true,[],[],[],[]⟩
noncomputable abbrev zm0:Gm:=⟨["thing","watches","words"],(za4 zfp).names,[],2,[("is_number",fn_is_number)],["isinstance","tuple","len"],[],[],[],false,[],[],[],gx_is_look⟩
theorem ck_is_look:dSs 200 zm0 (zab zfp)=some zhi:=by kernel_rfl
def wdS:List Str:=["<","<=",">",">=","="]
theorem k_words:zc2=.nd false .rt (wdS.map T.str):=rfl
theorem wd_tx:Txs wdS:=by unfold Txs;decide +kernel
theorem look_ok{ws:List Str}(h:Txs ws){x y:Str}(hx:PyData.strOk x=true)(hy:PyData.strOk y=true){t:T}(ht:t.sh=true){b:Bool}(hn:zb7 [t]=some (.ok (.bl b))):zco [.tup [.str x,.str y,t],.lst (ws.map T.str),zc2]=some (.ok (.bl (decide (x∈ws) && (decide (y∈wdS) && b)))):=by
 have e1:=zh3 (o:=false) (k:=.lst) h hx;have e2:=zh3 (o:=false) (k:=.rt) wd_tx hy;have es:=zat _ ht;unfold zco zhi;rw[k_words]
 by_cases q1:x∈ws
 ·by_cases q2:y∈wdS
  ·cases b<;>simp_arith[zfv,za5,za9,e1,e2,ht,es,hn,q1,q2]
  ·simp_arith[zfv,za5,za9,e1,e2,ht,es,q1,q2]
 ·simp_arith[zfv,za5,za9,e1,e2,ht,es,q1]
abbrev zej:Stmt:=top 14
theorem sc_is_guard:FnScope ["thing","watches","words"] ["thing","watches","words"] (za4 zej):=⟨rfl,rfl,rfl,by decide +kernel,rfl,by decide +kernel,by decide +kernel⟩
noncomputable def zd7:PSt->Option Rs :=
 (zap zco (za0 (za7 0) (za0 (za7 1) (za0 (za7 2) za6))))
noncomputable def zgg:PSt->Option Out :=
 (zd2 (mAnd (mAp (g1 (zdy "list")) (za0 (za7 0) za6)) (mAp (g1 allT) (za0 (mLC 1 [1,2] (zgn (za7 0)) (bNm 0) (mC (.bl true)) zd7) za6))))
noncomputable def zb3:List T->Option Ru:=zdw 3 3 zgg
noncomputable abbrev zh5:Fn:=⟨4,["thing","watches","words"],zb3⟩
noncomputable abbrev gx_is_guard:Gx:=⟨[],[],[],[],false,true,true,none,[],[],[],true,[],[],[],[]⟩
noncomputable abbrev zk9:Gm:=⟨["thing","watches","words"],(za4 zej).names,["watches","words"],3,[("is_look",fn_is_look)],["isinstance","list","all"],[],[],[],false,[],[],[],gx_is_guard⟩
theorem ck_is_guard:dSs 200 zk9 (zab zej)=some zgg:=by kernel_rfl
theorem guard_list{ws:List Str}{n:Nat}{g:Nat->T}{p:Nat->Bool}(hn:n<=1000)(hs:∀i,(g i).sh=true)(h:∀i,i<n->zco [g i,.lst (ws.map T.str),zc2]=some (.ok (.bl (p i)))):zb3 [.lst (mT n g),.lst (ws.map T.str),zc2]=some (.ok (.bl ((List.range n).all p))):=by
 have hg:(mT n fun i=>(g i).share)=mT n g:=mT_congr fun i _=>zat _ (hs i)
 have kw:zc2.share=zc2:=rfl;have ks:zc2.sh=true:=rfl
 have lc:=lc1 (n:=n) (me:=zd7) (x:=none) (cs:=[some (.lst (ws.map T.str)),some zc2]) (g:=g) (f:=fun i=>.bl (p i)) fun i hi=>by
  unfold zd7
  simp_arith[za5,za9,h i hi,kw,ks,zat _ (hs i),hs i]
 have l1:n<=100000:=by omega
 have sg:=shL_mT (n:=n) hs;unfold zb3 zgg
 simp_arith[za5,za9,kw,ks,hg,sg,l1,lc,zgk,yde,Function.comp_id,Function.id_comp]
abbrev zch:Stmt:=top 30
theorem zl1:FnScope ["rooms","watches","room"] ["rooms","watches"] (za4 zch):=⟨rfl,rfl,rfl,by decide +kernel,rfl,by decide +kernel,by decide +kernel⟩
noncomputable def zdh:PSt->Option Out :=
 (zas (sIf (mOr (zfc (mAp (g1 (zdy "tuple")) (za0 (za7 2) za6))) (mAp (g2 neT) (za0 (mAp (g1 zik) (za0 (za7 2) za6)) (za0 (mC (.int 2)) za6)))) (zlm "BadMachine" (za0 (mC (.str "a room is a tuple of a name and a stay")) za6)) sNx)
 (sIf (mOr (zfc (zap zbp (za0 (mIx (za7 2) (mC (.int 0))) za6))) (zfc (zap zb3 (za0 (mIx (za7 2) (mC (.int 1))) (za0 (za7 1) (za0 (mC zfz) za6)))))) (zlm "BadMachine" (za0 (mC (.str "a room has a name, and a stay of the machine's watches")) za6)) sNx))
noncomputable def zdq:PSt->Option Rs :=
 (mIx (za7 0) (mC (.int 0)))
noncomputable def zew:PSt->Option Out :=
 (zas (sIf (mOr (zfc (mAp (g1 (zdy "list")) (za0 (za7 0) za6))) (mAp (g2 eqT) (za0 (mAp (g1 zik) (za0 (za7 0) za6)) (za0 (mC (.int 0)) za6)))) (zlm "BadMachine" (za0 (mC (.str "a machine's rooms are a list of one or more")) za6)) sNx)
 (zas (sFor (zgn (za7 0)) (bNm 2) zdh)
 (sIf (zfc (zap zbn (za0 (mLC 1 [] (zgn (za7 0)) (bNm 0) (mC (.bl true)) zdq) za6))) (zlm "BadMachine" (za0 (mC (.str "no two rooms have one name")) za6)) sNx)))
noncomputable def zbz:List T->Option Ru:=zdw 2 3 zew
noncomputable abbrev zlc:Fn:=⟨5,["rooms","watches"],zbz⟩
noncomputable abbrev zl7:Gx:=⟨[("STAY_WORDS",zfz)],[],[],[],false,true,true,none,[],[],[],true,[],[],[],[]⟩
noncomputable abbrev zgr:Gm:=⟨["rooms","watches","room"],(za4 zch).names,[],4,[("is_room_name",zkd),("is_guard",zh5),("are_unlike",zf4)],["isinstance","list","len","tuple"],["BadMachine"],[],[],false,[],[],[],zl7⟩
theorem zlh:dSs 200 zgr (zab zch)=some zew:=by kernel_rfl
def Lks(ws wd:List Str)(l:List T):Prop:=∀t∈l,∃x y n,t=.tup [.str x,.str y,.int n]/\x∈ws/\y∈wd/\0<=n
theorem Lks.sh{ws wd:List Str}{l:List T}(h:Lks ws wd l):shL l=true:=by
 rw[zb0,yag];intro t ht;obtain⟨x,y,n,rfl,_⟩:=h t ht
 rfl
theorem Lks.more{ws vs wd:List Str}{l:List T}(h:Lks ws wd l)(hs:∀x∈ws,x∈vs):Lks vs wd l:=fun t ht=>by
 obtain⟨x,y,n,e,h1,h2,h3⟩:=h t ht;exact⟨x,y,n,e,hs x h1,h2,h3⟩
abbrev kwT(wd:List Str):T:=.nd false .rt (wd.map T.str)
theorem look_lk{ws wd:List Str}(h:Txs ws)(hd:Txs wd){t:T}(ht:∃x y n,t=.tup [.str x,.str y,.int n]/\x∈ws/\y∈wd/\0<=n):zco [t,.lst (ws.map T.str),kwT wd]=some (.ok (.bl true)):=by
 obtain⟨x,y,n,rfl,h1,h2,h3⟩:=ht;have e1:=zh3 (o:=false) (k:=.lst) h (h x h1);have e2:=zh3 (o:=false) (k:=.rt) hd (hd y h2);have e3:=num_int n;rw[decide_eq_true h1]at e1;rw[decide_eq_true h2]at e2;rw[decide_eq_true h3]at e3;unfold zco zhi
 simp_arith[zfv,za5,za9,e1,e2,e3]
theorem guard_lk{ws wd:List Str}(h:Txs ws)(hd:Txs wd){l:List T}(hl:l.length<=1000)(hk:Lks ws wd l):zb3 [.lst l,.lst (ws.map T.str),kwT wd]=some (.ok (.bl true)):=by
 have hs:=hk.sh;have es:=za1 l hs;have em:=mT_of l .non
 have sg:∀i,(l.getD i .non).sh=true:=fun i=>by
  by_cases hi:i<l.length
  ·rw[ya4,ya0 hi];rw[zb0,yag]at hs;exact hs _ (yac hi)
  ·rw[ya4,yb5 (by omega)]
   rfl
 have lc:=lc1 (n:=l.length) (me:=zd7) (x:=none) (cs:=[some (.lst (ws.map T.str)),some (kwT wd)]) (g:=fun i=>l.getD i .non) (f:=fun _=>.bl true) fun i hi=>by
  have hm:l.getD i .non∈l:=by
   rw[ya4,ya0 hi];exact yac hi
  have e:=look_lk h hd (hk _ hm);unfold zd7
  simp_arith[za5,za9,e,zat _ (sg i),sg i]
 rw[<- em]at lc;have l1:l.length<=100000:=by omega
 have ba:((List.range l.length).map fun _=>true).all id=true:=by simp
 unfold zb3 zgg
 simp_arith[za5,za9,hs,es,l1,lc,zgk,ba]
def stS:List Str:=["<","<="]
theorem k_stay:zfz=kwT stS:=rfl
theorem k_wds:zc2=kwT wdS:=rfl
theorem st_tx:Txs stS:=by unfold Txs;decide +kernel
structure RsOk(ws:List Str)(rs:List (Str×List T)):Prop where
 l1:1<=rs.length
 l64:rs.length<=64
 nm:∀r∈rs,Sml r.1/\1<=r.1.cps.size/\r.1.cps.size<=60
 nd:(rs.map (·.1)).Nodup
 lk:∀r∈rs,Lks ws stS r.2/\r.2.length<=1000
abbrev zba(r:Str×List T):T:=.tup [.str r.1,.lst r.2]
abbrev rmsT(rs:List (Str×List T)):T:=.lst (rs.map zba)
theorem rom_sh{ws:List Str}{rs:List (Str×List T)}(h:RsOk ws rs):shL (rs.map zba)=true:=by
 rw[zb0,yag];intro t ht;obtain⟨r,hr,rfl⟩:=yah.mp ht;have:=(h.lk r hr).1.sh;show((!false) && (true && (((!false) && shL r.2) && true)))=true;rw[this]
 rfl
theorem cr_ok71{ws:List Str}(hw:Txs ws){rs:List (Str×List T)}(h:RsOk ws rs):zbz [rmsT rs,.lst (ws.map T.str)]=some (.ok .non):=by
 have sr:=rom_sh h;have er:=za1 _ sr;have hl1:=h.l1;have hl2:=h.l64;have en:(((rs.map zba).length:Int) == 0)=false:=by rw[beq_eq_false_iff_ne,ya1];omega
 obtain⟨τ,e,y,rfl⟩:=zc7 (b:=bNm 2) (body:=zdh) (ts:=rs.map zba) (τ:=[some (rmsT rs),some (.lst (ws.map T.str)),none]) (fun i τ=>∃y,τ=[some (rmsT rs),some (.lst (ws.map T.str)),y]) ⟨_,rfl⟩ fun i t τ h1 h2=>by
  obtain⟨y,rfl⟩:=h2;obtain⟨r,hr,rfl⟩:=yah.mp (ybv h1);obtain⟨n1,n2,n3⟩:=h.nm r hr;obtain⟨k1,k2⟩:=h.lk r hr;have e1:=rn_ok n1 n2 n3;have e2:=guard_lk hw st_tx k2 k1;have e3:=k1.sh;refine⟨[some (rmsT rs),some (.lst (ws.map T.str)),some (zba r)],by simp_arith[],[some (rmsT rs),some (.lst (ws.map T.str)),some (zba r)],?_,_,rfl⟩
  unfold zdh
  simp_arith[k_stay,zfv,za5,za9,e1,e2,e3,za1 _ e3]
 have lc:=zgi (b:=bNm 0) (me:=zdq) (ts:=rs.map zba) (τ:=[none]) (fun _ τ=>∃y,τ=[y]) (fun i=>.str ((rs.map (·.1)).getD i Str.empty)) ⟨none,rfl⟩ fun i t τ h1 h2=>by
  obtain⟨y,rfl⟩:=h2;have hi:i<rs.length:=by simpa using (ya6.mp h1).1
  rw[ya5,ya0 hi]at h1;have et:t=zba rs[i]:=(yal h1).symm;subst et;have k1:=(h.lk rs[i] (yac hi)).1.sh;have eg:(rs.map (·.1)).getD i Str.empty=rs[i].1:=by simp[hi]
  refine⟨[some (zba rs[i])],by simp_arith[],?_,_,rfl⟩
  rw[eg];unfold zdq
  simp_arith[k1]
 have em:(List.range (rs.map zba).length).map (fun i=>T.str ((rs.map (·.1)).getD i Str.empty))=(rs.map (·.1)).map T.str:=by
  rw[strs_mT (rs.map (·.1)),ya1,ya1]
  rfl
 rw[em]at lc;have un:=zjc h.nd (by rw[ya1];omega)
 have ll:(rs.map zba).length<=100000:=by rw[ya1];omega
 unfold zbz zew
 simp_arith[eq_int,za5,za9,sr,er,en,e,lc,un,ll]
abbrev zcj:Stmt:=top 32
theorem zl3:FnScope ["thing","watches"] ["thing","watches"] (za4 zcj):=⟨rfl,rfl,rfl,by decide +kernel,rfl,by decide +kernel,by decide +kernel⟩
noncomputable def zds:PSt->Option Rs :=
 (zap zb6 (za0 (za7 0) za6))
noncomputable def zdr:PSt->Option Rs :=
 (mAp (g2 inT) (za0 (za7 0) (za0 (za7 1) za6)))
noncomputable def zey:PSt->Option Out :=
 (zas (sIf (mOr (zfc (mAp (g1 (zdy "list")) (za0 (za7 0) za6))) (zfc (mAp (g1 allT) (za0 (mLC 1 [] (zgn (za7 0)) (bNm 0) (mC (.bl true)) zds) za6)))) (zd2 (mC (.bl false))) sNx)
 (zd2 (mAnd (zap zbn (za0 (za7 0) za6)) (mAp (g1 allT) (za0 (mLC 1 [1] (zgn (za7 0)) (bNm 0) (mC (.bl true)) zdr) za6)))))
noncomputable def zc1:List T->Option Ru:=zdw 2 2 zey
noncomputable abbrev zle:Fn:=⟨4,["thing","watches"],zc1⟩
noncomputable abbrev zl9:Gx:=⟨[],[],[],[],false,true,true,none,[],[],[],true,[],[],[],[]⟩
noncomputable abbrev zgt:Gm:=⟨["thing","watches"],(za4 zcj).names,["watches"],3,[("is_watch_name",zfh),("are_unlike",zf4)],["isinstance","list","all"],[],[],[],false,[],[],[],zl9⟩
theorem zlj:dSs 200 zgt (zab zcj)=some zey:=by kernel_rfl
theorem nou_ok{ws ns:List Str}(hw:∀x∈ws,Wnm x)(hn:∀x∈ns,x∈ws)(hd:ns.Nodup)(hl:ns.length<=100):zc1 [.lst (ns.map T.str),.lst (ws.map T.str)]=some (.ok (.bl true)):=by
 have tw:Txs ws:=fun x hx=>wnm_tx (hw x hx)
 have mem:∀i,i<ns.length->ns.getD i Str.empty∈ns:=fun i hi=>by
  rw[ya4,ya0 hi];exact yac hi
 have lc:=lc1 (n:=ns.length) (me:=zds) (x:=none) (cs:=[]) (g:=fun i=>.str (ns.getD i Str.empty)) (f:=fun _=>.bl true) fun i hi=>by
  unfold zds
  simp_arith[wn_ok (hw _ (hn _ (mem i hi)))]
 have lc2:=lc1 (n:=ns.length) (me:=zdr) (x:=none) (cs:=[some (.lst (ws.map T.str))]) (g:=fun i=>.str (ns.getD i Str.empty)) (f:=fun _=>.bl true) fun i hi=>by
  have e:=zh3 (o:=false) (k:=.lst) tw (tw _ (hn _ (mem i hi)));rw[decide_eq_true (hn _ (mem i hi))]at e;unfold zdr
  simp_arith[za5,za9,e]
 rw[<- strs_mT]at lc lc2;have l1:ns.length<=100000:=by omega
 have ba:((List.range ns.length).map fun _=>true).all id=true:=by simp
 have un:=zjc hd (by omega)
 unfold zc1 zey
 simp_arith[za5,za9,ya1,lc,lc2,l1,zgk,ba,un]
abbrev zfn:Stmt:=top 24
theorem sc_is_sign:FnScope ["thing"] ["thing"] (za4 zfn):=⟨rfl,rfl,rfl,by decide +kernel,rfl,by decide +kernel,by decide +kernel⟩
noncomputable def zhh:PSt->Option Out :=
 (zas (sIf (zfc (mAp (g1 (zdy "str")) (za0 (za7 0) za6))) (zd2 (mC (.bl false))) sNx)
 (zd2 (mOr (mAp (g2 eqT) (za0 (za7 0) (za0 (mC (.str "")) za6))) (mAnd (mAp (g2 inT) (za0 (mIx (za7 0) (mAp (g1 negT) (za0 (mC (.int 1)) za6))) (za0 (zgm (za0 (mC (.str "!")) (za0 (mC (.str "?")) za6))) za6))) (zap zdt (za0 (mAlt (mSl (za7 0) none (some (mAp (g1 negT) (za0 (mC (.int 1)) za6)))) (mSlT (za7 0) none (some (mAp (g1 negT) (za0 (mC (.int 1)) za6))))) za6))))))
noncomputable def zd8:List T->Option Ru:=zdw 1 1 zhh
noncomputable abbrev fn_is_sign:Fn:=⟨3,["thing"],zd8⟩
noncomputable abbrev gx_is_sign:Gx:=⟨[],[],[],[],false,true,true,none,[],[],[],true,[],[],[],[]⟩
noncomputable abbrev zly:Gm:=⟨["thing"],(za4 zfn).names,[],2,[("is_name",zm7)],["isinstance","str"],[],[],[],false,[],[],[],gx_is_sign⟩
theorem ck_is_sign:dSs 200 zly (zab zfn)=some zhh:=by kernel_rfl
def Sgn(z:Str):Prop:=z=Str.ofString ""\/z=Str.ofString "go!"\/z=Str.ofString "cut!"
theorem sgn_ok{z:Str}(h:Sgn z):zd8 [.str z]=some (.ok (.bl true)):=by
 have o0:PyData.strOk (Str.ofString "")=true:=by decide +kernel
 have sm:∀x:Str,(x.cps.all fun c=>decide (97<=c) && decide (c<=122))=true->Sml x:=fun x hx i hi=>by
  rw[Array.all_eq_true]at hx;have:=hx i hi;rw[ya2,decide_eq_true_eq,decide_eq_true_eq]at this;rw[Array.getD_eq_getD_getElem?,yb8 hi];exact this
 have tl:inT (.str (Str.mk #[33])) (.tup [.str (Str.ofString "!"),.str (Str.ofString "?")])=some (.bl true):=by kernel_rfl
 have key:∀z y:Str,PyData.strOk z=true->z≠Str.ofString ""->z.length<=100000->atI z.cps.toList (-1)=some 33->Txt.slice z none (some (-1))=y->Sml y->1<=y.cps.size->y.cps.size<=8->zd8 [.str z]=some (.ok (.bl true)):=by
  intro z y hz hne hl ha hs h1 h2 h3;have e:=zkh hz o0;rw[decide_eq_false hne]at e;have en:=nm_ok h1 h2 h3;unfold zd8 zhh
  simp_arith[e,hl,ha,tl,mSlT,hs,en,show(-(1:Int))=-1 from rfl]
 rcases h with rfl|rfl|rfl
 ·have e:=zkh o0 o0;rw[decide_eq_true rfl]at e;unfold zd8 zhh
  simp_arith[e]
 ·exact key _ (Str.ofString "go") (by decide +kernel) (by decide +kernel) (by decide +kernel) (by decide +kernel) (by decide +kernel) (sm _ (by decide +kernel)) (by decide +kernel) (by decide +kernel)
 ·exact key _ (Str.ofString "cut") (by decide +kernel) (by decide +kernel) (by decide +kernel) (by decide +kernel) (by decide +kernel) (sm _ (by decide +kernel)) (by decide +kernel) (by decide +kernel)
abbrev zci:Stmt:=top 31
theorem zl2:FnScope ["doors","names","watches","door"] ["doors","names","watches"] (za4 zci):=⟨rfl,rfl,rfl,by decide +kernel,rfl,by decide +kernel,by decide +kernel⟩
noncomputable def zdi:PSt->Option Out :=
 (zas (sIf (zfc (mAp (g1 (isCT zcb)) (za0 (za7 3) za6))) (zlm "BadMachine" (za0 (mC (.str "a machine's doors are doors")) za6)) sNx)
 (zas (sIf (mOr (mAp (g2 zfu) (za0 (mFld zcb zdp 0 (za7 3)) (za0 (za7 1) za6))) (mAp (g2 zfu) (za0 (mFld zcb zdp 1 (za7 3)) (za0 (za7 1) za6)))) (zlm "BadMachine" (za0 (mC (.str "a door leads from one room of the machine to another")) za6)) sNx)
 (zas (sIf (zfc (zap zb3 (za0 (mFld zcb zdp 2 (za7 3)) (za0 (za7 2) (za0 (mC zc2) za6))))) (zlm "BadMachine" (za0 (mC (.str "a door's guard is one of the machine's watches")) za6)) sNx)
 (sIf (mOr (zfc (zap zc1 (za0 (mFld zcb zdp 3 (za7 3)) (za0 (za7 2) za6)))) (zfc (zap zd8 (za0 (mFld zcb zdp 4 (za7 3)) za6)))) (zlm "BadMachine" (za0 (mC (.str "a door sets watches of the machine, each once, and has at most one sign")) za6)) sNx))))
noncomputable def zex:PSt->Option Out :=
 (zas (sIf (zfc (mAp (g1 (zdy "list")) (za0 (za7 0) za6))) (zlm "BadMachine" (za0 (mC (.str "a machine's doors are a list")) za6)) sNx)
 (sFor (zgn (za7 0)) (bNm 3) zdi))
noncomputable def zc0:List T->Option Ru:=zdw 3 4 zex
noncomputable abbrev zld:Fn:=⟨5,["doors","names","watches"],zc0⟩
noncomputable abbrev zl8:Gx:=⟨[("WORDS",zc2)],[("Door",zcb,zdp)],[],[],false,true,true,none,[],[],[],true,[],[("Door",zcb)],[],[]⟩
noncomputable abbrev zgs:Gm:=⟨["doors","names","watches","door"],(za4 zci).names,[],4,[("is_guard",zh5),("are_noughts",zle),("is_sign",fn_is_sign)],["isinstance","list"],["BadMachine"],[],[],false,[],[],[],zl8⟩
theorem zli:dSs 200 zgs (zab zci)=some zex:=by kernel_rfl
structure Dr where
 s:Str
 e:Str
 g:List T
 n:List Str
 z:Str
abbrev zki(d:Dr):T:=.obj (.ins zcb zdp) [.str d.s,.str d.e,.lst d.g,.lst (d.n.map T.str),.str d.z]
structure DrOk(ws ns:List Str)(d:Dr):Prop where
 s:d.s∈ns
 e:d.e∈ns
 g:Lks ws wdS d.g
 gl:d.g.length<=1000
 n:∀x∈d.n,x∈ws
 nd:d.n.Nodup
 nl:d.n.length<=100
 z:Sgn d.z
theorem DrOk.more{ws vs ns:List Str}{d:Dr}(h:DrOk ws ns d)(hs:∀x∈ws,x∈vs):DrOk vs ns d:=⟨h.s,h.e,h.g.more hs,h.gl,fun x hx=>hs x (h.n x hx),h.nd,h.nl,h.z⟩
theorem dor_sh{ws ns:List Str}{d:Dr}(h:DrOk ws ns d):(zki d).sh=true:=by
 have:=h.g.sh
 simp_arith[this,za9]
theorem zls{ys:List Str}{x:Str}{o:Bool}{k:Kd}(h:Txs ys)(hx:PyData.strOk x=true):zfu (.str x) (.nd o k (ys.map T.str))=some (.bl (!decide (x∈ys))):=by
 have e:=zh3 (o:=o) (k:=k) h hx;unfold inT at e;unfold zfu;simp only at e ⊢;split at e
 ·rename_i hok;rw[if_pos hok];injection e with e
  injection e with e
  rw[e]
 ·cases e
theorem cd_ok71{ws ns:List Str}(hw:∀x∈ws,Wnm x)(hn:Txs ns){ds:List Dr}(h:∀d∈ds,DrOk ws ns d):zc0 [.lst (ds.map zki),.lst (ns.map T.str),.lst (ws.map T.str)]=some (.ok .non):=by
 have tw:Txs ws:=fun x hx=>wnm_tx (hw x hx)
 have sd:shL (ds.map zki)=true:=by
  rw[zb0,yag];intro t ht;obtain⟨d,hd,rfl⟩:=yah.mp ht;exact dor_sh (h d hd)
 have ed:=za1 _ sd
 obtain⟨τ,e,y,rfl⟩:=zc7 (b:=bNm 3) (body:=zdi) (ts:=ds.map zki) (τ:=[some (.lst (ds.map zki)),some (.lst (ns.map T.str)),some (.lst (ws.map T.str)),none]) (fun i τ=>∃y,τ=[some (.lst (ds.map zki)),some (.lst (ns.map T.str)),some (.lst (ws.map T.str)),y]) ⟨_,rfl⟩ fun i t τ h1 h2=>by
  obtain⟨y,rfl⟩:=h2;obtain⟨d,hd,rfl⟩:=yah.mp (ybv h1);have k:=h d hd;have e1:=zls (o:=false) (k:=.lst) hn (hn _ k.s);have e2:=zls (o:=false) (k:=.lst) hn (hn _ k.e);rw[decide_eq_true k.s]at e1;rw[decide_eq_true k.e]at e2;have e3:=guard_lk tw wd_tx k.gl k.g;have e4:=nou_ok hw k.n k.nd k.nl;have e5:=sgn_ok k.z;have e6:=k.g.sh;refine⟨[some (.lst (ds.map zki)),some (.lst (ns.map T.str)),some (.lst (ws.map T.str)),some (zki d)],by simp_arith[],[some (.lst (ds.map zki)),some (.lst (ns.map T.str)),some (.lst (ws.map T.str)),some (zki d)],?_,_,rfl⟩
  unfold zdi
  simp_arith[k_wds,isCT,za5,za9,e1,e2,e3,e4,e5,e6,za1 _ e6]
 unfold zc0 zex
 simp_arith[za5,za9,sd,ed,e]
abbrev zd1:Stmt:=meth 27 0
theorem zjg:FnScope ["self","watches","rooms","doors","name","stay"] ["self","watches","rooms","doors"] (za4 zd1):=⟨rfl,rfl,rfl,by decide +kernel,rfl,by decide +kernel,by decide +kernel⟩
noncomputable def zdc:PSt->Option Rs :=
 (za7 0)
noncomputable def zd9:PSt->Option Out :=
 (sDpf zae zaj 1 0 (za7 4) (mAp (g1 zf0) (za0 (za7 5) za6)))
noncomputable def zeb:PSt->Option Out :=
 (zas (sExp (zap zbj (za0 (za7 1) za6)))
 (zas (sExp (zap zbz (za0 (za7 2) (za0 (za7 1) za6))))
 (zas (sExp (zap zc0 (za0 (za7 3) (za0 (mLC 2 [] (zgn (za7 2)) (zfk 2 (zai (bNm 0) (zai (bNm 1) zg7))) (mC (.bl true)) zdc) (za0 (za7 1) za6)))))
 (zas (sIf (mOr (mAp (g2 (cmpT fun i j=>decide (j<i))) (za0 (mAp (g1 zik) (za0 (za7 2) za6)) (za0 (mC zg0) za6))) (mAp (g2 (cmpT fun i j=>decide (j<i))) (za0 (mAp (g1 zik) (za0 (za7 3) za6)) (za0 (mC zg1) za6)))) (zlm "TooMany" (za0 (mC (.str "a machine has at most 64 rooms and at most 200 doors")) za6)) sNx)
 (zas (zhx zae zaj 0 0 (mAp (g1 zf0) (za0 (za7 1) za6)))
 (zas (zhx zae zaj 1 0 mDicS)
 (zas (sFor (zgn (za7 2)) (zfk 2 (zai (bNm 4) (zai (bNm 5) zg7))) zd9)
 (zhx zae zaj 2 0 (mAp (g1 zf0) (za0 (za7 3) za6))))))))))
noncomputable def zc8:List T->Option Ru:=runI zae zaj 4 6 zeb
noncomputable abbrev zke:Fn:=⟨6,["self","watches","rooms","doors"],zc8⟩
noncomputable abbrev zk6:Gx:=⟨[("MOST_ROOMS",zg0),("MOST_DOORS",zg1)],[],[],[],false,true,true,some (zae,zaj),[],[],[],true,[],[],[],[]⟩
noncomputable abbrev zg4:Gm:=⟨["self","watches","rooms","doors","name","stay"],(za4 zd1).names,[],5,[("check_watches",zix),("check_rooms",zlc),("check_doors",zld)],["len","list"],["TooMany"],[],[],false,[],[],[],zk6⟩
theorem zkl:dSs 200 zg4 (zab zd1)=some zeb:=by kernel_rfl
structure Mc where
 ws:List Str
 rs:List (Str×List T)
 ds:List Dr
abbrev zgz(M:Mc):T:=.obj (.ins zae zaj) [.lst (M.ws.map T.str),.obj (.sdc (M.rs.map (·.1))) (M.rs.map fun r=>.lst r.2),.lst (M.ds.map zki)]
structure McOk(M:Mc):Prop where
 w:∀x∈M.ws,Wnm x
 wd:M.ws.Nodup
 wl:M.ws.length<=7
 r:RsOk M.ws M.rs
 d:∀d∈M.ds,DrOk M.ws (M.rs.map (·.1)) d
 dl:M.ds.length<=200
theorem McOk.tw{M:Mc}(h:McOk M):Txs M.ws:=fun x hx=>wnm_tx (h.w x hx)
theorem McOk.tn{M:Mc}(h:McOk M):Txs (M.rs.map (·.1)):=fun x hx=>by
 obtain⟨r,hr,rfl⟩:=yah.mp hx;exact sml_tx (h.r.nm r hr).1
theorem McOk.sd{M:Mc}(h:McOk M):shL (M.ds.map zki)=true:=by
 rw[zb0,yag];intro t ht;obtain⟨d,hd,rfl⟩:=yah.mp ht;exact dor_sh (h.d d hd)
theorem McOk.ss{M:Mc}(h:McOk M):shL (M.rs.map fun r=>T.lst r.2)=true:=by
 rw[zb0,yag];intro t ht;obtain⟨r,hr,rfl⟩:=yah.mp ht;show((!false) && shL r.2)=true;rw[(h.r.lk r hr).1.sh]
 rfl
theorem McOk.sh{M:Mc}(h:McOk M):(zgz M).sh=true:=by
 simp_arith[za9,h.ss,h.sd]
theorem mi_ok71{M:Mc}(h:McOk M):zc8 [.lst (M.ws.map T.str),rmsT M.rs,.lst (M.ds.map zki)]=some (.ok (zgz M)):=by
 have cw:=cw_ok h.w h.wd h.wl;have cr:=cr_ok71 h.tw h.r;have cd:=cd_ok71 h.w h.tn h.d;have sr:=rom_sh h.r;have er:=za1 _ sr;have sd:=h.sd;have ed:=za1 _ sd;have h1:=h.r.l1;have h64:=h.r.l64;have h200:=h.dl
 have lc:=zgi (b:=zfk 2 (zai (bNm 0) (zai (bNm 1) zg7))) (me:=zdc) (ts:=M.rs.map zba) (τ:=[none,none]) (fun _ τ=>∃x y,τ=[x,y]) (fun i=>.str ((M.rs.map (·.1)).getD i Str.empty)) ⟨none,none,rfl⟩ fun i t τ h1 h2=>by
  obtain⟨x,y,rfl⟩:=h2;have hi:i<M.rs.length:=by simpa using (ya6.mp h1).1
  rw[ya5,ya0 hi]at h1;have et:t=zba M.rs[i]:=(yal h1).symm;subst et;have eg:(M.rs.map (·.1)).getD i Str.empty=M.rs[i].1:=by simp[hi]
  refine⟨[some (.str M.rs[i].1),some (.lst M.rs[i].2)],by simp_arith[],?_,_,_,rfl⟩
  rw[eg];unfold zdc
  simp_arith[]
 have em:(List.range (M.rs.map zba).length).map (fun i=>T.str ((M.rs.map (·.1)).getD i Str.empty))=(M.rs.map (·.1)).map T.str:=by
  rw[strs_mT (M.rs.map (·.1)),ya1,ya1]
  rfl
 rw[em]at lc;have ll:(M.rs.map zba).length<=100000:=by rw[ya1];omega
 have g1:decide ((64:Int)<((M.rs.map zba).length:Int))=false:=decide_eq_false (by rw[ya1];omega)
 have g2:decide ((200:Int)<((M.ds.map zki).length:Int))=false:=decide_eq_false (by rw[ya1];omega)
 refine runI_of fun p=>?_
 obtain⟨τ,e,x,y,rfl⟩:=zc7 (b:=zfk 2 (zai (bNm 4) (zai (bNm 5) zg7))) (body:=zd9) (ts:=M.rs.map zba) (τ:=[some (.oob p zae zaj [.own (M.ws.map T.str),.osd [] []]),some (.lst (M.ws.map T.str)),some (rmsT M.rs),some (.lst (M.ds.map zki)),none,none])
  (fun i τ=>∃x y,τ=[some (.oob p zae zaj [.own (M.ws.map T.str),.osd ((M.rs.take i).map (·.1)) ((M.rs.take i).map fun r=>.lst r.2)]),some (.lst (M.ws.map T.str)),some (rmsT M.rs),some (.lst (M.ds.map zki)),x,y]) ⟨none,none,by rw[List.take_zero];rfl⟩ fun i t τ h1 h2=>by
  obtain⟨x,y,rfl⟩:=h2;have hi:i<M.rs.length:=by simpa using (ya6.mp h1).1
  rw[ya5,ya0 hi]at h1;have et:t=zba M.rs[i]:=(yal h1).symm;subst et;have k1:=(h.r.lk _ (yac hi)).1.sh
  have hno:M.rs[i].1∉(M.rs.take i).map (·.1):=fun hm=>by
   rw[List.map_take]at hm;obtain⟨j,hj,ej⟩:=List.mem_iff_getElem.mp hm;rw[yb6,ya1]at hj;have hnd:=h.r.nd;rw[List.getElem_take]at ej;have e2:(M.rs.map (·.1))[j]'(by rw[ya1];omega)=(M.rs.map (·.1))[i]'(by rw[ya1];exact hi):=by rw[ej,List.getElem_map]
   have:=(ycn hnd).mp e2
   omega
  have hlen:((M.rs.take i).map (·.1)).length<100000:=by
   rw[ya1,yb6]
   omega
  have et2:M.rs.take (i+1)=M.rs.take i++[M.rs[i]]:=by rw[yce]
  refine⟨[some (.oob p zae zaj [.own (M.ws.map T.str),.osd ((M.rs.take i).map (·.1)) ((M.rs.take i).map fun r=>.lst r.2)]),some (.lst (M.ws.map T.str)),some (rmsT M.rs),some (.lst (M.ds.map zki)),some (.str M.rs[i].1),some (.lst M.rs[i].2)],by simp_arith[],[some (.oob p zae zaj [.own (M.ws.map T.str),.osd ((M.rs.take (i+1)).map (·.1)) ((M.rs.take (i+1)).map fun r=>.lst r.2)]),some (.lst (M.ws.map T.str)),some (rmsT M.rs),some (.lst (M.ds.map zki)),some (.str M.rs[i].1),some (.lst M.rs[i].2)],?_,_,_,rfl⟩
  rw[et2,yb9,yb9];unfold zd9
  simp_arith[k1,za1 _ k1,hno,hlen]
 rw[ya1,ydi]at e;have es:=za1 _ h.ss;unfold runI0 zeb zg0 zg1
 simp_arith[za5,za9,cw,cr,cd,sr,er,sd,ed,lc,ll,g1,g2,e,es]
abbrev zeh:Stmt:=top 25
theorem sc_own_copy:FnScope ["thing"] ["thing"] (za4 zeh):=⟨rfl,rfl,rfl,by decide +kernel,rfl,by decide +kernel,by decide +kernel⟩
noncomputable def zi1:PSt->Option Out :=
 (zd2 (mIf (mAp (g1 (zdy "list")) (za0 (za7 0) za6)) (mAp (g1 zf0) (za0 (za7 0) za6)) (za7 0)))
noncomputable def zcy:List T->Option Ru:=zdw 1 1 zi1
noncomputable abbrev fn_own_copy:Fn:=⟨1,["thing"],zcy⟩
noncomputable abbrev gx_own_copy:Gx:=⟨[],[],[],[],false,true,true,none,[],[],[],true,[],[],[],[]⟩
noncomputable abbrev zk7:Gm:=⟨["thing"],(za4 zeh).names,[],0,[],["isinstance","list"],[],[],[],false,[],[],[],gx_own_copy⟩
theorem ck_own_copy:dSs 200 zk7 (zab zeh)=some zi1:=by kernel_rfl
theorem oc_ok(l:List T)(h:shL l=true):zcy [.lst l]=some (.ok (.own l)):=by
 unfold zcy zi1
 simp_arith[h,za1 _ h]
abbrev zeu:Stmt:=meth 26 0
theorem sc_Door_init:FnScope ["self","start","end","guard","noughts","sign"] ["self","start","end","guard","noughts","sign"] (za4 zeu):=⟨rfl,rfl,rfl,by decide +kernel,rfl,by decide +kernel,by decide +kernel⟩
noncomputable def zh1:PSt->Option Out :=
 (zas (zhx zcb zdp 0 0 (za7 1))
 (zas (zhx zcb zdp 1 0 (za7 2))
 (zas (zhx zcb zdp 2 0 (zap zcy (za0 (za7 3) za6)))
 (zas (zhx zcb zdp 3 0 (zap zcy (za0 (za7 4) za6)))
 (zhx zcb zdp 4 0 (za7 5))))))
noncomputable def zdv:List T->Option Ru:=runI zcb zdp 6 6 zh1
noncomputable abbrev fn_Door_init:Fn:=⟨2,["self","start","end","guard","noughts","sign"],zdv⟩
noncomputable abbrev gx_Door_init:Gx:=⟨[],[],[],[],false,true,true,some (zcb,zdp),[],[],[],true,[],[],[],[]⟩
noncomputable abbrev zin:Gm:=⟨["self","start","end","guard","noughts","sign"],(za4 zeu).names,[],1,[("own_copy",fn_own_copy)],[],[],[],[],false,[],[],[],gx_Door_init⟩
theorem ck_Door_init:dSs 200 zin (zab zeu)=some zh1:=by kernel_rfl
theorem di_ok{ws ns:List Str}{d:Dr}(h:DrOk ws ns d):zdv [.str d.s,.str d.e,.lst d.g,.lst (d.n.map T.str),.str d.z]=some (.ok (zki d)):=by
 have hg:=h.g.sh;have e1:=oc_ok d.g hg;have e2:=oc_ok (d.n.map T.str) (za9 _);refine runI_of fun p=>?_
 unfold runI0 zh1
 simp_arith[e1,e2,hg,za1 _ hg,za5,za9]
abbrev zjl:Stmt:=top 49
theorem sc_Lmade:FnScope ["_law_spec","_law_built","_law_watches","_law_rooms","_law_doors","_law_begin","_law_end","_law_guard_here","_law_noughts","_law_sign"] ["_law_spec"] (za4 zjl):=⟨rfl,rfl,rfl,by decide +kernel,rfl,by decide +kernel,by decide +kernel⟩
noncomputable def zja:PSt->Option Out :=
 (sApp 1 (mNew zdv [] (za0 (mIx (mIx (za7 3) (za7 5)) (mC (.int 0))) (za0 (mIx (mIx (za7 3) (za7 6)) (mC (.int 0))) (za0 (mAp (g1 zf0) (za0 (za7 7) za6)) (za0 (mAp (g1 zf0) (za0 (za7 8) za6)) (za0 (za7 9) za6)))))))
noncomputable def zkt:PSt->Option Rs :=
 (zgm (za0 (za7 0) (za0 (mAp (g1 zf0) (za0 (za7 1) za6)) za6)))
noncomputable def m_Lmade:PSt->Option Out :=
 (zas (zcd (za7 0) (zfk 3 (zai (bNm 2) (zai (bNm 3) (zai (bNm 4) zg7)))))
 (zas (sOwn 1 (zfi za6))
 (zas (sFor (zgn (za7 4)) (zfk 5 (zai (bNm 5) (zai (bNm 6) (zai (bNm 7) (zai (bNm 8) (zai (bNm 9) zg7)))))) zja)
 (zas (sFrz 1) (zd2 (mNew zc8 [] (za0 (mAp (g1 zf0) (za0 (za7 2) za6)) (za0 (mLC 2 [] (zgn (za7 3)) (zfk 2 (zai (bNm 0) (zai (bNm 1) zg7))) (mC (.bl true)) zkt) (za0 (za7 1) za6)))))))))
noncomputable def zh8:List T->Option Ru:=zdw 1 10 m_Lmade
noncomputable abbrev fn_Lmade:Fn:=⟨8,["_law_spec"],zh8⟩
noncomputable abbrev gx_Lmade:Gx:=⟨[],[],[],[("Door",fn_Door_init,[(5,[])]),("Machine",zke,[(3,[])])],false,true,true,none,[],[],[],true,[],[],[],[]⟩
noncomputable abbrev gm_Lmade:Gm:=⟨["_law_spec","_law_built","_law_watches","_law_rooms","_law_doors","_law_begin","_law_end","_law_guard_here","_law_noughts","_law_sign"],(za4 zjl).names,[],7,[],["list"],[],["_law_built"],[],false,[],[],[],gx_Lmade⟩
theorem ck_Lmade:dSs 200 gm_Lmade (zab zjl)=some m_Lmade:=by kernel_rfl
structure Sd where
 b:Nat
 e:Nat
 g:List T
 n:List Str
 z:Str
abbrev sdT(d:Sd):T:=.tup [.int (d.b:Int),.int (d.e:Int),.lst d.g,.lst (d.n.map T.str),.str d.z]
abbrev spT(ws:List Str)(rs:List (Str×List T))(dd:List Sd):T:=.tup [.lst (ws.map T.str),rmsT rs,.lst (dd.map sdT)]
def drOf(rs:List (Str×List T))(d:Sd):Dr:=⟨(rs.getD d.b (Str.empty,[])).1,(rs.getD d.e (Str.empty,[])).1,d.g,d.n,d.z⟩
structure SpOk(ws:List Str)(rs:List (Str×List T))(dd:List Sd):Prop where
 r:RsOk ws rs
 b:∀d∈dd,d.b<rs.length/\d.e<rs.length
 d:∀d∈dd,DrOk ws (rs.map (·.1)) (drOf rs d)
 l:dd.length<=100
theorem SpOk.sd{ws:List Str}{rs:List (Str×List T)}{dd:List Sd}(h:SpOk ws rs dd):shL (dd.map sdT)=true:=by
 rw[zb0,yag];intro t ht;obtain⟨d,hd,rfl⟩:=yah.mp ht;have hg:shL d.g=true:=(h.d d hd).g.sh
 simp_arith[hg,za9]
theorem rom_at{rs:List (Str×List T)}{i:Nat}(h:i<rs.length):atI (rs.map zba) (i:Int)=some (.tup [.str (rs.getD i (Str.empty,[])).1,.lst (rs.getD i (Str.empty,[])).2]):=zbr (by
 rw[ya5,ya4,ya0 h]
 rfl)
theorem made_ok{ws:List Str}{rs:List (Str×List T)}{dd:List Sd}(h:SpOk ws rs dd)(hm:McOk ⟨ws,rs,dd.map (drOf rs)⟩):zh8 [spT ws rs dd]=some (.ok (zgz ⟨ws,rs,dd.map (drOf rs)⟩)):=by
 have sr:=rom_sh h.r;have er:=za1 _ sr;have sd:=h.sd;have ed:=za1 _ sd;have hl:=h.l
 obtain⟨τ,e,x5,x6,x7,x8,x9,rfl⟩:=zc7 (b:=zfk 5 (zai (bNm 5) (zai (bNm 6) (zai (bNm 7) (zai (bNm 8) (zai (bNm 9) zg7)))))) (body:=zja) (ts:=dd.map sdT) (τ:=[some (spT ws rs dd),some (.own []),some (.lst (ws.map T.str)),some (rmsT rs),some (.lst (dd.map sdT)),none,none,none,none,none])
  (fun i τ=>∃x5 x6 x7 x8 x9,τ=[some (spT ws rs dd),some (.own (((dd.take i).map (drOf rs)).map zki)),some (.lst (ws.map T.str)),some (rmsT rs),some (.lst (dd.map sdT)),x5,x6,x7,x8,x9]) ⟨none,none,none,none,none,by rw[List.take_zero];rfl⟩ fun i t τ h1 h2=>by
  obtain⟨x5,x6,x7,x8,x9,rfl⟩:=h2;have hi:i<dd.length:=by simpa using (ya6.mp h1).1
  rw[ya5,ya0 hi]at h1;have et:t=sdT dd[i]:=(yal h1).symm;subst et;have hb:=h.b _ (yac hi);have hd:=h.d _ (yac hi);have k1:=rom_at hb.1;have k2:=rom_at hb.2;have k3:=di_ok hd;have hg:shL dd[i].g=true:=hd.g.sh
  have hr:∀j,shL (rs.getD j (Str.empty,[])).2=true:=fun j=>by
   by_cases hj:j<rs.length
   ·rw[ya4,ya0 hj];exact(h.r.lk _ (yac hj)).1.sh
   ·rw[ya4,yb5 (by omega)]
    rfl
  have ll:(((dd.take i).map (drOf rs)).map zki).length<100000:=by
   rw[ya1,ya1,yb6]
   omega
  have et2:dd.take (i+1)=dd.take i++[dd[i]]:=by rw[yce]
  refine⟨[some (spT ws rs dd),some (.own (((dd.take i).map (drOf rs)).map zki)),some (.lst (ws.map T.str)),some (rmsT rs),some (.lst (dd.map sdT)),some (.int (dd[i].b:Int)),some (.int (dd[i].e:Int)),some (.lst dd[i].g),some (.lst (dd[i].n.map T.str)),some (.str dd[i].z)],by simp_arith[],[some (spT ws rs dd),some (.own (((dd.take (i+1)).map (drOf rs)).map zki)),some (.lst (ws.map T.str)),some (rmsT rs),some (.lst (dd.map sdT)),some (.int (dd[i].b:Int)),some (.int (dd[i].e:Int)),some (.lst dd[i].g),some (.lst (dd[i].n.map T.str)),some (.str dd[i].z)],?_,_,_,_,_,_,rfl⟩
  rw[et2,yb9,yb9];unfold drOf at k3;unfold zja
  simp_arith[sr,k1,k2,hr,hg,za1 _ hg,za5,za9,k3,ll]
  rfl
 rw[ya1,ydi]at e
 have lc:=zgi (b:=zfk 2 (zai (bNm 0) (zai (bNm 1) zg7))) (me:=zkt) (ts:=rs.map zba) (τ:=[none,none]) (fun _ τ=>∃x y,τ=[x,y]) (fun i=>zba (rs.getD i (Str.empty,[]))) ⟨none,none,rfl⟩ fun i t τ h1 h2=>by
  obtain⟨x,y,rfl⟩:=h2;have hi:i<rs.length:=by simpa using (ya6.mp h1).1
  rw[ya5,ya0 hi]at h1;have et:t=zba rs[i]:=(yal h1).symm;subst et;have k1:=(h.r.lk _ (yac hi)).1.sh;have eg:rs.getD i (Str.empty,[])=rs[i]:=by simp[hi]
  refine⟨[some (.str rs[i].1),some (.lst rs[i].2)],by simp_arith[],?_,_,_,rfl⟩
  rw[eg];unfold zkt
  simp_arith[k1,za1 _ k1]
 have em:(List.range (rs.map zba).length).map (fun i=>zba (rs.getD i (Str.empty,[])))=rs.map zba:=by
  rw[ya1];refine(zhl (n:=rs.length) (g:=fun i=>zba (rs.getD i (Str.empty,[]))) (by rw[ya1]) fun i hi=>?_).symm
  rw[ya5,ya4,ya0 hi]
  rfl
 rw[em]at lc
 have ll:(rs.map zba).length<=100000:=by
  have:=h.r.l64;rw[ya1]
  omega
 have mi:=mi_ok71 hm;have s2:=hm.sd;have e2:=za1 _ s2;unfold zh8 m_Lmade
 simp_arith[za5,za9,sr,er,sd,ed,e,s2,e2,lc,ll,mi]
abbrev zhe:Stmt:=top 43
theorem sc_Lnames:FnScope ["_law_cell","_law_many","_law_letters","_law_size","_law_at","_law_names_here","_law_k","_law_word"] ["_law_cell","_law_many"] (za4 zhe):=⟨rfl,rfl,rfl,by decide +kernel,rfl,by decide +kernel,by decide +kernel⟩
noncomputable def zif:PSt->Option Rs :=
 (mIx (za7 2) (mAp (g2 zen) (za0 (mAp (g2 zd6) (za0 (za7 1) (za0 (mAp (g2 zeq) (za0 (mC (.int 6720)) (za0 (mAp (g2 zlt) (za0 (mC (.int 31)) (za0 (za7 0) za6))) za6))) za6))) (za0 (mC (.int 26)) za6))))
noncomputable def zg9:PSt->Option Out :=
 (zas (sOwn 7 (mLC 1 [0,2] (zc3 (za0 (za7 3) za6)) (bNm 0) (mC (.bl true)) zif))
 (zas (sSto 7 (za7 4) (mIx (za7 2) (mAp (g2 zen) (za0 (mAp (g2 zeq) (za0 (mAp (g2 zd6) (za0 (za7 0) (za0 (mC (.int 6720)) za6))) (za0 (za7 6) za6))) (za0 (mC (.int 26)) za6)))))
 (sApp 5 (mJn (mC (.str "")) (za7 7)))))
noncomputable def m_Lnames:PSt->Option Out :=
 (zas (zcd (mC (.str "abcdefghijklmnopqrstuvwxyz")) (bNm 2))
 (zas (zcd (mAp (g2 zeq) (za0 (mC (.int 1)) (za0 (mAp (g2 zen) (za0 (za7 0) (za0 (mC (.int 8)) za6))) za6))) (bNm 3))
 (zas (zcd (mAp (g2 zen) (za0 (mAp (g2 zen) (za0 (mAp (g2 zd6) (za0 (za7 0) (za0 (mC (.int 8)) za6))) (za0 (mC (.int 840)) za6))) (za0 (za7 3) za6))) (bNm 4))
 (zas (sOwn 5 (zfi za6))
 (zas (sFor (zc3 (za0 (za7 1) za6)) (bNm 6) zg9)
 (zd2 (za7 5)))))))
noncomputable def zfa:List T->Option Ru:=zdw 2 8 m_Lnames
noncomputable abbrev fn_Lnames:Fn:=⟨1,["_law_cell","_law_many"],zfa⟩
noncomputable abbrev gx_Lnames:Gx:=⟨[],[],[],[],false,true,true,none,[],[],[],true,[],[],[],[]⟩
noncomputable abbrev gm_Lnames:Gm:=⟨["_law_cell","_law_many","_law_letters","_law_size","_law_at","_law_names_here","_law_k","_law_word"],(za4 zhe).names,["_law_cell","_law_letters"],0,[],["range"],[],["_law_word","_law_names_here"],[],false,[],[],[],gx_Lnames⟩
theorem ck_Lnames:dSs 200 gm_Lnames (zab zhe)=some m_Lnames:=by kernel_rfl
def nmN(c:Int):Nat:=(1+c.fmod 8).toNat
def nmA(c:Int):Nat:=(((c.fdiv 8).fmod 840).fmod (1+c.fmod 8)).toNat
theorem zge(c:Int):1<=nmN c/\nmN c<=8/\(1+c.fmod 8)=(nmN c:Int)/\((c.fdiv 8).fmod 840).fmod (1+c.fmod 8)=(nmA c:Int)/\nmA c<nmN c:=by
 have h1:1<=1+c.fmod 8/\1+c.fmod 8<=8:=by
  rw[fm (by decide)]
  omega
 have h2:0<=((c.fdiv 8).fmod 840).fmod (1+c.fmod 8)/\((c.fdiv 8).fmod 840).fmod (1+c.fmod 8)<1+c.fmod 8:=by
  rw[fm (j:=1+c.fmod 8) (by omega)]
  exact⟨yc9 _ (by omega),Int.emod_lt_of_pos _ (by omega)⟩
 unfold nmN nmA
 omega
def ltI(c:Int)(j:Nat):Int:=(c.fdiv (6720+31 * (j:Int))).fmod 26
def ltK(c:Int)(k:Nat):Int:=(c.fdiv 6720+(k:Int)).fmod 26
def ltN(c:Int)(k j:Nat):Nat:=if j=nmA c then 97+(ltK c k).toNat else 97+(ltI c j).toNat
def nmX(c:Int)(k:Nat):Str:=⟨((List.range (nmN c)).map (ltN c k)).toArray⟩
theorem zez(c:Int)(k j:Nat):(0<=ltI c j/\ltI c j<26)/\0<=ltK c k/\ltK c k<26:=by
 unfold ltI ltK;rw[fm (j:=26) (by decide),fm (j:=26) (by decide)]
 omega
theorem abc:(Str.ofString "abcdefghijklmnopqrstuvwxyz").cps.toList=(List.range 26).map (97 + ·):=by decide +kernel
theorem abc_at{i:Int}(h0:0<=i)(h1:i<26):atI (Str.ofString "abcdefghijklmnopqrstuvwxyz").cps.toList i=some (97+i.toNat):=by
 rw[abc];refine zkx h0 ?_;rw[ya5,yd3 (by omega)]
 rfl
theorem abc_len:(Str.ofString "abcdefghijklmnopqrstuvwxyz").length<=100000:=by decide +kernel
theorem join_oneS:∀cs:List Nat,Str.join (Str.ofString "") (cs.map fun c=>⟨#[c]⟩)=⟨cs.toArray⟩
 |[]=>rfl
 |[c]=>rfl
 |c::d::r=>by
  have ih:=join_oneS (d::r);rw[yaf]at ih;rw[yaf,yaf];show Str.mk #[c]++Str.ofString ""++Str.join (Str.ofString "") (⟨#[d]⟩::r.map fun c=>⟨#[c]⟩)=_
  rw[ih];have e0:(Str.ofString "").cps=#[]:=by decide +kernel
  show Str.mk ((#[c]++(Str.ofString "").cps)++(d::r).toArray)=Str.mk _;rw[e0];simp
theorem join_one(cs:List Nat):Txt.join (Str.ofString "") (cs.map fun c=>⟨#[c]⟩)=⟨cs.toArray⟩:=(eq_of_beq (PyProof.Rows.join_plain_closes _ _)).trans (join_oneS cs)
theorem nm_size(c:Int)(k:Nat):(nmX c k).cps.size=nmN c:=by
 unfold nmX;simp
theorem nm_get{c:Int}{k i:Nat}(h:i<nmN c):(nmX c k).cps.getD i 0=ltN c k i:=by
 unfold nmX;simp[Array.getD,h]
theorem nm_sml(c:Int)(k:Nat):Sml (nmX c k):=fun i hi=>by
 rw[nm_size]at hi;rw[nm_get hi];obtain⟨h1,h2⟩:=zez c k i;unfold ltN;split<;>omega
theorem nm_inj{c:Int}{j k:Nat}(hj:j<20)(hk:k<20)(h:nmX c j=nmX c k):j=k:=by
 obtain⟨n1,n8,ne,na,nl⟩:=zge c;have e:=congrArg (fun s:Str=>s.cps.getD (nmA c) 0) h
 simp only[nm_get nl]at e;unfold ltN at e;rw[if_pos rfl,if_pos rfl]at e;have s1:=(zez c j 0).2;have s2:=(zez c k 0).2;have e2:ltK c j=ltK c k:=by omega
 unfold ltK at e2;rw[fm (j:=26) (by decide),fm (j:=26) (by decide)]at e2
 omega
theorem w5_ok{c:Int}{k m:Nat}(hk:k<20){l:List T}(hl:l.length<1000){x7:Option T}:∃y7,zg9 [some (.int c),some (.int m),some (.str "abcdefghijklmnopqrstuvwxyz"),some (.int (1+c.fmod 8)),some (.int (((c.fdiv 8).fmod 840).fmod (1+c.fmod 8))),some (.own l),some (.int k),x7]
  = some (.nx [some (.int c),some (.int m),some (.str "abcdefghijklmnopqrstuvwxyz"),some (.int (1+c.fmod 8)),some (.int (((c.fdiv 8).fmod 840).fmod (1+c.fmod 8))),some (.own (l++[.str (nmX c k)])),some (.int k),y7]):=by
 obtain⟨n1,n8,ne,na,nl⟩:=zge c
 have lc:=lc1 (n:=nmN c) (me:=zif) (x:=none) (cs:=[some (.int c),some (.str "abcdefghijklmnopqrstuvwxyz")]) (g:=fun i=>.int (i:Int)) (f:=fun j=>.str ⟨#[97+(ltI c j).toNat]⟩) fun j hj=>by
  have m1:zdx 31 (j:Int)=true:=zjs (zcp (by decide) (by decide))
  have n0:(6720+31 * (j:Int)=0)=False:=eq_false (by omega)
  have s0:s70 (6720+31 * (j:Int))=true:=zbv (by omega) (by omega)
  have ea:atI (Str.ofString "abcdefghijklmnopqrstuvwxyz").cps.toList ((c.fdiv (6720+31 * (j:Int))).fmod 26)=some (97+(ltI c j).toNat):=abc_at (zez c 0 j).1.1 (zez c 0 j).1.2;unfold zif
  simp_arith[m1,n0,s0,ea,abc_len]
 have ok:zlr (1+c.fmod 8)=true:=@decide_eq_true _ (Classical.propDecidable _) ⟨by omega,by omega⟩
 have er:zcq 0 (1+c.fmod 8).toNat=mT (nmN c) fun i=>.int (i:Int):=zbf
 have eb:atI (Str.ofString "abcdefghijklmnopqrstuvwxyz").cps.toList ((c.fdiv 6720+(k:Int)).fmod 26)=some (97+(ltK c k).toNat):=abc_at (zez c k 0).2.1 (zez c k 0).2.2;have s1:s70 6720=true:=zbv (by decide) (by decide)
 have l8:nmN c<=100000:=by omega
 have ex:ixN (nmN c) (((c.fdiv 8).fmod 840).fmod (1+c.fmod 8))=some (nmA c):=by
  rw[na];unfold ixN;rw[if_pos (by omega),if_pos (by omega),ych]
 have es:zdz (mT (nmN c) fun j=>if j=nmA c then T.str ⟨#[97+(ltK c k).toNat]⟩ else .str ⟨#[97+(ltI c j).toNat]⟩)=some (((List.range (nmN c)).map (ltN c k)).map fun c=>⟨#[c]⟩):=by
  rw[<- zeg,ybp,ybp];refine congrArg zdz ?_;unfold mT;refine List.map_congr_left fun j hj=>?_
  show _=T.str ⟨#[ltN c k j]⟩;unfold ltN;split<;>rfl
 have ej:=join_one ((List.range (nmN c)).map (ltN c k))
 have esum:(((((List.range (nmN c)).map (ltN c k)).map fun c=>Str.mk #[c])).map (·.length)).sum+((((List.range (nmN c)).map (ltN c k)).map fun c=>Str.mk #[c])).length * (Str.ofString "").length<=100000:=by
  have e0:(Str.ofString "").length=0:=by decide +kernel
  rw[e0,Nat.mul_zero,Nat.add_zero,ybp]
  have:∀l:List Nat,(l.map ((·.length) ∘ fun c=>Str.mk #[c])).sum=l.length:=by
   intro l
   induction l with
   |nil=>rfl
   |cons a r ih=>rw[yaf,List.sum_cons,ih,yax];show 1+r.length=r.length+1;omega
  rw[this];simp
  omega
 have ll:l.length<100000:=by omega
 have exq:Str.mk ((List.range (nmN c)).map (ltN c k)).toArray=nmX c k:=rfl;unfold zg9;refine⟨some (.own (mT (nmN c) fun j=>if j=nmA c then T.str ⟨#[97+(ltK c k).toNat]⟩ else .str ⟨#[97+(ltI c j).toNat]⟩)),?_⟩
 simp_arith[ok,er,lc,l8,eb,s1,abc_len,ex,mT_set,mJn,es,esum,ej,ll,exq]
theorem names_ok(c:Int){m:Nat}(hm:m<20):zfa [.int c,.int m]=some (.ok (.own (mT m fun k=>.str (nmX c k)))):=by
 obtain⟨n1,n8,ne,na,nl⟩:=zge c
 obtain⟨τ,e,z6,z7,rfl⟩:=zc7 (b:=bNm 6) (body:=zg9) (ts:=mT m fun i=>.int (i:Int)) (τ:=[some (.int c),some (.int m),some (.str "abcdefghijklmnopqrstuvwxyz"),some (.int (1+c.fmod 8)),some (.int (((c.fdiv 8).fmod 840).fmod (1+c.fmod 8))),some (.own []),none,none])
  (fun i τ=>∃x6 x7,τ=[some (.int c),some (.int m),some (.str "abcdefghijklmnopqrstuvwxyz"),some (.int (1+c.fmod 8)),some (.int (((c.fdiv 8).fmod 840).fmod (1+c.fmod 8))),some (.own (mT i fun k=>.str (nmX c k))),x6,x7]) ⟨none,none,by rfl⟩ fun i t τ h1 h2=>by
   obtain⟨hi,rfl⟩:=zcv h1;obtain⟨x6,x7,rfl⟩:=h2;obtain⟨y7,ew⟩:=w5_ok (c:=c) (k:=i) (m:=m) (by omega) (l:=mT i fun k=>.str (nmX c k)) (by rw[zce];omega) (x7:=x7)
   rw[mT_app (g:=fun k=>.str (nmX c k))]at ew
   exact⟨_,by simp_arith[],_,ew,_,_,rfl⟩
 rw[zce]at e;have ok:zlr (m:Int)=true:=@decide_eq_true _ (Classical.propDecidable _) ⟨by omega,by omega⟩
 have er:zcq 0 m=mT m fun i=>.int (i:Int):=zbf
 have h0:(1+c.fmod 8=0)=False:=eq_false (by omega)
 have s1:s70 8=true:=zbv (by decide) (by decide)
 unfold zfa m_Lnames
 simp_arith[ok,er,e,h0,s1]
abbrev zfq:Stmt:=top 42
theorem sc_Lstream:FnScope ["_law_cell","_law_many","_law_found","_law_number_here","_law_k","_law_rest"] ["_law_cell","_law_many"] (za4 zfq):=⟨rfl,rfl,rfl,by decide +kernel,rfl,by decide +kernel,by decide +kernel⟩
noncomputable def zgv:PSt->Option Out :=
 (zas (sApp 2 (mAp (g2 zen) (za0 (za7 5) (za0 (mAp (g2 powT) (za0 (mC (.int 10)) (za0 (mC (.int 45)) za6))) za6))))
 (zcd (mAp (g2 zd6) (za0 (za7 5) (za0 (mAp (g2 powT) (za0 (mC (.int 10)) (za0 (mC (.int 45)) za6))) za6))) (bNm 5)))
noncomputable def zgu:PSt->Option Out :=
 (zas (zcd (mAp (g2 zen) (za0 (mAp (g2 zeq) (za0 (mAp (g2 zeq) (za0 (mAp (g2 zlt) (za0 (za7 3) (za0 (za7 3) za6))) (za0 (mAp (g2 zlt) (za0 (mC (.int 48271)) (za0 (za7 3) za6))) za6))) (za0 (za7 4) za6))) (za0 (mAp (g2 zeq) (za0 (mAp (g2 powT) (za0 (mC (.int 10)) (za0 (mC (.int 18)) za6))) (za0 (mC (.int 9)) za6))) za6))) (bNm 3))
 (sApp 2 (za7 3)))
noncomputable def zhj:PSt->Option Out :=
 (zas (sOwn 2 (zfi za6))
 (zas (sIf (mAp (g2 (cmpT fun i j=>decide (j<=i))) (za0 (za7 0) (za0 (mAp (g2 powT) (za0 (mC (.int 10)) (za0 (mC (.int 30)) za6))) za6))) (zas (zcd (mAp (g2 subT) (za0 (za7 0) (za0 (mAp (g2 powT) (za0 (mC (.int 10)) (za0 (mC (.int 30)) za6))) za6))) (bNm 5))
 (zas (sFor (zc3 (za0 (za7 1) za6)) (bNm 4) zgv)
 (zd2 (za7 2)))) sNx)
 (zas (zcd (mAp (g2 zeq) (za0 (mAp (g2 zen) (za0 (za7 0) (za0 (mAp (g2 zeq) (za0 (mAp (g2 powT) (za0 (mC (.int 10)) (za0 (mC (.int 18)) za6))) (za0 (mC (.int 9)) za6))) za6))) (za0 (mC (.int 48271)) za6))) (bNm 3))
 (zas (sFor (zc3 (za0 (mAp (g2 zeq) (za0 (za7 1) (za0 (mC (.int 2)) za6))) za6)) (bNm 4) zgu)
 (zas (sFrz 2) (zd2 (mAlt (mSl (za7 2) (some (mC (.int 2))) none) (mSlT (za7 2) (some (mC (.int 2))) none))))))))
noncomputable def zbb:List T->Option Ru:=zdw 2 6 zhj
noncomputable abbrev zgj:Fn:=⟨1,["_law_cell","_law_many"],zbb⟩
noncomputable abbrev gx_Lstream:Gx:=⟨[],[],[],[],false,true,true,none,[],[],[],true,[],[],[],[]⟩
noncomputable abbrev zm1:Gm:=⟨["_law_cell","_law_many","_law_found","_law_number_here","_law_k","_law_rest"],(za4 zfq).names,[],0,[],["range"],[],["_law_found"],[],false,[],[],[],gx_Lstream⟩
theorem ck_Lstream:dSs 200 zm1 (zab zfq)=some zhj:=by kernel_rfl
theorem st_ex(c:Int){m:Nat}(hm:m<=1000):∃xs:Nat->Int,zbb [.int c,.int m]=some (.ok (.own (mT m fun i=>.int (xs i)))):=by
 have p30:(0:Int)<=30/\(30:Int)<=1000000/\s64 10=true:=⟨by decide,by decide,zcp (by decide) (by decide)⟩
 have p45:(0:Int)<=45/\(45:Int)<=1000000/\s64 10=true:=⟨by decide,by decide,zcp (by decide) (by decide)⟩
 have p18:(0:Int)<=18/\(18:Int)<=1000000/\s64 10=true:=⟨by decide,by decide,zcp (by decide) (by decide)⟩
 have s45:s70 (10 ^ 45)=true:=zbv (by decide) (by decide)
 have z45:((10:Int) ^ 45≠0)=True:=by simp
 have z18:((10:Int) ^ 18+9≠0)=True:=by simp
 have r45:(45:Int).toNat=45:=rfl;have r30:(30:Int).toNat=30:=rfl;have r18:(18:Int).toNat=18:=rfl
 by_cases h:(10:Int) ^ 30<=c
 ·have loop:=for_mT (b:=bNm 4) (body:=zgv) (n:=m) (g:=fun i=>.int (i:Int)) (τ:=[some (.int c),some (.int m),some (.own []),none,none,some (.int (c - 10 ^ 30))])
   (fun i τ=>∃(xs:Nat->Int) (x:Option T) (r:Int),τ=[some (.int c),some (.int m),some (.own (mT i fun i=>.int (xs i))),none,x,some (.int r)])
   ⟨fun _=>0,none,_,rfl⟩ (by
    rintro i τ hi ⟨xs,x,r,rfl⟩;refine⟨_,by simp_arith[];rfl,?_⟩
    have l1:i<100000:=by omega
    refine⟨_,by unfold zgv;simp_arith[p45,s45,z45,r45,l1];rfl,fun j=>if j=i then r.fmod (10 ^ 45) else xs j,some (.int (i:Int)),r.fdiv (10 ^ 45),?_⟩
    rw[mT_push T.int])
  obtain⟨τ',e1,xs,x,r,rfl⟩:=loop;refine⟨xs,?_⟩;have o1:zlr (m:Int)=true:=zhg (by omega)
  unfold zbb zhj
  simp_arith[p30,r30,h,o1,zbf,e1]
 ·have loop:=for_mT (b:=bNm 4) (body:=zgu) (n:=m+2) (g:=fun i=>.int (i:Int)) (τ:=[some (.int c),some (.int m),some (.own []),some (.int (c.fmod (10 ^ 18+9)+48271)),none,none])
   (fun i τ=>∃(xs:Nat->Int) (x:Option T) (r:Int),0<=r/\r<2 * 10 ^ 18/\τ=[some (.int c),some (.int m),some (.own (mT i fun i=>.int (xs i))),some (.int r),x,none])
   ⟨fun _=>0,none,_,by rw[fm (by decide)];omega,by rw[fm (by decide)];omega,rfl⟩ (by
    rintro i τ hi ⟨xs,x,r,r0,r1,rfl⟩;refine⟨_,by simp_arith[];rfl,?_⟩
    have l1:i<100000:=by omega
    have m1:zdx r r=true:=mulOk_s (zbv (by omega) (by omega)) (zbv (by omega) (by omega))
    have m2:zdx 48271 r=true:=zjs (zcp (by decide) (by decide))
    refine⟨_,by unfold zgu;simp_arith[p18,z18,r18,l1,m1,m2];rfl,fun j=>if j=i then (r * r+48271 * r+i).fmod (10 ^ 18+9) else xs j,some (.int (i:Int)),(r * r+48271 * r+i).fmod (10 ^ 18+9),by rw[fm (by decide)];omega,by rw[fm (by decide)];omega,?_⟩
    rw[mT_push T.int])
  obtain⟨τ',e1,xs,x,r,-,-,rfl⟩:=loop;refine⟨fun i=>xs (i+2),?_⟩
  have o1:zlr ((m:Int)+2)=true:=zhg (n:=m+2) (by omega)
  have o2:((m:Int)+2).toNat=m+2:=by omega
  have ct:zhr (mT (m+2) fun i=>.int (xs i)) (some 2) none=mT m fun i=>.int (xs (i+2)):=by
   unfold zhr;have e2:HT.sIx (mT (m+2) fun i=>T.int (xs i)).length 0 (some 2)=2:=by rw[zce];simp[HT.sIx]
   have e3:HT.sIx (mT (m+2) fun i=>T.int (xs i)).length (mT (m+2) fun i=>T.int (xs i)).length none=m+2:=by rw[zce];rfl
   rw[e2,e3];refine zhl (by simp[zce]) fun i hi=>?_
   rw[List.getElem?_take_of_lt (by omega),ycb,zjv (by omega),Nat.add_comm]
  unfold zbb zhj
  simp_arith[p30,r30,h,p18,r18,z18,o1,o2,zbf,e1,ct]
abbrev zfs:Stmt:=top 44
theorem sc_Lnumber:FnScope ["_law_x","_law_unit"] ["_law_x","_law_unit"] (za4 zfs):=⟨rfl,rfl,rfl,by decide +kernel,rfl,by decide +kernel,by decide +kernel⟩
noncomputable def zeo:PSt->Option Out :=
 (zd2 (mAp (g2 zeq) (za0 (mAp (g2 zlt) (za0 (za7 1) (za0 (mAp (g2 zen) (za0 (za7 0) (za0 (mC (.int 7)) za6))) za6))) (za0 (mIx (zfi (zac (mC (.int 0)) (zac (mC (.int 0)) (zac (mC (.int 0)) (zac (mAp (g2 zeq) (za0 (mC (.int 1)) (za0 (mAp (g2 zen) (za0 (mAp (g2 zd6) (za0 (za7 0) (za0 (mC (.int 28)) za6))) (za0 (mC (.int 3)) za6))) za6))) za6))))) (mAp (g2 zen) (za0 (mAp (g2 zd6) (za0 (za7 0) (za0 (mC (.int 7)) za6))) (za0 (mC (.int 4)) za6)))) za6))))
noncomputable def zc9:List T->Option Ru:=zdw 2 2 zeo
noncomputable abbrev zm8:Fn:=⟨1,["_law_x","_law_unit"],zc9⟩
noncomputable abbrev gx_Lnumber:Gx:=⟨[],[],[],[],false,true,true,none,[],[],[],true,[],[],[],[]⟩
noncomputable abbrev zm3:Gm:=⟨["_law_x","_law_unit"],(za4 zfs).names,[],0,[],[],[],[],[],false,[],[],[],gx_Lnumber⟩
theorem ck_Lnumber:dSs 200 zm3 (zab zfs)=some zeo:=by kernel_rfl
theorem num_ex(x u:Int)(hu:0<=u):∃n,0<=n/\zc9 [.int x,.int u]=some (.ok (.int n)):=by
 have h7:0<=x.fmod 7/\x.fmod 7<7:=by
  rw[fm (by decide)]
  omega
 have h3:0<=(x.fdiv 28).fmod 3:=by
  rw[fm (j:=3) (by decide)]
  omega
 have m1:zdx u (x.fmod 7)=true:=zi0 (zcp (by omega) (by omega))
 have s28:s70 28=true:=zbv (by decide) (by decide)
 have s7:s70 7=true:=zbv (by decide) (by decide)
 have p0:0<=u * x.fmod 7:=Int.mul_nonneg hu h7.1
 have a3:∀{x y z v:T} {l:List T},atI (x::y::z::v::l) (3:Int)=some v:=by
  intro x y z v l;have:atI (x::y::z::v::l) ((3:Nat):Int)=some v:=zbr rfl;exact this
 have h4:(x.fdiv 7).fmod 4=0\/(x.fdiv 7).fmod 4=1\/(x.fdiv 7).fmod 4=2\/(x.fdiv 7).fmod 4=3:=by
  rw[fm (j:=4) (by decide)]
  omega
 rcases h4 with q|q|q|q
 ·exact⟨u * x.fmod 7+0,by omega,by unfold zc9 zeo;simp_arith[m1,s28,s7,q]⟩
 ·exact⟨u * x.fmod 7+0,by omega,by unfold zc9 zeo;simp_arith[m1,s28,s7,q]⟩
 ·exact⟨u * x.fmod 7+0,by omega,by unfold zc9 zeo;simp_arith[m1,s28,s7,q]⟩
 ·exact⟨u * x.fmod 7+(1+(x.fdiv 28).fmod 3),by omega,by unfold zc9 zeo;simp_arith[m1,s28,s7,q,a3]⟩
abbrev zhf:Stmt:=top 45
theorem sc_Lguard:FnScope ["_law_xs","_law_unit","_law_watches","_law_guard_here","_law_k","_law_word"] ["_law_xs","_law_unit","_law_watches"] (za4 zhf):=⟨rfl,rfl,rfl,by decide +kernel,rfl,by decide +kernel,by decide +kernel⟩
noncomputable def zde:PSt->Option Out :=
 (sIf (mAp (g2 neT) (za0 (za7 2) (za0 (zfi za6) za6))) (zas (zcd (mIx (zfi (zac (mC (.str "<")) (zac (mC (.str "<=")) (zac (mC (.str ">")) (zac (mC (.str ">=")) (zac (mC (.str ">=")) (zac (mC (.str "=")) za6))))))) (mAp (g2 zen) (za0 (mAp (g2 zd6) (za0 (mIx (za7 0) (mAp (g2 zeq) (za0 (mC (.int 1)) (za0 (mAp (g2 zlt) (za0 (mC (.int 2)) (za0 (za7 4) za6))) za6)))) (za0 (mC (.int 8)) za6))) (za0 (mC (.int 6)) za6)))) (bNm 5))
 (sApp 3 (zgm (za0 (mIx (za7 2) (mAp (g2 zen) (za0 (mIx (za7 0) (mAp (g2 zeq) (za0 (mC (.int 1)) (za0 (mAp (g2 zlt) (za0 (mC (.int 2)) (za0 (za7 4) za6))) za6)))) (za0 (mAp (g1 zik) (za0 (za7 2) za6)) za6)))) (za0 (za7 5) (za0 (zap zc9 (za0 (mIx (za7 0) (mAp (g2 zeq) (za0 (mC (.int 2)) (za0 (mAp (g2 zlt) (za0 (mC (.int 2)) (za0 (za7 4) za6))) za6)))) (za0 (za7 1) za6))) za6)))))) sNx)
noncomputable def zgh:PSt->Option Out :=
 (zas (sOwn 3 (zfi za6))
 (zas (sFor (zc3 (za0 (mIx (zfi (zac (mC (.int 0)) (zac (mC (.int 1)) (zac (mC (.int 1)) (zac (mC (.int 2)) za6))))) (mAp (g2 zen) (za0 (mIx (za7 0) (mC (.int 0))) (za0 (mC (.int 4)) za6)))) za6)) (bNm 4) zde)
 (zd2 (za7 3))))
noncomputable def zd3:List T->Option Ru:=zdw 3 6 zgh
noncomputable abbrev fn_Lguard:Fn:=⟨2,["_law_xs","_law_unit","_law_watches"],zd3⟩
noncomputable abbrev gx_Lguard:Gx:=⟨[],[],[],[],false,true,true,none,[],[],[],true,[],[],[],[]⟩
noncomputable abbrev gm_Lguard:Gm:=⟨["_law_xs","_law_unit","_law_watches","_law_guard_here","_law_k","_law_word"],(za4 zhf).names,[],1,[("_law_number",zm8)],["range","len"],[],["_law_guard_here"],[],false,[],[],[],gx_Lguard⟩
theorem ck_Lguard:dSs 200 gm_Lguard (zab zhf)=some zgh:=by kernel_rfl
theorem zgy{ws:List Str}(h:Txs ws):neT (.lst (ws.map T.str)) (.lst [])=some (.bl (!ws.isEmpty)):=by
 have f1:Fit (.lst (ws.map T.str)) 1:=Fit.nd fun t ht=>by
  obtain⟨x,hx,rfl⟩:=yah.mp ht;exact Fit.str (h x hx) _
 have f2:Fit (.lst []) 1:=Fit.nd fun t ht=>by cases ht
 have e:=(eq_fit f1 f2 (by decide)).2
 rw[e];cases ws with
 |nil=>simp[T.data,zc4]
 |cons a r=>simp[T.data,zc4]
def wd6:List Str:=["<","<=",">",">=",">=","="]
theorem wd6_in:∀y∈wd6,y∈wdS:=by decide +kernel
theorem str_at{ys:List Str}{i:Int}(h0:0<=i)(h1:i<ys.length):atI (ys.map T.str) i=some (.str (ys.getD i.toNat Str.empty))/\ys.getD i.toNat Str.empty∈ys:=by
 have hi:i.toNat<ys.length:=by omega
 rw[ya4,ya0 hi];exact⟨zkx h0 (by rw[ya5,ya0 hi];rfl),yac hi⟩
theorem zfw(x:Int){n:Nat}(h:1<=n):0<=x.fmod n/\x.fmod n<(n:Int):=by
 rw[fm (by omega)]
 exact⟨yc9 _ (by omega),Int.emod_lt_of_pos _ (by omega)⟩
theorem gd_body{xs:Nat->Int}{u:Int}(hu:0<=u){ws:List Str}(hw:Txs ws){l:List T}(hl:Lks ws wdS l){k:Nat}(hk:k<2)(hn:l.length<=k){x5:Option T}:∃l' y5,zde [some (.lst (mT 5 fun i=>.int (xs i))),some (.int u),some (.lst (ws.map T.str)),some (.own l),some (.int k),x5]
  = some (.nx [some (.lst (mT 5 fun i=>.int (xs i))),some (.int u),some (.lst (ws.map T.str)),some (.own l'),some (.int k),y5])/\Lks ws wdS l'/\l'.length<=k+1:=by
 have en:=zgy hw;cases hws:ws.isEmpty with
 |true =>
  rw[hws]at en;refine⟨l,x5,?_,hl,by omega⟩
  unfold zde
  simp_arith[za5,za9,en]
 |false =>
  rw[hws]at en
  have h1:1<=ws.length:=by
   cases ws with
   |nil=>cases hws
   |cons a r=>simp
  have m2:zdx 2 (k:Int)=true:=zjs (zcp (by decide) (by decide))
  have a1:atI (mT 5 fun i=>T.int (xs i)) (1+2 * (k:Int))=some (.int (xs (1+2 * k))):=by
   have:=zgo (n:=5) (g:=fun i=>T.int (xs i)) (k:=1+2 * k) (by omega)
   simpa using this
  have a2:atI (mT 5 fun i=>T.int (xs i)) (2+2 * (k:Int))=some (.int (xs (2+2 * k))):=by
   have:=zgo (n:=5) (g:=fun i=>T.int (xs i)) (k:=2+2 * k) (by omega)
   simpa using this
  have h6:=zfw ((xs (1+2 * k)).fdiv 8) (n:=6) (by decide)
  obtain⟨b1,b2⟩:=str_at (ys:=wd6) h6.1 h6.2;have b1':atI [T.str (Str.ofString "<"),.str (Str.ofString "<="),.str (Str.ofString ">"),.str (Str.ofString ">="),.str (Str.ofString ">="),.str (Str.ofString "=")] (((xs (1+2 * k)).fdiv 8).fmod 6)=some (.str (wd6.getD (((xs (1+2 * k)).fdiv 8).fmod 6).toNat Str.empty)):=b1;have hm:=zfw (xs (1+2 * k)) h1;obtain⟨c1,c2⟩:=str_at (ys:=ws) hm.1 hm.2;obtain⟨n,n0,e⟩:=num_ex (xs (2+2 * k)) u hu;have s8:s70 8=true:=zbv (by decide) (by decide)
  have nw:((ws.length:Int)=0)=False:=eq_false (by omega)
  have ll:l.length<100000:=by omega
  refine⟨l++[.tup [.str (ws.getD ((xs (1+2 * k)).fmod ws.length).toNat Str.empty),.str (wd6.getD (((xs (1+2 * k)).fdiv 8).fmod 6).toNat Str.empty),.int n]],some (.str (wd6.getD (((xs (1+2 * k)).fdiv 8).fmod 6).toNat Str.empty)),?_,fun t ht=>?_,by rw[yaq,yax,yc8];omega⟩
  ·unfold zde
   simp_arith[za5,za9,ya1,en,m2,a1,a2,b1',c1,e,s8,nw,ll]
  ·rcases yb7.mp ht with ht|ht
   ·exact hl t ht
   ·rw[yae.mp ht];exact⟨_,_,_,rfl,c2,wd6_in _ b2,n0⟩
theorem gd_ex{xs:Nat->Int}{u:Int}(hu:0<=u){ws:List Str}(hw:Txs ws):∃l,zd3 [.lst (mT 5 fun i=>.int (xs i)),.int u,.lst (ws.map T.str)]=some (.ok (.own l))/\Lks ws wdS l/\l.length<=2:=by
 have go:∀n:Nat,n<=2->∃l y4 y5,zf3 (bNm 4) zde (mT n fun i=>.int (i:Int)) [some (.lst (mT 5 fun i=>.int (xs i))),some (.int u),some (.lst (ws.map T.str)),some (.own []),none,none]=some (.nx [some (.lst (mT 5 fun i=>.int (xs i))),some (.int u),some (.lst (ws.map T.str)),some (.own l),y4,y5])/\Lks ws wdS l/\l.length<=n:=fun n hn=>by
  obtain⟨τ,e,l,y4,y5,rfl,h1,h2⟩:=zc7 (b:=bNm 4) (body:=zde) (ts:=mT n fun i=>.int (i:Int)) (τ:=[some (.lst (mT 5 fun i=>.int (xs i))),some (.int u),some (.lst (ws.map T.str)),some (.own []),none,none])
   (fun i τ=>∃l y4 y5,τ=[some (.lst (mT 5 fun i=>.int (xs i))),some (.int u),some (.lst (ws.map T.str)),some (.own l),y4,y5]/\Lks ws wdS l/\l.length<=i) ⟨[],none,none,rfl,fun t ht=>(by cases ht),ybe _⟩ fun i t τ h1 h2=>by
    obtain⟨hi,rfl⟩:=zcv h1;obtain⟨l,y4,y5,rfl,k1,k2⟩:=h2;obtain⟨l',y5',ew,k3,k4⟩:=gd_body (xs:=xs) hu hw k1 (k:=i) (by omega) k2 (x5:=y5)
    exact⟨_,by simp_arith[],_,ew,l',_,_,rfl,k3,k4⟩
  rw[zce]at h2;exact⟨l,y4,y5,e,h1,h2⟩
 have h4:(xs 0).fmod 4=0\/(xs 0).fmod 4=1\/(xs 0).fmod 4=2\/(xs 0).fmod 4=3:=by
  rw[fm (j:=4) (by decide)]
  omega
 have a0:atI (mT 5 fun i=>T.int (xs i)) 0=some (.int (xs 0)):=zgo (n:=5) (g:=fun i=>T.int (xs i)) (k:=0) (by omega)
 have a3:∀{x y z v:T} {l:List T},atI (x::y::z::v::l) (3:Int)=some v:=by
  intro x y z v l;have:atI (x::y::z::v::l) ((3:Nat):Int)=some v:=zbr rfl;exact this
 have o0:zlr 0=true:=@decide_eq_true _ (Classical.propDecidable _) ⟨by decide,by decide⟩
 have o1:zlr 1=true:=@decide_eq_true _ (Classical.propDecidable _) ⟨by decide,by decide⟩
 have o2:zlr 2=true:=@decide_eq_true _ (Classical.propDecidable _) ⟨by decide,by decide⟩
 have r0:zcq 0 (0:Int).toNat=mT 0 fun i=>.int (i:Int):=zbf
 have r1:zcq 0 (1:Int).toNat=mT 1 fun i=>.int (i:Int):=zbf
 have r2:zcq 0 (2:Int).toNat=mT 2 fun i=>.int (i:Int):=zbf
 rcases h4 with q|q|q|q
 ·obtain⟨l,y4,y5,e,h1,h2⟩:=go 0 (by decide)
  exact⟨l,by unfold zd3 zgh;simp_arith[za5,za9,a0,q,o0,r0,e],h1,by omega⟩
 ·obtain⟨l,y4,y5,e,h1,h2⟩:=go 1 (by decide)
  exact⟨l,by unfold zd3 zgh;simp_arith[za5,za9,a0,q,o1,r1,e],h1,by omega⟩
 ·obtain⟨l,y4,y5,e,h1,h2⟩:=go 1 (by decide)
  exact⟨l,by unfold zd3 zgh;simp_arith[za5,za9,a0,q,o1,r1,e],h1,by omega⟩
 ·obtain⟨l,y4,y5,e,h1,h2⟩:=go 2 (by decide)
  exact⟨l,by unfold zd3 zgh;simp_arith[za5,za9,a0,q,a3,o2,r2,e],h1,by omega⟩
abbrev zjn:Stmt:=top 47
theorem sc_Ldoor:FnScope ["_law_cell","_law_unit","_law_watches","_law_many","_law_xs","_law_noughts","_law_sign"] ["_law_cell","_law_unit","_law_watches","_law_many"] (za4 zjn):=⟨rfl,rfl,rfl,by decide +kernel,rfl,by decide +kernel,by decide +kernel⟩
noncomputable def zk4:PSt->Option Rs :=
 (mAp (g2 eqT) (za0 (mAp (g2 zen) (za0 (mAp (g2 zd6) (za0 (mAp (g2 zd6) (za0 (mIx (za7 2) (mC (.int 7))) (za0 (mAp (g2 powT) (za0 (mC (.int 2)) (za0 (mC (.int 4)) za6))) za6))) (za0 (mAp (g2 zeq) (za0 (za7 0) (za0 (mC (.int 1)) za6))) za6))) (za0 (mC (.int 2)) za6))) (za0 (mC (.int 1)) za6)))
noncomputable def zku:PSt->Option Rs :=
 (mIx (za7 1) (za7 0))
noncomputable def m_Ldoor:PSt->Option Out :=
 (zas (zcd (zap zbb (za0 (za7 0) (za0 (mC (.int 9)) za6))) (bNm 4))
 (zas (zcd (mLC 1 [2,4] (zc3 (za0 (mAp (g1 zik) (za0 (za7 2) za6)) za6)) (bNm 0) zk4 zku) (bNm 5))
 (zas (zcd (mIx (zfi (zac (mC (.str "")) (zac (mC (.str "")) (zac (mC (.str "")) (zac (mC (.str "go!")) za6))))) (mAp (g2 zlt) (za0 (mAp (g2 zd6) (za0 (mAp (g2 zen) (za0 (mIx (za7 4) (mC (.int 8))) (za0 (mC (.int 16)) za6))) (za0 (mC (.int 12)) za6))) (za0 (mAp (g2 zen) (za0 (mAp (g2 zd6) (za0 (mIx (za7 4) (mC (.int 8))) (za0 (mC (.int 16)) za6))) (za0 (mC (.int 4)) za6))) za6)))) (bNm 6))
 (zd2 (zgm (za0 (mAp (g2 zen) (za0 (mIx (za7 4) (mC (.int 0))) (za0 (za7 3) za6))) (za0 (mAp (g2 zen) (za0 (mIx (za7 4) (mC (.int 1))) (za0 (za7 3) za6))) (za0 (zap zd3 (za0 (mAlt (mSl (za7 4) (some (mC (.int 2))) (some (mC (.int 7)))) (mSlT (za7 4) (some (mC (.int 2))) (some (mC (.int 7))))) (za0 (za7 1) (za0 (za7 2) za6)))) (za0 (za7 5) (za0 (za7 6) za6))))))))))
noncomputable def zg8:List T->Option Ru:=zdw 4 7 m_Ldoor
noncomputable abbrev fn_Ldoor:Fn:=⟨3,["_law_cell","_law_unit","_law_watches","_law_many"],zg8⟩
noncomputable abbrev gx_Ldoor:Gx:=⟨[],[],[],[],false,true,true,none,[],[],[],true,[],[],[],[]⟩
noncomputable abbrev gm_Ldoor:Gm:=⟨["_law_cell","_law_unit","_law_watches","_law_many","_law_xs","_law_noughts","_law_sign"],(za4 zjn).names,["_law_watches","_law_xs"],2,[("_law_stream",zgj),("_law_guard",fn_Lguard)],["range","len"],[],[],[],false,[],[],[],gx_Ldoor⟩
theorem ck_Ldoor:dSs 200 gm_Ldoor (zab zjn)=some m_Ldoor:=by kernel_rfl
theorem lc_filter{mt me:PSt->Option Rs}{cs:PSt}{f:Nat->T}{p:Nat->Bool}:∀{l:List Nat} {x:Option T},(∀i∈l,(∃b,mt (some (.int (i:Int))::cs)=some (.v (.bl (p i)) b))/\me (some (.int (i:Int))::cs)=some (.v (f i) false))->zk0 (bNm 0) mt me (l.map fun i:Nat=>T.int (i:Int)) (x::cs)=some ((l.filter p).map f)
 |[],_,_=>rfl
 |i::r,x,h=>by
  obtain⟨⟨b,h1⟩,h2⟩:=h i (ya9 ..);have ih:=lc_filter (x:=some (.int (i:Int))) fun j hj=>h j (ya8 _ hj)
  rw[yaf];unfold zk0;have eb:bNm 0 (T.int (i:Int)) (x::cs)=some (some (.int (i:Int))::cs):=by simp[bNm]
  simp only[eb,h1];cases hp:p i with
  |true =>
   simp only[h2,ih];rw[List.filter_cons_of_pos hp,yaf]
  |false =>
   simp only[ih];rw[List.filter_cons_of_neg (by rw[hp];exact yav)]
def pN(y:Int)(i:Nat):Bool:=((y.fdiv 16).fdiv ((i:Int)+1)).fmod 2 == 1
def Sg2(z:Str):Prop:=z=Str.ofString ""\/z=Str.ofString "go!"
theorem door_ex(c:Int){u:Int}(hu:0<=u){ws:List Str}(hw:Txs ws)(hd:ws.Nodup)(h7:ws.length<=7){m:Nat}(hm:1<=m):∃d:Sd,zg8 [.int c,.int u,.lst (ws.map T.str),.int m]=some (.ok (sdT d))/\d.b<m/\d.e<m/\Lks ws wdS d.g/\d.g.length<=2/\(∀x∈d.n,x∈ws)/\d.n.Nodup/\d.n.length<=7/\Sg2 d.z:=by
 obtain⟨xs,est⟩:=st_ex c (m:=9) (by decide)
 obtain⟨g,eg,g1,g2⟩:=gd_ex (xs:=fun i=>xs (i+2)) hu hw
 have gs:=g1.sh;have x9:∀k:Nat,k<9->atI (mT 9 fun i=>T.int (xs i)) (k:Int)=some (.int (xs k)):=fun k hk=>zgo hk
 have x0:=x9 0 (by decide)
 have x1:=x9 1 (by decide)
 have x7:atI (mT 9 fun i=>T.int (xs i)) 7=some (.int (xs 7)):=x9 7 (by decide)
 have x8:=x9 8 (by decide)
 have cu:zhr (mT 9 fun i=>T.int (xs i)) (some 2) (some 7)=mT 5 fun i=>.int (xs (i+2)):=by
  have e1:HT.sIx 9 0 (some 2)=2:=by decide
  have e2:HT.sIx 9 9 (some 7)=7:=by decide
  unfold zhr;rw[zce,e1,e2];refine zhl (by rw[yb6,ybx,zce];rfl) fun i hi=>?_
  rw[List.getElem?_take,if_pos (by omega),ycb,zjv (by omega),Nat.add_comm]
 have lc:=lc_filter (mt:=zk4) (me:=zku) (cs:=[some (.lst (ws.map T.str)),some (.lst (mT 9 fun i=>.int (xs i)))]) (f:=fun i=>.str (ws.getD i Str.empty)) (p:=pN (xs 7)) (l:=List.range ws.length) (x:=none) fun i hi=>by
  have hi':=yc4.mp hi;have z16:((2:Int) ^ (4:Int).toNat)=16:=rfl;have t4:(0:Int)<=4/\(4:Int)<=1000000/\s64 2=true:=⟨by decide,by decide,zcp (by decide) (by decide)⟩
  have s16:s70 16=true:=zbv (by decide) (by decide)
  have si:s70 ((i:Int)+1)=true:=zbv (Int.lt_of_lt_of_le (b:=0) (by decide +kernel) (by omega)) (Int.lt_trans (b:=9) (by omega) (by decide +kernel))
  have ni:((i:Int)+1=0)=False:=eq_false (by omega)
  have ai:atI (ws.map T.str) (i:Int)=some (.str (ws.getD i Str.empty)):=by
   have:=(str_at (ys:=ws) (i:=(i:Int)) (by omega) (by omega)).1
   rwa[ych]at this
  have s9:shL (mT 9 fun i=>T.int (xs i))=true:=shL_mTi _
  constructor
  ·refine⟨false,?_⟩;unfold zk4 pN
   simp_arith[x7,z16,t4,s16,si,ni,eq_int]
  ·unfold zku
   simp_arith[za9,ai]
 have lm:(List.range ws.length).map (fun i:Nat=>T.int (i:Int))=mT ws.length fun i=>.int (i:Int):=rfl
 rw[lm]at lc
 have fs:((List.range ws.length).filter (pN (xs 7))).map (fun i=>T.str (ws.getD i Str.empty))=(((List.range ws.length).filter (pN (xs 7))).map fun i=>ws.getD i Str.empty).map T.str:=by
  rw[ybp]
  rfl
 rw[fs]at lc;have hin:∀i∈(List.range ws.length).filter (pN (xs 7)),i<ws.length:=fun i hi=>yc4.mp (ycs.mp hi).1
 have n1:∀x∈((List.range ws.length).filter (pN (xs 7))).map (fun i=>ws.getD i Str.empty),x∈ws:=fun x hx=>by
  obtain⟨i,hi,rfl⟩:=yah.mp hx;have:=hin i hi;rw[ya4,ya0 this];exact yac this
 have n2:(((List.range ws.length).filter (pN (xs 7))).map fun i=>ws.getD i Str.empty).Nodup:=by
  rw[List.nodup_iff_pairwise_ne,List.pairwise_map];refine List.Pairwise.imp_of_mem ?_ (List.Pairwise.filter _ (List.nodup_range (n:=ws.length)));intro a b ha hb hab e;have h1:=hin a ha;have h2:=hin b hb;rw[ya4,ya0 h1,ya4,ya0 h2]at e;exact hab ((ycn hd).mp e)
 have n3:(((List.range ws.length).filter (pN (xs 7))).map fun i=>ws.getD i Str.empty).length<=7:=by
  rw[ya1];have:=List.length_filter_le (pN (xs 7)) (List.range ws.length);rw[List.length_range]at this
  omega
 generalize ((List.range ws.length).filter (pN (xs 7))).map (fun i=>ws.getD i Str.empty)=ns at lc n1 n2 n3
 have m16:0<=(xs 8).fmod 16/\(xs 8).fmod 16<16:=by
  rw[fm (by decide)]
  omega
 have q12:((xs 8).fmod 16).fdiv 12=0\/((xs 8).fmod 16).fdiv 12=1:=by
  rw[fd (by decide)]
  omega
 have q4:((xs 8).fdiv 16).fmod 4=0\/((xs 8).fdiv 16).fmod 4=1\/((xs 8).fdiv 16).fmod 4=2\/((xs 8).fdiv 16).fmod 4=3:=by
  rw[fm (j:=4) (by decide)]
  omega
 have a3:∀{x y z v:T} {l:List T},atI (x::y::z::v::l) (3:Int)=some v:=by
  intro x y z v l;have:atI (x::y::z::v::l) ((3:Nat):Int)=some v:=zbr rfl;exact this
 have sg:∃z,Sg2 z/\atI [T.str (Str.ofString ""),.str (Str.ofString ""),.str (Str.ofString ""),.str (Str.ofString "go!")] (((xs 8).fmod 16).fdiv 12 * ((xs 8).fdiv 16).fmod 4)=some (.str z):=by
  rcases q12 with q|q<;>rcases q4 with p|p|p|p<;>rw[q,p]
  ·exact⟨_,.inl rfl,at0⟩
  ·exact⟨_,.inl rfl,at0⟩
  ·exact⟨_,.inl rfl,at0⟩
  ·exact⟨_,.inl rfl,at0⟩
  ·exact⟨_,.inl rfl,at0⟩
  ·exact⟨_,.inl rfl,at1⟩
  ·exact⟨_,.inl rfl,at2⟩
  ·exact⟨_,.inr rfl,a3⟩
 obtain⟨z,z1,z2⟩:=sg;have mz:zdx (((xs 8).fmod 16).fdiv 12) (((xs 8).fdiv 16).fmod 4)=true:=zi0 (zcp (by rcases q4 with p|p|p|p<;>omega) (by rcases q4 with p|p|p|p<;>omega))
 have s16:s70 16=true:=zbv (by decide) (by decide)
 have s12:s70 12=true:=zbv (by decide) (by decide)
 have h0:=zfw (xs 0) hm;have h1:=zfw (xs 1) hm;have nm:((m:Int)=0)=False:=eq_false (by omega)
 have ok:zlr (ws.length:Int)=true:=zhg (by omega)
 have er:zcq 0 ws.length=mT ws.length fun i=>.int (i:Int):=zbf
 have l7:ws.length<=100000:=by omega
 refine⟨⟨((xs 0).fmod m).toNat,((xs 1).fmod m).toNat,g,ns,z⟩,?_,by show _<m;omega,by show _<m;omega,g1,g2,n1,n2,n3,z1⟩
 have t0:(((xs 0).fmod m).toNat:Int)=(xs 0).fmod m:=by omega
 have t1:(((xs 1).fmod m).toNat:Int)=(xs 1).fmod m:=by omega
 have x0':atI (mT 9 fun i=>T.int (xs i)) 0=some (.int (xs 0)):=x0
 have x1':atI (mT 9 fun i=>T.int (xs i)) 1=some (.int (xs 1)):=x1
 have x8':atI (mT 9 fun i=>T.int (xs i)) 8=some (.int (xs 8)):=x8
 have est':zbb [.int c,.int 9]=some (.ok (.own (mT 9 fun i=>.int (xs i)))):=est
 show zg8 [.int c,.int u,.lst (ws.map T.str),.int m]=some (.ok (.tup [.int (((xs 0).fmod m).toNat:Int),.int (((xs 1).fmod m).toNat:Int),.lst g,.lst (ns.map T.str),.str z]));unfold zg8 m_Ldoor
 simp_arith[za5,za9,ya1,est',ok,er,l7,lc,x0',x1',x8',s16,s12,mz,z2,cu,eg,gs,za1 _ gs,nm,t0,t1]
abbrev zjk:Stmt:=top 46
theorem sc_Lstay:FnScope ["_law_xs","_law_unit","_law_watches","_law_stay_here","_law_k","_law_number_here"] ["_law_xs","_law_unit","_law_watches"] (za4 zjk):=⟨rfl,rfl,rfl,by decide +kernel,rfl,by decide +kernel,by decide +kernel⟩
noncomputable def zef:PSt->Option Out :=
 (sIf (mAp (g2 neT) (za0 (za7 2) (za0 (zfi za6) za6))) (zas (zcd (mAp (g2 zeq) (za0 (zap zc9 (za0 (mIx (za7 0) (mAp (g2 zeq) (za0 (mC (.int 2)) (za0 (mAp (g2 zlt) (za0 (mC (.int 2)) (za0 (za7 4) za6))) za6)))) (za0 (za7 1) za6))) (za0 (mAp (g2 zlt) (za0 (za7 1) (za0 (mAp (g2 subT) (za0 (mC (.int 1)) (za0 (mAp (g2 zd6) (za0 (mAp (g2 zen) (za0 (mAp (g2 zd6) (za0 (mIx (za7 0) (mC (.int 0))) (za0 (mC (.int 4)) za6))) (za0 (mC (.int 16)) za6))) (za0 (mC (.int 15)) za6))) za6))) za6))) za6))) (bNm 5))
 (sApp 3 (zgm (za0 (mIx (za7 2) (mAp (g2 zen) (za0 (mIx (za7 0) (mAp (g2 zeq) (za0 (mC (.int 1)) (za0 (mAp (g2 zlt) (za0 (mC (.int 2)) (za0 (za7 4) za6))) za6)))) (za0 (mAp (g1 zik) (za0 (za7 2) za6)) za6)))) (za0 (mIx (zfi (zac (mC (.str "<")) (zac (mC (.str "<=")) za6))) (mAp (g2 zen) (za0 (mAp (g2 zd6) (za0 (mIx (za7 0) (mAp (g2 zeq) (za0 (mC (.int 1)) (za0 (mAp (g2 zlt) (za0 (mC (.int 2)) (za0 (za7 4) za6))) za6)))) (za0 (mC (.int 8)) za6))) (za0 (mC (.int 2)) za6)))) (za0 (za7 5) za6)))))) sNx)
noncomputable def zi2:PSt->Option Out :=
 (zas (sOwn 3 (zfi za6))
 (zas (sFor (zc3 (za0 (mIx (zfi (zac (mC (.int 0)) (zac (mC (.int 0)) (zac (mC (.int 1)) (zac (mC (.int 2)) za6))))) (mAp (g2 zen) (za0 (mIx (za7 0) (mC (.int 0))) (za0 (mC (.int 4)) za6)))) za6)) (bNm 4) zef)
 (zd2 (za7 3))))
noncomputable def zf9:List T->Option Ru:=zdw 3 6 zi2
noncomputable abbrev fn_Lstay:Fn:=⟨2,["_law_xs","_law_unit","_law_watches"],zf9⟩
noncomputable abbrev gx_Lstay:Gx:=⟨[],[],[],[],false,true,true,none,[],[],[],true,[],[],[],[]⟩
noncomputable abbrev gm_Lstay:Gm:=⟨["_law_xs","_law_unit","_law_watches","_law_stay_here","_law_k","_law_number_here"],(za4 zjk).names,[],1,[("_law_number",zm8)],["range","len"],[],["_law_stay_here"],[],false,[],[],[],gx_Lstay⟩
theorem ck_Lstay:dSs 200 gm_Lstay (zab zjk)=some zi2:=by kernel_rfl
theorem sy_body{xs:Nat->Int}{u:Int}(hu:0<=u){ws:List Str}(hw:Txs ws){l:List T}(hl:Lks ws stS l){k:Nat}(hk:k<2)(hn:l.length<=k){x5:Option T}:∃l' y5,zef [some (.lst (mT 5 fun i=>.int (xs i))),some (.int u),some (.lst (ws.map T.str)),some (.own l),some (.int k),x5]
  = some (.nx [some (.lst (mT 5 fun i=>.int (xs i))),some (.int u),some (.lst (ws.map T.str)),some (.own l'),some (.int k),y5])/\Lks ws stS l'/\l'.length<=k+1:=by
 have en:=zgy hw;cases hws:ws.isEmpty with
 |true =>
  rw[hws]at en;refine⟨l,x5,?_,hl,by omega⟩
  unfold zef
  simp_arith[za5,za9,en]
 |false =>
  rw[hws]at en
  have h1:1<=ws.length:=by
   cases ws with
   |nil=>cases hws
   |cons a r=>simp
  have m2:zdx 2 (k:Int)=true:=zjs (zcp (by decide) (by decide))
  have a0:atI (mT 5 fun i=>T.int (xs i)) 0=some (.int (xs 0)):=zgo (n:=5) (g:=fun i=>T.int (xs i)) (k:=0) (by omega)
  have a1:atI (mT 5 fun i=>T.int (xs i)) (1+2 * (k:Int))=some (.int (xs (1+2 * k))):=by
   have:=zgo (n:=5) (g:=fun i=>T.int (xs i)) (k:=1+2 * k) (by omega)
   simpa using this
  have a2:atI (mT 5 fun i=>T.int (xs i)) (2+2 * (k:Int))=some (.int (xs (2+2 * k))):=by
   have:=zgo (n:=5) (g:=fun i=>T.int (xs i)) (k:=2+2 * k) (by omega)
   simpa using this
  have h6:=zfw ((xs (1+2 * k)).fdiv 8) (n:=2) (by decide)
  obtain⟨b1,b2⟩:=str_at (ys:=stS) h6.1 h6.2;have b1':atI [T.str (Str.ofString "<"),.str (Str.ofString "<=")] (((xs (1+2 * k)).fdiv 8).fmod 2)=some (.str (stS.getD (((xs (1+2 * k)).fdiv 8).fmod 2).toNat Str.empty)):=b1;have hm:=zfw (xs (1+2 * k)) h1;obtain⟨c1,c2⟩:=str_at (ys:=ws) hm.1 hm.2;obtain⟨n,n0,e⟩:=num_ex (xs (2+2 * k)) u hu;have s8:s70 8=true:=zbv (by decide) (by decide)
  have s4:s70 4=true:=zbv (by decide) (by decide)
  have s15:s70 15=true:=zbv (by decide) (by decide)
  have nw:((ws.length:Int)=0)=False:=eq_false (by omega)
  have ll:l.length<100000:=by omega
  have h15:0<=1 - (((xs 0).fdiv 4).fmod 16).fdiv 15/\1 - (((xs 0).fdiv 4).fmod 16).fdiv 15<=1:=by
   rw[fm (j:=16) (by decide),fd (j:=15) (by decide)]
   omega
  have mu:zdx u (1 - (((xs 0).fdiv 4).fmod 16).fdiv 15)=true:=zi0 (zcp (by omega) (by omega))
  have pu0:0<=u * (1 - (((xs 0).fdiv 4).fmod 16).fdiv 15):=Int.mul_nonneg hu h15.1;refine⟨l++[.tup [.str (ws.getD ((xs (1+2 * k)).fmod ws.length).toNat Str.empty),.str (stS.getD (((xs (1+2 * k)).fdiv 8).fmod 2).toNat Str.empty),.int (n+u * (1 - (((xs 0).fdiv 4).fmod 16).fdiv 15))]],some (.int (n+u * (1 - (((xs 0).fdiv 4).fmod 16).fdiv 15))),?_,fun t ht=>?_,by rw[yaq,yax,yc8];omega⟩
  ·unfold zef
   simp_arith[za5,za9,ya1,en,m2,a0,a1,a2,b1',c1,e,s8,s4,s15,nw,ll,mu]
  ·rcases yb7.mp ht with ht|ht
   ·exact hl t ht
   ·rw[yae.mp ht];exact⟨_,_,_,rfl,c2,b2,by omega⟩
theorem sy_ex{xs:Nat->Int}{u:Int}(hu:0<=u){ws:List Str}(hw:Txs ws):∃l,zf9 [.lst (mT 5 fun i=>.int (xs i)),.int u,.lst (ws.map T.str)]=some (.ok (.own l))/\Lks ws stS l/\l.length<=2:=by
 have go:∀n:Nat,n<=2->∃l y4 y5,zf3 (bNm 4) zef (mT n fun i=>.int (i:Int)) [some (.lst (mT 5 fun i=>.int (xs i))),some (.int u),some (.lst (ws.map T.str)),some (.own []),none,none]=some (.nx [some (.lst (mT 5 fun i=>.int (xs i))),some (.int u),some (.lst (ws.map T.str)),some (.own l),y4,y5])/\Lks ws stS l/\l.length<=n:=fun n hn=>by
  obtain⟨τ,e,l,y4,y5,rfl,h1,h2⟩:=zc7 (b:=bNm 4) (body:=zef) (ts:=mT n fun i=>.int (i:Int)) (τ:=[some (.lst (mT 5 fun i=>.int (xs i))),some (.int u),some (.lst (ws.map T.str)),some (.own []),none,none])
   (fun i τ=>∃l y4 y5,τ=[some (.lst (mT 5 fun i=>.int (xs i))),some (.int u),some (.lst (ws.map T.str)),some (.own l),y4,y5]/\Lks ws stS l/\l.length<=i) ⟨[],none,none,rfl,fun t ht=>(by cases ht),ybe _⟩ fun i t τ h1 h2=>by
    obtain⟨hi,rfl⟩:=zcv h1;obtain⟨l,y4,y5,rfl,k1,k2⟩:=h2;obtain⟨l',y5',ew,k3,k4⟩:=sy_body (xs:=xs) hu hw k1 (k:=i) (by omega) k2 (x5:=y5)
    exact⟨_,by simp_arith[],_,ew,l',_,_,rfl,k3,k4⟩
  rw[zce]at h2;exact⟨l,y4,y5,e,h1,h2⟩
 have h4:(xs 0).fmod 4=0\/(xs 0).fmod 4=1\/(xs 0).fmod 4=2\/(xs 0).fmod 4=3:=by
  rw[fm (j:=4) (by decide)]
  omega
 have a0:atI (mT 5 fun i=>T.int (xs i)) 0=some (.int (xs 0)):=zgo (n:=5) (g:=fun i=>T.int (xs i)) (k:=0) (by omega)
 have a3:∀{x y z v:T} {l:List T},atI (x::y::z::v::l) (3:Int)=some v:=by
  intro x y z v l;have:atI (x::y::z::v::l) ((3:Nat):Int)=some v:=zbr rfl;exact this
 have o0:zlr 0=true:=@decide_eq_true _ (Classical.propDecidable _) ⟨by decide,by decide⟩
 have o1:zlr 1=true:=@decide_eq_true _ (Classical.propDecidable _) ⟨by decide,by decide⟩
 have o2:zlr 2=true:=@decide_eq_true _ (Classical.propDecidable _) ⟨by decide,by decide⟩
 have r0:zcq 0 (0:Int).toNat=mT 0 fun i=>.int (i:Int):=zbf
 have r1:zcq 0 (1:Int).toNat=mT 1 fun i=>.int (i:Int):=zbf
 have r2:zcq 0 (2:Int).toNat=mT 2 fun i=>.int (i:Int):=zbf
 rcases h4 with q|q|q|q
 ·obtain⟨l,y4,y5,e,h1,h2⟩:=go 0 (by decide)
  exact⟨l,by unfold zf9 zi2;simp_arith[za5,za9,a0,q,o0,r0,e],h1,by omega⟩
 ·obtain⟨l,y4,y5,e,h1,h2⟩:=go 0 (by decide)
  exact⟨l,by unfold zf9 zi2;simp_arith[za5,za9,a0,q,o0,r0,e],h1,by omega⟩
 ·obtain⟨l,y4,y5,e,h1,h2⟩:=go 1 (by decide)
  exact⟨l,by unfold zf9 zi2;simp_arith[za5,za9,a0,q,o1,r1,e],h1,by omega⟩
 ·obtain⟨l,y4,y5,e,h1,h2⟩:=go 2 (by decide)
  exact⟨l,by unfold zf9 zi2;simp_arith[za5,za9,a0,q,a3,o2,r2,e],h1,by omega⟩
abbrev zel:Stmt:=top 48
theorem sc_Lmachine:FnScope ["_law_script","_law_first","_law_second","_law_unit","_law_watches","_law_names_here","_law_rooms","_law_k","_law_doors","_law_xs"] ["_law_script"] (za4 zel):=⟨rfl,rfl,rfl,by decide +kernel,rfl,by decide +kernel,by decide +kernel⟩
noncomputable def zfm:PSt->Option Out :=
 (zas (zcd (zap zbb (za0 (mAp (g2 zeq) (za0 (zap zar (za0 (za7 0) (za0 (mAp (g2 zeq) (za0 (mC (.int 2)) (za0 (za7 7) za6))) za6))) (za0 (za7 7) za6))) (za0 (mC (.int 5)) za6))) (bNm 9))
 (sApp 6 (zgm (za0 (mIx (za7 5) (za7 7)) (za0 (zap zf9 (za0 (za7 9) (za0 (za7 3) (za0 (za7 4) za6)))) za6)))))
noncomputable def zf7:PSt->Option Rs :=
 (zap zg8 (za0 (za7 0) (za0 (za7 2) (za0 (za7 3) (za0 (mAp (g1 zik) (za0 (za7 1) za6)) za6)))))
noncomputable def zi4:PSt->Option Out :=
 (zas (zcd (zap zar (za0 (za7 0) (za0 (mC (.int 0)) za6))) (bNm 1))
 (zas (zcd (zap zar (za0 (za7 0) (za0 (mC (.int 1)) za6))) (bNm 2))
 (zas (zcd (mAp (g2 zeq) (za0 (mC (.int 1)) (za0 (mAp (g2 zen) (za0 (mAp (g2 zd6) (za0 (za7 1) (za0 (mC (.int 4)) za6))) (za0 (mIx (zfi (zac (mC (.int 1)) (zac (mC (.int 3)) (zac (mAp (g2 powT) (za0 (mC (.int 10)) (za0 (mC (.int 15)) za6))) (zac (mAp (g2 powT) (za0 (mC (.int 10)) (za0 (mC (.int 40)) za6))) za6))))) (mAp (g2 zen) (za0 (za7 1) (za0 (mC (.int 4)) za6)))) za6))) za6))) (bNm 3))
 (zas (zcd (zap zfa (za0 (mAp (g2 zd6) (za0 (za7 1) (za0 (mC (.int 16)) za6))) (za0 (mIx (zfi (zac (mC (.int 0)) (zac (mC (.int 1)) (zac (mC (.int 1)) (zac (mC (.int 2)) (zac (mC (.int 2)) (zac (mC (.int 2)) za6))))))) (mAp (g2 zen) (za0 (za7 2) (za0 (mC (.int 6)) za6)))) za6))) (bNm 4))
 (zas (zcd (zap zfa (za0 (mAp (g2 zd6) (za0 (za7 2) (za0 (mC (.int 24)) za6))) (za0 (mAp (g2 zeq) (za0 (mC (.int 1)) (za0 (mAp (g2 zen) (za0 (mAp (g2 zd6) (za0 (za7 2) (za0 (mC (.int 6)) za6))) (za0 (mC (.int 4)) za6))) za6))) za6))) (bNm 5))
 (zas (sOwn 6 (zfi za6))
 (zas (sFor (zc3 (za0 (mAp (g1 zik) (za0 (za7 5) za6)) za6)) (bNm 7) zfm)
 (zas (zcd (mLC 1 [5,3,4] (zgn (mAlt (mSl (za7 0) (some (mC (.int 6))) (some (mC (.int 12)))) (mSlT (za7 0) (some (mC (.int 6))) (some (mC (.int 12)))))) (bNm 0) (mC (.bl true)) zf7) (bNm 8))
 (zas (sFrz 6) (zd2 (zgm (za0 (za7 4) (za0 (za7 6) (za0 (za7 8) za6))))))))))))))
noncomputable def zdg:List T->Option Ru:=zdw 1 10 zi4
noncomputable abbrev fn_Lmachine:Fn:=⟨4,["_law_script"],zdg⟩
noncomputable abbrev gx_Lmachine:Gx:=⟨[],[],[],[],false,true,true,none,[],[],[],true,[],[],[],[]⟩
noncomputable abbrev zkb:Gm:=⟨["_law_script","_law_first","_law_second","_law_unit","_law_watches","_law_names_here","_law_rooms","_law_k","_law_doors","_law_xs"],(za4 zel).names,["_law_unit","_law_watches","_law_names_here"],3,[("_law_cell_at",zkf),("_law_names",fn_Lnames),("_law_stream",zgj),("_law_stay",fn_Lstay),("_law_door",fn_Ldoor)],["range","len"],[],["_law_rooms"],[],false,[],[],[],gx_Lmachine⟩
theorem ck_Lmachine:dSs 200 zkb (zab zel)=some zi4:=by kernel_rfl
structure DrwOk(ws:List Str)(rs:List (Str×List T))(dd:List Sd)(sz:Nat):Prop where
 w:∀x∈ws,Sml x/\1<=x.cps.size/\x.cps.size<=8
 wd:ws.Nodup
 wl:ws.length<=2
 r1:1<=rs.length
 r4:rs.length<=4
 rn:∀r∈rs,Sml r.1/\r.1.cps.size=sz
 sz:1<=sz/\sz<=8
 rd:(rs.map (·.1)).Nodup
 rl:∀r∈rs,Lks ws stS r.2/\r.2.length<=2
 dl:dd.length<=100
 d:∀d∈dd,d.b<rs.length/\d.e<rs.length/\Lks ws wdS d.g/\d.g.length<=2/\(∀x∈d.n,x∈ws)/\d.n.Nodup/\d.n.length<=7/\Sg2 d.z
theorem nms_mT(c:Int)(m:Nat):(mT m fun k=>.str (nmX c k))=((List.range m).map (nmX c)).map T.str:=by
 unfold mT;rw[ybp]
 rfl
theorem nms_nd(c:Int){m:Nat}(hm:m<20):((List.range m).map (nmX c)).Nodup:=by
 rw[List.nodup_iff_pairwise_ne,List.pairwise_map];refine List.Pairwise.imp_of_mem ?_ (List.nodup_range (n:=m));intro a b ha hb hab e;have h1:=yc4.mp ha;have h2:=yc4.mp hb;exact hab (nm_inj (by omega) (by omega) e)
theorem machine_ex(ns:List Int)(h:ns.length<=63):∃ws rs dd sz,zdg [zaw ns]=some (.ok (spT ws rs dd))/\DrwOk ws rs dd sz:=by
 have c0:zar [zaw ns,.int 0]=some (.ok (.int (ns.getD 0 0))):=zic ns (k:=0) (by decide)
 have c1:zar [zaw ns,.int 1]=some (.ok (.int (ns.getD 1 0))):=zic ns (k:=1) (by decide)
 have ck:∀k:Nat,zar [zaw ns,.int (2+(k:Int))]=some (.ok (.int (ns.getD (2+(k:Int)).toNat 0))):=fun k=>zic ns (by omega)
 generalize ns.getD 0 0=x at c0;generalize ns.getD 1 0=y at c1
 have a3:∀{x y z v:T} {l:List T},atI (x::y::z::v::l) (3:Int)=some v:=by
  intro x y z v l;have:atI (x::y::z::v::l) ((3:Nat):Int)=some v:=zbr rfl;exact this
 have a4:∀{x y z v w:T} {l:List T},atI (x::y::z::v::w::l) (4:Int)=some w:=by
  intro x y z v w l;have:atI (x::y::z::v::w::l) ((4:Nat):Int)=some w:=zbr rfl;exact this
 have a5:∀{x y z v w t:T} {l:List T},atI (x::y::z::v::w::t::l) (5:Int)=some t:=by
  intro x y z v w t l;have:atI (x::y::z::v::w::t::l) ((5:Nat):Int)=some t:=zbr rfl;exact this
 have q4:x.fmod 4=0\/x.fmod 4=1\/x.fmod 4=2\/x.fmod 4=3:=by
  rw[fm (j:=4) (by decide)]
  omega
 have eu:∃q:Int,0<q/\atI [T.int 1,.int 3,.int (10 ^ 15),.int (10 ^ 40)] (x.fmod 4)=some (.int q):=by
  rcases q4 with p|p|p|p<;>rw[p]
  ·exact⟨_,by decide,at0⟩
  ·exact⟨_,by decide,at1⟩
  ·exact⟨_,by decide,at2⟩
  ·exact⟨_,by decide,a3⟩
 obtain⟨q,q0,eq⟩:=eu
 have q6:y.fmod 6=0\/y.fmod 6=1\/y.fmod 6=2\/y.fmod 6=3\/y.fmod 6=4\/y.fmod 6=5:=by
  rw[fm (j:=6) (by decide)]
  omega
 have ew:∃m:Nat,m<=2/\atI [T.int 0,.int 1,.int 1,.int 2,.int 2,.int 2] (y.fmod 6)=some (.int (m:Int)):=by
  rcases q6 with p|p|p|p|p|p<;>rw[p]
  ·exact⟨0,by decide,at0⟩
  ·exact⟨1,by decide,at1⟩
  ·exact⟨1,by decide,at2⟩
  ·exact⟨2,by decide,a3⟩
  ·exact⟨2,by decide,a4⟩
  ·exact⟨2,by decide,a5⟩
 obtain⟨m,m2,em⟩:=ew
 have en:∃n:Nat,1<=n/\n<=4/\1+(y.fdiv 6).fmod 4=(n:Int):=by
  refine⟨(1+(y.fdiv 6).fmod 4).toNat,?_⟩;rw[fm (j:=4) (by decide)]
  omega
 obtain⟨n,n1,n4,en⟩:=en
 have u0:0<=1+(x.fdiv 4).fmod q:=by
  rw[fm (j:=q) q0];have:=yc9 (x.fdiv 4) (show q≠0 by omega)
  omega
 have nw:=names_ok (x.fdiv 16) (m:=m) (by omega)
 have nn:=names_ok (y.fdiv 24) (m:=n) (by omega)
 rw[nms_mT]at nw nn
 have hws:∀z∈(List.range m).map (nmX (x.fdiv 16)),Sml z/\1<=z.cps.size/\z.cps.size<=8:=fun z hz=>by
  obtain⟨k,_,rfl⟩:=yah.mp hz;have:=zge (x.fdiv 16);rw[nm_size];exact⟨nm_sml _ _,this.1,this.2.1⟩
 have wnd:=nms_nd (x.fdiv 16) (m:=m) (by omega)
 have wln:((List.range m).map (nmX (x.fdiv 16))).length=m:=by simp
 generalize (List.range m).map (nmX (x.fdiv 16))=ws at nw hws wnd wln;have tw:Txs ws:=fun z hz=>sml_tx (hws z hz).1
 have rnm:∀z∈(List.range n).map (nmX (y.fdiv 24)),Sml z/\z.cps.size=nmN (y.fdiv 24):=fun z hz=>by
  obtain⟨k,_,rfl⟩:=yah.mp hz;exact⟨nm_sml _ _,nm_size _ _⟩
 have rnd:=nms_nd (y.fdiv 24) (m:=n) (by omega)
 have rln:((List.range n).map (nmX (y.fdiv 24))).length=n:=by simp
 generalize (List.range n).map (nmX (y.fdiv 24))=zs at nn rnm rnd rln;generalize hu:1+(x.fdiv 4).fmod q=u at u0
 obtain⟨τ,e,rs,x7,x9,rfl,hr1,hr2⟩:=zc7 (b:=bNm 7) (body:=zfm) (ts:=mT n fun i=>.int (i:Int)) (τ:=[some (zaw ns),some (.int x),some (.int y),some (.int u),some (.lst (ws.map T.str)),some (.lst (zs.map T.str)),some (.own []),none,none,none])
  (fun i τ=>∃(rs:List (Str×List T)) (x7 x9:Option T),τ=[some (zaw ns),some (.int x),some (.int y),some (.int u),some (.lst (ws.map T.str)),some (.lst (zs.map T.str)),some (.own (rs.map zba)),x7,none,x9]/\rs.map (·.1)=zs.take i/\∀r∈rs,Lks ws stS r.2/\r.2.length<=2) ⟨[],none,none,rfl,by simp,fun r hr=>by cases hr⟩ fun i t τ h1 h2=>by
   obtain⟨hi,rfl⟩:=zcv h1;obtain⟨rs,x7,x9,rfl,k1,k2⟩:=h2;obtain⟨xs,es⟩:=st_ex (ns.getD (2+(i:Int)).toNat 0+(i:Int)) (m:=5) (by decide)
   have es':zbb [.int (ns.getD (2+(i:Int)).toNat 0+(i:Int)),.int 5]=some (.ok (.own (mT 5 fun i=>.int (xs i)))):=es
   obtain⟨l,el,l1,l2⟩:=sy_ex (xs:=xs) u0 tw;have ls:=l1.sh
   have lr:(rs.map zba).length<100000:=by
    have:=congrArg List.length k1;rw[ya1,yb6]at this;rw[ya1]
    omega
   have hi':i<zs.length:=by omega
   have ai:atI (zs.map T.str) (i:Int)=some (.str zs[i]):=zbr (by rw[ya5,ya0 hi'];rfl)
   have s5:shL (mT 5 fun i=>T.int (xs i))=true:=shL_mTi _
   refine⟨[some (zaw ns),some (.int x),some (.int y),some (.int u),some (.lst (ws.map T.str)),some (.lst (zs.map T.str)),some (.own (rs.map zba)),some (.int (i:Int)),none,x9],by simp_arith[],[some (zaw ns),some (.int x),some (.int y),some (.int u),some (.lst (ws.map T.str)),some (.lst (zs.map T.str)),some (.own ((rs++[(zs[i],l)]).map zba)),some (.int (i:Int)),none,some (.lst (mT 5 fun i=>.int (xs i)))],?_,rs++[(zs[i],l)],_,_,rfl,?_,fun r hr=>?_⟩
   ·rw[yb9];unfold zfm
    simp_arith[zii,sh_script,ck i,es',za5,za9,ai,el,ls,za1 _ ls,lr]
   ·rw[yb9,k1,<- yce hi']
    rfl
   ·rcases yb7.mp hr with hr|hr
    ·exact k2 r hr
    ·rw[yae.mp hr];exact⟨l1,l2⟩
 rw[zce,<- rln,ydi]at hr1;have hz1:1<=zs.length:=by omega
 have hdx:∀c:Int,∃d:Sd,zg8 [.int c,.int u,.lst (ws.map T.str),.int zs.length]=some (.ok (sdT d))/\d.b<zs.length/\d.e<zs.length/\Lks ws wdS d.g/\d.g.length<=2/\(∀x∈d.n,x∈ws)/\d.n.Nodup/\d.n.length<=7/\Sg2 d.z:=fun c=>door_ex c u0 tw wnd (by omega) hz1
 obtain⟨f,hf⟩:=Classical.axiomOfChoice hdx;have cl:=cut_len ns (some 6) (some 12);have cm:zhr (ns.map T.int) (some 6) (some 12)=(zhr ns (some 6) (some 12)).map T.int:=cut_map _ _ _ _;generalize zhr ns (some 6) (some 12)=ks at cl cm
 have lc:=zgi (b:=bNm 0) (me:=zf7) (ts:=ks.map T.int) (τ:=[none,some (.lst (zs.map T.str)),some (.int u),some (.lst (ws.map T.str))]) (fun _ τ=>∃x,τ=[x,some (.lst (zs.map T.str)),some (.int u),some (.lst (ws.map T.str))]) (fun i=>sdT (f (ks.getD i 0))) ⟨none,rfl⟩ fun i t τ h1 h2=>by
  obtain⟨x,rfl⟩:=h2;have hi:i<ks.length:=by simpa using (ya6.mp h1).1
  rw[ya5,ya0 hi]at h1
  have et:t=.int (ks.getD i 0):=by
   rw[ya4,ya0 hi];exact(yal h1).symm
  subst et;have ed:=(hf (ks.getD i 0)).1;refine⟨[some (.int (ks.getD i 0)),some (.lst (zs.map T.str)),some (.int u),some (.lst (ws.map T.str))],by simp_arith[],?_,_,rfl⟩
  unfold zf7
  simp_arith[za5,za9,ya1,ed]
 have ee:(List.range (ks.map T.int).length).map (fun i=>sdT (f (ks.getD i 0)))=(ks.map f).map sdT:=by
  rw[ya1];refine(zhl (n:=ks.length) (g:=fun i=>sdT (f (ks.getD i 0))) (by simp) fun i hi=>?_).symm
  rw[ya5,ya5,ya4,ya0 hi]
  rfl
 rw[ee]at lc
 have hds:∀d∈ks.map f,d.b<zs.length/\d.e<zs.length/\Lks ws wdS d.g/\d.g.length<=2/\(∀x∈d.n,x∈ws)/\d.n.Nodup/\d.n.length<=7/\Sg2 d.z:=fun d hd=>by
  obtain⟨c,_,rfl⟩:=yah.mp hd;exact(hf c).2
 have hdl:(ks.map f).length<=100:=by
  rw[ya1]
  omega
 generalize ks.map f=dd at lc hds hdl;have zl:rs.length=zs.length:=by rw[<- hr1,ya1]
 have D:DrwOk ws rs dd (nmN (y.fdiv 24)):=by
  refine⟨hws,wnd,by omega,by omega,by omega,fun r hr=>rnm _ (hr1▸yay hr),⟨(zge _).1,(zge _).2.1⟩,by rw[hr1];exact rnd,hr2,hdl,fun d hd=>?_⟩
  rw[zl];exact hds d hd
 refine⟨ws,rs,dd,_,?_,D⟩
 have sr:shL (rs.map zba)=true:=by
  rw[zb0,yag];intro t ht;obtain⟨r,hr,rfl⟩:=yah.mp ht;have:=(hr2 r hr).1.sh
  simp_arith[this]
 have er:=za1 _ sr
 have sd:shL (dd.map sdT)=true:=by
  rw[zb0,yag];intro t ht;obtain⟨d,hd,rfl⟩:=yah.mp ht;have:=(hds d hd).2.2.1.sh
  simp_arith[this,za9]
 have ed:=za1 _ sd;have s4:s70 4=true:=zbv (by decide) (by decide)
 have s16:s70 16=true:=zbv (by decide) (by decide)
 have s24:s70 24=true:=zbv (by decide) (by decide)
 have s6:s70 6=true:=zbv (by decide) (by decide)
 have z15:((10:Int) ^ (15:Int).toNat)=10 ^ 15:=rfl;have z40:((10:Int) ^ (40:Int).toNat)=10 ^ 40:=rfl;have t15:(0:Int)<=15/\(15:Int)<=1000000/\s64 10=true:=⟨by decide,by decide,zcp (by decide) (by decide)⟩
 have t40:(0:Int)<=40/\(40:Int)<=1000000/\s64 10=true:=⟨by decide,by decide,zcp (by decide) (by decide)⟩
 have nq:(q=0)=False:=eq_false (by omega)
 have ok:zlr (zs.length:Int)=true:=zhg (by omega)
 have rg:zcq 0 zs.length=mT n fun i=>.int (i:Int):=by rw[rln];exact zbf
 have kl:ks.length<=100000:=by omega
 unfold zaw at *;unfold zdg zi4
 simp_arith[zbc,zes,c0,c1,s4,s16,s24,s6,z15,z40,t15,t40,eq,nq,hu,em,nw,en,nn,za5,za9,ya1,ok,rg,e,cm,lc,kl,sr,er,sd,ed,own_ints]
abbrev zby:Stmt:=meth 27 1
theorem zhb:FnScope ["self"] ["self"] (za4 zby):=⟨rfl,rfl,rfl,by decide +kernel,rfl,by decide +kernel,by decide +kernel⟩
noncomputable def zcu:PSt->Option Out :=
 (zd2 (mAlt (mAp (g1 zf0) (za0 (mFld zae zaj 0 (za7 0)) za6)) (mKys (mFld zae zaj 0 (za7 0)))))
noncomputable def zb4:List T->Option Ru:=zdw 1 1 zcu
noncomputable abbrev zhq:Fn:=⟨1,["self"],zb4⟩
noncomputable abbrev zho:Gx:=⟨[],[("Machine",zae,zaj)],[],[],false,true,true,none,[],[],[],true,[],[],[],[]⟩
noncomputable abbrev ze4:Gm:=⟨["self"],(za4 zby).names,[],0,[],["list"],[],[],[],false,[],[],[],zho⟩
theorem zht:dSs 200 ze4 (zab zby)=some zcu:=by kernel_rfl
theorem mw_ok71{M:Mc}(h:McOk M):zb4 [zgz M]=some (.ok (.own (M.ws.map T.str))):=by
 unfold zb4 zcu
 simp_arith[za5,za9,h.ss,h.sd,za1 _ h.ss,za1 _ h.sd]
abbrev zjm:Stmt:=top 50
theorem sc_Lgoal:FnScope ["_law_cells","_law_spec","_law_goal_here","_law_cell","_law_watches","_law_rooms","_law_doors","_law_xs","_law_unit"] ["_law_cells","_law_spec"] (za4 zjm):=⟨rfl,rfl,rfl,by decide +kernel,rfl,by decide +kernel,by decide +kernel⟩
noncomputable def zjb:PSt->Option Out :=
 (zas (zcd (zap zbb (za0 (za7 3) (za0 (mC (.int 6)) za6))) (bNm 7))
 (zas (zcd (mAp (g2 zeq) (za0 (mC (.int 1)) (za0 (mAp (g2 zen) (za0 (mAp (g2 zd6) (za0 (mIx (za7 7) (mC (.int 0))) (za0 (mC (.int 8)) za6))) (za0 (mIx (zfi (zac (mC (.int 3)) (zac (mAp (g2 powT) (za0 (mC (.int 10)) (za0 (mC (.int 50)) za6))) za6))) (mAp (g2 zen) (za0 (mIx (za7 7) (mC (.int 0))) (za0 (mC (.int 2)) za6)))) za6))) za6))) (bNm 8))
 (sApp 2 (zgm (za0 (mIx (mIx (za7 5) (mAp (g2 zen) (za0 (mIx (za7 7) (mC (.int 0))) (za0 (mAp (g1 zik) (za0 (za7 5) za6)) za6)))) (mC (.int 0))) (za0 (zap zd3 (za0 (mAlt (mSl (za7 7) (some (mC (.int 1))) none) (mSlT (za7 7) (some (mC (.int 1))) none)) (za0 (za7 8) (za0 (za7 4) za6)))) za6))))))
noncomputable def m_Lgoal:PSt->Option Out :=
 (zas (zcd (za7 1) (zfk 3 (zai (bNm 4) (zai (bNm 5) (zai (bNm 6) zg7)))))
 (zas (sOwn 2 (zfi za6))
 (zas (sFor (zgn (za7 0)) (bNm 3) zjb)
 (zd2 (za7 2)))))
noncomputable def zih:List T->Option Ru:=zdw 2 9 m_Lgoal
noncomputable abbrev fn_Lgoal:Fn:=⟨3,["_law_cells","_law_spec"],zih⟩
noncomputable abbrev gx_Lgoal:Gx:=⟨[],[],[],[],false,true,true,none,[],[],[],true,[],[],[],[]⟩
noncomputable abbrev gm_Lgoal:Gm:=⟨["_law_cells","_law_spec","_law_goal_here","_law_cell","_law_watches","_law_rooms","_law_doors","_law_xs","_law_unit"],(za4 zjm).names,[],2,[("_law_stream",zgj),("_law_guard",fn_Lguard)],["len"],[],["_law_goal_here"],[],false,[],[],[],gx_Lgoal⟩
theorem ck_Lgoal:dSs 200 gm_Lgoal (zab zjm)=some m_Lgoal:=by kernel_rfl
def Gls(ws rn:List Str)(gl:List (Str×List T)):Prop:=∀g∈gl,g.1∈rn/\Lks ws wdS g.2/\g.2.length<=2
theorem Gls.sh{ws rn:List Str}{gl:List (Str×List T)}(h:Gls ws rn gl):shL (gl.map zba)=true:=by
 rw[zb0,yag];intro t ht;obtain⟨g,hg,rfl⟩:=yah.mp ht;have:=(h g hg).2.1.sh
 simp_arith[this]
theorem goal_ex{ws:List Str}{rs:List (Str×List T)}{dd:List Sd}(hw:Txs ws)(hr:1<=rs.length)(sr:shL (rs.map zba)=true)(sd:shL (dd.map sdT)=true)(ks:List Int)(hk:ks.length<=63):∃gl:List (Str×List T),zih [.lst (ks.map T.int),spT ws rs dd]=some (.ok (.own (gl.map zba)))/\Gls ws (rs.map (·.1)) gl/\gl.length<=ks.length:=by
 have er:=za1 _ sr;have ed:=za1 _ sd
 obtain⟨τ,e,gl,x3,x7,x8,rfl,g1,g2⟩:=zc7 (b:=bNm 3) (body:=zjb) (ts:=ks.map T.int) (τ:=[some (.lst (ks.map T.int)),some (spT ws rs dd),some (.own []),none,some (.lst (ws.map T.str)),some (rmsT rs),some (.lst (dd.map sdT)),none,none])
  (fun i τ=>∃gl:List (Str×List T),∃x3 x7 x8,τ=[some (.lst (ks.map T.int)),some (spT ws rs dd),some (.own (gl.map zba)),x3,some (.lst (ws.map T.str)),some (rmsT rs),some (.lst (dd.map sdT)),x7,x8]/\Gls ws (rs.map (·.1)) gl/\gl.length<=i) ⟨[],none,none,none,rfl,(fun g hg=>by cases hg),ybe _⟩ fun i t τ h1 h2=>by
  obtain⟨gl,x3,x7,x8,rfl,g1,g2⟩:=h2;have hi:i<ks.length:=by simpa using (ya6.mp h1).1
  rw[ya5,ya0 hi]at h1;have et:t=.int ks[i]:=(yal h1).symm;subst et;obtain⟨xs,es⟩:=st_ex ks[i] (m:=6) (by decide)
  have es':zbb [.int ks[i],.int 6]=some (.ok (.own (mT 6 fun i=>.int (xs i)))):=es
  have a0:atI (mT 6 fun i=>T.int (xs i)) 0=some (.int (xs 0)):=zgo (n:=6) (g:=fun i=>T.int (xs i)) (k:=0) (by omega)
  have q2:(xs 0).fmod 2=0\/(xs 0).fmod 2=1:=by
   rw[fm (j:=2) (by decide)]
   omega
  have eu:∃q:Int,0<q/\atI [T.int 3,.int (10 ^ 50)] ((xs 0).fmod 2)=some (.int q):=by
   rcases q2 with p|p<;>rw[p]
   ·exact⟨_,by decide,at0⟩
   ·exact⟨_,by decide,at1⟩
  obtain⟨q,q0,eq⟩:=eu
  have u0:0<=1+((xs 0).fdiv 8).fmod q:=by
   rw[fm (j:=q) q0];have:=yc9 ((xs 0).fdiv 8) (show q≠0 by omega)
   omega
  have cu:zhr (mT 6 fun i=>T.int (xs i)) (some 1) none=mT 5 fun i=>.int (xs (i+1)):=by
   have e1:HT.sIx 6 0 (some 1)=1:=by decide
   have e2:HT.sIx 6 6 none=6:=by decide
   unfold zhr;rw[zce,e1,e2]
   rfl
  obtain⟨l,eg,l1,l2⟩:=gd_ex (xs:=fun i=>xs (i+1)) u0 hw
  have hm:=zfw (xs 0) hr;have hmi:((xs 0).fmod rs.length).toNat<rs.length:=by omega
  have ar:atI (rs.map zba) ((xs 0).fmod rs.length)=some (.tup [.str (rs[((xs 0).fmod rs.length).toNat]).1,.lst (rs[((xs 0).fmod rs.length).toNat]).2]):=zkx hm.1 (by rw[ya5,ya0 hmi];rfl)
  have nr:((rs.length:Int)=0)=False:=eq_false (by omega)
  have s8:s70 8=true:=zbv (by decide) (by decide)
  have nq:(q=0)=False:=eq_false (by omega)
  have ll:gl.length<100000:=by omega
  have lsh:=l1.sh
  have rsh':shL (rs[((xs 0).fmod rs.length).toNat]).2=true:=by
   rw[zb0,yag]at sr
   simpa[T.sh,shL] using sr _ (yay (yac hmi))
  have t50:(0:Int)<=50/\(50:Int)<=1000000/\s64 10=true:=⟨by decide,by decide,zcp (by decide) (by decide)⟩
  have z50:((10:Int) ^ (50:Int).toNat)=10 ^ 50:=rfl;refine⟨[some (.lst (ks.map T.int)),some (spT ws rs dd),some (.own (gl.map zba)),some (.int ks[i]),some (.lst (ws.map T.str)),some (rmsT rs),some (.lst (dd.map sdT)),x7,x8],by simp_arith[],_,?_,gl++[(rs[((xs 0).fmod rs.length).toNat].1,l)],some (.int ks[i]),some (.lst (mT 6 fun i=>.int (xs i))),some (.int (1+((xs 0).fdiv 8).fmod q)),rfl,fun g hg=>?_,by rw[yaq,ybq];omega⟩
  ·rw[yb9];unfold zjb
   simp_arith[es',a0,eq,s8,nq,za5,za9,sr,er,ya1,nr,ar,cu,eg,lsh,za1 _ lsh,ll,rsh',t50,z50]
  ·rcases yb7.mp hg with hg|hg
   ·exact g1 g hg
   ·rw[yae.mp hg];exact⟨yay (f:=(·.1)) (yac hmi),l1,l2⟩
 rw[ya1]at g2;refine⟨gl,?_,g1,g2⟩;have lk:(ks.map T.int).length<=100000:=by rw[ya1];omega
 unfold zih m_Lgoal
 simp_arith[za5,za9,sr,er,sd,ed,zbc,zes,e,lk]
abbrev zb8:Stmt:=meth 27 5
theorem zet:FnScope ["self","name"] ["self","name"] (za4 zb8):=⟨rfl,rfl,rfl,by decide +kernel,rfl,by decide +kernel,by decide +kernel⟩
noncomputable def zbq:PSt->Option Out :=
 (zd2 (mAp (g2 zeq) (za0 (mIdx (mFld zae zaj 0 (za7 0)) (za7 1)) (za0 (mC (.int 1)) za6))))
noncomputable def zan:List T->Option Ru:=zdw 2 2 zbq
noncomputable abbrev zf5:Fn:=⟨1,["self","name"],zan⟩
noncomputable abbrev zf1:Gx:=⟨[],[("Machine",zae,zaj)],[],[],false,true,true,none,[],[],[],true,[],[],[],[]⟩
noncomputable abbrev zcn:Gm:=⟨["self","name"],(za4 zb8).names,[],0,[],[],[],[],[],false,[],[],[],zf1⟩
theorem zf6:dSs 200 zcn (zab zb8)=some zbq:=by kernel_rfl
theorem mn_ok41{M:Mc}(h:McOk M){x:Str}{j:Nat}(e:idxS M.ws x=some j):zan [zgz M,.str x]=some (.ok (.int ((j:Int)+1))):=by
 have l1:M.ws.length<1000000:=by have:=h.wl;omega
 unfold zan zbq
 simp_arith[za5,za9,zeg,h.ss,h.sd,za1 _ h.ss,za1 _ h.sd,e,l1]
abbrev zhc:Stmt:=top 33
theorem sc_placed:FnScope ["machine","guard","watches"] ["machine","guard"] (za4 zhc):=⟨rfl,rfl,rfl,by decide +kernel,rfl,by decide +kernel,by decide +kernel⟩
noncomputable def zid:PSt->Option Rs :=
 (zgm (za0 (zl4 zae zaj zan (za7 3) (za0 (za7 0) za6)) (za0 (za7 1) (za0 (za7 2) za6))))
noncomputable def zj9:PSt->Option Out :=
 (zas (zcd (zl4 zae zaj zb4 (za7 0) za6) (bNm 2))
 (zas (sIf (zfc (zap zb3 (za0 (za7 1) (za0 (za7 2) (za0 (mC zc2) za6))))) (zlm "NoMark" (za0 (mC (.str "a guard is a list of looks at the machine's watches")) za6)) sNx)
 (zd2 (mLC 3 [0] (zgn (za7 1)) (zfk 3 (zai (bNm 0) (zai (bNm 1) (zai (bNm 2) zg7)))) (mC (.bl true)) zid))))
noncomputable def ze7:List T->Option Ru:=zdw 2 3 zj9
noncomputable abbrev fn_placed:Fn:=⟨5,["machine","guard"],ze7⟩
noncomputable abbrev gx_placed:Gx:=⟨[("WORDS",zc2)],[],[("watches",zae,zaj,zhq),("watch_number",zae,zaj,zf5)],[],false,true,true,none,[],[],[],true,[],[],[],[]⟩
noncomputable abbrev gm_placed:Gm:=⟨["machine","guard","watches"],(za4 zhc).names,["machine"],4,[("is_guard",zh5)],[],["NoMark"],[],[],false,[],[],[],gx_placed⟩
theorem ck_placed:dSs 200 gm_placed (zab zhc)=some zj9:=by kernel_rfl
def lkX:T->Str
 |.nd _ _ (.str x::_)=>x
 |_=>Str.empty
def lkY:T->Str
 |.nd _ _ (_::.str y::_)=>y
 |_=>Str.empty
def lkN:T->Int
 |.nd _ _ (_::_::.int n::_)=>n
 |_=>0
theorem lk_is{ws wd:List Str}{t:T}(h:∃x y n,t=.tup [.str x,.str y,.int n]/\x∈ws/\y∈wd/\0<=n):t=.tup [.str (lkX t),.str (lkY t),.int (lkN t)]/\lkX t∈ws/\lkY t∈wd/\0<=lkN t:=by
 obtain⟨x,y,n,rfl,h1,h2,h3⟩:=h;exact⟨rfl,h1,h2,h3⟩
noncomputable def plT(ws:List Str)(t:T):T:=.tup [.int (((idxS ws (lkX t)).getD 0:Int)+1),.str (lkY t),.int (lkN t)]
theorem idx_mem{ws:List Str}{x:Str}(h:x∈ws):∃j,idxS ws x=some j/\∃hj:j<ws.length,ws[j]=x:=by
 unfold idxS;cases e:List.findIdx? (fun y=>@decide (y=x) (Classical.propDecidable _)) ws with
 |none =>
  have:=List.findIdx?_eq_none_iff.mp e x h;simp at this
 |some j =>
  obtain⟨h1,h2,_⟩:=yb2.mp e;exact⟨j,rfl,h1,@of_decide_eq_true _ (Classical.propDecidable _) h2⟩
theorem zfy{α:Type}{b:T->PSt->Option PSt}{me:PSt->Option Rs}(f g:α->T)(I:PSt->Prop):∀(L:List α) (τ:PSt),I τ->(∀x∈L,∀τ,I τ->∃τ1,b (f x) τ=some τ1/\me τ1=some (.v (g x) false)/\I τ1)->zk0 b (mC (.bl true)) me (L.map f) τ=some (L.map g)
 |[],_,_,_=>rfl
 |x::L,τ,h,hs=>by
  obtain⟨τ1,e1,e2,h1⟩:=hs x (ya9 ..) τ h;have k:=zfy f g I L τ1 h1 fun u hu=>hs u (ya8 _ hu)
  have f1:mC (.bl true) τ1=some (.v (.bl true) false):=rfl;rw[yaf,yaf];unfold zk0;simp only[e1,f1,e2,k]
theorem placed_ok41{M:Mc}(h:McOk M){l:List T}{wd:List Str}(hl:Lks M.ws wd l)(hw:∀y∈wd,y∈wdS)(hn:l.length<=1000):ze7 [zgz M,.lst l]=some (.ok (.own (l.map (plT M.ws)))):=by
 have hl':Lks M.ws wdS l:=fun t ht=>by
  obtain⟨x,y,n,e,h1,h2,h3⟩:=hl t ht;exact⟨x,y,n,e,h1,hw y h2,h3⟩
 have hg:=guard_lk h.tw wd_tx hn hl';have hs:=hl.sh;have es:=za1 _ hs
 have lc:=zfy (b:=zfk 3 (zai (bNm 0) (zai (bNm 1) (zai (bNm 2) zg7)))) (me:=zid) (fun t:T=>t) (plT M.ws) (fun τ=>∃x y z,τ=[x,y,z,some (zgz M)]) l [none,none,none,some (zgz M)] ⟨none,none,none,rfl⟩ fun t ht τ hI=>by
  obtain⟨x,y,z,rfl⟩:=hI;obtain⟨k1,k2,k3,k4⟩:=lk_is (hl' t ht);obtain⟨j,ej,_⟩:=idx_mem k2;have en:=mn_ok41 h ej;refine⟨[some (.str (lkX t)),some (.str (lkY t)),some (.int (lkN t)),some (zgz M)],by rw[k1];simp_arith[lkX,lkY,lkN],?_,_,_,_,rfl⟩
  unfold zid plT;rw[ej]
  simp_arith[za5,za9,h.ss,h.sd,za1 _ h.ss,za1 _ h.sd,en,yco]
 rw[List.map_id']at lc;have mw:=mw_ok71 h;have l1:l.length<=100000:=by omega
 unfold ze7 zj9
 simp_arith[k_wds,za5,za9,h.ss,h.sd,za1 _ h.ss,za1 _ h.sd,mw,hs,es,hg,l1,lc]
theorem placed_no41{M:Mc}(h:McOk M){t:T}(ht:t.sh=true)(hg:zb3 [t,.lst (M.ws.map T.str),zc2]=some (.ok (.bl false))):ze7 [zgz M,t]=some (.exc "NoMark"):=by
 have mw:=mw_ok71 h;rw[k_wds]at hg;unfold ze7 zj9
 simp_arith[k_wds,za5,za9,h.ss,h.sd,za1 _ h.ss,za1 _ h.sd,mw,hg,ht,zat _ ht]
theorem plS42(ws:List Str)(l:List T):shL (l.map (plT ws))=true:=by
 rw[zb0,yag];intro t ht;obtain⟨u,_,rfl⟩:=yah.mp ht
 rfl
abbrev zcf:Stmt:=top 38
theorem zkz:FnScope ["machine","rooms","mark"] ["machine","rooms","mark"] (za4 zcf):=⟨rfl,rfl,rfl,by decide +kernel,rfl,by decide +kernel,by decide +kernel⟩
noncomputable def zcm:PSt->Option Out :=
 (zas (sIf (mOr (zfc (mAp (g1 (zdy "tuple")) (za0 (za7 2) za6))) (mAp (g2 neT) (za0 (mAp (g1 zik) (za0 (za7 2) za6)) (za0 (mC (.int 2)) za6)))) (zlm "NoMark" (za0 (mC (.str "a mark is a tuple of a room and a guard")) za6)) sNx)
 (zas (sIf (mAp (g2 zfu) (za0 (mIx (za7 2) (mC (.int 0))) (za0 (za7 1) za6))) (zlm "NoMark" (za0 (mC (.str "a mark is in a room of the machine")) za6)) sNx)
 (zd2 (zgm (za0 (mIx (za7 2) (mC (.int 0))) (za0 (zap ze7 (za0 (za7 0) (za0 (mIx (za7 2) (mC (.int 1))) za6))) za6))))))
noncomputable def zal:List T->Option Ru:=zdw 3 3 zcm
noncomputable abbrev zla:Fn:=⟨6,["machine","rooms","mark"],zal⟩
noncomputable abbrev zl5:Gx:=⟨[],[],[],[],false,true,true,none,[],[],[],true,[],[],[],[]⟩
noncomputable abbrev zgp:Gm:=⟨["machine","rooms","mark"],(za4 zcf).names,[],5,[("placed",fn_placed)],["isinstance","tuple","len"],["NoMark"],[],[],false,[],[],[],zl5⟩
theorem zlf:dSs 200 zgp (zab zcf)=some zcm:=by kernel_rfl
theorem nin_strs{ys:List Str}{x:Str}{o:Bool}{k:Kd}(h:Txs ys)(hx:PyData.strOk x=true):zfu (.str x) (.nd o k (ys.map T.str))=some (.bl (!decide (x∈ys))):=by
 have e:=zh3 (o:=o) (k:=k) h hx;unfold inT at e;unfold zfu;simp only at e ⊢;split at e
 ·rename_i hk;rw[if_pos hk];simp only[yci,T.bl.injEq]at e ⊢;rw[e]
 ·cases e
theorem pm_ok{M:Mc}(h:McOk M){g:Str×List T}(hg:g.1∈M.rs.map (·.1)/\Lks M.ws wdS g.2/\g.2.length<=2):zal [zgz M,.lst ((M.rs.map (·.1)).map T.str),zba g]=some (.ok (.tup [.str g.1,.lst (g.2.map (plT M.ws))])):=by
 obtain⟨g1,g2,g3⟩:=hg;have e1:=nin_strs (o:=false) (k:=.lst) h.tn (h.tn _ g1);rw[decide_eq_true g1]at e1;have e2:=placed_ok41 h g2 (fun y hy=>hy) (by omega)
 have hs:=g2.sh
 have ps:shL (g.2.map (plT M.ws))=true:=by
  rw[zb0,yag];intro t ht;obtain⟨u,_,rfl⟩:=yah.mp ht
  rfl
 unfold zal zcm
 simp_arith[zfv,za5,za9,h.ss,h.sd,za1 _ h.ss,za1 _ h.sd,e1,e2,hs,za1 _ hs,ps,za1 _ ps]
theorem pm_room{M:Mc}(h:McOk M){x:Str}(hx:PyData.strOk x=true)(hn:x∉M.rs.map (·.1)){l:List T}(hl:shL l=true):zal [zgz M,.lst ((M.rs.map (·.1)).map T.str),.tup [.str x,.lst l]]=some (.exc "NoMark"):=by
 have e1:=nin_strs (o:=false) (k:=.lst) h.tn hx;rw[decide_eq_false hn]at e1;unfold zal zcm
 simp_arith[zfv,za5,za9,h.ss,h.sd,za1 _ h.ss,za1 _ h.sd,e1,hl,za1 _ hl]
theorem zj7{M:Mc}(h:McOk M){x:Str}(hn:x∈M.rs.map (·.1)){t:T}(ht:t.sh=true)(hg:zb3 [t,.lst (M.ws.map T.str),zc2]=some (.ok (.bl false))):zal [zgz M,.lst ((M.rs.map (·.1)).map T.str),.tup [.str x,t]]=some (.exc "NoMark"):=by
 have e1:=nin_strs (o:=false) (k:=.lst) h.tn (h.tn _ hn);rw[decide_eq_true hn]at e1;have e2:=placed_no41 h ht hg;unfold zal zcm
 simp_arith[zfv,za5,za9,h.ss,h.sd,za1 _ h.ss,za1 _ h.sd,e1,e2,ht,zat _ ht]
abbrev zck:Stmt:=meth 27 2
theorem zit:FnScope ["self"] ["self"] (za4 zck):=⟨rfl,rfl,rfl,by decide +kernel,rfl,by decide +kernel,by decide +kernel⟩
noncomputable def zdn:PSt->Option Out :=
 (zd2 (mAlt (mAp (g1 zf0) (za0 (mFld zae zaj 1 (za7 0)) za6)) (mKys (mFld zae zaj 1 (za7 0)))))
noncomputable def zbk:List T->Option Ru:=zdw 1 1 zdn
noncomputable abbrev ziy:Fn:=⟨1,["self"],zbk⟩
noncomputable abbrev ziw:Gx:=⟨[],[("Machine",zae,zaj)],[],[],false,true,true,none,[],[],[],true,[],[],[],[]⟩
noncomputable abbrev zfg:Gm:=⟨["self"],(za4 zck).names,[],0,[],["list"],[],[],[],false,[],[],[],ziw⟩
theorem zj1:dSs 200 zfg (zab zck)=some zdn:=by kernel_rfl
theorem mr_ok71{M:Mc}(h:McOk M):zbk [zgz M]=some (.ok (.own ((M.rs.map (·.1)).map T.str))):=by
 unfold zbk zdn
 simp_arith[mKys,za5,za9,h.ss,h.sd,za1 _ h.ss,za1 _ h.sd]
abbrev zcg:Stmt:=top 37
theorem zl0:FnScope ["machine","goal","rooms"] ["machine","goal"] (za4 zcg):=⟨rfl,rfl,rfl,by decide +kernel,rfl,by decide +kernel,by decide +kernel⟩
noncomputable def zbi:PSt->Option Rs :=
 (zap zal (za0 (za7 1) (za0 (za7 2) (za0 (za7 0) za6))))
noncomputable def zdd:PSt->Option Out :=
 (zas (sIf (zfc (mAp (g1 (zdy "list")) (za0 (za7 1) za6))) (zlm "NoMark" (za0 (mC (.str "a goal is a list of marks")) za6)) sNx)
 (zas (zcd (zl4 zae zaj zbk (za7 0) za6) (bNm 2))
 (zd2 (mLC 1 [0,2] (zgn (za7 1)) (bNm 0) (mC (.bl true)) zbi))))
noncomputable def zav:List T->Option Ru:=zdw 2 3 zdd
noncomputable abbrev zlb:Fn:=⟨7,["machine","goal"],zav⟩
noncomputable abbrev zl6:Gx:=⟨[],[],[("rooms",zae,zaj,ziy)],[],false,true,true,none,[],[],[],true,[],[],[],[]⟩
noncomputable abbrev zgq:Gm:=⟨["machine","goal","rooms"],(za4 zcg).names,["machine","rooms"],6,[("placed_mark",zla)],["isinstance","list"],["NoMark"],[],[],false,[],[],[],zl6⟩
theorem zlg:dSs 200 zgq (zab zcg)=some zdd:=by kernel_rfl
theorem lc_err{b:T->PSt->Option PSt}{me:PSt->Option Rs}{c:Str}{t:T}{l2:List T}(I:PSt->Prop)(ht:∀τ,I τ->∃τ1,b t τ=some τ1/\me τ1=some (.x c)):∀(l1:List T) (τ:PSt),I τ->(∀u∈l1,∀τ,I τ->∃τ1 v,b u τ=some τ1/\me τ1=some (.v v false)/\I τ1) ->
  zk0 b (mC (.bl true)) me (l1++t::l2) τ=none/\lcX b (mC (.bl true)) me (l1++t::l2) τ=some c
 |[],τ,h,_=>by
  obtain⟨τ1,e1,e2⟩:=ht τ h;rw[ycw];unfold zk0 lcX;simp only[e1,mC,e2,and_self]
 |u::l1,τ,h,hs=>by
  obtain⟨τ1,v,e1,e2,h1⟩:=hs u (ya9 ..) τ h;obtain⟨k1,k2⟩:=lc_err (l2:=l2) I ht l1 τ1 h1 fun u hu=>hs u (ya8 _ hu)
  have f1:mC (.bl true) τ1=some (.v (.bl true) false):=rfl;rw[ydf];unfold zk0 lcX;simp only[e1,f1,e2,k1,k2,and_self]
theorem pg_ok{M:Mc}(h:McOk M){gl:List (Str×List T)}(hg:Gls M.ws (M.rs.map (·.1)) gl)(hn:gl.length<=1000):zav [zgz M,.lst (gl.map zba)]=some (.ok (.own (gl.map fun g=>.tup [.str g.1,.lst (g.2.map (plT M.ws))]))):=by
 have gs:=hg.sh
 have lc:=zfy (b:=bNm 0) (me:=zbi) zba (fun g=>.tup [.str g.1,.lst (g.2.map (plT M.ws))]) (fun τ=>∃x,τ=[x,some (zgz M),some (.lst ((M.rs.map (·.1)).map T.str))]) gl [none,some (zgz M),some (.lst ((M.rs.map (·.1)).map T.str))] ⟨none,rfl⟩ fun g hm τ hI=>by
  obtain⟨x,rfl⟩:=hI;have k:=hg g hm;have e:=pm_ok h k;have ks:=k.2.1.sh;refine⟨[some (zba g),some (zgz M),some (.lst ((M.rs.map (·.1)).map T.str))],by simp_arith[],?_,_,rfl⟩
  unfold zbi
  simp_arith[za5,za9,h.ss,h.sd,za1 _ h.ss,za1 _ h.sd,e,ks,za1 _ ks]
 have mr:=mr_ok71 h;have l1:gl.length<=100000:=by omega
 unfold zav zdd
 simp_arith[za5,za9,h.ss,h.sd,za1 _ h.ss,za1 _ h.sd,mr,gs,za1 _ gs,ya1,l1,lc]
theorem pg_no{M:Mc}(h:McOk M){g1:List (Str×List T)}(hg:Gls M.ws (M.rs.map (·.1)) g1){t:T}(ht:t.sh=true)(hb:zal [zgz M,.lst ((M.rs.map (·.1)).map T.str),t]=some (.exc "NoMark")){l2:List T}(h2:shL l2=true)(hn:(g1.map zba++t::l2).length<=1000):zav [zgz M,.lst (g1.map zba++t::l2)]=some (.exc "NoMark"):=by
 have s1:=hg.sh
 have gs:shL (g1.map zba++t::l2)=true:=by
  rw[zb0]at s1 h2 ⊢;rw[List.all_append,s1,List.all_cons,ht,h2]
  rfl
 obtain⟨k1,k2⟩:=lc_err (b:=bNm 0) (me:=zbi) (c:="NoMark") (t:=t) (l2:=l2) (fun τ=>∃x,τ=[x,some (zgz M),some (.lst ((M.rs.map (·.1)).map T.str))]) (fun τ hI=>by
  obtain⟨x,rfl⟩:=hI;refine⟨[some t,some (zgz M),some (.lst ((M.rs.map (·.1)).map T.str))],by simp_arith[],?_⟩
  unfold zbi
  simp_arith[za5,za9,h.ss,h.sd,za1 _ h.ss,za1 _ h.sd,hb,ht,zat _ ht]) (g1.map zba) [none,some (zgz M),some (.lst ((M.rs.map (·.1)).map T.str))] ⟨none,rfl⟩ fun u hu τ hI=>by
  obtain⟨x,rfl⟩:=hI;obtain⟨g,hm,rfl⟩:=yah.mp hu;have k:=hg g hm;have e:=pm_ok h k;have ks:=k.2.1.sh;refine⟨[some (zba g),some (zgz M),some (.lst ((M.rs.map (·.1)).map T.str))],.tup [.str g.1,.lst (g.2.map (plT M.ws))],by simp_arith[],?_,_,rfl⟩
  unfold zbi
  simp_arith[za5,za9,h.ss,h.sd,za1 _ h.ss,za1 _ h.sd,e,ks,za1 _ ks]
 have mr:=mr_ok71 h;have l1:(g1.map zba++t::l2).length<=100000:=by omega
 generalize g1.map zba++t::l2=G at *;unfold zav zdd
 simp_arith[za5,za9,h.ss,h.sd,za1 _ h.ss,za1 _ h.sd,mr,gs,za1 _ gs,l1,k1,k2]
abbrev zjh:Stmt:=top 8
theorem sc_under:FnScope ["one","other"] ["one","other"] (za4 zjh):=⟨rfl,rfl,rfl,by decide +kernel,rfl,by decide +kernel,by decide +kernel⟩
noncomputable def m_under:PSt->Option Out :=
 (zd2 (mAp (g2 (cmpT fun i j=>decide (i<j))) (za0 (mAp (g2 zlt) (za0 (mIx (za7 0) (mC (.int 0))) (za0 (mIx (za7 1) (mC (.int 1))) za6))) (za0 (mAp (g2 zlt) (za0 (mIx (za7 1) (mC (.int 0))) (za0 (mIx (za7 0) (mC (.int 1))) za6))) za6))))
noncomputable def zh7:List T->Option Ru:=zdw 2 2 m_under
noncomputable abbrev fn_under:Fn:=⟨1,["one","other"],zh7⟩
noncomputable abbrev gx_under:Gx:=⟨[],[],[],[],false,true,true,none,[],[],[],true,[],[],[],[]⟩
noncomputable abbrev gm_under:Gm:=⟨["one","other"],(za4 zjh).names,[],0,[],[],[],[],[],false,[],[],[],gx_under⟩
theorem ck_under:dSs 200 gm_under (zab zjh)=some m_under:=by kernel_rfl
theorem un_ok{a b c d:Int}(h1:zdx a d=true)(h2:zdx c b=true):zh7 [fr a b,fr c d]=some (.ok (.bl (decide (a * d<c * b)))):=by
 unfold zh7 m_under
 simp_arith[h1,h2]
abbrev zdj:Stmt:=top 15
theorem sc_stands_so:FnScope ["value","word","number","edge","less","more"] ["value","word","number"] (za4 zdj):=⟨rfl,rfl,rfl,by decide +kernel,rfl,by decide +kernel,by decide +kernel⟩
noncomputable def zh0:PSt->Option Out :=
 (zas (zcd (zgm (za0 (za7 2) (za0 (mC (.int 1)) za6))) (bNm 3))
 (zas (zcd (zap zh7 (za0 (za7 0) (za0 (za7 3) za6))) (bNm 4))
 (zas (zcd (zap zh7 (za0 (za7 3) (za0 (za7 0) za6))) (bNm 5))
 (zas (sIf (mAp (g2 eqT) (za0 (za7 1) (za0 (mC (.str "<")) za6))) (zd2 (za7 4)) sNx)
 (zas (sIf (mAp (g2 eqT) (za0 (za7 1) (za0 (mC (.str "<=")) za6))) (zd2 (zfc (za7 5))) sNx)
 (zas (sIf (mAp (g2 eqT) (za0 (za7 1) (za0 (mC (.str ">")) za6))) (zd2 (za7 5)) sNx)
 (zas (sIf (mAp (g2 eqT) (za0 (za7 1) (za0 (mC (.str ">=")) za6))) (zd2 (zfc (za7 4))) sNx)
 (zd2 (mAnd (zfc (za7 4)) (zfc (za7 5)))))))))))
noncomputable def zcx:List T->Option Ru:=zdw 3 6 zh0
noncomputable abbrev fn_stands_so:Fn:=⟨2,["value","word","number"],zcx⟩
noncomputable abbrev gx_stands_so:Gx:=⟨[],[],[],[],false,true,true,none,[],[],[],true,[],[],[],[]⟩
noncomputable abbrev zil:Gm:=⟨["value","word","number","edge","less","more"],(za4 zdj).names,[],1,[("under",fn_under)],[],[],[],[],false,[],[],[],gx_stands_so⟩
theorem ck_stands_so:dSs 200 zil (zab zdj)=some zh0:=by kernel_rfl
def soS(y:Str)(n t b:Int):Bool :=
 if y=Str.ofString "<" then decide (t<n * b) else if y=Str.ofString "<=" then !decide (n * b<t) else if y=Str.ofString ">" then decide (n * b<t) else if y=Str.ofString ">=" then !decide (t<n * b) else !decide (t<n * b) && !decide (n * b<t)
def wd5:List Str:=["<","<=",">",">=","="]
theorem wd5_tx:Txs wd5:=by unfold Txs;decide +kernel
theorem wd5_eq:∀x∈wd5,∀y∈wd5,eqT (.str x) (.str y)=some (.bl (decide (x=y))):=fun x hx y hy=>zkh (wd5_tx x hx) (wd5_tx y hy)
theorem so42{y:Str}(hy:y∈wd5){n t b:Int}(hb:s64 b=true):zcx [fr t b,.str y,.int n]=some (.ok (.bl (soS y n t b))):=by
 have m1:zdx t 1=true:=zi0 (zcp (by decide) (by decide))
 have m2:zdx n b=true:=zi0 hb;have u1:=un_ok (a:=t) (b:=b) (c:=n) (d:=1) m1 m2;have u3:=un_ok (a:=n) (b:=1) (c:=t) (d:=b) m2 m1;rw[Int.mul_one]at u1 u3;have e1:=wd5_eq y hy (Str.ofString "<") (by decide +kernel)
 have e2:=wd5_eq y hy (Str.ofString "<=") (by decide +kernel)
 have e3:=wd5_eq y hy (Str.ofString ">") (by decide +kernel)
 have e4:=wd5_eq y hy (Str.ofString ">=") (by decide +kernel)
 unfold soS zcx zh0;generalize decide (t<n * b)=A at *;generalize decide (n * b<t)=B at *
 by_cases q1:y=Str.ofString "<"
 ·cases A<;>cases B<;>simp_arith[e1,eq_true q1,u1,u3]
 ·by_cases q2:y=Str.ofString "<="
  ·cases A<;>cases B<;>simp_arith[e1,e2,q1,eq_true q2,u1,u3]
  ·by_cases q3:y=Str.ofString ">"
   ·cases A<;>cases B<;>simp_arith[e1,e2,e3,q1,q2,eq_true q3,u1,u3]
   ·by_cases q4:y=Str.ofString ">="
    ·cases A<;>cases B<;>simp_arith[e1,e2,e3,e4,q1,q2,q3,eq_true q4,u1,u3]
    ·cases A<;>cases B<;>simp_arith[e1,e2,e3,e4,q1,q2,q3,q4,u1,u3]
abbrev zjj:Stmt:=top 35
theorem sc_holds:FnScope ["looks","values"] ["looks","values"] (za4 zjj):=⟨rfl,rfl,rfl,by decide +kernel,rfl,by decide +kernel,by decide +kernel⟩
noncomputable def zkq:PSt->Option Rs :=
 (zap zcx (za0 (mIx (za7 3) (mAp (g2 subT) (za0 (za7 0) (za0 (mC (.int 1)) za6)))) (za0 (za7 1) (za0 (za7 2) za6))))
noncomputable def m_holds:PSt->Option Out :=
 (zd2 (mAp (g1 allT) (za0 (mLC 3 [1] (zgn (za7 0)) (zfk 3 (zai (bNm 0) (zai (bNm 1) (zai (bNm 2) zg7)))) (mC (.bl true)) zkq) za6)))
noncomputable def zig:List T->Option Ru:=zdw 2 2 m_holds
noncomputable abbrev fn_holds:Fn:=⟨3,["looks","values"],zig⟩
noncomputable abbrev gx_holds:Gx:=⟨[],[],[],[],false,true,true,none,[],[],[],true,[],[],[],[]⟩
noncomputable abbrev gm_holds:Gm:=⟨["looks","values"],(za4 zjj).names,["values"],2,[("stands_so",fn_stands_so)],["all"],[],[],[],false,[],[],[],gx_holds⟩
theorem ck_holds:dSs 200 gm_holds (zab zjj)=some m_holds:=by kernel_rfl
theorem zhu{α:Type}{p:α->Bool}:∀l:List α,zkv (l.map fun k=>.bl (p k))=some (l.map p)
 |[]=>rfl
 |a::r=>by
  rw[yaf];unfold zkv;rw[zhu r]
  rfl
theorem zkw{α:Type}(p:α->Bool)(l:List α):zb9 (l.map fun k=>T.bl (p k))=l.map fun k=>T.bl (p k):=by
 rw[zbd,ybp]
 rfl
abbrev vaT(vs:List (Int×Int)):List T:=vs.map fun v=>fr v.1 v.2
noncomputable def vaOf(ws:List Str)(vs:List (Int×Int))(x:Str):Int×Int:=vs.getD ((idxS ws x).getD 0) (0,1)
noncomputable def lkB(ws:List Str)(vs:List (Int×Int))(t:T):Bool:=soS (lkY t) (lkN t) (vaOf ws vs (lkX t)).1 (vaOf ws vs (lkX t)).2
structure VsOk(ws:List Str)(vs:List (Int×Int)):Prop where
 l:vs.length=ws.length
 b:∀v∈vs,0<v.2/\v.2<=3
theorem va_sh(vs:List (Int×Int)):shL (vaT vs)=true:=by
 rw[zb0,yag];intro t ht;obtain⟨v,_,rfl⟩:=yah.mp ht
 rfl
theorem va_at{ws:List Str}{vs:List (Int×Int)}(h:VsOk ws vs){x:Str}(hx:x∈ws):∃j:Nat,idxS ws x=some j/\j<ws.length/\atI (vaT vs) (j:Int)=some (fr (vaOf ws vs x).1 (vaOf ws vs x).2)/\s64 (vaOf ws vs x).2=true:=by
 obtain⟨j,ej,hj,_⟩:=idx_mem hx;have hv:j<vs.length:=by rw[h.l];exact hj
 have e:vaOf ws vs x=vs[j]:=by
  unfold vaOf;rw[ej,yco,ya4,ya0 hv]
  rfl
 have b:=h.b _ (yac hv);refine⟨j,ej,hj,zbr ?_,?_⟩
 ·rw[ya5,ya0 hv,e]
  rfl
 ·rw[e];exact zcp (by omega) (by omega)
theorem hd42{ws:List Str}{vs:List (Int×Int)}(h:VsOk ws vs){l:List T}(hl:Lks ws wd5 l)(hn:l.length<=1000):zig [.lst (l.map (plT ws)),.lst (vaT vs)]=some (.ok (.bl (l.all (lkB ws vs)))):=by
 have vsh:=va_sh vs
 have lc:=zfy (b:=zfk 3 (zai (bNm 0) (zai (bNm 1) (zai (bNm 2) zg7)))) (me:=zkq) (plT ws) (fun t=>.bl (lkB ws vs t)) (fun τ=>∃x y z,τ=[x,y,z,some (.lst (vaT vs))]) l [none,none,none,some (.lst (vaT vs))] ⟨none,none,none,rfl⟩ fun t ht τ hI=>by
  obtain⟨x,y,z,rfl⟩:=hI;obtain⟨k1,k2,k3,k4⟩:=lk_is (hl t ht);obtain⟨j,ej,hj,av,sb⟩:=va_at h k2;have so:=so42 k3 (n:=lkN t) (t:=(vaOf ws vs (lkX t)).1) sb;have ax:((j:Int)+1 - 1)=j:=by omega
  refine⟨[some (.int ((j:Int)+1)),some (.str (lkY t)),some (.int (lkN t)),some (.lst (vaT vs))],by unfold plT;rw[ej];simp_arith[yco],?_,_,_,_,rfl⟩
  unfold zkq lkB
  simp_arith[ax,av,so,vsh]
 have l1:l.length<=100000:=by omega
 have ps:=plS42 ws l;have ba:=zhu (p:=lkB ws vs) l;have ea:(l.map (lkB ws vs)).all id=l.all (lkB ws vs):=by rw[yde];rfl
 unfold zig m_holds
 simp_arith[ps,za1 _ ps,vsh,za1 _ vsh,ya1,l1,lc,zkw,ba,ea]
abbrev zji:Stmt:=top 39
theorem sc_meets:FnScope ["machine","goal","stand","marks"] ["machine","goal","stand"] (za4 zji):=⟨rfl,rfl,rfl,by decide +kernel,rfl,by decide +kernel,by decide +kernel⟩
noncomputable def zkp:PSt->Option Rs :=
 (mAnd (mAp (g2 eqT) (za0 (za7 0) (za0 (mIx (za7 2) (mC (.int 0))) za6))) (zap zig (za0 (za7 1) (za0 (mIx (za7 2) (mC (.int 1))) za6))))
noncomputable def m_meets:PSt->Option Out :=
 (zas (zcd (zap zav (za0 (za7 0) (za0 (za7 1) za6))) (bNm 3))
 (zd2 (mAp (g1 anyT) (za0 (mLC 2 [2] (zgn (za7 3)) (zfk 2 (zai (bNm 0) (zai (bNm 1) zg7))) (mC (.bl true)) zkp) za6))))
noncomputable def zf8:List T->Option Ru:=zdw 3 4 m_meets
noncomputable abbrev fn_meets:Fn:=⟨8,["machine","goal","stand"],zf8⟩
noncomputable abbrev gx_meets:Gx:=⟨[],[],[],[],false,true,true,none,[],[],[],true,[],[],[],[]⟩
noncomputable abbrev gm_meets:Gm:=⟨["machine","goal","stand","marks"],(za4 zji).names,["stand"],7,[("placed_goal",zlb),("holds",fn_holds)],["any"],[],[],[],false,[],[],[],gx_meets⟩
theorem ck_meets:dSs 200 gm_meets (zab zji)=some m_meets:=by kernel_rfl
noncomputable def mtB(ws:List Str)(vs:List (Int×Int))(room:Str)(gl:List (Str×List T)):Bool:=gl.any fun g=>decide (g.1=room) && g.2.all (lkB ws vs)
theorem mt_ok{M:Mc}(h:McOk M){gl:List (Str×List T)}(hg:Gls M.ws (M.rs.map (·.1)) gl)(hn:gl.length<=1000){vs:List (Int×Int)}(hv:VsOk M.ws vs){room:Str}(hr:room∈M.rs.map (·.1)):zf8 [zgz M,.lst (gl.map zba),.tup [.str room,.lst (vaT vs)]]=some (.ok (.bl (mtB M.ws vs room gl))):=by
 have gs:=hg.sh;have vsh:=va_sh vs;have pg:=pg_ok h hg hn
 have lc:=zfy (b:=zfk 2 (zai (bNm 0) (zai (bNm 1) zg7))) (me:=zkp) (fun g:Str×List T=>.tup [.str g.1,.lst (g.2.map (plT M.ws))]) (fun g=>.bl (decide (g.1=room) && g.2.all (lkB M.ws vs))) (fun τ=>∃x y,τ=[x,y,some (.tup [.str room,.lst (vaT vs)])]) gl [none,none,some (.tup [.str room,.lst (vaT vs)])] ⟨none,none,rfl⟩ fun g hm τ hI=>by
  obtain⟨x,y,rfl⟩:=hI;obtain⟨g1,g2,g3⟩:=hg g hm;have e:=zkh (h.tn _ g1) (h.tn _ hr);have hd:=hd42 hv (l:=g.2) g2 (by omega)
  have ps:=plS42 M.ws g.2;refine⟨[some (.str g.1),some (.lst (g.2.map (plT M.ws))),some (.tup [.str room,.lst (vaT vs)])],by simp_arith[],?_,_,_,rfl⟩
  unfold zkp;cases q:decide (g.1=room) with
  |false =>
   rw[q]at e
   simp_arith[e,vsh]
  |true =>
   rw[q]at e
   simp_arith[e,vsh,za1 _ vsh,ps,za1 _ ps,hd]
 have sg:shL (gl.map fun g=>T.tup [.str g.1,.lst (g.2.map (plT M.ws))])=true:=by
  rw[zb0,yag];intro t ht;obtain⟨g,_,rfl⟩:=yah.mp ht
  simp_arith[plS42]
 have l1:gl.length<=100000:=by omega
 have ba:=zhu (p:=fun g:Str×List T=>decide (g.1=room) && g.2.all (lkB M.ws vs)) gl
 have bs:=zkw (fun g:Str×List T=>decide (g.1=room) && g.2.all (lkB M.ws vs)) gl
 have ea:(gl.map fun g=>decide (g.1=room) && g.2.all (lkB M.ws vs)).any id=mtB M.ws vs room gl:=by rw[List.any_map];rfl
 unfold zf8 m_meets
 simp_arith[za5,za9,h.ss,h.sd,za1 _ h.ss,za1 _ h.sd,gs,za1 _ gs,vsh,za1 _ vsh,pg,sg,za1 _ sg,ya1,l1,lc,bs,ba,ea]
theorem mt_no{M:Mc}(h:McOk M){t u:T}(ht:t.sh=true)(hu:u.sh=true)(hb:zav [zgz M,t]=some (.exc "NoMark")):zf8 [zgz M,t,u]=some (.exc "NoMark"):=by
 unfold zf8 m_meets
 simp_arith[za5,za9,h.ss,h.sd,za1 _ h.ss,za1 _ h.sd,ht,hu,zat _ ht,zat _ hu,hb]
abbrev zek:Stmt:=top 55
theorem sc_Lrefused:FnScope ["_law_machine_here","_law_goal_here","_law_stand","_law_found"] ["_law_machine_here","_law_goal_here","_law_stand"] (za4 zek):=⟨rfl,rfl,rfl,by decide +kernel,rfl,by decide +kernel,by decide +kernel⟩
noncomputable def zi3:PSt->Option Out :=
 (zas (zcd (mC (.bl false)) (bNm 3))
 (zas (sTry0 zfl (sExp (zap zf8 (za0 (za7 0) (za0 (za7 1) (za0 (za7 2) za6))))) (zas (zcd (mC (.bl true)) (bNm 3)) sNx))
 (zd2 (za7 3))))
noncomputable def zdf:List T->Option Ru:=zdw 3 4 zi3
noncomputable abbrev fn_Lrefused:Fn:=⟨9,["_law_machine_here","_law_goal_here","_law_stand"],zdf⟩
noncomputable abbrev gx_Lrefused:Gx:=⟨[],[],[],[],false,true,true,none,[("NoMark",zfl)],[],[],true,[],[],[],[]⟩
noncomputable abbrev zka:Gm:=⟨["_law_machine_here","_law_goal_here","_law_stand","_law_found"],(za4 zek).names,[],8,[("meets",fn_meets)],[],[],[],[],false,[],[],[],gx_Lrefused⟩
theorem ck_Lrefused:dSs 200 zka (zab zek)=some zi3:=by kernel_rfl
theorem ref_ok42{M:Mc}(h:McOk M){t u:T}(ht:t.sh=true)(hu:u.sh=true)(hb:zav [zgz M,t]=some (.exc "NoMark")):zdf [zgz M,t,u]=some (.ok (.bl true)):=by
 have mt:=mt_no h ht hu hb;have x0:zfl.lookup (Str.ofString "NoMark")=some ((zfl.lookup (Str.ofString "NoMark")).getD 0):=by decide +kernel
 generalize (zfl.lookup (Str.ofString "NoMark")).getD 0=C at x0;unfold zdf zi3
 simp_arith[za5,za9,h.ss,h.sd,za1 _ h.ss,za1 _ h.sd,ht,hu,zat _ ht,zat _ hu,mt,x0]
abbrev zft:Stmt:=top 51
theorem sc_Llowest:FnScope ["_law_top","_law_bottom","_law_one","_law_other"] ["_law_top","_law_bottom"] (za4 zft):=⟨rfl,rfl,rfl,by decide +kernel,rfl,by decide +kernel,by decide +kernel⟩
noncomputable def zcr:PSt->Option Rs :=
 (mAp (g2 neT) (za0 (za7 3) (za0 (mC (.int 0)) za6)))
noncomputable def zgw:PSt->Option Out :=
 (sPar 2 3 (za0 (za7 3) (za0 (mAp (g2 zen) (za0 (za7 2) (za0 (za7 3) za6))) za6)))
noncomputable def zju:PSt->Option Out :=
 (zas (sPar 2 3 (za0 (za7 0) (za0 (za7 1) za6)))
 (zas (sWh zcr zgw)
 (zd2 (zgm (za0 (mAp (g2 zd6) (za0 (za7 0) (za0 (za7 2) za6))) (za0 (mAp (g2 zd6) (za0 (za7 1) (za0 (za7 2) za6))) za6))))))
noncomputable def zep:List T->Option Ru:=zdw 2 4 zju
noncomputable abbrev fn_Llowest:Fn:=⟨1,["_law_top","_law_bottom"],zep⟩
noncomputable abbrev gx_Llowest:Gx:=⟨[],[],[],[],false,true,true,none,[],[],[],true,[],[],[],[]⟩
noncomputable abbrev zm4:Gm:=⟨["_law_top","_law_bottom","_law_one","_law_other"],(za4 zft).names,[],0,[],[],[],[],[],false,[],[],[],gx_Llowest⟩
theorem ck_Llowest:dSs 200 zm4 (zab zft)=some zju:=by kernel_rfl
theorem low_ok{t b:Int}(ht:0<=t)(hb:0<b)(hs:b<10 ^ 70):zep [.int t,.int b]=some (.ok (fr (Zm.lt t b) (Zm.lb t b))):=by
 have loop:=sWh_inv (mc:=zcr) (body:=zgw)
  (τ:=[some (.int t),some (.int b),some (.int t),some (.int b)])
  (fun τ=>∃(g l:Int),τ=[some (.int t),some (.int b),some (.int g),some (.int l)]/\Zm.gd g l=Zm.gd t b/\0<=g/\0<=l)
  (fun τ=>match τ with|[_,_,_,some (.int l)]=>l.natAbs|_=>0)
  ⟨_,_,rfl,rfl,ht,Int.le_of_lt hb⟩ (by
   rintro τ ⟨g,l,rfl,e,g0,l0⟩
   by_cases h0:l=0
   ·right;exact⟨false,by unfold zcr;simp_arith[zfv,h0]⟩
   ·left;exact⟨false,by unfold zcr;simp_arith[zfv];simp[h0],[some (.int t),some (.int b),some (.int l),some (.int (g.fmod l))],by unfold zgw;simp_arith[h0],⟨_,_,rfl,Zm.gd_turn e,l0,by rw[fm (j:=l) (by omega)];exact yc9 _ h0⟩,Zm.fmod_less g h0⟩)
 obtain⟨τ',e1,⟨g,l,rfl,e,gn,ln⟩,bb,e2⟩:=loop
 have hl0:l=0:=by
  have e3:zcr [some (.int t),some (.int b),some (.int g),some (.int l)]=some (.v (.bl (!(l == 0))) false):=by unfold zcr;simp_arith[zfv]
  rw[e3]at e2;exact(by simpa using e2:l=0/\bb=false).1
 have eg:=Zm.gd_end e hl0;rw[if_neg (by omega)]at eg
 have g0:0<Zm.gd t b:=Zm.gd_pos (by omega)
 have g1:Zm.gd t b<=b:=Zm.gd_le hb;have gs:s70 (Zm.gd t b)=true:=zbv (by omega (config:={})) (by omega (config:={}))
 have n2:(Zm.gd t b≠0)=True:=by simp;omega
 unfold zep zju
 simp_arith[e1,eg,gs,n2]
 simp only[Zm.lt,Zm.lb]
abbrev zhd:Stmt:=top 52
theorem sc_Lvalue:FnScope ["_law_cell","_law_goal_here","_law_xs","_law_numbers","_law_number_here","_law_top","_law_room","_law_guard_here"] ["_law_cell","_law_goal_here"] (za4 zhd):=⟨rfl,rfl,rfl,by decide +kernel,rfl,by decide +kernel,by decide +kernel⟩
noncomputable def zie:PSt->Option Rs :=
 (za7 2)
noncomputable def zee:PSt->Option Out :=
 (zcd (mAp (g2 zeq) (za0 (za7 3) (za0 (mLC 3 [] (zgn (za7 7)) (zfk 3 (zai (bNm 0) (zai (bNm 1) (zai (bNm 2) zg7)))) (mC (.bl true)) zie) za6))) (bNm 3))
noncomputable def m_Lvalue:PSt->Option Out :=
 (zas (zcd (zap zbb (za0 (za7 0) (za0 (mC (.int 3)) za6))) (bNm 2))
 (zas (zcd (zfi (zac (mC (.int 0)) (zac (mC (.int 1)) (zac (mAp (g2 zen) (za0 (mIx (za7 2) (mC (.int 2))) (za0 (mAp (g2 powT) (za0 (mC (.int 10)) (za0 (mC (.int 9)) za6))) za6))) za6)))) (bNm 3))
 (zas (sFor (zgn (za7 1)) (zfk 2 (zai (bNm 6) (zai (bNm 7) zg7))) zee)
 (zas (zcd (mIx (za7 3) (mAp (g2 zen) (za0 (mIx (za7 2) (mC (.int 0))) (za0 (mAp (g1 zik) (za0 (za7 3) za6)) za6)))) (bNm 4))
 (zas (zcd (mAp (g2 zeq) (za0 (mAp (g2 zlt) (za0 (mC (.int 3)) (za0 (za7 4) za6))) (za0 (mIx (zfi (zac (mC (.int 0)) (zac (mC (.int 0)) (zac (mC (.int 1)) (zac (mAp (g1 negT) (za0 (mC (.int 1)) za6)) (zac (mC (.int 3)) (zac (mAp (g1 negT) (za0 (mC (.int 3)) za6)) za6))))))) (mAp (g2 zen) (za0 (mIx (za7 2) (mC (.int 1))) (za0 (mC (.int 6)) za6)))) za6))) (bNm 5))
 (zd2 (zap zep (za0 (mAp gMx (za0 (mC (.int 0)) (za0 (za7 5) za6))) (za0 (mC (.int 3)) za6)))))))))
noncomputable def zgl:List T->Option Ru:=zdw 2 8 m_Lvalue
noncomputable abbrev fn_Lvalue:Fn:=⟨2,["_law_cell","_law_goal_here"],zgl⟩
noncomputable abbrev gx_Lvalue:Gx:=⟨[],[],[],[],false,true,true,none,[],[],[],true,[],[],[],[]⟩
noncomputable abbrev gm_Lvalue:Gm:=⟨["_law_cell","_law_goal_here","_law_xs","_law_numbers","_law_number_here","_law_top","_law_room","_law_guard_here"],(za4 zhd).names,[],1,[("_law_stream",zgj),("_law_lowest",fn_Llowest)],["len","max"],[],[],[],false,[],[],[],gx_Lvalue⟩
theorem ck_Lvalue:dSs 200 gm_Lvalue (zab zhd)=some m_Lvalue:=by kernel_rfl
theorem nums_lk{ws wd:List Str}{l:List T}(h:Lks ws wd l):zk0 (zfk 3 (zai (bNm 0) (zai (bNm 1) (zai (bNm 2) zg7)))) (mC (.bl true)) zie l [none,none,none]=some ((l.map lkN).map T.int):=by
 have lc:=zfy (b:=zfk 3 (zai (bNm 0) (zai (bNm 1) (zai (bNm 2) zg7)))) (me:=zie) (fun t:T=>t) (fun t=>.int (lkN t)) (fun τ=>∃x y z,τ=[x,y,z]) l [none,none,none] ⟨none,none,none,rfl⟩ fun t ht τ hI=>by
  obtain⟨x,y,z,rfl⟩:=hI;obtain⟨k1,_⟩:=lk_is (h t ht);exact⟨[some (.str (lkX t)),some (.str (lkY t)),some (.int (lkN t))],by rw[k1];simp_arith[lkX,lkY,lkN],rfl,_,_,_,rfl⟩
 rw[List.map_id']at lc;rw[lc,ybp]
 rfl
theorem va_loop{ws rn:List Str}{a0 a1 a2 a4 a5:Option T}:∀(gl:List (Str×List T)) (is:List Int) (x6 x7:Option T),Gls ws rn gl->is.length+2 * gl.length<=10000->∃is':List Int,∃y6 y7,zf3 (zfk 2 (zai (bNm 6) (zai (bNm 7) zg7))) zee (gl.map zba) [a0,a1,a2,some (.lst (is.map T.int)),a4,a5,x6,x7]=some (.nx [a0,a1,a2,some (.lst (is'.map T.int)),a4,a5,y6,y7])/\is.length<=is'.length/\is'.length<=10000
 |[],is,x6,x7,_,hn=>⟨is,x6,x7,rfl,yaa _,by omega⟩
 |g::gl,is,x6,x7,hg,hn=>by
  obtain⟨g1,g2,g3⟩:=hg g (ya9 ..);rw[yax]at hn;obtain⟨is',y6,y7,e,h1,h2⟩:=va_loop (a0:=a0) (a1:=a1) (a2:=a2) (a4:=a4) (a5:=a5) gl (is++g.2.map lkN) (some (.str g.1)) (some (.lst g.2)) (fun u hu=>hg u (ya8 _ hu)) (by rw[yaq,ya1];omega)
  rw[yaq,ya1]at h1;refine⟨is',y6,y7,?_,by omega,h2⟩
  have lc:=nums_lk g2;have ks:=g2.sh;have l1:g.2.length<=100000:=by omega
  have l2:is.length+g.2.length<=100000:=by omega
  have sa:zb9 (is.map T.int++(g.2.map lkN).map T.int)=is.map T.int++(g.2.map lkN).map T.int:=by rw[<- yb9,zbc]
  have w:zee [a0,a1,a2,some (.lst (is.map T.int)),a4,a5,some (.str g.1),some (.lst g.2)]=some (.nx [a0,a1,a2,some (.lst ((is++g.2.map lkN).map T.int)),a4,a5,some (.str g.1),some (.lst g.2)]):=by
   unfold zee;rw[yb9]
   simp_arith[ks,za1 _ ks,zbc,zes,l1,lc,ya1,l2,sa]
  rw[yaf]
  conv=>lhs;unfold zf3
  simp_arith[w]
  exact e
theorem value_ex{ws rn:List Str}{gl:List (Str×List T)}(hg:Gls ws rn gl)(hn:gl.length<=63)(c:Int):∃v:Int×Int,zgl [.int c,.lst (gl.map zba)]=some (.ok (fr v.1 v.2))/\0<v.2/\v.2<=3:=by
 have sg:=hg.sh;have esg:=za1 _ sg;obtain⟨xs,es⟩:=st_ex c (m:=3) (by decide)
 have es':zbb [.int c,.int 3]=some (.ok (.own (mT 3 fun i=>.int (xs i)))):=es
 have x3:∀k:Nat,k<3->atI (mT 3 fun i=>T.int (xs i)) (k:Int)=some (.int (xs k)):=fun k hk=>zgo hk
 have b0:atI (mT 3 fun i=>T.int (xs i)) 0=some (.int (xs 0)):=x3 0 (by decide)
 have b1:atI (mT 3 fun i=>T.int (xs i)) 1=some (.int (xs 1)):=x3 1 (by decide)
 have b2:atI (mT 3 fun i=>T.int (xs i)) 2=some (.int (xs 2)):=x3 2 (by decide)
 obtain⟨is,y6,y7,e,h1,h2⟩:=va_loop (a0:=some (.int c)) (a1:=some (.lst (gl.map zba))) (a2:=some (.lst (mT 3 fun i=>.int (xs i)))) (a4:=none) (a5:=none) gl [0,1,(xs 2).fmod (10 ^ 9)] none none hg (by simp;omega)
 have e':zf3 (zfk 2 (zai (bNm 6) (zai (bNm 7) zg7))) zee (gl.map zba) [some (.int c),some (.lst (gl.map zba)),some (.lst (mT 3 fun i=>.int (xs i))),some (.lst [.int 0,.int 1,.int ((xs 2).fmod (10 ^ 9))]),none,none,none,none]=some (.nx [some (.int c),some (.lst (gl.map zba)),some (.lst (mT 3 fun i=>.int (xs i))),some (.lst (is.map T.int)),none,none,y6,y7]):=e
 have hi1:1<=is.length:=by
  have:3<=is.length:=h1
  omega
 have hm:=zfw (xs 0) hi1;have hmi:((xs 0).fmod is.length).toNat<is.length:=by omega
 have ai:atI (is.map T.int) ((xs 0).fmod is.length)=some (.int is[((xs 0).fmod is.length).toNat]):=zkx hm.1 (by rw[ya5,ya0 hmi];rfl)
 generalize is[((xs 0).fmod is.length).toNat]=n at ai;have ni:((is.length:Int)=0)=False:=eq_false (by omega)
 have m3:zdx 3 n=true:=zjs (zcp (by decide) (by decide))
 have q6:(xs 1).fmod 6=0\/(xs 1).fmod 6=1\/(xs 1).fmod 6=2\/(xs 1).fmod 6=3\/(xs 1).fmod 6=4\/(xs 1).fmod 6=5:=by
  rw[fm (j:=6) (by decide)]
  omega
 have a3:∀{x y z v:T} {l:List T},atI (x::y::z::v::l) (3:Int)=some v:=by
  intro x y z v l;have:atI (x::y::z::v::l) ((3:Nat):Int)=some v:=zbr rfl;exact this
 have a4:∀{x y z v w:T} {l:List T},atI (x::y::z::v::w::l) (4:Int)=some w:=by
  intro x y z v w l;have:atI (x::y::z::v::w::l) ((4:Nat):Int)=some w:=zbr rfl;exact this
 have a5:∀{x y z v w t:T} {l:List T},atI (x::y::z::v::w::t::l) (5:Int)=some t:=by
  intro x y z v w t l;have:atI (x::y::z::v::w::t::l) ((5:Nat):Int)=some t:=zbr rfl;exact this
 have ed:∃d:Int,atI [T.int 0,.int 0,.int 1,.int (-1),.int 3,.int (-3)] ((xs 1).fmod 6)=some (.int d):=by
  rcases q6 with p|p|p|p|p|p<;>rw[p]
  ·exact⟨_,at0⟩
  ·exact⟨_,at1⟩
  ·exact⟨_,at2⟩
  ·exact⟨_,a3⟩
  ·exact⟨_,a4⟩
  ·exact⟨_,a5⟩
 obtain⟨d,ed⟩:=ed;have lo:=low_ok (t:=if 3 * n+d > 0 then 3 * n+d else 0) (b:=3) (by split<;>omega) (by decide) (by decide)
 have z9:((10:Int) ^ (9:Int).toNat)=10 ^ 9:=rfl;have t9:(0:Int)<=9/\(9:Int)<=1000000/\s64 10=true:=⟨by decide,by decide,zcp (by decide) (by decide)⟩
 have n9:((10:Int) ^ 9=0)=False:=eq_false (by decide)
 have lb:0<Zm.lb (if 3 * n+d > 0 then 3 * n+d else 0) 3/\Zm.lb (if 3 * n+d > 0 then 3 * n+d else 0) 3<=3:=⟨Zm.lb_pos (by decide),Zm.lb_le (by decide)⟩
 refine⟨(Zm.lt (if 3 * n+d > 0 then 3 * n+d else 0) 3,Zm.lb (if 3 * n+d > 0 then 3 * n+d else 0) 3),?_,lb.1,lb.2⟩
 unfold zgl m_Lvalue
 simp_arith[sg,esg,es',b0,b1,b2,z9,t9,n9,e',ya1,zbc,zes,ni,ai,m3,ed,negT,lo]
abbrev zfr:Stmt:=top 54
theorem sc_Lspoilt:FnScope ["_law_goal_here","_law_cell","_law_spec","_law_bad","_law_at","_law_watches","_law_rooms","_law_doors"] ["_law_goal_here","_law_cell","_law_spec"] (za4 zfr):=⟨rfl,rfl,rfl,by decide +kernel,rfl,by decide +kernel,by decide +kernel⟩
noncomputable def zks:PSt->Option Rs :=
 (zgm (za0 (mIx (mIx (za7 1) (mAp (g1 negT) (za0 (mC (.int 1)) za6))) (mC (.int 0))) (za0 (zfi (zac (zgm (za0 (mIx (za7 2) (mC (.int 0))) (za0 (za7 0) (za0 (mC (.int 1)) za6)))) za6)) za6)))
noncomputable def zkr:PSt->Option Rs :=
 (zgm (za0 (mIx (mIx (za7 1) (mAp (g1 negT) (za0 (mC (.int 1)) za6))) (mC (.int 0))) (za0 (zfi (zac (zgm (za0 (mIx (za7 2) (mC (.int 0))) (za0 (mC (.str ">")) (za0 (za7 0) za6)))) za6)) za6)))
noncomputable def zhk:PSt->Option Out :=
 (zas (zcd (za7 2) (zfk 3 (zai (bNm 5) (zai (bNm 6) (zai (bNm 7) zg7)))))
 (zas (zcd (zfi (zac (zgm (za0 (mAp (g2 zeq) (za0 (mIx (mIx (za7 6) (mC (.int 0))) (mC (.int 0))) (za0 (mC (.str "x")) za6))) (za0 (zfi za6) za6))) (zac (zgm (za0 (mC (.str "")) (za0 (zfi za6) za6))) (zac (zgm (za0 (mIx (mIx (za7 6) (mC (.int 0))) (mC (.int 0))) (za0 (zfi (zac (zgm (za0 (mC (.str "")) (za0 (mC (.str "<")) (za0 (mC (.int 1)) za6)))) za6)) za6))) (zac (zgm (za0 (mIx (mIx (za7 6) (mC (.int 0))) (mC (.int 0))) (za0 (zfi (zac (zgm (za0 (mC (.str "aaaaaaaaa")) (za0 (mC (.str "<")) (za0 (mC (.int 1)) za6)))) za6)) za6))) za6))))) (bNm 3))
 (zas (sIf (mAp (g2 neT) (za0 (za7 5) (za0 (zfi za6) za6))) (zas (zcd (mAp (g2 zeq) (za0 (za7 3) (za0 (mLC 1 [6,5] (zgn (zfi (zac (mC (.str "==")) (zac (mC (.str "")) (zac (mC (.str "=<")) (zac (mC (.str "!")) za6)))))) (bNm 0) (mC (.bl true)) zks) za6))) (bNm 3))
 (zcd (mAp (g2 zeq) (za0 (za7 3) (za0 (mLC 1 [6,5] (zgn (zfi (zac (mAp (g1 negT) (za0 (mC (.int 1)) za6)) (zac (mC (.bl true)) (zac (mC .non) (zac (mC (.str "1")) za6)))))) (bNm 0) (mC (.bl true)) zkr) za6))) (bNm 3))) sNx)
 (zas (zcd (mAp (g2 zen) (za0 (mAp (g2 zd6) (za0 (za7 1) (za0 (mC (.int 20)) za6))) (za0 (mAp (g2 zeq) (za0 (mAp (g1 zik) (za0 (za7 0) za6)) (za0 (mC (.int 1)) za6))) za6))) (bNm 4))
 (zd2 (mAp (g2 zeq) (za0 (mAp (g2 zeq) (za0 (mAlt (mSl (za7 0) none (some (za7 4))) (mSlT (za7 0) none (some (za7 4)))) (za0 (zfi (zac (mIx (za7 3) (mAp (g2 zen) (za0 (za7 1) (za0 (mAp (g1 zik) (za0 (za7 3) za6)) za6)))) za6)) za6))) (za0 (mAlt (mSl (za7 0) (some (za7 4)) none) (mSlT (za7 0) (some (za7 4)) none)) za6))))))))
noncomputable def zdu:List T->Option Ru:=zdw 3 8 zhk
noncomputable abbrev fn_Lspoilt:Fn:=⟨1,["_law_goal_here","_law_cell","_law_spec"],zdu⟩
noncomputable abbrev gx_Lspoilt:Gx:=⟨[],[],[],[],false,true,true,none,[],[],[],true,[],[],[],[]⟩
noncomputable abbrev zm2:Gm:=⟨["_law_goal_here","_law_cell","_law_spec","_law_bad","_law_at","_law_watches","_law_rooms","_law_doors"],(za4 zfr).names,["_law_watches","_law_rooms"],0,[],["len"],[],[],[],false,[],[],[],gx_Lspoilt⟩
theorem ck_Lspoilt:dSs 200 zm2 (zab zfr)=some zhk:=by kernel_rfl
theorem cut_to41{α:Type}(l:List α){k:Nat}(h:k<=l.length):zhr l none (some (k:Int))=l.take k:=by
 unfold zhr;rw[HT.sIx_none,HT.sIx_nat,Nat.min_eq_left h]
 rfl
theorem cut_from41{α:Type}(l:List α){k:Nat}(h:k<=l.length):zhr l (some (k:Int)) none=l.drop k:=by
 unfold zhr;rw[HT.sIx_none,HT.sIx_nat,Nat.min_eq_left h];exact List.take_of_length_le (by rw[ybx];omega)
theorem bad_gd{ws:List Str}(h:Txs ws){x y:Str}(hx:PyData.strOk x=true)(hy:PyData.strOk y=true){t:T}(ht:t.sh=true){b:Bool}(hn:zb7 [t]=some (.ok (.bl b)))(hf:(decide (x∈ws) && (decide (y∈wdS) && b))=false):zb3 [.lst [.tup [.str x,.str y,t]],.lst (ws.map T.str),zc2]=some (.ok (.bl false)):=by
 have e:=look_ok h hx hy ht hn;rw[hf]at e;have g:=guard_list (ws:=ws) (n:=1) (g:=fun _=>.tup [.str x,.str y,t]) (p:=fun _=>false) (by decide) (fun _=>by simp_arith[ht]) fun _ _=>e
 exact g
theorem spoilt_ex{M:Mc}(h:McOk M){dd:List Sd}(sd:shL (dd.map sdT)=true){gl:List (Str×List T)}(gs:shL (gl.map zba)=true)(hn:gl.length<=63)(c:Int)
  (hx:PyData.strOk ((M.rs.getD 0 (Str.empty,[])).1++Str.ofString "x")=true) (nx:(M.rs.getD 0 (Str.empty,[])).1++Str.ofString "x"∉M.rs.map (·.1)) (lx:(M.rs.getD 0 (Str.empty,[])).1.length+(Str.ofString "x").length<=100000):∃t k,zdu [.lst (gl.map zba),.int c,spT M.ws M.rs dd]=some (.ok (.own ((gl.take k).map zba++t::(gl.drop k).map zba)))/\t.sh=true/\zal [zgz M,.lst ((M.rs.map (·.1)).map T.str),t]=some (.exc "NoMark"):=by
 have hr1:=h.r.l1;have sr:=rom_sh h.r;have er:=za1 _ sr;have ed:=za1 _ sd;have r0:atI (M.rs.map zba) 0=some (.tup [.str (M.rs.getD 0 (Str.empty,[])).1,.lst (M.rs.getD 0 (Str.empty,[])).2]):=rom_at (rs:=M.rs) (i:=0) (by omega)
 have m0:(M.rs.getD 0 (Str.empty,[])).1∈M.rs.map (·.1):=by
  rw[ya4,ya0 (by omega)]
  exact yay (f:=fun z:Str×List T=>z.1) (yac (l:=M.rs) (n:=0) (by omega))
 have rz:atI (M.rs.map zba) (-1)=some (.tup [.str (M.rs.getD (M.rs.length - 1) (Str.empty,[])).1,.lst (M.rs.getD (M.rs.length - 1) (Str.empty,[])).2]):=by
  have ix:ixN (M.rs.map zba).length (-1)=some (M.rs.length - 1):=by
   unfold ixN;rw[ya1];simp
   omega
  unfold atI;rw[ix];show(M.rs.map zba)[M.rs.length - 1]?=_;rw[ya5,ya4,ya0 (by omega)]
  rfl
 have mz:(M.rs.getD (M.rs.length - 1) (Str.empty,[])).1∈M.rs.map (·.1):=by
  rw[ya4,ya0 (by omega)]
  exact yay (f:=fun z:Str×List T=>z.1) (yac (l:=M.rs) (n:=M.rs.length - 1) (by omega))
 have sz:shL (M.rs.getD (M.rs.length - 1) (Str.empty,[])).2=true:=by
  rw[ya4,ya0 (by omega)]
  exact(h.r.lk _ (yac _)).1.sh
 have s0:shL (M.rs.getD 0 (Str.empty,[])).2=true:=by
  rw[ya4,ya0 (by omega)]
  exact(h.r.lk _ (yac _)).1.sh
 generalize (M.rs.getD 0 (Str.empty,[])).1=r at r0 m0 hx nx lx;generalize (M.rs.getD 0 (Str.empty,[])).2=rl at r0 s0;generalize (M.rs.getD (M.rs.length - 1) (Str.empty,[])).1=z at rz mz;generalize (M.rs.getD (M.rs.length - 1) (Str.empty,[])).2=zl at rz sz
 have noW:∀{x:Str},(x.cps.size=0\/x.cps.size=9)->x∉M.ws:=fun {x} hs hm=>by
  rcases h.w x hm with e|⟨_,e1,e2⟩
  ·have e1:(Str.ofString "/").cps.size=1:=by decide +kernel
   have:x.cps.size=1:=by rw[e];exact e1
   omega
  ·omega
 have noR:(Str.ofString "")∉M.rs.map (·.1):=fun hm=>by
  obtain⟨q,hq,e⟩:=yah.mp hm;have h1:=(h.r.nm q hq).2.1;rw[e]at h1;have:(Str.ofString "").cps.size=0:=by decide +kernel
  omega
 have o0:PyData.strOk (Str.ofString "")=true:=by decide +kernel
 have o9:PyData.strOk (Str.ofString "aaaaaaaaa")=true:=by decide +kernel
 have oL:PyData.strOk (Str.ofString "<")=true:=by decide +kernel
 have n1:=num_int 1;have n2:=num_int (-1);have oS:=fun {z:Str} (hz:z∈M.ws)=>h.tw z hz
 let P:T->Prop:=fun t=>t.sh=true/\zal [zgz M,.lst ((M.rs.map (·.1)).map T.str),t]=some (.exc "NoMark")
 have p1:P (.tup [.str (r++Str.ofString "x"),.lst []]):=⟨rfl,pm_room h hx nx rfl⟩;have p2:P (.tup [.str (Str.ofString ""),.lst []]):=⟨rfl,pm_room h o0 noR rfl⟩;have p3:P (.tup [.str r,.lst [.tup [.str (Str.ofString ""),.str (Str.ofString "<"),.int 1]]]):=⟨rfl,zj7 h m0 rfl (bad_gd h.tw o0 oL rfl n1 (by rw[decide_eq_false (noW (.inl (by decide +kernel)))];rfl))⟩
 have p4:P (.tup [.str r,.lst [.tup [.str (Str.ofString "aaaaaaaaa"),.str (Str.ofString "<"),.int 1]]]):=⟨rfl,zj7 h m0 rfl (bad_gd h.tw o9 oL rfl n1 (by rw[decide_eq_false (noW (.inr (by decide +kernel)))];rfl))⟩
 have hk:∃k:Nat,k<=gl.length/\(c.fdiv 20).fmod ((gl.length:Int)+1)=(k:Int):=by
  have:=zfw (c.fdiv 20) (n:=gl.length+1) (by omega)
  exact⟨((c.fdiv 20).fmod ((gl.length:Int)+1)).toNat,by omega,by omega⟩
 obtain⟨k,k1,ek⟩:=hk;have ct:zhr (gl.map zba) none (some (k:Int))=(gl.take k).map zba:=by rw[cut_map,cut_to41 _ k1]
 have cf:zhr (gl.map zba) (some (k:Int)) none=(gl.drop k).map zba:=by rw[cut_map,cut_from41 _ k1]
 have s20:s70 20=true:=zbv (by decide) (by decide)
 have nk:((gl.length:Int)+1=0)=False:=eq_false (by omega)
 have en:=zgy h.tw;have er0:=za1 _ gs
 have pick:∀(B:List T) (n:Int),(B.length:Int)=n->1<=B.length->(∀t∈B,P t)->∃t,atI B (c.fmod n)=some t/\P t:=fun B n e h1 hB=>by
  subst e;have hm:=zfw c h1;have hi:(c.fmod (B.length:Int)).toNat<B.length:=by omega
  exact⟨_,zkx hm.1 (ya0 hi),hB _ (yac hi)⟩
 have lt1:(gl.take k).length<=gl.length:=by rw[yb6];omega
 have ld1:(gl.drop k).length<=gl.length:=by rw[ybx];omega
 have la:(gl.take k).length+1<=100000:=by omega
 have lb:(gl.take k).length+1+(gl.drop k).length<=100000:=by omega
 have st:shL ((gl.take k).map zba)=true:=by
  rw[zb0,yag]at gs ⊢;intro t ht;obtain⟨g,hg,rfl⟩:=yah.mp ht;exact gs _ (yay (List.mem_of_mem_take hg))
 have sf:shL ((gl.drop k).map zba)=true:=by
  rw[zb0,yag]at gs ⊢;intro t ht;obtain⟨g,hg,rfl⟩:=yah.mp ht;exact gs _ (yay (List.mem_of_mem_drop hg))
 have sta:∀t:T,t.sh=true->shL ((gl.take k).map zba++[t])=true:=fun t ht=>by
  rw[zb0]at st ⊢;rw[List.all_append,st,List.all_cons,ht]
  rfl
 have nl12:((12:Nat):Int)=12:=rfl;cases hws:M.ws with
 |nil =>
  rw[hws,ycx]at en;obtain⟨t,et,pt⟩:=pick [.tup [.str (r++Str.ofString "x"),.lst []],.tup [.str (Str.ofString ""),.lst []],.tup [.str r,.lst [.tup [.str (Str.ofString ""),.str (Str.ofString "<"),.int 1]]],.tup [.str r,.lst [.tup [.str (Str.ofString "aaaaaaaaa"),.str (Str.ofString "<"),.int 1]]]] 4 rfl (by simp) (by simp only[yaj,yba,or_false,forall_eq_or_imp,forall_eq];exact⟨p1,p2,p3,p4⟩)
  refine⟨t,k,?_,pt.1,pt.2⟩;have sa:=sta t pt.1;unfold zdu zhk
  simp_arith[za5,za9,sr,er,sd,ed,gs,er0,r0,s0,lx,en,List.isEmpty_nil,s20,nk,ek,ct,cf,et,pt.1,zat _ pt.1,ya1,yaq,la,lb,st,sf,za1 _ st,za1 _ sf,za1 _ sa,nl12,ydc,List.singleton_append]
 |cons w wr =>
  have hw:w∈M.ws:=by rw[hws];exact ya9 ..
  have gw:∀y:Str,PyData.strOk y=true->y∉wdS->P (.tup [.str z,.lst [.tup [.str w,.str y,.int 1]]]):=fun y hy hn=>⟨rfl,zj7 h mz rfl (bad_gd h.tw (oS hw) hy rfl n1 (by rw[decide_eq_false hn];simp))⟩
  have oG:PyData.strOk (Str.ofString ">")=true:=by decide +kernel
  have gn:∀u:T,u.sh=true->zb7 [u]=some (.ok (.bl false))->P (.tup [.str z,.lst [.tup [.str w,.str (Str.ofString ">"),u]]]):=fun u hu hn=>⟨by simp_arith[hu],zj7 h mz (by simp_arith[hu]) (bad_gd h.tw (oS hw) oG hu hn (by simp))⟩
  have q1:=gw (Str.ofString "==") (by decide +kernel) (by decide +kernel)
  have q2:=gw (Str.ofString "") (by decide +kernel) (by decide +kernel)
  have q3:=gw (Str.ofString "=<") (by decide +kernel) (by decide +kernel)
  have q4:=gw (Str.ofString "!") (by decide +kernel) (by decide +kernel)
  have q5:=gn (.int (-1)) rfl n2;have q6:=gn (.bl true) rfl (num_no (.inr (.inl ⟨_,rfl⟩)));have q7:=gn .non rfl (num_no (.inl rfl));have q8:=gn (.str (Str.ofString "1")) rfl (num_no (.inr (.inr ⟨_,rfl⟩)));rw[hws,yaf]at en
  obtain⟨t,et,pt⟩:=pick [.tup [.str (r++Str.ofString "x"),.lst []],.tup [.str (Str.ofString ""),.lst []],.tup [.str r,.lst [.tup [.str (Str.ofString ""),.str (Str.ofString "<"),.int 1]]],.tup [.str r,.lst [.tup [.str (Str.ofString "aaaaaaaaa"),.str (Str.ofString "<"),.int 1]]],
   .tup [.str z,.lst [.tup [.str w,.str (Str.ofString "=="),.int 1]]],.tup [.str z,.lst [.tup [.str w,.str (Str.ofString ""),.int 1]]],.tup [.str z,.lst [.tup [.str w,.str (Str.ofString "=<"),.int 1]]],.tup [.str z,.lst [.tup [.str w,.str (Str.ofString "!"),.int 1]]],
   .tup [.str z,.lst [.tup [.str w,.str (Str.ofString ">"),.int (-1)]]],.tup [.str z,.lst [.tup [.str w,.str (Str.ofString ">"),.bl true]]],.tup [.str z,.lst [.tup [.str w,.str (Str.ofString ">"),.non]]],.tup [.str z,.lst [.tup [.str w,.str (Str.ofString ">"),.str (Str.ofString "1")]]]]
   12 rfl (by simp) (by simp only[yaj,yba,or_false,forall_eq_or_imp,forall_eq];exact⟨p1,p2,p3,p4,q1,q2,q3,q4,q5,q6,q7,q8⟩)
  refine⟨t,k,?_,pt.1,pt.2⟩;have sa:=sta t pt.1;unfold zdu zhk
  simp_arith[za5,za9,sr,er,sd,ed,gs,er0,r0,s0,rz,sz,negT,lx,en,List.isEmpty_cons,zk0,zks,zkr,s20,nk,ek,ct,cf,et,pt.1,zat _ pt.1,ya1,yaq,la,lb,st,sf,za1 _ st,za1 _ sf,za1 _ sa,nl12,ydc,List.singleton_append]
abbrev s_Lmet:Stmt:=top 53
theorem sc_Lmet:FnScope ["_law_look","_law_value_here","_law_left","_law_due","_law_watch","_law_word","_law_number_here"] ["_law_look","_law_value_here"] (za4 s_Lmet):=⟨rfl,rfl,rfl,by decide +kernel,rfl,by decide +kernel,by decide +kernel⟩
noncomputable def m_Lmet:PSt->Option Out :=
 (zas (zcd (za7 0) (zfk 3 (zai (bNm 4) (zai (bNm 5) (zai (bNm 6) zg7)))))
 (zas (zcd (mAp (g2 subT) (za0 (mIx (za7 1) (mC (.int 0))) (za0 (mAp (g2 zlt) (za0 (za7 6) (za0 (mIx (za7 1) (mC (.int 1))) za6))) za6))) (bNm 2))
 (zas (zcd (mDicN ["<","<=",">",">=","="] (zg6 [(mAp (g2 (cmpT fun i j=>decide (i<j))) (za0 (za7 2) (za0 (mC (.int 0)) za6))),(mAp (g2 (cmpT fun i j=>decide (i<=j))) (za0 (za7 2) (za0 (mC (.int 0)) za6))),(mAp (g2 (cmpT fun i j=>decide (j<i))) (za0 (za7 2) (za0 (mC (.int 0)) za6))),(mAp (g2 (cmpT fun i j=>decide (j<=i))) (za0 (za7 2) (za0 (mC (.int 0)) za6))),(mAp (g2 eqT) (za0 (za7 2) (za0 (mC (.int 0)) za6)))])) (bNm 3))
 (zd2 (mGt (za7 3) (za7 5))))))
noncomputable def zma:List T->Option Ru:=zdw 2 7 m_Lmet
noncomputable abbrev fn_Lmet:Fn:=⟨1,["_law_look","_law_value_here"],zma⟩
noncomputable abbrev gx_Lmet:Gx:=⟨[],[],[],[],false,true,true,none,[],[],[],true,[],[],[],["_law_due"]⟩
noncomputable abbrev gm_Lmet:Gm:=⟨["_law_look","_law_value_here","_law_left","_law_due","_law_watch","_law_word","_law_number_here"],(za4 s_Lmet).names,[],0,[],[],[],[],[],false,[],[],[],gx_Lmet⟩
theorem ck_Lmet:dSs 200 gm_Lmet (zab s_Lmet)=some m_Lmet:=by kernel_rfl
theorem met42{ws:List Str}{t:T}(ht:∃x y n,t=.tup [.str x,.str y,.int n]/\x∈ws/\y∈wd5/\0<=n){a b:Int}(hb:s64 b=true):zma [t,fr a b]=some (.ok (.bl (soS (lkY t) (lkN t) a b))):=by
 obtain⟨x,y,n,rfl,h1,h2,h3⟩:=ht;have m2:zdx n b=true:=zi0 hb;have c1:decide (a - n * b<0)=decide (a<n * b):=decide_eq_decide.mpr (by omega)
 have c2:decide (a - n * b<=0)=!decide (n * b<a):=by
  rw[<- decide_not];exact decide_eq_decide.mpr (by omega)
 have c3:decide (0<a - n * b)=decide (n * b<a):=decide_eq_decide.mpr (by omega)
 have c4:decide (0<=a - n * b)=!decide (a<n * b):=by
  rw[<- decide_not];exact decide_eq_decide.mpr (by omega)
 have c5:(a - n * b == 0)=(!decide (a<n * b) && !decide (n * b<a)):=by
  rw[ybr,beq_iff_eq,ya2,yb1,yb1,decide_eq_false_iff_not,decide_eq_false_iff_not]
  omega
 have ix:∀y∈wd5,∃j:Nat,idxS wd5 y=some j/\[T.bl (decide (a<n * b)),.bl (!decide (n * b<a)),.bl (decide (n * b<a)),.bl (!decide (a<n * b)),.bl (!decide (a<n * b) && !decide (n * b<a))][j]?=some (.bl (soS y n a b)):=fun y hy=>by
  obtain⟨j,ej,hj,e⟩:=idx_mem hy;refine⟨j,ej,?_⟩;have hj5:j<5:=hj;have h5:j=0\/j=1\/j=2\/j=3\/j=4:=by omega
  rcases h5 with rfl|rfl|rfl|rfl|rfl
  ·have:y=Str.ofString "<":=e.symm;subst this
   rfl
  ·have:y=Str.ofString "<=":=e.symm;subst this
   rfl
  ·have:y=Str.ofString ">":=e.symm;subst this
   rfl
  ·have:y=Str.ofString ">=":=e.symm;subst this
   rfl
  ·have:y=Str.ofString "=":=e.symm;subst this
   rfl
 obtain⟨j,ej,ev⟩:=ix y h2;have ej':idxS [Str.ofString "<",Str.ofString "<=",Str.ofString ">",Str.ofString ">=",Str.ofString "="] y=some j:=ej;unfold zma m_Lmet
 simp_arith[m2,eq_int,c1,c2,c3,c4,c5,mGt,ej',ev,lkX,lkY,lkN]
abbrev s_law:Stmt:=top 56
theorem sc_law:FnScope ["_law_script","_law_spec","_law_goal_here","_law_room","_law_values","_law_handed","_law_found","_law_due","_law_watches","_law_rooms","_law_doors","_law_name","_law_guard_here","_law_good"] ["_law_script"] (za4 s_law):=⟨rfl,rfl,rfl,by decide +kernel,rfl,by decide +kernel,by decide +kernel⟩
noncomputable def c_law_5:PSt->Option Rs :=
 (zap zgl (za0 (mAp (g2 zeq) (za0 (zap zar (za0 (za7 2) (za0 (mAp (g2 zeq) (za0 (mC (.int 17)) (za0 (za7 0) za6))) za6))) (za0 (za7 0) za6))) (za0 (za7 1) za6)))
noncomputable def c_law_6:PSt->Option Rs :=
 (zgm (za0 (za7 0) (za0 (mAp (g1 zf0) (za0 (za7 1) za6)) za6)))
noncomputable def c_law_10:PSt->Option Rs :=
 (zap zma (za0 (za7 0) (za0 (mIx (za7 1) (mIdx (za7 2) (mIx (za7 0) (mC (.int 0))))) za6)))
noncomputable def w_law_9:PSt->Option Out :=
 (zas (zcd (mLC 1 [4,8] (zgn (za7 12)) (bNm 0) (mC (.bl true)) c_law_10) (bNm 13))
 (sIf (mAnd (mAp (g2 eqT) (za0 (za7 11) (za0 (za7 3) za6))) (mAp (g1 allT) (za0 (za7 13) za6))) (zcd (mC (.bl true)) (bNm 7)) sNx))
noncomputable def m_law:PSt->Option Out :=
 (zas (zcd (zap zdg (za0 (za7 0) za6)) (bNm 1))
 (zas (zcd (za7 1) (zfk 3 (zai (bNm 8) (zai (bNm 9) (zai (bNm 10) zg7)))))
 (zas (zcd (zap zih (za0 (mAlt (mSl (za7 0) (some (mC (.int 12))) (some (mC (.int 16)))) (mSlT (za7 0) (some (mC (.int 12))) (some (mC (.int 16))))) (za0 (za7 1) za6))) (bNm 2))
 (zas (zcd (mIx (mIx (za7 9) (mAp (g2 zen) (za0 (zap zar (za0 (za7 0) (za0 (mC (.int 16)) za6))) (za0 (mAp (g1 zik) (za0 (za7 9) za6)) za6)))) (mC (.int 0))) (bNm 3))
 (zas (zcd (mLC 1 [2,0] (zc3 (za0 (mAp (g1 zik) (za0 (za7 8) za6)) za6)) (bNm 0) (mC (.bl true)) c_law_5) (bNm 4))
 (zas (zcd (zgm (za0 (mLC 2 [] (zgn (za7 2)) (zfk 2 (zai (bNm 0) (zai (bNm 1) zg7))) (mC (.bl true)) c_law_6) (za0 (mAp (g1 zf0) (za0 (za7 4) za6)) za6))) (bNm 5))
 (zas (zcd (zap zf8 (za0 (zap zh8 (za0 (za7 1) za6)) (za0 (mIx (za7 5) (mC (.int 0))) (za0 (zgm (za0 (za7 3) (za0 (mIx (za7 5) (mC (.int 1))) za6))) za6)))) (bNm 6))
 (zas (zcd (mC (.bl false)) (bNm 7))
 (zas (sFor (zgn (za7 2)) (zfk 2 (zai (bNm 11) (zai (bNm 12) zg7))) w_law_9)
 (zas (sIf (mOr (zfc (mAp (g1 (zdy "bool")) (za0 (za7 6) za6))) (mOr (mAp (g2 neT) (za0 (za7 6) (za0 (za7 7) za6))) (mAp (g2 neT) (za0 (za7 5) (za0 (zgm (za0 (za7 2) (za0 (za7 4) za6))) za6))))) (zd2 (mC (.bl false))) sNx)
 (zd2 (zap zdf (za0 (zap zh8 (za0 (za7 1) za6)) (za0 (zap zdu (za0 (za7 2) (za0 (zap zar (za0 (za7 0) (za0 (mC (.int 20)) za6))) (za0 (za7 1) za6)))) (za0 (zgm (za0 (za7 3) (za0 (za7 4) za6))) za6)))))))))))))))
noncomputable def R_law:List T->Option Ru:=zdw 1 14 m_law
noncomputable abbrev gx_law:Gx:=⟨[],[],[],[],false,true,true,none,[],[],[],true,[],[],[],[]⟩
noncomputable abbrev gm_law:Gm:=⟨["_law_script","_law_spec","_law_goal_here","_law_room","_law_values","_law_handed","_law_found","_law_due","_law_watches","_law_rooms","_law_doors","_law_name","_law_guard_here","_law_good"],(za4 s_law).names,["_law_script","_law_goal_here","_law_values","_law_watches"],9,[("_law_machine",fn_Lmachine),("_law_goal",fn_Lgoal),("_law_cell_at",zkf),("_law_value",fn_Lvalue),("meets",fn_meets),("_law_made",fn_Lmade),("_law_met",fn_Lmet),("_law_refused",fn_Lrefused),("_law_spoilt",fn_Lspoilt)],["len","range","list","all","isinstance","bool"],[],[],[],false,[],[],[],gx_law⟩
theorem ck_law:dSs 200 gm_law (zab s_law)=some m_law:=by kernel_rfl
theorem fit_look{ws wd:List Str}(hw:Txs ws)(hd:Txs wd){l:List T}(h:Lks ws wd l):Fit (.lst l) 2:=Fit.nd fun t ht=>by
 obtain⟨x,y,n,rfl,h1,h2,h3⟩:=h t ht;refine Fit.tup fun u hu=>?_
 simp only[yaj,yba,or_false]at hu
 rcases hu with rfl|rfl|rfl
 ·exact Fit.str (hw _ h1) _
 ·exact Fit.str (hd _ h2) _
 ·exact Fit.int _ _
theorem fit_goal{ws rn:List Str}(hw:Txs ws)(hr:Txs rn){gl:List (Str×List T)}(h:Gls ws rn gl):Fit (.lst (gl.map zba)) 4:=Fit.nd fun t ht=>by
 obtain⟨g,hg,rfl⟩:=yah.mp ht;obtain⟨h1,h2,_⟩:=h g hg;refine Fit.tup fun u hu=>?_
 simp only[yaj,yba,or_false]at hu
 rcases hu with rfl|rfl
 ·exact Fit.str (hr _ h1) _
 ·exact fit_look hw wd_tx h2
theorem fit_vals(vs:List (Int×Int)):Fit (.lst (vaT vs)) 2:=Fit.nd fun t ht=>by
 obtain⟨v,_,rfl⟩:=yah.mp ht;exact Fit.fr _ _
theorem du_loop{ws rn:List Str}(hw:Txs ws)(hl:ws.length<1000)(hr:Txs rn){vs:List (Int×Int)}(hv:VsOk ws vs){room:Str}(hx:room∈rn){a0 a1 a2 a5 a6 a9 a10:Option T}:∀(gl:List (Str×List T)) (d:Bool) (x11 x12 x13:Option T),Gls ws rn gl->∃y11 y12 y13,zf3 (zfk 2 (zai (bNm 11) (zai (bNm 12) zg7))) w_law_9 (gl.map zba) [a0,a1,a2,some (.str room),some (.lst (vaT vs)),a5,a6,some (.bl d),some (.lst (ws.map T.str)),a9,a10,x11,x12,x13]=some (.nx [a0,a1,a2,some (.str room),some (.lst (vaT vs)),a5,a6,some (.bl (d || mtB ws vs room gl)),some (.lst (ws.map T.str)),a9,a10,y11,y12,y13])
 |[],d,x11,x12,x13,_=>⟨x11,x12,x13,by
  have:mtB ws vs room []=false:=rfl;rw[this,yc5]
  rfl⟩
 |g::gl,d,x11,x12,x13,hg=>by
  obtain⟨g1,g2,g3⟩:=hg g (ya9 ..);have vsh:=va_sh vs;have e:=zkh (hr _ g1) (hr _ hx);have ks:=g2.sh;have l1:g.2.length<=100000:=by omega
  have lw:ws.length<1000000:=by omega
  have lc:=zfy (b:=bNm 0) (me:=c_law_10) (fun t:T=>t) (fun t=>.bl (lkB ws vs t)) (fun τ=>∃x,τ=[x,some (.lst (vaT vs)),some (.lst (ws.map T.str))]) g.2 [none,some (.lst (vaT vs)),some (.lst (ws.map T.str))] ⟨none,rfl⟩ fun t ht τ hI=>by
   obtain⟨x,rfl⟩:=hI;have hk:=g2 t ht;obtain⟨k1,k2,k3,k4⟩:=lk_is hk;obtain⟨j,ej,hj,av,sb⟩:=va_at hv k2;have me:=met42 (ws:=ws) hk (a:=(vaOf ws vs (lkX t)).1) sb;have ts:t.sh=true:=by rw[k1];rfl
   refine⟨[some t,some (.lst (vaT vs)),some (.lst (ws.map T.str))],by simp_arith[],?_,_,rfl⟩
   unfold c_law_10 lkB;rw[k1]at me ⊢;simp only[lkX,lkY,lkN]at ej av me ⊢
   simp_arith[za5,za9,zeg,ej,lw,av,me,vsh]
  rw[List.map_id']at lc;have ba:=zhu (p:=lkB ws vs) g.2;have bs:=zkw (lkB ws vs) g.2;have ea:(g.2.map (lkB ws vs)).all id=g.2.all (lkB ws vs):=by rw[yde];rfl
  have bsh:shL (g.2.map fun t=>T.bl (lkB ws vs t))=true:=by
   rw[zb0,yag];intro t ht;obtain⟨u,_,rfl⟩:=yah.mp ht
   rfl
  obtain⟨y11,y12,y13,er⟩:=du_loop hw hl hr hv hx (a0:=a0) (a1:=a1) (a2:=a2) (a5:=a5) (a6:=a6) (a9:=a9) (a10:=a10) gl (d || (decide (g.1=room) && g.2.all (lkB ws vs))) (some (.str g.1)) (some (.lst g.2)) (some (.lst (g.2.map fun t=>.bl (lkB ws vs t)))) fun u hu=>hg u (ya8 _ hu)
  refine⟨y11,y12,y13,?_⟩
  have w:w_law_9 [a0,a1,a2,some (.str room),some (.lst (vaT vs)),a5,a6,some (.bl d),some (.lst (ws.map T.str)),a9,a10,some (.str g.1),some (.lst g.2),x13]=some (.nx [a0,a1,a2,some (.str room),some (.lst (vaT vs)),a5,a6,some (.bl (d || (decide (g.1=room) && g.2.all (lkB ws vs)))),some (.lst (ws.map T.str)),a9,a10,some (.str g.1),some (.lst g.2),some (.lst (g.2.map fun t=>.bl (lkB ws vs t)))]):=by
   unfold w_law_9;cases q:decide (g.1=room) with
   |false =>
    rw[q]at e
    simp_arith[ks,za1 _ ks,za5,za9,vsh,za1 _ vsh,l1,lc,bs,e]
   |true =>
    rw[q]at e;cases q2:g.2.all (lkB ws vs) with
    |false =>
     rw[q2]at ea
     simp_arith[ks,za1 _ ks,za5,za9,vsh,za1 _ vsh,l1,lc,bs,bsh,e,ba,ea]
    |true =>
     rw[q2]at ea
     simp_arith[ks,za1 _ ks,za5,za9,vsh,za1 _ vsh,l1,lc,bs,bsh,e,ba,ea]
  have em:mtB ws vs room (g::gl)=((decide (g.1=room) && g.2.all (lkB ws vs)) || mtB ws vs room gl):=rfl
  rw[em,<- Bool.or_assoc,yaf]
  conv=>lhs;unfold zf3
  simp_arith[w]
  exact er
theorem law_true(ns:List Int)(h:ns.length<=63):R_law [zaw ns]=some (.ok (.bl true)):=by
 have c16:zar [zaw ns,.int 16]=some (.ok (.int (ns.getD 16 0))):=zic ns (k:=16) (by decide)
 have c20:zar [zaw ns,.int 20]=some (.ok (.int (ns.getD 20 0))):=zic ns (k:=20) (by decide)
 have ck:∀k:Nat,zar [zaw ns,.int (17+(k:Int))]=some (.ok (.int (ns.getD (17+(k:Int)).toNat 0))):=fun k=>zic ns (by omega)
 generalize ns.getD 16 0=c at c16;generalize ns.getD 20 0=c' at c20;obtain⟨ws,rs,dd,sz,em,D⟩:=machine_ex ns h
 have rr:RsOk ws rs:=⟨D.r1,by have:=D.r4;omega,fun r hr=>by
  have:=D.rn r hr;have:=D.sz;exact⟨(D.rn r hr).1,by omega,by omega⟩,D.rd,fun r hr=>⟨(D.rl r hr).1,by have:=(D.rl r hr).2;omega⟩⟩
 have drk:∀d∈dd,DrOk ws (rs.map (·.1)) (drOf rs d):=fun d hd=>by
  obtain⟨d1,d2,d3,d4,d5,d6,d7,d8⟩:=D.d d hd;refine⟨?_,?_,d3,by show d.g.length<=1000;omega,d5,d6,by show d.n.length<=100;omega,?_⟩
  ·show(rs.getD d.b (Str.empty,[])).1∈_;rw[ya4,ya0 d1];exact yay (yac d1)
  ·show(rs.getD d.e (Str.empty,[])).1∈_;rw[ya4,ya0 d2];exact yay (yac d2)
  ·rcases d8 with e|e
   ·exact .inl e
   ·exact .inr (.inl e)
 have sp:SpOk ws rs dd:=⟨rr,fun d hd=>⟨(D.d d hd).1,(D.d d hd).2.1⟩,drk,D.dl⟩
 have hm:McOk ⟨ws,rs,dd.map (drOf rs)⟩:=⟨fun x hx=>.inr (D.w x hx),D.wd,by have:=D.wl;show ws.length<=7;omega,rr,fun d hd=>by
  obtain⟨d',hd',rfl⟩:=yah.mp hd;exact drk d' hd',by show(dd.map _).length<=200;rw[ya1];have:=D.dl;omega⟩
 have sr:=rom_sh rr;have er:=za1 _ sr;have sd:=sp.sd;have ed:=za1 _ sd;have made:=made_ok sp hm;have cm:zhr (ns.map T.int) (some 12) (some 16)=(zhr ns (some 12) (some 16)).map T.int:=cut_map _ _ _ _;have cl:=cut_len ns (some 12) (some 16);generalize zhr ns (some 12) (some 16)=ks at cm cl;obtain⟨gl,eg,hg,gn⟩:=goal_ex (ws:=ws) (rs:=rs) (dd:=dd) hm.tw D.r1 sr sd ks (by omega)
 have sg:=hg.sh;have esg:=za1 _ sg
 have lc:=zfy (b:=zfk 2 (zai (bNm 0) (zai (bNm 1) zg7))) (me:=c_law_6) zba zba (fun τ=>∃x y,τ=[x,y]) gl [none,none] ⟨none,none,rfl⟩ fun g hm τ hI=>by
  obtain⟨p,q,rfl⟩:=hI;have:=(hg g hm).2.1.sh;refine⟨[some (.str g.1),some (.lst g.2)],by simp_arith[],?_,_,_,rfl⟩
  unfold c_law_6
  simp_arith[this,za1 _ this]
 have hwl:=D.wl;have hr1:=D.r1;have hix:=zfw c (n:=rs.length) hr1;have hi:(c.fmod rs.length).toNat<rs.length:=by omega
 have ar:atI (rs.map zba) (c.fmod rs.length)=some (.tup [.str (rs[(c.fmod rs.length).toNat]).1,.lst (rs[(c.fmod rs.length).toNat]).2]):=zkx hix.1 (by rw[ya5,ya0 hi];rfl)
 have hroom:(rs[(c.fmod rs.length).toNat]).1∈rs.map (·.1):=yay (f:=fun z:Str×List T=>z.1) (yac hi)
 have rsh:shL (rs[(c.fmod rs.length).toNat]).2=true:=(rr.lk _ (yac hi)).1.sh;generalize (rs[(c.fmod rs.length).toNat]).2=rl at ar rsh;generalize (rs[(c.fmod rs.length).toNat]).1=room at ar hroom;have nrl:((rs.length:Int)=0)=False:=eq_false (by omega)
 obtain⟨f,hf⟩:=Classical.axiomOfChoice (fun x:Int=>value_ex hg (by omega) x)
 have lcv:=lc1 (n:=ws.length) (me:=c_law_5) (x:=none) (cs:=[some (.lst (gl.map zba)),some (zaw ns)]) (g:=fun i=>.int (i:Int)) (f:=fun i=>fr (f (ns.getD (17+(i:Int)).toNat 0+i)).1 (f (ns.getD (17+(i:Int)).toNat 0+i)).2) fun i hi=>by
  have cki:=ck i;have hfi:=(hf (ns.getD (17+(i:Int)).toNat 0+i)).1;have ss:=sh_script ns;have ess:=zii ns;unfold c_law_5
  simp_arith[ess,ss,cki,sg,esg,hfi]
 have evs:(mT ws.length fun i=>fr (f (ns.getD (17+(i:Int)).toNat 0+i)).1 (f (ns.getD (17+(i:Int)).toNat 0+i)).2)=vaT ((List.range ws.length).map fun i:Nat=>f (ns.getD (17+(i:Int)).toNat 0+i)):=by
  unfold mT vaT;rw[ybp]
  rfl
 rw[evs]at lcv
 have hv:VsOk ws ((List.range ws.length).map fun i:Nat=>f (ns.getD (17+(i:Int)).toNat 0+i)):=⟨by simp,fun v h=>by
  obtain⟨i,_,rfl⟩:=yah.mp h;exact(hf _).2⟩
 generalize ((List.range ws.length).map fun i:Nat=>f (ns.getD (17+(i:Int)).toNat 0+i))=vs at lcv hv
 have vsh:=va_sh vs;have evsh:=za1 _ vsh;have mt:=mt_ok hm hg (by omega) hv hroom
 obtain⟨y11,y12,y13,du⟩:=du_loop hm.tw (by show ws.length<1000;omega) hm.tn hv hroom (a0:=some (zaw ns)) (a1:=some (spT ws rs dd)) (a2:=some (.lst (gl.map zba))) (a5:=some (.tup [.lst (gl.map zba),.lst (vaT vs)])) (a6:=some (.bl (mtB ws vs room gl))) (a9:=some (rmsT rs)) (a10:=some (.lst (dd.map sdT))) gl false none none none hg
 rw[ycm]at du;simp only at mt du;have f2:=fit_goal hm.tw hm.tn hg
 have f3:Fit (.tup [.lst (gl.map zba),.lst (vaT vs)]) 5:=Fit.tup fun u hu=>by
  simp only[yaj,yba,or_false]at hu
  rcases hu with rfl|rfl
  ·exact f2
  ·exact(fit_vals vs).mono (by decide)
 have n2:=(eq_same f3 (by decide) rfl f3).2
 generalize mtB ws vs room gl=d at mt du;have nd:=ne_bl (i:=d) (j:=d);have dd0:(d == d)=true:=by cases d<;>rfl
 rw[dd0]at nd;have hr1:=D.r1
 have r0m:rs.getD 0 (Str.empty,[])∈rs:=by
  rw[ya4,ya0 (by omega)]
  exact yac _
 have hrx:=hm.tn _ (yay (f:=fun z:Str×List T=>z.1) r0m)
 have rsz:=(D.rn _ r0m).2;have xx:PyData.strOk (Str.ofString "x")=true:=by decide +kernel
 have x1:(Str.ofString "x").cps.size=1:=by decide +kernel
 have nx:(rs.getD 0 (Str.empty,[])).1++Str.ofString "x"∉rs.map (·.1):=fun hx=>by
  obtain⟨r,hr,e⟩:=yah.mp hx;have h1:=(D.rn r hr).2
  have h2:((rs.getD 0 (Str.empty,[])).1++Str.ofString "x").cps.size=(rs.getD 0 (Str.empty,[])).1.cps.size+(Str.ofString "x").cps.size:=by
   show((rs.getD 0 (Str.empty,[])).1.cps++(Str.ofString "x").cps).size=_;simp
  rw[<- e,h1,rsz,x1]at h2
  omega
 have txx:PyData.strOk ((rs.getD 0 (Str.empty,[])).1++Str.ofString "x")=true:=by
  have h1:((rs.getD 0 (Str.empty,[])).1.cps++(Str.ofString "x").cps).all (·<0x110000)=true:=by
   rw[Array.all_append];have a1:(rs.getD 0 (Str.empty,[])).1.cps.all (·<0x110000)=true:=hrx;have a2:(Str.ofString "x").cps.all (·<0x110000)=true:=xx;rw[a1,a2]
   rfl
  exact h1
 have lxx:(rs.getD 0 (Str.empty,[])).1.length+(Str.ofString "x").length<=100000:=by
  have:=D.sz;show(rs.getD 0 (Str.empty,[])).1.cps.size+(Str.ofString "x").cps.size<=100000
  omega
 obtain⟨t,k,es,t1,t2⟩:=spoilt_ex hm (dd:=dd) sd sg (by omega) c' txx nx lxx
 have sf:shL ((gl.drop k).map zba)=true:=by
  have sg':=sg;rw[zb0,yag]at sg' ⊢;intro t ht;obtain⟨g,hg,rfl⟩:=yah.mp ht;exact sg' _ (yay (List.mem_of_mem_drop hg))
 have hg1:Gls ws (rs.map (·.1)) (gl.take k):=fun g hx=>hg g (List.mem_of_mem_take hx)
 have st:=hg1.sh
 have sall:shL ((gl.take k).map zba++t::(gl.drop k).map zba)=true:=by
  rw[zb0]at st sf ⊢;rw[List.all_append,st,List.all_cons,t1,sf]
  rfl
 have hlen:((gl.take k).map zba++t::(gl.drop k).map zba).length<=1000:=by
  rw[yaq,yax,ya1,ya1,yb6,ybx]
  omega
 have pn:=pg_no hm hg1 t1 t2 sf hlen;have rf:=ref_ok42 hm (t:=.lst ((gl.take k).map zba++t::(gl.drop k).map zba)) (u:=.tup [.str room,.lst (vaT vs)]) (by simp_arith[sall]) (by simp_arith[vsh]) pn
 simp only at es;generalize (gl.take k).map zba++t::(gl.drop k).map zba=S at es rf sall;have smd:=hm.sd;have smdE:=za1 _ smd;have sss:=hm.ss;have sssE:=za1 _ sss;simp only at smd smdE sss sssE;have l1:gl.length<=100000:=by omega
 have l2:ws.length<=100000:=by omega
 have ok:=zhg l2;have rg:zcq 0 ws.length=mT ws.length fun i=>.int (i:Int):=zbf
 unfold zaw at *;unfold R_law m_law
 simp_arith[c16,c20,em,za5,za9,sr,er,sd,ed,cm,zbc,zes,eg,sg,esg,made,smd,smdE,sss,sssE,lc,l1,l2,ya1,nrl,ar,rsh,ok,rg,lcv,vsh,evsh,mt,du,nd,n2,es,sall,za1 _ sall,rf]
end Zl
namespace Zl
open PySem PySem.W L2 Zw Zx Pu Hd
abbrev pw:Program:=PySem.Challenge.pw_zonewalk_k42_goals_met
abbrev rw_:OpenLaw:=PySem.Challenge.rw_zonewalk_k42_goals_met
def cO(a:Str)(ta:Nat)(b:Str)(tb:Nat)(f:Str)(tf:Nat)(r n k:Int)(r1:Nat)(z:Int)(r2 r3 r4 r5:Nat)(x y:Int)(tg:Nat):Obj:=⟨(.type "code"),none,(.fields (Array.mk [(.str a ta),(.str b tb),(.str f tf),(.int r 0),(.int n 0),(.int 0 0),(.int 0 0),(.int k 0),(.ref r1),(.bool true),(.int z 0),(.ref r2),.none,(.ref r3),(.ref r4),(.ref r5),(.int x 0),(.int y 0),(.str f tg)])),Array.mk []⟩
def fO(a b:Str)(s:Stmt)(d:Value)(m:Str)(t c:Nat)(y:Value):Obj:=⟨(.type "function"),none,(.func (fnOf a b (zi9 s) (zab s) (za4 s) d .none .none (.str m t) none (.ref c) y)),Array.mk []⟩
noncomputable def o2(P:Params):Obj:=⟨.none,none,(.dict (Array.mk []) 0),Array.mk []⟩
noncomputable def o3(P:Params):Obj:=⟨(.type "dict"),none,(.dict (Array.mk [en P "__name__" 165 (.str "law_zonewalk_k42_goals_met" 562),en P "__doc__" 166 .none,en P "__package__" 167 .none,en P "__loader__" 168 (.builtin "__main__.__loader__#opaque"),en P "__spec__" 169 .none,en P "__annotations__" 170 (.ref 6),en P "__builtins__" 171 (.ref 4),en P "__file__" 173 (.str "/claim/cut.py" 172),en P "__cached__" 174 .none,en P "_wall" 193 (.ref 21),en P "WalkError" 213 (.ref 31),en P "BadMachine" 229 (.ref 44),en P "TooMany" 245 (.ref 56),en P "NoMark" 261 (.ref 68),en P "is_whole" 270 (.ref 77),en P "under" 278 (.ref 84),en P "WORDS" 286 (.ref 85),en P "STAY_WORDS" 289 (.ref 86),en P "is_look" 298 (.ref 93),en P "is_number" 305 (.ref 100),en P "is_guard" 311 (.ref 105),en P "stands_so" 323 (.ref 112),en P "MOST_WATCHES" 327 (.int 7 326),en P "MOST_ROOMS" 329 (.int 64 328),en P "MOST_DOORS" 331 (.int 200 330),en P "is_small_letter" 338 (.ref 119),en P "is_name" 344 (.ref 124),en P "is_watch_name" 351 (.ref 131),en P "is_room_name" 357 (.ref 136),en P "is_sign" 364 (.ref 143),en P "own_copy" 371 (.ref 150),en P "Door" 423 (.ref 182),en P "Machine" 489 (.ref 236),en P "check_watches" 495 (.ref 245),en P "are_unlike" 502 (.ref 252),en P "check_rooms" 508 (.ref 257),en P "check_doors" 518 (.ref 264),en P "are_noughts" 524 (.ref 269),en P "placed" 530 (.ref 274),en P "holds" 538 (.ref 279),en P "placed_goal" 546 (.ref 284),en P "placed_mark" 555 (.ref 291),en P "meets" 561 (.ref 296),en P "_law_cell_at" 571 (.ref 303),en P "_law_stream" 583 (.ref 310),en P "_law_names" 589 (.ref 315),en P "_law_number" 597 (.ref 322),en P "_law_guard" 609 (.ref 329),en P "_law_stay" 621 (.ref 336),en P "_law_door" 627 (.ref 341),en P "_law_machine" 633 (.ref 346),en P "_law_made" 639 (.ref 351),en P "_law_goal" 654 (.ref 358),en P "_law_lowest" 664 (.ref 365),en P "_law_value" 670 (.ref 370),en P "_law_met" 683 (.ref 377),en P "_law_spoilt" 689 (.ref 382),en P "_law_refused" 699 (.ref 389),en P "law" 705 (.ref 394)]) 59),Array.mk []⟩
noncomputable def o22(P:Params):Obj:=⟨(.type "tuple"),none,(.seq (Array.mk [(.type "ValueError")]) 0),Array.mk []⟩
noncomputable def o29(P:Params):Obj:=⟨(.type "tuple"),none,(.seq (Array.mk []) 0),Array.mk []⟩
noncomputable def o30(P:Params):Obj:=⟨(.type "dict"),none,(.dict (Array.mk [en P "__module__" 203 (.str "zonewalk.errors" 194),en P "__firstlineno__" 207 (.int 5 206),en P "__static_attributes__" 208 (.ref 29),en P "__weakref__" 210 (.ref 32),en P "__doc__" 211 .none]) 3),Array.mk []⟩
noncomputable def o31(P:Params):Obj:=⟨(.type "type"),none,(.cls ⟨"WalkError",[(.type "ValueError")],[(.ref 31),(.type "ValueError"),(.type "Exception"),(.type "BaseException"),(.type "object")],30,"WalkError",true,[],[(.ref 44),(.ref 56),(.ref 68)],false,none,false⟩),Array.mk [(some (.ref 22)),none,(some (.str "WalkError" 196)),(some (.str "WalkError" 204)),(some (.builtin "ValueError.__new__")),(some (.bool true))]⟩
noncomputable def o32(P:Params):Obj:=⟨(.type "getset_descriptor"),none,(.fields (Array.mk [(.str "__weakref__" 209),(.ref 31),(.builtin "ExceptionGroup.__weakref__"),.none])),Array.mk []⟩
noncomputable def o35(P:Params):Obj:=⟨(.type "tuple"),none,(.seq (Array.mk [(.ref 31)]) 0),Array.mk []⟩
noncomputable def o42(P:Params):Obj:=⟨(.type "tuple"),none,(.seq (Array.mk []) 0),Array.mk []⟩
noncomputable def o43(P:Params):Obj:=⟨(.type "dict"),none,(.dict (Array.mk [en P "__module__" 221 (.str "zonewalk.errors" 194),en P "__firstlineno__" 225 (.int 7 224),en P "__static_attributes__" 226 (.ref 42),en P "__doc__" 227 .none]) 2),Array.mk []⟩
noncomputable def o44(P:Params):Obj:=⟨(.type "type"),none,(.cls ⟨"BadMachine",[(.ref 31)],[(.ref 44),(.ref 31),(.type "ValueError"),(.type "Exception"),(.type "BaseException"),(.type "object")],43,"BadMachine",true,[],[],false,none,false⟩),Array.mk [(some (.ref 35)),none,(some (.str "BadMachine" 214)),(some (.str "BadMachine" 222)),(some (.builtin "ValueError.__new__")),(some (.bool true))]⟩
noncomputable def o47(P:Params):Obj:=⟨(.type "tuple"),none,(.seq (Array.mk [(.ref 31)]) 0),Array.mk []⟩
noncomputable def o54(P:Params):Obj:=⟨(.type "tuple"),none,(.seq (Array.mk []) 0),Array.mk []⟩
noncomputable def o55(P:Params):Obj:=⟨(.type "dict"),none,(.dict (Array.mk [en P "__module__" 237 (.str "zonewalk.errors" 194),en P "__firstlineno__" 241 (.int 9 240),en P "__static_attributes__" 242 (.ref 54),en P "__doc__" 243 .none]) 2),Array.mk []⟩
noncomputable def o56(P:Params):Obj:=⟨(.type "type"),none,(.cls ⟨"TooMany",[(.ref 31)],[(.ref 56),(.ref 31),(.type "ValueError"),(.type "Exception"),(.type "BaseException"),(.type "object")],55,"TooMany",true,[],[],false,none,false⟩),Array.mk [(some (.ref 47)),none,(some (.str "TooMany" 230)),(some (.str "TooMany" 238)),(some (.builtin "ValueError.__new__")),(some (.bool true))]⟩
noncomputable def o59(P:Params):Obj:=⟨(.type "tuple"),none,(.seq (Array.mk [(.ref 31)]) 0),Array.mk []⟩
noncomputable def o66(P:Params):Obj:=⟨(.type "tuple"),none,(.seq (Array.mk []) 0),Array.mk []⟩
noncomputable def o67(P:Params):Obj:=⟨(.type "dict"),none,(.dict (Array.mk [en P "__module__" 253 (.str "zonewalk.errors" 194),en P "__firstlineno__" 257 (.int 11 256),en P "__static_attributes__" 258 (.ref 66),en P "__doc__" 259 .none]) 2),Array.mk []⟩
noncomputable def o68(P:Params):Obj:=⟨(.type "type"),none,(.cls ⟨"NoMark",[(.ref 31)],[(.ref 68),(.ref 31),(.type "ValueError"),(.type "Exception"),(.type "BaseException"),(.type "object")],67,"NoMark",true,[],[],false,none,false⟩),Array.mk [(some (.ref 59)),none,(some (.str "NoMark" 246)),(some (.str "NoMark" 254)),(some (.builtin "ValueError.__new__")),(some (.bool true))]⟩
noncomputable def o76(_:Params):=cO "is_whole" 264 "is_whole" 265 "/claim/cut.py" 266 14 1 3 71 181 72 73 74 75 268 14 269
noncomputable def o77(_:Params):=fO "is_whole" "is_whole" (top 7) .none "zonewalk.fractions" 262 76 .none
noncomputable def o83(_:Params):=cO "under" 271 "under" 272 "/claim/cut.py" 273 16 2 3 78 181 79 80 81 82 276 16 277
noncomputable def o84(_:Params):=fO "under" "under" (top 8) .none "zonewalk.fractions" 262 83 .none
noncomputable def o85(P:Params):Obj:=⟨(.type "tuple"),none,(.seq (Array.mk [(.str "<" 281),(.str "<=" 282),(.str ">" 283),(.str ">=" 284),(.str "=" 285)]) 0),Array.mk []⟩
noncomputable def o86(P:Params):Obj:=⟨(.type "tuple"),none,(.seq (Array.mk [(.str "<" 287),(.str "<=" 288)]) 0),Array.mk []⟩
noncomputable def o92(_:Params):=cO "is_look" 290 "is_look" 291 "/claim/cut.py" 292 21 3 3 87 181 88 89 90 91 296 21 297
noncomputable def o93(_:Params):=fO "is_look" "is_look" (top 12) .none "zonewalk.looks" 279 92 .none
noncomputable def o99(_:Params):=cO "is_number" 299 "is_number" 300 "/claim/cut.py" 301 25 1 3 94 181 95 96 97 98 303 25 304
noncomputable def o100(_:Params):=fO "is_number" "is_number" (top 13) .none "zonewalk.looks" 279 99 .none
noncomputable def o104(P:Params):Obj:=⟨(.type "code"),none,(.fields (Array.mk [(.str "is_guard" 306),(.str "is_guard" 307),(.str "/claim/cut.py" 308),(.int 27 0),(.int 3 0),(.int 0 0),(.int 0 0),(.int 3 0),(.ref 101),(.bool true),(.int 181 0),(.ref 102),.none,.none,.none,(.ref 103),(.int 309 0),(.int 27 0),(.str "/claim/cut.py" 310)])),Array.mk []⟩
noncomputable def o105(_:Params):=fO "is_guard" "is_guard" (top 14) .none "zonewalk.looks" 279 104 .none
noncomputable def o111(_:Params):=cO "stands_so" 312 "stands_so" 313 "/claim/cut.py" 314 29 3 3 106 181 107 108 109 110 321 29 322
noncomputable def o112(_:Params):=fO "stands_so" "stands_so" (top 15) .none "zonewalk.looks" 279 111 .none
noncomputable def o118(_:Params):=cO "is_small_letter" 332 "is_small_letter" 333 "/claim/cut.py" 334 46 1 3 113 181 114 115 116 117 336 46 337
noncomputable def o119(_:Params):=fO "is_small_letter" "is_small_letter" (top 20) .none "zonewalk.machines" 324 118 .none
noncomputable def o123(P:Params):Obj:=⟨(.type "code"),none,(.fields (Array.mk [(.str "is_name" 339),(.str "is_name" 340),(.str "/claim/cut.py" 341),(.int 48 0),(.int 1 0),(.int 0 0),(.int 0 0),(.int 3 0),(.ref 120),(.bool true),(.int 181 0),(.ref 121),.none,.none,.none,(.ref 122),(.int 342 0),(.int 48 0),(.str "/claim/cut.py" 343)])),Array.mk []⟩
noncomputable def o124(_:Params):=fO "is_name" "is_name" (top 21) .none "zonewalk.machines" 324 123 .none
noncomputable def o130(_:Params):=cO "is_watch_name" 345 "is_watch_name" 346 "/claim/cut.py" 347 50 1 3 125 181 126 127 128 129 349 50 350
noncomputable def o131(_:Params):=fO "is_watch_name" "is_watch_name" (top 22) .none "zonewalk.machines" 324 130 .none
noncomputable def o135(P:Params):Obj:=⟨(.type "code"),none,(.fields (Array.mk [(.str "is_room_name" 352),(.str "is_room_name" 353),(.str "/claim/cut.py" 354),(.int 52 0),(.int 1 0),(.int 0 0),(.int 0 0),(.int 3 0),(.ref 132),(.bool true),(.int 181 0),(.ref 133),.none,.none,.none,(.ref 134),(.int 355 0),(.int 52 0),(.str "/claim/cut.py" 356)])),Array.mk []⟩
noncomputable def o136(_:Params):=fO "is_room_name" "is_room_name" (top 23) .none "zonewalk.machines" 324 135 .none
noncomputable def o142(_:Params):=cO "is_sign" 358 "is_sign" 359 "/claim/cut.py" 360 56 1 3 137 181 138 139 140 141 362 56 363
noncomputable def o143(_:Params):=fO "is_sign" "is_sign" (top 24) .none "zonewalk.machines" 324 142 .none
noncomputable def o149(_:Params):=cO "own_copy" 365 "own_copy" 366 "/claim/cut.py" 367 60 1 3 144 181 145 146 147 148 369 60 370
noncomputable def o150(_:Params):=fO "own_copy" "own_copy" (top 25) .none "zonewalk.machines" 324 149 .none
noncomputable def o158(P:Params):Obj:=⟨(.type "tuple"),none,(.seq (Array.mk [(.str "" 384)]) 0),Array.mk []⟩
noncomputable def o164(_:Params):=cO "__init__" 385 "Door.__init__" 386 "/claim/cut.py" 387 64 6 3 159 181 160 161 162 163 394 64 395
noncomputable def o165(_:Params):=fO "__init__" "Door.__init__" (meth 26 0) (.ref 158) "zonewalk.machines" 324 164 .none
noncomputable def o180(P:Params):Obj:=⟨(.type "tuple"),none,(.seq (Array.mk [(.str "end" 411),(.str "guard" 412),(.str "noughts" 413),(.str "sign" 414),(.str "start" 415)]) 0),Array.mk []⟩
noncomputable def o181(P:Params):Obj:=⟨(.type "dict"),none,(.dict (Array.mk [en P "__module__" 379 (.str "zonewalk.machines" 324),en P "__firstlineno__" 383 (.int 62 382),en P "__init__" 396 (.ref 165),en P "asks" 403 (.ref 172),en P "sets" 410 (.ref 179),en P "__static_attributes__" 416 (.ref 180),en P "__dict__" 418 (.ref 183),en P "__weakref__" 420 (.ref 184),en P "__doc__" 421 .none]) 4),Array.mk []⟩
noncomputable def o182(P:Params):Obj:=⟨(.type "type"),none,(.cls ⟨"Door",[(.type "object")],[(.ref 182),(.type "object")],181,"Door",true,[],[],false,none,false⟩),Array.mk [none,none,(some (.str "Door" 372)),(some (.str "Door" 380)),(some (.builtin "object.__new__")),(some (.bool true))]⟩
noncomputable def o183(P:Params):Obj:=⟨(.type "getset_descriptor"),none,(.fields (Array.mk [(.str "__dict__" 417),(.ref 182),(.builtin "function.__dict__"),(.builtin "function.__dict__#set")])),Array.mk []⟩
noncomputable def o184(P:Params):Obj:=⟨(.type "getset_descriptor"),none,(.fields (Array.mk [(.str "__weakref__" 419),(.ref 182),(.builtin "ExceptionGroup.__weakref__"),.none])),Array.mk []⟩
noncomputable def o197(P:Params):Obj:=⟨(.type "code"),none,(.fields (Array.mk [(.str "__init__" 436),(.str "Machine.__init__" 437),(.str "/claim/cut.py" 438),(.int 78 0),(.int 4 0),(.int 0 0),(.int 0 0),(.int 3 0),(.ref 194),(.bool true),(.int 181 0),(.ref 195),.none,.none,.none,(.ref 196),(.int 439 0),(.int 78 0),(.str "/claim/cut.py" 440)])),Array.mk []⟩
noncomputable def o198(_:Params):=fO "__init__" "Machine.__init__" (meth 27 0) .none "zonewalk.machines" 324 197 .none
noncomputable def o204(_:Params):=cO "watches" 442 "Machine.watches" 443 "/claim/cut.py" 444 90 1 3 199 181 200 201 202 203 446 90 447
noncomputable def o205(_:Params):=fO "watches" "Machine.watches" (meth 27 1) .none "zonewalk.machines" 324 204 .none
noncomputable def o211(_:Params):=cO "rooms" 449 "Machine.rooms" 450 "/claim/cut.py" 451 93 1 3 206 181 207 208 209 210 453 93 454
noncomputable def o212(_:Params):=fO "rooms" "Machine.rooms" (meth 27 2) .none "zonewalk.machines" 324 211 .none
noncomputable def o232(_:Params):=cO "watch_number" 471 "Machine.watch_number" 472 "/claim/cut.py" 473 102 2 3 227 181 228 229 230 231 476 102 477
noncomputable def o233(_:Params):=fO "watch_number" "Machine.watch_number" (meth 27 5) .none "zonewalk.machines" 324 232 .none
noncomputable def o234(P:Params):Obj:=⟨(.type "tuple"),none,(.seq (Array.mk [(.str "door_list" 479),(.str "stays" 480),(.str "watch_names" 481)]) 0),Array.mk []⟩
noncomputable def o235(P:Params):Obj:=⟨(.type "dict"),none,(.dict (Array.mk [en P "__module__" 431 (.str "zonewalk.machines" 324),en P "__firstlineno__" 435 (.int 76 434),en P "__init__" 441 (.ref 198),en P "watches" 448 (.ref 205),en P "rooms" 455 (.ref 212),en P "doors" 462 (.ref 219),en P "stay" 470 (.ref 226),en P "watch_number" 478 (.ref 233),en P "__static_attributes__" 482 (.ref 234),en P "__dict__" 484 (.ref 237),en P "__weakref__" 486 (.ref 238),en P "__doc__" 487 .none]) 4),Array.mk []⟩
noncomputable def o236(P:Params):Obj:=⟨(.type "type"),none,(.cls ⟨"Machine",[(.type "object")],[(.ref 236),(.type "object")],235,"Machine",true,[],[],false,none,false⟩),Array.mk [none,none,(some (.str "Machine" 424)),(some (.str "Machine" 432)),(some (.builtin "object.__new__")),(some (.bool true))]⟩
noncomputable def o237(P:Params):Obj:=⟨(.type "getset_descriptor"),none,(.fields (Array.mk [(.str "__dict__" 483),(.ref 236),(.builtin "function.__dict__"),(.builtin "function.__dict__#set")])),Array.mk []⟩
noncomputable def o238(P:Params):Obj:=⟨(.type "getset_descriptor"),none,(.fields (Array.mk [(.str "__weakref__" 485),(.ref 236),(.builtin "ExceptionGroup.__weakref__"),.none])),Array.mk []⟩
noncomputable def o244(P:Params):Obj:=⟨(.type "code"),none,(.fields (Array.mk [(.str "check_watches" 490),(.str "check_watches" 491),(.str "/claim/cut.py" 492),(.int 104 0),(.int 1 0),(.int 0 0),(.int 0 0),(.int 3 0),(.ref 241),(.bool true),(.int 181 0),(.ref 242),.none,.none,.none,(.ref 243),(.int 493 0),(.int 104 0),(.str "/claim/cut.py" 494)])),Array.mk []⟩
noncomputable def o245(_:Params):=fO "check_watches" "check_watches" (top 28) .none "zonewalk.machines" 324 244 .none
noncomputable def o251(_:Params):=cO "are_unlike" 496 "are_unlike" 497 "/claim/cut.py" 498 109 1 3 246 181 247 248 249 250 500 109 501
noncomputable def o252(_:Params):=fO "are_unlike" "are_unlike" (top 29) .none "zonewalk.machines" 324 251 .none
noncomputable def o256(P:Params):Obj:=⟨(.type "code"),none,(.fields (Array.mk [(.str "check_rooms" 503),(.str "check_rooms" 504),(.str "/claim/cut.py" 505),(.int 111 0),(.int 2 0),(.int 0 0),(.int 0 0),(.int 3 0),(.ref 253),(.bool true),(.int 181 0),(.ref 254),.none,.none,.none,(.ref 255),(.int 506 0),(.int 111 0),(.str "/claim/cut.py" 507)])),Array.mk []⟩
noncomputable def o257(_:Params):=fO "check_rooms" "check_rooms" (top 30) .none "zonewalk.machines" 324 256 .none
noncomputable def o263(_:Params):=cO "check_doors" 509 "check_doors" 510 "/claim/cut.py" 511 121 3 3 258 181 259 260 261 262 516 121 517
noncomputable def o264(_:Params):=fO "check_doors" "check_doors" (top 31) .none "zonewalk.machines" 324 263 .none
noncomputable def o268(P:Params):Obj:=⟨(.type "code"),none,(.fields (Array.mk [(.str "are_noughts" 519),(.str "are_noughts" 520),(.str "/claim/cut.py" 521),(.int 133 0),(.int 2 0),(.int 0 0),(.int 0 0),(.int 3 0),(.ref 265),(.bool true),(.int 181 0),(.ref 266),.none,.none,.none,(.ref 267),(.int 522 0),(.int 133 0),(.str "/claim/cut.py" 523)])),Array.mk []⟩
noncomputable def o269(_:Params):=fO "are_noughts" "are_noughts" (top 32) .none "zonewalk.machines" 324 268 .none
noncomputable def o273(P:Params):Obj:=⟨(.type "code"),none,(.fields (Array.mk [(.str "placed" 525),(.str "placed" 526),(.str "/claim/cut.py" 527),(.int 137 0),(.int 2 0),(.int 0 0),(.int 0 0),(.int 3 0),(.ref 270),(.bool true),(.int 181 0),(.ref 271),.none,.none,.none,(.ref 272),(.int 528 0),(.int 137 0),(.str "/claim/cut.py" 529)])),Array.mk []⟩
noncomputable def o274(_:Params):=fO "placed" "placed" (top 33) .none "zonewalk.machines" 324 273 .none
noncomputable def o278(P:Params):Obj:=⟨(.type "code"),none,(.fields (Array.mk [(.str "holds" 533),(.str "holds" 534),(.str "/claim/cut.py" 535),(.int 143 0),(.int 2 0),(.int 0 0),(.int 0 0),(.int 3 0),(.ref 275),(.bool true),(.int 181 0),(.ref 276),.none,.none,.none,(.ref 277),(.int 536 0),(.int 143 0),(.str "/claim/cut.py" 537)])),Array.mk []⟩
noncomputable def o279(_:Params):=fO "holds" "holds" (top 35) .none "zonewalk.moves" 531 278 .none
noncomputable def o283(P:Params):Obj:=⟨(.type "code"),none,(.fields (Array.mk [(.str "placed_goal" 541),(.str "placed_goal" 542),(.str "/claim/cut.py" 543),(.int 146 0),(.int 2 0),(.int 0 0),(.int 0 0),(.int 3 0),(.ref 280),(.bool true),(.int 181 0),(.ref 281),.none,.none,.none,(.ref 282),(.int 544 0),(.int 146 0),(.str "/claim/cut.py" 545)])),Array.mk []⟩
noncomputable def o284(_:Params):=fO "placed_goal" "placed_goal" (top 37) .none "zonewalk.goals" 539 283 .none
noncomputable def o290(_:Params):=cO "placed_mark" 547 "placed_mark" 548 "/claim/cut.py" 549 151 3 3 285 181 286 287 288 289 553 151 554
noncomputable def o291(_:Params):=fO "placed_mark" "placed_mark" (top 38) .none "zonewalk.goals" 539 290 .none
noncomputable def o295(P:Params):Obj:=⟨(.type "code"),none,(.fields (Array.mk [(.str "meets" 556),(.str "meets" 557),(.str "/claim/cut.py" 558),(.int 157 0),(.int 3 0),(.int 0 0),(.int 0 0),(.int 3 0),(.ref 292),(.bool true),(.int 181 0),(.ref 293),.none,.none,.none,(.ref 294),(.int 559 0),(.int 157 0),(.str "/claim/cut.py" 560)])),Array.mk []⟩
noncomputable def o296(_:Params):=fO "meets" "meets" (top 39) .none "zonewalk.goals" 539 295 .none
noncomputable def o302(_:Params):=cO "_law_cell_at" 564 "_law_cell_at" 565 "/claim/cut.py" 566 161 2 3 297 181 298 299 300 301 569 161 570
noncomputable def o303(_:Params):=fO "_law_cell_at" "_law_cell_at" (top 41) .none "law_zonewalk_k42_goals_met" 562 302 .none
noncomputable def o309(_:Params):=cO "_law_stream" 572 "_law_stream" 573 "/claim/cut.py" 574 165 2 3 304 181 305 306 307 308 581 165 582
noncomputable def o310(_:Params):=fO "_law_stream" "_law_stream" (top 42) .none "law_zonewalk_k42_goals_met" 562 309 .none
noncomputable def o314(P:Params):Obj:=⟨(.type "code"),none,(.fields (Array.mk [(.str "_law_names" 584),(.str "_law_names" 585),(.str "/claim/cut.py" 586),(.int 178 0),(.int 2 0),(.int 0 0),(.int 0 0),(.int 3 0),(.ref 311),(.bool true),(.int 181 0),(.ref 312),.none,.none,.none,(.ref 313),(.int 587 0),(.int 178 0),(.str "/claim/cut.py" 588)])),Array.mk []⟩
noncomputable def o315(_:Params):=fO "_law_names" "_law_names" (top 43) .none "law_zonewalk_k42_goals_met" 562 314 .none
noncomputable def o321(_:Params):=cO "_law_number" 590 "_law_number" 591 "/claim/cut.py" 592 188 2 3 316 181 317 318 319 320 595 188 596
noncomputable def o322(_:Params):=fO "_law_number" "_law_number" (top 44) .none "law_zonewalk_k42_goals_met" 562 321 .none
noncomputable def o328(_:Params):=cO "_law_guard" 598 "_law_guard" 599 "/claim/cut.py" 600 190 3 3 323 181 324 325 326 327 607 190 608
noncomputable def o329(_:Params):=fO "_law_guard" "_law_guard" (top 45) .none "law_zonewalk_k42_goals_met" 562 328 .none
noncomputable def o335(_:Params):=cO "_law_stay" 610 "_law_stay" 611 "/claim/cut.py" 612 197 3 3 330 181 331 332 333 334 619 197 620
noncomputable def o336(_:Params):=fO "_law_stay" "_law_stay" (top 46) .none "law_zonewalk_k42_goals_met" 562 335 .none
noncomputable def o340(P:Params):Obj:=⟨(.type "code"),none,(.fields (Array.mk [(.str "_law_door" 622),(.str "_law_door" 623),(.str "/claim/cut.py" 624),(.int 204 0),(.int 4 0),(.int 0 0),(.int 0 0),(.int 3 0),(.ref 337),(.bool true),(.int 181 0),(.ref 338),.none,.none,.none,(.ref 339),(.int 625 0),(.int 204 0),(.str "/claim/cut.py" 626)])),Array.mk []⟩
noncomputable def o341(_:Params):=fO "_law_door" "_law_door" (top 47) .none "law_zonewalk_k42_goals_met" 562 340 .none
noncomputable def o345(P:Params):Obj:=⟨(.type "code"),none,(.fields (Array.mk [(.str "_law_machine" 628),(.str "_law_machine" 629),(.str "/claim/cut.py" 630),(.int 209 0),(.int 1 0),(.int 0 0),(.int 0 0),(.int 3 0),(.ref 342),(.bool true),(.int 181 0),(.ref 343),.none,.none,.none,(.ref 344),(.int 631 0),(.int 209 0),(.str "/claim/cut.py" 632)])),Array.mk []⟩
noncomputable def o346(_:Params):=fO "_law_machine" "_law_machine" (top 48) .none "law_zonewalk_k42_goals_met" 562 345 .none
noncomputable def o350(P:Params):Obj:=⟨(.type "code"),none,(.fields (Array.mk [(.str "_law_made" 634),(.str "_law_made" 635),(.str "/claim/cut.py" 636),(.int 221 0),(.int 1 0),(.int 0 0),(.int 0 0),(.int 3 0),(.ref 347),(.bool true),(.int 181 0),(.ref 348),.none,.none,.none,(.ref 349),(.int 637 0),(.int 221 0),(.str "/claim/cut.py" 638)])),Array.mk []⟩
noncomputable def o351(_:Params):=fO "_law_made" "_law_made" (top 49) .none "law_zonewalk_k42_goals_met" 562 350 .none
noncomputable def o357(_:Params):=cO "_law_goal" 640 "_law_goal" 641 "/claim/cut.py" 642 227 2 3 352 181 353 354 355 356 652 227 653
noncomputable def o358(_:Params):=fO "_law_goal" "_law_goal" (top 50) .none "law_zonewalk_k42_goals_met" 562 357 .none
noncomputable def o364(_:Params):=cO "_law_lowest" 655 "_law_lowest" 656 "/claim/cut.py" 657 235 2 3 359 181 360 361 362 363 662 235 663
noncomputable def o365(_:Params):=fO "_law_lowest" "_law_lowest" (top 51) .none "law_zonewalk_k42_goals_met" 562 364 .none
noncomputable def o369(P:Params):Obj:=⟨(.type "code"),none,(.fields (Array.mk [(.str "_law_value" 665),(.str "_law_value" 666),(.str "/claim/cut.py" 667),(.int 240 0),(.int 2 0),(.int 0 0),(.int 0 0),(.int 3 0),(.ref 366),(.bool true),(.int 181 0),(.ref 367),.none,.none,.none,(.ref 368),(.int 668 0),(.int 240 0),(.str "/claim/cut.py" 669)])),Array.mk []⟩
noncomputable def o370(_:Params):=fO "_law_value" "_law_value" (top 52) .none "law_zonewalk_k42_goals_met" 562 369 .none
noncomputable def o376(_:Params):=cO "_law_met" 671 "_law_met" 672 "/claim/cut.py" 673 248 2 3 371 181 372 373 374 375 681 248 682
noncomputable def o377(_:Params):=fO "_law_met" "_law_met" (top 53) .none "law_zonewalk_k42_goals_met" 562 376 .none
noncomputable def o381(P:Params):Obj:=⟨(.type "code"),none,(.fields (Array.mk [(.str "_law_spoilt" 684),(.str "_law_spoilt" 685),(.str "/claim/cut.py" 686),(.int 253 0),(.int 3 0),(.int 0 0),(.int 0 0),(.int 3 0),(.ref 378),(.bool true),(.int 181 0),(.ref 379),.none,.none,.none,(.ref 380),(.int 687 0),(.int 253 0),(.str "/claim/cut.py" 688)])),Array.mk []⟩
noncomputable def o382(_:Params):=fO "_law_spoilt" "_law_spoilt" (top 54) .none "law_zonewalk_k42_goals_met" 562 381 .none
noncomputable def o388(_:Params):=cO "_law_refused" 690 "_law_refused" 691 "/claim/cut.py" 692 261 3 3 383 181 384 385 386 387 697 261 698
noncomputable def o389(_:Params):=fO "_law_refused" "_law_refused" (top 55) .none "law_zonewalk_k42_goals_met" 562 388 .none
noncomputable def o393(P:Params):Obj:=⟨(.type "code"),none,(.fields (Array.mk [(.str "law" 700),(.str "law" 701),(.str "/claim/cut.py" 702),(.int 268 0),(.int 1 0),(.int 0 0),(.int 0 0),(.int 3 0),(.ref 390),(.bool true),(.int 181 0),(.ref 391),.none,.none,.none,(.ref 392),(.int 703 0),(.int 268 0),(.str "/claim/cut.py" 704)])),Array.mk []⟩
noncomputable def o394(_:Params):=fO "law" "law" (top 56) .none "law_zonewalk_k42_goals_met" 562 393 .none
noncomputable def za8(P:Params):Frag:=[(2,o2 P),(3,o3 P),(22,o22 P),(29,o29 P),(30,o30 P),(31,o31 P),(32,o32 P),(35,o35 P),(42,o42 P),(43,o43 P),(44,o44 P),(47,o47 P),(54,o54 P),(55,o55 P),(56,o56 P),(59,o59 P),(66,o66 P),(67,o67 P),(68,o68 P),(76,o76 P),(77,o77 P),(83,o83 P),(84,o84 P),(85,o85 P),(86,o86 P),(92,o92 P),(93,o93 P),(99,o99 P),(100,o100 P),(104,o104 P),(105,o105 P),(111,o111 P),(112,o112 P),(118,o118 P),(119,o119 P),(123,o123 P),(124,o124 P),(130,o130 P),(131,o131 P),(135,o135 P),(136,o136 P),(142,o142 P),(143,o143 P),(149,o149 P),(150,o150 P),(158,o158 P),(164,o164 P),(165,o165 P),(180,o180 P),(181,o181 P),(182,o182 P),(183,o183 P),(184,o184 P),(197,o197 P),(198,o198 P),(204,o204 P),(205,o205 P),(211,o211 P),(212,o212 P),(232,o232 P),(233,o233 P),(234,o234 P),(235,o235 P),(236,o236 P),(237,o237 P),(238,o238 P),(244,o244 P),(245,o245 P),(251,o251 P),(252,o252 P),(256,o256 P),(257,o257 P),(263,o263 P),(264,o264 P),(268,o268 P),(269,o269 P),(273,o273 P),(274,o274 P),(278,o278 P),(279,o279 P),(283,o283 P),(284,o284 P),(290,o290 P),(291,o291 P),(295,o295 P),(296,o296 P),(302,o302 P),(303,o303 P),(309,o309 P),(310,o310 P),(314,o314 P),(315,o315 P),(321,o321 P),(322,o322 P),(328,o328 P),(329,o329 P),(335,o335 P),(336,o336 P),(340,o340 P),(341,o341 P),(345,o345 P),(346,o346 P),(350,o350 P),(351,o351 P),(357,o357 P),(358,o358 P),(364,o364 P),(365,o365 P),(369,o369 P),(370,o370 P),(376,o376 P),(377,o377 P),(381,o381 P),(382,o382 P),(388,o388 P),(389,o389 P),(393,o393 P),(394,o394 P)]
def fas:List Addr:=[2,3,22,29,30,31,32,35,42,43,44,47,54,55,56,59,66,67,68,76,77,83,84,85,86,92,93,99,100,104,105,111,112,118,119,123,124,130,131,135,136,142,143,149,150,158,164,165,180,181,182,183,184,197,198,204,205,211,212,232,233,234,235,236,237,238,244,245,251,252,256,257,263,264,268,269,273,274,278,279,283,284,290,291,295,296,302,303,309,310,314,315,321,322,328,329,335,336,340,341,345,346,350,351,357,358,364,365,369,370,376,377,381,382,388,389,393,394]
def vq:Program:={ pw with main:={ (pw).main with body:=[top 56] } }
def loo:List Str:=[Str.ofString "_wall",Str.ofString "WalkError",Str.ofString "BadMachine",Str.ofString "TooMany",Str.ofString "NoMark",Str.ofString "is_whole",Str.ofString "under",Str.ofString "WORDS",Str.ofString "STAY_WORDS",Str.ofString "is_look",Str.ofString "is_number",Str.ofString "is_guard",Str.ofString "stands_so",Str.ofString "MOST_WATCHES",Str.ofString "MOST_ROOMS",Str.ofString "MOST_DOORS",Str.ofString "is_small_letter",Str.ofString "is_name",Str.ofString "is_watch_name",Str.ofString "is_room_name",Str.ofString "is_sign",Str.ofString "own_copy",Str.ofString "Door",Str.ofString "Machine",Str.ofString "check_watches",Str.ofString "are_unlike",Str.ofString "check_rooms",Str.ofString "check_doors",Str.ofString "are_noughts",Str.ofString "placed",Str.ofString "holds",Str.ofString "placed_goal",Str.ofString "placed_mark",Str.ofString "meets",Str.ofString "_law_cell_at",Str.ofString "_law_stream",Str.ofString "_law_names",Str.ofString "_law_number",Str.ofString "_law_guard",Str.ofString "_law_stay",Str.ofString "_law_door",Str.ofString "_law_machine",Str.ofString "_law_made",Str.ofString "_law_goal",Str.ofString "_law_lowest",Str.ofString "_law_value",Str.ofString "_law_met",Str.ofString "_law_spoilt",Str.ofString "_law_refused"]
noncomputable abbrev hk:Hook:=kHook za8 fas (fun _=>by kernel_rfl)
theorem run_ok(w:World)(os:OsState):(go pw 2816 w os).map (fun s=>seenAll pw vq loo (xt rw_.row.toRowW vq) hk.obs (boot_heap w.params) s.abs)=some (true,openGood vq loo,hk.val w):=by kernel_rfl
theorem left:LeftO pw vq loo (xt rw_.row.toRowW vq) hk.obs hk.val 6212 true:=left_go 6212 2816 (by kernel_rfl) (by decide) (fun s=>by kernel_rfl) (by decide) run_ok
theorem said:rw_.wellSaid=true:=said_of (by kernel_rfl)
theorem all_mk{w:World}{h:Heap}{mg:Str->Option Value}{fa:Addr}(X:(za8 w.params).In h)(G:h.Ns mainGlobals mg)(hfa:mg "law"=some (.ref fa))
  : ∃fd:FuncData,(∀(s:Shared) (v:Value),BindsTo s fd ⟨[v],[]⟩ [("_law_script",v)])/\∀base:Heap,(za8 w.params).In base->base.Ns mainGlobals mg->FnOk pw w (za8 w.params) mg base CX0 10 fa fd ["_law_script"] (spLaw (za8 w.params)):=by
 have e:=hfa.symm.trans (mg_of X G (show nsIn (za8 w.params) mainGlobals "law"=some (some (.ref 394)) by kernel_rfl))
 cases e;let ca:Str->Value:=fun c=>if c="BadMachine" then .ref 44 else if c="TooMany" then .ref 56 else if c="NoMark" then .ref 68 else if c="WalkError" then .ref 31 else .none
 have b_len:mg "len"=none:=mg_none_of X G (show nsIn (za8 w.params) mainGlobals "len"=some none by kernel_rfl)
 have b_set:mg "set"=none:=mg_none_of X G (show nsIn (za8 w.params) mainGlobals "set"=some none by kernel_rfl)
 have b_all:mg "all"=none:=mg_none_of X G (show nsIn (za8 w.params) mainGlobals "all"=some none by kernel_rfl)
 have b_isinstance:mg "isinstance"=none:=mg_none_of X G (show nsIn (za8 w.params) mainGlobals "isinstance"=some none by kernel_rfl)
 have b_str:mg "str"=none:=mg_none_of X G (show nsIn (za8 w.params) mainGlobals "str"=some none by kernel_rfl)
 have b_list:mg "list"=none:=mg_none_of X G (show nsIn (za8 w.params) mainGlobals "list"=some none by kernel_rfl)
 have b_int:mg "int"=none:=mg_none_of X G (show nsIn (za8 w.params) mainGlobals "int"=some none by kernel_rfl)
 have b_bool:mg "bool"=none:=mg_none_of X G (show nsIn (za8 w.params) mainGlobals "bool"=some none by kernel_rfl)
 have b_tuple:mg "tuple"=none:=mg_none_of X G (show nsIn (za8 w.params) mainGlobals "tuple"=some none by kernel_rfl)
 have b_range:mg "range"=none:=mg_none_of X G (show nsIn (za8 w.params) mainGlobals "range"=some none by kernel_rfl)
 have b_any:mg "any"=none:=mg_none_of X G (show nsIn (za8 w.params) mainGlobals "any"=some none by kernel_rfl)
 have b_max:mg "max"=none:=mg_none_of X G (show nsIn (za8 w.params) mainGlobals "max"=some none by kernel_rfl)
 have yg:specialIn (za8 w.params) (.builtin "object.__class__") "__get__"=some (some (.builtin "getset_descriptor.__get__")):=by kernel_rfl
 have yt:takesIn (za8 w.params) (.builtin "object.__class__")=some true:=by kernel_rfl
 let CL_BadMachine:ECls (za8 w.params) mg "BadMachine":=⟨44,mg_of X G (show nsIn (za8 w.params) mainGlobals "BadMachine"=some (some (.ref 44)) by kernel_rfl),⟨by kernel_rfl,by kernel_rfl,⟨(clsIn (za8 w.params) 44).getD default,by kernel_rfl⟩,by kernel_rfl,by kernel_rfl,by kernel_rfl,by kernel_rfl,by kernel_rfl,by kernel_rfl,yg,yt⟩⟩
 have E_BadMachine:∃T:ECls (za8 w.params) mg "BadMachine",ca "BadMachine"=.ref T.C:=⟨CL_BadMachine,by rfl⟩
 let CL_TooMany:ECls (za8 w.params) mg "TooMany":=⟨56,mg_of X G (show nsIn (za8 w.params) mainGlobals "TooMany"=some (some (.ref 56)) by kernel_rfl),⟨by kernel_rfl,by kernel_rfl,⟨(clsIn (za8 w.params) 56).getD default,by kernel_rfl⟩,by kernel_rfl,by kernel_rfl,by kernel_rfl,by kernel_rfl,by kernel_rfl,by kernel_rfl,yg,yt⟩⟩
 have E_TooMany:∃T:ECls (za8 w.params) mg "TooMany",ca "TooMany"=.ref T.C:=⟨CL_TooMany,by rfl⟩
 let CL_NoMark:ECls (za8 w.params) mg "NoMark":=⟨68,mg_of X G (show nsIn (za8 w.params) mainGlobals "NoMark"=some (some (.ref 68)) by kernel_rfl),⟨by kernel_rfl,by kernel_rfl,⟨(clsIn (za8 w.params) 68).getD default,by kernel_rfl⟩,by kernel_rfl,by kernel_rfl,by kernel_rfl,by kernel_rfl,by kernel_rfl,by kernel_rfl,yg,yt⟩⟩
 have E_NoMark:∃T:ECls (za8 w.params) mg "NoMark",ca "NoMark"=.ref T.C:=⟨CL_NoMark,by rfl⟩
 let CL_WalkError:ECls (za8 w.params) mg "WalkError":=⟨31,mg_of X G (show nsIn (za8 w.params) mainGlobals "WalkError"=some (some (.ref 31)) by kernel_rfl),⟨by kernel_rfl,by kernel_rfl,⟨(clsIn (za8 w.params) 31).getD default,by kernel_rfl⟩,by kernel_rfl,by kernel_rfl,by kernel_rfl,by kernel_rfl,by kernel_rfl,by kernel_rfl,yg,yt⟩⟩
 have E_WalkError:∃T:ECls (za8 w.params) mg "WalkError",ca "WalkError"=.ref T.C:=⟨CL_WalkError,by rfl⟩
 have F1:=zag (st:=zem) (show(za8 w.params).lookup 303=some (o303 w.params) by kernel_rfl) (show codeIn (za8 w.params) (.ref 302) "_law_cell_at"=true by kernel_rfl) (by kernel_rfl)
 let T1:Tx (za8 w.params) mg "_law_cell_at" zem ["_law_script","_law_k"]:=⟨_,_,F1,mg_of X G (show nsIn (za8 w.params) mainGlobals "_law_cell_at"=some (some (.ref 303)) by kernel_rfl),.all (us2 fun _ _=>rfl)⟩
 have F2:=zag (st:=zd5) (show(za8 w.params).lookup 252=some (o252 w.params) by kernel_rfl) (show codeIn (za8 w.params) (.ref 251) "are_unlike"=true by kernel_rfl) (by kernel_rfl)
 let T2:Tx (za8 w.params) mg "are_unlike" zd5 ["texts"]:=⟨_,_,F2,mg_of X G (show nsIn (za8 w.params) mainGlobals "are_unlike"=some (some (.ref 252)) by kernel_rfl),.all (us1 fun _=>rfl)⟩
 have F3:=zag (st:=zbe) (show(za8 w.params).lookup 119=some (o119 w.params) by kernel_rfl) (show codeIn (za8 w.params) (.ref 118) "is_small_letter"=true by kernel_rfl) (by kernel_rfl)
 let T3:Tx (za8 w.params) mg "is_small_letter" zbe ["sign"]:=⟨_,_,F3,mg_of X G (show nsIn (za8 w.params) mainGlobals "is_small_letter"=some (some (.ref 119)) by kernel_rfl),.all (us1 fun _=>rfl)⟩
 have F4:=zag (st:=zfo) (show(za8 w.params).lookup 124=some (o124 w.params) by kernel_rfl) (show codeIn (za8 w.params) (.ref 123) "is_name"=true by kernel_rfl) (by kernel_rfl)
 let T4:Tx (za8 w.params) mg "is_name" zfo ["text"]:=⟨_,_,F4,mg_of X G (show nsIn (za8 w.params) mainGlobals "is_name"=some (some (.ref 124)) by kernel_rfl),.all (us1 fun _=>rfl)⟩
 have F5:=zag (st:=zbt) (show(za8 w.params).lookup 131=some (o131 w.params) by kernel_rfl) (show codeIn (za8 w.params) (.ref 130) "is_watch_name"=true by kernel_rfl) (by kernel_rfl)
 let T5:Tx (za8 w.params) mg "is_watch_name" zbt ["thing"]:=⟨_,_,F5,mg_of X G (show nsIn (za8 w.params) mainGlobals "is_watch_name"=some (some (.ref 131)) by kernel_rfl),.all (us1 fun _=>rfl)⟩
 have F6:=zag (st:=zbu) (show(za8 w.params).lookup 245=some (o245 w.params) by kernel_rfl) (show codeIn (za8 w.params) (.ref 244) "check_watches"=true by kernel_rfl) (by kernel_rfl)
 let T6:Tx (za8 w.params) mg "check_watches" zbu ["watches"]:=⟨_,_,F6,mg_of X G (show nsIn (za8 w.params) mainGlobals "check_watches"=some (some (.ref 245)) by kernel_rfl),.all (us1 fun _=>rfl)⟩
 have F7:=zag (st:=zc5) (show(za8 w.params).lookup 136=some (o136 w.params) by kernel_rfl) (show codeIn (za8 w.params) (.ref 135) "is_room_name"=true by kernel_rfl) (by kernel_rfl)
 let T7:Tx (za8 w.params) mg "is_room_name" zc5 ["thing"]:=⟨_,_,F7,mg_of X G (show nsIn (za8 w.params) mainGlobals "is_room_name"=some (some (.ref 136)) by kernel_rfl),.all (us1 fun _=>rfl)⟩
 have F8:=zag (st:=zei) (show(za8 w.params).lookup 77=some (o77 w.params) by kernel_rfl) (show codeIn (za8 w.params) (.ref 76) "is_whole"=true by kernel_rfl) (by kernel_rfl)
 let T8:Tx (za8 w.params) mg "is_whole" zei ["thing"]:=⟨_,_,F8,mg_of X G (show nsIn (za8 w.params) mainGlobals "is_whole"=some (some (.ref 77)) by kernel_rfl),.all (us1 fun _=>rfl)⟩
 have F9:=zag (st:=zdk) (show(za8 w.params).lookup 100=some (o100 w.params) by kernel_rfl) (show codeIn (za8 w.params) (.ref 99) "is_number"=true by kernel_rfl) (by kernel_rfl)
 let T9:Tx (za8 w.params) mg "is_number" zdk ["thing"]:=⟨_,_,F9,mg_of X G (show nsIn (za8 w.params) mainGlobals "is_number"=some (some (.ref 100)) by kernel_rfl),.all (us1 fun _=>rfl)⟩
 have F10:=zag (st:=zfp) (show(za8 w.params).lookup 93=some (o93 w.params) by kernel_rfl) (show codeIn (za8 w.params) (.ref 92) "is_look"=true by kernel_rfl) (by kernel_rfl)
 let T10:Tx (za8 w.params) mg "is_look" zfp ["thing","watches","words"]:=⟨_,_,F10,mg_of X G (show nsIn (za8 w.params) mainGlobals "is_look"=some (some (.ref 93)) by kernel_rfl),.all (us3 fun _ _ _=>rfl)⟩
 have F11:=zag (st:=zej) (show(za8 w.params).lookup 105=some (o105 w.params) by kernel_rfl) (show codeIn (za8 w.params) (.ref 104) "is_guard"=true by kernel_rfl) (by kernel_rfl)
 let T11:Tx (za8 w.params) mg "is_guard" zej ["thing","watches","words"]:=⟨_,_,F11,mg_of X G (show nsIn (za8 w.params) mainGlobals "is_guard"=some (some (.ref 105)) by kernel_rfl),.all (us3 fun _ _ _=>rfl)⟩
 have F12:=zag (st:=zch) (show(za8 w.params).lookup 257=some (o257 w.params) by kernel_rfl) (show codeIn (za8 w.params) (.ref 256) "check_rooms"=true by kernel_rfl) (by kernel_rfl)
 let T12:Tx (za8 w.params) mg "check_rooms" zch ["rooms","watches"]:=⟨_,_,F12,mg_of X G (show nsIn (za8 w.params) mainGlobals "check_rooms"=some (some (.ref 257)) by kernel_rfl),.all (us2 fun _ _=>rfl)⟩
 have F13:=zag (st:=zcj) (show(za8 w.params).lookup 269=some (o269 w.params) by kernel_rfl) (show codeIn (za8 w.params) (.ref 268) "are_noughts"=true by kernel_rfl) (by kernel_rfl)
 let T13:Tx (za8 w.params) mg "are_noughts" zcj ["thing","watches"]:=⟨_,_,F13,mg_of X G (show nsIn (za8 w.params) mainGlobals "are_noughts"=some (some (.ref 269)) by kernel_rfl),.all (us2 fun _ _=>rfl)⟩
 have F14:=zag (st:=zfn) (show(za8 w.params).lookup 143=some (o143 w.params) by kernel_rfl) (show codeIn (za8 w.params) (.ref 142) "is_sign"=true by kernel_rfl) (by kernel_rfl)
 let T14:Tx (za8 w.params) mg "is_sign" zfn ["thing"]:=⟨_,_,F14,mg_of X G (show nsIn (za8 w.params) mainGlobals "is_sign"=some (some (.ref 143)) by kernel_rfl),.all (us1 fun _=>rfl)⟩
 have F15:=zag (st:=zci) (show(za8 w.params).lookup 264=some (o264 w.params) by kernel_rfl) (show codeIn (za8 w.params) (.ref 263) "check_doors"=true by kernel_rfl) (by kernel_rfl)
 let T15:Tx (za8 w.params) mg "check_doors" zci ["doors","names","watches"]:=⟨_,_,F15,mg_of X G (show nsIn (za8 w.params) mainGlobals "check_doors"=some (some (.ref 264)) by kernel_rfl),.all (us3 fun _ _ _=>rfl)⟩
 have F16:=zag (st:=zd1) (show(za8 w.params).lookup 198=some (o198 w.params) by kernel_rfl) (show codeIn (za8 w.params) (.ref 197) "Machine.__init__"=true by kernel_rfl) (by kernel_rfl)
 have F17:=zag (st:=zeh) (show(za8 w.params).lookup 150=some (o150 w.params) by kernel_rfl) (show codeIn (za8 w.params) (.ref 149) "own_copy"=true by kernel_rfl) (by kernel_rfl)
 let T17:Tx (za8 w.params) mg "own_copy" zeh ["thing"]:=⟨_,_,F17,mg_of X G (show nsIn (za8 w.params) mainGlobals "own_copy"=some (some (.ref 150)) by kernel_rfl),.all (us1 fun _=>rfl)⟩
 have F18:=zag (st:=zeu) (show(za8 w.params).lookup 165=some (o165 w.params) by kernel_rfl) (show codeIn (za8 w.params) (.ref 164) "Door.__init__"=true by kernel_rfl) (by kernel_rfl)
 have F19:=zag (st:=zjl) (show(za8 w.params).lookup 351=some (o351 w.params) by kernel_rfl) (show codeIn (za8 w.params) (.ref 350) "_law_made"=true by kernel_rfl) (by kernel_rfl)
 let T19:Tx (za8 w.params) mg "_law_made" zjl ["_law_spec"]:=⟨_,_,F19,mg_of X G (show nsIn (za8 w.params) mainGlobals "_law_made"=some (some (.ref 351)) by kernel_rfl),.all (us1 fun _=>rfl)⟩
 have F20:=zag (st:=zhe) (show(za8 w.params).lookup 315=some (o315 w.params) by kernel_rfl) (show codeIn (za8 w.params) (.ref 314) "_law_names"=true by kernel_rfl) (by kernel_rfl)
 let T20:Tx (za8 w.params) mg "_law_names" zhe ["_law_cell","_law_many"]:=⟨_,_,F20,mg_of X G (show nsIn (za8 w.params) mainGlobals "_law_names"=some (some (.ref 315)) by kernel_rfl),.all (us2 fun _ _=>rfl)⟩
 have F21:=zag (st:=zfq) (show(za8 w.params).lookup 310=some (o310 w.params) by kernel_rfl) (show codeIn (za8 w.params) (.ref 309) "_law_stream"=true by kernel_rfl) (by kernel_rfl)
 let T21:Tx (za8 w.params) mg "_law_stream" zfq ["_law_cell","_law_many"]:=⟨_,_,F21,mg_of X G (show nsIn (za8 w.params) mainGlobals "_law_stream"=some (some (.ref 310)) by kernel_rfl),.all (us2 fun _ _=>rfl)⟩
 have F22:=zag (st:=zfs) (show(za8 w.params).lookup 322=some (o322 w.params) by kernel_rfl) (show codeIn (za8 w.params) (.ref 321) "_law_number"=true by kernel_rfl) (by kernel_rfl)
 let T22:Tx (za8 w.params) mg "_law_number" zfs ["_law_x","_law_unit"]:=⟨_,_,F22,mg_of X G (show nsIn (za8 w.params) mainGlobals "_law_number"=some (some (.ref 322)) by kernel_rfl),.all (us2 fun _ _=>rfl)⟩
 have F23:=zag (st:=zhf) (show(za8 w.params).lookup 329=some (o329 w.params) by kernel_rfl) (show codeIn (za8 w.params) (.ref 328) "_law_guard"=true by kernel_rfl) (by kernel_rfl)
 let T23:Tx (za8 w.params) mg "_law_guard" zhf ["_law_xs","_law_unit","_law_watches"]:=⟨_,_,F23,mg_of X G (show nsIn (za8 w.params) mainGlobals "_law_guard"=some (some (.ref 329)) by kernel_rfl),.all (us3 fun _ _ _=>rfl)⟩
 have F24:=zag (st:=zjn) (show(za8 w.params).lookup 341=some (o341 w.params) by kernel_rfl) (show codeIn (za8 w.params) (.ref 340) "_law_door"=true by kernel_rfl) (by kernel_rfl)
 let T24:Tx (za8 w.params) mg "_law_door" zjn ["_law_cell","_law_unit","_law_watches","_law_many"]:=⟨_,_,F24,mg_of X G (show nsIn (za8 w.params) mainGlobals "_law_door"=some (some (.ref 341)) by kernel_rfl),.all (us4 fun _ _ _ _=>rfl)⟩
 have F25:=zag (st:=zjk) (show(za8 w.params).lookup 336=some (o336 w.params) by kernel_rfl) (show codeIn (za8 w.params) (.ref 335) "_law_stay"=true by kernel_rfl) (by kernel_rfl)
 let T25:Tx (za8 w.params) mg "_law_stay" zjk ["_law_xs","_law_unit","_law_watches"]:=⟨_,_,F25,mg_of X G (show nsIn (za8 w.params) mainGlobals "_law_stay"=some (some (.ref 336)) by kernel_rfl),.all (us3 fun _ _ _=>rfl)⟩
 have F26:=zag (st:=zel) (show(za8 w.params).lookup 346=some (o346 w.params) by kernel_rfl) (show codeIn (za8 w.params) (.ref 345) "_law_machine"=true by kernel_rfl) (by kernel_rfl)
 let T26:Tx (za8 w.params) mg "_law_machine" zel ["_law_script"]:=⟨_,_,F26,mg_of X G (show nsIn (za8 w.params) mainGlobals "_law_machine"=some (some (.ref 346)) by kernel_rfl),.all (us1 fun _=>rfl)⟩
 have F27:=zag (st:=zby) (show(za8 w.params).lookup 205=some (o205 w.params) by kernel_rfl) (show codeIn (za8 w.params) (.ref 204) "Machine.watches"=true by kernel_rfl) (by kernel_rfl)
 have F28:=zag (st:=zjm) (show(za8 w.params).lookup 358=some (o358 w.params) by kernel_rfl) (show codeIn (za8 w.params) (.ref 357) "_law_goal"=true by kernel_rfl) (by kernel_rfl)
 let T28:Tx (za8 w.params) mg "_law_goal" zjm ["_law_cells","_law_spec"]:=⟨_,_,F28,mg_of X G (show nsIn (za8 w.params) mainGlobals "_law_goal"=some (some (.ref 358)) by kernel_rfl),.all (us2 fun _ _=>rfl)⟩
 have F29:=zag (st:=zb8) (show(za8 w.params).lookup 233=some (o233 w.params) by kernel_rfl) (show codeIn (za8 w.params) (.ref 232) "Machine.watch_number"=true by kernel_rfl) (by kernel_rfl)
 have F30:=zag (st:=zhc) (show(za8 w.params).lookup 274=some (o274 w.params) by kernel_rfl) (show codeIn (za8 w.params) (.ref 273) "placed"=true by kernel_rfl) (by kernel_rfl)
 let T30:Tx (za8 w.params) mg "placed" zhc ["machine","guard"]:=⟨_,_,F30,mg_of X G (show nsIn (za8 w.params) mainGlobals "placed"=some (some (.ref 274)) by kernel_rfl),.all (us2 fun _ _=>rfl)⟩
 have F31:=zag (st:=zcf) (show(za8 w.params).lookup 291=some (o291 w.params) by kernel_rfl) (show codeIn (za8 w.params) (.ref 290) "placed_mark"=true by kernel_rfl) (by kernel_rfl)
 let T31:Tx (za8 w.params) mg "placed_mark" zcf ["machine","rooms","mark"]:=⟨_,_,F31,mg_of X G (show nsIn (za8 w.params) mainGlobals "placed_mark"=some (some (.ref 291)) by kernel_rfl),.all (us3 fun _ _ _=>rfl)⟩
 have F32:=zag (st:=zck) (show(za8 w.params).lookup 212=some (o212 w.params) by kernel_rfl) (show codeIn (za8 w.params) (.ref 211) "Machine.rooms"=true by kernel_rfl) (by kernel_rfl)
 have F33:=zag (st:=zcg) (show(za8 w.params).lookup 284=some (o284 w.params) by kernel_rfl) (show codeIn (za8 w.params) (.ref 283) "placed_goal"=true by kernel_rfl) (by kernel_rfl)
 let T33:Tx (za8 w.params) mg "placed_goal" zcg ["machine","goal"]:=⟨_,_,F33,mg_of X G (show nsIn (za8 w.params) mainGlobals "placed_goal"=some (some (.ref 284)) by kernel_rfl),.all (us2 fun _ _=>rfl)⟩
 have F34:=zag (st:=zjh) (show(za8 w.params).lookup 84=some (o84 w.params) by kernel_rfl) (show codeIn (za8 w.params) (.ref 83) "under"=true by kernel_rfl) (by kernel_rfl)
 let T34:Tx (za8 w.params) mg "under" zjh ["one","other"]:=⟨_,_,F34,mg_of X G (show nsIn (za8 w.params) mainGlobals "under"=some (some (.ref 84)) by kernel_rfl),.all (us2 fun _ _=>rfl)⟩
 have F35:=zag (st:=zdj) (show(za8 w.params).lookup 112=some (o112 w.params) by kernel_rfl) (show codeIn (za8 w.params) (.ref 111) "stands_so"=true by kernel_rfl) (by kernel_rfl)
 let T35:Tx (za8 w.params) mg "stands_so" zdj ["value","word","number"]:=⟨_,_,F35,mg_of X G (show nsIn (za8 w.params) mainGlobals "stands_so"=some (some (.ref 112)) by kernel_rfl),.all (us3 fun _ _ _=>rfl)⟩
 have F36:=zag (st:=zjj) (show(za8 w.params).lookup 279=some (o279 w.params) by kernel_rfl) (show codeIn (za8 w.params) (.ref 278) "holds"=true by kernel_rfl) (by kernel_rfl)
 let T36:Tx (za8 w.params) mg "holds" zjj ["looks","values"]:=⟨_,_,F36,mg_of X G (show nsIn (za8 w.params) mainGlobals "holds"=some (some (.ref 279)) by kernel_rfl),.all (us2 fun _ _=>rfl)⟩
 have F37:=zag (st:=zji) (show(za8 w.params).lookup 296=some (o296 w.params) by kernel_rfl) (show codeIn (za8 w.params) (.ref 295) "meets"=true by kernel_rfl) (by kernel_rfl)
 let T37:Tx (za8 w.params) mg "meets" zji ["machine","goal","stand"]:=⟨_,_,F37,mg_of X G (show nsIn (za8 w.params) mainGlobals "meets"=some (some (.ref 296)) by kernel_rfl),.all (us3 fun _ _ _=>rfl)⟩
 have F38:=zag (st:=zek) (show(za8 w.params).lookup 389=some (o389 w.params) by kernel_rfl) (show codeIn (za8 w.params) (.ref 388) "_law_refused"=true by kernel_rfl) (by kernel_rfl)
 let T38:Tx (za8 w.params) mg "_law_refused" zek ["_law_machine_here","_law_goal_here","_law_stand"]:=⟨_,_,F38,mg_of X G (show nsIn (za8 w.params) mainGlobals "_law_refused"=some (some (.ref 389)) by kernel_rfl),.all (us3 fun _ _ _=>rfl)⟩
 have F39:=zag (st:=zft) (show(za8 w.params).lookup 365=some (o365 w.params) by kernel_rfl) (show codeIn (za8 w.params) (.ref 364) "_law_lowest"=true by kernel_rfl) (by kernel_rfl)
 let T39:Tx (za8 w.params) mg "_law_lowest" zft ["_law_top","_law_bottom"]:=⟨_,_,F39,mg_of X G (show nsIn (za8 w.params) mainGlobals "_law_lowest"=some (some (.ref 365)) by kernel_rfl),.all (us2 fun _ _=>rfl)⟩
 have F40:=zag (st:=zhd) (show(za8 w.params).lookup 370=some (o370 w.params) by kernel_rfl) (show codeIn (za8 w.params) (.ref 369) "_law_value"=true by kernel_rfl) (by kernel_rfl)
 let T40:Tx (za8 w.params) mg "_law_value" zhd ["_law_cell","_law_goal_here"]:=⟨_,_,F40,mg_of X G (show nsIn (za8 w.params) mainGlobals "_law_value"=some (some (.ref 370)) by kernel_rfl),.all (us2 fun _ _=>rfl)⟩
 have F41:=zag (st:=zfr) (show(za8 w.params).lookup 382=some (o382 w.params) by kernel_rfl) (show codeIn (za8 w.params) (.ref 381) "_law_spoilt"=true by kernel_rfl) (by kernel_rfl)
 let T41:Tx (za8 w.params) mg "_law_spoilt" zfr ["_law_goal_here","_law_cell","_law_spec"]:=⟨_,_,F41,mg_of X G (show nsIn (za8 w.params) mainGlobals "_law_spoilt"=some (some (.ref 382)) by kernel_rfl),.all (us3 fun _ _ _=>rfl)⟩
 have F42:=zag (st:=s_Lmet) (show(za8 w.params).lookup 377=some (o377 w.params) by kernel_rfl) (show codeIn (za8 w.params) (.ref 376) "_law_met"=true by kernel_rfl) (by kernel_rfl)
 let T42:Tx (za8 w.params) mg "_law_met" s_Lmet ["_law_look","_law_value_here"]:=⟨_,_,F42,mg_of X G (show nsIn (za8 w.params) mainGlobals "_law_met"=some (some (.ref 377)) by kernel_rfl),.all (us2 fun _ _=>rfl)⟩
 have F43:=zag (st:=s_law) (show(za8 w.params).lookup 394=some (o394 w.params) by kernel_rfl) (show codeIn (za8 w.params) (.ref 393) "law"=true by kernel_rfl) (by kernel_rfl)
 let T43:Tx (za8 w.params) mg "law" s_law ["_law_script"]:=⟨_,_,F43,mg_of X G (show nsIn (za8 w.params) mainGlobals "law"=some (some (.ref 394)) by kernel_rfl),.all (us1 fun _=>rfl)⟩
 refine⟨T43.fd,fun s v=>.of_eq rfl,fun base _ _=>?_⟩
 have K1:FnOk pw w (za8 w.params) mg base (CX1 pw w) 1 T1.f T1.fd ["_law_script","_law_k"] (spP (za8 w.params) ca zar):=zbh (n:=200) (Γ:=zkc) T1.F sc_Lcell_at rfl rfl za2 rfl (all_cons b_len za2) zah za2 zaf rfl ⟨za3,za2,za2,zao,(fun _ _ h=>by cases h),za3,za3,za3,za3,(fun _ _ _ h=>by cases h)⟩ ck_Lcell_at
 let D1:DefX pw w (za8 w.params) mg base 1 "_law_cell_at" ["_law_script","_law_k"] (spP (za8 w.params) ca zar):=⟨T1.f,T1.fd,K1,T1.m,T1.F.kp,T1.b⟩;have K2:FnOk pw w (za8 w.params) mg base (CX1 pw w) 1 T2.f T2.fd ["texts"] (spP (za8 w.params) ca zbn):=zbh (n:=200) (Γ:=zhp) T2.F sc_are_unlike rfl rfl za2 rfl (all_cons b_len (all_cons b_set za2)) zah za2 zaf rfl ⟨za3,za2,za2,zao,(fun _ _ h=>by cases h),za3,za3,za3,za3,(fun _ _ _ h=>by cases h)⟩ ck_are_unlike
 let D2:DefX pw w (za8 w.params) mg base 1 "are_unlike" ["texts"] (spP (za8 w.params) ca zbn):=⟨T2.f,T2.fd,K2,T2.m,T2.F.kp,T2.b⟩;have K3:FnOk pw w (za8 w.params) mg base (CX1 pw w) 1 T3.f T3.fd ["sign"] (spP (za8 w.params) ca zau):=zbh (n:=200) (Γ:=ze3) T3.F zha rfl rfl za2 rfl za2 zah za2 zaf rfl ⟨za3,za2,za2,zao,(fun _ _ h=>by cases h),za3,za3,za3,za3,(fun _ _ _ h=>by cases h)⟩ zhs
 let D3:DefX pw w (za8 w.params) mg base 1 "is_small_letter" ["sign"] (spP (za8 w.params) ca zau):=⟨T3.f,T3.fd,K3,T3.m,T3.F.kp,T3.b⟩;have K4:FnOk pw w (za8 w.params) mg base (CX1 pw w) 2 T4.f T4.fd ["text"] (spP (za8 w.params) ca zdt):=zbh (n:=200) (Γ:=zlz) T4.F sc_is_name rfl rfl za2 rfl (all_cons b_len (all_cons b_all za2)) (zaa (by decide) D3 zah) za2 zaf rfl ⟨za3,za2,za2,zao,(fun _ _ h=>by cases h),za3,za3,za3,za3,(fun _ _ _ h=>by cases h)⟩ ck_is_name
 let D4:DefX pw w (za8 w.params) mg base 2 "is_name" ["text"] (spP (za8 w.params) ca zdt):=⟨T4.f,T4.fd,K4,T4.m,T4.F.kp,T4.b⟩;have K5:FnOk pw w (za8 w.params) mg base (CX1 pw w) 3 T5.f T5.fd ["thing"] (spP (za8 w.params) ca zb6):=zbh (n:=200) (Γ:=zfe) T5.F zir rfl rfl za2 rfl (all_cons b_isinstance (all_cons b_str za2)) (zaa (by decide) D4 zah) za2 zaf rfl ⟨za3,za2,za2,zao,(fun _ _ h=>by cases h),za3,za3,za3,za3,(fun _ _ _ h=>by cases h)⟩ ziz
 let D5:DefX pw w (za8 w.params) mg base 3 "is_watch_name" ["thing"] (spP (za8 w.params) ca zb6):=⟨T5.f,T5.fd,K5,T5.m,T5.F.kp,T5.b⟩;have K6:FnOk pw w (za8 w.params) mg base (CX1 pw w) 4 T6.f T6.fd ["watches"] (spP (za8 w.params) ca zbj):=zbh (n:=200) (Γ:=zff) T6.F zis rfl rfl za2 rfl (all_cons b_isinstance (all_cons b_list (all_cons b_len (all_cons b_all za2)))) (zaa (by decide) D5 (zaa (by decide) D2 zah)) (all_cons E_BadMachine za2) zaf rfl ⟨(zdo ⟨(.int (7) 326),(.int 7),mg_of X G (show nsIn (za8 w.params) mainGlobals "MOST_WATCHES"=some (some (.int (7) 326)) by kernel_rfl),⟨_,rfl⟩,fun F=>.int _⟩ za3),za2,za2,zao,(fun _ _ h=>by cases h),za3,za3,za3,za3,(fun _ _ _ h=>by cases h)⟩ zj0
 let D6:DefX pw w (za8 w.params) mg base 4 "check_watches" ["watches"] (spP (za8 w.params) ca zbj):=⟨T6.f,T6.fd,K6,T6.m,T6.F.kp,T6.b⟩;have K7:FnOk pw w (za8 w.params) mg base (CX1 pw w) 2 T7.f T7.fd ["thing"] (spP (za8 w.params) ca zbp):=zbh (n:=200) (Γ:=zg3) T7.F zjf rfl rfl za2 rfl (all_cons b_isinstance (all_cons b_str (all_cons b_len (all_cons b_all za2)))) (zaa (by decide) D3 zah) za2 zaf rfl ⟨za3,za2,za2,zao,(fun _ _ h=>by cases h),za3,za3,za3,za3,(fun _ _ _ h=>by cases h)⟩ zkk
 let D7:DefX pw w (za8 w.params) mg base 2 "is_room_name" ["thing"] (spP (za8 w.params) ca zbp):=⟨T7.f,T7.fd,K7,T7.m,T7.F.kp,T7.b⟩;have K8:FnOk pw w (za8 w.params) mg base (CX1 pw w) 1 T8.f T8.fd ["thing"] (spP (za8 w.params) ca zcz):=zbh (n:=200) (Γ:=zk8) T8.F sc_is_whole rfl rfl za2 rfl (all_cons b_isinstance (all_cons b_int (all_cons b_bool za2))) zah za2 zaf rfl ⟨za3,za2,za2,zao,(fun _ _ h=>by cases h),za3,za3,za3,za3,(fun _ _ _ h=>by cases h)⟩ ck_is_whole
 let D8:DefX pw w (za8 w.params) mg base 1 "is_whole" ["thing"] (spP (za8 w.params) ca zcz):=⟨T8.f,T8.fd,K8,T8.m,T8.F.kp,T8.b⟩;have K9:FnOk pw w (za8 w.params) mg base (CX1 pw w) 2 T9.f T9.fd ["thing"] (spP (za8 w.params) ca zb7):=zbh (n:=200) (Γ:=zim) T9.F sc_is_number rfl rfl za2 rfl za2 (zaa (by decide) D8 zah) za2 zaf rfl ⟨za3,za2,za2,zao,(fun _ _ h=>by cases h),za3,za3,za3,za3,(fun _ _ _ h=>by cases h)⟩ ck_is_number
 let D9:DefX pw w (za8 w.params) mg base 2 "is_number" ["thing"] (spP (za8 w.params) ca zb7):=⟨T9.f,T9.fd,K9,T9.m,T9.F.kp,T9.b⟩;have K10:FnOk pw w (za8 w.params) mg base (CX1 pw w) 3 T10.f T10.fd ["thing","watches","words"] (spP (za8 w.params) ca zco):=zbh (n:=200) (Γ:=zm0) T10.F sc_is_look rfl rfl za2 rfl (all_cons b_isinstance (all_cons b_tuple (all_cons b_len za2))) (zaa (by decide) D9 zah) za2 zaf rfl ⟨za3,za2,za2,zao,(fun _ _ h=>by cases h),za3,za3,za3,za3,(fun _ _ _ h=>by cases h)⟩ ck_is_look
 let D10:DefX pw w (za8 w.params) mg base 3 "is_look" ["thing","watches","words"] (spP (za8 w.params) ca zco):=⟨T10.f,T10.fd,K10,T10.m,T10.F.kp,T10.b⟩;have K11:FnOk pw w (za8 w.params) mg base (CX1 pw w) 4 T11.f T11.fd ["thing","watches","words"] (spP (za8 w.params) ca zb3):=zbh (n:=200) (Γ:=zk9) T11.F sc_is_guard rfl rfl (all_cons (by rfl) (all_cons (by rfl) za2)) rfl (all_cons b_isinstance (all_cons b_list (all_cons b_all za2))) (zaa (by decide) D10 zah) za2 zaf rfl ⟨za3,za2,za2,zao,(fun _ _ h=>by cases h),za3,za3,za3,za3,(fun _ _ _ h=>by cases h)⟩ ck_is_guard
 let D11:DefX pw w (za8 w.params) mg base 4 "is_guard" ["thing","watches","words"] (spP (za8 w.params) ca zb3):=⟨T11.f,T11.fd,K11,T11.m,T11.F.kp,T11.b⟩;have K12:FnOk pw w (za8 w.params) mg base (CX1 pw w) 5 T12.f T12.fd ["rooms","watches"] (spP (za8 w.params) ca zbz):=zbh (n:=200) (Γ:=zgr) T12.F zl1 rfl rfl za2 rfl (all_cons b_isinstance (all_cons b_list (all_cons b_len (all_cons b_tuple za2)))) (zaa (by decide) D7 (zaa (by decide) D11 (zaa (by decide) D2 zah))) (all_cons E_BadMachine za2) zaf rfl ⟨(zdo ⟨_,.ref 86,mg_of X G (show nsIn (za8 w.params) mainGlobals "STAY_WORDS"=some (some (.ref 86)) by kernel_rfl),rfl,fun F=>Rps.of_node (k:=.rt) (xs:=[.str "<",.str "<="]) (.inr ⟨o86 w.params,_,_,by kernel_rfl,rfl,rfl,by decide,(.cons ⟨_,rfl⟩ (.cons ⟨_,rfl⟩ .nil))⟩) (rp_strs ["<","<="])⟩ za3),za2,za2,zao,(fun _ _ h=>by cases h),za3,za3,za3,za3,(fun _ _ _ h=>by cases h)⟩ zlh
 let D12:DefX pw w (za8 w.params) mg base 5 "check_rooms" ["rooms","watches"] (spP (za8 w.params) ca zbz):=⟨T12.f,T12.fd,K12,T12.m,T12.F.kp,T12.b⟩;have K13:FnOk pw w (za8 w.params) mg base (CX1 pw w) 4 T13.f T13.fd ["thing","watches"] (spP (za8 w.params) ca zc1):=zbh (n:=200) (Γ:=zgt) T13.F zl3 rfl rfl (all_cons (by rfl) za2) rfl (all_cons b_isinstance (all_cons b_list (all_cons b_all za2))) (zaa (by decide) D5 (zaa (by decide) D2 zah)) za2 zaf rfl ⟨za3,za2,za2,zao,(fun _ _ h=>by cases h),za3,za3,za3,za3,(fun _ _ _ h=>by cases h)⟩ zlj
 let D13:DefX pw w (za8 w.params) mg base 4 "are_noughts" ["thing","watches"] (spP (za8 w.params) ca zc1):=⟨T13.f,T13.fd,K13,T13.m,T13.F.kp,T13.b⟩;have K14:FnOk pw w (za8 w.params) mg base (CX1 pw w) 3 T14.f T14.fd ["thing"] (spP (za8 w.params) ca zd8):=zbh (n:=200) (Γ:=zly) T14.F sc_is_sign rfl rfl za2 rfl (all_cons b_isinstance (all_cons b_str za2)) (zaa (by decide) D4 zah) za2 zaf rfl ⟨za3,za2,za2,zao,(fun _ _ h=>by cases h),za3,za3,za3,za3,(fun _ _ _ h=>by cases h)⟩ ck_is_sign
 let D14:DefX pw w (za8 w.params) mg base 3 "is_sign" ["thing"] (spP (za8 w.params) ca zd8):=⟨T14.f,T14.fd,K14,T14.m,T14.F.kp,T14.b⟩;have K15:FnOk pw w (za8 w.params) mg base (CX1 pw w) 5 T15.f T15.fd ["doors","names","watches"] (spP (za8 w.params) ca zc0):=zbh (n:=200) (Γ:=zgs) T15.F zl2 rfl rfl za2 rfl (all_cons b_isinstance (all_cons b_list za2)) (zaa (by decide) D11 (zaa (by decide) D13 (zaa (by decide) D14 zah))) (all_cons E_BadMachine za2) zaf rfl ⟨(zdo ⟨_,.ref 85,mg_of X G (show nsIn (za8 w.params) mainGlobals "WORDS"=some (some (.ref 85)) by kernel_rfl),rfl,fun F=>Rps.of_node (k:=.rt) (xs:=[.str "<",.str "<=",.str ">",.str ">=",.str "="]) (.inr ⟨o85 w.params,_,_,by kernel_rfl,rfl,rfl,by decide,(.cons ⟨_,rfl⟩ (.cons ⟨_,rfl⟩ (.cons ⟨_,rfl⟩ (.cons ⟨_,rfl⟩ (.cons ⟨_,rfl⟩ .nil)))))⟩) (rp_strs ["<","<=",">",">=","="])⟩ za3),(all_cons ⟨⟨by kernel_rfl,by kernel_rfl,by kernel_rfl,by kernel_rfl⟩,(all_cons (by unfold zaz;kernel_rfl) (all_cons (by unfold zaz;kernel_rfl) (all_cons (by unfold zaz;kernel_rfl) (all_cons (by unfold zaz;kernel_rfl) (all_cons (by unfold zaz;kernel_rfl) za2)))))⟩ za2),za2,zao,(fun _ _ h=>by cases h),za3,za3,za3,(zdo ⟨mg_of X G (show nsIn (za8 w.params) mainGlobals "Door"=some (some (.ref 182)) by kernel_rfl),⟨⟨by kernel_rfl,by kernel_rfl,by kernel_rfl,by kernel_rfl⟩,by kernel_rfl,by kernel_rfl,by kernel_rfl,by kernel_rfl⟩⟩ za3),(fun _ _ _ h=>by cases h)⟩ zli
 let D15:DefX pw w (za8 w.params) mg base 5 "check_doors" ["doors","names","watches"] (spP (za8 w.params) ca zc0):=⟨T15.f,T15.fd,K15,T15.m,T15.F.kp,T15.b⟩;have K16:FnOk pw w (za8 w.params) mg base (CX1 pw w) 6 _ _ ["self","watches","rooms","doors"] (spN (za8 w.params) ca zae zc8):=fn_okI (C:=zae) (fs:=zaj) (n:=200) (Γ:=zg4) F16 zjg rfl rfl za2 rfl (all_cons b_len (all_cons b_list za2)) (zaa (by decide) D6 (zaa (by decide) D12 (zaa (by decide) D15 zah))) (all_cons E_TooMany za2) zaf rfl ⟨(zdo ⟨(.int (64) 328),(.int 64),mg_of X G (show nsIn (za8 w.params) mainGlobals "MOST_ROOMS"=some (some (.int (64) 328)) by kernel_rfl),⟨_,rfl⟩,fun F=>.int _⟩ (zdo ⟨(.int (200) 330),(.int 200),mg_of X G (show nsIn (za8 w.params) mainGlobals "MOST_DOORS"=some (some (.int (200) 330)) by kernel_rfl),⟨_,rfl⟩,fun F=>.int _⟩ za3)),za2,za2,zao,(fun C fs h=>by cases h;exact⟨⟨by kernel_rfl,by kernel_rfl,by kernel_rfl,by kernel_rfl⟩,(all_cons (by unfold zaz;kernel_rfl) (all_cons (by unfold zaz;kernel_rfl) (all_cons (by unfold zaz;kernel_rfl) za2)))⟩),za3,za3,za3,za3,(fun _ _ _ h=>by cases h)⟩ zkl
 let D16:NewX pw w (za8 w.params) mg base "Machine" zae 6 ["self","watches","rooms","doors"] (spN (za8 w.params) ca zae zc8):=⟨_,_,mg_of X G (show nsIn (za8 w.params) mainGlobals "Machine"=some (some (.ref 236)) by kernel_rfl),⟨by kernel_rfl,by kernel_rfl,by kernel_rfl,by kernel_rfl⟩,K16⟩
 have E16:zh9 (za8 w.params) D16.fd ["self","watches","rooms","doors"] []:=.all (us4 fun _ _ _ _=>rfl)
 have K17:FnOk pw w (za8 w.params) mg base (CX1 pw w) 1 T17.f T17.fd ["thing"] (spP (za8 w.params) ca zcy):=zbh (n:=200) (Γ:=zk7) T17.F sc_own_copy rfl rfl za2 rfl (all_cons b_isinstance (all_cons b_list za2)) zah za2 zaf rfl ⟨za3,za2,za2,zao,(fun _ _ h=>by cases h),za3,za3,za3,za3,(fun _ _ _ h=>by cases h)⟩ ck_own_copy
 let D17:DefX pw w (za8 w.params) mg base 1 "own_copy" ["thing"] (spP (za8 w.params) ca zcy):=⟨T17.f,T17.fd,K17,T17.m,T17.F.kp,T17.b⟩;have K18:FnOk pw w (za8 w.params) mg base (CX1 pw w) 2 _ _ ["self","start","end","guard","noughts","sign"] (spN (za8 w.params) ca zcb zdv):=fn_okI (C:=zcb) (fs:=zdp) (n:=200) (Γ:=zin) F18 sc_Door_init rfl rfl za2 rfl za2 (zaa (by decide) D17 zah) za2 zaf rfl ⟨za3,za2,za2,zao,(fun C fs h=>by cases h;exact⟨⟨by kernel_rfl,by kernel_rfl,by kernel_rfl,by kernel_rfl⟩,(all_cons (by unfold zaz;kernel_rfl) (all_cons (by unfold zaz;kernel_rfl) (all_cons (by unfold zaz;kernel_rfl) (all_cons (by unfold zaz;kernel_rfl) (all_cons (by unfold zaz;kernel_rfl) za2)))))⟩),za3,za3,za3,za3,(fun _ _ _ h=>by cases h)⟩ ck_Door_init
 let D18:NewX pw w (za8 w.params) mg base "Door" zcb 2 ["self","start","end","guard","noughts","sign"] (spN (za8 w.params) ca zcb zdv):=⟨_,_,mg_of X G (show nsIn (za8 w.params) mainGlobals "Door"=some (some (.ref 182)) by kernel_rfl),⟨by kernel_rfl,by kernel_rfl,by kernel_rfl,by kernel_rfl⟩,K18⟩
 have E18:zh9 (za8 w.params) D18.fd ["self","start","end","guard","noughts","sign"] []:=fun s us X hl=>match us,hl with|[_,_,_,_,_,_],_=>binds_K X rfl (show(za8 w.params).lookup 158=some (o158 w.params) by kernel_rfl) rfl rfl rfl
 have K19:FnOk pw w (za8 w.params) mg base (CX1 pw w) 8 T19.f T19.fd ["_law_spec"] (spP (za8 w.params) ca zh8):=zbh (n:=200) (Γ:=gm_Lmade) T19.F sc_Lmade rfl rfl za2 rfl (all_cons b_list za2) zah za2 zaf rfl ⟨za3,za2,za2,(nw_cons ⟨by decide,zcb,D18,(zdo ⟨[],[],E18,.nil,fun _=>.nil⟩ za3)⟩ (nw_cons ⟨by decide,zae,D16,(zdo ⟨[],[],E16,.nil,fun _=>.nil⟩ za3)⟩ zao)),(fun _ _ h=>by cases h),za3,za3,za3,za3,(fun _ _ _ h=>by cases h)⟩ ck_Lmade
 let D19:DefX pw w (za8 w.params) mg base 8 "_law_made" ["_law_spec"] (spP (za8 w.params) ca zh8):=⟨T19.f,T19.fd,K19,T19.m,T19.F.kp,T19.b⟩;have K20:FnOk pw w (za8 w.params) mg base (CX1 pw w) 1 T20.f T20.fd ["_law_cell","_law_many"] (spP (za8 w.params) ca zfa):=zbh (n:=200) (Γ:=gm_Lnames) T20.F sc_Lnames rfl rfl (all_cons (by rfl) (all_cons (by rfl) za2)) rfl (all_cons b_range za2) zah za2 zaf rfl ⟨za3,za2,za2,zao,(fun _ _ h=>by cases h),za3,za3,za3,za3,(fun _ _ _ h=>by cases h)⟩ ck_Lnames
 let D20:DefX pw w (za8 w.params) mg base 1 "_law_names" ["_law_cell","_law_many"] (spP (za8 w.params) ca zfa):=⟨T20.f,T20.fd,K20,T20.m,T20.F.kp,T20.b⟩;have K21:FnOk pw w (za8 w.params) mg base (CX1 pw w) 1 T21.f T21.fd ["_law_cell","_law_many"] (spP (za8 w.params) ca zbb):=zbh (n:=200) (Γ:=zm1) T21.F sc_Lstream rfl rfl za2 rfl (all_cons b_range za2) zah za2 zaf rfl ⟨za3,za2,za2,zao,(fun _ _ h=>by cases h),za3,za3,za3,za3,(fun _ _ _ h=>by cases h)⟩ ck_Lstream
 let D21:DefX pw w (za8 w.params) mg base 1 "_law_stream" ["_law_cell","_law_many"] (spP (za8 w.params) ca zbb):=⟨T21.f,T21.fd,K21,T21.m,T21.F.kp,T21.b⟩;have K22:FnOk pw w (za8 w.params) mg base (CX1 pw w) 1 T22.f T22.fd ["_law_x","_law_unit"] (spP (za8 w.params) ca zc9):=zbh (n:=200) (Γ:=zm3) T22.F sc_Lnumber rfl rfl za2 rfl za2 zah za2 zaf rfl ⟨za3,za2,za2,zao,(fun _ _ h=>by cases h),za3,za3,za3,za3,(fun _ _ _ h=>by cases h)⟩ ck_Lnumber
 let D22:DefX pw w (za8 w.params) mg base 1 "_law_number" ["_law_x","_law_unit"] (spP (za8 w.params) ca zc9):=⟨T22.f,T22.fd,K22,T22.m,T22.F.kp,T22.b⟩;have K23:FnOk pw w (za8 w.params) mg base (CX1 pw w) 2 T23.f T23.fd ["_law_xs","_law_unit","_law_watches"] (spP (za8 w.params) ca zd3):=zbh (n:=200) (Γ:=gm_Lguard) T23.F sc_Lguard rfl rfl za2 rfl (all_cons b_range (all_cons b_len za2)) (zaa (by decide) D22 zah) za2 zaf rfl ⟨za3,za2,za2,zao,(fun _ _ h=>by cases h),za3,za3,za3,za3,(fun _ _ _ h=>by cases h)⟩ ck_Lguard
 let D23:DefX pw w (za8 w.params) mg base 2 "_law_guard" ["_law_xs","_law_unit","_law_watches"] (spP (za8 w.params) ca zd3):=⟨T23.f,T23.fd,K23,T23.m,T23.F.kp,T23.b⟩;have K24:FnOk pw w (za8 w.params) mg base (CX1 pw w) 3 T24.f T24.fd ["_law_cell","_law_unit","_law_watches","_law_many"] (spP (za8 w.params) ca zg8):=zbh (n:=200) (Γ:=gm_Ldoor) T24.F sc_Ldoor rfl rfl (all_cons (by rfl) (all_cons (by rfl) za2)) rfl (all_cons b_range (all_cons b_len za2)) (zaa (by decide) D21 (zaa (by decide) D23 zah)) za2 zaf rfl ⟨za3,za2,za2,zao,(fun _ _ h=>by cases h),za3,za3,za3,za3,(fun _ _ _ h=>by cases h)⟩ ck_Ldoor
 let D24:DefX pw w (za8 w.params) mg base 3 "_law_door" ["_law_cell","_law_unit","_law_watches","_law_many"] (spP (za8 w.params) ca zg8):=⟨T24.f,T24.fd,K24,T24.m,T24.F.kp,T24.b⟩;have K25:FnOk pw w (za8 w.params) mg base (CX1 pw w) 2 T25.f T25.fd ["_law_xs","_law_unit","_law_watches"] (spP (za8 w.params) ca zf9):=zbh (n:=200) (Γ:=gm_Lstay) T25.F sc_Lstay rfl rfl za2 rfl (all_cons b_range (all_cons b_len za2)) (zaa (by decide) D22 zah) za2 zaf rfl ⟨za3,za2,za2,zao,(fun _ _ h=>by cases h),za3,za3,za3,za3,(fun _ _ _ h=>by cases h)⟩ ck_Lstay
 let D25:DefX pw w (za8 w.params) mg base 2 "_law_stay" ["_law_xs","_law_unit","_law_watches"] (spP (za8 w.params) ca zf9):=⟨T25.f,T25.fd,K25,T25.m,T25.F.kp,T25.b⟩;have K26:FnOk pw w (za8 w.params) mg base (CX1 pw w) 4 T26.f T26.fd ["_law_script"] (spP (za8 w.params) ca zdg):=zbh (n:=200) (Γ:=zkb) T26.F sc_Lmachine rfl rfl (all_cons (by rfl) (all_cons (by rfl) (all_cons (by rfl) za2))) rfl (all_cons b_range (all_cons b_len za2)) (zaa (by decide) D1 (zaa (by decide) D20 (zaa (by decide) D21 (zaa (by decide) D25 (zaa (by decide) D24 zah))))) za2 zaf rfl ⟨za3,za2,za2,zao,(fun _ _ h=>by cases h),za3,za3,za3,za3,(fun _ _ _ h=>by cases h)⟩ ck_Lmachine
 let D26:DefX pw w (za8 w.params) mg base 4 "_law_machine" ["_law_script"] (spP (za8 w.params) ca zdg):=⟨T26.f,T26.fd,K26,T26.m,T26.F.kp,T26.b⟩;have K27:FnOk pw w (za8 w.params) mg base (CX1 pw w) 1 _ _ ["self"] (spP (za8 w.params) ca zb4):=zbh (n:=200) (Γ:=ze4) F27 zhb rfl rfl za2 rfl (all_cons b_list za2) zah za2 zaf rfl ⟨za3,(all_cons ⟨⟨by kernel_rfl,by kernel_rfl,by kernel_rfl,by kernel_rfl⟩,(all_cons (by unfold zaz;kernel_rfl) (all_cons (by unfold zaz;kernel_rfl) (all_cons (by unfold zaz;kernel_rfl) za2)))⟩ za2),za2,zao,(fun _ _ h=>by cases h),za3,za3,za3,za3,(fun _ _ _ h=>by cases h)⟩ zht
 let D27:MetX pw w (za8 w.params) mg base zae "watches" 1 ["self"] (spP (za8 w.params) ca zb4):=⟨_,_,⟨by kernel_rfl,by kernel_rfl,by kernel_rfl,by kernel_rfl⟩,⟨by kernel_rfl,by kernel_rfl,by kernel_rfl⟩,K27,.all (us1 fun _=>rfl)⟩
 have K28:FnOk pw w (za8 w.params) mg base (CX1 pw w) 3 T28.f T28.fd ["_law_cells","_law_spec"] (spP (za8 w.params) ca zih):=zbh (n:=200) (Γ:=gm_Lgoal) T28.F sc_Lgoal rfl rfl za2 rfl (all_cons b_len za2) (zaa (by decide) D21 (zaa (by decide) D23 zah)) za2 zaf rfl ⟨za3,za2,za2,zao,(fun _ _ h=>by cases h),za3,za3,za3,za3,(fun _ _ _ h=>by cases h)⟩ ck_Lgoal
 let D28:DefX pw w (za8 w.params) mg base 3 "_law_goal" ["_law_cells","_law_spec"] (spP (za8 w.params) ca zih):=⟨T28.f,T28.fd,K28,T28.m,T28.F.kp,T28.b⟩;have K29:FnOk pw w (za8 w.params) mg base (CX1 pw w) 1 _ _ ["self","name"] (spP (za8 w.params) ca zan):=zbh (n:=200) (Γ:=zcn) F29 zet rfl rfl za2 rfl za2 zah za2 zaf rfl ⟨za3,(all_cons ⟨⟨by kernel_rfl,by kernel_rfl,by kernel_rfl,by kernel_rfl⟩,(all_cons (by unfold zaz;kernel_rfl) (all_cons (by unfold zaz;kernel_rfl) (all_cons (by unfold zaz;kernel_rfl) za2)))⟩ za2),za2,zao,(fun _ _ h=>by cases h),za3,za3,za3,za3,(fun _ _ _ h=>by cases h)⟩ zf6
 let D29:MetX pw w (za8 w.params) mg base zae "watch_number" 1 ["self","name"] (spP (za8 w.params) ca zan):=⟨_,_,⟨by kernel_rfl,by kernel_rfl,by kernel_rfl,by kernel_rfl⟩,⟨by kernel_rfl,by kernel_rfl,by kernel_rfl⟩,K29,.all (us2 fun _ _=>rfl)⟩
 have K30:FnOk pw w (za8 w.params) mg base (CX1 pw w) 5 T30.f T30.fd ["machine","guard"] (spP (za8 w.params) ca ze7):=zbh (n:=200) (Γ:=gm_placed) T30.F sc_placed rfl rfl (all_cons (by rfl) za2) rfl za2 (zaa (by decide) D11 zah) (all_cons E_NoMark za2) zaf rfl ⟨(zdo ⟨_,.ref 85,mg_of X G (show nsIn (za8 w.params) mainGlobals "WORDS"=some (some (.ref 85)) by kernel_rfl),rfl,fun F=>Rps.of_node (k:=.rt) (xs:=[.str "<",.str "<=",.str ">",.str ">=",.str "="]) (.inr ⟨o85 w.params,_,_,by kernel_rfl,rfl,rfl,by decide,(.cons ⟨_,rfl⟩ (.cons ⟨_,rfl⟩ (.cons ⟨_,rfl⟩ (.cons ⟨_,rfl⟩ (.cons ⟨_,rfl⟩ .nil)))))⟩) (rp_strs ["<","<=",">",">=","="])⟩ za3),za2,(all_cons ⟨by decide,⟨D27⟩⟩ (all_cons ⟨by decide,⟨D29⟩⟩ za2)),zao,(fun _ _ h=>by cases h),za3,za3,za3,za3,(fun _ _ _ h=>by cases h)⟩ ck_placed
 let D30:DefX pw w (za8 w.params) mg base 5 "placed" ["machine","guard"] (spP (za8 w.params) ca ze7):=⟨T30.f,T30.fd,K30,T30.m,T30.F.kp,T30.b⟩;have K31:FnOk pw w (za8 w.params) mg base (CX1 pw w) 6 T31.f T31.fd ["machine","rooms","mark"] (spP (za8 w.params) ca zal):=zbh (n:=200) (Γ:=zgp) T31.F zkz rfl rfl za2 rfl (all_cons b_isinstance (all_cons b_tuple (all_cons b_len za2))) (zaa (by decide) D30 zah) (all_cons E_NoMark za2) zaf rfl ⟨za3,za2,za2,zao,(fun _ _ h=>by cases h),za3,za3,za3,za3,(fun _ _ _ h=>by cases h)⟩ zlf
 let D31:DefX pw w (za8 w.params) mg base 6 "placed_mark" ["machine","rooms","mark"] (spP (za8 w.params) ca zal):=⟨T31.f,T31.fd,K31,T31.m,T31.F.kp,T31.b⟩;have K32:FnOk pw w (za8 w.params) mg base (CX1 pw w) 1 _ _ ["self"] (spP (za8 w.params) ca zbk):=zbh (n:=200) (Γ:=zfg) F32 zit rfl rfl za2 rfl (all_cons b_list za2) zah za2 zaf rfl ⟨za3,(all_cons ⟨⟨by kernel_rfl,by kernel_rfl,by kernel_rfl,by kernel_rfl⟩,(all_cons (by unfold zaz;kernel_rfl) (all_cons (by unfold zaz;kernel_rfl) (all_cons (by unfold zaz;kernel_rfl) za2)))⟩ za2),za2,zao,(fun _ _ h=>by cases h),za3,za3,za3,za3,(fun _ _ _ h=>by cases h)⟩ zj1
 let D32:MetX pw w (za8 w.params) mg base zae "rooms" 1 ["self"] (spP (za8 w.params) ca zbk):=⟨_,_,⟨by kernel_rfl,by kernel_rfl,by kernel_rfl,by kernel_rfl⟩,⟨by kernel_rfl,by kernel_rfl,by kernel_rfl⟩,K32,.all (us1 fun _=>rfl)⟩
 have K33:FnOk pw w (za8 w.params) mg base (CX1 pw w) 7 T33.f T33.fd ["machine","goal"] (spP (za8 w.params) ca zav):=zbh (n:=200) (Γ:=zgq) T33.F zl0 rfl rfl (all_cons (by rfl) (all_cons (by rfl) za2)) rfl (all_cons b_isinstance (all_cons b_list za2)) (zaa (by decide) D31 zah) (all_cons E_NoMark za2) zaf rfl ⟨za3,za2,(all_cons ⟨by decide,⟨D32⟩⟩ za2),zao,(fun _ _ h=>by cases h),za3,za3,za3,za3,(fun _ _ _ h=>by cases h)⟩ zlg
 let D33:DefX pw w (za8 w.params) mg base 7 "placed_goal" ["machine","goal"] (spP (za8 w.params) ca zav):=⟨T33.f,T33.fd,K33,T33.m,T33.F.kp,T33.b⟩;have K34:FnOk pw w (za8 w.params) mg base (CX1 pw w) 1 T34.f T34.fd ["one","other"] (spP (za8 w.params) ca zh7):=zbh (n:=200) (Γ:=gm_under) T34.F sc_under rfl rfl za2 rfl za2 zah za2 zaf rfl ⟨za3,za2,za2,zao,(fun _ _ h=>by cases h),za3,za3,za3,za3,(fun _ _ _ h=>by cases h)⟩ ck_under
 let D34:DefX pw w (za8 w.params) mg base 1 "under" ["one","other"] (spP (za8 w.params) ca zh7):=⟨T34.f,T34.fd,K34,T34.m,T34.F.kp,T34.b⟩;have K35:FnOk pw w (za8 w.params) mg base (CX1 pw w) 2 T35.f T35.fd ["value","word","number"] (spP (za8 w.params) ca zcx):=zbh (n:=200) (Γ:=zil) T35.F sc_stands_so rfl rfl za2 rfl za2 (zaa (by decide) D34 zah) za2 zaf rfl ⟨za3,za2,za2,zao,(fun _ _ h=>by cases h),za3,za3,za3,za3,(fun _ _ _ h=>by cases h)⟩ ck_stands_so
 let D35:DefX pw w (za8 w.params) mg base 2 "stands_so" ["value","word","number"] (spP (za8 w.params) ca zcx):=⟨T35.f,T35.fd,K35,T35.m,T35.F.kp,T35.b⟩;have K36:FnOk pw w (za8 w.params) mg base (CX1 pw w) 3 T36.f T36.fd ["looks","values"] (spP (za8 w.params) ca zig):=zbh (n:=200) (Γ:=gm_holds) T36.F sc_holds rfl rfl (all_cons (by rfl) za2) rfl (all_cons b_all za2) (zaa (by decide) D35 zah) za2 zaf rfl ⟨za3,za2,za2,zao,(fun _ _ h=>by cases h),za3,za3,za3,za3,(fun _ _ _ h=>by cases h)⟩ ck_holds
 let D36:DefX pw w (za8 w.params) mg base 3 "holds" ["looks","values"] (spP (za8 w.params) ca zig):=⟨T36.f,T36.fd,K36,T36.m,T36.F.kp,T36.b⟩;have K37:FnOk pw w (za8 w.params) mg base (CX1 pw w) 8 T37.f T37.fd ["machine","goal","stand"] (spP (za8 w.params) ca zf8):=zbh (n:=200) (Γ:=gm_meets) T37.F sc_meets rfl rfl (all_cons (by rfl) za2) rfl (all_cons b_any za2) (zaa (by decide) D33 (zaa (by decide) D36 zah)) za2 zaf rfl ⟨za3,za2,za2,zao,(fun _ _ h=>by cases h),za3,za3,za3,za3,(fun _ _ _ h=>by cases h)⟩ ck_meets
 let D37:DefX pw w (za8 w.params) mg base 8 "meets" ["machine","goal","stand"] (spP (za8 w.params) ca zf8):=⟨T37.f,T37.fd,K37,T37.m,T37.F.kp,T37.b⟩;have K38:FnOk pw w (za8 w.params) mg base (CX1 pw w) 9 T38.f T38.fd ["_law_machine_here","_law_goal_here","_law_stand"] (spP (za8 w.params) ca zdf):=zbh (n:=200) (Γ:=zka) T38.F sc_Lrefused rfl rfl za2 rfl za2 (zaa (by decide) D37 zah) za2 zaf rfl ⟨za3,za2,za2,zao,(fun _ _ h=>by cases h),(zdo ⟨CL_NoMark,(zdo ⟨by rfl,by kernel_rfl⟩ za3)⟩ za3),za3,za3,za3,(fun _ _ _ h=>by cases h)⟩ ck_Lrefused
 let D38:DefX pw w (za8 w.params) mg base 9 "_law_refused" ["_law_machine_here","_law_goal_here","_law_stand"] (spP (za8 w.params) ca zdf):=⟨T38.f,T38.fd,K38,T38.m,T38.F.kp,T38.b⟩;have K39:FnOk pw w (za8 w.params) mg base (CX1 pw w) 1 T39.f T39.fd ["_law_top","_law_bottom"] (spP (za8 w.params) ca zep):=zbh (n:=200) (Γ:=zm4) T39.F sc_Llowest rfl rfl za2 rfl za2 zah za2 zaf rfl ⟨za3,za2,za2,zao,(fun _ _ h=>by cases h),za3,za3,za3,za3,(fun _ _ _ h=>by cases h)⟩ ck_Llowest
 let D39:DefX pw w (za8 w.params) mg base 1 "_law_lowest" ["_law_top","_law_bottom"] (spP (za8 w.params) ca zep):=⟨T39.f,T39.fd,K39,T39.m,T39.F.kp,T39.b⟩;have K40:FnOk pw w (za8 w.params) mg base (CX1 pw w) 2 T40.f T40.fd ["_law_cell","_law_goal_here"] (spP (za8 w.params) ca zgl):=zbh (n:=200) (Γ:=gm_Lvalue) T40.F sc_Lvalue rfl rfl za2 rfl (all_cons b_len (all_cons b_max za2)) (zaa (by decide) D21 (zaa (by decide) D39 zah)) za2 zaf rfl ⟨za3,za2,za2,zao,(fun _ _ h=>by cases h),za3,za3,za3,za3,(fun _ _ _ h=>by cases h)⟩ ck_Lvalue
 let D40:DefX pw w (za8 w.params) mg base 2 "_law_value" ["_law_cell","_law_goal_here"] (spP (za8 w.params) ca zgl):=⟨T40.f,T40.fd,K40,T40.m,T40.F.kp,T40.b⟩;have K41:FnOk pw w (za8 w.params) mg base (CX1 pw w) 1 T41.f T41.fd ["_law_goal_here","_law_cell","_law_spec"] (spP (za8 w.params) ca zdu):=zbh (n:=200) (Γ:=zm2) T41.F sc_Lspoilt rfl rfl (all_cons (by rfl) (all_cons (by rfl) za2)) rfl (all_cons b_len za2) zah za2 zaf rfl ⟨za3,za2,za2,zao,(fun _ _ h=>by cases h),za3,za3,za3,za3,(fun _ _ _ h=>by cases h)⟩ ck_Lspoilt
 let D41:DefX pw w (za8 w.params) mg base 1 "_law_spoilt" ["_law_goal_here","_law_cell","_law_spec"] (spP (za8 w.params) ca zdu):=⟨T41.f,T41.fd,K41,T41.m,T41.F.kp,T41.b⟩;have K42:FnOk pw w (za8 w.params) mg base (CX1 pw w) 1 T42.f T42.fd ["_law_look","_law_value_here"] (spP (za8 w.params) ca zma):=zbh (n:=200) (Γ:=gm_Lmet) T42.F sc_Lmet rfl rfl za2 rfl za2 zah za2 zaf rfl ⟨za3,za2,za2,zao,(fun _ _ h=>by cases h),za3,za3,za3,za3,(fun _ _ _ h=>by cases h)⟩ ck_Lmet
 let D42:DefX pw w (za8 w.params) mg base 1 "_law_met" ["_law_look","_law_value_here"] (spP (za8 w.params) ca zma):=⟨T42.f,T42.fd,K42,T42.m,T42.F.kp,T42.b⟩;have K43:FnOk pw w (za8 w.params) mg base (CX1 pw w) 10 T43.f T43.fd ["_law_script"] (spP (za8 w.params) ca R_law):=zbh (n:=200) (Γ:=gm_law) T43.F sc_law rfl rfl (all_cons (by rfl) (all_cons (by rfl) (all_cons (by rfl) (all_cons (by rfl) za2)))) rfl (all_cons b_len (all_cons b_range (all_cons b_list (all_cons b_all (all_cons b_isinstance (all_cons b_bool za2)))))) (zaa (by decide) D26 (zaa (by decide) D28 (zaa (by decide) D1 (zaa (by decide) D40 (zaa (by decide) D37 (zaa (by decide) D19 (zaa (by decide) D42 (zaa (by decide) D38 (zaa (by decide) D41 zah))))))))) za2 zaf rfl ⟨za3,za2,za2,zao,(fun _ _ h=>by cases h),za3,za3,za3,za3,(fun _ _ _ h=>by cases h)⟩ ck_law
 exact law_fn K43 fun ns h=>law_true ns h
theorem walk{l:PySem.W.OpenLaw}{q:Program}{loose:List Str}{XP:(Str->Option Value)->Heap->Prop}{YP:World->Heap->Prop}{d:DefRec}{K:Params->PySem.W.Frag}(hn:l.most=some 63)(hdf:d.params.defaults=[])
  (hY:∀(w:World) (h:Heap),YP w h->(K w.params).In h)
  (F : ∀ (w : World) (mg : Str -> Option Value) (fa : Addr) (h : Heap), (K w.params).In h -> h.Ns mainGlobals mg -> mg d.name = some (.ref fa) ->
   ∃fd:FuncData,(∀(s:Shared) (u:Value),BindsTo s fd ⟨[u],[]⟩ [("_law_script",u)])/\∀base:Heap,(K w.params).In base->base.Ns mainGlobals mg->FnOk l.prog w (K w.params) mg base CX0 10 fa fd ["_law_script"] (spLaw (K w.params))) :
  PySem.W.WalkO q loose XP YP l.row.toRowW d [] (fun f vs=>PySem.call f vs) :=
 L2.walk_of (n:=63) (k:=10) (x:="_law_script") (CX:=fun _=>CX0) (sp:=fun w=>spLaw (K w.params)) hn (by decide) hdf ⟨rfl,by decide,by decide⟩ hY F (fun _ _ a ns hl _ hS=>⟨a,ns,rfl,hS,hl,fun _=>rfl⟩) fun _ _ _ _ _ z=>z
end Zl
open PySem PySem.W PyProof.Rows
set_option maxRecDepth 100000 in
set_option maxHeartbeats 0 in
theorem PySem.Challenge.cw_zonewalk_k42_goals_met_holds : PySem.Challenge.rw_zonewalk_k42_goals_met.Holds := by
 refine holds_law Zl.said fun s=>?_
 refine holds_open (q:=Zl.vq) (loose:=Zl.loo) (Xt:=Hd.xt PySem.Challenge.rw_zonewalk_k42_goals_met.row.toRowW Zl.vq) (XP:=XL Zl.vq []) (Yf:=Zl.hk.obs) (Ya:=Zl.hk.val) (YP:=Zl.hk.says) Zl.left Zl.hk.of Zl.hk.keeps (fun s e=>xl_of s (Bool.and_eq_true_iff.mp e).1) XL.keeps (by rfl) (by rfl) (by rfl) (fun s e=>recFacts_of (Bool.and_eq_true_iff.mp e).2) (by rfl) s (by decide +kernel) ⟨rfl,rfl,rfl,rfl,rfl,by decide +kernel⟩ ?hw ?hc
 case hw=>w_witness2
 case hc=>exact Zl.walk (l:=PySem.Challenge.rw_zonewalk_k42_goals_met) rfl rfl (fun w h Y=>kIn_of Y) fun w mg fa h X G e=>Zl.all_mk X G e
