import PyProof.Rows.All
import Wide.All
import OpenK.AllK
import Wide.FinOn
import Lean
import PyProof.EqAt
import PyProof.EqKinds
import PyProof.TupleCall
import PySem.Challenge.RW_zonewalk_k25_whole_doors_and_shares
set_option compiler.extract_closed false
set_option linter.all false
def ya0:=@List.getElem?_eq_getElem
def ya1:=@List.length_map
def ya2:=@Option.map_eq_some_iff
def ya3:=@List.getElem?_map
def ya4:=@Bool.and_eq_true
def ya5:=@List.getElem?_eq_some_iff
def ya6:=@List.mem_cons_of_mem
def ya7:=@List.getD_eq_getElem?_getD
def ya8:=@List.mem_cons_self
def ya9:=@List.mem_singleton
def yaa:=@Nat.le_refl
def yab:=@List.length_append
def yac:=@PySem.Heap.get?_push_of_some
def yad:=@PySem.Heap.lt_size
def yae:=@Nat.le_trans
def yaf:=@List.map_cons
def yag:=@List.mem_map
def yah:=@List.getElem?_set_ne
def yai:=@List.size_toArray
def yaj:=@List.mem_cons
def yak:=@Nat.lt_of_lt_of_le
def yal:=@List.getElem?_set_self
def yam:=@List.getElem_mem
def yan:=@List.mem_append_right
def yao:=@List.length_cons
def yap:=@List.append_nil
def yaq:=@List.map_append
def yar:=@Nat.ne_of_lt
def yas:=@Option.some.inj
def yat:=@List.mem_of_getElem?
def yau:=@List.all_eq_true
def yav:=@PySem.Heap.get?_push_size
def yaw:=@List.length_nil
def yax:=@List.map_map
def yay:=@Ne.symm
def yaz:=@List.getElem?_append_left
def yb0:=@List.contains_iff_mem
def yb1:=@List.lookup_cons
def yb2:=@Nat.zero_le
def yb3:=@List.getElem?_append_right
def yb4:=@List.mem_flatMap
def yb5:=@Bool.eq_false_iff
def yb6:=@List.mem_range
def yb7:=@List.getElem?_eq_none
def yb8:=@Array.getElem?_eq_getElem
def yb9:=@Nat.lt_irrefl
def yba:=@List.nil_append
def ybb:=@List.length_range
def ybc:=@List.flatMap_cons
def ybd:=@Int.fmod_nonneg_of_pos
def ybe:=@List.mem_append
def ybf:=@List.length_singleton
def ybg:=@Bool.false_ne_true
def ybh:=@PySem.W.kia_one
def ybi:=@List.append_assoc
def ybj:=@List.findIdx?_eq_some_iff_getElem
def ybk:=@PyProof.Rows.callWith_type1
def ybl:=@List.flatMap_nil
def ybm:=@Bool.not_eq_true'
def ybn:=@List.map_congr_left
def ybo:=@List.mem_iff_getElem?
def ybp:=@List.take_length
def ybq:=@Bool.or_eq_false_iff
def ybr:=@Int.eq_ofNat_of_zero_le
def ybs:=@List.length_set
def ybt:=@Option.map_some
def ybu:=@Array.getD_eq_getD_getElem?
def ybv:=@PySem.mem_of_lookup
def ybw:=@List.replicate_succ
def ybx:=@List.not_mem_nil
def yby:=@Int.fmod_lt_of_pos
def ybz:=@List.mem_append_left
def yc0:=@PySem.W.hideAll_get
def yc1:=@List.getElem?_range
def yc2:=@PySem.Heap.size_push
def yc3:=@List.length_take
def yc4:=@PySem.Heap.get?_update_other
def yc5:=@List.mem_filterMap
def yc6:=@List.map_nil
def yc7:=@Bool.false_eq_true
def yc8:=@Bool.or_eq_true
def yc9:=@Bool.eq_iff_iff
def yca:=@Array.getElem?_eq_some_iff
def ycb:=@List.flatten_cons
def ycc:=@Nat.lt_succ_of_lt
def ycd:=@List.drop_eq_getElem_cons
def yce:=@Nat.le_succ
def ycf:=@List.getElem?_take_of_lt
def ycg:=@Nat.le_add_right
def ych:=@PySem.F.slot_str_getitem
def yci:=@List.getElem?_cons_succ
def ycj:=@PySem.F.plainAttrs_list
def yck:=@PySem.W.of_hideAll
def ycl:=@List.find?_cons
def ycm:=@List.getElem?_drop
def ycn:=@List.zip_cons_cons
def yco:=@PyProof.Rows.boot_isinstance
def ycp:=@Array.getElem?_toList
def ycq:=@Nat.lt_succ_self
def ycr:=@PySem.F.excBase_ValueError
def ycs:=@List.length_pos_iff
def yct:=@PySem.F.called_set
def ycu:=@List.length_range'
def ycv:=@List.getElem?_replicate
def ycw:=@PyProof.Rows.F.plain_set_update_loop
def ycx:=@List.ext_getElem?
def ycy:=@PyProof.V.reads_dictOf
def ycz:=@PySem.SeqAt.notIn_list_reads
def yd0:=@PyProof.Rows.boot_list
def yd1:=@Nat.add_mul
def yd2:=@Nat.one_mul
def yd3:=@List.cons.inj
def yd4:=@List.getElem_inj
def yd5:=@List.length_replicate
def yd6:=@Nat.lt_trans
def yd7:=@List.mem_filter
def yd8:=@PySem.W.hideAll_none
def yd9:=@List.nodup_cons
def yda:=@Nat.add_comm
def ydb:=@Nat.zero_add
def ydc:=@List.filterMap_cons
def ydd:=@Array.length_toList
def yde:=@PySem.W.plainGet_of
def ydf:=@PySem.SeqAt.in_list_reads
def ydg:=@List.length_reverse
def ydh:=@Bool.false_and
def ydi:=@PySem.W.callWith_K
def ydj:=@List.contains_cons
def ydk:=@List.findIdx?_cons
def ydl:=@PySem.Paired.length
def ydm:=@Bool.or_false
def ydn:=@List.any_cons
def ydo:=@Bool.false_or
def ydp:=@PySem.W.kitx_dict
def ydq:=@Option.some.injEq
def ydr:=@List.pairwise_map
def yds:=@List.mem_range'_1
def ydt:=@Nat.succ_le_succ
def ydu:=@Nat.le_of_lt
def ydv:=@Bool.true_or
def ydw:=@PySem.Txt.slice_le
def ydx:=@List.isEmpty_iff
def ydy:=@List.cons_ne_nil
set_option Elab.async false
set_option linter.all false
set_option maxRecDepth 100000
set_option genSizeOf false
local macro_rules
  |`(tactic| omega)=>`(tactic| first
    |assumption
    |exact yae (by assumption) (by decide +kernel)
    |exact yak (by assumption) (by decide +kernel)
    |exact Nat.lt_of_le_of_lt (by assumption) (by decide +kernel)
    |exact Nat.succ_pos _
    |exact yak (by assumption) (ydt (yae (by assumption) (by decide +kernel)))
    |exact ydt (yae (by assumption) (by decide +kernel))
    |exact yd6 (by assumption) (by assumption)
    |exact yak (by assumption) (by assumption)
    |exact Int.lt_trans (b:=0) (by decide +kernel) (by assumption)
    |exact Int.lt_of_lt_of_le (b:=0) (by decide +kernel) (by assumption)
    |exact Int.lt_of_le_of_lt (by assumption) (by decide +kernel)
    |exact Int.le_trans (by assumption) (by decide +kernel)
    |exact Int.le_of_lt (by assumption)
    |exact Int.ne_of_gt (by assumption)
    |lia
    |fail)
namespace L2
open PySem PySem.Spec PyProof.Rows
abbrev Key:=Sum Int Str
def zop:Key->Value->Bool
 |.inl k,v=>Value.isInt k v
 |.inr x,v=>Value.isStrOf x v
def keyH(w:World):Key->Int
 |.inl k=>hashInt k
 |.inr x=>hashStr w x
theorem zb0:∀{k:Key} {v:Value},zop k v=true->(∃i t,k=Sum.inl i/\v=Value.int i t)\/(∃x t,k=Sum.inr x/\v=Value.str x t)
 |.inl i,v,h=>by
  obtain⟨t,e⟩:=Value.isInt_shape (k:=i) (v:=v) h;exact .inl ⟨i,t,rfl,e⟩
 |.inr x,v,h=>by
  obtain⟨t,e⟩:=Value.isStrOf_shape (x:=x) (v:=v) h;exact .inr ⟨x,t,rfl,e⟩
theorem zxq(i:Int)(t:Tok):zop (.inl i) (.int i t)=true:=by simp[zop,Value.isInt]
theorem zxp(x:Str)(t:Tok):zop (.inr x) (.str x t)=true:=by simp[zop,Value.isStrOf]
theorem zLe(a b:Int):decide ((Sum.inl a:Key)=Sum.inl b)=(a == b):=by
 by_cases e:a=b
 ·subst e;simp
 ·have h:¬ (Sum.inl a:Key)=Sum.inl b:=λq=>e (Sum.inl.inj q)
  rw[decide_eq_false h];exact(beq_eq_false_iff_ne.mpr e).symm
theorem zLb(a b:Str):decide ((Sum.inr a:Key)=Sum.inr b)=decide (a=b):=by
 by_cases e:a=b
 ·subst e;simp
 ·have h:¬ (Sum.inr a:Key)=Sum.inr b:=λq=>e (Sum.inr.inj q)
  rw[decide_eq_false h,decide_eq_false e]
theorem zLd(a:Int)(b:Str):decide ((Sum.inl a:Key)=Sum.inr b)=false:=decide_eq_false (λq=>nomatch q)
theorem zLc(a:Str)(b:Int):decide ((Sum.inr a:Key)=Sum.inl b)=false:=decide_eq_false (λq=>nomatch q)
def zbk(prog:Program)(w:World):PySem.KeyKind prog w Key where
 is:=zop
 hash:=keyH w
 inj:=λv a b ha hb=>by
  rcases zb0 ha with ⟨i,t,rfl,rfl⟩|⟨x,t,rfl,rfl⟩
  ·rcases zb0 hb with ⟨j,u,rfl,e⟩|⟨y,u,rfl,e⟩
   ·injection e with e1 _;rw[e1]
   ·exact nomatch e
  ·rcases zb0 hb with ⟨j,u,rfl,e⟩|⟨y,u,rfl,e⟩
   ·exact nomatch e
   ·injection e with e1 _;rw[e1]
 byValue:=λk v h=>by
  rcases zb0 h with ⟨i,t,rfl,rfl⟩|⟨x,t,rfl,rfl⟩<;>rfl
 pyHash:=λhv h=>by
  rcases zb0 hv with ⟨i,t,rfl,rfl⟩|⟨x,t,rfl,rfl⟩
  ·exact wpAny_pyHash_int h
  ·exact wpAny_pyHash_str h
 eqBool:=λhu hv h=>by
  rcases zb0 hu with ⟨i,t,rfl,rfl⟩|⟨x,t,rfl,rfl⟩
  ·rcases zb0 hv with ⟨j,u,rfl,rfl⟩|⟨y,u,rfl,rfl⟩
   ·rw[zLe]at h;exact wpAny_eqBool_int h
   ·rw[zLd]at h;exact SeqAt.EqAt.int_str i t y u _ _ _ _ h
  ·rcases zb0 hv with ⟨j,u,rfl,rfl⟩|⟨y,u,rfl,rfl⟩
   ·rw[zLc]at h;exact SeqAt.EqAt.str_int x t j u _ _ _ _ h
   ·rw[zLb]at h;exact wpAny_eqBool_str h
 «strs»:=λk x t v h=>by
  rcases zb0 h with ⟨i,u,rfl,e⟩|⟨y,u,rfl,e⟩
  ·exact nomatch e
  ·injection e with e1 _
   subst e1;cases v<;>rfl
theorem zsn(prog:Program)(w:World)(i:Int)(t:Tok):(zbk prog w).is (.inl i) (.int i t)=true:=zxq i t
theorem zsm(prog:Program)(w:World)(x:Str)(t:Tok):(zbk prog w).is (.inr x) (.str x t)=true:=zxp x t
inductive V where
 |non|bl (b:Bool)|int (i:Int)|str (x:Str)|byt (b:Array UInt8)|flt (b:UInt64)|ref (a:Addr)|ty (n:String)
 deriving DecidableEq
def RelV:V->Value->Prop
 |.non,u=>u=Value.none
 |.bl b,u=>u=Value.bool b
 |.int i,u=>∃t,u=Value.int i t
 |.str x,u=>∃t,u=Value.str x t
 |.byt b,u=>∃t,u=Value.bytes b t
 |.flt b,u=>∃t,u=Value.float b t
 |.ref a,u=>u=Value.ref a
 |.ty n,u=>u=Value.type n
abbrev zbp:List V->List Value->Prop:=Paired RelV
theorem zbp.length{xs:List V}{us:List Value}(r:zbp xs us):xs.length=us.length:=ydl r
theorem zbp.get:∀{xs:List V} {us:List Value} {i:Nat} {x:V},zbp xs us->xs[i]?=some x->∃u,us[i]?=some u/\RelV x u
 |_,_,_,_,.nil,e=>by simp at e
 |_,_,0,_,.cons r _,e=>by simp at e;subst e;exact⟨_,rfl,r⟩
 |_,_,i+1,x,.cons _ t,e=>by
  obtain⟨u,h1,h2⟩:=zbp.get (i:=i) (x:=x) t (by simpa using e)
  exact⟨u,by simpa using h1,h2⟩
theorem zbp.set{x:V}{u:Value}(r:RelV x u):∀{xs:List V} {us:List Value} (i:Nat),zbp xs us->zbp (xs.set i x) (us.set i u)
 |_,_,_,.nil=>.nil
 |_,_,0,.cons _ t=>.cons r t
 |_,_,i+1,.cons q t=>.cons q (zbp.set r i t)
theorem zbp.append:∀{xs ys:List V} {us ws:List Value},zbp xs us->zbp ys ws->zbp (xs++ys) (us++ws)
 |_,_,_,_,.nil,s=>s
 |_,_,_,_,.cons r t,s=>.cons r (zbp.append t s)
theorem zbp.take:∀{xs:List V} {us:List Value} (n:Nat),zbp xs us->zbp (xs.take n) (us.take n)
 |_,_,0,_=>.nil
 |_,_,_+1,.nil=>.nil
 |_,_,n+1,.cons r t=>.cons r (zbp.take n t)
theorem zbp.drop:∀{xs:List V} {us:List Value} (n:Nat),zbp xs us->zbp (xs.drop n) (us.drop n)
 |_,_,0,r=>r
 |_,_,_+1,.nil=>.nil
 |_,_,n+1,.cons _ t=>zbp.drop n t
def zrx:Option V->Option Value->Prop
 |some v,some u=>RelV v u
 |none,none=>True
 |_,_=>False
def KV{κ:Type}:List (κ×V)->List (κ×Value)->Prop:=Paired λ(p:κ×V) (q:κ×Value)=>p.1=q.1/\RelV p.2 q.2
def kV:Key->V
 |.inl i=>.int i
 |.inr x=>.str x
inductive HO where
 |lst (xs:List V)
 |tup (xs:List V)
 |dK (kvs:List (Key×V))|dT (kvs:List (List Key×V))
 |set (S:Int->Bool) (n:Nat)
 |ins (C dx:Addr) (fs:List (Str×V))
 |own (x:Addr)
 |xd (fs:List (Str×V))
 |met (f x:Addr)
 |rng (lo hi:Int)
 |frz (o:Obj) (u:HO)
 |tbl (ps:Array Value)
 |ext (φ:Heap->Prop)
abbrev Hp:=Addr->Option HO
def upd(H:Hp)(a:Addr)(o:HO):Hp:=λb=>if b=a then some o else H b
theorem zar{H:Hp}{a:Addr}{o:HO}:upd H a o a=some o:=by unfold upd;rw[if_pos rfl]
theorem zag{H:Hp}{a b:Addr}{o:HO}(h:b≠a):upd H a o b=H b:=by unfold upd;rw[if_neg h]
theorem ne_of{H:Hp}{a b:Addr}{o u:HO}(h:H a=some o)(h':H b=some u)(d:o≠u):a≠b:=by
 intro e;subst e;rw[h]at h';exact d (yas h')
theorem zaf{H:Hp}{a b:Addr}{o:HO}(h:H a=some o)(h':H b=none):a≠b:=by
 intro e;subst e;rw[h]at h';cases h'
section
variable (P:Program)(w:World)
def zbo(H:Hp)(h:Heap)(a:Addr):HO->Prop
 |.lst xs=>xs.length<=sizeLine/\∃(its:List Value) (n:Nat),zbp xs its/\h.get? a=some { cls:=.type "list",data:=.seq its.toArray n }
 |.tup xs=>xs.length<=sizeLine/\∃its:List Value,zbp xs its/\IsTup h a its.toArray
 |.dK kvs=>kvs.length<=sizeLine/\(a == sysModules)=false/\∃vs,KV kvs vs/\h.DictOf (zbk P w) a vs
 |.dT kvs=>kvs.length<=sizeLine/\(a == sysModules)=false/\∃xs:List (List Key×Addr×Value),
   Paired (λ(p:List Key×V) (q:List Key×Addr×Value)=>p.1=q.1/\H q.2.1=some (.tup (p.1.map kV))/\RelV p.2 q.2.2) kvs xs /\
   ∃o es ep,h.get? a=some o/\o.ExactDict/\o.data=.dict es ep/\es.toList=xs.map (entryOfKey (tupleKind (zbk P w)))/\(xs.map (·.1)).Nodup
 |.set S n=>h.SetOf (intKind P w) a S n
 |.ins C dx fs=>H dx=some (.own a)/\fs.length<=1000/\dx≠a/\h.get? a=some (PySem.W.instObj C dx) /\
   ∃mA,h.Ns1 dx mA/\(∀f,zrx (fs.lookup f) (mA f))/\PySem.Within mA (fs.map (·.1))
 |.own _=>∃o,h.get? a=some o
 |.xd fs=>∃mA,h.Ns1 a mA/\∀f,zrx (fs.lookup f) (mA f)
 |.rng lo hi=>∃t u v,h.get? a=some { cls:=.type "range",data:=.fields #[.int lo t,.int hi u,.int 1 v] }
 |.frz o u=>h.get? a=some o/\zbo H h a u
 |.tbl ps=>h.get? a=some { cls:=.none,data:=.fields ps }
 |.met f x=>h.get? a=some (PySem.W.methodObj (.ref f) (.ref x))
 |.ext φ=>φ h/\(∃o,h.get? a=some o)/\∀h1 h2:Heap,φ h1->(∀o,h1.get? a=some o->h2.get? a=some o)->φ h2
def HOk(H:Hp)(h:Heap):Prop:=∀a o,H a=some o->zbo P w H h a o
end
section
variable {P:Program}{w:World}{H H':Hp}{h h':Heap}{a:Addr}{o:HO}
theorem zbo.lt(x:zbo P w H h a o):a<h.objs.size:=by
 cases o with
 |lst xs=>obtain⟨_,_,_,_,e⟩:=x;exact yad e
 |tup xs=>obtain⟨_,_,_,p⟩:=x;exact p.lt
 |dK kvs=>obtain⟨_,_,_,_,o,_,_,e,_⟩:=x;exact yad e
 |dT kvs=>obtain⟨_,_,_,_,o,_,_,e,_⟩:=x;exact yad e
 |set S n=>obtain⟨o,_,_,_,e,_⟩:=x;exact yad e
 |ins C dx fs=>obtain⟨_,_,_,e,_⟩:=x;exact yad e
 |own y=>obtain⟨_,e⟩:=x;exact yad e
 |xd fs=>obtain⟨_,⟨_,_,_,e,_⟩,_⟩:=x;exact yad e
 |rng lo hi=>obtain⟨_,_,_,e⟩:=x;exact yad e
 |frz ob u=>obtain⟨e,_⟩:=x;exact yad e
 |tbl ps=>exact yad (show h.get? a=some _ from x)
 |met f y=>exact yad (show h.get? a=some _ from x)
 |ext φ=>obtain⟨_,⟨_,e⟩,_⟩:=x;exact yad e
theorem Paired.mapP{α β:Type}{F G:α->β->Prop}:∀{l₁:List α} {l₂:List β},Paired F l₁ l₂->(∀a b,F a b->G a b)->Paired G l₁ l₂
 |_,_,.nil,_=>.nil
 |_,_,.cons r t,f=>.cons (f _ _ r) (Paired.mapP t f)
theorem zbo.stay(x:zbo P w H h a o)(k:∀b u,(b=a\/H b=some (.own a))->h.get? b=some u->h'.get? b=some u)
  (ho:∀b,H b=some (.own a)->H' b=some (.own a)) (ht:∀b xs,H b=some (.tup xs)->H' b=some (.tup xs)):zbo P w H' h' a o:=by
 induction o with
 |lst xs=>obtain⟨z,its,n,r,e⟩:=x;exact⟨z,its,n,r,k _ _ (.inl rfl) e⟩
 |tup xs=>obtain⟨z,its,r,ob,e,c⟩:=x;exact⟨z,its,r,ob,k _ _ (.inl rfl) e,c⟩
 |dK kvs=>obtain⟨z,y,vs,r,ob,es,ep,e,c⟩:=x;exact⟨z,y,vs,r,ob,es,ep,k _ _ (.inl rfl) e,c⟩
 |dT kvs =>
  obtain⟨z,y,xs,r,ob,es,ep,e,c⟩:=x;exact⟨z,y,xs,Paired.mapP r λp q z=>⟨z.1,ht _ _ z.2.1,z.2.2⟩,ob,es,ep,k _ _ (.inl rfl) e,c⟩
 |set S n=>obtain⟨ob,es,ep,t,e,c⟩:=x;exact⟨ob,es,ep,t,k _ _ (.inl rfl) e,c⟩
 |ins C dx fs =>
  obtain⟨d,z,ne,e,mA,⟨od,es,ep,e2,c⟩,r⟩:=x;exact⟨ho _ d,z,ne,k _ _ (.inl rfl) e,mA,⟨od,es,ep,k _ _ (.inr d) e2,c⟩,r⟩
 |own y=>obtain⟨ob,e⟩:=x;exact⟨ob,k _ _ (.inl rfl) e⟩
 |xd fs=>obtain⟨mA,⟨od,es,ep,e,c⟩,r⟩:=x;exact⟨mA,⟨od,es,ep,k _ _ (.inl rfl) e,c⟩,r⟩
 |rng lo hi=>obtain⟨t,u,v,e⟩:=x;exact⟨t,u,v,k _ _ (.inl rfl) e⟩
 |frz ob u ih=>obtain⟨e,q⟩:=x;exact⟨k _ _ (.inl rfl) e,ih q⟩
 |tbl ps =>
  have e:h.get? a=some { cls:=.none,data:=.fields ps }:=x;show h'.get? a=some { cls:=.none,data:=.fields ps };exact k a _ (.inl rfl) e
 |met f y =>
  have e:h.get? a=some (PySem.W.methodObj (.ref f) (.ref y)):=x;show h'.get? a=some (PySem.W.methodObj (.ref f) (.ref y));exact k a _ (.inl rfl) e
 |ext φ=>obtain⟨p,⟨o,e⟩,st⟩:=x;exact⟨st _ _ p λo q=>k _ _ (.inl rfl) q,⟨o,k _ _ (.inl rfl) e⟩,st⟩
theorem HOk.lt(x:HOk P w H h)(e:H a=some o):a<h.objs.size:=(x a o e).lt
theorem HOk.fresh(x:HOk P w H h)(e:h.objs.size<=a):H a=none:=by
 cases q:H a with
 |none=>rfl
 |some u=>exact absurd (yak (x.lt q) e) (yb9 _)
theorem HOk.kept(x:HOk P w H h)(k:∀b u,h.get? b=some u->h'.get? b=some u):HOk P w H h':=λa o e =>
 (x a o e).stay (λb u _ q=>k b u q) (λ_ q=>q) λ_ _ q=>q
theorem HOk.laid(x:HOk P w H h)(k:∀b u,h.get? b=some u->h'.get? b=some u)(hp:h.objs.size<=a)(new:zbo P w (upd H a o) h' a o):HOk P w (upd H a o) h':=λb u e=>by
 have hn:=x.fresh hp
 by_cases hb:b=a
 ·subst hb;rw[zar]at e;cases e;exact new
 ·rw[zag hb]at e;exact(x b u e).stay (λc v _ q=>k c v q) (λc q=>by rw[zag (zaf q hn)];exact q) λc xs q=>by rw[zag (zaf q hn)];exact q
end
def Rd(H:Hp)(a:Addr)(u:HO):Prop:=H a=some u\/∃o,H a=some (.frz o u)
theorem Rd.ok{P:Program}{w:World}{H:Hp}{h:Heap}{a:Addr}{u:HO}(r:Rd H a u)(x:HOk P w H h):zbo P w H h a u:=by
 rcases r with r|⟨o,r⟩
 ·exact x a u r
 ·obtain⟨_,q⟩:=x a _ r;exact q
def Mut:Option HO->Prop
 |some (.lst _)=>True
 |some (.dK _)=>True
 |some (.dT _)=>True
 |some (.set _ _)=>True
 |some (.ins _ _ _)=>True
 |some (.ext _)=>True
 |_=>False
section
variable {P:Program}{w:World}{H:Hp}{h h':Heap}{x e:Addr}{o':HO}
theorem HOk.write(ok:HOk P w H h)(mu:Mut (H x))(he:e=x\/H e=some (.own x))(k:∀b u,b≠e->h.get? b=some u->h'.get? b=some u)(heo:∃u,h'.get? e=some u)
  (new:zbo P w (upd H x o') h' x o'):HOk P w (upd H x o') h':=λb u q=>by
 have nown:∀c y,H c=some (.own y)->c≠x:=λc y r z=>by subst z;rw[r]at mu;exact mu
 have ntup:∀c xs,H c=some (.tup xs)->c≠x:=λc xs r z=>by subst z;rw[r]at mu;exact mu
 by_cases hb:b=x
 ·subst hb;rw[zar]at q;cases q;exact new
 ·rw[zag hb]at q
  by_cases hbe:b=e
  ·have q':H b=some (.own x):=by
    rcases he with z|z
    ·exact absurd (hbe.trans z) hb
    ·rw[hbe];exact z
   rw[q]at q';cases q';obtain⟨v,hv⟩:=heo;exact⟨v,by rw[hbe];exact hv⟩
  ·refine(ok b u q).stay (λc v hc r=>k c v ?_ r) (λc r=>by rw[zag (nown c b r)];exact r) λc xs r=>by rw[zag (ntup c xs r)];exact r
   rcases hc with rfl|hc
   ·exact hbe
   ·rintro rfl
    rcases he with z|z
    ·exact nown c b hc z
    ·rw[hc]at z;cases z;exact hb rfl
end
structure Un(fs ex:List Addr)(H H':Hp)(h h':Heap):Prop where
 keep:∀b o,h.get? b=some o->H b=none->b∉fs->b∉ex->h'.get? b=some o
 slot:∀b o,h.get? b=some o->H b=none->b∈fs->b∉ex->∃sl,h'.get? b=some { o with slots:=sl }
 free:∀b o,h.get? b=some o->H b=none->b∉ex->H' b=none
 there:∀b o,h.get? b=some o->b∉ex->∃o',h'.get? b=some o'
 tups:∀b xs,H b=some (.tup xs)->H' b=some (.tup xs)
 frzs:∀b o u,H b=some (.frz o u)->H' b=some (.frz o u)
 tbls:∀b ps,H b=some (.tbl ps)->∃more,H' b=some (.tbl (ps++more))
section
variable {fs fs' ex ex':List Addr}{H H1 H2:Hp}{h h1 h2 h':Heap}{a x e:Addr}{o:HO}
theorem Un.any(u:Un fs ex H H1 h h1){b:Addr}{ob:Obj}(q:h.get? b=some ob)(n:H b=none)(hx:b∉ex):∃sl,h1.get? b=some { ob with slots:=sl }:=by
 by_cases hb:b∈fs
 ·exact u.slot b ob q n hb hx
 ·exact⟨ob.slots,u.keep b ob q n hb hx⟩
theorem Un.kept(k:∀b u,h.get? b=some u->h'.get? b=some u):Un fs ex H H h h' :=
 ⟨λb ob q _ _ _=>k b ob q,λb ob q _ _ _=>⟨ob.slots,k b ob q⟩,λ_ _ _ n _=>n,λb ob q _=>⟨ob,k b ob q⟩,λ_ _ q=>q,λ_ _ _ q=>q,λ_ ps q=>⟨#[],by rw[q];simp⟩⟩
theorem Un.refl:Un fs ex H H h h:=Un.kept λ_ _ q=>q
theorem Un.laid(k:∀b u,h.get? b=some u->h'.get? b=some u)(hp:h.objs.size<=a)(hn:H a=none):Un fs ex H (upd H a o) h h' where
 keep:=λb u q _ _ _=>k b u q
 slot:=λb u q _ _ _=>⟨u.slots,k b u q⟩
 free:=λb u q n _=>by rw[zag (yar (yak (yad q) hp))];exact n
 there:=λb u q _=>⟨u,k b u q⟩
 tups:=λb xs q=>by rw[zag (zaf q hn)];exact q
 frzs:=λb u xs q=>by rw[zag (zaf q hn)];exact q
 tbls:=λb ps q=>⟨#[],by rw[zag (zaf q hn),q];simp⟩
theorem Un.write(mu:Mut (H x))(he:e=x\/H e=some (.own x))(k:∀b u,b≠e->h.get? b=some u->h'.get? b=some u)(heo:∃u,h'.get? e=some u):Un fs ex H (upd H x o) h h':=by
 have hx:∀b,H b=none->b≠x:=λb n z=>by subst z;rw[n]at mu;exact mu
 have hb:∀b,H b=none->b≠e:=λb n z=>by
  subst z
  rcases he with r|r
  ·exact hx b n r
  ·rw[n]at r;cases r
 have hm:∀b u,H b=some u->¬ Mut (some u)->b≠x:=λb u q nm z=>by subst z;rw[q]at mu;exact nm mu
 refine⟨λb u q n _ _=>k b u (hb b n) q,λb u q n _ _=>⟨u.slots,k b u (hb b n) q⟩,λb u q n _=>by rw[zag (hx b n)];exact n,λb u q _=>?_,
  λb xs q=>by rw[zag (hm b _ q λz=>z)];exact q,λb u xs q=>by rw[zag (hm b _ q λz=>z)];exact q,λb ps q=>⟨#[],by rw[zag (hm b _ q λz=>z),q];simp⟩⟩
 by_cases hbe:b=e
 ·subst hbe;exact heo
 ·exact⟨u,k b u hbe q⟩
end
def trk(h:Heap)(H:Hp):List Addr:=(List.range h.objs.size).filter λa=>(H a).isSome
def zBh(h:Heap)(H:Hp):Heap:=PySem.W.hideAll h (trk h H)
theorem zxx(h:Heap)(H:Hp):(zBh h H).objs.size=h.objs.size:=PySem.W.hideAll_size _ _
theorem zBg{h:Heap}{H:Hp}{b:Addr}{o:Obj}(e:h.get? b=some o)(n:H b=none):(zBh h H).get? b=some o :=
 yc0 _ e λhm=>by
  have q:(H b).isSome=true:=(yd7.mp hm).2;rw[n]at q;simp at q
theorem zFv{h:Heap}{H:Hp}{b:Addr}{o:Obj}(e:(zBh h H).get? b=some o):h.get? b=some o/\H b=none:=by
 have e':h.get? b=some o:=yck (trk h H) e;refine⟨e',?_⟩;cases q:H b with
 |none=>rfl
 |some x =>
  have hm:b∈trk h H:=yd7.mpr ⟨yb6.mpr (yad e'),by simp[q]⟩
  have z:(zBh h H).get? b=none:=yd8 (trk h H) hm;rw[z]at e;cases e
structure Mod(K:PySem.W.Frag)(mg:Str->Option Value)(base:Heap):Prop where
 kin:K.In base
 glob:base.Ns mainGlobals mg
 blt:∃mb,base.Ns builtinsNs mb/\∀x:Str,x≠"__name__"->mb x=bootBuiltins x
 nolimit:base.NoLimit
set_option genInjectivity false in
structure Cx where
 prog:Program
 w:World
 K:PySem.W.Frag
 mg:Str->Option Value
 base:Heap
 A:Around
 N:List Str
 s₀:Shared
 H₀:Hp
 env:Env
 outer:List Env
 stack:List Env
 ex:List Addr
 fn:Str->Bool
 calm:Bool
 pn:List (Addr×Obj)
 xe:Value->Shared->Prop
def frs(l:List Env):List Addr:=l.filterMap (·.frame)
abbrev Cx.fs(X:Cx):List Addr:=frs X.outer
def Vis(sc:Scope)(x:Str):Prop:=sc.names.lookup x=some .local\/sc.names.lookup x=some .cell\/sc.names.lookup x=some .free
def Loc(sc:Scope)(x:Str):Prop:=sc.names.lookup x=some .local\/sc.names.lookup x=some .cell
def Look(env:Env)(h:Heap)(m:Str->Option Value)(x:Str)(u:Value):Prop :=
 (env.kindOf x=some .local/\m x=some u)\/((env.kindOf x=some .cell\/env.kindOf x=some .free)/\∃c,env.cells.lookup x=some c/\h.IsCell c (some u))
structure Cx.Ok(X:Cx):Prop where
 mod:Mod X.K X.mg X.base
 kind:X.env.scope.kind=.function
 glob:X.env.globals=mainGlobals
 blt:X.env.builtins=builtinsNs
 above:X.s₀.heap.objs.size<=X.env.locals
 inj:∀x y c,X.env.cells.lookup x=some c->X.env.cells.lookup y=some c->x=y
 has:∀x,(X.env.kindOf x=some .cell\/X.env.kindOf x=some .free)->∃c,X.env.cells.lookup x=some c
 cab:∀x c,X.fn x=true->X.env.cells.lookup x=some c->X.s₀.heap.objs.size<=c
 hd:X.calm=true->X.A.handled=none
 frames:X.A.frames=some X.stack
 stk:X.stack=X.outer\/(X.stack=X.env::X.outer/\X.env.frame=some X.env.locals)
 exf:∀b∈X.ex,b≠X.env.locals/\∀x c,X.env.cells.lookup x=some c->c≠b
 bs:∀b o,X.base.get? b=some o->X.s₀.heap.get? b=some o/\X.H₀ b=none
 bsz:X.base.objs.size<=X.s₀.heap.objs.size
 noex:∀b o,X.base.get? b=some o->b∉X.ex
 exfs:∀b∈X.ex,b∉X.fs
 funs:X.s₀.heap.FunFrames X.base X.outer
 frf:∀b∈X.fs,X.H₀ b=none
structure Inv(X:Cx)(pins:List (Addr×Obj))(σ:List (Option V))(H:Hp)(s:Shared):Prop where
 ok:X.Ok
 os:s.os=X.s₀.os
 bare:AllBare s.gens
 base:Un X.fs X.ex X.H₀ H X.s₀.heap s.heap
 loc:∃m,s.heap.Ns X.env.locals m/\∀(i:Nat) (x:Str) (v:V),X.N[i]?=some x->σ[i]?=some (some v)->Vis X.env.scope x->∃u,RelV v u/\Look X.env s.heap m x u
 cell:∀x c,X.env.cells.lookup x=some c->∃v,s.heap.IsCell c v
 free:H X.env.locals=none
 freeC:∀x c,X.env.cells.lookup x=some c->H c=none
 pin:∀p∈X.pn++pins,s.heap.get? p.1=some p.2/\H p.1=none/\p.1≠X.env.locals/\p.1∉X.fs/\∀v,p.2.data≠.cell v
 hok:HOk X.prog X.w H s.heap
 len:σ.length=X.N.length
section
variable {X:Cx}{pins:List (Addr×Obj)}{σ:List (Option V)}{H H':Hp}{s:Shared}{h':Heap}
theorem Cx.Ok.nofr(ok:X.Ok){b:Addr}{o:Obj}(e:X.base.get? b=some o):b∉X.fs:=λhb=>by
 have:=(ok.funs.mem hb).1;rw[e]at this;cases this
theorem Inv.bs(I:Inv X pins σ H s):∀b o,X.base.get? b=some o->s.heap.get? b=some o/\H b=none:=λb o e =>
 ⟨I.base.keep b o (I.ok.bs b o e).1 (I.ok.bs b o e).2 (I.ok.nofr e) (I.ok.noex b o e),I.base.free b o (I.ok.bs b o e).1 (I.ok.bs b o e).2 (I.ok.noex b o e)⟩
theorem Inv.bk(I:Inv X pins σ H s):∀b o,X.base.get? b=some o->s.heap.get? b=some o:=λb o e=>(I.bs b o e).1
theorem Inv.mod(I:Inv X pins σ H s):Mod X.K X.mg X.base:=I.ok.mod
theorem Inv.kIn(I:Inv X pins σ H s):X.K.In s.heap:=I.ok.mod.kin.keeps I.bk
theorem Inv.lt(I:Inv X pins σ H s):X.env.locals<s.heap.objs.size:=let ⟨_,hn,_⟩:=I.loc;hn.lt
theorem Inv.sz(I:Inv X pins σ H s):X.s₀.heap.objs.size<=s.heap.objs.size:=yae I.ok.above (ydu I.lt)
theorem Inv.nofs(I:Inv X pins σ H s){a:Addr}(h:s.heap.objs.size<=a):a∉X.fs:=λhb=>by
 obtain⟨_,o,ho,_⟩:=I.ok.funs.mem hb;exact absurd (yak (yad ho) (yae I.sz h)) (yb9 _)
theorem Inv.cne(I:Inv X pins σ H s):∀x c,X.env.cells.lookup x=some c->c≠X.env.locals:=λx c e z=>by
 obtain⟨v,o,ho,hd⟩:=I.cell x c e;obtain⟨m,⟨o',es,ep,ho',hd',_⟩,_⟩:=I.loc;rw[z,ho']at ho;cases ho;rw[hd']at hd;cases hd
theorem Inv.funs(I:Inv X pins σ H s):s.heap.FunFrames X.base X.outer:=by
 have all:∀(l:List Env),(∀b∈frs l,b∈X.fs)->X.s₀.heap.FunFrames X.base l->s.heap.FunFrames X.base l:=by
  intro l
  induction l with
  |nil=>intro _ _;trivial
  |cons env r ih =>
   intro hs hl;obtain⟨hk,⟨L,o,hf,hn,ho,hd⟩,hr⟩:=hl;have hL:L∈X.fs:=hs L (by unfold frs;rw[ydc,hf];exact ya8)
   obtain⟨sl,e⟩:=I.base.slot L o ho (I.ok.frf L hL) hL λz=>I.ok.exfs L z hL
   exact⟨hk,⟨L,_,hf,hn,e,hd⟩,ih (λb hb=>hs b (by unfold frs;rw[ydc,hf];exact ya6 _ hb)) hr⟩
 exact all X.outer (λ_ hb=>hb) I.ok.funs
theorem Inv.stack(I:Inv X pins σ H s):s.heap.FunFrames X.base X.stack:=by
 rcases I.ok.stk with e|⟨e,hf⟩
 ·rw[e];exact I.funs
 ·rw[e];obtain⟨m,hn,_⟩:=I.loc;refine .cons (by rw[I.ok.kind];decide) hf hn ?_ I.funs
  exact Heap.get?_none_of_le (yae I.ok.bsz I.ok.above)
theorem Inv.stkSub(I:Inv X pins σ H s):∀b∈frs X.stack,b∈X.env.locals::X.fs:=λb hb=>by
 rcases I.ok.stk with e|⟨e,hf⟩
 ·rw[e]at hb;exact ya6 _ hb
 ·rw[e]at hb;unfold frs at hb;rw[ydc,hf]at hb;exact hb
theorem Inv.stkFree(I:Inv X pins σ H s):∀b∈frs X.stack,H b=none:=λb hb=>by
 rcases yaj.mp (I.stkSub b hb) with e|hb
 ·rw[e];exact I.free
 ·obtain⟨_,o,ho,_⟩:=I.ok.funs.mem hb;exact I.base.free b o ho (I.ok.frf b hb) λz=>I.ok.exfs b z hb
theorem Inv.step{g':Array GenState}{t':Nat}{d':Drawn}{ch:List Addr}(I:Inv X pins σ H s)
  (hch:∀b∈ch,(b∈X.ex\/X.s₀.heap.objs.size<=b)/\b≠X.env.locals/\(∀x c,X.env.cells.lookup x=some c->c≠b)/\∀p∈X.pn++pins,p.1≠b)
  (keep:∀b o,b≠X.env.locals->b∉X.fs->b∉ch->s.heap.get? b=some o->H b=none->h'.get? b=some o)
  (slot:∀b o,b≠X.env.locals->b∈X.fs->b∉ch->s.heap.get? b=some o->H b=none->∃sl,h'.get? b=some { o with slots:=sl }) (free:∀b o,b∉ch->s.heap.get? b=some o->H b=none->H' b=none)
  (there:∀b o,b∉ch->s.heap.get? b=some o->∃o',h'.get? b=some o')
  (tups:∀b xs,H b=some (.tup xs)->H' b=some (.tup xs)) (frzs:∀b o u,H b=some (.frz o u)->H' b=some (.frz o u)) (tbls:∀b ps,H b=some (.tbl ps)->∃more,H' b=some (.tbl (ps++more)))
  (ns:∀m,s.heap.Ns X.env.locals m->h'.Ns X.env.locals m) (hok:HOk X.prog X.w H' h') (hg:AllBare g') :
  Inv X pins σ H' { s with heap:=h',gens:=g',drawn:=d',toks:=t' }:=by
 have neL:∀b o,X.s₀.heap.get? b=some o->b≠X.env.locals:=λb o e=>yar (yak (yad e) I.ok.above)
 have neC:∀b o,X.s₀.heap.get? b=some o->b∉X.ex->b∉ch:=λb o e hx hb=>by
  rcases(hch b hb).1 with z|z
  ·exact hx z
  ·exact absurd (yak (yad e) z) (yb9 _)
 have cellK:∀x c,X.env.cells.lookup x=some c->∀v,s.heap.IsCell c v->h'.IsCell c v:=λx c e v ⟨o,ho,hd⟩=>by
  have nch:c∉ch:=λz=>(hch c z).2.2.1 x c e rfl
  by_cases hc:c∈X.fs
  ·obtain⟨sl,q⟩:=slot c o (I.cne x c e) hc nch ho (I.freeC x c e);exact⟨_,q,hd⟩
  ·exact⟨o,keep c o (I.cne x c e) hc nch ho (I.freeC x c e),hd⟩
 refine⟨I.ok,I.os,hg,⟨λb o e n hb hx=>?_,λb o e n hb hx=>?_,λb o e n hx=>?_,λb o e hx=>?_,λb xs e=>tups b xs (I.base.tups b xs e),λb o xs e=>frzs b o xs (I.base.frzs b o xs e),λb ps e=>?_⟩,?_,λx c e=>?_,?_,λx c e=>?_,λp hp=>?_,hok,I.len⟩
 ·exact keep b o (neL b o e) hb (neC b o e hx) (I.base.keep b o e n hb hx) (I.base.free b o e n hx)
 ·obtain⟨sl,e1⟩:=I.base.slot b o e n hb hx;obtain⟨sl',e2⟩:=slot b _ (neL b o e) hb (neC b o e hx) e1 (I.base.free b o e n hx);exact⟨sl',e2⟩
 ·obtain⟨o',e1⟩:=I.base.there b o e hx;exact free b o' (neC b o e hx) e1 (I.base.free b o e n hx)
 ·obtain⟨o',e1⟩:=I.base.there b o e hx;exact there b o' (neC b o e hx) e1
 ·obtain⟨m1,e1⟩:=I.base.tbls b ps e;obtain⟨m2,e2⟩:=tbls b _ e1;exact⟨m1++m2,by rw[e2,Array.append_assoc]⟩
 ·obtain⟨m,hn,hl⟩:=I.loc;refine⟨m,ns m hn,λi x v e1 e2 e3=>?_⟩
  obtain⟨u,r,l⟩:=hl i x v e1 e2 e3;refine⟨u,r,?_⟩
  rcases l with l|⟨k,c,e,z⟩
  ·exact .inl l
  ·exact .inr ⟨k,c,e,cellK x c e _ z⟩
 ·obtain⟨v,z⟩:=I.cell x c e;exact⟨v,cellK x c e v z⟩
 ·obtain⟨m,⟨o,_,_,ho,_⟩,_⟩:=I.loc;exact free _ o (λz=>(hch _ z).2.1 rfl) ho I.free
 ·obtain⟨v,o,ho,hd⟩:=I.cell x c e;exact free c o (λz=>(hch c z).2.2.1 x c e rfl) ho (I.freeC x c e)
 ·obtain⟨e,n,ne,nf,d⟩:=I.pin p hp;have nch:p.1∉ch:=λz=>(hch p.1 z).2.2.2 p hp rfl
  exact⟨keep p.1 p.2 ne nf nch e n,free p.1 p.2 nch e n,ne,nf,d⟩
theorem Inv.un{t':Nat}(I:Inv X pins σ H s)(u:Un X.fs [] H H' s.heap h')(hok:HOk X.prog X.w H' h'):Inv X pins σ H' { s with heap:=h',toks:=t' }:=by
 obtain⟨m,⟨o,es,ep,ho,r⟩,_⟩:=id I.loc;obtain⟨sl,hL⟩:=u.any ho I.free (by simp)
 exact I.step (g':=s.gens) (d':=s.drawn) (ch:=[]) (λ_ z=>nomatch z) (λb o _ hb _ e n=>u.keep b o e n hb (by simp)) (λb o _ hb _ e n=>u.slot b o e n hb (by simp)) (λb o _ e n=>u.free b o e n (by simp)) (λb o _ e=>u.there b o e (by simp)) u.tups u.frzs u.tbls (λm' hm=>by
  obtain⟨o',es',ep',ho',r'⟩:=hm;rw[ho]at ho';cases ho';exact⟨_,es',ep',hL,r'⟩) hok I.bare
theorem Inv.call{g':Array GenState}{t':Nat}{d':Drawn}{ch:List Addr}(I:Inv X pins σ H s)(u:Un (frs X.stack) ch H H' s.heap h')(hok:HOk X.prog X.w H' h')(hg:AllBare g')
  (hch:∀b∈ch,(b∈X.ex\/X.s₀.heap.objs.size<=b)/\b≠X.env.locals/\(∀x c,X.env.cells.lookup x=some c->c≠b)/\∀p∈X.pn++pins,p.1≠b) :
  Inv X pins σ H' { s with heap:=h',gens:=g',drawn:=d',toks:=t' }:=by
 obtain⟨m,⟨o,es,ep,ho,r⟩,_⟩:=id I.loc;obtain⟨sl,hL⟩:=u.any ho I.free λz=>(hch _ z).2.1 rfl
 exact I.step (ch:=ch) hch (λb o hL hb hc e n=>u.keep b o e n (λz=>(yaj.mp (I.stkSub b z)).elim hL hb) hc) (λb o _ _ hc e n=>u.any e n hc) (λb o hc e n=>u.free b o e n hc) (λb o hc e=>u.there b o e hc) u.tups u.frzs u.tbls (λm' hm=>by
  obtain⟨o',es',ep',ho',r'⟩:=hm;rw[ho]at ho';cases ho';exact⟨_,es',ep',hL,r'⟩) hok hg
theorem Inv.turned{t':Nat}{it:Addr}(I:Inv X pins σ H s)(k:∀b o,b≠it->s.heap.get? b=some o->h'.get? b=some o)(hn:H it=none)(hL:it≠X.env.locals)
  (h1:it∈X.ex\/X.s₀.heap.objs.size<=it) (h2:∀x c,X.env.cells.lookup x=some c->c≠it) (h3:∀p∈X.pn++pins,p.1≠it):Inv X pins σ H { s with heap:=h',toks:=t' }:=by
 have nit:∀b u,H b=some u->b≠it:=λb u e z=>by rw[z,hn]at e;cases e
 refine I.step (g':=s.gens) (d':=s.drawn) (ch:=[it]) (λb hb=>?_) (λb o _ _ hc e _=>k b o (λz=>hc (by simp[z])) e) (λb o _ _ hc e _=>⟨o.slots,k b o (λz=>hc (by simp[z])) e⟩) (λ_ _ _ _ n=>n)
  (λb o hc e=>⟨o,k b o (λz=>hc (by simp[z])) e⟩) (λ_ _ e=>e) (λ_ _ _ e=>e) (λb ps e=>⟨#[],by rw[e];simp⟩) (λm hm=>?_) (λb u e=>?_) I.bare
 ·have e:b=it:=by simpa using hb
  subst e;exact⟨h1,hL,h2,h3⟩
 ·obtain⟨o,es,ep,ho,r⟩:=hm;exact⟨o,es,ep,k _ o (yay hL) ho,r⟩
 ·refine(I.hok b u e).stay (λc v hc q=>k c v ?_ q) (λ_ q=>q) λ_ _ q=>q
  rcases hc with z|z
  ·rw[z];exact nit b u e
  ·exact nit c _ z
theorem Inv.tok(I:Inv X pins σ H s)(t:Nat):Inv X pins σ H { s with toks:=t }:=I.un (h':=s.heap) (t':=t) Un.refl I.hok
theorem Inv.kept{t':Nat}(I:Inv X pins σ H s)(k:∀b u,s.heap.get? b=some u->h'.get? b=some u):Inv X pins σ H { s with heap:=h',toks:=t' }:=I.un (Un.kept k) (I.hok.kept k)
theorem Inv.laid{a:Addr}{o:HO}{t':Nat}(I:Inv X pins σ H s)(k:∀b u,s.heap.get? b=some u->h'.get? b=some u)(hp:s.heap.objs.size<=a)(new:zbo X.prog X.w (upd H a o) h' a o) :
  Inv X pins σ (upd H a o) { s with heap:=h',toks:=t' }:=I.un (Un.laid k hp (I.hok.fresh hp)) (I.hok.laid k hp new)
theorem Inv.write{x e:Addr}{o:HO}{t':Nat}(I:Inv X pins σ H s)(mu:Mut (H x))(he:e=x\/H e=some (.own x))(k:∀b u,b≠e->s.heap.get? b=some u->h'.get? b=some u)(heo:∃u,h'.get? e=some u)
  (new:zbo X.prog X.w (upd H x o) h' x o):Inv X pins σ (upd H x o) { s with heap:=h',toks:=t' }:=I.un (Un.write mu he k heo) (I.hok.write mu he k heo new)
theorem Inv.pins_of{pins':List (Addr×Obj)}(I:Inv X pins σ H s)(h:∀p∈pins',s.heap.get? p.1=some p.2/\H p.1=none/\p.1≠X.env.locals/\p.1∉X.fs/\∀v,p.2.data≠.cell v):Inv X pins' σ H s :=
 ⟨I.ok,I.os,I.bare,I.base,I.loc,I.cell,I.free,I.freeC,λp hp=>(ybe.mp hp).elim (λz=>I.pin p (ybz _ z)) (h p),I.hok,I.len⟩
theorem zog{N:List Str}(hN:N.Nodup){i j:Nat}{x:Str}(a:N[i]?=some x)(b:N[j]?=some x):i=j:=by
 obtain⟨h1,e1⟩:=ya5.mp a;obtain⟨h2,e2⟩:=ya5.mp b;exact(yd4 hN).mp (e1.trans e2.symm)
theorem zq1{M:Model}{A:Around}{E:Value->Shared->Prop}{i:Nat}{x:Str}{v:V}{u:Value}{Q:Unit->Shared->Prop}(I:Inv X pins σ H s)(hN:X.N.Nodup)(hi:X.N[i]?=some x)(hx:Loc X.env.scope x)(r:RelV v u)
  (h:∀s',Inv X pins (σ.set i (some v)) H s'->(∃a,Heap.SameBut a s.heap s'.heap/\(a=X.env.locals\/X.env.cells.lookup x=some a))->Q () s') (hf:X.fn x=true\/X.env.scope.names.lookup x=some .local:=by first|exact .inl rfl|exact .inr rfl|assumption):wpAny M A (storeName X.env x u) Q E s:=by
 obtain⟨m,hn,hl⟩:=id I.loc;have hcls:(X.env.scope.kind == .class || (X.env.scope.kind == .module && X.env.locals != X.env.globals))=false:=by rw[I.ok.kind];rfl
 have hiσ:i<σ.length:=by rw[I.len];exact(ya5.mp hi).1
 have cne:=I.cne
 have tracked:∀{a:Addr} {h':Heap},(∃o,s.heap.get? a=some o/\H a=none)->Heap.SameBut a s.heap h'->HOk X.prog X.w H h':=λ{a h'} ha hs b ob e=>by
  obtain⟨_,_,hfree⟩:=ha;refine(I.hok b ob e).stay (λc w' hc q=>(hs.2 c ?_).trans q) (λ_ q=>q) λ_ _ q=>q
  rintro rfl
  rcases hc with rfl|hc
  ·rw[hfree]at e;cases e
  ·rw[hfree]at hc;cases hc
 rcases hx with hk|hk
 ·refine wpAny_storeName_local hk hn (λh' hn' hs=>?_) hcls
  obtain⟨oL,_,_,hoL,_⟩:=id hn;refine h _ ⟨I.ok,I.os,I.bare,⟨λb o e n hb hx=>?_,λb o e n hb hx=>?_,I.base.free,λb o e hx=>?_,I.base.tups,I.base.frzs,I.base.tbls⟩,⟨_,hn',λj y v' e1 e2 e3=>?_⟩,λy c e=>?_,I.free,I.freeC,λp hp=>?_,tracked ⟨oL,hoL,I.free⟩ hs,by simpa using I.len⟩ ⟨_,hs,.inl rfl⟩
  ·exact(hs.2 b (yar (yak (yad e) I.ok.above))).trans (I.base.keep b o e n hb hx)
  ·obtain⟨sl,e1⟩:=I.base.slot b o e n hb hx;exact⟨sl,(hs.2 b (yar (yak (yad e) I.ok.above))).trans e1⟩
  ·obtain⟨o',e1⟩:=I.base.there b o e hx;exact⟨o',(hs.2 b (yar (yak (yad e) I.ok.above))).trans e1⟩
  ·by_cases hj:j=i
   ·subst hj;rw[hi]at e1;cases e1;rw[yal hiσ]at e2;cases e2;exact⟨u,r,.inl ⟨hk,by simp⟩⟩
   ·rw[yah (yay hj)]at e2;obtain⟨u',r',q⟩:=hl j y v' e1 e2 e3;refine⟨u',r',?_⟩
    rcases q with ⟨k,e⟩|⟨k,c,e,z⟩
    ·refine .inl ⟨k,?_⟩;have:y≠x:=λe=>hj (zog hN e1 (e▸hi))
     simp[this,e]
    ·exact .inr ⟨k,c,e,z.sameBut hs (cne y c e)⟩
  ·obtain⟨w',z⟩:=I.cell y c e;exact⟨w',z.sameBut hs (cne y c e)⟩
  ·obtain⟨e,n,ne,nf,d⟩:=I.pin p hp;exact⟨(hs.2 p.1 ne).trans e,n,ne,nf,d⟩
 ·have hfn:X.fn x=true:=by
   rcases hf with z|z
   ·exact z
   ·rw[z]at hk;cases hk
  obtain⟨c,hc⟩:=I.ok.has x (.inl hk);obtain⟨w',z⟩:=I.cell x c hc;refine wpAny_storeName_cell I.ok.kind hk hc z (λh' hc' hs=>?_)
  obtain⟨oc,hoc,hocd⟩:=id z;refine h { s with heap:=h' } ⟨I.ok,I.os,I.bare,⟨λb o e n hb hx=>?_,λb o e n hb hx=>?_,I.base.free,λb o e hx=>?_,I.base.tups,I.base.frzs,I.base.tbls⟩,⟨m,hn.sameBut hs (yay (cne x c hc)),λj y v' e1 e2 e3=>?_⟩,λy c' e=>?_,I.free,I.freeC,λp hp=>?_,tracked ⟨oc,hoc,I.freeC x c hc⟩ hs,by simpa using I.len⟩ ⟨c,hs,.inr hc⟩
  ·exact(hs.2 b (yar (yak (yad e) (I.ok.cab x c hfn hc)))).trans (I.base.keep b o e n hb hx)
  ·obtain⟨sl,e1⟩:=I.base.slot b o e n hb hx;exact⟨sl,(hs.2 b (yar (yak (yad e) (I.ok.cab x c hfn hc)))).trans e1⟩
  ·obtain⟨o',e1⟩:=I.base.there b o e hx;exact⟨o',(hs.2 b (yar (yak (yad e) (I.ok.cab x c hfn hc)))).trans e1⟩
  ·by_cases hj:j=i
   ·subst hj;rw[hi]at e1;cases e1;rw[yal hiσ]at e2;cases e2;exact⟨u,r,.inr ⟨.inl hk,c,hc,hc'⟩⟩
   ·rw[yah (yay hj)]at e2;obtain⟨u',r',q⟩:=hl j y v' e1 e2 e3;refine⟨u',r',?_⟩
    rcases q with q|⟨k,c',e,z'⟩
    ·exact .inl q
    ·refine .inr ⟨k,c',e,z'.sameBut hs ?_⟩;rintro rfl;exact hj (zog hN e1 (I.ok.inj _ _ _ e hc▸hi))
  ·by_cases hcc:c'=c
   ·subst hcc;exact⟨_,hc'⟩
   ·obtain⟨w2,z2⟩:=I.cell y c' e;exact⟨w2,z2.sameBut hs hcc⟩
  ·obtain⟨e,n,ne,nf,d⟩:=I.pin p hp;refine⟨(hs.2 p.1 ?_).trans e,n,ne,nf,d⟩;intro q;rw[q,hoc]at e;have q':oc=p.2:=yas e;exact d w' (by rw[<- q'];exact hocd)
theorem zns{M:Model}{A:Around}{E:Value->Shared->Prop}{i:Nat}{x:Str}{v:V}{u:Value}{Q:Unit->Shared->Prop}(I:Inv X pins σ H s)(hN:X.N.Nodup)(hi:X.N[i]?=some x)(hx:Loc X.env.scope x)(r:RelV v u)
  (h:∀s',Inv X pins (σ.set i (some v)) H s'->Q () s') (hf:X.fn x=true\/X.env.scope.names.lookup x=some .local:=by first|exact .inl rfl|exact .inr rfl|assumption):wpAny M A (storeName X.env x u) Q E s :=
 zq1 I hN hi hx r (λs' I' _=>h s' I') hf
theorem Inv.call'{s':Shared}{ch:List Addr}(I:Inv X pins σ H s)(ho:s'.os=s.os)(u:Un (frs X.stack) ch H H' s.heap s'.heap)(hok:HOk X.prog X.w H' s'.heap)(hg:AllBare s'.gens)
  (hch:∀b∈ch,(b∈X.ex\/X.s₀.heap.objs.size<=b)/\b≠X.env.locals/\(∀x c,X.env.cells.lookup x=some c->c≠b)/\∀p∈X.pn++pins,p.1≠b):Inv X pins σ H' s':=by
 obtain⟨h',g',d',t',o'⟩:=s';have e:o'=s.os:=ho;subst e;exact I.call (g':=g') (t':=t') (d':=d') u hok hg hch
end
abbrev XK:=Value->Option Addr->Hp->Prop
abbrev St:=List (Option V)
abbrev VK:=V->Hp->Prop
abbrev TE:=St->Hp->VK->Prop
abbrev TT:=St->Hp->(Bool->Hp->Prop)->Prop
abbrev TA:=St->Hp->(List V->Hp->Prop)->Prop
structure Ends where
 nx:St->Hp->Prop
 rt:VK
 bk:St->Hp->Prop:=λ_ _=>False
 ct:St->Hp->Prop:=λ_ _=>False
abbrev TS:=Ends->St->Hp->Prop
def EP(X:Cx)(pins:List (Addr×Obj))(σ:St)(Q:VK)(u:Value)(s':Shared):Prop:=∃v H',Inv X pins σ H' s'/\RelV v u/\Q v H'
def TP(X:Cx)(pins:List (Addr×Obj))(σ:St)(Q:Bool->Hp->Prop)(b:Bool)(s':Shared):Prop:=∃H',Inv X pins σ H' s'/\Q b H'
def AP(X:Cx)(pins:List (Addr×Obj))(σ:St)(Q:List V->Hp->Prop)(us:List Value)(s':Shared):Prop:=∃vs H',Inv X pins σ H' s'/\zbp vs us/\Q vs H'
def SP(X:Cx)(pins:List (Addr×Obj))(D:Ends)(f:Flow)(s':Shared):Prop :=
 match f with
 |.next=>∃σ' H',Inv X pins σ' H' s'/\D.nx σ' H'
 |.brk=>∃σ' H',Inv X pins σ' H' s'/\D.bk σ' H'
 |.cont=>∃σ' H',Inv X pins σ' H' s'/\D.ct σ' H'
 |.ret u=>∃v σ' H',Inv X pins σ' H' s'/\RelV v u/\D.rt v H'
def PE(X:Cx)(e:Expr)(t:TE):Prop :=
 ∀(pins:List (Addr×Obj)) (s:Shared) (σ:St) (H:Hp) (Q:VK),Inv X pins σ H s->t σ H Q->wpAny (model X.prog X.w) X.A (eval e X.env) (EP X pins σ Q) X.xe s
def PT(X:Cx)(e:Expr)(t:TT):Prop :=
 ∀(pins:List (Addr×Obj)) (s:Shared) (σ:St) (H:Hp) (Q:Bool->Hp->Prop),Inv X pins σ H s->t σ H Q->wpAny (model X.prog X.w) X.A (isTrue e X.env (eval e X.env)) (TP X pins σ Q) X.xe s
def PW(X:Cx)(e:Expr)(t:TT):Prop :=
 ∀(whole:Sem Value) (pins:List (Addr×Obj)) (s:Shared) (σ:St) (H:Hp) (Q:Bool->Hp->Prop),Inv X pins σ H s->t σ H Q->wpAny (model X.prog X.w) X.A (isTrue e X.env whole) (TP X pins σ Q) X.xe s
theorem PW.pt{X:Cx}{e:Expr}{t:TT}(h:PW X e t):PT X e t:=h _
def PA(X:Cx)(es:List Expr)(t:TA):Prop :=
 ∀(pos:Pos) (pins:List (Addr×Obj)) (s:Shared) (σ:St) (H:Hp) (Q:List V->Hp->Prop),Inv X pins σ H s->t σ H Q->wpAny (model X.prog X.w) X.A (spliced (backTo pos (starEach es X.env))) (AP X pins σ Q) X.xe s
def PS(X:Cx)(st:Stmt)(t:TS):Prop :=
 ∀(pins:List (Addr×Obj)) (s:Shared) (σ:St) (H:Hp) (D:Ends),Inv X pins σ H s->t D σ H->wpAny (model X.prog X.w) X.A (exec st X.env) (SP X pins D) X.xe s
def PSs(X:Cx)(st:List Stmt)(t:TS):Prop :=
 ∀(pins:List (Addr×Obj)) (s:Shared) (σ:St) (H:Hp) (D:Ends),Inv X pins σ H s->t D σ H->wpAny (model X.prog X.w) X.A (execs st X.env) (SP X pins D) X.xe s
theorem thn{α:Type}{t:Sem α}{Q Q':α->Shared->Prop}{M:Model}{A:Around}{E:Value->Shared->Prop}{s:Shared}(h:wpAny M A t Q E s)(hQ:∀a s,Q a s->Q' a s):wpAny M A t Q' E s:=wpAny_mono h hQ λ_ _ x=>x
section
variable {X:Cx}
def tVar(i:Nat):TE:=λσ H Q=>∃v,σ[i]?=some (some v)/\Q v H
def tC(v:V):TE:=λ_ H Q=>Q v H
theorem zic{i:Nat}{x:Str}{pos:Pos}(hN:X.N[i]?=some x)(hv:Vis X.env.scope x)(hd:(x == ("__debug__":Str))=false:=by decide)(hcd:(x == ("__classdict__":Str))=false:=by decide):PE X (.Name x pos) (tVar i):=by
 intro pins s σ H Q I h;obtain⟨v,e,h⟩:=h;obtain⟨m,hn,hl⟩:=I.loc;obtain⟨u,r,l⟩:=hl i x v hN e hv;have fin:EP X pins σ Q u s:=⟨v,H,I,r,h⟩
 rcases l with ⟨hk,hm⟩|⟨hk,c,hc,hcell⟩
 ·exact wpAny_Name (wpAny_loadName_local I.ok.kind hk hn hm fin) hd
 ·rcases hk with hk|hk
  ·exact wpAny_Name (wpAny_loadName_cell I.ok.kind hk hc hcell fin) hd
  ·exact wpAny_Name (wpAny_loadName_free I.ok.kind hk hc hcell fin hcd) hd
theorem zx1{i j pos}:PE X (.Constant (.int i) j pos) (tC (.int i)):=λ_ _ _ H _ I h=>wpAny_Constant_int ⟨.int i,H,I.tok _,⟨_,rfl⟩,h⟩
theorem pe_bl{b j pos}:PE X (.Constant (.bool b) j pos) (tC (.bl b)):=λ_ _ _ H _ I h=>Constant_bool ⟨.bl b,H,I,rfl,h⟩
theorem zK8{j pos}:PE X (.Constant .none j pos) (tC .non):=λ_ _ _ H _ I h=>Constant_none ⟨.non,H,I,rfl,h⟩
theorem zK5{x j pos}:PE X (.Constant (.str x) j pos) (tC (.str x)):=λ_ _ _ H _ I h=>Calls.Constant_str ⟨.str x,H,I.tok _,⟨_,rfl⟩,h⟩
def Gl(X:Cx)(x:Str):Prop:=X.env.kindOf x=some .globalImplicit
theorem zll{E:Value->Shared->Prop}{pins:List (Addr×Obj)}{s:Shared}{σ:St}{H:Hp}{x:Str}{u:Value}{pos:Pos}{Q:Value->Shared->Prop}(I:Inv X pins σ H s)(hg:Gl X x)(hm:X.mg x=some u)(h:Q u s)
  (hd:(x == ("__debug__":Str))=false:=by decide):wpAny (model X.prog X.w) X.A (eval (.Name x pos) X.env) Q E s :=
 Calls.Name_function_global I.ok.kind hg (Calls.loadGlobal_global (by rw[I.ok.glob];exact I.mod.glob.keeps I.bk) hm h) hd
theorem zjp{E:Value->Shared->Prop}{pins:List (Addr×Obj)}{s:Shared}{σ:St}{H:Hp}{x:Str}{u:Value}{pos:Pos}{Q:Value->Shared->Prop}(I:Inv X pins σ H s)(hg:Gl X x)(hm:X.mg x=none)(hv:bootBuiltins x=some u)(h:Q u s)
  (hn:x≠"__name__":=by decide) (hd:(x == ("__debug__":Str))=false:=by decide):wpAny (model X.prog X.w) X.A (eval (.Name x pos) X.env) Q E s:=by
 obtain⟨mb,h1,h2⟩:=I.mod.blt;exact Calls.Name_function_global I.ok.kind hg (Calls.loadGlobal_builtin (by rw[I.ok.glob];exact I.mod.glob.keeps I.bk) hm (by rw[I.ok.blt];exact h1.keeps I.bk) ((h2 x hn).trans hv) h) hd
theorem zsj{x:Str}{v:V}{u:Value}{pos:Pos}(hg:Gl X x)(hm:X.mg x=some u)(r:RelV v u)(hd:(x == ("__debug__":Str))=false:=by decide):PE X (.Name x pos) (tC v) :=
 λ_ _ _ H _ I h=>zll I hg hm ⟨v,H,I,r,h⟩ hd
theorem zx3{x:Str}{v:V}{u:Value}{pos:Pos}(hg:Gl X x)(hm:X.mg x=none)(hv:bootBuiltins x=some u)(r:RelV v u)(hn:x≠"__name__":=by decide)(hd:(x == ("__debug__":Str))=false:=by decide):PE X (.Name x pos) (tC v) :=
 λ_ _ _ H _ I h=>zjp I hg hm hv ⟨v,H,I,r,h⟩ hn hd
variable {a b:Expr}{ta tb:TE}{pos:Pos}
def tB(t:TE):TT:=λσ H Q=>t σ H λx H1=>∃c,x=.bl c/\Q c H1
theorem zJv{e:Expr}{t:TE}(h:PE X e t)(he:∀whole,isTrue e X.env whole=(do let v <- whole;standAt e.pos;holding [v] (truthy v)):=by intro _;rfl):PT X e (tB t):=by
 intro pins s σ H Q I hw;refine isTrue_plain (thn (h pins s σ H _ I hw) λv s1 ⟨x,H1,I1,r1,q1⟩=>?_) (he _)
 obtain⟨d,rfl,q⟩:=q1;cases r1;exact wpAny_truthy_bool ⟨H1,I1,q⟩
variable {tA tB':TT}{rest:List Expr}
def tAnd(t u:TT):TT:=λσ H Q=>t σ H λc H1=>if c=true then u σ H1 Q else Q false H1
def tOr(t u:TT):TT:=λσ H Q=>t σ H λc H1=>if c=true then Q true H1 else u σ H1 Q
def tNot(t:TT):TT:=λσ H Q=>t σ H λc H1=>Q (!c) H1
theorem zF5(ha:PT X a tA):PW X (.BoolOp .And [a] pos) tA:=by
 intro wh pins s σ H Q I h;refine isTrue_and (thn (ha pins s σ H Q I h) λc s1 e=>?_)
 cases c with
 |true=>exact isTrue_and_nil e
 |false=>exact e
theorem zJt(ha:PT X a tA):PW X (.BoolOp .Or [a] pos) tA:=by
 intro wh pins s σ H Q I h;refine isTrue_or (thn (ha pins s σ H Q I h) λc s1 e=>?_)
 cases c with
 |false=>exact isTrue_or_nil e
 |true=>exact e
theorem zJu(ha:PT X a tA)(hb:PW X (.BoolOp .And (b::rest) pos) tB'):PW X (.BoolOp .And (a::b::rest) pos) (tAnd tA tB'):=by
 intro wh pins s σ H Q I h;refine isTrue_and (thn (ha pins s σ H _ I h) λc s1 ⟨H1,I1,q1⟩=>?_)
 cases c with
 |true=>exact hb wh pins s1 σ H1 Q I1 q1
 |false=>exact⟨H1,I1,q1⟩
theorem pw_or(ha:PT X a tA)(hb:PW X (.BoolOp .Or (b::rest) pos) tB'):PW X (.BoolOp .Or (a::b::rest) pos) (tOr tA tB'):=by
 intro wh pins s σ H Q I h;refine isTrue_or (thn (ha pins s σ H _ I h) λc s1 ⟨H1,I1,q1⟩=>?_)
 cases c with
 |true=>exact⟨H1,I1,q1⟩
 |false=>exact hb wh pins s1 σ H1 Q I1 q1
theorem zJw(ha:PT X a tA):PT X (.UnaryOp .Not a pos) (tNot tA):=by
 intro pins s σ H Q I h;exact isTrue_not (ha pins s σ H (λc H1=>Q (!c) H1) I h)
def tAndV(ta tb:TE):TE:=λσ H Q=>ta σ H λx H1=>∃c,x=.bl c/\if c=true then tb σ H1 Q else Q (.bl false) H1
def tOrV(ta tb:TE):TE:=λσ H Q=>ta σ H λx H1=>∃c,x=.bl c/\if c=true then Q (.bl true) H1 else tb σ H1 Q
def zIj(ta:TE):TE:=λσ H Q=>ta σ H λx H1=>∃c,x=.bl c/\Q (.bl (!c)) H1
theorem zK6{op}{t:TE}(h:PE X a t):PE X (.BoolOp op [a] pos) t:=λpins s σ H Q I hw=>BoolOp_one (h pins s σ H Q I hw)
theorem zKd(ha:PE X a ta)(hb:PE X (.BoolOp .And (b::rest) pos) tb):PE X (.BoolOp .And (a::b::rest) pos) (tAndV ta tb):=by
 intro pins s σ H Q I h;refine BoolOp_and (thn (ha pins s σ H _ I h) λv s1 ⟨x,H1,I1,r1,q1⟩=>?_)
 obtain⟨c,rfl,q1⟩:=q1;cases r1;refine wpAny_truthy_bool ?_;cases c with
 |true=>exact hb pins s1 σ H1 Q I1 q1
 |false=>exact⟨.bl false,H1,I1,rfl,q1⟩
theorem pe_or(ha:PE X a ta)(hb:PE X (.BoolOp .Or (b::rest) pos) tb):PE X (.BoolOp .Or (a::b::rest) pos) (tOrV ta tb):=by
 intro pins s σ H Q I h;refine BoolOp_or (thn (ha pins s σ H _ I h) λv s1 ⟨x,H1,I1,r1,q1⟩=>?_)
 obtain⟨c,rfl,q1⟩:=q1;cases r1;refine wpAny_truthy_bool ?_;cases c with
 |false=>exact hb pins s1 σ H1 Q I1 q1
 |true=>exact⟨.bl true,H1,I1,rfl,q1⟩
theorem zK7(ha:PE X a ta):PE X (.UnaryOp .Not a pos) (zIj ta):=by
 intro pins s σ H Q I h;refine UnaryOp_ (thn (ha pins s σ H _ I h) λv s1 ⟨x,H1,I1,r1,q1⟩=>?_)
 obtain⟨c,rfl,q1⟩:=q1;cases r1;exact not_of (wpAny_truthy_bool ⟨.bl (!c),H1,I1,rfl,q1⟩)
def tIf(t:TT)(ta tb:TE):TE:=λσ H Q=>t σ H λc H1=>if c=true then ta σ H1 Q else tb σ H1 Q
theorem zAq{c:Expr}(hc:PT X c tA)(ha:PE X a ta)(hb:PE X b tb):PE X (.IfExp c a b pos) (tIf tA ta tb):=by
 intro pins s σ H Q I h;refine wpAny_IfExp (thn (hc pins s σ H _ I h) λd s1 ⟨H1,I1,q1⟩=>?_)
 cases d with
 |true=>exact ha pins s1 σ H1 Q I1 q1
 |false=>exact hb pins s1 σ H1 Q I1 q1
end
def SqL(K:PySem.W.Frag)(H:Hp)(a:Addr)(xs:List V):Prop :=
 Rd H a (.lst xs) \/
  ∃(o:Obj) (its:Array Value) (n:Nat),K.lookup a=some o/\o.cls=.type "list"/\o.dict=none/\o.data=.seq its n/\its.size<=sizeLine/\zbp xs its.toList
def SqT(K:PySem.W.Frag)(H:Hp)(a:Addr)(xs:List V):Prop :=
 Rd H a (.tup xs) \/
  ∃(o:Obj) (its:Array Value) (n:Nat),K.lookup a=some o/\o.cls=.type "tuple"/\o.data=.seq its n/\its.size<=sizeLine/\zbp xs its.toList
def absV:Value->Option V
 |.none=>some .non
 |.bool b=>some (.bl b)
 |.int i _=>some (.int i)
 |.str x _=>some (.str x)
 |.bytes b _=>some (.byt b)
 |.float b _=>some (.flt b)
 |.ref a=>some (.ref a)
 |.type n=>some (.ty n)
 |_=>none
theorem RelV.abs{x:V}{u:Value}(r:RelV x u):absV u=some x:=by
 cases x with
 |non=>cases r;rfl
 |bl _=>cases r;rfl
 |int _=>obtain⟨t,rfl⟩:=r;rfl
 |str _=>obtain⟨t,rfl⟩:=r;rfl
 |byt _=>obtain⟨t,rfl⟩:=r;rfl
 |flt _=>obtain⟨t,rfl⟩:=r;rfl
 |ref _=>cases r;rfl
 |ty _=>cases r;rfl
theorem RelV.inj{x y:V}{u:Value}(r:RelV x u)(q:RelV y u):x=y:=yas (r.abs.symm.trans q.abs)
theorem zbp.inj:∀{xs ys:List V} {us:List Value},zbp xs us->zbp ys us->xs=ys
 |_,_,_,.nil,.nil=>rfl
 |_,_,_,.cons r t,.cons r' t'=>by rw[r.inj r',zbp.inj t t']
section
variable {X:Cx}{pins:List (Addr×Obj)}{σ:St}{H:Hp}{s:Shared}{a:Addr}{xs ys:List V}
theorem SqL.of{K:PySem.W.Frag}(h:H a=some (.lst xs)):SqL K H a xs:=.inl (.inl h)
theorem SqT.of{K:PySem.W.Frag}(h:H a=some (.tup xs)):SqT K H a xs:=.inl (.inl h)
theorem Inv.list(I:Inv X pins σ H s)(h:SqL X.K H a xs):∃its:List Value,zbp xs its/\PlainL s.heap a its.toArray/\xs.length<=sizeLine:=by
 rcases h with h|⟨o,its,n,hk,hc,hd,hs,hz,r⟩
 ·obtain⟨z,its,n,r,e⟩:=h.ok I.hok;exact⟨its,r,⟨_,n,e,rfl,rfl,rfl⟩,z⟩
 ·refine⟨its.toList,r,⟨o,n,I.kIn a o hk,hc,hd,by simpa using hs⟩,?_⟩
  have e:=r.length;simp only[ydd]at e
  omega
theorem Inv.tuple(I:Inv X pins σ H s)(h:SqT X.K H a xs):∃its:List Value,zbp xs its/\IsTup s.heap a its.toArray/\xs.length<=sizeLine:=by
 rcases h with h|⟨o,its,n,hk,hc,hs,hz,r⟩
 ·obtain⟨z,its,r,p⟩:=h.ok I.hok;exact⟨its,r,p,z⟩
 ·refine⟨its.toList,r,⟨o,I.kIn a o hk,hc,n,by simpa using hs⟩,?_⟩
  have e:=r.length;simp only[ydd]at e
  omega
theorem Inv.list_inj(I:Inv X pins σ H s)(h:SqL X.K H a xs)(h':SqL X.K H a ys):xs=ys:=by
 obtain⟨its,r,⟨o,n,e,_,_,d⟩,_⟩:=I.list h;obtain⟨its',r',⟨o',n',e',_,_,d'⟩,_⟩:=I.list h';rw[e]at e';cases e';rw[d]at d';injection d' with d1 _
 have:its=its':=by simpa using congrArg Array.toList d1
 subst this;exact r.inj r'
theorem Inv.tuple_inj(I:Inv X pins σ H s)(h:SqT X.K H a xs)(h':SqT X.K H a ys):xs=ys:=by
 obtain⟨its,r,⟨o,e,_,n,d⟩,_⟩:=I.tuple h;obtain⟨its',r',⟨o',e',_,n',d'⟩,_⟩:=I.tuple h';rw[e]at e';cases e';rw[d]at d';injection d' with d1 _
 have:its=its':=by simpa using congrArg Array.toList d1
 subst this;exact r.inj r'
end
section
variable {X:Cx}{pins:List (Addr×Obj)}{σ:St}{H:Hp}{s:Shared}{E:Value->Shared->Prop}
end
section
variable {X:Cx}{st:Stmt}{rest:List Stmt}{t u:TS}{e:Expr}{te:TE}{pos:Pos}
def zIk:TS:=λD σ H=>D.nx σ H
def tSeq(t u:TS):TS:=λD σ H=>t { D with nx:=u D } σ H
theorem zFa:PSs X [] zIk:=λ_ _ σ H _ I h=>wpAny_execs_nil ⟨σ,H,I,h⟩
theorem zAl(h1:PS X st t)(h2:PSs X rest u):PSs X (st::rest) (tSeq t u):=by
 intro pins s σ H D I h;refine wpAny_execs_cons (thn (h1 pins s σ H { D with nx:=u D } I h) λf s1 q=>?_)
 cases f with
 |next =>
  obtain⟨σ',H',I',q⟩:=q;exact h2 pins s1 σ' H' D I' q
 |ret v=>exact q
 |brk=>exact q
 |cont=>exact q
theorem zwt(h1:PS X st t):PSs X [st] t:=by
 intro pins s σ H D I h;refine wpAny_execs_cons (thn (h1 pins s σ H D I h) λf s1 q=>?_)
 cases f with
 |next=>exact wpAny_execs_nil q
 |ret v=>exact q
 |brk=>exact q
 |cont=>exact q
def zIs:TS:=λD σ H=>D.bk σ H
def tCont:TS:=λD σ H=>D.ct σ H
theorem zFb:PS X (.Pass pos) zIk:=λ_ _ σ H _ I h=>wpAny_Pass ⟨σ,H,I,h⟩
theorem zAn:PS X (.Break pos) zIs:=λ_ _ σ H _ I h=>wpAny_Break ⟨σ,H,I,h⟩
theorem zsi:PS X (.Continue pos) tCont:=λ_ _ σ H _ I h=>wpAny_Continue ⟨σ,H,I,h⟩
theorem Inv.quiet{pins:List (Addr×Obj)}{σ:St}{H:Hp}{s:Shared}(I:Inv X pins σ H s):interactive X.env=false:=by simp[interactive,I.ok.kind]
def tDrop(te:TE):TS:=λD σ H=>te σ H λ_ H1=>D.nx σ H1
theorem zl8(he:PE X e te)(hs:swapsWith e none pos.line X.env=pure false:=by rfl):PS X (.Expr e pos) (tDrop te):=by
 intro pins s σ H D I h;exact wpAny_Expr_any (thn (he pins s σ H _ I h) λv s1 ⟨x,H1,I1,r1,q1⟩=>⟨σ,H1,I1,q1⟩) I.quiet hs
def tRet(te:TE):TS:=λD σ H=>te σ H D.rt
theorem zD6(he:PE X e te):PS X (.Return (some e) pos) (tRet te):=by
 intro pins s σ H D I h;exact wpAny_Return_some (thn (he pins s σ H _ I h) λv s1 ⟨x,H1,I1,r1,q1⟩=>⟨x,σ,H1,I1,r1,q1⟩)
def tRetN:TS:=λD _ H=>D.rt .non H
theorem zwu:PS X (.Return none pos) tRetN:=λ_ _ σ H _ I h=>wpAny_Return_none ⟨.non,σ,H,I,rfl,h⟩
def tIfS(c:TT)(t u:TS):TS:=λD σ H=>c σ H λb H1=>if b=true then t D σ H1 else u D σ H1
theorem ps_if{c:Expr}{a b:List Stmt}{tc:TT}(hc:PT X c tc)(ha:PSs X a t)(hb:PSs X b u):PS X (.If c a b pos) (tIfS tc t u):=by
 intro pins s σ H D I h;refine wpAny_If (thn (hc pins s σ H _ I h) λd s1 ⟨H1,I1,q1⟩=>?_)
 cases d with
 |true=>exact ha pins s1 σ H1 D I1 q1
 |false=>exact hb pins s1 σ H1 D I1 q1
end
abbrev TG:=V->St->Hp->(St->Hp->Prop)->Prop
abbrev TGs:=List V->St->Hp->(St->Hp->Prop)->Prop
def PG(X:Cx)(target:Expr)(t:TG):Prop :=
 ∀(pins:List (Addr×Obj)) (s:Shared) (σ:St) (H:Hp) (v:V) (u:Value) (Q:St->Hp->Prop),Inv X pins σ H s->RelV v u->t v σ H Q ->
  wpAny (model X.prog X.w) X.A (assign target X.env u) (λ_ s'=>∃σ' H',Inv X pins σ' H' s'/\Q σ' H') X.xe s
def PGs(X:Cx)(ts:List Expr)(t:TGs):Prop :=
 ∀(pins:List (Addr×Obj)) (s:Shared) (σ:St) (H:Hp) (vs:List V) (us:List Value) (Q:St->Hp->Prop),Inv X pins σ H s->zbp vs us->t vs σ H Q ->
  wpAny (model X.prog X.w) X.A (assignInOrder ((assignEach ts X.env).map (·.2)) us) (λ_ s'=>∃σ' H',Inv X pins σ' H' s'/\Q σ' H') X.xe s
abbrev zN0:=V->V->V->Hp->(Hp->Prop)->Prop
def PSet(X:Cx)(t:zN0):Prop :=
 ∀(pins:List (Addr×Obj)) (s:Shared) (σ:St) (H:Hp) (o i v:V) (ov iv u:Value) (Q:Hp->Prop),Inv X pins σ H s->RelV o ov->RelV i iv->RelV v u->t o i v H Q ->
  wpAny (model X.prog X.w) X.A (setItem ov iv u) (λ_ s'=>∃H',Inv X pins σ H' s'/\Q H') X.xe s
section
variable {X:Cx}{pos:Pos}
def zvj(i:Nat):TG:=λv σ H Q=>Q (σ.set i (some v)) H
theorem zx0{i:Nat}{x:Str}(hN:X.N.Nodup)(hi:X.N[i]?=some x)(hx:Loc X.env.scope x)(hf:X.fn x=true\/X.env.scope.names.lookup x=some .local:=by first|exact .inl rfl|exact .inr rfl|assumption):PG X (.Name x pos) (zvj i):=by
 intro pins s σ H v u Q I r h;exact wpAny_assign_Name (zns I hN hi hx r (λs' I'=>⟨_,H,I',h⟩) hf)
def gNil:TGs:=λvs σ H Q=>vs=[]/\Q σ H
def gCons(t:TG)(u:TGs):TGs:=λvs σ H Q=>∃v r,vs=v::r/\t v σ H λσ' H'=>u r σ' H' Q
theorem zFf:PGs X [] gNil:=by
 intro pins s σ H vs us Q I r h;obtain⟨e,h⟩:=h;subst e;cases r;exact assignInOrder_nil ⟨σ,H,I,h⟩
theorem zAp{e:Expr}{es:List Expr}{t:TG}{u:TGs}(h1:PG X e t)(h2:PGs X es u)
  (hs:(assignEach (e::es) X.env).map (·.2)=assign e X.env::(assignEach es X.env).map (·.2):=by rfl):PGs X (e::es) (gCons t u):=by
 intro pins s σ H vs us Q I r h;obtain⟨v,vr,e1,h⟩:=h;subst e1;cases r with
 |cons r rr =>
  rw[hs];refine assignInOrder_cons (thn (h1 pins s σ H _ _ _ I r h) λ_ s1 ⟨σ1,H1,I1,q1⟩=>?_)
  exact h2 pins s1 σ1 H1 _ _ Q I1 rr q1
def gTup(K:PySem.W.Frag)(n:Nat)(t:TGs):TG:=λv σ H Q=>∃a xs,v=.ref a/\SqT K H a xs/\xs.length=n/\t xs σ H Q
theorem zK3{es:List Expr}{k:Nat}{t:TGs}{n:Nat}(hc:X.calm=true)(h:PGs X es t)
  (hn:(assignEach es X.env).length=n:=by rfl) (hst:(assignEach es X.env).findIdx? (·.1)=none:=by rfl):PG X (.Tuple es k pos) (gTup X.K n t):=by
 intro pins s σ H v u Q I r hw;obtain⟨a,xs,e1,hq,hl,hw⟩:=hw;subst e1;cases r;obtain⟨its,rv,ht,hz⟩:=I.tuple hq;refine assign_Tuple_tuple (I.ok.hd hc) ht (by simp[hn,<- hl,rv.length]) hst λh' hx=>?_
 have I1:Inv X pins σ H { s with heap:=h' }:=I.kept (t':=s.toks) λb o e=>hx b o (yar (yad e)) e
 exact h pins _ σ H xs _ Q I1 (by simpa using rv) hw
def gSub(to ti:TE)(t:zN0):TG:=λv σ H Q=>to σ H λo H1=>ti σ H1 λi H2=>t o i v H2 λH3=>Q σ H3
theorem zD9{o i:Expr}{to ti:TE}{t:zN0}(ho:PE X o to)(hi:PE X i ti)(hs:PSet X t)
  (ha : ∀ v, assign (.Subscript o i pos) X.env v = (do
   let ov <- holding [v] (eval o X.env);let iv <- holding [v,ov] (eval i X.env)
   standAt pos
   holding [v,ov,iv] (setItem ov iv v)
   release [v,ov,iv] []):=by intro _;rfl):PG X (.Subscript o i pos) (gSub to ti t):=by
 intro pins s σ H v u Q I r h;rw[ha];refine wpAny_bind (wpAny_holding (thn (ho pins s σ H _ I h) λov s1 ⟨x,H1,I1,r1,q1⟩=>?_))
 refine wpAny_bind (wpAny_holding (thn (hi pins s1 σ H1 _ I1 q1) λiv s2 ⟨y,H2,I2,r2,q2⟩=>?_))
 refine wpAny_bind (wpAny_standAt (wpAny_bind (wpAny_holding (thn (hs pins s2 σ H2 x y v ov iv u _ I2 r1 r2 r q2) λ_ s3 ⟨H3,I3,q3⟩=>?_))))
 exact wpAny_release ⟨σ,H3,I3,q3⟩
def zMn(te:TE)(g:TG):TS:=λD σ H=>te σ H λx H1=>g x σ H1 D.nx
theorem zwv{tg e:Expr}{te:TE}{g:TG}(he:PE X e te)(hg:PG X tg g)(hs:swapsWithSole [tg] e pos.line X.env=pure false:=by rfl)(hw:swappedStores [tg] e X.env=pure none:=by rfl)
  (h1:(assignEach [tg] X.env).map (·.2)=[assign tg X.env]:=by rfl):PS X (.Assign [tg] e pos) (zMn te g):=by
 intro pins s σ H D I h;refine wpAny_Assign_stores (thn (he pins s σ H _ I h) λv s1 ⟨x,H1,I1,r1,q1⟩=>?_) hs hw
 rw[h1];exact thn (hg pins s1 σ H1 x v _ I1 r1 q1) λ_ s2 q=>q
theorem zD5{i:Nat}{x:Str}{e:Expr}{te:TE}{pos':Pos}(hN:X.N.Nodup)(hi:X.N[i]?=some x)(hx:Loc X.env.scope x)(he:PE X e te)(hs:swapsWith e (some (.Name x pos')) pos.line X.env=pure false:=by rfl)(hf:X.fn x=true\/X.env.scope.names.lookup x=some .local:=by first|exact .inl rfl|exact .inr rfl|assumption) :
  PS X (.Assign [.Name x pos'] e pos) (zMn te (zvj i)):=by
 intro pins s σ H D I h;refine wpAny_Assign_Name (thn (he pins s σ H _ I h) λv s1 ⟨y,H1,I1,r1,q1⟩=>?_) hs
 exact zns I1 hN hi hx r1 (λs2 I2=>⟨_,H1,I2,q1⟩) hf
end
section
variable {X:Cx}{pos:Pos}
end
structure It where
 go:Nat->Hp->Prop
 yld:Nat->Hp->V->Hp->Prop
 stop:Nat->Hp->Prop
def zpv(X:Cx)(pins:List (Addr×Obj))(H:Hp)(b:Addr):Prop :=
 H b=none/\b≠X.env.locals/\b∉X.fs/\(b∈X.ex\/X.s₀.heap.objs.size<=b)/\(∀x c,X.env.cells.lookup x=some c->c≠b)/\∀p∈X.pn++pins,p.1≠b
theorem Inv.fpOk{X:Cx}{pins:List (Addr×Obj)}{σ:St}{H H':Hp}{s:Shared}{b:Addr}(I:Inv X pins σ H s)(hb:s.heap.objs.size<=b)(hn:H' b=none):zpv X pins H' b:=by
 refine⟨hn,Nat.ne_of_gt (yak I.lt hb),I.nofs hb,.inr (yae I.sz hb),λx c e z=>?_,λp hp z=>?_⟩
 ·obtain⟨v,q⟩:=I.cell x c e;exact absurd (yak q.lt (by rw[z];exact hb)) (yb9 _)
 ·exact absurd (yak (yad (I.pin p hp).1) (by rw[z];exact hb)) (yb9 _)
structure Turn(P:Program)(w:World)(K:PySem.W.Frag)(tg:Expr)(J:It)(fp:List Addr)(it:Addr)(tn:Nat->Heap->Prop):Prop where
 mem:it∈fp
 obj:∀i h,tn i h->∀b∈fp,∃o,h.get? b=some o/\∀v,o.data≠.cell v
 keep:∀i h h',tn i h->(∀b∈fp,∀o,h.get? b=some o->h'.get? b=some o)->tn i h'
 item:∀(X:Cx),X.prog=P->X.w=w->X.K=K->X.calm=true->∀(i:Nat) (pins:List (Addr×Obj)) (s:Shared) (σ:St) (H:Hp) (E:Value->Shared->Prop),Inv X pins σ H s->(∀b∈fp,zpv X pins H b)->tn i s.heap->J.go i H ->
  wpAny (model P w) X.A (pyNext (.ref it)) (λr s1=>∃u,r=some u /\
   wpAny (model P w) X.A (letOwnedTupleGo tg (.ref it) u) (λ_ s2=>∃x H',Inv X pins σ H' s2/\RelV x u/\J.yld i H x H'/\tn (i+1) s2.heap/\∀b∈fp,H' b=none) E s1) E s
 done:∀(X:Cx),X.prog=P->X.w=w->X.K=K->X.calm=true->∀(i:Nat) (pins:List (Addr×Obj)) (s:Shared) (σ:St) (H:Hp) (E:Value->Shared->Prop),Inv X pins σ H s->(∀b∈fp,zpv X pins H b)->tn i s.heap->J.stop i H ->
  wpAny (model P w) X.A (pyNext (.ref it)) (λr s1=>r=none/\Inv X pins σ H s1) E s
 self:∀(A:Around) (i:Nat) (s:Shared) (Q:Value->Shared->Prop) (E:Value->Shared->Prop),tn i s.heap->Q (.ref it) s->wpAny (model P w) A (pyIter (.ref it)) Q E s
abbrev TI:=St->Hp->(It->Hp->Prop)->Prop
def PIE(X:Cx)(pins:List (Addr×Obj))(σ:St)(tg:Expr)(R:It->Hp->Prop)(itv:Value)(s2:Shared):Prop :=
 ∃(it:Addr) (fp:List Addr) (tn:Nat->Heap->Prop) (J:It) (H':Hp),itv=.ref it/\Inv X pins σ H' s2/\Turn X.prog X.w X.K tg J fp it tn/\tn 0 s2.heap/\(∀b∈fp,zpv X pins H' b)/\R J H'
def PI(X:Cx)(tg iter:Expr)(wi:TI):Prop :=
 ∀(pins:List (Addr×Obj)) (s:Shared) (σ:St) (H:Hp) (R:It->Hp->Prop),Inv X pins σ H s->wi σ H R ->
  wpAny (model X.prog X.w) X.A (eval iter X.env) (λv s1=>wpAny (model X.prog X.w) X.A (pyIter v) (PIE X pins σ tg R) X.xe s1) X.xe s
theorem zBo{M:Model}{A:Around}{E:Value->Shared->Prop}{s:Shared}{tg:Expr}{it:Addr}{u:Value}{o:Obj}{n:String}{vs:Array Value}{Q:Unit->Shared->Prop}(ho:s.heap.get? it=some o)(hc:o.cls=.type n)(hd:o.data=.fields vs)
    (hn:["enumerate","zip","dict_itemiterator","dict_reverseitemiterator","odict_iterator","itertools.zip_longest","itertools.pairwise"].contains n=false) (hQ:Q () s):wpAny M A (letOwnedTupleGo tg (.ref it) u) Q E s:=by
  unfold letOwnedTupleGo
  cases tg<;>first
    |exact wpAny_pure hQ
    |(cases u<;>first
        |exact wpAny_pure hQ
        | (refine wpAny_bind (wpAny_load ho ?_)
           rw[hc,hd];show wpAny M A (if (["enumerate","zip","dict_itemiterator","dict_reverseitemiterator","odict_iterator","itertools.zip_longest","itertools.pairwise"].contains n && vs[0]? == some (rawInt _))=true then _ else _) Q E s
           rw[if_neg (by intro h;rw[hn,ydh]at h;cases h)]
           exact wpAny_pure hQ))
def Itl(K:PySem.W.Frag)(a:Addr):It :=
 ⟨λi H=>∃xs x,SqL K H a xs/\xs[i]?=some x,λi H x H'=>H'=H/\∀xs,SqL K H a xs->xs[i]?=some x,λi H=>∃xs,SqL K H a xs/\xs.length<=i⟩
def Itt(K:PySem.W.Frag)(a:Addr):It :=
 ⟨λi H=>∃xs x,SqT K H a xs/\xs[i]?=some x,λi H x H'=>H'=H/\∀xs,SqT K H a xs->xs[i]?=some x,λi H=>∃xs,SqT K H a xs/\xs.length<=i⟩
def Itr(lo:Int)(n:Nat):It:=⟨λi _=>i<n,λi H x H'=>H'=H/\x=.int (lo+i),λi _=>n<=i⟩
theorem zw0{P:Program}{w:World}{K:PySem.W.Frag}{tg:Expr}(a it:Addr):Turn P w K tg (Itl K a) [it] it (λi h=>h.IsListIter it a i) where
 mem:=by simp
 obj:=λi h st b hb=>by
  have e:b=it:=by simpa using hb
  subst e;obtain⟨o,e,c,d⟩:=st;exact⟨o,e,λv z=>by rw[d]at z;cases z⟩
 keep:=λi h h' st k=>st.at λo e=>k it (by simp) o e
 item:=by
  intro X hP hw hK hc i pins s σ H E I hf st hg;subst hP hw hK;obtain⟨xs,x,hq,hx⟩:=hg;obtain⟨its,rv,p,hz⟩:=I.list hq;obtain⟨u,hu,ru⟩:=rv.get hx;obtain⟨f0,f1,f2,f3,f4,f5⟩:=hf it (by simp)
  refine wpAny_pyNext_list_item st p.isList (x:=u) (by simpa using hu) λh' st' sb=>?_
  have I1:Inv X pins σ H { s with heap:=h' }:=I.turned (t':=s.toks) (λb o hb e=>(sb.2 b hb).trans e) f0 f1 f3 f4 f5
  obtain⟨o,e,c,d⟩:=id st';exact⟨u,rfl,zBo (s:={ s with heap:=h' }) e c d (by decide) ⟨x,H,I1,ru,⟨rfl,λys hy=>by rw[I.list_inj hy hq];exact hx⟩,st',λb hb=>(hf b hb).1⟩⟩
 done:=by
  intro X hP hw hK hc i pins s σ H E I hf st hg;subst hP hw hK;obtain⟨xs,hq,hx⟩:=hg;obtain⟨its,rv,p,hz⟩:=I.list hq;obtain⟨f0,f1,f2,f3,f4,f5⟩:=hf it (by simp)
  have hl:=rv.length;exact wpAny_pyNext_list_end (I.ok.hd hc) st p.isList (by simp;omega) λh' eb=>⟨rfl,I.turned (t':=s.toks) (λb o hb e=>eb b o hb e) f0 f1 f3 f4 f5⟩
 self:=λ_ _ _ _ _ st h=>wpAny_pyIter_listiter st h
theorem zuy{P:Program}{w:World}{K:PySem.W.Frag}{tg:Expr}(a it:Addr):Turn P w K tg (Itt K a) [it] it (λi h=>h.IsTupleIter it a i) where
 mem:=by simp
 obj:=λi h st b hb=>by
  have e:b=it:=by simpa using hb
  subst e;obtain⟨o,e,c,d⟩:=st;exact⟨o,e,λv z=>by rw[d]at z;cases z⟩
 keep:=λi h h' st k=>st.at λo e=>k it (by simp) o e
 item:=by
  intro X hP hw hK hc i pins s σ H E I hf st hg;subst hP hw hK;obtain⟨xs,x,hq,hx⟩:=hg;obtain⟨its,rv,p,hz⟩:=I.tuple hq;obtain⟨u,hu,ru⟩:=rv.get hx;obtain⟨f0,f1,f2,f3,f4,f5⟩:=hf it (by simp)
  refine wpAny_pyNext_tuple_item st (show s.heap.IsTuple a its.toArray from p) (x:=u) (by simpa using hu) λh' st' sb=>?_
  have I1:Inv X pins σ H { s with heap:=h' }:=I.turned (t':=s.toks) (λb o hb e=>(sb.2 b hb).trans e) f0 f1 f3 f4 f5
  obtain⟨o,e,c,d⟩:=id st';exact⟨u,rfl,zBo (s:={ s with heap:=h' }) e c d (by decide) ⟨x,H,I1,ru,⟨rfl,λys hy=>by rw[I.tuple_inj hy hq];exact hx⟩,st',λb hb=>(hf b hb).1⟩⟩
 done:=by
  intro X hP hw hK hc i pins s σ H E I hf st hg;subst hP hw hK;obtain⟨xs,hq,hx⟩:=hg;obtain⟨its,rv,p,hz⟩:=I.tuple hq;obtain⟨f0,f1,f2,f3,f4,f5⟩:=hf it (by simp)
  have hl:=rv.length;exact wpAny_pyNext_tuple_end (I.ok.hd hc) st (show s.heap.IsTuple a its.toArray from p) (by simp;omega) λh' eb=>⟨rfl,I.turned (t':=s.toks) (λb o hb e=>eb b o hb e) f0 f1 f3 f4 f5⟩
 self:=λ_ _ _ _ _ st h=>wpAny_pyIter_tupleiter st h
theorem zuz{P:Program}{w:World}{K:PySem.W.Frag}{tg:Expr}(it:Addr)(lo:Int)(n:Nat):Turn P w K tg (Itr lo n) [it] it (λi h=>IsRangeIter h it (lo+(i:Nat) * 1) ((n:Int) - (i:Nat)) 1) where
 mem:=by simp
 obj:=λi h st b hb=>by
  have e:b=it:=by simpa using hb
  subst e
  exact⟨_,st,λv z=>by
   have z':Data.fields _=Data.cell v:=z;cases z'⟩
 keep:=λi h h' st k=>k it (by simp) _ st
 item:=by
  intro X hP hw hK hc i pins s σ H E I hf st hg;subst hP hw hK;obtain⟨f0,f1,f2,f3,f4,f5⟩:=hf it (by simp)
  have W:=Walks.range (prog:=X.prog) (w:=X.w) (I.ok.hd hc) it lo 1 n;refine W.item i s _ _ hg st λv h' tk hv st' kk=>?_
  obtain⟨t,rfl⟩:=hv;have I1:Inv X pins σ H { s with heap:=h',toks:=tk }:=I.turned (λb o hb e=>kk b o (by simpa using hb) e) f0 f1 f3 f4 f5
  refine⟨_,rfl,zBo (s:={ s with heap:=h',toks:=tk }) (n:="range_iterator") st' rfl rfl (by decide) ⟨.int (lo+i),H,I1,⟨t,?_⟩,⟨rfl,rfl⟩,st',λb hb=>(hf b hb).1⟩⟩
  rw[Int.mul_one]
 done:=by
  intro X hP hw hK hc i pins s σ H E I hf st hg;subst hP hw hK;obtain⟨f0,f1,f2,f3,f4,f5⟩:=hf it (by simp)
  exact wpAny_pyNext_range_end (I.ok.hd hc) st (by have:n<=i:=hg;omega) λh' eb=>⟨rfl,I.turned (t':=s.toks) (λb o hb e=>eb b o hb e) f0 f1 f3 f4 f5⟩
 self:=λ_ _ _ _ _ st h=>wpAny_pyIter_rangeiter st h
section
variable {X:Cx}{tg:Expr}
def iList(K:PySem.W.Frag)(tl:TE):TI:=λσ H R=>tl σ H λx H1=>∃a,x=.ref a/\(∃xs,SqL K H1 a xs)/\R (Itl K a) H1
def iTup(K:PySem.W.Frag)(tl:TE):TI:=λσ H R=>tl σ H λx H1=>∃a,x=.ref a/\(∃xs,SqT K H1 a xs)/\R (Itt K a) H1
theorem zwz{l:Expr}{tl:TE}(hl:PE X l tl):PI X tg l (iList X.K tl):=by
 intro pins s σ H R I h;refine thn (hl pins s σ H _ I h) λv s1 ⟨x,H1,I1,r1,q1⟩=>?_
 obtain⟨a,e,⟨xs,hq⟩,q⟩:=q1;subst e;cases r1;obtain⟨its,rv,p,hz⟩:=I1.list hq;refine wpAny_pyIter_list p.isList ?_;refine⟨s1.heap.objs.size,[s1.heap.objs.size],_,_,H1,rfl,I1.kept (t':=s1.toks) λb o e=>yac _ e,zw0 a _,⟨_,yav _ rfl,rfl,rfl⟩,λb hb=>?_,q⟩
 have e:b=s1.heap.objs.size:=by simpa using hb
 subst e;exact I1.fpOk (yaa _) (I1.hok.fresh (yaa _))
theorem zK1{l:Expr}{tl:TE}(hl:PE X l tl):PI X tg l (iTup X.K tl):=by
 intro pins s σ H R I h;refine thn (hl pins s σ H _ I h) λv s1 ⟨x,H1,I1,r1,q1⟩=>?_
 obtain⟨a,e,⟨xs,hq⟩,q⟩:=q1;subst e;cases r1;obtain⟨its,rv,p,hz⟩:=I1.tuple hq;refine wpAny_pyIter_tuple (show s1.heap.IsTuple a its.toArray from p) ?_;refine⟨s1.heap.objs.size,[s1.heap.objs.size],_,_,H1,rfl,I1.kept (t':=s1.toks) λb o e=>yac _ e,zuy a _,⟨_,yav _ rfl,rfl,rfl⟩,λb hb=>?_,q⟩
 have e:b=s1.heap.objs.size:=by simpa using hb
 subst e;exact I1.fpOk (yaa _) (I1.hok.fresh (yaa _))
theorem ztx{pins:List (Addr×Obj)}{σ:St}{H:Hp}{s:Shared}{R:It->Hp->Prop}{E:Value->Shared->Prop}{lo hi:Int}{t u v:Tok}{tk:Nat}(I:Inv X pins σ H s)(h1:-(2 ^ 62)<=lo)(h2:lo<2 ^ 62)(h3:-(2 ^ 62)<=hi)(h4:hi<2 ^ 62)
  (q:R (Itr lo (hi - lo).toNat) H):wpAny (model X.prog X.w) X.A (pyIter (.ref s.heap.objs.size)) (PIE X pins σ tg R) E { s with heap:=s.heap.push { cls:=.type "range",data:=.fields #[.int lo t,.int hi u,.int 1 v] },toks:=tk }:=by
 refine wpAny_pyIter_range (IsRange.new ..) (small_one h1 h2 h3 h4) ?_;have I1:Inv X pins σ H { s with heap:=s.heap.push { cls:=.type "range",data:=.fields #[.int lo t,.int hi u,.int 1 v] },toks:=tk }:=I.kept λb o e=>yac _ e
 refine⟨(s.heap.push { cls:=.type "range",data:=.fields #[.int lo t,.int hi u,.int 1 v] }).objs.size,[(s.heap.push { cls:=.type "range",data:=.fields #[.int lo t,.int hi u,.int 1 v] }).objs.size],_,_,H,rfl,
  I1.kept (t':=tk) λb o e=>yac _ e,zuz _ lo (hi - lo).toNat,?_,λb hb=>?_,q⟩
 ·have e1:lo+((0:Nat):Int) * 1=lo:=by simp
  have e2:(((hi - lo).toNat:Nat):Int) - ((0:Nat):Int)=Builtin.Range.rangeSize lo hi 1:=by rw[rangeSize_one];split<;>omega
  show IsRangeIter _ _ (lo+((0:Nat):Int) * 1) ((((hi - lo).toNat:Nat):Int) - ((0:Nat):Int)) 1;rw[e1,e2];exact yav _ rfl
 ·have e:b=(s.heap.push { cls:=.type "range",data:=.fields #[.int lo t,.int hi u,.int 1 v] }).objs.size:=by simpa using hb
  subst e;exact I1.fpOk (yaa _) (I1.hok.fresh (yaa _))
def iRng1(ta:TA):TI:=λσ H R=>ta σ H λvs H1=>∃j:Int,vs=[.int j]/\-(2 ^ 62)<=j/\j<2 ^ 62/\R (Itr 0 j.toNat) H1
def iRng2(ta:TA):TI:=λσ H R=>ta σ H λvs H1=>∃i j:Int,vs=[.int i,.int j]/\(-(2 ^ 62)<=i/\i<2 ^ 62/\-(2 ^ 62)<=j/\j<2 ^ 62)/\R (Itr i (j - i).toNat) H1
theorem zwy{a:Expr}{ta:TA}{p pos:Pos}(hg:Gl X "range")(hm:X.mg "range"=none)(ha:PA X [a] ta)(hs:starEach [a] X.env=[(false,eval a X.env)]:=by rfl):PI X tg (.Call (.Name "range" p) [a] [] pos) (iRng1 ta):=by
 intro pins s σ H R I h;refine Call_ (zjp I hg hm boot_range (ybk (thn (ha pos pins s σ H _ I h) λus s1 ⟨vs,H1,I1,r1,q1⟩=>?_) hs rfl))
 obtain⟨j,e,q1,q2,q⟩:=q1;subst e;cases r1 with
 |cons r rr =>
  cases rr;obtain⟨t,rfl⟩:=r;exact call_range_1 (ztx I1 (by omega) (by omega) q1 q2 (by simpa using q))
theorem zwx{a b:Expr}{ta:TA}{p pos:Pos}(hg:Gl X "range")(hm:X.mg "range"=none)(ha:PA X [a,b] ta)(hs:starEach [a,b] X.env=[(false,eval a X.env),(false,eval b X.env)]:=by rfl)(hs2:starEach [b] X.env=[(false,eval b X.env)]:=by rfl) :
  PI X tg (.Call (.Name "range" p) [a,b] [] pos) (iRng2 ta):=by
 intro pins s σ H R I h;refine Call_ (zjp I hg hm boot_range (ybk (thn (ha pos pins s σ H _ I h) λus s1 ⟨vs,H1,I1,r1,q1⟩=>?_) (by rw[hs,hs2]) (by rw[hs2];rfl)))
 obtain⟨i,j,e,⟨q1,q2,q3,q4⟩,q⟩:=q1;subst e;cases r1 with
 |cons r rr =>
  cases rr with
  |cons r' rr =>
   cases rr;obtain⟨t,rfl⟩:=r;obtain⟨t',rfl⟩:=r';exact call_range_2 (ztx I1 q1 q2 q3 q4 q)
def tFor(wi:TI)(g:TG)(tb:TS):TS:=λD σ H=>wi σ H λJ H1=>∃W:Nat->Nat->St->Hp->Prop,(∃m,W 0 m σ H1)/\∀i m σ H,W i m σ H ->
 (J.stop i H/\D.nx σ H)\/(J.go i H/\∃N:St->Hp->Prop,(∀σ' H',N σ' H'->∃m',m'<m/\W (i+1) m' σ' H')/\∀x H',J.yld i H x H'->g x σ H' λσ2 H2=>tb { D with nx:=N,ct:=N,bk:=D.nx } σ2 H2)
def zla(fp:List Addr)(h:Heap):List (Addr×Obj):=fp.filterMap λb=>(h.get? b).map λo=>(b,o)
theorem zcu{fp:List Addr}{h:Heap}{b:Addr}{o:Obj}(hb:b∈fp)(e:h.get? b=some o):(b,o)∈zla fp h:=yc5.mpr ⟨b,hb,by rw[e];rfl⟩
theorem zqg{fp:List Addr}{h:Heap}{p:Addr×Obj}(hp:p∈zla fp h):p.1∈fp/\h.get? p.1=some p.2:=by
 obtain⟨b,hb,e⟩:=yc5.mp hp;cases q:h.get? b with
 |none=>rw[q]at e;cases e
 |some o =>
  rw[q]at e;have e':(b,o)=p:=yas e;subst e';exact⟨hb,q⟩
theorem Inv.pinned{pins:List (Addr×Obj)}{σ:St}{H:Hp}{s:Shared}{fp:List Addr}(I:Inv X pins σ H s)(hf:∀b∈fp,zpv X pins H b)(ho:∀b∈fp,∃o,s.heap.get? b=some o/\∀v,o.data≠.cell v):Inv X (pins++zla fp s.heap) σ H s :=
 I.pins_of λp hp=>(ybe.mp hp).elim (λz=>I.pin p (yan _ z)) λz=>by
  obtain⟨hb,e⟩:=zqg z;obtain⟨f0,f1,f2,_⟩:=hf p.1 hb;obtain⟨o,e',d⟩:=ho p.1 hb;rw[e]at e';cases e';exact⟨e,f0,f1,f2,d⟩
theorem Inv.unpinned{pins pl:List (Addr×Obj)}{σ:St}{H:Hp}{s:Shared}(I:Inv X (pins++pl) σ H s):Inv X pins σ H s:=I.pins_of λp hp=>I.pin p (yan _ (ybz _ hp))
theorem zD7{iter:Expr}{body:List Stmt}{wi:TI}{g:TG}{tb:TS}{pos:Pos}(hp:PassesOwn (model X.prog X.w) X.A X.env X.xe)(hc:X.calm=true)(hi:PI X tg iter wi)(hg:PG X tg g)(hb:PSs X body tb)
  (hs:∀x,foldedSetIterable iter X.env x=pure x:=by intro _;rfl):PS X (.For tg iter body [] pos) (tFor wi g tb):=by
 intro pins s σ H D I h;refine wpAny_For (thn (hi pins s σ H _ I h) λv s1 h1=>thn h1 λitv s2 h2=>?_) hs
 obtain⟨it,fp,tn,J,H2,e,I2,T,st2,f2,W,⟨m0,w0⟩,turn⟩:=h2;subst e;have stat:∀{H':Hp},(∀b∈fp,H' b=none)->∀b∈fp,zpv X pins H' b:=λhn b hb=>⟨hn b hb,(f2 b hb).2⟩
 refine codeAny_forLoop_any (λn s'=>∃i σ' H',Inv X pins σ' H' s'/\tn i s'.heap/\(∀b∈fp,H' b=none)/\W i n σ' H') ?_ m0 ⟨0,σ,H2,I2,st2,λb hb=>(f2 b hb).1,w0⟩
 rintro n s3 ⟨i,σ3,H3,I3,st3,fr3,w3⟩
 rcases turn i n σ3 H3 w3 with ⟨stop,qn⟩|⟨go,N,hN,step⟩
 ·refine wpAny_passesOwn hp (thn (T.done X rfl rfl rfl hc i pins s3 σ3 H3 X.xe I3 (stat fr3) st3 stop) λr s4 ⟨hr,I4⟩=>?_)
  subst hr;exact wpAny_execs_nil ⟨σ3,H3,I4,qn⟩
 ·refine wpAny_passesOwn hp (thn (T.item X rfl rfl rfl hc i pins s3 σ3 H3 X.xe I3 (stat fr3) st3 go) λr s4 ⟨u,hr,h4⟩=>?_)
  subst hr;refine wpAny_passesOwn hp (thn h4 λ_ s5 ⟨x,H5,I5,r5,y5,st5,fr5⟩=>?_)
  have I5':=I5.pinned (stat fr5) (T.obj _ _ st5);refine wpAny_passesOwn hp (thn (hg _ s5 σ3 H5 x u _ I5' r5 (step x H5 y5)) λ_ s6 ⟨σ6,H6,I6,q6⟩=>?_)
  refine wpAny_passesOwn hp (thn (hb _ s6 σ6 H6 _ I6 q6) λf s7 q7=>?_)
  have again:∀{σ7:St} {H7:Hp},Inv X (pins++zla fp s5.heap) σ7 H7 s7->N σ7 H7->∃m,m<n/\∃i σ' H',Inv X pins σ' H' s7/\tn i s7.heap/\(∀b∈fp,H' b=none)/\W i m σ' H':=λ{σ7 H7} I7 n7=>by
   obtain⟨m',hm,w7⟩:=hN σ7 H7 n7;refine⟨m',hm,i+1,σ7,H7,I7.unpinned,T.keep _ _ _ st5 λb hb o e=>(I7.pin (b,o) (yan _ (yan _ (zcu hb e)))).1,λb hb=>?_,w7⟩
   obtain⟨o,e,d⟩:=T.obj _ _ st5 b hb;exact(I7.pin (b,o) (yan _ (yan _ (zcu hb e)))).2.1
  cases f with
  |next=>obtain⟨σ7,H7,I7,n7⟩:=q7;exact again I7 n7
  |cont=>obtain⟨σ7,H7,I7,n7⟩:=q7;exact again I7 n7
  |brk=>obtain⟨σ7,H7,I7,q7⟩:=q7;exact⟨σ7,H7,I7.unpinned,q7⟩
  |ret v=>obtain⟨x7,σ7,H7,I7,r7,q7⟩:=q7;exact⟨x7,σ7,H7,I7.unpinned,r7,q7⟩
end
abbrev R2:=V->V->Hp->VK->Prop
def OpR(X:Cx)(f:Value->Value->Sem Value)(r:R2):Prop :=
 ∀(pins:List (Addr×Obj)) (s:Shared) (σ:St) (H:Hp) (x y:V) (v u:Value) (Q:VK),Inv X pins σ H s->RelV x v->RelV y u->r x y H Q ->
  wpAny (model X.prog X.w) X.A (f v u) (EP X pins σ Q) X.xe s
def UnR(X:Cx)(f:Value->Sem Value)(r:V->Hp->VK->Prop):Prop :=
 ∀(pins:List (Addr×Obj)) (s:Shared) (σ:St) (H:Hp) (x:V) (v:Value) (Q:VK),Inv X pins σ H s->RelV x v->r x H Q ->
  wpAny (model X.prog X.w) X.A (f v) (EP X pins σ Q) X.xe s
def zd3(X:Cx)(f:Value)(r:List V->Hp->VK->Prop):Prop :=
 ∀(pins:List (Addr×Obj)) (s:Shared) (σ:St) (H:Hp) (xs:List V) (us:List Value) (Q:VK),Inv X pins σ H s->zbp xs us->r xs H Q ->
  wpAny (model X.prog X.w) X.A (call f us) (EP X pins σ Q) X.xe s
def tOp(r:R2)(ta tb:TE):TE:=λσ H Q=>ta σ H λx H1=>tb σ H1 λy H2=>r x y H2 Q
def tUn(r:V->Hp->VK->Prop)(ta:TE):TE:=λσ H Q=>ta σ H λx H1=>r x H1 Q
def rI(C:Int->Int->Prop)(g:Int->Int->V):R2:=λx y H Q=>∃i j,x=.int i/\y=.int j/\C i j/\Q (g i j) H
def rI0(g:Int->Int->V):R2:=λx y H Q=>∃i j,x=.int i/\y=.int j/\Q (g i j) H
def rU(g:Int->V):V->Hp->VK->Prop:=λx H Q=>∃i,x=.int i/\Q (g i) H
section
variable {X:Cx}{a b c:Expr}{ta tb tc:TE}{pos:Pos}
theorem binT(ha:PE X a ta)(hb:PE X b tb){pins:List (Addr×Obj)}{s:Shared}{σ:St}{H:Hp}{R:V->V->Hp->Prop}(I:Inv X pins σ H s)
  (h:ta σ H λx H1=>tb σ H1 λy H2=>R x y H2) {Q:Value->Shared->Prop} {f:Value->Value->Sem Value}
  (hf:∀v u s2 x y H2,Inv X pins σ H2 s2->RelV x v->RelV y u->R x y H2->wpAny (model X.prog X.w) X.A (f v u) Q X.xe s2) :
  wpAny (model X.prog X.w) X.A (eval a X.env) (λv s₁=>wpAny (model X.prog X.w) X.A (eval b X.env) (λu s₂=>wpAny (model X.prog X.w) X.A (f v u) Q X.xe s₂) X.xe s₁) X.xe s:=by
 refine thn (ha pins s σ H _ I h) λv s1 ⟨x,H1,I1,r1,q1⟩=>?_
 refine thn (hb pins s1 σ H1 _ I1 q1) λu s2 ⟨y,H2,I2,r2,q2⟩=>?_
 exact hf v u s2 x y H2 I2 r1 r2 q2
theorem pe_op{op:Operator}{r:R2}(ho:OpR X (binaryOp op) r)(ha:PE X a ta)(hb:PE X b tb):PE X (.BinOp a op b pos) (tOp r ta tb):=by
 intro pins s σ H Q I h;exact wpAny_BinOp (binT ha hb I h λv u s2 x y H2 I2 rx ry q=>ho pins s2 σ H2 x y v u Q I2 rx ry q)
theorem pe_un{op:UnaryOp}{r:V->Hp->VK->Prop}(ho:UnR X (unaryOp op) r)(ha:PE X a ta):PE X (.UnaryOp op a pos) (tUn r ta):=by
 intro pins s σ H Q I h;exact UnaryOp_ (thn (ha pins s σ H _ I h) λv s1 ⟨x,H1,I1,r1,q1⟩=>ho pins s1 σ H1 x v Q I1 r1 q1)
theorem opI{f:Value->Value->Sem Value}{C:Int->Int->Prop}{g:Int->Int->Int}
  (rule:∀(i j:Int) (t u:Tok) (s:Shared) (Q:Value->Shared->Prop) (E:Value->Shared->Prop),C i j->Q (.int (g i j) s.toks) { s with toks:=s.toks+1 }->wpAny (model X.prog X.w) X.A (f (.int i t) (.int j u)) Q E s) :
  OpR X f (rI C λi j=>.int (g i j)):=by
 intro pins s σ H x y v u Q I rx ry h;obtain⟨i,j,rfl,rfl,hc,q⟩:=h;obtain⟨t,rfl⟩:=rx;obtain⟨t',rfl⟩:=ry;exact rule i j t t' s _ _ hc ⟨.int (g i j),H,I.tok _,⟨_,rfl⟩,q⟩
theorem zMo{f:Value->Value->Sem Value}{g:Int->Int->Int}
  (rule:∀(i j:Int) (t u:Tok) (s:Shared) (Q:Value->Shared->Prop) (E:Value->Shared->Prop),Q (.int (g i j) s.toks) { s with toks:=s.toks+1 }->wpAny (model X.prog X.w) X.A (f (.int i t) (.int j u)) Q E s) :
  OpR X f (rI0 λi j=>.int (g i j)):=by
 intro pins s σ H x y v u Q I rx ry h;obtain⟨i,j,rfl,rfl,q⟩:=h;obtain⟨t,rfl⟩:=rx;obtain⟨t',rfl⟩:=ry;exact rule i j t t' s _ _ ⟨.int (g i j),H,I.tok _,⟨_,rfl⟩,q⟩
theorem zMp{f:Value->Value->Sem Value}{g:Int->Int->Bool}
  (rule:∀(i j:Int) (t u:Tok) (s:Shared) (Q:Value->Shared->Prop) (E:Value->Shared->Prop),Q (.bool (g i j)) s->wpAny (model X.prog X.w) X.A (f (.int i t) (.int j u)) Q E s) :
  OpR X f (rI0 λi j=>.bl (g i j)):=by
 intro pins s σ H x y v u Q I rx ry h;obtain⟨i,j,rfl,rfl,q⟩:=h;obtain⟨t,rfl⟩:=rx;obtain⟨t',rfl⟩:=ry;exact rule i j t t' s _ _ ⟨.bl (g i j),H,I,rfl,q⟩
def CPow(i j:Int):Prop:=0<=j/\j<=1000000/\i.natAbs<2 ^ 64
def CMul(i j:Int):Prop:=(-(2 ^ 64)<i/\i<2 ^ 64)\/(-(2 ^ 64)<j/\j<2 ^ 64)
theorem CMul.ok{i j:Int}(h:CMul i j):IntMulOk i j:=by
 rcases h with ⟨h1,h2⟩|⟨h1,h2⟩
 ·exact .of_left (intBits_le_64 h1 h2)
 ·exact .of_right (intBits_le_64 h1 h2)
theorem zKn:OpR X (binaryOp .Add) (rI0 λi j=>.int (i+j)):=zMo λ_ _ _ _ _ _ _ q=>add_int q
theorem zKf:OpR X (binaryOp .Sub) (rI0 λi j=>.int (i - j)):=zMo λ_ _ _ _ _ _ _ q=>sub_int q
theorem zDb:OpR X (binaryOp .Mult) (rI CMul λi j=>.int (i * j)):=opI λ_ _ _ _ _ _ _ hc q=>mul_int q hc.ok
theorem zFn:OpR X (binaryOp .Mod) (rI (λ_ j=>j≠0) λi j=>.int (i.fmod j)):=opI λ_ _ _ _ _ _ _ hc q=>mod_int' hc q
theorem zKh:OpR X (binaryOp .Pow) (rI CPow λi j=>.int (i ^ j.toNat)):=opI λ_ _ _ _ _ _ _ hc q=>pow_int_small hc.1 hc.2.1 hc.2.2 q
theorem zKm:OpR X (binaryOp .BitAnd) (rI0 λi j=>.int (Builtin.bitAnd i j)):=zMo λ_ _ _ _ _ _ _ q=>and_int q
theorem op_or:OpR X (binaryOp .BitOr) (rI0 λi j=>.int (Builtin.bitOr i j)):=zMo λ_ _ _ _ _ _ _ q=>or_int q
theorem unI{f:Value->Sem Value}{g:Int->Int}
  (rule:∀(i:Int) (t:Tok) (s:Shared) (Q:Value->Shared->Prop) (E:Value->Shared->Prop),Q (.int (g i) s.toks) { s with toks:=s.toks+1 }->wpAny (model X.prog X.w) X.A (f (.int i t)) Q E s) :
  UnR X f (rU λi=>.int (g i)):=by
 intro pins s σ H x v Q I rx h;obtain⟨i,rfl,q⟩:=h;obtain⟨t,rfl⟩:=rx;exact rule i t s _ _ ⟨.int (g i),H,I.tok _,⟨_,rfl⟩,q⟩
theorem zIa:UnR X (unaryOp .USub) (rU λi=>.int (-i)):=unI λ_ _ _ _ _ q=>neg_int q
end
section
variable {X:Cx}{a b c:Expr}{ta tb tc:TE}{pos:Pos}
theorem zr9{pins:List (Addr×Obj)}{σ:St}{H:Hp}{s:Shared}{Q:VK}{k k':Bool}(I:Inv X pins σ H s)(q:Q (.bl k) H)(e:k=k'):EP X pins σ Q (.bool k') s:=by
 subst e;exact⟨.bl k,H,I,rfl,q⟩
theorem op_lt:OpR X (compareOp .Lt) (rI0 λi j=>.bl (decide (i<j))):=zMp λ_ _ _ _ _ _ _ q=>lt_int q
theorem zKi:OpR X (compareOp .LtE) (rI0 λi j=>.bl (decide (i<=j))):=zMp λ_ _ _ _ _ _ _ q=>le_int q
theorem op_gt:OpR X (compareOp .Gt) (rI0 λi j=>.bl (decide (j<i))):=zMp λ_ _ _ _ _ _ _ q=>gt_int q
theorem op_ge:OpR X (compareOp .GtE) (rI0 λi j=>.bl (decide (j<=i))):=zMp λ_ _ _ _ _ _ _ q=>ge_int q
theorem zx5:OpR X (compareOp .In) (λx y H Q=>∃i j,x=.str i/\y=.str j/\Q (.bl (!(Builtin.Str.occurrences j i 0 j.length 1).isEmpty)) H):=by
 intro pins s σ H x y v u Q I rx ry h;obtain⟨i,j,rfl,rfl,q⟩:=h;obtain⟨t,rfl⟩:=rx;obtain⟨t',rfl⟩:=ry;exact in_str (zr9 I q rfl)
theorem zKj:OpR X (compareOp .Is) (λx y H Q=>y=.non/\Q (.bl (decide (x=.non))) H):=by
 intro pins s σ H x y v u Q I rx ry h;obtain⟨rfl,q⟩:=h;cases ry;refine is_none_gen (zr9 I q ?_)
 cases x<;>first
  |(cases rx;rfl)
  |(obtain⟨t,rfl⟩:=rx;rfl)
theorem zFk:OpR X (compareOp .IsNot) (λx y H Q=>y=.non/\Q (.bl (!decide (x=.non))) H):=by
 intro pins s σ H x y v u Q I rx ry h;obtain⟨rfl,q⟩:=h;cases ry;refine isnot_none_gen (zr9 I q ?_)
 cases x<;>first
  |(cases rx;rfl)
  |(obtain⟨t,rfl⟩:=rx;rfl)
theorem zFh{op:CmpOp}{r:R2}(ho:OpR X (compareOp op) r)(ha:PE X a ta)(hb:PE X b tb)(hm:behindInMarks op b=false):PE X (.Compare a [op] [b] pos) (tOp r ta tb):=by
 intro pins s σ H Q I h;exact wpAny_Compare1 (binT ha hb I h λv u s2 x y H2 I2 rx ry q=>ho pins s2 σ H2 x y v u Q I2 rx ry q) hm
def zIf(t:TE):TT:=λσ H Q=>t σ H λx H'=>∃k,x=.bl k/\Q k H'
theorem zF8{op:CmpOp}{r:R2}(ho:OpR X (compareOp op) r)(ha:PE X a ta)(hb:PE X b tb)(hm:behindInMarks op b=false):PT X (.Compare a [op] [b] pos) (zIf (tOp r ta tb)):=by
 intro pins s σ H Q I h
 refine wpAny_isTrue_Compare1 (thn (ha pins s σ H _ I h) λv s1 ⟨x,H1,I1,r1,q1⟩=>thn (hb pins s1 σ H1 _ I1 q1) λu s2 ⟨y,H2,I2,r2,q2⟩ =>
  thn (ho pins s2 σ H2 x y v u _ I2 r1 r2 q2) λc s3 ⟨z,H3,I3,r3,k,e,q3⟩=>?_) hm
 subst e;cases r3;exact wpAny_truthy_bool ⟨H3,I3,q3⟩
def zw7(r r':R2)(ta tb tc:TE):TE:=λσ H Q=>ta σ H λx H1=>tb σ H1 λy H2=>r x y H2 λz H3=>∃k,z=.bl k /\
 (if k=true then tc σ H3 λw' H4=>r' y w' H4 Q else Q (.bl false) H3)
theorem zAr{op op':CmpOp}{r r':R2}(ho:OpR X (compareOp op) r)(ho':OpR X (compareOp op') r')(ha:PE X a ta)(hb:PE X b tb)(hc:PE X c tc)
  (hm:lastMarks [op,op'] [b,c]=false:=by with_unfolding_all rfl):PE X (.Compare a [op,op'] [b,c] pos) (zw7 r r' ta tb tc):=by
 intro pins s σ H Q I h
 refine Compare_chain (thn (ha pins s σ H _ I h) λv s1 ⟨x,H1,I1,r1,q1⟩=>chain_link (thn (hb pins s1 σ H1 _ I1 q1) λu s2 ⟨y,H2,I2,r2,q2⟩ =>
  thn (ho pins s2 σ H2 x y v u _ I2 r1 r2 q2) λd s3 ⟨z,H3,I3,r3,k,e,q3⟩=>?_)) hm
 subst e;cases r3;refine wpAny_truthy_bool ?_;cases k with
 |false=>exact ite_ff ⟨.bl false,H3,I3,rfl,q3⟩
 |true=>exact ite_tt (chain_last (thn (hc pins s3 σ H3 _ I3 q3) λw' s4 ⟨z',H4,I4,r4,q4⟩=>ho' pins s4 σ H4 y z' u w' Q I4 r2 r4 q4))
theorem zAk{op op':CmpOp}{r r':R2}(ho:OpR X (compareOp op) r)(ho':OpR X (compareOp op') r')(ha:PE X a ta)(hb:PE X b tb)(hc:PE X c tc)
  (hm:lastMarks [op,op'] [b,c]=false:=by with_unfolding_all rfl):PT X (.Compare a [op,op'] [b,c] pos) (zIf (zw7 r r' ta tb tc)):=by
 intro pins s σ H Q I h
 refine isTrue_chain (thn (ha pins s σ H _ I h) λv s1 ⟨x,H1,I1,r1,q1⟩=>test_link (thn (hb pins s1 σ H1 _ I1 q1) λu s2 ⟨y,H2,I2,r2,q2⟩ =>
  thn (ho pins s2 σ H2 x y v u _ I2 r1 r2 q2) λd s3 ⟨z,H3,I3,r3,k,e,q3⟩=>?_)) hm
 subst e;cases r3;refine wpAny_truthy_bool ?_;cases k with
 |false =>
  obtain⟨k',e',q'⟩:=q3;cases e';exact ite_ff ⟨H3,I3,q'⟩
 |true =>
  refine ite_tt (test_last (thn (hc pins s3 σ H3 _ I3 q3) λw' s4 ⟨z',H4,I4,r4,q4⟩=>thn (ho' pins s4 σ H4 y z' u w' _ I4 r2 r4 q4) λd' s5 ⟨z2,H5,I5,r5,k2,e2,q5⟩=>?_))
  subst e2;cases r5;exact wpAny_truthy_bool ⟨H5,I5,q5⟩
theorem zql:(sizeLine:Nat)<2 ^ 63:=by rw[sizeLine_eq];decide
theorem zv9:OpR X (binaryOp .Add) (λx y H Q=>∃i j,x=.str i/\y=.str j/\i.length+j.length<=sizeLine/\Q (.str (i++j)) H):=by
 intro pins s σ H x y v u Q I rx ry h;obtain⟨i,j,rfl,rfl,hz,q⟩:=h;obtain⟨t,rfl⟩:=rx;obtain⟨t',rfl⟩:=ry;exact add_str (λt' tk=>⟨.str (i++j),H,I.tok _,⟨_,rfl⟩,q⟩) hz
theorem zku{x:V}{us:List Value}(r:zbp [x] us):∃u,us=[u]/\RelV x u:=by
 cases r with
 |cons r1 r2=>cases r2;exact⟨_,rfl,r1⟩
theorem zux{x y:V}{us:List Value}(r:zbp [x,y] us):∃u w',us=[u,w']/\RelV x u/\RelV y w':=by
 cases r with
 |cons r1 r2 =>
  cases r2 with
  |cons r3 r4=>cases r4;exact⟨_,_,rfl,r1,r3⟩
theorem zCb:zd3 X (.builtin "abs") (λxs H Q=>∃i,xs=[.int i]/\Q (.int (if i<0 then -i else i)) H):=by
 intro pins s σ H xs us Q I r h;obtain⟨i,rfl,q⟩:=h;obtain⟨u,rfl,t,rfl⟩:=zku r;exact call_abs_int λu tk=>⟨.int (if i<0 then -i else i),H,I.tok _,⟨_,rfl⟩,q⟩
theorem zyy(hc:X.calm=true):zd3 X (.builtin "min") (λxs H Q=>∃i j,xs=[.int i,.int j]/\Q (.int (if j<i then j else i)) H):=by
 intro pins s σ H xs us Q I r h;obtain⟨i,j,rfl,q⟩:=h;obtain⟨u,w',rfl,⟨t,rfl⟩,⟨t',rfl⟩⟩:=zux r;refine min_two_ints (I.ok.hd hc) λh' tk k=>⟨_,H,I.kept k,?_,q⟩
 by_cases hj:j<i
 ·rw[if_pos hj,if_pos hj];exact⟨_,rfl⟩
 ·rw[if_neg hj,if_neg hj];exact⟨_,rfl⟩
theorem zrn:zd3 X (.type "int") (λxs H Q=>(∃i,xs=[.int i]/\Q (.int i) H)\/∃k,xs=[.bl k]/\Q (.int (if k then 1 else 0)) H):=by
 intro pins s σ H xs us Q I r h
 rcases h with ⟨i,rfl,q⟩|⟨k,rfl,q⟩
 ·obtain⟨u,rfl,t,rfl⟩:=zku r;exact call_int_int ⟨.int i,H,I,⟨_,rfl⟩,q⟩
 ·obtain⟨u,rfl,r1⟩:=zku r;cases r1;exact call_int_bool ⟨.int (if k then 1 else 0),H,I.tok _,⟨_,rfl⟩,q⟩
def LenV(K:PySem.W.Frag)(x:V)(H:Hp)(n:Nat):Prop :=
 match x with
 |.str y=>y.length<=sizeLine/\n=y.length
 |.byt y=>y.size<=sizeLine/\n=y.size
 |.ref p=>(∃xs,SqL K H p xs/\n=xs.length)\/∃xs,SqT K H p xs/\n=xs.length
 |_=>False
theorem zuu:zd3 X (.builtin "len") (λxs H Q=>∃x n,xs=[x]/\LenV X.K x H n/\Q (.int n) H):=by
 intro pins s σ H xs us Q I r h;obtain⟨x,n,rfl,e,q⟩:=h;obtain⟨u,rfl,rx⟩:=zku r;have hl:=zql;have hs:sizeLine=16777216:=sizeLine_eq;cases x with
 |str y =>
  obtain⟨t,rfl⟩:=rx;obtain⟨hy,e'⟩:y.length<=sizeLine/\n=y.length:=e;subst e';exact len_str (by omega) ⟨.int _,H,I.tok _,⟨_,rfl⟩,q⟩
 |byt y =>
  obtain⟨t,rfl⟩:=rx;obtain⟨hy,e'⟩:y.size<=sizeLine/\n=y.size:=e;subst e';exact PySem.W.len_bytes (by omega) ⟨.int _,H,I.tok _,⟨_,rfl⟩,q⟩
 |ref p =>
  cases rx;have e':(∃xs,SqL X.K H p xs/\n=xs.length)\/∃xs,SqT X.K H p xs/\n=xs.length:=e
  rcases e' with ⟨xs,hx,e'⟩|⟨xs,hx,e'⟩
  ·subst e';obtain⟨its,r',pl,hz⟩:=I.list hx;have hlen:=r'.length;exact Calls.call_len_list pl.isList (by simp only[yai];omega) ⟨.int xs.length,H,I.tok _,⟨_,by simp only[yai];rw[hlen]⟩,q⟩
  ·subst e';obtain⟨its,r',pl,hz⟩:=I.tuple hx;have hlen:=r'.length;exact len_tuple pl (by simp only[yai];omega) ⟨.int xs.length,H,I.tok _,⟨_,by simp only[yai];rw[hlen]⟩,q⟩
 |_=>exact(show False from e).elim
end
structure ObjM(h:Heap)(x dx C:Addr)(mA:Str->Option Value):Prop where
 obj:h.get? x=some (PySem.W.instObj C dx)
 ns:h.Ns1 dx mA
 ne:dx≠x
theorem zxm{h:Heap}{dx:Addr}{mA:Str->Option Value}(n:h.Ns1 dx mA):∃od,h.get? dx=some od/\∀name,PySem.W.lookIn name od=some (mA name):=by
 obtain⟨o,es,ep,ho,hd,hk,_,hm⟩:=n;refine⟨o,ho,λname=>?_⟩
 have e:=hm name;unfold nsFind findBy at e;rw[<- Array.find?_toList]at e;unfold PySem.W.lookIn;rw[hd];dsimp only;split
 ·rename_i y q;rw[q]at e;exact congrArg some e
 ·rename_i q;rw[q]at e
  have a:es.toList.any (·.refKey)=false:=by
   rw[List.any_eq_false];intro y hy;obtain⟨z,t,hkey⟩:=hk y (Array.mem_toList_iff.mp hy);simp[DictEntry.refKey,hkey]
  have a':¬ es.toList.any (·.refKey)=true:=by rw[a];exact ybg
  rw[if_neg a'];exact congrArg some e
theorem ObjM.look{h:Heap}{x dx C:Addr}{mA:Str->Option Value}(I:ObjM h x dx C mA):∃od,PySem.W.InstAt h x (PySem.W.instObj C dx) C (some od)/\∀name,PySem.W.lookIn name od=some (mA name) :=
 let ⟨od,ho,hl⟩:=zxm I.ns
 ⟨od,⟨I.obj,rfl,rfl,ho⟩,hl⟩
section
variable {prog:Program}{w:World}{A:Around}{E:Value->Shared->Prop}{s:Shared}{K:PySem.W.Frag}{x dx C f:Addr}{mA:Str->Option Value}{name:Str}{v:Value}
theorem zGy{expr:Bool}{Q:Value->Shared->Prop}(X:K.In s.heap)(I:ObjM s.heap x dx C mA)(hg:PySem.W.plainGet K C name=true)(hh:PySem.W.hasDictIn K C=true)
  (ha:PySem.W.findIn K (.ref C) name=some none) (hv:mA name=some v) (hv':PySem.W.handedIn v=true) (h:Q v { s with toks:=s.toks+1 }) :
  wpAny (model prog w) A (getAttr (.ref x) name expr) Q E s:=by
 obtain⟨od,J,hl⟩:=I.look;exact PySem.W.get_value X J (yde hg).1 (PySem.W.findObj_own hh ha rfl (by rw[hl,hv])) hv' h
theorem zBt{pl:Sem Bool}{Q:Value×List Value->Shared->Prop}(X:K.In s.heap)(I:ObjM s.heap x dx C mA)(hg:PySem.W.plainGet K C name=true)
  (hf:PySem.W.findIn K (.ref C) name=some (some (.ref f))) (ht:PySem.W.isFn K (.ref f)=true) (hv:mA name=none) (h:Q (.ref f,[.ref x]) s) :
  wpAny (model prog w) A (getMethod (.ref x) name pl) Q E s:=by
 obtain⟨od,J,hl⟩:=I.look;exact PySem.W.method_fn X J (yde hg).1 (yde hg).2 hf (beq_iff_eq.mp ht) (by show(PySem.W.lookIn name od).map (·.isSome)=some false;rw[hl,hv];rfl) h
theorem zEo{ns:List Str}{Q:Unit->Shared->Prop}(X:K.In s.heap)(I:ObjM s.heap x dx C mA)
  (hs:PySem.W.findIn K (.ref C) "__setattr__"=some (some (.builtin "object.__setattr__"))) (hp:PySem.W.plainOver K C=true) (ht:PySem.W.takerIn K C name=some none) (hh:PySem.W.hasDictIn K C=true)
  (hw:PySem.Within mA ns) (hsz:ns.length<=sizeLine)
  (h:∀h',ObjM h' x dx C (λy=>if y=name then some v else mA y)->Heap.SameBut dx s.heap h'->Q () { s with heap:=h',toks:=s.toks+2 }) :
  wpAny (model prog w) A (setAttr (.ref x) name v) Q E s:=by
 obtain⟨od,J,hl⟩:=I.look;refine PySem.W.set_plain X J hs (PySem.W.osa_open (s:={ s with toks:=s.toks+1 }) (r:=none) X J hp ht λb=>?_)
 obtain⟨cd,hc,hd'⟩:=PySem.W.any_some hh;have hx:s.heap.get? x=some ⟨.ref C,some dx,.plain,#[]⟩:=I.obj;refine wpAny_bind (wpAny_pure (wpAny_bind (wpAny_bind (wpAny_loadPart hx (wpAny_bind (PySem.W.Looks.here (s:={ s with toks:=s.toks+1 }) (PySem.W.looks_clsIn X hc) ?_))))))
 rw[hd'];refine wpAny_pure (a:=some dx) (wpAny_bind (wpAny_pure (wpAny_bind ?_)));refine wpAny_nsSet1 (s:={ s with toks:=s.toks+1 }) I.ns λh' hn2 hs2=>?_
 obtain⟨oD,esD,epD,hoD,hdD,hcD⟩:=hn2.count (PySem.Within.cons name v hw);refine wpAny_bind (wpAny_lookBehind hoD (by rw[hdD];exact pastItsLine_dict (yae hcD (by rw[yao];omega))) ?_)
 exact wpAny_pure (h _ ⟨(hs2.2 _ (yay I.ne)).trans I.obj,hn2,I.ne⟩ hs2)
theorem zB5{R:Result->Shared->Prop}{vs:List Value}{kw:List (Str×Value)}(X:K.In s.heap)(hm:PySem.W.makesIn K C=true)
  (hi:PySem.W.findIn K (.ref C) "__init__"=some (some (.ref f))) (hf:PySem.W.typeIn K (.ref f)=some (.type "function"))
  (h : codeAny (model prog w) (A.under (.builtin "type.__call__" ⟨.ref C :: vs, kw⟩)) (.call (.ref f) ⟨.ref (s.heap.objs.size + 1) :: vs, kw⟩) (PySem.W.InitBack (s.heap.objs.size + 1) R)
   { s with heap:=(s.heap.push PySem.W.emptyDict).push (PySem.W.instObj C s.heap.objs.size) }) :
  codeAny (model prog w) A (.call (.ref C) ⟨vs,kw⟩) R s:=by
 obtain⟨hh,g,d,t,os⟩:=s;exact PySem.W.make_core (PySem.W.makes_of X hm) (PySem.W.looks_findIn X hi) (λself=>PySem.W.bind_fn X self hf) (.inl rfl) h
end
def zpt(f:Str)(v:V):List (Str×V)->List (Str×V)
 |[]=>[(f,v)]
 |(g,x)::r=>if g=f then (g,v)::r else (g,x)::zpt f v r
theorem zli(f g:Str)(v:V):∀fs:List (Str×V),(zpt f v fs).lookup g=if g=f then some v else fs.lookup g
 |[]=>by
  show List.lookup g [(f,v)]=_
  by_cases h:g=f
  ·have hb:(g == f)=true:=beq_iff_eq.mpr h;simp only[List.lookup,hb,if_pos h]
  ·have hb:(g == f)=false:=beq_eq_false_iff_ne.mpr h;simp only[List.lookup,hb,if_neg h]
 |(k,x)::r=>by
  have ih:=zli f g v r;rw[show zpt f v ((k,x)::r)=(if k=f then (k,v)::r else (k,x)::zpt f v r) from rfl]
  by_cases hk:k=f
  ·rw[if_pos hk]
   by_cases h:g=k
   ·have hb:(g == k)=true:=beq_iff_eq.mpr h;simp only[List.lookup,hb,if_pos (h.trans hk)]
   ·have hb:(g == k)=false:=beq_eq_false_iff_ne.mpr h;simp only[List.lookup,hb,if_neg (λe:g=f=>h (e.trans hk.symm))]
  ·rw[if_neg hk]
   by_cases h:g=k
   ·have hb:(g == k)=true:=beq_iff_eq.mpr h;simp only[List.lookup,hb,if_neg (λe:g=f=>hk (h.symm.trans e))]
   ·have hb:(g == k)=false:=beq_eq_false_iff_ne.mpr h;simp only[List.lookup,hb];exact ih
theorem zlm(f:Str)(v:V):∀fs:List (Str×V),f∈(zpt f v fs).map (·.1)/\∀g,g∈fs.map (·.1)->g∈(zpt f v fs).map (·.1)
 |[]=>⟨by simp[zpt],λg h=>by simp at h⟩
 |(k,x)::r=>by
  obtain⟨i1,i2⟩:=zlm f v r;rw[show zpt f v ((k,x)::r)=(if k=f then (k,v)::r else (k,x)::zpt f v r) from rfl]
  by_cases hk:k=f
  ·rw[if_pos hk];subst hk;exact⟨by simp,λg h=>by simpa using h⟩
  ·rw[if_neg hk];refine⟨?_,λg h=>?_⟩
   ·rw[yaf];exact ya6 _ i1
   ·rw[yaf]at h ⊢
    rcases yaj.mp h with e|e
    ·exact yaj.mpr (.inl e)
    ·exact ya6 _ (i2 g e)
theorem zlk(f:Str)(v:V):∀fs:List (Str×V),(zpt f v fs).length<=fs.length+1
 |[]=>by simp[zpt]
 |(k,x)::r=>by
  have ih:=zlk f v r;rw[show zpt f v ((k,x)::r)=(if k=f then (k,v)::r else (k,x)::zpt f v r) from rfl]
  by_cases hk:k=f
  ·rw[if_pos hk,yao,yao];omega
  ·rw[if_neg hk,yao,yao];omega
theorem zrx.some_of{v:V}{o:Option Value}(r:zrx (some v) o):∃u,o=some u/\RelV v u:=by
 cases o with
 |none=>exact(show False from r).elim
 |some u=>exact⟨u,rfl,r⟩
theorem zrx.none_of{o:Option Value}(r:zrx none o):o=none:=by
 cases o with
 |none=>rfl
 |some u=>exact(show False from r).elim
theorem zxy{v:V}{u:Value}(r:RelV v u):PySem.W.handedIn u=true:=by
 cases v with
 |non=>cases (show u=Value.none from r);rfl
 |bl b=>cases (show u=Value.bool b from r);rfl
 |int i=>obtain⟨t,e⟩:=(show ∃t,u=Value.int i t from r);cases e;rfl
 |str x=>obtain⟨t,e⟩:=(show ∃t,u=Value.str x t from r);cases e;rfl
 |byt b=>obtain⟨t,e⟩:=(show ∃t,u=Value.bytes b t from r);cases e;rfl
 |flt b=>obtain⟨t,e⟩:=(show ∃t,u=Value.float b t from r);cases e;rfl
 |ref a=>cases (show u=Value.ref a from r);rfl
 |ty n=>cases (show u=Value.type n from r);rfl
section
variable {P:Program}{w:World}{H H':Hp}{h h':Heap}{a C dx:Addr}{fs fs':List (Str×V)}
theorem zor(hok:HOk P w H h)(e:H a=some (.ins C dx fs)):∃mA,ObjM h a dx C mA/\(∀f,zrx (fs.lookup f) (mA f))/\PySem.Within mA (fs.map (·.1))/\fs.length<=1000/\H dx=some (.own a):=by
 obtain⟨d,z,ne,ob,mA,n,r,q⟩:=(show zbo P w H h a (.ins C dx fs) from hok a _ e);exact⟨mA,⟨ob,n,ne⟩,r,q,z,d⟩
end
structure Cls(K:PySem.W.Frag)(C:Addr):Prop where
 pg:PySem.W.plainGet K C Str.empty=true
 hd:PySem.W.hasDictIn K C=true
 po:PySem.W.plainOver K C=true
 sa:PySem.W.findIn K (.ref C) "__setattr__"=some (some (.builtin "object.__setattr__"))
theorem Cls.get{K:PySem.W.Frag}{C:Addr}(c:Cls K C)(f:Str):PySem.W.plainGet K C f=true:=c.pg
def zbn(K:PySem.W.Frag)(C:Addr)(f:Str):Prop:=PySem.W.findIn K (.ref C) f=some none
theorem zbn.taker{K:PySem.W.Frag}{C:Addr}{f:Str}(n:zbn K C f):PySem.W.takerIn K C f=some none:=by
 unfold PySem.W.takerIn;rw[show PySem.W.findIn K (.ref C) f=some none from n]
 rfl
structure Meth(K:PySem.W.Frag)(C:Addr)(m:Str)(f:Addr):Prop where
 at_:PySem.W.findIn K (.ref C) m=some (some (.ref f))
 fn:PySem.W.isFn K (.ref f)=true
 kp:PySem.W.keepIn K (.ref f)=true
section
variable {X:Cx}{pins:List (Addr×Obj)}{σ:St}{H:Hp}{s:Shared}{a C dx:Addr}{fs:List (Str×V)}{f:Str}{v:V}{A:Around}{E:Value->Shared->Prop}
theorem zvi{b:Bool}{Q:Value->Shared->Prop}(I:Inv X pins σ H s)(e:H a=some (.ins C dx fs))(c:Cls X.K C)(n:zbn X.K C f)(l:fs.lookup f=some v)
  (h:∀u s',Inv X pins σ H s'->RelV v u->Q u s'):wpAny (model X.prog X.w) A (getAttr (.ref a) f b) Q E s:=by
 obtain⟨mA,O,r,_,_,_⟩:=zor I.hok e;obtain⟨u,hu,ru⟩:=zrx.some_of (v:=v) (o:=mA f) (by rw[<- l];exact r f)
 exact zGy I.kIn O (c.get f) c.hd n hu (zxy ru) (h u _ (I.tok _) ru)
theorem zng{m:Str}{g:Addr}{pl:Sem Bool}{Q:Value×List Value->Shared->Prop}(I:Inv X pins σ H s)(e:H a=some (.ins C dx fs))(c:Cls X.K C)(k:Meth X.K C m g)(l:fs.lookup m=none)
  (h:Q (.ref g,[.ref a]) s):wpAny (model X.prog X.w) A (getMethod (.ref a) m pl) Q E s:=by
 obtain⟨mA,O,r,_,_,_⟩:=zor I.hok e;have hn:mA m=none:=zrx.none_of (by rw[<- l];exact r m)
 exact zBt I.kIn O (c.get m) k.at_ k.fn hn h
theorem zv0{y:V}{u:Value}{Q:Unit->Shared->Prop}(I:Inv X pins σ H s)(e:H a=some (.ins C dx fs))(c:Cls X.K C)(n:zbn X.K C f)(hl:fs.length<1000)(ry:RelV y u)
  (h:∀s',Inv X pins σ (upd H a (.ins C dx (zpt f y fs))) s'->Q () s'):wpAny (model X.prog X.w) A (setAttr (.ref a) f u) Q E s:=by
 obtain⟨mA,O,r,wi,_,ho⟩:=zor I.hok e;have hz:(fs.map (·.1)).length<=sizeLine:=by rw[ya1,sizeLine_eq];omega
 refine zEo I.kIn O c.sa c.po n.taker c.hd wi hz λh' O' sb=>h _ ?_
 have hd:∃o,h'.get? dx=some o:=let ⟨o,_,_,e',_⟩:=O'.ns;⟨o,e'⟩;refine I.write (x:=a) (e:=dx) (by rw[e];exact True.intro) (.inr ho) (λb q hb z=>(sb.2 b hb).trans z) hd ?_
 refine⟨by rw[zag O.ne];exact ho,?_,O.ne,O'.obj,_,O'.ns,λg=>?_,λg hg=>?_⟩
 ·have:=zlk f y fs;omega
 ·show zrx ((zpt f y fs).lookup g) (if g=f then some u else mA g)
  rw[zli]
  by_cases q:g=f
  ·rw[if_pos q,if_pos q];exact ry
  ·rw[if_neg q,if_neg q];exact r g
 ·by_cases q:g=f
  ·rw[q];exact(zlm f y fs).1
  ·refine(zlm f y fs).2 g (wi g λz=>hg ?_)
   show(if g=f then some u else mA g)=none
   rw[if_neg q];exact z
theorem Inv.made(I:Inv X pins σ H s):Inv X pins σ (upd (upd H s.heap.objs.size (.own (s.heap.objs.size+1))) (s.heap.objs.size+1) (.ins C s.heap.objs.size []))
  { s with heap:=(s.heap.push PySem.W.emptyDict).push (PySem.W.instObj C s.heap.objs.size) }:=by
 have e1:(s.heap.push PySem.W.emptyDict).get? s.heap.objs.size=some PySem.W.emptyDict:=yav s.heap rfl
 have e2:((s.heap.push PySem.W.emptyDict).push (PySem.W.instObj C s.heap.objs.size)).get? (s.heap.objs.size+1)=some (PySem.W.instObj C s.heap.objs.size):=by
  have:=yav (s.heap.push PySem.W.emptyDict) (o:=PySem.W.instObj C s.heap.objs.size) rfl
  rwa[yc2]at this
 have e3:(s.heap.push PySem.W.emptyDict).Ns s.heap.objs.size (λ_=>none):=⟨PySem.W.emptyDict,#[],_,e1,rfl,(λe he=>absurd he (by simp)),λ_=>rfl⟩
 have I1:=I.laid (a:=s.heap.objs.size) (o:=.own (s.heap.objs.size+1)) (h':=s.heap.push PySem.W.emptyDict) (t':=s.toks) (λb u q=>yac _ q) (yaa _) ⟨_,e1⟩
 refine I1.laid (a:=s.heap.objs.size+1) (o:=.ins C s.heap.objs.size []) (t':=s.toks) (λb u q=>yac _ q) (Nat.le_of_eq (yc2 _ _)) ?_
 have ne:s.heap.objs.size≠s.heap.objs.size+1:=yar (ycq _);refine⟨by rw[zag ne,zar],yb2 _,ne,e2,λ_=>none,(Heap.Ns1.of_empty e3).at λo q=>yac _ q,λ_=>True.intro,λy hy=>absurd rfl hy⟩
theorem zHe{prog:Program}{w:World}{env:Env}{e:Expr}{f:Str}{pos:Pos}{s:Shared}{Q:Value->Shared->Prop}(hb:attributeBase e f env (eval e env)=eval e env)
  (h:wpAny (model prog w) A (eval e env) (λo s₁=>wpAny (model prog w) A (getAttr o f true) Q E s₁) E s):wpAny (model prog w) A (eval (.Attribute e f pos) env) Q E s :=
 Attribute_any_ h (by rw[arm_eval_Attribute,hb])
end
def tFld(K:PySem.W.Frag)(ta:TE)(f:Str):TE:=λσ H Q=>ta σ H λx H1=>∃a C dx fs v,x=.ref a/\H1 a=some (.ins C dx fs)/\Cls K C/\zbn K C f/\fs.lookup f=some v/\Q v H1
def sFld(K:PySem.W.Frag)(ta tv:TE)(f:Str):TS:=λD σ H=>tv σ H λy H1=>ta σ H1 λx H2=>∃a C dx fs,x=.ref a/\H2 a=some (.ins C dx fs)/\Cls K C/\zbn K C f/\fs.length<1000 /\
 D.nx σ (upd H2 a (.ins C dx (zpt f y fs)))
section
variable {X:Cx}{o e value:Expr}{f:Str}{pos pos' tpos:Pos}{ta tv:TE}
theorem zDa(he:PE X e ta)(hb:attributeBase e f X.env (eval e X.env)=eval e X.env):PE X (.Attribute e f pos) (tFld X.K ta f):=by
 intro pins s σ H Q I h;refine zHe hb (thn (he pins s σ H _ I h) λu s1 ⟨x,H1,I1,rx,a,C,dx,fs,v,ex,ea,c,n,l,q⟩=>?_)
 subst ex;obtain rfl:u=Value.ref a:=rx;exact zvi I1 ea c n l λu' s2 I2 ru=>⟨v,H1,I2,ru,q⟩
theorem zJy(ha:PE X o ta)(hv:PE X value tv)(hs:swapsWith value (some (.Attribute o f pos')) pos.line X.env=pure false):PS X (.Assign [.Attribute o f pos'] value pos) (sFld X.K ta tv f):=by
 intro pins s σ H D I h;refine plainObj_wpAny_Assign_Attribute (thn (hv pins s σ H _ I h) λu s1 ⟨y,H1,I1,ry,q⟩=>thn (ha pins s1 σ H1 _ I1 q) λov s2 ⟨x,H2,I2,rx,a,C,dx,fs,ex,ea,c,n,l,q2⟩=>?_) hs
 subst ex;obtain rfl:ov=Value.ref a:=rx;exact zv0 I2 ea c n l ry λs3 I3=>⟨σ,_,I3,q2⟩
end
section
variable {X:Cx}{pins:List (Addr×Obj)}{σ:St}{H:Hp}{s:Shared}{A:Around}{E:Value->Shared->Prop}{Q:Value->Shared->Prop}{c:Value}{b:Bool}
inductive TyOf(K:PySem.W.Frag)(H:Hp):V->Value->Prop where
 |non:TyOf K H .non (.type "NoneType")
 |bl (x:Bool):TyOf K H (.bl x) (.type "bool")
 |int (i:Int):TyOf K H (.int i) (.type "int")
 |str (x:Str):TyOf K H (.str x) (.type "str")
 |flt (x:UInt64):TyOf K H (.flt x) (.type "float")
 |lst {a:Addr} {xs:List V} (e:H a=some (.lst xs)):TyOf K H (.ref a) (.type "list")
 |frz {a:Addr} {o:Obj} {xs:List V} (e:H a=some (.frz o (.lst xs))):TyOf K H (.ref a) (.type "list")
 |tup {a:Addr} {xs:List V} (e:H a=some (.tup xs)):TyOf K H (.ref a) (.type "tuple")
 |dK {a:Addr} {kvs:List (Key×V)} (e:H a=some (.dK kvs)):TyOf K H (.ref a) (.type "dict")
 |dT {a:Addr} {kvs:List (List Key×V)} (e:H a=some (.dT kvs)):TyOf K H (.ref a) (.type "dict")
 |ins {a C dx:Addr} {fs:List (Str×V)} (e:H a=some (.ins C dx fs)) (cl:Cls K C) (ha:PySem.W.findIn K (.ref C) "__class__"=some (some (.builtin "object.__class__")))
   (hn:PySem.W.specialIn K (.builtin "object.__class__") "__get__"=some (some (.builtin "getset_descriptor.__get__"))) (htk:PySem.W.takesIn K (.builtin "object.__class__")=some true)
   (hm:PySem.W.mroIn K C (.type "object")=some true):TyOf K H (.ref a) (.ref C)
theorem zqt{x:V}{u t:Value}(I:Inv X pins σ H s)(rx:RelV x u)(ty:TyOf X.K H x t)(e:PySem.W.kitOne X.K t c=some b)(h:∀tk,Q (.bool b) { s with toks:=tk }) :
  wpAny (model X.prog X.w) A (call (.builtin "isinstance") [u,c]) Q E s:=by
 cases ty with
 |non=>cases (show u=Value.none from rx);exact ybh PySem.W.kitx_none I.kIn True.intro e (λz=>nomatch z) h
 |bl y=>cases (show u=Value.bool y from rx);exact ybh PySem.W.kitx_bool I.kIn True.intro e (λz=>nomatch z) h
 |int i=>obtain⟨t,q⟩:=(show ∃t,u=Value.int i t from rx);cases q;exact ybh PySem.W.kitx_int I.kIn True.intro e (λz=>nomatch z) h
 |str y=>obtain⟨t,q⟩:=(show ∃t,u=Value.str y t from rx);cases q;exact ybh PySem.W.kitx_str I.kIn True.intro e (λz=>nomatch z) h
 |flt y=>obtain⟨t,q⟩:=(show ∃t,u=Value.float y t from rx);cases q;exact ybh PySem.W.kitx_float I.kIn True.intro e (λz=>nomatch z) h
 |@lst a xs ea =>
  cases (show u=Value.ref a from rx);obtain⟨_,_,n,_,h1⟩:=(show zbo X.prog X.w H s.heap a (.lst xs) from I.hok a _ ea);exact ybh PySem.W.kitx_list I.kIn ⟨_,h1,rfl⟩ e (λz=>nomatch z) h
 |@frz a ob xs ea =>
  cases (show u=Value.ref a from rx);obtain⟨_,_,_,n,_,h1⟩:=(show zbo X.prog X.w H s.heap a (.frz ob (.lst xs)) from I.hok a _ ea);exact ybh PySem.W.kitx_list I.kIn ⟨_,h1,rfl⟩ e (λz=>nomatch z) h
 |@tup a xs ea =>
  cases (show u=Value.ref a from rx);obtain⟨_,_,_,p⟩:=(show zbo X.prog X.w H s.heap a (.tup xs) from I.hok a _ ea);obtain⟨o,h1,h2,_⟩:=p;exact ybh PySem.W.kitx_tuple I.kIn ⟨o,h1,h2⟩ e (λz=>nomatch z) h
 |@dK a kvs ea =>
  cases (show u=Value.ref a from rx);obtain⟨_,_,vs,_,p⟩:=(show zbo X.prog X.w H s.heap a (.dK kvs) from I.hok a _ ea);obtain⟨o,es,ep,h1,h2,_⟩:=p;exact ybh ydp I.kIn ⟨o,h1,h2.1⟩ e (λz=>nomatch z) h
 |@dT a kvs ea =>
  cases (show u=Value.ref a from rx);obtain⟨_,_,xs,_,o,es,ep,h1,h2,_⟩:=(show zbo X.prog X.w H s.heap a (.dT kvs) from I.hok a _ ea);exact ybh ydp I.kIn ⟨o,h1,h2.1⟩ e (λz=>nomatch z) h
 |@ins a C dx fs ea cl ha hn htk hm =>
  cases (show u=Value.ref a from rx);obtain⟨mA,O,_⟩:=zor I.hok ea;obtain⟨od,J,_⟩:=O.look;exact ybh (PySem.W.kitx_own (cl.get _) cl.hd ha hn htk hm) I.kIn J e (λz=>nomatch z) h
end
structure Room(k:Nat)(A:Around):Prop where
 hd:A.handled=none
 dp:A.depth+3 * k+5<recursionLimit
 un:A.units+16 * k+200<cLine
theorem Room.mono{j k:Nat}{A:Around}(r:Room k A)(h:j<=k):Room j A:=⟨r.hd,by have:=r.dp;omega,by have:=r.un;omega⟩
theorem Room.deeper{k:Nat}{A:Around}(r:Room (k+1) A)(env:Env):Room k (A.deeper env) :=
 ⟨r.hd,by have:=r.dp;show A.depth+1+3 * k+5<_;omega,by have:=r.un;show A.units+3+16 * k+200<_;omega⟩
theorem zvc{A:Around}{C:Addr}{us:List Value}{kw:List (Str×Value)}:(A.under (.builtin "type.__call__" ⟨.ref C::us,kw⟩)).depth=A.depth+1:=by
 first|rfl|simp[Around.under,Code.weight,Code.isCreation,Code.isGuard,Code.isCaller,Code.frames,Code.isFrame,guardIds]
theorem zvb{A:Around}{C:Addr}{us:List Value}{kw:List (Str×Value)}:(A.under (.builtin "type.__call__" ⟨.ref C::us,kw⟩)).units=A.units+1:=by
 first|rfl|simp[Around.under,Code.cUnits,Code.frames,Code.isFrame]
theorem Room.make{k:Nat}{A:Around}(r:Room (k+1) A)(C:Addr)(us:List Value)(kw:List (Str×Value)):Room k (A.under (.builtin "type.__call__" ⟨.ref C::us,kw⟩)) :=
 ⟨r.hd,by have:=r.dp;rw[zvc];omega,by have:=r.un;rw[zvb];omega⟩
theorem Room.depth{k:Nat}{A:Around}(r:Room k A):A.depth<recursionLimit:=by have:=r.dp;omega
theorem Room.units{k:Nat}{A:Around}(r:Room k A):A.units+64<cLine:=by have:=r.un;omega
def tNil:TA:=λ_ H Q=>Q [] H
def tCons(ta:TE)(tr:TA):TA:=λσ H Q=>ta σ H λx H1=>tr σ H1 λxs H2=>Q (x::xs) H2
section
variable {X:Cx}{e:Expr}{es:List Expr}{te:TE}{t:TA}{pos:Pos}
theorem zfw:PA X [] tNil:=λ_ _ _ _ H Q I h=>Calls.spliced_nil ⟨[],H,I,.nil,h⟩
theorem zc5(ha:PE X e te)(hr:PA X es t)(hs:starEach (e::es) X.env=(false,eval e X.env)::starEach es X.env:=by rfl):PA X (e::es) (tCons te t):=by
 intro pos pins s σ H Q I h;rw[hs];show wpAny _ _ (spliced ((false,eval e X.env)::backTo pos (starEach es X.env))) _ _ s;refine Calls.spliced_cons (thn (ha pins s σ H _ I h) λu s1 ⟨x,H1,I1,r1,q1⟩=>?_)
 exact thn (hr pos pins s1 σ H1 _ I1 q1) λus s2 ⟨xs,H2,I2,r2,q2⟩=>⟨x::xs,H2,I2,.cons r1 r2,q2⟩
def tTup(t:TA):TE:=λσ H Q=>t σ H λxs H1=>xs.length<=sizeLine/\∀p,H1 p=none->Q (.ref p) (upd H1 p (.tup xs))
def tLst(t:TA):TE:=λσ H Q=>t σ H λxs H1=>xs.length<=sizeLine/\∀p,H1 p=none->Q (.ref p) (upd H1 p (.lst xs))
theorem zK4{x1}(h:PA X es t):PE X (.Tuple es x1 pos) (tTup t):=by
 intro pins s σ H Q I hq;refine wpAny_Tuple_spliced (thn (h pos pins s σ H _ I hq) λus s1 ⟨xs,H1,I1,r,z,q⟩=>⟨by rw[<- r.length];exact z,?_⟩)
 have hf:H1 s1.heap.objs.size=none:=I1.hok.fresh (yaa _);refine⟨.ref s1.heap.objs.size,upd H1 s1.heap.objs.size (.tup xs),I1.laid (t':=s1.toks) (λb u e=>yac _ e) (yaa _) ?_,rfl,q _ hf⟩
 exact⟨z,us,r,⟨_,yav _ rfl,rfl,_,rfl⟩⟩
theorem zK9(h:PA X es t):PE X (.List es pos) (tLst t):=by
 intro pins s σ H Q I hq;refine wpAny_List_spliced (thn (h pos pins s σ H _ I hq) λus s1 ⟨xs,H1,I1,r,z,q⟩=>⟨by rw[<- r.length];exact z,?_⟩)
 have hf:H1 s1.heap.objs.size=none:=I1.hok.fresh (yaa _);refine⟨.ref s1.heap.objs.size,upd H1 s1.heap.objs.size (.lst xs),I1.laid (t':=s1.toks) (λb u e=>yac _ e) (yaa _) ?_,rfl,q _ hf⟩
 exact⟨z,us,0,r,yav _ rfl⟩
end
abbrev Sp:=List V->Hp->VK->XK->Prop
abbrev CXT:=List Env->Hp->Shared->XK->Value->Shared->Prop
structure Env0(P:Program)(w:World)(K:PySem.W.Frag)(mg:Str->Option Value)(base:Heap)(A:Around)(outer:List Env)(s:Shared)(H:Hp):Prop where
 frames:A.frames=some outer
 mod:Mod K mg base
 bs:∀b o,base.get? b=some o->s.heap.get? b=some o/\H b=none
 bsz:base.objs.size<=s.heap.objs.size
 funs:s.heap.FunFrames base outer
 frf:∀b∈frs outer,H b=none
 hok:HOk P w H s.heap
 bare:AllBare s.gens
def CE(outer:List Env)(P:Program)(w:World)(H:Hp)(s:Shared)(Q:VK)(u:Value)(s':Shared):Prop :=
 ∃v H',s'.os=s.os/\AllBare s'.gens/\Un (frs outer) [] H H' s.heap s'.heap/\HOk P w H' s'.heap/\RelV v u/\Q v H'
def CR(CX:CXT)(outer:List Env)(P:Program)(w:World)(H:Hp)(s:Shared)(Q:VK)(E:XK)(r:Result)(s':Shared):Prop :=
 match r with
 |.ok (.ret u)=>CE outer P w H s Q u s'
 |.ok _=>False
 |.error e=>CX outer H s E e s'
structure FnOk(P:Program)(w:World)(K:PySem.W.Frag)(mg:Str->Option Value)(base:Heap)(CX:CXT)(k:Nat)(f:Addr)(fd:FuncData)(ps:List Str)(sp:Sp):Prop where
 len:∀vs H Q E,sp vs H Q E->vs.length=ps.length
 run:∀(A:Around) (outer:List Env) (s:Shared) (H:Hp) (args:Args) (us:List Value) (vs:List V) (Q:VK) (E:XK),Room k A->Env0 P w K mg base A outer s H->BindsTo s fd args (ps.zip us)->zbp vs us->sp vs H Q E ->
  codeAny (model P w) A (.call (.ref f) args) (CR CX outer P w H s Q E) s
theorem Env0.make{P:Program}{w:World}{K:PySem.W.Frag}{mg:Str->Option Value}{base:Heap}{A:Around}{outer:List Env}{s:Shared}{H:Hp}(e:Env0 P w K mg base A outer s H)(C:Addr)(us:List Value)(kw:List (Str×Value)) :
  Env0 P w K mg base (A.under (.builtin "type.__call__" ⟨.ref C::us,kw⟩)) outer s H:=⟨by first|exact e.frames|(simpa[Around.under,Code.envs,Code.isFrame,pushEnvs] using e.frames),e.mod,e.bs,e.bsz,e.funs,e.frf,e.hok,e.bare⟩
section
variable {X:Cx}{pins:List (Addr×Obj)}{σ:St}{H:Hp}{s s':Shared}
theorem Inv.env0(I:Inv X pins σ H s):Env0 X.prog X.w X.K X.mg X.base X.A X.stack s H :=
 ⟨I.ok.frames,I.ok.mod,I.bs,yae I.ok.bsz I.sz,I.stack,I.stkFree,I.hok,I.bare⟩
theorem Inv.after{Q:VK}{u:Value}(I:Inv X pins σ H s)(h:CE X.stack X.prog X.w H s Q u s'):EP X pins σ Q u s':=by
 obtain⟨v,H',os,bare,un,hok,r,q⟩:=h;obtain⟨hh,g,d,t,os'⟩:=s';obtain rfl:os'=s.os:=os;exact⟨v,H',I.call (h':=hh) (g':=g) (d':=d) (t':=t) (ch:=[]) un hok bare (λb z=>absurd z (by simp)),r,q⟩
end
def zjn(K:PySem.W.Frag)(fd:FuncData)(ps:List Str)(ds:List Value):Prop :=
 ∀(s:Shared) (us:List Value),K.In s.heap->(us++ds).length=ps.length->BindsTo s fd ⟨us,[]⟩ (ps.zip (us++ds))
theorem zjn.all{K:PySem.W.Frag}{fd:FuncData}{ps:List Str}(h:∀us:List Value,us.length=ps.length->bindArgs fd ⟨us,[]⟩=pure (ps.zip us)):zjn K fd ps []:=λs us _ hl=>by
 rw[yap]at hl ⊢;exact .of_eq (h us hl)
section
variable {X:Cx}{CX:CXT}{k:Nat}{f C:Addr}{fd:FuncData}{ps:List Str}{sp:Sp}{dvs:List V}{ds:List Value}{E:XK}{x m:Str}{p pos apos:Pos}{e o:Expr}{es:List Expr}{ta:TE}{t:TA}
structure Mk(K:PySem.W.Frag)(C f:Addr):Prop where
 makes:PySem.W.makesIn K C=true
 init:PySem.W.findIn K (.ref C) "__init__"=some (some (.ref f))
 fn:PySem.W.isFn K (.ref f)=true
 kp:PySem.W.keepIn K (.ref C)=true
end
section
variable {X:Cx}{CX:CXT}{k:Nat}{f C:Addr}{fd:FuncData}{ps ks:List Str}{sp:Sp}{E:XK}{x m:Str}{p pos apos kpos:Pos}{e o:Expr}{es:List Expr}{kws:List Keyword}{te ta:TE}{t tk:TA}{nm:Option Str}
variable {g:List Value->List Value->List Value}{gV:List V->List V->List V}
end
structure FnScope(N P:List Str)(sc:Scope):Prop where
 kind:sc.kind=.function
 co:sc.isCoroutine=false
 gen:sc.isGenerator=false
 nd:N.Nodup
 pre:N.take P.length=P
 par:∀x∈P,sc.names.lookup x=some .local\/sc.names.lookup x=some .cell
 nofree:∀y∈sc.names,y.2≠.free
theorem zrr{kindOf:Str->Option NameKind}{x:Str}:∀{binds:List (Str×Value)} {m:Str->Option Value},(∀v,(x,v)∉binds)->bindL kindOf binds m x=m x
 |[],_,_=>rfl
 |(n,v)::r,m,h=>by
  unfold bindL;rw[zrr λw hw=>h w (ya6 _ hw)]
  split
  ·have:x≠n:=by rintro rfl;exact h v ya8
   simp[this]
  ·rfl
theorem zrt{kindOf:Str->Option NameKind}{x:Str}:∀{binds:List (Str×Value)} {m:Str->Option Value},(∀v,(x,v)∉binds)->bindC kindOf binds m x=m x
 |[],_,_=>rfl
 |(n,v)::r,m,h=>by
  unfold bindC;rw[zrt λw hw=>h w (ya6 _ hw)]
  split
  ·rfl
  ·have:x≠n:=by rintro rfl;exact h v ya8
   simp[this]
theorem zrs{kindOf:Str->Option NameKind}{x:Str}{v:Value}:∀{P:List Str} {vs:List Value} {i:Nat} {m:Str->Option Value},P.Nodup->P[i]?=some x->vs[i]?=some v->kindOf x=some .local ->
  bindL kindOf (P.zip vs) m x=some v
 |[],_,_,_,_,h,_,_=>by simp at h
 |_::_,[],_,_,_,_,h,_=>by simp at h
 |p::P,w::vs,0,m,nd,h1,h2,hk=>by
  simp at h1 h2;subst h1;subst h2;show bindL kindOf ((p,w)::P.zip vs) m p=_;unfold bindL;rw[zrr λv hv=>(yd9.mp nd).1 (List.of_mem_zip hv).1,if_pos hk]
  simp
 |p::P,w::vs,i+1,m,nd,h1,h2,hk=>by
  show bindL kindOf ((p,w)::P.zip vs) m x=_;unfold bindL;exact zrs (i:=i) (yd9.mp nd).2 (by simpa using h1) (by simpa using h2) hk
theorem zru{kindOf:Str->Option NameKind}{x:Str}{v:Value}:∀{P:List Str} {vs:List Value} {i:Nat} {m:Str->Option Value},P.Nodup->P[i]?=some x->vs[i]?=some v->kindOf x≠some .local ->
  bindC kindOf (P.zip vs) m x=some v
 |[],_,_,_,_,h,_,_=>by simp at h
 |_::_,[],_,_,_,_,h,_=>by simp at h
 |p::P,w::vs,0,m,nd,h1,h2,hk=>by
  simp at h1 h2;subst h1;subst h2;show bindC kindOf ((p,w)::P.zip vs) m p=_;unfold bindC;rw[zrt λv hv=>(yd9.mp nd).1 (List.of_mem_zip hv).1,if_neg hk]
  simp
 |p::P,w::vs,i+1,m,nd,h1,h2,hk=>by
  show bindC kindOf ((p,w)::P.zip vs) m x=_;unfold bindC;exact zru (i:=i) (yd9.mp nd).2 (by simpa using h1) (by simpa using h2) hk
def start(N:List Str)(vs:List V):St:=vs.map some++List.replicate (N.length - vs.length) none
def zzk(CX:CXT)(P:Program)(w:World)(K:PySem.W.Frag)(mg:Str->Option Value)(base:Heap)(N:List Str)(qual:Str)(scope:Scope)(f:Addr)(cd:Value)(A:Around)(outer:List Env)(s:Shared)(H:Hp)(E:XK):Cx where
 prog:=P
 w:=w
 K:=K
 mg:=mg
 base:=base
 A:=A.deeper (envOfC qual scope s.heap.objs.size f cd)
 N:=N
 s₀:=s
 H₀:=H
 env:=envOfC qual scope s.heap.objs.size f cd
 outer:=outer
 stack:=envOfC qual scope s.heap.objs.size f cd::outer
 ex:=[]
 calm:=true
 fn:=λ_=>true
 pn:=[]
 xe:=λe s'=>wpAny (model P w) (A.deeper (envOfC qual scope s.heap.objs.size f cd)) (leaving (envOfC qual scope s.heap.objs.size f cd) e) (λ_ s''=>CX outer H s E e s'') (λe' s''=>CX outer H s E e' s'') s'
theorem zut{sc:Scope}{n:Nat}{x:Str}(h:sc.names.lookup x=some .cell):∃c,(cellsFrom n sc.names []).lookup x=some c:=by
 have q:=PySem.W.cellsFrom_some sc.names n [] (.inl h);exact Option.isSome_iff_exists.mp q
theorem zxw{CX:CXT}{P:Program}{w:World}{K:PySem.W.Frag}{mg:Str->Option Value}{base:Heap}{N ps:List Str}{qual:Str}{scope:Scope}{f:Addr}{cd:Value}{A:Around}{outer:List Env}{s s1:Shared}{H:Hp}{E:XK}{us:List Value}{vs:List V}
  (S:FnScope N ps scope) (hd:A.handled=none) (e0:Env0 P w K mg base A outer s H) (hl:vs.length=ps.length) (r:zbp vs us)
  (x:InCallC s s.heap.objs.size (bindL (envOfC qual scope s.heap.objs.size f cd).kindOf (ps.zip us) λ_=>none) (cellsFrom (s.heap.objs.size+1) scope.names []) (bindC (envOfC qual scope s.heap.objs.size f cd).kindOf (ps.zip us) λ_=>none) s1) :
  Inv (zzk CX P w K mg base N qual scope f cd A outer s H E) [] (start N vs) H s1:=by
 have hpl:ps.length<=N.length:=by have:=congrArg List.length S.pre;rw[yc3]at this;omega
 obtain⟨h1,tk,rfl,hk⟩:=x.done;have noA:∀b:Addr,b∉(zzk CX P w K mg base N qual scope f cd A outer s H E).ex:=λb z=>absurd (show b∈([]:List Addr) from z) (by simp)
 refine⟨⟨e0.mod,S.kind,rfl,rfl,yaa _,λy z c h1 h2=>?_,λy hy=>?_,λy c _ h=>?_,λ_=>hd,Around.frames_deeper e0.frames,.inr ⟨rfl,rfl⟩,λb z=>absurd z (noA b),e0.bs,e0.bsz,λb _ _=>noA b,λb z=>absurd z (noA b),e0.funs,e0.frf⟩,
  rfl,e0.bare,Un.kept hk,⟨_,x.toInCall.ns,λi y v h1 h2 h3=>?_⟩,λy c h=>⟨_,x.cell y c h⟩,e0.hok.fresh (yaa _),λy c h=>?_,λp hp=>absurd (show p∈([]:List (Addr×Obj)) from hp) (by simp),e0.hok.kept hk,?_⟩
 ·exact name_of_addr x.apart (ybv h1) (ybv h2)
 ·have hy:scope.names.lookup y=some .cell\/scope.names.lookup y=some .free:=hy
  rcases hy with hy|hy
  ·exact zut hy
  ·exact absurd rfl (S.nofree _ (ybv hy))
 ·exact ydu (x.above y c (ybv h))
 ·have hi:i<vs.length:=by
   unfold start at h2
   by_cases hi:i<vs.length
   ·exact hi
   ·rw[yb3 (by simpa using hi)]at h2
    rw[ycv]at h2;split at h2<;>cases h2
  have ha:vs[i]?=some v:=by
   unfold start at h2;rw[yaz (by simpa using hi),ya3]at h2
   cases e:vs[i]? with
   |none=>rw[e]at h2;cases h2
   |some a=>rw[e]at h2;cases h2;rfl
  obtain⟨u,hu,rv⟩:=r.get ha
  have hp:ps[i]?=some y:=by
   rw[<- S.pre,ycf (by omega)];exact h1
  have ndP:ps.Nodup:=by rw[<- S.pre];exact S.nd.sublist (List.take_sublist _ _)
  refine⟨u,rv,?_⟩
  rcases S.par y (yat hp) with k|k
  ·exact .inl ⟨k,zrs ndP hp hu k⟩
  ·obtain⟨c,e⟩:=zut (n:=s.heap.objs.size+1) k;refine .inr ⟨.inl k,c,e,?_⟩;have q:=x.cell y c e;rw[zru ndP hp hu (by show scope.names.lookup y≠_;rw[k];decide)]at q
   exact q
 ·exact e0.hok.fresh (ydu (x.above y c (ybv h)))
 ·unfold start;show _=N.length;rw[yab,ya1,yd5]
  omega
theorem fn_of{CX:CXT}{P:Program}{w:World}{K:PySem.W.Frag}{mg:Str->Option Value}{base:Heap}{k:Nat}{f:Addr}{name qual:Str}{params:Arguments}{body:List Stmt}{scope:Scope}{dV kV doc pm cdv ct oc:Value}{an od:Option Addr}
  {osl:Array (Option Value)} {N ps:List Str} {sp:Sp} (lk:K.lookup f=some ⟨oc,od,.func (PySem.W.fnOf name qual params body scope dV kV doc pm an cdv ct),osl⟩) (hcd:PySem.W.codeIn K cdv qual=true) (S:FnScope N ps scope)
  (len:∀vs H Q E,sp vs H Q E->vs.length=ps.length)
  (hbody : ∀ (A : Around) (outer : List Env) (s : Shared) (H : Hp) (vs : List V) (Q : VK) (E : XK), Room k (A.deeper (envOfC qual scope s.heap.objs.size f cdv)) -> sp vs H Q E ->
   ∃t,PSs (zzk CX P w K mg base N qual scope f cdv A outer s H E) body t/\t { nx:=λ_ H'=>Q .non H',rt:=Q } (start N vs) H) :
  FnOk P w K mg base CX (k+1) f (PySem.W.fnOf name qual params body scope dV kV doc pm an cdv ct) ps sp:=by
 refine⟨len,λA outer s H args us vs Q E hr e0 hb r hsp=>?_⟩
 have hl:=len _ _ _ _ hsp;have KX:K.In s.heap:=e0.mod.kin.keeps λb o e=>(e0.bs b o e).1
 have lim:s.heap.NoLimit:=e0.mod.nolimit.keeps λb o e=>(e0.bs b o e).1
 have hkind:∀y∈ps.zip us,scope.names.lookup y.1=some .local\/(scope.names.lookup y.1=some .cell/\((cellsFrom (s.heap.objs.size+1) scope.names []).lookup y.1).isSome=true):=λ⟨n,v⟩ hy=>by
  rcases S.par n (List.of_mem_zip hy).1 with q|q
  ·exact .inl q
  ·exact .inr ⟨q,PySem.W.cellsFrom_some _ _ _ (.inl q)⟩
 refine codeAny_call_function hr.depth (KX _ _ lk) rfl S.co S.gen rfl (PySem.W.codeRec_of KX hcd) (hb _ _ _ _ ?_);refine wpAny_newFunctionEnv_cells S.kind hkind λenv he s1 x=>?_
 subst he;refine⟨lim.keeps x.toInCall.keep,codeAny_func ?_⟩;obtain⟨t,ht,hq⟩:=hbody A outer s H vs Q E (hr.deeper _) hsp;have I:Inv (zzk CX P w K mg base N qual scope f cdv A outer s H E) [] (start N vs) H s1:=zxw S hr.hd e0 hl r x;refine wpAny_mono (ht [] s1 (start N vs) H _ I hq) (λfl s' hs=>?_) λe s' hs=>hs
 have fin:∀{σ':St} {H':Hp} {v:V} {u:Value},Inv (zzk CX P w K mg base N qual scope f cdv A outer s H E) [] σ' H' s'->RelV v u->Q v H'->CE outer P w H s Q u s' :=
  λ{σ' H' v u} J rv q=>⟨v,H',J.os,J.bare,J.base,J.hok,rv,q⟩
 cases fl with
 |ret u =>
  obtain⟨v,σ',H',J,rv,q⟩:=hs;exact fin J rv q
 |next =>
  obtain⟨σ',H',J,q⟩:=hs;exact fin (v:=V.non) (u:=Value.none) J rfl q
 |brk =>
  obtain⟨_,_,_,q⟩:=hs;exact False.elim q
 |cont =>
  obtain⟨_,_,_,q⟩:=hs;exact False.elim q
section
variable {X:Cx}{x:Str}{p pos:Pos}{e:Expr}{es:List Expr}{t:TA}{id T:String}{r:List V->Hp->VK->Prop}
def tCB(r:List V->Hp->VK->Prop)(t:TA):TE:=λσ H Q=>t σ H λvs H1=>r vs H1 Q
theorem zid(hc:zd3 X (.builtin id) r)(hg:Gl X x)(hm:X.mg x=none)(hv:bootBuiltins x=some (.builtin id))(ha:PA X (e::es) t)(hn:x≠"__name__":=by decide)(hdb:(x == ("__debug__":Str))=false:=by decide)
  (he:starEach (e::es) X.env=(false,eval e X.env)::starEach es X.env:=by rfl) (hpl:(backTo pos (starEach es X.env)).any (·.1)=false:=by rfl):PE X (.Call (.Name x p) (e::es) [] pos) (tCB r t):=by
 intro pins s σ H Q I h;refine wpAny_Call_Name_kw (zjp I hg hm hv ?_ hn hdb);exact PyProof.Rows.callWith_builtin1 (thn (ha pos pins s σ H _ I h) λus s1 ⟨vs,H1,I1,r1,q1⟩=>hc pins s1 σ H1 vs us Q I1 r1 q1) he hpl
theorem zqf(hc:zd3 X (.type T) r)(hg:Gl X x)(hm:X.mg x=none)(hv:bootBuiltins x=some (.type T))(ha:PA X (e::es) t)(hn:x≠"__name__":=by decide)(hdb:(x == ("__debug__":Str))=false:=by decide)
  (he:starEach (e::es) X.env=(false,eval e X.env)::starEach es X.env:=by rfl) (hpl:(backTo pos (starEach es X.env)).any (·.1)=false:=by rfl):PE X (.Call (.Name x p) (e::es) [] pos) (tCB r t):=by
 intro pins s σ H Q I h;refine wpAny_Call_Name_kw (zjp I hg hm hv ?_ hn hdb);exact ybk (thn (ha pos pins s σ H _ I h) λus s1 ⟨vs,H1,I1,r1,q1⟩=>hc pins s1 σ H1 vs us Q I1 r1 q1) he hpl
end
end L2
namespace HT
open PySem PyProof.Rows
section
open PySem.SeqAt
open PySem.AutoSeq1 (wpAny_loadPart')
open PySem.MeetsSeq PySem.MeetsSeq2 PySem.MeetsSeq3
end
section
variable {prog:Program}{w:World}{A:Around}{E:Value->Shared->Prop}{s:Shared}
def sIx(n d:Nat):Option Int->Nat
 |none=>d
 |some v=>if v<0 then (v+(n:Int)).toNat else min v.toNat n
end
end HT
namespace L2
open PySem PySem.Spec PyProof.Rows
abbrev TO:=St->Hp->(Option Int->Hp->Prop)->Prop
def PO(X:Cx)(e:Option Expr)(t:TO):Prop :=
 ∀(pins:List (Addr×Obj)) (s:Shared) (σ:St) (H:Hp) (Q:Option Int->Hp->Prop),Inv X pins σ H s->t σ H Q ->
  wpAny (model X.prog X.w) X.A (evalPart e X.env) (λu s'=>∃o H',Inv X pins σ H' s'/\IsPart u o/\Q o H') X.xe s
def zEb:TO:=λ_ H Q=>Q none H
def tPart(t:TE):TO:=λσ H Q=>t σ H λx H1=>∃i,x=.int i/\Q (some i) H1
section
variable {X:Cx}{e:Expr}{te:TE}{lo hi:Option Expr}{tl th:TO}{pos p2:Pos}
theorem zFd:PO X none zEb:=by
 intro pins s σ H Q I h;rw[evalPart_none];exact wpAny_pure ⟨none,H,I,.none,h⟩
theorem zFc(h:PE X e te):PO X (some e) (tPart te):=by
 intro pins s σ H Q I hw;rw[evalPart_some];refine thn (h pins s σ H _ I hw) λu s1 ⟨x,H1,I1,r1,q1⟩=>?_
 obtain⟨i,rfl,q⟩:=q1;obtain⟨t,rfl⟩:=r1;exact⟨some i,H1,I1,.int i t,q⟩
def SlR(X:Cx)(r:V->Option Int->Option Int->Hp->VK->Prop):Prop :=
 ∀(pins:List (Addr×Obj)) (s:Shared) (σ:St) (H:Hp) (x:V) (v vl vu:Value) (lo hi:Option Int) (sl:Addr) (Q:VK),Inv X pins σ H s->RelV x v->s.heap.IsSliceOf sl vl vu .none->IsPart vl lo->IsPart vu hi->r x lo hi H Q ->
  ∃T id,typeLookup (.type T) "__getitem__"=pure (some (.builtin id))/\s.TypeIs v T/\wpAny (model X.prog X.w) X.A (getItem v (.ref sl)) (EP X pins σ Q) X.xe s
def tSl(r:V->Option Int->Option Int->Hp->VK->Prop)(te:TE)(tl th:TO):TE:=λσ H Q=>te σ H λx H1=>tl σ H1 λl H2=>th σ H2 λu H3=>r x l u H3 Q
theorem zu3{r:V->Option Int->Option Int->Hp->VK->Prop}(hr:SlR X r)(he:PE X e te)(hl:PO X lo tl)(hu:PO X hi th):PE X (.Subscript e (.Slice lo hi none p2) pos) (tSl r te tl th):=by
 intro pins s σ H Q I h;refine Subscript_ (thn (he pins s σ H _ I h) λv s1 ⟨x,H1,I1,r1,q1⟩=>?_)
 refine wpAny_Slice (thn (hl pins s1 σ H1 _ I1 q1) λvl s2 ⟨l,H2,I2,pl,q2⟩=>thn (hu pins s2 σ H2 _ I2 q2) λvu s3 ⟨u,H3,I3,pu,q3⟩=>?_)
 rw[evalPart_none];refine wpAny_pure ?_;have I4:Inv X pins σ H3 { s3 with heap:=s3.heap.push { cls:=.type "slice",data:=.fields #[vl,vu,.none] } }:=I3.kept (t':=s3.toks) λb ob q=>yac _ q
 obtain⟨T,id,hT,ht,hg⟩:=hr pins { s3 with heap:=s3.heap.push { cls:=.type "slice",data:=.fields #[vl,vu,.none] } } σ H3 x v vl vu l u s3.heap.objs.size Q I4 r1 (Heap.IsSliceOf.new ..) pl pu q3
 show wpAny (model X.prog X.w) X.A (subscriptTail e (.Slice lo hi none p2) v (.ref s3.heap.objs.size)) (EP X pins σ Q) X.xe { s3 with heap:=s3.heap.push { cls:=.type "slice",data:=.fields #[vl,vu,.none] } }
 exact tail_any (ops:=[.ref s3.heap.objs.size,v]) ht hT hg (by with_unfolding_all rfl)
def zHx(xs:List V)(lo hi:Option Int):List V:=(xs.drop (HT.sIx xs.length 0 lo)).take (HT.sIx xs.length xs.length hi - HT.sIx xs.length 0 lo)
theorem zt6(xs:List V)(lo hi:Option Int):(zHx xs lo hi).length<=xs.length:=by
 unfold zHx;rw[yc3,List.length_drop]
 omega
end
def ixN(n:Nat)(i:Int):Option Nat:=if 0<=i then (if i<n then some i.toNat else none) else if -(n:Int)<=i then some (i+n).toNat else none
def atI{α:Type}(xs:List α)(i:Int):Option α:=(ixN xs.length i).bind λj=>xs[j]?
theorem zsu{n:Nat}{i:Int}{j:Nat}(h:ixN n i=some j):seqIndex? i n=some j/\j<n/\-(n:Int)<=i/\i<n:=by
 unfold ixN at h
 by_cases h0:0<=i
 ·rw[if_pos h0]at h
  by_cases h1:i<n
  ·rw[if_pos h1]at h;have e:i.toNat=j:=yas h;exact⟨by rw[seqIndex_of h0 h1,e],by omega,by omega,h1⟩
  ·rw[if_neg h1]at h;cases h
 ·rw[if_neg h0]at h
  by_cases h1:-(n:Int)<=i
  ·rw[if_pos h1]at h;have e:(i+n).toNat=j:=yas h;exact⟨by rw[seqIndex_neg (by omega) h1,e],by omega,h1,by omega⟩
  ·rw[if_neg h1]at h;cases h
theorem ztg{α:Type}{xs:List α}{i:Int}{v:α}(h:atI xs i=some v):∃j,seqIndex? i xs.length=some j/\xs[j]?=some v/\j<xs.length/\-(xs.length:Int)<=i/\i<xs.length:=by
 unfold atI at h;cases e:ixN xs.length i with
 |none=>rw[e]at h;cases h
 |some j =>
  rw[e]at h;obtain⟨h1,h2,h3,h4⟩:=zsu e;exact⟨j,h1,h,h2,h3,h4⟩
theorem zb2{α:Type}{xs:List α}{j:Nat}{v:α}(h:xs[j]?=some v):atI xs (j:Int)=some v:=by
 have hj:j<xs.length:=(ya5.mp h).1
 have e:ixN xs.length (j:Int)=some j:=by
  unfold ixN;rw[if_pos (by omega),if_pos (by omega)];simp
 unfold atI;rw[e];exact h
def zpr(b:Expr):Prop:=∀o i,subscripted b false o i=operate [o,i] (getItem o i)
def IxR(X:Cx)(r:R2):Prop :=
 ∀(value slice:Expr) (pins:List (Addr×Obj)) (s:Shared) (σ:St) (H:Hp) (x y:V) (v u:Value) (Q:VK),Inv X pins σ H s->RelV x v->RelV y u->r x y H Q ->
  subscripted slice false v u=operate [v,u] (getItem v u)->wpAny (model X.prog X.w) X.A (subscriptTail value slice v u) (EP X pins σ Q) X.xe s
def MtR(X:Cx)(id:String)(r:V->List V->Hp->VK->Prop):Prop :=
 ∀(pins:List (Addr×Obj)) (s:Shared) (σ:St) (H:Hp) (x:V) (xs:List V) (v:Value) (us:List Value) (Q:VK),Inv X pins σ H s->RelV x v->zbp xs us->r x xs H Q ->
  wpAny (model X.prog X.w) X.A (call (.builtin id) (v::us)) (EP X pins σ Q) X.xe s
section
variable {X:Cx}{a b:Expr}{ta tb:TE}{pos:Pos}
theorem IxR.or{r r':R2}(h:IxR X r)(h':IxR X r'):IxR X (λx y H Q=>r x y H Q\/r' x y H Q):=by
 intro value slice pins s σ H x y v u Q I rx ry q hs
 rcases q with q|q
 ·exact h value slice pins s σ H x y v u Q I rx ry q hs
 ·exact h' value slice pins s σ H x y v u Q I rx ry q hs
theorem zKb{r:R2}(hr:IxR X r)(ha:PE X a ta)(hb:PE X b tb)(hs:zpr b):PE X (.Subscript a b pos) (tOp r ta tb):=by
 intro pins s σ H Q I h;exact Subscript_ (binT ha hb I h λv u s2 x y H2 I2 rx ry q=>hr a b pins s2 σ H2 x y v u Q I2 rx ry q (hs _ _))
def rIxL(K:PySem.W.Frag):R2:=λx y H Q=>∃p xs i v,x=.ref p/\y=.int i/\SqL K H p xs/\atI xs i=some v/\Q v H
def rIxT(K:PySem.W.Frag):R2:=λx y H Q=>∃p xs i v,x=.ref p/\y=.int i/\SqT K H p xs/\atI xs i=some v/\Q v H
def rIxS:R2:=λx y H Q=>∃z i c,x=.str z/\y=.int i/\z.length<=sizeLine/\atI z.cps.toList i=some c/\Q (.str ⟨#[c]⟩) H
theorem zGm:IxR X (rIxL X.K):=by
 intro value slice pins s σ H x y v u Q I rx ry h hs;obtain⟨p,xs,i,z,rfl,rfl,hq,he,q⟩:=h;cases rx;obtain⟨t,rfl⟩:=ry;obtain⟨its,r,pl,hz⟩:=I.list hq;obtain⟨j,h1,h2,h3,h4,h5⟩:=ztg he;obtain⟨w,ew,rw'⟩:=r.get h2;have hl:=r.length;have hn:=zql;have fin:EP X pins σ Q w s:=⟨z,H,I,rw',q⟩
 by_cases h0:0<=i
 ·have hj:i.toNat=j:=by
   rw[seqIndex_of h0 h5]at h1;exact yas h1
  exact item_listR pl.isList h0 (by omega) (by rw[hj];simpa using ew) fin hs
 ·have hj:(i+(its.toArray.size:Int)).toNat=j:=by
   rw[seqIndex_neg (by omega) h4]at h1
   rw[yai,<- hl];exact yas h1
  exact subscriptTail_builtinR (x:=w) pl.isList.typeIs slot_list_getitem.lookup
   (wpAny_getItem_list_neg (Q:=λr s'=>r=w/\EP X pins σ Q r s') pl.isList (by omega) (by rw[yai]<;>omega) (by omega) (by rw[hj];simpa using ew) ⟨rfl,fin⟩) hs
theorem zLh:IxR X (rIxT X.K):=by
 intro value slice pins s σ H x y v u Q I rx ry h hs;obtain⟨p,xs,i,z,rfl,rfl,hq,he,q⟩:=h;cases rx;obtain⟨t,rfl⟩:=ry;obtain⟨its,r,pl,hz⟩:=I.tuple hq;obtain⟨j,h1,h2,h3,h4,h5⟩:=ztg he;obtain⟨w,ew,rw'⟩:=r.get h2;have hl:=r.length;have hn:=zql;have fin:EP X pins σ Q w s:=⟨z,H,I,rw',q⟩
 exact subscriptTail_builtinR (x:=w) pl.typeIs slot_tuple_getitem.lookup
  (getItem_tuple (j:=j) (Q:=λr s'=>r=w/\EP X pins σ Q r s') pl (by omega) (by omega) (by rw[yai,<- hl];exact h1) (by simpa using ew) ⟨rfl,fin⟩) hs
theorem zLi:IxR X rIxS:=by
 intro value slice pins s σ H x y v u Q I rx ry h hs;obtain⟨z,i,c,rfl,rfl,hz,he,q⟩:=h;obtain⟨t,rfl⟩:=rx;obtain⟨t',rfl⟩:=ry;obtain⟨j,h1,h2,h3,h4,h5⟩:=ztg he;have hl:z.cps.toList.length=z.length:=by simp[Str.length]
 rw[hl]at h1 h4 h5;have hn:=zql
 exact tail_any (typeIs_str s z t) slot_str_getitem.lookup (getItem_str (c:=c) (by
  have e1:decide (i < -(2 ^ 63:Int))=false:=decide_eq_false (by omega)
  have e2:decide (i ≥ 2 ^ 63)=false:=decide_eq_false (by omega)
  rw[e1,e2,ydm]) (by rw[h1];simpa using h2) ⟨.str ⟨#[c]⟩,H,I.tok _,⟨_,rfl⟩,q⟩) hs
def rIx(K:PySem.W.Frag):R2:=λx y H Q=>rIxL K x y H Q\/rIxT K x y H Q\/rIxS x y H Q
theorem zLj:IxR X (rIx X.K):=zGm.or (zLh.or zLi)
theorem zva(its:List Value)(n j:Nat)(u:Value):Obj.mapSeq (·.setIfInBounds j u) { cls:=.type "list",data:=.seq its.toArray n }={ cls:=.type "list",data:=.seq (its.set j u).toArray n }:=by
 simp[Obj.mapSeq]
theorem Inv.lst{pins:List (Addr×Obj)}{σ:St}{H:Hp}{s:Shared}{p:Addr}{xs:List V}(I:Inv X pins σ H s)(h:H p=some (.lst xs)) :
  ∃(its:List Value) (n:Nat),zbp xs its/\s.heap.get? p=some { cls:=.type "list",data:=.seq its.toArray n }/\xs.length<=sizeLine:=by
 obtain⟨z,its,n,r,e⟩:=I.hok p _ h;exact⟨its,n,r,e,z⟩
theorem Inv.lstUpd{pins:List (Addr×Obj)}{σ:St}{H:Hp}{s:Shared}{p:Addr}{xs ys:List V}{its its':List Value}{n n':Nat}{f:Obj->Obj}(I:Inv X pins σ H s)(h:H p=some (.lst xs))
  (ho:s.heap.get? p=some { cls:=.type "list",data:=.seq its.toArray n }) (hf:f { cls:=.type "list",data:=.seq its.toArray n }={ cls:=.type "list",data:=.seq its'.toArray n' }) (r:zbp ys its') (hz:ys.length<=sizeLine) (t:Nat) :
  Inv X pins σ (upd H p (.lst ys)) { s with heap:=s.heap.update p f,toks:=t }:=by
 have e:(s.heap.update p f).get? p=some { cls:=.type "list",data:=.seq its'.toArray n' }:=by
  rw[Heap.get?_update_self f ho (by rw[hf]<;>rfl),hf]
 refine I.write (x:=p) (e:=p) (by rw[h];trivial) (.inl rfl) (λb u hb q=>(yc4 _ _ (yay hb)).trans q) ⟨_,e⟩ ?_
 exact⟨hz,its',n',r,e⟩
def rSetL:V->V->V->Hp->(Hp->Prop)->Prop:=λo i v H Q=>∃p xs k j,o=.ref p/\i=.int k/\H p=some (.lst xs)/\ixN xs.length k=some j/\Q (upd H p (.lst (xs.set j v)))
theorem zzz:PSet X rSetL:=by
 intro pins s σ H o i v ov iv u Q I ro ri rv h;obtain⟨p,xs,k,j,rfl,rfl,hp,hj,q⟩:=h;cases ro;obtain⟨t,rfl⟩:=ri;obtain⟨its,n,r,ho,hz⟩:=I.lst hp;obtain⟨h1,h2,h3,h4⟩:=zsu hj;have hl:=r.length;have hn:=zql
 have I':Inv X pins σ (upd H p (.lst (xs.set j v))) { s with heap:=s.heap.update p (Obj.mapSeq (·.setIfInBounds j u)) } :=
  I.lstUpd hp ho (zva its n j u) (r.set rv j) (by rw[ybs];exact hz) s.toks
 by_cases h0:0<=k
 ·have hk:k.toNat=j:=by
   rw[seqIndex_of h0 h4]at h1;exact yas h1
  exact PySem.W.ki_setAt ho h0 (by omega) (by rw[yai,<- hl];exact h4) (by rw[hk];exact⟨_,I',q⟩)
 ·have hk:(k+(its.toArray.size:Int)).toNat=j:=by
   rw[seqIndex_neg (by omega) h3]at h1
   rw[yai,<- hl];exact yas h1
  exact PySem.W.ki_setBack ho (by omega) (by rw[yai,<- hl];exact h3) (by omega) (by rw[hk];exact⟨_,I',q⟩)
theorem zq4(lo hi:Option Int)(n:Nat):(sliceBounds lo hi none n).1=((HT.sIx n 0 lo:Nat):Int)/\(sliceBounds lo hi none n).2.1=((HT.sIx n n hi:Nat):Int)/\(sliceBounds lo hi none n).2.2=1:=by
 refine⟨?_,?_,rfl⟩
 ·cases lo with
  |none=>simp[sliceBounds,HT.sIx]
  |some i =>
   simp only[sliceBounds,HT.sIx,Option.getD_none,show(1:Int) > 0 by decide,if_true]
   by_cases h:i<0
   ·simp only[h,if_true]<;>omega
   ·simp only[h,if_false]<;>omega
 ·cases hi with
  |none=>simp[sliceBounds,HT.sIx]
  |some i =>
   simp only[sliceBounds,HT.sIx,Option.getD_none,show(1:Int) > 0 by decide,if_true]
   by_cases h:i<0
   ·simp only[h,if_true]<;>omega
   ·simp only[h,if_false]<;>omega
theorem znt(its:List Value)(lo hi:Option Int):slicePick its.toArray lo hi none=((its.drop (HT.sIx its.length 0 lo)).take (HT.sIx its.length its.length hi - HT.sIx its.length 0 lo)).toArray:=by
 obtain⟨h1,h2,h3⟩:=zq4 lo hi its.toArray.size;unfold slicePick;rw[h1,h2,h3];simp only[sliceRange_one,pick_run,yai]<;>rfl
def rSlL(K:PySem.W.Frag):V->Option Int->Option Int->Hp->VK->Prop:=λx lo hi H Q=>∃a xs,x=.ref a/\SqL K H a xs/\∀p,H p=none->Q (.ref p) (upd H p (.lst (zHx xs lo hi)))
theorem zEk:SlR X (rSlL X.K):=by
 intro pins s σ H x v vl vu lo hi sl Q I rx hs pl pu h;obtain⟨a,xs,rfl,hx,q⟩:=h;cases rx;obtain⟨its,r,ht,hz⟩:=I.list hx;have hlen:=r.length;refine⟨"list",_,slot_list_getitem.lookup,ht.isList.typeIs,?_⟩;refine wpAny_getItem_list_slice ht.isList hs pl pu .none (by simp) ?_ (by rw[yai]<;>omega)
 rw[znt,<- hlen];refine⟨.ref s.heap.objs.size,_,I.laid (t':=s.toks) (o:=.lst (zHx xs lo hi)) (λb ob q=>yac _ q) (yaa _) ?_,rfl,q _ (I.hok.fresh (yaa _))⟩
 exact⟨yae (zt6 xs lo hi) hz,_,0,(r.drop (HT.sIx xs.length 0 lo)).take (HT.sIx xs.length xs.length hi - HT.sIx xs.length 0 lo),yav _ rfl⟩
theorem zrm:zd3 X (.type "list") (λxs H Q=>∃p ys,xs=[.ref p]/\(SqL X.K H p ys\/SqT X.K H p ys)/\∀l,H l=none->Q (.ref l) (upd H l (.lst ys))):=by
 intro pins s σ H xs us Q I r h;obtain⟨p,ys,rfl,hq,q⟩:=h;obtain⟨u,rfl,rx⟩:=zku r;cases rx
 have fin:∀(its:List Value),zbp ys its->ys.length<=sizeLine->∀(h':Heap) (c':Nat),(∀b o',s.heap.get? b=some o'->h'.get? b=some o') ->
   h'.get? s.heap.objs.size=some { cls:=.type "list",dict:=none,data:=.seq its.toArray c',slots:=#[] }->EP X pins σ Q (.ref s.heap.objs.size) { s with heap:=h' }:=λits r' hz h' c' kp e =>
  ⟨.ref s.heap.objs.size,_,I.laid (t':=s.toks) kp (yaa _) (show zbo X.prog X.w _ h' _ (.lst ys) from⟨hz,its,c',r',e⟩),rfl,q _ (I.hok.fresh (yaa _))⟩
 rcases hq with hq|hq
 ·obtain⟨its,r',pl,hz⟩:=I.list hq;have hlen:=r'.length;obtain⟨o,ho,hc,n,hd⟩:=pl.isList;exact call_list_seq p (.inl rfl) ho hc hd (λh' c' kp e=>fin its r' hz h' c' kp e) (by simp only[yai]<;>omega)
 ·obtain⟨its,r',pl,hz⟩:=I.tuple hq;have hlen:=r'.length;obtain⟨o,ho,hc,n,hd⟩:=pl;exact call_list_seq p (.inr rfl) ho hc hd (λh' c' kp e=>fin its r' hz h' c' kp e) (by simp only[yai]<;>omega)
theorem zph:zd3 X (.type "tuple") (λxs H Q=>∃p ys,xs=[.ref p]/\((SqL X.K H p ys/\∀l,H l=none->Q (.ref l) (upd H l (.tup ys)))\/(SqT X.K H p ys/\Q (.ref p) H))):=by
 intro pins s σ H xs us Q I r h;obtain⟨p,ys,rfl,h⟩:=h;obtain⟨u,rfl,rx⟩:=zku r;cases rx
 rcases h with ⟨hq,q⟩|⟨hq,q⟩
 ·obtain⟨its,r',pl,hz⟩:=I.list hq;have hlen:=r'.length;refine call_tuple_list pl.isList (λh' kp=>?_) (by simp only[yai]<;>omega)
  have I1:Inv X pins σ H { s with heap:=h' }:=I.kept (t':=s.toks) kp
  have I2:Inv X pins σ (upd H h'.objs.size (.tup ys)) { s with heap:=h'.push { cls:=.type "tuple",data:=.seq its.toArray } } :=
   I1.laid (t':=s.toks) (λb o e=>yac _ e) (yaa _) (show zbo X.prog X.w _ _ _ (.tup ys) from⟨hz,its,r',IsTup.new _ _⟩)
  exact⟨.ref h'.objs.size,_,I2,rfl,q _ (I1.hok.fresh (yaa _))⟩
 ·obtain⟨its,r',pl,hz⟩:=I.tuple hq;exact call_tuple_same pl ⟨.ref p,H,I,rfl,q⟩
def tyV(K:PySem.W.Frag)(T:String)(x:V)(H:Hp):Prop:=match x with
 |.str _=>T="str"
 |.int _=>T="int"
 |.ref p=>(T="list"/\∃xs,SqL K H p xs)\/(T="tuple"/\∃o,K.lookup p=some o/\o.cls=.type "tuple"/\o.dict=none) \/
   (T="dict"/\((∃kvs,H p=some (.dK kvs))\/∃kvs,H p=some (.dT kvs)))\/(T="set"/\∃S n,H p=some (.set S n))
 |_=>False
theorem zCi{pins:List (Addr×Obj)}{σ:St}{H:Hp}{s:Shared}{T:String}{x:V}{v:Value}(I:Inv X pins σ H s)(r:RelV x v)(ty:tyV X.K T x H) :
  s.TypeIs v T/\∀a,v=.ref a->∃ob,s.heap.get? a=some ob/\ob.dict=none:=by
 cases x with
 |str z =>
  obtain⟨t,rfl⟩:=r;cases (show T="str" from ty);exact⟨typeIs_str s z t,λ_ e=>nomatch e⟩
 |int i =>
  obtain⟨t,rfl⟩:=r;cases (show T="int" from ty);exact⟨typeIs_int s i t,λ_ e=>nomatch e⟩
 |ref p =>
  cases r
  rcases ty with ⟨rfl,xs,hq⟩|⟨rfl,o,hk,hc,hd⟩|⟨rfl,hk⟩|⟨rfl,S,n,hk⟩
  ·obtain⟨its,_,pl,_⟩:=I.list hq;refine⟨pl.isList.typeIs,λa e=>?_⟩
   cases e;obtain⟨o,n,e,c,hd,_⟩:=pl;exact⟨o,e,hd⟩
  ·refine⟨⟨o,I.kIn p o hk,hc⟩,λa e=>?_⟩
   cases e;exact⟨o,I.kIn _ o hk,hd⟩
  ·have z:∃o,s.heap.get? p=some o/\o.ExactDict:=by
    rcases hk with ⟨kvs,hk⟩|⟨kvs,hk⟩
    ·obtain⟨_,_,_,_,o,_,_,e,ex,_⟩:=I.hok p _ hk;exact⟨o,e,ex⟩
    ·obtain⟨_,_,_,_,o,_,_,e,ex,_⟩:=I.hok p _ hk;exact⟨o,e,ex⟩
   obtain⟨o,e,ex⟩:=z;refine⟨⟨o,e,ex.1⟩,λa e2=>?_⟩
   cases e2;exact⟨o,e,ex.2.1⟩
  ·obtain⟨o,_,_,_,e,ex,_⟩:=I.hok p _ hk;refine⟨⟨o,e,ex.1⟩,λa e2=>?_⟩
   cases e2;exact⟨o,e,ex.2.1⟩
 |_=>exact False.elim ty
def tBM0(K:PySem.W.Frag)(T:String)(r:V->List V->Hp->VK->Prop)(to:TE):TE:=λσ H Q=>to σ H λx H1=>tyV K T x H1/\r x [] H1 Q
def tBM(K:PySem.W.Frag)(T:String)(r:V->List V->Hp->VK->Prop)(to:TE)(t:TA):TE:=λσ H Q=>to σ H λx H1=>tyV K T x H1/\t σ H1 λxs H2=>r x xs H2 Q
variable {o e:Expr}{es:List Expr}{to:TE}{t:TA}{name:Str}{apos cpos:Pos}{T id:String}{r:V->List V->Hp->VK->Prop}
theorem zKc(pa:PlainAttrs T)(slot:Slot T name id)(hty:typeOf (.builtin id)=pure (.type "method_descriptor"))(hm:MtR X id r)(ho:PE X o to)
  (hbase:attributeBase o name X.env (eval o X.env)=eval o X.env:=by rfl) (hline:(apos.endLine == cpos.line)=true:=by rfl):PE X (.Call (.Attribute o name apos) [] [] cpos) (tBM0 X.K T r to):=by
 intro pins s σ H Q I h;refine wpAny_Call_method0_late hbase hline (thn (ho pins s σ H _ I h) λv s1 ⟨x,H1,I1,r1,ty,q1⟩=>?_)
 obtain⟨h1,h2⟩:=zCi I1 r1 ty;exact⟨T,id,pa,slot,hty,h1,h2,Calls.callWith_builtin rfl (PySem.evalArgs_none (hm pins s1 σ H1 x [] v [] Q I1 r1 .nil q1))⟩
theorem zx2(pa:PlainAttrs T)(slot:Slot T name id)(hty:typeOf (.builtin id)=pure (.type "method_descriptor"))(hm:MtR X id r)(ho:PE X o to)(ha:PA X (e::es) t)
  (hbase:attributeBase o name X.env (eval o X.env)=eval o X.env:=by rfl)
  (hfew : ((backTo cpos (starEach (e :: es) X.env)).all (fun x => !x.1) && (backToKw cpos (keywordEach [] X.env)).all (fun x => x.1.isSome)
   && decide ((e::es).length+([]:List Keyword).length+(if ([]:List Keyword).isEmpty then 0 else 1)<30))=true:=by rfl)
  (hline:(apos.endLine == cpos.line)=true:=by rfl) (hs:starEach (e::es) X.env=(false,eval e X.env)::starEach es X.env:=by rfl) (hplain:(backTo cpos (starEach es X.env)).any (·.1)=false:=by rfl) :
  PE X (.Call (.Attribute o name apos) (e::es) [] cpos) (tBM X.K T r to t):=by
 intro pins s σ H Q I h;refine wpAny_Call_method_late hbase hfew hline rfl (thn (ho pins s σ H _ I h) λv s1 ⟨x,H1,I1,r1,ty,q1⟩=>?_)
 obtain⟨h1,h2⟩:=zCi I1 r1 ty;refine⟨T,id,pa,slot,hty,h1,h2,?_⟩;have hA:=ha cpos pins s1 σ H1 _ I1 q1;rw[hs]at hA ⊢;refine Calls.callWith_builtin (by show(false || (backTo cpos (starEach es X.env)).any (·.1))=false;rw[hplain]<;>rfl) (Calls.evalArgs_plain ?_)
 exact thn hA λus s2 ⟨vs,H2,I2,r2,q2⟩=>hm pins s2 σ H2 x vs v us Q I2 r1 r2 q2
end
def MtM(X:Cx)(id:String)(r:V->List V->Hp->VK->Prop):Prop :=
 ∀(pins:List (Addr×Obj)) (s:Shared) (σ:St) (H:Hp) (x:V) (xs:List V) (v:Value) (us:List Value) (Q:VK),Inv X pins σ H s->RelV x v->zbp xs us->r x xs H Q ->
  wpAny (model X.prog X.w) X.A (call (.builtin id) (v::us)) (EP X pins σ Q) X.xe s
theorem zbp.one:∀{x:V} {us:List Value},zbp [x] us->∃u,us=[u]/\RelV x u
 |_,_,.cons r .nil=>⟨_,rfl,r⟩
theorem zbp.zero:∀{us:List Value},zbp [] us->us=[]
 |_,.nil=>rfl
theorem zbp.rep{xs:List V}{us:List Value}(h:zbp xs us):∀k:Nat,zbp (List.replicate k xs).flatten (List.replicate k us).flatten
 |0=>.nil
 |k+1=>by
  rw[ybw,ybw,ycb,ycb];exact zbp.append h (zbp.rep h k)
theorem zr2(its:List Value):∀(k:Nat) (acc:List Value),
  List.foldl (λx1 x2=>x1++x2) acc.toArray (List.replicate k its.toArray)=(acc++(List.replicate k its).flatten).toArray
 |0,acc=>by simp
 |k+1,acc=>by
  have e:acc.toArray++its.toArray=(acc++its).toArray:=by simp
  have e2:(acc++its)++(List.replicate k its).flatten=acc++(List.replicate (k+1) its).flatten:=by
   rw[ybw,ycb,ybi]
  rw[<- e2,<- zr2 its k (acc++its),<- e,ybw,List.foldl_cons]
section
variable {X:Cx}{pins:List (Addr×Obj)}{σ:St}{H:Hp}{s:Shared}{l b:Addr}{xs ys zs:List V}
theorem Inv.lset{its its':List Value}{n:Nat}{f:Array Value->Array Value}{t':Nat}(I:Inv X pins σ H s)(hH:H l=some (.lst xs))
  (e:s.heap.get? l=some { cls:=.type "list",data:=.seq its.toArray n }) (hf:f its.toArray=its'.toArray) (hv:zbp ys its') (hz:ys.length<=sizeLine) :
  Inv X pins σ (upd H l (.lst ys)) { s with heap:=s.heap.update l (Obj.mapSeq f),toks:=t' }:=by
 have q:=PySem.IsL.update e f;rw[hf]at q;refine I.write (x:=l) (e:=l) (by rw[hH];exact trivial) (.inl rfl) (λb' u hb hu=>(yc4 s.heap (Obj.mapSeq f) (yay hb)).trans hu) ⟨_,q⟩ ?_
 exact⟨hz,its',_,hv,q⟩
theorem Inv.lnew{its:List Value}{t':Nat}(I:Inv X pins σ H s)(hv:zbp ys its)(hz:ys.length<=sizeLine) :
  Inv X pins σ (upd H s.heap.objs.size (.lst ys)) { s with heap:=s.heap.push { cls:=.type "list",data:=.seq its.toArray },toks:=t' } :=
 I.laid (λ_ _ q=>yac _ q) (yaa _) ⟨hz,its,0,hv,yav _ rfl⟩
theorem Inv.fresh(I:Inv X pins σ H s):H s.heap.objs.size=none:=I.hok.fresh (yaa _)
theorem Inv.lstM(I:Inv X pins σ H s)(hH:H l=some (.lst xs)):xs.length<=sizeLine/\∃(its:List Value) (n:Nat),zbp xs its/\xs.length=its.length/\s.heap.get? l=some { cls:=.type "list",data:=.seq its.toArray n }:=by
 obtain⟨z,its,n,r,e⟩:=I.hok l _ hH;exact⟨z,its,n,r,r.length,e⟩
theorem zu7{n:Nat}(h:n<=sizeLine):Builtin.List.listTooLong n=false:=by
 unfold Builtin.List.listTooLong;exact decide_eq_false (by omega)
end
section
variable {X:Cx}
def zF3:V->List V->Hp->VK->Prop:=λx vs H Q=>∃l xs y,x=.ref l/\vs=[y]/\H l=some (.lst xs)/\xs.length<sizeLine/\Q .non (upd H l (.lst (xs++[y])))
theorem zqj:MtM X "list.append" zF3:=by
 intro pins s σ H x vs v us Q I rx rv h;obtain⟨l,xs,y,rfl,rfl,hH,hz,q⟩:=h;cases rx;obtain⟨u,rfl,ru⟩:=rv.one;obtain⟨z,its,n,r,hl,e⟩:=I.lstM hH;refine call_meets F.slot_list_append ⟨_,e,rfl⟩ F.entry_list_append (F.args_list_append_2 _ _) (PySem.list_append l its.toArray n u (by rw[yai];omega)) ⟨e,?_⟩
 refine⟨.non,_,I.lset (its':=its++[u]) hH e (by simp) (r.append (.cons ru .nil)) ?_,rfl,q⟩
 rw[yab,ybf]
 omega
def zF2:V->List V->Hp->VK->Prop:=λx vs H Q=>∃l b xs zs,x=.ref l/\vs=[.ref b]/\H l=some (.lst xs)/\H b=some (.lst zs)/\xs.length+zs.length<=sizeLine/\Q .non (upd H l (.lst (xs++zs)))
theorem zxc:MtM X "list.extend" zF2:=by
 intro pins s σ H x vs v us Q I rx rv h;obtain⟨l,b,xs,zs,rfl,rfl,hH,hB,hz,q⟩:=h;cases rx;obtain⟨u,rfl,ru⟩:=rv.one;cases ru;obtain⟨z,its,n,r,hl,e⟩:=I.lstM hH;obtain⟨z2,its2,n2,r2,hl2,e2⟩:=I.lstM hB;have hsz:its.toArray.size+its2.toArray.size<=sizeLine:=by rw[yai,yai];omega
 have hlong:¬ (!its.toArray.isEmpty && Builtin.List.listTooLong (its.toArray.size+its2.toArray.size))=true:=by
  rw[zu7 hsz,Bool.and_false];exact ybg
 refine call_meets F.slot_list_extend ⟨_,e,rfl⟩ F.entry_list_extend (F.args_list_extend_2 _ _)
  (AutoSeq1.list_extend_list_list_0 l its.toArray n b its2.toArray n2 hlong (by rw[yai];omega) (by omega)) ⟨e,e2,?_⟩
 refine⟨.non,_,I.lset (its':=its++its2) hH e (by simp) (r.append r2) ?_,rfl,q⟩
 rw[yab]
 omega
def zJs:V->List V->Hp->VK->Prop:=λx vs H Q=>∃l xs,x=.ref l/\vs=[]/\H l=some (.lst xs)/\Q .non (upd H l (.lst []))
theorem zB4:MtM X "list.clear" zJs:=by
 intro pins s σ H x vs v us Q I rx rv h;obtain⟨l,xs,rfl,rfl,hH,q⟩:=h;cases rx;have hus:=rv.zero;subst hus;obtain⟨z,its,n,r,hl,e⟩:=I.lstM hH;refine call_meets F.slot_list_clear ⟨_,e,rfl⟩ F.entry_list_clear (F.args_list_clear_1 _) (AutoSeq1.list_clear_list_0 l its.toArray n (by rw[yai];omega)) ⟨e,?_⟩
 exact⟨.non,_,I.lset (its':=[]) (ys:=[]) hH e rfl .nil (yb2 _),rfl,q⟩
def rCat:R2:=λx y H Q=>∃l b xs zs,x=.ref l/\y=.ref b/\H l=some (.lst xs)/\H b=some (.lst zs)/\xs.length+zs.length<=sizeLine/\∀p,H p=none->Q (.ref p) (upd H p (.lst (xs++zs)))
theorem zKl:OpR X (binaryOp .Add) rCat:=by
 intro pins s σ H x y v u Q I rx ry h;obtain⟨l,b,xs,zs,rfl,rfl,hH,hB,hz,q⟩:=h;cases rx;cases ry;obtain⟨z,its,n,r,hl,e⟩:=I.lstM hH;obtain⟨z2,its2,n2,r2,hl2,e2⟩:=I.lstM hB;refine PySem.P.add_list e e2 ?_ (by rw[yai,yai];omega)
 have ea:its.toArray++its2.toArray=(its++its2).toArray:=by simp
 rw[ea];exact⟨.ref _,_,I.lnew (t':=s.toks) (r.append r2) (by rw[yab];omega),rfl,q _ I.fresh⟩
def rRep:R2:=λx y H Q=>∃l k xs,x=.ref l/\y=.int k/\H l=some (.lst xs)/\-(2 ^ 63)<=k/\k<2 ^ 63/\xs.length * k.toNat<=sizeLine /\
 ∀p,H p=none->Q (.ref p) (upd H p (.lst (List.replicate k.toNat xs).flatten))
theorem zGf{α:Type}(xs:List α)(k:Nat):(List.replicate k xs).flatten.length=k * xs.length:=by
 induction k with
 |zero=>simp
 |succ k ih=>rw[ybw,ycb,yab,ih,Nat.succ_mul,yda]
theorem zKg:OpR X (binaryOp .Mult) rRep:=by
 intro pins s σ H x y v u Q I rx ry h;obtain⟨l,k,xs,rfl,rfl,hH,h1,h2,hz,q⟩:=h;cases rx;obtain⟨t,rfl⟩:=ry;obtain⟨z,its,n,r,hl,e⟩:=I.lstM hH;have hlen:its.toArray.size * k.toNat<=sizeLine:=by rw[yai,<- hl];exact hz
 have hcap:¬ its.toArray.size * k.toNat > (2 ^ 63 - 1) / 8:=by
  have:(sizeLine:Nat)<=(2 ^ 63 - 1) / 8:=by decide
  omega
 have hfit:¬ (!Builtin.List.listFitsIndex k)=true:=by
  rw[fitsIndex_both h1 h2];exact ybg
 have hlong:¬ Builtin.List.listTooLong (its.toArray.size * k.toNat)=true:=by
  rw[zu7 hlen];exact ybg
 have hnew:List.foldl (λx1 x2=>x1++x2) #[] (List.replicate (if its.toArray.isEmpty=true then 0 else k.toNat) its.toArray)=(List.replicate k.toNat its).flatten.toArray:=by
  have f0:∀m:Nat,List.foldl (λx1 x2=>x1++x2) #[] (List.replicate m its.toArray)=(List.replicate m its).flatten.toArray:=λm=>by
   have:=zr2 its m [];rw[yba]at this;exact this
  rw[f0];cases its with
  |nil=>simp
  |cons a r'=>rw[if_neg (by simp)]
 refine wpAny_binaryOp_repeat_ref (T:="list") (U:="int") (by decide) ⟨_,e,rfl⟩ (λs'=>typeIs_int s' k t) noFill_list_mul F.fills_int_mul F.slot_int_rmul repeat_list F.slot_int_index.lookup
  (call_meets F.slot_int_rmul (typeIs_int s k t) F.entry_int_rmul (F.args_int_rmul_2 _ _) (int___rmul___int_list k t l its.toArray n)
   ⟨e,rfl,⟨_,e,rfl⟩,call_meets F.slot_list_mul ⟨_,e,rfl⟩ F.entry_list_mul (F.args_list_mul_2 _ _) (AutoListH.list___mul___list_int_3 l its.toArray n k t hfit hcap hlong) ⟨e,?_⟩⟩)
 rw[hnew];exact⟨.ref _,_,I.lnew (t':=s.toks) (r.rep k.toNat) (by rw[zGf,Nat.mul_comm];exact hz),rfl,q _ I.fresh⟩
end
section
variable {prog:Program}{w:World}{A:Around}{E:Value->Shared->Prop}{s:Shared}
end
section
variable {X:Cx}
end
end L2
namespace Att
open PySem PySem.W PySem.Calls PyProof.Rows
theorem zlo{P:Params}{h:Heap}:∀(ns:List Int) (vs:List Value),WellAll P h vs (ns.map WData.int)->IntsAre vs ns:=by
 intro ns
 induction ns with
 |nil =>
  intro vs w;rw[yc6]at w;cases w;exact .nil
 |cons n ns ih =>
  intro vs w;rw[yaf]at w;cases w with
  |cons a b =>
   cases a;exact .cons _ _ (ih _ b)
theorem zwc{l:OpenLaw}{n:Nat}(hn:l.most=some n){P:Params}{h:Heap}{args:List WData}{vals:List Value}
  (hpre:l.row.toRowW.claim.pre args=true) (hwl:WellAll P h vals args) :
  ∃a vs ns,vals=[Value.ref a]/\args=[WData.list (ns.map WData.int)]/\h.get? a=some { cls:=.type "list",data:=.seq vs.toArray }/\IntsAre vs ns/\ns.length<=n:=by
 have hsh:WShape.hasAll [] args [.list .int]=true:=(pre_splitW hpre).1;have hc:l.pre.holds [] { args:=args }=true:=(pre_splitW hpre).2;obtain⟨d,r,rfl,h1,h2⟩:=hasAllW_cons hsh;obtain rfl:=hasAllW_nil h2;obtain⟨xs,rfl,h3⟩:=hasW_list h1;obtain⟨ns,rfl⟩:=items_int h3
 have hlen:ns.length<=n:=by
  unfold OpenLaw.pre at hc
  have h4:(WTm.not (.lt (.lit (.int (n:Int))) (.len (.arg 0)))).holds [] { args:=[.list (ns.map .int)] }=true:=by
   have h4:=(holds_andW hc).1;rw[hn]at h4;exact h4
  have h5:=condW_of h4 (w_not (w_lt w_lit (w_len_list (w_arg rfl))));rw[ya1]at h5;refine Nat.le_of_not_lt λq=>?_
  have q':(n:Int)<((ns.length:Nat):Int):=by omega
  first
   |(rw[decide_eq_true q']at h5;exact absurd h5 (by decide))
   |(simp at h5;omega)
 cases hwl with
 |cons w1 w2 =>
  cases w2;cases w1 with
  |list ho hall=>exact⟨_,_,ns,rfl,rfl,ho,zlo ns _ hall,hlen⟩
theorem zww(l:OpenLaw)(args:List WData):l.row.toRowW.claim.post args (.bool true) args=true :=
 postW_of (r:=l.row.toRowW) (X:=(true == true))
  (show WShape.has [] (.bool true) .bool=true by first|rfl|decide|simp[WShape.has,WShape.arms,WShape.armsAll])
  (show(WTm.eq .res (.lit (.bool true))).value [] { args:=args,res:=some (.bool true),after:=args }=some (.bool (true == true)) from w_eq_bool (w_res rfl) w_lit) rfl
theorem attach_call{l:OpenLaw}{n:Nat}{q:Program}{loose:List Str}{XP:(Str->Option Value)->Heap->Prop}{YP:World->Heap->Prop}{d:DefRec}
  (hn:l.most=some n) (hdf:d.params.defaults=[])
  (call : ∀ (w : World) (s₀ s₁ : Shared) (mg mb : Str -> Option Value) (fa : Addr) (o : Obj) (pm cd doc : Value) (a : Addr) (vs : List Value) (ns : List Int),
   Ground q loose [] XP w s₀ mg mb s₁.heap->YP w s₁.heap ->
   s₁.heap.get? fa=some o->o.data=.func (docDef d.name d.params d.body d.scope pm cd doc)->s₁.heap.CodeRec cd d.name->mg d.name=some (.ref fa) ->
   s₁.heap.get? a=some { cls:=.type "list",data:=.seq vs.toArray }->IntsAre vs ns->ns.length<=n->s₁.gens=#[] ->
   codeAny (model l.prog w) callerA (.call (.ref fa) ⟨[.ref a],[]⟩) (λr s'=>r=.ok (.ret (.bool true))/\OldK s₁.heap s'.heap/\s'.os=s₁.os/\AllBare s'.gens) s₁) :
  WalkO q loose XP YP l.row.toRowW d [] (λf vs=>PySem.call f vs):=by
 intro w s₀ s₁ mg mb G Y fa o pm cd doc dV kV ho hd hcd hD hmg hg args vals as hpre hlay hrd hwl hlo;obtain rfl:dV=.none:=Dflts.none hD hdf;obtain rfl:kV=.none:=Dflts.noKw hD;obtain⟨a,vs,ns,rfl,rfl,hobj,hints,hlen⟩:=zwc hn hpre hwl;refine enter_call (codeAny_mono (call w s₀ s₁ mg mb fa o pm cd doc a vs ns G Y ho (fd_plain hd) hcd hmg hobj hints hlen hg) λr s' hq=>?_)
 obtain⟨rfl,h2,h3,h4⟩:=hq;exact⟨.inl ⟨.bool true,.bool true,[],rfl,λ_=>rfl,.bool true,zww l _,λ_=>⟨List.Pairwise.nil,λ_ hm=>(nomatch hm)⟩⟩,h2,h3,h4⟩
section
variable {prog:Program}{w:World}{A:Around}{E:Value->Shared->Prop}{s:Shared}{K:Frag}
end
end Att
namespace L2
open PySem PySem.Spec PyProof.Rows
theorem zpw:∀{vs:List Value} {ns:List Int},IntsAre vs ns->zbp (ns.map V.int) vs
 |_,_,.nil=>.nil
 |_,_,.cons n t h=>.cons ⟨t,rfl⟩ (zpw h)
def Only(H:Hp):Prop:=∀b,H b=none\/∃o xs,H b=some (.frz o (.lst xs))
theorem zBa{P:Program}{w:World}{K:PySem.W.Frag}{mg mb:Str->Option Value}{CX:CXT}{k:Nat}{fa a:Addr}{fd:FuncData}{x:Str}{sp:Sp}{s₁:Shared}{vs:List Value}{ns:List Int}
  (KX:K.In s₁.heap) (hns:s₁.heap.Ns mainGlobals mg) (hb:s₁.heap.Ns builtinsNs mb) (hbb:∀x:Str,x≠"__name__"->mb x=bootBuiltins x) (hlim:s₁.heap.NoLimit) (hg:s₁.gens=#[])
  (ha:s₁.heap.get? a=some { cls:=.type "list",data:=.seq vs.toArray }) (hi:IntsAre vs ns) (hl:ns.length<=sizeLine) (hr:Room k callerA)
  (F:∀base:Heap,K.In base->base.Ns mainGlobals mg->FnOk P w K mg base CX k fa fd [x] sp) (hbind:∀(s:Shared) (u:Value),BindsTo s fd ⟨[u],[]⟩ [(x,u)])
  (hsp:∀H:Hp,Only H->SqL K H a (ns.map V.int)->sp [.ref a] H (λv _=>v=.bl true) λ_ _ _=>False)
  (hCX:∀H e s',CX [] H s₁ (λ_ _ _=>False) e s'->False) :
  codeAny (model P w) callerA (.call (.ref fa) ⟨[.ref a],[]⟩) (λr s'=>r=.ok (.ret (.bool true))/\OldK s₁.heap s'.heap/\s'.os=s₁.os/\AllBare s'.gens) s₁:=by
 have rv:=zpw hi;have lenV:=hi.length
 have core:∀H:Hp,Only H->SqL K H a (ns.map V.int)->HOk P w H s₁.heap->(∀b,H b≠none->b=a)->(H a≠none->K.lookup a=none) ->
   codeAny (model P w) callerA (.call (.ref fa) ⟨[.ref a],[]⟩) (λr s'=>r=.ok (.ret (.bool true))/\OldK s₁.heap s'.heap/\s'.os=s₁.os/\AllBare s'.gens) s₁:=by
  intro H hO hS hok hA hK;have base_of:∀{b:Addr} {o:Obj},s₁.heap.get? b=some o->H b=none->(zBh s₁.heap H).get? b=some o:=λe n=>zBg e n
  have noA:∀{b:Addr} {o:Obj} {es:Array DictEntry} {ep:Nat},s₁.heap.get? b=some o->o.data=.dict es ep->H b=none:=λ{b o es ep} e d=>by
   cases q:H b with
   |none=>rfl
   |some u =>
    have e':b=a:=hA b (by rw[q];simp)
    subst e';rw[ha]at e;cases e;have d':Data.seq vs.toArray _=Data.dict es ep:=d;cases d'
  have nsK:∀{b:Addr} {m:Str->Option Value},s₁.heap.Ns b m->(zBh s₁.heap H).Ns b m:=λ{b m} ⟨o,es,ep,e,d,r⟩=>⟨o,es,ep,base_of e (noA e d),d,r⟩
  have hKb:K.In (zBh s₁.heap H):=λb o e=>base_of (KX b o e) (by
   cases q:H b with
   |none=>rfl
   |some u =>
    have e':b=a:=hA b (by rw[q];simp)
    subst e';rw[hK (by rw[q];simp)]at e;cases e)
  have hM:Mod K mg (zBh s₁.heap H):=⟨hKb,nsK hns,⟨mb,nsK hb,hbb⟩,let ⟨mc,h1,h2⟩:=hlim;⟨mc,nsK h1,h2⟩⟩;have e0:Env0 P w K mg (zBh s₁.heap H) callerA [] s₁ H:=⟨rfl,hM,λb o e=>zFv e,Nat.le_of_eq (zxx _ _),trivial,λb hb=>absurd (show b∈([]:List Addr) from hb) (by simp),hok,.of_eq hg⟩
  refine codeAny_mono ((F _ hKb (nsK hns)).run callerA [] s₁ H ⟨[.ref a],[]⟩ [.ref a] [.ref a] _ _ hr e0 (hbind s₁ (.ref a)) (.cons rfl .nil) (hsp H hO hS)) λr s' h=>?_
  cases r with
  |error e=>exact(hCX H e s' h).elim
  |ok fl =>
   cases fl with
   |next=>exact False.elim h
   |brk=>exact False.elim h
   |cont=>exact False.elim h
   |ret u =>
    obtain⟨v,H',os,bare,un,hok',r',q⟩:=h;have q':v=.bl true:=q;subst q';obtain rfl:u=Value.bool true:=r';refine⟨rfl,OldK.of_keep λb o e=>?_,os,bare⟩
    cases q:H b with
    |none=>exact un.keep b o e q (by intro z;exact absurd (show b∈([]:List Addr) from z) (by simp)) (by simp)
    |some u =>
     rcases hO b with z|⟨ob,xs,z⟩
     ·rw[q]at z;cases z
     ·have z2:=un.frzs b ob _ z;obtain⟨e1,_⟩:=hok b _ z;obtain⟨e2,_⟩:=hok' b _ z2;rw[e]at e1;cases e1;exact e2
 cases hk:K.lookup a with
 |some o =>
  have e:=KX a o hk;rw[ha]at e;cases e;refine core (λ_=>none) (λ_=>.inl rfl) (.inr ⟨_,vs.toArray,_,hk,rfl,rfl,rfl,by rw[yai,lenV];exact hl,by simpa using rv⟩) (λb u z=>by have z':(none:Option HO)=some u:=z;cases z') (λb z=>absurd rfl z) λz=>absurd rfl z
 |none =>
  refine core (λb=>if b=a then some (.frz { cls:=.type "list",data:=.seq vs.toArray } (.lst (ns.map V.int))) else none) (λb=>?_) (.inl (.inr ⟨{ cls:=.type "list",data:=.seq vs.toArray },if_pos rfl⟩)) (λb u z=>?_) (λb z=>?_) λ_=>hk
  ·by_cases hb:b=a
   ·exact .inr ⟨_,_,if_pos hb⟩
   ·exact .inl (if_neg hb)
  ·by_cases hb:b=a
   ·have z':=(if_pos hb).symm.trans z;cases z';subst hb;exact⟨ha,by rw[ya1];exact hl,vs,_,rv,ha⟩
   ·have z':=(if_neg hb).symm.trans z;cases z'
  ·by_cases hb:b=a
   ·exact hb
   ·exact absurd (if_neg hb) z
theorem walk_of{l:PySem.W.OpenLaw}{n k:Nat}{q:Program}{loose:List Str}{XP:(Str->Option Value)->Heap->Prop}{YP:World->Heap->Prop}{d:DefRec}{K:Params->PySem.W.Frag}{CX:World->CXT}{sp:World->Sp}{x:Str}
  (hn:l.most=some n) (hn2:n<=sizeLine) (hdf:d.params.defaults=[]) (hr:Room k callerA)
  (hY:∀(w:World) (h:Heap),YP w h->(K w.params).In h)
  (F : ∀ (w : World) (mg : Str -> Option Value) (fa : Addr) (h : Heap), (K w.params).In h -> h.Ns mainGlobals mg -> mg d.name = some (.ref fa) ->
   ∃fd:FuncData,(∀(s:Shared) (u:Value),BindsTo s fd ⟨[u],[]⟩ [(x,u)]) /\
    ∀base:Heap,(K w.params).In base->base.Ns mainGlobals mg->FnOk l.prog w (K w.params) mg base (CX w) k fa fd [x] (sp w))
  (hsp:∀(w:World) (H:Hp) (a:Addr) (ns:List Int),ns.length<=n->Only H->SqL (K w.params) H a (ns.map V.int)->sp w [.ref a] H (λv _=>v=.bl true) λ_ _ _=>False)
  (hCX:∀(w:World) (H:Hp) (s:Shared) (e:Value) (s':Shared),CX w [] H s (λ_ _ _=>False) e s'->False) :
  PySem.W.WalkO q loose XP YP l.row.toRowW d [] (λf vs=>PySem.call f vs):=by
 refine Att.attach_call hn hdf λw s₀ s₁ mg mb fa o pm cd doc a vs ns G Y ho hd hcd hmg hobj hints hlen hg=>?_
 have KX:=hY w _ Y;obtain⟨fd,hb,hF⟩:=F w mg fa _ KX G.T.g hmg;exact zBa KX G.T.g G.T.b G.T.builtins G.T.nolimit hg hobj hints (yae hlen hn2) hr hF hb (λH hO hS=>hsp w H a ns hlen hO hS) λH e s'=>hCX w H s₁ e s'
def zji(s:Stmt):Arguments:=match s with
 |.FunctionDef _ a _ _ _ _ _ _ _ _=>a
 |_=>{ posonlyargs:=[],args:=[],vararg:=none,kwonlyargs:=[],kw_defaults:=[],kwarg:=none,defaults:=[] }
def zab(s:Stmt):List Stmt:=match s with
 |.FunctionDef _ _ b _ _ _ _ _ _ _=>b
 |_=>[]
def za2(s:Stmt):Scope:=match s with
 |.FunctionDef _ _ _ _ _ _ sc _ _ _=>sc
 |_=>{ kind:=.function,names:=[],isGenerator:=false,isCoroutine:=false }
abbrev CX0:CXT:=λ_ _ _ _ _ _=>False
abbrev E0:XK:=λ_ _ _=>False
section
variable {P:Program}{w:World}{K:PySem.W.Frag}{mg:Str->Option Value}{base:Heap}
end
section
variable {X:Cx}
end
theorem zMt{A B:Prop}(h:B):if false=true then A else B:=by
 rw[if_neg ybg];exact h
theorem zMs{A B:Prop}(h:A):if true=true then A else B:=by
 rw[if_pos rfl];exact h
def zbl(H H':Hp):Prop:=∀b o,H b=some o->H' b=some o
theorem zbl.refl(H:Hp):zbl H H:=λ_ _ h=>h
theorem zbl.trans{H H1 H2:Hp}(a:zbl H H1)(b:zbl H1 H2):zbl H H2:=λc o h=>b c o (a c o h)
theorem zbl.seq{K:PySem.W.Frag}{H H':Hp}{a:Addr}{xs:List V}(e:zbl H H')(h:SqL K H a xs):SqL K H' a xs:=by
 rcases h with (h|⟨o,h⟩)|h
 ·exact .inl (.inl (e _ _ h))
 ·exact .inl (.inr ⟨o,e _ _ h⟩)
 ·exact .inr h
section
variable {κ:Type} [DecidableEq κ]
def ztn(kvs:List (κ×V))(k:κ):Option V:=(kvs.find? λkv=>decide (kv.1=k)).map (·.2)
def ztz(kvs:List (κ×V))(k:κ)(v:V):List (κ×V) :=
 if (kvs.any λkv=>decide (kv.1=k))=true then kvs.map (λkv=>if kv.1=k then (kv.1,v) else kv) else kvs++[(k,v)]
theorem zke{p:κ×V}{r:List (κ×V)}{k:κ}(e:p.1=k):ztn (p::r) k=some p.2:=by simp[ztn,ycl,e]
theorem zkf{p:κ×V}{r:List (κ×V)}{k:κ}(e:¬ p.1=k):ztn (p::r) k=ztn r k:=by simp[ztn,ycl,e]
theorem ztm(k:κ):∀kvs:List (κ×V),(kvs.any λkv=>decide (kv.1=k))=(ztn kvs k).isSome
 |[]=>rfl
 |p::r=>by
  rw[ydn]
  by_cases e:p.1=k
  ·simp only[zke e,decide_eq_true e,ydv,Option.isSome_some]
  ·rw[zkf e,decide_eq_false e,ydo];exact ztm k r
theorem zlj(kvs:List (κ×V))(k:κ)(v:V):(ztz kvs k v).length<=kvs.length+1:=by
 unfold ztz;split
 ·rw[ya1];omega
 ·rw[yab,yao,yaw];omega
theorem zrx.isSome_eq{o:Option V}{u:Option Value}(r:zrx o u):o.isSome=u.isSome:=by
 cases o with
 |none=>cases u with
  |none=>rfl
  |some _=>exact(show False from r).elim
 |some _=>cases u with
  |none=>exact(show False from r).elim
  |some _=>rfl
theorem KV.val{kvs:List (κ×V)}{vs:List (κ×Value)}(r:KV kvs vs)(k:κ):zrx (ztn kvs k) (valueAt vs k):=by
 unfold KV at r
 induction r with
 |nil=>exact True.intro
 |@cons p q ps qs h t ih =>
  obtain⟨h1,h2⟩:=h
  by_cases e:p.1=k
  ·have e':q.1=k:=h1.symm.trans e;have b:valueAt (q::qs) k=some q.2:=by simp[valueAt,ycl,e']
   rw[zke e,b];exact h2
  ·have e':¬ q.1=k:=λz=>e (h1.trans z)
   have b:valueAt (q::qs) k=valueAt qs k:=by simp[valueAt,ycl,e']
   rw[zkf e,b];exact ih
theorem KV.any{kvs:List (κ×V)}{vs:List (κ×Value)}(r:KV kvs vs)(k:κ):(kvs.any λkv=>decide (kv.1=k))=vs.any λkv=>decide (kv.1=k):=by
 unfold KV at r
 induction r with
 |nil=>rfl
 |cons h t ih=>rw[ydn,ydn,ih,h.1]
theorem KV.repl{kvs:List (κ×V)}{vs:List (κ×Value)}(r:KV kvs vs)(k:κ){y:V}{u:Value}(ry:RelV y u) :
  KV (kvs.map λkv=>if kv.1=k then (kv.1,y) else kv) (vs.map λkv=>if kv.1=k then (kv.1,u) else kv):=by
 unfold KV at r ⊢
 induction r with
 |nil=>exact .nil
 |@cons p q ps qs h t ih =>
  rw[yaf,yaf];refine .cons ?_ ih;obtain⟨h1,h2⟩:=h
  by_cases e:p.1=k
  ·rw[if_pos e,if_pos (h1.symm.trans e)];exact⟨h1,ry⟩
  ·rw[if_neg e,if_neg (λz=>e (h1.trans z))];exact⟨h1,h2⟩
theorem KV.put{kvs:List (κ×V)}{vs:List (κ×Value)}(r:KV kvs vs)(k:κ){y:V}{u:Value}(ry:RelV y u):KV (ztz kvs k y) (stored vs k u):=by
 unfold ztz stored;rw[r.any k]
 by_cases e:(vs.any λkv=>decide (kv.1=k))=true
 ·rw[if_pos e,if_pos e];exact r.repl k ry
 ·rw[if_neg e,if_neg e];exact Paired.snoc r ⟨rfl,ry⟩
theorem KV.length{kvs:List (κ×V)}{vs:List (κ×Value)}(r:KV kvs vs):kvs.length=vs.length:=ydl r
end
theorem zGl{P:Program}{w:World}{k:Key}{u:Value}(r:RelV (kV k) u):(zbk P w).is k u=true:=by
 cases k with
 |inl i=>obtain⟨t,e⟩:=(show ∃t,u=Value.int i t from r);subst e;exact zsn P w i t
 |inr x=>obtain⟨t,e⟩:=(show ∃t,u=Value.str x t from r);subst e;exact zsm P w x t
theorem zqs{P:Program}{w:World}:∀{ks:List Key} {us:List Value},zbp (ks.map kV) us->ItemsAre (zbk P w) ks us
 |[],_,r=>by rw[yc6]at r;cases r;exact .nil
 |k::ks,_,r=>by
  rw[yaf]at r;cases r with
  |cons h t=>exact .cons (zGl h) (zqs t)
abbrev KT(H:Hp):List (List Key×V)->List (List Key×Addr×Value)->Prop:=Paired λp q=>p.1=q.1/\H q.2.1=some (.tup (p.1.map kV))/\RelV p.2 q.2.2
theorem KT.val{H:Hp}{kvs:List (List Key×V)}{xs:List (List Key×Addr×Value)}(r:KT H kvs xs)(k:List Key):zrx (ztn kvs k) ((atKey xs k).map (·.2)):=by
 induction r with
 |nil=>exact True.intro
 |@cons p q ps qs h t ih =>
  obtain⟨h1,_,h2⟩:=h
  by_cases e:p.1=k
  ·have e':q.1=k:=h1.symm.trans e;have b:atKey (q::qs) k=some q.2:=by simp[atKey,ycl,e']
   rw[zke e,b];exact h2
  ·have e':¬ q.1=k:=λz=>e (h1.trans z)
   have b:atKey (q::qs) k=atKey qs k:=by simp[atKey,ycl,e']
   rw[zkf e,b];exact ih
theorem KT.repl{H:Hp}{kvs:List (List Key×V)}{xs:List (List Key×Addr×Value)}(r:KT H kvs xs)(k:List Key){y:V}{u:Value}(ry:RelV y u) :
  KT H (kvs.map λkv=>if kv.1=k then (kv.1,y) else kv) (xs.map (putAt k u)):=by
 induction r with
 |nil=>exact .nil
 |@cons p q ps qs h t ih =>
  rw[yaf,yaf];refine .cons ?_ ih;obtain⟨h1,h2,h3⟩:=h;unfold putAt
  by_cases e:p.1=k
  ·rw[if_pos e,if_pos (h1.symm.trans e)];exact⟨h1,h2,ry⟩
  ·rw[if_neg e,if_neg (λz=>e (h1.trans z))];exact⟨h1,h2,h3⟩
theorem KT.put{H:Hp}{kvs:List (List Key×V)}{xs:List (List Key×Addr×Value)}(r:KT H kvs xs)(k:List Key){b:Addr}{y:V}{u:Value}(hb:H b=some (.tup (k.map kV)))(ry:RelV y u) :
  KT H (ztz kvs k y) (storedH xs k b u):=by
 have e:(kvs.any λkv=>decide (kv.1=k))=(atKey xs k).isSome:=by
  rw[ztm,(r.val k).isSome_eq,Option.isSome_map]
 unfold ztz storedH;rw[e]
 by_cases q:(atKey xs k).isSome=true
 ·rw[if_pos q,if_pos q];exact r.repl k ry
 ·rw[if_neg q,if_neg q];exact Paired.snoc r ⟨rfl,hb,ry⟩
theorem KT.keeps{H H':Hp}{kvs:List (List Key×V)}{xs:List (List Key×Addr×Value)}(r:KT H kvs xs)(ht:∀b ys,H b=some (.tup ys)->H' b=some (.tup ys)):KT H' kvs xs :=
 Paired.mapP r λ_ _ z=>⟨z.1,ht _ _ z.2.1,z.2.2⟩
section
variable {P:Program}{w:World}{H:Hp}{h:Heap}{a:Addr}
theorem zJf{u:HO}(ok:HOk P w H h)(e:Rd H a u):zbo P w H h a u:=e.ok ok
theorem zM0{kvs:List (Key×V)}(ok:HOk P w H h)(e:Rd H a (.dK kvs)):kvs.length<=sizeLine/\(a == sysModules)=false/\∃vs,KV kvs vs/\h.DictOf (zbk P w) a vs :=
 show zbo P w H h a (.dK kvs) from zJf ok e
theorem zM1{kvs:List (Key×V)}(ok:HOk P w H h)(e:H a=some (.dK kvs)):kvs.length<=sizeLine/\(a == sysModules)=false/\∃vs,KV kvs vs/\h.DictOf (zbk P w) a vs:=zM0 ok (.inl e)
theorem zxo{ks:List Key}(ok:HOk P w H h)(e:H a=some (.tup (ks.map kV))):(tupleKind (zbk P w)).is h ks a:=by
 obtain⟨_,its,r,o,h1,h2,n,h3⟩:=(show zbo P w H h a (.tup (ks.map kV)) from ok a _ e);exact⟨o,its.toArray,n,h1,h2,h3,by simpa using zqs r⟩
theorem zLy{kvs:List (List Key×V)}(ok:HOk P w H h)(e:Rd H a (.dT kvs)):kvs.length<=sizeLine/\(a == sysModules)=false /\
  ∃xs,KT H kvs xs/\h.DictOfH (tupleKind (zbk P w)) a xs:=by
 obtain⟨z,y,xs,r,o,es,ep,h1,h2,h3,h4,h5⟩:=(show zbo P w H h a (.dT kvs) from zJf ok e);refine⟨z,y,xs,r,o,es,ep,h1,h2,h3,h4,λx hx=>?_,h5⟩
 have all:∀{l:List (List Key×V)} {m:List (List Key×Addr×Value)},KT H l m->∀x∈m,(tupleKind (zbk P w)).is h x.1 x.2.1:=by
  intro l m q
  induction q with
  |nil=>intro x hx;exact nomatch hx
  |@cons p q ps qs hq t ih =>
   intro x hx
   rcases(yaj.mp hx) with e|hx
   ·subst e;exact zxo ok (by rw[<- hq.1];exact hq.2.1)
   ·exact ih x hx
 exact all r x hx
theorem dt_of{kvs:List (List Key×V)}(ok:HOk P w H h)(e:H a=some (.dT kvs)):kvs.length<=sizeLine/\(a == sysModules)=false /\
  ∃xs,KT H kvs xs/\h.DictOfH (tupleKind (zbk P w)) a xs:=zLy ok (.inl e)
end
def zMk(H:Hp)(a:Addr)(y:V)(r:Option V):Prop :=
 (∃kvs k,Rd H a (.dK kvs)/\y=kV k/\r=ztn kvs k)\/∃kvs k b,Rd H a (.dT kvs)/\y=.ref b/\H b=some (.tup (k.map kV))/\r=ztn kvs k
def zN1(H:Hp)(a:Addr)(y v:V)(H':Hp):Prop :=
 (∃kvs k,H a=some (.dK kvs)/\y=kV k/\kvs.length<sizeLine/\H'=upd H a (.dK (ztz kvs k v))) \/
 ∃kvs k b,H a=some (.dT kvs)/\y=.ref b/\H b=some (.tup (k.map kV))/\kvs.length<sizeLine/\H'=upd H a (.dT (ztz kvs k v))
theorem zMk.k{H:Hp}{a:Addr}{kvs:List (Key×V)}{k:Key}(e:H a=some (.dK kvs)):zMk H a (kV k) (ztn kvs k):=.inl ⟨kvs,k,.inl e,rfl,rfl⟩
theorem zN1.k{H:Hp}{a:Addr}{kvs:List (Key×V)}{k:Key}{v:V}(e:H a=some (.dK kvs))(hl:kvs.length<sizeLine):zN1 H a (kV k) v (upd H a (.dK (ztz kvs k v))):=.inl ⟨kvs,k,e,rfl,hl,rfl⟩
section
variable {X:Cx}{pins:List (Addr×Obj)}{σ:St}{H:Hp}{s:Shared}{a:Addr}{y v:V}{u r:Value}{o:Option V}{A:Around}{E:Value->Shared->Prop}
theorem Inv.big(I:Inv X pins σ H s):sysModules<s.heap.objs.size:=by
 have h:mainGlobals<s.heap.objs.size:=(I.mod.glob.keeps I.bk).lt;exact yd6 (by decide) h
theorem zyk{Q:Value->Shared->Prop}(hu:A.units+1<cLine)(I:Inv X pins σ H s)(g:zMk H a y (some v))(ry:RelV y u)(h:∀w' s',Inv X pins σ H s'->RelV v w'->Q w' s') :
  wpAny (model X.prog X.w) A (getItem (.ref a) u) Q E s:=by
 rcases g with ⟨kvs,k,e,ey,l⟩|⟨kvs,k,b,e,ey,eb,l⟩
 ·subst ey;obtain⟨z,hd,vs,rel,dd⟩:=zM0 I.hok e;obtain⟨w',hw,rw'⟩:=zrx.some_of (v:=v) (o:=valueAt vs k) (by rw[l];exact rel.val k)
  exact wpAny_getItem_of (zGl ry) dd.mapOf hw (h w' _ (I.tok _) rw')
 ·subst ey;cases (show u=Value.ref b from ry);obtain⟨z,hd,xs,rel,dd⟩:=zLy I.hok e;obtain⟨w',hw,rw'⟩:=zrx.some_of (v:=v) (o:=(atKey xs k).map (·.2)) (by rw[l];exact rel.val k)
  obtain⟨p,hp,hp2⟩:=ya2.mp hw;refine wpAny_getItem_heap (tupleKind_room_in1 hu) (zxo I.hok eb) dd hp ?_;rw[hp2];exact h w' _ (I.tok _) rw'
theorem zyi{h':Heap}{t':Nat}{ob:HO}(I:Inv X pins σ H s)(mu:Mut (H a))(hs:Heap.SameBut a s.heap h')(he:∃q,h'.get? a=some q)(new:zbo X.prog X.w (upd H a ob) h' a ob) :
  Inv X pins σ (upd H a ob) { s with heap:=h',toks:=t' } :=
 I.write (x:=a) (e:=a) mu (.inl rfl) (λb q hb z=>(hs.2 b hb).trans z) he new
theorem zM2{P:Program}{w:World}{H':Hp}{h':Heap}{kvs:List (Key×V)}{vs:List (Key×Value)}(z:kvs.length<=sizeLine)(hd:(a == sysModules)=false)(rel:KV kvs vs)(dd:h'.DictOf (zbk P w) a vs) :
  zbo P w H' h' a (.dK kvs):=⟨z,hd,vs,rel,dd⟩
theorem zyj{H':Hp}{Q:Unit->Shared->Prop}(hu:A.units+1<cLine)(I:Inv X pins σ H s)(g:zN1 H a y v H')(ry:RelV y u)(rv:RelV v r)(h:∀s',Inv X pins σ H' s'->Q () s') :
  wpAny (model X.prog X.w) A (setItem (.ref a) u r) Q E s:=by
 rcases g with ⟨kvs,k,e,ey,l,eH⟩|⟨kvs,k,b,e,ey,eb,l,eH⟩
 ·subst ey eH;obtain⟨z,hd,vs,rel,dd⟩:=zM1 I.hok e;have hz:vs.length<=sizeLine:=by rw[<- rel.length];exact z
  have hl:(ztz kvs k v).length<=sizeLine:=by have:=zlj kvs k v;omega
  refine wpAny_setItem_pairs (hsz:=hz) (zGl ry) dd λh' dd' hs=>h _ ?_
  have he:∃q,h'.get? a=some q:=let ⟨q,_,_,hq,_⟩:=dd';⟨q,hq⟩;exact zyi I (by rw[e];exact True.intro) hs he (zM2 hl hd (rel.put k rv) dd')
 ·subst ey eH;cases (show u=Value.ref b from ry);obtain⟨z,hd,xs,rel,dd⟩:=dt_of I.hok e;have hz:xs.length<=sizeLine:=by rw[<- ydl rel];exact z
  have hl:(ztz kvs k v).length<=sizeLine:=by have:=zlj kvs k v;omega
  refine wpAny_setItem_heap (hsz:=hz) (tupleKind_room_in1 hu) (zxo I.hok eb) dd λh' dd' hs=>h _ ?_
  obtain⟨q,es,ep,hq,h2,h3,h4,_,h5⟩:=dd';refine zyi I (by rw[e];exact True.intro) hs ⟨q,hq⟩ ⟨hl,hd,_,(rel.put k eb rv).keeps λc ys ec=>?_,q,es,ep,hq,h2,h3,h4,h5⟩
  rw[zag (ne_of ec e (λz=>nomatch z))]
  exact ec
end
section
variable {X:Cx}{pins:List (Addr×Obj)}{σ:St}{H:Hp}{s:Shared}{a:Addr}{kvs:List (Key×V)}{k:Key}{u:Value}{A:Around}{E:Value->Shared->Prop}
end
section
variable {X:Cx}{o i e value:Expr}{pos pos' tpos:Pos}{td ty tv:TE}
end
theorem zBz{P:Program}{w:World}{H:Hp}(h:Heap)(hb:sysModules<h.objs.size):zbo P w H (h.push { cls:=.type "dict",data:=.dict #[] }) h.objs.size (.dK []) :=
 ⟨yb2 _,beq_eq_false_iff_ne.mpr (yay (yar hb)),[],.nil,Heap.DictOf.new h⟩
section
variable {X:Cx}{pos:Pos}
end
section
variable {X:Cx}{pins:List (Addr×Obj)}{σ:St}{H:Hp}{s:Shared}{a:Addr}{y d:V}{u r:Value}{o:Option V}{A:Around}{E:Value->Shared->Prop}
end
section
variable {X:Cx}{o e f:Expr}{apos cpos:Pos}{td ty tx:TE}
end
section
variable {X:Cx}{pins:List (Addr×Obj)}{σ:St}{H:Hp}{s:Shared}{a:Addr}{kvs:List (Key×V)}{A:Around}{E:Value->Shared->Prop}
end
section
variable {X:Cx}{pins:List (Addr×Obj)}{σ:St}{H:Hp}{s:Shared}{a:Addr}{y:V}{u:Value}{A:Around}{E:Value->Shared->Prop}
end
end L2
namespace Zm
end Zm
namespace Zw
open PySem PySem.Spec PyProof.Rows L2
def Sm(i:Int):Prop:=-(10 ^ 70)<i/\i<10 ^ 70
theorem Sm.nat{i:Int}(h:Sm i):i.natAbs<10 ^ 70:=by
 unfold Sm at h
 omega
theorem zJz:10 ^ 70<=2 ^ 300:=by decide +kernel
theorem Sm.log{i:Int}(h:Sm i):i.natAbs.log2<300:=by
 by_cases z:i.natAbs=0
 ·rw[z]
  decide
 ·exact(Nat.log2_lt z).mpr (yak h.nat zJz)
theorem Sm.bits{i:Int}(h:Sm i):Builtin.Int.intBits i<=2 ^ 20:=by
 have q:=h.log;have e20:(2:Nat) ^ 20=1048576:=by decide
 unfold Builtin.Int.intBits;split<;>omega
section
variable {X:Cx}
theorem zFm:OpR X (binaryOp .Mult) (rI (λi j=>Sm i/\Sm j) λi j=>.int (i * j)):=opI λ_ _ _ _ _ _ _ hc q=>mul_int q (.of_bits hc.1.bits hc.2.bits)
theorem zAt:OpR X (binaryOp .FloorDiv) (rI (λ_ j=>j≠0/\Sm j) λi j=>.int (i.fdiv j)) :=
 opI λ_ _ _ _ _ _ _ hc q=>floordiv_int hc.1 q (.inl (PyProof.noPylong_of_log2 (yd6 hc.2.log (by decide))))
theorem zxv{x:V}{v:Value}{b:Bool}(r:RelV x v):PySem.plainIs v (.bool b)=true/\(v == Value.bool b)=decide (x=V.bl b):=by
 cases x with
 |non=>cases r;exact⟨rfl,by simp⟩
 |bl c=>cases r;exact⟨rfl,by cases c<;>cases b<;>simp⟩
 |int i=>obtain⟨t,rfl⟩:=r;exact⟨rfl,by simp⟩
 |str i=>obtain⟨t,rfl⟩:=r;exact⟨rfl,by simp⟩
 |byt i=>obtain⟨t,rfl⟩:=r;exact⟨rfl,by simp⟩
 |flt i=>obtain⟨t,rfl⟩:=r;exact⟨rfl,by simp⟩
 |ref i=>cases r;exact⟨rfl,by simp⟩
 |ty i=>cases r;exact⟨rfl,by simp⟩
theorem zKk:OpR X (compareOp .Is) (λx y H Q=>∃b,y=.bl b/\Q (.bl (decide (x=.bl b))) H):=by
 intro pins s σ H x y v u Q I rx ry h;obtain⟨b,rfl,q⟩:=h;cases ry;obtain⟨e1,e2⟩:=zxv (b:=b) rx;exact wpAny_is_plain e1 (zr9 I q e2.symm)
theorem zFl:OpR X (compareOp .IsNot) (λx y H Q=>∃b,y=.bl b/\Q (.bl (!decide (x=.bl b))) H):=by
 intro pins s σ H x y v u Q I rx ry h;obtain⟨b,rfl,q⟩:=h;cases ry;obtain⟨e1,e2⟩:=zxv (b:=b) rx;exact wpAny_isNot_plain e1 (zr9 I q (by rw[e2]))
theorem zC9{c:String}:zd3 X (.builtin "isinstance") (λxs H Q=>∃x t b,xs=[x,.ty c]/\TyOf X.K H x t/\PySem.W.kitOne X.K t (.type c)=some b/\Q (.bl b) H):=by
 intro pins s σ H xs us Q I r h;obtain⟨x,t,b,rfl,ty,e,q⟩:=h;obtain⟨u,w',rfl,rx,ry⟩:=zux r;cases ry;exact zqt I rx ty e λtk=>⟨.bl b,H,I.tok _,rfl,q⟩
end
section
variable {X:Cx}
end
section
variable {X:Cx}{pos:Pos}
end
section
variable {X:Cx}
end
theorem zss:PySem.W.kitMeta "int"=true:=by decide +kernel
theorem zqn:PySem.W.kitMeta "bool"=true:=by decide +kernel
theorem zoo:PySem.W.kitMeta "tuple"=true:=by decide +kernel
theorem zBc(K:PySem.W.Frag)(c:String):PySem.W.kitOne K (.type c) (.type c)=some true:=by
 unfold PySem.W.kitOne;rw[if_pos (by simp)]
theorem zLa(K:PySem.W.Frag){t c:String}{l:List Value}{b:Bool}(h:t≠c)(hm:PySem.W.kitMeta c=true)(hl:(fastBuiltinMro t).map (·.contains (Value.type c))=some b):PySem.W.kitOne K (.type t) (.type c)=some b:=by
 unfold PySem.W.kitOne;rw[if_neg (by simpa using h)]
 unfold PySem.W.kitCls;show(if PySem.W.kitMeta c=true then PySem.W.subIn K (.type t) (.type c) else none)=some b
 rw[if_pos hm];exact hl
set_option genInjectivity false in
structure FunD(K:PySem.W.Frag)(x qual:Str)(st:Stmt)(f:Addr)(fd:FuncData):Prop where
 ex:∃(oc:Value) (od:Option Addr) (dV kV doc pm:Value) (an:Option Addr) (cdv ct:Value) (osl:Array (Option Value)),
  fd=PySem.W.fnOf x qual (zji st) (zab st) (za2 st) dV kV doc pm an cdv ct/\K.lookup f=some ⟨oc,od,.func fd,osl⟩/\PySem.W.codeIn K cdv qual=true
 kp:PySem.W.keepIn K (.ref f)=true
theorem zeu{K:PySem.W.Frag}{x qual:Str}{st:Stmt}{f:Addr}{oc:Value}{od an:Option Addr}{osl:Array (Option Value)}{dV kV doc pm cdv ct:Value}(l:K.lookup f=some ⟨oc,od,.func (PySem.W.fnOf x qual (zji st) (zab st) (za2 st) dV kV doc pm an cdv ct),osl⟩)
  (c:PySem.W.codeIn K cdv qual=true) (k:PySem.W.keepIn K (.ref f)=true):FunD K x qual st f (PySem.W.fnOf x qual (zji st) (zab st) (za2 st) dV kV doc pm an cdv ct):=⟨⟨oc,od,dV,kV,doc,pm,an,cdv,ct,osl,rfl,l,c⟩,k⟩
set_option genInjectivity false in
structure Tx(K:PySem.W.Frag)(mg:Str->Option Value)(x:Str)(st:Stmt)(ps:List Str) where
 f:Addr
 fd:FuncData
 F:FunD K x x st f fd
 m:mg x=some (.ref f)
 b:zjn K fd ps []
section
variable {X:Cx}{k j:Nat}{x:Str}{ps:List Str}{sp:Sp}{p pos:Pos}{e:Expr}{es:List Expr}{t:TA}
end
theorem zkh{H:Hp}{p:Addr}(h:H p=none)(o:HO):zbl H (upd H p o):=λb u q=>by
 rw[zag (zaf q h)];exact q
def zM8(X:Cx)(scope:Scope)(cl:List (Str×Addr))(N':List Str)(C:Addr)(s₀:Shared)(H₀:Hp)(ex:List Addr):Cx :=
 { X with N:=N',s₀:=s₀,H₀:=H₀,env:=compEnvC scope cl C X.env,outer:=X.stack,ex:=ex,fn:=λ_=>false,xe:=λ_ _=>False }
theorem HOk.adopt{P:Program}{w:World}{H:Hp}{h:Heap}{a:Addr}{o:HO}(x:HOk P w H h)(hn:H a=none)(new:zbo P w (upd H a o) h a o):HOk P w (upd H a o) h:=λb u e=>by
 by_cases hb:b=a
 ·subst hb;rw[zar]at e;cases e;exact new
 ·rw[zag hb]at e;exact(x b u e).stay (λc v _ q=>q) (λc q=>by rw[zag (zaf q hn)];exact q) λc xs q=>by rw[zag (zaf q hn)];exact q
section
variable {X:Cx}{elt iter tg:Expr}{scope:Scope}{pos:Pos}{cl:List (Str×Addr)}{N':List Str}{wi:TI}{g:TG}{te:TE}
end
end Zw
namespace Zx
open PySem PySem.Spec PyProof.Rows L2 Zw
def zHl(B:Heap)(l:List Env)(a:Addr)(cls a0:Value)(h:Heap):Prop:=∃fl,B.StaysIn h/\B.get? a=none/\h.FunFrames B l/\h.TracedAtW B a cls a0 fl
theorem flyX{B h:Heap}{l:List Env}{a:Addr}{cls a0:Value}(x:Heap.FlyingW B l a cls a0 h):zHl B l a cls a0 h:=⟨.none,x⟩
section
variable {M:Model}{A:Around}{E:Value->Shared->Prop}{s:Shared}{B:Heap}{env v:Env}{l:List Env}{L a:Addr}{cls a0:Value}{Q:Unit->Shared->Prop}
theorem zFx(hfr:A.frames=some (v::l))(hv:env.frame=v.frame)(hL:v.frame=some L)(hx:zHl B (v::l) a cls a0 s.heap)(hQ:∀h',Heap.HeldW B (v::l) a cls a0 L h'->s.heap.UpToSlots h'->Q () { s with heap:=h' }):wpAny M A (noteFrame (.ref a) env) Q E s:=by
 have en:noteFrame (.ref a) env=noteFrame (.ref a) v:=by
  unfold noteFrame PySem.frameOf;rw[hv]
 rw[en];obtain⟨fl,f1,f2,f3,f4⟩:=hx
 by_cases hfl:fl=rawInt L
 ·subst hfl;exact wpAny_noteFrame_againW hL f4 (hQ _ ⟨f1,f2,f3,f4⟩ (.refl _))
 ·obtain⟨oe,ws,Tb,oT,ts,ha,⟨rfl,g0⟩,hd,g1,nT,Tne,hT,dT,g3⟩:=f4;have g3s:=(yca.mp g3).1;have oth:∀b,b≠Tb->(s.heap.update Tb (Obj.mapFields (·.setIfInBounds 3 Value.none))).get? b=s.heap.get? b:=λb hb=>yc4 _ _ (yay hb)
  have nr:∀b o,s.heap.get? b=some o->(∀us,o.data≠.fields us)->b≠Tb:=λb o hb hn z=>by
   rw[z,hT]at hb;cases hb;exact hn ts dT
  unfold noteFrame;simp only[hL];refine wpAny_bind (wpAny_field ha hd g1 ?_);rw[if_pos (by simp)]
  refine wpAny_bind (wpAny_field hT dT g3 ?_);rw[if_neg (λz=>hfl (beq_iff_eq.mp z))]
  refine wpAny_bind (wpAny_setField hT dT g3s ?_);refine wpAny_entryW hfr (f3.of_keeps λb o hb hn=>⟨o,(oth b (nr b o hb hn)).trans hb,rfl⟩) hL ((oth a (yay Tne)).trans ha) (λb o hb=>(oth b λz=>by rw[z,nT]at hb;cases hb).trans (f1 b o hb)) f2 hd (yca.mp g1).1 g0 λh' k=>?_
  obtain⟨k1,k2,k3,k4⟩:=k;exact hQ h' ⟨k1,f2,k2,k3⟩ λb o hb hn=>k4 b o ((oth b (nr b o hb hn)).trans hb) hn
theorem leavX(hfr:A.frames=some (v::l))(hL:v.frame=some L)(hx:zHl B (v::l) a cls a0 s.heap)(hQ:∀h',Heap.FlyingW B l a cls a0 h'->s.heap.UpToSlots h'->Q () { s with heap:=h' }):wpAny M A (leaving v (.ref a)) Q E s:=by
 unfold leaving;refine wpAny_bind (zFx hfr rfl hL hx λh1 hh sm1=>wpAny_landsW hh λh2 hf sm2=>?_)
 obtain⟨k1,k2,⟨_,_,k3⟩,k4⟩:=hf;exact hQ h2 ⟨k1,k2,k3,k4⟩ (sm1.trans sm2)
end
def CX1(P:Program)(w:World):CXT:=λouter H s E e s'=>∃(a:Addr) (cls:Value) (H':Hp) (B:Heap) (a0:Value),
 e=.ref a/\s'.os=s.os/\AllBare s'.gens/\Un (frs outer) [] H H' s.heap s'.heap/\HOk P w H' B/\(∀b o,s.heap.get? b=some o->H b=none->b∉frs outer->B.get? b=some o) /\
 (∀b o,s.heap.get? b=some o->b∉frs outer->∃o',B.get? b=some o')/\zHl B outer a cls a0 s'.heap/\E cls none H'
theorem zzr{P:Program}{w:World}{H:Hp}{h:Heap}{a:Addr}{o:HO}(x:zbo P w H h a o):∃ob,h.get? a=some ob:=by
 cases o with
 |lst xs=>obtain⟨_,_,_,_,e⟩:=x;exact⟨_,e⟩
 |tup xs=>obtain⟨_,_,_,o',e,_⟩:=x;exact⟨o',e⟩
 |dK kvs=>obtain⟨_,_,_,_,o',_,_,e,_⟩:=x;exact⟨o',e⟩
 |dT kvs=>obtain⟨_,_,_,_,o',_,_,e,_⟩:=x;exact⟨o',e⟩
 |set S n=>obtain⟨o',_,_,_,e,_⟩:=x;exact⟨o',e⟩
 |ins C dx fs=>obtain⟨_,_,_,e,_⟩:=x;exact⟨_,e⟩
 |own y=>exact x
 |xd fs=>obtain⟨_,⟨o',_,_,e,_⟩,_⟩:=x;exact⟨o',e⟩
 |rng lo hi=>obtain⟨_,_,_,e⟩:=x;exact⟨_,e⟩
 |frz ob u=>obtain⟨e,_⟩:=x;exact⟨_,e⟩
 |tbl ps=>exact⟨_,(show h.get? a=some _ from x)⟩
 |met f y=>exact⟨_,(show h.get? a=some _ from x)⟩
 |ext φ=>obtain⟨_,e,_⟩:=x;exact e
theorem none_of{P:Program}{w:World}{H:Hp}{h:Heap}{a:Addr}(x:HOk P w H h)(e:h.get? a=none):H a=none:=by
 cases q:H a with
 |none=>rfl
 |some u =>
  obtain⟨ob,z⟩:=zzr (x a u q);rw[e]at z;cases z
theorem zMh{P:Program}{w:World}{H:Hp}{h:Heap}{a:Addr}{o:HO}(x:HOk P w H h)(hn:H a=none)(new:zbo P w (upd H a o) h a o):HOk P w (upd H a o) h:=λb u e=>by
 by_cases hb:b=a
 ·subst hb;have e':=zar.symm.trans e;cases e';exact new
 ·have e':=(zag (H:=H) (o:=o) hb).symm.trans e;exact(x b u e').stay (λc v _ q=>q) (λc q=>(zag (zaf q hn)).trans q) λc xs q=>(zag (zaf q hn)).trans q
def zbh(X:Cx)(E:L2.St->XK):Prop:=∀(pins:List (Addr×Obj)) (σ:L2.St) (H:Hp) (s:Shared) (e:Value) (s':Shared),Inv X pins σ H s->CX1 X.prog X.w X.stack H s (E σ) e s'->X.xe e s'
def zHj(X:Cx)(E:L2.St->XK):Prop:=∀(pins:List (Addr×Obj)) (σ:L2.St) (H:Hp) (s:Shared) (a:Addr) (cls:Value) (vs:List Value) (h':Heap),Inv X pins σ H s->Heap.MadeExcOf s.heap h' a cls vs->E σ cls none H->X.xe (.ref a) { s with heap:=h' }
section
variable {X:Cx}{pins:List (Addr×Obj)}{σ:L2.St}{H:Hp}{s:Shared}
theorem zof(I:Inv X pins σ H s){b:Addr}{o:Obj}(e:X.s₀.heap.get? b=some o)(hb:b∉frs X.outer):b∉frs X.stack:=λz=>by
 rcases yaj.mp (I.stkSub b z) with q|q
 ·exact absurd (yak (yad e) I.ok.above) (by rw[q];exact yb9 _)
 ·exact hb q
theorem zwa(hst:X.stack=X.env::X.outer){b:Addr}(hb:b∈frs X.outer):b∈frs X.stack:=by
 rw[hst];obtain⟨v,h1,h2⟩:=yc5.mp hb;exact yc5.mpr ⟨v,ya6 _ h1,h2⟩
theorem zLo(I:Inv X pins σ H s):HOk X.prog X.w H (PySem.W.hideAll s.heap (frs X.stack)):=λb u e=>(I.hok b u e).stay (λc v hc q=>yc0 _ q λz=>by
  have f:=I.stkFree c z
  rcases hc with y|y
  ·rw[y,e]at f;cases f
  ·rw[y]at f;cases f) (λ_ q=>q) λ_ _ q=>q
theorem zGa(hst:X.stack=X.env::X.outer)(hf:X.env.frame=some X.env.locals)(hex:X.ex=[]){E:XK}{a:Addr}{cls:Value}{vs:List Value}{h':Heap}{Ex:Value->Shared->Prop}(I:Inv X pins σ H s)(hx:Heap.MadeExcOf s.heap h' a cls vs)(he:E cls none H) :
  wpAny (model X.prog X.w) X.A (leaving X.env (.ref a)) (λ_ s2=>CX1 X.prog X.w X.outer X.H₀ X.s₀ E (.ref a) s2) Ex { s with heap:=h' }:=by
 have nex:∀b:Addr,b∉X.ex:=λb z=>by rw[hex]at z;cases z
 have hfr:X.A.frames=some (X.env::X.outer):=hst▸I.ok.frames
 have FF:s.heap.FunFrames (PySem.W.hideAll s.heap (frs X.stack)) (X.env::X.outer):=by
  rw[<- hst];exact PySem.W.funFrames_hide I.stack λv hv b hb=>yc5.mpr ⟨v,hv,hb⟩
 refine wpAny_leaves_madeW (base:=PySem.W.hideAll s.heap (frs X.stack)) (h:=s.heap) (args:=vs) hfr hf (λb o q=>yck _ q) FF hx λh2 t fl _ _ sm=>?_
 have kB:∀b o,X.s₀.heap.get? b=some o->X.H₀ b=none->b∉frs X.outer->(PySem.W.hideAll s.heap (frs X.stack)).get? b=some o:=λb o e n hb=>yc0 _ (I.base.keep b o e n hb (nex b)) (zof I e hb)
 have tB:∀b o,X.s₀.heap.get? b=some o->b∉frs X.outer->∃o',(PySem.W.hideAll s.heap (frs X.stack)).get? b=some o':=λb o e hb=>by
  obtain⟨o',e'⟩:=I.base.there b o e (nex b);exact⟨o',yc0 _ e' (zof I e hb)⟩
 have sl:∀b o,X.s₀.heap.get? b=some o->X.H₀ b=none->b∈frs X.outer->∃z,h2.get? b=some { o with slots:=z }:=λb o e n hb=>by
  obtain⟨z,e1⟩:=I.base.slot b o e n hb (nex b);obtain⟨_,o2,ho2,hd⟩:=I.funs.mem hb;rw[e1]at ho2;cases ho2;obtain⟨z3,e3⟩:=sm b { o with slots:=z } (hx.keeps b _ e1) hd
  exact⟨z3,e3⟩
 refine⟨a,cls,H,_,_,rfl,I.os,I.bare,⟨λb o e n hb _=>fl.1 b o (kB b o e n hb),λb o e n hb _=>sl b o e n hb,λb o e n _=>I.base.free b o e n (nex b),λb o e _=>?_,I.base.tups,I.base.frzs,I.base.tbls⟩,zLo I,kB,tB,flyX fl,he⟩
 by_cases hb:b∈frs X.outer
 ·obtain⟨z,q⟩:=sl b o e (I.ok.frf b hb) hb;exact⟨_,q⟩
 ·obtain⟨o',q⟩:=tB b o e hb;exact⟨o',fl.1 b o' q⟩
theorem zFj(hst:X.stack=X.env::X.outer)(hf:X.env.frame=some X.env.locals)(hex:X.ex=[]){E:XK}{e:Value}{s':Shared}{Ex:Value->Shared->Prop}(I:Inv X pins σ H s)(h:CX1 X.prog X.w X.stack H s E e s') :
  wpAny (model X.prog X.w) X.A (leaving X.env e) (λ_ s2=>CX1 X.prog X.w X.outer X.H₀ X.s₀ E e s2) Ex s':=by
 obtain⟨a,cls,H',B,a0,rfl,os,bare,un,hok,kB0,tB0,fl0,he⟩:=h;have nex:∀b:Addr,b∉X.ex:=λb z=>by rw[hex]at z;cases z
 have hfr:X.A.frames=some (X.env::X.outer):=hst▸I.ok.frames;have fl1:zHl B (X.env::X.outer) a cls a0 s'.heap:=hst▸fl0;refine leavX hfr hf fl1 λh2 fl sm=>?_
 have kB:∀b o,X.s₀.heap.get? b=some o->X.H₀ b=none->b∉frs X.outer->B.get? b=some o:=λb o e n hb=>kB0 b o (I.base.keep b o e n hb (nex b)) (I.base.free b o e n (nex b)) (zof I e hb)
 have tB:∀b o,X.s₀.heap.get? b=some o->b∉frs X.outer->∃o',B.get? b=some o':=λb o e hb=>by
  obtain⟨o',e'⟩:=I.base.there b o e (nex b);exact tB0 b o' e' (zof I e hb)
 have sl:∀b o,X.s₀.heap.get? b=some o->X.H₀ b=none->b∈frs X.outer->∃z,h2.get? b=some { o with slots:=z }:=λb o e n hb=>by
  obtain⟨z,e1⟩:=I.base.slot b o e n hb (nex b);obtain⟨_,o2,ho2,hd⟩:=I.funs.mem hb;rw[e1]at ho2;cases ho2;obtain⟨z2,e2⟩:=un.slot b { o with slots:=z } e1 (I.base.free b o e n (nex b)) (zwa hst hb) (by simp)
  obtain⟨z3,e3⟩:=sm b { o with slots:=z2 } e2 hd
  exact⟨z3,e3⟩
 refine⟨a,cls,H',B,a0,rfl,os.trans I.os,bare,⟨λb o e n hb _=>fl.1 b o (kB b o e n hb),λb o e n hb _=>sl b o e n hb,λb o e n _=>?_,λb o e _=>?_,λb xs e=>un.tups b xs (I.base.tups b xs e),λb o u e=>un.frzs b o u (I.base.frzs b o u e),λb ps e=>?_⟩,hok,kB,tB,flyX fl,he⟩
 ·obtain⟨o',e'⟩:=I.base.there b o e (nex b);exact un.free b o' e' (I.base.free b o e n (nex b)) (by simp)
 ·by_cases hb:b∈frs X.outer
  ·obtain⟨z,q⟩:=sl b o e (I.ok.frf b hb) hb;exact⟨_,q⟩
  ·obtain⟨o',q⟩:=tB b o e hb;exact⟨o',fl.1 b o' q⟩
 ·obtain⟨m1,e1⟩:=I.base.tbls b ps e;obtain⟨m2,e2⟩:=un.tbls b _ e1;exact⟨m1++m2,e2.trans (by rw[Array.append_assoc])⟩
end
section
variable {P:Program}{w:World}{K:PySem.W.Frag}{mg:Str->Option Value}{base:Heap}
theorem zKe{N:List Str}{qual:Str}{sc:Scope}{f:Addr}{cd:Value}{A:Around}{outer:List Env}{s:Shared}{H:Hp}{E:XK}:zbh (zzk (CX1 P w) P w K mg base N qual sc f cd A outer s H E) (λ_=>E) :=
 λ_ _ _ _ _ _ I h=>zFj rfl rfl rfl I h
theorem zL0{N:List Str}{qual:Str}{sc:Scope}{f:Addr}{cd:Value}{A:Around}{outer:List Env}{s:Shared}{H:Hp}{E:XK}:zHj (zzk (CX1 P w) P w K mg base N qual sc f cd A outer s H E) (λ_=>E) :=
 λ_ _ _ _ _ _ _ _ I hx he=>zGa rfl rfl rfl I hx he
theorem okX{x qual:Str}{st:Stmt}{f:Addr}{fd:FuncData}{N ps:List Str}{k:Nat}{sp:Sp}(F:FunD K x qual st f fd)(S:FnScope N ps (za2 st))(len:∀vs H Q E,sp vs H Q E->vs.length=ps.length)
  (hbody : ∀ (cdv : Value) (A : Around) (outer : List Env) (s : Shared) (H : Hp) (vs : List V) (Q : VK) (E : XK), Room k (A.deeper (envOfC qual (za2 st) s.heap.objs.size f cdv)) -> sp vs H Q E ->
   ∃t,PSs (zzk (CX1 P w) P w K mg base N qual (za2 st) f cdv A outer s H E) (zab st) t/\t { nx:=λ_ H'=>Q .non H',rt:=Q } (start N vs) H):FnOk P w K mg base (CX1 P w) (k+1) f fd ps sp:=by
 obtain⟨oc,od,dV,kV,doc,pm,an,cdv,ct,osl,rfl,lk,hcd⟩:=F.ex;exact fn_of lk hcd S len λA outer s H vs Q E hr hsp=>hbody cdv A outer s H vs Q E hr hsp
end
set_option genInjectivity false in
structure DefX(P:Program)(w:World)(K:PySem.W.Frag)(mg:Str->Option Value)(base:Heap)(k:Nat)(x:Str)(ps:List Str)(sp:Sp) where
 f:Addr
 fd:FuncData
 ok:FnOk P w K mg base (CX1 P w) k f fd ps sp
 m:mg x=some (.ref f)
 kp:PySem.W.keepIn K (.ref f)=true
 b:zjn K fd ps []
section
variable {X:Cx}{k j:Nat}{f:Addr}{fd:FuncData}{x:Str}{ps:List Str}{sp:Sp}{p pos:Pos}{e:Expr}{es:List Expr}{t:TA}{E:L2.St->XK}{dvs:List V}
theorem zse{pins:List (Addr×Obj)}{σ:L2.St}{H:Hp}{s:Shared}{Q:VK}{us ds:List Value}{vs:List V}(F:FnOk X.prog X.w X.K X.mg X.base (CX1 X.prog X.w) k f fd ps sp)(hr:Room k X.A)(hb:zjn X.K fd ps ds)(hd:zbp dvs ds)(hx:zbh X E)
  (I:Inv X pins σ H s) (r:zbp vs us) (h:sp (vs++dvs) H Q (E σ)):wpAny (model X.prog X.w) X.A (call (.ref f) us) (EP X pins σ Q) X.xe s:=by
 have r2:zbp (vs++dvs) (us++ds):=r.append hd;have hl:(us++ds).length=ps.length:=r2.length.symm.trans (F.len _ _ _ _ h);refine wpAny_call (codeAny_mono (F.run X.A X.stack s H ⟨us,[]⟩ (us++ds) (vs++dvs) Q (E σ) hr I.env0 (hb s us I.kIn hl) r2 h) λr s' hq=>?_)
 cases r with
 |error v=>exact hx pins σ H s v s' I hq
 |ok fl =>
  cases fl with
  |ret u=>exact I.after hq
  |_=>exact False.elim hq
def zIr(sp:Sp)(dvs:List V)(E:L2.St->XK)(t:TA):TE:=λσ H Q=>t σ H λvs H1=>sp (vs++dvs) H1 Q (E σ)
theorem px(D:DefX X.prog X.w X.K X.mg X.base k x ps sp)(hr:Room j X.A)(hx:zbh X E)(ha:PA X (e::es) t)(hk:k<=j:=by decide)(hg:Gl X x:=by rfl)(hdb:(x == ("__debug__":Str))=false:=by decide)
  (he:starEach (e::es) X.env=(false,eval e X.env)::starEach es X.env:=by rfl) (hpl:(backTo pos (starEach es X.env)).any (·.1)=false:=by rfl):PE X (.Call (.Name x p) (e::es) [] pos) (zIr sp [] E t):=by
 intro pins s σ H Q I h;refine wpAny_Call_Name_kw (zll I hg D.m ?_ hdb);refine ydi (h₀:=X.base) I.ok.mod.kin D.kp (thn (ha pos pins s σ H _ I h) λus s1 ⟨vs,H1,I1,r,q⟩=>⟨I1.kIn,?_⟩) he hpl
 exact zse D.ok (hr.mono hk) D.b .nil hx I1 r q
end
abbrev vmro:List Value:=[.type "ValueError",.type "Exception",.type "BaseException",.type "object"]
structure ExcK(K:PySem.W.Frag)(C:Addr):Prop where
 q:PySem.W.excIn K C vmro "ValueError.__new__"=true
 self:PySem.W.subIn K (.ref C) (.ref C)=some true
 cd:∃cd,PySem.W.clsIn K C=some cd
 ty:PySem.W.typeIn K (.ref C)=some (.type "type")
 ga:PySem.W.findIn K (.ref C) "__getattribute__"=some (some (.builtin "BaseException.__getattribute__"))
 gt:PySem.W.findIn K (.ref C) "__getattr__"=some none
 ca:PySem.W.findIn K (.ref C) "__class__"=some (some (.builtin "object.__class__"))
 ob:PySem.W.mroIn K C (.type "object")=some true
 be:PySem.W.mroIn K C (.type "BaseException")=some true
 gs:PySem.W.specialIn K (.builtin "object.__class__") "__get__"=some (some (.builtin "getset_descriptor.__get__"))
 tk:PySem.W.takesIn K (.builtin "object.__class__")=some true
structure ECls(K:PySem.W.Frag)(mg:Str->Option Value)(x:Str) where
 C:Addr
 m:mg x=some (.ref C)
 k:ExcK K C
theorem zDv{K:PySem.W.Frag}{h:Heap}{C:Addr}{bmB:List Value}{newId:String}(X:K.In h)(q:PySem.W.excIn K C bmB newId=true):∃bm N nm qn bs hd sn sub ab col dd k0 k1 k2 k3 k5 mN,
  h.get? C=some (excClassObj nm qn C N bs bm hd sn sub ab col dd k0 k1 k2 k3 k5 newId)/\h.Ns N mN/\mN "__init__"=none/\OwnTail h bmB bm:=by
 unfold PySem.W.excIn at q;split at q
 ·rename_i dd cd sl ho;split at q
  ·rename_i C2 bm k0 k1 k2 k3 nid k5 hm hs;simp only[ybm,ya4,beq_iff_eq]at q;obtain⟨⟨⟨⟨⟨z1,z2⟩,hdel⟩,ht⟩,hok⟩,hni⟩:=q;subst z1;subst z2;obtain⟨nm,bs,mro,nsp,qn,hd,sn,sub,ab,col,dl⟩:=cd;dsimp only at hm hok hni hdel;subst hm;subst hdel
   have hsl:sl=#[k0,k1,k2,k3,some (.builtin nid),k5]:=by
    obtain⟨l⟩:=sl;have hs':l=[k0,k1,k2,k3,some (.builtin nid),k5]:=hs;rw[hs']
   subst hsl;exact⟨bm,nsp,nm,qn,bs,hd,sn,sub,ab,col,dd,k0,k1,k2,k3,k5,_,X _ _ ho,.of_isNs (PySem.W.isNs_of_in X hok),PySem.W.nsMap_none_of_in X hok hni,PySem.W.tail_of_in X ht⟩
  ·exact absurd q ybg
 ·exact absurd q ybg
section
variable {X:Cx}{x:Str}{p cpos pos:Pos}{e:Expr}{es:List Expr}{t:TA}{E:L2.St->XK}
def zIi(C:Addr)(E:L2.St->XK)(t:TA):TS:=λ_ σ H=>t σ H λvs H1=>vs.length<=sizeLine/\E σ (.ref C) none H1
theorem zAm(T:ECls X.K X.mg x)(hc:X.calm=true)(hx:zHj X E)(ha:PA X (e::es) t)(hg:Gl X x:=by rfl)(hdb:(x == ("__debug__":Str))=false:=by decide)
  (he:starEach (e::es) X.env=(false,eval e X.env)::starEach es X.env:=by rfl) (hpl:(backTo cpos (starEach (e::es) X.env)).any (·.1)=false:=by rfl) :
  PS X (.Raise (some (.Call (.Name x p) (e::es) [] cpos)) none pos) (zIi T.C E t):=by
 intro pins s σ H D I h;obtain⟨bm,N,nm,qn,bs,hd,sn,sub,ab,col,dd,k0,k1,k2,k3,k5,mN,hC,hN,hni,TL⟩:=zDv I.mod.kin T.k.q
 refine wpAny_Raise_call_subT (C:=T.C) (nm:=nm) (q:=qn) (N:=N) (bs:=bs) (bm:=bm) (hdct:=hd) (sn:=sn) (sub:=sub) (ab:=ab) (col:=col) (dd:=dd) (k0:=k0) (k1:=k1) (k2:=k2) (k3:=k3) (k5:=k5) (mN:=mN)
  ycr (TL.hasType ycr.hasBase) (I.ok.hd hc) hpl hni (zll I hg T.m ⟨rfl,?_⟩ hdb)
 have h2:=ha cpos pins s σ H _ I h;rw[he]at h2 ⊢;exact Calls.evalArgs_plain (thn h2 λus s1 ⟨vs,H1,I1,r,z,q1⟩=>⟨rfl,r.length▸z,I1.bk _ _ hC,hN.keeps I1.bk,TL.keeps I1.bk,λh' a hm=>hx pins σ H1 s1 a _ us h' I1 hm q1⟩)
end
def zzf(a C:Addr):HO:=.ext λh=>∃o,h.get? a=some o/\o.cls=.ref C
section
variable {K:PySem.W.Frag}{a C:Addr}
open PySem.W PySem.Builtin PySem.Builtin.ObjectAttr PySem.Builtin.Getset_descriptor in
theorem zI0{prog:Program}{w:World}{A:Around}{R:Result->Shared->Prop}{s:Shared}{tp:Value}(X:K.In s.heap)(k:ExcK K C)(h0:∃o,s.heap.get? a=some o/\o.cls=.ref C)
  (h:R (.ok (.ret (.ref C))) s):codeAny (model prog w) A (.call (.builtin "getset_descriptor.__get__") ⟨[.builtin "object.__class__",.ref a,tp],[]⟩) R s:=by
 obtain⟨o,ho,hc⟩:=h0;obtain⟨hp9,g,dr,t,os⟩:=s;have L0:Looks (model prog w) hp9 (typeOf (.ref a)) (.ref C):=hc▸(Looks.ld ho).andThen .now;have L1:=looks_mroIn (M:=model prog w) X k.ob;refine(codeAny_call_builtin KF.slot_gs.plain KF.entry_gs (KF.slot_gs.check _ _ _ _ _ _ _ _ KF.type_class (KF.args_gs _ _ _) ?_));unfold Builtin.«getset_descriptor.__get__» descrGet;rw[dga_obj];refine wpAny_bind (wpAny_pure ?_);unfold descrGetter descrCheckInstance descrNameAndClass isInstance;simp only[KF.owner_class]
 repeat lk
 refine⟨(Code.quiet_builtin _ (by decide +kernel)),(codeAny_builtin KF.entry_class ?_)⟩
 (unfold Builtin.«object.__class__» shownTypeOf)
 repeat lk
 exact h
open PySem.W PySem.Builtin PySem.Builtin.ObjectAttr in
theorem zE2{M:Model}{h:Heap}(X:K.In h)(k:ExcK K C):Looks M h (Builtin.ObjectAttr.find (.ref a) (.ref C) "__class__") (.bind (.builtin "getset_descriptor.__get__") (.builtin "object.__class__")):=by
 have L1:=looks_findIn (M:=M) X k.ca;have L2:Looks M h (getOf (some (.builtin "object.__class__"))) (some (.builtin "getset_descriptor.__get__")):=looks_specialIn X k.gs;have L3:=looks_takesIn (M:=M) X k.tk;exact L1.andThen (L2.andThen ((show Looks M h (dataDescriptor? (some (.builtin "object.__class__")) (some (.builtin "getset_descriptor.__get__"))) (some (.builtin "getset_descriptor.__get__",.builtin "object.__class__")) from L3.andThen .now).andThen (Looks.tag .now)))
theorem zzm:(Value.builtin "BaseException.__getattribute__" == Value.builtin "object.__getattribute__")=false:=by decide +kernel
theorem zE1:builtinKind "BaseException.__getattribute__"=some .slot:=by decide +kernel
theorem zzl:splitId "BaseException.__getattribute__"=some ("BaseException","__getattribute__"):=by decide +kernel
open PySem.W in
theorem zE3{prog:Program}{w:World}{A:Around}{E:Value->Shared->Prop}{Q:Option Value->Shared->Prop}{s:Shared}(X:K.In s.heap)(k:ExcK K C)(h0:∃o,s.heap.get? a=some o/\o.cls=.ref C)
  (h:Q (some (.ref C)) { s with toks:=s.toks+1 }):wpAny (model prog w) A (getAttr? (.ref a) "__class__") Q E s:=by
 obtain⟨o,ho,hc⟩:=id h0;obtain⟨hp9,g,dr,t,os⟩:=s;have L0:Looks (model prog w) hp9 (typeOf (.ref a)) (.ref C):=hc▸(Looks.ld ho).andThen .now;have L1:=looks_findIn (M:=model prog w) X k.ga;have L2:=looks_findIn (M:=model prog w) X k.gt;have LI:Looks (model prog w) hp9 (isInstance (.ref a) (.type "BaseException")) true:=L0.andThen (looks_mroIn X k.be);have LF:=zE2 (M:=model prog w) (a:=a) X k
 (unfold getAttr? getAttrBy? getAttrBy)
 refine wpAny_bind (wpAny_mkText (wpAny_bind (wpAny_attempt (wpAny_holding (wpAny_bind (L0.at (wpAny_bind (L1.at ?ga))))))))
 case ga =>
  have hx1:(onTheHeap (Value.ref C) && Value.builtin "BaseException.__getattribute__" == Value.builtin "object.__getattribute__")=false:=by
   rw[zzm]
   rfl
  dsimp only;rw[if_neg (by rw[hx1];exact ybg)]
  unfold getAttrByItsOwn hookBefore;rw[if_pos (show onTheHeap (Value.ref C)=true from rfl)];refine wpAny_bind (L2.at (wpAny_bind (wpAny_attempt (wpAny_holding ?_))));unfold callGetattribute boundAndCalled;rw[if_neg (by exact ybg)]
  refine wpAny_bind (wpAny_of_eq (PySem.F.excAttr_ValueError.ga.bind (.ref a)) ?_);show wpAny _ _ (call (.builtin "BaseException.__getattribute__") [.ref a,.str "__class__" t]) _ _ _;refine wpAny_call (codeAny_call_builtin PySem.F.excAttr_ValueError.ga.plain PySem.F.entry_bexc_ga ?_);have ha:=PySem.F.args_bexc_ga (.ref a) (.str (Str.ofString "__class__") t);obtain⟨i,hi⟩:∃i,i="BaseException.__getattribute__":=⟨_,rfl⟩;have k1:=zE1;have k2:=zzl;rw[<- hi]at k1 k2 ha ⊢;refine PySem.W.check_slot k1 k2 LI ha ?_;refine wpAny_bind (wpAny_pure (wpAny_bind (wpAny_pure (wpAny_bind (L0.at (wpAny_bind (LF.at ?_)))))));show wpAny _ _ (holding [.builtin "object.__class__"] (call (.builtin "getset_descriptor.__get__") [.builtin "object.__class__",.ref a,.ref C]) >>= ret) _ _ _;refine wpAny_bind (wpAny_holding (wpAny_call (zI0 X k h0 ?_)));exact wpAny_pure (handed_on rfl (wpAny_pure h))
open PySem.W in
theorem zBb(k:ExcK K C):KitX K (.ref a) (.ref C) (λh=>∃o,h.get? a=some o/\o.cls=.ref C) where
 ty:=λ_ _ _ p=>by
  obtain⟨o,ho,hc⟩:=p;exact hc▸(Looks.ld ho).andThen .now
 it:=λ_ _ X _=>by
  obtain⟨cd,hcd⟩:=k.cd;unfold clsIn at hcd;split at hcd
  ·rename_i c' d' cd' sl' ho;intro A' Q' E' s' kk q;unfold isType loadHead;exact(wpAny_bind (wpAny_loadPart (kk _ _ (X _ _ ho)) (wpAny_pure q)))
  ·cases hcd
 ne:=λh tp dd its n sl X hq0=>by
  obtain⟨cd,hcd⟩:=k.cd;refine(yb5.mpr λq=>?_)
  have e:C=tp:=Value.ref.inj (beq_iff_eq.mp q);subst e;unfold clsIn at hcd;split at hcd
  ·rename_i c' d' cd' sl' ho;have z:=(X _ _ ho).symm.trans hq0;cases z
  ·cases hcd
 ca:=λX p kk=>zE3 X k p kk
end
def clsV:V->Value
 |.ref C=>.ref C
 |.ty T=>.type T
 |_=>.none
section
variable {X:Cx}
theorem zC8:zd3 X (.builtin "isinstance") (λxs H Q=>∃a C c b,xs=[.ref a,c]/\H a=some (zzf a C)/\ExcK X.K C/\(∃D,c=.ref D\/∃T,c=.ty T)/\PySem.W.kitOne X.K (.ref C) (clsV c)=some b/\Q (.bl b) H):=by
 intro pins s σ H xs us Q I r h;obtain⟨a,C,c,b,rfl,ho,k,hc,e,q⟩:=h;obtain⟨u,w',rfl,rx,ry⟩:=zux r;cases rx
 have hv:w'=clsV c:=by
  obtain⟨D,hc|⟨T,hc⟩⟩:=hc
  ·subst hc;exact ry
  ·subst hc;exact ry
 subst hv;have p0:∃o,s.heap.get? a=some o/\o.cls=.ref C:=(I.hok a _ ho).1;exact ybh (zBb k) I.kIn p0 e (λz=>nomatch z) λtk=>⟨.bl b,H,I.tok _,rfl,q⟩
end
abbrev zp8(X:Cx)(pins:List (Addr×Obj))(xe:Value->Shared->Prop):Cx:={ X with pn:=X.pn++pins,xe:=xe }
abbrev zft(X:Cx)(a:Addr):Cx:={ X with A:=X.A.mark (some (.ref a)),calm:=false,xe:=λ_ _=>False }
section
variable {X:Cx}{pins:List (Addr×Obj)}{σ:L2.St}{H:Hp}{s:Shared}{xe:Value->Shared->Prop}
theorem zKt(ok:X.Ok):(zp8 X pins xe).Ok:=⟨ok.mod,ok.kind,ok.glob,ok.blt,ok.above,ok.inj,ok.has,ok.cab,ok.hd,ok.frames,ok.stk,ok.exf,ok.bs,ok.bsz,ok.noex,ok.exfs,ok.funs,ok.frf⟩
theorem zAw{a:Addr}(ok:X.Ok):(zft X a).Ok:=⟨ok.mod,ok.kind,ok.glob,ok.blt,ok.above,ok.inj,ok.has,ok.cab,λz=>Bool.noConfusion z,ok.frames,ok.stk,ok.exf,ok.bs,ok.bsz,ok.noex,ok.exfs,ok.funs,ok.frf⟩
theorem zLn(I:Inv X pins σ H s):Inv (zp8 X pins xe) [] σ H s:=⟨zKt I.ok,I.os,I.bare,I.base,I.loc,I.cell,I.free,I.freeC,λp hp=>I.pin p (by simpa using hp),I.hok,I.len⟩
theorem zDd{ok:X.Ok}{pn2:List (Addr×Obj)}(I:Inv (zp8 X pins xe) pn2 σ H s):Inv X pins σ H s:=⟨ok,I.os,I.bare,I.base,I.loc,I.cell,I.free,I.freeC,λp hp=>I.pin p (ybz _ hp),I.hok,I.len⟩
theorem zue{a:Addr}(I:Inv X pins σ H s):Inv (zft X a) pins σ H s:=⟨zAw I.ok,I.os,I.bare,I.base,I.loc,I.cell,I.free,I.freeC,I.pin,I.hok,I.len⟩
theorem zAx{a:Addr}(ok:X.Ok)(I:Inv (zft X a) pins σ H s):Inv X pins σ H s:=⟨ok,I.os,I.bare,I.base,I.loc,I.cell,I.free,I.freeC,I.pin,I.hok,I.len⟩
theorem gone{i t:Nat}{n:Str}{v:Option Value}{m:Str->Option Value}{h':Heap}(I:Inv X pins σ H s)(hN:X.N.Nodup)(hi:X.N[i]?=some n)(hm:s.heap.Ns X.env.locals m)(hn:h'.Ns X.env.locals (λx=>if x=n then v else m x))
  (hs:Heap.SameBut X.env.locals s.heap h'):Inv X pins (σ.set i none) H { s with heap:=h',toks:=t }:=by
 have neL:∀b o,X.s₀.heap.get? b=some o->b≠X.env.locals:=λb o e=>yar (yak (yad e) I.ok.above)
 have hok:HOk X.prog X.w H h':=λb u e=>(I.hok b u e).stay (λc x hc q=>(hs.2 c (λz=>by
   have f:=I.free
   rcases hc with y|y
   ·rw[<- z,y,e]at f;cases f
   ·rw[<- z,y]at f;cases f)).trans q) (λ_ q=>q) λ_ _ q=>q
 refine⟨I.ok,I.os,I.bare,⟨λb o e n hb hx=>(hs.2 b (neL b o e)).trans (I.base.keep b o e n hb hx),λb o e n hb hx=>?_,I.base.free,λb o e hx=>?_,I.base.tups,I.base.frzs,I.base.tbls⟩,⟨_,hn,λj y v' e1 e2 e3=>?_⟩,λy c e=>?_,I.free,I.freeC,λp hp=>?_,hok,by rw[ybs];exact I.len⟩
 ·obtain⟨z,e1⟩:=I.base.slot b o e n hb hx;exact⟨z,(hs.2 b (neL b o e)).trans e1⟩
 ·obtain⟨o',e1⟩:=I.base.there b o e hx;exact⟨o',(hs.2 b (neL b o e)).trans e1⟩
 ·have hj:j≠i:=λz=>by
   subst z
   have hl:j<σ.length:=by
    rw[I.len];exact(ya5.mp hi).1
   rw[yal hl]at e2;cases e2
  rw[yah (yay hj)]at e2;obtain⟨m2,hn2,hl2⟩:=I.loc;obtain⟨u,r,q⟩:=hl2 j y v' e1 e2 e3;refine⟨u,r,?_⟩
  rcases q with ⟨kk,e⟩|⟨kk,c,e,z⟩
  ·refine .inl ⟨kk,?_⟩;have hy:y≠n:=λz=>hj (zog hN e1 (z▸hi))
   have em:m2 y=m y:=by
    obtain⟨o1,es1,ep1,a1,b1,_,c1⟩:=hn2;obtain⟨o2,es2,ep2,a2,b2,_,c2⟩:=hm;rw[a1]at a2;cases a2;rw[b1]at b2;cases b2;rw[<- c1,<- c2]
   show(if y=n then v else m y)=some u
   rw[if_neg hy,<- em];exact e
  ·exact .inr ⟨kk,c,e,z.sameBut hs (I.cne y c e)⟩
 ·obtain⟨w',z⟩:=I.cell y c e;exact⟨w',z.sameBut hs (I.cne y c e)⟩
 ·obtain⟨e,n,ne,nf,d⟩:=I.pin p hp;exact⟨(hs.2 p.1 ne).trans e,n,ne,nf,d⟩
end
def zLr(i:Nat)(D:Ends):Ends:={ nx:=λσ H=>D.nx (σ.set i none) H,rt:=D.rt,bk:=λσ H=>D.bk (σ.set i none) H,ct:=λσ H=>D.ct (σ.set i none) H }
def tTry(K:PySem.W.Frag)(W:Addr)(i:Nat)(E:L2.St->XK)(tb th:TS):TS:=λD σ H=>tb D σ H/\∀σ1 cls H1,E σ1 cls none H1->∃C,cls=.ref C/\PySem.W.subIn K (.ref C) (.ref W)=some true /\
 ∀a,H1 a=none->th (zLr i D) (σ1.set i (some (.ref a))) (upd H1 a (zzf a C))
section
variable {A:Around}{E:Value->Shared->Prop}{M:Model}
theorem exm{h:Heap}{g:Array GenState}{d:Drawn}{t:Nat}{os:OsState}{a C W N:Addr}{oe:Obj}{Q:Bool->Shared->Prop}{nm q:Str}{bs bm:List Value}{hdct:Bool}{sn:List Str}{sub:List Value}{ab:Bool}{col:Option Bool}{dd:Option Addr}
  {k0 k1 k2 k3 k5:Option Value} {newId:String} (hW:h.get? W=some (excClassObj nm q W N bs bm hdct sn sub ab col dd k0 k1 k2 k3 k5 newId)) (he:h.get? a=some oe) (hcls:oe.cls=.ref C) (hb:bm.contains (.type "BaseException")=true)
  (LS:PySem.W.Looks M h (isSubtype (.ref C) (.ref W)) true) (hq:Q true ⟨h,g,d,t,os⟩):wpAny M A (excMatches (.ref a) (.ref W)) Q E ⟨h,g,d,t,os⟩:=by
 have hcB:(Value.ref W::bm).contains (.type "BaseException")=true:=by
  rw[ydj,hb];exact Bool.or_true _
 have f:=tc_notTuple;unfold excMatches
 repeat (first|(with_reducible refine wpAny_loadPart_at he ?_;rw[hcls])|with_reducible refine wpAny_loadPart_at hW ?_|(with_reducible refine wpAny_isSubtype_exc hW ?_;rw[hcB])|with_reducible refine PySem.W.Looks.at LS ?_|wp_step)
 exact hq
end
section
variable {X:Cx}{i:Nat}{x n:Str}{np pos hpos:Pos}{body suite:List Stmt}{b₀:Stmt}{tb th:TS}{E:L2.St->XK}
theorem zJx(T:ECls X.K X.mg x)(hst:X.stack=X.env::X.outer)(hf:X.env.frame=some X.env.locals)(hN:X.N.Nodup)(hi:X.N[i]?=some n)(hloc:X.env.scope.names.lookup n=some .local)
  (hb:∀pins xe,zbh (zp8 X pins xe) E->PSs (zp8 X pins xe) body tb) (hh:∀a,PSs (zft X a) (b₀::suite) th) (hg:Gl X x:=by rfl) (hdb:(x == ("__debug__":Str))=false:=by decide) :
  PS X (.Try body [.ExceptHandler (some (.Name x np)) (some n) (b₀::suite) hpos] [] [] pos) (tTry X.K T.C i E tb th):=by
 intro pins s σ H D I h;obtain⟨h1,h2⟩:=h
 have hkind:(X.env.scope.kind == .class || (X.env.scope.kind == .module && X.env.locals != X.env.globals))=false:=by
  rw[I.ok.kind]
  rfl
 refine wpAny_Try_except (wpAny_mono (hb pins (λe s₁=>wpAny (model X.prog X.w) X.A (noteFrame e X.env) (λ_ s₂=>wpAny (model X.prog X.w) X.A (setFlight e none) (λ_ s₃=>wpAny (model X.prog X.w) X.A (handleBy e X.env [.ExceptHandler (some (.Name x np)) (some n) (b₀::suite) hpos]) (SP X pins D) X.xe s₃) X.xe s₂) X.xe s₁)
  ?pass [] s σ H D (zLn I) h1) (λf s1 q=>?_) (λe s1 q=>q))
 case pass =>
  intro pins1 σ1 H1 s1 e s' I1t hcx;have I1:Inv X pins σ1 H1 s1:=zDd (ok:=I.ok) I1t;obtain⟨a,cls,H',B,a0,rfl,os,bare,un,hok,kB,tB,fl0,he⟩:=hcx;obtain⟨C,rfl,hsub,kk⟩:=h2 σ1 cls H' he;have fl1:zHl B (X.env::X.outer) a (.ref C) a0 s'.heap:=hst▸fl0;have hfr:X.A.frames=some (X.env::X.outer):=hst▸I.ok.frames;have ha:H' a=none:=none_of hok fl1.choose_spec.2.1
  have sl:∀h',s'.heap.UpToSlots h'->∀b o,s1.heap.get? b=some o->H1 b=none->b∈frs X.stack->∃z,h'.get? b=some { o with slots:=z }:=λh' sm b o e n hb=>by
   obtain⟨_,o2,ho2,hd⟩:=I1.stack.mem hb;rw[e]at ho2;cases ho2;obtain⟨z2,e2⟩:=un.slot b o e n hb (by simp)
   obtain⟨z3,e3⟩:=sm b { o with slots:=z2 } e2 hd
   exact⟨z3,e3⟩
  have th':∀h',B.StaysIn h'->s'.heap.UpToSlots h'->∀b o,s1.heap.get? b=some o->∃o',h'.get? b=some o':=λh' st sm b o e=>by
   by_cases hb:b∈frs X.stack
   ·obtain⟨z,q⟩:=sl h' sm b o e (I1.stkFree b hb) hb;exact⟨_,q⟩
   ·obtain⟨o',q⟩:=tB b o e hb;exact⟨o',st b o' q⟩
  have inv5:∀h',B.StaysIn h'->s'.heap.UpToSlots h'->Inv X pins σ1 H' { s' with heap:=h' }:=λh' st sm =>
   I1.call' (s':={ s' with heap:=h' }) (ch:=[]) os ⟨λb o e n hb _=>st b o (kB b o e n hb),λb o e n hb _=>sl h' sm b o e n hb,un.free,λb o e _=>th' h' st sm b o e,un.tups,un.frzs,un.tbls⟩ (hok.kept st) bare (λ_ z=>nomatch z)
  refine zFx hfr rfl hf fl1 λh4 held4 sm4=>?_
  refine wpAny_landsW held4 λh5 fl5 sm5=>?_
  have sm45:=sm4.trans sm5;have I5:=inv5 h5 fl5.1 sm45;obtain⟨oe,he5,hc5⟩:=fl5.there;obtain⟨bm,N,nm,qn,bs,hd,sn,sub,ab,col,dd,k0,k1,k2,k3,k5,mN,hC,hNs,hni,TL⟩:=zDv I5.kIn T.k.q;refine wpAny_handleBy_cons (codeAny_handlers_test (zll (X:=zft X a) (zue I5) hg T.m ?_ hdb)) (by intro q;cases q)
  refine exm hC he5 hc5 (TL.hasType ycr.hasBase) (PySem.W.looks_subIn I5.kIn hsub) ?_;refine codeAny_handlers_suite_as (lands_againW fl5 λh6 fl6 sm6=>?_)
  have sm456:=sm45.trans sm6;obtain⟨oe6,ws6,he6,hc6,hd6,_⟩:=fl6.first
  have nea:∀b o,s1.heap.get? b=some o->H1 b=none->b≠a:=λb o e n z=>by
   by_cases hb:b∈frs X.stack
   ·obtain⟨_,o2,ho2,hd⟩:=I1.stack.mem hb;rw[e]at ho2;cases ho2;obtain⟨y,e2⟩:=sl h6 sm456 b o e n hb;rw[z,he6]at e2;cases e2;exact hd _ hd6
   ·have e2:=kB b o e n hb;rw[z,fl6.2.1]at e2;cases e2
  have I6:Inv X pins σ1 (upd H' a (zzf a C)) { s' with heap:=h6 }:=by
   refine I1.call' (s':={ s' with heap:=h6 }) (ch:=[]) os ⟨λb o e n hb _=>fl6.1 b o (kB b o e n hb),λb o e n hb _=>sl h6 sm456 b o e n hb,λb o e n hx=>(zag (nea b o e n)).trans (un.free b o e n hx),λb o e _=>th' h6 fl6.1 sm456 b o e,λb xs e=>?_,λb o u e=>?_,λb ps e=>?_⟩
    (zMh (hok.kept fl6.1) ha ⟨⟨oe6,he6,hc6⟩,⟨oe6,he6⟩,λh1 h2 p q=>?_⟩) bare (λ_ z=>nomatch z)
   ·have q:=un.tups b xs e;exact(zag (zaf q ha)).trans q
   ·have q:=un.frzs b o u e;exact(zag (zaf q ha)).trans q
   ·obtain⟨more,q⟩:=un.tbls b ps e;exact⟨more,(zag (zaf q ha)).trans q⟩
   ·obtain⟨o,y1,y2⟩:=p;exact⟨o,q o y1,y2⟩
  refine zns (X:=zft X a) (v:=.ref a) (zue I6) hN hi (.inl hloc) rfl (λs7 I7=>?_) (.inr hloc)
  refine wpAny_mono (hh a pins s7 (σ1.set i (some (.ref a))) _ (zLr i D) I7 (kk a ha)) (λf s8 q8=>?_) (λ_ _ z=>False.elim z)
  have fin:∀σ8 H8,Inv (zft X a) pins σ8 H8 s8->∀(G:Unit->Shared->Prop),(∀s9,Inv X pins (σ8.set i none) H8 s9->G () s9)->wpAny (model X.prog X.w) X.A (do bindName X.env n .none;unbindBehindTheSuite X.env n hpos) G X.xe s8:=λσ8 H8 I8 G hG=>by
   have J:=zAx I.ok I8;obtain⟨m,hm,_⟩:=id J.loc;exact wpAny_nameGoes_keeps hloc hm hkind λh' v hn hs=>hG _ (gone J hN hi hm hn hs)
  cases f with
  |next =>
   obtain⟨σ8,H8,I8,d8⟩:=q8;exact fin σ8 H8 I8 _ λs9 I9=>⟨_,H8,I9,d8⟩
  |brk =>
   obtain⟨σ8,H8,I8,d8⟩:=q8;exact fin σ8 H8 I8 _ λs9 I9=>⟨_,H8,I9,d8⟩
  |cont =>
   obtain⟨σ8,H8,I8,d8⟩:=q8;exact fin σ8 H8 I8 _ λs9 I9=>⟨_,H8,I9,d8⟩
  |ret u =>
   obtain⟨v,σ8,H8,I8,r8,d8⟩:=q8;exact fin σ8 H8 I8 _ λs9 I9=>⟨v,_,H8,I9,r8,d8⟩
 have back:∀{xe0:Value->Shared->Prop} {σ':L2.St} {H':Hp},Inv (zp8 X pins xe0) [] σ' H' s1->Inv X pins σ' H' s1:=λJ=>zDd (ok:=I.ok) J
 cases f with
 |next =>
  obtain⟨σ',H',J,d⟩:=q;exact wpAny_execs_nil ⟨σ',H',back J,d⟩
 |brk =>
  obtain⟨σ',H',J,d⟩:=q;exact⟨σ',H',back J,d⟩
 |cont =>
  obtain⟨σ',H',J,d⟩:=q;exact⟨σ',H',back J,d⟩
 |ret u =>
  obtain⟨v,σ',H',J,r,d⟩:=q;exact⟨v,σ',H',back J,r,d⟩
end
end Zx
namespace Pu
open PySem PySem.Spec PyProof.Rows L2 Zw Zx
abbrev Rg:=Addr->Prop
def R0:Rg:=λ_=>False
inductive Kd where
 |lst|rl|tup|rt|pin (p:Addr)
inductive Ob where
 |ins (C:Addr) (fs:List Str)|exn (C:Addr)|sdc (ks:List Str)
inductive T where
 |non|bl (b:Bool)|int (i:Int)|str (x:Str)|nd (o:Bool) (k:Kd) (l:List T)|dic (ks:List Int) (l:List T)|pdc (ks:List Int) (l:List T)|odc (ks:List Int) (l:List T)
 |obj (k:Ob) (l:List T)|oob (p C:Addr) (fs:List Str) (l:List T)|osd (ks:List Str) (l:List T)
abbrev T.lst(l:List T):T:=.nd false .lst l
abbrev T.own(l:List T):T:=.nd true .lst l
abbrev T.tup(l:List T):T:=.nd false .tup l
mutual
def T.share:T->T
 |.nd _ k l=>.nd false k (zal l)
 |.dic ks l=>.dic ks (zal l)
 |.pdc ks l=>.pdc ks (zal l)
 |.odc ks l=>.pdc ks (zal l)
 |.obj k l=>.obj k (zal l)
 |.oob _ C fs l=>.obj (.ins C fs) (zal l)
 |.osd ks l=>.obj (.sdc ks) (zal l)
 |.non=>.non
 |.bl b=>.bl b
 |.int i=>.int i
 |.str x=>.str x
def zal:List T->List T
 |[]=>[]
 |t::r=>t.share::zal r
end
mutual
def T.sh:T->Bool
 |.nd o _ l=>!o && shL l
 |.dic _ l=>shL l
 |.pdc _ l=>shL l
 |.odc _ _=>false
 |.obj _ l=>shL l
 |.oob _ _ _ _=>false
 |.osd _ _=>false
 |.non=>true
 |.bl _=>true
 |.int _=>true
 |.str _=>true
def shL:List T->Bool
 |[]=>true
 |t::r=>t.sh && shL r
end
def T.flat:T->Bool
 |.nd _ _ _=>false
 |.dic _ _=>false
 |.pdc _ _=>false
 |.odc _ _=>false
 |.obj _ _=>false
 |.oob _ _ _ _=>false
 |.osd _ _=>false
 |_=>true
theorem zap:∀l:List T,zal l=l.map T.share
 |[]=>rfl
 |t::r=>by rw[zal,zap r];rfl
theorem zbj:∀l:List T,shL l=l.all T.sh
 |[]=>rfl
 |t::r=>by rw[shL,zbj r];rfl
mutual
theorem zaz:∀t:T,t.sh=true->t.share=t
 |.nd o k l,h=>by
  rw[T.sh,ya4]at h;have ho:o=false:=by simpa using h.1
  subst ho;rw[T.share,za0 l h.2]
 |.dic ks l,h=>by
  rw[T.sh]at h;rw[T.share,za0 l h]
 |.pdc ks l,h=>by
  rw[T.sh]at h;rw[T.share,za0 l h]
 |.odc ks l,h=>by
  rw[T.sh]at h;cases h
 |.obj k l,h=>by
  rw[T.sh]at h;rw[T.share,za0 l h]
 |.oob p C fs l,h=>by
  rw[T.sh]at h;cases h
 |.osd ks l,h=>by
  rw[T.sh]at h;cases h
 |.non,_=>rfl
 |.bl _,_=>rfl
 |.int _,_=>rfl
 |.str _,_=>rfl
theorem za0:∀l:List T,shL l=true->zal l=l
 |[],_=>rfl
 |t::r,h=>by
  rw[shL,ya4]at h;rw[zal,zaz t h.1,za0 r h.2]
end
def zps(K:PySem.W.Frag)(F:Hp)(k:Kd)(p:Addr)(xs:List V):Prop:=match k with
 |.lst=>F p=some (.lst xs)
 |.rl=>SqL K F p xs
 |.tup=>F p=some (.tup xs)
 |.rt=>SqT K F p xs
 |.pin _=>F p=some (.lst xs)
theorem zd8{K:PySem.W.Frag}{F F':Hp}{p:Addr}{xs:List V}(s:zbl F F')(h:SqT K F p xs):SqT K F' p xs:=by
 rcases h with (h|⟨o,h⟩)|h
 ·exact .inl (.inl (s _ _ h))
 ·exact .inl (.inr ⟨o,s _ _ h⟩)
 ·exact .inr h
theorem zps.same{K:PySem.W.Frag}{F F':Hp}{k:Kd}{p:Addr}{xs:List V}(h:zps K F k p xs)(s:zbl F F'):zps K F' k p xs:=by
 cases k with
 |lst=>exact s _ _ h
 |rl=>exact s.seq h
 |tup=>exact s _ _ h
 |rt=>exact zd8 s h
 |pin q=>exact s _ _ h
def zMj(k:Kd)(p:Addr):Prop:=match k with
 |.lst=>True
 |.pin q=>q=p
 |_=>False
theorem zMj.node{K:PySem.W.Frag}{F:Hp}{k:Kd}{p:Addr}{xs:List V}(hk:zMj k p)(h:F p=some (.lst xs)):zps K F k p xs:=by
 cases k with
 |lst=>exact h
 |pin q=>exact h
 |_=>exact hk.elim
def kvK(ks:List Int)(xs:List V):List (Key×V):=List.zipWith (λk x=>(Sum.inl k,x)) ks xs
def kvS(ks:List Str)(xs:List V):List (Key×V):=List.zipWith (λk x=>(Sum.inr k,x)) ks xs
def ObS(F:Hp)(k:Ob)(p:Addr)(xs:List V):Prop:=match k with
 |.ins C fs=>∃dx,F p=some (.ins C dx (fs.zip xs))
 |.exn C=>F p=some (zzf p C)
 |.sdc ks=>ks.length=xs.length/\F p=some (.dK (kvS ks xs))
theorem ObS.same{F F':Hp}{k:Ob}{p:Addr}{xs:List V}(h:ObS F k p xs)(s:zbl F F'):ObS F' k p xs:=by
 cases k with
 |ins C fs=>exact h.elim λdx e=>⟨dx,s _ _ e⟩
 |exn C=>exact s _ _ h
 |sdc ks=>exact⟨h.1,s _ _ h.2⟩
inductive Rp(K:PySem.W.Frag)(F H:Hp):T->V->Rg->Prop where
 |non:Rp K F H .non .non R0
 |bl (b:Bool):Rp K F H (.bl b) (.bl b) R0
 |int (i:Int):Rp K F H (.int i) (.int i) R0
 |str (x:Str):Rp K F H (.str x) (.str x) R0
 |shr {k:Kd} {p:Addr} {xs:List V} {l:List T} (h:zps K F k p xs) (e:l.length=xs.length) (c:∀(i:Nat) (t:T) (x:V),l[i]?=some t->xs[i]?=some x->Rp K F H t x R0):Rp K F H (.nd false k l) (.ref p) R0
 |dic {p:Addr} {ob:Obj} {ks:List Int} {xs:List V} {l:List T} (h:F p=some (.frz ob (.dK (kvK ks xs)))) (e:l.length=xs.length) (ek:ks.length=xs.length) (c:∀(i:Nat) (t:T) (x:V),l[i]?=some t->xs[i]?=some x->Rp K F H t x R0):Rp K F H (.dic ks l) (.ref p) R0
 |pdc {p:Addr} {ks:List Int} {xs:List V} {l:List T} (h:F p=some (.dK (kvK ks xs))) (e:l.length=xs.length) (ek:ks.length=xs.length) (c:∀(i:Nat) (t:T) (x:V),l[i]?=some t->xs[i]?=some x->Rp K F H t x R0):Rp K F H (.pdc ks l) (.ref p) R0
 |odc {p:Addr} {ks:List Int} {xs:List V} {l:List T} (f:F p=none) (h:H p=some (.dK (kvK ks xs))) (e:l.length=xs.length) (ek:ks.length=xs.length) (c:∀(i:Nat) (t:T) (x:V),l[i]?=some t->xs[i]?=some x->Rp K F H t x R0):Rp K F H (.odc ks l) (.ref p) (λa=>a=p)
 |obj {k:Ob} {p:Addr} {xs:List V} {l:List T} (h:ObS F k p xs) (e:l.length=xs.length) (c:∀(i:Nat) (t:T) (x:V),l[i]?=some t->xs[i]?=some x->Rp K F H t x R0):Rp K F H (.obj k l) (.ref p) R0
 |oob {C p dx:Addr} {fs:List Str} {xs:List V} {l:List T} (R:Nat->Rg) (f:F p=none) (h:H p=some (.ins C dx (fs.zip xs))) (e:l.length=xs.length) (c:∀(i:Nat) (t:T) (x:V),l[i]?=some t->xs[i]?=some x->Rp K F H t x (R i))
   (d:∀i j a,i≠j->R i a->¬ R j a) (dp:∀i,¬ R i p) (o:∀i a,R i a->i<l.length):Rp K F H (.oob p C fs l) (.ref p) (λa=>a=p\/∃i,R i a)
 |osd {p:Addr} {ks:List Str} {xs:List V} {l:List T} (f:F p=none) (h:H p=some (.dK (kvS ks xs))) (e:l.length=xs.length) (ek:ks.length=xs.length) (c:∀(i:Nat) (t:T) (x:V),l[i]?=some t->xs[i]?=some x->Rp K F H t x R0):Rp K F H (.osd ks l) (.ref p) (λa=>a=p)
 |own {k:Kd} {p:Addr} {xs:List V} {l:List T} (hk:zMj k p) (R:Nat->Rg) (f:F p=none) (h:H p=some (.lst xs)) (e:l.length=xs.length) (c:∀(i:Nat) (t:T) (x:V),l[i]?=some t->xs[i]?=some x->Rp K F H t x (R i))
   (d:∀i j a,i≠j->R i a->¬ R j a) (dp:∀i,¬ R i p) (o:∀i a,R i a->i<l.length):Rp K F H (.nd true k l) (.ref p) (λa=>a=p\/∃i,R i a)
section
variable {K:PySem.W.Frag}{F F' H H':Hp}{t:T}{x:V}{A:Rg}
theorem Rp.frame(h:Rp K F H t x A)(s:zbl F F')(k:∀a,A a->H' a=H a/\F' a=none):Rp K F' H' t x A:=by
 induction h with
 |non=>exact .non
 |bl b=>exact .bl b
 |int i=>exact .int i
 |str y=>exact .str y
 |shr h e c ih=>exact .shr (h.same s) e λi t x h1 h2=>ih i t x h1 h2 λa z=>z.elim
 |dic h e ek c ih=>exact .dic (s _ _ h) e ek λi t x h1 h2=>ih i t x h1 h2 λa z=>z.elim
 |pdc h e ek c ih=>exact .pdc (s _ _ h) e ek λi t x h1 h2=>ih i t x h1 h2 λa z=>z.elim
 |odc f h e ek c ih =>
  have q:=k _ rfl;exact .odc q.2 (q.1.trans h) e ek λi t x h1 h2=>ih i t x h1 h2 λa z=>z.elim
 |obj h e c ih=>exact .obj (h.same s) e λi t x h1 h2=>ih i t x h1 h2 λa z=>z.elim
 |oob R f h e c d dp o ih =>
  have q:=k _ (.inl rfl);exact .oob R q.2 (q.1.trans h) e (λi t x h1 h2=>ih i t x h1 h2 λa z=>k a (.inr ⟨i,z⟩)) d dp o
 |osd f h e ek c ih =>
  have q:=k _ rfl;exact .osd q.2 (q.1.trans h) e ek λi t x h1 h2=>ih i t x h1 h2 λa z=>z.elim
 |own hk R f h e c d dp o ih =>
  have q:=k _ (.inl rfl);exact .own hk R q.2 (q.1.trans h) e (λi t x h1 h2=>ih i t x h1 h2 λa z=>k a (.inr ⟨i,z⟩)) d dp o
theorem Rp.dom(h:Rp K F H t x A){a:Addr}(ha:A a):F a=none/\∃u,H a=some u:=by
 induction h with
 |non=>exact ha.elim
 |bl b=>exact ha.elim
 |int i=>exact ha.elim
 |str y=>exact ha.elim
 |shr h e c ih=>exact ha.elim
 |dic h e ek c ih=>exact ha.elim
 |pdc h e ek c ih=>exact ha.elim
 |odc f h e ek c ih =>
  cases ha;exact⟨f,_,h⟩
 |obj h e c ih=>exact ha.elim
 |osd f h e ek c ih =>
  cases ha;exact⟨f,_,h⟩
 |@oob C p dx fs xs l R f h e c d dp o ih =>
  rcases ha with rfl|⟨i,z⟩
  ·exact⟨f,_,h⟩
  ·have hi:=o i a z;have hx:i<xs.length:=by omega
   exact ih i _ _ (ya0 hi) (ya0 hx) z
 |@own k0 p xs l hk R f h e c d dp o ih =>
  rcases ha with rfl|⟨i,z⟩
  ·exact⟨f,_,h⟩
  ·have hi:=o i a z;have hx:i<xs.length:=by omega
   exact ih i _ _ (ya0 hi) (ya0 hx) z
theorem Rp.share(h:Rp K F H t x A)(s:zbl F F')(k:∀a u,A a->H a=some u->F' a=some u):Rp K F' H' t.share x R0:=by
 induction h with
 |non=>exact .non
 |bl b=>exact .bl b
 |int i=>exact .int i
 |str y=>exact .str y
 |@shr k0 p xs l h e c ih =>
  rw[T.share,zap];refine .shr (h.same s) (by rw[ya1];exact e) λi t x h1 h2=>?_
  rw[ya3]at h1;obtain⟨t0,e0,rfl⟩:=ya2.mp h1;exact ih i t0 x e0 h2 λa u z=>z.elim
 |@dic p ob ks xs l h e ek c ih =>
  rw[T.share,zap];refine .dic (s _ _ h) (by rw[ya1];exact e) ek λi t x h1 h2=>?_
  rw[ya3]at h1;obtain⟨t0,e0,rfl⟩:=ya2.mp h1;exact ih i t0 x e0 h2 λa u z=>z.elim
 |@pdc p ks xs l h e ek c ih =>
  rw[T.share,zap];refine .pdc (s _ _ h) (by rw[ya1];exact e) ek λi t x h1 h2=>?_
  rw[ya3]at h1;obtain⟨t0,e0,rfl⟩:=ya2.mp h1;exact ih i t0 x e0 h2 λa u z=>z.elim
 |@odc p ks xs l f h e ek c ih =>
  rw[T.share,zap];refine .pdc (k _ _ rfl h) (by rw[ya1];exact e) ek λi t x h1 h2=>?_
  rw[ya3]at h1;obtain⟨t0,e0,rfl⟩:=ya2.mp h1;exact ih i t0 x e0 h2 λa u z=>z.elim
 |@obj k0 p xs l h e c ih =>
  rw[T.share,zap];refine .obj (h.same s) (by rw[ya1];exact e) λi t x h1 h2=>?_
  rw[ya3]at h1;obtain⟨t0,e0,rfl⟩:=ya2.mp h1;exact ih i t0 x e0 h2 λa u z=>z.elim
 |@oob C p dx fs xs l R f h e c d dp o ih =>
  rw[T.share,zap];refine .obj (k:=.ins C fs) (xs:=xs) ⟨dx,k _ _ (.inl rfl) h⟩ (by rw[ya1];exact e) λi t x h1 h2=>?_
  rw[ya3]at h1;obtain⟨t0,e0,rfl⟩:=ya2.mp h1;exact ih i t0 x e0 h2 λa u z=>k a u (.inr ⟨i,z⟩)
 |@osd p ks xs l f h e ek c ih =>
  rw[T.share,zap];refine .obj (k:=.sdc ks) (xs:=xs) ⟨ek,k _ _ rfl h⟩ (by rw[ya1];exact e) λi t x h1 h2=>?_
  rw[ya3]at h1;obtain⟨t0,e0,rfl⟩:=ya2.mp h1;exact ih i t0 x e0 h2 λa u z=>z.elim
 |@own k0 p xs l hk R f h e c d dp o ih =>
  rw[T.share,zap];refine .shr (k:=k0) (xs:=xs) (hk.node (k _ _ (.inl rfl) h)) (by rw[ya1];exact e) λi t x h1 h2=>?_
  rw[ya3]at h1;obtain⟨t0,e0,rfl⟩:=ya2.mp h1;exact ih i t0 x e0 h2 λa u z=>k a u (.inr ⟨i,z⟩)
theorem Rp.r0(h:Rp K F H t x A)(s:t.sh=true):A=R0:=by
 cases h with
 |own hk R f h e c d dp o =>
  rw[T.sh]at s;cases s
 |odc f h e ek c =>
  rw[T.sh]at s;cases s
 |oob R f h e c d dp o =>
  rw[T.sh]at s;cases s
 |osd f h e ek c =>
  rw[T.sh]at s;cases s
 |_=>rfl
theorem Rp.move(h:Rp K F H t x A)(s:t.sh=true)(q:zbl F F'):Rp K F' H' t x R0:=by
 have e:=h.r0 s;subst e;exact h.frame q λa z=>z.elim
theorem Rp.flat_any(h:Rp K F H t x A)(s:t.flat=true):Rp K F' H' t x R0:=by
 cases h with
 |non=>exact .non
 |bl b=>exact .bl b
 |int i=>exact .int i
 |str y=>exact .str y
 |shr h e c=>cases s
 |dic h e ek c=>cases s
 |pdc h e ek c=>cases s
 |odc f h e ek c=>cases s
 |obj h e c=>cases s
 |oob R f h e c d dp o=>cases s
 |osd f h e ek c=>cases s
 |own hk R f h e c d dp o=>cases s
theorem Rp.int_inv{i:Int}(h:Rp K F H (.int i) x A):x=.int i:=by cases h;rfl
theorem Rp.bl_inv{b:Bool}(h:Rp K F H (.bl b) x A):x=.bl b:=by cases h;rfl
theorem Rp.non_inv(h:Rp K F H .non x A):x=.non:=by cases h;rfl
theorem Rp.str_inv{y:Str}(h:Rp K F H (.str y) x A):x=.str y:=by cases h;rfl
end
def Rps(K:PySem.W.Frag)(F:Hp)(ts:List T)(xs:List V):Prop:=ts.length=xs.length/\∀(i:Nat) (t:T) (x:V),ts[i]?=some t->xs[i]?=some x->Rp K F F t x R0
theorem Rps.nil{K:PySem.W.Frag}{F:Hp}:Rps K F [] []:=⟨rfl,λi t x h=>by simp at h⟩
theorem Rp.any{K:PySem.W.Frag}{F H H':Hp}{t:T}{x:V}(h:Rp K F H t x R0):Rp K F H' t x R0:=h.frame (zbl.refl F) λa z=>z.elim
theorem Rps.cons{K:PySem.W.Frag}{F H:Hp}{t:T}{x:V}{ts:List T}{xs:List V}(h:Rp K F H t x R0)(r:Rps K F ts xs):Rps K F (t::ts) (x::xs):=by
 refine⟨by simp[r.1],λi t' x' h1 h2=>?_⟩
 cases i with
 |zero =>
  simp at h1 h2;subst h1;subst h2;exact h.any
 |succ j=>exact r.2 j t' x' (by simpa using h1) (by simpa using h2)
theorem Rps.inv{K:PySem.W.Frag}{F:Hp}{t:T}{ts:List T}{xs:List V}(r:Rps K F (t::ts) xs):∃x xs',xs=x::xs'/\Rp K F F t x R0/\Rps K F ts xs':=by
 obtain⟨e,h⟩:=r;cases xs with
 |nil=>simp at e
 |cons x xs'=>exact⟨x,xs',rfl,h 0 t x rfl rfl,by simpa using e,λi t' x' h1 h2=>h (i+1) t' x' (by simpa using h1) (by simpa using h2)⟩
theorem Rps.inv0{K:PySem.W.Frag}{F:Hp}{xs:List V}(r:Rps K F [] xs):xs=[]:=by
 obtain⟨e,h⟩:=r;cases xs with
 |nil=>rfl
 |cons x xs'=>simp at e
theorem Rps.same{K:PySem.W.Frag}{F F':Hp}{ts:List T}{xs:List V}(r:Rps K F ts xs)(s:zbl F F'):Rps K F' ts xs:=⟨r.1,λi t x h1 h2=>((r.2 i t x h1 h2).frame (H':=F') s λa z=>z.elim)⟩
theorem Rp.ref_inv{K:PySem.W.Frag}{F H:Hp}{o:Bool}{k:Kd}{l:List T}{x:V}{A:Rg}(h:Rp K F H (.nd o k l) x A):∃p,x=.ref p:=by
 cases h with
 |shr h e c=>exact⟨_,rfl⟩
 |own hk R f h e c d dp o=>exact⟨_,rfl⟩
theorem Rps.of_node{K:PySem.W.Frag}{F H:Hp}{k:Kd}{p:Addr}{l:List T}{xs:List V}(h:zps K F k p xs)(r:Rps K F l xs):Rp K F H (.nd false k l) (.ref p) R0:=.shr h r.1 λi t x h1 h2=>(r.2 i t x h1 h2).any
structure Ext(F H F' H':Hp)(B:Rg):Prop where
 hh:zbl H H'
 ff:zbl F F'
 fh:zbl F' H'
 nb:∀b,B b->H b=none
 nf:∀b u,F' b=some u->F b=some u\/H b=none
theorem zbd{H H':Hp}(s:zbl H H'){b:Addr}(h:H' b=none):H b=none:=by
 cases e:H b with
 |none=>rfl
 |some u=>rw[s b u e]at h;cases h
section
variable {F H F1 H1 F2 H2:Hp}{B C:Rg}
theorem Ext.refl(s:zbl F H):Ext F H F H R0:=⟨.refl _,.refl _,s,λ_ z=>z.elim,λ_ _ e=>.inl e⟩
theorem Ext.trans(a:Ext F H F1 H1 B)(b:Ext F1 H1 F2 H2 C):Ext F H F2 H2 (λx=>B x\/C x) where
 hh:=a.hh.trans b.hh
 ff:=a.ff.trans b.ff
 fh:=b.fh
 nb:=λx z=>z.elim (a.nb x) λz=>zbd a.hh (b.nb x z)
 nf:=λx u e=>(b.nf x u e).elim (a.nf x u) λz=>.inr (zbd a.hh z)
theorem Ext.mono(a:Ext F H F1 H1 B)(h:∀x,C x->B x):Ext F H F1 H1 C:=⟨a.hh,a.ff,a.fh,λx z=>a.nb x (h x z),a.nf⟩
theorem Ext.trans0(a:Ext F H F1 H1 R0)(b:Ext F1 H1 F2 H2 C):Ext F H F2 H2 C:=(a.trans b).mono λx z=>.inr z
open Classical in
noncomputable def frz(F H:Hp)(A:Rg):Hp:=λb=>if A b then H b else F b
theorem zjt{A:Rg}{b:Addr}(h:A b):frz F H A b=H b:=by unfold frz;rw[if_pos h]
theorem ze0{A:Rg}{b:Addr}(h:¬ A b):frz F H A b=F b:=by unfold frz;rw[if_neg h]
theorem zgp{A:Rg}(n:∀a,A a->F a=none):zbl F (frz F H A):=λb u e=>by
 by_cases h:A b
 ·rw[n b h]at e;cases e
 ·rw[ze0 h];exact e
theorem znh{A:Rg}(s:zbl F H):zbl (frz F H A) H:=λb u e=>by
 by_cases h:A b
 ·rw[zjt h]at e;exact e
 ·rw[ze0 h]at e;exact s b u e
theorem Ext.frz(a:Ext F H F1 H1 B)(n:∀b,B b->F1 b=none):Ext F H (frz F1 H1 B) H1 R0 where
 hh:=a.hh
 ff:=a.ff.trans (zgp n)
 fh:=znh a.fh
 nb:=λ_ z=>z.elim
 nf:=λb u e=>by
  by_cases h:B b
  ·exact .inr (a.nb b h)
  ·rw[ze0 h]at e;exact a.nf b u e
theorem Rp.ext{K:PySem.W.Frag}{t:T}{x:V}{A:Rg}(h:Rp K F H t x A)(a:Ext F H F1 H1 B):Rp K F1 H1 t x A:=h.frame a.ff λb z=>by
 obtain⟨f,u,e⟩:=h.dom z;refine⟨(a.hh b u e).trans e.symm,?_⟩;cases q:F1 b with
 |none=>rfl
 |some u' =>
  rcases a.nf b u' q with z|z
  ·rw[f]at z;cases z
  ·rw[e]at z;cases z
theorem Rp.apart{K:PySem.W.Frag}{t:T}{x:V}{A:Rg}(h:Rp K F H t x A)(a:Ext F H F1 H1 B){b:Addr}(hb:B b):¬ A b:=λz=>by
 obtain⟨f,u,e⟩:=h.dom z;rw[a.nb b hb]at e;cases e
theorem Ext.new{p:Addr}{o:HO}(s:zbl F H)(h:H p=none):Ext F H (upd F p o) (upd H p o) R0 where
 hh:=zkh h o
 ff:=zkh (zbd s h) o
 fh:=λb u e=>by
  by_cases hb:b=p
  ·subst hb;rw[zar]at e ⊢;exact e
  ·rw[zag hb]at e ⊢;exact s b u e
 nb:=λ_ z=>z.elim
 nf:=λb u e=>by
  by_cases hb:b=p
  ·subst hb;exact .inr h
  ·rw[zag hb]at e;exact .inl e
theorem Ext.newO{p:Addr}{o:HO}(s:zbl F H)(h:H p=none):Ext F H F (upd H p o) (λa=>a=p) where
 hh:=zkh h o
 ff:=.refl _
 fh:=λb u e=>zkh h o b u (s b u e)
 nb:=λb z=>by rw[z];exact h
 nf:=λb u e=>.inl e
end
abbrev PSt:=List (Option T)
structure StR(K:PySem.W.Frag)(F H:Hp)(σ:L2.St)(τ:PSt)(R:Nat->Rg):Prop where
 fh:zbl F H
 len:σ.length=τ.length
 rep:∀i t,τ[i]?=some (some t)->∃x,σ[i]?=some (some x)/\Rp K F H t x (R i)
 out:∀i a,R i a->∃t,τ[i]?=some (some t)
 dis:∀i j a,i≠j->R i a->¬ R j a
section
variable {K:PySem.W.Frag}{F H F1 H1:Hp}{σ:L2.St}{τ:PSt}{R:Nat->Rg}{B:Rg}
theorem StR.dom(h:StR K F H σ τ R){i:Nat}{a:Addr}(ha:R i a):F a=none/\∃u,H a=some u:=by
 obtain⟨t,e⟩:=h.out i a ha;obtain⟨x,_,r⟩:=h.rep i t e;exact r.dom ha
theorem StR.ext(h:StR K F H σ τ R)(a:Ext F H F1 H1 B):StR K F1 H1 σ τ R where
 fh:=a.fh
 len:=h.len
 rep:=λi t e=>by
  obtain⟨x,e1,r⟩:=h.rep i t e;exact⟨x,e1,r.ext a⟩
 out:=h.out
 dis:=h.dis
theorem StR.apart(h:StR K F H σ τ R)(a:Ext F H F1 H1 B){b:Addr}(hb:B b)(i:Nat):¬ R i b:=λz=>by
 obtain⟨f,u,e⟩:=h.dom z;rw[a.nb b hb]at e;cases e
end
end Pu
set_option Elab.async false
set_option linter.all false
set_option maxRecDepth 100000
namespace Pu
open PySem PySem.Spec PyProof.Rows L2 Zw Zx
def keyD:Key->PyData
 |.inl i=>.int i
 |.inr x=>.str x
mutual
def T.data:T->PyData
 |.non=>.none
 |.bl b=>.bool b
 |.int i=>.int i
 |.str x=>.str x
 |.nd _ .lst l=>.list (zbs l)
 |.nd _ .rl l=>.list (zbs l)
 |.nd _ .tup l=>.tuple (zbs l)
 |.nd _ .rt l=>.tuple (zbs l)
 |.nd _ (.pin _) l=>.list (zbs l)
 |.dic ks l=>.dict ((ks.map PyData.int).zip (zbs l))
 |.pdc ks l=>.dict ((ks.map PyData.int).zip (zbs l))
 |.odc ks l=>.dict ((ks.map PyData.int).zip (zbs l))
 |.obj _ _=>.none
 |.oob _ _ _ _=>.none
 |.osd _ _=>.none
def zbs:List T->List PyData
 |[]=>[]
 |t::r=>t.data::zbs r
end
mutual
def T.pln:T->Bool
 |.nd _ _ l=>zvs l
 |.dic _ l=>zvs l
 |.pdc _ l=>zvs l
 |.odc _ l=>zvs l
 |.obj _ _=>false
 |.oob _ _ _ _=>false
 |.osd _ _=>false
 |.non=>true
 |.bl _=>true
 |.int _=>true
 |.str _=>true
def zvs:List T->Bool
 |[]=>true
 |t::r=>t.pln && zvs r
end
theorem zcg:∀{l:List T},zvs l=true->∀{i:Nat} {t:T},l[i]?=some t->t.pln=true
 |[],_,i,t,e=>by simp at e
 |a::r,h,i,t,e=>by
  rw[zvs,ya4]at h;cases i with
  |zero =>
   simp at e;subst e;exact h.1
  |succ i=>exact zcg h.2 (by simpa using e)
theorem zl7{h:Heap}:∀{l:List T} {us:List Value},l.length=us.length->(∀(i:Nat) (t:T) (u:Value),l[i]?=some t->us[i]?=some u->∃as,Reads h u t.data as)->∃as,ReadsAll h us (zbs l) as
 |[],[],_,_=>⟨_,.nil⟩
 |[],_::_,e,_=>by simp at e
 |_::_,[],e,_=>by simp at e
 |t::l,u::us,e,f=>by
  obtain⟨a1,r1⟩:=f 0 t u rfl rfl;obtain⟨a2,r2⟩:=zl7 (l:=l) (us:=us) (by simpa using e) λi t' u' h1 h2=>f (i+1) t' u' (by simpa using h1) (by simpa using h2)
  exact⟨_,.cons r1 r2⟩
theorem zln{P:Program}{w:World}{h:Heap}{k:Key}{v:Value}(e:(zbk P w).is k v=true):Reads h v (keyD k) []:=by
 rcases zb0 (show zop k v=true from e) with ⟨i,t,rfl,rfl⟩|⟨x,t,rfl,rfl⟩
 ·exact .int i t
 ·exact .str x t
theorem zh7{h:Heap}:∀(ks:List Int) (xs:List V) (l:List T) (vs:List (Key×Value)),KV (kvK ks xs) vs->l.length=xs.length->ks.length=xs.length->(∀(i:Nat) (t:T) (x:V),l[i]?=some t->xs[i]?=some x->∀{u:Value},RelV x u->∃as,Reads h u t.data as) ->
  ∃bs,PyProof.V.PairsRead h keyD vs ((ks.map PyData.int).zip (zbs l)) bs
 |[],xs,l,vs,r,_,_,_=>by
  have r':Paired _ [] vs:=(show Paired _ (kvK [] xs) vs from r);cases r';exact⟨_,.nil⟩
 |k::ks,[],l,vs,r,_,ek,_=>by simp at ek
 |k::ks,x::xs,[],vs,r,e,_,_=>by simp at e
 |k::ks,x::xs,t::l,vs,r,e,ek,f=>by
  have r':Paired (λ(p:Key×V) (q:Key×Value)=>p.1=q.1/\RelV p.2 q.2) ((Sum.inl k,x)::kvK ks xs) vs:=r
  cases r' with
  |@cons _ q _ qs hd tl =>
   obtain⟨a1,r1⟩:=f 0 t x rfl rfl hd.2;obtain⟨a2,r2⟩:=zh7 ks xs l qs tl (by simpa using e) (by simpa using ek) λi t' x' h1 h2=>f (i+1) t' x' (by simpa using h1) (by simpa using h2)
   obtain⟨q1,q2⟩:=q;cases (show Sum.inl k=q1 from hd.1);exact⟨_,.cons r1 r2⟩
section
variable {X:Cx}{pins:List (Addr×Obj)}{σ:L2.St}{F H:Hp}{s:Shared}
theorem zed(I:Inv X pins σ H s)(fh:zbl F H){t:T}{x:V}{A:Rg}(h:Rp X.K F H t x A)(hpl:t.pln=true):∀{u:Value},RelV x u->∃as,Reads s.heap u t.data as:=by
 have kids:∀{l:List T} {xs:List V} {its:List Value},zbp xs its->l.length=xs.length->(∀(i:Nat) (t:T) (x:V),l[i]?=some t->xs[i]?=some x->∀{u:Value},RelV x u->∃as,Reads s.heap u t.data as)->∃as,ReadsAll s.heap its (zbs l) as:=by
  intro l xs its r e ih;refine zl7 (e.trans r.length) λi t u h1 h2=>?_
  have hi:i<xs.length:=by
   have:=(ya5.mp h1).1
   omega
  obtain⟨u',e1,r1⟩:=r.get (ya0 hi);rw[h2]at e1;cases e1;exact ih i t _ h1 (ya0 hi) r1
 have lsts:∀{p:Addr} {l:List T} {xs:List V},SqL X.K H p xs->l.length=xs.length->(∀(i:Nat) (t:T) (x:V),l[i]?=some t->xs[i]?=some x->∀{u:Value},RelV x u->∃as,Reads s.heap u t.data as)->∃as,Reads s.heap (.ref p) (.list (zbs l)) as:=by
  intro p l xs hq e ih;obtain⟨its,r,⟨o,n,e1,e2,e3,e4⟩,_⟩:=I.list hq;obtain⟨as,ra⟩:=kids r e ih;exact⟨_,.list e1 e2 e4 (by simpa using ra)⟩
 have tups:∀{p:Addr} {l:List T} {xs:List V},SqT X.K H p xs->l.length=xs.length->(∀(i:Nat) (t:T) (x:V),l[i]?=some t->xs[i]?=some x->∀{u:Value},RelV x u->∃as,Reads s.heap u t.data as)->∃as,Reads s.heap (.ref p) (.tuple (zbs l)) as:=by
  intro p l xs hq e ih;obtain⟨its,r,⟨o,e1,e2,n,e4⟩,_⟩:=I.tuple hq;obtain⟨as,ra⟩:=kids r e ih;exact⟨_,.tuple e1 e2 e4 (by simpa using ra)⟩
 induction h with
 |non=>intro u r;cases r;exact⟨_,.none⟩
 |bl b=>intro u r;cases r;exact⟨_,.bool b⟩
 |int i=>intro u r;obtain⟨t,rfl⟩:=r;exact⟨_,.int i t⟩
 |str y=>intro u r;obtain⟨t,rfl⟩:=r;exact⟨_,.str y t⟩
 |@shr k p xs l h e c ih =>
  intro u r;cases r;cases k with
  |lst=>exact lsts (SqL.of (fh _ _ h)) e λi t x h1 h2=>ih i t x h1 h2 (zcg hpl h1)
  |rl=>exact lsts (fh.seq h) e λi t x h1 h2=>ih i t x h1 h2 (zcg hpl h1)
  |tup=>exact tups (SqT.of (fh _ _ h)) e λi t x h1 h2=>ih i t x h1 h2 (zcg hpl h1)
  |rt=>exact tups (zd8 fh h) e λi t x h1 h2=>ih i t x h1 h2 (zcg hpl h1)
  |pin q=>exact lsts (SqL.of (fh _ _ h)) e λi t x h1 h2=>ih i t x h1 h2 (zcg hpl h1)
 |@dic p ob ks xs l h e ek c ih =>
  intro u r;cases r;obtain⟨ho,z,hd,vs,rel,dd⟩:=(show zbo X.prog X.w H s.heap p (.frz ob (.dK (kvK ks xs))) from I.hok p _ (fh _ _ h));obtain⟨bs,pr⟩:=zh7 ks xs l vs rel e ek λi t x h1 h2=>ih i t x h1 h2 (zcg hpl h1)
  exact⟨_,ycy (λk v q=>zln q) dd pr⟩
 |@pdc p ks xs l h e ek c ih =>
  intro u r;cases r;obtain⟨z,hd,vs,rel,dd⟩:=(show zbo X.prog X.w H s.heap p (.dK (kvK ks xs)) from I.hok p _ (fh _ _ h));obtain⟨bs,pr⟩:=zh7 ks xs l vs rel e ek λi t x h1 h2=>ih i t x h1 h2 (zcg hpl h1)
  exact⟨_,ycy (λk v q=>zln q) dd pr⟩
 |@odc p ks xs l f h e ek c ih =>
  intro u r;cases r;obtain⟨z,hd,vs,rel,dd⟩:=(show zbo X.prog X.w H s.heap p (.dK (kvK ks xs)) from I.hok p _ h);obtain⟨bs,pr⟩:=zh7 ks xs l vs rel e ek λi t x h1 h2=>ih i t x h1 h2 (zcg hpl h1)
  exact⟨_,ycy (λk v q=>zln q) dd pr⟩
 |obj h e c ih=>cases hpl
 |oob R f h e c d dp o ih=>cases hpl
 |osd f h e ek c ih=>cases hpl
 |@own k0 p xs l hk R f h e c d dp o ih =>
  intro u r;cases r;cases k0 with
  |lst=>exact lsts (SqL.of h) e λi t x h1 h2=>ih i t x h1 h2 (zcg hpl h1)
  |pin q=>exact lsts (SqL.of h) e λi t x h1 h2=>ih i t x h1 h2 (zcg hpl h1)
  |_=>exact hk.elim
end
def zt4(t:T):Bool:=t.pln && t.data.canLay0
def zH0(t u:T):Bool:=PyData.eqv t.data u.data
def zBu(t u:T):Bool:=zt4 t && zt4 u && decide (min t.data.depth u.data.depth<=60)
def eqT(t u:T):Option T:=if zBu t u then some (.bl (zH0 t u)) else none
def neT(t u:T):Option T:=if zBu t u then some (.bl (!zH0 t u)) else none
def zHt(t:T)(l:List T):Bool:=zt4 t && (zvs l && PyData.canLayAll0 (zbs l)) && decide (min (PyData.depthAll (zbs l)) t.data.depth<=60)
def hasT(t:T)(l:List T):Bool:=(zbs l).any λy=>PyData.eqv y t.data
def inS(t:T)(y:Str):Option T:=match t with
 |.str x=>some (.bl (!(Builtin.Str.occurrences y x 0 y.length 1).isEmpty))
 |_=>none
def inT(t c:T):Option T:=match c with
 |.nd _ _ l=>if zHt t l then some (.bl (hasT t l)) else none
 |.str y=>inS t y
 |_=>none
def zlb(t c:T):Option T:=match c with
 |.nd _ _ l=>if zHt t l then some (.bl (!hasT t l)) else none
 |_=>none
def zpu(K:PySem.W.Frag)(F H:Hp)(v:T)(Q:VK):Prop:=∀F' H' z C,Ext F H F' H' C->Rp K F' H' v z C->Q z H'
def rT2(K:PySem.W.Frag)(g:T->T->Option T):R2:=λx y H Q=>∃F t u v,zbl F H/\Rp K F F t x R0/\Rp K F F u y R0/\g t u=some v/\zpu K F H v Q
def rT1(K:PySem.W.Frag)(g:T->Option T):V->Hp->VK->Prop:=λx H Q=>∃F t v,zbl F H/\Rp K F F t x R0/\g t=some v/\zpu K F H v Q
def rTn(K:PySem.W.Frag)(g:List T->Option T):List V->Hp->VK->Prop:=λxs H Q=>∃F ts v,zbl F H/\Rps K F ts xs/\g ts=some v/\zpu K F H v Q
section
variable {K:PySem.W.Frag}{F H:Hp}{Q:VK}
theorem zpu.int{i:Int}(q:zpu K F H (.int i) Q)(s:zbl F H):Q (.int i) H:=q F H _ _ (Ext.refl s) (.int i)
theorem zpu.bl{b:Bool}(q:zpu K F H (.bl b) Q)(s:zbl F H):Q (.bl b) H:=q F H _ _ (Ext.refl s) (.bl b)
theorem zpu.str{x:Str}(q:zpu K F H (.str x) Q)(s:zbl F H):Q (.str x) H:=q F H _ _ (Ext.refl s) (.str x)
theorem zpu.list{l:List T}{xs:List V}(q:zpu K F H (.own l) Q)(s:zbl F H)(r:Rps K F l xs){p:Addr}(hp:H p=none):Q (.ref p) (upd H p (.lst xs)):=by
 refine q F (upd H p (.lst xs)) (.ref p) _ ((Ext.newO s hp).mono ?_) (.own (k:=.lst) (xs:=xs) trivial (λ_=>R0) (zbd s hp) zar r.1 (λi t x h1 h2=>?_) (λ_ _ _ _ z=>z.elim) (λ_ z=>z) (λ_ _ z=>z.elim))
 ·rintro a (z|⟨i,z⟩)
  ·exact z
  ·exact z.elim
 ·exact(r.2 i t x h1 h2).any
theorem zpu.tuple{l:List T}{xs:List V}(q:zpu K F H (.tup l) Q)(s:zbl F H)(r:Rps K F l xs){p:Addr}(hp:H p=none):Q (.ref p) (upd H p (.tup xs)):=by
 have e:=Ext.new (o:=.tup xs) s hp;exact q _ _ _ _ e (Rps.of_node (k:=.tup) zar (r.same e.ff))
end
noncomputable def s64(i:Int):Bool:=@decide (-(2 ^ 64)<i/\i<2 ^ 64) (Classical.propDecidable _)
noncomputable def s70(i:Int):Bool:=@decide (-(10 ^ 70)<i/\i<10 ^ 70) (Classical.propDecidable _)
noncomputable def k63(k:Int):Bool:=@decide (k<2 ^ 63/\-(2 ^ 63)<=k) (Classical.propDecidable _)
noncomputable def zhd(i j:Int):Bool:=s64 i || s64 j || (s70 i && s70 j)
def lim:Nat:=16777216
def zf0:T->T->Option T
 |.int i,.int j=>some (.int (i+j))
 |.str x,.str y=>if x.length+y.length<=lim then some (.str (x++y)) else none
 |.nd _ .lst l,.nd _ .lst m=>if l.length+m.length<=lim then some (.own (l++m)) else none
 |_,_=>none
def zIt:T->T->Option T
 |.int i,.int j=>some (.int (i - j))
 |_,_=>none
noncomputable def znc:T->T->Option T
 |.int i,.int j=>if zhd i j then some (.int (i * j)) else none
 |.nd _ .lst l,.int k=>if k63 k=true/\l.length * k.toNat<=lim then some (.own (List.replicate k.toNat l).flatten) else none
 |.str x,.int k=>if 0<=k/\k<=1000000/\x.length<=16 then some (.str (Txt.mul x k)) else none
 |_,_=>none
def zh8:T->T->Option T
 |.int i,.int j=>if j≠0 then some (.int (i.fmod j)) else none
 |_,_=>none
noncomputable def zfs:T->T->Option T
 |.int i,.int j=>if j≠0/\s70 j then some (.int (i.fdiv j)) else none
 |_,_=>none
noncomputable def zD8:T->T->Option T
 |.int i,.int j=>if 0<=j/\j<=1000000/\s64 i then some (.int (i ^ j.toNat)) else none
 |_,_=>none
def zMw:T->T->Option T
 |.int i,.int j=>some (.int (Builtin.bitOr i j))
 |_,_=>none
def zCd:T->T->Option T
 |.int i,.int j=>some (.int (Builtin.bitAnd i j))
 |_,_=>none
def zp9(f:Int->Int->Bool):T->T->Option T
 |.int i,.int j=>some (.bl (f i j))
 |_,_=>none
def zsl:T->Option T
 |.int i=>some (.int (-i))
 |_=>none
theorem zsd{i:Int}(h:s64 i=true):-(2 ^ 64)<i/\i<2 ^ 64:=@of_decide_eq_true _ (Classical.propDecidable _) h
theorem zsc{i:Int}(h:s70 i=true):Sm i:=@of_decide_eq_true _ (Classical.propDecidable _) h
theorem zxr{k:Int}(h:k63 k=true):k<2 ^ 63/\-(2 ^ 63)<=k:=@of_decide_eq_true _ (Classical.propDecidable _) h
theorem zez:lim=sizeLine:=by rw[sizeLine_eq];rfl
theorem zh6{K:PySem.W.Frag}{F:Hp}:∀{l m:List T} {xs ys:List V},Rps K F l xs->Rps K F m ys->Rps K F (l++m) (xs++ys)
 |[],m,xs,ys,r,q=>by rw[r.inv0];exact q
 |t::l,m,xs,ys,r,q=>by
  obtain⟨x,xs',rfl,r1,r2⟩:=r.inv;exact .cons r1 (zh6 r2 q)
theorem zwo{K:PySem.W.Frag}{F:Hp}{l:List T}{xs:List V}(r:Rps K F l xs):∀n:Nat,Rps K F (List.replicate n l).flatten (List.replicate n xs).flatten
 |0=>.nil
 |n+1=>by
  rw[ybw,ybw,ycb,ycb];exact zh6 r (zwo r n)
section
variable {X:Cx}
theorem zci{K:PySem.W.Frag}{F H:Hp}{o:Bool}{k:Kd}{l:List T}{x:V}(h:Rp K F H (.nd o k l) x R0):∃p xs,x=.ref p/\o=false/\zps K F k p xs/\Rps K F l xs:=by
 generalize hA:R0=A at h;cases h with
 |shr h e c=>exact⟨_,_,rfl,rfl,h,e,λi t x h1 h2=>(hA▸c i t x h1 h2).any⟩
 |@own k0 p xs l hk R f h e c d dp o =>
  exfalso
  have z:=congrFun hA p;have:R0 p:=by rw[z];exact .inl rfl
  exact this
theorem zFu:OpR X (binaryOp .Add) (rT2 X.K zf0):=by
 intro pins s σ H x y v u Q I rx ry h;obtain⟨F,t1,t2,r,fh,r1,r2,e,q⟩:=h;unfold zf0 at e;split at e
 ·cases e;rw[r1.int_inv]at rx;rw[r2.int_inv]at ry;exact zKn pins s σ H _ _ v u Q I rx ry ⟨_,_,rfl,rfl,q.int fh⟩
 ·split at e
  ·cases e;rename_i hz;rw[r1.str_inv]at rx;rw[r2.str_inv]at ry;exact zv9 pins s σ H _ _ v u Q I rx ry ⟨_,_,rfl,rfl,by rw[<- zez];exact hz,q.str fh⟩
  ·cases e
 ·split at e
  ·cases e;rename_i hz;obtain⟨p,xs,rfl,rfl,n1,k1⟩:=zci r1;obtain⟨p2,ys,rfl,rfl,n2,k2⟩:=zci r2;refine zKl pins s σ H _ _ v u Q I rx ry ⟨p,p2,xs,ys,rfl,rfl,fh _ _ n1,fh _ _ n2,?_,λa ha=>q.list fh (zh6 k1 k2) ha⟩
   rw[<- k1.1,<- k2.1,<- zez];exact hz
  ·cases e
 ·cases e
theorem zht{f:Value->Value->Sem Value}{C:Int->Int->Prop}{g:Int->Int->V}{gT:T->T->Option T}(ho:OpR X f (rI C g))(hg:∀t u v,gT t u=some v->∃i j,t=.int i/\u=.int j/\C i j/\((∃k,v=.int k/\g i j=.int k)\/∃k,v=.bl k/\g i j=.bl k)):OpR X f (rT2 X.K gT):=by
 intro pins s σ H x y v u Q I rx ry h;obtain⟨F,t1,t2,r,fh,r1,r2,e,q⟩:=h;obtain⟨i,j,rfl,rfl,hc,hv⟩:=hg _ _ _ e;rw[r1.int_inv]at rx;rw[r2.int_inv]at ry;refine ho pins s σ H _ _ v u Q I rx ry ⟨i,j,rfl,rfl,hc,?_⟩
 rcases hv with ⟨k,rfl,ek⟩|⟨k,rfl,ek⟩
 ·rw[ek];exact q.int fh
 ·rw[ek];exact q.bl fh
theorem OpR.weak{f:Value->Value->Sem Value}{r r':R2}(h:OpR X f r)(w:∀x y H Q,r' x y H Q->r x y H Q):OpR X f r':=λpins s σ H x y v u Q I rx ry q=>h pins s σ H x y v u Q I rx ry (w x y H Q q)
theorem ri0{g:Int->Int->V}{f:Value->Value->Sem Value}(h:OpR X f (rI0 g)):OpR X f (rI (λ_ _=>True) g):=OpR.weak h λx y H Q ⟨i,j,a,b,_,q⟩=>⟨i,j,a,b,q⟩
theorem zFo:OpR X (binaryOp .Sub) (rT2 X.K zIt):=zht (ri0 zKf) λt u v h=>by
 unfold zIt at h;split at h
 ·cases h;exact⟨_,_,rfl,rfl,trivial,.inl ⟨_,rfl,rfl⟩⟩
 ·cases h
theorem zFt:OpR X (binaryOp .BitOr) (rT2 X.K zMw):=zht (ri0 op_or) λt u v h=>by
 unfold zMw at h;split at h
 ·cases h;exact⟨_,_,rfl,rfl,trivial,.inl ⟨_,rfl,rfl⟩⟩
 ·cases h
theorem zAv:OpR X (binaryOp .BitAnd) (rT2 X.K zCd):=zht (ri0 zKm) λt u v h=>by
 unfold zCd at h;split at h
 ·cases h;exact⟨_,_,rfl,rfl,trivial,.inl ⟨_,rfl,rfl⟩⟩
 ·cases h
theorem zFr:OpR X (binaryOp .Mod) (rT2 X.K zh8):=zht zFn λt u v h=>by
 unfold zh8 at h;split at h
 ·split at h
  ·cases h;exact⟨_,_,rfl,rfl,by assumption,.inl ⟨_,rfl,rfl⟩⟩
  ·cases h
 ·cases h
theorem zAu:OpR X (binaryOp .FloorDiv) (rT2 X.K zfs):=zht zAt λt u v h=>by
 unfold zfs at h;split at h
 ·split at h
  ·cases h;rename_i hc;exact⟨_,_,rfl,rfl,⟨hc.1,zsc hc.2⟩,.inl ⟨_,rfl,rfl⟩⟩
  ·cases h
 ·cases h
theorem zFp:OpR X (binaryOp .Pow) (rT2 X.K zD8):=zht zKh λt u v h=>by
 unfold zD8 at h;split at h
 ·split at h
  ·cases h;rename_i hc;have q:=zsd hc.2.2;exact⟨_,_,rfl,rfl,⟨hc.1,hc.2.1,by omega⟩,.inl ⟨_,rfl,rfl⟩⟩
  ·cases h
 ·cases h
theorem zob{op:CmpOp}{g:Int->Int->Bool}(ho:OpR X (compareOp op) (rI0 λi j=>.bl (g i j))):OpR X (compareOp op) (rT2 X.K (zp9 g)):=zht (ri0 ho) λt u v h=>by
 unfold zp9 at h;split at h
 ·cases h;exact⟨_,_,rfl,rfl,trivial,.inr ⟨_,rfl,rfl⟩⟩
 ·cases h
theorem zFq:OpR X (binaryOp .Mult) (rT2 X.K znc):=by
 intro pins s σ H x y v u Q I rx ry h;obtain⟨F,t1,t2,r,fh,r1,r2,e,q⟩:=h;unfold znc at e;split at e
 ·rename_i i j;split at e
  ·cases e;rename_i hc;rw[r1.int_inv]at rx;rw[r2.int_inv]at ry;unfold zhd at hc;rw[yc8,yc8,ya4]at hc
   rcases hc with (hc|hc)|hc
   ·exact zDb pins s σ H _ _ v u Q I rx ry ⟨i,j,rfl,rfl,.inl (zsd hc),q.int fh⟩
   ·exact zDb pins s σ H _ _ v u Q I rx ry ⟨i,j,rfl,rfl,.inr (zsd hc),q.int fh⟩
   ·exact zFm pins s σ H _ _ v u Q I rx ry ⟨i,j,rfl,rfl,⟨zsc hc.1,zsc hc.2⟩,q.int fh⟩
  ·cases e
 ·split at e
  ·cases e;rename_i hc;obtain⟨p,xs,rfl,rfl,n1,k1⟩:=zci r1;rw[r2.int_inv]at ry;refine zKg pins s σ H _ _ v u Q I rx ry ⟨p,_,xs,rfl,rfl,fh _ _ n1,(zxr hc.1).2,(zxr hc.1).1,?_,λa ha=>q.list fh (zwo k1 _) ha⟩
   rw[<- k1.1,<- zez];exact hc.2
  ·cases e
 ·split at e
  ·cases e;rename_i hc;rw[r1.str_inv]at rx;rw[r2.int_inv]at ry;obtain⟨t1,rfl⟩:=rx;obtain⟨t2,rfl⟩:=ry;exact SB.mul (mulOk_of 16 1048576 hc.2.2 (by omega) (by omega) (by decide) (by decide)) λt' k=>⟨.str _,H,I.tok _,⟨_,rfl⟩,q.str fh⟩
  ·cases e
 ·cases e
theorem zE6:UnR X (unaryOp .USub) (rT1 X.K zsl):=by
 intro pins s σ H x v Q I rx h;obtain⟨F,t,r,fh,r1,e,q⟩:=h;unfold zsl at e;split at e
 ·cases e;rw[r1.int_inv]at rx;exact zIa pins s σ H _ v Q I rx ⟨_,rfl,q.int fh⟩
 ·cases e
theorem zuq{A:Around}{n:Nat}(hu:A.units+64<cLine)(h:n<=60):A.units+n<cLine:=by omega
theorem zKr(hu:X.A.units+64<cLine):OpR X (compareOp .Eq) (rT2 X.K eqT):=by
 intro pins s σ H x y v u Q I rx ry h;obtain⟨F,t1,t2,r,fh,r1,r2,e,q⟩:=h;unfold eqT at e;split at e
 ·cases e;rename_i hc;unfold zBu zt4 at hc;rw[ya4,ya4,ya4,ya4,decide_eq_true_eq]at hc;obtain⟨a1,q1⟩:=zed I fh (r1.any) hc.1.1.1 rx;obtain⟨a2,q2⟩:=zed I fh (r2.any) hc.1.2.1 ry;exact SeqAt.compareEq_reads q1 q2 hc.1.1.2 hc.1.2.2 (zuq hu hc.2) ⟨.bl _,H,I,rfl,q.bl fh⟩
 ·cases e
theorem zKo(hu:X.A.units+64<cLine):OpR X (compareOp .NotEq) (rT2 X.K neT):=by
 intro pins s σ H x y v u Q I rx ry h;obtain⟨F,t1,t2,r,fh,r1,r2,e,q⟩:=h;unfold neT at e;split at e
 ·cases e;rename_i hc;unfold zBu zt4 at hc;rw[ya4,ya4,ya4,ya4,decide_eq_true_eq]at hc;obtain⟨a1,q1⟩:=zed I fh (r1.any) hc.1.1.1 rx;obtain⟨a2,q2⟩:=zed I fh (r2.any) hc.1.2.1 ry;exact SeqAt.compareNe_reads q1 q2 hc.1.1.2 hc.1.2.2 (zuq hu hc.2) ⟨.bl _,H,I,rfl,q.bl fh⟩
 ·cases e
theorem zKq(hu:X.A.units+64<cLine):OpR X (compareOp .In) (rT2 X.K inT):=by
 intro pins s σ H x y v u Q I rx ry h;obtain⟨F,t1,t2,r,fh,r1,r2,e,q⟩:=h;unfold inT at e;split at e
 ·rename_i o k l;split at e
  ·cases e;rename_i hc;unfold zHt zt4 at hc;rw[ya4,ya4,ya4,ya4,decide_eq_true_eq]at hc;obtain⟨a1,q1⟩:=zed I fh (r1.any) hc.1.1.1 rx;obtain⟨a2,q2⟩:=zed I fh (r2.any) (show(T.nd o k l).pln=true from hc.1.2.1) ry;have hd:X.A.units+1+min (PyData.depthAll (zbs l)) t1.data.depth<cLine:=by omega
   cases k with
   |lst=>exact ydf q2 q1 hc.1.2.2 hc.1.1.2 hd ⟨.bl _,H,I,rfl,q.bl fh⟩
   |rl=>exact ydf q2 q1 hc.1.2.2 hc.1.1.2 hd ⟨.bl _,H,I,rfl,q.bl fh⟩
   |tup=>exact SeqAt.in_tuple_reads q2 q1 hc.1.2.2 hc.1.1.2 hd ⟨.bl _,H,I,rfl,q.bl fh⟩
   |rt=>exact SeqAt.in_tuple_reads q2 q1 hc.1.2.2 hc.1.1.2 hd ⟨.bl _,H,I,rfl,q.bl fh⟩
   |pin _=>exact ydf q2 q1 hc.1.2.2 hc.1.1.2 hd ⟨.bl _,H,I,rfl,q.bl fh⟩
  ·cases e
 ·unfold inS at e;split at e
  ·cases e;rw[r1.str_inv]at rx;rw[r2.str_inv]at ry;exact zx5 pins s σ H _ _ v u Q I rx ry ⟨_,_,rfl,rfl,q.bl fh⟩
  ·cases e
 ·cases e
theorem zx6(hu:X.A.units+64<cLine):OpR X (compareOp .NotIn) (rT2 X.K zlb):=by
 intro pins s σ H x y v u Q I rx ry h;obtain⟨F,t1,t2,r,fh,r1,r2,e,q⟩:=h;unfold zlb at e;split at e
 ·rename_i o k l;split at e
  ·cases e;rename_i hc;unfold zHt zt4 at hc;rw[ya4,ya4,ya4,ya4,decide_eq_true_eq]at hc;obtain⟨a1,q1⟩:=zed I fh (r1.any) hc.1.1.1 rx;obtain⟨a2,q2⟩:=zed I fh (r2.any) (show(T.nd o k l).pln=true from hc.1.2.1) ry;have hd:X.A.units+1+min (PyData.depthAll (zbs l)) t1.data.depth<cLine:=by omega
   cases k with
   |lst=>exact ycz q2 q1 hc.1.2.2 hc.1.1.2 hd ⟨.bl _,H,I,rfl,q.bl fh⟩
   |rl=>exact ycz q2 q1 hc.1.2.2 hc.1.1.2 hd ⟨.bl _,H,I,rfl,q.bl fh⟩
   |tup=>exact SeqAt.notIn_tuple_reads q2 q1 hc.1.2.2 hc.1.1.2 hd ⟨.bl _,H,I,rfl,q.bl fh⟩
   |rt=>exact SeqAt.notIn_tuple_reads q2 q1 hc.1.2.2 hc.1.1.2 hd ⟨.bl _,H,I,rfl,q.bl fh⟩
   |pin _=>exact ycz q2 q1 hc.1.2.2 hc.1.1.2 hd ⟨.bl _,H,I,rfl,q.bl fh⟩
  ·cases e
 ·cases e
end
end Pu
set_option Elab.async false
set_option linter.all false
set_option maxRecDepth 100000
namespace Pu
open PySem PySem.Spec PyProof.Rows L2 Zw Zx
inductive Rs where
 |v (t:T) (b:Bool)|x (c:Str)
inductive RsL where
 |v (ts:List T) (b:Bool)|x (c:Str)
def tot(R:Nat->Rg):Rg:=λa=>∃i,R i a
def Got(K:PySem.W.Frag)(F H:Hp)(R:Nat->Rg)(v:T)(b:Bool)(x:V)(B:Rg):Prop:=match b with
 |true=>B=R0/\∃A,(∀a,A a->tot R a)/\Rp K F H v x A
 |false=>Rp K F H v x B
noncomputable def Gz(b:Bool)(F H:Hp)(R:Nat->Rg):Hp:=match b with
 |true=>frz F H (tot R)
 |false=>F
section
variable {K:PySem.W.Frag}{F H F1 H1:Hp}{σ:L2.St}{τ:PSt}{R:Nat->Rg}{B:Rg}{b c:Bool}{v:T}{x:V}
theorem StR.tot(S:StR K F H σ τ R){a:Addr}(h:tot R a):F a=none/\∃u,H a=some u:=by
 obtain⟨i,z⟩:=h;exact S.dom z
theorem zBi(S:StR K F H σ τ R):zbl F (Gz b F H R):=by
 cases b with
 |true=>exact zgp λa z=>(S.tot z).1
 |false=>exact .refl _
theorem zGt(S:StR K F H σ τ R):zbl (Gz b F H R) H:=by
 cases b with
 |true=>exact znh S.fh
 |false=>exact S.fh
theorem zGs(S:StR K F H σ τ R)(e:Ext F H F1 H1 B)(h:b=true->c=true):zbl (Gz b F H R) (Gz c F1 H1 R):=by
 have S1:=S.ext e;cases b with
 |false=>exact e.ff.trans (zBi S1)
 |true =>
  rw[h rfl];intro a u q;show frz F1 H1 (Pu.tot R) a=some u
  by_cases z:Pu.tot R a
  ·rw[zjt z];have q':frz F H (Pu.tot R) a=some u:=q;rw[zjt z]at q';exact e.hh _ _ q'
  ·rw[ze0 z];have q':frz F H (Pu.tot R) a=some u:=q;rw[ze0 z]at q';exact e.ff _ _ q'
theorem Got.frz(S:StR K F H σ τ R)(e:Ext F H F1 H1 B)(g:Got K F1 H1 R v b x B):∃F2,Ext F H F2 H1 R0/\zbl F1 F2/\Rp K (Gz b F2 H1 R) (Gz b F2 H1 R) v.share x R0:=by
 have S1:=S.ext e;cases b with
 |true =>
  obtain⟨rfl,A,hA,r⟩:=g
  exact⟨F1,e,.refl _,r.share (zBi (b:=true) S1) λa u z q=>by
   show Pu.frz F1 H1 (Pu.tot R) a=some u;rw[zjt (hA a z)];exact q⟩
 |false =>
  have g':Rp K F1 H1 v x B:=g;have n:∀a,B a->F1 a=none:=λa z=>(g'.dom z).1
  exact⟨_,e.frz n,zgp n,g'.share (zgp n) λa u z q=>by
   show Pu.frz F1 H1 B a=some u;rw[zjt z];exact q⟩
theorem Ext.grow{H2:Hp}(e:Ext F H F1 H1 R0)(s:zbl H1 H2):Ext F H F1 H2 R0:=⟨e.hh.trans s,e.ff,e.fh.trans s,λ_ z=>z.elim,e.nf⟩
end
def tM(K:PySem.W.Frag)(E:L2.St->XK)(ca:Str->Value)(m:PSt->Option Rs):TE:=λσ H Q=>∃F τ R,StR K F H σ τ R/\match m τ with
 |some (.v v b)=>∀F' H' x B,Ext F H F' H' B->Got K F' H' R v b x B->Q x H'
 |some (.x c)=>∀F' H',Ext F H F' H' R0->E σ (ca c) none H'
 |none=>False
def tMs(K:PySem.W.Frag)(E:L2.St->XK)(ca:Str->Value)(m:PSt->Option RsL):TA:=λσ H Q=>∃F τ R,StR K F H σ τ R/\match m τ with
 |some (.v ts b)=>∀F' H' xs,Ext F H F' H' R0->Rps K (Gz b F' H' R) ts xs->Q xs H'
 |some (.x c)=>∀F' H',Ext F H F' H' R0->E σ (ca c) none H'
 |none=>False
def tMB(K:PySem.W.Frag)(E:L2.St->XK)(ca:Str->Value)(m:PSt->Option Rs):TT:=λσ H Q=>∃F τ R,StR K F H σ τ R/\match m τ with
 |some (.v (.bl c) _)=>∀F' H',Ext F H F' H' R0->Q c H'
 |some (.v _ _)=>False
 |some (.x c)=>∀F' H',Ext F H F' H' R0->E σ (ca c) none H'
 |none=>False
def za5(i:Nat):PSt->Option Rs:=λτ=>match τ[i]? with
 |some (some t)=>some (.v t (!t.sh))
 |_=>none
def mC(t:T):PSt->Option Rs:=λ_=>some (.v t false)
def zac:PSt->Option RsL:=λ_=>some (.v [] false)
def za4(m:PSt->Option Rs)(ms:PSt->Option RsL):PSt->Option RsL:=λτ=>match m τ with
 |some (.v t b)=>(match ms τ with
  |some (.v ts b')=>some (.v (t.share::ts) (b || b'))
  |r=>r)
 |some (.x c)=>some (.x c)
 |none=>none
def fin(b:Bool)(v:T):Option Rs:=if b && !v.flat then none else some (.v v false)
def mAp(g:List T->Option T)(ms:PSt->Option RsL):PSt->Option Rs:=λτ=>match ms τ with
 |some (.v ts b)=>(match g ts with
  |some v=>fin b v
  |none=>none)
 |some (.x c)=>some (.x c)
 |none=>none
def g2(g:T->T->Option T):List T->Option T
 |[t,u]=>g t u
 |_=>none
def g1(g:T->Option T):List T->Option T
 |[t]=>g t
 |_=>none
abbrev m1(g:T->Option T)(a:PSt->Option Rs):PSt->Option Rs:=mAp (g1 g) (za4 a zac)
abbrev m2(g:T->T->Option T)(a b:PSt->Option Rs):PSt->Option Rs:=mAp (g2 g) (za4 a (za4 b zac))
def mIf(c:PSt->Option Rs)(a b:PSt->Option Rs):PSt->Option Rs:=λτ=>match c τ with
 |some (.v (.bl true) _)=>a τ
 |some (.v (.bl false) _)=>b τ
 |some (.x c)=>some (.x c)
 |_=>none
def zf4(c:PSt->Option Rs):PSt->Option Rs:=λτ=>match c τ with
 |some (.v (.bl b) _)=>some (.v (.bl (!b)) false)
 |some (.x c)=>some (.x c)
 |_=>none
def zom(a b:PSt->Option Rs):PSt->Option Rs:=mIf a b (mC (.bl false))
def mOr(a b:PSt->Option Rs):PSt->Option Rs:=mIf a (mC (.bl true)) b
section
variable {X:Cx}{E:L2.St->XK}{ca:Str->Value}{σ:L2.St}{H:Hp}{m ma mb mc:PSt->Option Rs}{ms:PSt->Option RsL}{K:PySem.W.Frag}{a b c e:Expr}{es:List Expr}{pos:Pos}
theorem PE.weak{t t':TE}(h:PE X e t)(w:∀σ H Q,t' σ H Q->t σ H Q):PE X e t':=λpins s σ H Q I q=>h pins s σ H Q I (w σ H Q q)
theorem PT.weak{t t':TT}(h:PT X e t)(w:∀σ H Q,t' σ H Q->t σ H Q):PT X e t':=λpins s σ H Q I q=>h pins s σ H Q I (w σ H Q q)
theorem PA.weak{t t':TA}(h:PA X es t)(w:∀σ H Q,t' σ H Q->t σ H Q):PA X es t':=λpos pins s σ H Q I q=>h pos pins s σ H Q I (w σ H Q q)
theorem tM.mono{Q Q':VK}(h:tM K E ca m σ H Q)(w:∀x H',Q x H'->Q' x H'):tM K E ca m σ H Q':=by
 obtain⟨F,τ,R,S,q⟩:=h;refine⟨F,τ,R,S,?_⟩;cases hm:m τ with
 |none=>rw[hm]at q;exact q
 |some r =>
  rw[hm]at q;cases r with
  |v v b=>exact λF' H' x B e g=>w _ _ (q F' H' x B e g)
  |x c=>exact q
theorem zg8{Q:List V->Hp->Prop}(h:tMs K E ca zac σ H Q):Q [] H:=by
 obtain⟨F,τ,R,S,q⟩:=h;exact q F H [] (Ext.refl S.fh) .nil
theorem zeb{Q:List V->Hp->Prop}(h:tMs K E ca (za4 m ms) σ H Q):tM K E ca m σ H λx H1=>tMs K E ca ms σ H1 λxs H2=>Q (x::xs) H2:=by
 obtain⟨F,τ,R,S,q⟩:=h;refine⟨F,τ,R,S,?_⟩;unfold za4 at q;cases hm:m τ with
 |none=>rw[hm]at q;exact q
 |some r =>
  rw[hm]at q;cases r with
  |x c=>exact q
  |v t b =>
   intro F' H' x B e g;obtain⟨F2,e2,_,r2⟩:=Got.frz S e g;have S2:=S.ext e2;refine⟨F2,τ,R,S2,?_⟩;cases hs:ms τ with
   |none=>simp only[hs]at q
   |some r =>
    simp only[hs]at q;cases r with
    |x c=>exact λF3 H3 e3=>q F3 H3 (e2.trans0 e3)
    |v ts b' =>
     intro F3 H3 xs e3 rs;refine q F3 H3 (x::xs) (e2.trans0 e3) ?_;refine .cons (H:=H3) ((r2.frame (zGs S2 e3 (by intro z;simp[z])) λa z=>z.elim)) ?_
     cases b' with
     |true=>rw[Bool.or_true];exact rs
     |false =>
      rw[ydm];cases b with
      |false=>exact rs
      |true=>exact rs.same (zBi (b:=true) (S2.ext e3))
theorem zpz{g:List T->Option T}{Q:VK}(h:tM K E ca (mAp g ms) σ H Q):tMs K E ca ms σ H λxs H1=>rTn K g xs H1 Q:=by
 obtain⟨F,τ,R,S,q⟩:=h;refine⟨F,τ,R,S,?_⟩;unfold mAp at q;cases hs:ms τ with
 |none=>simp only[hs]at q
 |some r =>
  simp only[hs]at q;cases r with
  |x c=>exact q
  |v ts b =>
   intro F1 H1 xs e1 rs;have S1:=S.ext e1;cases hg:g ts with
   |none=>simp only[hg]at q
   |some v =>
    simp only[hg]at q;refine⟨Gz b F1 H1 R,ts,v,zGt S1,rs,hg,λF2 H2 z C e2 r2=>?_⟩
    unfold fin at q;cases b with
    |false=>exact q F2 H2 z C (e1.trans0 e2) r2
    |true =>
     cases hf:v.flat with
     |false =>
      rw[hf]at q;exact False.elim q
     |true =>
      rw[hf]at q;exact q F1 H2 z R0 (e1.grow e2.hh) (r2.flat_any hf)
theorem rTn2{g:T->T->Option T}{x y:V}{Q:VK}(h:rTn K (g2 g) [x,y] H Q):rT2 K g x y H Q:=by
 obtain⟨F,ts,v,fh,rs,e,q⟩:=h;unfold g2 at e;split at e
 ·obtain⟨x1,xs1,e1,r1,rs1⟩:=rs.inv;obtain⟨x2,xs2,e2,r2,rs2⟩:=rs1.inv;cases e1;cases e2;exact⟨F,_,_,v,fh,r1,r2,e,q⟩
 ·cases e
theorem rTn1{g:T->Option T}{x:V}{Q:VK}(h:rTn K (g1 g) [x] H Q):rT1 K g x H Q:=by
 obtain⟨F,ts,v,fh,rs,e,q⟩:=h;unfold g1 at e;split at e
 ·obtain⟨x1,xs1,e1,r1,rs1⟩:=rs.inv;cases e1;exact⟨F,_,v,fh,r1,e,q⟩
 ·cases e
theorem zw5{g:T->T->Option T}{Q:VK}(h:tM K E ca (mAp (g2 g) (za4 ma (za4 mb zac))) σ H Q):tOp (rT2 K g) (tM K E ca ma) (tM K E ca mb) σ H Q :=
 (zeb (zpz h)).mono λx H1 h1=>(zeb h1).mono λy H2 h2=>rTn2 (zg8 h2)
theorem zIm{g:T->Option T}{Q:VK}(h:tM K E ca (mAp (g1 g) (za4 ma zac)) σ H Q):tUn (rT1 K g) (tM K E ca ma) σ H Q :=
 (zeb (zpz h)).mono λx H1 h1=>rTn1 (zg8 h1)
theorem zJh{i:Nat}{x:Str}(hN:X.N[i]?=some x)(hv:Vis X.env.scope x)(hd:(x == ("__debug__":Str))=false)(hcd:(x == ("__classdict__":Str))=false):PE X (.Name x pos) (tM X.K E ca (za5 i)):=by
 refine PE.weak (zic hN hv hd hcd) λσ H Q h=>?_
 obtain⟨F,τ,R,S,q⟩:=h;unfold za5 at q;split at q
 ·rename_i t b hm;split at hm
  ·rename_i ht;cases hm;obtain⟨x,e,r⟩:=S.rep i t ht;refine⟨x,e,q F H x R0 (Ext.refl S.fh) ?_⟩;cases hs:t.sh with
   |true=>exact r.move hs (.refl _)
   |false=>exact⟨rfl,R i,λa z=>⟨i,z⟩,r⟩
  ·cases hm
 ·rename_i c hm;split at hm<;>cases hm
 ·exact q.elim
theorem zj5{t:T}{v:V}(h:PE X e (tC v))(r:∀F H,Rp X.K F H t v R0):PE X e (tM X.K E ca (mC t)):=PE.weak h λσ H Q h=>by
 obtain⟨F,τ,R,S,q⟩:=h;exact q F H v R0 (Ext.refl S.fh) (r _ _)
theorem zF1:PA X [] (tMs X.K E ca zac):=PA.weak zfw λσ H Q h=>zg8 h
theorem zty(ha:PE X e (tM X.K E ca m))(hr:PA X es (tMs X.K E ca ms))(hs:starEach (e::es) X.env=(false,eval e X.env)::starEach es X.env):PA X (e::es) (tMs X.K E ca (za4 m ms)) :=
 PA.weak (zc5 ha hr hs) λσ H Q h=>zeb h
theorem r_bin{op:Operator}{g:T->T->Option T}(ho:OpR X (binaryOp op) (rT2 X.K g))(ha:PE X a (tM X.K E ca ma))(hb:PE X b (tM X.K E ca mb)):PE X (.BinOp a op b pos) (tM X.K E ca (mAp (g2 g) (za4 ma (za4 mb zac)))) :=
 PE.weak (pe_op ho ha hb) λσ H Q h=>zw5 h
theorem r_un{op:UnaryOp}{g:T->Option T}(ho:UnR X (unaryOp op) (rT1 X.K g))(ha:PE X a (tM X.K E ca ma)):PE X (.UnaryOp op a pos) (tM X.K E ca (mAp (g1 g) (za4 ma zac))) :=
 PE.weak (pe_un ho ha) λσ H Q h=>zIm h
theorem r_cmp{op:CmpOp}{g:T->T->Option T}(ho:OpR X (compareOp op) (rT2 X.K g))(ha:PE X a (tM X.K E ca ma))(hb:PE X b (tM X.K E ca mb))(hm:behindInMarks op b=false):PE X (.Compare a [op] [b] pos) (tM X.K E ca (mAp (g2 g) (za4 ma (za4 mb zac)))) :=
 PE.weak (zFh ho ha hb hm) λσ H Q h=>zw5 h
theorem znp{Q:Bool->Hp->Prop}(h:tMB K E ca m σ H Q):tM K E ca m σ H λx H1=>∃k,x=.bl k/\Q k H1:=by
 obtain⟨F,τ,R,S,q⟩:=h;refine⟨F,τ,R,S,?_⟩;cases hm:m τ with
 |none=>rw[hm]at q;exact q
 |some r =>
  rw[hm]at q;cases r with
  |x c=>exact q
  |v v b =>
   cases v with
   |bl k =>
    intro F' H' x B e g
    have hx:x=.bl k:=by
     cases b with
     |true=>obtain⟨_,A,_,r⟩:=g;exact r.bl_inv
     |false=>exact(show Rp K F' H' _ _ _ from g).bl_inv
    exact⟨k,hx,q F' H' (e.mono λ_ z=>z.elim)⟩
   |_=>exact q.elim
theorem zJk{op:CmpOp}{g:T->T->Option T}(ho:OpR X (compareOp op) (rT2 X.K g))(ha:PE X a (tM X.K E ca ma))(hb:PE X b (tM X.K E ca mb))(hm:behindInMarks op b=false):PT X (.Compare a [op] [b] pos) (tMB X.K E ca (mAp (g2 g) (za4 ma (za4 mb zac)))) :=
 PT.weak (zF8 ho ha hb hm) λσ H Q h=>zw5 (znp h)
theorem zD1(h:PE X e (tM X.K E ca m))(he:∀whole,isTrue e X.env whole=(do let v <- whole;standAt e.pos;holding [v] (truthy v))):PT X e (tMB X.K E ca m):=PT.weak (zJv h he) λσ H Q h=>znp h
theorem zCp{Q:Bool->Hp->Prop}(h:tMB K E ca (mIf mc ma mb) σ H Q):tMB K E ca mc σ H λk H1=>if k=true then tMB K E ca ma σ H1 Q else tMB K E ca mb σ H1 Q:=by
 obtain⟨F,τ,R,S,q⟩:=h;refine⟨F,τ,R,S,?_⟩;unfold mIf at q;cases hm:mc τ with
 |none=>simp only[hm]at q
 |some r =>
  simp only[hm]at q;cases r with
  |x c=>exact q
  |v v b =>
   cases v with
   |bl k =>
    intro F1 H1 e1;have S1:=S.ext e1
    have key:∀{mm:PSt->Option Rs},(match mm τ with
      |some (.v (.bl c) _)=>∀F' H',Ext F H F' H' R0->Q c H'
      |some (.v _ _)=>False
      |some (.x c)=>∀F' H',Ext F H F' H' R0->E σ (ca c) none H'
      |none=>False)->tMB K E ca mm σ H1 Q:=λ{mm} q=>by
     refine⟨F1,τ,R,S1,?_⟩;cases hr:mm τ with
     |none=>simp only[hr]at q
     |some r =>
      simp only[hr]at q;cases r with
      |x c=>exact λF' H' e=>q F' H' (e1.trans0 e)
      |v v b =>
       cases v with
       |bl k=>exact λF' H' e=>q F' H' (e1.trans0 e)
       |_=>exact q.elim
    cases k with
    |true=>exact zMs (key q)
    |false=>exact zMt (key q)
   |_=>exact q.elim
theorem zIp{Q:VK}(h:tM K E ca (mIf mc ma mb) σ H Q):tMB K E ca mc σ H λk H1=>if k=true then tM K E ca ma σ H1 Q else tM K E ca mb σ H1 Q:=by
 obtain⟨F,τ,R,S,q⟩:=h;refine⟨F,τ,R,S,?_⟩;unfold mIf at q;cases hm:mc τ with
 |none=>simp only[hm]at q
 |some r =>
  simp only[hm]at q;cases r with
  |x c=>exact q
  |v v b =>
   cases v with
   |bl k =>
    intro F1 H1 e1;have S1:=S.ext e1
    have key:∀{mm:PSt->Option Rs},(match mm τ with
      |some (.v v b)=>∀F' H' x B,Ext F H F' H' B->Got K F' H' R v b x B->Q x H'
      |some (.x c)=>∀F' H',Ext F H F' H' R0->E σ (ca c) none H'
      |none=>False)->tM K E ca mm σ H1 Q:=λ{mm} q=>by
     refine⟨F1,τ,R,S1,?_⟩;cases hr:mm τ with
     |none=>simp only[hr]at q
     |some r =>
      simp only[hr]at q;cases r with
      |x c=>exact λF' H' e=>q F' H' (e1.trans0 e)
      |v v b=>exact λF' H' x B e g=>q F' H' x B (e1.trans0 e) g
    cases k with
    |true=>exact zMs (key q)
    |false=>exact zMt (key q)
   |_=>exact q.elim
theorem r_ife(hc:PT X c (tMB X.K E ca mc))(ha:PE X a (tM X.K E ca ma))(hb:PE X b (tM X.K E ca mb)):PE X (.IfExp c a b pos) (tM X.K E ca (mIf mc ma mb)):=PE.weak (zAq hc ha hb) λσ H Q h=>zIp h
theorem zEc{Q:Bool->Hp->Prop}(h:tMB K E ca (zf4 mc) σ H Q):tNot (tMB K E ca mc) σ H Q:=by
 obtain⟨F,τ,R,S,q⟩:=h;refine⟨F,τ,R,S,?_⟩;unfold zf4 at q;cases hm:mc τ with
 |none=>simp only[hm]at q
 |some r =>
  simp only[hm]at q;cases r with
  |x c=>exact q
  |v v b =>
   cases v with
   |bl k=>exact q
   |_=>exact q.elim
theorem zJj(hc:PT X c (tMB X.K E ca mc)):PT X (.UnaryOp .Not c pos) (tMB X.K E ca (zf4 mc)):=PT.weak (zJw hc) λσ H Q h=>zEc h
theorem zIn{Q:VK}(h:tM K E ca (zf4 mc) σ H Q):zIj (tM K E ca mc) σ H Q:=by
 obtain⟨F,τ,R,S,q⟩:=h;refine⟨F,τ,R,S,?_⟩;unfold zf4 at q;cases hm:mc τ with
 |none=>simp only[hm]at q
 |some r =>
  simp only[hm]at q;cases r with
  |x c=>exact q
  |v v b =>
   cases v with
   |bl k =>
    intro F' H' x B e g
    have hx:x=.bl k:=by
     cases b with
     |true=>obtain⟨_,A,_,r⟩:=g;exact r.bl_inv
     |false=>exact(show Rp K F' H' _ _ _ from g).bl_inv
    exact⟨k,hx,q F' H' _ R0 (e.mono λ_ z=>z.elim) (.bl _)⟩
   |_=>exact q.elim
theorem r_not(ha:PE X a (tM X.K E ca ma)):PE X (.UnaryOp .Not a pos) (tM X.K E ca (zf4 ma)):=PE.weak (zK7 ha) λσ H Q h=>zIn h
theorem zCn{Q:VK}(h:tM K E ca (mIf mc ma mb) σ H Q):tM K E ca mc σ H λx H1=>∃k,x=.bl k/\if k=true then tM K E ca ma σ H1 Q else tM K E ca mb σ H1 Q:=znp (zIp h)
theorem tM_c{t:T}{v:V}(r:∀F H,Rp K F H t v R0){Q:VK}(h:tM K E ca (mC t) σ H Q):Q v H:=by
 obtain⟨F,τ,R,S,q⟩:=h;exact q F H v R0 (Ext.refl S.fh) (r _ _)
theorem r_and{rest:List Expr}(ha:PE X a (tM X.K E ca ma))(hb:PE X (.BoolOp .And (b::rest) pos) (tM X.K E ca mb)):PE X (.BoolOp .And (a::b::rest) pos) (tM X.K E ca (zom ma mb)) :=
 PE.weak (zKd ha hb) λσ H Q h=>(zCn h).mono λx H1 ⟨k,e,q⟩=>⟨k,e,by
  cases k with
  |true=>exact q
  |false=>exact tM_c (E:=E) (ca:=ca) (λ_ _=>.bl _) q⟩
theorem r_or{rest:List Expr}(ha:PE X a (tM X.K E ca ma))(hb:PE X (.BoolOp .Or (b::rest) pos) (tM X.K E ca mb)):PE X (.BoolOp .Or (a::b::rest) pos) (tM X.K E ca (mOr ma mb)) :=
 PE.weak (pe_or ha hb) λσ H Q h=>(zCn h).mono λx H1 ⟨k,e,q⟩=>⟨k,e,by
  cases k with
  |true=>exact tM_c (E:=E) (ca:=ca) (λ_ _=>.bl _) q
  |false=>exact q⟩
theorem r_one{op:BoolOp}(ha:PE X a (tM X.K E ca ma)):PE X (.BoolOp op [a] pos) (tM X.K E ca ma):=zK6 ha
theorem tMB.mono{Q Q':Bool->Hp->Prop}(h:tMB K E ca m σ H Q)(w:∀x H',Q x H'->Q' x H'):tMB K E ca m σ H Q':=by
 obtain⟨F,τ,R,S,q⟩:=h;refine⟨F,τ,R,S,?_⟩;cases hm:m τ with
 |none=>rw[hm]at q;exact q
 |some r =>
  rw[hm]at q;cases r with
  |v v b =>
   cases v with
   |bl k=>exact λF' H' e=>w _ _ (q F' H' e)
   |_=>exact q.elim
  |x c=>exact q
theorem zEd{k:Bool}{Q:Bool->Hp->Prop}(h:tMB K E ca (mC (.bl k)) σ H Q):Q k H:=by
 obtain⟨F,τ,R,S,q⟩:=h;exact q F H (Ext.refl S.fh)
theorem PW.weak{t t':TT}(h:PW X e t)(w:∀σ H Q,t' σ H Q->t σ H Q):PW X e t':=λwh pins s σ H Q I q=>h wh pins s σ H Q I (w σ H Q q)
theorem zJg{rest:List Expr}(ha:PT X a (tMB X.K E ca ma))(hb:PW X (.BoolOp .And (b::rest) pos) (tMB X.K E ca mb)):PW X (.BoolOp .And (a::b::rest) pos) (tMB X.K E ca (zom ma mb)) :=
 PW.weak (zJu ha hb) λσ H Q h=>(zCp h).mono λk H1 q=>by
  cases k with
  |true=>exact q
  |false=>exact zEd (E:=E) (ca:=ca) q
theorem r_wor{rest:List Expr}(ha:PT X a (tMB X.K E ca ma))(hb:PW X (.BoolOp .Or (b::rest) pos) (tMB X.K E ca mb)):PW X (.BoolOp .Or (a::b::rest) pos) (tMB X.K E ca (mOr ma mb)) :=
 PW.weak (pw_or ha hb) λσ H Q h=>(zCp h).mono λk H1 q=>by
  cases k with
  |true=>exact zEd (E:=E) (ca:=ca) q
  |false=>exact q
theorem zF0(ha:PT X a (tMB X.K E ca ma)):PW X (.BoolOp .And [a] pos) (tMB X.K E ca ma):=zF5 ha
theorem zEz(ha:PT X a (tMB X.K E ca ma)):PW X (.BoolOp .Or [a] pos) (tMB X.K E ca ma):=zJt ha
end
end Pu
set_option Elab.async false
set_option linter.all false
set_option maxRecDepth 100000
namespace Pu
open PySem PySem.Spec PyProof.Rows L2 Zw Zx
section
variable {X:Cx}{pins:List (Addr×Obj)}{σ:L2.St}{H:Hp}{s:Shared}{h':Heap}
theorem zhq{t':Nat}{ch:List Addr}(I:Inv X pins σ H s)(k:∀b o,b∉ch->s.heap.get? b=some o->h'.get? b=some o)(f:∀b∈ch,zpv X pins H b):Inv X pins σ H { s with heap:=h',toks:=t' }:=by
 have nit:∀b u,H b=some u->b∉ch:=λb u e z=>by rw[(f b z).1]at e;cases e
 refine I.step (g':=s.gens) (d':=s.drawn) (ch:=ch) (λb hb=>?_) (λb o _ _ hc e _=>k b o hc e) (λb o _ _ hc e _=>⟨o.slots,k b o hc e⟩) (λ_ _ _ _ n=>n)
  (λb o hc e=>⟨o,k b o hc e⟩) (λ_ _ e=>e) (λ_ _ _ e=>e) (λb ps e=>⟨#[],by rw[e];simp⟩) (λm hm=>?_) (λb u e=>?_) I.bare
 ·obtain⟨_,f1,f2,f3,f4,f5⟩:=f b hb;exact⟨f3,f1,f4,f5⟩
 ·obtain⟨o,es,ep,ho,r⟩:=hm;exact⟨o,es,ep,k _ o (λz=>(f _ z).2.1 rfl) ho,r⟩
 ·refine(I.hok b u e).stay (λc v hc q=>k c v ?_ q) (λ_ q=>q) λ_ _ q=>q
  rcases hc with z|z
  ·rw[z];exact nit b u e
  ·exact nit c _ z
theorem zn5{t':Nat}{ch:List Addr}{p:Addr}{o:HO}(I:Inv X pins σ H s)(k:∀b o,b∉ch->s.heap.get? b=some o->h'.get? b=some o)(f:∀b∈ch,zpv X pins H b)(hp:s.heap.objs.size<=p)(new:zbo X.prog X.w (upd H p o) h' p o) :
  Inv X pins σ (upd H p o) { s with heap:=h',toks:=t' }:=by
 have hn:H p=none:=I.hok.fresh hp;have nit:∀b u,H b=some u->b∉ch:=λb u e z=>by rw[(f b z).1]at e;cases e
 have old:∀b ob,s.heap.get? b=some ob->b≠p:=λb ob e z=>by
  subst z;exact absurd (yad e) (Nat.not_lt.mpr hp)
 refine I.step (g':=s.gens) (d':=s.drawn) (ch:=ch) (λb hb=>?_) (λb o _ _ hc e _=>k b o hc e) (λb o _ _ hc e _=>⟨o.slots,k b o hc e⟩) (λb ob hc e n=>by rw[zag (old b ob e)];exact n)
  (λb o hc e=>⟨o,k b o hc e⟩) (λb xs e=>by rw[zag (zaf e hn)];exact e) (λb o u e=>by rw[zag (zaf e hn)];exact e) (λb ps e=>⟨#[],by rw[zag (zaf e hn),e];simp⟩) (λm hm=>?_) (λb u e=>?_) I.bare
 ·obtain⟨_,f1,f2,f3,f4,f5⟩:=f b hb;exact⟨f3,f1,f4,f5⟩
 ·obtain⟨o,es,ep,ho,r⟩:=hm;exact⟨o,es,ep,k _ o (λz=>(f _ z).2.1 rfl) ho,r⟩
 ·by_cases hb:b=p
  ·subst hb;rw[zar]at e;cases e;exact new
  ·rw[zag hb]at e;refine(I.hok b u e).stay (λc v hc q=>k c v ?_ q) (λc q=>by rw[zag (zaf q hn)];exact q) λc xs q=>by rw[zag (zaf q hn)];exact q
   rcases hc with z|z
   ·rw[z];exact nit b u e
   ·exact nit c _ z
theorem zDs{p b:Addr}{o:HO}(f:zpv X pins H b)(h:b≠p):zpv X pins (upd H p o) b:=⟨by rw[zag h];exact f.1,f.2⟩
end
def Ite(K:PySem.W.Frag)(l:Addr):It :=
 ⟨λi H=>∃xs x,SqL K H l xs/\xs[i]?=some x,λi H x H'=>∃p y,x=.ref p/\H p=none/\H'=upd H p (.tup [.int i,y])/\∀xs,SqL K H l xs->xs[i]?=some y,λi H=>∃xs,SqL K H l xs/\xs.length<=i⟩
theorem zw1{P:Program}{w:World}{K:PySem.W.Frag}{elts:List Expr}{kk:Nat}{tpos:Pos}(l e it:Addr)(hei:e≠it) :
  Turn P w K (.Tuple elts kk tpos) (Ite K l) [e,it] e (λi h=>(∃old,IsEnum h e it i old)/\h.IsListIter it l i) where
 mem:=by simp
 obj:=λi h st b hb=>by
  obtain⟨⟨old,he⟩,o,hi,hc,hd⟩:=st;obtain rfl|hb:=yaj.mp hb
  ·exact⟨_,he,λv z=>by
    have z':Data.fields _=Data.cell v:=z;cases z'⟩
  ·have q:b=it:=by simpa using hb
   subst q;exact⟨o,hi,λv z=>by rw[hd]at z;cases z⟩
 keep:=λi h h' st k=>by
  obtain⟨⟨old,he⟩,hi⟩:=st;exact⟨⟨old,k e (by simp) _ he⟩,hi.at λo q=>k it (by simp) o q⟩
 item:=by
  intro X hP hw hK hc i pins s σ H E I hf st hg;subst hP hw hK;obtain⟨⟨old,he⟩,hit⟩:=st;obtain⟨xs,x,hq,hx⟩:=hg;obtain⟨its,rv,p,hz⟩:=I.list hq;obtain⟨u,hu,ru⟩:=rv.get hx;have elt:e<s.heap.objs.size:=yad he;have ilt:it<s.heap.objs.size:=by obtain⟨o,q,_⟩:=hit;exact yad q
  have hn:H s.heap.objs.size=none:=I.hok.fresh (yaa _);refine wpAny_pyNext_enum_item he hit p.isList (x:=u) (by simpa using hu) hei λh' ho hit' hT hsz hk=>?_
  have I1:Inv X pins σ (upd H s.heap.objs.size (.tup [.int i,x])) { s with heap:=h',toks:=s.toks+1 }:=by
   refine zn5 (ch:=[e,it]) I (λb o hb q=>hk b o (λz=>hb (by simp[z])) (λz=>hb (by simp[z])) q) hf (yaa _) ?_
   exact⟨by simp only[yao,yaw];rw[sizeLine_eq];decide,[.int i s.toks,u],.cons ⟨_,rfl⟩ (.cons ru .nil),_,hT,rfl,0,rfl⟩
  have f1:∀b∈[e,it],zpv X pins (upd H s.heap.objs.size (.tup [.int i,x])) b:=λb hb=>zDs (hf b hb) (by
   obtain rfl|hb:=yaj.mp hb
   ·exact yar elt
   ·have q:b=it:=by simpa using hb
    subst q;exact yar ilt)
  refine⟨.ref s.heap.objs.size,rfl,wpAny_letOwnedTupleGo_enum ho λh2 he2 hs2=>?_⟩
  refine⟨.ref s.heap.objs.size,_,zhq (t':=s.toks+1) (ch:=[e]) I1 (λb o hb q=>hs2.extBut b o (λz=>hb (by simp[z])) q) (λb hb=>f1 b (by simp at hb;simp[hb])),rfl,⟨_,x,rfl,hn,rfl,λys hy=>by rw[I.list_inj hy hq];exact hx⟩,⟨⟨_,by simpa using he2⟩,hit'.extBut hs2.extBut hei.symm⟩,λb hb=>(f1 b hb).1⟩
 done:=by
  intro X hP hw hK hc i pins s σ H E I hf st hg;subst hP hw hK;obtain⟨⟨old,he⟩,hit⟩:=st;obtain⟨xs,hq,hx⟩:=hg;obtain⟨its,rv,p,hz⟩:=I.list hq;have hl:=rv.length;exact wpAny_pyNext_enum_end (I.ok.hd hc) he hit p.isList (by simp;omega) λh' eb=>⟨rfl,zhq (t':=s.toks) (ch:=[it]) I (λb o hb q=>eb b o (λz=>hb (by simp[z])) q) (λb hb=>hf b (by simp at hb;simp[hb]))⟩
 self:=λ_ _ _ _ _ st h=>wpAny_pyIter_enum st.1.choose_spec h
def Itz(K:PySem.W.Frag)(l1 l2:Addr):It :=
  ⟨λi H=>∃xs x ys y,SqL K H l1 xs/\xs[i]?=some x/\SqL K H l2 ys/\ys[i]?=some y,
   λi H x H'=>∃p y z,x=.ref p/\H p=none/\H'=upd H p (.tup [y,z])/\(∀xs,SqL K H l1 xs->xs[i]?=some y)/\∀xs,SqL K H l2 xs->xs[i]?=some z,
   λi H=>∃xs ys,SqL K H l1 xs/\SqL K H l2 ys/\(xs.length<=i\/ys.length<=i)⟩
theorem zzp{P:Program}{w:World}{K:PySem.W.Frag}{elts:List Expr}{kk:Nat}{tpos:Pos}(z TI TO i1 i2 l1 l2:Addr)(D:ZipApart z TI TO i1 i2 l1 l2) :
  Turn P w K (.Tuple elts kk tpos) (Itz K l1 l2) [z,TI,TO,i1,i2] z (λi h=>IsZip h z TI TO .none/\IsPair h TI (.ref i1) (.ref i2)/\(∃a b,IsPair h TO a b)/\h.IsListIter i1 l1 i/\h.IsListIter i2 l2 i) where
 mem:=by simp
 obj:=λi h st b hb=>by
  obtain⟨hz,hTI,⟨a,c,hTO⟩,⟨o1,e1,_,d1⟩,⟨o2,e2,_,d2⟩⟩:=st;simp only[yaj,ybx,or_false]at hb;rcases hb with rfl|rfl|rfl|rfl|rfl
  ·exact⟨_,hz,λv z=>by
    have z':Data.fields _=Data.cell v:=z;cases z'⟩
  ·exact⟨_,hTI,λv z=>by
    have z':Data.seq _ _=Data.cell v:=z;cases z'⟩
  ·exact⟨_,hTO,λv z=>by
    have z':Data.seq _ _=Data.cell v:=z;cases z'⟩
  ·exact⟨o1,e1,λv z=>by rw[d1]at z;cases z⟩
  ·exact⟨o2,e2,λv z=>by rw[d2]at z;cases z⟩
 keep:=λi h h' st k=>by
  obtain⟨hz,hTI,⟨a,c,hTO⟩,h1,h2⟩:=st;exact⟨k z (by simp) _ hz,k TI (by simp) _ hTI,⟨a,c,k TO (by simp) _ hTO⟩,h1.at λo q=>k i1 (by simp) o q,h2.at λo q=>k i2 (by simp) o q⟩
 item:=by
  intro X hP hw hK hc i pins s σ H E I hf st hg;subst hP hw hK;obtain⟨hz,hTI,⟨a,c,hTO⟩,h1,h2⟩:=st;obtain⟨xs,x,ys,y,hq,hx,hq2,hy⟩:=hg;obtain⟨its,rv,p,hzz⟩:=I.list hq;obtain⟨its2,rv2,p2,hzz2⟩:=I.list hq2;obtain⟨u,hu,ru⟩:=rv.get hx;obtain⟨u2,hu2,ru2⟩:=rv2.get hy;have hn:H s.heap.objs.size=none:=I.hok.fresh (yaa _)
  have lt:∀b∈[z,TI,TO,i1,i2],b≠s.heap.objs.size:=λb hb=>by
   simp only[yaj,ybx,or_false]at hb;rcases hb with rfl|rfl|rfl|rfl|rfl
   ·exact yar (yad hz)
   ·exact yar (yad hTI)
   ·exact yar (yad hTO)
   ·obtain⟨o,q,_⟩:=h1;exact yar (yad q)
   ·obtain⟨o,q,_⟩:=h2;exact yar (yad q)
  refine wpAny_pyNext_zip_item D hz hTI hTO h1 h2 p.isList p2.isList (x:=u) (y:=u2) (by simpa using hu) (by simpa using hu2) λh' a1 a2 a3 a4 a5 a6 hk=>?_
  have I1:Inv X pins σ (upd H s.heap.objs.size (.tup [x,y])) { s with heap:=h',toks:=s.toks }:=by
   refine zn5 (ch:=[z,TI,TO,i1,i2]) I (λb o hb q=>hk b o (λz=>hb (by simp[z])) (λz=>hb (by simp[z])) (λz=>hb (by simp[z])) (λz=>hb (by simp[z])) q) hf (yaa _) ?_
   exact⟨by simp only[yao,yaw];rw[sizeLine_eq];decide,[u,u2],.cons ru (.cons ru2 .nil),_,a5,rfl,0,rfl⟩
  have f1:∀b∈[z,TI,TO,i1,i2],zpv X pins (upd H s.heap.objs.size (.tup [x,y])) b:=λb hb=>zDs (hf b hb) (lt b hb)
  refine⟨.ref s.heap.objs.size,rfl,wpAny_letOwnedTupleGo_zip a1 λh3 hz3 hs3=>?_⟩
  refine⟨.ref s.heap.objs.size,_,zhq (t':=s.toks) (ch:=[z]) I1 (λb o hb q=>hs3.extBut b o (λz=>hb (by simp[z])) q) (λb hb=>f1 b (by simp at hb;simp[hb])),rfl,⟨_,x,y,rfl,hn,rfl,(λzs hy'=>by rw[I.list_inj hy' hq];exact hx),λzs hy'=>by rw[I.list_inj hy' hq2];exact hy⟩,?_,λb hb=>(f1 b hb).1⟩
  exact⟨hz3,hs3.extBut _ _ D.TIz (hk _ _ D.TIz D.TITO D.TIi1 D.TIi2 hTI),⟨_,_,hs3.extBut _ _ D.TOz a2⟩,a3.extBut hs3.extBut D.i1z,a4.extBut hs3.extBut D.i2z⟩
 done:=by
  intro X hP hw hK hc i pins s σ H E I hf st hg;subst hP hw hK;obtain⟨hz,hTI,⟨a,c,hTO⟩,h1,h2⟩:=st;obtain⟨xs,ys,hq,hq2,hx⟩:=hg;obtain⟨its,rv,p,hzz⟩:=I.list hq;obtain⟨its2,rv2,p2,hzz2⟩:=I.list hq2;have hl:=rv.length;have hl2:=rv2.length;refine wpAny_pyNext_zip_end (I.ok.hd hc) D hz hTI hTO h1 h2 p.isList p2.isList ?_ λh' hk=>⟨rfl,zhq (t':=s.toks) (ch:=[z,TI,TO,i1,i2]) I (λb o hb q=>hk b o (λz=>hb (by simp[z])) (λz=>hb (by simp[z])) (λz=>hb (by simp[z])) (λz=>hb (by simp[z])) q) hf⟩
  rcases hx with hx|hx
  ·exact .inl (by simp;omega)
  ·exact .inr (by simp;omega)
 self:=λ_ _ _ _ _ st h=>wpAny_pyIter_zip st.1 h
section
variable {X:Cx}{elts:List Expr}{kk:Nat}{tpos:Pos}
def iEnum(K:PySem.W.Frag)(ta:TA):TI:=λσ H R=>ta σ H λvs H1=>∃a,vs=[.ref a]/\(∃xs,SqL K H1 a xs)/\R (Ite K a) H1
theorem zFe{a:Expr}{ta:TA}{p pos:Pos}(hg:Gl X "enumerate")(hm:X.mg "enumerate"=none)(ha:PA X [a] ta)(hs:starEach [a] X.env=[(false,eval a X.env)]):PI X (.Tuple elts kk tpos) (.Call (.Name "enumerate" p) [a] [] pos) (iEnum X.K ta):=by
 intro pins s σ H R I h;refine Call_ (zjp I hg hm boot_enumerate (ybk (thn (ha pos pins s σ H _ I h) λus s1 ⟨vs,H1,I1,r1,q1⟩=>?_) hs rfl))
 obtain⟨l,e,⟨xs,hq⟩,q⟩:=q1;subst e;obtain⟨u,rfl,ru⟩:=zku r1;cases ru;obtain⟨its,rv,pl,hz⟩:=I1.list hq;have llt:l<s1.heap.objs.size:=by obtain⟨o,n,e,_⟩:=pl;exact yad e
 refine call_enumerate_list pl.isList λh' he hit hsz hk=>?_
 have I2:Inv X pins σ H1 { s1 with heap:=h',toks:=s1.toks }:=I1.kept hk
 refine wpAny_pyIter_enum he ⟨s1.heap.objs.size+1,[s1.heap.objs.size+1,s1.heap.objs.size],_,_,H1,rfl,I2,zw1 l _ _ (by simp),⟨⟨_,he⟩,hit⟩,λb hb=>?_,q⟩
 have hb':s1.heap.objs.size<=b:=by
  obtain rfl|hb:=yaj.mp hb
  ·exact yce _
  ·have e:b=s1.heap.objs.size:=by simpa using hb
   subst e;exact yaa _
 exact I1.fpOk hb' (I1.hok.fresh hb')
def iZip(K:PySem.W.Frag)(ta:TA):TI:=λσ H R=>ta σ H λvs H1=>∃a b,vs=[.ref a,.ref b]/\(∃xs,SqL K H1 a xs)/\(∃xs,SqL K H1 b xs)/\R (Itz K a b) H1
theorem zK0{a b:Expr}{ta:TA}{p pos:Pos}(hg:Gl X "zip")(hm:X.mg "zip"=none)(ha:PA X [a,b] ta)(hs:starEach [a,b] X.env=[(false,eval a X.env),(false,eval b X.env)])(hs2:starEach [b] X.env=[(false,eval b X.env)]):PI X (.Tuple elts kk tpos) (.Call (.Name "zip" p) [a,b] [] pos) (iZip X.K ta):=by
 intro pins s σ H R I h;refine Call_ (zjp I hg hm boot_zip (ybk (thn (ha pos pins s σ H _ I h) λus s1 ⟨vs,H1,I1,r1,q1⟩=>?_) (by rw[hs,hs2]) (by rw[hs2];rfl)))
 obtain⟨l1,l2,e,⟨xs,hq⟩,⟨ys,hq2⟩,q⟩:=q1;subst e;obtain⟨u,u2,rfl,ru,ru2⟩:=zux r1;cases ru;cases ru2;obtain⟨its,rv,pl,hz⟩:=I1.list hq;obtain⟨its2,rv2,pl2,hz2⟩:=I1.list hq2;have llt:l1<s1.heap.objs.size:=by obtain⟨o,n,e,_⟩:=pl;exact yad e
 have llt2:l2<s1.heap.objs.size:=by obtain⟨o,n,e,_⟩:=pl2;exact yad e
 refine call_zip_2 pl.isList pl2.isList λh' a1 a2 a3 a4 a5 a6 hk=>?_
 have I2:Inv X pins σ H1 { s1 with heap:=h',toks:=s1.toks }:=I1.kept hk
 have D:ZipApart (s1.heap.objs.size+4) (s1.heap.objs.size+2) (s1.heap.objs.size+3) s1.heap.objs.size (s1.heap.objs.size+1) l1 l2:=by
  have n1:∀k:Nat,l1≠s1.heap.objs.size+k:=λk z=>yb9 _ (yak llt (z▸ycg _ _))
  have n2:∀k:Nat,l2≠s1.heap.objs.size+k:=λk z=>yb9 _ (yak llt2 (z▸ycg _ _))
  refine⟨?_,?_,?_,?_,?_,?_,?_,?_,?_,?_,n1 4,n1 3,n1 0,n1 1,n2 4,n2 3,n2 0,n2 1⟩<;>intro z<;>simp at z
 refine wpAny_pyIter_zip a1 ⟨_,[s1.heap.objs.size+4,s1.heap.objs.size+2,s1.heap.objs.size+3,s1.heap.objs.size,s1.heap.objs.size+1],_,_,H1,rfl,I2,zzp _ _ _ _ _ l1 l2 D,⟨a1,a2,⟨_,_,a3⟩,a4,a5⟩,λb hb=>?_,q⟩
 have hb':s1.heap.objs.size<=b:=by
  simp only[yaj,ybx,or_false]at hb;rcases hb with rfl|rfl|rfl|rfl|rfl
  ·exact ycg _ _
  ·exact ycg _ _
  ·exact ycg _ _
  ·exact yaa _
  ·exact ycg _ _
 exact I1.fpOk hb' (I1.hok.fresh hb')
end
end Pu
set_option Elab.async false
set_option linter.all false
set_option maxRecDepth 100000
namespace Pu
open PySem PySem.Spec PyProof.Rows L2 Zw Zx
section
variable {X:Cx}{pins:List (Addr×Obj)}{σ:L2.St}{H:Hp}{s:Shared}{a:Addr}{o:Obj}{kvs:List (Key×V)}
theorem zL9{vs:List (Key×Value)}(r:KV kvs vs):kvs.length=vs.length:=ydl (show Paired _ kvs vs from r)
end
section
variable {X:Cx}{o:Expr}{to:TE}{ap cp:Pos}{elts:List Expr}{kk:Nat}{tpos:Pos}
end
end Pu
set_option Elab.async false
set_option linter.all false
set_option maxRecDepth 100000
namespace Pu
open PySem PySem.Spec PyProof.Rows L2 Zw Zx
def zkv(ifs:List Expr)(env:Env):Sem Bool:=forIn ifs true λc r=>if r=true then do let ok <- isTrue c env (eval c env);pure (ForInStep.yield ok) else pure (ForInStep.yield r)
def PTs(X:Cx)(ifs:List Expr)(t:TT):Prop :=
 ∀(pins:List (Addr×Obj)) (s:Shared) (σ:L2.St) (H:Hp) (Q:Bool->Hp->Prop),Inv X pins σ H s->t σ H Q->wpAny (model X.prog X.w) X.A (zkv ifs X.env) (TP X pins σ Q) X.xe s
theorem zF7{X:Cx}:PTs X [] (λ_ H Q=>Q true H):=λpins s σ H Q I h=>wpAny_pure ⟨H,I,h⟩
theorem zF6{X:Cx}{c:Expr}{t:TT}(h:PT X c t):PTs X [c] t:=λpins s σ H Q I q=>by
 have e:zkv [c] X.env=(isTrue c X.env (eval c X.env) >>= λok=>pure ok):=by
  unfold zkv;simp[List.forIn_cons]
 rw[e];exact wpAny_bind (wpAny_mono (h pins s σ H Q I q) (λb s1 h1=>wpAny_pure h1) λ_ _ z=>z)
theorem zvk{elt target iter:Expr}{ifs:List Expr}{scope:Scope}{pos:Pos}{it acc:Value}{env:Env}:compTurn (.ListComp elt [⟨target,iter,ifs,0⟩] scope pos) 0 it acc env=(standAt iter.pos >>= λ_=>pyNext it >>= λr=>match r with
  |none=>pure (.done .next)
  |some u=>letOwnedTupleGo target it u >>= λ_=>assign target env u >>= λ_=>zkv ifs env >>= λok =>
   if ok=true then ((eval elt env >>= λx=>call (.builtin "list.append") [acc,x] >>= λ_=>pure ()) >>= λ_=>again (.compLoop (.ListComp elt [⟨target,iter,ifs,0⟩] scope pos) 0 it acc env))
   else again (.compLoop (.ListComp elt [⟨target,iter,ifs,0⟩] scope pos) 0 it acc env)):=by rfl
theorem zvl{prog:Program}{w:World}{A:Around}{R:Result->Shared->Prop}{s:Shared}{elt target iter:Expr}{ifs:List Expr}{scope:Scope}{pos:Pos}{it acc:Value}{env:Env}{NE:Value->Shared->Prop}(hN:NE=notedBy (model prog w) A env λe s'=>R (.error e) s')(I:Nat->Shared->Prop)
  (hturn : ∀ n s, I n s -> wpAny (model prog w) A (pyNext it) (fun r s₁ => match r with
   |none=>R (.ok .next) s₁
   |some v=>wpAny (model prog w) A (letOwnedTupleGo target it v) (λ_ s₁'=>wpAny (model prog w) A (assign target env v) (λ_ s₂=>wpAny (model prog w) A (zkv ifs env) (λok s₂'=>if ok=true then wpAny (model prog w) A (eval elt env) (λx s₃ =>
     wpAny (model prog w) A (call (.builtin "list.append") [acc,x]) (λ_ s₄=>∃m,m<n/\I m s₄) NE s₃)
     NE s₂' else ∃m,m<n/\I m s₂') NE s₂) NE s₁') NE s₁) NE s)
  (k:Nat) (hk:I k s):codeAny (model prog w) A (.compLoop (.ListComp elt [⟨target,iter,ifs,0⟩] scope pos) 0 it acc env) R s:=by
 subst hN;refine codeAny_loop rfl I (λn s hI=>?_) k hk
 show wpAny _ _ ((compTurn (.ListComp elt [⟨target,iter,ifs,0⟩] scope pos) 0 it acc env).onRaise (λy=>do noteFrame y env;theTreesLotGoes y)) _ _ s
 refine wpAny_noted ?_;rw[zvk];refine wpAny_bind (wpAny_standAt (wpAny_bind (wpAny_mono (hturn n s hI) (λr s₁ h₁=>?_) λ_ _ z=>z)))
 cases r with
 |none=>exact wpAny_pure h₁
 |some v =>
  refine wpAny_bind (wpAny_mono h₁ (λ_ s₁' h₁'=>?_) λ_ _ z=>z)
  refine wpAny_bind (wpAny_mono h₁' (λ_ s₂ h₂=>wpAny_bind (wpAny_mono h₂ (λok s₂' h₂'=>?_) λ_ _ z=>z)) λ_ _ z=>z)
  cases ok with
  |false =>
   rw[if_neg (by decide)]at h₂' ⊢
   exact wpAny_pure ⟨rfl,h₂'⟩
  |true =>
   rw[if_pos rfl]at h₂' ⊢;exact wpAny_bind (wpAny_bind (wpAny_mono h₂' (λx s₃ h₃=>wpAny_bind (wpAny_mono h₃ (λ_ s₄ h₄=>wpAny_pure (wpAny_pure ⟨rfl,h₄⟩)) λ_ _ z=>z)) λ_ _ z=>z))
theorem zjj(env:Env):∀(names:List (Str×NameKind)),(∀y∈names,y.2=.free->∃c,env.cells.lookup y.1=some c)->∀acc:List (Str×Addr),∃cl:List (Str×Addr),
  (forIn names acc λ(x:Str×NameKind) (r:List (Str×Addr))=>(if (x.2 == NameKind.free)=true then do let a <- cellOf env x.1;pure (ForInStep.yield ((x.1,a)::r)) else pure (ForInStep.yield r):Sem (ForInStep (List (Str×Addr)))))=(pure cl:Sem (List (Str×Addr))) /\
  (∀y c,cl.lookup y=some c->acc.lookup y=some c\/env.cells.lookup y=some c)/\(∀y∈names,y.2=.free->∃c,cl.lookup y.1=some c)/\∀y c,acc.lookup y=some c->∃c',cl.lookup y=some c'
 |[],_,acc=>⟨acc,rfl,λ_ _ e=>.inl e,(λ_ z=>by cases z),λ_ c e=>⟨c,e⟩⟩
 |(n,k)::r,h,acc=>by
  rw[List.forIn_cons]
  by_cases hk:k=.free
  ·subst hk;obtain⟨c,hc⟩:=h (n,.free) (ya8 ..) rfl;have e1:cellOf env n=pure c:=by unfold cellOf;rw[hc]
   obtain⟨cl,e,h1,h2,h3⟩:=zjj env r (λy hy=>h y (ya6 _ hy)) ((n,c)::acc)
   refine⟨cl,?_,λy c' q=>?_,λy hy hf=>?_,λy c' q=>?_⟩
   ·simp only[beq_self_eq_true,if_true,e1,pure_bind];exact e
   ·rcases h1 y c' q with z|z
    ·rw[yb1]at z;cases hy:y == n with
     |true =>
      rw[hy]at z;cases z;exact .inr (by rw[eq_of_beq hy];exact hc)
     |false=>rw[hy]at z;exact .inl z
    ·exact .inr z
   ·obtain rfl|hy:=yaj.mp hy
    ·exact h3 n c (by simp)
    ·exact h2 y hy hf
   ·by_cases hy:y=n
    ·subst hy;exact h3 y c (by simp)
    ·exact h3 y c' (by rw[yb1,beq_eq_false_iff_ne.mpr hy];exact q)
  ·have hk':(k == NameKind.free)=false:=beq_eq_false_iff_ne.mpr hk;obtain⟨cl,e,h1,h2,h3⟩:=zjj env r (λy hy=>h y (ya6 _ hy)) acc
   refine⟨cl,?_,h1,λy hy hf=>?_,h3⟩
   ·simp only[hk',pure_bind];exact e
   ·obtain rfl|hy:=yaj.mp hy
    ·exact absurd hf hk
    ·exact h2 y hy hf
theorem zt8(scope:Scope)(env:Env)(h:∀y∈scope.names,y.2=.free->∃c,env.cells.lookup y.1=some c):∃cl,closureFor scope env=pure cl/\(∀y c,cl.lookup y=some c->env.cells.lookup y=some c)/\∀y∈scope.names,y.2=.free->∃c,cl.lookup y.1=some c:=by
 obtain⟨cl,e,h1,h2,_⟩:=zjj env scope.names h [];refine⟨cl,?_,λy c q=>?_,h2⟩
 ·have e2:closureFor scope env=(forIn scope.names [] λ(x:Str×NameKind) (r:List (Str×Addr))=>(if (x.2 == NameKind.free)=true then do let a <- cellOf env x.1;pure (ForInStep.yield ((x.1,a)::r)) else pure (ForInStep.yield r):Sem (ForInStep (List (Str×Addr))))) >>= pure:=rfl
  rw[e2,e,pure_bind]
 ·rcases h1 y c q with z|z
  ·cases z
  ·exact z
theorem zm6:∀(names:List (Str×NameKind)) (h:Heap) (acc:List (Str×Addr)) (y:Str) (c:Addr),(cellsFrom h.objs.size names acc).lookup y=some c->acc.lookup y=some c\/(h.objs.size<=c/\(pushCells h names).IsCell c none/\(y,NameKind.cell)∈names)
 |[],h,acc,y,c,e=>.inl e
 |(n,k)::r,h,acc,y,c,e=>by
  unfold cellsFrom at e;unfold pushCells;split at e
  ·rename_i hk;rw[if_pos hk];have ez:(h.push { cls:=.type "cell",data:=.cell none }).objs.size=h.objs.size+1:=yc2 ..;rw[<- ez]at e
   rcases zm6 r _ _ y c e with q|⟨q1,q2,q3⟩
   ·rw[yb1]at q;cases hy:y == n with
    |true =>
     rw[hy]at q;cases q;have e1:y=n:=eq_of_beq hy;subst e1;exact .inr ⟨yaa _,⟨_,pushCells_keeps _ _ _ _ (yav _ rfl),rfl⟩,by rw[eq_of_beq hk];exact ya8 ..⟩
    |false=>rw[hy]at q;exact .inl q
   ·exact .inr ⟨by rw[ez]at q1;exact yae (yce _) q1,q2,ya6 _ q3⟩
  ·rename_i hk;rw[if_neg hk]
   rcases zm6 r h acc y c e with q|⟨q1,q2,q3⟩
   ·exact .inl q
   ·exact .inr ⟨q1,q2,ya6 _ q3⟩
theorem zm7:∀(names:List (Str×NameKind)) (h:Heap) (acc:List (Str×Addr)),(∀y z c,acc.lookup y=some c->acc.lookup z=some c->y=z)->(∀y c,acc.lookup y=some c->c<h.objs.size) ->
  ∀y z c,(cellsFrom h.objs.size names acc).lookup y=some c->(cellsFrom h.objs.size names acc).lookup z=some c->y=z
 |[],h,acc,hi,_=>hi
 |(n,k)::r,h,acc,hi,hl=>by
  unfold cellsFrom;split
  ·have ez:(h.push { cls:=.type "cell",data:=.cell none }).objs.size=h.objs.size+1:=yc2 ..;rw[<- ez];refine zm7 r _ _ (λy z c h1 h2=>?_) (λy c h1=>?_)
   ·rw[yb1]at h1 h2;cases hy:y == n with
    |true =>
     rw[hy]at h1;cases h1;cases hz:z == n with
     |true=>rw[eq_of_beq hy,eq_of_beq hz]
     |false =>
      rw[hz]at h2;exact absurd (hl z _ h2) (yb9 _)
    |false =>
     rw[hy]at h1;cases hz:z == n with
     |true =>
      rw[hz]at h2;cases h2;exact absurd (hl y _ h1) (yb9 _)
     |false=>rw[hz]at h2;exact hi y z c h1 h2
   ·rw[yb1]at h1;rw[ez];cases hy:y == n with
    |true=>rw[hy]at h1;cases h1;exact ycq _
    |false=>rw[hy]at h1;exact ycc (hl y c h1)
  ·exact zm7 r h acc hi hl
theorem zm5:∀(names:List (Str×NameKind)) (n lo:Nat) (acc:List (Str×Addr)) (y:Str) (c:Addr),lo<=n->((y,NameKind.cell)∈names\/∃c0,acc.lookup y=some c0/\lo<=c0)->(cellsFrom n names acc).lookup y=some c->lo<=c
 |[],n,lo,acc,y,c,hn,h,e=>by
  rcases h with h|⟨c0,h1,h2⟩
  ·cases h
  ·have e':acc.lookup y=some c:=e;rw[h1]at e';cases e';exact h2
 |(m,k)::r,n,lo,acc,y,c,hn,h,e=>by
  unfold cellsFrom at e;split at e
  ·refine zm5 r (n+1) lo _ y c (Nat.le_succ_of_le hn) ?_ e
   by_cases hy:y=m
   ·subst hy;exact .inr ⟨n,by simp,hn⟩
   ·rcases h with h|⟨c0,h1,h2⟩
    ·rcases yaj.mp h with z|z
     ·cases z;exact absurd rfl hy
     ·exact .inl z
    ·exact .inr ⟨c0,by rw[yb1,beq_eq_false_iff_ne.mpr hy];exact h1,h2⟩
  ·rename_i hk;refine zm5 r n lo acc y c hn ?_ e
   rcases h with h|h
   ·rcases yaj.mp h with z|z
    ·cases z;exact absurd rfl hk
    ·exact .inl z
   ·exact .inr h
theorem zqi{M:Model}{A:Around}{E:Value->Shared->Prop}{s:Shared}{scope:Scope}{globals:Addr}{cl:List (Str×Addr)}{qual:Str}{func:Option Addr}{code:Value}{outer:Env}{builtins:Addr}{Q:Env->Shared->Prop}
  (hQ:Q (newEnv scope s.heap.objs.size globals (cellsFrom (s.heap.objs.size+1) scope.names cl) qual func code (some outer) builtins) { s with heap:=pushCells (s.heap.push { cls:=.type "dict",data:=.dict #[] }) scope.names }) :
  wpAny M A (newFunctionEnv scope globals cl [] qual func code (some outer) builtins) Q E s:=by
 simp only[newFunctionEnv,Option.isSome_some,if_true];refine wpAny_bind (wpAny_alloc ?_);refine wpAny_bind (wpAny_layCells _ (λname kind cells=>by cases hkc:kind == NameKind.cell<;>simp[hkc]) _ _ _ _ ?_);rw[show({ s with heap:=s.heap.push { cls:=.type "dict",data:=.dict #[] } }:Shared).heap.objs.size=s.heap.objs.size+1 from yc2 ..]
 rw[List.forIn_nil];exact wpAny_bind (wpAny_pure (wpAny_pure hQ))
abbrev zad(X:Cx)(scope:Scope)(cl:List (Str×Addr))(N':List Str)(C:Addr)(s₀:Shared)(H₀:Hp)(ex:List Addr)(xb:Value->Shared->Prop):Cx:={ zM8 X scope cl N' C s₀ H₀ ex with fn:=λx=>decide (scope.names.lookup x=some .cell),xe:=xb }
theorem zLu{h h' B B':Heap}(k:∀b o,B.get? b=none->h.get? b=some o->(∀us,o.data≠.fields us)->B'.get? b=none/\∃o',h'.get? b=some o'/\∀us,o'.data≠.fields us):∀{l:List Env},h.FunFrames B l->h'.FunFrames B' l
 |[],_=>trivial
 |_::_,⟨x,⟨L,o,y1,y2,y3,y4⟩,r⟩=>by
  obtain⟨z1,o',z2,z3⟩:=k L o y2 y3 y4;exact⟨x,⟨L,o',y1,z1,z2,z3⟩,zLu k r⟩
def zHk(X:Cx):Prop:=∃v l,X.stack=v::l/\X.env.frame=v.frame
theorem zyo{X:Cx}{E:L2.St->XK}{pins:List (Addr×Obj)}{σ:L2.St}{H:Hp}{s s':Shared}{C:Addr}{benv:Env}{e acc:Value}{use:Option (Value->Sem Unit)}{QQ:Value->Shared->Prop}{EE:Value->Shared->Prop}(hx:zbh X E)(hst:zHk X)(I:Inv X pins σ H s)(fC:zpv X pins H C)(hC:∃m,s.heap.Ns C m)(nC:C∉frs X.stack)
  (hb:benv.frame=X.env.frame) (h:CX1 X.prog X.w X.stack H s (E σ) e s'):wpAny (model X.prog X.w) X.A (noteFrame e benv) (λ_ s2=>compPost (model X.prog X.w) X.A X.xe use QQ acc C (.error e) s2) EE s':=by
 obtain⟨v,l,st,hv⟩:=hst;obtain⟨a,cls,H',B,a0,rfl,os,bare,un,hok,kB,tB,fl0,he⟩:=h;have fl1:zHl B (v::l) a cls a0 s'.heap:=st▸fl0
 obtain⟨L,hL⟩:∃L,v.frame=some L:=by
  obtain⟨_,_,_,⟨_,⟨L,_,y,_⟩,_⟩,_⟩:=fl1;exact⟨L,y⟩
 refine zFx (st▸I.ok.frames) (hb.trans hv) hL fl1 λh4 held sm=>?_
 obtain⟨m,oC,es,ep,hCo,dC,rC⟩:=hC;have bC:B.get? C=some oC:=kB C oC hCo fC.1 nC;obtain⟨f1,f2,f3,oe,ws,Tb,oT,ts,ha,hcl,hd,g1,nT,Tne,hT,dT,g3⟩:=held
 have hne:∀{b:Addr},B.get? b=none->b≠C:=λz w=>by
  rw[w,bC]at z;cases z
 have key:∃m,h4.Ns C m/\∀h',Heap.SameBut C h4 h'->∀cenv:Env,cenv.locals=C->wpAny (model X.prog X.w) X.A (PySem.passOn "comprehension.variables-let-go" (.ref a) cenv:Sem Value) (λ_ _=>False) X.xe { s' with heap:=h' }:=by
  refine⟨m,⟨oC,es,ep,f1 C oC bC,dC,rC⟩,λh5 sb cenv _=>?_⟩
  have ha5:h5.get? a=some oe:=(sb.2 a (hne f2)).trans ha;have hT5:h5.get? Tb=some oT:=(sb.2 Tb (hne nT)).trans hT;unfold PySem.passOn;refine wpAny_bind (wpAny_field ha5 hd g1 ?_);rw[if_neg (by simp)]
  refine wpAny_bind ?_;unfold setFlight;refine wpAny_bind (wpAny_field ha5 hd g1 ?_);rw[if_pos (by simp)]
  refine wpAny_setField hT5 dT (yca.mp g3).1 (wpAny_throw ?_);generalize hfl:(cenv.frame.elim Value.none λf=>rawInt f)=fl
  have dT6:=Obj.data_mapFields dT (·.setIfInBounds 3 fl);have hT6:=Heap.get?_update_self (Obj.mapFields (·.setIfInBounds 3 fl)) hT5 (Obj.isFreed_of_fields dT6);generalize hh6:h5.update Tb (Obj.mapFields (·.setIfInBounds 3 fl))=h6 at hT6 ⊢
  have to6:∀b o,b≠C->b≠Tb->h4.get? b=some o->h6.get? b=some o:=λb o n1 n2 e=>by
   rw[<- hh6,yc4 _ _ (yay n2)];exact(sb.2 b n1).trans e
  have B6:∀b o,b≠C->B.get? b=some o->h6.get? b=some o:=λb o n e=>to6 b o n (λz=>by rw[z,nT]at e;cases e) (f1 b o e)
  have hid:∀{b:Addr} {o:Obj},(PySem.W.hideAll s.heap [C]).get? b=some o->s.heap.get? b=some o/\b≠C:=λ{b o} e=>⟨yck _ e,λz=>by
   rw[z,yd8 [C] (ya9.mpr rfl)]at e;cases e⟩
  have hidB:∀{b:Addr} {o:Obj},b≠C->B.get? b=some o->(PySem.W.hideAll B [C]).get? b=some o:=λ{b o} n e=>yc0 _ e (λz=>n (ya9.mp z))
  have hidN:∀{b:Addr},B.get? b=none->(PySem.W.hideAll B [C]).get? b=none:=λ{b} e=>by
   cases q:(PySem.W.hideAll B [C]).get? b with
   |none=>rfl
   |some o =>
    rw[yck _ q]at e;cases e
  have IX:Inv X pins σ H { s with heap:=PySem.W.hideAll s.heap [C] }:=zhq (t':=s.toks) (ch:=[C]) I (λb o n e=>yc0 _ e n) λb z=>by
   rw[ya9.mp z];exact fC
  have slot:∀b o,s.heap.get? b=some o->H b=none->b∈frs X.stack->∃z,h6.get? b=some { o with slots:=z }:=λb o e n z=>by
   obtain⟨_,o2,ho2,d2⟩:=I.stack.mem z;rw[e]at ho2;cases ho2;obtain⟨z2,e2⟩:=un.slot b o e n z (by simp)
   obtain⟨z3,e3⟩:=sm b _ e2 d2;refine⟨z3,to6 b _ (λw=>nC (w▸z)) (λw=>?_) e3⟩
   rw[w,hT]at e3;cases e3;exact d2 _ dT
  have HC:H' C=none:=un.free C oC hCo fC.1 (by simp)
  refine hx pins σ H _ _ _ IX ⟨a,cls,H',PySem.W.hideAll B [C],a0,rfl,os,bare,⟨λb o e n z _=>?_,λb o e n z _=>slot b o (hid e).1 n z,λb o e n z=>un.free b o (hid e).1 n z,λb o e _=>?_,un.tups,un.frzs,un.tbls⟩,?_,λb o e n z=>hidB (hid e).2 (kB b o (hid e).1 n z),λb o e z=>?_,⟨fl,λb o e=>?_,hidN f2,?_,?_⟩,he⟩
  ·exact B6 b o (hid e).2 (kB b o (hid e).1 n z)
  ·by_cases z:b∈frs X.stack
   ·obtain⟨w,q⟩:=slot b o (hid e).1 (I.stkFree b z) z;exact⟨_,q⟩
   ·obtain⟨o',q⟩:=tB b o (hid e).1 z;exact⟨o',B6 b o' (hid e).2 q⟩
  ·intro b u e;refine(hok b u e).stay (λc x hc q=>hidB (λw=>?_) q) (λ_ q=>q) λ_ _ q=>q
   rcases hc with y|y
   ·rw[<- y,w,HC]at e;cases e
   ·rw[w,HC]at y;cases y
  ·obtain⟨o',q⟩:=tB b o (hid e).1 z;exact⟨o',hidB (hid e).2 q⟩
  ·have e':=yck _ e;refine B6 b o (λw=>?_) e'
   rw[w,yd8 [C] (ya9.mpr rfl)]at e;cases e
  ·rw[st];refine zLu (λb o n e d=>⟨hidN n,o,to6 b o (hne n) (λw=>?_) e,d⟩) f3
   rw[w,hT]at e;cases e;exact d _ dT
  ·refine⟨oe,ws,Tb,_,_,?_,hcl,hd,g1,hidN nT,Tne,hT6,dT6,?_⟩
   ·rw[<- hh6,yc4 _ _ Tne];exact ha5
   ·simp[Array.getElem?_setIfInBounds,(yca.mp g3).1]
 cases use<;>exact key
section
variable {X:Cx}{elt iter tg:Expr}{ifs:List Expr}{scope:Scope}{pos pos2:Pos}{cl:List (Str×Addr)}{N':List Str}{wi:TI}{g:TG}{tt:TT}{te:TE}
def zMm(σ':L2.St->L2.St)(wi:TI)(g:TG)(tt:TT)(te:TE):TE:=λσ H Q=>wi σ H λJ H1=>∃(W:Nat->List V->L2.St->Hp->Prop) (n:Nat),n<=sizeLine/\W 0 [] (σ' σ) H1/\∀i ys τ H,W i ys τ H->ys.length<=i/\i<=n /\
 ((J.stop i H/\∀p,H p=none->Q (.ref p) (upd H p (.lst ys)))\/(i<n/\J.go i H/\∀x H',J.yld i H x H'->g x τ H' λτ2 H2=>tt τ2 H2 λk H3=>if k=true then te τ2 H3 λy H4=>W (i+1) (ys++[y]) τ2 H4 else W (i+1) ys τ2 H3))
theorem zDl(σ':L2.St->L2.St)(hclos:closureFor scope X.env=pure cl)(hkind:scope.kind=.function)(hnames:∀y∈scope.names,y.2=.local->scope.names.lookup y.1=some .local)
  (hcl:∀y c,cl.lookup y=some c->X.env.cells.lookup y=some c) (hhas:∀y,(relabel scope X.env).names.lookup y=some .cell\/(relabel scope X.env).names.lookup y=some .free->(y,NameKind.cell)∈scope.names\/∃c,cl.lookup y=some c) (hcap:∀(σ:L2.St) (i:Nat) (y:Str) (v:V),N'[i]?=some y->(σ' σ)[i]?=some (some v)->(y,NameKind.cell)∉scope.names)
  (hσ:∀σ:L2.St,σ.length=X.N.length->(σ' σ).length=N'.length)
  (hvis:∀(σ:L2.St) (i:Nat) (y:Str) (v:V),N'[i]?=some y->(σ' σ)[i]?=some (some v)->((relabel scope X.env).names.lookup y=some .cell\/(relabel scope X.env).names.lookup y=some .free)/\∃j:Nat,X.N[j]?=some y/\σ[j]?=some (some v)/\Vis X.env.scope y/\X.env.kindOf y≠some .local)
  (hc:X.calm=true) (hi:PI X tg iter wi) {E:L2.St->XK} (hps:zbh X E) (hst:zHk X) {σ:L2.St} (hg:∀cl C s₀ H₀ ex xb,zbh (zad X scope cl N' C s₀ H₀ ex xb) (λ_=>E σ)->PG (zad X scope cl N' C s₀ H₀ ex xb) tg g) (ht:∀cl C s₀ H₀ ex xb,zbh (zad X scope cl N' C s₀ H₀ ex xb) (λ_=>E σ)->PTs (zad X scope cl N' C s₀ H₀ ex xb) ifs tt) (he:∀cl C s₀ H₀ ex xb,zbh (zad X scope cl N' C s₀ H₀ ex xb) (λ_=>E σ)->PE (zad X scope cl N' C s₀ H₀ ex xb) elt te)
  (hs:∀x,foldedSetIterable iter X.env x=pure x) {use:Option (Value->Sem Unit)} {pins:List (Addr×Obj)} {s:Shared} {H:Hp} {Q:VK} {QQ:Value->Shared->Prop} (I:Inv X pins σ H s) (h:zMm σ' wi g tt te σ H Q)
  (hend:∀(D C:Addr) (s5:Shared) (H5:Hp),Inv X pins σ H5 s5->Q (.ref D) H5->(∃m,s5.heap.Ns C m)->zpv X pins H5 C->compPost (model X.prog X.w) X.A X.xe use QQ (.ref D) C (.ok .next) s5) :
  wpAny (model X.prog X.w) X.A (comprehension (.ListComp elt [⟨tg,iter,ifs,0⟩] scope pos) scope X.env pos2 (newList []) false (eval iter X.env) use) QQ X.xe s:=by
 refine wpAny_comprehension_free (use:=use) rfl hs hclos hkind hnames (thn (hi pins s σ H _ I h) λv s1 h1=>thn h1 λitv s2 h2=>?_)
 obtain⟨it,fp,tn,J,H2,e,I2,T,st2,f2,W,n,hn,w0,turn⟩:=h2;subst e;refine wpAny_newObj_type (zqi ?_);dsimp only;generalize hHp:s2.heap.push { cls:=.type "list",dict:=none,data:=.seq ([]:List Value).toArray }=P2;generalize hcl':cellsFrom (P2.objs.size+1) scope.names cl=cl';generalize hh1:pushCells (P2.push { cls:=.type "dict",data:=.dict #[] }) scope.names=h₁;have hC:P2.objs.size=s2.heap.objs.size+1:=by rw[<- hHp,yc2]
 have hP3:(P2.push { cls:=.type "dict",data:=.dict #[] }).objs.size=P2.objs.size+1:=yc2 ..;have hDC:s2.heap.objs.size≠P2.objs.size:=by rw[hC];exact yar (ycq _)
 have below:∀b,b<s2.heap.objs.size->b≠P2.objs.size/\b≠s2.heap.objs.size:=λb hb=>⟨by rw[hC];exact yar (ycc hb),yar hb⟩
 have old:∀b o,s2.heap.get? b=some o->h₁.get? b=some o:=λb o e=>by
  rw[<- hh1];exact pushCells_keeps _ _ _ _ (yac _ (hHp▸yac _ e))
 have hacc:h₁.PlainList s2.heap.objs.size #[]:=⟨_,by
  rw[<- hh1];exact pushCells_keeps _ _ _ _ (yac _ (hHp▸yav _ rfl))⟩
 have hns₁:h₁.Ns P2.objs.size (λ_=>none):=by
  rw[<- hh1];exact(Heap.Ns.new P2 (.type "dict")).keeps (pushCells_keeps _ _)
 have cells:∀y c,cl'.lookup y=some c->X.env.cells.lookup y=some c\/(P2.objs.size<c/\h₁.IsCell c none/\(y,NameKind.cell)∈scope.names):=λy c e=>by
  rw[<- hcl',<- hP3]at e
  rcases zm6 _ _ _ y c e with q|⟨q1,q2,q3⟩
  ·exact .inl (hcl y c q)
  ·rw[hP3]at q1;rw[hh1]at q2;exact .inr ⟨q1,q2,q3⟩
 have has':∀y,(y,NameKind.cell)∈scope.names\/(∃c,cl.lookup y=some c)->∃c,cl'.lookup y=some c:=λy hy=>by
  rw[<- hcl']
  have go:∀(names:List (Str×NameKind)) (n:Nat) (acc:List (Str×Addr)),((y,NameKind.cell)∈names\/∃c,acc.lookup y=some c)->∃c,(cellsFrom n names acc).lookup y=some c:=by
   intro names
   induction names with
   |nil =>
    intro n acc h
    rcases h with h|h
    ·cases h
    ·exact h
   |cons x r ih =>
    obtain⟨m,k⟩:=x;intro n acc h;unfold cellsFrom;split
    ·refine ih _ _ ?_
     by_cases hm:y=m
     ·subst hm;exact .inr ⟨n,by simp⟩
     ·rcases h with h|⟨c,h⟩
      ·rcases yaj.mp h with z|z
       ·cases z;exact absurd rfl hm
       ·exact .inl z
      ·exact .inr ⟨c,by rw[yb1,beq_eq_false_iff_ne.mpr hm];exact h⟩
    ·rename_i hk;refine ih _ _ ?_
     rcases h with h|h
     ·rcases yaj.mp h with z|z
      ·cases z;exact absurd rfl hk
      ·exact .inl z
     ·exact .inr h
  exact go _ _ _ hy
 have fsub:∀b∈frs X.stack,b∈X.env.locals::X.fs:=I2.stkSub
 have fpfs:∀b∈fp,b∉frs X.stack:=λb hb z=>by
  obtain⟨_,h2,h3,_⟩:=f2 b hb
  rcases yaj.mp (fsub b z) with q|q
  ·exact h2 q
  ·exact h3 q
 have fpold:∀b∈fp,b<s2.heap.objs.size:=λb hb=>by
  obtain⟨o,e,_⟩:=T.obj 0 _ st2 b hb;exact yad e
 have cold:∀y c,cl'.lookup y=some c->c<s2.heap.objs.size\/P2.objs.size<c:=λy c e=>by
  rcases cells y c e with q|q
  ·obtain⟨v,z⟩:=I2.cell y c q;exact .inl z.lt
  ·exact .inr q.1
 have cneD:∀y c,cl'.lookup y=some c->c≠s2.heap.objs.size:=λy c e z=>by
  rcases cold y c e with q|q
  ·rw[z]at q;exact yb9 _ q
  ·rw[z,hC]at q;exact absurd q (Nat.not_lt.mpr (yce _))
 have cneF:∀b,b<s2.heap.objs.size->(∀y c,X.env.cells.lookup y=some c->c≠b)->∀y c,cl'.lookup y=some c->c≠b:=λb hb hx y c e z=>by
  rcases cells y c e with q|q
  ·exact hx y c q z
  ·have:=q.1;rw[z,hC]at this;exact absurd (yd6 hb (Nat.lt_of_succ_lt this)) (yb9 _)
 have fresh2:∀b,s2.heap.objs.size<=b->H2 b=none:=λb hb=>I2.hok.fresh hb
 have CS:s2.heap.objs.size<=P2.objs.size:=by rw[hC];exact yce _
 obtain⟨xb,hxb⟩:∃xb,xb=notedBy (model X.prog X.w) X.A (compEnvC scope cl' P2.objs.size X.env) λe s'=>compPost (model X.prog X.w) X.A X.xe use QQ (.ref s2.heap.objs.size) P2.objs.size (.error e) s':=⟨_,rfl⟩
 have hpb:zbh (zad X scope cl' N' P2.objs.size s2 H2 fp xb) (λ_=>E σ):=by
  subst hxb;intro pins4 σ4 H4 s4 e s' I4 hcx
  have IX:Inv X pins σ H4 s4:=I2.call' (s':=s4) (ch:=fp) I4.os I4.base I4.hok I4.bare λb hb=>by
   obtain⟨g1,g2,g3,g4,g5,g6⟩:=f2 b hb;exact⟨g4,g2,g5,g6⟩
  obtain⟨m4,hm4,_⟩:=I4.loc
  exact zyo hps hst IX ⟨I4.free,(I2.fpOk (H':=H2) CS (fresh2 _ CS)).2⟩ ⟨m4,hm4⟩ (λz=>by
   obtain⟨o,ho,_⟩:=(I2.stack.mem z).2;exact absurd (yad ho) (Nat.not_lt.mpr CS)) rfl hcx
 have ok':(zad X scope cl' N' P2.objs.size s2 H2 fp xb).Ok:=by
  refine⟨I2.ok.mod,hkind,I2.ok.glob,I2.ok.blt,CS,?inj,λy hy=>has' y (hhas y hy),?cab,I2.ok.hd,I2.ok.frames,.inl rfl,λb hb=>⟨(below b (fpold b hb)).1,cneF b (fpold b hb) λy c e=>(f2 b hb).2.2.2.2.1 y c e⟩,
   λb o e=>I2.bs b o e,yae I2.ok.bsz I2.sz,λb o e hb=>?_,λb hb=>fpfs b hb,I2.stack,I2.stkFree⟩
  case inj =>
   intro y z c h1 h2;have h1':(cellsFrom (P2.push { cls:=.type "dict",data:=.dict #[] }).objs.size scope.names cl).lookup y=some c:=by rw[hP3,hcl'];exact h1
   have h2':(cellsFrom (P2.push { cls:=.type "dict",data:=.dict #[] }).objs.size scope.names cl).lookup z=some c:=by rw[hP3,hcl'];exact h2
   refine zm7 scope.names _ cl (λy z c g1 g2=>I2.ok.inj y z c (hcl y c g1) (hcl z c g2)) (λy c g=>?_) y z c h1' h2'
   obtain⟨v,q⟩:=I2.cell y c (hcl y c g);rw[hP3,hC];exact ycc (ycc q.lt)
  case cab =>
   intro y c hy e;have hy':scope.names.lookup y=some .cell:=of_decide_eq_true hy;have e':(cellsFrom (P2.objs.size+1) scope.names cl).lookup y=some c:=by rw[hcl'];exact e
   exact yae CS (yae (yce _) (zm5 scope.names _ (P2.objs.size+1) cl y c (yaa _) (.inl (ybv hy')) e'))
  ·obtain⟨_,_,_,q,_⟩:=f2 b hb
   rcases q with q|q
   ·exact I2.ok.noex b o e q
   ·exact absurd (yak (yad e) (yae I2.ok.bsz q)) (yb9 _)
 have I':Inv (zad X scope cl' N' P2.objs.size s2 H2 fp xb) pins (σ' σ) H2 { s2 with heap:=h₁ }:=by
  refine⟨ok',rfl,I2.bare,Un.kept old,⟨_,hns₁,λi y v h1 h2 h3=>?_⟩,λy c e=>?_,fresh2 _ CS,?fc,λp hp=>?_,I2.hok.kept old,hσ σ I2.len⟩
  case fc =>
   intro y c e
   rcases cells y c e with q|q
   ·exact I2.freeC y c q
   ·exact fresh2 c (yae CS (ydu q.1))
  ·obtain⟨hk,j,h4,h5,h6,h7⟩:=hvis σ i y v h1 h2;have hno:=hcap σ i y v h1 h2;obtain⟨m,hn',hl⟩:=I2.loc;obtain⟨u,r,l⟩:=hl j y v h4 h5 h6;obtain⟨c,hcc⟩:=has' y (hhas y hk);refine⟨u,r,.inr ⟨hk,c,hcc,?_⟩⟩
   rcases l with ⟨k1,_⟩|⟨_,c',e',z⟩
   ·exact absurd k1 h7
   ·rcases cells y c hcc with w|w
    ·rw[w]at e';cases e';obtain⟨o,ho,hd⟩:=z;exact⟨o,old _ _ ho,hd⟩
    ·exact absurd w.2.2 hno
  ·rcases cells y c e with w|w
   ·obtain⟨v,o,ho,hd⟩:=I2.cell y c w;exact⟨v,o,old _ _ ho,hd⟩
   ·exact⟨none,w.2.1⟩
  ·obtain⟨e1,e2,e3,e4,e5⟩:=I2.pin p hp;refine⟨old _ _ e1,e2,(below _ (yad e1)).1,λz=>?_,e5⟩
   rcases yaj.mp (fsub _ z) with q|q
   ·exact e3 q
   ·exact e4 q
 have stat:∀{H':Hp},(∀b∈fp,H' b=none)->∀b∈fp,zpv (zad X scope cl' N' P2.objs.size s2 H2 fp xb) pins H' b:=λhn' b hb =>
  ⟨hn' b hb,(below b (fpold b hb)).1,fpfs b hb,.inl hb,cneF b (fpold b hb) λy c e=>(f2 b hb).2.2.2.2.1 y c e,(f2 b hb).2.2.2.2.2⟩
 have Dok:∀{H':Hp},H' s2.heap.objs.size=none->zpv (zad X scope cl' N' P2.objs.size s2 H2 fp xb) pins H' s2.heap.objs.size:=λhn' =>
  ⟨hn',hDC,(λz=>by
   obtain⟨o,ho,_⟩:=(I2.stack.mem z).2;exact absurd (yad ho) (yb9 _)),.inr (yaa _),cneD,λp hp z=>absurd (yad (I2.pin p hp).1) (by rw[z];exact yb9 _)⟩
 have loop:∀s3:Shared,s3={ s2 with heap:=h₁ } ->
   codeAny (model X.prog X.w) X.A (.compLoop (.ListComp elt [⟨tg,iter,ifs,0⟩] scope pos) 0 (.ref it) (.ref s2.heap.objs.size) (compEnvC scope cl' P2.objs.size X.env))
    (compPost (model X.prog X.w) X.A X.xe use QQ (.ref s2.heap.objs.size) P2.objs.size) s3:=by
  rintro s3 rfl
  refine zvl hxb (λm s'=>∃i ys τ H',m=n - i/\Inv (zad X scope cl' N' P2.objs.size s2 H2 fp xb) pins τ H' s'/\tn i s'.heap/\(∀b∈fp,H' b=none)/\H' s2.heap.objs.size=none/\(∃its:List Value,zbp ys its/\s'.heap.PlainList s2.heap.objs.size its.toArray)/\W i ys τ H')
   ?_ n ⟨0,[],σ' σ,H2,rfl,I',T.keep _ _ _ st2 λb _ o e=>old b o e,λb hb=>(f2 b hb).1,fresh2 _ (yaa _),⟨[],.nil,hacc⟩,w0⟩
  rintro m s4 ⟨i,ys,τ,H4,rfl,I4,st4,fr4,hD4,⟨its,rv,hpl⟩,w4⟩;obtain⟨hly,hin,c⟩:=turn i ys τ H4 w4
  have statp:∀{H':Hp},(∀b∈fp,H' b=none)->∀b∈fp,zpv (zad X scope cl' N' P2.objs.size s2 H2 fp xb) (pins++zla [s2.heap.objs.size] s4.heap) H' b:=λ{H'} fr' b hb=>by
    obtain⟨g1,g2,g3,g4,g5,g6⟩:=stat fr' b hb;refine⟨g1,g2,g3,g4,g5,λp hp z=>?_⟩
    rcases ybe.mp hp with y|y
    ·exact g6 p (ybz _ y) z
    ·rcases ybe.mp y with y|y
     ·exact g6 p (yan _ y) z
     ·obtain⟨hb',_⟩:=zqg y;rw[z,ya9]at hb';exact absurd (fpold b hb) (by rw[hb'];exact yb9 _)
  rcases c with ⟨stop,q⟩|⟨hlt,go,step⟩
  ·obtain⟨k,hDo⟩:=hpl;have I4p:=I4.pinned (fp:=[s2.heap.objs.size]) (λb hb=>by rw[ya9.mp hb];exact Dok hD4) (λb hb=>by rw[ya9.mp hb];exact⟨_,hDo,λv z=>(by cases z)⟩)
   refine thn (T.done (zad X scope cl' N' P2.objs.size s2 H2 fp xb) rfl rfl rfl hc i _ s4 τ H4 _ I4p (statp fr4) st4 stop) λr s5 ⟨hr,I5⟩=>?_
   subst hr;have hD5:s5.heap.get? s2.heap.objs.size=some { cls:=.type "list",data:=.seq its.toArray k }:=(I5.pin (s2.heap.objs.size,_) (yan _ (yan _ (zcu (ya9.mpr rfl) hDo)))).1;obtain⟨m5,hn5,_⟩:=I5.loc;have fC:H4 P2.objs.size=none:=I5.free
   have U5:Un (frs X.stack) fp H2 (upd H4 s2.heap.objs.size (.lst ys)) s2.heap s5.heap:=by
    have B:=I5.base;refine⟨λb o e1 e2 e3 e4=>B.keep b o e1 e2 e3 e4,λb o e1 e2 e3 e4=>B.slot b o e1 e2 e3 e4,λb o e1 e2 e4=>?_,λb o e1 e4=>B.there b o e1 e4,λb xs e1=>?_,λb o u e1=>?_,λb ps e1=>?_⟩
    ·rw[zag (below b (yad e1)).2];exact B.free b o e1 e2 e4
    ·have q':=B.tups b xs e1;rw[zag (zaf q' hD4)];exact q'
    ·have q':=B.frzs b o u e1;rw[zag (zaf q' hD4)];exact q'
    ·obtain⟨more,q'⟩:=B.tbls b ps e1;exact⟨more,by rw[zag (zaf q' hD4)];exact q'⟩
   have hzy:ys.length<=sizeLine:=yae hly (yae hin hn);have HK:HOk X.prog X.w (upd H4 s2.heap.objs.size (.lst ys)) s5.heap:=Zw.HOk.adopt I5.hok hD4 ⟨hzy,its,k,rv,hD5⟩;have os5:s5.os=s2.os:=I5.os
   have IX:Inv X pins σ (upd H4 s2.heap.objs.size (.lst ys)) s5:=I2.call' (s':=s5) (ch:=fp) os5 U5 HK I5.bare (λb hb=>by
    obtain⟨g1,g2,g3,g4,g5,g6⟩:=f2 b hb;exact⟨g4,g2,g5,g6⟩)
   refine hend s2.heap.objs.size P2.objs.size s5 _ IX (q _ hD4) ⟨m5,hn5⟩ ?_;have CL:s2.heap.objs.size<=P2.objs.size:=CS;have fp0:zpv X pins H2 P2.objs.size:=I2.fpOk CS (fresh2 _ CS);exact⟨by rw[zag (yay hDC)];exact fC,fp0.2⟩
  ·obtain⟨k,hDo⟩:=hpl;have I4p:=I4.pinned (fp:=[s2.heap.objs.size]) (λb hb=>by rw[ya9.mp hb];exact Dok hD4) (λb hb=>by rw[ya9.mp hb];exact⟨_,hDo,λv z=>(by cases z)⟩)
   refine thn (T.item (zad X scope cl' N' P2.objs.size s2 H2 fp xb) rfl rfl rfl hc i _ s4 τ H4 _ I4p (statp fr4) st4 go) λr s5 ⟨u,hr,h5⟩=>?_
   subst hr;refine thn h5 λ_ s6 ⟨x,H6,I6,r6,y6,st6,fr6⟩=>?_
   have I6':=I6.pinned (statp fr6) (T.obj _ _ st6);refine thn (hg _ _ _ _ _ _ hpb _ s6 τ H6 x u _ I6' r6 (step x H6 y6)) λ_ s7 ⟨τ7,H7,I7,q7⟩=>?_
   refine thn (ht _ _ _ _ _ _ hpb _ s7 τ7 H7 _ I7 q7) λok s7b ⟨H7b,I7b,q7b⟩=>?_
   have fin:∀{H8:Hp} {s8:Shared} {τ8:L2.St},Inv (zad X scope cl' N' P2.objs.size s2 H2 fp xb) (pins++zla [s2.heap.objs.size] s4.heap++zla fp s6.heap) τ8 H8 s8->∀h9:Heap,(∀b o,b≠s2.heap.objs.size->s8.heap.get? b=some o->h9.get? b=some o)->tn (i+1) h9/\∀b∈fp,H8 b=none:=λ{H8 s8 τ8} I8 h9 sb=>by
    refine⟨T.keep _ _ _ st6 λb hb o e=>?_,λb hb=>?_⟩
    ·exact sb b o (below b (fpold b hb)).2 (I8.pin (b,o) (yan _ (yan _ (zcu hb e)))).1
    ·obtain⟨o,e,d⟩:=T.obj _ _ st6 b hb;exact(I8.pin (b,o) (yan _ (yan _ (zcu hb e)))).2.1
   cases ok with
   |false =>
    rw[if_neg (by decide)]at q7b ⊢
    have hD8:=I7b.pin (s2.heap.objs.size,_) (yan _ (ybz _ (yan _ (zcu (ya9.mpr rfl) hDo))));obtain⟨t9,f9⟩:=fin I7b s7b.heap λb o _ e=>e
    exact⟨n - (i+1),by omega,i+1,ys,τ7,H7b,rfl,I7b.unpinned.unpinned,t9,f9,hD8.2.1,⟨its,rv,k,hD8.1⟩,q7b⟩
   |true =>
    rw[if_pos rfl]at q7b ⊢;refine thn (he _ _ _ _ _ _ hpb _ s7b τ7 H7b _ I7b q7b) λuy s8 ⟨y,H8,I8,ry,w8⟩=>?_
    have hD8:=I8.pin (s2.heap.objs.size,_) (yan _ (ybz _ (yan _ (zcu (ya9.mpr rfl) hDo))));have P8:s8.heap.PlainList s2.heap.objs.size its.toArray:=⟨k,hD8.1⟩;have hlen:=rv.length;refine wpAny_list_append_plain P8 (λh' pl' sb=>?_) (by rw[yai,<- hlen];omega)
    have I8u:Inv (zad X scope cl' N' P2.objs.size s2 H2 fp xb) pins τ7 H8 s8:=I8.unpinned.unpinned;obtain⟨d1,d2,d3,d4,d5,d6⟩:=Dok hD8.2.1;have I9:Inv (zad X scope cl' N' P2.objs.size s2 H2 fp xb) pins τ7 H8 { s8 with heap:=h' }:=I8u.turned (t':=s8.toks) (λb o hb e=>(sb.2 b hb).trans e) d1 d2 d4 d5 d6
    obtain⟨t9,f9⟩:=fin I8 h' λb o hb e=>(sb.2 b hb).trans e
    exact⟨n - (i+1),by omega,i+1,ys++[y],τ7,H8,rfl,I9,t9,f9,hD8.2.1,⟨its++[uy],rv.append (.cons ry .nil),by simpa using pl'⟩,w8⟩
 refine codeAny_compStart_list (loop _ rfl) (T.self _ 0 _ _ _ (T.keep _ _ _ st2 λb _ o e=>old b o e) (loop _ rfl))
theorem zL5(σ':L2.St->L2.St)(hclos:closureFor scope X.env=pure cl)(hkind:scope.kind=.function)(hnames:∀y∈scope.names,y.2=.local->scope.names.lookup y.1=some .local)
  (hcl:∀y c,cl.lookup y=some c->X.env.cells.lookup y=some c) (hhas:∀y,(relabel scope X.env).names.lookup y=some .cell\/(relabel scope X.env).names.lookup y=some .free->(y,NameKind.cell)∈scope.names\/∃c,cl.lookup y=some c) (hcap:∀(σ:L2.St) (i:Nat) (y:Str) (v:V),N'[i]?=some y->(σ' σ)[i]?=some (some v)->(y,NameKind.cell)∉scope.names)
  (hσ:∀σ:L2.St,σ.length=X.N.length->(σ' σ).length=N'.length)
  (hvis:∀(σ:L2.St) (i:Nat) (y:Str) (v:V),N'[i]?=some y->(σ' σ)[i]?=some (some v)->((relabel scope X.env).names.lookup y=some .cell\/(relabel scope X.env).names.lookup y=some .free)/\∃j:Nat,X.N[j]?=some y/\σ[j]?=some (some v)/\Vis X.env.scope y/\X.env.kindOf y≠some .local)
  (hc:X.calm=true) (hi:PI X tg iter wi) {E:L2.St->XK} (hps:zbh X E) (hst:zHk X) {σ:L2.St} (hg:∀cl C s₀ H₀ ex xb,zbh (zad X scope cl N' C s₀ H₀ ex xb) (λ_=>E σ)->PG (zad X scope cl N' C s₀ H₀ ex xb) tg g) (ht:∀cl C s₀ H₀ ex xb,zbh (zad X scope cl N' C s₀ H₀ ex xb) (λ_=>E σ)->PTs (zad X scope cl N' C s₀ H₀ ex xb) ifs tt) (he:∀cl C s₀ H₀ ex xb,zbh (zad X scope cl N' C s₀ H₀ ex xb) (λ_=>E σ)->PE (zad X scope cl N' C s₀ H₀ ex xb) elt te)
  (hs:∀x,foldedSetIterable iter X.env x=pure x) {pins:List (Addr×Obj)} {s:Shared} {H:Hp} {Q:VK} (I:Inv X pins σ H s) (h:zMm σ' wi g tt te σ H Q) :
  wpAny (model X.prog X.w) X.A (eval (.ListComp elt [⟨tg,iter,ifs,0⟩] scope pos) X.env) (EP X pins σ Q) X.xe s:=by
 rw[eval_ListComp];refine zDl σ' hclos hkind hnames hcl hhas hcap hσ hvis hc hi hps hst hg ht he hs I h λD C s5 H5 I5 q5 ⟨m,hm⟩ f=>⟨m,hm,λh' sb=>?_⟩
 exact⟨.ref D,H5,zhq (t':=s5.toks) (ch:=[C]) I5 (λb o hb e=>(sb.2 b (λz=>hb (by simp[z]))).trans e) (λb hb=>by rw[ya9.mp hb];exact f),rfl,q5⟩
theorem zL6(σ':L2.St->L2.St)(hclos:closureFor scope X.env=pure cl)(hkind:scope.kind=.function)(hnames:∀y∈scope.names,y.2=.local->scope.names.lookup y.1=some .local)
  (hcl:∀y c,cl.lookup y=some c->X.env.cells.lookup y=some c) (hhas:∀y,(relabel scope X.env).names.lookup y=some .cell\/(relabel scope X.env).names.lookup y=some .free->(y,NameKind.cell)∈scope.names\/∃c,cl.lookup y=some c) (hcap:∀(σ:L2.St) (i:Nat) (y:Str) (v:V),N'[i]?=some y->(σ' σ)[i]?=some (some v)->(y,NameKind.cell)∉scope.names)
  (hσ:∀σ:L2.St,σ.length=X.N.length->(σ' σ).length=N'.length)
  (hvis:∀(σ:L2.St) (i:Nat) (y:Str) (v:V),N'[i]?=some y->(σ' σ)[i]?=some (some v)->((relabel scope X.env).names.lookup y=some .cell\/(relabel scope X.env).names.lookup y=some .free)/\∃j:Nat,X.N[j]?=some y/\σ[j]?=some (some v)/\Vis X.env.scope y/\X.env.kindOf y≠some .local)
  (hc:X.calm=true) (hi:PI X tg iter wi) {E:L2.St->XK} (hps:zbh X E) (hst:zHk X) {σ:L2.St} (hg:∀cl C s₀ H₀ ex xb,zbh (zad X scope cl N' C s₀ H₀ ex xb) (λ_=>E σ)->PG (zad X scope cl N' C s₀ H₀ ex xb) tg g) (ht:∀cl C s₀ H₀ ex xb,zbh (zad X scope cl N' C s₀ H₀ ex xb) (λ_=>E σ)->PTs (zad X scope cl N' C s₀ H₀ ex xb) ifs tt) (he:∀cl C s₀ H₀ ex xb,zbh (zad X scope cl N' C s₀ H₀ ex xb) (λ_=>E σ)->PE (zad X scope cl N' C s₀ H₀ ex xb) elt te)
  (hs:∀x,foldedSetIterable iter X.env x=pure x) {pins:List (Addr×Obj)} {s:Shared} {H:Hp} {D:Ends} {i:Nat} {x:Str} {pos':Pos} (hN:X.N.Nodup) (hix:X.N[i]?=some x) (hx:X.env.scope.names.lookup x=some .local)
  (hsw:swapsWith (.ListComp elt [⟨tg,iter,ifs,0⟩] scope pos) (some (.Name x pos')) pos2.line X.env=pure true)
  (I:Inv X pins σ H s) (h:zMm σ' wi g tt te σ H λv H1=>D.nx (σ.set i (some v)) H1) :
  wpAny (model X.prog X.w) X.A (exec (.Assign [.Name x pos'] (.ListComp elt [⟨tg,iter,ifs,0⟩] scope pos) pos2) X.env) (SP X pins D) X.xe s:=by
 rw[exec_Assign_Name_used _ _ _ _ hsw];refine wpAny_bind (wpAny_standAt (wpAny_bind ?_));show wpAny _ X.A (do let _ <- comprehension (.ListComp elt [⟨tg,iter,ifs,0⟩] scope pos) scope X.env _ (newList []) false (eval iter X.env) (some (assign (.Name x pos') X.env))) _ _ s
 refine wpAny_bind (wpAny_mono (zDl (QQ:=λ_ s'=>SP X pins D .next s') σ' hclos hkind hnames hcl hhas hcap hσ hvis hc hi hps hst hg ht he hs I h λA C s5 H5 I5 q5 ⟨m,hm⟩ f=>?_) (λ_ s' hq=>wpAny_pure (wpAny_pure hq)) λ_ _ e=>e)
 show wpAny _ X.A (assign (.Name x pos') X.env (.ref A)) _ _ _;refine wpAny_assign_Name (zq1 I5 hN hix (.inl hx) (v:=.ref A) rfl (λs6 I6 ⟨a,sb,ha⟩=>?_) (.inr hx))
 have hCa:C≠a:=by
  rcases ha with rfl|ha
  ·exact f.2.1
  ·exact λz=>f.2.2.2.2.1 x a ha z.symm
 refine⟨m,hm.sameBut sb hCa,λh' sb2=>⟨_,H5,zhq (t':=s6.toks) (ch:=[C]) I6 (λb o hb e=>(sb2.2 b (λz=>hb (by simp[z]))).trans e) (λb hb=>by rw[ya9.mp hb];exact f),q5⟩⟩
end
end Pu
set_option Elab.async false
set_option linter.all false
set_option maxRecDepth 100000
namespace Pu
open PySem PySem.Spec PyProof.Rows L2 Zw Zx
structure RpO(K:PySem.W.Frag)(F H:Hp)(l:List T)(xs:List V)(R:Nat->Rg):Prop where
 len:l.length=xs.length
 rep:∀(i:Nat) (t:T) (x:V),l[i]?=some t->xs[i]?=some x->Rp K F H t x (R i)
 dis:∀i j a,i≠j->R i a->¬ R j a
 out:∀i a,R i a->i<l.length
section
variable {K:PySem.W.Frag}{F H F1 H1:Hp}{l:List T}{xs:List V}{R:Nat->Rg}{B:Rg}
theorem RpO.nil:RpO K F H [] [] (λ_=>R0):=⟨rfl,λi t x h=>by simp at h,λ_ _ _ _ z=>z.elim,λ_ _ z=>z.elim⟩
theorem RpO.dom(h:RpO K F H l xs R){i:Nat}{a:Addr}(z:R i a):F a=none/\∃u,H a=some u:=by
 have hi:=h.out i a z;have hx:i<xs.length:=by have:=h.len;omega
 exact(h.rep i _ _ (ya0 hi) (ya0 hx)).dom z
theorem RpO.ext(h:RpO K F H l xs R)(e:Ext F H F1 H1 B):RpO K F1 H1 l xs R:=⟨h.len,λi t x h1 h2=>(h.rep i t x h1 h2).ext e,h.dis,h.out⟩
theorem RpO.apart(h:RpO K F H l xs R)(e:Ext F H F1 H1 B){b:Addr}(hb:B b)(i:Nat):¬ R i b:=λz=>by
 obtain⟨f,u,q⟩:=h.dom z;rw[e.nb b hb]at q;cases q
theorem RpO.snoc(h:RpO K F H l xs R){t:T}{x:V}(r:Rp K F H t x B)(d:∀i a,R i a->¬ B a):RpO K F H (l++[t]) (xs++[x]) (λj=>if j=l.length then B else R j):=by
 have hl:=h.len;refine⟨by simp[hl],λi t' x' h1 h2=>?_,λi j a hij z1 z2=>?_,λi a z=>?_⟩
 ·by_cases hi:i=l.length
  ·subst hi;rw[if_pos rfl];have e1:t=t':=by simpa using h1
   have e2:x=x':=by rw[hl]at h2;simpa using h2
   subst e1;subst e2;exact r
  ·rw[if_neg hi]
   have hlt:i<l.length:=by
    have:=(ya5.mp h1).1;simp at this
    omega
   rw[yaz hlt]at h1;rw[yaz (by omega)]at h2
   exact h.rep i t' x' h1 h2
 ·by_cases hi:i=l.length
  ·simp only[hi,if_true]at z1;have hj:¬ j=l.length:=λz=>hij (hi.trans z.symm)
   simp only[hj,if_false]at z2;exact d j a z2 z1
  ·simp only[hi,if_false]at z1
   by_cases hj:j=l.length
   ·simp only[hj,if_true]at z2;exact d i a z1 z2
   ·simp only[hj,if_false]at z2;exact h.dis i j a hij z1 z2
 ·by_cases hi:i=l.length
  ·simp[hi]
  ·simp only[hi,if_false]at z;have:=h.out i a z;simp
   omega
theorem RpO.cons(h:RpO K F H l xs R){t:T}{x:V}(r:Rp K F H t x B)(d:∀i a,R i a->¬ B a):RpO K F H (t::l) (x::xs) (λj=>match j with|0=>B|j+1=>R j):=by
 refine⟨by simp[h.len],λi t' x' h1 h2=>?_,λi j a hij z1 z2=>?_,λi a z=>?_⟩
 ·cases i with
  |zero =>
   simp at h1 h2;subst h1;subst h2;exact r
  |succ i=>exact h.rep i t' x' (by simpa using h1) (by simpa using h2)
 ·cases i with
  |zero =>
   cases j with
   |zero=>exact hij rfl
   |succ j=>exact d j a z2 z1
  |succ i =>
   cases j with
   |zero=>exact d i a z1 z2
   |succ j=>exact h.dis i j a (λz=>hij (by rw[z])) z1 z2
 ·cases i with
  |zero=>simp
  |succ i=>have:=h.out i a z;simp;omega
theorem RpO.list(h:RpO K F H l xs R)(s:zbl F H){p:Addr}(hp:H p=none):Rp K F (upd H p (.lst xs)) (.own l) (.ref p) (λa=>a=p\/∃i,R i a)/\Ext F H F (upd H p (.lst xs)) (λa=>a=p):=by
 have e:=Ext.newO (o:=.lst xs) s hp;have h':=h.ext e;exact⟨.own (k:=.lst) trivial R (zbd s hp) zar h.len h'.rep h.dis (λi z=>h.apart e rfl i z) h.out,e⟩
end
def mIx(ma mk:PSt->Option Rs):PSt->Option Rs:=λτ=>match ma τ with
 |some (.v t b)=>(match mk τ with
  |some (.v (.int i) _)=>(match t with
   |.nd _ _ l=>(match atI l i with
    |some c=>some (.v c (b && !c.sh))
    |none=>none)
   |.str z=>if z.length<=lim then (match atI z.cps.toList i with
    |some c=>some (.v (.str ⟨#[c]⟩) false)
    |none=>none) else none
   |_=>none)
  |some (.v _ _)=>none
  |r=>r)
 |r=>r
theorem zHg{α β:Type}{l:List α}{m:List β}{i:Int}{c:α}(e:l.length=m.length)(h:atI l i=some c):∃(j:Nat) (d:β),l[j]?=some c/\m[j]?=some d/\atI m i=some d:=by
 unfold atI at h ⊢;rw[<- e];cases q:ixN l.length i with
 |none=>rw[q]at h;cases h
 |some j =>
  rw[q]at h;have h':l[j]?=some c:=h
  have hj:j<m.length:=by
   have:=(ya5.mp h').1
   omega
  exact⟨j,m[j],h',ya0 hj,ya0 hj⟩
section
variable {K:PySem.W.Frag}{F H:Hp}
theorem Rp.seq{o:Bool}{k:Kd}{l:List T}{x:V}{A:Rg}(s:zbl F H)(h:Rp K F H (.nd o k l) x A):∃p xs,x=.ref p/\(SqL K H p xs\/SqT K H p xs)/\l.length=xs.length/\∀(i:Nat) (t:T) (x:V),l[i]?=some t->xs[i]?=some x->∃B,(∀a,B a->A a)/\Rp K F H t x B:=by
 cases h with
 |@shr k p xs l h e c =>
  refine⟨p,xs,rfl,?_,e,λi t x h1 h2=>⟨R0,λ_ z=>z.elim,c i t x h1 h2⟩⟩
  cases k with
  |lst=>exact .inl (SqL.of (s _ _ h))
  |rl=>exact .inl (s.seq h)
  |tup=>exact .inr (SqT.of (s _ _ h))
  |rt=>exact .inr (zd8 s h)
  |pin q=>exact .inl (SqL.of (s _ _ h))
 |@own k0 p xs l hk R f h e c d dp o=>exact⟨p,xs,rfl,.inl (SqL.of h),e,λi t x h1 h2=>⟨R i,λa z=>.inr ⟨i,z⟩,c i t x h1 h2⟩⟩
end
section
variable {X:Cx}{E:L2.St->XK}{ca:Str->Value}{σ:L2.St}{H:Hp}{m ma mb mc:PSt->Option Rs}{ms:PSt->Option RsL}{K:PySem.W.Frag}{a b c e:Expr}{es:List Expr}{pos:Pos}
theorem tM_ix{Q:VK}(h:tM K E ca (mIx ma mb) σ H Q):tOp (rIx K) (tM K E ca ma) (tM K E ca mb) σ H Q:=by
 obtain⟨F,τ,R,S,q⟩:=h;refine⟨F,τ,R,S,?_⟩;unfold mIx at q;cases hm:ma τ with
 |none=>simp only[hm]at q
 |some r =>
  simp only[hm]at q;cases r with
  |x c=>exact q
  |v t bb =>
   intro F1 H1 x B e1 g1;have S1:=S.ext e1;refine⟨F1,τ,R,S1,?_⟩;cases hk:mb τ with
   |none=>simp only[hk]at q
   |some r =>
    simp only[hk]at q;cases r with
    |x c=>exact λF' H' e=>q F' H' ((e1.trans e).mono λ_ z=>z.elim)
    |v tk bk =>
     cases tk with
     |int i =>
      intro F2 H2 y C e2 g2
      have hy:y=.int i:=by
       cases bk with
       |true=>obtain⟨_,A,_,r⟩:=g2;exact r.int_inv
       |false=>exact(show Rp K F2 H2 _ _ _ from g2).int_inv
      subst hy;have e02:Ext F H F2 H2 B:=(e1.trans e2).mono λ_ z=>.inl z
      have S2:=S1.ext e2;cases t with
      |nd o k l =>
       simp only at q;cases hc:atI l i with
       |none=>simp only[hc]at q
       |some cc =>
        simp only[hc]at q
        have node:∃A0,(bb=true->∀a,A0 a->tot R a)/\(bb=false->∀a,A0 a->B a)/\Rp K F2 H2 (.nd o k l) x A0:=by
         cases bb with
         |true =>
          obtain⟨_,A,hA,r⟩:=g1;exact⟨A,λ_=>hA,(λz=>by cases z),r.ext e2⟩
         |false=>exact⟨B,(λz=>by cases z),λ_ _ z=>z,(show Rp K F1 H1 _ _ _ from g1).ext e2⟩
        obtain⟨A0,hA1,hA2,rn⟩:=node;obtain⟨p,xs,rfl,hq,hl,kids⟩:=Rp.seq S2.fh rn;obtain⟨j,d,h1,h2,h3⟩:=zHg hl hc;obtain⟨A1,hA,rk⟩:=kids j cc d h1 h2
        have qq:Q d H2:=by
         cases bb with
         |false=>exact q F2 H2 d A1 (e02.mono λa z=>hA2 rfl a (hA a z)) rk
         |true =>
          cases hs:cc.sh with
          |true =>
           rw[hs]at q;exact q F2 H2 d R0 (e02.mono λ_ z=>z.elim) (rk.move hs (.refl _))
          |false =>
           rw[hs]at q;exact q F2 H2 d R0 (e02.mono λ_ z=>z.elim) ⟨rfl,A1,λa z=>hA1 rfl a (hA a z),rk⟩
        rcases hq with hq|hq
        ·exact .inl ⟨p,xs,i,d,rfl,rfl,hq,h3,qq⟩
        ·exact .inr (.inl ⟨p,xs,i,d,rfl,rfl,hq,h3,qq⟩)
      |str z =>
       by_cases hz:z.length<=lim
       ·simp only[hz,if_true]at q;cases hc:atI z.cps.toList i with
        |none=>simp only[hc]at q
        |some cc =>
         simp only[hc]at q
         have hx:x=.str z:=by
          cases bb with
          |true=>obtain⟨_,A,_,r⟩:=g1;exact r.str_inv
          |false=>exact(show Rp K F1 H1 _ _ _ from g1).str_inv
         subst hx;exact .inr (.inr ⟨z,i,cc,rfl,rfl,by rw[<- zez];exact hz,hc,q F2 H2 _ R0 (e02.mono λ_ z=>z.elim) (.str _)⟩)
       ·simp only[hz,if_false]at q
      |_=>exact q.elim
     |_=>exact q.elim
theorem r_ix(ha:PE X a (tM X.K E ca ma))(hb:PE X b (tM X.K E ca mb))(hs:zpr b):PE X (.Subscript a b pos) (tM X.K E ca (mIx ma mb)):=PE.weak (zKb zLj ha hb hs) λσ H Q h=>tM_ix h
def zrf{α:Type}(l:List α)(lo hi:Option Int):List α:=(l.drop (HT.sIx l.length 0 lo)).take (HT.sIx l.length l.length hi - HT.sIx l.length 0 lo)
def zjf(m:Option (PSt->Option Rs)):PSt->Option (Option Int):=λτ=>match m with
 |none=>some none
 |some m=>match m τ with
  |some (.v (.int i) _)=>some (some i)
  |_=>none
def mSl(ma:PSt->Option Rs)(ml mh:Option (PSt->Option Rs)):PSt->Option Rs:=λτ=>match ma τ with
 |some (.v t false)=>(match zjf ml τ with
  |some lo=>(match zjf mh τ with
   |some hi=>(match t with
    |.nd _ .lst l=>some (.v (.own (zrf (zal l) lo hi)) false)
    |.nd _ .rl l=>some (.v (.own (zrf (zal l) lo hi)) false)
    |_=>none)
   |none=>none)
  |none=>none)
 |some (.v _ true)=>none
 |r=>r
def tPo(K:PySem.W.Frag)(m:Option (PSt->Option Rs)):TO:=λσ H Q=>∃F τ R o,StR K F H σ τ R/\zjf m τ=some o/\∀F' H',Ext F H F' H' R0->Q o H'
theorem r_po0:PO X none (tPo X.K none):=λpins s σ H Q I h=>by
 obtain⟨F,τ,R,o,S,e,q⟩:=h;cases e;exact zFd pins s σ H Q I (q F H (Ext.refl S.fh))
theorem r_po1(ha:PE X e (tM X.K E ca m)):PO X (some e) (tPo X.K (some m)):=λpins s σ H Q I h=>by
 obtain⟨F,τ,R,o,S,e',q⟩:=h;refine zFc ha pins s σ H Q I ⟨F,τ,R,S,?_⟩;unfold zjf at e';simp only at e';cases hm:m τ with
 |none=>rw[hm]at e';cases e'
 |some r =>
  rw[hm]at e';cases r with
  |x c=>cases e'
  |v v b =>
   cases v with
   |int i =>
    cases e';intro F' H' x B e g
    have hx:x=.int i:=by
     cases b with
     |true=>obtain⟨_,A,_,r⟩:=g;exact r.int_inv
     |false=>exact(show Rp X.K F' H' _ _ _ from g).int_inv
    exact⟨i,hx,q F' H' (e.mono λ_ z=>z.elim)⟩
   |_=>cases e'
theorem zC2{F:Hp}{l:List T}{xs:List V}(r:Rps K F l xs)(lo hi:Option Int):Rps K F (zrf l lo hi) (zHx xs lo hi):=by
 have hl:=r.1;unfold zrf zHx;rw[hl];refine⟨by simp[hl],λi t x h1 h2=>?_⟩
 rw[List.getElem?_take]at h1 h2;split at h1
 ·rename_i hi';rw[if_pos hi',ycm]at h2;rw[ycm]at h1;exact r.2 _ t x h1 h2
 ·cases h1
theorem zwq{lo hi:Option Expr}{ml mh:Option (PSt->Option Rs)}{p2:Pos}(ha:PE X a (tM X.K E ca ma))(hl:PO X lo (tPo X.K ml))(hh:PO X hi (tPo X.K mh)):PE X (.Subscript a (.Slice lo hi none p2) pos) (tM X.K E ca (mSl ma ml mh)):=by
 refine PE.weak (zu3 zEk ha hl hh) λσ H Q h=>?_
 obtain⟨F,τ,R,S,q⟩:=h;refine⟨F,τ,R,S,?_⟩;unfold mSl at q;cases hm:ma τ with
 |none=>simp only[hm]at q
 |some r =>
  simp only[hm]at q;cases r with
  |x c=>exact q
  |v t bb =>
   cases bb with
   |true=>exact q.elim
   |false =>
    intro F1 H1 x B e1 g1;obtain⟨F1',e1',_,r1⟩:=Got.frz (b:=false) S e1 g1;have S1:=S.ext e1';simp only at q;cases h1:zjf ml τ with
    |none=>simp only[h1]at q
    |some lo' =>
     simp only[h1]at q;refine⟨F1',τ,R,lo',S1,h1,λF2 H2 e2=>?_⟩
     have S2:=S1.ext e2;cases h2:zjf mh τ with
     |none=>simp only[h2]at q
     |some hi' =>
      simp only[h2]at q;refine⟨F2,τ,R,hi',S2,h2,λF3 H3 e3=>?_⟩
      have S3:=S2.ext e3;have e03:=e1'.trans0 (e2.trans0 e3);have r3:Rp X.K F3 F3 t.share x R0:=(show Rp X.K F1' F1' t.share x R0 from r1).frame (e2.ff.trans e3.ff) λ_ z=>z.elim
      have key:∀{o:Bool} {k:Kd} {l:List T},t=.nd o k l->(k=.lst\/k=.rl)->(∀F' H' x B,Ext F H F' H' B->Rp X.K F' H' (.own (zrf (zal l) lo' hi')) x B->Q x H')->rSlL X.K x lo' hi' H3 Q:=by
       intro o k l et hk qq;subst et;rw[T.share]at r3;obtain⟨p,xs,rfl,_,n3,k3⟩:=zci r3
       have sq:SqL X.K H3 p xs:=by
        rcases hk with rfl|rfl
        ·exact SqL.of (S3.fh _ _ n3)
        ·exact S3.fh.seq n3
       refine⟨p,xs,rfl,sq,λp' hp'=>?_⟩
       have gg:zpu X.K F3 H3 (.own (zrf (zal l) lo' hi')) Q:=λF' H' z C e g=>qq F' H' z C (e03.trans0 e) g
       exact gg.list S3.fh (zC2 k3 lo' hi') hp'
      cases t with
      |nd o k l =>
       cases k with
       |lst=>exact key rfl (.inl rfl) q
       |rl=>exact key rfl (.inr rfl) q
       |tup=>exact q.elim
       |rt=>exact q.elim
       |pin _=>exact q.elim
      |_=>exact q.elim
def tMo(K:PySem.W.Frag)(E:L2.St->XK)(ca:Str->Value)(m:PSt->Option RsL):TA:=λσ H Q=>∃F τ R,StR K F H σ τ R/\match m τ with
 |some (.v ts _)=>∀F' H' xs (Rr:Nat->Rg),Ext F H F' H' (tot Rr)->RpO K F' H' ts xs Rr->Q xs H'
 |some (.x c)=>∀F' H',Ext F H F' H' R0->E σ (ca c) none H'
 |none=>False
def zao(m:PSt->Option Rs)(ms:PSt->Option RsL):PSt->Option RsL:=λτ=>match m τ with
 |some (.v t false)=>(match ms τ with
  |some (.v ts _)=>some (.v (t::ts) false)
  |r=>r)
 |some (.v _ true)=>none
 |some (.x c)=>some (.x c)
 |none=>none
theorem zD2:PA X [] (tMo X.K E ca zac):=PA.weak zfw λσ H Q h=>by
 obtain⟨F,τ,R,S,q⟩:=h;exact q F H [] (λ_=>R0) ((Ext.refl S.fh).mono λa ⟨i,z⟩=>z.elim) .nil
theorem zwr(ha:PE X e (tM X.K E ca m))(hr:PA X es (tMo X.K E ca ms))(hs:starEach (e::es) X.env=(false,eval e X.env)::starEach es X.env):PA X (e::es) (tMo X.K E ca (zao m ms)):=by
 refine PA.weak (zc5 ha hr hs) λσ H Q h=>?_
 obtain⟨F,τ,R,S,q⟩:=h;refine⟨F,τ,R,S,?_⟩;unfold zao at q;cases hm:m τ with
 |none=>simp only[hm]at q
 |some r =>
  simp only[hm]at q;cases r with
  |x c=>exact q
  |v t bb =>
   cases bb with
   |true=>exact q.elim
   |false =>
    intro F1 H1 x B e1 g1;have S1:=S.ext e1;refine⟨F1,τ,R,S1,?_⟩;simp only at q;cases hs:ms τ with
    |none=>simp only[hs]at q
    |some r =>
     simp only[hs]at q;cases r with
     |x c=>exact λF' H' e=>q F' H' ((e1.trans e).mono λ_ z=>z.elim)
     |v ts b' =>
      intro F2 H2 xs Rr e2 ro;have g1':Rp X.K F1 H1 t x B:=g1;refine q F2 H2 (x::xs) _ ((e1.trans e2).mono ?_) (ro.cons (g1'.ext e2) λi a z=>?_)
      ·rintro a ⟨j,z⟩;cases j with
       |zero=>exact .inl z
       |succ j=>exact .inr ⟨j,z⟩
      ·exact g1'.apart e2 ⟨i,z⟩
def zea(ms:PSt->Option RsL):PSt->Option Rs:=λτ=>match ms τ with
 |some (.v ts _)=>if ts.length<=lim then some (.v (.own ts) false) else none
 |some (.x c)=>some (.x c)
 |none=>none
theorem r_lst(h:PA X es (tMo X.K E ca ms)):PE X (.List es pos) (tM X.K E ca (zea ms)):=by
 refine PE.weak (zK9 h) λσ H Q h=>?_
 obtain⟨F,τ,R,S,q⟩:=h;refine⟨F,τ,R,S,?_⟩;unfold zea at q;cases hm:ms τ with
 |none=>simp only[hm]at q
 |some r =>
  simp only[hm]at q;cases r with
  |x c=>exact q
  |v ts b =>
   intro F1 H1 xs Rr e1 ro
   by_cases hz:ts.length<=lim
   ·simp only[hz,if_true]at q;refine⟨by rw[<- ro.len,<- zez];exact hz,λp hp=>?_⟩
    obtain⟨r,e2⟩:=ro.list e1.fh hp;refine q F1 _ _ _ ((e1.trans e2).mono ?_) r;rintro a (z|⟨i,z⟩)
    ·exact .inr z
    ·exact .inl ⟨i,z⟩
   ·simp only[hz,if_false]at q
def zol(ms:PSt->Option RsL):PSt->Option Rs:=λτ=>match ms τ with
 |some (.v ts false)=>if ts.length<=lim then some (.v (.tup ts) false) else none
 |some (.v _ true)=>none
 |some (.x c)=>some (.x c)
 |none=>none
theorem zJi{k:Nat}(h:PA X es (tMs X.K E ca ms)):PE X (.Tuple es k pos) (tM X.K E ca (zol ms)):=by
 refine PE.weak (zK4 h) λσ H Q h=>?_
 obtain⟨F,τ,R,S,q⟩:=h;refine⟨F,τ,R,S,?_⟩;unfold zol at q;cases hm:ms τ with
 |none=>simp only[hm]at q
 |some r =>
  simp only[hm]at q;cases r with
  |x c=>exact q
  |v ts b =>
   cases b with
   |true=>exact q.elim
   |false =>
    intro F1 H1 xs e1 rs
    by_cases hz:ts.length<=lim
    ·simp only[hz,if_true]at q;refine⟨by rw[<- rs.1,<- zez];exact hz,λp hp=>?_⟩
     have gg:zpu X.K F1 H1 (.tup ts) Q:=λF' H' z C e g=>q F' H' z C (e1.trans0 e) g
     exact gg.tuple e1.fh rs hp
    ·simp only[hz,if_false]at q
theorem zqe{id:String}{x:Str}{p:Pos}{g:List T->Option T}(hc:zd3 X (.builtin id) (rTn X.K g))(hg:Gl X x)(hm:X.mg x=none)(hv:bootBuiltins x=some (.builtin id))(ha:PA X (e::es) (tMs X.K E ca ms))(hn:x≠"__name__")(hdb:(x == ("__debug__":Str))=false)
  (he:starEach (e::es) X.env=(false,eval e X.env)::starEach es X.env) (hpl:(backTo pos (starEach es X.env)).any (·.1)=false):PE X (.Call (.Name x p) (e::es) [] pos) (tM X.K E ca (mAp g ms)) :=
 PE.weak (zid hc hg hm hv ha hn hdb he hpl) λσ H Q h=>zpz h
theorem zws{T':String}{x:Str}{p:Pos}{g:List T->Option T}(hc:zd3 X (.type T') (rTn X.K g))(hg:Gl X x)(hm:X.mg x=none)(hv:bootBuiltins x=some (.type T'))(ha:PA X (e::es) (tMs X.K E ca ms))(hn:x≠"__name__")(hdb:(x == ("__debug__":Str))=false)
  (he:starEach (e::es) X.env=(false,eval e X.env)::starEach es X.env) (hpl:(backTo pos (starEach es X.env)).any (·.1)=false):PE X (.Call (.Name x p) (e::es) [] pos) (tM X.K E ca (mAp g ms)) :=
 PE.weak (zqf hc hg hm hv ha hn hdb he hpl) λσ H Q h=>zpz h
end
end Pu
set_option Elab.async false
set_option linter.all false
set_option maxRecDepth 100000
namespace Pu
open PySem PySem.Spec PyProof.Rows L2 Zw Zx
def zhe:T->Option T
 |.nd _ _ l=>some (.int l.length)
 |.str z=>if z.length<=lim then some (.int z.length) else none
 |_=>none
def zcp:T->Option T
 |.nd _ _ l=>some (.own l)
 |_=>none
def zMz:T->Option T
 |.int i=>some (.int (if i<0 then -i else i))
 |_=>none
def zMq:T->T->Option T
 |.int i,.int j=>some (.int (if j<i then j else i))
 |_,_=>none
def zLm:T->Option T
 |.int i=>some (.int i)
 |.bl k=>some (.int (if k then 1 else 0))
 |.str x=>if x.length<=640 then (intText? x).map T.int else none
 |_=>none
def zjl:List T->Option (List Bool)
 |[]=>some []
 |.bl b::r=>(match zjl r with
  |some l=>some (b::l)
  |none=>none)
 |_::_=>none
def zth:T->Option T
 |.nd _ .lst l=>(match zjl l with
  |some bs=>some (.bl (bs.all id))
  |none=>none)
 |_=>none
def zMy:T->Option T
 |.nd _ .lst l=>(match zjl l with
  |some bs=>some (.bl (bs.any id))
  |none=>none)
 |_=>none
def tyN:T->Option String
 |.non=>some "NoneType"
 |.bl _=>some "bool"
 |.int _=>some "int"
 |.str _=>some "str"
 |.nd _ .lst _=>some "list"
 |.nd _ .tup _=>some "tuple"
 |.dic _ _=>some "dict"
 |.pdc _ _=>some "dict"
 |_=>none
def zIc:List String:=["int","bool","str","list","tuple"]
def zzv(a c:String):Bool:=a == c || (a == "bool" && c == "int")
def zdy(c:String)(t:T):Option T:=match tyN t with
 |some a=>if c∈zIc then some (.bl (zzv a c)) else none
 |none=>none
theorem zsr:PySem.W.kitMeta "str"=true:=by decide +kernel
theorem zqm:PySem.W.kitMeta "list"=true:=by decide +kernel
theorem zDn(K:PySem.W.Frag){a c:String}(ha:a∈["NoneType","bool","int","str","list","tuple","dict"])(hc:c∈zIc):PySem.W.kitOne K (.type a) (.type c)=some (zzv a c):=by
 have km:PySem.W.kitMeta c=true:=by
  simp only[zIc,yaj,ybx,or_false]at hc
  rcases hc with rfl|rfl|rfl|rfl|rfl
  ·exact zss
  ·exact zqn
  ·exact zsr
  ·exact zqm
  ·exact zoo
 by_cases h:a=c
 ·subst h;rw[zBc];simp[zzv]
 ·refine zLa K (l:=[]) h km ?_;simp only[zIc,yaj,ybx,or_false]at hc ha
  rcases ha with rfl|rfl|rfl|rfl|rfl|rfl|rfl<;>rcases hc with rfl|rfl|rfl|rfl|rfl<;>first|exact absurd rfl h|decide +kernel
section
variable {X:Cx}
theorem zz3:zd3 X (.builtin "len") (rTn X.K (g1 zhe)):=by
 intro pins s σ H xs us Q I r h;obtain⟨F,ts,v,fh,rs,e,q⟩:=h;unfold g1 at e;split at e
 ·obtain⟨x1,xs1,rfl,r1,rs1⟩:=rs.inv;cases rs1.inv0;unfold zhe at e;split at e
  ·cases e;obtain⟨p,ys,rfl,hq,hl,_⟩:=Rp.seq (H:=H) fh (r1.any);refine zuu pins s σ H _ us Q I r ⟨_,ys.length,rfl,?_,by rw[<- hl];exact q.int fh⟩
   rcases hq with hq|hq
   ·exact .inl ⟨ys,hq,rfl⟩
   ·exact .inr ⟨ys,hq,rfl⟩
  ·split at e
   ·cases e;rename_i hz;rw[r1.str_inv]at r;exact zuu pins s σ H _ us Q I r ⟨_,_,rfl,⟨by rw[<- zez];exact hz,rfl⟩,q.int fh⟩
   ·cases e
  ·cases e
 ·cases e
theorem zx9{K:PySem.W.Frag}{F H:Hp}{k:Kd}{p:Addr}{xs:List V}(s:zbl F H)(h:zps K F k p xs):SqL K H p xs\/SqT K H p xs:=by
 cases k with
 |lst=>exact .inl (SqL.of (s _ _ h))
 |rl=>exact .inl (s.seq h)
 |tup=>exact .inr (SqT.of (s _ _ h))
 |rt=>exact .inr (zd8 s h)
 |pin q=>exact .inl (SqL.of (s _ _ h))
theorem zvq:zd3 X (.type "list") (rTn X.K (g1 zcp)):=by
 intro pins s σ H xs us Q I r h;obtain⟨F,ts,v,fh,rs,e,q⟩:=h;unfold g1 at e;split at e
 ·obtain⟨x1,xs1,rfl,r1,rs1⟩:=rs.inv;cases rs1.inv0;unfold zcp at e;split at e
  ·cases e;obtain⟨p,ys,rfl,rfl,n1,k1⟩:=zci r1;have hq:SqL X.K H p ys\/SqT X.K H p ys:=zx9 fh n1;exact zrm pins s σ H _ us Q I r ⟨p,ys,rfl,hq,λl hl=>q.list fh k1 hl⟩
  ·cases e
 ·cases e
theorem zz8:zd3 X (.builtin "abs") (rTn X.K (g1 zMz)):=by
 intro pins s σ H xs us Q I r h;obtain⟨F,ts,v,fh,rs,e,q⟩:=h;unfold g1 at e;split at e
 ·obtain⟨x1,xs1,rfl,r1,rs1⟩:=rs.inv;cases rs1.inv0;unfold zMz at e;split at e
  ·cases e;rw[r1.int_inv]at r;exact zCb pins s σ H _ us Q I r ⟨_,rfl,q.int fh⟩
  ·cases e
 ·cases e
theorem zz5:zd3 X (.type "int") (rTn X.K (g1 zLm)):=by
 intro pins s σ H xs us Q I r h;obtain⟨F,ts,v,fh,rs,e,q⟩:=h;unfold g1 at e;split at e
 ·obtain⟨x1,xs1,rfl,r1,rs1⟩:=rs.inv;cases rs1.inv0;unfold zLm at e;split at e
  ·cases e;rw[r1.int_inv]at r;exact zrn pins s σ H _ us Q I r (.inl ⟨_,rfl,q.int fh⟩)
  ·cases e;rw[r1.bl_inv]at r;exact zrn pins s σ H _ us Q I r (.inr ⟨_,rfl,q.int fh⟩)
  ·split at e
   ·obtain⟨n,hn,rfl⟩:=ya2.mp e;rw[r1.str_inv]at r;obtain⟨u,rfl,ru⟩:=r.one;obtain⟨t,rfl⟩:=ru;exact PySem.W.KIN.call_text hn ‹_› ⟨.int n,H,I.tok _,⟨_,rfl⟩,q.int fh⟩
   ·cases e
  ·cases e
 ·cases e
theorem zz0{f:String}{g:T->T->Option T}{gi:Int->Int->Int}(hc:zd3 X (.builtin f) (λxs H Q=>∃i j,xs=[.int i,.int j]/\Q (.int (gi i j)) H))(hg:∀t u v,g t u=some v->∃i j,t=.int i/\u=.int j/\v=.int (gi i j)):zd3 X (.builtin f) (rTn X.K (g2 g)):=by
 intro pins s σ H xs us Q I r h;obtain⟨F,ts,v,fh,rs,e,q⟩:=h;unfold g2 at e;split at e
 ·obtain⟨x1,xs1,rfl,r1,rs1⟩:=rs.inv;obtain⟨x2,xs2,rfl,r2,rs2⟩:=rs1.inv;cases rs2.inv0;obtain⟨i,j,rfl,rfl,rfl⟩:=hg _ _ _ e;rw[r1.int_inv,r2.int_inv]at r;exact hc pins s σ H _ us Q I r ⟨_,_,rfl,q.int fh⟩
 ·cases e
theorem zz2(hc:X.calm=true):zd3 X (.builtin "min") (rTn X.K (g2 zMq)):=zz0 (zyy hc) λt u v h=>by
 unfold zMq at h;split at h
 ·cases h;exact⟨_,_,rfl,rfl,rfl⟩
 ·cases h
theorem zrp:∀{l:List T} {bs:List Bool},zjl l=some bs->l.length=bs.length/\∀(i:Nat) (t:T),l[i]?=some t->∃b,bs[i]?=some b/\t=.bl b
 |[],bs,h=>by cases h;exact⟨rfl,λi t e=>by simp at e⟩
 |t::r,bs,h=>by
  unfold zjl at h;cases t with
  |bl b =>
   simp only at h;cases hr:zjl r with
   |none=>simp only[hr]at h;cases h
   |some l =>
    simp only[hr]at h;cases h;obtain⟨h1,h2⟩:=zrp hr;refine⟨by simp[h1],λi t e=>?_⟩
    cases i with
    |zero=>simp at e;exact⟨b,rfl,e.symm⟩
    |succ i=>exact h2 i t (by simpa using e)
  |_=>cases h
theorem zqd{bs:List Bool}{tr:Nat->Bool}(h:∀(i:Nat) (b:Bool),bs[i]?=some b->tr i=b):(List.range bs.length).all tr=bs.all id/\(List.range bs.length).any tr=bs.any id:=by
 have e:(List.range bs.length).map tr=bs:=by
  apply ycx;intro i;rw[ya3]
  by_cases hi:i<bs.length
  ·rw[yc1 hi,ya0 hi];simp only[ybt];rw[h i _ (ya0 hi)]
  ·rw[yb7 (by simp;omega),yb7 (by omega)]
   rfl
 constructor
 ·have:(List.range bs.length).all tr=((List.range bs.length).map tr).all id:=by rw[List.all_map];rfl
  rw[this,e]
 ·have:(List.range bs.length).any tr=((List.range bs.length).map tr).any id:=by rw[List.any_map];rfl
  rw[this,e]
theorem zI7(hc:X.calm=true){pins:List (Addr×Obj)}{s:Shared}{σ:L2.St}{H:Hp}{F:Hp}{l:List T}{bs:List Bool}{p:Addr}{E':Value->Shared->Prop}{P:Value->Shared->Prop}{o:Bool}(I:Inv X pins σ H s)(fh:zbl F H)(r1:Rp X.K F F (.nd o .lst l) (.ref p) R0)(hb:zjl l=some bs)
  (hP : ∀ (I0 : Addr) (wr fp : List Addr) (St : Nat -> Heap -> Prop) (PP : Nat -> Value -> Prop) (tr : Nat -> Bool) (s2 : Shared), Walks X.prog X.w X.A.in1 I0 fp wr bs.length PP St -> St 0 s2.heap -> TruthOf X.prog X.w X.A.in1 PP tr -> (∀ (i : Nat) (b : Bool), bs[i]? = some b -> tr i = b) ->
   (∀h' tk,(∀b o,b∉wr->s2.heap.get? b=some o->h'.get? b=some o)->Inv X pins σ H { s2 with heap:=h',toks:=tk })->P (.ref I0) s2):wpAny (model X.prog X.w) X.A.in1 (pyIter (.ref p)) P E' s:=by
 obtain⟨p',ys,e',rfl,n1,k1⟩:=zci r1;cases e';obtain⟨hlen,hget⟩:=zrp hb;obtain⟨its,rv,pl,hz⟩:=I.list (SqL.of (fh _ _ n1):SqL X.K H p ys);have hl:=rv.length
 have hne:p≠s.heap.objs.size:=yar (by
  obtain⟨o,n,e,_⟩:=pl;exact yad e)
 have hh:X.A.in1.handled=none:=I.ok.hd hc
 have val:∀(i:Nat) (v:Value),its[i]?=some v->∃b,bs[i]?=some b/\v=.bool b:=λi v hv=>by
  have hi:i<ys.length:=by
   have:=(ya5.mp hv).1
   omega
  have hi2:i<l.length:=by rw[k1.1];exact hi
  obtain⟨b,h1,h2⟩:=hget i _ (ya0 hi2);have rr:=k1.2 i _ _ (ya0 hi2) (ya0 hi);rw[h2]at rr;obtain⟨u,e1,ru⟩:=rv.get (ya0 hi);rw[hv]at e1;cases e1;rw[rr.bl_inv]at ru;exact⟨b,h1,ru⟩
 have hbl:its.toArray.size=bs.length:=by rw[yai,<- hl,<- k1.1,hlen]
 refine wpAny_pyIter_list pl.isList ?_;have W:=Walks.list (prog:=X.prog) (w:=X.w) hh s.heap.objs.size p hne its.toArray;rw[hbl]at W;refine hP s.heap.objs.size _ _ _ _ (λi=>bs.getD i false) _ W ⟨⟨_,yav _ rfl,rfl,rfl⟩,?_⟩ ?_ ?_ ?_
 ·obtain⟨o,ho,hr⟩:=pl.isList;exact⟨o,yac _ ho,hr⟩
 ·intro i v s' Q' E'' hv hq';obtain⟨b,h1,h2⟩:=val i v (by simpa using hv)
  subst h2;refine wpAny_truthy_bool ?_;have e:bs.getD i false=b:=by rw[ya7,h1];rfl
  rw[<- e];exact hq'
 ·intro i b hb';show bs.getD i false=b;rw[ya7,hb']
  rfl
 ·intro h' tk k
  exact I.kept λb o e=>k b o (λz=>by
   rw[ya9]at z;exact absurd (yad e) (by rw[z];exact yb9 _)) (yac _ e)
theorem zz7(hc:X.calm=true):zd3 X (.builtin "all") (rTn X.K (g1 zth)):=by
 intro pins s σ H xs us Q I r h;obtain⟨F,ts,v,fh,rs,e,q⟩:=h;unfold g1 at e;split at e
 ·obtain⟨x1,xs1,rfl,r1,rs1⟩:=rs.inv;cases rs1.inv0;unfold zth at e;split at e
  ·split at e
   ·cases e;rename_i bs hbs;obtain⟨p,rfl⟩:=r1.ref_inv;obtain⟨u,rfl,ru⟩:=zku r;cases ru;refine call_all_walk (zI7 hc I fh r1 hbs λI0 wr fp St PP tr s2 W st0 tro htr fin=>⟨I0,fp,wr,bs.length,PP,St,tr,rfl,W,st0,tro,λh' tk k=>?_⟩)
    rw[(zqd htr).1];exact⟨.bl _,H,fin h' tk k,rfl,q.bl fh⟩
   ·cases e
  ·cases e
 ·cases e
theorem zz6(hc:X.calm=true):zd3 X (.builtin "any") (rTn X.K (g1 zMy)):=by
 intro pins s σ H xs us Q I r h;obtain⟨F,ts,v,fh,rs,e,q⟩:=h;unfold g1 at e;split at e
 ·obtain⟨x1,xs1,rfl,r1,rs1⟩:=rs.inv;cases rs1.inv0;unfold zMy at e;split at e
  ·split at e
   ·cases e;rename_i bs hbs;obtain⟨p,rfl⟩:=r1.ref_inv;obtain⟨u,rfl,ru⟩:=zku r;cases ru;refine call_any_walk (zI7 hc I fh r1 hbs λI0 wr fp St PP tr s2 W st0 tro htr fin=>⟨I0,fp,wr,bs.length,PP,St,tr,rfl,W,st0,tro,λh' tk k=>?_⟩)
    rw[(zqd htr).2];exact⟨.bl _,H,fin h' tk k,rfl,q.bl fh⟩
   ·cases e
  ·cases e
 ·cases e
theorem zvd{pins:List (Addr×Obj)}{σ:L2.St}{H:Hp}{s:Shared}{p:Addr}{ob:Obj}{kvs:List (Key×V)}{c:Value}{b:Bool}{A:Around}{Q:Value->Shared->Prop}{E:Value->Shared->Prop}(I:Inv X pins σ H s)(ea:H p=some (.frz ob (.dK kvs)))(e:PySem.W.kitOne X.K (.type "dict") c=some b)(h:∀tk,Q (.bool b) { s with toks:=tk }) :
  wpAny (model X.prog X.w) A (call (.builtin "isinstance") [.ref p,c]) Q E s:=by
 obtain⟨_,_,_,vs,_,q⟩:=(show zbo X.prog X.w H s.heap p (.frz ob (.dK kvs)) from I.hok p _ ea);obtain⟨o,es,ep,h1,h2,_⟩:=q;exact ybh ydp I.kIn ⟨o,h1,h2.1⟩ e (λz=>nomatch z) h
theorem zIb{F H:Hp}{t:T}{x:V}{a:String}(fh:zbl F H)(r:Rp X.K F F t x R0)(h:tyN t=some a):(TyOf X.K H x (.type a)\/a="dict"/\∃p ob kvs,x=.ref p/\H p=some (.frz ob (.dK kvs)))/\a∈["NoneType","bool","int","str","list","tuple","dict"]:=by
 cases t with
 |non=>cases h;rw[r.non_inv];exact⟨.inl .non,by simp⟩
 |bl b=>cases h;rw[r.bl_inv];exact⟨.inl (.bl b),by simp⟩
 |int i=>cases h;rw[r.int_inv];exact⟨.inl (.int i),by simp⟩
 |str y=>cases h;rw[r.str_inv];exact⟨.inl (.str y),by simp⟩
 |nd o k l =>
  obtain⟨p,xs,rfl,_,n,_⟩:=zci r;cases k with
  |lst=>cases h;exact⟨.inl (.lst (fh _ _ n)),by simp⟩
  |tup=>cases h;exact⟨.inl (.tup (fh _ _ n)),by simp⟩
  |rl=>cases h
  |rt=>cases h
  |pin _=>cases h
 |dic ks l =>
  cases h;cases r with
  |dic h e ek c=>exact⟨.inr ⟨rfl,_,_,_,rfl,fh _ _ h⟩,by simp⟩
 |pdc ks l =>
  cases h;cases r with
  |pdc h e ek c=>exact⟨.inl (.dK (fh _ _ h)),by simp⟩
 |odc ks l=>cases h
 |obj k l=>cases h
 |oob p C fs l=>cases h
 |osd ks l=>cases h
theorem zz4{c:String}:zd3 X (.builtin "isinstance") (λxs H Q=>∃x,xs=[x,.ty c]/\rTn X.K (g1 (zdy c)) [x] H Q):=by
 intro pins s σ H xs us Q I r h;obtain⟨x,rfl,F,ts,v,fh,rs,e,q⟩:=h;unfold g1 at e;split at e
 ·obtain⟨x1,xs1,e1,r1,rs1⟩:=rs.inv;cases e1;unfold zdy at e;split at e
  ·rename_i a ha;split at e
   ·cases e;rename_i hc;obtain⟨ty,hm⟩:=zIb fh r1 ha
    rcases ty with ty|⟨rfl,p,ob,kvs,rfl,hp⟩
    ·exact zC9 pins s σ H _ us Q I r ⟨x,_,_,rfl,ty,zDn X.K hm hc,q.bl fh⟩
    ·obtain⟨u,w',rfl,rx,ry⟩:=zux r;cases ry;cases rx;exact zvd I hp (zDn X.K hm hc) λtk=>⟨.bl _,H,I.tok _,rfl,q.bl fh⟩
   ·cases e
  ·cases e
 ·cases e
def T.isN:T->Bool
 |.non=>true
 |_=>false
def T.isB(b:Bool):T->Bool
 |.bl c=>c == b
 |_=>false
def zGp(neg:Bool)(t u:T):Option T:=match u with
 |.non=>some (.bl (neg ^^ t.isN))
 |.bl b=>some (.bl (neg ^^ t.isB b))
 |_=>none
theorem zyg{K:PySem.W.Frag}{F H:Hp}{t:T}{x:V}{A:Rg}(r:Rp K F H t x A):decide (x=V.non)=t.isN:=by
 cases r<;>simp[T.isN]
theorem zM3{K:PySem.W.Frag}{F H:Hp}{t:T}{x:V}{A:Rg}{b:Bool}(r:Rp K F H t x A):decide (x=V.bl b)=t.isB b:=by
 cases r<;>simp[T.isB]
 rename_i c;cases c<;>cases b<;>rfl
theorem zKp:OpR X (compareOp .Is) (rT2 X.K (zGp false)):=by
 intro pins s σ H x y v u Q I rx ry h;obtain⟨F,t1,t2,r,fh,r1,r2,e,q⟩:=h;unfold zGp at e;split at e
 ·cases e;rw[r2.non_inv]at ry;refine zKj pins s σ H _ _ v u Q I rx ry ⟨rfl,?_⟩;rw[zyg r1];have:=q.bl fh;rw[Bool.false_xor]at this;exact this
 ·cases e;rw[r2.bl_inv]at ry;refine zKk pins s σ H _ _ v u Q I rx ry ⟨_,rfl,?_⟩;rw[zM3 r1];have:=q.bl fh;rw[Bool.false_xor]at this;exact this
 ·cases e
theorem zx7:OpR X (compareOp .IsNot) (rT2 X.K (zGp true)):=by
 intro pins s σ H x y v u Q I rx ry h;obtain⟨F,t1,t2,r,fh,r1,r2,e,q⟩:=h;unfold zGp at e;split at e
 ·cases e;rw[r2.non_inv]at ry;refine zFk pins s σ H _ _ v u Q I rx ry ⟨rfl,?_⟩;rw[zyg r1];have:=q.bl fh;rw[Bool.true_xor]at this;exact this
 ·cases e;rw[r2.bl_inv]at ry;refine zFl pins s σ H _ _ v u Q I rx ry ⟨_,rfl,?_⟩;rw[zM3 r1];have:=q.bl fh;rw[Bool.true_xor]at this;exact this
 ·cases e
end
section
variable {X:Cx}{E:L2.St->XK}{ca:Str->Value}{σ:L2.St}{H:Hp}{m ma mb mc:PSt->Option Rs}{ms:PSt->Option RsL}{K:PySem.W.Frag}{a b c e:Expr}{es:List Expr}{pos p p2:Pos}
theorem r_isT{c:String}{cn:Str}(hv:bootBuiltins cn=some (.type c))(hg:Gl X "isinstance")(hm:X.mg "isinstance"=none)(hgc:Gl X cn)(hmc:X.mg cn=none)(hn:cn≠"__name__")(hd:(cn == ("__debug__":Str))=false)(ha:PE X e (tM X.K E ca m))(he:starEach [e,.Name cn p2] X.env=(false,eval e X.env)::starEach [.Name cn p2] X.env) :
  PE X (.Call (.Name "isinstance" p) [e,.Name cn p2] [] pos) (tM X.K E ca (mAp (g1 (zdy c)) (za4 m zac))):=by
 refine PE.weak (zid (zz4 (c:=c)) hg hm yco (zc5 ha (zc5 (zx3 (v:=.ty c) hgc hmc hv rfl hn hd) zfw) he) (by decide) (by decide) he rfl) λσ H Q h=>?_
 exact(zeb (zpz h)).mono λx H1 h1=>⟨x,rfl,zg8 h1⟩
inductive Ru where
 |ok (t:T)|exc (c:Str)
def spP(K:PySem.W.Frag)(ca:Str->Value)(g:List T->Option Ru):Sp:=λvs H Q E=>∃F ts,zbl F H/\Rps K F ts vs/\match g ts with
 |some (.ok v)=>zpu K F H v Q
 |some (.exc c)=>∀F' H',Ext F H F' H' R0->E (ca c) none H'
 |none=>False
def zan(g:List T->Option Ru)(ms:PSt->Option RsL):PSt->Option Rs:=λτ=>match ms τ with
 |some (.v ts b)=>(match g ts with
  |some (.ok v)=>fin b v
  |some (.exc c)=>some (.x c)
  |none=>none)
 |some (.x c)=>some (.x c)
 |none=>none
theorem zJr{k j:Nat}{x:Str}{ps:List Str}{g:List T->Option Ru}(D:DefX X.prog X.w X.K X.mg X.base k x ps (spP X.K ca g))(hr:Room j X.A)(hx:zbh X E)(ha:PA X (e::es) (tMs X.K E ca ms))(hk:k<=j)(hg:Gl X x)(hdb:(x == ("__debug__":Str))=false)
  (he:starEach (e::es) X.env=(false,eval e X.env)::starEach es X.env) (hpl:(backTo pos (starEach es X.env)).any (·.1)=false):PE X (.Call (.Name x p) (e::es) [] pos) (tM X.K E ca (zan g ms)):=by
 refine PE.weak (px D hr hx ha hk hg hdb he hpl) λσ H Q h=>?_
 obtain⟨F,τ,R,S,q⟩:=h;refine⟨F,τ,R,S,?_⟩;unfold zan at q;cases hs:ms τ with
 |none=>simp only[hs]at q
 |some r =>
  simp only[hs]at q;cases r with
  |x c=>exact q
  |v ts b =>
   intro F1 H1 xs e1 rs;have S1:=S.ext e1;simp only at q;rw[yap];refine⟨Gz b F1 H1 R,ts,zGt S1,rs,?_⟩;cases hg:g ts with
   |none=>simp only[hg]at q
   |some r =>
    simp only[hg]at q;cases r with
    |exc c=>exact λF' H' e2=>q F1 H' (e1.grow e2.hh)
    |ok v =>
     intro F2 H2 z C e2 r2;simp only at q;unfold fin at q;cases b with
     |false=>exact q F2 H2 z C (e1.trans0 e2) r2
     |true =>
      cases hf:v.flat with
      |false=>rw[hf]at q;exact False.elim q
      |true=>rw[hf]at q;exact q F1 H2 z R0 (e1.grow e2.hh) (r2.flat_any hf)
end
end Pu
set_option Elab.async false
set_option linter.all false
set_option maxRecDepth 100000
namespace Pu
open PySem PySem.Spec PyProof.Rows L2 Zw Zx
def Its(K:PySem.W.Frag)(J:It)(F:Hp)(ts:List T):Prop:=∀(i:Nat) (F' H':Hp),zbl F F'->zbl F' H' ->
 (∀t,ts[i]?=some t->J.go i H'/\∀x H'',J.yld i H' x H''->∃F'',Ext F' H' F'' H'' R0/\Rp K F'' H'' t x R0)/\(i=ts.length->J.stop i H')
def tI(K:PySem.W.Frag)(E:L2.St->XK)(ca:Str->Value)(m:PSt->Option RsL):TI:=λσ H P=>∃F τ R,StR K F H σ τ R/\match m τ with
 |some (.v ts _)=>∀F' H' J,Ext F H F' H' R0->Its K J F' ts->P J H'
 |some (.x c)=>∀F' H',Ext F H F' H' R0->E σ (ca c) none H'
 |none=>False
def isL:T->Bool
 |.nd _ .lst _=>true
 |.nd _ .rl _=>true
 |.nd _ (.pin _) _=>true
 |_=>false
def zHu(m:PSt->Option Rs):PSt->Option RsL:=λτ=>match m τ with
 |some (.v (.nd _ k l) false)=>some (.v (zal l) false)
 |some (.x c)=>some (.x c)
 |_=>none
def zcq(lo:Int)(n:Nat):List T:=(List.range n).map λ(i:Nat)=>.int (lo+(i:Int))
noncomputable def zmj(j:Int):Bool:=@decide (-(2 ^ 62)<=j/\j<2 ^ 62) (Classical.propDecidable _)
def as1:List T->Option Int
 |[.int j]=>some j
 |_=>none
def as2:List T->Option (Int×Int)
 |[.int i,.int j]=>some (i,j)
 |_=>none
noncomputable def zba(ms:PSt->Option RsL):PSt->Option RsL:=λτ=>match ms τ with
 |some (.v ts _)=>(match as1 ts with
  |some j=>if zmj j then some (.v (zcq 0 j.toNat) false) else none
  |none=>none)
 |r=>r
noncomputable def zhx(ms:PSt->Option RsL):PSt->Option RsL:=λτ=>match ms τ with
 |some (.v ts _)=>(match as2 ts with
  |some (i,j)=>if zmj i && zmj j then some (.v (zcq i (j - i).toNat) false) else none
  |none=>none)
 |r=>r
def zgr:Nat->List T->List T
 |_,[]=>[]
 |i,t::r=>.tup [.int (i:Int),t]::zgr (i+1) r
def asL:List T->Option (List T)
 |[.nd o k l]=>if isL (.nd o k l) then some l else none
 |_=>none
def zMx:List T->Option (List T×List T)
 |[.nd o k l,.nd o' k' m]=>if isL (.nd o k l) && isL (.nd o' k' m) then some (l,m) else none
 |_=>none
def zdz(ms:PSt->Option RsL):PSt->Option RsL:=λτ=>match ms τ with
 |some (.v ts false)=>(match asL ts with
  |some l=>some (.v (zgr 0 l) false)
  |none=>none)
 |some (.v _ true)=>none
 |r=>r
def zHm(l m:List T):List T:=List.zipWith (λa b=>T.tup [a,b]) l m
def zou(ms:PSt->Option RsL):PSt->Option RsL:=λτ=>match ms τ with
 |some (.v ts false)=>(match zMx ts with
  |some (l,m)=>some (.v (zHm l m) false)
  |none=>none)
 |some (.v _ true)=>none
 |r=>r
theorem zrb:∀(l:List T) (n i:Nat),(zgr n l)[i]?=(l[i]?).map λt=>T.tup [.int ((n+i:Nat):Int),t]
 |[],n,i=>by simp[zgr]
 |t::r,n,i=>by
  cases i with
  |zero=>simp[zgr]
  |succ i =>
   simp only[zgr,yci];rw[zrb r (n+1) i];have:n+1+i=n+(i+1):=by omega
   rw[this]
theorem zra(l:List T):∀n,(zgr n l).length=l.length:=by
 induction l with
 |nil=>intro n;rfl
 |cons t r ih=>intro n;simp[zgr,ih]
section
variable {X:Cx}{E:L2.St->XK}{ca:Str->Value}{σ:L2.St}{H:Hp}{m ma mb mc:PSt->Option Rs}{ms:PSt->Option RsL}{K:PySem.W.Frag}{a b c e tg:Expr}{es elts:List Expr}{pos p tpos:Pos}{kk:Nat}
theorem zoq{F:Hp}{p:Addr}{xs:List V}{l:List T}(n:∀F' H':Hp,zbl F F'->zbl F' H'->SqL K H' p xs)(r:Rps K F l xs):Its K (Itl K p) F l:=by
 intro i F' H' s1 s2;have sq:=n F' H' s1 s2;refine⟨λt ht=>?_,λe=>⟨xs,sq,by rw[e,r.1];exact yaa _⟩⟩
 have hi:i<xs.length:=by
  have:=(ya5.mp ht).1;have:=r.1
  omega
 refine⟨⟨xs,xs[i],sq,ya0 hi⟩,λx H'' y=>?_⟩
 obtain⟨rfl,y⟩:=y;have hx:=y xs sq;exact⟨F',Ext.refl s2,((r.same s1).2 i t x ht hx).any⟩
theorem zxt{F:Hp}{p:Addr}{xs:List V}{l:List T}(n:∀F' H':Hp,zbl F F'->zbl F' H'->SqT K H' p xs)(r:Rps K F l xs):Its K (Itt K p) F l:=by
 intro i F' H' s1 s2;have sq:=n F' H' s1 s2;refine⟨λt ht=>?_,λe=>⟨xs,sq,by rw[e,r.1];exact yaa _⟩⟩
 have hi:i<xs.length:=by
  have:=(ya5.mp ht).1;have:=r.1
  omega
 refine⟨⟨xs,xs[i],sq,ya0 hi⟩,λx H'' y=>?_⟩
 obtain⟨rfl,y⟩:=y;have hx:=y xs sq;exact⟨F',Ext.refl s2,((r.same s1).2 i t x ht hx).any⟩
theorem zqr{F:Hp}{lo:Int}{n:Nat}:Its K (Itr lo n) F (zcq lo n):=by
 intro i F' H' s1 s2;refine⟨λt ht=>?_,λe=>?_⟩
 ·unfold zcq at ht;rw[ya3]at ht;obtain⟨j,e1,e2⟩:=ya2.mp ht
  have hi:i<n:=by
   have:=(ya5.mp e1).1
   simpa using this
  have hj:i=j:=by rw[yc1 hi]at e1;exact yas e1
  subst hj;subst e2;refine⟨hi,λx H'' y=>?_⟩
  obtain⟨rfl,rfl⟩:=y;exact⟨F',Ext.refl s2,.int _⟩
 ·have:n<=i:=by rw[e];simp[zcq]
  exact this
theorem zBe{F:Hp}{p:Addr}{xs:List V}{l:List T}(n:∀F' H':Hp,zbl F F'->zbl F' H'->SqL K H' p xs)(r:Rps K F l xs):Its K (Ite K p) F (zgr 0 l):=by
 intro i F' H' s1 s2;have sq:=n F' H' s1 s2;refine⟨λt ht=>?_,λe=>⟨xs,sq,by rw[e,zra,r.1];exact yaa _⟩⟩
 rw[zrb]at ht;obtain⟨t0,h0,rfl⟩:=ya2.mp ht
 have hi:i<xs.length:=by
  have:=(ya5.mp h0).1;have:=r.1
  omega
 refine⟨⟨xs,xs[i],sq,ya0 hi⟩,λx H'' y=>?_⟩
 obtain⟨q,y0,rfl,hq,rfl,y⟩:=y;have hx:=y xs sq;have e:=Ext.new (o:=.tup [.int i,y0]) s2 hq;refine⟨_,e,Rps.of_node (k:=.tup) (xs:=[.int i,y0]) zar ?_⟩;have e0:((0+i:Nat):Int)=(i:Int):=by simp
 rw[e0];exact .cons (H:=H') (.int _) (.cons (H:=H') (((r.same (s1.trans e.ff)).2 i t0 y0 h0 hx).any) .nil)
theorem zGn{F:Hp}{p p2:Addr}{xs ys:List V}{l l2:List T}(n:∀F' H':Hp,zbl F F'->zbl F' H'->SqL K H' p xs)(n2:∀F' H':Hp,zbl F F'->zbl F' H'->SqL K H' p2 ys)(r:Rps K F l xs)(r2:Rps K F l2 ys):Its K (Itz K p p2) F (zHm l l2):=by
 intro i F' H' s1 s2;have sq:=n F' H' s1 s2;have sq2:=n2 F' H' s1 s2;have l1:=r.1;have l2':=r2.1;refine⟨λt ht=>?_,λe=>⟨xs,ys,sq,sq2,?_⟩⟩
 ·unfold zHm at ht;rw[List.getElem?_zipWith]at ht;cases h1:l[i]? with
  |none=>rw[h1]at ht;cases ht
  |some t1 =>
   cases h2:l2[i]? with
   |none=>rw[h1,h2]at ht;cases ht
   |some t2 =>
    rw[h1,h2]at ht;cases ht;have hi:i<xs.length:=by have:=(ya5.mp h1).1;omega
    have hi2:i<ys.length:=by have:=(ya5.mp h2).1;omega
    refine⟨⟨xs,xs[i],ys,ys[i],sq,ya0 hi,sq2,ya0 hi2⟩,λx H'' y=>?_⟩
    obtain⟨q,y0,z0,rfl,hq,rfl,y,z⟩:=y;have hx:=y xs sq;have hy:=z ys sq2;have e:=Ext.new (o:=.tup [y0,z0]) s2 hq;refine⟨_,e,Rps.of_node (k:=.tup) (xs:=[y0,z0]) zar ?_⟩;exact .cons (H:=H') (((r.same (s1.trans e.ff)).2 i t1 y0 h1 hx).any) (.cons (H:=H') (((r2.same (s1.trans e.ff)).2 i t2 z0 h2 hy).any) .nil)
 ·have:i=min l.length l2.length:=by rw[e];simp[zHm]
  omega
theorem PI.weak{t t':TI}(h:PI X tg e t)(w:∀σ H P,t' σ H P->t σ H P):PI X tg e t':=λpins s σ H P I q=>h pins s σ H P I (w σ H P q)
theorem PI.or{t t':TI}(h:PI X tg e t)(h':PI X tg e t'):PI X tg e (λσ H P=>t σ H P\/t' σ H P):=λpins s σ H P I q=>q.elim (h pins s σ H P I) (h' pins s σ H P I)
theorem zD3(ha:PE X e (tM X.K E ca m)):PI X tg e (tI X.K E ca (zHu m)):=by
 refine PI.weak (PI.or (zwz ha) (zK1 ha)) λσ H P h=>?_
 obtain⟨F,τ,R,S,q⟩:=h;unfold zHu at q
 have key:∀{o:Bool} {k:Kd} {l:List T},m τ=some (.v (.nd o k l) false)->(∀F' H' J,Ext F H F' H' R0->Its X.K J F' (zal l)->P J H')->∀F1 H1 x B,Ext F H F1 H1 B->Got X.K F1 H1 R (.nd o k l) false x B->∃(F2:Hp) (p:Addr) (xs:List V),x=.ref p/\Ext F H F2 H1 R0/\zps X.K F2 k p xs/\Rps X.K F2 (zal l) xs:=by
  intro o k l hm q F1 H1 x B e1 g1;obtain⟨F2,e2,_,r2⟩:=Got.frz (b:=false) S e1 g1;have r2':Rp X.K F2 F2 (T.nd o k l).share x R0:=r2;rw[T.share]at r2';obtain⟨p,xs,rfl,_,n,kd⟩:=zci r2';exact⟨F2,p,xs,rfl,e2,n,kd⟩
 cases hm:m τ with
 |none=>simp only[hm]at q
 |some r =>
  simp only[hm]at q;cases r with
  |x c=>exact .inl ⟨F,τ,R,S,by rw[hm];exact q⟩
  |v t bb =>
   cases t with
   |nd o k l =>
    cases bb with
    |true=>exact q.elim
    |false =>
     simp only at q;cases k with
     |lst =>
      refine .inl ⟨F,τ,R,S,?_⟩;rw[hm];intro F1 H1 x B e1 g1;obtain⟨F2,p,xs,rfl,e2,n,kd⟩:=key hm q F1 H1 x B e1 g1;exact⟨p,rfl,⟨xs,SqL.of (e2.fh _ _ n)⟩,q F2 H1 _ e2 (zoq (λF' H' s1 s2=>SqL.of (s2 _ _ (s1 _ _ n))) kd)⟩
     |pin _ =>
      refine .inl ⟨F,τ,R,S,?_⟩;rw[hm];intro F1 H1 x B e1 g1;obtain⟨F2,p,xs,rfl,e2,n,kd⟩:=key hm q F1 H1 x B e1 g1;exact⟨p,rfl,⟨xs,SqL.of (e2.fh _ _ n)⟩,q F2 H1 _ e2 (zoq (λF' H' s1 s2=>SqL.of (s2 _ _ (s1 _ _ n))) kd)⟩
     |rl =>
      refine .inl ⟨F,τ,R,S,?_⟩;rw[hm];intro F1 H1 x B e1 g1;obtain⟨F2,p,xs,rfl,e2,n,kd⟩:=key hm q F1 H1 x B e1 g1;exact⟨p,rfl,⟨xs,e2.fh.seq n⟩,q F2 H1 _ e2 (zoq (λF' H' s1 s2=>s2.seq (s1.seq n)) kd)⟩
     |tup =>
      refine .inr ⟨F,τ,R,S,?_⟩;rw[hm];intro F1 H1 x B e1 g1;obtain⟨F2,p,xs,rfl,e2,n,kd⟩:=key hm q F1 H1 x B e1 g1;exact⟨p,rfl,⟨xs,SqT.of (e2.fh _ _ n)⟩,q F2 H1 _ e2 (zxt (λF' H' s1 s2=>SqT.of (s2 _ _ (s1 _ _ n))) kd)⟩
     |rt =>
      refine .inr ⟨F,τ,R,S,?_⟩;rw[hm];intro F1 H1 x B e1 g1;obtain⟨F2,p,xs,rfl,e2,n,kd⟩:=key hm q F1 H1 x B e1 g1;exact⟨p,rfl,⟨xs,zd8 e2.fh n⟩,q F2 H1 _ e2 (zxt (λF' H' s1 s2=>zd8 s2 (zd8 s1 n)) kd)⟩
   |_=>exact q.elim
theorem znq{f:(PSt->Option RsL)->PSt->Option RsL}{P:It->Hp->Prop}{W:List V->Hp->Prop}(hx:∀τ c,ms τ=some (.x c)->f ms τ=some (.x c))(hn:∀τ,ms τ=none->f ms τ=none)
  (hv : ∀ F τ R ts b, StR K F H σ τ R -> ms τ = some (.v ts b) -> (match f ms τ with
   |some (.v us _)=>∀F' H' J,Ext F H F' H' R0->Its K J F' us->P J H'
   |some (.x c)=>∀F' H',Ext F H F' H' R0->E σ (ca c) none H'
   |none=>False)->∀F' H' xs,Ext F H F' H' R0->Rps K (Gz b F' H' R) ts xs->W xs H') (h:tI K E ca (f ms) σ H P):tMs K E ca ms σ H W:=by
 obtain⟨F,τ,R,S,q⟩:=h;refine⟨F,τ,R,S,?_⟩;cases hm:ms τ with
 |none=>rw[hn τ hm]at q;exact q.elim
 |some r =>
  cases r with
  |x c=>rw[hx τ c hm]at q;exact q
  |v ts b=>exact λF' H' xs e rs=>hv F τ R ts b S hm q F' H' xs e rs
theorem zod{j:Int}(h:zmj j=true):-(2 ^ 62)<=j/\j<2 ^ 62:=@of_decide_eq_true _ (Classical.propDecidable _) h
theorem zAh(hg:Gl X "range")(hm:X.mg "range"=none)(ha:PA X [a] (tMs X.K E ca ms))(hs:starEach [a] X.env=[(false,eval a X.env)]):PI X tg (.Call (.Name "range" p) [a] [] pos) (tI X.K E ca (zba ms)):=by
 refine PI.weak (zwy hg hm ha hs) λσ H P h=>?_
 refine znq (f:=zba) (λτ c e=>by unfold zba;rw[e]) (λτ e=>by unfold zba;rw[e]) (λF τ R ts b S e q F' H' xs e1 rs=>?_) h
 unfold zba at q;rw[e]at q;simp only at q;cases h1:as1 ts with
 |none=>simp only[h1]at q
 |some j =>
  simp only[h1]at q
  by_cases hj:zmj j=true
  ·simp only[hj,if_true]at q;obtain⟨g1,g2⟩:=zod hj;unfold as1 at h1;split at h1
   ·cases h1;obtain⟨x1,xs1,rfl,r1,rs1⟩:=rs.inv;cases rs1.inv0;rw[r1.int_inv];exact⟨j,rfl,g1,g2,q F' H' _ e1 zqr⟩
   ·cases h1
  ·simp only[hj]at q;exact q.elim
theorem zAg(hg:Gl X "range")(hm:X.mg "range"=none)(ha:PA X [a,b] (tMs X.K E ca ms))(hs:starEach [a,b] X.env=[(false,eval a X.env),(false,eval b X.env)])(hs2:starEach [b] X.env=[(false,eval b X.env)]):PI X tg (.Call (.Name "range" p) [a,b] [] pos) (tI X.K E ca (zhx ms)):=by
 refine PI.weak (zwx hg hm ha hs hs2) λσ H P h=>?_
 refine znq (f:=zhx) (λτ c e=>by unfold zhx;rw[e]) (λτ e=>by unfold zhx;rw[e]) (λF τ R ts b S e q F' H' xs e1 rs=>?_) h
 unfold zhx at q;rw[e]at q;simp only at q;cases h1:as2 ts with
 |none=>simp only[h1]at q
 |some ij =>
  obtain⟨i,j⟩:=ij;simp only[h1]at q
  by_cases hj:(zmj i && zmj j)=true
  ·simp only[hj,if_true]at q;rw[ya4]at hj;obtain⟨g1,g2⟩:=zod hj.1;obtain⟨g3,g4⟩:=zod hj.2;unfold as2 at h1;split at h1
   ·cases h1;obtain⟨x1,xs1,rfl,r1,rs1⟩:=rs.inv;obtain⟨x2,xs2,rfl,r2,rs2⟩:=rs1.inv;cases rs2.inv0;rw[r1.int_inv,r2.int_inv];exact⟨i,j,rfl,⟨g1,g2,g3,g4⟩,q F' H' _ e1 zqr⟩
   ·cases h1
  ·simp only[hj]at q;exact q.elim
theorem zxu{F:Hp}{o:Bool}{k:Kd}{l:List T}{x:V}(h:isL (.nd o k l)=true)(r:Rp K F F (.nd o k l) x R0):∃p xs,x=.ref p/\(∀F' H':Hp,zbl F F'->zbl F' H'->SqL K H' p xs)/\Rps K F l xs:=by
 obtain⟨p,xs,rfl,_,n,kd⟩:=zci r;refine⟨p,xs,rfl,λF' H' s1 s2=>?_,kd⟩
 cases k with
 |lst=>exact SqL.of (s2 _ _ (s1 _ _ n))
 |rl=>exact s2.seq (s1.seq n)
 |tup=>cases h
 |rt=>cases h
 |pin q=>exact SqL.of (s2 _ _ (s1 _ _ n))
theorem zD4(hg:Gl X "enumerate")(hm:X.mg "enumerate"=none)(ha:PA X [a] (tMs X.K E ca ms))(hs:starEach [a] X.env=[(false,eval a X.env)]):PI X (.Tuple elts kk tpos) (.Call (.Name "enumerate" p) [a] [] pos) (tI X.K E ca (zdz ms)):=by
 refine PI.weak (zFe hg hm ha hs) λσ H P h=>?_
 refine znq (f:=zdz) (λτ c e=>by unfold zdz;rw[e]) (λτ e=>by unfold zdz;rw[e]) (λF τ R ts b S e q F' H' xs e1 rs=>?_) h
 unfold zdz at q;rw[e]at q;cases b with
 |true=>exact q.elim
 |false =>
  simp only at q;cases h1:asL ts with
  |none=>simp only[h1]at q
  |some l =>
   simp only[h1]at q;unfold asL at h1;split at h1
   ·split at h1
    ·cases h1;rename_i hL;obtain⟨x1,xs1,rfl,r1,rs1⟩:=rs.inv;cases rs1.inv0;obtain⟨p',ys,rfl,sq,kd⟩:=zxu hL r1;exact⟨p',rfl,⟨ys,sq F' H' (.refl _) e1.fh⟩,q F' H' _ e1 (zBe sq kd)⟩
    ·cases h1
   ·cases h1
theorem r_zip(hg:Gl X "zip")(hm:X.mg "zip"=none)(ha:PA X [a,b] (tMs X.K E ca ms))(hs:starEach [a,b] X.env=[(false,eval a X.env),(false,eval b X.env)])(hs2:starEach [b] X.env=[(false,eval b X.env)]):PI X (.Tuple elts kk tpos) (.Call (.Name "zip" p) [a,b] [] pos) (tI X.K E ca (zou ms)):=by
 refine PI.weak (zK0 hg hm ha hs hs2) λσ H P h=>?_
 refine znq (f:=zou) (λτ c e=>by unfold zou;rw[e]) (λτ e=>by unfold zou;rw[e]) (λF τ R ts b S e q F' H' xs e1 rs=>?_) h
 unfold zou at q;rw[e]at q;cases b with
 |true=>exact q.elim
 |false =>
  simp only at q;cases h1:zMx ts with
  |none=>simp only[h1]at q
  |some lm =>
   obtain⟨l,m'⟩:=lm;simp only[h1]at q;unfold zMx at h1;split at h1
   ·split at h1
    ·cases h1;rename_i hL;rw[ya4]at hL;obtain⟨x1,xs1,rfl,r1,rs1⟩:=rs.inv;obtain⟨x2,xs2,rfl,r2,rs2⟩:=rs1.inv;cases rs2.inv0;obtain⟨p',ys,rfl,sq,kd⟩:=zxu hL.1 r1;obtain⟨p2,zs,rfl,sq2,kd2⟩:=zxu hL.2 r2;exact⟨p',p2,rfl,⟨ys,sq F' H' (.refl _) e1.fh⟩,⟨zs,sq2 F' H' (.refl _) e1.fh⟩,q F' H' _ e1 (zGn sq sq2 kd kd2)⟩
    ·cases h1
   ·cases h1
end
theorem StR.set{K:PySem.W.Frag}{F H:Hp}{σ:L2.St}{τ:PSt}{R:Nat->Rg}(S:StR K F H σ τ R){i:Nat}{t:T}{x:V}{A:Rg}(r:Rp K F H t x A)(d:∀j a,j≠i->R j a->¬ A a)(hi:i<τ.length) :
  StR K F H (σ.set i (some x)) (τ.set i (some t)) (λj=>if j=i then A else R j):=by
 have hl:=S.len;refine⟨S.fh,by simp[hl],λj t' e=>?_,λj a z=>?_,λj k a hjk z1 z2=>?_⟩
 ·by_cases hj:j=i
  ·subst hj;rw[yal hi]at e;cases e;exact⟨x,yal (by omega),by simpa using r⟩
  ·rw[yah (yay hj)]at e ⊢;obtain⟨y,e1,r1⟩:=S.rep j t' e;exact⟨y,e1,by simpa[hj] using r1⟩
 ·by_cases hj:j=i
  ·subst hj;exact⟨t,yal hi⟩
  ·simp only[hj,if_false]at z;obtain⟨t',e⟩:=S.out j a z;exact⟨t',by rw[yah (yay hj)];exact e⟩
 ·by_cases hj:j=i
  ·simp only[hj,if_true]at z1;have hk:¬ k=i:=λz=>hjk (hj.trans z.symm)
   simp only[hk,if_false]at z2;exact d k a hk z2 z1
  ·simp only[hj,if_false]at z1
   by_cases hk:k=i
   ·simp only[hk,if_true]at z2;exact d j a hj z1 z2
   ·simp only[hk,if_false]at z2;exact S.dis j k a hjk z1 z2
def tGM(K:PySem.W.Frag)(b:T->PSt->Option PSt):TG:=λv σ H Q=>∃F τ R t τ',StR K F H σ τ R/\Rp K F H t v R0/\b t τ=some τ'/\∀σ' R',StR K F H σ' τ' R'->(∀i a,R' i a->R i a)->Q σ' H
def zHo(K:PySem.W.Frag)(b:List T->PSt->Option PSt):TGs:=λvs σ H Q=>∃F τ R ts τ',StR K F H σ τ R/\Rps K F ts vs/\b ts τ=some τ'/\∀σ' R',StR K F H σ' τ' R'->(∀i a,R' i a->R i a)->Q σ' H
def bNm(i:Nat):T->PSt->Option PSt:=λt τ=>if i<τ.length then some (τ.set i (some t)) else none
def zg4:List T->PSt->Option PSt
 |[],τ=>some τ
 |_::_,_=>none
def zak(b:T->PSt->Option PSt)(bs:List T->PSt->Option PSt):List T->PSt->Option PSt
 |t::ts,τ=>(match b t τ with
  |some τ'=>bs ts τ'
  |none=>none)
 |[],_=>none
def zg1(n:Nat)(bs:List T->PSt->Option PSt):T->PSt->Option PSt
 |.nd _ .tup l,τ=>if l.length=n then bs l τ else none
 |.nd _ .rt l,τ=>if l.length=n then bs l τ else none
 |_,_=>none
section
variable {X:Cx}{e:Expr}{es:List Expr}{pos:Pos}{b:T->PSt->Option PSt}{bs:List T->PSt->Option PSt}
theorem PG.weak{t t':TG}(h:PG X e t)(w:∀v σ H Q,t' v σ H Q->t v σ H Q):PG X e t':=λpins s σ H v u Q I r q=>h pins s σ H v u Q I r (w v σ H Q q)
theorem PGs.weak{t t':TGs}(h:PGs X es t)(w:∀v σ H Q,t' v σ H Q->t v σ H Q):PGs X es t':=λpins s σ H v u Q I r q=>h pins s σ H v u Q I r (w v σ H Q q)
theorem g_nm{i:Nat}{x:Str}(hN:X.N.Nodup)(hi:X.N[i]?=some x)(hx:Loc X.env.scope x)(hf:X.fn x=true\/X.env.scope.names.lookup x=some .local):PG X (.Name x pos) (tGM X.K (bNm i)):=by
 refine PG.weak (zx0 hN hi hx hf) λv σ H Q h=>?_
 obtain⟨F,τ,R,t,τ',S,r,e,q⟩:=h;unfold bNm at e;split at e
 ·cases e;rename_i hl;refine q _ _ (S.set r (λ_ _ _ _ z=>z.elim) hl) λj a z=>?_
  by_cases hj:j=i
  ·simp only[hj,if_true]at z;exact z.elim
  ·simpa[hj] using z
 ·cases e
theorem g_nil:PGs X [] (zHo X.K zg4):=PGs.weak zFf λv σ H Q h=>by
 obtain⟨F,τ,R,ts,τ',S,r,e,q⟩:=h;cases ts with
 |nil=>cases e;exact⟨r.inv0,q σ R S λ_ _ z=>z⟩
 |cons _ _=>cases e
theorem zLt(h1:PG X e (tGM X.K b))(h2:PGs X es (zHo X.K bs))(hs:(assignEach (e::es) X.env).map (·.2)=assign e X.env::(assignEach es X.env).map (·.2)):PGs X (e::es) (zHo X.K (zak b bs)):=by
 refine PGs.weak (zAp h1 h2 hs) λv σ H Q h=>?_
 obtain⟨F,τ,R,ts,τ',S,r,e,q⟩:=h;cases ts with
 |nil=>cases e
 |cons t ts =>
  obtain⟨x,xs,rfl,r1,rs⟩:=r.inv;unfold zak at e;simp only at e;cases hb:b t τ with
  |none=>rw[hb]at e;cases e
  |some τ1 =>
   rw[hb]at e;exact⟨x,xs,rfl,F,τ,R,t,τ1,S,r1.any,hb,λσ1 R1 S1 w1=>⟨F,τ1,R1,ts,τ',S1,rs,e,λσ2 R2 S2 w2=>q σ2 R2 S2 λi a z=>w1 i a (w2 i a z)⟩⟩
theorem g_tup{k n:Nat}(hc:X.calm=true)(h:PGs X es (zHo X.K bs))(hn:(assignEach es X.env).length=n)(hst:(assignEach es X.env).findIdx? (·.1)=none):PG X (.Tuple es k pos) (tGM X.K (zg1 n bs)):=by
 refine PG.weak (zK3 hc h hn hst) λv σ H Q h=>?_
 obtain⟨F,τ,R,t,τ',S,r,e,q⟩:=h
 have key:∀{o:Bool} {kd:Kd} {l:List T},t=.nd o kd l->(kd=.tup\/kd=.rt)->(if l.length=n then bs l τ else none)=some τ'->gTup X.K n (zHo X.K bs) v σ H Q:=by
  intro o kd l et hk e';subst et;split at e'
  ·rename_i hl;obtain⟨p,xs,rfl,_,nn,kid⟩:=zci (r.any (H':=F))
   have sq:SqT X.K H p xs:=by
    rcases hk with rfl|rfl
    ·exact SqT.of (S.fh _ _ nn)
    ·exact zd8 S.fh nn
   exact⟨p,xs,rfl,sq,by rw[<- kid.1];exact hl,F,τ,R,l,τ',S,kid,e',q⟩
  ·cases e'
 unfold zg1 at e;split at e
 ·exact key rfl (.inl rfl) e
 ·exact key rfl (.inr rfl) e
 ·cases e
end
end Pu
set_option Elab.async false
set_option linter.all false
set_option maxRecDepth 100000
namespace Pu
open PySem PySem.Spec PyProof.Rows L2 Zw Zx
def E00:L2.St->XK:=λ_=>E0
def zg5(b:T->PSt->Option PSt)(mt me:PSt->Option Rs):List T->PSt->Option (List T)
 |[],_=>some []
 |t::ts,τ=>(match b t τ with
  |some τ1=>(match mt τ1 with
   |some (.v (.bl true) _)=>(match me τ1 with
    |some (.v v false)=>(match zg5 b mt me ts τ1 with
     |some l=>some (v::l)
     |none=>none)
    |_=>none)
   |some (.v (.bl false) _)=>zg5 b mt me ts τ1
   |_=>none)
  |none=>none)
def lcX(b:T->PSt->Option PSt)(mt me:PSt->Option Rs):List T->PSt->Option Str
 |[],_=>none
 |t::ts,τ=>(match b t τ with
  |some τ1=>(match mt τ1 with
   |some (.v (.bl true) _)=>(match me τ1 with
    |some (.v _ false)=>lcX b mt me ts τ1
    |some (.x c)=>some c
    |_=>none)
   |some (.v (.bl false) _)=>lcX b mt me ts τ1
   |some (.x c)=>some c
   |_=>none)
  |none=>none)
def zHz(τ:PSt)(j:Nat):Option T:=match τ[j]? with
 |some (some t)=>if t.sh then some t else none
 |_=>none
def blk(n:Nat)(caps:List Nat)(τ:PSt):PSt:=List.replicate n none++caps.map (zHz τ)
def zMv(σ:L2.St)(j:Nat):Option V:=match σ[j]? with
 |some (some v)=>some v
 |_=>none
def zvt(n:Nat)(caps:List Nat)(σ:L2.St):L2.St:=List.replicate n none++caps.map (zMv σ)
def mLC(n:Nat)(caps:List Nat)(mi:PSt->Option RsL)(b:T->PSt->Option PSt)(mt me:PSt->Option Rs):PSt->Option Rs:=λτ=>match mi τ with
 |some (.v ts _)=>if ts.length<=lim then (match zg5 b mt me ts (blk n caps τ) with
  |some l=>some (.v (.own l) false)
  |none=>(match lcX b mt me ts (blk n caps τ) with
   |some c=>some (.x c)
   |none=>none)) else none
 |some (.x c)=>some (.x c)
 |none=>none
theorem zMc{K:PySem.W.Frag}{F H:Hp}{σ:L2.St}{τ:PSt}{R:Nat->Rg}(S:StR K F H σ τ R)(n:Nat)(caps:List Nat):StR K F H (zvt n caps σ) (blk n caps τ) (λ_=>R0):=by
 refine⟨S.fh,by simp[zvt,blk],λi t e=>?_,λ_ _ z=>z.elim,λ_ _ _ _ z=>z.elim⟩
 unfold blk at e;unfold zvt
 by_cases hi:i<n
 ·rw[yaz (by simpa using hi),ycv,if_pos hi]at e
  cases e
 ·rw[yb3 (by simp;omega),ya3]at e ⊢
  simp only[yd5]at e ⊢;cases hc:caps[i - n]? with
  |none=>rw[hc]at e;cases e
  |some j =>
   rw[hc]at e;simp only[ybt]at e ⊢;have e':zHz τ j=some t:=yas e;unfold zHz at e';split at e'
   ·rename_i t' ht;split at e'
    ·cases e';rename_i hs;obtain⟨x,ex,r⟩:=S.rep j _ ht;refine⟨x,?_,r.move hs (.refl _)⟩;unfold zMv;rw[ex]
    ·cases e'
   ·cases e'
theorem ztt{l:List T}{Rr:Nat->Rg}{B:Rg}{a:Addr}(h:tot (λj=>if j=l.length then B else Rr j) a):tot Rr a\/B a:=by
 obtain⟨j,z⟩:=h
 by_cases hj:j=l.length
 ·simp only[hj,if_true]at z;exact .inr z
 ·simp only[hj,if_false]at z;exact .inl ⟨j,z⟩
section
variable {X:Cx}{E:L2.St->XK}{ca:Str->Value}{σ:L2.St}{H:Hp}{K:PySem.W.Frag}{n:Nat}{caps:List Nat}{mi:PSt->Option RsL}{b:T->PSt->Option PSt}{mt me:PSt->Option Rs}
theorem zxn{t:T}{us l2:List T}{τ1:PSt}(h:zg5 b mt me (t::us) τ1=some l2):∃τ2,b t τ1=some τ2/\((∃bt,mt τ2=some (.v (.bl false) bt)/\zg5 b mt me us τ2=some l2)\/∃bt w l3,mt τ2=some (.v (.bl true) bt)/\me τ2=some (.v w false)/\zg5 b mt me us τ2=some l3/\l2=w::l3):=by
 unfold zg5 at h;split at h
 ·rename_i τ2 hb;refine⟨τ2,hb,?_⟩;split at h
  ·rename_i bt ht;split at h
   ·rename_i w hw;split at h
    ·rename_i l3 h3;cases h;exact .inr ⟨bt,w,l3,ht,hw,h3,rfl⟩
    ·cases h
   ·cases h
  ·rename_i bt ht;exact .inl ⟨bt,ht,h⟩
  ·cases h
 ·cases h
theorem zB9{t:T}{us:List T}{c:Str}{τ1:PSt}(h:lcX b mt me (t::us) τ1=some c):∃τ2,b t τ1=some τ2/\((∃bt,mt τ2=some (.v (.bl false) bt)/\lcX b mt me us τ2=some c)\/(∃bt,mt τ2=some (.v (.bl true) bt)/\((∃w,me τ2=some (.v w false)/\lcX b mt me us τ2=some c)\/me τ2=some (.x c)))\/mt τ2=some (.x c)):=by
 unfold lcX at h;split at h
 ·rename_i τ2 hb;refine⟨τ2,hb,?_⟩;split at h
  ·rename_i bt ht;split at h
   ·rename_i w hw;exact .inr (.inl ⟨bt,ht,.inl ⟨w,hw,h⟩⟩)
   ·rename_i c' hw;cases h;exact .inr (.inl ⟨bt,ht,.inr hw⟩)
   ·cases h
  ·rename_i bt ht;exact .inl ⟨bt,ht,h⟩
  ·rename_i c' ht;cases h;exact .inr (.inr ht)
  ·cases h
 ·cases h
theorem zIo{Q:VK}(h:tM K E ca (mLC n caps mi b mt me) σ H Q):zMm (zvt n caps) (tI K E ca mi) (tGM K b) (tMB K (λ_=>E σ) ca mt) (tM K (λ_=>E σ) ca me) σ H Q:=by
 obtain⟨F,τ,R,S,q⟩:=h;refine⟨F,τ,R,S,?_⟩;unfold mLC at q;cases hi:mi τ with
 |none=>simp only[hi]at q
 |some r =>
  simp only[hi]at q;cases r with
  |x c=>exact q
  |v ts bb =>
   intro F1 H1 J e1 its
   by_cases hz':¬ ts.length<=lim
   ·simp only[hz',if_false]at q
   have hz:ts.length<=lim:=Decidable.not_not.mp hz';simp only[hz,if_true]at q
   obtain⟨G,g1,g0,gs⟩:∃G:List T->PSt->List T->Prop,(∀t us τ1 l,G (t::us) τ1 l->∃τ2,b t τ1=some τ2/\((∃bt,mt τ2=some (.v (.bl false) bt)/\G us τ2 l)\/(∃bt,mt τ2=some (.v (.bl true) bt)/\((∃w,me τ2=some (.v w false)/\G us τ2 (l++[w]))\/∃c,me τ2=some (.x c)/\∀F' H',Ext F H F' H' R0->E σ (ca c) none H'))\/∃c,mt τ2=some (.x c)/\∀F' H',Ext F H F' H' R0->E σ (ca c) none H')) /\
     (∀τ1 l,G [] τ1 l->∀F' H' x B,Ext F H F' H' B->Rp K F' H' (.own l) x B->Q x H')/\G ts (blk n caps τ) []:=by
    cases hg:zg5 b mt me ts (blk n caps τ) with
    |some res =>
     simp only[hg]at q;refine⟨λus τ1 l=>∃l2,zg5 b mt me us τ1=some l2/\l++l2=res,λt us τ1 l z=>?_,λτ1 l z=>?_,res,hg,rfl⟩
     ·obtain⟨l2,z,e⟩:=z;obtain⟨τ2,y,w|⟨bt,w,l3,y1,y2,y3,rfl⟩⟩:=zxn z
      ·obtain⟨bt,w1,w2⟩:=w;exact⟨τ2,y,.inl ⟨bt,w1,l2,w2,e⟩⟩
      ·exact⟨τ2,y,.inr (.inl ⟨bt,y1,.inl ⟨w,y2,l3,y3,by simpa using e⟩⟩)⟩
     ·obtain⟨l2,z,e⟩:=z;cases z;rw[yap]at e;subst e;exact q
    |none =>
     simp only[hg]at q;cases hx:lcX b mt me ts (blk n caps τ) with
     |none=>simp only[hx]at q
     |some c =>
      simp only[hx]at q;refine⟨λus τ1 l=>lcX b mt me us τ1=some c,λt us τ1 l z=>?_,λτ1 l z=>(by cases z),hx⟩
      obtain⟨τ2,y,w|⟨bt,y1,⟨w,y2,y3⟩|y2⟩|w⟩:=zB9 z
      ·exact⟨τ2,y,.inl w⟩
      ·exact⟨τ2,y,.inr (.inl ⟨bt,y1,.inl ⟨w,y2,y3⟩⟩)⟩
      ·exact⟨τ2,y,.inr (.inl ⟨bt,y1,.inr ⟨c,y2,q⟩⟩)⟩
      ·exact⟨τ2,y,.inr (.inr ⟨c,w,q⟩)⟩
   have S1:=S.ext e1;refine⟨λi ys st H'=>∃(F':Hp) (τ':PSt) (l:List T) (Rr:Nat->Rg),Ext F1 H1 F' H' (tot Rr)/\RpO K F' H' l ys Rr/\StR K F' H' st τ' (λ_=>R0)/\i<=ts.length/\G (ts.drop i) τ' l/\l.length<=i,ts.length,by rw[<- zez];exact hz,?_,?_⟩
   ·exact⟨F1,blk n caps τ,[],λ_=>R0,(Ext.refl S1.fh).mono λa ⟨_,z⟩=>z.elim,.nil,zMc S1 n caps,yb2 _,gs,yaa _⟩
   ·rintro i ys st H' ⟨F',τ',l,Rr,e2,ro,S2,hle,hgo,hll⟩;have hly:=ro.len;refine⟨by omega,hle,?_⟩
    obtain⟨i1,i2⟩:=its i F' H' e2.ff e2.fh
    by_cases hlt:i<ts.length
    ·refine .inr ⟨hlt,?_⟩;obtain⟨go,yld⟩:=i1 _ (ya0 hlt);refine⟨go,λx H'' y=>?_⟩
     obtain⟨F'',e3,rx⟩:=yld x H'' y;have S3:=S2.ext e3;rw[ycd hlt]at hgo;obtain⟨τ1,hb,hgo⟩:=g1 _ _ _ _ hgo;refine⟨F'',τ',_,ts[i],τ1,S3,rx,hb,λst1 R1 S4 hR1=>?_⟩
     have R1e:R1=λ_=>R0:=funext λj=>funext λa=>propext ⟨λz=>hR1 j a z,λz=>z.elim⟩
     subst R1e;refine⟨F'',τ1,_,S4,?_⟩;have eX:∀{c:Str},(∀F' H',Ext F H F' H' R0->E σ (ca c) none H')->∀F' H',Ext F'' H'' F' H' R0->E σ (ca c) none H':=λz F' H' e=>z F' H' (((e1.trans0 e2).trans (e3.trans0 e)).mono λ_ z=>z.elim)
     rcases hgo with ⟨bt,ht,hgo⟩|⟨bt,ht,hgo⟩|⟨c,ht,hX⟩
     ·rw[ht];intro F4 H4 e4;exact zMt ⟨F4,τ1,l,Rr,(e2.trans ((e3.trans0 e4).mono λ_ z=>z)).mono λa z=>.inl z,(ro.ext e3).ext e4,S4.ext e4,hlt,hgo,by omega⟩
     ·rw[ht];intro F4 H4 e4;have S5:=S4.ext e4;have e24:=e2.trans ((e3.trans0 e4).mono λ_ z=>z)
      refine zMs ⟨F4,τ1,_,S5,?_⟩
      rcases hgo with ⟨ve,he,hgo⟩|⟨c,he,hX⟩
      ·rw[he];intro F5 H5 y B e5 ry;have ry':Rp K F5 H5 ve y B:=ry;have ro4:=(ro.ext e3).ext e4;have ro5:=ro4.ext e5;refine⟨F5,τ1,l++[ve],_,(e24.trans e5).mono ?_,ro5.snoc ry' (λj a z1 z2=>ro4.apart e5 z2 j z1),S5.ext e5,hlt,hgo,by simp;omega⟩
       intro a z
       rcases ztt z with z|z
       ·exact .inl (.inl z)
       ·exact .inr z
      ·rw[he];exact λF' H' e=>eX hX F' H' (e4.trans0 e)
     ·rw[ht];exact eX hX
    ·have hi':i=ts.length:=by omega
     subst hi';refine .inl ⟨i2 rfl,λp hp=>?_⟩
     rw[List.drop_length]at hgo;obtain⟨rl,e3⟩:=ro.list e2.fh hp;refine g0 _ _ hgo F' _ _ _ (((e1.trans0 e2).trans e3).mono ?_) rl;rintro a (z|⟨j,z⟩)
     ·exact .inr z
     ·exact .inl ⟨j,z⟩
structure BlkOk(X:Cx)(scope:Scope)(N':List Str)(n:Nat)(caps:List Nat):Prop where
 kind:scope.kind=.function
 names:∀y∈scope.names,y.2=.local->scope.names.lookup y.1=some .local
 len:N'.length=n+caps.length
 cap:∀(k j:Nat),caps[k]?=some j->∃y,X.N[j]?=some y/\N'[n+k]?=some y/\scope.names.lookup y=some .free/\(y,NameKind.cell)∉scope.names
 free:∀y∈scope.names,y.2=.free->scope.names.lookup y.1=some .free/\(X.env.scope.names.lookup y.1=some .cell\/X.env.scope.names.lookup y.1=some .free)
theorem zes{env:Env}(y:Str):∀(names:List (Str×NameKind)),(names.map λ(n,k)=>if (k == NameKind.free && env.scope.kind == .function && env.kindOf n == some .cell) then (n,NameKind.cell) else (n,k)).lookup y =
  (names.lookup y).map λk=>if (k == NameKind.free && env.scope.kind == .function && env.kindOf y == some .cell) then .cell else k
 |[]=>rfl
 |(n,k)::r=>by
  rw[yaf];cases hy:y == n with
  |true =>
   have e:y=n:=eq_of_beq hy;subst e
   by_cases hc:(k == NameKind.free && env.scope.kind == .function && env.kindOf y == some .cell)=true
   ·simp only[hc,if_true,yb1,beq_self_eq_true,ybt]
   ·simp only[hc,yb1,beq_self_eq_true,ybt];simp
  |false =>
   by_cases hc:(k == .free && env.scope.kind == .function && env.kindOf n == some .cell)=true
   ·simp only[hc,if_true,yb1,hy];exact zes y r
   ·simp only[hc,yb1,hy];simp only[yc7,if_false,yb1,hy];exact zes y r
theorem zen(scope:Scope)(env:Env)(y:Str):(relabel scope env).names.lookup y=(scope.names.lookup y).map λk=>if (k == NameKind.free && env.scope.kind == .function && env.kindOf y == some .cell) then .cell else k:=zes y scope.names
theorem zjg{y:Str}{k:NameKind}:∀{names:List (Str×NameKind)},names.lookup y=some k->(y,k)∈names:=λh=>ybv h
theorem zE0{scope:Scope}{N':List Str}(B:BlkOk X scope N' n caps){pins:List (Addr×Obj)}{s:Shared}(I:Inv X pins σ H s) :
  ∃cl,closureFor scope X.env=pure cl/\(∀y c,cl.lookup y=some c->X.env.cells.lookup y=some c)/\(∀y,(relabel scope X.env).names.lookup y=some .cell\/(relabel scope X.env).names.lookup y=some .free->(y,NameKind.cell)∈scope.names\/∃c,cl.lookup y=some c) /\
   (∀(σ:L2.St) (i:Nat) (y:Str) (v:V),N'[i]?=some y->(zvt n caps σ)[i]?=some (some v)->(y,NameKind.cell)∉scope.names) /\
   (∀σ:L2.St,σ.length=X.N.length->(zvt n caps σ).length=N'.length) /\
   (∀(σ:L2.St) (i:Nat) (y:Str) (v:V),N'[i]?=some y->(zvt n caps σ)[i]?=some (some v)->((relabel scope X.env).names.lookup y=some .cell\/(relabel scope X.env).names.lookup y=some .free)/\∃j:Nat,X.N[j]?=some y/\σ[j]?=some (some v)/\Vis X.env.scope y/\X.env.kindOf y≠some .local):=by
 obtain⟨cl,h1,h2,h3⟩:=zt8 scope X.env λy hy hf=>I.ok.has y.1 (B.free y hy hf).2
 have at1:∀(σ:L2.St) (i:Nat) (y:Str) (v:V),N'[i]?=some y->(zvt n caps σ)[i]?=some (some v)->∃j:Nat,X.N[j]?=some y/\σ[j]?=some (some v)/\scope.names.lookup y=some .free/\(y,NameKind.cell)∉scope.names:=by
  intro σ i y v e1 e2;unfold zvt at e2
  by_cases hi:i<n
  ·rw[yaz (by simpa using hi),ycv,if_pos hi]at e2
   cases e2
  ·rw[yb3 (by simp;omega),ya3]at e2
   simp only[yd5]at e2;cases hc:caps[i - n]? with
   |none=>rw[hc]at e2;cases e2
   |some j =>
    rw[hc]at e2;simp only[ybt]at e2;have e':zMv σ j=some v:=yas e2;obtain⟨y',g1,g2,g3,g4⟩:=B.cap (i - n) j hc;have en:n+(i - n)=i:=by omega
    rw[en,e1]at g2;cases g2
    have sv:σ[j]?=some (some v):=by
     unfold zMv at e';split at e'
     ·rename_i v' hv;cases e';exact hv
     ·cases e'
    exact⟨j,g1,sv,g3,g4⟩
 refine⟨cl,h1,h2,λy hy=>?_,λσ i y v e1 e2=>?_,λσ hσ=>by simp[zvt,B.len],λσ i y v e1 e2=>?_⟩
 ·cases hk:scope.names.lookup y with
  |none =>
   rw[zen,hk]at hy
   rcases hy with hy|hy<;>cases hy
  |some k =>
   by_cases hf:k=.free
   ·subst hf;exact .inr (h3 _ (zjg hk) rfl)
   ·rw[zen,hk]at hy;simp only[ybt]at hy;have hf':(k == NameKind.free)=false:=beq_eq_false_iff_ne.mpr hf;simp only[hf',ydh,yc7,if_false]at hy
    rcases hy with hy|hy
    ·cases hy;exact .inl (zjg hk)
    ·cases hy;exact absurd rfl hf
 ·exact(at1 σ i y v e1 e2).choose_spec.2.2.2
 ·obtain⟨j,g1,sv,g3,g4⟩:=at1 σ i y v e1 e2;have fr:=B.free _ (zjg g3) rfl;refine⟨?_,j,g1,sv,?_,?_⟩
  ·rw[zen,g3];simp only[ybt]
   by_cases hc2:(NameKind.free == NameKind.free && X.env.scope.kind == .function && X.env.kindOf y == some .cell)=true
   ·exact .inl (by rw[if_pos hc2])
   ·exact .inr (by rw[if_neg hc2])
  ·rcases fr.2 with z|z
   ·exact .inr (.inl z)
   ·exact .inr (.inr z)
  ·intro z;have z':X.env.scope.names.lookup y=some .local:=z
   rcases fr.2 with w|w
   ·rw[z']at w;cases w
   ·rw[z']at w;cases w
theorem r_lcV{elt iter tg:Expr}{ifs:List Expr}{scope:Scope}{pos:Pos}{N':List Str}(B:BlkOk X scope N' n caps)(hc:X.calm=true)(hi:PI X tg iter (tI X.K E ca mi))
  (hps:zbh X E) (hst:zHk X) (hg:∀cl C s₀ H₀ ex xb E',zbh (zad X scope cl N' C s₀ H₀ ex xb) E'->PG (zad X scope cl N' C s₀ H₀ ex xb) tg (tGM X.K b)) (ht:∀cl C s₀ H₀ ex xb E',zbh (zad X scope cl N' C s₀ H₀ ex xb) E'->PTs (zad X scope cl N' C s₀ H₀ ex xb) ifs (tMB X.K E' ca mt)) (he:∀cl C s₀ H₀ ex xb E',zbh (zad X scope cl N' C s₀ H₀ ex xb) E'->PE (zad X scope cl N' C s₀ H₀ ex xb) elt (tM X.K E' ca me))
  (hs:∀x,foldedSetIterable iter X.env x=pure x):PE X (.ListComp elt [⟨tg,iter,ifs,0⟩] scope pos) (tM X.K E ca (mLC n caps mi b mt me)):=by
 intro pins s σ H Q I h;obtain⟨cl,h1,h2,h3,h4,h5,h6⟩:=zE0 B I;exact zL5 (zvt n caps) h1 B.kind B.names h2 h3 h4 h5 h6 hc hi hps hst (λcl C s₀ H₀ ex xb=>hg cl C s₀ H₀ ex xb _) (λcl C s₀ H₀ ex xb=>ht cl C s₀ H₀ ex xb _) (λcl C s₀ H₀ ex xb=>he cl C s₀ H₀ ex xb _) hs I (zIo h)
theorem r_lcS{elt iter tg:Expr}{ifs:List Expr}{scope:Scope}{pos pos2 pos':Pos}{N':List Str}(B:BlkOk X scope N' n caps)(hc:X.calm=true)(hi:PI X tg iter (tI X.K E ca mi))
  (hps:zbh X E) (hst:zHk X) (hg:∀cl C s₀ H₀ ex xb E',zbh (zad X scope cl N' C s₀ H₀ ex xb) E'->PG (zad X scope cl N' C s₀ H₀ ex xb) tg (tGM X.K b)) (ht:∀cl C s₀ H₀ ex xb E',zbh (zad X scope cl N' C s₀ H₀ ex xb) E'->PTs (zad X scope cl N' C s₀ H₀ ex xb) ifs (tMB X.K E' ca mt)) (he:∀cl C s₀ H₀ ex xb E',zbh (zad X scope cl N' C s₀ H₀ ex xb) E'->PE (zad X scope cl N' C s₀ H₀ ex xb) elt (tM X.K E' ca me))
  (hs:∀x,foldedSetIterable iter X.env x=pure x) {i:Nat} {x:Str} (hN:X.N.Nodup) (hix:X.N[i]?=some x) (hx:X.env.scope.names.lookup x=some .local)
  (hsw:swapsWith (.ListComp elt [⟨tg,iter,ifs,0⟩] scope pos) (some (.Name x pos')) pos2.line X.env=pure true):PS X (.Assign [.Name x pos'] (.ListComp elt [⟨tg,iter,ifs,0⟩] scope pos) pos2) (λD σ H=>tM X.K E ca (mLC n caps mi b mt me) σ H λv H1=>D.nx (σ.set i (some v)) H1):=by
 intro pins s σ H D I h;obtain⟨cl,h1,h2,h3,h4,h5,h6⟩:=zE0 B I;exact zL6 (zvt n caps) h1 B.kind B.names h2 h3 h4 h5 h6 hc hi hps hst (λcl C s₀ H₀ ex xb=>hg cl C s₀ H₀ ex xb _) (λcl C s₀ H₀ ex xb=>ht cl C s₀ H₀ ex xb _) (λcl C s₀ H₀ ex xb=>he cl C s₀ H₀ ex xb _) hs hN hix hx hsw I (zIo h)
end
end Pu
set_option Elab.async false
set_option linter.all false
set_option maxRecDepth 100000
namespace Pu
open PySem PySem.Spec PyProof.Rows L2 Zw Zx
section
variable {X:Cx}{E:L2.St->XK}{ca:Str->Value}{m mk mv:PSt->Option Rs}{o k v:Expr}{pos p p2 ap cp:Pos}{K:PySem.W.Frag}{elts:List Expr}{kk:Nat}{tpos:Pos}
end
end Pu
set_option Elab.async false
set_option linter.all false
set_option maxRecDepth 100000
namespace Pu
open PySem PySem.Spec PyProof.Rows L2 Zw Zx
inductive Out where
 |nx (τ:PSt)|rt (t:T)|bk (τ:PSt)|ct (τ:PSt)|xc (c:Str) (τ:PSt)
structure Stp(F H:Hp)(O:Rg)(F' H':Hp)(O':Rg):Prop where
 ff:zbl F F'
 fh:zbl F' H'
 kp:∀b u,¬ O b->H b=some u->H' b=some u
 nw:∀b,O' b->O b\/H b=none
 nf:∀b u,F' b=some u->F b=some u\/O b\/H b=none
section
variable {F H F1 H1 F2 H2:Hp}{O O1 O2 B:Rg}{R:Nat->Rg}
theorem Stp.refl(s:zbl F H):Stp F H O F H O:=⟨.refl _,s,λ_ _ _ e=>e,λ_ z=>.inl z,λ_ _ e=>.inl e⟩
theorem Stp.trans(a:Stp F H O F1 H1 O1)(b:Stp F1 H1 O1 F2 H2 O2):Stp F H O F2 H2 O2 where
 ff:=a.ff.trans b.ff
 fh:=b.fh
 kp:=λx u n e=>b.kp x u (λz=>(a.nw x z).elim n λw=>by rw[e]at w;cases w) (a.kp x u n e)
 nw:=λx z=>(b.nw x z).elim (a.nw x) λw=>by
  by_cases hO:O x
  ·exact .inl hO
  ·cases e:H x with
   |none=>exact .inr rfl
   |some u=>rw[a.kp x u hO e]at w;cases w
 nf:=λx u e=>(b.nf x u e).elim (a.nf x u) λz=>.inr (z.elim (a.nw x) λw=>by
  by_cases hO:O x
  ·exact .inl hO
  ·cases e':H x with
   |none=>exact .inr rfl
   |some u'=>rw[a.kp x u' hO e']at w;cases w)
theorem Stp.mono(a:Stp F H O F1 H1 O1)(h:∀x,O2 x->O1 x):Stp F H O F1 H1 O2:=⟨a.ff,a.fh,a.kp,λx z=>a.nw x (h x z),a.nf⟩
theorem Ext.stp(e:Ext F H F1 H1 B):Stp F H O F1 H1 (λx=>O x\/B x):=⟨e.ff,e.fh,λb u _ q=>e.hh b u q,λb z=>z.elim .inl λz=>.inr (e.nb b z),λb u q=>(e.nf b u q).elim .inl λz=>.inr (.inr z)⟩
theorem Ext.stp0(e:Ext F H F1 H1 B):Stp F H O F1 H1 O:=e.stp.mono λ_ z=>.inl z
end
section
def Wr(K:PySem.W.Frag)(mu:Bool)(F H:Hp)(t:T)(x:V)(B:Rg):Prop:=match mu with
 |false=>Rp K F H t x B
 |true=>∃v q l,t=.own [v,.nd true (.pin q) l]/\v.flat=true/\Rp K F H v x R0/\Rp K F H (.nd true (.pin q) l) (.ref q) B
def tS(K:PySem.W.Frag)(E:L2.St->XK)(ca:Str->Value)(mu:Bool)(m:PSt->Option Out):TS:=λD σ H=>∃F τ R,StR K F H σ τ R/\match m τ with
 |some (.nx τ')=>∀F' H' σ' R',Stp F H (tot R) F' H' (tot R')->StR K F' H' σ' τ' R'->D.nx σ' H'
 |some (.bk τ')=>∀F' H' σ' R',Stp F H (tot R) F' H' (tot R')->StR K F' H' σ' τ' R'->D.bk σ' H'
 |some (.ct τ')=>∀F' H' σ' R',Stp F H (tot R) F' H' (tot R')->StR K F' H' σ' τ' R'->D.ct σ' H'
 |some (.rt t)=>∀F' H' x B,Stp F H (tot R) F' H' B->Wr K mu F' H' t x B->D.rt x H'
 |some (.xc c τ')=>∀F' H' σ' R',Stp F H (tot R) F' H' (tot R')->StR K F' H' σ' τ' R'->E σ' (ca c) none H'
 |none=>False
end
def zai(m n:PSt->Option Out):PSt->Option Out:=λτ=>match m τ with
 |some (.nx τ')=>n τ'
 |r=>r
def sNx:PSt->Option Out:=λτ=>some (.nx τ)
def sNo:PSt->Option Out:=λ_=>none
def sBk:PSt->Option Out:=λτ=>some (.bk τ)
def sCt:PSt->Option Out:=λτ=>some (.ct τ)
def zzh(m:PSt->Option Rs):PSt->Option Out:=λτ=>match m τ with
 |some (.v _ _)=>some (.nx τ)
 |some (.x c)=>some (.xc c τ)
 |none=>none
def zc1(m:PSt->Option Rs):PSt->Option Out:=λτ=>match m τ with
 |some (.v t _)=>some (.rt t)
 |some (.x c)=>some (.xc c τ)
 |none=>none
def zEv:PSt->Option Out:=λ_=>some (.rt .non)
def zco(m:PSt->Option Rs)(b:T->PSt->Option PSt):PSt->Option Out:=λτ=>match m τ with
 |some (.v t false)=>(match b t.share τ with
  |some τ'=>some (.nx τ')
  |none=>none)
 |some (.v _ true)=>none
 |some (.x c)=>some (.xc c τ)
 |none=>none
def zki(i:Nat)(m:PSt->Option Rs):PSt->Option Out:=λτ=>match m τ with
 |some (.v t false)=>if i<τ.length then some (.nx (τ.set i (some t))) else none
 |some (.v _ true)=>none
 |some (.x c)=>some (.xc c τ)
 |none=>none
def zvr(i:Nat):PSt->Option Out:=λτ=>match τ[i]? with
 |some (some t)=>some (.nx (τ.set i (some t.share)))
 |_=>some (.nx τ)
def sIf(c:PSt->Option Rs)(a b:PSt->Option Out):PSt->Option Out:=λτ=>match c τ with
 |some (.v (.bl true) _)=>a τ
 |some (.v (.bl false) _)=>b τ
 |some (.x c)=>some (.xc c τ)
 |_=>none
def zc2(b:T->PSt->Option PSt)(body:PSt->Option Out):List T->PSt->Option Out
 |[],τ=>some (.nx τ)
 |t::ts,τ=>(match b t τ with
  |some τ1=>(match body τ1 with
   |some (.nx τ2)=>zc2 b body ts τ2
   |some (.ct τ2)=>zc2 b body ts τ2
   |some (.bk τ2)=>some (.nx τ2)
   |r=>r)
  |none=>none)
def zgf(mi:PSt->Option RsL)(b:T->PSt->Option PSt)(body:PSt->Option Out):PSt->Option Out:=λτ=>match mi τ with
 |some (.v ts _)=>zc2 b body ts τ
 |some (.x c)=>some (.xc c τ)
 |none=>none
section
variable {mu:Bool}{X:Cx}{E:L2.St->XK}{ca:Str->Value}{σ:L2.St}{H:Hp}{K:PySem.W.Frag}{m mk mc:PSt->Option Rs}{ms mi:PSt->Option RsL}{b:T->PSt->Option PSt}{u w:PSt->Option Out}{D:Ends}{e c tg iter:Expr}{st:Stmt}{rest body sa sb:List Stmt}{pos pos':Pos}
theorem PS.weak{t t':TS}(h:PS X st t)(w:∀D σ H,t' D σ H->t D σ H):PS X st t':=λpins s σ H D I q=>h pins s σ H D I (w D σ H q)
theorem PSs.weak{t t':TS}(h:PSs X rest t)(w:∀D σ H,t' D σ H->t D σ H):PSs X rest t':=λpins s σ H D I q=>h pins s σ H D I (w D σ H q)
theorem zIg(h:tS K E ca mu (zai u w) D σ H):tSeq (tS K E ca mu u) (tS K E ca mu w) D σ H:=by
 obtain⟨F,τ,R,S,q⟩:=h;refine⟨F,τ,R,S,?_⟩;unfold zai at q;cases hm:u τ with
 |none=>simp only[hm]at q
 |some o =>
  simp only[hm]at q;cases o with
  |nx τ' =>
   intro F1 H1 σ1 R1 s1 S1;refine⟨F1,τ',R1,S1,?_⟩;simp only at q;cases hw:w τ' with
   |none=>simp only[hw]at q
   |some o =>
    simp only[hw]at q;cases o with
    |nx _=>exact λF' H' σ' R' s S=>q F' H' σ' R' (s1.trans s) S
    |bk _=>exact λF' H' σ' R' s S=>q F' H' σ' R' (s1.trans s) S
    |ct _=>exact λF' H' σ' R' s S=>q F' H' σ' R' (s1.trans s) S
    |rt _=>exact λF' H' x B s r=>q F' H' x B (s1.trans s) r
    |xc _ _=>exact λF' H' σ' R' s S=>q F' H' σ' R' (s1.trans s) S
  |rt _=>exact q
  |bk _=>exact q
  |ct _=>exact q
  |xc _ _=>exact q
theorem zJa:PSs X [] (tS X.K E ca mu sNx):=PSs.weak zFa λD σ H h=>by
 obtain⟨F,τ,R,S,q⟩:=h;exact q F H σ R (Stp.refl S.fh) S
theorem zwk(h1:PS X st (tS X.K E ca mu u))(h2:PSs X rest (tS X.K E ca mu w)):PSs X (st::rest) (tS X.K E ca mu (zai u w)):=PSs.weak (zAl h1 h2) λD σ H h=>zIg h
theorem zEt(h1:PS X st (tS X.K E ca mu u)):PSs X [st] (tS X.K E ca mu u):=zwt h1
theorem s_no:PS X st (tS X.K E ca mu sNo):=λpins s σ H D I h=>by
 obtain⟨_,_,_,_,q⟩:=h;exact q.elim
theorem zJ8:PS X (.Pass pos) (tS X.K E ca mu sNx):=PS.weak zFb λD σ H h=>by
 obtain⟨F,τ,R,S,q⟩:=h;exact q F H σ R (Stp.refl S.fh) S
theorem zEu:PS X (.Break pos) (tS X.K E ca mu sBk):=PS.weak zAn λD σ H h=>by
 obtain⟨F,τ,R,S,q⟩:=h;exact q F H σ R (Stp.refl S.fh) S
theorem zv5:PS X (.Continue pos) (tS X.K E ca mu sCt):=PS.weak zsi λD σ H h=>by
 obtain⟨F,τ,R,S,q⟩:=h;exact q F H σ R (Stp.refl S.fh) S
theorem zIh{i:Nat}(h:tS K E ca mu (zai (zvr i) w) D σ H):tS K E ca mu w D σ H:=by
 obtain⟨F,τ,R,S,q⟩:=h;unfold zai zvr at q;cases ht:τ[i]? with
 |none =>
  rw[ht]at q;exact⟨F,τ,R,S,q⟩
 |some ot =>
  rw[ht]at q;cases ot with
  |none=>exact⟨F,τ,R,S,q⟩
  |some t =>
   simp only at q;obtain⟨x,ex,r⟩:=S.rep i t ht;have hi:i<τ.length:=(ya5.mp ht).1;have n:∀a,R i a->F a=none:=λa z=>(r.dom z).1
   have S0:StR K (frz F H (R i)) H σ (τ.set i (some t.share)) (λj=>if j=i then R0 else R j):=by
    refine⟨znh S.fh,by simpa using S.len,λj t' e=>?_,λj a z=>?_,λj k a hjk z1 z2=>?_⟩
    ·by_cases hj:j=i
     ·subst hj;rw[yal hi]at e;cases e;exact⟨x,ex,by simpa using r.share (zgp n) λa u z q=>by rw[zjt z];exact q⟩
     ·rw[yah (yay hj)]at e;obtain⟨y,e1,r1⟩:=S.rep j t' e;refine⟨y,e1,?_⟩;simp only[hj,if_false]
      exact r1.frame (zgp n) λa z=>⟨rfl,by
       rw[ze0 (λz'=>S.dis j i a hj z z')]
       exact(r1.dom z).1⟩
    ·by_cases hj:j=i
     ·simp only[hj,if_true]at z;exact z.elim
     ·simp only[hj,if_false]at z;obtain⟨t',e⟩:=S.out j a z;exact⟨t',by rw[yah (yay hj)];exact e⟩
    ·by_cases hj:j=i
     ·simp only[hj,if_true]at z1;exact z1.elim
     ·by_cases hk:k=i
      ·simp only[hk,if_true]at z2;exact z2.elim
      ·simp only[hj,if_false]at z1;simp only[hk,if_false]at z2;exact S.dis j k a hjk z1 z2
   have st0:Stp F H (tot R) (frz F H (R i)) H (tot λj=>if j=i then R0 else R j):=by
    refine⟨zgp n,znh S.fh,λ_ _ _ e=>e,λb ⟨j,z⟩=>?_,λb u e=>?_⟩
    ·by_cases hj:j=i
     ·simp only[hj,if_true]at z;exact z.elim
     ·simp only[hj,if_false]at z;exact .inl ⟨j,z⟩
    ·by_cases hb:R i b
     ·exact .inr (.inl ⟨i,hb⟩)
     ·rw[ze0 hb]at e;exact .inl e
   refine⟨_,_,_,S0,?_⟩;cases hw:w (τ.set i (some t.share)) with
   |none=>simp only[hw]at q
   |some o =>
    simp only[hw]at q;cases o with
    |nx _=>exact λF' H' σ' R' s S=>q F' H' σ' R' (st0.trans s) S
    |bk _=>exact λF' H' σ' R' s S=>q F' H' σ' R' (st0.trans s) S
    |ct _=>exact λF' H' σ' R' s S=>q F' H' σ' R' (st0.trans s) S
    |rt _=>exact λF' H' x B s r=>q F' H' x B (st0.trans s) r
    |xc _ _=>exact λF' H' σ' R' s S=>q F' H' σ' R' (st0.trans s) S
theorem s_frz{i:Nat}(h:PSs X rest (tS X.K E ca mu w)):PSs X rest (tS X.K E ca mu (zai (zvr i) w)):=PSs.weak h λD σ H h=>zIh h
theorem s_exp(he:PE X e (tM X.K E ca m))(hs:swapsWith e none pos.line X.env=pure false):PS X (.Expr e pos) (tS X.K E ca mu (zzh m)):=by
 refine PS.weak (zl8 he hs) λD σ H h=>?_
 obtain⟨F,τ,R,S,q⟩:=h;refine⟨F,τ,R,S,?_⟩;unfold zzh at q;cases hm:m τ with
 |none=>simp only[hm]at q
 |some r =>
  simp only[hm]at q;cases r with
  |x c=>exact λF' H' e=>q F' H' σ R e.stp0 (S.ext e)
  |v t bb=>exact λF' H' x B e g=>q F' H' σ R e.stp0 (S.ext e)
theorem zJ7(he:PE X e (tM X.K E ca m)):PS X (.Return (some e) pos) (tS X.K E ca false (zc1 m)):=by
 refine PS.weak (zD6 he) λD σ H h=>?_
 obtain⟨F,τ,R,S,q⟩:=h;refine⟨F,τ,R,S,?_⟩;unfold zc1 at q;cases hm:m τ with
 |none=>simp only[hm]at q
 |some r =>
  simp only[hm]at q;cases r with
  |x c=>exact λF' H' e=>q F' H' σ R e.stp0 (S.ext e)
  |v t bb =>
   intro F' H' x B e g;cases bb with
   |false=>exact q F' H' x B (e.stp.mono λ_ z=>.inr z) g
   |true =>
    obtain⟨_,A,hA,r⟩:=g;exact q F' H' x A (e.stp.mono λa z=>.inl (hA a z)) r
theorem zJ5:PS X (.Return none pos) (tS X.K E ca false zEv):=PS.weak zwu λD σ H h=>by
 obtain⟨F,τ,R,S,q⟩:=h;exact q F H .non R0 ((Stp.refl S.fh).mono λ_ z=>z.elim) .non
theorem s_if(hc:PT X c (tMB X.K E ca mc))(ha:PSs X sa (tS X.K E ca mu u))(hb:PSs X sb (tS X.K E ca mu w)):PS X (.If c sa sb pos) (tS X.K E ca mu (sIf mc u w)):=by
 refine PS.weak (ps_if hc ha hb) λD σ H h=>?_
 obtain⟨F,τ,R,S,q⟩:=h;refine⟨F,τ,R,S,?_⟩;unfold sIf at q;cases hm:mc τ with
 |none=>simp only[hm]at q
 |some r =>
  simp only[hm]at q;cases r with
  |x c=>exact λF' H' e=>q F' H' σ R e.stp0 (S.ext e)
  |v t bb =>
   cases t with
   |bl k =>
    intro F1 H1 e1;have S1:=S.ext e1
    have key:∀{mm:PSt->Option Out},(match mm τ with
      |some (.nx τ')=>∀F' H' σ' R',Stp F H (tot R) F' H' (tot R')->StR X.K F' H' σ' τ' R'->D.nx σ' H'
      |some (.bk τ')=>∀F' H' σ' R',Stp F H (tot R) F' H' (tot R')->StR X.K F' H' σ' τ' R'->D.bk σ' H'
      |some (.ct τ')=>∀F' H' σ' R',Stp F H (tot R) F' H' (tot R')->StR X.K F' H' σ' τ' R'->D.ct σ' H'
      |some (.rt t)=>∀F' H' x B,Stp F H (tot R) F' H' B->Wr X.K mu F' H' t x B->D.rt x H'
      |some (.xc c τ')=>∀F' H' σ' R',Stp F H (tot R) F' H' (tot R')->StR X.K F' H' σ' τ' R'->E σ' (ca c) none H'
      |none=>False)->tS X.K E ca mu mm D σ H1:=λ{mm} q=>by
     refine⟨F1,τ,R,S1,?_⟩;cases hr:mm τ with
     |none=>simp only[hr]at q
     |some o =>
      simp only[hr]at q;cases o with
      |nx _=>exact λF' H' σ' R' s S=>q F' H' σ' R' (e1.stp0.trans s) S
      |bk _=>exact λF' H' σ' R' s S=>q F' H' σ' R' (e1.stp0.trans s) S
      |ct _=>exact λF' H' σ' R' s S=>q F' H' σ' R' (e1.stp0.trans s) S
      |rt _=>exact λF' H' x B s r=>q F' H' x B (e1.stp0.trans s) r
      |xc _ _=>exact λF' H' σ' R' s S=>q F' H' σ' R' (e1.stp0.trans s) S
    cases k with
    |true=>exact zMs (key q)
    |false=>exact zMt (key q)
   |_=>exact q.elim
theorem zw3{g:TG}(hg:∀v σ H Q,tGM K b v σ H Q->g v σ H Q)(h:tS K E ca mu (zco m b) D σ H):zMn (tM K E ca m) g D σ H:=by
 obtain⟨F,τ,R,S,q⟩:=h;refine⟨F,τ,R,S,?_⟩;unfold zco at q;cases hm:m τ with
 |none=>simp only[hm]at q
 |some r =>
  simp only[hm]at q;cases r with
  |x c=>exact λF' H' e=>q F' H' σ R e.stp0 (S.ext e)
  |v t bb =>
   cases bb with
   |true=>exact q.elim
   |false =>
    intro F1 H1 x B e1 g1;obtain⟨F2,e2,_,r2⟩:=Got.frz (b:=false) S e1 g1;simp only at q;cases hb:b t.share τ with
    |none=>simp only[hb]at q
    |some τ' =>
     simp only[hb]at q;refine hg _ _ _ _ ⟨F2,τ,R,t.share,τ',S.ext e2,(show Rp K F2 F2 t.share x R0 from r2).any,hb,λσ' R' S' hR=>?_⟩
     exact q F2 H1 σ' R' (e2.stp0.mono λa ⟨i,z⟩=>⟨i,hR i a z⟩) S'
theorem zug{i:Nat}{v:V}{Q:L2.St->Hp->Prop}(h:tGM K (bNm i) v σ H Q):zvj i v σ H Q:=by
 obtain⟨F,τ,R,t,τ',S,r,e,q⟩:=h;unfold bNm at e;split at e
 ·cases e;rename_i hl;refine q _ _ (S.set r (λ_ _ _ _ z=>z.elim) hl) λj a z=>?_
  by_cases hj:j=i
  ·simp only[hj,if_true]at z;exact z.elim
  ·simpa[hj] using z
 ·cases e
theorem zCw{i:Nat}{x:Str}(hN:X.N.Nodup)(hi:X.N[i]?=some x)(hx:Loc X.env.scope x)(he:PE X e (tM X.K E ca m))(hs:swapsWith e (some (.Name x pos')) pos.line X.env=pure false)(hf:X.fn x=true\/X.env.scope.names.lookup x=some .local) :
  PS X (.Assign [.Name x pos'] e pos) (tS X.K E ca mu (zco m (bNm i))):=PS.weak (zD5 hN hi hx he hs hf) λD σ H h=>zw3 (λ_ _ _ _ z=>zug z) h
theorem zJ3(he:PE X e (tM X.K E ca m))(hg:PG X tg (tGM X.K b))(hs:swapsWithSole [tg] e pos.line X.env=pure false)(hw:swappedStores [tg] e X.env=pure none)(h1:(assignEach [tg] X.env).map (·.2)=[assign tg X.env]) :
  PS X (.Assign [tg] e pos) (tS X.K E ca mu (zco m b)):=PS.weak (zwv he hg hs hw h1) λD σ H h=>zw3 (λ_ _ _ _ z=>z) h
theorem zCm{i:Nat}(h:tS K E ca mu (zki i m) D σ H):zMn (tM K E ca m) (zvj i) D σ H:=by
 obtain⟨F,τ,R,S,q⟩:=h;refine⟨F,τ,R,S,?_⟩;unfold zki at q;cases hm:m τ with
 |none=>simp only[hm]at q
 |some r =>
  simp only[hm]at q;cases r with
  |x c=>exact λF' H' e=>q F' H' σ R e.stp0 (S.ext e)
  |v t bb =>
   cases bb with
   |true=>exact q.elim
   |false =>
    intro F1 H1 x B e1 g1;have g1':Rp K F1 H1 t x B:=g1;have S1:=S.ext e1
    by_cases hl:i<τ.length
    ·simp only[hl,if_true]at q;refine q F1 H1 _ _ (e1.stp.mono ?_) (S1.set g1' (λj a _ z1 z2=>S.apart e1 z2 j z1) hl)
     rintro a ⟨j,z⟩
     by_cases hj:j=i
     ·simp only[hj,if_true]at z;exact .inr z
     ·simp only[hj,if_false]at z;exact .inl ⟨j,z⟩
    ·simp only[hl,if_false]at q
theorem zJ9{i:Nat}{x:Str}(hN:X.N.Nodup)(hi:X.N[i]?=some x)(hx:Loc X.env.scope x)(he:PE X e (tM X.K E ca m))(hs:swapsWith e (some (.Name x pos')) pos.line X.env=pure false)(hf:X.fn x=true\/X.env.scope.names.lookup x=some .local) :
  PS X (.Assign [.Name x pos'] e pos) (tS X.K E ca mu (zki i m)):=PS.weak (zD5 hN hi hx he hs hf) λD σ H h=>zCm h
theorem s_for(hp:PassesOwn (model X.prog X.w) X.A X.env X.xe)(hc:X.calm=true)(hi:PI X tg iter (tI X.K E ca mi))(hg:PG X tg (tGM X.K b))(hb:PSs X body (tS X.K E ca mu u))(hs:∀x,foldedSetIterable iter X.env x=pure x) :
  PS X (.For tg iter body [] pos) (tS X.K E ca mu (zgf mi b u)):=by
 refine PS.weak (zD7 hp hc hi hg hb hs) λD σ H h=>?_
 obtain⟨F,τ,R,S,q⟩:=h;refine⟨F,τ,R,S,?_⟩;unfold zgf at q;cases hm:mi τ with
 |none=>simp only[hm]at q
 |some r =>
  simp only[hm]at q;cases r with
  |x c=>exact λF' H' e=>q F' H' σ R e.stp0 (S.ext e)
  |v ts bb =>
   intro F1 H1 J e1 its;simp only at q;have S1:=S.ext e1;cases hg:zc2 b u ts τ with
   |none=>simp only[hg]at q
   |some out =>
    simp only[hg]at q;refine⟨λi mm σ' H'=>mm=ts.length - i/\i<=ts.length/\∃F' τ' R',Stp F H (tot R) F' H' (tot R')/\zbl F1 F'/\StR X.K F' H' σ' τ' R'/\zc2 b u (ts.drop i) τ'=some out,⟨ts.length,by simp,yb2 _,F1,τ,R,e1.stp0,.refl _,S1,by simpa using hg⟩,?_⟩
    rintro i mm σ' H' ⟨rfl,hle,F',τ',R',st,sf,S',hgo⟩;obtain⟨i1,i2⟩:=its i F' H' sf S'.fh
    by_cases hlt:i<ts.length
    ·refine .inr ⟨(i1 _ (ya0 hlt)).1,λσ2 H2=>i+1<=ts.length/\∃F2 τ2 R2,Stp F H (tot R) F2 H2 (tot R2)/\zbl F1 F2/\StR X.K F2 H2 σ2 τ2 R2/\zc2 b u (ts.drop (i+1)) τ2=some out,λσ2 H2 n2=>⟨ts.length - (i+1),by omega,rfl,n2⟩,λx H'' y=>?_⟩
     obtain⟨F'',e3,rx⟩:=(i1 _ (ya0 hlt)).2 x H'' y;have S3:=S'.ext e3;rw[ycd hlt]at hgo;unfold zc2 at hgo;cases hb2:b ts[i] τ' with
     |none=>simp only[hb2]at hgo;cases hgo
     |some τ1 =>
      simp only[hb2]at hgo;refine⟨F'',τ',R',ts[i],τ1,S3,rx,hb2,λσ3 R3 S4 hR3=>?_⟩
      have st3:Stp F H (tot R) F'' H'' (tot R3):=(st.trans e3.stp0).mono λa ⟨j,z⟩=>⟨j,hR3 j a z⟩
      refine⟨F'',τ1,R3,S4,?_⟩;cases hu:u τ1 with
      |none=>simp only[hu]at hgo;cases hgo
      |some o =>
       simp only[hu]at hgo;cases o with
       |nx τ2=>exact λF4 H4 σ4 R4 s4 S5=>⟨hlt,F4,τ2,R4,st3.trans s4,(sf.trans e3.ff).trans s4.ff,S5,hgo⟩
       |ct τ2=>exact λF4 H4 σ4 R4 s4 S5=>⟨hlt,F4,τ2,R4,st3.trans s4,(sf.trans e3.ff).trans s4.ff,S5,hgo⟩
       |bk τ2 =>
        cases hgo;exact λF4 H4 σ4 R4 s4 S5=>q F4 H4 σ4 R4 (st3.trans s4) S5
       |rt v =>
        cases hgo;exact λF4 H4 x B s4 r=>q F4 H4 x B (st3.trans s4) r
       |xc cc τ2 =>
        cases hgo;exact λF4 H4 σ4 R4 s4 S5=>q F4 H4 σ4 R4 (st3.trans s4) S5
    ·have hi':i=ts.length:=by omega
     subst hi';refine .inl ⟨i2 rfl,?_⟩;rw[List.drop_length]at hgo;unfold zc2 at hgo;cases hgo;exact q F' H' σ' R' st S'
end
end Pu
set_option Elab.async false
set_option linter.all false
set_option maxRecDepth 100000
namespace Pu
open PySem PySem.Spec PyProof.Rows L2 Zw Zx
section
variable {K:PySem.W.Frag}{F H:Hp}{l:List T}{xs:List V}{Rr:Nat->Rg}{p:Addr}{o:HO}
theorem Rp.own_inv{x:V}{A:Rg}{k:Kd}(h:Rp K F H (.nd true k l) x A):∃p xs Rr,x=.ref p/\A=(λa=>a=p\/∃j,Rr j a)/\F p=none/\H p=some (.lst xs)/\RpO K F H l xs Rr/\(∀j,¬ Rr j p)/\zMj k p:=by
 cases h with
 |own hk R f h e c d dp o=>exact⟨_,_,R,rfl,rfl,f,h,⟨e,c,d,o⟩,dp,hk⟩
theorem zu4{k:Kd}(hk:zMj k p)(r:RpO K F H l xs Rr)(f:F p=none)(h:H p=some (.lst xs))(dp:∀j,¬ Rr j p):Rp K F H (.nd true k l) (.ref p) (λa=>a=p\/∃j,Rr j a):=.own hk Rr f h r.len r.rep r.dis dp r.out
theorem RpO.upd(r:RpO K F H l xs Rr)(dp:∀j,¬ Rr j p):RpO K F (L2.upd H p o) l xs Rr:=⟨r.len,λi t x h1 h2=>(r.rep i t x h1 h2).frame (.refl _) λa z=>⟨zag (λe=>dp i (e▸z)),(r.dom z).1⟩,r.dis,r.out⟩
theorem Rp.upd{t:T}{x:V}{A:Rg}(r:Rp K F H t x A)(dp:¬ A p):Rp K F (L2.upd H p o) t x A:=r.frame (.refl _) λa z=>⟨zag (λe=>dp (e▸z)),(r.dom z).1⟩
theorem RpO.set(r:RpO K F H l xs Rr){j0:Nat}{t:T}{y:V}{B:Rg}(hj:j0<l.length)(rt:Rp K F H t y B)(d:∀j a,j≠j0->Rr j a->¬ B a):RpO K F H (l.set j0 t) (xs.set j0 y) (λj=>if j=j0 then B else Rr j):=by
 have hl:=r.len;refine⟨by simp[hl],λi t' x' h1 h2=>?_,λi k a hik z1 z2=>?_,λi a z=>?_⟩
 ·by_cases hi:i=j0
  ·subst hi;rw[yal hj]at h1;rw[yal (by omega)]at h2
   cases h1;cases h2
   simpa using rt
  ·rw[yah (yay hi)]at h1 h2
   simpa[hi] using r.rep i t' x' h1 h2
 ·by_cases hi:i=j0
  ·simp only[hi,if_true]at z1;have hk:¬ k=j0:=λz=>hik (hi.trans z.symm)
   simp only[hk,if_false]at z2;exact d k a hk z2 z1
  ·simp only[hi,if_false]at z1
   by_cases hk:k=j0
   ·simp only[hk,if_true]at z2;exact d i a hi z1 z2
   ·simp only[hk,if_false]at z2;exact r.dis i k a hik z1 z2
 ·by_cases hi:i=j0
  ·simp[hi];omega
  ·simp only[hi,if_false]at z
   simpa using r.out i a z
variable {σ:L2.St}{τ:PSt}{R:Nat->Rg}
theorem StR.upd(S:StR K F H σ τ R){i:Nat}{t t':T}{x:V}{A' B:Rg}(ht:τ[i]?=some (some t))(hx:σ[i]?=some (some x))(hp:R i p)(r':Rp K F (L2.upd H p o) t' x A')(hA:∀a,A' a->R i a\/B a)(hB:∀j a,R j a->¬ B a) :
  StR K F (L2.upd H p o) σ (τ.set i (some t')) (λj=>if j=i then A' else R j)/\Stp F H (λa=>Pu.tot R a\/B a) F (L2.upd H p o) (Pu.tot λj=>if j=i then A' else R j):=by
 have fp:F p=none:=(S.dom hp).1;have hi:i<τ.length:=(ya5.mp ht).1
 have fh':zbl F (L2.upd H p o):=λb u e=>by
  rw[zag (λz=>by rw[z,fp]at e;cases e)]
  exact S.fh b u e
 refine⟨⟨fh',by simpa using S.len,λj t1 e=>?_,λj a z=>?_,λj k a hjk z1 z2=>?_⟩,⟨.refl _,fh',λb u n e=>?_,λb ⟨j,z⟩=>?_,λb u e=>.inl e⟩⟩
 ·by_cases hj:j=i
  ·subst hj;rw[yal hi]at e;cases e;exact⟨x,hx,by simpa using r'⟩
  ·rw[yah (yay hj)]at e;obtain⟨y,e1,r1⟩:=S.rep j t1 e;exact⟨y,e1,by simpa[hj] using r1.upd (o:=o) (λz=>S.dis j i p hj z hp)⟩
 ·by_cases hj:j=i
  ·subst hj;exact⟨t',yal hi⟩
  ·simp only[hj,if_false]at z;obtain⟨t1,e⟩:=S.out j a z;exact⟨t1,by rw[yah (yay hj)];exact e⟩
 ·by_cases hj:j=i
  ·simp only[hj,if_true]at z1;have hk:¬ k=i:=λz=>hjk (hj.trans z.symm)
   simp only[hk,if_false]at z2
   rcases hA a z1 with w|w
   ·exact S.dis i k a (yay hk) w z2
   ·exact hB k a z2 w
  ·simp only[hj,if_false]at z1
   by_cases hk:k=i
   ·simp only[hk,if_true]at z2
    rcases hA a z2 with w|w
    ·exact S.dis i j a (yay hj) w z1
    ·exact hB j a z1 w
   ·simp only[hk,if_false]at z2;exact S.dis j k a hjk z1 z2
 ·rw[zag (λz=>n (.inl (by rw[z];exact⟨i,hp⟩)))]
  exact e
 ·by_cases hj:j=i
  ·simp only[hj,if_true]at z
   rcases hA b z with w|w
   ·exact .inl (.inl ⟨i,w⟩)
   ·exact .inl (.inr w)
  ·simp only[hj,if_false]at z;exact .inl (.inl ⟨j,z⟩)
end
def zj6(τ:PSt)(i:Nat):Option (Kd×List T):=match τ[i]? with
 |some (some (.nd true k l))=>some (k,l)
 |_=>none
theorem zey{τ:PSt}{i:Nat}{k:Kd}{l:List T}(h:zj6 τ i=some (k,l)):τ[i]?=some (some (.nd true k l)):=by
 unfold zj6 at h;split at h
 ·rename_i k' l' e;cases h;exact e
 ·cases h
def ztv(i:Nat)(m:PSt->Option Rs):PSt->Option Out:=λτ=>match zj6 τ i with
 |some (kd,l)=>(match m τ with
  |some (.v t false)=>if l.length<lim then some (.nx (τ.set i (some (.nd true kd (l++[t]))))) else none
  |some (.v _ true)=>none
  |some (.x c)=>some (.xc c τ)
  |none=>none)
 |none=>none
def zJc(i:Nat):PSt->Option Out:=λτ=>match zj6 τ i with
 |some (kd,_)=>some (.nx (τ.set i (some (.nd true kd []))))
 |none=>none
def zzg(i:Nat)(m:PSt->Option Rs):PSt->Option Out:=λτ=>match zj6 τ i with
 |some (kd,l)=>(match m τ with
  |some (.v (.nd _ .lst r) false)=>if l.length+r.length<=lim then some (.nx (τ.set i (some (.nd true kd (l++zal r))))) else none
  |some (.v _ _)=>none
  |some (.x c)=>some (.xc c τ)
  |none=>none)
 |none=>none
def zHq(i:Nat)(mk m:PSt->Option Rs):PSt->Option Out:=λτ=>match m τ with
 |some (.v t false)=>(match zj6 τ i with
  |some (kd,l)=>(match mk τ with
   |some (.v (.int k) _)=>(match ixN l.length k with
    |some j=>some (.nx (τ.set i (some (.nd true kd (l.set j t)))))
    |none=>none)
   |some (.v _ _)=>none
   |some (.x c)=>some (.xc c τ)
   |none=>none)
  |none=>none)
 |some (.v _ true)=>none
 |some (.x c)=>some (.xc c τ)
 |none=>none
def zu5:Option T->Option (List T)
 |some (.nd true .lst l)=>some l
 |_=>none
section
variable {mu:Bool}{X:Cx}{E:L2.St->XK}{ca:Str->Value}{σ:L2.St}{H:Hp}{K:PySem.W.Frag}{m mk mn:PSt->Option Rs}{D:Ends}{e k n:Expr}{pos apos cpos p1 pos2 pos3:Pos}{i:Nat}{x:Str}
theorem zGu{F:Hp}{R:Nat->Rg}{j:Int}{b:Bool}{y:V}{B:Rg}(g:Got K F H R (.int j) b y B):y=.int j:=by
 cases b with
 |true=>obtain⟨_,A,_,r⟩:=g;exact r.int_inv
 |false=>exact(show Rp K F H _ _ _ from g).int_inv
theorem zq2{l:List T}{Rr:Nat->Rg}{B:Rg}{a:Addr}(h:∃j,(λj=>if j=l.length then B else Rr j) j a):(∃j,Rr j a)\/B a:=ztt (l:=l) h
theorem zEn{j0:Nat}{Rr:Nat->Rg}{B:Rg}{a:Addr}(h:∃j,(λj=>if j=j0 then B else Rr j) j a):(∃j,Rr j a)\/B a:=by
 obtain⟨j,z⟩:=h
 by_cases hj:j=j0
 ·simp only[hj,if_true]at z;exact .inr z
 ·simp only[hj,if_false]at z;exact .inl ⟨j,z⟩
theorem s_app(hN:X.N[i]?=some x)(hv:Vis X.env.scope x)(hd:(x == ("__debug__":Str))=false)(hcd:(x == ("__classdict__":Str))=false)(he:PE X e (tM X.K E ca m))(hs:starEach [e] X.env=[(false,eval e X.env)])(hline:(apos.endLine == cpos.line)=true) :
  PS X (.Expr (.Call (.Attribute (.Name x p1) "append" apos) [e] [] cpos) pos) (tS X.K E ca mu (ztv i m)):=by
 refine PS.weak (zl8 (zx2 ycj PySem.F.slot_list_append PySem.F.type_list_append zqj (zic hN hv hd hcd) (zc5 he zfw hs) rfl (by rw[hs];rfl) hline hs rfl) rfl) λD σ H h=>?_
 obtain⟨F,τ,R,S,q⟩:=h;unfold ztv at q;cases ho:zj6 τ i with
 |none=>simp only[ho]at q
 |some kl =>
  obtain⟨kd,l⟩:=kl;simp only[ho]at q;have ht:=zey ho;obtain⟨y,ey,ry⟩:=S.rep i _ ht;obtain⟨p,xs,Rr,rfl,hA,fp,hp,ro,dp,hOw⟩:=ry.own_inv;refine⟨_,ey,.inl ⟨rfl,xs,SqL.of hp⟩,F,τ,R,S,?_⟩;cases hm:m τ with
  |none=>simp only[hm]at q
  |some r =>
   simp only[hm]at q;cases r with
   |x c=>exact λF' H' e=>q F' H' σ R e.stp0 (S.ext e)
   |v t bb =>
    cases bb with
    |true=>exact q.elim
    |false =>
     intro F1 H1 y B e1 g1;have g1':Rp X.K F1 H1 t y B:=g1
     by_cases hz:l.length<lim
     ·simp only[hz,if_true]at q;have S1:=S.ext e1;have ro1:=ro.ext e1;have hp1:=e1.hh _ _ hp;have pB:¬ B p:=λz=>by rw[e1.nb p z]at hp;cases hp
      have fp1:F1 p=none:=(ry.ext e1 |>.dom (by rw[hA];exact .inl rfl)).1
      refine⟨p,xs,y,rfl,rfl,hp1,by rw[<- ro.len,<- zez];exact hz,?_⟩
      have ro2:RpO X.K F1 (upd H1 p (.lst (xs++[y]))) (l++[t]) (xs++[y]) _:=(ro1.upd dp).snoc (g1'.upd pB) λj a z1 z2=>ro.apart e1 z2 j z1
      have dp2:∀j,¬ (if j=l.length then B else Rr j) p:=λj z=>by
       by_cases hj:j=l.length
       ·simp only[hj,if_true]at z;exact pB z
       ·simp only[hj,if_false]at z;exact dp j z
      have r2:=zu4 hOw ro2 fp1 zar dp2
      obtain⟨S3,st3⟩:=S1.upd ht ey (by rw[hA];exact .inl rfl) r2 (B:=B) (λa z=>by
       rw[hA]
       rcases z with z|z
       ·exact .inl (.inl z)
       ·rcases zq2 z with w|w
        ·exact .inl (.inr w)
        ·exact .inr w) (λj a z1 z2=>S.apart e1 z2 j z1)
      exact q F1 _ σ _ (e1.stp.trans st3) S3
     ·simp only[hz,if_false]at q
theorem s_clr{cpos apos:Pos}(hN:X.N[i]?=some x)(hv:Vis X.env.scope x)(hd:(x == ("__debug__":Str))=false)(hcd:(x == ("__classdict__":Str))=false)(hline:(apos.endLine == cpos.line)=true) :
  PS X (.Expr (.Call (.Attribute (.Name x p1) "clear" apos) [] [] cpos) pos) (tS X.K E ca mu (zJc i)):=by
 refine PS.weak (zl8 (zKc ycj PySem.F.slot_list_clear PySem.F.type_list_clear zB4 (zic hN hv hd hcd) rfl hline) rfl) λD σ H h=>?_
 obtain⟨F,τ,R,S,q⟩:=h;unfold zJc at q;cases ho:zj6 τ i with
 |none=>simp only[ho]at q
 |some kl =>
  obtain⟨kd,l⟩:=kl;simp only[ho]at q;have ht:=zey ho;obtain⟨y,ey,ry⟩:=S.rep i _ ht;obtain⟨p,xs,Rr,rfl,hA,fp,hp,ro,dp,hOw⟩:=ry.own_inv;refine⟨_,ey,.inl ⟨rfl,xs,SqL.of hp⟩,p,xs,rfl,rfl,hp,?_⟩;have r2:=zu4 hOw (RpO.nil (K:=X.K) (F:=F) (H:=upd H p (.lst []))) fp zar (λ_ z=>z)
  obtain⟨S3,st3⟩:=S.upd ht ey (by rw[hA];exact .inl rfl) r2 (B:=R0) (λa z=>by
   rw[hA]
   rcases z with z|⟨_,z⟩
   ·exact .inl (.inl z)
   ·exact z.elim) (λ_ _ _ z=>z.elim)
  have eO:(λa=>tot R a\/R0 a)=tot R:=funext λa=>propext ⟨λz=>z.elim id λz=>z.elim,.inl⟩
  rw[eO]at st3;exact q F _ σ _ st3 S3
theorem s_ext(hN:X.N[i]?=some x)(hv:Vis X.env.scope x)(hd:(x == ("__debug__":Str))=false)(hcd:(x == ("__classdict__":Str))=false)(he:PE X e (tM X.K E ca m))(hs:starEach [e] X.env=[(false,eval e X.env)])(hline:(apos.endLine == cpos.line)=true) :
  PS X (.Expr (.Call (.Attribute (.Name x p1) "extend" apos) [e] [] cpos) pos) (tS X.K E ca mu (zzg i m)):=by
 refine PS.weak (zl8 (zx2 ycj PySem.F.slot_list_extend PySem.F.type_list_extend zxc (zic hN hv hd hcd) (zc5 he zfw hs) rfl (by rw[hs];rfl) hline hs rfl) rfl) λD σ H h=>?_
 obtain⟨F,τ,R,S,q⟩:=h;unfold zzg at q;cases ho:zj6 τ i with
 |none=>simp only[ho]at q
 |some kl =>
  obtain⟨kd,l⟩:=kl;simp only[ho]at q;have ht:=zey ho;obtain⟨y,ey,ry⟩:=S.rep i _ ht;obtain⟨p,xs,Rr,rfl,hA,fp,hp,ro,dp,hOw⟩:=ry.own_inv;refine⟨_,ey,.inl ⟨rfl,xs,SqL.of hp⟩,F,τ,R,S,?_⟩;cases hm:m τ with
  |none=>simp only[hm]at q
  |some r =>
   simp only[hm]at q;cases r with
   |x c=>exact λF' H' e=>q F' H' σ R e.stp0 (S.ext e)
   |v t bb =>
    cases t with
    |nd o kd2 r =>
     cases kd2 with
     |lst =>
      cases bb with
      |true=>exact q.elim
      |false =>
       intro F1 H1 y B e1 g1;obtain⟨F2,e2,_,r2⟩:=Got.frz (b:=false) S e1 g1;have r2':Rp X.K F2 F2 (T.nd o .lst r).share y R0:=r2;rw[T.share]at r2';obtain⟨p2,ys,rfl,_,nn,kid⟩:=zci r2'
       by_cases hz:l.length+r.length<=lim
       ·simp only[hz,if_true]at q;have S1:=S.ext e2;have ro1:=ro.ext e2;have hp1:=e2.hh _ _ hp;have fp1:F2 p=none:=(ry.ext e2 |>.dom (by rw[hA];exact .inl rfl)).1
        have hn2:F2 p2=some (.lst ys):=nn;have lr:r.length=ys.length:=by have:=kid.1;rw[zap,ya1]at this;exact this
        refine⟨p,p2,xs,ys,rfl,rfl,hp1,e2.fh _ _ hn2,by rw[<- ro.len,<- lr,<- zez];exact hz,?_⟩
        have app:∀(l2:List T) (ys2:List V),Rps X.K F2 l2 ys2->∀(l:List T) (xs:List V) (H0:Hp),RpO X.K F2 H0 l xs Rr->RpO X.K F2 H0 (l++l2) (xs++ys2) Rr:=by
         intro l2
         induction l2 with
         |nil=>intro ys2 hk l xs H0 hro;rw[hk.inv0,yap,yap];exact hro
         |cons t l2 ih =>
          intro ys2 hk l xs H0 hro;obtain⟨y,ys',rfl,r1,rs1⟩:=hk.inv;have h2:=hro.snoc (r1.any (H':=H0)) (λ_ _ _ z=>z)
          have e3:(λj=>if j=l.length then R0 else Rr j)=Rr:=funext λj=>by
           by_cases hj:j=l.length
           ·simp only[hj,if_true];exact funext λa=>propext ⟨λz=>z.elim,λz=>absurd (hro.out _ a z) (yb9 _)⟩
           ·simp only[hj,if_false]
          rw[e3]at h2;have h3:=ih ys' rs1 (l++[t]) (xs++[y]) H0 h2
          simpa using h3
        have ro2:=app _ _ kid l xs _ (ro1.upd (o:=.lst (xs++ys)) dp);have r3:=zu4 hOw ro2 fp1 zar dp;obtain⟨S3,st3⟩:=S1.upd ht ey (by rw[hA];exact .inl rfl) r3 (B:=R0) (λa z=>.inl (by rw[hA];exact z)) (λj a z1 z2=>z2)
        exact q F2 _ σ _ ((e2.stp (O:=tot R)).trans st3) S3
       ·simp only[hz,if_false]at q
     |_=>exact q.elim
    |_=>exact q.elim
theorem s_sto(hN:X.N[i]?=some x)(hv:Vis X.env.scope x)(hd:(x == ("__debug__":Str))=false)(hcd:(x == ("__classdict__":Str))=false)(he:PE X e (tM X.K E ca m))(hk:PE X k (tM X.K E ca mk))(hs:swapsWithSole [.Subscript (.Name x p1) k pos2] e pos.line X.env=pure false)(hw:swappedStores [.Subscript (.Name x p1) k pos2] e X.env=pure none)
  (ha : ∀ v, assign (.Subscript (.Name x p1) k pos2) X.env v = (do
   let ov <- holding [v] (eval (.Name x p1) X.env);let iv <- holding [v,ov] (eval k X.env)
   standAt pos2
   holding [v,ov,iv] (setItem ov iv v)
   release [v,ov,iv] [])) :
  PS X (.Assign [.Subscript (.Name x p1) k pos2] e pos) (tS X.K E ca mu (zHq i mk m)):=by
 refine PS.weak (zwv he (zD9 (zic hN hv hd hcd) hk zzz ha) hs hw rfl) λD σ H h=>?_
 obtain⟨F,τ,R,S,q⟩:=h;refine⟨F,τ,R,S,?_⟩;unfold zHq at q;cases hm:m τ with
 |none=>simp only[hm]at q
 |some r =>
  simp only[hm]at q;cases r with
  |x c=>exact λF' H' e=>q F' H' σ R e.stp0 (S.ext e)
  |v t bb =>
   cases bb with
   |true=>exact q.elim
   |false =>
    intro F1 H1 y B e1 g1;have g1':Rp X.K F1 H1 t y B:=g1;simp only at q;cases ho:zj6 τ i with
    |none=>simp only[ho]at q
    |some kl =>
     obtain⟨kd,l⟩:=kl;simp only[ho]at q;have S1:=S.ext e1;have ht:=zey ho;obtain⟨y2,ey,ry⟩:=S1.rep i _ ht;refine⟨y2,ey,F1,τ,R,S1,?_⟩;cases hkk:mk τ with
     |none=>simp only[hkk]at q
     |some r =>
      simp only[hkk]at q;cases r with
      |x c=>exact λF' H' e=>q F' H' σ R ((e1.stp0).trans e.stp0) (S1.ext e)
      |v tk bk =>
       cases tk with
       |int kk =>
        simp only at q;cases hj:ixN l.length kk with
        |none=>simp only[hj]at q
        |some j =>
         simp only[hj]at q;intro F2 H2 z C e2 g2;have hz:=zGu g2;subst hz;have S2:=S1.ext e2;have ry2:=ry.ext e2;obtain⟨p,xs,Rr,rfl,hA,fp,hp,ro,dp,hOw⟩:=ry2.own_inv;have hjl:=(zsu hj).2.1;have g2':=g1'.ext e2
         have pB:¬ B p:=λz=>by
          have:R i p:=by rw[hA];exact .inl rfl
          exact S.apart e1 z i this
         refine⟨p,xs,kk,j,rfl,rfl,hp,by rw[<- ro.len];exact hj,?_⟩
         have ro2:RpO X.K F2 (upd H2 p (.lst (xs.set j y))) (l.set j t) (xs.set j y) _:=(ro.upd dp).set hjl (g2'.upd pB) λj' a _ z1 z2=>S.apart e1 z2 i (by rw[hA];exact .inr ⟨j',z1⟩)
         have dp2:∀j',¬ (if j'=j then B else Rr j') p:=λj' z=>by
          by_cases hj':j'=j
          ·simp only[hj',if_true]at z;exact pB z
          ·simp only[hj',if_false]at z;exact dp j' z
         have r3:=zu4 hOw ro2 fp zar dp2
         obtain⟨S3,st3⟩:=S2.upd ht ey (by rw[hA];exact .inl rfl) r3 (B:=B) (λa z=>by
          rw[hA]
          rcases z with z|z
          ·exact .inl (.inl z)
          ·rcases zEn z with w|w
           ·exact .inl (.inr w)
           ·exact .inr w) (λj a z1 z2=>S.apart e1 z2 j z1)
         exact q F2 _ σ _ ((e1.stp.trans e2.stp0).trans st3) S3
       |_=>exact q.elim
end
section
variable {X:Cx}{E:L2.St->XK}{ca:Str->Value}{σ:L2.St}{H F:Hp}{K:PySem.W.Frag}{m mk:PSt->Option Rs}{ms:PSt->Option RsL}{D:Ends}{e:Expr}{es:List Expr}{pos apos cpos p1 p2:Pos}{i j:Nat}{x y:Str}{τ:PSt}{R:Nat->Rg}{mu:Bool}
theorem Rp.pin_at{q:Addr}{l:List T}{x:V}{A:Rg}(h:Rp K F H (.nd true (.pin q) l) x A):x=.ref q:=by
 obtain⟨p',xs,Rr,rfl,rfl,fp,hp,ro,dp,o⟩:=h.own_inv;have o':q=p':=o;rw[o']
def zsh(t:T)(τ:PSt):Option Out:=match τ[(0:Nat)]? with
 |some (some (.nd true (.pin q) l))=>some (.rt (.own [t,.nd true (.pin q) l]))
 |_=>none
theorem zn9{t:T}{o:Out}(h:zsh t τ=some o):∃q l,τ[0]?=some (some (.nd true (.pin q) l))/\o=.rt (.own [t,.nd true (.pin q) l]):=by
 unfold zsh at h;split at h
 ·rename_i q l e;cases h;exact⟨q,l,e,rfl⟩
 ·cases h
theorem zwp{t:T}{q:Addr}{l:List T}{x:V}{F' H':Hp}(S:StR K F' H' σ τ R)(h:τ[0]?=some (some (.nd true (.pin q) l)))(hf:t.flat=true)(r:Rp K F' H' t x R0):Wr K true F' H' (.own [t,.nd true (.pin q) l]) x (R 0):=by
 obtain⟨y,_,ry⟩:=S.rep 0 _ h;have hy:=ry.pin_at;subst hy;exact⟨t,q,l,rfl,hf,r,ry⟩
def zA6(m:PSt->Option Rs):PSt->Option Out:=λτ=>match m τ with
 |some (.v t _)=>if t.flat then zsh t τ else none
 |some (.x c)=>some (.xc c τ)
 |none=>none
def ztu:PSt->Option Out:=λτ=>zsh .non τ
theorem zBm{F H:Hp}{t:T}{b:Bool}{x:V}{B:Rg}(g:Got K F H R t b x B)(hf:t.flat=true):Rp K F H t x R0:=by
 cases b with
 |true=>obtain⟨_,A,_,r⟩:=g;exact r.flat_any hf
 |false=>exact(show Rp K F H _ _ _ from g).flat_any hf
theorem zJ6(he:PE X e (tM X.K E ca m)):PS X (.Return (some e) pos) (tS X.K E ca true (zA6 m)):=by
 refine PS.weak (zD6 he) λD σ H h=>?_
 obtain⟨F,τ,R,S,q⟩:=h;refine⟨F,τ,R,S,?_⟩;unfold zA6 at q;cases hm:m τ with
 |none=>simp only[hm]at q
 |some r =>
  simp only[hm]at q;cases r with
  |x c=>exact λF' H' e=>q F' H' σ R e.stp0 (S.ext e)
  |v t bb =>
   intro F' H' x B e g;simp only at q;cases hf:t.flat with
   |false=>rw[hf]at q;exact False.elim q
   |true =>
    rw[hf,if_pos rfl]at q;cases ho:zsh t τ with
    |none=>rw[ho]at q;exact q.elim
    |some o =>
     rw[ho]at q;obtain⟨p,l,h0,rfl⟩:=zn9 ho;exact q F' H' x (R 0) (e.stp0.mono λa z=>⟨0,z⟩) (zwp (S.ext e) h0 hf (zBm g hf))
theorem zEs:PS X (.Return none pos) (tS X.K E ca true ztu):=PS.weak zwu λD σ H h=>by
 obtain⟨F,τ,R,S,q⟩:=h;unfold ztu at q;cases ho:zsh .non τ with
 |none=>simp only[ho]at q
 |some o =>
  simp only[ho]at q;obtain⟨p,l,h0,rfl⟩:=zn9 ho;exact q F H .non (R 0) ((Stp.refl S.fh).mono λa z=>⟨0,z⟩) (zwp S h0 rfl .non)
inductive Mo where
 |ok (v:T) (τ:PSt)|exc (c:Str) (τ:PSt)
def spM(K:PySem.W.Frag)(ca:Str->Value)(g:List T->Option Ru):Sp:=λvs H Q E=>∃F p l ts A vs',zbl F H/\vs=.ref p::vs'/\Rp K F H (.nd true (.pin p) l) (.ref p) A/\Rps K F ts vs'/\match g (.nd true (.pin p) l::ts) with
 |some (.ok t)=>∀F' H' x B,Stp F H A F' H' B->Wr K true F' H' t x B->Q x H'
 |some (.exc c)=>∀F' H',Stp F H A F' H' R0->E (ca c) none H'
 |none=>False
variable {mm:PSt->Option Mo}
end
end Pu
set_option Elab.async false
set_option linter.all false
set_option maxRecDepth 100000
namespace Pu
open PySem PySem.Spec PyProof.Rows L2 Zw Zx
section
variable {X:Cx}{pins:List (Addr×Obj)}{σ:L2.St}{H:Hp}{s:Shared}{a:Addr}{kvs:List (Key×V)}
end
section
variable {X:Cx}
def tDicO:TE:=λ_ H Q=>∀p,H p=none->Q (.ref p) (upd H p (.dK []))
theorem zFg{pos:Pos}:PE X (.Dict [] [] pos) tDicO:=λpins s σ H Q I h=>by
 refine wpAny_Dict_empty ⟨.ref s.heap.objs.size,_,I.laid (a:=s.heap.objs.size) (o:=.dK []) (t':=s.toks) (λ_ _ q=>yac _ q) (yaa _) (zBz s.heap I.big),rfl,h _ (I.hok.fresh (yaa _))⟩
end
section
variable {X:Cx}{E:L2.St->XK}{ca:Str->Value}{m mk mv:PSt->Option Rs}{e k:Expr}{pos p1 pos2:Pos}{mu:Bool}
end
section
variable {X:Cx}{E:L2.St->XK}{ca:Str->Value}{m mk:PSt->Option Rs}{e k:Expr}{pos p1 pos2:Pos}{mu:Bool}{i:Nat}{x:Str}
end
end Pu
set_option Elab.async false
set_option linter.all false
set_option maxRecDepth 100000
namespace Pu
open PySem PySem.Spec PyProof.Rows L2 Zw Zx
mutual
def T.deep:T->Bool
 |.nd o _ l=>o && zC0 l
 |.dic _ _=>false
 |.pdc _ _=>false
 |.odc _ _=>false
 |.obj _ _=>false
 |.oob _ _ _ _=>false
 |.osd _ _=>false
 |.non=>true
 |.bl _=>true
 |.int _=>true
 |.str _=>true
def zC0:List T->Bool
 |[]=>true
 |t::r=>t.deep && zC0 r
end
theorem zre:∀{l:List T},zC0 l=true->∀{i:Nat} {t:T},l[i]?=some t->t.deep=true
 |[],_,i,t,e=>by simp at e
 |a::r,h,i,t,e=>by
  rw[zC0,ya4]at h;cases i with
  |zero =>
   simp at e;subst e;exact h.1
  |succ i=>exact zre h.2 (by simpa using e)
theorem Rp.deep{K:PySem.W.Frag}{F F' H:Hp}{t:T}{x:V}{A:Rg}(h:Rp K F H t x A)(d:t.deep=true)(k:∀a,F a=none->F' a=none):Rp K F' H t x A:=by
 induction h with
 |non=>exact .non
 |bl b=>exact .bl b
 |int i=>exact .int i
 |str y=>exact .str y
 |shr h e c ih=>cases d
 |dic h e ek c ih=>cases d
 |pdc h e ek c ih=>cases d
 |odc f h e ek c ih=>cases d
 |obj h e c ih=>cases d
 |oob R f h e c d2 dp o ih=>cases d
 |osd f h e ek c ih=>cases d
 |own hk R f h e c ds dp o ih =>
  rw[T.deep,Bool.true_and]at d;exact .own hk R (k _ f) h e (λi t x h1 h2=>ih i t x h1 h2 (zre d h1)) ds dp o
def zB8(i:Nat)(m:PSt->Option Rs):PSt->Option Rs:=λτ=>match τ[i]? with
 |some (some t)=>(match m (τ.set i (some t.share)) with
  |some (.v v false)=>if v.deep=true then some (.v v false) else none
  |some (.v _ true)=>none
  |some (.x c)=>some (.x c)
  |none=>none)
 |_=>none
theorem StR.frz{K:PySem.W.Frag}{F H:Hp}{σ:L2.St}{τ:PSt}{R:Nat->Rg}{i:Nat}{t:T}(S:StR K F H σ τ R)(ht:τ[i]?=some (some t)):StR K (Pu.frz F H (R i)) H σ (τ.set i (some t.share)) (λj=>if j=i then R0 else R j):=by
 obtain⟨x,ex,r⟩:=S.rep i t ht;have hi:i<τ.length:=(ya5.mp ht).1;have n:∀a,R i a->F a=none:=λa z=>(r.dom z).1
 refine⟨znh S.fh,by simpa using S.len,λj t' e=>?_,λj a z=>?_,λj k a hjk z1 z2=>?_⟩
 ·by_cases hj:j=i
  ·subst hj;rw[yal hi]at e;cases e;exact⟨x,ex,by simpa using r.share (zgp n) λa u z q=>by rw[zjt z];exact q⟩
  ·rw[yah (yay hj)]at e;obtain⟨y,e1,r1⟩:=S.rep j t' e;refine⟨y,e1,?_⟩;simp only[hj,if_false]
   exact r1.frame (zgp n) λa z=>⟨rfl,by
    rw[ze0 (λz'=>S.dis j i a hj z z')]
    exact(r1.dom z).1⟩
 ·by_cases hj:j=i
  ·simp only[hj,if_true]at z;exact z.elim
  ·simp only[hj,if_false]at z;obtain⟨t',e⟩:=S.out j a z;exact⟨t',by rw[yah (yay hj)];exact e⟩
 ·by_cases hj:j=i
  ·simp only[hj,if_true]at z1;exact z1.elim
  ·by_cases hk:k=i
   ·simp only[hk,if_true]at z2;exact z2.elim
   ·simp only[hj,if_false]at z1;simp only[hk,if_false]at z2;exact S.dis j k a hjk z1 z2
open Classical in
noncomputable def zI9(A:Rg)(F:Hp):Hp:=λa=>if A a then none else F a
theorem zkp{K:PySem.W.Frag}{F H F' H':Hp}{σ:L2.St}{τ:PSt}{R:Nat->Rg}{i:Nat}{B:Rg}(S:StR K F H σ τ R)(e:Ext (Pu.frz F H (R i)) H F' H' B):Ext F H (zI9 (R i) F') H' B:=by
 have n:∀a,R i a->F a=none:=λa z=>(S.dom z).1
 refine⟨e.hh,λb u z=>?_,λb u z=>?_,e.nb,λb u z=>?_⟩
 ·have nb:¬ R i b:=λw=>by rw[n b w]at z;cases z
  unfold zI9;rw[if_neg nb];exact e.ff b u (by rw[ze0 nb];exact z)
 ·unfold zI9 at z
  by_cases w:R i b
  ·rw[if_pos w]at z;cases z
  ·rw[if_neg w]at z;exact e.fh b u z
 ·unfold zI9 at z
  by_cases w:R i b
  ·rw[if_pos w]at z;cases z
  ·rw[if_neg w]at z
   rcases e.nf b u z with z|z
   ·rw[ze0 w]at z;exact .inl z
   ·exact .inr z
theorem zIq{K:PySem.W.Frag}{E:L2.St->XK}{ca:Str->Value}{i:Nat}{m:PSt->Option Rs}{σ:L2.St}{H:Hp}{Q:VK}(h:tM K E ca (zB8 i m) σ H Q):tM K E ca m σ H Q:=by
 obtain⟨F,τ,R,S,q⟩:=h;unfold zB8 at q;cases ht:τ[i]? with
 |none=>rw[ht]at q;exact q.elim
 |some ot =>
  rw[ht]at q;cases ot with
  |none=>exact q.elim
  |some t =>
  simp only at q;refine⟨_,_,_,S.frz ht,?_⟩;cases hm:m (τ.set i (some t.share)) with
  |none=>rw[hm]at q;exact q.elim
  |some rs =>
   rw[hm]at q;cases rs with
   |x c=>exact λF' H' e=>q _ H' (zkp S e)
   |v v b =>
    cases b with
    |true=>exact q.elim
    |false =>
     simp only at q
     by_cases dv:v.deep=true
     ·rw[if_pos dv]at q;intro F' H' x B e g;refine q _ H' x B (zkp S e) ?_;have g':Rp K F' H' v x B:=g
      exact g'.deep dv λa z=>by
       unfold zI9;split
       ·rfl
       ·exact z
     ·rw[if_neg dv]at q;exact q.elim
theorem zEe{K:PySem.W.Frag}{E:L2.St->XK}{ca:Str->Value}{i:Nat}{m:PSt->Option Rs}{σ:L2.St}{H:Hp}{Q:Bool->Hp->Prop}(h:tMB K E ca (zB8 i m) σ H Q):tMB K E ca m σ H Q:=by
 obtain⟨F,τ,R,S,q⟩:=h;unfold zB8 at q;cases ht:τ[i]? with
 |none=>rw[ht]at q;exact q.elim
 |some ot =>
  rw[ht]at q;cases ot with
  |none=>exact q.elim
  |some t =>
  simp only at q;refine⟨_,_,_,S.frz ht,?_⟩;cases hm:m (τ.set i (some t.share)) with
  |none=>rw[hm]at q;exact q.elim
  |some rs =>
   rw[hm]at q;cases rs with
   |x c=>exact λF' H' e=>q _ H' (zkp S e)
   |v v b =>
    cases b with
    |true=>exact q.elim
    |false =>
     cases v with
     |bl c=>exact λF' H' e=>q _ H' (zkp S e)
     |_ =>
      simp only at q;split at q
      ·rename_i hh;split at hh
       ·cases hh
       ·cases hh
      ·rename_i hh;split at hh
       ·exact q
       ·cases hh
      ·rename_i hh;split at hh
       ·cases hh
       ·cases hh
      ·exact q
def zz9(l:List Nat)(m:PSt->Option Rs):PSt->Option Rs:=l.foldr zB8 m
theorem zpy{K:PySem.W.Frag}{E:L2.St->XK}{ca:Str->Value}{m:PSt->Option Rs}{σ:L2.St}{H:Hp}{Q:VK}:∀l:List Nat,tM K E ca (zz9 l m) σ H Q->tM K E ca m σ H Q
 |[],h=>h
 |i::r,h=>zpy r (zIq h)
theorem zn6{K:PySem.W.Frag}{E:L2.St->XK}{ca:Str->Value}{m:PSt->Option Rs}{σ:L2.St}{H:Hp}{Q:Bool->Hp->Prop}:∀l:List Nat,tMB K E ca (zz9 l m) σ H Q->tMB K E ca m σ H Q
 |[],h=>h
 |i::r,h=>zn6 r (zEe h)
section
variable {X:Cx}{E:L2.St->XK}{ca:Str->Value}{σ:L2.St}{H:Hp}{K:PySem.W.Frag}{u w:PSt->Option Out}{D:Ends}
end
end Pu
set_option Elab.async false
set_option linter.all false
set_option maxRecDepth 100000
namespace Pu
open PySem PySem.Spec PyProof.Rows L2 Zw Zx
theorem zne{fs:List Str}{xs:List V}{f:Str}:∀{j:Nat} {x:V},fs.findIdx? (· == f)=some j->xs[j]?=some x->(fs.zip xs).lookup f=some x:=by
 induction fs generalizing xs with
 |nil=>intro j x h;simp at h
 |cons g r ih =>
  intro j x h hx;rw[ydk]at h;cases xs with
  |nil=>simp at hx
  |cons y ys =>
   rw[ycn,yb1]
   by_cases hg:g=f
   ·subst hg;simp only[beq_self_eq_true,if_true,ydq]at h;subst h;simp at hx;rw[beq_self_eq_true,hx]
   ·have h1:(g == f)=false:=beq_eq_false_iff_ne.mpr hg;have h2:(f == g)=false:=beq_eq_false_iff_ne.mpr (yay hg);rw[h1]at h;simp only[yc7,if_false,ya2]at h;obtain⟨j',h3,rfl⟩:=h;rw[h2];exact ih h3 (by simpa using hx)
theorem zlh{fs:List Str}{xs:List V}{f:Str}(h:fs.contains f=false):(fs.zip xs).lookup f=none:=by
 induction fs generalizing xs with
 |nil=>rfl
 |cons g r ih =>
  cases xs with
  |nil=>rfl
  |cons y ys =>
   rw[ydj,ybq]at h;rw[ycn,yb1,h.1];exact ih h.2
theorem Rp.obj_inv{K:PySem.W.Frag}{F H:Hp}{k:Ob}{l:List T}{x:V}{A:Rg}(h:Rp K F H (.obj k l) x A):∃p xs,x=.ref p/\A=R0/\ObS F k p xs/\l.length=xs.length/\∀(i:Nat) (t:T) (x:V),l[i]?=some t->xs[i]?=some x->Rp K F H t x R0:=by
 cases h with
 |obj h e c=>exact⟨_,_,rfl,rfl,h,e,c⟩
def zrw(C:Addr)(fs:List Str):T->Option (List T)
 |.obj (.ins C' fs') l=>if C'=C/\fs'=fs then some l else none
 |_=>none
theorem zqu{C:Addr}{fs:List Str}{t:T}{l:List T}(h:zrw C fs t=some l):t=.obj (.ins C fs) l:=by
 unfold zrw at h;split at h
 ·split at h
  ·rename_i hc;cases h;rw[hc.1,hc.2]
  ·cases h
 ·cases h
def zih(C:Addr)(fs:List Str)(j:Nat)(m:PSt->Option Rs):PSt->Option Rs:=λτ=>match m τ with
 |some (.v t b)=>(match zrw C fs t with
  |some l=>(match l[j]? with
   |some u=>some (.v u (b && !u.sh))
   |none=>none)
  |none=>none)
 |some (.x c)=>some (.x c)
 |none=>none
def zg2(C:Addr)(fs:List Str)(g:List T->Option Ru)(m:PSt->Option Rs)(ms:PSt->Option RsL):PSt->Option Rs:=λτ=>match m τ with
 |some (.v t _)=>(match zrw C fs t with
  |some _=>(match ms τ with
   |some (.v ts b)=>(match g (t.share::ts) with
    |some (.ok v)=>fin b v
    |some (.exc c)=>some (.x c)
    |none=>none)
   |some (.x c)=>some (.x c)
   |none=>none)
  |none=>none)
 |some (.x c)=>some (.x c)
 |none=>none
def zmk(m n:PSt->Option Rs):PSt->Option Rs:=λτ=>match m τ with
 |some r=>some r
 |none=>n τ
section
variable {X:Cx}{E:L2.St->XK}{ca:Str->Value}{m n:PSt->Option Rs}{ms:PSt->Option RsL}{e o:Expr}{es:List Expr}{pos p apos:Pos}{C:Addr}{fs:List Str}{f:Str}{j:Nat}
theorem zAi(h1:PE X e (tM X.K E ca m))(h2:PE X e (tM X.K E ca n)):PE X e (tM X.K E ca (zmk m n)):=λpins s σ H Q I h=>by
 obtain⟨F,τ,R,S,q⟩:=h;unfold zmk at q;cases hm:m τ with
 |none =>
  rw[hm]at q;exact h2 pins s σ H Q I ⟨F,τ,R,S,q⟩
 |some r =>
  rw[hm]at q;exact h1 pins s σ H Q I ⟨F,τ,R,S,by rw[hm];exact q⟩
theorem zoy{K:PySem.W.Frag}{F H:Hp}{R:Nat->Rg}{k:Ob}{l:List T}{b:Bool}{x:V}{B:Rg}(g:Got K F H R (.obj k l) b x B):Rp K F H (.obj k l) x R0/\B=R0:=by
 cases b with
 |true =>
  obtain⟨hB,A,_,r⟩:=g;obtain⟨p,xs,rfl,hA,_⟩:=r.obj_inv;exact⟨hA▸r,hB⟩
 |false =>
  have r:Rp K F H (.obj k l) x B:=g;obtain⟨p,xs,rfl,hA,_⟩:=r.obj_inv;exact⟨hA▸r,hA⟩
theorem r_fld(c:Cls X.K C)(hn:zbn X.K C f)(hj:fs.findIdx? (· == f)=some j)(ho:PE X o (tM X.K E ca m))(hb:attributeBase o f X.env (eval o X.env)=eval o X.env):PE X (.Attribute o f pos) (tM X.K E ca (zih C fs j m)):=by
 refine PE.weak (zDa ho hb) λσ H Q h=>?_
 obtain⟨F,τ,R,S,q⟩:=h;refine⟨F,τ,R,S,?_⟩;unfold zih at q;cases hm:m τ with
 |none=>simp only[hm]at q
 |some r =>
  simp only[hm]at q;cases r with
  |x c=>exact q
  |v t b =>
   intro F1 H1 x B e1 g1;cases hi:zrw C fs t with
   |none=>simp only[hi]at q
   |some l =>
    simp only[hi]at q;have ht:=zqu hi;subst ht;cases hu:l[j]? with
    |none=>simp only[hu]at q
    |some u =>
     simp only[hu]at q;obtain⟨r1,hB⟩:=zoy g1;subst hB;obtain⟨a,xs,rfl,_,⟨dx,hF⟩,el,cc⟩:=r1.obj_inv;have hjl:=(ya5.mp hu).1;have hx:xs[j]?=some xs[j]:=ya0 (by omega)
     have hc:=cc j u _ hu hx;refine⟨a,_,dx,_,xs[j],rfl,e1.fh _ _ hF,c,hn,zne hj hx,?_⟩;refine q F1 H1 _ R0 e1 ?_;cases b with
     |false=>exact hc
     |true =>
      cases hs:u.sh with
      |true=>exact hc
      |false=>exact⟨rfl,R0,λ_ z=>z.elim,hc⟩
structure MetX(P:Program)(w:World)(K:PySem.W.Frag)(mg:Str->Option Value)(base:Heap)(C:Addr)(m:Str)(k:Nat)(ps:List Str)(sp:Sp) where
 f:Addr
 fd:FuncData
 c:Cls K C
 me:Meth K C m f
 ok:FnOk P w K mg base (CX1 P w) k f fd ps sp
 b:zjn K fd ps []
def zw4(C:Addr)(m:Str)(sp:Sp)(E:L2.St->XK)(ta:TE)(t:TA):TE:=λσ H Q=>ta σ H λx H1=>∃a dx fs,x=.ref a/\H1 a=some (.ins C dx fs)/\fs.lookup m=none /\
 t σ H1 λvs H2=>sp (x::vs) H2 Q (E σ)
theorem pmx{k j:Nat}{ps:List Str}{sp:Sp}{ta:TE}{t:TA}{pl:Sem Bool}(D:MetX X.prog X.w X.K X.mg X.base C f k ps sp)(hr:Room j X.A)(hx:zbh X E)(he:PE X o ta)(ha:PA X (e::es) t)(hk:k<=j)
  (hst:starEach (e::es) X.env=(false,eval e X.env)::starEach es X.env) (hpl:(backTo pos (starEach es X.env)).any (·.1)=false)
  (ht : eval (.Call (.Attribute o f apos) (e :: es) [] pos) X.env = (do
   let ov <- eval o X.env
   standAt apos.atName
   let (f,first) <- holding [ov] (getMethod ov f pl)
   callWith pos f first (backTo pos (starEach (e::es) X.env)) (backToKw pos (keywordEach [] X.env)))):PE X (.Call (.Attribute o f apos) (e::es) [] pos) (zw4 C f sp E ta t):=by
 intro pins s σ H Q I h;refine PySem.W.methodCall_KW (pl:=pl) (thn (he pins s σ H _ I h) λu s1 ⟨x,H1,I1,rx,a,dx,fs,ex,ea,l,q⟩=>?_) ht
 subst ex;obtain rfl:u=Value.ref a:=rx;refine zng I1 ea D.c D.me l ?_;refine ydi (first:=[.ref a]) (h₀:=X.base) I.ok.mod.kin D.me.kp (thn (ha pos pins s1 σ H1 _ I1 q) λus s2 ⟨vs,H2,I2,r,q2⟩=>⟨I2.kIn,?_⟩) hst hpl
 exact zse (us:=.ref a::us) (vs:=.ref a::vs) (dvs:=[]) D.ok (hr.mono hk) D.b .nil hx I2 (.cons rfl r) (by rw[yap];exact q2)
theorem pmx0{k j:Nat}{ps:List Str}{sp:Sp}{ta:TE}{pl:Sem Bool}(D:MetX X.prog X.w X.K X.mg X.base C f k ps sp)(hr:Room j X.A)(hx:zbh X E)(he:PE X o ta)(hk:k<=j)
  (ht : eval (.Call (.Attribute o f apos) [] [] pos) X.env = (do
   let ov <- eval o X.env
   standAt apos.atName
   let (f,first) <- holding [ov] (getMethod ov f pl)
   callWith pos f first (backTo pos (starEach [] X.env)) (backToKw pos (keywordEach [] X.env)))):PE X (.Call (.Attribute o f apos) [] [] pos) (zw4 C f sp E ta tNil):=by
 intro pins s σ H Q I h;refine PySem.W.methodCall_KW (pl:=pl) (thn (he pins s σ H _ I h) λu s1 ⟨x,H1,I1,rx,a,dx,fs,ex,ea,l,q⟩=>?_) ht
 subst ex;obtain rfl:u=Value.ref a:=rx;refine zng I1 ea D.c D.me l ?_;exact PySem.W.callWith_K0 (first:=[.ref a]) I1.kIn D.me.kp (zse (us:=[.ref a]) (vs:=[.ref a]) (dvs:=[]) D.ok (hr.mono hk) D.b .nil hx I1 (.cons rfl .nil) q)
theorem zw6{g:List T->Option Ru}{σ:L2.St}{H:Hp}{Q:VK}(hf:fs.contains f=false)(h:tM X.K E ca (zg2 C fs g m ms) σ H Q):zw4 C f (spP X.K ca g) E (tM X.K E ca m) (tMs X.K E ca ms) σ H Q:=by
 obtain⟨F,τ,R,S,q⟩:=h;refine⟨F,τ,R,S,?_⟩;unfold zg2 at q;cases hm:m τ with
 |none=>simp only[hm]at q
 |some r =>
  simp only[hm]at q;cases r with
  |x c=>exact q
  |v t b =>
   intro F1 H1 x B e1 g1;cases hi:zrw C fs t with
   |none=>simp only[hi]at q
   |some l =>
    simp only[hi]at q;have ht:=zqu hi;subst ht;obtain⟨r1,hB⟩:=zoy g1;subst hB;have S1:=S.ext e1;obtain⟨a,xs,rfl,_,⟨dx,hF⟩,el,cc⟩:=r1.obj_inv;refine⟨a,dx,_,rfl,e1.fh _ _ hF,zlh hf,F1,τ,R,S1,?_⟩;cases hs:ms τ with
    |none=>simp only[hs]at q
    |some r =>
     simp only[hs]at q;cases r with
     |x c=>exact λF' H' e=>q F' H' (e1.trans0 e)
     |v ts b' =>
      intro F2 H2 vs e2 rs;have S2:=S1.ext e2;simp only at q;have r2:Rp X.K (Gz b' F2 H2 R) H2 (T.obj (.ins C fs) l).share (.ref a) R0:=(r1.ext e2).share (zBi S2) λ_ _ z=>z.elim
      refine⟨Gz b' F2 H2 R,_,zGt S2,.cons r2 rs,?_⟩;have e12:=e1.trans0 e2;cases hg:g ((T.obj (.ins C fs) l).share::ts) with
      |none=>simp only[hg]at q
      |some r =>
       simp only[hg]at q;cases r with
       |exc c=>exact λF' H' e3=>q F2 H' (e12.grow e3.hh)
       |ok v =>
        intro F3 H3 z C3 e3 r3;simp only at q;unfold fin at q;cases b' with
        |false=>exact q F3 H3 z C3 (e12.trans0 e3) r3
        |true =>
         cases hf:v.flat with
         |false=>rw[hf]at q;exact False.elim q
         |true=>rw[hf]at q;exact q F2 H3 z R0 (e12.grow e3.hh) (r3.flat_any hf)
theorem zJm{k j:Nat}{ps:List Str}{g:List T->Option Ru}{pl:Sem Bool}(D:MetX X.prog X.w X.K X.mg X.base C f k ps (spP X.K ca g))(hf:fs.contains f=false)(hr:Room j X.A)(hx:zbh X E)(he:PE X o (tM X.K E ca m))(ha:PA X (e::es) (tMs X.K E ca ms))(hk:k<=j)
  (hst:starEach (e::es) X.env=(false,eval e X.env)::starEach es X.env) (hpl:(backTo pos (starEach es X.env)).any (·.1)=false)
  (ht : eval (.Call (.Attribute o f apos) (e :: es) [] pos) X.env = (do
   let ov <- eval o X.env
   standAt apos.atName
   let (f,first) <- holding [ov] (getMethod ov f pl)
   callWith pos f first (backTo pos (starEach (e::es) X.env)) (backToKw pos (keywordEach [] X.env)))):PE X (.Call (.Attribute o f apos) (e::es) [] pos) (tM X.K E ca (zg2 C fs g m ms)) :=
 PE.weak (pmx D hr hx he ha hk hst hpl ht) λσ H Q h=>zw6 hf h
structure NewX(P:Program)(w:World)(K:PySem.W.Frag)(mg:Str->Option Value)(base:Heap)(x:Str)(C:Addr)(k:Nat)(ps:List Str)(sp:Sp) where
 f:Addr
 fd:FuncData
 m:mg x=some (.ref C)
 ma:Mk K C f
 ok:FnOk P w K mg base (CX1 P w) k f fd ps sp
def zIl(C:Addr)(sp:Sp)(dvs:List V)(E:L2.St->XK)(t:TA):TE:=λσ H Q=>t σ H λvs H1=>∀x dx,H1 x=none->H1 dx=none->dx≠x ->
 sp (.ref x::(vs++dvs)) (upd (upd H1 dx (.own x)) x (.ins C dx [])) (λv H2=>v=.non/\Q (.ref x) H2) (E σ)
theorem pnx{k j:Nat}{x:Str}{ps:List Str}{sp:Sp}{t:TA}{dvs:List V}{ds:List Value}(D:NewX X.prog X.w X.K X.mg X.base x C k ps sp)(hb:zjn X.K D.fd ps ds)(hd:zbp dvs ds)(hr:Room j X.A)(hx:zbh X E)(ha:PA X (e::es) t)(hk:k+1<=j)(hg:Gl X x)(hdb:(x == ("__debug__":Str))=false)
  (he:starEach (e::es) X.env=(false,eval e X.env)::starEach es X.env) (hpl:(backTo pos (starEach es X.env)).any (·.1)=false):PE X (.Call (.Name x p) (e::es) [] pos) (zIl C sp dvs E t):=by
 intro pins s σ H Q I h;refine wpAny_Call_Name_kw (zll I hg D.m ?_ hdb);refine ydi (h₀:=X.base) I.ok.mod.kin D.ma.kp (thn (ha pos pins s σ H _ I h) λus s1 ⟨vs,H1,I1,r,q⟩=>⟨I1.kIn,?_⟩) he hpl
 have hq:=q (s1.heap.objs.size+1) s1.heap.objs.size (I1.hok.fresh (yce _)) (I1.hok.fresh (yaa _)) (yar (ycq _));have I2:=Inv.made (C:=C) I1;have r2:zbp (V.ref (s1.heap.objs.size+1)::(vs++dvs)) (Value.ref (s1.heap.objs.size+1)::(us++ds)):=.cons rfl (r.append hd)
 have hl:(Value.ref (s1.heap.objs.size+1)::us++ds).length=ps.length:=by
  have e:=r2.length;rw[D.ok.len _ _ _ _ hq]at e;exact e.symm
 refine wpAny_call (zB5 (f:=D.f) I1.kIn D.ma.makes D.ma.init (beq_iff_eq.mp D.ma.fn) (codeAny_mono (D.ok.run _ X.stack _ _ ⟨Value.ref (s1.heap.objs.size+1)::us,[]⟩ (Value.ref (s1.heap.objs.size+1)::(us++ds)) _ _ (E σ) ((hr.mono hk).make C us [])
  (I2.env0.make C us []) (hb _ (Value.ref (s1.heap.objs.size+1)::us) I2.kIn hl) r2 hq) λr s' hq'=>?_))
 cases r with
 |error v=>exact hx pins σ _ _ v s' I2 hq'
 |ok fl =>
  cases fl with
  |ret u =>
   obtain⟨v,H',I3,rv,ev,q3⟩:=I2.after hq';subst ev;exact⟨rv,⟨V.ref (s1.heap.objs.size+1),H',I3,rfl,q3⟩⟩
  |next=>exact False.elim hq'
  |brk=>exact False.elim hq'
  |cont=>exact False.elim hq'
def spN(K:PySem.W.Frag)(ca:Str->Value)(C:Addr)(g:List T->Option Ru):Sp:=λvs H Q E=>∃F p dx ts vs',zbl F H/\vs=.ref p::vs'/\F p=none/\H p=some (.ins C dx [])/\Rps K F ts vs'/\match g ts with
 |some (.ok t)=>∀F' H',Stp F H (λa=>a=p) F' H' R0->Rp K F' H' t (.ref p) R0->Q .non H'
 |some (.exc c)=>∀F' H',Stp F H (λa=>a=p) F' H' R0->E (ca c) none H'
 |none=>False
def zB6(g:List T->Option Ru)(ds:List T)(ms:PSt->Option RsL):PSt->Option Rs:=λτ=>match ms τ with
 |some (.v ts false)=>(match g (ts++ds) with
  |some (.ok t)=>some (.v t false)
  |some (.exc c)=>some (.x c)
  |none=>none)
 |some (.v _ true)=>none
 |some (.x c)=>some (.x c)
 |none=>none
theorem r_new{k j:Nat}{x:Str}{ps:List Str}{g:List T->Option Ru}{dvs:List V}{dts:List T}{ds:List Value}(D:NewX X.prog X.w X.K X.mg X.base x C k ps (spN X.K ca C g))(hb:zjn X.K D.fd ps ds)(hd:zbp dvs ds)(hdt:∀F:Hp,Rps X.K F dts dvs)(hr:Room j X.A)(hx:zbh X E)(ha:PA X (e::es) (tMs X.K E ca ms))(hk:k+1<=j)(hg:Gl X x)(hdb:(x == ("__debug__":Str))=false)
  (he:starEach (e::es) X.env=(false,eval e X.env)::starEach es X.env) (hpl:(backTo pos (starEach es X.env)).any (·.1)=false):PE X (.Call (.Name x p) (e::es) [] pos) (tM X.K E ca (zB6 g dts ms)):=by
 refine PE.weak (pnx D hb hd hr hx ha hk hg hdb he hpl) λσ H Q h=>?_
 obtain⟨F,τ,R,S,q⟩:=h;refine⟨F,τ,R,S,?_⟩;unfold zB6 at q;cases hs:ms τ with
 |none=>simp only[hs]at q
 |some r =>
  simp only[hs]at q;cases r with
  |x c=>exact q
  |v ts b =>
   cases b with
   |true=>exact λF1 H1 xs e1 rs=>q.elim
   |false =>
    intro F1 H1 xs e1 rs a dx ha hdx hne;simp only at q;have rs':Rps X.K F1 ts xs:=rs
    have key:∀F' H',Stp F1 (upd (upd H1 dx (.own a)) a (.ins C dx [])) (λb=>b=a) F' H' R0->Ext F H F' H' R0:=λF' H' st=>by
     refine e1.trans0 ⟨λb u z=>?_,st.ff,st.fh,λ_ z=>z.elim,λb u z=>?_⟩
     ·have h1:b≠a:=zaf z ha;have h2:b≠dx:=zaf z hdx;exact st.kp b u h1 (by rw[zag h1,zag h2];exact z)
     ·rcases st.nf b u z with w|w|w
      ·exact .inl w
      ·rw[w];exact .inr ha
      ·by_cases h1:b=a
       ·rw[h1];exact .inr ha
       ·by_cases h2:b=dx
        ·rw[h2];exact .inr hdx
        ·rw[zag h1,zag h2]at w;exact .inr w
    have fh2:zbl F1 (upd (upd H1 dx (.own a)) a (.ins C dx [])):=λb u z=>by
     have z':=e1.fh b u z;rw[zag (zaf z' ha),zag (zaf z' hdx)];exact z'
    refine⟨F1,a,dx,ts++dts,xs++dvs,fh2,rfl,zbd e1.fh ha,zar,zh6 rs' (hdt F1),?_⟩;cases hg:g (ts++dts) with
    |none=>simp only[hg]at q
    |some r =>
     simp only[hg]at q;cases r with
     |exc c=>exact λF' H' st=>q F' H' (key F' H' st)
     |ok t=>exact λF' H' st r=>⟨rfl,q F' H' _ R0 (key F' H' st) r⟩
end
end Pu
set_option Elab.async false
set_option linter.all false
set_option maxRecDepth 100000
namespace Pu
open PySem PySem.Spec PyProof.Rows L2 Zw Zx
def zoc(τ:PSt)(i:Nat)(C:Addr)(fs:List Str):Option (Addr×List T):=match τ[i]? with
 |some (some (.oob p C' fs' l))=>if C'=C/\fs'=fs then some (p,l) else none
 |_=>none
theorem zj7{τ:PSt}{i:Nat}{C:Addr}{fs:List Str}{p:Addr}{l:List T}(h:zoc τ i C fs=some (p,l)):τ[i]?=some (some (.oob p C fs l)):=by
 unfold zoc at h;split at h
 ·rename_i q;split at h
  ·rename_i hc;cases h;rw[q,hc.1,hc.2]
  ·cases h
 ·cases h
def zj4(C:Addr)(fs:List Str)(j i:Nat)(m:PSt->Option Rs):PSt->Option Out:=λτ=>match m τ with
 |some (.v t false)=>(match zoc τ i C fs with
  |some (p,l)=>if l.length=j then some (.nx (τ.set i (some (.oob p C fs (l++[t]))))) else none
  |none=>none)
 |some (.v _ true)=>none
 |some (.x c)=>some (.xc c τ)
 |none=>none
def zx4:Option T->Option (List Str×List T)
 |some (.osd ks l)=>some (ks,l)
 |_=>none
theorem zv8{o:Option T}{ks:List Str}{l:List T}(h:zx4 o=some (ks,l)):o=some (.osd ks l):=by
 unfold zx4 at h;split at h
 ·cases h;rfl
 ·cases h
open Classical in
noncomputable def zJb(C:Addr)(fs:List Str)(j i:Nat)(mk m:PSt->Option Rs):PSt->Option Out:=λτ=>match m τ with
 |some (.v t false)=>(match zoc τ i C fs with
  |some (p,l)=>(match zx4 l[j]? with
   |some (ks,lv)=>(match mk τ with
    |some (.v (.str k) _)=>if k∉ks/\ks.length<100000 then some (.nx (τ.set i (some (.oob p C fs (l.set j (.osd (ks++[k]) (lv++[t.share]))))))) else none
    |some (.v _ _)=>none
    |some (.x c)=>some (.xc c τ)
    |none=>none)
   |none=>none)
  |none=>none)
 |some (.v _ true)=>none
 |some (.x c)=>some (.xc c τ)
 |none=>none
def zB7:PSt->Option Rs:=λ_=>some (.v (.osd [] []) false)
theorem zu0{f:Str}{y:V}:∀{fs:List Str} {xs:List V},fs[xs.length]?=some f->(fs.take xs.length).contains f=false->zpt f y (fs.zip xs)=fs.zip (xs++[y])
 |[],xs,h,_=>by simp at h
 |g::r,[],h,_=>by
  simp at h;subst h;simp[zpt]
 |g::r,x::xs,h,hn=>by
  rw[yao,List.take_succ_cons,ydj,ybq]at hn
  have hg:¬ g=f:=λz=>by
   have:=hn.1;rw[z,beq_self_eq_true]at this;cases this
  have ih:=zu0 (f:=f) (y:=y) (fs:=r) (xs:=xs) (by simpa using h) hn.2
  rw[ycn,List.cons_append,ycn,<- ih];show(if g=f then _ else _)=_
  rw[if_neg hg]
section
variable {K:PySem.W.Frag}{F H:Hp}{C:Addr}{fs:List Str}{l:List T}
theorem Rp.oob_inv{p:Addr}{x:V}{A:Rg}(h:Rp K F H (.oob p C fs l) x A):∃dx xs Rr,x=.ref p/\A=(λa=>a=p\/∃j,Rr j a)/\F p=none/\H p=some (.ins C dx (fs.zip xs))/\RpO K F H l xs Rr/\∀j,¬ Rr j p:=by
 cases h with
 |oob R f h e c d dp o=>exact⟨_,_,R,rfl,rfl,f,h,⟨e,c,d,o⟩,dp⟩
theorem zDc{p dx:Addr}{xs:List V}{Rr:Nat->Rg}(r:RpO K F H l xs Rr)(f:F p=none)(h:H p=some (.ins C dx (fs.zip xs)))(dp:∀j,¬ Rr j p):Rp K F H (.oob p C fs l) (.ref p) (λa=>a=p\/∃j,Rr j a):=.oob Rr f h r.len r.rep r.dis dp r.out
theorem Rp.osd_inv{ks:List Str}{x:V}{A:Rg}(h:Rp K F H (.osd ks l) x A):∃p xs,x=.ref p/\A=(λa=>a=p)/\F p=none/\H p=some (.dK (kvS ks xs))/\l.length=xs.length/\ks.length=xs.length/\∀(i:Nat) (t:T) (x:V),l[i]?=some t->xs[i]?=some x->Rp K F H t x R0:=by
 cases h with
 |osd f h e ek c=>exact⟨_,_,rfl,rfl,f,h,e,ek,c⟩
end
theorem zGj{ks:List Str}{xs:List V}(h:ks.length=xs.length):(kvS ks xs).length=xs.length:=by
 unfold kvS;rw[List.length_zipWith,h,Nat.min_self]
theorem zGk{ks:List Str}{xs:List V}{kv:Key×V}(h:kv∈kvS ks xs):∃k∈ks,kv.1=Sum.inr k:=by
 induction ks generalizing xs with
 |nil=>cases xs<;>cases h
 |cons a r ih =>
  cases xs with
  |nil=>cases h
  |cons b s =>
   unfold kvS at h;rw[List.zipWith_cons_cons]at h
   rcases yaj.mp h with e|e
   ·exact⟨a,ya8 ..,by rw[e]⟩
   ·obtain⟨k,hk,e⟩:=ih (xs:=s) e;exact⟨k,ya6 _ hk,e⟩
theorem zAj{ks:List Str}{xs:List V}{k:Str}{y:V}(h:ks.length=xs.length)(hk:k∉ks):ztz (kvS ks xs) (Sum.inr k) y=kvS (ks++[k]) (xs++[y]):=by
 unfold ztz;rw[if_neg]
 ·unfold kvS;rw[List.zipWith_append h]
  rfl
 ·intro c;obtain⟨kv,h1,h2⟩:=List.any_eq_true.mp c;obtain⟨k',h3,h4⟩:=zGk h1;have:=of_decide_eq_true h2;rw[h4]at this;cases this;exact hk h3
section
variable {X:Cx}{E:L2.St->XK}{ca:Str->Value}{m mk:PSt->Option Rs}{e k:Expr}{pos p1 pos2 pos3:Pos}{mu:Bool}{i j:Nat}{x f:Str}{C:Addr}{fs:List Str}
theorem zJq:PE X (.Dict [] [] pos) (tM X.K E ca zB7):=PE.weak zFg λσ H Q h p hp=>by
 obtain⟨F,τ,R,S,q⟩:=h;exact q F (upd H p (.dK [])) (.ref p) _ (Ext.newO S.fh hp) (Rp.osd (ks:=[]) (xs:=[]) (l:=[]) (zbd S.fh hp) zar rfl rfl λi t x h=>by simp at h)
theorem zCx(c:Cls X.K C)(hn:zbn X.K C f)(hj:fs[j]?=some f)(hnf:(fs.take j).contains f=false)(hjl:j<900)(hN:X.N[i]?=some x)(hv:Vis X.env.scope x)(hd:(x == ("__debug__":Str))=false)(hcd:(x == ("__classdict__":Str))=false)(he:PE X e (tM X.K E ca m))
  (hs:swapsWith e (some (.Attribute (.Name x p1) f pos2)) pos.line X.env=pure false):PS X (.Assign [.Attribute (.Name x p1) f pos2] e pos) (tS X.K E ca mu (zj4 C fs j i m)):=by
 refine PS.weak (zJy (zic hN hv hd hcd) he hs) λD σ H h=>?_
 obtain⟨F,τ,R,S,q⟩:=h;refine⟨F,τ,R,S,?_⟩;unfold zj4 at q;cases hm:m τ with
 |none=>simp only[hm]at q
 |some r =>
  simp only[hm]at q;cases r with
  |x c=>exact λF' H' e=>q F' H' σ R e.stp0 (S.ext e)
  |v t bb =>
   cases bb with
   |true=>exact λF1 H1 y B e1 g1=>q.elim
   |false =>
    intro F1 H1 y B e1 g1;have g1':Rp X.K F1 H1 t y B:=g1;simp only at q;cases ho:zoc τ i C fs with
    |none=>simp only[ho]at q
    |some pl =>
     obtain⟨p,l⟩:=pl;simp only[ho]at q
     by_cases hl:l.length=j
     ·rw[if_pos hl]at q;have S1:=S.ext e1;have ht:=zj7 ho;obtain⟨y2,ey,ry⟩:=S.rep i _ ht;obtain⟨dx,xs,Rr,rfl,hA,fp,hp,ro,dp⟩:=ry.oob_inv;have hxs:xs.length=j:=by rw[<- ro.len];exact hl
      have hp1:=e1.hh _ _ hp;have pB:¬ B p:=λz=>by rw[e1.nb p z]at hp;cases hp
      have fp1:F1 p=none:=(ry.ext e1 |>.dom (by rw[hA];exact .inl rfl)).1
      refine⟨_,ey,p,C,dx,fs.zip xs,rfl,hp1,c,hn,?_,?_⟩
      ·rw[List.length_zip]
       omega
      ·rw[zu0 (by rw[hxs];exact hj) (by rw[hxs];exact hnf)]
       have ro1:=ro.ext e1;have ro2:RpO X.K F1 (upd H1 p (.ins C dx (fs.zip (xs++[y])))) (l++[t]) (xs++[y]) _:=(ro1.upd dp).snoc (g1'.upd pB) λj a z1 z2=>ro.apart e1 z2 j z1
       have dp2:∀j,¬ (if j=l.length then B else Rr j) p:=λj z=>by
        by_cases hj:j=l.length
        ·simp only[hj,if_true]at z;exact pB z
        ·simp only[hj,if_false]at z;exact dp j z
       have r2:=zDc (C:=C) (fs:=fs) ro2 fp1 zar dp2
       obtain⟨S3,st3⟩:=S1.upd ht ey (by rw[hA];exact .inl rfl) r2 (B:=B) (λa z=>by
        rw[hA]
        rcases z with z|z
        ·exact .inl (.inl z)
        ·rcases zq2 z with w|w
         ·exact .inl (.inr w)
         ·exact .inr w) (λj a z1 z2=>S.apart e1 z2 j z1)
       exact q F1 _ σ _ (e1.stp.trans st3) S3
     ·rw[if_neg hl]at q;exact q.elim
def rSetS:zN0:=λo i v H Q=>∃p kvs k,o=.ref p/\i=.str k/\H p=some (.dK kvs)/\kvs.length<sizeLine/\Q (upd H p (.dK (ztz kvs (Sum.inr k) v)))
theorem zA0(hu:X.A.units+1<cLine):PSet X rSetS:=by
 intro pins s σ H o i v ov iv u Q I ro ri rv h;obtain⟨p,kvs,k,rfl,rfl,hp,hl,q⟩:=h;cases ro;exact zyj hu I (zN1.k (k:=Sum.inr k) hp hl) (show L2.RelV (kV (Sum.inr k)) iv from ri) rv λs' I'=>⟨_,I',q⟩
theorem zhy{K:PySem.W.Frag}{F H:Hp}{R:Nat->Rg}{z:Str}{b:Bool}{y:V}{B:Rg}(g:Got K F H R (.str z) b y B):y=.str z:=by
 cases b with
 |true=>obtain⟨_,A,_,r⟩:=g;exact r.str_inv
 |false=>exact(show Rp K F H _ _ _ from g).str_inv
theorem s_dpf(hu:X.A.units+1<cLine)(c:Cls X.K C)(hn:zbn X.K C f)(hj:fs.findIdx? (· == f)=some j)(hN:X.N[i]?=some x)(hv:Vis X.env.scope x)(hd:(x == ("__debug__":Str))=false)(hcd:(x == ("__classdict__":Str))=false)(he:PE X e (tM X.K E ca m))(hk:PE X k (tM X.K E ca mk))
  (hs:swapsWithSole [.Subscript (.Attribute (.Name x p1) f pos3) k pos2] e pos.line X.env=pure false) (hw:swappedStores [.Subscript (.Attribute (.Name x p1) f pos3) k pos2] e X.env=pure none)
  (ha : ∀ v, assign (.Subscript (.Attribute (.Name x p1) f pos3) k pos2) X.env v = (do
   let ov <- holding [v] (eval (.Attribute (.Name x p1) f pos3) X.env);let iv <- holding [v,ov] (eval k X.env)
   standAt pos2
   holding [v,ov,iv] (setItem ov iv v)
   release [v,ov,iv] [])) :
  PS X (.Assign [.Subscript (.Attribute (.Name x p1) f pos3) k pos2] e pos) (tS X.K E ca mu (zJb C fs j i mk m)):=by
 refine PS.weak (zwv he (zD9 (zDa (zic hN hv hd hcd) rfl) hk (zA0 hu) ha) hs hw rfl) λD σ H h=>?_
 obtain⟨F,τ,R,S,q⟩:=h;refine⟨F,τ,R,S,?_⟩;unfold zJb at q;cases hm:m τ with
 |none=>simp only[hm]at q
 |some r =>
  simp only[hm]at q;cases r with
  |x c=>exact λF' H' e=>q F' H' σ R e.stp0 (S.ext e)
  |v t bb =>
   cases bb with
   |true=>exact λF1 H1 y B e1 g1=>q.elim
   |false =>
    intro F0 H1 y B e0 g0;simp only at q;obtain⟨F1,e1,_,g1⟩:=Got.frz (b:=false) S e0 g0;have g1':Rp X.K F1 H1 t.share y R0:=(show Rp X.K F1 F1 t.share y R0 from g1).any;cases ho:zoc τ i C fs with
    |none=>simp only[ho]at q
    |some pl =>
     obtain⟨p,l⟩:=pl;simp only[ho]at q;cases hos:zx4 l[j]? with
     |none=>simp only[hos]at q
     |some kl =>
      obtain⟨ks,lv⟩:=kl;simp only[hos]at q;have hlj:=zv8 hos;have S1:=S.ext e1;have ht:=zj7 ho;obtain⟨y2,ey,ry⟩:=S1.rep i _ ht;obtain⟨dx,xs,Rr,rfl,hA,fp,hp,ro,dp⟩:=ry.oob_inv;have hjl:=(ya5.mp hlj).1;have hjx:j<xs.length:=by rw[<- ro.len];exact hjl
      have hx:xs[j]?=some xs[j]:=ya0 hjx;refine⟨_,ey,p,C,dx,_,xs[j],rfl,hp,c,hn,zne hj hx,F1,τ,R,S1,?_⟩;cases hkk:mk τ with
      |none=>simp only[hkk]at q
      |some r =>
       simp only[hkk]at q;cases r with
       |x c=>exact λF' H' e=>q F' H' σ R ((e1.stp0).trans e.stp0) (S1.ext e)
       |v tk bk =>
        cases tk with
        |str kk =>
         simp only at q
         by_cases hc:kk∉ks/\ks.length<100000
         ·rw[if_pos hc]at q;intro F2 H2 z CC e2 g2;have hz:=zhy g2;subst hz;have e2':Ext F1 H1 F2 H2 R0:=e2.mono λ_ z=>z.elim
          have S2:=S1.ext e2;have ry2:=ry.ext e2;have ro2:=ro.ext e2;have fp2:F2 p=none:=(ry2.dom (by rw[hA];exact .inl rfl)).1
          have hp2:=e2.hh _ _ hp;have rk:=ro2.rep j _ _ hlj hx;obtain⟨pd,ys,exj,hAd,fpd,hpd,el,ek,cc⟩:=rk.osd_inv;have g2':Rp X.K F2 H2 t.share y R0:=g1'.ext e2;have pdj:Rr j pd:=by rw[hAd]
          have pne:pd≠p:=λz=>dp j (z▸pdj)
          refine⟨pd,kvS ks ys,kk,exj,rfl,hpd,?_,?_⟩
          ·rw[zGj ek,<- ek,sizeLine_eq];exact yd6 hc.2 (by decide)
          ·rw[zAj ek hc.1]
           have r3:Rp X.K F2 (upd H2 pd (.dK (kvS (ks++[kk]) (ys++[y])))) (.osd (ks++[kk]) (lv++[t.share])) (.ref pd) (λa=>a=pd):=by
            refine .osd fpd zar (by simp[el]) (by simp[ek]) λj t' x' h1 h2=>?_
            rcases Nat.lt_or_ge j lv.length with w|w
            ·rw[yaz w]at h1;rw[yaz (by omega)]at h2
             exact(cc j t' x' h1 h2).any
            ·rw[yb3 w]at h1;rw[yb3 (by omega)]at h2
             have hj:j - lv.length=0:=by
              have:=(ya5.mp h1).1;simp at this
              omega
             have hj2:j - ys.length=0:=by omega
             rw[hj]at h1;rw[hj2]at h2;simp at h1 h2;subst h1 h2;exact g2'.any
           have oth:∀k,k≠j->¬ Rr k pd:=λk hk z=>ro2.dis k j pd hk z pdj
           have ro3:RpO X.K F2 (upd H2 pd (.dK (kvS (ks++[kk]) (ys++[y])))) (l.set j (.osd (ks++[kk]) (lv++[t.share]))) xs Rr:=by
            refine⟨by rw[ybs];exact ro2.len,λk t' x' h1 h2=>?_,ro2.dis,λk a z=>by rw[ybs];exact ro2.out k a z⟩
            by_cases hk:k=j
            ·subst hk;rw[yal hjl]at h1;rw[hx]at h2;cases h1;cases h2;rw[exj,hAd];exact r3
            ·rw[yah (yay hk)]at h1;exact(ro2.rep k t' x' h1 h2).upd (oth k hk)
           have r4:=zDc (C:=C) (fs:=fs) (p:=p) (dx:=dx) ro3 fp2 (by rw[zag (yay pne)];exact hp2) dp
           obtain⟨S3,st3⟩:=S2.upd ht ey (p:=pd) (by rw[hA];exact .inr ⟨j,pdj⟩) r4 (B:=R0) (λa z=>.inl (by rw[hA];exact z)) (λj a z1 z2=>z2)
           exact q F2 _ σ _ ((e1.stp.trans e2.stp0).trans st3) S3
         ·rw[if_neg hc]at q;exact q.elim
        |_=>exact λF' H' z CC e2 g2=>q.elim
end
end Pu
set_option Elab.async false
set_option linter.all false
set_option maxRecDepth 100000
namespace Pu
open PySem PySem.Spec PyProof.Rows L2 Zw Zx
section
variable {X:Cx}{E:L2.St->XK}{ca:Str->Value}{ma mb mc:PSt->Option Rs}{a b c:Expr}{pos:Pos}{x:Str}{t:T}
theorem r_con{v:V}{u:Value}(hg:Gl X x)(hm:X.mg x=some u)(rv:RelV v u)(hd:(x == ("__debug__":Str))=false)(r:∀F:Hp,Rp X.K F F t v R0):PE X (.Name x pos) (tM X.K E ca (mC t)) :=
 PE.weak (zsj hg hm rv hd) λσ H Q h=>by
  obtain⟨F,τ,R,S,q⟩:=h;exact q F H v R0 (Ext.refl S.fh) (r F).any
def zxl(g g':T->T->Option T)(ma mb mc:PSt->Option Rs):PSt->Option Rs:=λτ=>match ma τ,mb τ with
 |some (.v t _),some (.v u _)=>if t.flat && u.flat then (match g t u with
  |some (.bl true)=>(match mc τ with
   |some (.v w _)=>if w.flat then (match g' u w with
    |some (.bl k)=>some (.v (.bl k) false)
    |_=>none) else none
   |_=>none)
  |some (.bl false)=>some (.v (.bl false) false)
  |_=>none) else none
 |_,_=>none
theorem znf{K:PySem.W.Frag}{F H F' H':Hp}{R:Nat->Rg}{v:T}{b:Bool}{x:V}{B:Rg}(g:Got K F H R v b x B)(h:v.flat=true):Rp K F' H' v x R0:=by
 cases b with
 |true=>obtain⟨_,A,_,r⟩:=g;exact r.flat_any h
 |false=>exact(show Rp K F H v x B from g).flat_any h
theorem zCo{g g':T->T->Option T}{σ:L2.St}{H:Hp}{Q:VK}(h:tM X.K E ca (zxl g g' ma mb mc) σ H Q):zw7 (rT2 X.K g) (rT2 X.K g') (tM X.K E ca ma) (tM X.K E ca mb) (tM X.K E ca mc) σ H Q:=by
 obtain⟨F,τ,R,S,q⟩:=h;refine⟨F,τ,R,S,?_⟩;unfold zxl at q;cases h1:ma τ with
 |none=>simp only[h1]at q
 |some r1 =>
  cases r1 with
  |x c=>simp only[h1]at q
  |v t b1 =>
   cases h2:mb τ with
   |none=>simp only[h1,h2]at q
   |some r2 =>
    cases r2 with
    |x c=>simp only[h1,h2]at q
    |v u b2 =>
     simp only[h1,h2]at q
     by_cases hf:(t.flat && u.flat)=true
     ·rw[if_pos hf]at q;rw[ya4]at hf;intro F1 H1 x B1 e1 g1;have S1:=S.ext e1;refine⟨F1,τ,R,S1,?_⟩;rw[h2];intro F2 H2 y B2 e2 g2;have S2:=S1.ext e2;have e12:Ext F H F2 H2 R0:=(e1.trans e2).mono λ_ z=>z.elim
      cases hg:g t u with
      |none=>simp only[hg]at q
      |some k =>
       cases k with
       |bl k =>
        cases k with
        |false =>
         simp only[hg]at q;refine⟨F2,t,u,_,S2.fh,znf g1 hf.1,znf g2 hf.2,hg,λF3 H3 z C3 e3 r3=>⟨false,r3.bl_inv,?_⟩⟩
         rw[if_neg ybg];exact q F3 H3 _ R0 (e12.trans0 (e3.mono λ_ z=>z.elim)) (.bl false)
        |true =>
         simp only[hg]at q;refine⟨F2,t,u,_,S2.fh,znf g1 hf.1,znf g2 hf.2,hg,λF3 H3 z C3 e3 r3=>⟨true,r3.bl_inv,?_⟩⟩
         rw[if_pos rfl];have S3:=S2.ext e3;refine⟨F3,τ,R,S3,?_⟩;cases h3:mc τ with
         |none=>simp only[h3]at q
         |some r3 =>
          cases r3 with
          |x c=>simp only[h3]at q
          |v w b3 =>
           simp only[h3]at q
           by_cases hw:w.flat=true
           ·rw[if_pos hw]at q;intro F4 H4 z4 B4 e4 g4;have S4:=S3.ext e4;cases hg':g' u w with
            |none=>simp only[hg']at q
            |some k =>
             cases k with
             |bl k =>
              simp only[hg']at q;refine⟨F4,u,w,_,S4.fh,znf g2 hf.2,znf g4 hw,hg',λF5 H5 z5 C5 e5 r5=>?_⟩
              rw[r5.bl_inv];exact q F5 H5 _ R0 (e12.trans0 (((e3.trans e4).trans e5).mono λ_ z=>z.elim)) (.bl k)
             |_=>simp only[hg']at q
           ·rw[if_neg hw]at q;exact q.elim
       |_=>simp only[hg]at q
     ·rw[if_neg hf]at q;exact q.elim
theorem r_chn{op op':CmpOp}{g g':T->T->Option T}(ho:OpR X (compareOp op) (rT2 X.K g))(ho':OpR X (compareOp op') (rT2 X.K g'))(ha:PE X a (tM X.K E ca ma))(hb:PE X b (tM X.K E ca mb))(hc:PE X c (tM X.K E ca mc))(hm:lastMarks [op,op'] [b,c]=false) :
  PE X (.Compare a [op,op'] [b,c] pos) (tM X.K E ca (zxl g g' ma mb mc)):=PE.weak (zAr ho ho' ha hb hc hm) λσ H Q h=>zCo h
theorem zJl{op op':CmpOp}{g g':T->T->Option T}(ho:OpR X (compareOp op) (rT2 X.K g))(ho':OpR X (compareOp op') (rT2 X.K g'))(ha:PE X a (tM X.K E ca ma))(hb:PE X b (tM X.K E ca mb))(hc:PE X c (tM X.K E ca mc))(hm:lastMarks [op,op'] [b,c]=false) :
  PT X (.Compare a [op,op'] [b,c] pos) (tMB X.K E ca (zxl g g' ma mb mc)):=PT.weak (zAk ho ho' ha hb hc hm) λσ H Q h=>zCo (znp h)
end
end Pu
set_option Elab.async false
set_option linter.all false
set_option maxRecDepth 100000
namespace Pu
open PySem PySem.Spec PyProof.Rows L2 Zw Zx
def ItS(x:Str):It:=⟨λi _=>i<x.cps.size,λi H y H'=>H'=H/\∃c,x.cps[i]?=some c/\y=.str ⟨#[c]⟩,λi _=>x.cps.size<=i⟩
theorem zzq{P:Program}{w:World}{K:PySem.W.Frag}{tg:Expr}(x:Str)(t:Tok)(it:Addr):Turn P w K tg (ItS x) [it] it (λi h=>h.IsStrIter it (strIterType x) x t i) where
 mem:=by simp
 obj:=λi h st b hb=>by
  have e:b=it:=by simpa using hb
  subst e;obtain⟨o,e,c,d⟩:=st;exact⟨o,e,λv z=>by rw[d]at z;cases z⟩
 keep:=λi h h' st k=>by
  obtain⟨o,e,c,d⟩:=st;exact⟨o,k it (by simp) o e,c,d⟩
 item:=by
  intro X hP hw hK hc i pins s σ H E I hf st hg;subst hP hw hK;have hi:i<x.cps.size:=hg;obtain⟨f0,f1,f2,f3,f4,f5⟩:=hf it (by simp)
  have fin:∀(h':Heap),h'.IsStrIter it (strIterType x) x t (i+1)->Heap.SameBut it s.heap h'->∃u,some (Value.str ⟨#[x.cps[i]]⟩ s.toks)=some u /\
   wpAny (model X.prog X.w) X.A (letOwnedTupleGo tg (.ref it) u) (λ_ s2=>∃y H',Inv X pins σ H' s2/\RelV y u/\(ItS x).yld i H y H'/\s2.heap.IsStrIter it (strIterType x) x t (i+1)/\∀b∈[it],H' b=none) E { s with heap:=h',toks:=s.toks+1 }:=λh' st' sb=>by
   have I1:Inv X pins σ H { s with heap:=h',toks:=s.toks+1 }:=I.turned (t':=s.toks+1) (λb o hb e=>(sb.2 b hb).trans e) f0 f1 f3 f4 f5
   obtain⟨o,e,c,d⟩:=id st';refine⟨_,rfl,zBo (s:={ s with heap:=h',toks:=s.toks+1 }) e c d ?_ ⟨.str ⟨#[x.cps[i]]⟩,H,I1,⟨_,rfl⟩,⟨rfl,_,yb8 hi,rfl⟩,st',λb hb=>(hf b hb).1⟩⟩
   unfold strIterType;split<;>decide
  cases ha:(x.cps.all λx=>decide (x<128)) with
  |true =>
   have e:strIterType x="str_ascii_iterator":=by unfold strIterType;rw[ha];rfl
   rw[e]at st fin ⊢;exact wpAny_pyNext_ascii_item st (yb8 hi) fin
  |false =>
   have e:strIterType x="str_iterator":=by unfold strIterType;rw[ha];rfl
   rw[e]at st fin ⊢;exact wpAny_pyNext_wide_item st (yb8 hi) fin
 done:=by
  intro X hP hw hK hc i pins s σ H E I hf st hg;subst hP hw hK;have hi:x.cps.size<=i:=hg;obtain⟨f0,f1,f2,f3,f4,f5⟩:=hf it (by simp)
  have n:x.cps[i]?=none:=Array.getElem?_eq_none hi;cases ha:(x.cps.all λx=>decide (x<128)) with
  |true =>
   have e:strIterType x="str_ascii_iterator":=by unfold strIterType;rw[ha];rfl
   rw[e]at st;exact wpAny_pyNext_ascii_end (I.ok.hd hc) st n λh' eb=>⟨rfl,I.turned (t':=s.toks) (λb o hb e=>eb b o hb e) f0 f1 f3 f4 f5⟩
  |false =>
   have e:strIterType x="str_iterator":=by unfold strIterType;rw[ha];rfl
   rw[e]at st;exact wpAny_pyNext_wide_end (I.ok.hd hc) st n λh' eb=>⟨rfl,I.turned (t':=s.toks) (λb o hb e=>eb b o hb e) f0 f1 f3 f4 f5⟩
 self:=λ_ i s Q E st h=>by
  cases ha:(x.cps.all λx=>decide (x<128)) with
  |true =>
   have e:strIterType x="str_ascii_iterator":=by unfold strIterType;rw[ha];rfl
   rw[e]at st;exact wpAny_pyIter_striter_ascii st h
  |false =>
   have e:strIterType x="str_iterator":=by unfold strIterType;rw[ha];rfl
   rw[e]at st;exact wpAny_pyIter_striter_wide st h
def iStrT(tl:TE):TI:=λσ H P=>tl σ H λx H1=>∃y,x=.str y/\P (ItS y) H1
section
variable {X:Cx}{tg l e:Expr}{tl:TE}{E:L2.St->XK}{ca:Str->Value}{m:PSt->Option Rs}
theorem zK2(hl:PE X l tl):PI X tg l (iStrT tl):=by
 intro pins s σ H R I h;refine thn (hl pins s σ H _ I h) λv s1 ⟨x,H1,I1,r1,q1⟩=>?_
 obtain⟨y,rfl,q⟩:=q1;obtain⟨t,rfl⟩:=(show ∃t,v=Value.str y t from r1);refine wpAny_pyIter_strU ?_;refine⟨s1.heap.objs.size,[s1.heap.objs.size],_,_,H1,rfl,I1.kept (t':=s1.toks) λb o e=>yac _ e,zzq y t _,⟨_,yav _ rfl,rfl,rfl⟩,λb hb=>?_,q⟩
 have e:b=s1.heap.objs.size:=by simpa using hb
 subst e;exact I1.fpOk (yaa _) (I1.hok.fresh (yaa _))
def zCv(x:Str):List T:=x.cps.toList.map λc=>.str ⟨#[c]⟩
theorem zGo{K:PySem.W.Frag}{F:Hp}{x:Str}:Its K (ItS x) F (zCv x):=by
 intro i F' H' s1 s2;refine⟨λt ht=>?_,λe=>?_⟩
 ·unfold zCv at ht;rw[ya3]at ht;obtain⟨c,e1,rfl⟩:=ya2.mp ht;have hi:i<x.cps.size:=by simpa using (ya5.mp e1).1
  refine⟨hi,λy H'' z=>?_⟩
  obtain⟨rfl,c',hc,rfl⟩:=z;rw[ycp,hc]at e1;cases e1;exact⟨F',Ext.refl s2,.str _⟩
 ·show x.cps.size<=i;rw[e];simp[zCv]
def ze9(m:PSt->Option Rs):PSt->Option RsL:=λτ=>match m τ with
 |some (.v (.str x) _)=>some (.v (zCv x) false)
 |_=>zHu m τ
theorem zJp(ha:PE X e (tM X.K E ca m)):PI X tg e (tI X.K E ca (ze9 m)):=by
 refine PI.weak (PI.or (zD3 ha) (zK2 ha)) λσ H P h=>?_
 obtain⟨F,τ,R,S,q⟩:=h
 by_cases hs:∃x b,m τ=some (.v (.str x) b)
 ·obtain⟨x,b,hm⟩:=hs;have e:ze9 m τ=some (.v (zCv x) false):=by unfold ze9;rw[hm]
  rw[e]at q;refine .inr ⟨F,τ,R,S,?_⟩;rw[hm];intro F1 H1 y B e1 g1;exact⟨x,zhy g1,q F1 H1 _ (e1.mono λ_ z=>z.elim) zGo⟩
 ·have e:ze9 m τ=zHu m τ:=by
   unfold ze9;split
   ·rename_i x b hm;exact absurd ⟨x,b,hm⟩ hs
   ·rfl
  rw[e]at q;exact .inl ⟨F,τ,R,S,q⟩
end
end Pu
set_option Elab.async false
set_option linter.all false
set_option maxRecDepth 100000
namespace Pu
open PySem PySem.Spec PyProof.Rows L2 Zw Zx
open Classical in
noncomputable def met(val:Nat->Key):Nat->List Key
 |0=>[]
 |i+1=>if val i∈met val i then met val i else met val i++[val i]
open Classical in
theorem zxf(val:Nat->Key):∀i,(met val i).length<=i
 |0=>yaa 0
 |i+1=>by
  have:=zxf val i;unfold met;split
  ·omega
  ·rw[yab,ybf]
   omega
section
variable {prog:Program}{w:World}{A:Around}{E:Value->Shared->Prop}
open Classical in
theorem zu9{knd:PySem.KeyKind prog w Key}{R:Result->Shared->Prop}{I:Addr}{fp wr:List Addr}{G:Array GenState->Array GenState->Prop}{n:Nat}{P:Nat->Value->Prop}{St:Nat->Shared->Prop}(W:WalksS prog w A.in1 I fp wr G n P St)(S:Addr)(hS:S∉fp)(val:Nat->Key)
  (hP:∀i v,P i v->knd.is (val i) v=true/\v.scannable=true) (hn:n+1<scanBound):∀(k i:Nat) (s:Shared),n - i=k->i<=n->St i s->Heap.SetOf knd s.heap S (λk'=>decide (k'∈met val i)) (met val i).length ->
   (∀s':Shared,Moved (S::wr) G s s'->Heap.SetOf knd s'.heap S (λk'=>decide (k'∈met val n)) (met val n).length->R (Except.ok (Flow.ret Value.none)) s') ->
   codeAny (model prog w) A (Code.builtin "set.update.loop" { pos:=[Value.ref S,Value.ref I] }) R s
 |0,i,s,hk,hi,st,hset,h=>by
  have e:i=n:=by omega
  subst e;refine codeAny_builtin F.entry_set_update_loop ?_;rw[Around.under_plainId ycw];unfold Builtin.«set.update.loop»;refine wpAny_bind (W.done s _ _ st λs' mv=>?_)
  refine wpAny_pure ?_;refine h s' (mv.mono λb hb=>ya6 _ hb) ?_
  obtain⟨o,es,ep,t,h1,h2⟩:=hset;exact⟨o,es,ep,t,mv.heap S o (λz=>hS (W.sub S z)) h1,h2⟩
 |k+1,i,s,hk,hi,st,hset,h=>by
  have hi':i<n:=by omega
  refine codeAny_builtin F.entry_set_update_loop ?_;rw[Around.under_plainId ycw];unfold Builtin.«set.update.loop»;refine wpAny_bind (W.item i s _ _ hi' st λv s' pv st' mv=>?_)
  obtain⟨hk1,hk2⟩:=hP i v pv
  have hset':Heap.SetOf knd s'.heap S (λk'=>decide (k'∈met val i)) (met val i).length:=by
   obtain⟨o,es,ep,t,h1,h2⟩:=hset;exact⟨o,es,ep,t,mv.heap S o (λz=>hS (W.sub S z)) h1,h2⟩
  refine wpAny_bind (wpAny_holding ?_);unfold setAdd;refine wpAny_holding (wpAny_bind (knd.pyHash hk1 ?_));have hl:=zxf val i;refine wpAny_setAddHashed_of (s:={ s' with toks:=s'.toks+1 }) hk1 hk2 hset' (by omega) λh' sb hset2=>?_
  refine wpAny_pure ⟨plainId_quiet ycw _,?_⟩;have st2:=W.frame (i+1) s' h' (s'.toks+1) st' (yce _) λb hb o e=>(sb.2 b (λz=>hS (z▸hb))).trans e
  have mv2:Moved (S::wr) G s { s' with heap:=h',toks:=s'.toks+1 }:=(mv.mono λb hb=>ya6 _ hb).then_heap (yce _) λb o hb e=>(sb.2 b (λz=>hb (by rw[z];exact ya8 ..))).trans e
  refine zu9 W S hS val hP hn k (i+1) _ (by omega) (by omega) st2 ?_ λs'' mv3 hs3=>h s'' (mv2.trans W.gtrans mv3) hs3
  have hS:(λk'=>(decide (k'∈met val i) || decide (k'=val i)))=λk'=>decide (k'∈met val (i+1)):=funext λk'=>by
   conv=>rhs;unfold met
   by_cases hm:val i∈met val i
   ·rw[if_pos hm]
    by_cases e:k'=val i
    ·rw[e,decide_eq_true hm];rfl
    ·rw[decide_eq_false e,ydm]
   ·rw[if_neg hm,yc9];simp only[yc8,decide_eq_true_eq,ybe,ya9]
  have hN:(if decide (val i∈met val i)=true then (met val i).length else (met val i).length+1)=(met val (i+1)).length:=by
   conv=>rhs;unfold met
   by_cases hm:val i∈met val i
   ·rw[if_pos hm,if_pos (decide_eq_true hm)]
   ·rw[if_neg hm,if_neg (λz=>hm (of_decide_eq_true z)),yab,ybf]
  obtain⟨o,es,ep,t,h1,h2,h3,h4,h5,h6,h7,h8⟩:=hset2;refine⟨o,es,ep,t,h1,h2,h3,h4,λk'=>?_,h6,h7,h8.trans hN⟩
  rw[<- h5 k'];have e:=congrFun hS k';show decide (k'∈met val (i+1))=true ↔ _;rw[<- e]
end
open Classical in
theorem zpi{prog:Program}{w:World}{A:Around}{E:Value->Shared->Prop}{s:Shared}{l:Addr}{items:Array Value}{knd:PySem.KeyKind prog w Key}{val:Nat->Key}{Q:Value->Shared->Prop}(hh:A.handled=none)(hl:s.heap.IsList l items)
  (hP:∀(i:Nat) (v:Value),items[i]?=some v->knd.is (val i) v=true/\v.scannable=true) (hb:items.size+1<scanBound)
  (h:∀(h':Heap) (tk:Nat),Heap.SetOf knd h' s.heap.objs.size (λk'=>decide (k'∈met val items.size)) (met val items.size).length->(∀(b:Nat) (o:Obj),b<s.heap.objs.size->s.heap.get? b=some o->h'.get? b=some o)->Q (.ref s.heap.objs.size) { s with heap:=h',toks:=tk }) :
  wpAny (model prog w) A (call (Value.type "set") [Value.ref l]) Q E s:=by
 obtain⟨c,tl,hmro⟩:=yct.mro;have hmade:=yct.made;have hsub:=yct.sub;refine wpAny_call (codeAny_of_tree ?_);refine wpAny_pure ⟨Code.quiet_builtin _ (by decide +kernel),codeAny_builtin F.entry_type_call ?_⟩
 have hu:=Around.under_plain (A:=A) (weight_type_call_type "set" [Value.ref l] []) rfl;have h1:=yct.notType;have h2:=yct.canCreate;have hct:=F.typeCall_set_1 (Value.ref l);show wpAny (model prog w) (A.under (Code.builtin "type.__call__" { pos:=[Value.type "set",Value.ref l] })) _ _ _ s;rw[hu];unfold Builtin.«type.__call__»;refine wpAny_ite_false (by rw[h1];rfl) (wpAny_ite_false (by rw[h2];rfl) ?_)
 refine wpAny_bind (wpAny_of_eq hct (wpAny_bind (wpAny_of_eq hmro (wpAny_ite_false rfl (wpAny_bind (wpAny_of_eq hmade (wpAny_bind (wpAny_pure (wpAny_bind (wpAny_holding (wpAny_call (codeAny_mono (code_set_new_1 (E:=λ_ _=>False) (Value.ref l) (Q₁:=λv s'=>∃led:Bool,v=.ref s.heap.objs.size/\s'={ s with heap:=s.heap.push { cls:=.type "set",data:=.set #[] 0 (SetTable.fresh 0 0 led) } }) λled=>⟨led,rfl,rfl⟩) λr s₁ hr=>?_))))))))))))
 cases r with
 |error e=>exact False.elim hr
 |ok fl =>
  cases fl with
  |next=>exact False.elim hr
  |brk=>exact False.elim hr
  |cont=>exact False.elim hr
  |ret v =>
   obtain⟨led,rfl,rfl⟩:=(show ∃led:Bool,v=.ref s.heap.objs.size/\s₁={ s with heap:=s.heap.push { cls:=.type "set",data:=.set #[] 0 (SetTable.fresh 0 0 led) } } from hr)
   have ho:(s.heap.push { cls:=.type "set",data:=.set #[] 0 (SetTable.fresh 0 0 led) }).get? s.heap.objs.size=some { cls:=.type "set",data:=.set #[] 0 (SetTable.fresh 0 0 led) }:=yav _ rfl;have hT:Shared.TypeIs { s with heap:=s.heap.push { cls:=.type "set",data:=.set #[] 0 (SetTable.fresh 0 0 led) } } (.ref s.heap.objs.size) "set":=⟨_,ho,rfl⟩
   have hin:=yct.init;refine wpAny_bind (wpAny_isInstance hT hsub (wpAny_ite_false rfl (wpAny_bind (wpAny_holding ?_))));unfold callSpecial?;refine wpAny_bind (wpAny_specialOf hT hin.lookup (wpAny_holding (wpAny_bind (wpAny_of_eq (hin.bind _) (wpAny_bind (wpAny_call (codeAny_mono (R:=wants (λv s'=>v=.none/\∃tk h',s'={ s with heap:=h',toks:=tk }/\Heap.SetOf knd h' s.heap.objs.size (λk'=>decide (k'∈met val items.size)) (met val items.size).length/\∀(b:Nat) (o:Obj),b<s.heap.objs.size->s.heap.get? b=some o->h'.get? b=some o) λ_ _=>False) (codeAny_call_builtin hin.plain F.entry_set_init (check_set_init_1 hT ?_)) λr s₂ hr₂=>?_)))))))
   ·unfold Builtin.«set.__init__» noKeywords;refine wpAny_bind (wpAny_ite_true rfl (wpAny_pure ?_));unfold typeNameOfCut shownTypeOf;refine wpAny_bind (wpAny_bind (wpAny_bind (wpAny_typeOf hT (wpAny_ite_false (by decide +kernel) (wpAny_pure ?_)))))
    refine wpAny_of_eq (rfl:typeNameCut 200 (Value.type "set")=pure _) ?_;refine wpAny_bind (wpAny_of_eq (rfl:checkCount _ 0 1 1=pure ()) ?_);refine wpAny_bind (wpAny_pure ?_);unfold setUsed setState;refine wpAny_bind (wpAny_bind (wpAny_bind (wpAny_load ho (wpAny_ite_false rfl (wpAny_pure (wpAny_pure (wpAny_ite_false rfl ?_)))))));obtain⟨ol,hol,hcl,nl,hdl⟩:=id hl;have hol2:(s.heap.push { cls:=.type "set",data:=.set #[] 0 (SetTable.fresh 0 0 led) }).get? l=some ol:=yac _ hol;have hTl:Shared.TypeIs { s with heap:=s.heap.push { cls:=.type "set",data:=.set #[] 0 (SetTable.fresh 0 0 led) } } (.ref l) "list":=⟨_,hol2,hcl⟩
    unfold Builtin.Frozenset.updateFrom Builtin.Frozenset.isAnySet;refine wpAny_bind (wpAny_bind (wpAny_bind (wpAny_isInstance hTl F.sub_list_set ?_)));have hl2:(s.heap.push { cls:=.type "set",data:=.set #[] 0 (SetTable.fresh 0 0 led) }).IsList l items:=⟨ol,hol2,hcl,nl,hdl⟩;refine wpAny_isInstance hTl F.sub_list_frozenset (wpAny_ite_false rfl (wpAny_bind (wpAny_typeOf hTl (wpAny_ite_false (by decide +kernel) (wpAny_bind (wpAny_pyIter_list hl2 ?_))))))
    have lt:l<s.heap.objs.size:=yad hol;have hsz:(s.heap.push { cls:=.type "set",data:=.set #[] 0 (SetTable.fresh 0 0 led) }).objs.size=s.heap.objs.size+1:=yc2 _ _;generalize hhp:s.heap.push { cls:=.type "set",data:=.set #[] 0 (SetTable.fresh 0 0 led) }=hp at *
    have hS:s.heap.objs.size∉[hp.objs.size,l]:=by
     rw[hsz];intro z
     rcases yaj.mp z with e|e
     ·exact absurd e (yar (ycq _))
     ·exact absurd (ya9.mp e) (Nat.ne_of_gt lt)
    refine wpAny_bind (wpAny_runValue ?_);refine zu9 (knd:=knd) (A:=A.in1.in1) (Walks.list (A:=A.in1.in1.in1) hh hp.objs.size l (by rw[hsz];exact yar (ycc lt)) items).toS s.heap.objs.size hS val (λi v e=>hP i v e) hb items.size 0 _ (by omega) (yb2 _) ⟨?_,?_⟩ ?_ λs' mv hs'=>?_
    ·exact⟨_,yav _ rfl,rfl,rfl⟩
    ·exact⟨ol,yac _ hol2,hcl,nl,hdl⟩
    ·letI:BEq Key:=⟨λa b=>decide (a=b)⟩
     haveI:LawfulBEq Key:={ eq_of_beq:=λh=>of_decide_eq_true h,rfl:=decide_eq_true rfl }
     have e0:=(setObjOf_fresh (prog:=prog) (w:=w) (knd:=knd) led).setOf (h:=hp.push { cls:=.type "list_iterator",data:=.fields #[.ref l,.int 0 0] }) (a:=s.heap.objs.size) (yac _ ho) (by decide)
     obtain⟨o,es,ep,t,g1,g2,g3,g4,g5,g6,g7,g8⟩:=e0;refine⟨o,es,ep,t,g1,g2,g3,g4,λk'=>?_,g6,g7,g8⟩
     rw[<- g5 k'];simp[met]
    ·refine wpAny_pure (wpAny_pure ?_)
     have b2:∀(b:Nat) (o:Obj),b<s.heap.objs.size->s.heap.get? b=some o->s'.heap.get? b=some o:=λb o hb e=>by
      refine mv.heap b o (λz=>?_) (yac _ (by rw[<- hhp];exact yac _ e))
      rcases yaj.mp z with e|e
      ·exact absurd e (yar hb)
      ·have e:=ya9.mp e;rw[hsz]at e;exact absurd e (yar (ycc hb))
     have m1:=mv.gens;have m2:=mv.drawn;have m3:=mv.os;obtain⟨hh',g',d',t',os'⟩:=s';refine⟨rfl,t',hh',?_,hs',b2⟩;simp only at m1 m2 m3;rw[m1,m2,m3]
   ·cases r with
    |error e=>exact False.elim hr₂
    |ok fl =>
     cases fl with
     |next=>exact False.elim hr₂
     |brk=>exact False.elim hr₂
     |cont=>exact False.elim hr₂
     |ret v =>
      obtain⟨rfl,tk,h',rfl,hs,hk⟩:=(show v=.none/\∃tk h',s₂={ s with heap:=h',toks:=tk }/\Heap.SetOf knd h' s.heap.objs.size (λk'=>decide (k'∈met val items.size)) (met val items.size).length/\∀(b:Nat) (o:Obj),b<s.heap.objs.size->s.heap.get? b=some o->h'.get? b=some o from hr₂)
      refine wpAny_pure (wpAny_ite_false rfl (wpAny_pure ?_));exact h h' tk hs hk
noncomputable def SetK(P:Program)(w:World)(a:Addr)(ks:List Key):HO:=.ext λh=>Heap.SetOf (zbk P w) h a (λk=>@decide (k∈ks) (Classical.propDecidable _)) ks.length
section
variable {X:Cx}
theorem zyx(hc:X.calm=true):zd3 X (.type "set") (λxs H Q=>∃(p:Addr) (ys:List Str),xs=[.ref p]/\SqL X.K H p (ys.map V.str)/\ys.length<1000/\∀a,H a=none->Q (.ref a) (upd H a (SetK X.prog X.w a (met (λi=>Sum.inr (ys.getD i Str.empty)) ys.length)))):=by
 intro pins s σ H xs us Q I r h;obtain⟨p,ys,rfl,hq,hz,q⟩:=h;obtain⟨u,rfl,rx⟩:=zku r;cases rx;obtain⟨its,r',pl,_⟩:=I.list hq;have hlen:=r'.length;rw[ya1]at hlen;have hsz:its.toArray.size=ys.length:=by rw[yai];exact hlen.symm
 refine zpi (knd:=zbk X.prog X.w) (val:=λi=>Sum.inr (ys.getD i Str.empty)) (I.ok.hd hc) pl.isList (λi v e=>?_) (by rw[hsz];exact yak (Nat.succ_lt_succ hz) (by decide)) λh' tk hs kp=>?_
 ·have e':its[i]?=some v:=by simpa using e
  have hi:i<ys.length:=by rw[hlen];exact(ya5.mp e').1
  have hx:(ys.map V.str)[i]?=some (.str ys[i]):=by rw[ya3,ya0 hi];rfl
  obtain⟨u,e2,ru⟩:=r'.get hx;rw[e']at e2;cases e2;obtain⟨t,rfl⟩:=(show ∃t,v=Value.str ys[i] t from ru);refine⟨?_,rfl⟩;show zop (Sum.inr (ys.getD i Str.empty)) (Value.str ys[i] t)=true;rw[ya7,ya0 hi];show(ys[i] == ys[i])=true;exact beq_self_eq_true _
 ·rw[hsz]at hs;refine⟨.ref s.heap.objs.size,_,I.laid (a:=s.heap.objs.size) (o:=SetK X.prog X.w s.heap.objs.size (met (λi=>Sum.inr (ys.getD i Str.empty)) ys.length)) (t':=tk) (λb o e=>kp b o (yad e) e) (yaa _) ⟨?_,?_,?_⟩,rfl,q _ (I.hok.fresh (yaa _))⟩
  ·exact hs
  ·obtain⟨o,es,ep,t,g1,_⟩:=hs;exact⟨o,g1⟩
  ·intro h1 h2 p1 k;obtain⟨o,es,ep,t,g1,g2⟩:=p1;exact⟨o,es,ep,t,k o g1,g2⟩
theorem zyz:zd3 X (.builtin "len") (λxs H Q=>∃a ks,xs=[.ref a]/\H a=some (SetK X.prog X.w a ks)/\Q (.int ks.length) H):=by
 intro pins s σ H xs us Q I r h;obtain⟨a,ks,rfl,ha,q⟩:=h;obtain⟨u,rfl,rx⟩:=zku r;cases rx;obtain⟨⟨o,es,ep,t,g1,g2,g3,g4,g5,g6,g7,g8⟩,_⟩:=(show _/\_ from I.hok a _ ha)
 have hb:((es.size:Nat):Int)<2 ^ 63:=by
  have:scanBound<=2 ^ 40:=by decide
  have g6':es.size<scanBound:=g6
  omega
 refine call_len_set g1 g2 g3 g7 hb ⟨.int (es.size:Int),H,I.tok _,⟨_,rfl⟩,?_⟩;rw[show es.size=ks.length from g8];exact q
end
def zhf:List T->Option (List Str)
 |[]=>some []
 |.str x::r=>(match zhf r with
  |some l=>some (x::l)
  |none=>none)
 |_::_=>none
theorem zn7{K:PySem.W.Frag}{F:Hp}:∀{l:List T} {ys:List Str} {xs:List V},zhf l=some ys->Rps K F l xs->xs=ys.map V.str
 |[],ys,xs,h,r=>by
  cases h;exact r.inv0
 |t::l,ys,xs,h,r=>by
  obtain⟨x,xs',rfl,r1,r2⟩:=r.inv;unfold zhf at h;split at h
  ·rename_i e;cases e
  ·rename_i y r e;cases e;split at h
   ·rename_i l' hl;cases h;rw[r1.str_inv,zn7 hl r2]
    rfl
   ·cases h
  ·cases h
noncomputable def unqN(ys:List Str):Nat:=(met (λi=>Sum.inr (ys.getD i Str.empty)) ys.length).length
noncomputable def zHn:T->Option T
 |.nd _ .lst l=>(match zhf l with
  |some ys=>if ys.length<1000 then some (.int (unqN ys)) else none
  |none=>none)
 |_=>none
section
variable {X:Cx}{E:L2.St->XK}{ca:Str->Value}{m:PSt->Option Rs}{e:Expr}{pos p p2 p3:Pos}
theorem r_unq(hc:X.calm=true)(hg:Gl X "len")(hm:X.mg "len"=none)(hg2:Gl X "set")(hm2:X.mg "set"=none)(ha:PE X e (tM X.K E ca m))(he:starEach [e] X.env=[(false,eval e X.env)]) :
  PE X (.Call (.Name "len" p) [.Call (.Name "set" p2) [e] [] p3] [] pos) (tM X.K E ca (mAp (g1 zHn) (za4 m zac))):=by
 have hset:=zqf (pos:=p3) (p:=p2) (zyx hc) hg2 hm2 (show bootBuiltins "set"=some (.type "set") from rfl) (zc5 ha zfw he) (by decide) (by decide) he rfl
 refine PE.weak (zid (zyz (X:=X)) hg hm PySem.boot_len (zc5 hset zfw rfl) (by decide) (by decide) rfl rfl) λσ H Q h=>?_
 refine(zeb (zpz h)).mono λx H1 h1=>?_
 obtain⟨F,ts,v,fh,rs,e,q⟩:=zg8 h1;unfold g1 at e;split at e
 ·obtain⟨x1,xs1,e1,r1,rs1⟩:=rs.inv;cases e1;unfold zHn at e;split at e
  ·split at e
   ·rename_i o l ys hy;split at e
    ·rename_i hz;cases e;obtain⟨pp,zs,rfl,_,n,kd⟩:=zci r1;have hF:F pp=some (.lst zs):=n;refine⟨pp,ys,rfl,SqL.of (by rw[<- zn7 hy kd];exact fh _ _ hF),hz,λa ha=>⟨a,_,rfl,zar,?_⟩⟩
     exact q F _ _ R0 ((Ext.newO fh ha).mono λ_ z=>z.elim) (Rp.int _)
    ·cases e
   ·cases e
  ·cases e
 ·cases e
end
end Pu
set_option Elab.async false
set_option linter.all false
set_option maxRecDepth 100000
namespace Pu
open PySem PySem.Spec PyProof.Rows L2 Zw Zx
noncomputable def leT:T->T->Option T
 |.int i,.int j=>some (.bl (decide (i<=j)))
 |.str x,.str y=>some (.bl (!(@decide (y.cps.toList<x.cps.toList) (Classical.propDecidable _))))
 |_,_=>none
section
variable {X:Cx}{E:L2.St->XK}{ca:Str->Value}{m mk:PSt->Option Rs}{o k:Expr}{pos apos cpos:Pos}
theorem zFs:OpR X (compareOp .LtE) (rT2 X.K leT):=by
 intro pins s σ H x y v u Q I rx ry h;obtain⟨F,t1,t2,r,fh,r1,r2,e,q⟩:=h;unfold leT at e;split at e
 ·cases e;rw[r1.int_inv]at rx;rw[r2.int_inv]at ry;exact zKi pins s σ H _ _ v u Q I rx ry ⟨_,_,rfl,rfl,q.bl fh⟩
 ·rename_i a b;cases e;rw[r1.str_inv]at rx;rw[r2.str_inv]at ry;obtain⟨t,rfl⟩:=(show ∃t,v=Value.str a t from rx);obtain⟨t',rfl⟩:=(show ∃t,u=Value.str b t from ry);refine PySem.P.le_str ⟨.bl _,H,I,rfl,?_⟩;have q1:=q.bl fh;rw[show(!decide (b.cps.toList<a.cps.toList))=!(@decide (b.cps.toList<a.cps.toList) (Classical.propDecidable _)) from congrArg _ (by rw[yc9,decide_eq_true_eq,@decide_eq_true_eq _ (Classical.propDecidable _)])]
  exact q1
 ·cases e
end
noncomputable def zDq(ys:List Str)(y:Str):Option Nat:=ys.findIdx? λx=>@decide (x=y) (Classical.propDecidable _)
section
variable {X:Cx}{E:L2.St->XK}{ca:Str->Value}{m mk:PSt->Option Rs}{o k:Expr}{pos apos cpos:Pos}
end
def zMl:T->Option T
 |.nd _ .lst l=>some (.tup l)
 |_=>none
theorem zz1{X:Cx}:zd3 X (.type "tuple") (rTn X.K (g1 zMl)):=by
 intro pins s σ H xs us Q I r h;obtain⟨F,ts,v,fh,rs,e,q⟩:=h;unfold g1 at e;split at e
 ·obtain⟨x1,xs1,rfl,r1,rs1⟩:=rs.inv;cases rs1.inv0;unfold zMl at e;split at e
  ·cases e;obtain⟨p,ys,rfl,rfl,n1,k1⟩:=zci r1;have hF:F p=some (.lst ys):=n1;exact zph pins s σ H _ us Q I r ⟨p,ys,rfl,.inl ⟨SqL.of (fh _ _ hF),λl hl=>q.tuple fh k1 hl⟩⟩
  ·cases e
 ·cases e
end Pu
set_option Elab.async false
set_option linter.all false
set_option maxRecDepth 100000
namespace Pu
open PySem PySem.Spec PyProof.Rows L2 Zw Zx
def zHp(i:Nat)(cs:List (Str×Addr))(u h:PSt->Option Out):PSt->Option Out:=λτ=>match u τ with
 |some (.xc c τ')=>(match cs.lookup c with
  |some C=>if i<τ'.length then (match h (τ'.set i (some (.obj (.exn C) []))) with
   |some (.nx τ2)=>some (.nx (τ2.set i none))
   |some (.rt t)=>some (.rt t)
   |_=>none) else none
  |none=>none)
 |r=>r
section
variable {X:Cx}{E:L2.St->XK}{ca:Str->Value}{mu:Bool}{i:Nat}{x n:Str}{np pos hpos:Pos}{body suite:List Stmt}{b₀:Stmt}{u h:PSt->Option Out}{cs:List (Str×Addr)}
theorem StR.put{K:PySem.W.Frag}{F H:Hp}{σ:L2.St}{τ:PSt}{R:Nat->Rg}{i:Nat}{t:T}{v:V}(S:StR K F H σ τ R)(hi:i<τ.length)(r:Rp K F H t v R0):StR K F H (σ.set i (some v)) (τ.set i (some t)) (λj=>if j=i then R0 else R j):=by
 refine⟨S.fh,by simpa using S.len,λj t' e=>?_,λj a z=>?_,λj k a hjk z1 z2=>?_⟩
 ·by_cases hj:j=i
  ·subst hj;rw[yal hi]at e;cases e;exact⟨v,yal (by rw[S.len];exact hi),by simpa using r⟩
  ·rw[yah (yay hj)]at e;obtain⟨y,e1,r1⟩:=S.rep j t' e;exact⟨y,by rw[yah (yay hj)];exact e1,by simpa[hj] using r1⟩
 ·by_cases hj:j=i
  ·simp only[hj,if_true]at z;exact z.elim
  ·simp only[hj,if_false]at z;obtain⟨t',e⟩:=S.out j a z;exact⟨t',by rw[yah (yay hj)];exact e⟩
 ·by_cases hj:j=i
  ·simp only[hj,if_true]at z1;exact z1.elim
  ·by_cases hk:k=i
   ·simp only[hk,if_true]at z2;exact z2.elim
   ·simp only[hj,if_false]at z1;simp only[hk,if_false]at z2;exact S.dis j k a hjk z1 z2
theorem StR.gone{K:PySem.W.Frag}{F H:Hp}{σ:L2.St}{τ:PSt}{R:Nat->Rg}{i:Nat}(S:StR K F H σ τ R):StR K F H (σ.set i none) (τ.set i none) (λj=>if j=i then R0 else R j):=by
 refine⟨S.fh,by simpa using S.len,λj t' e=>?_,λj a z=>?_,λj k a hjk z1 z2=>?_⟩
 ·by_cases hj:j=i
  ·subst hj;rw[List.getElem?_set]at e;simp only[if_true]at e;split at e<;>cases e
  ·rw[yah (yay hj)]at e;obtain⟨y,e1,r1⟩:=S.rep j t' e;exact⟨y,by rw[yah (yay hj)];exact e1,by simpa[hj] using r1⟩
 ·by_cases hj:j=i
  ·simp only[hj,if_true]at z;exact z.elim
  ·simp only[hj,if_false]at z;obtain⟨t',e⟩:=S.out j a z;exact⟨t',by rw[yah (yay hj)];exact e⟩
 ·by_cases hj:j=i
  ·simp only[hj,if_true]at z1;exact z1.elim
  ·by_cases hk:k=i
   ·simp only[hk,if_true]at z2;exact z2.elim
   ·simp only[hj,if_false]at z1;simp only[hk,if_false]at z2;exact S.dis j k a hjk z1 z2
theorem ztp{R:Nat->Rg}{i:Nat}{a:Addr}(h:tot (λj=>if j=i then R0 else R j) a):tot R a:=by
 obtain⟨j,z⟩:=h
 by_cases hj:j=i
 ·simp only[hj,if_true]at z;exact z.elim
 ·simp only[hj,if_false]at z;exact⟨j,z⟩
theorem s_try(T:ECls X.K X.mg x)(hcs:∀c C,cs.lookup c=some C->ca c=.ref C/\PySem.W.subIn X.K (.ref C) (.ref T.C)=some true)(hst:X.stack=X.env::X.outer)(hf:X.env.frame=some X.env.locals)(hN:X.N.Nodup)(hi:X.N[i]?=some n)(hloc:X.env.scope.names.lookup n=some .local)
  (hb:∀(E':L2.St->XK) pins xe,zbh (zp8 X pins xe) E'->PSs (zp8 X pins xe) body (tS X.K E' ca mu u)) (hh:∀a,PSs (zft X a) (b₀::suite) (tS X.K E00 ca mu h)) (hg:Gl X x) (hdb:(x == ("__debug__":Str))=false) :
  PS X (.Try body [.ExceptHandler (some (.Name x np)) (some n) (b₀::suite) hpos] [] [] pos) (tS X.K E ca mu (zHp i cs u h)):=by
 intro pins s σ H D I hq;obtain⟨F,τ,R,S,q⟩:=hq;let E':L2.St->XK:=λσ1 cls _ H1=>∃c τ' F' R',u τ=some (.xc c τ')/\cls=ca c/\Stp F H (tot R) F' H1 (tot R')/\StR X.K F' H1 σ1 τ' R'
 refine zJx (E:=E') (tb:=tS X.K E' ca mu u) (th:=tS X.K E00 ca mu h) T hst hf hN hi hloc (λpins xe hp=>hb E' pins xe hp) hh hg hdb pins s σ H D I ⟨⟨F,τ,R,S,?_⟩,?_⟩
 ·unfold zHp at q;cases hu:u τ with
  |none=>rw[hu]at q;exact q
  |some o =>
   cases o with
   |nx τ'=>rw[hu]at q;exact q
   |rt t=>rw[hu]at q;exact q
   |bk τ'=>rw[hu]at q;exact q
   |ct τ'=>rw[hu]at q;exact q
   |xc c τ'=>exact λF' H' σ' R' st S'=>⟨c,τ',F',R',hu,rfl,st,S'⟩
 ·intro σ1 cls H1 ⟨c,τ',F',R',hu,hcl,st,S'⟩;unfold zHp at q;simp only[hu]at q;cases hl:cs.lookup c with
  |none=>simp only[hl]at q
  |some C =>
   simp only[hl]at q;obtain⟨h1,h2⟩:=hcs c C hl
   by_cases hlen:i<τ'.length
   case neg =>
    rw[if_neg hlen]at q;exact q.elim
   rw[if_pos hlen]at q;refine⟨C,hcl.trans h1,h2,λa ha=>?_⟩
   have fa:F' a=none:=zbd S'.fh ha;have e1:Ext F' H1 (upd F' a (zzf a C)) (upd H1 a (zzf a C)) R0:=Ext.new S'.fh ha;have S2:=S'.ext e1;have rx:Rp X.K (upd F' a (zzf a C)) (upd H1 a (zzf a C)) (.obj (.exn C) []) (.ref a) R0:=.obj (k:=.exn C) (xs:=[]) zar rfl λi t x h=>by simp at h
   have S3:=S2.put hlen rx;have st2:Stp F H (tot R) (upd F' a (zzf a C)) (upd H1 a (zzf a C)) (tot λj=>if j=i then R0 else R' j):=(st.trans e1.stp0).mono λb z=>ztp z
   refine⟨_,_,_,S3,?_⟩;cases hh:h (τ'.set i (some (.obj (.exn C) []))) with
   |none=>simp only[hh]at q
   |some o =>
    simp only[hh]at q;cases o with
    |nx τ2 =>
     intro F4 H4 σ4 R4 st4 S4;exact q F4 H4 (σ4.set i none) _ ((st2.trans st4).mono λb z=>ztp z) S4.gone
    |rt t=>exact λF4 H4 x B st4 r4=>q F4 H4 x B (st2.trans st4) r4
    |bk _=>exact q.elim
    |ct _=>exact q.elim
    |xc _ _=>exact q.elim
end
def zHs(tb:List (Addr×Bool)):T->Option T
 |.obj (.exn C) _=>(match tb.lookup C with
  |some b=>some (.bl b)
  |none=>none)
 |_=>none
section
variable {X:Cx}{E:L2.St->XK}{ca:Str->Value}{m:PSt->Option Rs}{e:Expr}{pos p p2:Pos}{c:Str}{v:V}{tb:List (Addr×Bool)}
theorem zJo(hg:Gl X "isinstance")(hm:X.mg "isinstance"=none)(hv:PE X (.Name c p2) (tC v))(hvv:∃D,v=.ref D\/∃T,v=.ty T)(htb:∀C b,tb.lookup C=some b->ExcK X.K C/\PySem.W.kitOne X.K (.ref C) (clsV v)=some b)(ha:PE X e (tM X.K E ca m))(he:starEach [e,.Name c p2] X.env=(false,eval e X.env)::starEach [.Name c p2] X.env) :
  PE X (.Call (.Name "isinstance" p) [e,.Name c p2] [] pos) (tM X.K E ca (mAp (g1 (zHs tb)) (za4 m zac))):=by
 refine PE.weak (zid (zC8 (X:=X)) hg hm yco (zc5 ha (zc5 hv zfw) he) (by decide) (by decide) he rfl) λσ H Q h=>?_
 refine(zeb (zpz h)).mono λx H1 h1=>?_
 obtain⟨F,ts,w,fh,rs,e,q⟩:=zg8 h1;unfold g1 at e;split at e
 ·obtain⟨x1,xs1,e1,r1,rs1⟩:=rs.inv;cases e1;unfold zHs at e;split at e
  ·rename_i C l;split at e
   ·rename_i b hb;cases e;obtain⟨k1,k2⟩:=htb C b hb;obtain⟨a,xs,rfl,_,hF,_,_⟩:=r1.obj_inv;have hF':F a=some (zzf a C):=hF;exact⟨a,C,v,b,rfl,fh _ _ hF',k1,hvv,k2,q.bl fh⟩
   ·cases e
  ·cases e
 ·cases e
end
end Pu
set_option Elab.async false
set_option linter.all false
set_option maxRecDepth 100000
namespace Pu
open PySem PySem.Spec PyProof.Rows L2 Zw Zx
section
variable {X:Cx}{E:L2.St->XK}{ca:Str->Value}{mu:Bool}{i j:Nat}{tg it c:Expr}{ret:List Stmt}{mc:PSt->Option Rs}{k:T}{ip pos:Pos}
end
end Pu
set_option Elab.async false
set_option linter.all false
set_option maxRecDepth 100000
namespace Pu
open PySem PySem.Spec PyProof.Rows L2 Zw Zx
def zl6:List T->Bool
 |[]=>true
 |t::r=>(match zu5 (some t) with
  |some l=>decide (l.length<1000000)
  |none=>false) && zl6 r
theorem zn8:∀{l:List T},zl6 l=true->∀{i:Nat} {t:T},l[i]?=some t->∃r,t=.nd true .lst r/\r.length<1000000
 |[],_,i,t,e=>by simp at e
 |a::r,h,i,t,e=>by
  rw[zl6,ya4]at h;cases i with
  |zero =>
   simp at e;subst e;have h1:=h.1;unfold zu5 at h1;split at h1
   ·rename_i l hl;split at hl
    ·rename_i e2;cases hl;exact⟨l,yas e2,of_decide_eq_true h1⟩
    ·cases hl
   ·cases h1
  |succ i=>exact zn8 h.2 (by simpa using e)
def zwm(i j:Nat):PSt->Option Out:=λτ=>match zj6 τ i with
 |some (kd,l)=>if zl6 l=true/\i≠j/\j<τ.length then some (.nx ((τ.set i none).set j none)) else none
 |none=>none
section
variable {X:Cx}{E:L2.St->XK}{ca:Str->Value}{mu:Bool}{i j:Nat}{tg it e:Expr}{m:PSt->Option Rs}{t:T}{p1 apos cpos pos bpos:Pos}{x:Str}
theorem zIw{K:PySem.W.Frag}{F H:Hp}{σ:L2.St}{τ:PSt}{R:Nat->Rg}{a:Addr}{o:HO}(S:StR K F H σ τ R)(fa:F a=none)(ra:¬ tot R a):StR K F (upd H a o) σ τ R:=by
 have fh:zbl F (upd H a o):=λb u z=>by
  rw[zag (λw=>by rw[w,fa]at z;cases z)]
  exact S.fh b u z
 refine⟨fh,S.len,λk t' z=>?_,S.out,S.dis⟩
 obtain⟨y,e1,r1⟩:=S.rep k t' z;exact⟨y,e1,r1.upd λw=>ra ⟨k,w⟩⟩
theorem zIv{K:PySem.W.Frag}{F H:Hp}{σ:L2.St}{τ:PSt}{R:Nat->Rg}{i:Nat}(S:StR K F H σ τ R):StR K F H σ (τ.set i none) (λk=>if k=i then R0 else R k):=by
 refine⟨S.fh,by simpa using S.len,λk t' z=>?_,λk a z=>?_,λk l a hkl z1 z2=>?_⟩
 ·by_cases hk:k=i
  ·subst hk;rw[List.getElem?_set]at z;simp only[if_true]at z;split at z<;>cases z
  ·rw[yah (yay hk)]at z;obtain⟨y,e1,r1⟩:=S.rep k t' z;exact⟨y,e1,by simpa[hk] using r1⟩
 ·by_cases hk:k=i
  ·simp only[hk,if_true]at z;exact z.elim
  ·simp only[hk,if_false]at z;obtain⟨t',w⟩:=S.out k a z;exact⟨t',by rw[yah (yay hk)];exact w⟩
 ·by_cases hk:k=i
  ·simp only[hk,if_true]at z1;exact z1.elim
  ·by_cases hl:l=i
   ·simp only[hl,if_true]at z2;exact z2.elim
   ·simp only[hk,if_false]at z1;simp only[hl,if_false]at z2;exact S.dis k l a hkl z1 z2
theorem stSig{K:PySem.W.Frag}{F H:Hp}{σ:L2.St}{τ:PSt}{R:Nat->Rg}{j:Nat}{v:Option V}(S:StR K F H σ τ R)(hj:∀t,τ[j]?≠some (some t)):StR K F H (σ.set j v) τ R:=by
 refine⟨S.fh,by simpa using S.len,λk t' z=>?_,S.out,S.dis⟩
 obtain⟨y,e1,r1⟩:=S.rep k t' z;refine⟨y,?_,r1⟩
 by_cases hk:k=j
 ·subst hk;exact absurd z (hj t')
 ·rw[yah (yay hk)];exact e1
theorem zJ4(hp:PassesOwn (model X.prog X.w) X.A X.env X.xe)(hc:X.calm=true)(hy:PE X it (tVar i))(hg:PG X tg (zvj j))(hN:X.N[j]?=some x)(hv:Vis X.env.scope x)(hd:(x == ("__debug__":Str))=false)(hcd:(x == ("__classdict__":Str))=false)
  (he:PE X e (tM X.K E ca m)) (hm:∀τ,m τ=some (.v t false)) (hs:starEach [e] X.env=[(false,eval e X.env)]) (hline:(apos.endLine == cpos.line)=true) (hfs:∀x,foldedSetIterable it X.env x=pure x) :
  PS X (.For tg it [.Expr (.Call (.Attribute (.Name x p1) "append" apos) [e] [] cpos) bpos] [] pos) (tS X.K E ca mu (zwm i j)):=by
 refine PS.weak (zD7 hp hc (zwz hy) hg (zwt (zl8 (zx2 ycj PySem.F.slot_list_append PySem.F.type_list_append zqj (zic hN hv hd hcd) (zc5 he zfw hs) rfl (by rw[hs];rfl) hline hs rfl) rfl)) hfs) λD σ H h=>?_
 obtain⟨F,τ,R,S,q⟩:=h;unfold zwm at q;cases ho:zj6 τ i with
 |none=>rw[ho]at q;exact q.elim
 |some kl =>
  obtain⟨kd,l⟩:=kl;rw[ho]at q;simp only at q
  by_cases hl:zl6 l=true/\i≠j/\j<τ.length
  case neg=>rw[if_neg hl]at q;exact q.elim
  rw[if_pos hl]at q;obtain⟨hro,hij,hjl⟩:=hl;have hi:=zey ho;obtain⟨v,ev,r⟩:=S.rep i _ hi;obtain⟨p,xs,Rr,rfl,hA,fp,hH,ro,dp,_⟩:=r.own_inv;have inR:∀a,(a=p\/∃k,Rr k a)->R i a:=λa z=>by rw[hA];exact z
  refine⟨.ref p,ev,p,rfl,⟨xs,SqL.of hH⟩,?_⟩;have S0:=zIv (i:=j) (zIv (i:=i) S)
  have t0:∀a,tot (λk=>if k=j then R0 else if k=i then R0 else R k) a->∃k,k≠i/\R k a:=λa ⟨k,z⟩=>by
   by_cases hk:k=j
   ·simp only[hk,if_true]at z;exact z.elim
   ·by_cases hk2:k=i
    ·simp only[hk,if_false,hk2,if_true]at z
     by_cases hij2:i=j
     ·exact absurd hij2 hij
     ·simp only[hij2,if_false]at z;exact z.elim
    ·simp only[hk,hk2,if_false]at z;exact⟨k,hk2,z⟩
  have no0:∀a,R i a->¬ tot (λk=>if k=j then R0 else if k=i then R0 else R k) a:=λa z w=>by
   obtain⟨k,hk,w⟩:=t0 a w;exact S.dis k i a hk w z
  have hlen:((τ.set i none).set j none).length=τ.length:=by simp
  have hjn:∀t,((τ.set i none).set j none)[j]?≠some (some t):=λt z=>by
   rw[yal (by simpa using hjl)]at z
   cases z
  have rows:∀(k:Nat) (y:V),xs[k]?=some y->∃(a:Addr) (ys:List V),y=.ref a/\a≠p/\H a=some (.lst ys)/\ys.length<1000000/\F a=none/\Rr k a:=λk y hk=>by
   have hkl:k<l.length:=by rw[ro.len];exact(ya5.mp hk).1
   obtain⟨rr,e1,e2⟩:=zn8 hro (ya0 hkl);have rk:=ro.rep k _ _ (ya0 hkl) hk;rw[e1]at rk;obtain⟨a,ys,Rq,rfl,hA2,fa,ha,rq,dq,_⟩:=rk.own_inv;have ra:Rr k a:=by rw[hA2];exact .inl rfl
   exact⟨a,ys,rfl,λz=>dp k (z▸ra),ha,by rw[<- rq.len];exact e2,fa,ra⟩
  have apart:∀(k k':Nat) (a:Addr),xs[k]?=some (V.ref a)->xs[k']?=some (V.ref a)->k=k':=λk k' a h1 h2=>by
   obtain⟨b,_,e1,_,_,_,_,r1⟩:=rows k _ h1;obtain⟨b',_,e2,_,_,_,_,r2⟩:=rows k' _ h2;cases e1;cases e2;exact Classical.byContradiction λz=>ro.dis k k' _ z r1 r2
  refine⟨λn mm σ' H'=>mm=xs.length - n/\n<=xs.length/\∃F' R',Stp F H (tot R) F' H' (tot R')/\StR X.K F' H' σ' ((τ.set i none).set j none) R'/\σ'[i]?=some (some (.ref p))/\H' p=some (.lst xs)/\F' p=none/\¬ tot R' p /\
   ∀k y,xs[k]?=some y->∃a ys,y=.ref a/\H' a=some (.lst ys)/\(n<=k->ys.length<1000000)/\F' a=none/\¬ tot R' a/\R i a,⟨xs.length,by simp,yb2 _,F,_,(Stp.refl S.fh).mono λa z=>(t0 a z).elim λk w=>⟨k,w.2⟩,S0,ev,hH,fp,no0 p (inR p (.inl rfl)),λk y hk=>?_⟩,?_⟩
  ·obtain⟨a,ys,e1,_,e3,e4,e5,e6⟩:=rows k y hk;exact⟨a,ys,e1,e3,λ_=>e4,e5,no0 a (inR a (.inr ⟨k,e6⟩)),inR a (.inr ⟨k,e6⟩)⟩
  rintro n mm σ' H' ⟨rfl,hle,F',R',st,S',es,hp',fp',np',rw'⟩
  by_cases hlt:n<xs.length
  ·refine .inr ⟨⟨xs,xs[n],SqL.of hp',ya0 hlt⟩,λσ2 H2=>n+1<=xs.length/\∃F' R',Stp F H (tot R) F' H2 (tot R')/\StR X.K F' H2 σ2 ((τ.set i none).set j none) R'/\σ2[i]?=some (some (.ref p))/\H2 p=some (.lst xs)/\F' p=none/\¬ tot R' p /\
    ∀k y,xs[k]?=some y->∃a ys,y=.ref a/\H2 a=some (.lst ys)/\(n+1<=k->ys.length<1000000)/\F' a=none/\¬ tot R' a/\R i a,λσ2 H2 n2=>⟨xs.length - (n+1),by omega,rfl,n2⟩,λy H'' yl=>?_⟩
   obtain⟨rfl,yx⟩:=yl;have hxx:=yx xs (SqL.of hp');obtain⟨a,ys,rfl,ha,hz,fa,na,ria⟩:=rw' n _ hxx;have S1:=stSig (v:=some (.ref a)) S' hjn;have hjs:j<σ'.length:=by rw[S'.len,hlen];exact hjl
   refine⟨.ref a,yal hjs,.inl ⟨rfl,ys,SqL.of ha⟩,F',_,R',S1,?_⟩;rw[hm];intro F1 H1 y1 B e1 g1;have g1':Rp X.K F1 H1 t y1 B:=g1;have ha1:=e1.hh _ _ ha
   have fr:∀b u,H'' b=some u->F' b=none->F1 b=none:=λb u hb fb=>by
    cases hF:F1 b with
    |none=>rfl
    |some w =>
     rcases e1.nf b w hF with z|z
     ·rw[fb]at z;cases z
     ·rw[hb]at z;cases z
   have fa1:F1 a=none:=fr a _ ha fa;have S2:=S1.ext e1;have S3:=zIw (a:=a) (o:=.lst (ys++[y1])) S2 fa1 na;refine⟨a,ys,y1,rfl,rfl,ha1,yak (hz (yaa _)) (by decide),hlt,F1,R',?_,S3,?_,?_,fr p _ hp' fp',np',λk y hk=>?_⟩
   ·have st2:=st.trans e1.stp0;refine⟨st2.ff,λb u z=>?_,λb u nb z=>?_,st2.nw,st2.nf⟩
    ·rw[zag (λw=>by rw[w,fa1]at z;cases z)]
     exact st2.fh b u z
    ·rw[zag (λ(w:b=a)=>nb (by rw[w];exact⟨i,ria⟩))]
     exact st2.kp b u nb z
   ·rw[yah (yay hij)];exact es
   ·obtain⟨b,_,e0,e2,_⟩:=rows n _ hxx;cases e0;rw[zag (yay e2)];exact e1.hh _ _ hp'
   ·obtain⟨b,zs,rfl,hb,hbz,fb,nb,rib⟩:=rw' k y hk
    by_cases hba:b=a
    ·subst hba;have hkn:=apart k n _ hk hxx;exact⟨b,ys++[y1],rfl,zar,λz=>by omega,fa1,nb,rib⟩
    ·exact⟨b,zs,rfl,by rw[zag hba];exact e1.hh _ _ hb,λz=>hbz (by omega),fr b _ hb fb,nb,rib⟩
  ·have hn:n=xs.length:=by omega
   subst hn;exact .inl ⟨⟨xs,SqL.of hp',yaa _⟩,q F' H' σ' R' st S'⟩
end
def zAb:List Stmt->Option (Str×Pos×Pos×Pos×Pos×Expr)
 |[.Expr (.Call f es ks c) bp]=>(match f,es,ks with
  |.Attribute (.Name x p) a ap,[e],[]=>if a="append" then some (x,p,ap,c,bp,e) else none
  |_,_,_=>none)
 |_=>none
theorem zAa{body:List Stmt}{x:Str}{p ap c bp:Pos}{e:Expr}(h:zAb body=some (x,p,ap,c,bp,e)):body=[.Expr (.Call (.Attribute (.Name x p) "append" ap) [e] [] c) bp]:=by
 unfold zAb at h;split at h
 ·split at h
  ·split at h
   ·rename_i hf;subst hf;cases h
    rfl
   ·cases h
  ·cases h
 ·cases h
end Pu
set_option Elab.async false
set_option linter.all false
set_option maxRecDepth 100000
namespace Pu
open PySem PySem.Spec PyProof.Rows L2 Zw Zx
section
variable {X:Cx}{E:L2.St->XK}{ca:Str->Value}{m mk ma:PSt->Option Rs}{o k e a:Expr}{pos apos cpos p p2:Pos}
def rSlS:V->Option Int->Option Int->Hp->VK->Prop:=λx lo hi H Q=>∃z:Str,x=.str z/\z.length<=lim/\Q (.str (Txt.slice z lo hi)) H
theorem zIy:SlR X rSlS:=by
 intro pins s σ H x v vl vu lo hi sl Q I rx hs pl pu q;obtain⟨z,rfl,hz,q⟩:=q;obtain⟨t,rfl⟩:=(show ∃t,v=Value.str z t from rx);obtain⟨ob,ho,hc,hd⟩:=hs;rw[zez]at hz;cases pl with
 |none =>
  cases pu with
  |none=>exact⟨"str",_,ych.lookup,typeIs_str _ _ _,wpAny_getItem_str_slice (l:=none) (u:=none) (st:=none) ⟨ob,ho,hc,hd⟩ rfl (post_val_or_str ⟨yae (ydw z _ _) hz,λt' k=>⟨.str _,H,I.tok _,⟨_,rfl⟩,q⟩⟩)⟩
  |int j uj=>exact⟨"str",_,ych.lookup,typeIs_str _ _ _,wpAny_getItem_str_slice (l:=none) (u:=some (j,uj)) (st:=none) ⟨ob,ho,hc,hd⟩ rfl (post_val_or_str ⟨yae (ydw z _ _) hz,λt' k=>⟨.str _,H,I.tok _,⟨_,rfl⟩,q⟩⟩)⟩
 |int i ui =>
  cases pu with
  |none=>exact⟨"str",_,ych.lookup,typeIs_str _ _ _,wpAny_getItem_str_slice (l:=some (i,ui)) (u:=none) (st:=none) ⟨ob,ho,hc,hd⟩ rfl (post_val_or_str ⟨yae (ydw z _ _) hz,λt' k=>⟨.str _,H,I.tok _,⟨_,rfl⟩,q⟩⟩)⟩
  |int j uj=>exact⟨"str",_,ych.lookup,typeIs_str _ _ _,wpAny_getItem_str_slice (l:=some (i,ui)) (u:=some (j,uj)) (st:=none) ⟨ob,ho,hc,hd⟩ rfl (post_val_or_str ⟨yae (ydw z _ _) hz,λt' k=>⟨.str _,H,I.tok _,⟨_,rfl⟩,q⟩⟩)⟩
def zsq(ma:PSt->Option Rs)(ml mh:Option (PSt->Option Rs)):PSt->Option Rs:=λτ=>match ma τ with
 |some (.v (.str z) _)=>(match zjf ml τ,zjf mh τ with
  |some lo,some hi=>if z.length<=lim then some (.v (.str (Txt.slice z lo hi)) false) else none
  |_,_=>none)
 |_=>none
theorem zAf{lo hi:Option Expr}{ml mh:Option (PSt->Option Rs)}(ha:PE X a (tM X.K E ca ma))(hl:PO X lo (tPo X.K ml))(hh:PO X hi (tPo X.K mh)):PE X (.Subscript a (.Slice lo hi none p2) pos) (tM X.K E ca (zsq ma ml mh)):=by
 refine PE.weak (zu3 zIy ha hl hh) λσ H Q h=>?_
 obtain⟨F,τ,R,S,q⟩:=h;refine⟨F,τ,R,S,?_⟩;unfold zsq at q;cases hm:ma τ with
 |none=>rw[hm]at q;exact q.elim
 |some r =>
  rw[hm]at q;cases r with
  |x c=>exact q.elim
  |v t bb =>
   cases t with
   |str z =>
    simp only at q;intro F1 H1 x B e1 g1;have hx:=zhy g1;subst hx;have e1':Ext F H F1 H1 R0:=e1.mono λ_ z=>z.elim
    have S1:=S.ext e1';cases h1:zjf ml τ with
    |none=>simp only[h1]at q
    |some lo' =>
     refine⟨F1,τ,R,lo',S1,h1,λF2 H2 e2=>?_⟩
     have S2:=S1.ext e2;cases h2:zjf mh τ with
     |none=>simp only[h1,h2]at q
     |some hi' =>
      simp only[h1,h2]at q;refine⟨F2,τ,R,hi',S2,h2,λF3 H3 e3=>?_⟩
      by_cases hz:z.length<=lim
      ·rw[if_pos hz]at q;exact⟨z,rfl,hz,q F3 H3 _ R0 (e1'.trans0 (e2.trans0 e3)) (.str _)⟩
      ·rw[if_neg hz]at q;exact q.elim
   |_=>exact q.elim
def rJoin:V->List V->Hp->VK->Prop:=λx vs H Q=>∃(sep:Str) (l:Addr) (ys:List Str),x=.str sep/\vs=[.ref l]/\H l=some (.lst (ys.map V.str))/\(ys.map (·.length)).sum+ys.length * sep.length<=lim/\Q (.str (Txt.join sep ys)) H
theorem zts:∀{ys:List Str} {its:List Value},zbp (ys.map V.str) its->StrsAre its ys
 |[],its,r=>by
  cases r;exact .nil
 |y::ys,its,r=>by
  cases r with
  |cons h t =>
   obtain⟨tk,rfl⟩:=h;exact .cons _ _ (zts t)
theorem zG3:MtM X "str.join" rJoin:=by
 intro pins s σ H x vs v us Q I rx rv h;obtain⟨sep,l,ys,rfl,rfl,hH,hz,q⟩:=h;obtain⟨t,rfl⟩:=(show ∃t,v=Value.str sep t from rx);obtain⟨u,rfl,ru⟩:=rv.one;cases ru;obtain⟨its,r,pl,_⟩:=I.list (SqL.of hH);refine join_list (items:=its.toArray) pl.isList (zts r) (by rw[zez]at hz;exact hz) λt' k=>⟨.str _,H,I.tok _,⟨_,rfl⟩,q⟩
def mJn(m mk:PSt->Option Rs):PSt->Option Rs:=λτ=>match m τ with
 |some (.v (.str sep) _)=>(match mk τ with
  |some (.v (.nd _ .lst l) _)=>(match zhf l with
   |some ys=>if (ys.map (·.length)).sum+ys.length * sep.length<=lim then some (.v (.str (Txt.join sep ys)) false) else none
   |none=>none)
  |_=>none)
 |_=>none
theorem zL2{K:PySem.W.Frag}{F H:Hp}{o:Bool}{l:List T}{x:V}{A:Rg}(s:zbl F H)(h:Rp K F H (.nd o .lst l) x A):∃p xs,x=.ref p/\H p=some (.lst xs)/\l.length=xs.length/\∀(i:Nat) (t:T) (x:V),l[i]?=some t->xs[i]?=some x->∃B,Rp K F H t x B:=by
 cases h with
 |shr h e c=>exact⟨_,_,rfl,s _ _ h,e,λi t x h1 h2=>⟨_,c i t x h1 h2⟩⟩
 |own hk R f h e c d dp o=>exact⟨_,_,rfl,h,e,λi t x h1 h2=>⟨_,c i t x h1 h2⟩⟩
theorem zq0{K:PySem.W.Frag}{F H:Hp}:∀{l:List T} {ys:List Str} {xs:List V},zhf l=some ys->l.length=xs.length->(∀(i:Nat) (t:T) (x:V),l[i]?=some t->xs[i]?=some x->∃B,Rp K F H t x B)->xs=ys.map V.str
 |[],ys,xs,h,e,_=>by
  cases h;cases xs with
  |nil=>rfl
  |cons _ _=>simp at e
 |t::l,ys,[],h,e,_=>by simp at e
 |t::l,ys,x::xs,h,e,f=>by
  unfold zhf at h;split at h
  ·cases ‹_::_=[]›
  ·rename_i z r hh;cases hh;split at h
   ·rename_i l' hl;cases h;obtain⟨B,r0⟩:=f 0 _ x rfl rfl;have ih:xs=l'.map V.str:=zq0 hl (by simpa using e) λi t x h1 h2=>f (i+1) t x (by simpa using h1) (by simpa using h2)
    rw[r0.str_inv,ih]
    rfl
   ·cases h
  ·cases h
theorem zJn(ho:PE X o (tM X.K E ca m))(hk:PE X k (tM X.K E ca mk))(hbase:attributeBase o "join" X.env (eval o X.env)=eval o X.env)(hs:starEach [k] X.env=[(false,eval k X.env)])(hline:(apos.endLine == cpos.line)=true) :
  PE X (.Call (.Attribute o "join" apos) [k] [] cpos) (tM X.K E ca (mJn m mk)):=by
 refine PE.weak (zx2 PySem.F.plainAttrs_str PySem.F.slot_str_join PySem.F.type_str_join zG3 ho (zc5 hk zfw hs) hbase (by rw[hs];rfl) hline hs rfl) λσ H Q h=>?_
 obtain⟨F,τ,R,S,q⟩:=h;refine⟨F,τ,R,S,?_⟩;unfold mJn at q;cases hm:m τ with
 |none=>rw[hm]at q;exact q.elim
 |some r =>
  rw[hm]at q;cases r with
  |x c=>exact q.elim
  |v t b =>
   cases t with
   |str sep =>
    simp only at q;intro F1 H1 x B e1 g1;have hx:=zhy g1;subst hx;have e1':Ext F H F1 H1 R0:=e1.mono λ_ z=>z.elim
    refine⟨rfl,F1,τ,R,S.ext e1',?_⟩;cases hk2:mk τ with
    |none=>rw[hk2]at q;exact q.elim
    |some r2 =>
     rw[hk2]at q;cases r2 with
     |x c=>exact q.elim
     |v t2 b2 =>
      cases t2 with
      |nd o2 k2 l =>
       cases k2 with
       |lst =>
        simp only at q;intro F2 H2 z B2 e2 g2
        have hr:∃A,Rp X.K F2 H2 (.nd o2 .lst l) z A:=by
         cases b2 with
         |true=>obtain⟨_,A,_,r⟩:=g2;exact⟨A,r⟩
         |false=>exact⟨_,g2⟩
        obtain⟨A,r⟩:=hr;obtain⟨p,xs,rfl,hH,el,kd⟩:=zL2 e2.fh r;cases hy:zhf l with
        |none=>simp only[hy]at q
        |some ys =>
         simp only[hy]at q;have hxs:=zq0 hy el kd
         by_cases hz:(ys.map (·.length)).sum+ys.length * sep.length<=lim
         ·rw[if_pos hz]at q;exact⟨sep,p,ys,rfl,rfl,by rw[<- hxs];exact hH,hz,q F2 H2 _ R0 ((e1'.trans e2).mono λ_ z=>z.elim) (.str _)⟩
         ·rw[if_neg hz]at q;exact q.elim
       |_=>exact q.elim
      |_=>exact q.elim
   |_=>exact q.elim
def rIxD:R2:=λx y H Q=>∃a kvs k v,x=.ref a/\y=.str k/\H a=some (.dK kvs)/\ztn kvs (Sum.inr k)=some v/\Q v H
theorem zLk(hu:X.A.units+1<cLine):IxR X rIxD:=by
 intro value slice pins s σ H x y v u Q I rx ry h hs;obtain⟨a,kvs,k,w,rfl,rfl,hH,hv,q⟩:=h;cases rx;have g:zMk H a (kV (Sum.inr k)) (some w):=hv▸zMk.k hH
 have hT:s.TypeIs (.ref a) "dict":=by
  obtain⟨_,_,vs,_,dd⟩:=zM1 I.hok hH;exact dd.typeIs
 unfold subscriptTail;refine wpAny_bind ?_;rw[getitemInPython_of_ne hT.not_modules];refine wpAny_bind (wpAny_specialOf hT PySem.F.slot_dict_getitem.lookup ?_)
 have fin:wpAny (model X.prog X.w) X.A (subscripted slice false (.ref a) u) (λr s₃=>wpAny (model X.prog X.w) X.A (letTemporaryGo value (.ref a) r >>= λ_=>pure r) (EP X pins σ Q) X.xe s₃) X.xe s:=by
  rw[hs];exact wpAny_operating (wpAny_mono (zyk hu I g (show L2.RelV (kV (Sum.inr k)) u from ry) λw' s3 I3 rw'=>(⟨w,H,I3,rw',q⟩:EP X pins σ Q w' s3)) (λr s₃ h₃=>wpAny_bind (wpAny_letTemporaryGo (wpAny_pure h₃))) λ_ _ x=>x)
 first|exact wpAny_pure (wpAny_bind fin)|exact wpAny_bind (wpAny_pure (wpAny_bind fin))|exact wpAny_bind fin
noncomputable def mGt(m mk:PSt->Option Rs):PSt->Option Rs:=λτ=>match m τ with
 |some (.v (.obj (.sdc ks) l) _)=>(match mk τ with
  |some (.v (.str y) _)=>(match zDq ks y with
   |some j=>(match l[j]? with
    |some u=>if u.sh then some (.v u false) else none
    |none=>none)
   |none=>none)
  |_=>none)
 |_=>none
theorem ztl:∀{ks:List Str} {xs:List V} {y:Str} {j:Nat} {v:V},zDq ks y=some j->xs[j]?=some v->ztn (kvS ks xs) (Sum.inr y)=some v
 |[],xs,y,j,v,h,_=>by simp[zDq]at h
 |k::ks,[],y,j,v,_,h=>by simp at h
 |k::ks,x::xs,y,j,v,h,hx=>by
  show ztn ((Sum.inr k,x)::kvS ks xs) (Sum.inr y)=some v;unfold zDq at h;rw[ydk]at h
  by_cases e:k=y
  ·rw[@decide_eq_true _ (Classical.propDecidable _) e]at h;simp only[if_true,ydq]at h;subst h;rw[zke (p:=(Sum.inr k,x)) (by rw[e])]
   simpa using hx
  ·rw[@decide_eq_false _ (Classical.propDecidable _) e]at h;simp only[yc7,if_false,ya2]at h;obtain⟨j',h1,rfl⟩:=h;rw[zkf (p:=(Sum.inr k,x)) (λz=>e (Sum.inr.inj z))]
   exact ztl (show zDq ks y=some j' from h1) (by simpa using hx)
theorem r_gt(hu:X.A.units+1<cLine)(ho:PE X o (tM X.K E ca m))(hk:PE X k (tM X.K E ca mk))(hs:zpr k):PE X (.Subscript o k pos) (tM X.K E ca (mGt m mk)):=by
 refine PE.weak (zKb (zLk hu) ho hk hs) λσ H Q h=>?_
 obtain⟨F,τ,R,S,q⟩:=h;refine⟨F,τ,R,S,?_⟩;unfold mGt at q;cases hm:m τ with
 |none=>rw[hm]at q;exact q.elim
 |some r =>
  rw[hm]at q;cases r with
  |x c=>exact q.elim
  |v t b =>
   cases t with
   |obj kd l =>
    cases kd with
    |sdc ks =>
     simp only at q;intro F1 H1 x B e1 g1;obtain⟨r1,hB⟩:=zoy g1;subst hB;obtain⟨a,xs,rfl,_,⟨hl1,hF⟩,el,cc⟩:=r1.obj_inv;refine⟨F1,τ,R,S.ext e1,?_⟩;cases hk2:mk τ with
     |none=>rw[hk2]at q;exact q.elim
     |some r2 =>
      rw[hk2]at q;cases r2 with
      |x c=>exact q.elim
      |v t2 b2 =>
       cases t2 with
       |str y =>
        simp only at q;intro F2 H2 z B2 e2 g2;have hz:=zhy g2;subst hz;have e2':Ext F1 H1 F2 H2 R0:=e2.mono λ_ z=>z.elim
        cases hj:zDq ks y with
        |none=>simp only[hj]at q
        |some j =>
         simp only[hj]at q;cases hu2:l[j]? with
         |none=>simp only[hu2]at q
         |some u =>
          simp only[hu2]at q
          by_cases hsh:u.sh=true
          ·rw[if_pos hsh]at q;have hjl:=(ya5.mp hu2).1;have hx:xs[j]?=some xs[j]:=ya0 (by omega)
           have hc:=(cc j u _ hu2 hx).move (F':=F2) (H':=H2) hsh e2'.ff;exact⟨a,_,y,_,rfl,rfl,e2'.hh _ _ (e1.fh _ _ hF),ztl hj hx,q F2 H2 _ R0 (e1.trans0 e2') hc⟩
          ·rw[if_neg hsh]at q;exact q.elim
       |_=>exact q.elim
    |_=>exact q.elim
   |_=>exact q.elim
def tKys(to:TE):TE:=λσ H Q=>to σ H λx H1=>∃a ks xs,x=.ref a/\ks.length=xs.length/\H1 a=some (.dK (kvS ks xs))/\∀p,H1 p=none->Q (.ref p) (upd H1 p (.lst (ks.map V.str)))
theorem zDm:∀{ks:List Str} {xs:List V},ks.length=xs.length->(kvS ks xs).length=ks.length
 |[],[],_=>rfl
 |[],_::_,h=>by simp at h
 |_::_,[],h=>by simp at h
 |k::ks,x::xs,h=>by
  show(kvS ks xs).length+1=ks.length+1;rw[zDm (by simpa using h)]
theorem zuc:∀{ks:List Str} {xs:List V} {vs:List (Key×Value)},ks.length=xs.length->KV (kvS ks xs) vs->vs.map (·.1)=ks.map Sum.inr
 |[],[],vs,_,r=>by
  have r':Paired _ [] vs:=(show Paired _ (kvS [] []) vs from r);cases r'
  rfl
 |[],_::_,_,h,_=>by simp at h
 |_::_,[],_,h,_=>by simp at h
 |k::ks,x::xs,vs,h,r=>by
  have r':Paired (λ(p:Key×V) (q:Key×Value)=>p.1=q.1/\RelV p.2 q.2) ((Sum.inr k,x)::kvS ks xs) vs:=r
  cases r' with
  |@cons _ q _ qs hd tl =>
   rw[yaf,yaf,<- hd.1,zuc (by simpa using h) tl]
theorem zKa(hc:X.calm=true)(hg:Gl X "list")(hm:X.mg "list"=none){to:TE}(ho:PE X o to)(hs:starEach [o] X.env=[(false,eval o X.env)]) :
  PE X (.Call (.Name "list" p) [o] [] p2) (tKys to):=by
 intro pins s σ H Q I h;refine wpAny_Call_Name_kw (zjp I hg hm yd0 ?_ (by decide) (by decide))
 refine ybk ?_ (by rw[hs];rfl) rfl
 rw[hs];show wpAny _ _ (spliced ((false,eval o X.env)::backTo p2 (starEach [] X.env))) _ _ s;refine Calls.spliced_cons (thn (ho pins s σ H _ I h) λv s1 ⟨x,H1,I1,r1,q1⟩=>?_)
 obtain⟨a,ks,xs,rfl,el,hd,q⟩:=q1;cases r1;obtain⟨z,hsm,vs,rel,o',es,ep,ho',r⟩:=(show zbo X.prog X.w H1 s1.heap a (.dK (kvS ks xs)) from I1.hok a _ hd);have hat:s1.heap.DictAt (zbk X.prog X.w) a vs ep:=⟨o',es,ho',r⟩;refine Calls.spliced_nil ?_;refine PySem.W.kdl_call (PySem.W.kdl_dict (knd:=zbk X.prog X.w) (d:=a) (kvs:=vs) (ep:=ep) hsm) (I1.ok.hd hc) hat (by rw[<- zL9 rel];exact z) λh' tk acc' c' hk hD hacc=>?_
 have hkeys:=zuc el rel;refine⟨.ref _,_,I1.laid (a:=s1.heap.objs.size) (o:=.lst (ks.map V.str)) (h':=h') (t':=tk) hk (yaa _) ?_,rfl,q _ (I1.hok.fresh (yaa _))⟩;refine⟨by rw[ya1,<- zDm el];exact z,acc'.toList,c',?_,by rw[hD]⟩
 have hlen:acc'.toList.length=ks.length:=by
  rw[ydd,hacc.1,<- ya1 (f:=λp:Key×Value=>p.1),hkeys,ya1]
 have key:∀(n:Nat) (k:Str) (v:Value),ks[n]?=some k->acc'.toList[n]?=some v->∃t,v=Value.str k t:=λn k v h1 h2=>by
  obtain⟨k',x',e1,e2⟩:=hacc.2 n v (by rw[<- ycp];exact h2)
  have e3:(vs.map (·.1))[n]?=some k':=by rw[ya3,e1];rfl
  rw[hkeys,ya3,h1]at e3;have e4:k'=Sum.inr k:=(yas e3).symm;subst e4
  rcases zb0 (show zop (Sum.inr k) v=true from e2) with ⟨i,t,e5,_⟩|⟨x,t,e5,e6⟩
  ·cases e5
  ·cases e5;exact⟨t,e6⟩
 clear hD hk hacc
 generalize acc'.toList=as at hlen key
 clear hd q hkeys
 have go:∀(ks:List Str) (as:List Value),as.length=ks.length->(∀(n:Nat) (k:Str) (v:Value),ks[n]?=some k->as[n]?=some v->∃t,v=Value.str k t)->zbp (ks.map V.str) as:=by
  intro ks
  induction ks with
  |nil =>
   intro as hl _;cases as with
   |nil=>exact .nil
   |cons _ _=>simp at hl
  |cons k ks ih =>
   intro as hl key;cases as with
   |nil=>simp at hl
   |cons v as=>exact .cons (key 0 k v rfl rfl) (ih as (by simpa using hl) λn k v h1 h2=>key (n+1) k v (by simpa using h1) (by simpa using h2))
 exact go ks as hlen key
def zzi(m:PSt->Option Rs):PSt->Option Rs:=λτ=>match m τ with
 |some (.v (.obj (.sdc ks) _) _)=>some (.v (.own (ks.map T.str)) false)
 |_=>none
theorem zA9{K:PySem.W.Frag}{F:Hp}(ks:List Str):Rps K F (ks.map T.str) (ks.map V.str):=⟨by simp,λi t x h1 h2=>by
 rw[ya3]at h1 h2;cases h:ks[i]? with
 |none=>rw[h]at h1;cases h1
 |some k =>
  rw[h]at h1 h2;cases h1;cases h2;exact .str k⟩
theorem r_kys(hc:X.calm=true)(hg:Gl X "list")(hm:X.mg "list"=none)(ho:PE X o (tM X.K E ca m))(hs:starEach [o] X.env=[(false,eval o X.env)]):PE X (.Call (.Name "list" p) [o] [] p2) (tM X.K E ca (zzi m)):=by
 refine PE.weak (zKa hc hg hm ho hs) λσ H Q h=>?_
 obtain⟨F,τ,R,S,q⟩:=h;refine⟨F,τ,R,S,?_⟩;unfold zzi at q;cases hm2:m τ with
 |none=>rw[hm2]at q;exact q.elim
 |some r =>
  rw[hm2]at q;cases r with
  |x c=>exact q.elim
  |v t b =>
   cases t with
   |obj kd l =>
    cases kd with
    |sdc ks =>
     intro F1 H1 x B e1 g1;obtain⟨r1,hB⟩:=zoy g1;subst hB;obtain⟨a,xs,rfl,_,⟨hl1,hF⟩,el,cc⟩:=r1.obj_inv;refine⟨a,ks,xs,rfl,hl1,e1.fh _ _ hF,λp hp=>?_⟩
     have gg:zpu X.K F1 H1 (.own (ks.map T.str)) Q:=λF' H' z C e g=>q F' H' z C (e1.trans0 e) g
     exact gg.list e1.fh (zA9 ks) hp
    |_=>exact q.elim
   |_=>exact q.elim
structure ICls(K:PySem.W.Frag)(C:Addr):Prop where
 c:Cls K C
 a:PySem.W.findIn K (.ref C) "__class__"=some (some (.builtin "object.__class__"))
 n:PySem.W.specialIn K (.builtin "object.__class__") "__get__"=some (some (.builtin "getset_descriptor.__get__"))
 k:PySem.W.takesIn K (.builtin "object.__class__")=some true
 m:PySem.W.mroIn K C (.type "object")=some true
def zzj(tb:List (Addr×Bool)):T->Option T
 |.obj (.ins C _) _=>(tb.lookup C).map .bl
 |_=>none
theorem zCa{C D:Addr}{b:Bool}(hC:ICls X.K C)(hk:PySem.W.kitOne X.K (.ref C) (.ref D)=some b):zd3 X (.builtin "isinstance") (λxs H Q=>∃a dx fs,xs=[.ref a,.ref D]/\H a=some (.ins C dx fs)/\Q (.bl b) H):=by
 intro pins s σ H xs us Q I r h;obtain⟨a,dx,fs,rfl,e,q⟩:=h;obtain⟨u,w',rfl,rx,ry⟩:=zux r;cases ry;exact zqt I rx (.ins e hC.c hC.a hC.n hC.k hC.m) hk λtk=>⟨.bl b,H,I.tok _,rfl,q⟩
theorem r_isC{D:Addr}{tb:List (Addr×Bool)}{c:Str}(hC:∀C b,tb.lookup C=some b->ICls X.K C/\PySem.W.kitOne X.K (.ref C) (.ref D)=some b)(hg:Gl X "isinstance")(hm:X.mg "isinstance"=none)(hgc:Gl X c)(hmc:X.mg c=some (.ref D))(hd:(c == ("__debug__":Str))=false)(ha:PE X e (tM X.K E ca m))(he:starEach [e,.Name c p2] X.env=(false,eval e X.env)::starEach [.Name c p2] X.env) :
  PE X (.Call (.Name "isinstance" p) [e,.Name c p2] [] pos) (tM X.K E ca (mAp (g1 (zzj tb)) (za4 m zac))):=by
 have hR:zd3 X (.builtin "isinstance") (λxs H Q=>∃C b a dx fs,tb.lookup C=some b/\xs=[.ref a,.ref D]/\H a=some (.ins C dx fs)/\Q (.bl b) H):=λpins s σ H xs us Q I r h=>by
  obtain⟨C,b,a,dx,fs,hl,h⟩:=h;exact zCa (hC C b hl).1 (hC C b hl).2 pins s σ H xs us Q I r ⟨a,dx,fs,h⟩
 refine PE.weak (zid hR hg hm yco (zc5 ha (zc5 (zsj (v:=.ref D) hgc hmc rfl hd) zfw) he) (by decide) (by decide) he rfl) λσ H Q h=>?_
 refine(zeb (zpz h)).mono λx H1 h1=>?_
 obtain⟨F,ts,w,fh,rs,e,q⟩:=zg8 h1;unfold g1 at e;split at e
 ·obtain⟨x1,xs1,e1,r1,rs1⟩:=rs.inv;cases e1;unfold zzj at e;split at e
  ·obtain⟨b,hb,rfl⟩:=ya2.mp e;obtain⟨a,xs,rfl,_,⟨dx,hF⟩,_,_⟩:=r1.obj_inv;exact⟨_,b,a,dx,_,hb,rfl,fh _ _ hF,q.bl fh⟩
  ·cases e
 ·cases e
end
end Pu
set_option Elab.async false
set_option linter.all false
set_option maxRecDepth 100000
namespace Zx
open PySem PySem.Spec PyProof.Rows L2 Zw
section
variable {A:Around}{E:Value->Shared->Prop}{M:Model}
end
section
variable {X:Cx}{i1 i2:Nat}{x1 x2 n1 n2:Str}{np1 np2 pos hpos1 hpos2:Pos}{body suite1 suite2:List Stmt}{b1 b2:Stmt}{tb th1 th2:TS}{E:L2.St->XK}
end
end Zx
namespace Pu
open PySem PySem.Spec PyProof.Rows L2 Zw Zx
section
variable {X:Cx}{E:L2.St->XK}{ca:Str->Value}{mu:Bool}{i1 i2:Nat}{x1 x2 n1 n2:Str}{np1 np2 pos hpos1 hpos2:Pos}{body suite1 suite2:List Stmt}{b1 b2:Stmt}{u h1 h2:PSt->Option Out}{cs1 cs2:List (Str×Addr)}
end
section
variable {X:Cx}{E:L2.St->XK}{ca:Str->Value}{m:PSt->Option Rs}{e:Expr}{pos p p2 p3 p4:Pos}{c1 c2:Str}{t1 t2:List (Addr×Bool)}{kt:Nat}
end
end Pu
set_option Elab.async false
set_option linter.all false
set_option maxRecDepth 100000
namespace Pu
open PySem PySem.Spec PyProof.Rows L2 Zw Zx
end Pu
set_option Elab.async false
set_option linter.all false
set_option maxRecDepth 100000
namespace Pu
open PySem PySem.Spec PyProof.Rows L2 Zw Zx
section
variable {X:Cx}{E:L2.St->XK}{ca:Str->Value}{m mk ma:PSt->Option Rs}{o k e a:Expr}{pos apos cpos p p2:Pos}
end
end Pu
set_option Elab.async false
set_option linter.all false
set_option maxRecDepth 100000
namespace Pu
open PySem PySem.Spec PyProof.Rows L2 Zw Zx
section
variable {X:Cx}{E:L2.St->XK}{ca:Str->Value}{m mk:PSt->Option Rs}{o k e:Expr}{pos pos' apos cpos:Pos}
theorem zKz:MtM X "str.endswith" (λx vs H Q=>∃x1 y:Str,x=.str x1/\vs=[.str y]/\Q (.bl (Txt.endswith x1 y)) H):=by
 intro pins s σ H x vs v us Q I rx rv h;obtain⟨x1,y,rfl,rfl,q⟩:=h;obtain⟨t,rfl⟩:=(show ∃t,v=Value.str x1 t from rx);obtain⟨u,rfl,ru⟩:=rv.one;obtain⟨u1,rfl⟩:=(show ∃t,u=Value.str y t from ru);exact SC.endswith ⟨.bl _,H,I,rfl,q⟩
def zGc(m mk:PSt->Option Rs):PSt->Option Rs:=λτ=>match m τ with
 |some (.v (.str x) _)=>(match mk τ with
  |some (.v (.str y) _)=>some (.v (.bl (Txt.endswith x y)) false)
  |_=>none)
 |_=>none
theorem r_enw(ho:PE X o (tM X.K E ca m))(hk:PE X k (tM X.K E ca mk))(hbase:attributeBase o "endswith" X.env (eval o X.env)=eval o X.env)(hs:starEach [k] X.env=[(false,eval k X.env)])(hline:(apos.endLine == cpos.line)=true) :
  PE X (.Call (.Attribute o "endswith" apos) [k] [] cpos) (tM X.K E ca (zGc m mk)):=by
 refine PE.weak (zx2 PySem.F.plainAttrs_str PySem.F.slot_str_endswith PySem.F.type_str_endswith zKz ho (zc5 hk zfw hs) hbase (by rw[hs];rfl) hline hs rfl) λσ H Q h=>?_
 obtain⟨F,τ,R,S,q⟩:=h;refine⟨F,τ,R,S,?_⟩;unfold zGc at q;cases hm:m τ with
 |none=>rw[hm]at q;exact q.elim
 |some r =>
  rw[hm]at q;cases r with
  |x c=>exact q.elim
  |v t b =>
   cases t with
   |str x =>
    simp only at q;intro F1 H1 x' B e1 g1;have hx:=zhy g1;subst hx;have e1':Ext F H F1 H1 R0:=e1.mono λ_ z=>z.elim
    refine⟨rfl,F1,τ,R,S.ext e1',?_⟩;cases hk2:mk τ with
    |none=>rw[hk2]at q;exact q.elim
    |some r2 =>
     rw[hk2]at q;cases r2 with
     |x c=>exact q.elim
     |v t2 b2 =>
      cases t2 with
      |str y =>
       simp only at q;intro F2 H2 z B2 e2 g2;have hz:=zhy g2;subst hz;have e2':Ext F1 H1 F2 H2 R0:=e2.mono λ_ z=>z.elim
       exact⟨x,y,rfl,rfl,q F2 H2 _ R0 (e1'.trans0 e2') (.bl _)⟩
      |_=>exact q.elim
   |_=>exact q.elim
def tRv(K:PySem.W.Frag)(te:TE)(ts:TO):TE:=λσ H Q=>te σ H λx H1=>ts σ H1 λk H2=>∃a xs,k=some (-1)/\x=.ref a/\SqL K H2 a xs/\∀p,H2 p=none->Q (.ref p) (upd H2 p (.lst xs.reverse))
theorem zzo{xs:List V}{us:List Value}(h:zbp xs us):zbp xs.reverse us.reverse:=by
 induction h with
 |nil=>exact .nil
 |cons a _ ih =>
  rw[List.reverse_cons,List.reverse_cons];exact ih.append (.cons a .nil)
theorem pe_rv{te:TE}{ts:TO}{st:Expr}{p2:Pos}(he:PE X e te)(hs:PO X (some st) ts):PE X (.Subscript e (.Slice none none (some st) p2) pos) (tRv X.K te ts):=by
 intro pins s σ H Q I h;refine Subscript_ (thn (he pins s σ H _ I h) λv s1 ⟨x,H1,I1,r1,q1⟩=>?_)
 refine wpAny_Slice ?_;rw[evalPart_none];refine wpAny_pure (wpAny_pure ?_);refine thn (hs pins s1 σ H1 _ I1 q1) λvk s3 ⟨k,H3,I3,pk,q3⟩=>?_
 obtain⟨a,xs,rfl,rfl,hx,q⟩:=q3;cases r1;have I4:Inv X pins σ H3 { s3 with heap:=s3.heap.push { cls:=.type "slice",data:=.fields #[.none,.none,vk] } }:=I3.kept (t':=s3.toks) λb ob q=>yac _ q
 obtain⟨its,r,ht,hz⟩:=I4.list hx;show wpAny (model X.prog X.w) X.A (subscriptTail e (.Slice none none (some st) p2) (.ref a) (.ref s3.heap.objs.size)) (EP X pins σ Q) X.xe { s3 with heap:=s3.heap.push { cls:=.type "slice",data:=.fields #[.none,.none,vk] } }
 refine tail_any (ops:=[.ref a,.ref s3.heap.objs.size]) ht.isList.typeIs slot_list_getitem.lookup (wpAny_getItem_list_slice ht.isList (Heap.IsSliceOf.new ..) .none .none pk (by decide) ?_ (by rw[yai,<- r.length];exact hz)) (by with_unfolding_all rfl)
 rw[PySem.W.krv_pick];refine⟨.ref _,_,I4.laid (t':=s3.toks) (o:=.lst xs.reverse) (λb ob q=>yac _ q) (yaa _) ?_,rfl,q _ (I4.hok.fresh (yaa _))⟩
 exact⟨by rw[ydg];exact hz,_,0,zzo r,yav _ rfl⟩
def mRv(m mk:PSt->Option Rs):PSt->Option Rs:=λτ=>match m τ with
 |some (.v (.nd _ .lst l) false)=>(match zjf (some mk) τ with
  |some (some k)=>if k=-1 then some (.v (.own (zal l).reverse) false) else none
  |_=>none)
 |_=>none
theorem zEy{K:PySem.W.Frag}{F:Hp}{l:List T}{xs:List V}(h:Rps K F l xs):Rps K F l.reverse xs.reverse:=by
 obtain⟨h1,h2⟩:=h;refine⟨by simp[h1],λi t x e1 e2=>?_⟩
 have hi:i<l.length:=by simpa using (ya5.mp e1).1
 rw[List.getElem?_reverse hi]at e1;rw[List.getElem?_reverse (by omega)]at e2
 refine h2 _ t x e1 ?_;rw[h1];exact e2
theorem r_rv{st:Expr}{p2:Pos}(ha:PE X e (tM X.K E ca m))(hs:PO X (some st) (tPo X.K (some mk))):PE X (.Subscript e (.Slice none none (some st) p2) pos) (tM X.K E ca (mRv m mk)):=by
 refine PE.weak (pe_rv ha hs) λσ H Q h=>?_
 obtain⟨F,τ,R,S,q⟩:=h;refine⟨F,τ,R,S,?_⟩;unfold mRv at q;cases hm:m τ with
 |none=>rw[hm]at q;exact q.elim
 |some r =>
  rw[hm]at q;cases r with
  |x c=>exact q.elim
  |v t b =>
   cases t with
   |nd o kd l =>
    cases kd with
    |lst =>
     cases b with
     |true=>exact q.elim
     |false =>
      simp only at q;intro F1 H1 x B e1 g1;obtain⟨F1',e1',_,r1⟩:=Got.frz (b:=false) S e1 g1;have S1:=S.ext e1';cases h1:zjf (some mk) τ with
      |none=>rw[h1]at q;exact q.elim
      |some ok =>
       rw[h1]at q;cases ok with
       |none=>exact q.elim
       |some k =>
        simp only at q
        by_cases hk:k=-1
        ·rw[if_pos hk]at q;refine⟨F1',τ,R,some k,S1,h1,λF2 H2 e2=>?_⟩
         have r3:Rp X.K F2 F2 (T.nd o .lst l).share x R0:=(show Rp X.K F1' F1' _ x R0 from r1).frame e2.ff λ_ z=>z.elim
         rw[T.share]at r3;obtain⟨p,xs,rfl,_,n3,k3⟩:=zci r3;refine⟨p,xs,by rw[hk],rfl,SqL.of (e2.fh _ _ n3),λp' hp'=>?_⟩
         have gg:zpu X.K F2 H2 (.own (zal l).reverse) Q:=λF' H' z C e g=>q F' H' z C ((e1'.trans0 e2).trans0 e) g
         exact gg.list e2.fh (zEy k3) hp'
        ·rw[if_neg hk]at q;exact q.elim
    |_=>exact q.elim
   |_=>exact q.elim
end
abbrev iEnX(ms:PSt->Option RsL):PSt->Option RsL:=zdz ms
theorem r_enX{X:Cx}{E:L2.St->XK}{ca:Str->Value}{ms:PSt->Option RsL}{a:Expr}{elts:List Expr}{kk:Nat}{p pos tpos:Pos}(hg:Gl X "enumerate")(hm:X.mg "enumerate"=none)(ha:PA X [a] (tMs X.K E ca ms))(hs:starEach [a] X.env=[(false,eval a X.env)]):PI X (.Tuple elts kk tpos) (.Call (.Name "enumerate" p) [a] [] pos) (tI X.K E ca (iEnX ms)):=zD4 hg hm ha hs
end Pu
set_option Elab.async false
set_option linter.all false
set_option maxRecDepth 100000
noncomputable section
namespace Pu
open PySem PySem.Spec PyProof.Rows L2 Zw Zx
structure Fn where
 lv:Nat
 ps:List Str
 g:List T->Option Ru
structure Gx where
 co:List (Str×T)
 cl:List (Str×Addr×List Str)
 mt:List (Str×Addr×List Str×Fn)
 nw:List (Str×Fn×List (Nat×List T))
 nr:Bool
 tx:Bool
 df:Bool
 sf:Option (Addr×List Str)
 xs:List (Str×List (Str×Addr))
 sb:List (Str×List (Addr×Bool))
 sv:List (Str×List (Addr×Bool))
 no:Bool
 fo:List Str
 ci:List (Str×List (Addr×Bool))
 x2:List (Str×Str×List (Str×Addr))
 gt:List Str
abbrev gxD:Gx:=⟨[],[],[],[],false,true,true,none,[],[],[],true,[],[],[],[]⟩
set_option genInjectivity false in
structure Gm where
 N:List Str
 nm:List (Str×NameKind)
 ce:List Str
 lv:Nat
 fns:List (Str×Fn)
 bl:List Str
 ex:List Str
 ow:List Str
 pk:List Str
 mu:Bool
 mus:List (Str×Fn)
 mv:List Str
 dc:List Str
 ox:Gx
def zd9(x:Str):Bool:=!(x == ("__debug__":Str)) && !(x == ("__classdict__":Str)) && !(x == ("__name__":Str))
def visN(nm:List (Str×NameKind))(x:Str):Bool:=nm.lookup x == some .local || nm.lookup x == some .cell || nm.lookup x == some .free
def glN(nm:List (Str×NameKind))(x:Str):Bool:=nm.lookup x == some .globalImplicit
def zqq(N:List Str)(x:Str):Option Nat:=N.findIdx? (· == x)
def Gm.var(Γ:Gm)(x:Str):Option Nat:=if zd9 x && visN Γ.nm x then zqq Γ.N x else none
def Gm.loc(Γ:Gm)(x:Str):Bool:=zd9 x && (Γ.nm.lookup x == some .local || Γ.ce.contains x)
def zax:Expr->Bool
 |.Starred ..=>false
 |_=>true
def opF:Operator->Option (T->T->Option T)
 |.Add=>some zf0
 |.Sub=>some zIt
 |.Mult=>some znc
 |.Mod=>some zh8
 |.FloorDiv=>some zfs
 |.Pow=>some zD8
 |.BitOr=>some zMw
 |.BitAnd=>some zCd
 |_=>none
def zMu:CmpOp->Option (T->T->Option T)
 |.Eq=>some eqT
 |.NotEq=>some neT
 |.Lt=>some (zp9 λi j=>decide (i<j))
 |.LtE=>some (zp9 λi j=>decide (i<=j))
 |.Gt=>some (zp9 λi j=>decide (j<i))
 |.GtE=>some (zp9 λi j=>decide (j<=i))
 |.Is=>some (zGp false)
 |.IsNot=>some (zGp true)
 |.In=>some inT
 |.NotIn=>some zlb
def zMb(f:Str):Option (List T->Option T) :=
 if f="len" then some (g1 zhe) else if f="list" then some (g1 zcp) else if f="abs" then some (g1 zMz) else
 if f="tuple" then some (g1 zMl) else
 if f="int" then some (g1 zLm) else
 if f="min" then some (g2 zMq) else
 if f="all" then some (g1 zth) else
 if f="any" then some (g1 zMy) else none
def zto(c:Str):Option String:=if c="int" then some "int" else if c="bool" then some "bool" else if c="str" then some "str" else if c="list" then some "list" else if c="tuple" then some "tuple" else none
def okT:Expr->Bool
 |.IfExp ..=>false
 |.NamedExpr ..=>false
 |_=>true
def zqh:Expr->Option (Str×Pos)
 |.Name x p=>some (x,p)
 |_=>none
theorem zdc{t:Expr}{x:Str}{p:Pos}(h:zqh t=some (x,p)):t=.Name x p:=by
 unfold zqh at h;split at h
 ·cases h;rfl
 ·cases h
def tgNs:List Expr->List Str
 |[]=>[]
 |e::es=>(match zqh e with
  |some (x,_)=>x::tgNs es
  |none=>tgNs es)
def tgN:Expr->List Str
 |.Name x _=>[x]
 |.Tuple es _ _=>tgNs es
 |_=>[]
def zud:Expr->Bool
 |.Tuple ..=>true
 |_=>false
def zgm:Expr->Bool
 |.Slice ..=>true
 |_=>false
def zg3(nm:List (Str×NameKind)):List Str:=nm.filterMap λ(y,k)=>if k == .free then some y else none
def zyv(nm:List (Str×NameKind)):List Str:=nm.filterMap λ(y,k)=>if k == .cell then some y else none
def zqc(inner outer:List (Str×NameKind)):List (Str×NameKind):=inner.map λ(n,k)=>if (k == .free && outer.lookup n == some .cell) then (n,.cell) else (n,k)
def zyw(N:List Str):List Str->Option (List Nat)
 |[]=>some []
 |y::r=>(match zqq N y with
  |some i=>(match zyw N r with
   |some l=>some (i::l)
   |none=>none)
  |none=>none)
def zzc(Γ:Gm)(scope:Scope)(N':List Str):Bool :=
 (scope.kind == .function) && scope.names.all (λx=>!(x.2 == .local) || scope.names.lookup x.1 == some .local) &&
 scope.names.all (λx=>!(x.2 == .free) || (scope.names.lookup x.1 == some .free && (Γ.nm.lookup x.1 == some .cell || Γ.nm.lookup x.1 == some .free) && !(scope.names.contains (x.1,NameKind.cell)))) &&
 decide N'.Nodup && (zyv scope.names).all (λy=>(zqc scope.names Γ.nm).lookup y == some .cell)
def Gm.blk(Γ:Gm)(scope:Scope)(N':List Str):Gm:={ Γ with N:=N',nm:=zqc scope.names Γ.nm,ce:=(zyv scope.names).filter λy=>scope.names.lookup y == some .cell,ow:=[],ox:={ Γ.ox with df:=false,nr:=true } }
def dGs(Γ:Gm):List Expr->Option (List T->PSt->Option PSt)
 |[]=>some zg4
 |e::es=>(match zqh e with
  |some (x,_)=>if Γ.loc x then (match zqq Γ.N x,dGs Γ es with
   |some i,some b=>some (zak (bNm i) b)
   |_,_=>none) else none
  |none=>none)
def dG(Γ:Gm):Expr->Option (T->PSt->Option PSt)
 |.Name x _=>if Γ.loc x then (zqq Γ.N x).map bNm else none
 |.Tuple es _ _=>(dGs Γ es).map (zg1 es.length)
 |_=>none
def zl9:Expr->Bool
 |.Call ..=>false
 |_=>true
theorem zpo{o:Expr}{f:Str}{env:Env}(h:zl9 o=true):attributeBase o f env (eval o env)=eval o env:=by
 cases o<;>first|rfl|cases h
theorem zxe{o:Expr}{f:Str}{ap pos:Pos}{es:List Expr}{env:Env}(h:zl9 o=true)(hf:((backTo pos (starEach es env)).all λx=>!x.1)=true)(hn:es.length<30)(hl:(ap.endLine == pos.line)=true):∃pl:Sem Bool,eval (.Call (.Attribute o f ap) es [] pos) env=(do
   let ov <- eval o env
   standAt ap.atName
   let (f,first) <- holding [ov] (getMethod ov f pl)
   callWith pos f first (backTo pos (starEach es env)) (backToKw pos (keywordEach [] env))):=by
 refine⟨do let b <- importBound o env;pure (b.getD true),?_⟩
 have e:methodCallForm (es.length+([]:List Keyword).length) (backTo pos (starEach es env)) (backToKw pos (keywordEach [] env))=true:=by
  unfold methodCallForm;rw[hf];show(true && true && decide (es.length+0+0<30))=true;rw[decide_eq_true (by omega)];rfl
 rw[arm_eval_Call,zpo h];unfold methodCall calleeOf methodCallPos;rw[e,hl]
 rfl
def zHw(f:Str)(m:PSt->Option Rs):List (Str×Addr×List Str)->Option (PSt->Option Rs)
 |[]=>none
 |(_,C,fs)::r=>(match fs.findIdx? (· == f) with
  |some j=>(match zHw f m r with
   |some m2=>some (zmk (zih C fs j m) m2)
   |none=>some (zih C fs j m))
  |none=>zHw f m r)
def zG7(f:Str)(m:PSt->Option Rs)(ms:PSt->Option RsL):List (Str×Addr×List Str×Fn)->Option (PSt->Option Rs)
 |[]=>none
 |(g,C,fs,F)::r=>if g=f && !(fs.contains f) then (match zG7 f m ms r with
   |some m2=>some (zmk (zg2 C fs F.g m ms) m2)
   |none=>some (zg2 C fs F.g m ms))
  else zG7 f m ms r
def zHy:CmpOp->Option (T->T->Option T)
 |.LtE=>some leT
 |op=>zMu op
def setOf(f:Str)(e:Expr)(es:List Expr):Option (Expr×Pos×Pos):=if f="len" then (match es with
 |[]=>(match e with
  |.Call g as ks c=>(match zqh g,as,ks with
   |some (x,p),[a],[]=>if x="set" then some (a,p,c) else none
   |_,_,_=>none)
  |_=>none)
 |_=>none) else none
theorem zA1{f:Str}{e a:Expr}{es:List Expr}{p c:Pos}(h:setOf f e es=some (a,p,c)):f="len"/\es=[]/\e=.Call (.Name "set" p) [a] [] c:=by
 unfold setOf at h;split at h
 ·rename_i hf;split at h
  ·split at h
   ·split at h
    ·rename_i hn;split at h
     ·rename_i hx;cases h;rw[zdc hn,hx];exact⟨hf,rfl,rfl⟩
     ·cases h
    ·cases h
   ·cases h
  ·cases h
 ·cases h
def itV(Γ:Gm)(m:PSt->Option Rs):PSt->Option RsL:=if Γ.ox.tx then ze9 m else zHu m
def enV(Γ:Gm)(ms:PSt->Option RsL):PSt->Option RsL:=if Γ.ox.tx then iEnX ms else zdz ms
def isAt:Expr->Bool
 |.Attribute ..=>true
 |_=>false
def slA(Γ:Gm)(ma:PSt->Option Rs)(ml mh:Option (PSt->Option Rs)):PSt->Option Rs:=if Γ.ox.tx then zmk (mSl ma ml mh) (zsq ma ml mh) else mSl ma ml mh
def gtN(Γ:Gm):Expr->Bool
 |.Name x _=>Γ.ox.gt.contains x
 |_=>false
noncomputable def ixA(Γ:Gm)(a:Expr)(ma mk:PSt->Option Rs):PSt->Option Rs:=if isAt a || gtN Γ a then mGt ma mk else mIx ma mk
def zMr(f:Str)(e:Expr)(es:List Expr):Bool:=decide (f="list") && isAt e && es.isEmpty
theorem zGi{f:Str}{e:Expr}{es:List Expr}(h:zMr f e es=true):f="list"/\es=[]/\isAt e=true:=by
 unfold zMr at h;simp only[ya4,decide_eq_true_eq,ydx]at h;exact⟨h.1.1,h.2,h.1.2⟩
mutual
def dE:Nat->Gm->Expr->Option (PSt->Option Rs)
  |0,_,_=>none
  |n+1,Γ,e=>match e with
    |.Constant (.int i) _ _=>some (mC (.int i))
    |.Constant (.bool b) _ _=>some (mC (.bl b))
    |.Constant .none _ _=>some (mC .non)
    |.Constant (.str x) _ _=>some (mC (.str x))
    |.Name x _=>(match Γ.var x with
      |some i=>some (za5 i)
      |none=>if zd9 x && glN Γ.nm x then (Γ.ox.co.lookup x).map mC else none)
    |.Attribute o f _=>if zl9 o then (match dE n Γ o with
      |some m=>zHw f m Γ.ox.cl
      |none=>none) else none
    |.Call (.Attribute o f ap) es [] c=>if !(zl9 o && ap.endLine == c.line && decide (es.length<30)) then none else
      (match dE n Γ o,dA n Γ es with
      |some m,some ms =>
        if f="endswith" then (match es with
          |[k]=>(dE n Γ k).map (zGc m)
          |_=>none)
        else
        if f="join" then (match es with
          |[k]=>(dE n Γ k).map (mJn m)
          |_=>none)
        else
        zG7 f m ms Γ.ox.mt
      |_,_=>none)
    |.Compare a [op,op'] [b,c] _=>(match zHy op,zHy op',dE n Γ a,dE n Γ b,dE n Γ c with
      |some g,some g',some ma,some mb,some mc=>if lastMarks [op,op'] [b,c] then none else some (zxl g g' ma mb mc)
      |_,_,_,_,_=>none)
    |.BinOp a op b _=>(match opF op,dE n Γ a,dE n Γ b with
      |some g,some ma,some mb=>some (mAp (g2 g) (za4 ma (za4 mb zac)))
      |_,_,_=>none)
    |.UnaryOp .USub a _=>(match dE n Γ a with
      |some ma=>some (mAp (g1 zsl) (za4 ma zac))
      |none=>none)
    |.UnaryOp .Not a _=>if okT a then (dE n Γ a).map zf4 else none
    |.BoolOp op vs _=>dB n Γ op vs
    |.Compare a [op] [b] _=>(match zMu op,dE n Γ a,dE n Γ b with
      |some g,some ma,some mb=>if behindInMarks op b then none else some (mAp (g2 g) (za4 ma (za4 mb zac)))
      |_,_,_=>none)
    |.IfExp c a b _=>if okT c then (match dE n Γ c,dE n Γ a,dE n Γ b with
      |some mc,some ma,some mb=>some (mIf mc ma mb)
      |_,_,_=>none) else none
    |.List es _=>(dO n Γ es).map zea
    |.Tuple es _ _=>(dA n Γ es).map zol
    |.Subscript a k _=>(match k with
      |.Slice lo hi none _=>(match dE n Γ a,dP n Γ lo,dP n Γ hi with
        |some ma,some ml,some mh=>some (slA Γ ma ml mh)
        |_,_,_=>none)
      |.Slice none none (some st) _=>(match dE n Γ a,dP n Γ (some st) with
        |some ma,some (some mk)=>some (mRv ma mk)
        |_,_=>none)
      |_=>if zgm k then none else (match dE n Γ a,dE n Γ k with
        |some ma,some mk=>some (ixA Γ a ma mk)
        |_,_=>none))
    |.Call (.Name f _) (e::es) [] _ =>
      if zd9 f && glN Γ.nm f then
        (if Γ.bl.contains f then
          (if f="isinstance" then (match es with
            |[.Name c _]=>if glN Γ.nm c && Γ.bl.contains c && zd9 c && zax e then (match zto c,dE n Γ e with
              |some t,some m=>some (mAp (g1 (zdy t)) (za4 m zac))
              |_,_=>none)
              else if glN Γ.nm c && zd9 c && zax e then (match Γ.ox.ci.lookup c,dE n Γ e with
              |some C,some m=>some (mAp (g1 (zzj C)) (za4 m zac))
              |_,_=>none)
              else none
            |_=>none)
          else (
            match setOf f e es with
            |some (a,_,_)=>if glN Γ.nm "set" && Γ.bl.contains "set" && zax a then (dE n Γ a).map λm=>mAp (g1 zHn) (za4 m zac) else none
            |none =>
            if zMr f e es then (dE n Γ e).map (λm=>zmk (mAp (g1 zcp) (za4 m zac)) (zzi m)) else
            (match zMb f,dA n Γ (e::es) with
              |some g,some ms=>some (mAp g ms)
              |_,_=>none)))
        else
         match Γ.ox.nw.lookup f with
         |some (F,ds)=>(match ds.lookup (e::es).length,dA n Γ (e::es) with
           |some dts,some ms=>some (zB6 F.g dts ms)
           |_,_=>none)
         |none =>
         (match Γ.fns.lookup f, dA n Γ (e :: es) with
          |some F,some ms=>some (zan F.g ms)
          |_,_=>none))
      else none
    |.ListComp elt [⟨tg,iter,ifs,0⟩] scope _=>dC n Γ elt tg iter ifs scope
    |_=>none
def dA:Nat->Gm->List Expr->Option (PSt->Option RsL)
 |0,_,_=>none
 |n+1,Γ,es=>match es with
  |[]=>some zac
  |e::es=>if zax e then (match dE n Γ e,dA n Γ es with
   |some m,some ms=>some (za4 m ms)
   |_,_=>none) else none
def dO:Nat->Gm->List Expr->Option (PSt->Option RsL)
 |0,_,_=>none
 |n+1,Γ,es=>match es with
  |[]=>some zac
  |e::es=>if zax e then (match dE n Γ e,dO n Γ es with
   |some m,some ms=>some (zao m ms)
   |_,_=>none) else none
def dB:Nat->Gm->BoolOp->List Expr->Option (PSt->Option Rs)
 |0,_,_,_=>none
 |n+1,Γ,op,vs=>match vs with
  |[]=>none
  |[a]=>if okT a then dE n Γ a else none
  |a::r=>if okT a then (match op,dE n Γ a,dB n Γ op r with
   |.And,some ma,some mb=>some (zom ma mb)
   |.Or,some ma,some mb=>some (mOr ma mb)
   |_,_,_=>none) else none
def dP:Nat->Gm->Option Expr->Option (Option (PSt->Option Rs))
 |0,_,_=>none
 |n+1,Γ,o=>match o with
  |none=>some none
  |some e=>(dE n Γ e).map some
def dC:Nat->Gm->Expr->Expr->Expr->List Expr->Scope->Option (PSt->Option Rs)
 |0,_,_,_,_,_,_=>none
 |n+1,Γ,elt,tg,iter,ifs,scope =>
  if zzc Γ scope (tgN tg++zg3 scope.names) then (match zyw Γ.N (zg3 scope.names),dI n Γ tg iter,dG (Γ.blk scope (tgN tg++zg3 scope.names)) tg,dE n (Γ.blk scope (tgN tg++zg3 scope.names)) elt with
   |some caps,some mi,some b,some me=>(match ifs with
    |[]=>some (mLC (tgN tg).length caps mi b (mC (.bl true)) me)
    |[c]=>if okT c then (match dE n (Γ.blk scope (tgN tg++zg3 scope.names)) c with
     |some mt=>some (mLC (tgN tg).length caps mi b mt me)
     |none=>none) else none
    |_=>none)
   |_,_,_,_=>none) else none
def dI:Nat->Gm->Expr->Expr->Option (PSt->Option RsL)
 |0,_,_,_=>none
 |n+1,Γ,tg,e=>match e with
  |.Call (.Name f _) [a] [] _ =>
   if f="range" then (if glN Γ.nm f && Γ.bl.contains f && zax a then (dA n Γ [a]).map zba else none)
   else if f="enumerate" then (if glN Γ.nm f && Γ.bl.contains f && zax a && zud tg then (dA n Γ [a]).map (enV Γ) else none)
   else (dE n Γ e).map (itV Γ)
  |.Call (.Name f _) [a,b] [] _ =>
   if f="range" then (if glN Γ.nm f && Γ.bl.contains f && zax a && zax b then (dA n Γ [a,b]).map zhx else none)
   else if f="zip" then (if glN Γ.nm f && Γ.bl.contains f && zax a && zax b && zud tg then (dA n Γ [a,b]).map zou else none)
   else (dE n Γ e).map (itV Γ)
  |.Set ..=>none
  |_=>(dE n Γ e).map (itV Γ)
end
def dEb(n:Nat)(Γ:Gm)(e:Expr):Option (PSt->Option Rs):=match e with
    |.Constant (.int i) _ _=>some (mC (.int i))
    |.Constant (.bool b) _ _=>some (mC (.bl b))
    |.Constant .none _ _=>some (mC .non)
    |.Constant (.str x) _ _=>some (mC (.str x))
    |.Name x _=>(match Γ.var x with
      |some i=>some (za5 i)
      |none=>if zd9 x && glN Γ.nm x then (Γ.ox.co.lookup x).map mC else none)
    |.Attribute o f _=>if zl9 o then (match dE n Γ o with
      |some m=>zHw f m Γ.ox.cl
      |none=>none) else none
    |.Call (.Attribute o f ap) es [] c=>if !(zl9 o && ap.endLine == c.line && decide (es.length<30)) then none else
      (match dE n Γ o,dA n Γ es with
      |some m,some ms =>
        if f="endswith" then (match es with
          |[k]=>(dE n Γ k).map (zGc m)
          |_=>none)
        else
        if f="join" then (match es with
          |[k]=>(dE n Γ k).map (mJn m)
          |_=>none)
        else
        zG7 f m ms Γ.ox.mt
      |_,_=>none)
    |.Compare a [op,op'] [b,c] _=>(match zHy op,zHy op',dE n Γ a,dE n Γ b,dE n Γ c with
      |some g,some g',some ma,some mb,some mc=>if lastMarks [op,op'] [b,c] then none else some (zxl g g' ma mb mc)
      |_,_,_,_,_=>none)
    |.BinOp a op b _=>(match opF op,dE n Γ a,dE n Γ b with
      |some g,some ma,some mb=>some (mAp (g2 g) (za4 ma (za4 mb zac)))
      |_,_,_=>none)
    |.UnaryOp .USub a _=>(match dE n Γ a with
      |some ma=>some (mAp (g1 zsl) (za4 ma zac))
      |none=>none)
    |.UnaryOp .Not a _=>if okT a then (dE n Γ a).map zf4 else none
    |.BoolOp op vs _=>dB n Γ op vs
    |.Compare a [op] [b] _=>(match zMu op,dE n Γ a,dE n Γ b with
      |some g,some ma,some mb=>if behindInMarks op b then none else some (mAp (g2 g) (za4 ma (za4 mb zac)))
      |_,_,_=>none)
    |.IfExp c a b _=>if okT c then (match dE n Γ c,dE n Γ a,dE n Γ b with
      |some mc,some ma,some mb=>some (mIf mc ma mb)
      |_,_,_=>none) else none
    |.List es _=>(dO n Γ es).map zea
    |.Tuple es _ _=>(dA n Γ es).map zol
    |.Subscript a k _=>(match k with
      |.Slice lo hi none _=>(match dE n Γ a,dP n Γ lo,dP n Γ hi with
        |some ma,some ml,some mh=>some (slA Γ ma ml mh)
        |_,_,_=>none)
      |.Slice none none (some st) _=>(match dE n Γ a,dP n Γ (some st) with
        |some ma,some (some mk)=>some (mRv ma mk)
        |_,_=>none)
      |_=>if zgm k then none else (match dE n Γ a,dE n Γ k with
        |some ma,some mk=>some (ixA Γ a ma mk)
        |_,_=>none))
    |.Call (.Name f _) (e::es) [] _ =>
      if zd9 f && glN Γ.nm f then
        (if Γ.bl.contains f then
          (if f="isinstance" then (match es with
            |[.Name c _]=>if glN Γ.nm c && Γ.bl.contains c && zd9 c && zax e then (match zto c,dE n Γ e with
              |some t,some m=>some (mAp (g1 (zdy t)) (za4 m zac))
              |_,_=>none)
              else if glN Γ.nm c && zd9 c && zax e then (match Γ.ox.ci.lookup c,dE n Γ e with
              |some C,some m=>some (mAp (g1 (zzj C)) (za4 m zac))
              |_,_=>none)
              else none
            |_=>none)
          else (
            match setOf f e es with
            |some (a,_,_)=>if glN Γ.nm "set" && Γ.bl.contains "set" && zax a then (dE n Γ a).map λm=>mAp (g1 zHn) (za4 m zac) else none
            |none =>
            if zMr f e es then (dE n Γ e).map (λm=>zmk (mAp (g1 zcp) (za4 m zac)) (zzi m)) else
            (match zMb f,dA n Γ (e::es) with
              |some g,some ms=>some (mAp g ms)
              |_,_=>none)))
        else
         match Γ.ox.nw.lookup f with
         |some (F,ds)=>(match ds.lookup (e::es).length,dA n Γ (e::es) with
           |some dts,some ms=>some (zB6 F.g dts ms)
           |_,_=>none)
         |none =>
         (match Γ.fns.lookup f, dA n Γ (e :: es) with
          |some F,some ms=>some (zan F.g ms)
          |_,_=>none))
      else none
    |.ListComp elt [⟨tg,iter,ifs,0⟩] scope _=>dC n Γ elt tg iter ifs scope
    |_=>none
theorem zaj{n:Nat}{Γ:Gm}{e:Expr}:dE (n+1) Γ e=dEb n Γ e:=rfl
end Pu
end
set_option Elab.async false
set_option linter.all false
set_option maxRecDepth 100000
namespace Pu
open PySem PySem.Spec PyProof.Rows L2 Zw Zx
structure GxOk(G:Gx)(lv:Nat)(P:Program)(w:World)(K:PySem.W.Frag)(mg:Str->Option Value)(base:Heap)(ca:Str->Value):Prop where
 co:∀x t,G.co.lookup x=some t->∃u v,mg x=some u/\RelV v u/\∀F:Hp,Rp K F F t v R0
 cl:∀c∈G.cl,Cls K c.2.1/\∀f∈c.2.2,zbn K c.2.1 f
 mt:∀c∈G.mt,c.2.2.2.lv<=lv/\Nonempty (MetX P w K mg base c.2.1 c.1 c.2.2.2.lv c.2.2.2.ps (spP K ca c.2.2.2.g))
 nw:∀x F ds,G.nw.lookup x=some (F,ds)->F.lv+1<=lv/\∃(C:Addr) (D:NewX P w K mg base x C F.lv F.ps (spN K ca C F.g)),∀k dts,ds.lookup k=some dts->∃dvs us,zjn K D.fd F.ps us/\zbp dvs us/\∀H:Hp,Rps K H dts dvs
 sf:∀C fs,G.sf=some (C,fs)->Cls K C/\∀f∈fs,zbn K C f
 xs:∀W cs,G.xs.lookup W=some cs->∃T:ECls K mg W,∀c C,cs.lookup c=some C->ca c=.ref C/\PySem.W.subIn K (.ref C) (.ref T.C)=some true
 sb:∀D tb,G.sb.lookup D=some tb->∃A:Addr,mg D=some (.ref A)/\∀C b,tb.lookup C=some b->ExcK K C/\PySem.W.kitOne K (.ref C) (.ref A)=some b
 sv:∀D tb,G.sv.lookup D=some tb->mg D=none/\∃t,bootBuiltins D=some (.type t)/\∀C b,tb.lookup C=some b->ExcK K C/\PySem.W.kitOne K (.ref C) (.type t)=some b
 ci:∀x tb,G.ci.lookup x=some tb->∃D:Addr,mg x=some (.ref D)/\∀C b,tb.lookup C=some b->ICls K C/\PySem.W.kitOne K (.ref C) (.ref D)=some b
 x2:∀W1 W2 cs,(W1,W2,cs)∈G.x2->∃(T1:ECls K mg W1) (T2:ECls K mg W2),∀c C,cs.lookup c=some C->ca c=.ref C/\PySem.W.subIn K (.ref C) (.ref T1.C)=some false/\PySem.W.subIn K (.ref C) (.ref T2.C)=some true
structure CxOk(Γ:Gm)(X:Cx)(E:L2.St->XK)(ca:Str->Value):Prop where
 N:X.N=Γ.N
 nd:Γ.N.Nodup
 nm:X.env.scope.names=Γ.nm
 kd:X.env.scope.kind=.function
 calm:X.calm=true
 room:Room Γ.lv X.A
 ce:∀x∈Γ.ce,X.fn x=true/\Γ.nm.lookup x=some .cell
 bl:∀b∈Γ.bl,X.mg b=none
 ps:zbh X E
 po:Γ.ox.nr=false->PassesOwn (model X.prog X.w) X.A X.env X.xe
 md:Γ.ox.nr=false->zHj X E
 fs:∀f F,Γ.fns.lookup f=some F->F.lv<=Γ.lv/\Nonempty (DefX X.prog X.w X.K X.mg X.base F.lv f F.ps (spP X.K ca F.g))
 ex:∀c∈Γ.ex,∃T:ECls X.K X.mg c,ca c=.ref T.C
 ms:∀f F,Γ.mus.lookup f=some F->F.lv<=Γ.lv/\Nonempty (DefX X.prog X.w X.K X.mg X.base F.lv f F.ps (spM X.K ca F.g))
 gx:GxOk Γ.ox Γ.lv X.prog X.w X.K X.mg X.base ca
 tr:Γ.ox.df=true->X.stack=X.env::X.outer/\X.env.frame=some X.env.locals
 fr:zHk X
theorem zfq{N:List Str}{x:Str}{i:Nat}(h:zqq N x=some i):N[i]?=some x:=by
 unfold zqq at h;obtain⟨h1,h2,_⟩:=ybj.mp h;rw[ya0 h1];exact congrArg some (eq_of_beq h2)
theorem zb9{x:Str}(h:zd9 x=true):(x == ("__debug__":Str))=false/\(x == ("__classdict__":Str))=false/\x≠"__name__":=by
 unfold zd9 at h
 simp only[ya4,ybm]at h;exact⟨h.1.1,h.1.2,λz=>by
  have:=h.2;rw[z]at this;simp at this⟩
theorem ztk{sc:Scope}{x:Str}(h:visN sc.names x=true):Vis sc x:=by
 unfold visN at h;simp only[yc8,beq_iff_eq]at h
 rcases h with (h|h)|h
 ·exact .inl h
 ·exact .inr (.inl h)
 ·exact .inr (.inr h)
theorem zav{e:Expr}{es:List Expr}{env:Env}(h:zax e=true):starEach (e::es) env=(false,eval e env)::starEach es env:=by
 cases e<;>first|rfl|cases h
theorem zf6:∀{es:List Expr} {env:Env} {pos:Pos},(∀e∈es,zax e=true)->(backTo pos (starEach es env)).any (·.1)=false
 |[],env,pos,_=>rfl
 |e::es,env,pos,h=>by
  rw[zav (h e (ya8 ..))];have ih:=zf6 (es:=es) (env:=env) (pos:=pos) λx hx=>h x (ya6 _ hx)
  show(false || (backTo pos (starEach es env)).any (·.1))=false
  rw[ih]
  rfl
theorem zei:∀{n:Nat} {Γ:Gm} {es:List Expr} {ms:PSt->Option RsL},dA n Γ es=some ms->∀e∈es,zax e=true
 |0,_,_,_,h=>by cases h
 |n+1,Γ,[],_,_=>λe he=>by cases he
 |n+1,Γ,e::es,ms,h=>by
  unfold dA at h;simp only at h;split at h
  ·rename_i hs;split at h
   ·rename_i m ms' h1 h2;intro x hx;rcases yaj.mp hx with rfl|hx
    ·exact hs
    ·exact zei h2 x hx
   ·cases h
  ·cases h
section
variable {Γ:Gm}{X:Cx}{E:L2.St->XK}{ca:Str->Value}
theorem CxOk.var(C:CxOk Γ X E ca){x:Str}{i:Nat}{pos:Pos}(h:Γ.var x=some i):X.N[i]?=some x/\Vis X.env.scope x/\(x == ("__debug__":Str))=false/\(x == ("__classdict__":Str))=false:=by
 unfold Gm.var at h;split at h
 ·rename_i hp;rw[ya4]at hp;obtain⟨p1,p2,p3⟩:=zb9 hp.1;exact⟨by rw[C.N];exact zfq h,ztk (by rw[C.nm];exact hp.2),p1,p2⟩
 ·cases h
theorem CxOk.gl(C:CxOk Γ X E ca){x:Str}(h:glN Γ.nm x=true):Gl X x:=by
 unfold glN at h;show X.env.scope.names.lookup x=some .globalImplicit;rw[C.nm];exact eq_of_beq h
theorem CxOk.loc(C:CxOk Γ X E ca){x:Str}{i:Nat}(h:Γ.loc x=true)(hi:zqq Γ.N x=some i):X.N[i]?=some x/\Loc X.env.scope x/\(X.fn x=true\/X.env.scope.names.lookup x=some .local):=by
 unfold Gm.loc at h;simp only[ya4,yc8,beq_iff_eq]at h;refine⟨by rw[C.N];exact zfq hi,?_⟩
 rcases h.2 with h|h
 ·exact⟨.inl (by rw[C.nm];exact h),.inr (by rw[C.nm];exact h)⟩
 ·obtain⟨c1,c2⟩:=C.ce x (yb0.mp h);exact⟨.inr (by rw[C.nm];exact c2),.inl c1⟩
theorem CxOk.nodup(C:CxOk Γ X E ca):X.N.Nodup:=by rw[C.N];exact C.nd
theorem zDj(C:CxOk Γ X E ca){x:Str}{i:Nat}{pos:Pos}(h1:Γ.loc x=true)(h2:zqq Γ.N x=some i):PG X (.Name x pos) (tGM X.K (bNm i)):=by
 obtain⟨g1,g2,g3⟩:=C.loc h1 h2;exact g_nm C.nodup g1 g2 g3
theorem zDy(C:CxOk Γ X E ca):∀{es:List Expr} {b:List T->PSt->Option PSt},dGs Γ es=some b->PGs X es (zHo X.K b)/\(assignEach es X.env).length=es.length/\(assignEach es X.env).findIdx? (·.1)=none
 |[],b,h=>by
  cases h;exact⟨g_nil,rfl,rfl⟩
 |e::es,b,h=>by
  unfold dGs at h;split at h
  ·rename_i x p hn;have hn:=zdc hn;subst hn;split at h
   ·rename_i hl;split at h
    ·rename_i i b' h1 h2;cases h;obtain⟨q1,q2,q3⟩:=zDy C h2;refine⟨zLt (zDj C hl h1) q1 rfl,?_,?_⟩
     ·show(assignEach es X.env).length+1=es.length+1;rw[q2]
     ·show List.findIdx? (·.1) ((false,assign (.Name x p) X.env)::assignEach es X.env)=none
      rw[ydk,q3]
      rfl
    ·cases h
   ·cases h
  ·cases h
theorem zH7(C:CxOk Γ X E ca){tg:Expr}{b:T->PSt->Option PSt}(h:dG Γ tg=some b):PG X tg (tGM X.K b):=by
 unfold dG at h;split at h
 ·split at h
  ·rename_i hl;obtain⟨i,hi,rfl⟩:=ya2.mp h;exact zDj C hl hi
  ·cases h
 ·obtain⟨bs,hb,rfl⟩:=ya2.mp h;obtain⟨q1,q2,q3⟩:=zDy C hb;exact g_tup C.calm q1 q2 q3
 ·cases h
theorem zKs{op:Operator}{g:T->T->Option T}(h:opF op=some g):OpR X (binaryOp op) (rT2 X.K g):=by
 cases op<;>cases h
 ·exact zFu
 ·exact zFo
 ·exact zFq
 ·exact zFr
 ·exact zFp
 ·exact zFt
 ·exact zAv
 ·exact zAu
theorem zt7(C:CxOk Γ X E ca){op:CmpOp}{g:T->T->Option T}(h:zMu op=some g):OpR X (compareOp op) (rT2 X.K g):=by
 have hu:=C.room.units;cases op<;>cases h
 ·exact zKr hu
 ·exact zKo hu
 ·exact zob op_lt
 ·exact zob zKi
 ·exact zob op_gt
 ·exact zob op_ge
 ·exact zKp
 ·exact zx7
 ·exact zKq hu
 ·exact zx6 hu
theorem zpf(C:CxOk Γ X E ca){op:CmpOp}{g:T->T->Option T}(h:zHy op=some g):OpR X (compareOp op) (rT2 X.K g):=by
 unfold zHy at h;split at h
 ·cases h;exact zFs
 ·exact zt7 C h
theorem zGz{L:List (Str×Addr×List Str)}(hL:∀c∈L,Cls X.K c.2.1/\∀f∈c.2.2,zbn X.K c.2.1 f){f:Str}{m:PSt->Option Rs}{o:Expr}{pos:Pos}(ho:PE X o (tM X.K E ca m))(hb:attributeBase o f X.env (eval o X.env)=eval o X.env):∀{m':PSt->Option Rs},zHw f m L=some m'->PE X (.Attribute o f pos) (tM X.K E ca m'):=by
 induction L with
 |nil=>intro m' h;cases h
 |cons c r ih =>
  obtain⟨nmc,C0,fs⟩:=c;intro m' h;have ih':=@ih (λc hc=>hL c (ya6 _ hc))
  unfold zHw at h;split at h
  ·rename_i j hj;obtain⟨h1,h2⟩:=hL _ (ya8 ..)
   have hf:f∈fs:=by
    obtain⟨q1,q2,_⟩:=ybj.mp hj;rw[<- eq_of_beq q2];exact yam q1
   have p1:PE X (.Attribute o f pos) (tM X.K E ca (zih C0 fs j m)):=r_fld h1 (h2 f hf) hj ho hb;split at h
   ·rename_i m2 hm2;cases h;exact zAi p1 (ih' hm2)
   ·cases h;exact p1
  ·exact ih' h
set_option maxHeartbeats 1000001 in
theorem zza(C:CxOk Γ X E ca){f:Str}{g:List T->Option T}{e:Expr}{es:List Expr}{ms:PSt->Option RsL}{p pos:Pos}(h:zMb f=some g)(hg:glN Γ.nm f=true)(hb:f∈Γ.bl)(ha:PA X (e::es) (tMs X.K E ca ms))(hs:∀x∈e::es,zax x=true)(hp:zd9 f=true) :
  PE X (.Call (.Name f p) (e::es) [] pos) (tM X.K E ca (mAp g ms)):=by
 have G:=C.gl hg;have B:=C.bl f hb;obtain⟨p1,p2,p3⟩:=zb9 hp;have s1:=zav (es:=es) (env:=X.env) (hs e (ya8 ..));have s2:=zf6 (env:=X.env) (pos:=pos) λx hx=>hs x (ya6 e hx)
 unfold zMb at h;split at h
 ·rename_i hf;subst hf;cases h;exact zqe zz3 G B PySem.boot_len ha p3 p1 s1 s2
 split at h
 ·rename_i hf;subst hf;cases h;exact zws zvq G B yd0 ha p3 p1 s1 s2
 split at h
 ·rename_i hf;subst hf;cases h;exact zqe zz8 G B PyProof.Rows.boot_abs ha p3 p1 s1 s2
 split at h
 ·rename_i hf;subst hf;cases h;exact zws zz1 G B PyProof.Rows.boot_tuple ha p3 p1 s1 s2
 split at h
 ·rename_i hf;subst hf;cases h;exact zws zz5 G B PyProof.Rows.boot_int ha p3 p1 s1 s2
 split at h
 ·rename_i hf;subst hf;cases h;exact zqe (zz2 C.calm) G B PyProof.Rows.boot_min ha p3 p1 s1 s2
 split at h
 ·rename_i hf;subst hf;cases h;exact zqe (zz7 C.calm) G B PyProof.Rows.boot_all ha p3 p1 s1 s2
 split at h
 ·rename_i hf;subst hf;cases h;exact zqe (zz6 C.calm) G B PyProof.Rows.boot_any ha p3 p1 s1 s2
 ·cases h
theorem zvz{c:Str}{t:String}(h:zto c=some t):bootBuiltins c=some (.type t):=by
 unfold zto at h;split at h
 ·rename_i hf;subst hf;cases h;exact PyProof.Rows.boot_int
 split at h
 ·rename_i hf;subst hf;cases h;exact PyProof.Rows.boot_bool
 split at h
 ·rename_i hf;subst hf;cases h;exact PyProof.Rows.boot_str
 split at h
 ·rename_i hf;subst hf;cases h;exact yd0
 split at h
 ·rename_i hf;subst hf;cases h;exact PyProof.Rows.boot_tuple
 ·cases h
theorem zrl{N:List Str}:∀{ys:List Str} {caps:List Nat},zyw N ys=some caps->ys.length=caps.length/\∀(k j:Nat),caps[k]?=some j->∃y,ys[k]?=some y/\N[j]?=some y
 |[],caps,h=>by cases h;exact⟨rfl,λk j e=>by simp at e⟩
 |y::r,caps,h=>by
  unfold zyw at h;split at h
  ·rename_i i hi;split at h
   ·rename_i l hl;cases h;obtain⟨h1,h2⟩:=zrl hl;refine⟨by simp[h1],λk j e=>?_⟩
    cases k with
    |zero=>simp at e;subst e;exact⟨y,rfl,zfq hi⟩
    |succ k=>exact h2 k j (by simpa using e)
   ·cases h
  ·cases h
theorem zy7{nm:List (Str×NameKind)}{y:Str}(h:y∈zg3 nm):(y,NameKind.free)∈nm:=by
 unfold zg3 at h;obtain⟨⟨z,k⟩,hz,e⟩:=yc5.mp h;simp only at e;split at e
 ·rename_i hk;cases e;rw[<- eq_of_beq hk];exact hz
 ·cases e
theorem zMd(C:CxOk Γ X E ca){scope:Scope}{tg:Expr}{caps:List Nat}(h:zzc Γ scope (tgN tg++zg3 scope.names)=true)(hc:zyw Γ.N (zg3 scope.names)=some caps):BlkOk X scope (tgN tg++zg3 scope.names) (tgN tg).length caps:=by
 unfold zzc at h;simp only[ya4]at h;obtain⟨⟨⟨⟨h1,h2⟩,h3⟩,h4⟩,h5⟩:=h;obtain⟨l1,l2⟩:=zrl hc
 have free:∀y∈scope.names,y.2=.free->scope.names.lookup y.1=some .free/\(Γ.nm.lookup y.1=some .cell\/Γ.nm.lookup y.1=some .free)/\(y.1,NameKind.cell)∉scope.names:=λy hy hf=>by
  have q:=yau.mp h3 y hy;simp only[hf,beq_self_eq_true,Bool.not_true,ydo,ya4,beq_iff_eq,yc8,ybm]at q;refine⟨q.1.1,q.1.2,λz=>?_⟩
  have:=yb0.mpr z;rw[this]at q;exact Bool.noConfusion q.2
 refine⟨eq_of_beq h1,λy hy hl=>?_,by simp[l1],λk j e=>?_,λy hy hf=>?_⟩
 ·have q:=yau.mp h2 y hy;simp only[hl,beq_self_eq_true,Bool.not_true,ydo,beq_iff_eq]at q;exact q
 ·obtain⟨y,e1,e2⟩:=l2 k j e;have fm:=zy7 (yat e1);obtain⟨f1,_,f3⟩:=free _ fm rfl;refine⟨y,by rw[C.N];exact e2,?_,f1,f3⟩
  rw[yb3 (by omega)]
  simpa using e1
 ·obtain⟨f1,f2,_⟩:=free y hy hf;refine⟨f1,?_⟩;rw[C.nm];exact f2
theorem zAd{scope:Scope}{env:Env}(hk:env.scope.kind=.function):(relabel scope env).names=zqc scope.names env.scope.names:=by
 unfold relabel zqc;simp only;refine ybn λx hx=>?_
 obtain⟨n,k⟩:=x;have e:(env.scope.kind == ScopeKind.function)=true:=by rw[hk];rfl
 simp only[e,Bool.and_true]
 rfl
theorem zzb(C:CxOk Γ X E ca){scope:Scope}{N':List Str}(h:zzc Γ scope N'=true)(cl:List (Str×Addr))(A:Addr)(s₀:Shared)(H₀:Hp)(ex:List Addr)(xb:Value->Shared->Prop){E':L2.St->XK}(hp:zbh (zad X scope cl N' A s₀ H₀ ex xb) E'):CxOk (Γ.blk scope N') (zad X scope cl N' A s₀ H₀ ex xb) E' ca:=by
 unfold zzc at h;simp only[ya4]at h;obtain⟨⟨⟨⟨h1,h2⟩,h3⟩,h4⟩,h5⟩:=h;refine⟨rfl,of_decide_eq_true h4,?_,?_,C.calm,C.room,λx hx=>?_,C.bl,hp,λz=>(by cases z),λz=>(by cases z),C.fs,C.ex,C.ms,⟨C.gx.co,C.gx.cl,C.gx.mt,C.gx.nw,C.gx.sf,C.gx.xs,C.gx.sb,C.gx.sv,C.gx.ci,C.gx.x2⟩,λz=>(by cases z),C.fr⟩
 ·show(relabel scope X.env).names=zqc scope.names Γ.nm;rw[zAd C.kd,C.nm]
 ·show scope.kind=.function;exact eq_of_beq h1
 ·have hx':x∈(zyv scope.names).filter λy=>scope.names.lookup y == some .cell:=hx
  rw[yd7]at hx';refine⟨decide_eq_true (eq_of_beq hx'.2),?_⟩;exact eq_of_beq (yau.mp h5 x hx'.1)
end
structure Good(ca:Str->Value)(n:Nat):Prop where
 e:∀{Γ:Gm} {X:Cx} {E:L2.St->XK} {e:Expr} {m:PSt->Option Rs},CxOk Γ X E ca->dE n Γ e=some m->PE X e (tM X.K E ca m)
 t:∀{Γ:Gm} {X:Cx} {E:L2.St->XK} {e:Expr} {m:PSt->Option Rs},CxOk Γ X E ca->okT e=true->dE n Γ e=some m->PT X e (tMB X.K E ca m)
 a:∀{Γ:Gm} {X:Cx} {E:L2.St->XK} {es:List Expr} {m:PSt->Option RsL},CxOk Γ X E ca->dA n Γ es=some m->PA X es (tMs X.K E ca m)
 o:∀{Γ:Gm} {X:Cx} {E:L2.St->XK} {es:List Expr} {m:PSt->Option RsL},CxOk Γ X E ca->dO n Γ es=some m->PA X es (tMo X.K E ca m)
 b:∀{Γ:Gm} {X:Cx} {E:L2.St->XK} {op:BoolOp} {es:List Expr} {m:PSt->Option Rs} {pos:Pos},CxOk Γ X E ca->dB n Γ op es=some m->PE X (.BoolOp op es pos) (tM X.K E ca m)/\PW X (.BoolOp op es pos) (tMB X.K E ca m)
 p:∀{Γ:Gm} {X:Cx} {E:L2.St->XK} {o:Option Expr} {m:Option (PSt->Option Rs)},CxOk Γ X E ca->dP n Γ o=some m->PO X o (tPo X.K m)
 c:∀{Γ:Gm} {X:Cx} {E:L2.St->XK} {elt tg iter:Expr} {ifs:List Expr} {scope:Scope} {m:PSt->Option Rs} {pos:Pos},CxOk Γ X E ca->dC n Γ elt tg iter ifs scope=some m->PE X (.ListComp elt [⟨tg,iter,ifs,0⟩] scope pos) (tM X.K E ca m)
 i:∀{Γ:Gm} {X:Cx} {E:L2.St->XK} {tg e:Expr} {m:PSt->Option RsL},CxOk Γ X E ca->dI n Γ tg e=some m->PI X tg e (tI X.K E ca m)
end Pu
set_option Elab.async false
set_option linter.all false
set_option maxRecDepth 100000
namespace Pu
open PySem PySem.Spec PyProof.Rows L2 Zw Zx
def zDe:Expr->Bool
 |.Set ..=>false
 |_=>true
theorem zt3{e:Expr}{env:Env}(h:zDe e=true)(x:Value):foldedSetIterable e env x=pure x:=by
 cases e<;>first|rfl|cases h
theorem zm1:∀{n:Nat} {Γ:Gm} {tg e:Expr} {m:PSt->Option RsL},dI n Γ tg e=some m->zDe e=true:=by
 intro n Γ tg e m h;cases n with
 |zero=>cases h
 |succ n =>
  cases e with
  |Set es k p=>unfold dI at h;cases h
  |_=>rfl
theorem zu2{k:Expr}(h:zgm k=false):zpr k:=λo i=>by
 cases k<;>first|rfl|cases h
theorem zE7{e:Expr}{env:Env}(h:match e with|.UnaryOp ..=>False|.BoolOp ..=>False|.IfExp ..=>False|.Compare ..=>False|_=>True)(whole:Sem Value):isTrue e env whole=(do let v <- whole;standAt e.pos;holding [v] (truthy v)):=by
 cases e<;>first|rfl|exact False.elim h
section
variable {ca:Str->Value}{n:Nat}
theorem zur(G:Good ca n){Γ:Gm}{X:Cx}{E:L2.St->XK}{elt tg iter:Expr}{ifs:List Expr}{scope:Scope}{m:PSt->Option Rs}(C:CxOk Γ X E ca)(h:dC (n+1) Γ elt tg iter ifs scope=some m) :
  ∃caps mi b mt me,m=mLC (tgN tg).length caps mi b mt me/\BlkOk X scope (tgN tg++zg3 scope.names) (tgN tg).length caps/\PI X tg iter (tI X.K E ca mi) /\
   (∀cl A s₀ H₀ ex xb E',zbh (zad X scope cl (tgN tg++zg3 scope.names) A s₀ H₀ ex xb) E'->PG (zad X scope cl (tgN tg++zg3 scope.names) A s₀ H₀ ex xb) tg (tGM X.K b))/\(∀cl A s₀ H₀ ex xb E',zbh (zad X scope cl (tgN tg++zg3 scope.names) A s₀ H₀ ex xb) E'->PTs (zad X scope cl (tgN tg++zg3 scope.names) A s₀ H₀ ex xb) ifs (tMB X.K E' ca mt)) /\
   (∀cl A s₀ H₀ ex xb E',zbh (zad X scope cl (tgN tg++zg3 scope.names) A s₀ H₀ ex xb) E'->PE (zad X scope cl (tgN tg++zg3 scope.names) A s₀ H₀ ex xb) elt (tM X.K E' ca me))/\∀x,foldedSetIterable iter X.env x=pure x:=by
 unfold dC at h;split at h
 ·rename_i hb;split at h
  ·rename_i caps mi b me h1 h2 h3 h4;have B:=zMd C hb h1;have PB:=λcl A s₀ H₀ ex xb E' hp=>zH7 (zzb C hb cl A s₀ H₀ ex xb (E':=E') hp) h3
   have PEl:=λcl A s₀ H₀ ex xb E' hp=>G.e (zzb C hb cl A s₀ H₀ ex xb (E':=E') hp) h4
   split at h
   ·cases h;exact⟨caps,mi,b,_,me,rfl,B,G.i C h2,PB,λcl A s₀ H₀ ex xb E' _=>λpins s σ H Q I q=>zF7 pins s σ H Q I (zEd (K:=X.K) (E:=E') (ca:=ca) q),PEl,zt3 (zm1 h2)⟩
   ·split at h
    ·rename_i hok;split at h
     ·rename_i mt h5;cases h;exact⟨caps,mi,b,mt,me,rfl,B,G.i C h2,PB,λcl A s₀ H₀ ex xb E' hp=>zF6 (G.t (zzb C hb cl A s₀ H₀ ex xb (E':=E') hp) hok h5),PEl,zt3 (zm1 h2)⟩
     ·cases h
    ·cases h
   ·cases h
  ·cases h
 ·cases h
theorem good0(ca:Str->Value):Good ca 0:=by
 constructor
 ·intro Γ X E e m C h;cases h
 ·intro Γ X E e m C _ h;cases h
 ·intro Γ X E e m C h;cases h
 ·intro Γ X E e m C h;cases h
 ·intro Γ X E op e m pos C h;cases h
 ·intro Γ X E e m C h;cases h
 ·intro Γ X E elt tg iter ifs scope m pos C h;cases h
 ·intro Γ X E tg e m C h;cases h
theorem zDz(G:Good ca n){Γ:Gm}{X:Cx}{E:L2.St->XK}{a:Expr}{ops:List CmpOp}{bs:List Expr}{pos:Pos}{m:PSt->Option Rs}(C:CxOk Γ X E ca)(h:dE (n+1) Γ (.Compare a ops bs pos)=some m) :
  PE X (.Compare a ops bs pos) (tM X.K E ca m)/\PT X (.Compare a ops bs pos) (tMB X.K E ca m):=by
 cases ops with
 |nil=>rw[zaj]at h;unfold dEb at h;cases h
 |cons op r =>
  cases r with
  |cons op' r =>
   cases r with
   |cons _ _=>rw[zaj]at h;unfold dEb at h;cases h
   |nil =>
    cases bs with
    |nil=>rw[zaj]at h;unfold dEb at h;cases h
    |cons b r =>
     cases r with
     |nil=>rw[zaj]at h;unfold dEb at h;cases h
     |cons c r =>
      cases r with
      |cons _ _=>rw[zaj]at h;unfold dEb at h;cases h
      |nil =>
       rw[zaj]at h;unfold dEb at h;simp only at h;split at h
       ·rename_i g g' ma mb mc h1 h2 h3 h4 h5;split at h
        ·cases h
        ·rename_i hm;cases h;have hm':=yb5.mpr hm;exact⟨r_chn (zpf C h1) (zpf C h2) (G.e C h3) (G.e C h4) (G.e C h5) hm',zJl (zpf C h1) (zpf C h2) (G.e C h3) (G.e C h4) (G.e C h5) hm'⟩
       ·cases h
  |nil =>
   cases bs with
   |nil=>rw[zaj]at h;unfold dEb at h;cases h
   |cons b r =>
    cases r with
    |cons _ _=>rw[zaj]at h;unfold dEb at h;cases h
    |nil =>
     rw[zaj]at h;unfold dEb at h;simp only at h;split at h
     ·rename_i g ma mb h1 h2 h3;split at h
      ·cases h
      ·rename_i hm;cases h;have hm':=yb5.mpr hm;exact⟨r_cmp (zt7 C h1) (G.e C h2) (G.e C h3) hm',zJk (zt7 C h1) (G.e C h2) (G.e C h3) hm'⟩
     ·cases h
theorem zL7{n:Nat}{Γ:Gm}{elt:Expr}{gens:List Comprehension}{scope:Scope}{pos:Pos}{m:PSt->Option Rs}(h:dE (n+1) Γ (.ListComp elt gens scope pos)=some m):∃tg iter ifs,gens=[⟨tg,iter,ifs,0⟩]/\dC n Γ elt tg iter ifs scope=some m:=by
 cases gens with
 |nil=>rw[zaj]at h;unfold dEb at h;cases h
 |cons g r =>
  obtain⟨tg,iter,ifs,a⟩:=g;cases a with
  |negSucc k=>rw[zaj]at h;unfold dEb at h;cases h
  |ofNat k =>
   cases k with
   |succ k=>rw[zaj]at h;unfold dEb at h;cases h
   |zero =>
    cases r with
    |cons _ _=>rw[zaj]at h;unfold dEb at h;cases h
    |nil=>exact⟨tg,iter,ifs,rfl,by rw[zaj]at h;unfold dEb at h;exact h⟩
end
end Pu
set_option Elab.async false
set_option linter.all false
set_option maxRecDepth 100000
namespace Pu
open PySem PySem.Spec PyProof.Rows L2 Zw Zx
section
variable {ca:Str->Value}{n:Nat}
theorem zM6{n:Nat}{Γ:Gm}{ms:PSt->Option RsL}(h:dA n Γ []=some ms):ms=zac:=by
 cases n with
 |zero=>cases h
 |succ n=>unfold dA at h;cases h;rfl
theorem zG6{Γ:Gm}{X:Cx}{E:L2.St->XK}(C:CxOk Γ X E ca){f:Str}{o:Expr}{es:List Expr}{m:PSt->Option Rs}{ms:PSt->Option RsL}{ap pos:Pos}(hpo:zl9 o=true)(hln:(ap.endLine == pos.line)=true)(hlen:es.length<30)(hnil:es=[]->ms=zac)(ho:PE X o (tM X.K E ca m))(ha:PA X es (tMs X.K E ca ms))(hst:∀e∈es,zax e=true){m':PSt->Option Rs}(h:zG7 f m ms Γ.ox.mt=some m'):PE X (.Call (.Attribute o f ap) es [] pos) (tM X.K E ca m'):=by
 have key:∀L:List (Str×Addr×List Str×Fn),(∀c∈L,c∈Γ.ox.mt)->∀{m':PSt->Option Rs},zG7 f m ms L=some m'->PE X (.Call (.Attribute o f ap) es [] pos) (tM X.K E ca m'):=by
  intro L
  induction L with
  |nil=>intro _ m' h;cases h
  |cons c r ih =>
   obtain⟨g,C0,fs,F⟩:=c;intro hL m' h;have ih':=@ih (λc hc=>hL c (ya6 _ hc))
   unfold zG7 at h;split at h
   ·rename_i hc;rw[ya4,decide_eq_true_eq,ybm]at hc;obtain⟨rfl,hnf⟩:=hc;obtain⟨hlv,⟨D⟩⟩:=C.gx.mt _ (hL _ (ya8 ..))
    have p1:PE X (.Call (.Attribute o g ap) es [] pos) (tM X.K E ca (zg2 C0 fs F.g m ms)):=by
     obtain⟨pl,ht⟩:=zxe (f:=g) (ap:=ap) (pos:=pos) (es:=es) (env:=X.env) hpo (by
      have:=zf6 (env:=X.env) (pos:=pos) hst;rw[yau];intro z hz;rw[List.any_eq_false]at this
      simpa using this z hz) hlen hln
     cases es with
     |cons e es=>exact zJm D hnf C.room C.ps ho ha hlv (zav (hst e (ya8 ..))) (zf6 λx hx=>hst x (ya6 e hx)) ht
     |nil =>
      refine PE.weak (pmx0 D C.room C.ps ho hlv ht) λσ H Q h=>?_
      obtain⟨F,τ,R,S,q⟩:=zw6 hnf h;refine⟨F,τ,R,S,?_⟩;cases hm:m τ with
      |none=>rw[hm]at q;exact q
      |some r =>
       rw[hm]at q;cases r with
       |x c=>exact q
       |v t b =>
        intro F1 H1 x B e1 g1;obtain⟨a,dx,fs',h1,h2,h3,h4⟩:=q F1 H1 x B e1 g1;refine⟨a,dx,fs',h1,h2,h3,?_⟩;rw[hnil rfl]at h4;exact zg8 h4
    split at h
    ·rename_i m2 hm2;cases h;exact zAi p1 (ih' hm2)
    ·cases h;exact p1
   ·exact ih' h
 exact key _ (λ_ h=>h) h
theorem zLl{Γ:Gm}{X:Cx}{E:L2.St->XK}{tg e:Expr}{m:PSt->Option Rs}(h:PE X e (tM X.K E ca m)):PI X tg e (tI X.K E ca (itV Γ m)):=by
 unfold itV;split
 ·exact zJp h
 ·exact zD3 h
theorem zM5(G:Good ca n){Γ:Gm}{X:Cx}{E:L2.St->XK}{e:Expr}{m:PSt->Option Rs}(C:CxOk Γ X E ca)(h:dE (n+1) Γ e=some m):PE X e (tM X.K E ca m)/\(okT e=true->PT X e (tMB X.K E ca m)):=by
 have val:∀{e:Expr} {m:PSt->Option Rs},PE X e (tM X.K E ca m)->(match e with|.UnaryOp ..=>False|.BoolOp ..=>False|.IfExp ..=>False|.Compare ..=>False|_=>True)->PE X e (tM X.K E ca m)/\(okT e=true->PT X e (tMB X.K E ca m)):=λh1 h2=>⟨h1,λ_=>zD1 h1 (zE7 h2)⟩
 cases e with
 |Compare a ops bs pos=>exact⟨(zDz G C h).1,λ_=>(zDz G C h).2⟩
 |Constant c k pos =>
  cases c with
  |int i=>rw[zaj]at h;unfold dEb at h;cases h;exact val (zj5 zx1 λ_ _=>.int i) trivial
  |bool b=>rw[zaj]at h;unfold dEb at h;cases h;exact val (zj5 pe_bl λ_ _=>.bl b) trivial
  |none=>rw[zaj]at h;unfold dEb at h;cases h;exact val (zj5 zK8 λ_ _=>.non) trivial
  |str x=>rw[zaj]at h;unfold dEb at h;cases h;exact val (zj5 zK5 λ_ _=>.str x) trivial
  |_=>rw[zaj]at h;unfold dEb at h;cases h
 |Name x pos =>
  rw[zaj]at h;unfold dEb at h;simp only at h;split at h
  ·rename_i i hi;cases h;obtain⟨h1,h2,h3,h4⟩:=C.var (pos:=pos) hi;exact val (zJh h1 h2 h3 h4) trivial
  ·split at h
   ·rename_i hp;rw[ya4]at hp;obtain⟨t,ht,rfl⟩:=ya2.mp h;obtain⟨u,v,k1,k2,k3⟩:=C.gx.co x t ht;exact val (r_con (C.gl hp.2) k1 k2 (zb9 hp.1).1 k3) trivial
   ·cases h
 |Attribute o f pos =>
  rw[zaj]at h;unfold dEb at h;simp only at h;split at h
  ·rename_i hpo;split at h
   ·rename_i m1 h1;exact val (zGz C.gx.cl (G.e C h1) (zpo hpo) h) trivial
   ·cases h
  ·cases h
 |BinOp a op b pos =>
  rw[zaj]at h;unfold dEb at h;simp only at h;split at h
  ·rename_i g ma mb h1 h2 h3;cases h;exact val (r_bin (zKs h1) (G.e C h2) (G.e C h3)) trivial
  ·cases h
 |UnaryOp op a pos =>
  cases op with
  |USub =>
   rw[zaj]at h;unfold dEb at h;simp only at h;split at h
   ·rename_i ma h1;cases h;have hp:=r_un (pos:=pos) zE6 (G.e C h1);exact⟨hp,λ_=>zD1 hp λ_=>rfl⟩
   ·cases h
  |Not =>
   rw[zaj]at h;unfold dEb at h;simp only at h;split at h
   ·rename_i hok;obtain⟨ma,h1,rfl⟩:=ya2.mp h;exact⟨r_not (G.e C h1),λ_=>zJj (G.t C hok h1)⟩
   ·cases h
  |_=>rw[zaj]at h;unfold dEb at h;cases h
 |BoolOp op vs pos =>
  rw[zaj]at h;unfold dEb at h;simp only at h;obtain⟨h1,h2⟩:=G.b (pos:=pos) C h;exact⟨h1,λ_=>h2.pt⟩
 |IfExp c a b pos =>
  rw[zaj]at h;unfold dEb at h;simp only at h;split at h
  ·rename_i hok;split at h
   ·rename_i mc ma mb h1 h2 h3;cases h;exact⟨r_ife (G.t C hok h1) (G.e C h2) (G.e C h3),λz=>by cases z⟩
   ·cases h
  ·cases h
 |List es pos =>
  rw[zaj]at h;unfold dEb at h;obtain⟨ms,h1,rfl⟩:=ya2.mp h;exact val (r_lst (G.o C h1)) trivial
 |Tuple es k pos =>
  rw[zaj]at h;unfold dEb at h;obtain⟨ms,h1,rfl⟩:=ya2.mp h;exact val (zJi (G.a C h1)) trivial
 |Subscript a k pos =>
  rw[zaj]at h;unfold dEb at h;simp only at h;split at h
  ·rename_i lo hi p2;split at h
   ·rename_i ma ml mh h1 h2 h3;cases h;unfold slA;split
    ·exact val (zAi (zwq (G.e C h1) (G.p C h2) (G.p C h3)) (zAf (G.e C h1) (G.p C h2) (G.p C h3))) trivial
    exact val (zwq (G.e C h1) (G.p C h2) (G.p C h3)) trivial
   ·cases h
  ·rename_i st p2;split at h
   ·rename_i ma mk h1 h2;cases h;exact val (r_rv (G.e C h1) (G.p C h2)) trivial
   ·cases h
  ·split at h
   ·cases h
   ·rename_i hs;split at h
    ·rename_i ma mk h1 h2;cases h;unfold ixA;split
     ·exact val (r_gt (by have:=C.room.units;omega) (G.e C h1) (G.e C h2) (zu2 (yb5.mpr hs))) trivial
     exact val (r_ix (G.e C h1) (G.e C h2) (zu2 (yb5.mpr hs))) trivial
    ·cases h
 |ListComp elt gens scope pos =>
  obtain⟨tg,iter,ifs,rfl,h⟩:=zL7 h;exact val (G.c C h) trivial
 |Call f args kws pos =>
  cases f with
  |Name f p =>
   cases args with
   |nil=>rw[zaj]at h;unfold dEb at h;cases h
   |cons e es =>
    cases kws with
    |cons _ _=>rw[zaj]at h;unfold dEb at h;cases h
    |nil =>
     rw[zaj]at h;unfold dEb at h;simp only at h;split at h
     ·rename_i hp;rw[ya4]at hp;split at h
      ·rename_i hb;have hb':f∈Γ.bl:=yb0.mp hb;split at h
       ·rename_i hf;subst hf;split at h
        ·rename_i c p2;split at h
         ·rename_i hc;simp only[ya4]at hc;split at h
          ·rename_i t m' h1 h2;cases h;obtain⟨q1,q2,q3⟩:=zb9 hc.1.2;exact val (r_isT (zvz h1) (C.gl hp.2) (C.bl _ hb') (C.gl hc.1.1.1) (C.bl _ (yb0.mp hc.1.1.2)) q3 q1 (G.e C h2) (zav hc.2)) trivial
          ·cases h
         ·
          split at h
          ·rename_i hc2;simp only[ya4]at hc2;split at h
           ·rename_i CC m' h1 h2;cases h;obtain⟨_,k1,k2⟩:=C.gx.ci c CC h1;exact val (r_isC k2 (C.gl hp.2) (C.bl _ hb') (C.gl hc2.1.1) k1 (zb9 hc2.1.2).1 (G.e C h2) (zav hc2.2)) trivial
           ·cases h
          ·cases h
        ·cases h
       ·
        split at h
        ·rename_i a pa pc hst;obtain⟨rfl,rfl,rfl⟩:=zA1 hst;split at h
         ·rename_i hc;simp only[ya4]at hc;obtain⟨m1,h1,rfl⟩:=ya2.mp h;exact val (r_unq C.calm (C.gl hp.2) (C.bl _ hb') (C.gl hc.1.1) (C.bl _ (yb0.mp hc.1.2)) (G.e C h1) (zav (es:=[]) (env:=X.env) hc.2)) trivial
         ·cases h
        split at h
        ·rename_i hky;obtain⟨rfl,rfl,hat⟩:=zGi hky;obtain⟨m1,h1,rfl⟩:=ya2.mp h;have hns:zax e=true:=by cases e<;>first|rfl|cases hat
         have hst:starEach [e] X.env=[(false,eval e X.env)]:=zav (es:=[]) (env:=X.env) hns;have hb1:zMb "list"=some (g1 zcp):=by kernel_rfl
         exact val (zAi (zza C hb1 hp.2 hb' (zty (G.e C h1) zF1 hst) (λx hx=>by rw[ya9.mp hx];exact hns) hp.1) (r_kys C.calm (C.gl hp.2) (C.bl _ hb') (G.e C h1) hst)) trivial
        split at h
        ·rename_i g ms h1 h2;cases h;exact val (zza C h1 hp.2 hb' (G.a C h2) (zei h2) hp.1) trivial
        ·cases h
      ·
       split at h
       ·rename_i F ds hnw;split at h
        ·rename_i dts ms hds h2;cases h;obtain⟨hl,CC,D,hD⟩:=C.gx.nw f F ds hnw;obtain⟨dvs,us,k1,k2,k3⟩:=hD _ _ hds;obtain⟨q1,q2,q3⟩:=zb9 hp.1;have hst:=zei h2;exact val (r_new D k1 k2 k3 C.room C.ps (G.a C h2) hl (C.gl hp.2) q1 (zav (hst e (ya8 ..))) (zf6 λx hx=>hst x (ya6 e hx))) trivial
        ·cases h
       split at h
       ·rename_i F ms h1 h2;cases h;obtain⟨hl,⟨D⟩⟩:=C.fs f F h1;obtain⟨q1,q2,q3⟩:=zb9 hp.1;have hst:=zei h2;exact val (zJr D C.room C.ps (G.a C h2) hl (C.gl hp.2) q1 (zav (hst e (ya8 ..))) (zf6 λx hx=>hst x (ya6 e hx))) trivial
       ·cases h
     ·cases h
  |Attribute o m ap =>
   cases kws with
   |cons _ _=>rw[zaj]at h;unfold dEb at h;cases h
   |nil =>
    rw[zaj]at h;unfold dEb at h;simp only at h;split at h
    ·cases h
    rename_i hpo;rw[ybm,Bool.not_eq_false,ya4,ya4,decide_eq_true_eq]at hpo;obtain⟨⟨hpo,hl⟩,hlen⟩:=hpo;split at h
    ·rename_i mo ms h1 h2;split at h
     ·rename_i hf;subst hf;split at h
      ·rename_i k
       ·obtain⟨mk,h3,rfl⟩:=ya2.mp h;exact val (r_enw (G.e C h1) (G.e C h3) (zpo hpo) (zav (es:=[]) (env:=X.env) (zei h2 k (ya8 ..))) hl) trivial
      ·cases h
     split at h
     ·rename_i hf;subst hf;split at h
      ·rename_i k
       ·obtain⟨mk,h3,rfl⟩:=ya2.mp h;exact val (zJn (G.e C h1) (G.e C h3) (zpo hpo) (zav (es:=[]) (env:=X.env) (zei h2 k (ya8 ..))) hl) trivial
      ·cases h
     exact val (zG6 C hpo hl hlen (λz=>zM6 (z▸h2)) (G.e C h1) (G.a C h2) (zei h2) h) trivial
    ·cases h
  |_=>rw[zaj]at h;unfold dEb at h;cases h
 |_=>rw[zaj]at h;unfold dEb at h;cases h
theorem goodS(G:Good ca n):Good ca (n+1):=by
 constructor
 ·intro Γ X E e m C h;exact(zM5 G C h).1
 ·intro Γ X E e m C hok h;exact(zM5 G C h).2 hok
 ·intro Γ X E es m C h;unfold dA at h;cases es with
  |nil=>cases h;exact zF1
  |cons e es =>
   simp only at h;split at h
   ·rename_i hs;split at h
    ·rename_i m1 ms h1 h2;cases h;exact zty (G.e C h1) (G.a C h2) (zav hs)
    ·cases h
   ·cases h
 ·intro Γ X E es m C h;unfold dO at h;cases es with
  |nil=>cases h;exact zD2
  |cons e es =>
   simp only at h;split at h
   ·rename_i hs;split at h
    ·rename_i m1 ms h1 h2;cases h;exact zwr (G.e C h1) (G.o C h2) (zav hs)
    ·cases h
   ·cases h
 ·intro Γ X E op es m pos C h;unfold dB at h;cases es with
  |nil=>cases h
  |cons a r =>
   cases r with
   |nil =>
    simp only at h;split at h
    ·rename_i hok;refine⟨r_one (G.e C h),?_⟩;cases op with
     |And=>exact zF0 (G.t C hok h)
     |Or=>exact zEz (G.t C hok h)
    ·cases h
   |cons b r =>
    simp only at h;split at h
    ·rename_i hok;split at h
     ·rename_i ma mb h1 h2;cases h;obtain⟨b1,b2⟩:=G.b (pos:=pos) C h2;exact⟨r_and (G.e C h1) b1,zJg (G.t C hok h1) b2⟩
     ·rename_i ma mb h1 h2;cases h;obtain⟨b1,b2⟩:=G.b (pos:=pos) C h2;exact⟨r_or (G.e C h1) b1,r_wor (G.t C hok h1) b2⟩
     ·cases h
    ·cases h
 ·intro Γ X E o m C h;unfold dP at h;cases o with
  |none=>cases h;exact r_po0
  |some e =>
   simp only at h;obtain⟨m1,h1,rfl⟩:=ya2.mp h;exact r_po1 (G.e C h1)
 ·intro Γ X E elt tg iter ifs scope m pos C h;obtain⟨caps,mi,b,mt,me,rfl,B,hi,hg,ht,he,hs⟩:=zur G C h;exact r_lcV B C.calm hi C.ps C.fr hg ht he hs
 ·intro Γ X E tg e m C h
  have gen:∀{m:PSt->Option RsL},(dE n Γ e).map (itV Γ)=some m->PI X tg e (tI X.K E ca m):=λh=>by
   obtain⟨m1,h1,rfl⟩:=ya2.mp h;exact zLl (G.e C h1)
  unfold dI at h;split at h
  ·rename_i f p a pos;split at h
   ·rename_i hf;subst hf;split at h
    ·rename_i hc;simp only[ya4]at hc;obtain⟨ms,h1,rfl⟩:=ya2.mp h;exact zAh (C.gl hc.1.1) (C.bl _ (yb0.mp hc.1.2)) (G.a C h1) (zav hc.2)
    ·cases h
   ·split at h
    ·rename_i hf;subst hf;split at h
     ·rename_i hc;simp only[ya4]at hc;obtain⟨ms,h1,rfl⟩:=ya2.mp h;cases tg with
      |Tuple elts kk tpos =>
       unfold enV;split
       ·exact r_enX (C.gl hc.1.1.1) (C.bl _ (yb0.mp hc.1.1.2)) (G.a C h1) (zav hc.1.2)
       ·exact zD4 (C.gl hc.1.1.1) (C.bl _ (yb0.mp hc.1.1.2)) (G.a C h1) (zav hc.1.2)
      |_=>exact Bool.noConfusion hc.2
     ·cases h
    ·exact gen h
  ·rename_i f p a b pos;split at h
   ·rename_i hf;subst hf;split at h
    ·rename_i hc;simp only[ya4]at hc;obtain⟨ms,h1,rfl⟩:=ya2.mp h;have s2:=zav (es:=[]) (env:=X.env) hc.2;exact zAg (C.gl hc.1.1.1) (C.bl _ (yb0.mp hc.1.1.2)) (G.a C h1) (by rw[zav hc.1.2,s2];rfl) s2
    ·cases h
   ·split at h
    ·rename_i hf;subst hf;split at h
     ·rename_i hc;simp only[ya4]at hc;obtain⟨ms,h1,rfl⟩:=ya2.mp h;have s2:=zav (es:=[]) (env:=X.env) hc.1.2;cases tg with
      |Tuple elts kk tpos=>exact r_zip (C.gl hc.1.1.1.1) (C.bl _ (yb0.mp hc.1.1.1.2)) (G.a C h1) (by rw[zav hc.1.1.2,s2];rfl) s2
      |_=>exact Bool.noConfusion hc.2
     ·cases h
    ·exact gen h
  ·cases h
  ·exact gen h
theorem zLq(ca:Str->Value):∀n,Good ca n
 |0=>good0 ca
 |n+1=>goodS (zLq ca n)
end
end Pu
set_option Elab.async false
set_option linter.all false
set_option maxRecDepth 100000
namespace Pu
open PySem PySem.Spec PyProof.Rows L2 Zw Zx
structure CxS(Γ:Gm)(X:Cx)(ca:Str->Value):Prop where
 N:X.N=Γ.N
 nd:Γ.N.Nodup
 nm:X.env.scope.names=Γ.nm
 un:X.A.units+64<cLine
 bl:∀b∈Γ.bl,X.mg b=none
 gx:GxOk Γ.ox Γ.lv X.prog X.w X.K X.mg X.base ca
theorem CxS.var{Γ:Gm}{X:Cx}{ca:Str->Value}(C:CxS Γ X ca){x:Str}{i:Nat}(h:Γ.var x=some i):X.N[i]?=some x/\Vis X.env.scope x/\(x == ("__debug__":Str))=false/\(x == ("__classdict__":Str))=false:=by
 unfold Gm.var at h;split at h
 ·rename_i hp;rw[ya4]at hp;obtain⟨p1,p2,p3⟩:=zb9 hp.1;exact⟨by rw[C.N];exact zfq h,ztk (by rw[C.nm];exact hp.2),p1,p2⟩
 ·cases h
theorem CxS.gl{Γ:Gm}{X:Cx}{ca:Str->Value}(C:CxS Γ X ca){x:Str}(h:glN Γ.nm x=true):Gl X x:=by
 unfold glN at h;show X.env.scope.names.lookup x=some .globalImplicit;rw[C.nm];exact eq_of_beq h
def isOf:Expr->Option (Expr×Str×Pos×Pos×Pos)
 |.Call f es ks c=>(match zqh f,es,ks with
  |some (g,p),[a,b],[]=>if g="isinstance" then (match zqh b with
   |some (d,q)=>some (a,d,p,q,c)
   |none=>none) else none
  |_,_,_=>none)
 |_=>none
theorem zGq{t a:Expr}{d:Str}{p q c:Pos}(h:isOf t=some (a,d,p,q,c)):t=.Call (.Name "isinstance" p) [a,.Name d q] [] c:=by
 unfold isOf at h;split at h
 ·split at h
  ·rename_i h1;split at h
   ·rename_i hg;split at h
    ·rename_i h2;cases h;rw[zdc h1,zdc h2,hg]
    ·cases h
   ·cases h
  ·cases h
 ·cases h
mutual
noncomputable def dX:Nat->Gm->Expr->Option (PSt->Option Rs)
 |0,_,_=>none
 |n+1,Γ,e=>match isOf e with
  |some (a,d,_,_,_)=>if glN Γ.nm "isinstance" && Γ.bl.contains "isinstance" && glN Γ.nm d && zd9 d && zax a then (match dX n Γ a with
    |some m=>(match Γ.ox.sb.lookup d with
     |some tb=>some (mAp (g1 (zHs tb)) (za4 m zac))
     |none=>(match Γ.ox.sv.lookup d with
      |some tb=>some (mAp (g1 (zHs tb)) (za4 m zac))
      |none=>none))
    |none=>none) else none
  |none=>(match e with
   |.Name x _=>(Γ.var x).map za5
   |_=>none)
noncomputable def dXo:Nat->Gm->List Expr->Option (PSt->Option RsL)
 |0,_,_=>none
 |n+1,Γ,es=>match es with
  |[]=>some zac
  |e::es=>if zax e then (match dX n Γ e,dXo n Γ es with
   |some m,some ms=>some (zao m ms)
   |_,_=>none) else none
end
theorem zH5{ca:Str->Value}{E:L2.St->XK}:∀n:Nat,(∀{Γ:Gm} {X:Cx} {e:Expr} {m:PSt->Option Rs},CxS Γ X ca->dX n Γ e=some m->PE X e (tM X.K E ca m))/\(∀{Γ:Gm} {X:Cx} {es:List Expr} {m:PSt->Option RsL},CxS Γ X ca->dXo n Γ es=some m->PA X es (tMo X.K E ca m))
 |0=>⟨(λC h=>by cases h),(λC h=>by cases h)⟩
 |n+1=>by
  obtain⟨G1,G2⟩:=zH5 (ca:=ca) (E:=E) n;refine⟨λ{Γ X e m} C h=>?_,λ{Γ X es m} C h=>?_⟩
  ·unfold dX at h;split at h
   ·rename_i a d p q c hi;have hi:=zGq hi;subst hi;split at h
    ·rename_i hc;simp only[ya4]at hc;obtain⟨⟨⟨⟨c1,c2⟩,c3⟩,c4⟩,c5⟩:=hc;obtain⟨p1,p2,p3⟩:=zb9 c4;split at h
     ·rename_i ma h1;split at h
      ·rename_i tb ht;cases h;obtain⟨A,k1,k2⟩:=C.gx.sb d tb ht;exact zJo (C.gl c1) (C.bl _ (yb0.mp c2)) (zsj (v:=.ref A) (C.gl c3) k1 rfl p1) ⟨A,.inl rfl⟩ k2 (G1 C h1) (zav c5)
      ·split at h
       ·rename_i tb ht;cases h;obtain⟨k0,t,k1,k2⟩:=C.gx.sv d tb ht;exact zJo (C.gl c1) (C.bl _ (yb0.mp c2)) (zx3 (v:=.ty t) (C.gl c3) k0 k1 rfl p3 p1) ⟨0,.inr ⟨t,rfl⟩⟩ k2 (G1 C h1) (zav c5)
       ·cases h
     ·cases h
    ·cases h
   ·split at h
    ·obtain⟨i,hi,rfl⟩:=ya2.mp h;obtain⟨h1,h2,h3,h4⟩:=C.var hi;exact zJh h1 h2 h3 h4
    ·cases h
  ·unfold dXo at h;cases es with
   |nil=>cases h;exact zD2
   |cons e es =>
    simp only at h;split at h
    ·rename_i hs;split at h
     ·rename_i m1 ms h1 h2;cases h;exact zwr (G1 C h1) (G2 C h2) (zav hs)
     ·cases h
    ·cases h
def zx8:Expr->Bool
 |.ListComp ..=>false
 |.SetComp ..=>false
 |.DictComp ..=>false
 |_=>true
theorem zzu{e:Expr}{t:Option Expr}{l:Nat}{env:Env}(h:zx8 e=true):swapsWith e t l env=pure false:=by
 cases e<;>first|rfl|cases h
noncomputable def dXs:Nat->Gm->List Stmt->Option (PSt->Option Out)
 |0,_,_=>none
 |n+1,Γ,ss=>match ss with
  |[]=>some sNx
  |[.Return (some e) _]=>(dX n Γ e).map zc1
  |.Assign [.Name x _] e _::r=>if Γ.loc x && (Γ.nm.lookup x == some .local) && zx8 e then (match zqq Γ.N x,dX n Γ e,dXs n Γ r with
   |some i,some m,some ms=>some (zai (zco m (bNm i)) ms)
   |_,_,_=>none) else none
  |_=>none
theorem zDx{ca:Str->Value}{E:L2.St->XK}:∀n:Nat,∀{Γ:Gm} {X:Cx} {ss:List Stmt} {m:PSt->Option Out},CxS Γ X ca->dXs n Γ ss=some m->PSs X ss (tS X.K E ca false m)
 |0,Γ,X,ss,m,C,h=>by cases h
 |n+1,Γ,X,ss,m,C,h=>by
  unfold dXs at h;split at h
  ·cases h;exact zJa
  ·obtain⟨m1,h1,rfl⟩:=ya2.mp h;exact zEt (zJ7 ((zH5 n).1 C h1))
  ·rename_i xx px ee pe rr;split at h
   ·rename_i hc;simp only[ya4]at hc;split at h
    ·rename_i i m1 ms h1 h2 h3;cases h;have hl:X.env.scope.names.lookup xx=some .local:=by rw[C.nm];exact eq_of_beq hc.1.2
     exact zwk (zCw (by rw[C.N];exact C.nd) (by rw[C.N];exact zfq h1) (.inl hl) ((zH5 n).1 C h2) (zzu hc.2) (.inr hl)) (zDx n C h3)
    ·cases h
   ·cases h
  ·cases h
end Pu
set_option Elab.async false
set_option linter.all false
set_option maxRecDepth 100000
namespace Pu
open PySem PySem.Spec PyProof.Rows L2 Zw Zx
def pkB:List Str:=["len","isinstance","all","any","abs","min","max","int"]
def isLC:Expr->Bool
 |.ListComp ..=>true
 |_=>false
def zi2:Nat->List Str->Expr->List Str
 |0,_,_=>[]
 |n+1,pk,e =>
  let peek:=λ(x:Expr)=>match x with
   |.Name _ _=>[]
   |x=>zi2 n pk x
  match e with
  |.Name x _=>[x]
  |.BinOp a _ b _=>zi2 n pk a++zi2 n pk b
  |.UnaryOp _ a _=>zi2 n pk a
  |.BoolOp _ vs _=>vs.flatMap (zi2 n pk)
  |.Compare a _ bs _=>peek a++bs.flatMap peek
  |.IfExp c a b _=>zi2 n pk c++zi2 n pk a++zi2 n pk b
  |.Call (.Name f _) args [] _=>if pkB.contains f || pk.contains f then args.flatMap peek else args.flatMap (zi2 n pk)
  |.Call (.Attribute _ _ _) args [] _=>args.flatMap λa=>if isLC a then zi2 n pk a else []
  |.Subscript a k _=>(match k with
   |.Slice lo hi _ _=>zi2 n pk a++(match lo with|some e=>zi2 n pk e|none=>[])++(match hi with|some e=>zi2 n pk e|none=>[])
   |_=>peek a++zi2 n pk k)
  |.List es _=>es.flatMap (zi2 n pk)
  |.Tuple es _ _=>es.flatMap (zi2 n pk)
  |.ListComp _ [⟨_,iter,_,_⟩] scope _=>zi2 n pk iter++zg3 scope.names
  |_=>[]
def useS(pk:List Str):Stmt->List Str
 |.Expr (.Call (.Attribute (.Name _ _) _ _) [e] [] _) _=>zi2 40 pk e
 |.Expr e _=>zi2 40 pk e
 |.Return (some (.Name _ _)) _=>[]
 |.Return (some e) _=>zi2 40 pk e
 |.Assign [.Subscript (.Subscript _ k _) j _] e _=>zi2 40 pk k++zi2 40 pk j++zi2 40 pk e
 |.Assign [.Subscript _ k _] e _=>zi2 40 pk k++zi2 40 pk e
 |.Assign [_] e _=>zi2 40 pk e
 |.If c _ _ _=>zi2 40 pk c
 |.For _ it _ _ _=>zi2 40 pk it
 |.While c _ _ _=>zi2 40 pk c
 |_=>[]
def borS:Stmt->Bool
 |.If _ _ _ _=>true
 |.Assign ts _ _=>(match ts with
  |[t]=>(zqh t).isSome
  |_=>false)
 |_=>false
def borN(Γ:Gm)(e:Expr):List Nat:=((zi2 40 Γ.pk e).filter λx=>Γ.ow.contains x && Γ.mv.contains x).eraseDups.filterMap (zqq Γ.N)
def zCc(Γ:Gm)(e:Expr)(m:PSt->Option Rs):PSt->Option Rs:=zz9 (borN Γ e) m
section
variable {X:Cx}{E:L2.St->XK}{ca:Str->Value}{Γ:Gm}{m:PSt->Option Rs}{e:Expr}{σ:L2.St}{H:Hp}
theorem zrz{Q:VK}(h:tM X.K E ca (zCc Γ e m) σ H Q):tM X.K E ca m σ H Q:=zpy _ h
theorem zzs{Q:Bool->Hp->Prop}(h:tMB X.K E ca (zCc Γ e m) σ H Q):tMB X.K E ca m σ H Q:=zn6 _ h
theorem zFi(h:PE X e (tM X.K E ca m)):PE X e (tM X.K E ca (zCc Γ e m)):=PE.weak h λσ H Q h=>zrz h
theorem zF9(h:PT X e (tMB X.K E ca m)):PT X e (tMB X.K E ca (zCc Γ e m)):=λpins s σ H Q I q=>h pins s σ H Q I (zzs q)
end
def rwsS(Γ:Gm):Stmt->Bool
 |.For _ it body _ _=>(match zqh it with
  |some (y,_)=>Γ.ox.fo.contains y && (zAb body).isSome
  |none=>false)
 |_=>false
def zDp:Expr->Option (Int×Int)
 |.Tuple es _ _=>(match es with
  |[.Constant (.int a) _ _,.Constant (.int b) _ _]=>some (a,b)
  |_=>none)
 |_=>none
noncomputable def dRws(Γ:Gm)(tg it:Expr)(body els:List Stmt):Option (PSt->Option Out):=match zqh tg,zqh it,zAb body,els with
 |some (x,_),some (y,_),some (z,_,ap,c,_,e),[]=>if Γ.ox.fo.contains y && Γ.loc x && (x == z) && (ap.endLine == c.line) && (zDp e).isSome then (match Γ.var y,Γ.var x,zqq Γ.N x with
   |some i,some j,some k=>if j=k then some (zwm i j) else none
   |_,_,_=>none) else none
 |_,_,_,_=>none
theorem zH6{ca:Str->Value}{Γ:Gm}{X:Cx}{E:L2.St->XK}{tg it:Expr}{body els:List Stmt}{pos:Pos}{m:PSt->Option Out}(C:CxOk Γ X E ca)(hnr:Γ.ox.nr=false)(h:dRws Γ tg it body els=some m):PS X (.For tg it body els pos) (tS X.K E ca Γ.mu m):=by
 unfold dRws at h;split at h
 ·rename_i x px y py z zp ap c bp e h1 h2 h3;have h1:=zdc h1;have h2:=zdc h2;have h3:=zAa h3;subst h1 h2 h3;split at h
  ·rename_i hc;simp only[ya4]at hc;obtain⟨⟨⟨⟨c1,c2⟩,c3⟩,c4⟩,c5⟩:=hc;have c3:=eq_of_beq c3;subst c3;split at h
   ·rename_i i j k g1 g2 g3;split at h
    ·rename_i hjk;subst hjk;cases h;obtain⟨a1,a2,a3,a4⟩:=C.var (pos:=py) g1;obtain⟨b1,b2,b3,b4⟩:=C.var (pos:=px) g2;obtain⟨l1,l2,l3⟩:=C.loc c2 g3;unfold zDp at c5;split at c5
     ·split at c5
      ·exact zJ4 (C.po hnr) C.calm (zic a1 a2 a3 a4) (zx0 C.nodup l1 l2 l3) b1 b2 b3 b4 (zJi (zty (zj5 zx1 λ_ _=>.int _) (zty (zj5 zx1 λ_ _=>.int _) zF1 rfl) rfl)) (λτ=>rfl) rfl c4 (λ_=>rfl)
      ·cases c5
     ·cases c5
    ·cases h
   ·cases h
  ·cases h
 ·cases h
def frzs(Γ:Gm)(s:Stmt):List Nat :=
 if rwsS Γ s then [] else
 if borS s then ((useS Γ.pk s).filter λx=>Γ.ow.contains x && !(Γ.mv.contains x)).eraseDups.filterMap (zqq Γ.N) else
 ((useS Γ.pk s).filter (Γ.ow.contains ·)).eraseDups.filterMap (zqq Γ.N)
def zy6(l:List Nat)(m:PSt->Option Out):PSt->Option Out:=l.foldr (λi m=>zai (zvr i) m) m
def zef:Expr->Bool
 |.ListComp ..=>true
 |.SetComp ..=>true
 |.DictComp ..=>true
 |_=>false
def swp(Γ:Gm)(x:Str)(px:Pos):Expr->Bool
 |.ListComp _ _ scope p=>Γ.nm.lookup x == some .local && px.line == p.line && !(scope.names.any λ(n,k)=>n == x && (k == .local || k == .cell))
 |_=>false
def swn(Γ:Gm)(x:Str):Bool:=Γ.nm.lookup x == some .cell
def zHr(Γ:Gm)(x:Str)(i:Nat)(m:PSt->Option Rs):PSt->Option Out:=if Γ.ow.contains x then zki i m else zco m (bNm i)
def zl5(c:Str)(ms:PSt->Option RsL):PSt->Option Out:=λτ=>match ms τ with
 |some (.v ts _)=>if ts.length<=lim then some (.xc c τ) else none
 |some (.x c)=>some (.xc c τ)
 |none=>none
def zHh:Expr->Option (Str×Pos×Str×Pos×Expr×Pos)
 |.Call f es ks c=>(match f,es,ks with
  |.Attribute o f a,[e],[]=>(match o with
   |.Name x p=>some (x,p,f,a,e,c)
   |_=>none)
  |_,_,_=>none)
 |_=>none
theorem zCe{t:Expr}{x f:Str}{p a c:Pos}{e:Expr}(h:zHh t=some (x,p,f,a,e,c)):t=.Call (.Attribute (.Name x p) f a) [e] [] c:=by
 unfold zHh at h;split at h
 ·split at h
  ·split at h
   ·cases h;rfl
   ·cases h
  ·cases h
 ·cases h
def zHb:Expr->Option (Str×Pos×Str×Pos×Pos)
 |.Call f es ks c=>(match f,es,ks with
  |.Attribute o f a,[],[]=>(match o with
   |.Name x p=>some (x,p,f,a,c)
   |_=>none)
  |_,_,_=>none)
 |_=>none
theorem zC3{t:Expr}{x f:Str}{p a c:Pos}(h:zHb t=some (x,p,f,a,c)):t=.Call (.Attribute (.Name x p) f a) [] [] c:=by
 unfold zHb at h;split at h
 ·split at h
  ·split at h
   ·cases h;rfl
   ·cases h
  ·cases h
 ·cases h
def zEg:Expr->Option ((Str×Pos)×Expr×Pos)
 |.Subscript a k p=>(match zqh a with
  |some x=>some (x,k,p)
  |none=>none)
 |_=>none
theorem zzw{t k:Expr}{x:Str}{q p:Pos}(h:zEg t=some ((x,q),k,p)):t=.Subscript (.Name x q) k p:=by
 unfold zEg at h;split at h
 ·split at h
  ·rename_i h1;cases h;rw[zdc h1]
  ·cases h
 ·cases h
def zEw(a b:Option Expr):Option (Str×Pos×Expr×List Expr×Pos):=match a,b with
 |some a,none=>(match a with
  |.Call f es ks c=>(match zqh f,es,ks with
   |some (x,p),e::es,[]=>some (x,p,e,es,c)
   |_,_,_=>none)
  |_=>none)
 |_,_=>none
theorem zA8{a b:Option Expr}{x:Str}{p c:Pos}{e:Expr}{es:List Expr}(h:zEw a b=some (x,p,e,es,c)):a=some (.Call (.Name x p) (e::es) [] c)/\b=none:=by
 unfold zEw at h;split at h
 ·split at h
  ·split at h
   ·rename_i h1;cases h;exact⟨by rw[zdc h1],rfl⟩
   ·cases h
  ·cases h
 ·cases h
def isD0:Expr->Bool
 |.Dict ks vs _=>ks.isEmpty && vs.isEmpty
 |_=>false
theorem zGr{e:Expr}(h:isD0 e=true):∃p,e=.Dict [] [] p:=by
 unfold isD0 at h;split at h
 ·rename_i ks vs p;rw[ya4]at h;exact⟨p,by rw[ydx.mp h.1,ydx.mp h.2]⟩
 ·cases h
def atOf:Expr->Option ((Str×Pos)×Str×Pos)
 |.Attribute o f p=>(match zqh o with
  |some x=>some (x,f,p)
  |none=>none)
 |_=>none
theorem zHf{t:Expr}{x f:Str}{q p:Pos}(h:atOf t=some ((x,q),f,p)):t=.Attribute (.Name x q) f p:=by
 unfold atOf at h;split at h
 ·split at h
  ·rename_i h1;cases h;rw[zdc h1]
  ·cases h
 ·cases h
noncomputable def dFld(n:Nat)(Γ:Gm)(x f:Str)(e:Expr):Option (PSt->Option Out):=match Γ.ox.sf,Γ.var x with
 |some (C,fs),some i=>(match fs.findIdx? (· == f) with
  |some j=>if (fs.take j).contains f || !(decide (j<900)) || zef e then none else if isD0 e then some (zj4 C fs j i zB7) else (dE n Γ e).map (zj4 C fs j i)
  |none=>none)
 |_,_=>none
noncomputable def dDpf(n:Nat)(Γ:Gm)(x f:Str)(k e:Expr):Option (PSt->Option Out):=match Γ.ox.sf,Γ.var x with
 |some (C,fs),some i=>(match fs.findIdx? (· == f) with
  |some j=>if zgm k || zef e then none else (match dE n Γ k,dE n Γ e with
   |some mk,some m=>some (zJb C fs j i mk m)
   |_,_=>none)
  |none=>none)
 |_,_=>none
noncomputable def dAsg(n:Nat)(Γ:Gm)(t e:Expr):Option (PSt->Option Out):=match t with
    |.Name x px=>if Γ.loc x then (
     match zqq Γ.N x,dE n Γ e with
      |some i,some m=>if zef e && !(swp Γ x px e) && !(swn Γ x) then none else some (zHr Γ x i (zCc Γ e m))
      |_,_=>none) else none
    |.Tuple ts kt pt=>(
      if zud e || zef e then none else (match dG Γ (.Tuple ts kt pt),dE n Γ e with
        |some b,some m=>some (zco m b)
        |_,_=>none))
    |.Subscript a j _=>(match zEg a with
      |some ((x,_),k,_) =>
        none
      |none=>(match zqh a with
        |some (x,_)=>if zgm j || zef e then none else (match Γ.var x,dE n Γ j,dE n Γ e with
          |some i,some mk,some m=>some (zHq i mk m)
          |_,_,_=>none)
        |none=>(match atOf a with
          |some ((x,_),f,_)=>dDpf n Γ x f j e
          |none=>none)))
    |.Attribute o f _=>(match zqh o with
      |some (x,_)=>dFld n Γ x f e
      |none=>none)
    |_=>none
mutual
noncomputable def dS:Nat->Gm->Stmt->Option (PSt->Option Out)
  |0,_,_=>none
  |n+1,Γ,s=>match s with
    |.Pass _=>some sNx
    |.Break _=>some sBk
    |.Continue _=>some sCt
    |.Return o _=>(match o with
      |none=>if Γ.mu then some ztu else some zEv
      |some e=>if Γ.mu then (dE n Γ e).map zA6 else (dE n Γ e).map zc1)
    |.Expr e _=>(match zHh e with
      |some (x,_,f,apos,a,cpos)=>if zax a && (apos.endLine == cpos.line) then (
       match Γ.var x,dE n Γ a with
        |some i,some m=>if f="append" then some (ztv i m) else
          if f="extend" then some (zzg i m) else
          none
        |_,_=>none) else none
      |none=>(match zHb e with
        |some (x,_,f,apos,cpos) =>
          if f="clear" && (apos.endLine == cpos.line) then (Γ.var x).map zJc else
          none
        |none=>(
          if zef e then none else (dE n Γ e).map zzh)))
    |.Assign ts e _=>(match ts with
      |[t]=>dAsg n Γ t e
      |_=>none)
    |.If c a b _=>(
      if okT c then (match dE n Γ c,dSs n Γ a,dSs n Γ b with
        |some mc,some u,some w=>some (sIf (zCc Γ c mc) u w)
        |_,_,_=>none) else none)
    |.For tg it body els _=>if Γ.ox.nr then none else (
      match dRws Γ tg it body els with
      |some m=>some m
      |none =>
      (match els with
        |[]=>(match dI n Γ tg it,dG Γ tg,dSs n Γ body with
          |some mi,some b,some u=>some (zgf mi b u)
          |_,_,_=>none)
        |_=>none))
    |.While c body els _=>none
    |.Raise a b _ =>
     (match zEw a b with
      |some (c,_,e,es,_)=>if !(Γ.ox.nr) && Γ.ex.contains c && glN Γ.nm c && zd9 c then (dA n Γ (e::es)).map (zl5 c) else none
      |none=>none)
    |.Try body hs els fin _=>(match hs,els,fin with
      |[.ExceptHandler (some t) (some x) (b0::suite) _],[],[]=>(match zqh t with
        |some (W,_)=>if Γ.ox.df && !(Γ.ox.nr) && !(Γ.mu) && (Γ.nm.lookup x == some .local) && glN Γ.nm W && zd9 W then (match zqq Γ.N x,Γ.ox.xs.lookup W,dSs n { Γ with ox:={ Γ.ox with nr:=true } } body,dXs n Γ (b0::suite) with
            |some i,some cs,some u,some h=>some (zHp i cs u h)
            |_,_,_,_=>none) else none
        |none=>none)
      |_,_,_=>none)
    |_=>none
noncomputable def dSs:Nat->Gm->List Stmt->Option (PSt->Option Out)
 |0,_,_=>none
 |n+1,Γ,ss=>match ss with
  |[]=>some sNx
  |[s]=>(match dS n Γ s with
   |some m=>some (zy6 (frzs Γ s) m)
   |none=>if Γ.ox.no then some sNo else none)
  |s::r=>(match dS n Γ s,dSs n Γ r with
   |some m,some ms=>some (zy6 (frzs Γ s) (zai m ms))
   |none,some ms=>if Γ.ox.no then some (zai sNo ms) else none
   |_,none=>none)
end
section
variable {X:Cx}{E:L2.St->XK}{ca:Str->Value}{Γ:Gm}{mu:Bool}
theorem zo4{rest:List Stmt}{w:PSt->Option Out}(h:PSs X rest (tS X.K E ca mu w)):∀l:List Nat,PSs X rest (tS X.K E ca mu (zy6 l w))
 |[]=>h
 |i::r=>s_frz (zo4 h r)
theorem zkg{e:Expr}{t:Option Expr}{l:Nat}{env:Env}(h:zef e=false):swapsWith e t l env=pure false:=by
 cases e<;>first|rfl|cases h
theorem zrq{env:Env}(h:env.scope.kind=.function):env.blockKind=.function:=by
 unfold Env.blockKind;rw[h]
 rfl
theorem zzt(C:CxOk Γ X E ca){elt:Expr}{gens:List Comprehension}{scope:Scope}{p px:Pos}{x:Str}{l:Nat}(h:swp Γ x px (.ListComp elt gens scope p)=true):swapsWith (.ListComp elt gens scope p) (some (.Name x px)) l X.env=pure true:=by
 have e:swapsWith (.ListComp elt gens scope p) (some (.Name x px)) l X.env=pure (X.env.blockKind == .function && X.env.kindOf x == some .local && px.line == p.line && !(scope.names.any λ(n,k)=>n == x && (k == .local || k == .cell))):=rfl
 rw[e];unfold swp at h
 simp only[ya4]at h;have k:X.env.kindOf x=some .local:=by
  show X.env.scope.names.lookup x=some .local;rw[C.nm];exact eq_of_beq h.1.1
 rw[zrq C.kd,k,h.1.2,h.2]
 rfl
theorem zEf(C:CxOk Γ X E ca){e:Expr}{px:Pos}{x:Str}{l:Nat}(h:swn Γ x=true):swapsWith e (some (.Name x px)) l X.env=pure false:=by
 have k:X.env.kindOf x=some .cell:=by
  show X.env.scope.names.lookup x=some .cell;rw[C.nm];exact eq_of_beq h
 have c:(some NameKind.cell == some NameKind.local)=false:=rfl;cases e<;>first|rfl|(unfold swapsWith;simp only[k,c,Bool.and_false,ydh])
theorem sole{t e:Expr}{l:Nat}{env:Env}(h:zef e=false):swapsWithSole [t] e l env=pure false:=zkg h
theorem zw8{o k:Expr}{pos:Pos}{env:Env}(h:zgm k=false)(v:Value):assign (.Subscript o k pos) env v=(do
   let ov <- holding [v] (eval o env);let iv <- holding [v,ov] (eval k env)
   standAt pos
   holding [v,ov,iv] (setItem ov iv v)
   release [v,ov,iv] []):=by
 cases k<;>first|rfl|cases h
theorem s_lcS{n:Nat}{elt:Expr}{gens:List Comprehension}{scope:Scope}{p px pos:Pos}{x:Str}{i:Nat}{m:PSt->Option Rs}(C:CxOk Γ X E ca)(h:dE n Γ (.ListComp elt gens scope p)=some m)(hw:swp Γ x px (.ListComp elt gens scope p)=true)(hi:zqq Γ.N x=some i) :
  PS X (.Assign [.Name x px] (.ListComp elt gens scope p) pos) (tS X.K E ca mu (zHr Γ x i (zCc Γ (.ListComp elt gens scope p) m))):=by
 have lx:X.env.scope.names.lookup x=some .local:=by
  unfold swp at hw;simp only[ya4]at hw;rw[C.nm];exact eq_of_beq hw.1.1
 have hN:X.N[i]?=some x:=by rw[C.N];exact zfq hi
 have main:PS X (.Assign [.Name x px] (.ListComp elt gens scope p) pos) (λD σ H=>tM X.K E ca m σ H λv H1=>D.nx (σ.set i (some v)) H1):=by
  cases n with
  |zero=>cases h
  |succ n =>
   obtain⟨tg,iter,ifs,rfl,h⟩:=zL7 h;cases n with
   |zero=>cases h
   |succ n =>
    obtain⟨caps,mi,b,mt,me,rfl,B,hi',hg,ht,he,hs⟩:=zur (zLq ca n) C h;exact r_lcS B C.calm hi' C.ps C.fr hg ht he hs C.nodup hN lx (zzt C hw)
 unfold zHr;split
 ·exact PS.weak main λD σ H h=>zrz (zCm h)
 ·exact PS.weak main λD σ H h=>zrz (zw3 (g:=zvj i) (λ_ _ _ _ z=>zug z) h)
theorem s_asg{n:Nat}{e:Expr}{px pos:Pos}{x:Str}{i:Nat}{m:PSt->Option Rs}(C:CxOk Γ X E ca)(hl:Γ.loc x=true)(hi:zqq Γ.N x=some i)(h:dE n Γ e=some m)(hc:(zef e && !(swp Γ x px e) && !(swn Γ x))=false) :
  PS X (.Assign [.Name x px] e pos) (tS X.K E ca mu (zHr Γ x i (zCc Γ e m))):=by
 have plain:(∀l,swapsWith e (some (.Name x px)) l X.env=pure false)->PS X (.Assign [.Name x px] e pos) (tS X.K E ca mu (zHr Γ x i (zCc Γ e m))):=λsw=>by
  obtain⟨g1,g2,g3⟩:=C.loc hl hi;have he:=zFi (Γ:=Γ) ((zLq ca n).e C h);unfold zHr;split
  ·exact zJ9 C.nodup g1 g2 he (sw _) g3
  ·exact zCw C.nodup g1 g2 he (sw _) g3
 cases hcomp:zef e with
 |false=>exact plain λl=>zkg hcomp
 |true =>
  rw[hcomp]at hc;cases hn:swn Γ x with
  |true=>exact plain λl=>zEf C hn
  |false =>
   rw[hn]at hc;have hw:swp Γ x px e=true:=by simpa using hc
   cases e with
   |ListComp elt gens scope p=>exact s_lcS C h hw hi
   |_=>cases hw
theorem s_rse{c:Str}{e:Expr}{es:List Expr}{ms:PSt->Option RsL}{p cpos pos:Pos}(C:CxOk Γ X E ca)(hnr:Γ.ox.nr=false)(hc:c∈Γ.ex)(hg:glN Γ.nm c=true)(hp:zd9 c=true)(ha:PA X (e::es) (tMs X.K E ca ms))(hs:∀x∈e::es,zax x=true) :
  PS X (.Raise (some (.Call (.Name c p) (e::es) [] cpos)) none pos) (tS X.K E ca mu (zl5 c ms)):=by
 obtain⟨T,hT⟩:=C.ex c hc;obtain⟨p1,p2,p3⟩:=zb9 hp;refine PS.weak (zAm T C.calm (C.md hnr) ha (C.gl hg) p1 (zav (hs e (ya8 ..))) (zf6 hs)) λD σ H h=>?_
 obtain⟨F,τ,R,S,q⟩:=h;refine⟨F,τ,R,S,?_⟩;unfold zl5 at q;cases hm:ms τ with
 |none=>simp only[hm]at q
 |some r =>
  simp only[hm]at q;cases r with
  |x c=>exact λF' H' e=>q F' H' σ R e.stp0 (S.ext e)
  |v ts b =>
   intro F' H' xs e1 rs
   by_cases hz:ts.length<=lim
   ·simp only[hz,if_true]at q;refine⟨by rw[<- rs.1,<- zez];exact hz,?_⟩
    have:=q F' H' σ R e1.stp0 (S.ext e1);rw[hT]at this;exact this
   ·simp only[hz,if_false]at q
structure GoodS(ca:Str->Value)(n:Nat):Prop where
 s:∀{Γ:Gm} {X:Cx} {E:L2.St->XK} {st:Stmt} {m:PSt->Option Out},CxOk Γ X E ca->dS n Γ st=some m->PS X st (tS X.K E ca Γ.mu m)
 ss:∀{Γ:Gm} {X:Cx} {E:L2.St->XK} {st:List Stmt} {m:PSt->Option Out},CxOk Γ X E ca->dSs n Γ st=some m->PSs X st (tS X.K E ca Γ.mu m)
end
theorem zH9{ca:Str->Value}{n:Nat}{Γ:Gm}{X:Cx}{E:L2.St->XK}{t e:Expr}{pos:Pos}{m:PSt->Option Out}(C:CxOk Γ X E ca)(h:dAsg n Γ t e=some m):PS X (.Assign [t] e pos) (tS X.K E ca Γ.mu m):=by
 have GE:=zLq ca n;unfold dAsg at h;split at h
 ·rename_i x px;split at h
  ·rename_i hl;split at h
   ·rename_i i m1 h1 h2;split at h
    ·cases h
    ·rename_i hc;cases h;exact s_asg C hl h1 h2 (yb5.mpr hc)
   ·cases h
  ·cases h
 ·rename_i ts kt pt;split at h
  ·cases h
  ·rename_i hc;split at h
   ·rename_i b m1 h1 h2;cases h;have hc':(zud e || zef e)=false:=yb5.mpr hc
    rw[ybq]at hc';refine zJ3 (GE.e C h2) (zH7 C h1) ?_ ?_ rfl
    ·exact sole hc'.2
    ·have ht:=hc'.1;cases e<;>first|rfl|cases ht
   ·cases h
 ·rename_i a j p3;split at h
  ·rename_i x p1 k p2 hsub;have hsub:=zzw hsub;subst hsub;cases h
  ·split at h
   ·rename_i x p1 hnm;have hnm:=zdc hnm;subst hnm;split at h
    ·cases h
    ·rename_i hc;split at h
     ·rename_i i mk m1 h1 h2 h3;have hc':(zgm j || zef e)=false:=yb5.mpr hc
      rw[ybq]at hc';obtain⟨v1,v2,v3,v4⟩:=C.var (pos:=p1) h1;cases h;refine s_sto v1 v2 v3 v4 (GE.e C h3) (GE.e C h2) (sole hc'.2) ?_ (zw8 hc'.1);cases e<;>rfl
     ·cases h
   ·split at h
    ·rename_i x p1 f p2 hat;have hat:=zHf hat;subst hat;unfold dDpf at h;split at h
     ·rename_i CC fs i hsf hv;split at h
      ·rename_i jj hj;split at h
       ·cases h
       ·rename_i hc;have hc':(zgm j || zef e)=false:=yb5.mpr hc
        rw[ybq]at hc';split at h
        ·rename_i mk m1 h1 h2;cases h;obtain⟨v1,v2,v3,v4⟩:=C.var (pos:=p1) hv;obtain⟨k1,k2⟩:=C.gx.sf CC fs hsf
         have hf:f∈fs:=by
          obtain⟨q1,q2,_⟩:=ybj.mp hj;rw[<- eq_of_beq q2];exact yam q1
         refine s_dpf (by have:=C.room.units;omega) k1 (k2 f hf) hj v1 v2 v3 v4 (GE.e C h2) (GE.e C h1) (sole hc'.2) ?_ (zw8 hc'.1)
         cases e<;>rfl
        ·cases h
      ·cases h
     ·cases h
    ·cases h
 ·rename_i o f p2;split at h
  ·rename_i x p1 hn;have hn:=zdc hn;subst hn;unfold dFld at h;split at h
   ·rename_i CC fs i hsf hv;split at h
    ·rename_i jj hj;split at h
     ·cases h
     ·rename_i hc;have hc':((fs.take jj).contains f || !(decide (jj<900)) || zef e)=false:=yb5.mpr hc
      rw[ybq,ybq,Bool.not_eq_false',decide_eq_true_eq]at hc';obtain⟨⟨c1,c2⟩,c3⟩:=hc';obtain⟨v1,v2,v3,v4⟩:=C.var (pos:=p1) hv;obtain⟨k1,k2⟩:=C.gx.sf CC fs hsf;obtain⟨q1,q2,_⟩:=ybj.mp hj
      have hf:f∈fs:=by
       rw[<- eq_of_beq q2];exact yam q1
      have hg:fs[jj]?=some f:=by rw[ya0 q1];exact congrArg some (eq_of_beq q2)
      split at h
      ·rename_i h0;obtain⟨p0,rfl⟩:=zGr h0;cases h;exact zCx k1 (k2 f hf) hg c1 c2 v1 v2 v3 v4 zJq rfl
      ·obtain⟨m1,h1,rfl⟩:=ya2.mp h;exact zCx k1 (k2 f hf) hg c1 c2 v1 v2 v3 v4 (GE.e C h1) (zkg c3)
    ·cases h
   ·cases h
  ·cases h
 ·cases h
theorem dS_ok{ca:Str->Value}{n:Nat}(G:GoodS ca n){Γ:Gm}{X:Cx}{E:L2.St->XK}{st:Stmt}{m:PSt->Option Out}(C:CxOk Γ X E ca)(h:dS (n+1) Γ st=some m):PS X st (tS X.K E ca Γ.mu m):=by
 have GE:=zLq ca n;unfold dS at h;split at h
 ·cases h;exact zJ8
 ·cases h;exact zEu
 ·cases h;exact zv5
 ·split at h
  ·split at h
   ·rename_i hmu;cases h;rw[hmu];exact zEs
   ·rename_i hmu;cases h;rw[yb5.mpr hmu];exact zJ5
  ·split at h
   ·rename_i hmu;obtain⟨m1,h1,rfl⟩:=ya2.mp h;rw[hmu];exact zJ6 (GE.e C h1)
   ·rename_i hmu;rw[yb5.mpr hmu];obtain⟨m1,h1,rfl⟩:=ya2.mp h;exact zJ7 (GE.e C h1)
 ·split at h
  ·rename_i x p f apos e cpos happ;have happ:=zCe happ;subst happ;split at h
   ·rename_i hc;rw[ya4]at hc;split at h
    ·rename_i i m1 h1 h2;obtain⟨v1,v2,v3,v4⟩:=C.var (pos:=p) h1;have s1:=zav (es:=[]) (env:=X.env) hc.1;split at h
     ·rename_i hf;subst hf;cases h;exact s_app v1 v2 v3 v4 (GE.e C h2) s1 hc.2
     ·split at h
      ·rename_i hf;subst hf;cases h;exact s_ext v1 v2 v3 v4 (GE.e C h2) s1 hc.2
      ·cases h
    ·cases h
   ·cases h
  ·split at h
   ·rename_i x p f apos cpos hclr;have hclr:=zC3 hclr;subst hclr;split at h
    ·rename_i hc;rw[ya4,decide_eq_true_eq]at hc;obtain⟨rfl,hl⟩:=hc;obtain⟨i,h1,rfl⟩:=ya2.mp h;obtain⟨v1,v2,v3,v4⟩:=C.var (pos:=p) h1;exact s_clr v1 v2 v3 v4 hl
    ·cases h
   ·
    split at h
    ·cases h
    ·rename_i hc;obtain⟨m1,h1,rfl⟩:=ya2.mp h;exact s_exp (GE.e C h1) (zkg (yb5.mpr hc))
 ·split at h
  ·exact zH9 C h
  ·cases h
 ·rename_i c a b pos;split at h
  ·rename_i hok;split at h
   ·rename_i mc u w h1 h2 h3;cases h;exact s_if (zF9 (GE.t C hok h1)) (G.ss C h2) (G.ss C h3)
   ·cases h
  ·cases h
 ·split at h
  ·cases h
  rename_i hnr;split at h
  ·rename_i hf;cases h;exact zH6 C (yb5.mpr hnr) hf
  split at h
  ·split at h
   ·rename_i mi b u h1 h2 h3;cases h;exact s_for (C.po (yb5.mpr hnr)) C.calm (GE.i C h1) (zH7 C h2) (G.ss C h3) (zt3 (zm1 h1))
   ·cases h
  ·cases h
 ·cases h
 ·
  split at h
  ·rename_i c p e es cpos hr;obtain⟨rfl,rfl⟩:=zA8 hr;split at h
   ·rename_i hc;simp only[ya4,ybm]at hc;obtain⟨ms,h1,rfl⟩:=ya2.mp h;exact s_rse C hc.1.1.1 (yb0.mp hc.1.1.2) hc.1.2 hc.2 (GE.a C h1) (zei h1)
   ·cases h
  ·cases h
 ·rename_i body hs els fin pos;split at h
  ·rename_i t x b0 suite hpos;split at h
   ·rename_i W np hW;have hW:=zdc hW;subst hW;split at h
    ·rename_i hc;simp only[ya4,ybm]at hc;obtain⟨⟨⟨⟨⟨c1,c2⟩,c3⟩,c4⟩,c5⟩,c6⟩:=hc;split at h
     ·rename_i i cs u hh h1 h2 h3 h4;cases h;obtain⟨T,hT⟩:=C.gx.xs W cs h2;obtain⟨t1,t2⟩:=C.tr c1;rw[c3];refine s_try (mu:=false) T hT t1 t2 C.nodup (by rw[C.N];exact zfq h1) (by rw[C.nm];exact eq_of_beq c4) (λE' pins xe hp=>?_) (λa=>?_) (C.gl c5) (zb9 c6).1
      ·have C':CxOk { Γ with ox:={ Γ.ox with nr:=true } } (zp8 X pins xe) E' ca:=⟨C.N,C.nd,C.nm,C.kd,C.calm,C.room,C.ce,C.bl,hp,λz=>(by cases z),λz=>(by cases z),C.fs,C.ex,C.ms,⟨C.gx.co,C.gx.cl,C.gx.mt,C.gx.nw,C.gx.sf,C.gx.xs,C.gx.sb,C.gx.sv,C.gx.ci,C.gx.x2⟩,C.tr,C.fr⟩
       have g:=G.ss C' h3;have e:(({ Γ with ox:={ Γ.ox with nr:=true } }:Gm)).mu=false:=c3
       rw[e]at g;exact g
      ·have CS:CxS Γ (zft X a) ca:=⟨C.N,C.nd,C.nm,C.room.units,C.bl,C.gx⟩;exact zDx n CS h4
     ·cases h
    ·cases h
   ·cases h
  ·cases h
 ·cases h
theorem zxz(ca:Str->Value):∀n,GoodS ca n
 |0=>⟨(λC h=>by cases h),(λC h=>by cases h)⟩
 |n+1=>by
  have G:=zxz ca n;refine⟨λC h=>dS_ok G C h,λ{Γ X E st m} C h=>?_⟩
  unfold dSs at h;cases st with
  |nil=>cases h;exact zJa
  |cons s r =>
   cases r with
   |nil =>
    simp only at h;split at h
    ·rename_i m1 h1;cases h;exact zo4 (zEt (G.s C h1)) _
    ·split at h
     ·cases h;exact zEt s_no
     ·cases h
   |cons s2 r =>
    simp only at h;split at h
    ·rename_i m1 ms h1 h2;cases h;exact zo4 (zwk (G.s C h1) (G.ss C h2)) _
    ·rename_i ms h1 h2;split at h
     ·cases h;exact zwk s_no (G.ss C h2)
     ·cases h
    ·cases h
def runF(n:Nat)(u:PSt->Option Out)(ts:List T):Option Ru:=match u (ts.map some++List.replicate (n - ts.length) none) with
 |some (.rt t)=>some (.ok t)
 |some (.nx _)=>some (.ok .non)
 |some (.xc c _)=>some (.exc c)
 |_=>none
def zda(k n:Nat)(u:PSt->Option Out)(ts:List T):Option Ru:=if ts.length=k then runF n u ts else none
theorem zs0{F H F' H':Hp}{O':Rg}{R:Nat->Rg}(hR:∀i a,¬ R i a)(s:Stp F H (tot R) F' H' O'):Ext F H F' H' O' where
 hh:=λb u e=>s.kp b u (λ⟨i,z⟩=>hR i b z) e
 ff:=s.ff
 fh:=s.fh
 nb:=λb z=>(s.nw b z).elim (λ⟨i,w⟩=>absurd w (hR i b)) id
 nf:=λb u e=>(s.nf b u e).elim .inl λz=>z.elim (λ⟨i,w⟩=>absurd w (hR i b)) .inr
theorem zzx{K:PySem.W.Frag}{F H:Hp}{N:List Str}{ts:List T}{vs:List V}(fh:zbl F H)(r:Rps K F ts vs):StR K F H (start N vs) (ts.map some++List.replicate (N.length - ts.length) none) (λ_=>R0):=by
 have hl:=r.1;refine⟨fh,by simp[L2.start,hl],λi t e=>?_,λ_ _ z=>z.elim,λ_ _ _ _ z=>z.elim⟩
 unfold L2.start
 by_cases hi:i<ts.length
 ·rw[yaz (by simpa using hi),ya3]at e
  obtain⟨t',e1,e2⟩:=ya2.mp e;cases e2;have hv:i<vs.length:=by omega
  refine⟨vs[i],?_,(r.2 i t vs[i] e1 (ya0 hv)).any⟩;rw[yaz (by simpa using hv),ya3,ya0 hv]
  rfl
 ·rw[yb3 (by simp;omega)]at e
  obtain⟨h1,h2⟩:=ya5.mp e;simp at h2
theorem zr3{P:Program}{w:World}{K:PySem.W.Frag}{mg:Str->Option Value}{base:Heap}{ca:Str->Value}{x qual:Str}{st:Stmt}{f:Addr}{fd:FuncData}{N ps:List Str}{k n:Nat}{Γ:Gm}{u:PSt->Option Out}(F:FunD K x qual st f fd)(S:FnScope N ps (za2 st))
  (hΓ:Γ.N=N) (hnm:Γ.nm=(za2 st).names) (hce:∀x∈Γ.ce,Γ.nm.lookup x=some .cell) (hlv:Γ.lv=k) (hbl:∀b∈Γ.bl,mg b=none)
  (hfs:∀f F,Γ.fns.lookup f=some F->F.lv<=k/\Nonempty (DefX P w K mg base F.lv f F.ps (spP K ca F.g))) (hex:∀c∈Γ.ex,∃T:ECls K mg c,ca c=.ref T.C)
  (hms:∀f F,Γ.mus.lookup f=some F->F.lv<=k/\Nonempty (DefX P w K mg base F.lv f F.ps (spM K ca F.g))) (hmu:Γ.mu=false) (hgx:GxOk Γ.ox k P w K mg base ca) (hu:dSs n Γ (zab st)=some u):FnOk P w K mg base (CX1 P w) (k+1) f fd ps (spP K ca (zda ps.length N.length u)):=by
 refine okX F S (λvs H Q E h=>?_) λcdv A outer s H vs Q E hr h=>?_
 ·obtain⟨F',ts,_,r,q⟩:=h;unfold zda at q
  by_cases hl:ts.length=ps.length
  ·rw[<- r.1,hl]
  ·simp only[hl,if_false]at q
 ·have C:CxOk Γ (zzk (CX1 P w) P w K mg base N qual (za2 st) f cdv A outer s H E) (λ_=>E) ca:=by
   refine⟨hΓ.symm,by rw[hΓ];exact S.nd,hnm.symm,S.kind,rfl,by rw[hlv];exact hr,λy hy=>⟨rfl,hce y hy⟩,hbl,zKe,λ_=>PassesOwn.leaving,λ_=>zL0,λf F e=>by rw[hlv];exact hfs f F e,hex,λf F e=>by rw[hlv];exact hms f F e,by rw[hlv];exact hgx,λ_=>⟨rfl,rfl⟩,⟨_,_,rfl,rfl⟩⟩
  have G:=(zxz ca n).ss C hu;rw[hmu]at G;refine⟨_,G,?_⟩;obtain⟨F',ts,fh,r,q⟩:=h;refine⟨F',_,_,zzx fh r,?_⟩;unfold zda at q
  by_cases hl:ts.length=ps.length
  ·simp only[hl,if_true]at q;unfold runF at q;cases ho:u (ts.map some++List.replicate (N.length - ts.length) none) with
   |none=>simp only[ho]at q
   |some o =>
    simp only[ho]at q;cases o with
    |nx τ=>exact λF1 H1 σ1 R1 s1 S1=>q F1 H1 .non R0 ((zs0 (λ_ _ z=>z) s1).mono λ_ z=>z.elim) .non
    |rt t=>exact λF1 H1 x B s1 r1=>q F1 H1 x B (zs0 (λ_ _ z=>z) s1) r1
    |bk τ=>exact q.elim
    |ct τ=>exact q.elim
    |xc c τ=>exact λF1 H1 σ1 R1 s1 S1=>q F1 H1 ((zs0 (λ_ _ z=>z) s1).mono λ_ z=>z.elim)
  ·simp only[hl,if_false]at q
theorem zw9{K:PySem.W.Frag}{F H:Hp}{N:List Str}{t0:T}{ts:List T}{x0:V}{vs:List V}{A:Rg}(fh:zbl F H)(r0:Rp K F H t0 x0 A)(r:Rps K F ts vs):StR K F H (start N (x0::vs)) ((t0::ts).map some++List.replicate (N.length - (t0::ts).length) none) (λi=>if i=0 then A else R0):=by
 have hl:=r.1;refine⟨fh,by simp[L2.start,hl],λi t e=>?_,λi a z=>?_,λi j a hij z1 z2=>?_⟩
 ·unfold L2.start
  by_cases hi:i<(t0::ts).length
  ·rw[yaz (by simpa using hi),ya3]at e
   obtain⟨t',e1,e2⟩:=ya2.mp e;cases e2;cases i with
   |zero =>
    cases e1;exact⟨x0,by simp,r0⟩
   |succ i =>
    have hi':i<ts.length:=by simpa using hi
    have hv:i<vs.length:=by omega
    refine⟨vs[i],?_,(r.2 i t vs[i] (by simpa using e1) (ya0 hv)).any⟩
    rw[yaz (by simpa using hv),ya3,yci,ya0 hv]
    rfl
  ·rw[yb3 (by simp at hi ⊢;omega)]at e
   obtain⟨h1,h2⟩:=ya5.mp e;simp at h2
 ·by_cases hi:i=0
  ·subst hi;exact⟨t0,rfl⟩
  ·simp only[hi,if_false]at z;exact z.elim
 ·by_cases hi:i=0
  ·have hj:¬ j=0:=λz=>hij (hi.trans z.symm)
   simp only[hj,if_false]at z2;exact z2
  ·simp only[hi,if_false]at z1;exact z1
theorem zE8{A:Rg}:tot (λi=>if i=0 then A else R0)=A:=funext λa=>propext ⟨λ⟨i,z⟩=>by
 by_cases hi:i=0
 ·simp only[hi,if_true]at z;exact z
 ·simp only[hi,if_false]at z;exact z.elim,λz=>⟨0,by simpa using z⟩⟩
end Pu
set_option Elab.async false
set_option linter.all false
set_option maxRecDepth 100000
namespace Pu
open PySem PySem.Spec PyProof.Rows L2 Zw Zx
theorem za6{α:Type}{P:α->Prop}:∀x∈([]:List α),P x:=λ_ h=>by cases h
theorem za1{α:Type}{P:α->Prop}{a:α}{l:List α}(h:P a)(r:∀x∈l,P x):∀x∈a::l,P x:=λx hx=>by
 obtain rfl|hx:=yaj.mp hx
 ·exact h
 ·exact r x hx
theorem usN{P:List Value->Prop}(h:P []):∀us:List Value,us.length=0->P us:=λus e=>by
 cases us with
 |nil=>exact h
 |cons a r=>cases e
theorem usS{P:List Value->Prop}{k:Nat}(h:∀a us,us.length=k->P (a::us)):∀us:List Value,us.length=k+1->P us:=λus e=>by
 cases us with
 |nil=>cases e
 |cons a r=>exact h a r (Nat.succ.inj e)
theorem us1{P:List Value->Prop}(h:∀a,P [a]):∀us:List Value,us.length=1->P us:=usS λa=>usN (h a)
theorem us2{P:List Value->Prop}(h:∀a b,P [a,b]):∀us:List Value,us.length=2->P us:=usS λa=>usS λb=>usN (h a b)
theorem us3{P:List Value->Prop}(h:∀a b c,P [a,b,c]):∀us:List Value,us.length=3->P us:=usS λa=>usS λb=>usS λc=>usN (h a b c)
theorem us4{P:List Value->Prop}(h:∀a b c d,P [a,b,c,d]):∀us:List Value,us.length=4->P us:=usS λa=>usS λb=>usS λc=>usS λd=>usN (h a b c d)
theorem us5{P:List Value->Prop}(h:∀a b c d e,P [a,b,c,d,e]):∀us:List Value,us.length=5->P us:=usS λa=>usS λb=>usS λc=>usS λd=>usS λe=>usN (h a b c d e)
theorem us6{P:List Value->Prop}(h:∀a b c d e f,P [a,b,c,d,e,f]):∀us:List Value,us.length=6->P us:=usS λa=>usS λb=>usS λc=>usS λd=>usS λe=>usS λf=>usN (h a b c d e f)
section
variable {P:Program}{w:World}{K:PySem.W.Frag}{mg:Str->Option Value}{base:Heap}{ca:Str->Value}{k:Nat}
theorem zae:∀f F,([]:List (Str×Fn)).lookup f=some F->F.lv<=k/\Nonempty (DefX P w K mg base F.lv f F.ps (spP K ca F.g)):=λ_ _ h=>by cases h
theorem za9{x:Str}{F0:Fn}{l:List (Str×Fn)}(hk:F0.lv<=k)(D:DefX P w K mg base F0.lv x F0.ps (spP K ca F0.g))(r:∀f F,l.lookup f=some F->F.lv<=k/\Nonempty (DefX P w K mg base F.lv f F.ps (spP K ca F.g))) :
  ∀f F,((x,F0)::l).lookup f=some F->F.lv<=k/\Nonempty (DefX P w K mg base F.lv f F.ps (spP K ca F.g)):=λf F h=>by
 rw[yb1]at h;cases hf:f == x with
 |true =>
  rw[hf]at h;cases h;rw[eq_of_beq hf];exact⟨hk,⟨D⟩⟩
 |false=>rw[hf]at h;exact r f F h
theorem zeo:∀f F,([]:List (Str×Fn)).lookup f=some F->F.lv<=k/\Nonempty (DefX P w K mg base F.lv f F.ps (spM K ca F.g)):=λ_ _ h=>by cases h
def zzy(K:PySem.W.Frag):Sp:=λvs H Q _=>∃(a:Addr) (ns:List Int),vs=[.ref a]/\SqL K H a (ns.map V.int)/\ns.length<=63/\∀H',Q (.bl true) H'
def zaw(ns:List Int):T:=.nd false .rl (ns.map T.int)
theorem ztw{F:Hp}:∀ns:List Int,Rps K F (ns.map T.int) (ns.map V.int)
 |[]=>.nil
 |n::r=>.cons (H:=F) (.int n) (ztw r)
theorem zL8{R:List T->Option Ru}{f:Addr}{fd:FuncData}(F:FnOk P w K mg base (CX1 P w) k f fd ["_law_script"] (spP K ca R))(h:∀ns:List Int,ns.length<=63->R [zaw ns]=some (.ok (.bl true))):FnOk P w K mg base CX0 k f fd ["_law_script"] (zzy K):=by
 refine⟨λvs H Q E hs=>?_,λA outer s H args us vs Q E hr e0 hb hv hs=>?_⟩
 ·obtain⟨a,ns,rfl,_⟩:=hs
  rfl
 ·obtain⟨a,ns,rfl,hq,h63,q⟩:=hs;refine codeAny_mono (F.run A outer s H args us _ Q E0 hr e0 hb hv ⟨H,[zaw ns],.refl _,.cons (H:=H) (Rps.of_node (k:=.rl) hq (ztw ns)) .nil,?_⟩) λr s' hx=>?_
  ·rw[h ns h63];intro F' H' z C e r;rw[r.bl_inv];exact q H'
  ·cases r with
   |error v =>
    obtain⟨_,_,_,_,_,_,_,_,_,_,_,_,_,z⟩:=hx;exact z.elim
   |ok fl=>cases fl<;>exact hx
end
end Pu
set_option Elab.async false
set_option linter.all false
set_option maxRecDepth 100000
namespace Pu
open PySem PySem.Spec PyProof.Rows L2 Zw Zx
end Pu
set_option Elab.async false
set_option linter.all false
set_option maxRecDepth 100000
namespace Pu
open PySem PySem.Spec PyProof.Rows L2 Zw Zx
def zoa(C:Addr)(fs:List Str)(k n:Nat)(u:PSt->Option Out)(p:Addr)(ts:List T):Option Ru:=if ts.length+1=k then (match u ((T.oob p C fs []::ts).map some++List.replicate (n - (ts.length+1)) none) with
 |some (.nx τ)=>(match zoc τ 0 C fs with
  |some (q,l)=>if q=p then some (.ok (.obj (.ins C fs) (zal l))) else none
  |none=>none)
 |some (.xc c _)=>some (.exc c)
 |_=>none) else none
open Classical in
noncomputable def zA7(C:Addr)(fs:List Str)(k n:Nat)(u:PSt->Option Out)(ts:List T):Option Ru:=if h:∃r,∀p,zoa C fs k n u p ts=some r then some h.choose else none
theorem zsf{C:Addr}{fs:List Str}{k n:Nat}{u:PSt->Option Out}{ts:List T}{r:Ru}(h:∀p,zoa C fs k n u p ts=some r):zA7 C fs k n u ts=some r:=by
 have hx:∃r,∀p,zoa C fs k n u p ts=some r:=⟨r,h⟩;unfold zA7;rw[dif_pos hx];have e:=(hx.choose_spec 0).symm.trans (h 0);exact e
theorem zwn{C:Addr}{fs:List Str}{k n:Nat}{u:PSt->Option Out}{ts:List T}{r:Ru}(h:zA7 C fs k n u ts=some r)(p:Addr):zoa C fs k n u p ts=some r:=by
 unfold zA7 at h;split at h
 ·rename_i hx;cases h;exact hx.choose_spec p
 ·cases h
theorem zDu{P:Program}{w:World}{K:PySem.W.Frag}{mg:Str->Option Value}{base:Heap}{ca:Str->Value}{x qual:Str}{st:Stmt}{f:Addr}{fd:FuncData}{N ps:List Str}{k n:Nat}{Γ:Gm}{u:PSt->Option Out}{C:Addr}{fs:List Str}(F:FunD K x qual st f fd)(S:FnScope N ps (za2 st))
  (hΓ:Γ.N=N) (hnm:Γ.nm=(za2 st).names) (hce:∀x∈Γ.ce,Γ.nm.lookup x=some .cell) (hlv:Γ.lv=k) (hbl:∀b∈Γ.bl,mg b=none)
  (hfs:∀f F,Γ.fns.lookup f=some F->F.lv<=k/\Nonempty (DefX P w K mg base F.lv f F.ps (spP K ca F.g))) (hex:∀c∈Γ.ex,∃T:ECls K mg c,ca c=.ref T.C)
  (hms:∀f F,Γ.mus.lookup f=some F->F.lv<=k/\Nonempty (DefX P w K mg base F.lv f F.ps (spM K ca F.g))) (hmu:Γ.mu=false) (hgx:GxOk Γ.ox k P w K mg base ca) (hu:dSs n Γ (zab st)=some u):FnOk P w K mg base (CX1 P w) (k+1) f fd ps (spN K ca C (zA7 C fs ps.length N.length u)):=by
 refine okX F S (λvs H Q E h=>?_) λcdv A outer s H vs Q E hr h=>?_
 ·obtain⟨F',p,dx,ts,vs',_,rfl,_,_,r,q⟩:=h;cases hg:zA7 C fs ps.length N.length u ts with
  |none=>rw[hg]at q;exact q.elim
  |some rr =>
   have h0:=zwn hg 0;unfold zoa at h0
   by_cases hl:ts.length+1=ps.length
   ·rw[yao,<- r.1,hl]
   ·rw[if_neg hl]at h0;cases h0
 ·have CC:CxOk Γ (zzk (CX1 P w) P w K mg base N qual (za2 st) f cdv A outer s H E) (λ_=>E) ca:=by
   refine⟨hΓ.symm,by rw[hΓ];exact S.nd,hnm.symm,S.kind,rfl,by rw[hlv];exact hr,λy hy=>⟨rfl,hce y hy⟩,hbl,zKe,λ_=>PassesOwn.leaving,λ_=>zL0,λf F e=>by rw[hlv];exact hfs f F e,hex,λf F e=>by rw[hlv];exact hms f F e,by rw[hlv];exact hgx,λ_=>⟨rfl,rfl⟩,⟨_,_,rfl,rfl⟩⟩
  have G:=(zxz ca n).ss CC hu;rw[hmu]at G;refine⟨_,G,?_⟩;obtain⟨F',p,dx,ts,vs',fh,rfl,fp,hp,r,q⟩:=h;have r0:Rp K F' H (.oob p C fs []) (.ref p) (λa=>a=p\/∃j:Nat,R0 a):=.oob (xs:=[]) (λ_=>R0) fp (by rw[List.zip_nil_right];exact hp) rfl (λi t x h=>by simp at h) (λ_ _ _ _ z=>z.elim) (λ_ z=>z) (λ_ _ z=>z.elim)
  have hA:(λa=>a=p\/∃j:Nat,R0 a)=λa=>a=p:=funext λa=>propext ⟨λz=>z.elim id λ⟨_,w⟩=>w.elim,λz=>.inl z⟩
  refine⟨F',_,_,zw9 fh r0 r,?_⟩;rw[zE8,hA];cases hg:zA7 C fs ps.length N.length u ts with
  |none=>rw[hg]at q;exact q.elim
  |some rr =>
   rw[hg]at q;have h0:=zwn hg p;unfold zoa at h0
   by_cases hl:ts.length+1=ps.length
   ·rw[if_pos hl]at h0;have el:(T.oob p C fs []::ts).length=ts.length+1:=rfl;rw[el];cases ho:u ((T.oob p C fs []::ts).map some++List.replicate (N.length - (ts.length+1)) none) with
    |none=>rw[ho]at h0;cases h0
    |some o =>
     rw[ho]at h0;cases o with
     |nx τ =>
      simp only at h0;intro F1 H1 σ1 R1 s1 S1;cases hoo:zoc τ 0 C fs with
      |none=>rw[hoo]at h0;cases h0
      |some ql =>
       obtain⟨q0,l⟩:=ql;rw[hoo]at h0;simp only at h0
       by_cases hq:q0=p
       ·rw[if_pos hq]at h0;subst hq;cases h0;have h00:=zj7 hoo;have S2:=S1.frz h00;obtain⟨y,ey,ry⟩:=S1.rep 0 _ h00;obtain⟨dx2,xs2,Rr,rfl,hA2,fp2,hp2,ro,dp⟩:=ry.oob_inv;have n1:∀a,R1 0 a->F1 a=none:=λa z=>(S1.dom z).1
        have r2:=ry.share (H':=H1) (zgp (H:=H1) n1) λa u z q=>by rw[zjt z];exact q
        simp only at q;refine q (frz F1 H1 (R1 0)) H1 ⟨s1.ff.trans (zgp n1),znh S1.fh,s1.kp,λb z=>z.elim,λb u e=>?_⟩ r2
        by_cases hb:R1 0 b
        ·exact(s1.nw b ⟨0,hb⟩).elim (λz=>.inr (.inl z)) λz=>.inr (.inr z)
        ·rw[ze0 hb]at e;exact s1.nf b u e
       ·rw[if_neg hq]at h0;cases h0
     |rt t=>cases h0
     |bk τ=>cases h0
     |ct τ=>cases h0
     |xc c τ =>
      cases h0;simp only at q;exact λF1 H1 σ1 R1 s1 S1=>q F1 H1 (s1.mono λ_ z=>z.elim)
   ·rw[if_neg hl]at h0;cases h0
theorem zbe{κ α:Type} [BEq κ]{P:κ->α->Prop}:∀y b,([]:List (κ×α)).lookup y=some b->P y b:=λ_ _ h=>by cases h
theorem zas{κ α:Type} [BEq κ] [LawfulBEq κ]{P:κ->α->Prop}{x:κ}{a:α}{l:List (κ×α)}(h:P x a)(r:∀y b,l.lookup y=some b->P y b):∀y b,((x,a)::l).lookup y=some b->P y b:=λy b e=>by
 rw[yb1]at e;cases hf:y == x with
 |true =>
  rw[hf]at e;cases e;rw[eq_of_beq hf];exact h
 |false=>rw[hf]at e;exact r y b e
theorem zsg{K:PySem.W.Frag}{F:Hp}:∀ys:List Str,Rps K F (ys.map T.str) (ys.map V.str)
 |[]=>.nil
 |y::r=>.cons (H:=F) (.str y) (zsg r)
theorem zu6{P:Str->Fn->List (Nat×List T)->Prop}:∀x F ds,([]:List (Str×Fn×List (Nat×List T))).lookup x=some (F,ds)->P x F ds:=λ_ _ _ h=>by cases h
theorem zoe{P:Str->Fn->List (Nat×List T)->Prop}{l:List (Str×Fn×List (Nat×List T))}{x0:Str}{F0:Fn}{d0:List (Nat×List T)}(h:P x0 F0 d0)(r:∀x F ds,l.lookup x=some (F,ds)->P x F ds):∀x F ds,((x0,F0,d0)::l).lookup x=some (F,ds)->P x F ds:=λx F ds e=>by
 rw[yb1]at e;cases hf:x == x0 with
 |true =>
  rw[hf]at e;cases e;rw[eq_of_beq hf];exact h
 |false =>
  rw[hf]at e;exact r x F ds e
theorem gxC{G:Gx}{lv:Nat}{P:Program}{w:World}{K:PySem.W.Frag}{mg:Str->Option Value}{base:Heap}{ca:Str->Value}
  (co:∀x t,G.co.lookup x=some t->∃u v,mg x=some u/\RelV v u/\∀F:Hp,Rp K F F t v R0:=by exact zbe)
  (cl:∀c∈G.cl,Cls K c.2.1/\∀f∈c.2.2,zbn K c.2.1 f:=by exact za6)
  (mt:∀c∈G.mt,c.2.2.2.lv<=lv/\Nonempty (MetX P w K mg base c.2.1 c.1 c.2.2.2.lv c.2.2.2.ps (spP K ca c.2.2.2.g)):=by exact za6)
  (nw:∀x F ds,G.nw.lookup x=some (F,ds)->F.lv+1<=lv/\∃(C:Addr) (D:NewX P w K mg base x C F.lv F.ps (spN K ca C F.g)),∀k dts,ds.lookup k=some dts->∃dvs us,zjn K D.fd F.ps us/\zbp dvs us/\∀H:Hp,Rps K H dts dvs:=by exact zu6)
  (sf:∀C fs,G.sf=some (C,fs)->Cls K C/\∀f∈fs,zbn K C f:=by exact(λ_ _ h=>by cases h))
  (xs:∀W cs,G.xs.lookup W=some cs->∃T:ECls K mg W,∀c C,cs.lookup c=some C->ca c=.ref C/\PySem.W.subIn K (.ref C) (.ref T.C)=some true:=by exact zbe)
  (sb:∀D tb,G.sb.lookup D=some tb->∃A:Addr,mg D=some (.ref A)/\∀C b,tb.lookup C=some b->ExcK K C/\PySem.W.kitOne K (.ref C) (.ref A)=some b:=by exact zbe)
  (sv:∀D tb,G.sv.lookup D=some tb->mg D=none/\∃t,bootBuiltins D=some (.type t)/\∀C b,tb.lookup C=some b->ExcK K C/\PySem.W.kitOne K (.ref C) (.type t)=some b:=by exact zbe)
  (ci:∀x tb,G.ci.lookup x=some tb->∃D:Addr,mg x=some (.ref D)/\∀C b,tb.lookup C=some b->ICls K C/\PySem.W.kitOne K (.ref C) (.ref D)=some b:=by exact zbe)
  (x2:∀W1 W2 cs,(W1,W2,cs)∈G.x2->∃(T1:ECls K mg W1) (T2:ECls K mg W2),∀c C,cs.lookup c=some C->ca c=.ref C/\PySem.W.subIn K (.ref C) (.ref T1.C)=some false/\PySem.W.subIn K (.ref C) (.ref T2.C)=some true:=by exact(λ_ _ _ h=>by cases h)):GxOk G lv P w K mg base ca:=⟨co,cl,mt,nw,sf,xs,sb,sv,ci,x2⟩
theorem scM{N ps:List Str}{sc:Scope}(h:(sc.kind=.function/\sc.isCoroutine=false/\sc.isGenerator=false)/\N.Nodup/\N.take ps.length=ps/\(∀x∈ps,sc.names.lookup x=some .local\/sc.names.lookup x=some .cell)/\∀y∈sc.names,y.2≠.free):FnScope N ps sc:=⟨h.1.1,h.1.2.1,h.1.2.2,h.2.1,h.2.2.1,h.2.2.2.1,h.2.2.2.2⟩
structure Qx(P:Program)(w:World)(K:PySem.W.Frag)(mg:Str->Option Value)(base:Heap)(ca:Str->Value):Prop where
 m:∀(x:Str) (a:Addr),PySem.W.nsIn K mainGlobals x=some (some (.ref a))->mg x=some (.ref a)
noncomputable def dfX{P:Program}{w:World}{K:PySem.W.Frag}{mg:Str->Option Value}{base:Heap}{ca:Str->Value}(q:Qx P w K mg base ca){x:Str}{st:Stmt}{oc:Value}{od an:Option Addr}{osl:Array (Option Value)}{dV kV doc pm cdv ct:Value}{Γ:Gm}{f:Fn}{u:PSt->Option Out}{N:List Str}(a:Addr){o:Obj}
  (b:zjn K (PySem.W.fnOf x x (zji st) (zab st) (za2 st) dV kV doc pm an cdv ct) f.ps [])
  (S:FnScope N f.ps (za2 st)) (hu:dSs 200 Γ (zab st)=some u) (hbl:∀b∈Γ.bl,mg b=none) (hfs:∀g F,Γ.fns.lookup g=some F->F.lv<=Γ.lv/\Nonempty (DefX P w K mg base F.lv g F.ps (spP K ca F.g))) (hgx:GxOk Γ.ox Γ.lv P w K mg base ca) (hce:∀x∈Γ.ce,Γ.nm.lookup x=some .cell:=by exact za6) (hex:∀c∈Γ.ex,∃T:ECls K mg c,ca c=.ref T.C:=by exact za6)
  (hms:∀g F,Γ.mus.lookup g=some F->F.lv<=Γ.lv/\Nonempty (DefX P w K mg base F.lv g F.ps (spM K ca F.g)):=by exact zeo) (ho:o=⟨oc,od,.func (PySem.W.fnOf x x (zji st) (zab st) (za2 st) dV kV doc pm an cdv ct),osl⟩:=by exact rfl) (l:K.lookup a=some o:=by kernel_rfl) (c:PySem.W.codeIn K cdv x=true:=by kernel_rfl) (k:PySem.W.keepIn K (.ref a)=true:=by kernel_rfl) (m:PySem.W.nsIn K mainGlobals x=some (some (.ref a)):=by kernel_rfl)
  (hΓ:Γ.N=N:=by rfl) (hnm:Γ.nm=(za2 st).names:=by rfl) (hlv:Γ.lv+1=f.lv:=by rfl) (hmu:Γ.mu=false:=by rfl) (hg:f.g=zda f.ps.length N.length u:=by rfl):DefX P w K mg base f.lv x f.ps (spP K ca f.g) :=
 ⟨a,_,by rw[hg,<- hlv];exact zr3 (zeu (l.trans (congrArg some ho)) c k) S hΓ hnm hce rfl hbl hfs hex hms hmu hgx hu,q.m x a m,k,b⟩
end Pu
set_option Elab.async false
set_option linter.all false
set_option maxRecDepth 100000
namespace Pu
open PySem PySem.Spec PyProof.Rows L2 Zw Zx
theorem at0{α:Type}{x:α}{l:List α}:atI (x::l) (0:Int)=some x:=by
 have:atI (x::l) ((0:Nat):Int)=some x:=zb2 rfl;exact this
theorem at1{α:Type}{x y:α}{l:List α}:atI (x::y::l) (1:Int)=some y:=by
 have:atI (x::y::l) ((1:Nat):Int)=some y:=zb2 rfl;exact this
theorem at2{α:Type}{x y z:α}{l:List α}:atI (x::y::z::l) (2:Int)=some z:=by
 have:atI (x::y::z::l) ((2:Nat):Int)=some z:=zb2 rfl;exact this
abbrev fr(a b:Int):T:=.tup [.int a,.int b]
section
variable {b:T->PSt->Option PSt}{body:PSt->Option Out}{mc:PSt->Option Rs}
theorem zbr{ts:List T}{τ:PSt}(I:Nat->PSt->Prop)(h0:I 0 τ)(hs:∀i t τ,ts[i]?=some t->I i τ->∃τ1,b t τ=some τ1/\∃τ2,body τ1=some (.nx τ2)/\I (i+1) τ2):∃τ',zc2 b body ts τ=some (.nx τ')/\I ts.length τ':=by
 have key:∀(l:List T) (k:Nat) (τ:PSt),ts.drop k=l->k<=ts.length->I k τ->∃τ',zc2 b body l τ=some (.nx τ')/\I ts.length τ':=by
  intro l
  induction l with
  |nil =>
   intro k τ hd hk hI
   have:k=ts.length:=by
    have:=congrArg List.length hd;simp at this
    omega
   subst this;exact⟨τ,rfl,hI⟩
  |cons t l ih =>
   intro k τ hd hk hI
   have hlt:k<ts.length:=by
    have:=congrArg List.length hd;simp at this
    omega
   rw[ycd hlt]at hd;injection hd with h1 h2
   obtain⟨τ1,e1,τ2,e2,hI2⟩:=hs k t τ (by rw[ya0 hlt,h1]) hI
   obtain⟨τ',e3,h3⟩:=ih (k+1) τ2 h2 hlt hI2;exact⟨τ',by unfold zc2;simp only[e1,e2];exact e3,h3⟩
 exact key ts 0 τ rfl (yb2 _) h0
theorem zon{me:PSt->Option Rs}{ts:List T}{τ:PSt}(I:Nat->PSt->Prop)(f:Nat->T)(h0:I 0 τ)(hs:∀i t τ,ts[i]?=some t->I i τ->∃τ1,b t τ=some τ1/\me τ1=some (.v (f i) false)/\I (i+1) τ1) :
  zg5 b (mC (.bl true)) me ts τ=some ((List.range ts.length).map f):=by
 have key:∀(l:List T) (k:Nat) (τ:PSt),ts.drop k=l->k<=ts.length->I k τ->zg5 b (mC (.bl true)) me l τ=some ((List.range' k l.length).map f):=by
  intro l
  induction l with
  |nil=>intro k τ _ _ _;rfl
  |cons t l ih =>
   intro k τ hd hk hI
   have hlt:k<ts.length:=by
    have:=congrArg List.length hd;simp at this
    omega
   rw[ycd hlt]at hd;injection hd with h1 h2
   obtain⟨τ1,e1,e2,hI2⟩:=hs k t τ (by rw[ya0 hlt,h1]) hI
   have e3:=ih (k+1) τ1 h2 hlt hI2;unfold zg5;simp only[e1,mC,e2,e3];simp[List.range'_succ]
 have:=key ts 0 τ rfl (yb2 _) h0;rw[this,<- List.range_eq_range']
end
theorem zfh{i j:Int}(h:s64 i=true):zhd i j=true:=by unfold zhd;rw[h,ydv,ydv]
theorem zG2{i j:Int}(h1:s70 i=true)(h2:s70 j=true):zhd i j=true:=by unfold zhd;rw[h1,h2];simp
theorem zfv{i:Int}(h1:-(2 ^ 64)<i)(h2:i<2 ^ 64):s64 i=true:=@decide_eq_true _ (Classical.propDecidable _) ⟨h1,h2⟩
theorem zec{i:Int}(h1:-(10 ^ 70)<i)(h2:i<10 ^ 70):s70 i=true:=@decide_eq_true _ (Classical.propDecidable _) ⟨h1,h2⟩
theorem fm{i j:Int}(h:0<j):i.fmod j=i % j:=Int.fmod_eq_emod_of_nonneg i (by omega)
theorem zio{i j:Int}:eqT (.int i) (.int j)=some (.bl (i == j)):=by
 unfold eqT zBu zt4 zH0;simp only[T.data,T.pln,PyData.canLay0,PyData.depth,PyData.eqv];simp
theorem zhg{i j:Int}:neT (.int i) (.int j)=some (.bl (!(i == j))):=by
 unfold neT zBu zt4 zH0;simp only[T.data,T.pln,PyData.canLay0,PyData.depth,PyData.eqv];simp
mutual
def nbD:PyData->Bool
 |.bool _=>false
 |.dict _=>false
 |.list xs=>zDf xs
 |.tuple xs=>zDf xs
 |_=>true
def zDf:List PyData->Bool
 |[]=>true
 |x::xs=>nbD x && zDf xs
end
mutual
theorem zDw:∀d d':PyData,nbD d=true->nbD d'=true->(PyData.eqv d d'=true ↔ d=d')
 |.none,d',_,h'=>by cases d'<;>simp[PyData.eqv,nbD]at h' ⊢
 |.int i,d',_,h'=>by cases d'<;>simp[PyData.eqv,nbD]at h' ⊢
 |.str x,d',_,h'=>by cases d'<;>simp[PyData.eqv,nbD]at h' ⊢
 |.bool _,_,h,_=>by simp[nbD]at h
 |.dict _,_,h,_=>by simp[nbD]at h
 |.list xs,d',h,h'=>by
  cases d' with
  |list ys =>
   have:=zlz xs ys (by simpa[nbD] using h) (by simpa[nbD] using h')
   simp only[PyData.eqv];rw[this];simp
  |_=>simp[PyData.eqv,nbD]at h' ⊢
 |.tuple xs,d',h,h'=>by
  cases d' with
  |tuple ys =>
   have:=zlz xs ys (by simpa[nbD] using h) (by simpa[nbD] using h')
   simp only[PyData.eqv];rw[this];simp
  |_=>simp[PyData.eqv,nbD]at h' ⊢
theorem zlz:∀xs ys:List PyData,zDf xs=true->zDf ys=true->(PyData.eqvAll xs ys=true ↔ xs=ys)
 |[],[],_,_=>by simp[PyData.eqvAll]
 |[],_::_,_,_=>by simp[PyData.eqvAll]
 |_::_,[],_,_=>by simp[PyData.eqvAll]
 |x::xs,y::ys,hx,hy=>by
  simp only[zDf,ya4]at hx hy;have h1:=zDw x y hx.1 hy.1;have h2:=zlz xs ys hx.2 hy.2;simp only[PyData.eqvAll,ya4,h1,h2,List.cons.injEq]
end
structure Fit(t:T)(n:Nat):Prop where
 fit:zt4 t=true
 nb:nbD t.data=true
 dep:t.data.depth<=n
theorem Fit.int(i:Int)(n:Nat):Fit (.int i) n:=⟨rfl,rfl,by simp[T.data,PyData.depth]⟩
theorem zyc:∀{l:List T} {n:Nat},(∀t∈l,Fit t n)->(zvs l=true/\PyData.canLayAll0 (zbs l)=true)/\zDf (zbs l)=true/\PyData.depthAll (zbs l)<=n
 |[],n,_=>⟨⟨rfl,rfl⟩,rfl,yb2 _⟩
 |t::r,n,h=>by
  obtain⟨h1,h2,h3⟩:=h t (ya8 ..);obtain⟨⟨g0,g1⟩,g2,g3⟩:=zyc (l:=r) (n:=n) λx hx=>h x (ya6 _ hx)
  unfold zt4 at h1;rw[ya4]at h1;refine⟨⟨by rw[zvs,h1.1,g0];rfl,by rw[zbs,PyData.canLayAll0,h1.2,g1];rfl⟩,by rw[zbs,zDf,h2,g2];rfl,?_⟩
  rw[zbs,PyData.depthAll]
  omega
theorem Fit.nd{o:Bool}{k:Kd}{l:List T}{n:Nat}(h:∀t∈l,Fit t n):Fit (.nd o k l) (n+1):=by
 obtain⟨g1,g2,g3⟩:=zyc h;cases k<;>exact⟨by simpa[zt4,T.data,T.pln,PyData.canLay0] using g1,by simpa[T.data,nbD] using g2,by simpa[T.data,PyData.depth] using g3⟩
theorem Fit.tup{l:List T}{n:Nat}(h:∀t∈l,Fit t n):Fit (.tup l) (n+1):=Fit.nd h
theorem Fit.fr(a b:Int):Fit (Pu.fr a b) 1:=Fit.tup λt ht=>by
 simp only[yaj,ybx,or_false]at ht
 rcases ht with rfl|rfl<;>exact Fit.int _ _
open Classical in
theorem zyd{t u:T}{n m:Nat}(h:Fit t n)(h':Fit u m)(hn:n<=60):eqT t u=some (.bl (decide (t.data=u.data)))/\neT t u=some (.bl (!decide (t.data=u.data))):=by
 have ok:zBu t u=true:=by
  unfold zBu;rw[h.fit,h'.fit,decide_eq_true (by have:=h.dep;omega)]
  rfl
 have e:zH0 t u=decide (t.data=u.data):=by
  unfold zH0;rw[yc9,zDw _ _ h.nb h'.nb];simp
 unfold eqT neT;rw[if_pos ok,if_pos ok,e];exact⟨rfl,rfl⟩
theorem zt5{t u:T}{n:Nat}(h:Fit t n)(hn:n<=60)(e:t.data=u.data)(h':Fit u n):eqT t u=some (.bl true)/\neT t u=some (.bl false):=by
 have:=zyd h h' hn
 simpa[e] using this
theorem zh5:∀ns:List Int,zal (ns.map T.int)=ns.map T.int
 |[]=>rfl
 |n::r=>by rw[yaf,zal,zh5 r];rfl
theorem znw:∀ns:List Int,shL (ns.map T.int)=true
 |[]=>rfl
 |n::r=>by rw[yaf,shL,znw r];rfl
theorem zg9(ns:List Int):(zaw ns).share=zaw ns:=by unfold zaw;rw[T.share,zh5]
theorem zkx(ns:List Int):(zaw ns).sh=true:=by unfold zaw;rw[T.sh,znw];rfl
theorem zzd{α:Type}{l:List α}{k:Int}{x:α}(h0:0<=k)(h:l[k.toNat]?=some x):atI l k=some x:=by
 have:atI l ((k.toNat:Nat):Int)=some x:=zb2 h
 rwa[Int.toNat_of_nonneg h0]at this
theorem zyn{α β:Type}(f:α->β)(l:List α)(lo hi:Option Int):zrf (l.map f) lo hi=(zrf l lo hi).map f:=by
 unfold zrf;simp[List.map_drop,List.map_take]
end Pu
namespace Zm
end Zm
namespace Db
open PySem
end Db
set_option Elab.async false
set_option linter.all false
set_option maxRecDepth 100000
namespace Pu
open PySem PySem.Spec PyProof.Rows L2 Zw Zx
def mT(n:Nat)(g:Nat->T):List T:=(List.range n).map g
theorem nl0:((0:Nat):Int)=0:=rfl
theorem nl1:((1:Nat):Int)=1:=rfl
theorem nl2:((2:Nat):Int)=2:=rfl
theorem nl3:((3:Nat):Int)=3:=rfl
theorem nl4:((4:Nat):Int)=4:=rfl
theorem nl5:((5:Nat):Int)=5:=rfl
theorem nl6:((6:Nat):Int)=6:=rfl
theorem nl7:((7:Nat):Int)=7:=rfl
theorem nl8:((8:Nat):Int)=8:=rfl
theorem nl9:((9:Nat):Int)=9:=rfl
theorem zL4{k:Nat}(h:k<=100000):(k<=lim)=True:=eq_true (by unfold lim;omega)
theorem zL3{k:Nat}(h:k<100000):(k<lim)=True:=eq_true (by unfold lim;omega)
section
variable {n:Nat}{g h:Nat->T}
theorem zcj:(mT n g).length=n:=by simp[mT]
theorem zlg{i:Nat}(hi:i<n):(mT n g)[i]?=some (g i):=by simp[mT,hi]
theorem zcz{i:Nat}{t:T}(e:(mT n g)[i]?=some t):i<n/\t=g i:=by
 have hi:i<n:=by
  rcases Nat.lt_or_ge i n with q|q
  ·exact q
  ·rw[yb7 (by rw[zcj];exact q)]at e
   cases e
 rw[zlg hi]at e;exact⟨hi,by injection e with e;exact e.symm⟩
theorem zjo{l:List T}(hl:l.length=n)(h:∀i,i<n->l[i]?=some (g i)):l=mT n g:=by
 refine ycx λi=>?_
 rcases Nat.lt_or_ge i n with q|q
 ·rw[h i q,zlg q]
 ·rw[yb7 (by omega),yb7 (by rw[zcj];exact q)]
theorem zu8(e:∀i,i<n->g i=h i):mT n g=mT n h:=zjo zcj λi hi=>by rw[zlg hi,e i hi]
theorem znd{k:Nat}(h1:k<n):atI (mT n g) (k:Int)=some (g k):=zb2 (zlg h1)
theorem zL1{t:T}(ht:t∈mT n g):∃i,i<n/\t=g i:=by
 obtain⟨i,hi,e⟩:=yag.mp ht;exact⟨i,yb6.mp hi,e.symm⟩
theorem zwb:zal (mT n g)=mT n λi=>(g i).share:=by
 rw[zap];unfold mT;rw[yax]
 rfl
theorem zCt(e:∀i,(g i).sh=true):shL (mT n g)=true:=by
 rw[zbj,yau];intro t ht;obtain⟨i,-,rfl⟩:=zL1 ht;exact e i
theorem zEl(xs:Nat->Int):shL (mT n λi=>.int (xs i))=true:=zCt λ_=>rfl
theorem zDi:mT n g++[g n]=mT (n+1) g:=by
 unfold mT;rw[List.range_succ,yaq]
 rfl
theorem zxk{α:Type}(t:α->T)(xs:Nat->α)(r:α):mT n (λj=>t (xs j))++[t r]=mT (n+1) λj=>t (if j=n then r else xs j):=by
 rw[<- zDi,if_pos rfl,zu8 (g:=λj=>t (if j=n then r else xs j)) (h:=λj=>t (xs j)) λj hj=>by rw[if_neg (by omega)]]
theorem zuo:∀(l:List T) (k i:Nat) (t:T),l[i]?=some t->(zgr k l)[i]?=some (.tup [.int ((k+i:Nat):Int),t])
 |[],_,_,_,e=>by simp at e
 |x::r,k,0,t,e=>by
  simp at e;subst e
  rfl
 |x::r,k,i+1,t,e=>by
  rw[zgr,yci];have:=zuo r (k+1) i t (by simpa using e)
  rw[this,show k+1+i=k+(i+1) by omega]
theorem zun:∀(l:List T) (k:Nat),(zgr k l).length=l.length
 |[],_=>rfl
 |x::r,k=>by rw[zgr,yao,yao,zun r]
theorem zH2:zgr 0 (mT n g)=mT n λi=>.tup [.int (i:Int),g i]:=by
 refine zjo (by rw[zun,zcj]) λi hi=>?_
 rw[zuo _ _ _ _ (zlg hi),ydb]
theorem zAe(lo:Int):zcq lo n=mT n λi=>.int (lo+(i:Int)):=rfl
theorem zb8:zcq 0 n=mT n λi=>.int (i:Int):=by
 rw[zAe];refine zu8 λi _=>?_
 rw[Int.zero_add]
theorem mT_of(l:List T)(d:T):l=mT l.length λi=>l.getD i d:=zjo rfl λi hi=>by
 rw[ya7,ya0 hi];rfl
variable {b:T->PSt->Option PSt}{body:PSt->Option Out}{me:PSt->Option Rs}{τ:PSt}
theorem zDt(I:Nat->PSt->Prop)(h0:I 0 τ)(hs:∀i τ,i<n->I i τ->∃τ1,b (g i) τ=some τ1/\∃τ2,body τ1=some (.nx τ2)/\I (i+1) τ2):∃τ',zc2 b body (mT n g) τ=some (.nx τ')/\I n τ':=by
 have:=zbr (ts:=mT n g) I h0 λi t τ e hI=>by
  obtain⟨hi,rfl⟩:=zcz e;exact hs i τ hi hI
 rwa[zcj]at this
theorem lc1{f:Nat->T}{x:Option T}{cs:PSt}(hs:∀i,i<n->me (some (g i)::cs)=some (.v (f i) false)):zg5 (bNm 0) (mC (.bl true)) me (mT n g) (x::cs)=some (mT n f):=by
 have:=zon (b:=bNm 0) (me:=me) (ts:=mT n g) (τ:=x::cs) (λ_ τ=>∃y,τ=y::cs) f ⟨x,rfl⟩ λi t τ e hI=>by
  obtain⟨hi,rfl⟩:=zcz e;obtain⟨y,rfl⟩:=hI;exact⟨some (g i)::cs,by simp[bNm],hs i hi,_,rfl⟩
 rw[this,zcj]
 rfl
end
end Pu
set_option Elab.async false
set_option linter.all false
set_option maxRecDepth 100000
namespace Pu
open PySem PySem.Spec PyProof.Rows L2 Zw Zx
theorem zit{n:Nat}(p:Nat->Bool):zjl (mT n λi=>.bl (p i))=some ((List.range n).map p):=by
 unfold mT;generalize List.range n=l
 induction l with
 |nil=>rfl
 |cons x r ih=>simp only[yaf,zjl,ih]
theorem zch{n:Nat}(h:n<=100000):zmj (n:Int)=true:=@decide_eq_true _ (Classical.propDecidable _) ⟨by omega,by omega⟩
end Pu
set_option Elab.async false
set_option linter.all false
set_option maxRecDepth 100000
namespace Pu
open PySem PySem.Spec PyProof.Rows L2 Zw Zx
theorem zh4:∀ys:List Str,zhf (ys.map T.str)=some ys
 |[]=>rfl
 |y::r=>by
  show(match zhf (r.map T.str) with|some l=>some (y::l)|none=>none)=_
  rw[zh4 r]
theorem za3:∀ys:List Str,zal (ys.map T.str)=ys.map T.str
 |[]=>rfl
 |y::r=>by
  show T.str y::zal (r.map T.str)=_;rw[za3 r]
  rfl
theorem za7:∀ys:List Str,shL (ys.map T.str)=true
 |[]=>rfl
 |y::r=>by
  show(true && shL (r.map T.str))=true;rw[za7 r]
  rfl
def Txs(ys:List Str):Prop:=∀y∈ys,PyData.strOk y=true
theorem zu1:∀ys:List Str,zvs (ys.map T.str)=true
 |[]=>rfl
 |y::r=>by
  show(true && zvs (r.map T.str))=true;rw[zu1 r]
  rfl
theorem zub:∀{ys:List Str},Txs ys->PyData.canLayAll0 (zbs (ys.map T.str))=true/\PyData.depthAll (zbs (ys.map T.str))=0
 |[],_=>⟨rfl,rfl⟩
 |y::r,h=>by
  obtain⟨h1,h2⟩:=zub (ys:=r) λx hx=>h x (ya6 _ hx)
  have h3:=h y (ya8 ..);rw[yaf,zbs,PyData.canLayAll0,PyData.depthAll,h1,h2,T.data,PyData.canLay0,h3,PyData.depth];exact⟨rfl,rfl⟩
theorem zeh{x y:Str}(hx:PyData.strOk x=true)(hy:PyData.strOk y=true):eqT (.str x) (.str y)=some (.bl (decide (x=y))):=by
 have e:(x == y)=decide (x=y):=by rw[yc9,beq_iff_eq,decide_eq_true_eq]
 unfold eqT zBu zt4 zH0;simp only[T.data,T.pln,PyData.canLay0,PyData.depth,PyData.eqv,hx,hy,e];simp
theorem Fit.str{x:Str}(h:PyData.strOk x=true)(n:Nat):Fit (.str x) n:=⟨by unfold zt4;rw[T.pln,T.data,PyData.canLay0,h];rfl,rfl,by simp[T.data,PyData.depth]⟩
theorem zuv(x:Str):∀ys:List Str,((zbs (ys.map T.str)).any λy=>PyData.eqv y (.str x))=decide (x∈ys)
 |[]=>by simp[zbs]
 |y::r=>by
  have e:(y == x)=decide (x=y):=by rw[yc9,beq_iff_eq,decide_eq_true_eq];exact eq_comm
  rw[yaf,zbs,ydn,zuv x r,T.data,PyData.eqv,e,yc9,yc8,decide_eq_true_eq,decide_eq_true_eq,decide_eq_true_eq,yaj]
theorem zos{ys:List Str}{x:Str}{o:Bool}{k:Kd}(h:Txs ys)(hx:PyData.strOk x=true):inT (.str x) (.nd o k (ys.map T.str))=some (.bl (decide (x∈ys))):=by
 have ok:zHt (.str x) (ys.map T.str)=true:=by
  obtain⟨h1,h2⟩:=zub h;unfold zHt zt4;rw[zu1,h1,h2,T.pln,T.data,PyData.canLay0,hx,PyData.depth]
  rfl
 unfold inT;simp only;rw[if_pos ok];unfold hasT;rw[T.data,zuv]
end Pu
set_option Elab.async false
set_option linter.all false
set_option maxRecDepth 100000
namespace Tx
open PySem PySem.NumText
abbrev cs(x:Str):List Nat:=x.cps.toList
theorem cs_app(x y:Str):cs (x++y)=cs x++cs y:=Array.toList_append
theorem cs_ext{x y:Str}(h:cs x=cs y):x=y:=by
 cases x;cases y;exact congrArg Str.mk (Array.toList_inj.mp h)
theorem cs_len(x:Str):x.length=(cs x).length:=rfl
def joinL(c:Nat):List (List Nat)->List Nat
 |[]=>[]
 |[x]=>x
 |x::r=>x++c::joinL c r
theorem cs_join(c:Nat):∀l:List Str,cs (Str.join ⟨#[c]⟩ l)=joinL c (l.map cs)
 |[]=>rfl
 |[x]=>rfl
 |x::y::r=>by
  show cs (x++⟨#[c]⟩++Str.join ⟨#[c]⟩ (y::r))=cs x++c::joinL c ((y::r).map cs);rw[cs_app,cs_app,cs_join c (y::r),ybi]
  rfl
theorem zyl{c:Nat}:∀{a b u v:List Nat},a++c::u=b++c::v->c∉a->c∉b->a=b/\u=v
 |[],[],u,v,h,_,_=>⟨rfl,(yd3 h).2⟩
 |[],y::b,u,v,h,_,hb=>absurd (by rw[(yd3 h).1];exact ya8 ..) hb
 |x::a,[],u,v,h,ha,_=>absurd (by rw[<- (yd3 h).1];exact ya8 ..) ha
 |x::a,y::b,u,v,h,ha,hb=>by
  obtain⟨e1,e2⟩:=yd3 h;obtain⟨e3,e4⟩:=zyl e2 (λz=>ha (ya6 _ z)) (λz=>hb (ya6 _ z))
  exact⟨by rw[e1,e3],e4⟩
theorem joinL_inj{c:Nat}:∀{l m:List (List Nat)},l≠[]->m≠[]->(∀p∈l,c∉p)->(∀p∈m,c∉p)->joinL c l=joinL c m->l=m
 |[],_,h,_,_,_,_=>absurd rfl h
 |_,[],_,h,_,_,_=>absurd rfl h
 |[a],[b],_,_,_,_,e=>by rw[show a=b from e]
 |[a],b::b2::r,_,_,ha,_,e=>absurd (by rw[show a=b++c::joinL c (b2::r) from e];simp) (ha a (ya8 ..))
 |a::a2::r,[b],_,_,_,hb,e=>absurd (by rw[<- show a++c::joinL c (a2::r)=b from e];simp) (hb b (ya8 ..))
 |a::a2::r,b::b2::q,_,_,ha,hb,e=>by
  obtain⟨e1,e2⟩:=zyl (show a++c::joinL c (a2::r)=b++c::joinL c (b2::q) from e) (ha a (ya8 ..)) (hb b (ya8 ..));rw[e1,joinL_inj (ydy _ _) (ydy _ _) (λp hp=>ha p (ya6 _ hp)) (λp hp=>hb p (ya6 _ hp)) e2]
theorem map_cs_inj:∀{l m:List Str},l.map cs=m.map cs->l=m
 |[],[],_=>rfl
 |[],_::_,h=>by cases h
 |_::_,[],h=>by cases h
 |a::l,b::m,h=>by
  obtain⟨e1,e2⟩:=yd3 h;rw[cs_ext e1,map_cs_inj e2]
section
variable {x y:Str}{c:Nat}(hA:∀k,(cs x)[k]?=some c->StrLaws.At x y x.length k)
include hA
end
theorem cs_mk(l:List Nat):cs ⟨l.toArray⟩=l:=rfl
theorem sl_to{x:Str}{a:Nat}(h:a<=(cs x).length):cs (Txt.slice x none (some (a:Int)))=(cs x).take a:=by
 have e:Txt.slice x none (some (a:Int))=StrLaws.sliceText x none (some (a:Int)):=rfl;rw[e,StrLaws.sliceText_to ⟨Int.natCast_nonneg a,Int.ofNat_le.mpr h⟩,cs_mk,List.drop_zero,Int.sub_zero,Int.toNat_natCast]
end Tx
set_option linter.all false
set_option maxRecDepth 100000
namespace Hd
open PySem PySem.W PySem.Calls PyProof.Rows
def goT(st:SharedT->Thread->Option (SharedT×Thread))(ok:Thread->Bool):Nat->SharedT->Thread->Option SharedT
 |0=>λ_ _=>none
 |n+1=>λs t=>bif through t then some s else bif ok t then (st s t).elim none λx=>goT st ok n x.1 x.2 else none
theorem zGw{tb:String->Option Builtin}{p:Program}{w:World}{m:Nat}{ann:Option Value}(n:Nat):∀(s:SharedT) (t:Thread) (r:SharedT),
  goT (stepT (denote tb) p w) (stepOk m ann) n s t=some r->topRun tb p w m ann n s.abs t=some r.abs:=by
 induction n with
 |zero=>intro s t r h;exact nomatch h
 |succ n ih =>
  intro s t r h;rw[goT]at h;dsimp only at h;rw[topRun];cases a:through t with
  |true=>rw[a]at h;cases h;rfl
  |false =>
   rw[a]at h;cases b:stepOk m ann t with
   |false=>rw[b]at h;exact nomatch h
   |true =>
    rw[b]at h;cases c:stepT (denote tb) p w s t with
    |none=>rw[c]at h;exact nomatch h
    |some x=>rw[c]at h;rw[stepT_spec (s':=x.1) (t':=x.2) c];exact ih _ _ _ h
def znx(p q:Program)(loose:List Str)(Xt:Shared->Bool){α:Type}(Yf:Shared->α)(h:Heap)(s:Shared) :=
 ((staticsOk (importedModules p.main.body) h s.heap && namesBound p s.heap && gensDone s && laidKept h s.heap),openSeen q loose (importedModules p.main.body) Xt true s,Yf s)
theorem zGg{p q:Program}{loose:List Str}{Xt:Shared->Bool}{α:Type}{Yf:Shared->α}{Ya:World->α}{N M m:Nat}{ann:Option Value}{bt:Params->BT}{lf:Params->Life}{st:World->SharedT->Thread->Option (SharedT×Thread)}{ok:Thread->Bool}(hst:∀w,stepT (denote treeTable) p w=st w)(hok:stepOk m ann=ok)
  (e:opening p=plainProg p.main.scope.names) (hN:Nat.ble 600 N=true) (f:∀s,fenceModules? p s=some s) (hM:Nat.ble M N=true)
  (hb:∀P,absHeap (bt P) m (lf P)=boot_heap P) (hs:∀P,(boot_heap P).isNs mainGlobals=true) (hz:∀P,(boot_heap P).objs.size=m) (ha:∀P,(boot_heap P).nsMap mainGlobals "__annotations__"=ann)
  (h:∀(w:World) (os:OsState),(goT (st w) ok M ⟨bt w.params,m,lf w.params,Array.mk [],boot_drawn,boot_toks,os⟩ (topStub p)).map (λs=>znx p q loose Xt Yf (boot_heap w.params) s.abs)=some (true,openGood q loose,Ya w)) :
  LeftO p q loose Xt Yf Ya N true:=λw=>by
 obtain⟨⟨h0,g0,d0,k0,os⟩,hs0,hv⟩:=ya2.mp (boot_open e hN f w);simp only[Prod.mk.injEq]at hv;obtain⟨rfl,rfl,rfl,rfl⟩:=hv;obtain⟨T,hT,hx⟩:=ya2.mp (h w os);rw[<- hst,<- hok]at hT;have r:=topRun_mono (N - M) _ _ _ _ (zGw _ _ _ _ hT);rw[Nat.add_sub_cancel' (Nat.le_of_ble_eq_true hM)]at r;have hx1:=congrArg Prod.fst hx;have hx2:=congrArg Prod.snd hx;simp only[znx]at hx1 hx2;simp only[SharedT.abs,hb]at r hx1 hx2
 have k:topFrom treeTable p w N ⟨boot_heap w.params,Array.mk [],boot_drawn,boot_toks,os⟩=some T.abs:=by
  simp only[topFrom,hs,hz,ha,r];simp only[Option.bind_some,SharedT.abs];rw[hx1]
  rfl
 show((fencedOpening treeTable p w N).bind (topFrom treeTable p w N)).map _=_;rw[hs0];show(topFrom treeTable p w N _).map _=_;rw[k];exact congrArg some hx2
noncomputable def en(P:Params)(x:String)(k:Nat)(v:Value):DictEntry:=⟨PyData.keyHash P (Str.ofString x),.str (Str.ofString x) k,v⟩
noncomputable def bt(P:Params):BT:=((boot_heap P).objs.toList.foldl (λ(x:BT×Nat) o=>(x.1.ins x.2 o,x.2+1)) (BT.nil,0)).1
theorem bt_ok(P:Params):absHeap (bt P) 11 (boot_heap P).life=boot_heap P:=by kernel_rfl
theorem zMf(P:Params):(boot_heap P).nsMap mainGlobals "__annotations__"=some (.ref 6):=by kernel_rfl
theorem ns_ok(P:Params):(boot_heap P).isNs mainGlobals=true:=by kernel_rfl
theorem sz_ok(P:Params):(boot_heap P).objs.size=11:=by kernel_rfl
noncomputable abbrev go(p:Program)(M:Nat)(w:World)(os:OsState):Option SharedT :=
 goT (Fast.tw10156331382660048174 (Fast.tw11892475500146522536 Fast.tw14364793385576792824) p w) (Fast.tw6613529449190102663 11 (some (.ref 6))) M ⟨bt w.params,11,(boot_heap w.params).life,Array.mk [],boot_drawn,boot_toks,os⟩ (topStub p)
abbrev xt(r:RowW)(q:Program)(s:Shared):Bool:=xlAt q [] s && recOk r.records s
theorem zGh{p q:Program}{r:RowW}{loose:List Str}{α:Type}{Yf:Shared->α}{Ya:World->α}(N M:Nat)
  (e:opening p=plainProg p.main.scope.names) (hN:Nat.ble 600 N=true) (f:∀s,fenceModules? p s=some s) (hM:Nat.ble M N=true)
  (h:∀(w:World) (os:OsState),(go p M w os).map (λs=>znx p q loose (xt r q) Yf (boot_heap w.params) s.abs)=some (true,openGood q loose,Ya w)):LeftO p q loose (xt r q) Yf Ya N true :=
 zGg (st:=λw=>Fast.tw10156331382660048174 (Fast.tw11892475500146522536 Fast.tw14364793385576792824) p w) (ok:=Fast.tw6613529449190102663 11 (some (.ref 6)))
  (λw=>by rw[Fast.te10156331382660048174,Fast.te11892475500146522536,Fast.te14364793385576792824]) (by rw[Fast.te6613529449190102663]) e hN f hM bt_ok ns_ok sz_ok zMf h
theorem zEr{l:OpenLaw}(h:Fast.tw9446332074065402090 l=true):l.wellSaid=true:=(congrFun Fast.te9446332074065402090 l).trans h
end Hd
set_option Elab.async false
set_option linter.all false
set_option maxRecDepth 100000
set_option maxHeartbeats 4200000
namespace Zl
open PySem L2 Zw Zx Pu
noncomputable section
local macro_rules
  |`(tactic| simp_arith[$as,*])=>`(tactic| simp only[zda,runF,zai,zco,zki,zvr,sIf,zc1,zEv,zA6,ztu,zsh,zzh,sNx,sBk,sCt,zgf,ztv,zJc,zzg,zHq,zl5,zj6,zu5,za5,mC,zac,za4,zao,mAp,m1,m2,zan,mIf,zf4,zom,mOr,mIx,mSl,zjf,zea,zol,mLC,fin,g1,g2,bNm,zg4,zak,zg1,blk,zHz,zHu,zba,zhx,zdz,zou,as1,as2,asL,zMx,isL,zf0,zIt,znc,zh8,zfs,zD8,zMw,zCd,zp9,zsl,zGp,T.isN,T.isB,zhe,zcp,zMz,zMq,ybt,zLm,zth,zMy,zdy,tyN,zIc,zzv,T.share,zal,T.sh,shL,T.flat,at0,at1,at2,yaf,yc6,yao,yaw,List.replicate,yap,yba,List.cons_append,List.getElem?_cons_zero,yci,List.getElem?_nil,List.set_cons_zero,List.set_cons_succ,ybs,nl0,nl1,nl2,nl3,nl4,nl5,nl6,nl7,nl8,nl9,Int.reduceBEq,Nat.reduceBEq,Nat.reduceAdd,Nat.reduceSub,Nat.reduceLT,Nat.reduceLeDiff,if_true,if_false,ite_true,ite_false,reduceIte,Bool.not_true,Bool.not_false,Bool.and_true,Bool.true_and,Bool.and_false,ydh,Bool.or_true,ydv,ydm,ydo,Bool.false_xor,Bool.true_xor,yc7,ydq,decide_true,decide_false,yaj,ybx,or_false,or_true,true_or,and_true,true_and,and_self,String.reduceEq,String.reduceBEq,beq_self_eq_true,ne_eq,not_false_eq_true,not_true_eq_false,zL4,zL3,zcj,zwb,Int.reduceLT,Int.reduceAdd,Int.toNat_natCast,zEl,zCt,implies_true,forall_const,Int.reduceEq,Int.reduceNe,zrw,zih,zg2,zmk,zB6,zj4,zoc,zJb,zx4,zB7,zxl,leT,ze9,zMl,zHp,zHs,sNo,$as,*])
def top(i:Nat):Stmt:=PySem.Challenge.pw_zonewalk_k25_whole_doors_and_shares.main.body.getD i (.Pass ⟨0,0,0,0⟩)
def zM9(s:Stmt)(j:Nat):Stmt:=match s with
 |.ClassDef _ _ _ body _ _ _ _ _ _ _=>body.getD j (.Pass ⟨0,0,0,0⟩)
 |_=>.Pass ⟨0,0,0,0⟩
def zrv(i j:Nat):Stmt:=zM9 (top i) j
abbrev zah:Addr:=156
def zaq:List Str:=["start","end","guard","noughts","sign"]
abbrev za8:Addr:=210
def zaa:List Str:=["watch_names","stays","door_list"]
def zst:T:=(.nd false .rt [(.str "<"),(.str "<="),(.str ">"),(.str ">="),(.str "=")])
def zgk:T:=(.nd false .rt [(.str "<"),(.str "<=")])
def zbi:T:=(.int 7)
def zcc:T:=(.int 64)
def zbf:T:=(.int 200)
def zgl:T:=(.int 6)
def znl:List (Addr×Bool):=[(156,true),(210,false)]
def zm0:List (Addr×Bool):=[(156,false),(210,true)]
def zgz:List (Str×Addr):=[("TooMany",56)]
def zgx:List (Addr×Bool):=[(31,true),(44,true),(56,true)]
abbrev zj3:Stmt:=top 45
theorem zs7:FnScope ["_law_script","_law_k"] ["_law_script","_law_k"] (za2 zj3):=scM (by decide +kernel)
def zje:PSt->Option Out :=
 (zai (sIf (m2 (zp9 λi j=>decide (i<j)) (za5 1) (m1 zhe (za5 0))) (zc1 (mIx (za5 0) (za5 1))) sNx)
 (zc1 (mC (.int 0))))
def zd2:List T->Option Ru:=zda 2 2 zje
abbrev zly:Fn:=⟨1,["_law_script","_law_k"],zd2⟩
abbrev zt2:Gm:=⟨["_law_script","_law_k"],(za2 zj3).names,[],0,[],["len"],[],[],[],false,[],[],[],gxD⟩
theorem zte:dSs 200 zt2 (zab zj3)=some zje:=by kernel_rfl
theorem zpg(ns:List Int){k:Int}(h0:0<=k):zd2 [zaw ns,.int k]=some (.ok (.int (ns.getD k.toNat 0))):=by
 unfold zd2 zje
 by_cases h:k<ns.length
 ·have e:ns[k.toNat]?=some (ns.getD k.toNat 0):=by
   rw[ya7,ya0 (by omega)]
   rfl
  have ea:atI (ns.map T.int) k=some (.int (ns.getD k.toNat 0)):=zzd h0 (by rw[ya3,e];rfl)
  have el:decide (k<((ns.map T.int).length:Int))=true:=by simpa using h
  simp_arith[zaw,zh5,znw,el,ea]
 ·have el:decide (k<((ns.map T.int).length:Int))=false:=by simpa using h
  have e:ns.getD k.toNat 0=0:=by
   rw[ya7,yb7 (by omega)]
   rfl
  simp_arith[zaw,zh5,znw,el,e]
abbrev zl4:Stmt:=top 46
theorem zv4:FnScope ["_law_cell","_law_many_here","_law_found","_law_number","_law_k","_law_rest"] ["_law_cell","_law_many_here"] (za2 zl4):=scM (by decide +kernel)
def zho:PSt->Option Out :=
 (zai (ztv 2 (m2 zh8 (za5 5) (mC (.int 2147483647))))
 (zco (m2 zfs (za5 5) (mC (.int 2147483647))) (bNm 5)))
def zhn:PSt->Option Out :=
 (zai (zco (m2 zh8 (m2 zf0 (m2 zf0 (m2 znc (za5 3) (za5 3)) (m2 znc (mC (.int 48271)) (za5 3))) (za5 4)) (mC (.int 2147483647))) (bNm 3))
 (ztv 2 (za5 3)))
def zig:PSt->Option Out :=
 (zai (zki 2 (zea zac))
 (zai (sIf (m2 (zp9 λi j=>decide (j<=i)) (za5 0) (m2 zD8 (mC (.int 10)) (mC (.int 30)))) (zai (zco (m2 zIt (za5 0) (m2 zD8 (mC (.int 10)) (mC (.int 30)))) (bNm 5))
 (zai (zgf (zba (za4 (za5 1) zac)) (bNm 4) zho)
 (zc1 (za5 2)))) sNx)
 (zai (zco (m2 zf0 (m2 zh8 (za5 0) (mC (.int 2147483647))) (mC (.int 48271))) (bNm 3))
 (zai (zgf (zba (za4 (m2 zf0 (za5 1) (mC (.int 2))) zac)) (bNm 4) zhn)
 (zai (zvr 2) (zc1 (zmk (mSl (za5 2) (some (mC (.int 2))) none) (zsq (za5 2) (some (mC (.int 2))) none))))))))
def ze8:List T->Option Ru:=zda 2 6 zig
abbrev znk:Fn:=⟨1,["_law_cell","_law_many_here"],ze8⟩
abbrev zvh:Gm:=⟨["_law_cell","_law_many_here","_law_found","_law_number","_law_k","_law_rest"],(za2 zl4).names,[],0,[],["range"],[],["_law_found"],[],false,[],[],[],gxD⟩
theorem zvp:dSs 200 zvh (zab zl4)=some zig:=by kernel_rfl
theorem zIu(c:Int){m:Nat}(hm:m<=1000):∃xs:Nat->Int,ze8 [.int c,.int m]=some (.ok (.own (mT m λi=>.int (xs i)))):=by
 have p30:(0:Int)<=30/\(30:Int)<=1000000/\s64 10=true:=⟨by decide,by decide,zfv (by decide) (by decide)⟩
 have s45:s70 2147483647=true:=zec (by decide) (by decide)
 have r30:(30:Int).toNat=30:=rfl
 by_cases h:(10:Int) ^ 30<=c
 ·have loop:=zDt (b:=bNm 4) (body:=zho) (n:=m) (g:=λi=>.int (i:Int)) (τ:=[some (.int c),some (.int m),some (.own []),none,none,some (.int (c - 10 ^ 30))])
   (λi τ=>∃(xs:Nat->Int) (x:Option T) (r:Int),τ=[some (.int c),some (.int m),some (.own (mT i λi=>.int (xs i))),none,x,some (.int r)])
   ⟨λ_=>0,none,_,rfl⟩ (by
    rintro i τ hi ⟨xs,x,r,rfl⟩;refine⟨_,by simp_arith[];rfl,?_⟩
    have l1:i<100000:=by omega
    refine⟨_,by unfold zho;simp_arith[s45,l1];rfl,λj=>if j=i then r.fmod 2147483647 else xs j,some (.int (i:Int)),r.fdiv 2147483647,?_⟩
    rw[zxk T.int])
  obtain⟨τ',e1,xs,x,r,rfl⟩:=loop;refine⟨xs,?_⟩;have o1:zmj (m:Int)=true:=zch (by omega)
  unfold ze8 zig
  simp_arith[p30,r30,h,o1,zb8,e1]
 ·have loop:=zDt (b:=bNm 4) (body:=zhn) (n:=m+2) (g:=λi=>.int (i:Int)) (τ:=[some (.int c),some (.int m),some (.own []),some (.int (c.fmod 2147483647+48271)),none,none])
   (λi τ=>∃(xs:Nat->Int) (x:Option T) (r:Int),0<=r/\r<4294967296/\τ=[some (.int c),some (.int m),some (.own (mT i λi=>.int (xs i))),some (.int r),x,none])
   ⟨λ_=>0,none,_,by rw[fm (by decide)];omega,by rw[fm (by decide)];omega,rfl⟩ (by
    rintro i τ hi ⟨xs,x,r,r0,r1,rfl⟩;refine⟨_,by simp_arith[];rfl,?_⟩
    have l1:i<100000:=by omega
    have m1:zhd r r=true:=zG2 (zec (by omega) (by omega)) (zec (by omega) (by omega))
    have m2:zhd 48271 r=true:=zfh (zfv (by decide) (by decide))
    refine⟨_,by unfold zhn;simp_arith[l1,m1,m2];rfl,λj=>if j=i then (r * r+48271 * r+i).fmod 2147483647 else xs j,some (.int (i:Int)),(r * r+48271 * r+i).fmod 2147483647,by rw[fm (by decide)];omega,by rw[fm (by decide)];omega,?_⟩
    rw[zxk T.int])
  obtain⟨τ',e1,xs,x,r,-,-,rfl⟩:=loop;refine⟨λi=>xs (i+2),?_⟩
  have o1:zmj ((m:Int)+2)=true:=zch (n:=m+2) (by omega)
  have o2:((m:Int)+2).toNat=m+2:=by omega
  have ct:zrf (mT (m+2) λi=>.int (xs i)) (some 2) none=mT m λi=>.int (xs (i+2)):=by
   unfold zrf;have e2:HT.sIx (mT (m+2) λi=>T.int (xs i)).length 0 (some 2)=2:=by rw[zcj];simp[HT.sIx]
   have e3:HT.sIx (mT (m+2) λi=>T.int (xs i)).length (mT (m+2) λi=>T.int (xs i)).length none=m+2:=by rw[zcj];rfl
   rw[e2,e3];refine zjo (by simp[zcj]) λi hi=>?_
   rw[ycf (by omega),ycm,zlg (by omega),yda]
  unfold ze8 zig
  simp_arith[p30,r30,h,o1,o2,zb8,e1,ct]
abbrev zo9:Stmt:=top 47
theorem zwi:FnScope ["_law_cell","_law_k","_law_many_here"] ["_law_cell","_law_k","_law_many_here"] (za2 zo9):=scM (by decide +kernel)
def zko:PSt->Option Out :=
 (zai (sIf (m2 (zp9 λi j=>decide (j<=i)) (za5 0) (m2 zD8 (mC (.int 10)) (mC (.int 30)))) (zc1 (zmk (mSl (zan ze8 (za4 (za5 0) (za4 (m2 znc (za5 2) (m2 zf0 (za5 1) (mC (.int 1)))) zac))) (some (m2 znc (za5 2) (za5 1))) none) (zsq (zan ze8 (za4 (za5 0) (za4 (m2 znc (za5 2) (m2 zf0 (za5 1) (mC (.int 1)))) zac))) (some (m2 znc (za5 2) (za5 1))) none))) sNx)
 (zc1 (zan ze8 (za4 (m2 zf0 (za5 0) (m2 znc (mC (.int 7919)) (za5 1))) (za4 (za5 2) zac)))))
def zhc:List T->Option Ru:=zda 3 3 zko
abbrev zr8:Fn:=⟨2,["_law_cell","_law_k","_law_many_here"],zhc⟩
abbrev zy5:Gm:=⟨["_law_cell","_law_k","_law_many_here"],(za2 zo9).names,[],1,[("_law_stream",znk)],[],[],[],[],false,[],[],[],gxD⟩
theorem zyu:dSs 200 zy5 (zab zo9)=some zko:=by kernel_rfl
theorem zze{x:Str}(h:∀c∈Tx.cs x,c<128):PyData.strOk x=true:=by
 unfold PyData.strOk;rw[<- Array.all_toList,yau];intro c hc;have:=h c hc;exact decide_eq_true (by omega)
theorem zC1{n a:Nat}{g:Nat->T}:zrf (mT (n+a) g) (some (a:Int)) none=mT n λi=>g (i+a):=by
 unfold zrf;have e2:HT.sIx (mT (n+a) g).length 0 (some (a:Int))=a:=by rw[zcj];simp[HT.sIx];omega
 have e3:HT.sIx (mT (n+a) g).length (mT (n+a) g).length none=n+a:=by rw[zcj];rfl
 rw[e2,e3];refine zjo (by simp[zcj]) λi hi=>?_
 rw[ycf (by omega),ycm,zlg (by omega),yda]
theorem zBx(c:Int){k m:Nat}(hm:m * (k+1)<=1000)(hk:k<=1000)(h1:m<=1000):∃xs:Nat->Int,zhc [.int c,.int (k:Int),.int (m:Int)]=some (.ok (.own (mT m λi=>.int (xs i)))):=by
 have p30:(0:Int)<=30/\(30:Int)<=1000000/\s64 10=true:=⟨by decide,by decide,zfv (by decide) (by decide)⟩
 have r30:(30:Int).toNat=30:=rfl;have m1:∀x:Int,zhd (m:Int) x=true:=λx=>zfh (zfv (by omega) (by omega))
 by_cases h:(10:Int) ^ 30<=c
 ·obtain⟨xs,e⟩:=zIu c (m:=m * (k+1)) hm;have em:(m:Int) * ((k:Int)+1)=((m * (k+1):Nat):Int):=by rw[Int.natCast_mul];rfl
  have ek:(m:Int) * (k:Int)=((m * k:Nat):Int):=by rw[Int.natCast_mul]
  have ct:zrf (mT (m * (k+1)) λi=>.int (xs i)) (some ((m * k:Nat):Int)) none=mT m λi=>.int (xs (i+m * k)):=by
   rw[show m * (k+1)=m+m * k by rw[Nat.mul_add,Nat.mul_one,yda]]
   exact zC1
  refine⟨λi=>xs (i+m * k),?_⟩
  unfold zhc zko
  simp_arith[p30,r30,h,m1,em,ek,e,ct]
 ·have m2:zhd 7919 (k:Int)=true:=zfh (zfv (by decide) (by decide))
  obtain⟨xs,e⟩:=zIu (c+7919 * (k:Int)) h1;refine⟨xs,?_⟩;unfold zhc zko
  simp_arith[p30,r30,h,m2,e]
abbrev zo6:Stmt:=top 48
theorem zwf:FnScope ["_law_cell","_law_many_here","_law_letters","_law_size","_law_at","_law_names_here","_law_k","_law_name","_law_j","_law_sign"] ["_law_cell","_law_many_here"] (za2 zo6):=scM (by decide +kernel)
def zh0:PSt->Option Out :=
 (zai (zco (m2 zf0 (m2 zf0 (m2 zfs (za5 0) (mC (.int 6720))) (m2 znc (za5 8) (m2 zf0 (mC (.int 1)) (m2 zh8 (za5 0) (mC (.int 25)))))) (m2 znc (za5 6) (m1 zLm (m2 eqT (za5 8) (za5 4))))) (bNm 9))
 (zco (m2 zf0 (za5 7) (mIx (za5 2) (m2 zh8 (za5 9) (mC (.int 26))))) (bNm 7)))
def zh1:PSt->Option Out :=
 (zai (zco (mC (.str "")) (bNm 7))
 (zai (zgf (zba (za4 (za5 3) zac)) (bNm 8) zh0)
 (ztv 5 (za5 7))))
def zoh:PSt->Option Out :=
 (zai (zco (mC (.str "abcdefghijklmnopqrstuvwxyz")) (bNm 2))
 (zai (zco (m2 zf0 (mC (.int 1)) (m2 zh8 (za5 0) (mC (.int 8)))) (bNm 3))
 (zai (zco (m2 zh8 (m2 zh8 (m2 zfs (za5 0) (mC (.int 8))) (mC (.int 840))) (za5 3)) (bNm 4))
 (zai (zki 5 (zea zac))
 (zai (zgf (zba (za4 (za5 1) zac)) (bNm 6) zh1)
 (zc1 (za5 5)))))))
def ziv:List T->Option Ru:=zda 2 10 zoh
abbrev zr5:Fn:=⟨1,["_law_cell","_law_many_here"],ziv⟩
abbrev zy2:Gm:=⟨["_law_cell","_law_many_here","_law_letters","_law_size","_law_at","_law_names_here","_law_k","_law_name","_law_j","_law_sign"],(za2 zo6).names,[],0,[],["range","int"],[],["_law_names_here"],[],false,[],[],[],gxD⟩
theorem zyr:dSs 200 zy2 (zab zo6)=some zoh:=by kernel_rfl
def sgI(c:Int)(k j:Nat):Int:=(c.fdiv 6720+(j:Int) * (1+c.fmod 25)+(k:Int) * (if ((j:Int) == ((c.fdiv 8).fmod 840).fmod (1+c.fmod 8))=true then 1 else 0)).fmod 26
def sgN(c:Int)(k j:Nat):Nat:=97+(sgI c k j).toNat
def nmS(c:Int)(k n:Nat):Str:=⟨((List.range n).map (sgN c k)).toArray⟩
def nmN(c:Int):Nat:=(1+c.fmod 8).toNat
theorem zie(c:Int):1<=nmN c/\nmN c<=8/\(1+c.fmod 8)=(nmN c:Int):=by
 unfold nmN;rw[fm (by decide)]
 omega
theorem zi8(c:Int)(k j:Nat):0<=sgI c k j/\sgI c k j<26:=by
 unfold sgI;rw[fm (j:=26) (by decide)]
 omega
theorem abc:(Str.ofString "abcdefghijklmnopqrstuvwxyz").cps.toList=(List.range 26).map (97 + ·):=by decide +kernel
theorem zMi{i:Int}(h0:0<=i)(h1:i<26):atI (Str.ofString "abcdefghijklmnopqrstuvwxyz").cps.toList i=some (97+i.toNat):=by
 rw[abc];refine zzd h0 ?_;rw[ya3,yc1 (by omega)]
 rfl
theorem zHi:(Str.ofString "abcdefghijklmnopqrstuvwxyz").length<=100000:=by decide +kernel
theorem zFz(c:Int)(k n:Nat):nmS c k n++⟨#[sgN c k n]⟩=nmS c k (n+1):=by
 show Str.mk (((List.range n).map (sgN c k)).toArray++#[sgN c k n])=Str.mk _;rw[List.range_succ,yaq];simp
theorem zFy(c:Int)(k n:Nat):(nmS c k n).length=n:=by
 show((List.range n).map (sgN c k)).toArray.size=n;simp
theorem w7_ok{c:Int}{k i m:Nat}(hi:i<8)(hk:k<30){o x9:Option T}:∃y9,zh0 [some (.int c),some (.int (m:Int)),some (.str "abcdefghijklmnopqrstuvwxyz"),some (.int (1+c.fmod 8)),some (.int (((c.fdiv 8).fmod 840).fmod (1+c.fmod 8))),o,some (.int k),some (.str (nmS c k i)),some (.int i),x9]
  = some (.nx [some (.int c),some (.int (m:Int)),some (.str "abcdefghijklmnopqrstuvwxyz"),some (.int (1+c.fmod 8)),some (.int (((c.fdiv 8).fmod 840).fmod (1+c.fmod 8))),o,some (.int k),some (.str (nmS c k (i+1))),some (.int i),y9]):=by
 have m1:zhd (i:Int) (1+c.fmod 25)=true:=zfh (zfv (by omega) (by omega))
 have m2:∀x:Int,zhd (k:Int) x=true:=λx=>zfh (zfv (by omega) (by omega))
 have s1:s70 6720=true:=zec (by decide) (by decide)
 have ea:atI (Str.ofString "abcdefghijklmnopqrstuvwxyz").cps.toList ((c.fdiv 6720+(i:Int) * (1+c.fmod 25)+(k:Int) * (if ((i:Int) == ((c.fdiv 8).fmod 840).fmod (1+c.fmod 8))=true then 1 else 0)).fmod 26)=some (sgN c k i):=zMi (zi8 c k i).1 (zi8 c k i).2
 have el:(nmS c k i).length+(Str.mk #[sgN c k i]).length<=100000:=by
  rw[zFy];show i+1<=100000
  omega
 unfold zh0;refine⟨some (.int (c.fdiv 6720+(i:Int) * (1+c.fmod 25)+(k:Int) * (if ((i:Int) == ((c.fdiv 8).fmod 840).fmod (1+c.fmod 8))=true then 1 else 0))),?_⟩
 simp_arith[zio,m1,m2,s1,ea,zHi,el,zFz]
theorem w5_ok{c:Int}{k m:Nat}(hk:k<30){l:List T}(hl:l.length<1000){x7 x8 x9:Option T}:∃y7 y8 y9,zh1 [some (.int c),some (.int (m:Int)),some (.str "abcdefghijklmnopqrstuvwxyz"),some (.int (1+c.fmod 8)),some (.int (((c.fdiv 8).fmod 840).fmod (1+c.fmod 8))),some (.own l),some (.int k),x7,x8,x9]
  = some (.nx [some (.int c),some (.int (m:Int)),some (.str "abcdefghijklmnopqrstuvwxyz"),some (.int (1+c.fmod 8)),some (.int (((c.fdiv 8).fmod 840).fmod (1+c.fmod 8))),some (.own (l++[.str (nmS c k (nmN c))])),some (.int k),y7,y8,y9]):=by
 obtain⟨n1,n8,ne⟩:=zie c
 obtain⟨τ,e,z8,z9,rfl⟩:=zbr (b:=bNm 8) (body:=zh0) (ts:=mT (nmN c) λi=>.int (i:Int)) (τ:=[some (.int c),some (.int (m:Int)),some (.str "abcdefghijklmnopqrstuvwxyz"),some (.int (1+c.fmod 8)),some (.int (((c.fdiv 8).fmod 840).fmod (1+c.fmod 8))),some (.own l),some (.int k),some (.str ""),x8,x9])
  (λi τ=>∃x8 x9,τ=[some (.int c),some (.int (m:Int)),some (.str "abcdefghijklmnopqrstuvwxyz"),some (.int (1+c.fmod 8)),some (.int (((c.fdiv 8).fmod 840).fmod (1+c.fmod 8))),some (.own l),some (.int k),some (.str (nmS c k i)),x8,x9]) ⟨x8,x9,by rfl⟩ λi t τ h1 h2=>by
   obtain⟨hi,rfl⟩:=zcz h1;obtain⟨x8,x9,rfl⟩:=h2;obtain⟨y9,ew⟩:=w7_ok (c:=c) (k:=k) (i:=i) (m:=m) (by omega) hk (o:=some (.own l)) (x9:=x9)
   exact⟨_,by simp_arith[],_,ew,_,_,rfl⟩
 rw[zcj]at e;have ok:zmj (1+c.fmod 8)=true:=@decide_eq_true _ (Classical.propDecidable _) ⟨by omega,by omega⟩
 have er:zcq 0 (1+c.fmod 8).toNat=mT (nmN c) λi=>.int (i:Int):=zb8
 have ll:l.length<100000:=by omega
 unfold zh1;refine⟨some (.str (nmS c k (nmN c))),z8,z9,?_⟩
 simp_arith[ok,er,e,ll]
abbrev nmX(c:Int)(k:Nat):Str:=nmS c k (nmN c)
theorem zB3(c:Int){m:Nat}(hm:m<30):ziv [.int c,.int (m:Int)]=some (.ok (.own (mT m λk=>.str (nmX c k)))):=by
 obtain⟨n1,n8,ne⟩:=zie c
 obtain⟨τ,e,z6,z7,z8,z9,rfl⟩:=zbr (b:=bNm 6) (body:=zh1) (ts:=mT m λi=>.int (i:Int)) (τ:=[some (.int c),some (.int (m:Int)),some (.str "abcdefghijklmnopqrstuvwxyz"),some (.int (1+c.fmod 8)),some (.int (((c.fdiv 8).fmod 840).fmod (1+c.fmod 8))),some (.own []),none,none,none,none])
  (λi τ=>∃x6 x7 x8 x9,τ=[some (.int c),some (.int (m:Int)),some (.str "abcdefghijklmnopqrstuvwxyz"),some (.int (1+c.fmod 8)),some (.int (((c.fdiv 8).fmod 840).fmod (1+c.fmod 8))),some (.own (mT i λk=>.str (nmX c k))),x6,x7,x8,x9]) ⟨_,_,_,_,by rfl⟩ λi t τ h1 h2=>by
   obtain⟨hi,rfl⟩:=zcz h1;obtain⟨x6,x7,x8,x9,rfl⟩:=h2;obtain⟨y7,y8,y9,ew⟩:=w5_ok (c:=c) (k:=i) (m:=m) (by omega) (l:=mT i λk=>.str (nmX c k)) (by rw[zcj];omega) (x7:=x7) (x8:=x8) (x9:=x9)
   rw[zDi (g:=λk=>.str (nmX c k))]at ew
   exact⟨_,by simp_arith[],_,ew,_,_,_,_,rfl⟩
 rw[zcj]at e;have ok:zmj (m:Int)=true:=@decide_eq_true _ (Classical.propDecidable _) ⟨by omega,by omega⟩
 have er:zcq 0 m=mT m λi=>.int (i:Int):=zb8
 have h0:(1+c.fmod 8≠0)=True:=eq_true (by omega)
 have s1:s70 8=true:=zec (by decide) (by decide)
 unfold ziv zoh
 simp_arith[ok,er,e,h0,s1]
theorem zB2(c:Int)(k:Nat):Tx.cs (nmX c k)=(List.range (nmN c)).map (sgN c k):=rfl
theorem zKx(c:Int)(k:Nat):∀s∈Tx.cs (nmX c k),97<=s/\s<=122:=λs hs=>by
 rw[zB2]at hs;obtain⟨j,_,rfl⟩:=yag.mp hs;have:=zi8 c k j;unfold sgN
 omega
theorem zG0(c:Int)(k:Nat):(Tx.cs (nmX c k)).length<=8:=by
 rw[zB2,ya1,ybb];exact(zie c).2.1
theorem zKv(c:Int)(k:Nat):1<=(Tx.cs (nmX c k)).length:=by
 rw[zB2,ya1,ybb];exact(zie c).1
theorem zB0{c:Int}{j k:Nat}(hj:j<26)(hk:k<26)(h:nmX c j=nmX c k):j=k:=by
 obtain⟨n1,n8,ne⟩:=zie c
 have ha:0<=((c.fdiv 8).fmod 840).fmod (1+c.fmod 8)/\((c.fdiv 8).fmod 840).fmod (1+c.fmod 8)<1+c.fmod 8:=by
  rw[fm (j:=1+c.fmod 8) (by omega)]
  exact⟨Int.emod_nonneg _ (by omega),Int.emod_lt_of_pos _ (by omega)⟩
 obtain⟨a,ea⟩:=ybr ha.1;have hn:a<nmN c:=by omega
 have e:sgN c j a=sgN c k a:=by
  have e1:=congrArg (λl:List Nat=>l[a]?) (congrArg Tx.cs h)
  simp only[zB2,ya3,yc1 hn]at e1;exact yas e1
 have s1:=zi8 c j a;have s2:=zi8 c k a;unfold sgN at e;have e2:sgI c j a=sgI c k a:=by omega
 unfold sgI at e2;have eb:(((a:Nat):Int) == ((c.fdiv 8).fmod 840).fmod (1+c.fmod 8))=true:=by rw[ea];exact beq_self_eq_true _
 rw[if_pos eb,fm (j:=26) (by decide),fm (j:=26) (by decide)]at e2
 generalize c.fdiv 6720+((a:Nat):Int) * (1+c.fmod 25)=z at e2
 omega
abbrev zcs:Stmt:=top 17
theorem zi9:FnScope ["sign"] ["sign"] (za2 zcs):=scM (by decide +kernel)
def zcw:PSt->Option Out :=
 (zc1 (zxl leT leT (mC (.str "a")) (za5 0) (mC (.str "z"))))
def zbb:List T->Option Ru:=zda 1 1 zcw
abbrev zcl:Fn:=⟨1,["sign"],zbb⟩
abbrev zij:Gm:=⟨["sign"],(za2 zcs).names,[],0,[],[],[],[],[],false,[],[],[],gxD⟩
theorem ziq:dSs 200 zij (zab zcs)=some zcw:=by kernel_rfl
theorem zIz{c:Nat}(h1:97<=c)(h2:c<=122):zbb [.str ⟨#[c]⟩]=some (.ok (.bl true)):=by
 have a1:((Str.ofString "a").cps.toList)=[97]:=by decide +kernel
 have a2:((Str.ofString "z").cps.toList)=[122]:=by decide +kernel
 have b1:@decide ((#[c]:Array Nat).toList<(Str.ofString "a").cps.toList) (Classical.propDecidable _)=false:=@decide_eq_false _ (Classical.propDecidable _) (by
  rw[a1];show ¬ ([c] < [97]);rw[List.cons_lt_cons_iff];rintro(h|⟨_,h⟩)
  ·omega
  ·exact absurd h (List.not_lt_nil _))
 have b2:@decide ((Str.ofString "z").cps.toList<(#[c]:Array Nat).toList) (Classical.propDecidable _)=false:=@decide_eq_false _ (Classical.propDecidable _) (by
  rw[a2];show ¬ ([122] < [c]);rw[List.cons_lt_cons_iff];rintro(h|⟨_,h⟩)
  ·omega
  ·exact absurd h (List.not_lt_nil _))
 unfold zbb zcw
 simp_arith[b1,b2]
abbrev zl2:Stmt:=top 18
theorem zv2:FnScope ["text"] ["text"] (za2 zl2):=scM (by decide +kernel)
def zi1:PSt->Option Rs :=
 (zan zbb (za4 (za5 0) zac))
def zle:PSt->Option Out :=
 (zc1 (zom (zxl leT leT (mC (.int 1)) (m1 zhe (za5 0)) (mC (.int 8))) (m1 zth (mLC 1 [] (ze9 (za5 0)) (bNm 0) (mC (.bl true)) zi1))))
def zgy:List T->Option Ru:=zda 1 1 zle
abbrev zjh:Fn:=⟨2,["text"],zgy⟩
abbrev zvf:Gm:=⟨["text"],(za2 zl2).names,[],1,[("is_small_letter",zcl)],["len","all"],[],[],[],false,[],[],[],gxD⟩
theorem zvn:dSs 200 zvf (zab zl2)=some zle:=by kernel_rfl
def Sml(x:Str):Prop:=∀i,i<x.cps.size->97<=x.cps.getD i 0/\x.cps.getD i 0<=122
theorem zCu(x:Str):zCv x=mT x.cps.size λi=>.str ⟨#[x.cps.getD i 0]⟩:=by
 refine zjo (by simp[zCv]) λi hi=>?_
 unfold zCv;rw[ya3,ycp,yb8 hi];simp[Array.getD,hi]
theorem zKw{x:Str}(h:Sml x)(h1:1<=x.cps.size)(h8:x.cps.size<=8):zgy [.str x]=some (.ok (.bl true)):=by
 have l1:x.cps.size<=100000:=by omega
 have lc:=lc1 (n:=x.cps.size) (me:=zi1) (x:=none) (cs:=[]) (g:=λi=>.str ⟨#[x.cps.getD i 0]⟩) (f:=λ_=>.bl true) λi hi=>by
  unfold zi1
  simp_arith[zIz (h i hi).1 (h i hi).2]
 have e1:decide ((1:Int)<=(x.length:Int))=true:=decide_eq_true (by show(1:Int)<=((x.cps.size:Nat):Int);omega)
 have e2:decide ((x.length:Int)<=8)=true:=decide_eq_true (by show((x.cps.size:Nat):Int)<=8;omega)
 have ll:x.length<=lim:=by
  show x.cps.size<=lim;unfold lim
  omega
 have ba:((List.range x.cps.size).map λ_=>true).all id=true:=by simp
 unfold zgy zle
 simp_arith[zCu,lc,l1,e1,e2,ll,zit,ba]
abbrev zds:Stmt:=top 19
theorem zjz:FnScope ["thing"] ["thing"] (za2 zds):=scM (by decide +kernel)
def zdu:PSt->Option Out :=
 (zc1 (zom (m1 (zdy "str") (za5 0)) (mOr (m2 eqT (za5 0) (mC (.str "/"))) (zan zgy (za4 (za5 0) zac)))))
def zbv:List T->Option Ru:=zda 1 1 zdu
abbrev zdd:Fn:=⟨3,["thing"],zbv⟩
abbrev zk6:Gm:=⟨["thing"],(za2 zds).names,[],2,[("is_name",zjh)],["isinstance","str"],[],[],[],false,[],[],[],gxD⟩
theorem zk9:dSs 200 zk6 (zab zds)=some zdu:=by kernel_rfl
theorem zIx{x:Str}(h:Sml x):PyData.strOk x=true:=by
 unfold PyData.strOk;rw[Array.all_eq_true];intro i hi;have:=(h i hi).2;rw[ybu,yb8 hi]at this;simp only[Option.getD_some]at this;rw[decide_eq_true_eq]
 omega
def Wnm(x:Str):Prop:=x=Str.ofString "/"\/(Sml x/\1<=x.cps.size/\x.cps.size<=8)
theorem znu:PyData.strOk (Str.ofString "/")=true:=by decide +kernel
theorem zks{x:Str}(h:Wnm x):PyData.strOk x=true:=by
 rcases h with rfl|h
 ·exact znu
 ·exact zIx h.1
theorem zI5{x:Str}(h:Wnm x):zbv [.str x]=some (.ok (.bl true)):=by
 have e:=zeh (zks h) znu;unfold zbv zdu
 by_cases q:x=Str.ofString "/"
 ·rw[decide_eq_true q]at e
  simp_arith[e]
 ·rw[decide_eq_false q]at e;have en:=zKw (h.resolve_left q).1 (h.resolve_left q).2.1 (h.resolve_left q).2.2
  simp_arith[e,en]
abbrev zem:Stmt:=top 20
theorem zky:FnScope ["thing"] ["thing"] (za2 zem):=scM (by decide +kernel)
def zc4:PSt->Option Rs :=
 (mOr (m2 eqT (za5 0) (mC (.str "/"))) (zan zbb (za4 (za5 0) zac)))
def zep:PSt->Option Out :=
 (zai (sIf (mOr (zf4 (m1 (zdy "str") (za5 0))) (zf4 (zxl leT leT (mC (.int 1)) (m1 zhe (za5 0)) (mC (.int 60))))) (zc1 (mC (.bl false))) sNx)
 (zc1 (m1 zth (mLC 1 [] (ze9 (za5 0)) (bNm 0) (mC (.bl true)) zc4))))
def zc3:List T->Option Ru:=zda 1 1 zep
abbrev ze1:Fn:=⟨2,["thing"],zc3⟩
abbrev zls:Gm:=⟨["thing"],(za2 zem).names,[],1,[("is_small_letter",zcl)],["isinstance","str","len","all"],[],[],[],false,[],[],[],gxD⟩
theorem zm2:dSs 200 zls (zab zem)=some zep:=by kernel_rfl
def Rmn(x:Str):Prop:=∀i,i<x.cps.size->x.cps.getD i 0=47\/(97<=x.cps.getD i 0/\x.cps.getD i 0<=122)
theorem zD0{x:Str}(h:Rmn x):PyData.strOk x=true:=by
 unfold PyData.strOk;rw[Array.all_eq_true];intro i hi;have:=h i hi;rw[ybu,yb8 hi]at this;simp only[Option.getD_some]at this;rw[decide_eq_true_eq]
 omega
theorem zJe{x:Str}(h:Rmn x)(h1:1<=x.cps.size)(h8:x.cps.size<=60):zc3 [.str x]=some (.ok (.bl true)):=by
 have l1:x.cps.size<=100000:=by omega
 have lc:=lc1 (n:=x.cps.size) (me:=zc4) (x:=none) (cs:=[]) (g:=λi=>.str ⟨#[x.cps.getD i 0]⟩) (f:=λ_=>.bl true) λi hi=>by
  have o1:PyData.strOk (Str.mk #[x.cps.getD i 0])=true:=zD0 λj hj=>by
   have hj':j<1:=hj;have e:j=0:=by omega
   subst e;exact h i hi
  have e:=zeh o1 znu
  by_cases q:x.cps.getD i 0=47
  ·have n:Str.mk #[x.cps.getD i 0]=Str.ofString "/":=by
    rw[q];exact Tx.cs_ext (by decide +kernel)
   rw[decide_eq_true n]at e;unfold zc4
   simp_arith[e]
  ·have n:¬ (Str.mk #[x.cps.getD i 0]=Str.ofString "/"):=λq1=>by
    have e1:(Str.ofString "/").cps=#[47]:=by decide +kernel
    have q1:#[x.cps.getD i 0]=(Str.ofString "/").cps:=congrArg Str.cps q1;rw[e1]at q1;exact q (by simpa using q1)
   rw[decide_eq_false n]at e;have hh:=(h i hi).resolve_left q;unfold zc4
   simp_arith[e,zIz hh.1 hh.2]
 have e1:decide ((1:Int)<=(x.length:Int))=true:=decide_eq_true (by show(1:Int)<=((x.cps.size:Nat):Int);omega)
 have e2:decide ((x.length:Int)<=60)=true:=decide_eq_true (by show((x.cps.size:Nat):Int)<=60;omega)
 have ll:x.length<=100000:=l1;have ba:((List.range x.cps.size).map λ_=>true).all id=true:=by simp
 unfold zc3 zep
 simp_arith[zCu,lc,l1,e1,e2,ll,zit,ba]
abbrev zj0:Stmt:=top 6
theorem zs4:FnScope ["thing"] ["thing"] (za2 zj0):=scM (by decide +kernel)
def zjb:PSt->Option Out :=
 (zc1 (zom (m1 (zdy "int") (za5 0)) (zf4 (m1 (zdy "bool") (za5 0)))))
def zha:List T->Option Ru:=zda 1 1 zjb
abbrev zlv:Fn:=⟨1,["thing"],zha⟩
abbrev zsz:Gm:=⟨["thing"],(za2 zj0).names,[],0,[],["isinstance","int","bool"],[],[],[],false,[],[],[],gxD⟩
theorem ztb:dSs 200 zsz (zab zj0)=some zjb:=by kernel_rfl
theorem zvx(i:Int):zha [.int i]=some (.ok (.bl true)):=by simp_arith[zha,zjb]
abbrev zhs:Stmt:=top 11
theorem zq7:FnScope ["thing"] ["thing"] (za2 zhs):=scM (by decide +kernel)
def zhu:PSt->Option Out :=
 (zc1 (zom (zan zha (za4 (za5 0) zac)) (m2 (zp9 λi j=>decide (j<=i)) (za5 0) (mC (.int 0)))))
def zfu:List T->Option Ru:=zda 1 1 zhu
abbrev zjv:Fn:=⟨2,["thing"],zfu⟩
abbrev zr1:Gm:=⟨["thing"],(za2 zhs).names,[],1,[("is_whole",zlv)],[],[],[],[],false,[],[],[],gxD⟩
theorem zrh:dSs 200 zr1 (zab zhs)=some zhu:=by kernel_rfl
theorem zFw(i:Int):zfu [.int i]=some (.ok (.bl (decide (0<=i)))):=by
 unfold zfu zhu
 simp_arith[zvx]
abbrev zl3:Stmt:=top 10
theorem zv3:FnScope ["thing","watches","words"] ["thing","watches","words"] (za2 zl3):=scM (by decide +kernel)
def zlf:PSt->Option Out :=
 (zai (sIf (mOr (zf4 (m1 (zdy "tuple") (za5 0))) (m2 neT (m1 zhe (za5 0)) (mC (.int 3)))) (zc1 (mC (.bl false))) sNx)
 (zc1 (zom (m2 inT (mIx (za5 0) (mC (.int 0))) (za5 1)) (zom (m2 inT (mIx (za5 0) (mC (.int 1))) (za5 2)) (zan zfu (za4 (mIx (za5 0) (mC (.int 2))) zac))))))
def ziu:List T->Option Ru:=zda 3 3 zlf
abbrev znj:Fn:=⟨3,["thing","watches","words"],ziu⟩
abbrev zvg:Gm:=⟨["thing","watches","words"],(za2 zl3).names,[],2,[("is_number",zjv)],["isinstance","tuple","len"],[],[],[],false,[],[],[],gxD⟩
theorem zvo:dSs 200 zvg (zab zl3)=some zlf:=by kernel_rfl
def wdS:List Str:=["<","<=",">",">=","="]
theorem zI6:Txs wdS:=by unfold Txs;decide +kernel
abbrev zj1:Stmt:=top 12
theorem zs5:FnScope ["thing","watches","words"] ["thing","watches","words"] (za2 zj1):=scM (by decide +kernel)
def zgu:PSt->Option Rs :=
 (zan ziu (za4 (za5 0) (za4 (za5 1) (za4 (za5 2) zac))))
def zjc:PSt->Option Out :=
 (zc1 (zom (m1 (zdy "list") (za5 0)) (m1 zth (mLC 1 [1,2] (ze9 (za5 0)) (bNm 0) (mC (.bl true)) zgu))))
def zf3:List T->Option Ru:=zda 3 3 zjc
abbrev zi0:Fn:=⟨4,["thing","watches","words"],zf3⟩
abbrev zt0:Gm:=⟨["thing","watches","words"],(za2 zj1).names,["watches","words"],3,[("is_look",znj)],["isinstance","list","all"],[],[],[],false,[],[],[],gxD⟩
theorem ztc:dSs 200 zt0 (zab zj1)=some zjc:=by kernel_rfl
abbrev zge:Stmt:=top 26
theorem zo2:FnScope ["texts"] ["texts"] (za2 zge):=scM (by decide +kernel)
def zgj:PSt->Option Out :=
 (zc1 (m2 eqT (m1 zHn (za5 0)) (m1 zhe (za5 0))))
def zbg:List T->Option Ru:=zda 1 1 zgj
abbrev zbx:Fn:=⟨1,["texts"],zbg⟩
abbrev zp3:Gm:=⟨["texts"],(za2 zge).names,[],0,[],["len","set"],[],[],[],false,[],[],[],gxD⟩
theorem zpe:dSs 200 zp3 (zab zge)=some zgj:=by kernel_rfl
theorem zDg{val:Nat->L2.Key}{n:Nat}(h:∀i j,i<n->j<n->val i=val j->i=j):∀k,k<=n->(met val k).length=k/\∀x∈met val k,∃i,i<k/\x=val i
 |0,_=>⟨rfl,λx hx=>by cases hx⟩
 |k+1,hk=>by
  obtain⟨h1,h2⟩:=zDg h k (by omega)
  have hn:val k∉met val k:=λz=>by
   obtain⟨i,hi,e⟩:=h2 _ z;have:=h k i (by omega) (by omega) e
   omega
  have e:met val (k+1)=met val k++[val k]:=by
   conv=>lhs;unfold met
   rw[if_neg hn]
  rw[e];refine⟨by rw[yab,ybf,h1],λx hx=>?_⟩
  rcases ybe.mp hx with q|q
  ·obtain⟨i,hi,e⟩:=h2 x q;exact⟨i,by omega,e⟩
  ·exact⟨k,by omega,ya9.mp q⟩
theorem zI8{ys:List Str}(h:ys.Nodup):unqN ys=ys.length:=by
 unfold unqN;refine(zDg (n:=ys.length) (λi j hi hj e=>?_) ys.length (yaa _)).1
 have e':=Sum.inr.inj e;rw[ya7,ya7,ya0 hi,ya0 hj]at e';exact(yd4 h).mp e'
theorem zg6{ys:List Str}(h:ys.Nodup)(hl:ys.length<1000):zbg [.lst (ys.map T.str)]=some (.ok (.bl true)):=by
 have e:((ys.length:Int) == (ys.length:Int))=true:=beq_self_eq_true _;unfold zbg zgj
 simp_arith[zHn,za3,zh4,hl,zI8 h,zio,e,ya1]
abbrev zdt:Stmt:=top 25
theorem zk0:FnScope ["watches"] ["watches"] (za2 zdt):=scM (by decide +kernel)
def zd0:PSt->Option Rs :=
 (zan zbv (za4 (za5 0) zac))
def zdv:PSt->Option Out :=
 (zai (sIf (mOr (zf4 (m1 (zdy "list") (za5 0))) (m2 (zp9 λi j=>decide (j<i)) (m1 zhe (za5 0)) (mC zbi))) (zl5 "BadMachine" (za4 (mC (.str "a machine's watches are a list of at most seven")) zac)) sNx)
 (sIf (mOr (zf4 (m1 zth (mLC 1 [] (ze9 (za5 0)) (bNm 0) (mC (.bl true)) zd0))) (zf4 (zan zbg (za4 (za5 0) zac)))) (zl5 "BadMachine" (za4 (mC (.str "a machine's watches are unlike names")) zac)) sNx))
def zcn:List T->Option Ru:=zda 1 1 zdv
abbrev zg0:Fn:=⟨4,["watches"],zcn⟩
abbrev zk3:Gx:=⟨[("MOST_WATCHES",zbi)],[],[],[],false,true,true,none,[],[],[],true,[],[],[],[]⟩
abbrev zk7:Gm:=⟨["watches"],(za2 zdt).names,[],3,[("is_watch_name",zdd),("are_unlike",zbx)],["isinstance","list","len","all"],["BadMachine"],[],[],false,[],[],[],zk3⟩
theorem zka:dSs 200 zk7 (zab zdt)=some zdv:=by kernel_rfl
theorem znr(ws:List Str):ws.map T.str=mT ws.length λi=>.str (ws.getD i Str.empty):=zjo (by rw[ya1]) λi hi=>by
 rw[ya3,ya7,ya0 hi]
 rfl
theorem cw_ok{ws:List Str}(h:∀x∈ws,Wnm x)(hd:ws.Nodup)(hl:ws.length<=7):zcn [.lst (ws.map T.str)]=some (.ok .non):=by
 have lc:=lc1 (n:=ws.length) (me:=zd0) (x:=none) (cs:=[]) (g:=λi=>.str (ws.getD i Str.empty)) (f:=λ_=>.bl true) λi hi=>by
  have hm:ws.getD i Str.empty∈ws:=by
   rw[ya7,ya0 hi];exact yam hi
  unfold zd0
  simp_arith[zI5 (h _ hm)]
 rw[<- znr]at lc;have l1:ws.length<=100000:=by omega
 have e1:decide ((7:Int)<(ws.length:Int))=false:=decide_eq_false (by omega)
 have ba:((List.range ws.length).map λ_=>true).all id=true:=by simp
 have un:=zg6 hd (by omega)
 unfold zcn zdv zbi
 simp_arith[za3,za7,ya1,lc,l1,e1,zit,ba,un]
abbrev zf8:Stmt:=top 27
theorem zmd:FnScope ["rooms","watches","room"] ["rooms","watches"] (za2 zf8):=scM (by decide +kernel)
def zdn:PSt->Option Out :=
 (zai (sIf (mOr (zf4 (m1 (zdy "tuple") (za5 2))) (m2 neT (m1 zhe (za5 2)) (mC (.int 2)))) (zl5 "BadMachine" (za4 (mC (.str "a room is a tuple of a name and a stay")) zac)) sNx)
 (sIf (mOr (zf4 (zan zc3 (za4 (mIx (za5 2) (mC (.int 0))) zac))) (zf4 (zan zf3 (za4 (mIx (za5 2) (mC (.int 1))) (za4 (za5 1) (za4 (mC zgk) zac)))))) (zl5 "BadMachine" (za4 (mC (.str "a room has a name, and a stay of the machine's watches")) zac)) sNx))
def ze3:PSt->Option Rs :=
 (mIx (za5 0) (mC (.int 0)))
def zfj:PSt->Option Out :=
 (zai (sIf (mOr (zf4 (m1 (zdy "list") (za5 0))) (m2 eqT (m1 zhe (za5 0)) (mC (.int 0)))) (zl5 "BadMachine" (za4 (mC (.str "a machine's rooms are a list of one or more")) zac)) sNx)
 (zai (zgf (ze9 (za5 0)) (bNm 2) zdn)
 (sIf (zf4 (zan zbg (za4 (mLC 1 [] (ze9 (za5 0)) (bNm 0) (mC (.bl true)) ze3) zac))) (zl5 "BadMachine" (za4 (mC (.str "no two rooms have one name")) zac)) sNx)))
def zdi:List T->Option Ru:=zda 2 3 zfj
abbrev zhi:Fn:=⟨5,["rooms","watches"],zdi⟩
abbrev zmm:Gx:=⟨[("STAY_WORDS",zgk)],[],[],[],false,true,true,none,[],[],[],true,[],[],[],[]⟩
abbrev zms:Gm:=⟨["rooms","watches","room"],(za2 zf8).names,[],4,[("is_room_name",ze1),("is_guard",zi0),("are_unlike",zbx)],["isinstance","list","len","tuple"],["BadMachine"],[],[],false,[],[],[],zmm⟩
theorem zmz:dSs 200 zms (zab zf8)=some zfj:=by kernel_rfl
def Lks(ws wd:List Str)(l:List T):Prop:=∀t∈l,∃x y n,t=.tup [.str x,.str y,.int n]/\x∈ws/\y∈wd/\0<=n
theorem Lks.sh{ws wd:List Str}{l:List T}(h:Lks ws wd l):shL l=true:=by
 rw[zbj,yau];intro t ht;obtain⟨x,y,n,rfl,_⟩:=h t ht
 rfl
theorem Lks.more{ws vs wd:List Str}{l:List T}(h:Lks ws wd l)(hs:∀x∈ws,x∈vs):Lks vs wd l:=λt ht=>by
 obtain⟨x,y,n,e,h1,h2,h3⟩:=h t ht;exact⟨x,y,n,e,hs x h1,h2,h3⟩
abbrev kwT(wd:List Str):T:=.nd false .rt (wd.map T.str)
theorem zGd{ws wd:List Str}(h:Txs ws)(hd:Txs wd){t:T}(ht:∃x y n,t=.tup [.str x,.str y,.int n]/\x∈ws/\y∈wd/\0<=n):ziu [t,.lst (ws.map T.str),kwT wd]=some (.ok (.bl true)):=by
 obtain⟨x,y,n,rfl,h1,h2,h3⟩:=ht;have e1:=zos (o:=false) (k:=.lst) h (h x h1);have e2:=zos (o:=false) (k:=.rt) hd (hd y h2);have e3:=zFw n;rw[decide_eq_true h1]at e1;rw[decide_eq_true h2]at e2;rw[decide_eq_true h3]at e3;unfold ziu zlf
 simp_arith[zhg,za3,za7,e1,e2,e3]
theorem zuf{ws wd:List Str}(h:Txs ws)(hd:Txs wd){l:List T}(hl:l.length<=1000)(hk:Lks ws wd l):zf3 [.lst l,.lst (ws.map T.str),kwT wd]=some (.ok (.bl true)):=by
 have hs:=hk.sh;have es:=za0 l hs;have em:=mT_of l .non
 have sg:∀i,(l.getD i .non).sh=true:=λi=>by
  by_cases hi:i<l.length
  ·rw[ya7,ya0 hi];rw[zbj,yau]at hs;exact hs _ (yam hi)
  ·rw[ya7,yb7 (by omega)]
   rfl
 have lc:=lc1 (n:=l.length) (me:=zgu) (x:=none) (cs:=[some (.lst (ws.map T.str)),some (kwT wd)]) (g:=λi=>l.getD i .non) (f:=λ_=>.bl true) λi hi=>by
  have hm:l.getD i .non∈l:=by
   rw[ya7,ya0 hi];exact yam hi
  have e:=zGd h hd (hk _ hm);unfold zgu
  simp_arith[za3,za7,e,zaz _ (sg i),sg i]
 rw[<- em]at lc;have l1:l.length<=100000:=by omega
 have ba:((List.range l.length).map λ_=>true).all id=true:=by simp
 unfold zf3 zjc
 simp_arith[za3,za7,hs,es,l1,lc,zit,ba]
def stS:List Str:=["<","<="]
theorem zLf:zgk=kwT stS:=rfl
theorem k_wds:zst=kwT wdS:=rfl
theorem st_tx:Txs stS:=by unfold Txs;decide +kernel
structure RsOk(ws:List Str)(rs:List (Str×List T)):Prop where
 l1:1<=rs.length
 l64:rs.length<=64
 nm:∀r∈rs,Rmn r.1/\1<=r.1.cps.size/\r.1.cps.size<=60
 nd:(rs.map (·.1)).Nodup
 lk:∀r∈rs,Lks ws stS r.2/\r.2.length<=1000
abbrev zkj(r:Str×List T):T:=.tup [.str r.1,.lst r.2]
abbrev zv6(rs:List (Str×List T)):T:=.lst (rs.map zkj)
theorem zCz{ws:List Str}{rs:List (Str×List T)}(h:RsOk ws rs):shL (rs.map zkj)=true:=by
 rw[zbj,yau];intro t ht;obtain⟨r,hr,rfl⟩:=yag.mp ht;have:=(h.lk r hr).1.sh;show((!false) && (true && (((!false) && shL r.2) && true)))=true;rw[this]
 rfl
theorem zHa{ws:List Str}(hw:Txs ws){rs:List (Str×List T)}(h:RsOk ws rs):zdi [zv6 rs,.lst (ws.map T.str)]=some (.ok .non):=by
 have sr:=zCz h;have er:=za0 _ sr;have hl1:=h.l1;have hl2:=h.l64;have en:(((rs.map zkj).length:Int) == 0)=false:=by rw[beq_eq_false_iff_ne,ya1];omega
 obtain⟨τ,e,y,rfl⟩:=zbr (b:=bNm 2) (body:=zdn) (ts:=rs.map zkj) (τ:=[some (zv6 rs),some (.lst (ws.map T.str)),none]) (λi τ=>∃y,τ=[some (zv6 rs),some (.lst (ws.map T.str)),y]) ⟨_,rfl⟩ λi t τ h1 h2=>by
  obtain⟨y,rfl⟩:=h2;obtain⟨r,hr,rfl⟩:=yag.mp (yat h1);obtain⟨n1,n2,n3⟩:=h.nm r hr;obtain⟨k1,k2⟩:=h.lk r hr;have e1:=zJe n1 n2 n3;have e2:=zuf hw st_tx k2 k1;have e3:=k1.sh;refine⟨[some (zv6 rs),some (.lst (ws.map T.str)),some (zkj r)],by simp_arith[],[some (zv6 rs),some (.lst (ws.map T.str)),some (zkj r)],?_,_,rfl⟩
  unfold zdn
  simp_arith[zLf,zhg,za3,za7,e1,e2,e3,za0 _ e3]
 have lc:=zon (b:=bNm 0) (me:=ze3) (ts:=rs.map zkj) (τ:=[none]) (λ_ τ=>∃y,τ=[y]) (λi=>.str ((rs.map (·.1)).getD i Str.empty)) ⟨none,rfl⟩ λi t τ h1 h2=>by
  obtain⟨y,rfl⟩:=h2;have hi:i<rs.length:=by simpa using (ya5.mp h1).1
  rw[ya3,ya0 hi]at h1;have et:t=zkj rs[i]:=(yas h1).symm;subst et;have k1:=(h.lk rs[i] (yam hi)).1.sh;have eg:(rs.map (·.1)).getD i Str.empty=rs[i].1:=by simp[hi]
  refine⟨[some (zkj rs[i])],by simp_arith[],?_,_,rfl⟩
  rw[eg];unfold ze3
  simp_arith[k1]
 have em:(List.range (rs.map zkj).length).map (λi=>T.str ((rs.map (·.1)).getD i Str.empty))=(rs.map (·.1)).map T.str:=by
  rw[znr (rs.map (·.1)),ya1,ya1]
  rfl
 rw[em]at lc;have un:=zg6 h.nd (by rw[ya1];omega)
 have ll:(rs.map zkj).length<=100000:=by rw[ya1];omega
 unfold zdi zfj
 simp_arith[zio,za3,za7,sr,er,en,e,lc,un,ll]
abbrev zfb:Stmt:=top 29
theorem zmg:FnScope ["thing","watches"] ["thing","watches"] (za2 zfb):=scM (by decide +kernel)
def ze6:PSt->Option Rs :=
 (zan zbv (za4 (za5 0) zac))
def ze5:PSt->Option Rs :=
 (m2 inT (za5 0) (za5 1))
def zfm:PSt->Option Out :=
 (zai (sIf (mOr (zf4 (m1 (zdy "list") (za5 0))) (zf4 (m1 zth (mLC 1 [] (ze9 (za5 0)) (bNm 0) (mC (.bl true)) ze6)))) (zc1 (mC (.bl false))) sNx)
 (zc1 (zom (zan zbg (za4 (za5 0) zac)) (m1 zth (mLC 1 [1] (ze9 (za5 0)) (bNm 0) (mC (.bl true)) ze5)))))
def zdl:List T->Option Ru:=zda 2 2 zfm
abbrev zhl:Fn:=⟨4,["thing","watches"],zdl⟩
abbrev zmv:Gm:=⟨["thing","watches"],(za2 zfb).names,["watches"],3,[("is_watch_name",zdd),("are_unlike",zbx)],["isinstance","list","all"],[],[],[],false,[],[],[],gxD⟩
theorem zn2:dSs 200 zmv (zab zfb)=some zfm:=by kernel_rfl
theorem zKu{ws ns:List Str}(hw:∀x∈ws,Wnm x)(hn:∀x∈ns,x∈ws)(hd:ns.Nodup)(hl:ns.length<=100):zdl [.lst (ns.map T.str),.lst (ws.map T.str)]=some (.ok (.bl true)):=by
 have tw:Txs ws:=λx hx=>zks (hw x hx)
 have mem:∀i,i<ns.length->ns.getD i Str.empty∈ns:=λi hi=>by
  rw[ya7,ya0 hi];exact yam hi
 have lc:=lc1 (n:=ns.length) (me:=ze6) (x:=none) (cs:=[]) (g:=λi=>.str (ns.getD i Str.empty)) (f:=λ_=>.bl true) λi hi=>by
  unfold ze6
  simp_arith[zI5 (hw _ (hn _ (mem i hi)))]
 have lc2:=lc1 (n:=ns.length) (me:=ze5) (x:=none) (cs:=[some (.lst (ws.map T.str))]) (g:=λi=>.str (ns.getD i Str.empty)) (f:=λ_=>.bl true) λi hi=>by
  have e:=zos (o:=false) (k:=.lst) tw (tw _ (hn _ (mem i hi)));rw[decide_eq_true (hn _ (mem i hi))]at e;unfold ze5
  simp_arith[za3,za7,e]
 rw[<- znr]at lc lc2;have l1:ns.length<=100000:=by omega
 have ba:((List.range ns.length).map λ_=>true).all id=true:=by simp
 have un:=zg6 hd (by omega)
 unfold zdl zfm
 simp_arith[za3,za7,ya1,lc,lc2,l1,zit,ba,un]
abbrev zl1:Stmt:=top 21
theorem zv1:FnScope ["thing"] ["thing"] (za2 zl1):=scM (by decide +kernel)
def zif:PSt->Option Out :=
 (zai (sIf (zf4 (m1 (zdy "str") (za5 0))) (zc1 (mC (.bl false))) sNx)
 (zc1 (mOr (m2 eqT (za5 0) (mC (.str ""))) (zom (m2 inT (mIx (za5 0) (m1 zsl (mC (.int 1)))) (zol (za4 (mC (.str "!")) (za4 (mC (.str "?")) zac)))) (zan zgy (za4 (zmk (mSl (za5 0) none (some (m1 zsl (mC (.int 1))))) (zsq (za5 0) none (some (m1 zsl (mC (.int 1)))))) zac))))))
def zf2:List T->Option Ru:=zda 1 1 zif
abbrev zni:Fn:=⟨3,["thing"],zf2⟩
abbrev zve:Gm:=⟨["thing"],(za2 zl1).names,[],2,[("is_name",zjh)],["isinstance","str"],[],[],[],false,[],[],[],gxD⟩
theorem zvm:dSs 200 zve (zab zl1)=some zif:=by kernel_rfl
def Sgn(z:Str):Prop:=z=Str.ofString ""\/∃(y:Str) (c:Nat),Sml y/\1<=y.cps.size/\y.cps.size<=8/\(c=33\/c=63)/\Tx.cs z=Tx.cs y++[c]
theorem zq3{y:Str}(h:Sml y):∀c∈Tx.cs y,97<=c/\c<=122:=λc hc=>by
 obtain⟨i,hi⟩:=List.getElem?_of_mem hc;have hl:i<y.cps.size:=by simpa using (ya5.mp hi).1
 have:=h i hl;rw[ycp,yb8 hl]at hi;rw[ybu,yb8 hl]at this;cases hi;exact this
theorem zEm{z:Str}(h:Sgn z):∀c∈Tx.cs z,c<128/\c≠32/\c≠10/\c≠58:=λc hc=>by
 rcases h with rfl|⟨y,d,h1,_,_,hd,e⟩
 ·rw[show Tx.cs (Str.ofString "")=[] by decide +kernel]at hc
  cases hc
 ·rw[e]at hc
  rcases ybe.mp hc with hc|hc
  ·have:=zq3 h1 c hc
   omega
  ·rw[ya9.mp hc]
   omega
theorem zq5{z:Str}(h:Sgn z):PyData.strOk z=true:=zze λc hc=>(zEm h c hc).1
theorem zJ0{z:Str}(h:Sgn z):zf2 [.str z]=some (.ok (.bl true)):=by
 have o0:PyData.strOk (Str.ofString "")=true:=by decide +kernel
 have tl:∀c,(c=33\/c=63)->inT (.str (Str.mk #[c])) (.tup [.str (Str.ofString "!"),.str (Str.ofString "?")])=some (.bl true):=λc hc=>by
  rcases hc with rfl|rfl<;>kernel_rfl
 have key:∀z y:Str,PyData.strOk z=true->z≠Str.ofString ""->z.length<=100000->∀c,(c=33\/c=63)->atI z.cps.toList (-1)=some c->Txt.slice z none (some (-1))=y->Sml y->1<=y.cps.size->y.cps.size<=8->zf2 [.str z]=some (.ok (.bl true)):=by
  intro z y hz hne hl c hc ha hs h1 h2 h3;have e:=zeh hz o0;rw[decide_eq_false hne]at e;have en:=zKw h1 h2 h3;unfold zf2 zif
  simp_arith[e,hl,ha,tl c hc,zsq,hs,en,show(-(1:Int))=-1 from rfl]
 rcases id h with rfl|⟨y,c,h1,h2,h3,hc,e⟩
 ·have e:=zeh o0 o0;rw[decide_eq_true rfl]at e;unfold zf2 zif
  simp_arith[e]
 ·have hl:(Tx.cs z).length=(Tx.cs y).length+1:=by rw[e,yab];rfl
  have h3':(Tx.cs y).length<=8:=h3;refine key z y (zq5 h) (λq=>?_) (by rw[Tx.cs_len];omega) c hc ?_ ?_ h1 h2 h3
  ·rw[q,show Tx.cs (Str.ofString "")=[] by decide +kernel]at hl
   exact absurd hl (by rw[yaw];omega)
  ·show atI (Tx.cs z) (-1)=some c;rw[e];unfold atI ixN;rw[yab,ybf,if_neg (by decide),if_pos (by omega)]
   show(Tx.cs y++[c])[((-1:Int)+(((Tx.cs y).length+1:Nat):Int)).toNat]?=some c;rw[show((-1:Int)+(((Tx.cs y).length+1:Nat):Int)).toNat=(Tx.cs y).length by omega,yb3 (yaa _),Nat.sub_self]
   rfl
  ·have e2:Txt.slice z none (some (-1))=StrLaws.sliceText z none (some (-1)):=rfl;rw[e2,StrLaws.sliceText_neg_hi z none (by decide) (by rw[Tx.cs_len,hl];omega)]
   have e3:((-1:Int)+(z.length:Int))=(((Tx.cs y).length:Nat):Int):=by rw[Tx.cs_len,hl];omega
   rw[e3];refine Tx.cs_ext ?_;show Tx.cs (Txt.slice z none (some (((Tx.cs y).length:Nat):Int)))=Tx.cs y;rw[Tx.sl_to (by omega),e,List.take_left' rfl]
abbrev ziz:Stmt:=top 22
theorem zs3:FnScope ["thing"] ["thing"] (za2 ziz):=scM (by decide +kernel)
def zja:PSt->Option Out :=
 (zc1 (mIf (m1 (zdy "list") (za5 0)) (m1 zcp (za5 0)) (za5 0)))
def zf1:List T->Option Ru:=zda 1 1 zja
abbrev zlu:Fn:=⟨1,["thing"],zf1⟩
abbrev zsy:Gm:=⟨["thing"],(za2 ziz).names,[],0,[],["isinstance","list"],[],[],[],false,[],[],[],gxD⟩
theorem zta:dSs 200 zsy (zab ziz)=some zja:=by kernel_rfl
theorem zAy(l:List T)(h:shL l=true):zf1 [.lst l]=some (.ok (.own l)):=by
 unfold zf1 zja
 simp_arith[h,za0 _ h]
abbrev zfa:Stmt:=top 28
theorem zmf:FnScope ["doors","names","watches","door"] ["doors","names","watches"] (za2 zfa):=scM (by decide +kernel)
def zdo:PSt->Option Out :=
 (zai (sIf (zf4 (m1 (zzj znl) (za5 3))) (zl5 "BadMachine" (za4 (mC (.str "a machine's doors are doors")) zac)) sNx)
 (zai (sIf (mOr (m2 zlb (zih zah zaq 0 (za5 3)) (za5 1)) (m2 zlb (zih zah zaq 1 (za5 3)) (za5 1))) (zl5 "BadMachine" (za4 (mC (.str "a door leads from one room of the machine to another")) zac)) sNx)
 (zai (sIf (zf4 (zan zf3 (za4 (zih zah zaq 2 (za5 3)) (za4 (za5 2) (za4 (mC zst) zac))))) (zl5 "BadMachine" (za4 (mC (.str "a door's guard is one of the machine's watches")) zac)) sNx)
 (sIf (mOr (zf4 (zan zdl (za4 (zih zah zaq 3 (za5 3)) (za4 (za5 2) zac)))) (zf4 (zan zf2 (za4 (zih zah zaq 4 (za5 3)) zac)))) (zl5 "BadMachine" (za4 (mC (.str "a door sets watches of the machine, each once, and has at most one sign")) zac)) sNx))))
def zfl:PSt->Option Out :=
 (zai (sIf (zf4 (m1 (zdy "list") (za5 0))) (zl5 "BadMachine" (za4 (mC (.str "a machine's doors are a list")) zac)) sNx)
 (zgf (ze9 (za5 0)) (bNm 3) zdo))
def zdk:List T->Option Ru:=zda 3 4 zfl
abbrev zhk:Fn:=⟨5,["doors","names","watches"],zdk⟩
abbrev zmo:Gx:=⟨[("WORDS",zst)],[("Door",zah,zaq)],[],[],false,true,true,none,[],[],[],true,[],[("Door",znl)],[],[]⟩
abbrev zmu:Gm:=⟨["doors","names","watches","door"],(za2 zfa).names,[],4,[("is_guard",zi0),("are_noughts",zhl),("is_sign",zni)],["isinstance","list"],["BadMachine"],[],[],false,[],[],[],zmo⟩
theorem zn1:dSs 200 zmu (zab zfa)=some zfl:=by kernel_rfl
structure Dr where
 s:Str
 e:Str
 g:List T
 n:List Str
 z:Str
abbrev zau(d:Dr):T:=.obj (.ins zah zaq) [.str d.s,.str d.e,.lst d.g,.lst (d.n.map T.str),.str d.z]
structure DrOk(ws ns:List Str)(d:Dr):Prop where
 s:d.s∈ns
 e:d.e∈ns
 g:Lks ws wdS d.g
 gl:d.g.length<=1000
 n:∀x∈d.n,x∈ws
 nd:d.n.Nodup
 nl:d.n.length<=100
 z:Sgn d.z
theorem zyf{ws ns:List Str}{d:Dr}(h:DrOk ws ns d):(zau d).sh=true:=by
 have:=h.g.sh
 simp_arith[this,za7]
theorem znb{ys:List Str}{x:Str}{o:Bool}{k:Kd}(h:Txs ys)(hx:PyData.strOk x=true):zlb (.str x) (.nd o k (ys.map T.str))=some (.bl (!decide (x∈ys))):=by
 have e:=zos (o:=o) (k:=k) h hx;unfold inT at e;unfold zlb;simp only at e ⊢;split at e
 ·rename_i hok;rw[if_pos hok];injection e with e
  injection e with e
  rw[e]
 ·cases e
theorem zHd{ws ns:List Str}(hw:∀x∈ws,Wnm x)(hn:Txs ns){ds:List Dr}(h:∀d∈ds,DrOk ws ns d):zdk [.lst (ds.map zau),.lst (ns.map T.str),.lst (ws.map T.str)]=some (.ok .non):=by
 have tw:Txs ws:=λx hx=>zks (hw x hx)
 have sd:shL (ds.map zau)=true:=by
  rw[zbj,yau];intro t ht;obtain⟨d,hd,rfl⟩:=yag.mp ht;exact zyf (h d hd)
 have ed:=za0 _ sd
 obtain⟨τ,e,y,rfl⟩:=zbr (b:=bNm 3) (body:=zdo) (ts:=ds.map zau) (τ:=[some (.lst (ds.map zau)),some (.lst (ns.map T.str)),some (.lst (ws.map T.str)),none]) (λi τ=>∃y,τ=[some (.lst (ds.map zau)),some (.lst (ns.map T.str)),some (.lst (ws.map T.str)),y]) ⟨_,rfl⟩ λi t τ h1 h2=>by
  obtain⟨y,rfl⟩:=h2;obtain⟨d,hd,rfl⟩:=yag.mp (yat h1);have k:=h d hd;have e1:=znb (o:=false) (k:=.lst) hn (hn _ k.s);have e2:=znb (o:=false) (k:=.lst) hn (hn _ k.e);rw[decide_eq_true k.s]at e1;rw[decide_eq_true k.e]at e2;have e3:=zuf tw zI6 k.gl k.g;have e4:=zKu hw k.n k.nd k.nl;have e5:=zJ0 k.z;have e6:=k.g.sh;have ci:List.lookup zah znl=some true:=rfl;refine⟨[some (.lst (ds.map zau)),some (.lst (ns.map T.str)),some (.lst (ws.map T.str)),some (zau d)],by simp_arith[],[some (.lst (ds.map zau)),some (.lst (ns.map T.str)),some (.lst (ws.map T.str)),some (zau d)],?_,_,rfl⟩
  unfold zdo
  simp_arith[k_wds,zzj,ci,za3,za7,e1,e2,e3,e4,e5,e6,za0 _ e6]
 unfold zdk zfl
 simp_arith[za3,za7,sd,ed,e]
abbrev zff:Stmt:=zrv 23 0
theorem zq9:FnScope ["self","start","end","guard","noughts","sign"] ["self","start","end","guard","noughts","sign"] (za2 zff):=scM (by decide +kernel)
def zfp:PSt->Option Out :=
 (zai (zj4 zah zaq 0 0 (za5 1))
 (zai (zj4 zah zaq 1 0 (za5 2))
 (zai (zj4 zah zaq 2 0 (zan zf1 (za4 (za5 3) zac)))
 (zai (zj4 zah zaq 3 0 (zan zf1 (za4 (za5 4) zac)))
 (zj4 zah zaq 4 0 (za5 5))))))
def zc9:List T->Option Ru:=zA7 zah zaq 6 6 zfp
abbrev zjx:Fn:=⟨2,["self","start","end","guard","noughts","sign"],zc9⟩
abbrev zqx:Gx:=⟨[],[],[],[],false,true,true,some (zah,zaq),[],[],[],true,[],[],[],[]⟩
abbrev zjr:Gm:=⟨["self","start","end","guard","noughts","sign"],(za2 zff).names,[],1,[("own_copy",zlu)],[],[],[],[],false,[],[],[],zqx⟩
theorem zrj:dSs 200 zjr (zab zff)=some zfp:=by kernel_rfl
theorem di_ok{ws ns:List Str}{d:Dr}(h:DrOk ws ns d):zc9 [.str d.s,.str d.e,.lst d.g,.lst (d.n.map T.str),.str d.z]=some (.ok (zau d)):=by
 have hg:=h.g.sh;have e1:=zAy d.g hg;have e2:=zAy (d.n.map T.str) (za7 _);refine zsf λp=>?_
 unfold zoa zfp
 simp_arith[e1,e2,hg,za0 _ hg,za3,za7]
abbrev zd6:Stmt:=zrv 24 0
theorem zl0:FnScope ["self","watches","rooms","doors","name","stay"] ["self","watches","rooms","doors"] (za2 zd6):=scM (by decide +kernel)
def zdf:PSt->Option Rs :=
 (za5 0)
def zdb:PSt->Option Out :=
 (zJb za8 zaa 1 0 (za5 4) (m1 zcp (za5 5)))
def zer:PSt->Option Out :=
 (zai (zzh (zan zcn (za4 (za5 1) zac)))
 (zai (zzh (zan zdi (za4 (za5 2) (za4 (za5 1) zac))))
 (zai (zzh (zan zdk (za4 (za5 3) (za4 (mLC 2 [] (ze9 (za5 2)) (zg1 2 (zak (bNm 0) (zak (bNm 1) zg4))) (mC (.bl true)) zdf) (za4 (za5 1) zac)))))
 (zai (sIf (mOr (m2 (zp9 λi j=>decide (j<i)) (m1 zhe (za5 2)) (mC zcc)) (m2 (zp9 λi j=>decide (j<i)) (m1 zhe (za5 3)) (mC zbf))) (zl5 "TooMany" (za4 (mC (.str "a machine has at most 64 rooms and at most 200 doors")) zac)) sNx)
 (zai (zj4 za8 zaa 0 0 (m1 zcp (za5 1)))
 (zai (zj4 za8 zaa 1 0 zB7)
 (zai (zgf (ze9 (za5 2)) (zg1 2 (zak (bNm 4) (zak (bNm 5) zg4))) zdb)
 (zj4 za8 zaa 2 0 (m1 zcp (za5 3))))))))))
def zay:List T->Option Ru:=zA7 za8 zaa 4 6 zer
abbrev zgq:Fn:=⟨6,["self","watches","rooms","doors"],zay⟩
abbrev zlr:Gx:=⟨[("MOST_ROOMS",zcc),("MOST_DOORS",zbf)],[],[],[],false,true,true,some (za8,zaa),[],[],[],true,[],[],[],[]⟩
abbrev zgo:Gm:=⟨["self","watches","rooms","doors","name","stay"],(za2 zd6).names,[],5,[("check_watches",zg0),("check_rooms",zhi),("check_doors",zhk)],["len","list"],["TooMany"],[],[],false,[],[],[],zlr⟩
theorem zm4:dSs 200 zgo (zab zd6)=some zer:=by kernel_rfl
structure Mc where
 ws:List Str
 rs:List (Str×List T)
 ds:List Dr
abbrev zDh(M:Mc):T:=.obj (.ins za8 zaa) [.lst (M.ws.map T.str),.obj (.sdc (M.rs.map (·.1))) (M.rs.map λr=>.lst r.2),.lst (M.ds.map zau)]
structure McOk(M:Mc):Prop where
 w:∀x∈M.ws,Wnm x
 wd:M.ws.Nodup
 wl:M.ws.length<=7
 r:RsOk M.ws M.rs
 d:∀d∈M.ds,DrOk M.ws (M.rs.map (·.1)) d
 dl:M.ds.length<=200
theorem McOk.tw{M:Mc}(h:McOk M):Txs M.ws:=λx hx=>zks (h.w x hx)
theorem McOk.tn{M:Mc}(h:McOk M):Txs (M.rs.map (·.1)):=λx hx=>by
 obtain⟨r,hr,rfl⟩:=yag.mp hx;exact zD0 (h.r.nm r hr).1
theorem McOk.sd{M:Mc}(h:McOk M):shL (M.ds.map zau)=true:=by
 rw[zbj,yau];intro t ht;obtain⟨d,hd,rfl⟩:=yag.mp ht;exact zyf (h.d d hd)
theorem McOk.ss{M:Mc}(h:McOk M):shL (M.rs.map λr=>T.lst r.2)=true:=by
 rw[zbj,yau];intro t ht;obtain⟨r,hr,rfl⟩:=yag.mp ht;show((!false) && shL r.2)=true;rw[(h.r.lk r hr).1.sh]
 rfl
theorem McOk.sh{M:Mc}(h:McOk M):(zDh M).sh=true:=by
 simp_arith[za7,h.ss,h.sd]
theorem zxd{M:Mc}(h:McOk M):zay [.lst (M.ws.map T.str),zv6 M.rs,.lst (M.ds.map zau)]=some (.ok (zDh M)):=by
 have cw:=cw_ok h.w h.wd h.wl;have cr:=zHa h.tw h.r;have cd:=zHd h.w h.tn h.d;have sr:=zCz h.r;have er:=za0 _ sr;have sd:=h.sd;have ed:=za0 _ sd;have h1:=h.r.l1;have h64:=h.r.l64;have h200:=h.dl
 have lc:=zon (b:=zg1 2 (zak (bNm 0) (zak (bNm 1) zg4))) (me:=zdf) (ts:=M.rs.map zkj) (τ:=[none,none]) (λ_ τ=>∃x y,τ=[x,y]) (λi=>.str ((M.rs.map (·.1)).getD i Str.empty)) ⟨none,none,rfl⟩ λi t τ h1 h2=>by
  obtain⟨x,y,rfl⟩:=h2;have hi:i<M.rs.length:=by simpa using (ya5.mp h1).1
  rw[ya3,ya0 hi]at h1;have et:t=zkj M.rs[i]:=(yas h1).symm;subst et;have eg:(M.rs.map (·.1)).getD i Str.empty=M.rs[i].1:=by simp[hi]
  refine⟨[some (.str M.rs[i].1),some (.lst M.rs[i].2)],by simp_arith[],?_,_,_,rfl⟩
  rw[eg];unfold zdf
  simp_arith[]
 have em:(List.range (M.rs.map zkj).length).map (λi=>T.str ((M.rs.map (·.1)).getD i Str.empty))=(M.rs.map (·.1)).map T.str:=by
  rw[znr (M.rs.map (·.1)),ya1,ya1]
  rfl
 rw[em]at lc;have ll:(M.rs.map zkj).length<=100000:=by rw[ya1];omega
 have g1:decide ((64:Int)<((M.rs.map zkj).length:Int))=false:=decide_eq_false (by rw[ya1];omega)
 have g2:decide ((200:Int)<((M.ds.map zau).length:Int))=false:=decide_eq_false (by rw[ya1];omega)
 refine zsf λp=>?_
 obtain⟨τ,e,x,y,rfl⟩:=zbr (b:=zg1 2 (zak (bNm 4) (zak (bNm 5) zg4))) (body:=zdb) (ts:=M.rs.map zkj) (τ:=[some (.oob p za8 zaa [.own (M.ws.map T.str),.osd [] []]),some (.lst (M.ws.map T.str)),some (zv6 M.rs),some (.lst (M.ds.map zau)),none,none])
  (λi τ=>∃x y,τ=[some (.oob p za8 zaa [.own (M.ws.map T.str),.osd ((M.rs.take i).map (·.1)) ((M.rs.take i).map λr=>.lst r.2)]),some (.lst (M.ws.map T.str)),some (zv6 M.rs),some (.lst (M.ds.map zau)),x,y]) ⟨none,none,by rw[List.take_zero];rfl⟩ λi t τ h1 h2=>by
  obtain⟨x,y,rfl⟩:=h2;have hi:i<M.rs.length:=by simpa using (ya5.mp h1).1
  rw[ya3,ya0 hi]at h1;have et:t=zkj M.rs[i]:=(yas h1).symm;subst et;have k1:=(h.r.lk _ (yam hi)).1.sh
  have hno:M.rs[i].1∉(M.rs.take i).map (·.1):=λhm=>by
   rw[List.map_take]at hm;obtain⟨j,hj,ej⟩:=List.mem_iff_getElem.mp hm;rw[yc3,ya1]at hj;have hnd:=h.r.nd;rw[List.getElem_take]at ej;have e2:(M.rs.map (·.1))[j]'(by rw[ya1];omega)=(M.rs.map (·.1))[i]'(by rw[ya1];exact hi):=by rw[ej,List.getElem_map]
   have:=(yd4 hnd).mp e2
   omega
  have hlen:((M.rs.take i).map (·.1)).length<100000:=by
   rw[ya1,yc3]
   omega
  have et2:M.rs.take (i+1)=M.rs.take i++[M.rs[i]]:=by rw[List.take_append_getElem]
  refine⟨[some (.oob p za8 zaa [.own (M.ws.map T.str),.osd ((M.rs.take i).map (·.1)) ((M.rs.take i).map λr=>.lst r.2)]),some (.lst (M.ws.map T.str)),some (zv6 M.rs),some (.lst (M.ds.map zau)),some (.str M.rs[i].1),some (.lst M.rs[i].2)],by simp_arith[],[some (.oob p za8 zaa [.own (M.ws.map T.str),.osd ((M.rs.take (i+1)).map (·.1)) ((M.rs.take (i+1)).map λr=>.lst r.2)]),some (.lst (M.ws.map T.str)),some (zv6 M.rs),some (.lst (M.ds.map zau)),some (.str M.rs[i].1),some (.lst M.rs[i].2)],?_,_,_,rfl⟩
  rw[et2,yaq,yaq];unfold zdb
  simp_arith[k1,za0 _ k1,hno,hlen]
 rw[ya1,ybp]at e;have es:=za0 _ h.ss;unfold zoa zer zcc zbf
 simp_arith[za3,za7,cw,cr,cd,sr,er,sd,ed,lc,ll,g1,g2,e,es]
abbrev zbw:Stmt:=zrv 24 1
theorem zib:FnScope ["self"] ["self"] (za2 zbw):=scM (by decide +kernel)
def zcy:PSt->Option Out :=
 (zc1 (zmk (m1 zcp (zih za8 zaa 0 (za5 0))) (zzi (zih za8 zaa 0 (za5 0)))))
def zat:List T->Option Ru:=zda 1 1 zcy
abbrev zin:Fn:=⟨1,["self"],zat⟩
abbrev zii:Gx:=⟨[],[("Machine",za8,zaa)],[],[],false,true,true,none,[],[],[],true,[],[],[],[]⟩
abbrev zeg:Gm:=⟨["self"],(za2 zbw).names,[],0,[],["list"],[],[],[],false,[],[],[],zii⟩
theorem zis:dSs 200 zeg (zab zbw)=some zcy:=by kernel_rfl
theorem zG1{M:Mc}(h:McOk M):zat [zDh M]=some (.ok (.own (M.ws.map T.str))):=by
 unfold zat zcy
 simp_arith[za3,za7,h.ss,h.sd,za0 _ h.ss,za0 _ h.sd]
abbrev zce:Stmt:=zrv 24 2
theorem zk1:FnScope ["self"] ["self"] (za2 zce):=scM (by decide +kernel)
def zdw:PSt->Option Out :=
 (zc1 (zmk (m1 zcp (zih za8 zaa 1 (za5 0))) (zzi (zih za8 zaa 1 (za5 0)))))
def zb1:List T->Option Ru:=zda 1 1 zdw
abbrev zk8:Fn:=⟨1,["self"],zb1⟩
abbrev zk4:Gx:=⟨[],[("Machine",za8,zaa)],[],[],false,true,true,none,[],[],[],true,[],[],[],[]⟩
abbrev zfy:Gm:=⟨["self"],(za2 zce).names,[],0,[],["list"],[],[],[],false,[],[],[],zk4⟩
theorem zkb:dSs 200 zfy (zab zce)=some zdw:=by kernel_rfl
theorem zG5{M:Mc}(h:McOk M):zb1 [zDh M]=some (.ok (.own ((M.rs.map (·.1)).map T.str))):=by
 unfold zb1 zdw
 simp_arith[zzi,za3,za7,h.ss,h.sd,za0 _ h.ss,za0 _ h.sd]
abbrev zcf:Stmt:=zrv 24 3
theorem zk2:FnScope ["self"] ["self"] (za2 zcf):=scM (by decide +kernel)
def zdx:PSt->Option Out :=
 (zc1 (zmk (m1 zcp (zih za8 zaa 2 (za5 0))) (zzi (zih za8 zaa 2 (za5 0)))))
def zam:List T->Option Ru:=zda 1 1 zdx
abbrev zde:Fn:=⟨1,["self"],zam⟩
abbrev zk5:Gx:=⟨[],[("Machine",za8,zaa)],[],[],false,true,true,none,[],[],[],true,[],[],[],[]⟩
abbrev zfz:Gm:=⟨["self"],(za2 zcf).names,[],0,[],["list"],[],[],[],false,[],[],[],zk5⟩
theorem zkc:dSs 200 zfz (zab zcf)=some zdx:=by kernel_rfl
theorem zG8{M:Mc}(h:McOk M):zam [zDh M]=some (.ok (.own (M.ds.map zau))):=by
 unfold zam zdx
 simp_arith[za3,za7,h.ss,h.sd,za0 _ h.ss,za0 _ h.sd]
abbrev zd5:Stmt:=zrv 24 4
theorem zkz:FnScope ["self","room"] ["self","room"] (za2 zd5):=scM (by decide +kernel)
def zeq:PSt->Option Out :=
 (zc1 (m1 zcp (mGt (zih za8 zaa 1 (za5 0)) (za5 1))))
def zb7:List T->Option Ru:=zda 2 2 zeq
abbrev zlw:Fn:=⟨1,["self","room"],zb7⟩
abbrev zlq:Gx:=⟨[],[("Machine",za8,zaa)],[],[],false,true,true,none,[],[],[],true,[],[],[],[]⟩
abbrev zgn:Gm:=⟨["self","room"],(za2 zd5).names,[],0,[],["list"],[],[],[],false,[],[],[],zlq⟩
theorem zm3:dSs 200 zgn (zab zd5)=some zeq:=by kernel_rfl
theorem zBf{ws:List Str}(hd:ws.Nodup){i:Nat}(hi:i<ws.length):zDq ws ws[i]=some i:=by
 unfold zDq;rw[ybj];refine⟨hi,@decide_eq_true _ (Classical.propDecidable _) rfl,λj hj q=>?_⟩
 have:=@of_decide_eq_true _ (Classical.propDecidable _) q;have:=(yd4 hd).mp this
 omega
theorem zG4{M:Mc}(h:McOk M){i:Nat}(hi:i<M.rs.length):zb7 [zDh M,.str M.rs[i].1]=some (.ok (.own M.rs[i].2)):=by
 have e:=zBf h.r.nd (i:=i) (by rw[ya1];exact hi)
 rw[List.getElem_map]at e;have e2:(M.rs.map λr=>T.lst r.2)[i]?=some (.lst M.rs[i].2):=by rw[ya3,ya0 hi];rfl
 have k:=(h.r.lk _ (yam hi)).1.sh;unfold zb7 zeq
 simp_arith[mGt,za3,za7,h.ss,h.sd,za0 _ h.ss,za0 _ h.sd,e,e2,k,za0 _ k]
abbrev zfg:Stmt:=zrv 23 1
theorem zqa:FnScope ["self"] ["self"] (za2 zfg):=scM (by decide +kernel)
def zhw:PSt->Option Out :=
 (zc1 (zmk (m1 zcp (zih zah zaq 2 (za5 0))) (zzi (zih zah zaq 2 (za5 0)))))
def zca:List T->Option Ru:=zda 1 1 zhw
abbrev zjy:Fn:=⟨1,["self"],zca⟩
abbrev zqy:Gx:=⟨[],[("Door",zah,zaq)],[],[],false,true,true,none,[],[],[],true,[],[],[],[]⟩
abbrev zjs:Gm:=⟨["self"],(za2 zfg).names,[],0,[],["list"],[],[],[],false,[],[],[],zqy⟩
theorem zrk:dSs 200 zjs (zab zfg)=some zhw:=by kernel_rfl
theorem zyh{d:Dr}(h:shL d.g=true):zca [zau d]=some (.ok (.own d.g)):=by
 unfold zca zhw
 simp_arith[za3,za7,h,za0 _ h]
abbrev zfe:Stmt:=zrv 23 2
theorem zq8:FnScope ["self"] ["self"] (za2 zfe):=scM (by decide +kernel)
def zhv:PSt->Option Out :=
 (zc1 (zmk (m1 zcp (zih zah zaq 3 (za5 0))) (zzi (zih zah zaq 3 (za5 0)))))
def zc8:List T->Option Ru:=zda 1 1 zhv
abbrev zjw:Fn:=⟨1,["self"],zc8⟩
abbrev zqw:Gx:=⟨[],[("Door",zah,zaq)],[],[],false,true,true,none,[],[],[],true,[],[],[],[]⟩
abbrev zjq:Gm:=⟨["self"],(za2 zfe).names,[],0,[],["list"],[],[],[],false,[],[],[],zqw⟩
theorem zri:dSs 200 zjq (zab zfe)=some zhv:=by kernel_rfl
theorem zye{d:Dr}(h:shL d.g=true):zc8 [zau d]=some (.ok (.own (d.n.map T.str))):=by
 unfold zc8 zhv
 simp_arith[za3,za7,h,za0 _ h]
abbrev zfc:Stmt:=top 36
theorem zmh:FnScope ["machines","watches","machine"] ["machines"] (za2 zfc):=scM (by decide +kernel)
def zdp:PSt->Option Out :=
 (zzg 1 (zg2 za8 zaa zat (za5 2) zac))
def zfn:PSt->Option Out :=
 (zai (zki 1 (zea zac))
 (zai (zgf (ze9 (za5 0)) (bNm 2) zdp)
 (zc1 (za5 1))))
def zbz:List T->Option Ru:=zda 1 3 zfn
abbrev zev:Fn:=⟨2,["machines"],zbz⟩
abbrev zmp:Gx:=⟨[],[],[("watches",za8,zaa,zin)],[],false,true,true,none,[],[],[],true,[],[],[],[]⟩
abbrev zmw:Gm:=⟨["machines","watches","machine"],(za2 zfc).names,[],1,[],[],[],["watches"],[],false,[],[],[],zmp⟩
theorem zn3:dSs 200 zmw (zab zfc)=some zfn:=by kernel_rfl
theorem zck{α A:Type}{b:T->PSt->Option PSt}{body:PSt->Option Out}(f:α->T)(S:List A->PSt->Prop)(g:α->List A)(N:Nat):∀(L:List α) (a:List A) (τ:PSt),S a τ->a.length+(L.flatMap g).length<=N->(∀x∈L,∀a τ,S a τ->a.length+(g x).length<=N->∃τ1,b (f x) τ=some τ1/\∃τ2,body τ1=some (.nx τ2)/\S (a++g x) τ2)->∃τ',zc2 b body (L.map f) τ=some (.nx τ')/\S (a++L.flatMap g) τ'
 |[],a,τ,h,_,_=>⟨τ,rfl,by rw[ybl,yap];exact h⟩
 |x::L,a,τ,h,hN,hs=>by
  rw[ybc,yab]at hN;obtain⟨τ1,e1,τ2,e2,h2⟩:=hs x (ya8 ..) a τ h (by omega)
  obtain⟨τ',e,h'⟩:=zck f S g N L (a++g x) τ2 h2 (by rw[yab];omega) λy hy=>hs y (ya6 _ hy)
  refine⟨τ',?_,by rw[ybc,<- ybi];exact h'⟩
  rw[yaf];unfold zc2;simp only[e1,e2];exact e
theorem zp4{α A:Type}{b:T->PSt->Option PSt}{body:PSt->Option Out}(f:α->T)(S:List A->PSt->Prop)(g:α->List A)(N:Nat)(c:Str):∀(L:List α) (a:List A) (τ:PSt),S a τ->a.length<=N ->
  (∀x∈L,∀a τ,S a τ->a.length<=N->∃τ1,b (f x) τ=some τ1/\((a.length+(g x).length<=N/\∃τ2,body τ1=some (.nx τ2)/\S (a++g x) τ2)\/(N<a.length+(g x).length/\∃τ2,body τ1=some (.xc c τ2)))) ->
  (a.length+(L.flatMap g).length<=N/\∃τ',zc2 b body (L.map f) τ=some (.nx τ')/\S (a++L.flatMap g) τ')\/(N<a.length+(L.flatMap g).length/\∃τ',zc2 b body (L.map f) τ=some (.xc c τ'))
 |[],a,τ,h,hN,_=>.inl ⟨by rw[ybl];exact hN,τ,rfl,by rw[ybl,yap];exact h⟩
 |x::L,a,τ,h,hN,hs=>by
  rw[ybc,yab,<- ybi,yaf];obtain⟨τ1,e1,⟨k,τ2,e2,h2⟩|⟨k,τ2,e2⟩⟩:=hs x (ya8 ..) a τ h hN
  ·rcases zp4 f S g N c L (a++g x) τ2 h2 (by rw[yab];exact k) λy hy=>hs y (ya6 _ hy) with ⟨k2,τ',e,h'⟩|⟨k2,τ',e⟩
   ·rw[yab]at k2;refine .inl ⟨by omega,τ',?_,h'⟩
    unfold zc2;simp only[e1,e2];exact e
   ·rw[yab]at k2;refine .inr ⟨by omega,τ',?_⟩
    unfold zc2;simp only[e1,e2];exact e
  ·refine .inr ⟨by omega,τ2,?_⟩
   unfold zc2;simp only[e1,e2]
theorem zbq{α:Type}{b:T->PSt->Option PSt}{me:PSt->Option Rs}(f g:α->T)(I:PSt->Prop):∀(L:List α) (τ:PSt),I τ->(∀x∈L,∀τ,I τ->∃τ1,b (f x) τ=some τ1/\me τ1=some (.v (g x) false)/\I τ1)->zg5 b (mC (.bl true)) me (L.map f) τ=some (L.map g)
 |[],_,_,_=>rfl
 |x::L,τ,h,hs=>by
  obtain⟨τ1,e1,e2,h1⟩:=hs x (ya8 ..) τ h;have k:=zbq f g I L τ1 h1 λu hu=>hs u (ya6 _ hu)
  have f1:mC (.bl true) τ1=some (.v (.bl true) false):=rfl;rw[yaf,yaf];unfold zg5;simp only[e1,f1,e2,k]
theorem zc0{α:Type}{f:α->T}{L:List α}(h:∀x∈L,(f x).sh=true):shL (L.map f)=true:=by
 rw[zbj,yau];intro t ht;obtain⟨x,hx,rfl⟩:=yag.mp ht;exact h x hx
theorem sq{f g:PSt->Option Out}{τ τ':PSt}{r:Option Out}(h:f τ=some (.nx τ'))(h2:g τ'=r):zai f g τ=r:=by
 unfold zai;rw[h];exact h2
def mcT(M:Mc):T:=zDh M
theorem zj9(M:Mc):zrw za8 zaa (mcT M)=some [.lst (M.ws.map T.str),.obj (.sdc (M.rs.map (·.1))) (M.rs.map λr=>.lst r.2),.lst (M.ds.map zau)]:=(show zrw za8 zaa (zDh M)=(if za8=za8/\zaa=zaa then some [.lst (M.ws.map T.str),.obj (.sdc (M.rs.map (·.1))) (M.rs.map λr=>.lst r.2),.lst (M.ds.map zau)] else none) from rfl).trans (if_pos ⟨rfl,rfl⟩)
theorem mcT_w{M:Mc}(h:McOk M):zat [mcT M]=some (.ok (.own (M.ws.map T.str))):=zG1 h
theorem zld{M:Mc}(h:McOk M):(mcT M).sh=true:=h.sh
theorem zfx{Ms:List Mc}(h:∀M∈Ms,McOk M):shL (Ms.map mcT)=true:=zc0 λM hM=>(h M hM).sh
theorem zMe{Ms:List Mc}(h:∀M∈Ms,McOk M)(hl:(Ms.flatMap Mc.ws).length<=1000):zbz [.lst (Ms.map mcT)]=some (.ok (.own ((Ms.flatMap Mc.ws).map T.str))):=by
 have hs:=zfx h
 obtain⟨τ,e,y,rfl⟩:=zck (b:=bNm 2) (body:=zdp) mcT (λ(a:List Str) τ=>∃y,τ=[some (.lst (Ms.map mcT)),some (.own (a.map T.str)),y]) Mc.ws 1000 Ms [] _ ⟨none,rfl⟩ (by simpa using hl) λM hM a τ hS hN=>by
  obtain⟨y,rfl⟩:=hS;have k:=h M hM;have k1:=zld k;have k2:=mcT_w k;have l1:a.length+M.ws.length<=100000:=by omega
  refine⟨[some (.lst (Ms.map mcT)),some (.own (a.map T.str)),some (mcT M)],by simp_arith[],_,?_,some (mcT M),rfl⟩
  unfold zdp
  simp_arith[-zrw,zj9,k1,zaz _ k1,k2,za3,ya1,l1,yaq]
 rw[yc6,yba]at e;unfold zbz zfn
 simp_arith[hs,za0 _ hs,e]
abbrev zf9:Stmt:=top 35
theorem zme:FnScope ["machines","watches"] ["machines"] (za2 zf9):=scM (by decide +kernel)
def ze4:PSt->Option Rs :=
 (m1 (zzj zm0) (za5 0))
def zfk:PSt->Option Out :=
 (zai (sIf (mOr (zf4 (m1 (zdy "list") (za5 0))) (zf4 (zxl leT leT (mC (.int 1)) (m1 zhe (za5 0)) (mC zgl)))) (zl5 "BadMachine" (za4 (mC (.str "one to six machines are put together")) zac)) sNx)
 (zai (sIf (zf4 (m1 zth (mLC 1 [] (ze9 (za5 0)) (bNm 0) (mC (.bl true)) ze4))) (zl5 "BadMachine" (za4 (mC (.str "only machines are put together")) zac)) sNx)
 (zai (zco (zan zbz (za4 (za5 0) zac)) (bNm 1))
 (sIf (mOr (m2 (zp9 λi j=>decide (j<i)) (m1 zhe (za5 1)) (mC zbi)) (zf4 (zan zbg (za4 (za5 1) zac)))) (zl5 "BadMachine" (za4 (mC (.str "machines put together have at most seven watches, all unlike")) zac)) sNx))))
def zdj:List T->Option Ru:=zda 1 2 zfk
abbrev zhj:Fn:=⟨3,["machines"],zdj⟩
abbrev zmn:Gx:=⟨[("MOST_PARTS",zgl),("MOST_WATCHES",zbi)],[],[],[],false,true,true,none,[],[],[],true,[],[("Machine",zm0)],[],[]⟩
abbrev zmt:Gm:=⟨["machines","watches"],(za2 zf9).names,[],2,[("all_watches",zev),("are_unlike",zbx)],["isinstance","list","len","all"],["BadMachine"],[],[],false,[],[],[],zmn⟩
theorem zn0:dSs 200 zmt (zab zf9)=some zfk:=by kernel_rfl
structure MsOk(Ms:List Mc):Prop where
 l1:1<=Ms.length
 l6:Ms.length<=6
 m:∀M∈Ms,McOk M
 wl:(Ms.flatMap Mc.ws).length<=7
 wd:(Ms.flatMap Mc.ws).Nodup
theorem zpn{α:Type}:∀L:List α,zjl (L.map λ_=>T.bl true)=some (L.map λ_=>true)
 |[]=>rfl
 |a::r=>by
  rw[yaf,yaf];unfold zjl;rw[zpn r]
theorem cp_ok{Ms:List Mc}(h:MsOk Ms):zdj [.lst (Ms.map mcT)]=some (.ok .non):=by
 have hs:=zfx h.m;have aw:=zMe h.m (by have:=h.wl;omega)
 have un:=zg6 h.wd (by have:=h.wl;omega)
 have l1:=h.l1;have l6:=h.l6
 have lc:zg5 (bNm 0) (mC (.bl true)) ze4 (Ms.map mcT) [none]=some (Ms.map λ_=>T.bl true):=zbq mcT (λ_=>T.bl true) (λτ=>∃a,τ=[a]) Ms _ ⟨none,rfl⟩ λM hM τ hI=>by
  obtain⟨a,rfl⟩:=hI;have k:=zld (h.m M hM);have ci:zzj zm0 (mcT M)=some (.bl true):=rfl;exact⟨[some (mcT M)],by simp_arith[],by unfold ze4;simp_arith[k,zaz _ k,ci],_,rfl⟩
 have ba:=zpn Ms;have sb:=za0 _ (zc0 (f:=λ_=>T.bl true) (L:=Ms) λ_ _=>rfl)
 have al:(Ms.map λ_=>true).all id=true:=by simp
 have e1:decide ((1:Int)<=(Ms.length:Int))=true:=decide_eq_true (by omega)
 have e2:decide ((Ms.length:Int)<=6)=true:=decide_eq_true (by omega)
 have e3:decide ((7:Int)<((Ms.flatMap Mc.ws).length:Int))=false:=decide_eq_false (by have:=h.wl;omega)
 have ll:Ms.length<=100000:=by omega
 unfold zdj zfk zgl zbi
 simp_arith[hs,za0 _ hs,ya1,e1,e2,ll,lc,sb,ba,al,aw,za3,za7,e3,un]
abbrev zfd:Stmt:=top 37
theorem zmi:FnScope ["machines","takings","machine","longer","taking"] ["machines"] (za2 zfd):=scM (by decide +kernel)
def ze7:PSt->Option Rs :=
 (m2 zf0 (za5 1) (zea (zao (za5 0) zac)))
def zdq:PSt->Option Out :=
 (zzg 3 (mLC 1 [4] (ze9 (zg2 za8 zaa zb1 (za5 2) zac)) (bNm 0) (mC (.bl true)) ze7))
def zdr:PSt->Option Out :=
 (zai (zki 3 (zea zac))
 (zai (zgf (ze9 (za5 1)) (bNm 4) zdq)
 (zai (sIf (m2 (zp9 λi j=>decide (j<i)) (m1 zhe (za5 3)) (mC zcc)) (zl5 "TooMany" (za4 (mC (.str "the whole would have more than 64 rooms")) zac)) sNx)
 (zai (zvr 3) (zco (za5 3) (bNm 1))))))
def zfo:PSt->Option Out :=
 (zai (zco (zea (zao (zea zac) zac)) (bNm 1))
 (zai (zgf (ze9 (za5 0)) (bNm 2) zdr)
 (zc1 (za5 1))))
def zdm:List T->Option Ru:=zda 1 5 zfo
abbrev zhm:Fn:=⟨2,["machines"],zdm⟩
abbrev zmq:Gx:=⟨[("MOST_ROOMS",zcc)],[],[("rooms",za8,zaa,zk8)],[],false,true,true,none,[],[],[],true,[],[],[],[]⟩
abbrev zmx:Gm:=⟨["machines","takings","machine","longer","taking"],(za2 zfd).names,["taking"],1,[],["len"],["TooMany"],["longer"],[],false,[],[],[],zmq⟩
theorem zn4:dSs 200 zmx (zab zfd)=some zfo:=by kernel_rfl
abbrev tkT(t:List Str):T:=.lst (t.map T.str)
def zi3(ts:List (List Str))(rs:List Str):List (List Str):=ts.flatMap λt=>rs.map λr=>t++[r]
def tak(rss:List (List Str)):List (List Str):=rss.foldl zi3 [[]]
theorem zno(rss:List (List Str))(rs:List Str):tak (rss++[rs])=zi3 (tak rss) rs:=by
 unfold tak;rw[List.foldl_append]
 rfl
theorem zuh:∀(rss ts:List (List Str)) (t:List Str),t∈rss.foldl zi3 ts->∃u∈ts,∃v:List Str,t=u++v/\v.length=rss.length/\∀(i:Nat) (r:Str),v[i]?=some r->∃rs,rss[i]?=some rs/\r∈rs
 |[],ts,t,h=>⟨t,h,[],(yap t).symm,rfl,λi r z=>by simp at z⟩
 |rs::rss,ts,t,h=>by
  obtain⟨u,hu,v,rfl,hl,hv⟩:=zuh rss (zi3 ts rs) t h;obtain⟨w,hw,hu⟩:=yb4.mp hu;obtain⟨r,hr,rfl⟩:=yag.mp hu;refine⟨w,hw,r::v,by rw[ybi];rfl,by rw[yao,yao,hl],λi x z=>?_⟩
  cases i with
  |zero=>simp at z;subst z;exact⟨rs,rfl,hr⟩
  |succ i=>simpa using hv i x (by simpa using z)
theorem zkw{rss:List (List Str)}{t:List Str}(h:t∈tak rss):t.length=rss.length/\∀(i:Nat) (r:Str),t[i]?=some r->∃rs,rss[i]?=some rs/\r∈rs:=by
 obtain⟨u,hu,v,rfl,hl,hv⟩:=zuh rss [[]] t h;rw[ya9.mp hu,yba];exact⟨hl,hv⟩
def Mc.nm(M:Mc):List Str:=M.rs.map (·.1)
theorem mcT_r{M:Mc}(h:McOk M):zb1 [mcT M]=some (.ok (.own (M.nm.map T.str))):=zG5 h
theorem zg7(ts:List (List Str)):shL (ts.map tkT)=true:=zc0 λt _=>by
 show((!false) && shL (t.map T.str))=true;rw[za7]
 rfl
theorem zId(t:List Str):(tkT t).sh=true:=by
 show((!false) && shL (t.map T.str))=true;rw[za7]
 rfl
theorem zpx{α:Type}{L:List α}{i:Nat}(hi:i<L.length):L.take (i+1)=L.take i++[L[i]]:=by rw[List.take_append_getElem]
theorem at_ok{Ms:List Mc}(h:MsOk Ms)(hk:∀i,i<=Ms.length->(tak ((Ms.take i).map Mc.nm)).length<=64):zdm [.lst (Ms.map mcT)]=some (.ok (.lst ((tak (Ms.map Mc.nm)).map tkT))):=by
 have hs:=zfx h.m
 obtain⟨τ,e,y2,y3,y4,rfl⟩:=zbr (b:=bNm 2) (body:=zdr) (ts:=Ms.map mcT) (τ:=[some (.lst (Ms.map mcT)),some (.lst [.lst []]),none,none,none]) (λi τ=>∃y2 y3 y4,τ=[some (.lst (Ms.map mcT)),some (.lst ((tak ((Ms.take i).map Mc.nm)).map tkT)),y2,y3,y4]) ⟨_,_,_,rfl⟩ λi t τ h1 h2=>by
  obtain⟨y2,y3,y4,rfl⟩:=h2;have hi:i<Ms.length:=by simpa using (ya5.mp h1).1
  rw[ya3,ya0 hi]at h1;have et:t=mcT Ms[i]:=(yas h1).symm;subst et;have k:=h.m _ (yam hi);have k1:=zld k;have k2:=mcT_r k;have hl:=hk (i+1) (by omega)
  have en:tak ((Ms.take (i+1)).map Mc.nm)=zi3 (tak ((Ms.take i).map Mc.nm)) Ms[i].nm:=by rw[zpx hi,yaq,yaf,yc6,zno]
  rw[en]at hl ⊢;have hnl:Ms[i].nm.length<=64:=by unfold Mc.nm;rw[ya1];exact k.r.l64
  have tl:∀t∈tak ((Ms.take i).map Mc.nm),t.length<=6:=λt ht=>by
   have:=(zkw ht).1;rw[ya1,yc3]at this;have:=h.l6
   omega
  generalize hts:tak ((Ms.take i).map Mc.nm)=ts at *;have sts:=zg7 ts
  obtain⟨τ2,e2,z4,rfl⟩:=zck (b:=bNm 4) (body:=zdq) tkT (λ(a:List (List Str)) τ=>∃z,τ=[some (.lst (Ms.map mcT)),some (.lst (ts.map tkT)),some (mcT Ms[i]),some (.own (a.map tkT)),z]) (λt=>Ms[i].nm.map λr=>t++[r]) 64 ts [] [some (.lst (Ms.map mcT)),some (.lst (ts.map tkT)),some (mcT Ms[i]),some (.own []),y4] ⟨y4,rfl⟩ (by rw[yaw,ydb];exact hl) λt ht a τ hS hN=>by
   obtain⟨z,rfl⟩:=hS;rw[ya1]at hN;have t6:=tl t ht;have ts1:=zId t;have a1:t.length+1<=100000:=by omega
   have a2:a.length+Ms[i].nm.length<=100000:=by omega
   have a3:Ms[i].nm.length<=100000:=by omega
   have lc:zg5 (bNm 0) (mC (.bl true)) ze7 (Ms[i].nm.map T.str) [none,some (tkT t)]=some (Ms[i].nm.map λr=>T.own ((t++[r]).map T.str)):=zbq T.str (λr=>T.own ((t++[r]).map T.str)) (λτ=>∃a,τ=[a,some (tkT t)]) _ _ ⟨none,rfl⟩ λr _ τ hI=>by
    obtain⟨x,rfl⟩:=hI;exact⟨[some (.str r),some (tkT t)],by simp_arith[],by unfold ze7;simp_arith[za3,za7,ya1,a1,yaq],_,rfl⟩
   have so:zal (Ms[i].nm.map λr=>T.own ((t++[r]).map T.str))=(Ms[i].nm.map λr=>t++[r]).map tkT:=by
    rw[zap,yax,yax];refine ybn λr _=>?_
    show T.nd false .lst (zal ((t++[r]).map T.str))=_;rw[za3]
    rfl
   refine⟨[some (.lst (Ms.map mcT)),some (.lst (ts.map tkT)),some (mcT Ms[i]),some (.own (a.map tkT)),some (tkT t)],by simp_arith[],[some (.lst (Ms.map mcT)),some (.lst (ts.map tkT)),some (mcT Ms[i]),some (.own ((a++Ms[i].nm.map λr=>t++[r]).map tkT)),some (tkT t)],?_,_,rfl⟩
   rw[yaq];unfold zdq
   simp_arith[-zrw,zj9,k1,zaz _ k1,k2,za7,za3,ya1,a2,a3,lc,so]
  rw[yba]at e2;have eb:ts.flatMap (λt=>Ms[i].nm.map λr=>t++[r])=zi3 ts Ms[i].nm:=rfl
  rw[eb]at e2;have g64:decide ((64:Int)<((zi3 ts Ms[i].nm).length:Int))=false:=decide_eq_false (by omega)
  refine⟨[some (.lst (Ms.map mcT)),some (.lst (ts.map tkT)),some (mcT Ms[i]),y3,y4],by simp_arith[],[some (.lst (Ms.map mcT)),some (.lst ((zi3 ts Ms[i].nm).map tkT)),some (mcT Ms[i]),some (.lst ((zi3 ts Ms[i].nm).map tkT)),z4],?_,_,_,_,rfl⟩
  have st2:=zg7 (zi3 ts Ms[i].nm);unfold zdr zcc
  simp_arith[sts,za0 _ sts,e2,ya1,g64,za0 _ st2,st2]
 rw[ya1,ybp]at e;have st:=zg7 (tak (Ms.map Mc.nm));unfold zdm zfo
 simp_arith[hs,za0 _ hs,e,za0 _ st]
abbrev zgc:Stmt:=top 38
theorem zo0:FnScope ["taking"] ["taking"] (za2 zgc):=scM (by decide +kernel)
def zgh:PSt->Option Out :=
 (zc1 (mJn (mC (.str "/")) (za5 0)))
def zbu:List T->Option Ru:=zda 1 1 zgh
abbrev zdg:Fn:=⟨1,["taking"],zbu⟩
abbrev zp1:Gm:=⟨["taking"],(za2 zgc).names,[],0,[],[],[],[],[],false,[],[],[],gxD⟩
theorem zpc:dSs 200 zp1 (zab zgc)=some zgh:=by kernel_rfl
def jnS(t:List Str):Str:=Txt.join "/" t
theorem zCq{α:Type}{f:α->Str}{m:Nat}:∀{l:List α},(∀a∈l,(f a).length<=m)->((l.map f).map (·.length)).sum<=l.length * m
 |[],_=>yb2 _
 |a::l,h=>by
  have h1:=h a (ya8 ..);have h2:=zCq (l:=l) λb hb=>h b (ya6 _ hb)
  rw[yaf,yaf,List.sum_cons,yao,yd1,yd2]
  omega
theorem zxs{t:List Str}(hl:t.length<=6)(hs:∀r∈t,r.length<=60):(t.map (·.length)).sum+t.length * (Str.ofString "/").length<=lim:=by
 have h1:=zCq (f:=id) (m:=60) (l:=t) hs;rw[List.map_id]at h1;have h2:(Str.ofString "/").length=1:=by decide +kernel
 rw[h2];unfold lim
 omega
theorem ztj{t:List Str}{o:Bool}(hl:t.length<=6)(hs:∀r∈t,r.length<=60):zbu [.nd o .lst (t.map T.str)]=some (.ok (.str (jnS t))):=by
 have h1:=zxs hl hs;unfold zbu zgh;cases o<;>simp_arith[mJn,zh4,h1,jnS]
abbrev zct:Stmt:=top 34
theorem zia:FnScope ["machines","takings","names"] ["machines"] (za2 zct):=scM (by decide +kernel)
def zc7:PSt->Option Rs :=
 (zan zbu (za4 (za5 0) zac))
def zc6:PSt->Option Rs :=
 (zan zc3 (za4 (za5 0) zac))
def zcx:PSt->Option Out :=
 (zai (zzh (zan zdj (za4 (za5 0) zac)))
 (zai (zco (zan zdm (za4 (za5 0) zac)) (bNm 1))
 (zai (zco (mLC 1 [] (ze9 (za5 1)) (bNm 0) (mC (.bl true)) zc7) (bNm 2))
 (zai (sIf (mOr (zf4 (zan zbg (za4 (za5 2) zac))) (zf4 (m1 zth (mLC 1 [] (ze9 (za5 2)) (bNm 0) (mC (.bl true)) zc6)))) (zl5 "BadMachine" (za4 (mC (.str "a room of the whole would have a name twice, or a name of more than sixty signs")) zac)) sNx)
 (zc1 (za5 1))))))
def zbc:List T->Option Ru:=zda 1 3 zcx
abbrev zcm:Fn:=⟨4,["machines"],zbc⟩
abbrev zik:Gm:=⟨["machines","takings","names"],(za2 zct).names,[],3,[("check_parts",zhj),("all_takings",zhm),("whole_name",zdg),("are_unlike",zbx),("is_room_name",ze1)],["all"],["BadMachine"],[],[],false,[],[],[],gxD⟩
theorem zir:dSs 200 zik (zab zct)=some zcx:=by kernel_rfl
structure RmOk(Ms:List Mc):Prop where
 k:∀i,i<=Ms.length->(tak ((Ms.take i).map Mc.nm)).length<=64
 s:∀M∈Ms,∀r∈M.nm,r.length<=60
 n:∀t∈tak (Ms.map Mc.nm),Rmn (jnS t)/\1<=(jnS t).cps.size/\(jnS t).cps.size<=60
 d:((tak (Ms.map Mc.nm)).map jnS).Nodup
abbrev tks(Ms:List Mc):List (List Str):=tak (Ms.map Mc.nm)
theorem RmOk.t{Ms:List Mc}(h:RmOk Ms)(hm:MsOk Ms){t:List Str}(ht:t∈tks Ms):t.length=Ms.length/\t.length<=6/\(∀r∈t,r.length<=60)/\∀(i:Nat) (r:Str),t[i]?=some r->∃M,Ms[i]?=some M/\r∈M.nm:=by
 obtain⟨h1,h2⟩:=zkw ht;rw[ya1]at h1
 have h3:∀(i:Nat) (r:Str),t[i]?=some r->∃M,Ms[i]?=some M/\r∈M.nm:=λi r e=>by
  obtain⟨rs,e1,e2⟩:=h2 i r e;rw[ya3]at e1;obtain⟨M,e3,rfl⟩:=ya2.mp e1;exact⟨M,e3,e2⟩
 refine⟨h1,by rw[h1];exact hm.l6,λr hr=>?_,h3⟩
 obtain⟨i,e⟩:=ybo.mp hr;obtain⟨M,e1,e2⟩:=h3 i r e;exact h.s M (yat e1) r e2
theorem zM7{Ms:List Mc}(h:MsOk Ms)(hr:RmOk Ms):zbc [.lst (Ms.map mcT)]=some (.ok (.lst ((tks Ms).map tkT))):=by
 have hs:=zfx h.m;have cp:=cp_ok h;have at':=at_ok h hr.k;have st:=zg7 (tks Ms);have l64:(tks Ms).length<=64:=by have:=hr.k Ms.length (yaa _);rwa[ybp]at this
 have ll:(tks Ms).length<=100000:=by omega
 have lc:zg5 (bNm 0) (mC (.bl true)) zc7 ((tks Ms).map tkT) [none]=some (((tks Ms).map jnS).map T.str):=by
  rw[yax]
  exact zbq tkT (λt=>T.str (jnS t)) (λτ=>∃a,τ=[a]) _ _ ⟨none,rfl⟩ λt ht τ hI=>by
   obtain⟨x,rfl⟩:=hI;obtain⟨_,k1,k2,_⟩:=hr.t h ht;exact⟨[some (tkT t)],by simp_arith[],by unfold zc7;simp_arith[za7,za3,ztj k1 k2],_,rfl⟩
 have lc2:zg5 (bNm 0) (mC (.bl true)) zc6 (((tks Ms).map jnS).map T.str) [none]=some ((tks Ms).map λ_=>T.bl true):=by
  rw[yax]
  exact zbq (λt=>T.str (jnS t)) (λ_=>T.bl true) (λτ=>∃a,τ=[a]) _ _ ⟨none,rfl⟩ λt ht τ hI=>by
   obtain⟨x,rfl⟩:=hI;obtain⟨n1,n2,n3⟩:=hr.n t ht;exact⟨[some (.str (jnS t))],by simp_arith[],by unfold zc6;simp_arith[zJe n1 n2 n3],_,rfl⟩
 have un:=zg6 hr.d (by rw[ya1];omega)
 have ba:=zpn (tks Ms);have al:((tks Ms).map λ_=>true).all id=true:=by simp
 have sb:=za0 _ (zc0 (f:=λ_=>T.bl true) (L:=tks Ms) λ_ _=>rfl)
 unfold zbc zcx
 simp_arith[hs,za0 _ hs,cp,at',st,za0 _ st,ya1,ll,lc,lc2,za3,za7,un,sb,ba,al]
abbrev zgb:Stmt:=top 39
theorem znz:FnScope ["machines","taking","stay","machine","room"] ["machines","taking"] (za2 zgb):=scM (by decide +kernel)
def zel:PSt->Option Out :=
 (zzg 2 (zg2 za8 zaa zb7 (za5 3) (za4 (za5 4) zac)))
def zgg:PSt->Option Out :=
 (zai (zki 2 (zea zac))
 (zai (zgf (zou (za4 (za5 0) (za4 (za5 1) zac))) (zg1 2 (zak (bNm 3) (zak (bNm 4) zg4))) zel)
 (zc1 (za5 2))))
def zej:List T->Option Ru:=zda 2 5 zgg
abbrev zil:Fn:=⟨2,["machines","taking"],zej⟩
abbrev zow:Gx:=⟨[],[],[("stay",za8,zaa,zlw)],[],false,true,true,none,[],[],[],true,[],[],[],[]⟩
abbrev zp0:Gm:=⟨["machines","taking","stay","machine","room"],(za2 zgb).names,[],1,[],["zip"],[],["stay"],[],false,[],[],[],zow⟩
theorem zpb:dSs 200 zp0 (zab zgb)=some zgg:=by kernel_rfl
def sty(M:Mc)(r:Str):List T:=((M.rs.find? λx=>decide (x.1=r)).map (·.2)).getD []
theorem ztr{M:Mc}(h:McOk M){r:Str}(hr:r∈M.nm):zb7 [mcT M,.str r]=some (.ok (.own (sty M r)))/\shL (sty M r)=true/\(sty M r).length<=1000/\Lks M.ws stS (sty M r):=by
 obtain⟨x,hx,rfl⟩:=yag.mp (show r∈M.rs.map (·.1) from hr)
 obtain⟨y,hy⟩:∃y,M.rs.find? (λz=>decide (z.1=x.1))=some y:=by
  cases hf:M.rs.find? (λz=>decide (z.1=x.1)) with
  |some y=>exact⟨y,rfl⟩
  |none=>exact absurd (List.find?_eq_none.mp hf x hx) (by simp)
 have hy1:y.1=x.1:=by simpa using List.find?_some hy
 have hym:=List.mem_of_find?_eq_some hy;have es:sty M x.1=y.2:=by unfold sty;rw[hy];rfl
 obtain⟨i,hi,rfl⟩:=List.getElem_of_mem hym;obtain⟨k1,k2⟩:=h.r.lk _ hym;rw[es,<- hy1];exact⟨zG4 h hi,k1.sh,k2,k1⟩
def wst(Ms:List Mc)(t:List Str):List T:=(Ms.zip t).flatMap λx=>sty x.1 x.2
theorem zvu{α β:Type}(f:α->T)(g:β->T):∀(a:List α) (b:List β),zHm (a.map f) (b.map g)=(a.zip b).map λx=>T.tup [f x.1,g x.2]
 |[],b=>by cases b<;>rfl
 |x::a,[]=>rfl
 |x::a,y::b=>by
  rw[yaf,yaf,ycn,yaf,<- zvu f g a b]
  rfl
theorem zbm{α β:Type}{g:α->List β}{m:Nat}:∀{L:List α},(∀x∈L,(g x).length<=m)->(L.flatMap g).length<=L.length * m
 |[],_=>yb2 _
 |a::L,h=>by
  have h1:=h a (ya8 ..);have h2:=zbm (L:=L) λb hb=>h b (ya6 _ hb)
  rw[ybc,yab,yao,yd1,yd2]
  omega
theorem zvv{Ms:List Mc}(h:MsOk Ms)(hr:RmOk Ms){t:List Str}(ht:t∈tks Ms){x:Mc×Str}(hx:x∈Ms.zip t):x.1∈Ms/\x.2∈x.1.nm:=by
 obtain⟨_,_,_,k⟩:=hr.t h ht;obtain⟨i,e⟩:=ybo.mp hx;rw[List.getElem?_zip_eq_some]at e;obtain⟨M,e1,e2⟩:=k i _ e.2;rw[e.1]at e1;cases e1;exact⟨yat e.1,e2⟩
theorem zI2{Ms:List Mc}(h:MsOk Ms)(hr:RmOk Ms){t:List Str}(ht:t∈tks Ms):zej [.lst (Ms.map mcT),tkT t]=some (.ok (.own (wst Ms t))):=by
 have hs:=zfx h.m;have key:=λ(x:Mc×Str) hx=>(zvv h hr ht (x:=x) hx)
 have zl:(Ms.zip t).length<=6:=by rw[List.length_zip];have:=h.l6;omega
 have wl:([]:List T).length+((Ms.zip t).flatMap λx=>sty x.1 x.2).length<=6000:=by
  have:=zbm (g:=λx:Mc×Str=>sty x.1 x.2) (m:=1000) (L:=Ms.zip t) λx hx=>(ztr (h.m _ (key x hx).1) (key x hx).2).2.2.1
  rw[yaw]
  omega
 obtain⟨τ,e,y,z,rfl⟩:=zck (b:=zg1 2 (zak (bNm 3) (zak (bNm 4) zg4))) (body:=zel) (λx:Mc×Str=>T.tup [mcT x.1,.str x.2]) (λ(a:List T) τ=>∃y z,τ=[some (.lst (Ms.map mcT)),some (tkT t),some (.own a),y,z]) (λx=>sty x.1 x.2) 6000 (Ms.zip t) [] [some (.lst (Ms.map mcT)),some (tkT t),some (.own []),none,none] ⟨none,none,rfl⟩ wl λx hx a τ hS hN=>by
  obtain⟨y,z,rfl⟩:=hS;obtain⟨k1,k2⟩:=key x hx;have k3:=zld (h.m _ k1);obtain⟨g1,g2,_,_⟩:=ztr (h.m _ k1) k2;have l1:a.length+(sty x.1 x.2).length<=100000:=by omega
  refine⟨[some (.lst (Ms.map mcT)),some (tkT t),some (.own a),some (mcT x.1),some (.str x.2)],by simp_arith[],[some (.lst (Ms.map mcT)),some (tkT t),some (.own (a++sty x.1 x.2)),some (mcT x.1),some (.str x.2)],?_,_,_,rfl⟩
  unfold zel
  simp_arith[-zrw,zj9,k3,zaz _ k3,g1,g2,za0 _ g2,l1]
 rw[yba]at e;unfold zej zgg
 simp_arith[hs,za0 _ hs,za7,za3,zvu,e]
 rfl
abbrev zgd:Stmt:=top 43
theorem zo1:FnScope ["machines","share","taking","ends","guard","noughts","at","number","door"] ["machines","share","taking"] (za2 zgd):=scM (by decide +kernel)
def zd4:PSt->Option Out :=
 (zai (zco (mIx (zg2 za8 zaa zam (mIx (za5 0) (za5 6)) zac) (za5 7)) (bNm 8))
 (zai (zHq 3 (za5 6) (zih zah zaq 1 (za5 8)))
 (zai (zzg 4 (zg2 zah zaq zca (za5 8) zac))
 (zzg 5 (zg2 zah zaq zc8 (za5 8) zac)))))
def zgi:PSt->Option Out :=
 (zai (zki 3 (m1 zcp (za5 2)))
 (zai (zki 4 (zea zac))
 (zai (zki 5 (zea zac))
 (zai (zgf (ze9 (za5 1)) (zg1 2 (zak (bNm 6) (zak (bNm 7) zg4))) zd4)
 (zai (zvr 3) (zai (zvr 4) (zai (zvr 5) (zc1 (zB6 zc9 [(.str "")] (za4 (zan zbu (za4 (za5 2) zac)) (za4 (zan zbu (za4 (za5 3) zac)) (za4 (za5 4) (za4 (za5 5) zac)))))))))))))
def zek:List T->Option Ru:=zda 3 9 zgi
abbrev zim:Fn:=⟨4,["machines","share","taking"],zek⟩
abbrev zox:Gx:=⟨[],[("Door",zah,zaq)],[("doors",za8,zaa,zde),("asks",zah,zaq,zjy),("sets",zah,zaq,zjw)],[("Door",zjx,[(4,[(.str "")])])],false,true,true,none,[],[],[],true,[],[],[],[]⟩
abbrev zp2:Gm:=⟨["machines","share","taking","ends","guard","noughts","at","number","door"],(za2 zgd).names,[],3,[("whole_name",zdg)],["list"],[],["ends","guard","noughts"],[],false,[],[],[],zox⟩
theorem zpd:dSs 200 zp2 (zab zgd)=some zgi:=by kernel_rfl
def d0:Dr:=⟨"","",[],[],""⟩
def dAt(D:List (List Dr))(i k:Nat):Dr:=(D.getD i []).getD k d0
abbrev pqT(p:Nat×Nat):T:=.tup [.int (p.1:Int),.int (p.2:Int)]
abbrev shT(s:List (Nat×Nat)):T:=.lst (s.map pqT)
theorem zcr(s:List (Nat×Nat)):shL (s.map pqT)=true:=zc0 λ_ _=>rfl
theorem zb3(s:List (Nat×Nat)):zal (s.map pqT)=s.map pqT:=za0 _ (zcr s)
def zCf(D:List (List Dr))(s:List (Nat×Nat)):Prop:=∀p∈s,p.1<D.length/\p.2<(D.getD p.1 []).length
abbrev dss(Ms:List Mc):List (List Dr):=Ms.map Mc.ds
theorem zH8{Ms:List Mc}{i k:Nat}(h1:i<(dss Ms).length)(h2:k<((dss Ms).getD i []).length):∃M,Ms[i]?=some M/\M.ds[k]?=some (dAt (dss Ms) i k):=by
 rw[ya1]at h1;have e:(dss Ms).getD i []=Ms[i].ds:=by rw[ya7,ya3,ya0 h1];rfl
 rw[e]at h2;refine⟨Ms[i],ya0 h1,?_⟩;unfold dAt;rw[e,ya0 h2,ya7,ya0 h2]
 rfl
theorem zDo{n i:Nat}(h:i<n):ixN n (i:Int)=some i:=by unfold ixN;simp;omega
theorem zG9{M:Mc}(h:McOk M):zam [mcT M]=some (.ok (.own (M.ds.map zau))):=zG8 h
theorem zus{Ms:List Mc}(h:∀M∈Ms,McOk M){p:Nat×Nat}{s:List (Nat×Nat)}(hs:zCf (dss Ms) s)(hp:p∈s):∃M∈Ms,Ms[p.1]?=some M/\M.ds[p.2]?=some (dAt (dss Ms) p.1 p.2)/\DrOk M.ws M.nm (dAt (dss Ms) p.1 p.2):=by
 obtain⟨h1,h2⟩:=hs p hp;obtain⟨M,e1,e2⟩:=zH8 h1 h2;have hM:=yat e1;exact⟨M,hM,e1,e2,(h M hM).d _ (yat e2)⟩
def enS(D:List (List Dr))(s:List (Nat×Nat))(t:List Str):List Str:=s.foldl (λe p=>e.set p.1 (dAt D p.1 p.2).e) t
def gdS(D:List (List Dr))(s:List (Nat×Nat)):List T:=s.flatMap λp=>(dAt D p.1 p.2).g
def ntS(D:List (List Dr))(s:List (Nat×Nat)):List Str:=s.flatMap λp=>(dAt D p.1 p.2).n
def wdr(D:List (List Dr))(w:List (Nat×Nat)×List Str):Dr:=⟨jnS w.2,jnS (enS D w.1 w.2),gdS D w.1,ntS D w.1,""⟩
theorem zp7(D:List (List Dr)):∀(s:List (Nat×Nat)) (t:List Str),(enS D s t).length=t.length
 |[],_=>rfl
 |p::s,t=>by
  show(enS D s (t.set p.1 _)).length=_;rw[zp7 D s,ybs]
theorem zp6(D:List (List Dr)):∀(s:List (Nat×Nat)) (t:List Str) (i:Nat) (r:Str),(enS D s t)[i]?=some r->t[i]?=some r\/∃p∈s,p.1=i/\r=(dAt D p.1 p.2).e
 |[],_,i,r,h=>.inl h
 |p::s,t,i,r,h=>by
  rcases zp6 D s (t.set p.1 (dAt D p.1 p.2).e) i r h with h|⟨q,h1,h2⟩
  ·by_cases hi:p.1=i
   ·by_cases hl:i<t.length
    ·rw[hi,yal hl]at h;refine .inr ⟨p,ya8 ..,hi,?_⟩;rw[hi];exact(yas h).symm
    ·rw[yb7 (by rw[ybs];omega)]at h
     cases h
   ·rw[yah hi]at h;exact .inl h
  ·exact .inr ⟨q,ya6 _ h1,h2⟩
theorem zvy{Ms:List Mc}(h:∀M∈Ms,McOk M){x1 x2:Option T}:∀(s:List (Nat×Nat)) (e:List Str) (g:List T) (n:List Str) (y6 y7 y8:Option T),zCf (dss Ms) s->e.length=Ms.length->g.length+s.length * 1000<=100000->n.length+s.length * 1000<=100000->∃z6 z7 z8,
  zc2 (zg1 2 (zak (bNm 6) (zak (bNm 7) zg4))) zd4 (s.map pqT) [some (.lst (Ms.map mcT)),x1,x2,some (.own (e.map T.str)),some (.own g),some (.own (n.map T.str)),y6,y7,y8]=some (.nx [some (.lst (Ms.map mcT)),x1,x2,some (.own ((enS (dss Ms) s e).map T.str)),some (.own (g++gdS (dss Ms) s)),some (.own ((n++ntS (dss Ms) s).map T.str)),z6,z7,z8])
 |[],e,g,n,y6,y7,y8,_,_,_,_=>⟨y6,y7,y8,by unfold gdS ntS;rw[ybl,ybl,yap,yap];rfl⟩
 |p::s,e,g,n,y6,y7,y8,hs,he,hg,hn=>by
  rw[yao,yd1,yd2]at hg hn;obtain⟨M,hM,e1,e2,k⟩:=zus h hs (ya8 ..);generalize hd:dAt (dss Ms) p.1 p.2=d at *;have sm:=zfx h;have k1:=zld (h M hM);have kd:=zG9 (h M hM);have a1:atI (Ms.map mcT) (p.1:Int)=some (mcT M):=zb2 (by rw[ya3,e1];rfl)
  have a2:atI (M.ds.map zau) (p.2:Int)=some (zau d):=zb2 (by rw[ya3,e2];rfl)
  have a3:ixN e.length (p.1:Int)=some p.1:=zDo (by rw[he];exact(ya5.mp e1).1)
  have sg:=k.g.sh;have sd:=zyf k;have f1:=zyh sg;have f2:=zye sg;have gl:=k.gl;have nl:=k.nl;have l1:g.length+d.g.length<=100000:=by omega
  have l2:n.length+d.n.length<=100000:=by omega
  obtain⟨z6,z7,z8,ih⟩:=zvy h (x1:=x1) (x2:=x2) s (e.set p.1 d.e) (g++d.g) (n++d.n) (some (.int (p.1:Int))) (some (.int (p.2:Int))) (some (zau d)) (λq hq=>hs q (ya6 _ hq)) (by rw[ybs];exact he) (by rw[yab];omega) (by rw[yab];omega)
  have body:zd4 [some (.lst (Ms.map mcT)),x1,x2,some (.own (e.map T.str)),some (.own g),some (.own (n.map T.str)),some (.int (p.1:Int)),some (.int (p.2:Int)),y8]=some (.nx [some (.lst (Ms.map mcT)),x1,x2,some (.own ((e.set p.1 d.e).map T.str)),some (.own (g++d.g)),some (.own ((n++d.n).map T.str)),some (.int (p.1:Int)),some (.int (p.2:Int)),some (zau d)]):=by
   have q1:(e.set p.1 d.e).map T.str=(e.map T.str).set p.1 (.str d.e):=List.map_set;rw[q1,yaq];unfold zd4;refine sq (τ':=[some (.lst (Ms.map mcT)),x1,x2,some (.own (e.map T.str)),some (.own g),some (.own (n.map T.str)),some (.int (p.1:Int)),some (.int (p.2:Int)),some (zau d)]) ?_ ?_
   ·simp_arith[-zrw,sm,zj9,k1,zaz _ k1,a1,kd,a2,sg,za0 _ sg,za7,za3]
   ·simp_arith[sg,za0 _ sg,za7,za3,ya1,a3,f1,f2,l1,l2]
  refine⟨z6,z7,z8,?_⟩;have bind:zg1 2 (zak (bNm 6) (zak (bNm 7) zg4)) (pqT p) [some (.lst (Ms.map mcT)),x1,x2,some (.own (e.map T.str)),some (.own g),some (.own (n.map T.str)),y6,y7,y8]=some [some (.lst (Ms.map mcT)),x1,x2,some (.own (e.map T.str)),some (.own g),some (.own (n.map T.str)),some (.int (p.1:Int)),some (.int (p.2:Int)),y8]:=by simp_arith[]
  rw[yaf];unfold zc2;simp only[bind,body];rw[ih];unfold gdS ntS enS;rw[ybc,ybc,List.foldl_cons,hd,ybi,ybi]
theorem wd_ok{Ms:List Mc}(h:MsOk Ms)(hr:RmOk Ms){t:List Str}(ht:t∈tks Ms){s:List (Nat×Nat)}(hs:zCf (dss Ms) s)(hl:s.length<=2):zek [.lst (Ms.map mcT),shT s,tkT t]=some (.ok (zau (wdr (dss Ms) (s,t)))):=by
 obtain⟨t1,t2,t3,t4⟩:=hr.t h ht;obtain⟨z6,z7,z8,e⟩:=zvy h.m (x1:=some (shT s)) (x2:=some (tkT t)) s t [] [] none none none hs t1 (by rw[yaw];omega) (by rw[yaw];omega)
 rw[yba,yba,yc6]at e;have sm:=zfx h.m;have n1:=ztj (o:=false) t2 t3
 have n2:=ztj (t:=enS (dss Ms) s t) (o:=false) (by rw[zp7];exact t2) λr hr'=>by
  obtain⟨i,q⟩:=ybo.mp hr'
  rcases zp6 _ s t i r q with q|⟨p,hp,_,rfl⟩
  ·exact t3 r (yat q)
  ·obtain⟨M,hM,_,_,k⟩:=zus h.m hs hp;exact hr.s M hM _ k.e
 have sg:shL (gdS (dss Ms) s)=true:=by
  rw[zbj,yau];intro u hu;obtain⟨p,hp,hu⟩:=yb4.mp hu;obtain⟨M,hM,_,_,k⟩:=zus h.m hs hp;have:=k.g.sh;rw[zbj,yau]at this;exact this u hu
 have oc1:=zAy _ sg;have oc2:=zAy ((ntS (dss Ms) s).map T.str) (za7 _)
 have di:zc9 [.str (jnS t),.str (jnS (enS (dss Ms) s t)),.lst (gdS (dss Ms) s),.lst ((ntS (dss Ms) s).map T.str),.str ""]=some (.ok (zau (wdr (dss Ms) (s,t)))):=by
  refine zsf λp=>?_
  unfold zoa zfp wdr
  simp_arith[oc1,oc2,sg,za0 _ sg,za3,za7]
 unfold zek zgi
 simp_arith[sm,za0 _ sm,za7,za3,zcr,zb3,e,sg,za0 _ sg,n1,n2,di]
abbrev zhr:Stmt:=top 41
theorem zq6:FnScope ["lists","at","number","sign","answer","told","other_at","doors","other_number","door"] ["lists","at","number"] (za2 zhr):=scM (by decide +kernel)
def zcd:PSt->Option Out :=
 (sIf (zom (m2 neT (za5 6) (za5 1)) (m2 eqT (zih zah zaq 4 (za5 9)) (za5 4))) (ztv 5 (zea (zao (zol (za4 (za5 1) (za4 (za5 2) zac))) (zao (zol (za4 (za5 6) (za4 (za5 8) zac))) zac)))) sNx)
def zf5:PSt->Option Out :=
 (zgf (zdz (za4 (za5 7) zac)) (zg1 2 (zak (bNm 8) (zak (bNm 9) zg4))) zcd)
def zcv:PSt->Option Out :=
 (zai (zco (zih zah zaq 4 (mIx (mIx (za5 0) (za5 1)) (za5 2))) (bNm 3))
 (zai (sIf (m2 eqT (za5 3) (mC (.str ""))) (zc1 (zea (zao (zea (zao (zol (za4 (za5 1) (za4 (za5 2) zac))) zac)) zac))) sNx)
 (zai (sIf (zGc (za5 3) (mC (.str "?"))) (zc1 (zea zac)) sNx)
 (zai (zco (m2 zf0 (zmk (mSl (za5 3) none (some (m1 zsl (mC (.int 1))))) (zsq (za5 3) none (some (m1 zsl (mC (.int 1)))))) (mC (.str "?"))) (bNm 4))
 (zai (zki 5 (zea zac))
 (zai (zgf (zdz (za4 (za5 0) zac)) (zg1 2 (zak (bNm 6) (zak (bNm 7) zg4))) zf5)
 (zc1 (za5 5))))))))
def zd1:List T->Option Ru:=zda 3 10 zcv
abbrev zju:Fn:=⟨1,["lists","at","number"],zd1⟩
abbrev zqv:Gx:=⟨[],[("Door",zah,zaq)],[],[],false,true,true,none,[],[],[],true,[],[],[],[]⟩
abbrev zr0:Gm:=⟨["lists","at","number","sign","answer","told","other_at","doors","other_number","door"],(za2 zhr).names,[],0,[],["enumerate"],[],["told"],[],false,[],[],[],zqv⟩
theorem zrg:dSs 200 zr0 (zab zhr)=some zcv:=by kernel_rfl
theorem zBv{x y:Str}{c:Nat}(hc:c∈Tx.cs y)(hx:c∉Tx.cs x):Txt.endswith x y=false:=by
 unfold Txt.endswith;rw[Bool.and_eq_false_iff];right;rw[StrLaws.subAt_eq,beq_eq_false_iff_ne];intro z;have hc':c∈y.cps.toList:=hc;rw[<- z]at hc';exact hx (List.mem_of_mem_drop (List.mem_of_mem_take hc'))
theorem zH1{x y z:Str}(h:Tx.cs z=Tx.cs x++Tx.cs y):Txt.endswith z y=true:=by
 have hl:(Tx.cs z).length=(Tx.cs x).length+(Tx.cs y).length:=by rw[h,yab]
 unfold Txt.endswith;rw[ya4];refine⟨decide_eq_true ?_,?_⟩
 ·rw[Tx.cs_len,Tx.cs_len]
  omega
 ·rw[StrLaws.subAt_eq,beq_iff_eq];show((Tx.cs z).drop (z.length - y.length)).take y.length=Tx.cs y;rw[Tx.cs_len,Tx.cs_len,hl,Nat.add_sub_cancel,h,List.drop_left' rfl];exact ybp
theorem zF4:Tx.cs (Str.ofString "?")=[63]:=by decide +kernel
def anS(z:Str):Str:=Txt.slice z none (some (-1))++"?"
def gos(D:List (List Dr))(i k:Nat):List (List (Nat×Nat)):=if (dAt D i k).z="" then [[(i,k)]] else if Txt.endswith (dAt D i k).z "?"=true then [] else
 (List.range D.length).flatMap λj=>(List.range (D.getD j []).length).flatMap λm=>if j≠i/\(dAt D j m).z=anS (dAt D i k).z then [[(i,k),(j,m)]] else []
theorem zqz{D:List (List Dr)}{i k:Nat}(h1:i<D.length)(h2:k<(D.getD i []).length){s:List (Nat×Nat)}(hs:s∈gos D i k):zCf D s/\s.length<=2/\(s=[(i,k)]\/∃j m,j≠i/\s=[(i,k),(j,m)]):=by
 unfold gos at hs;split at hs
 ·rw[ya9.mp hs];exact⟨λp hp=>by rw[ya9.mp hp];exact⟨h1,h2⟩,yce 1,.inl rfl⟩
 ·split at hs
  ·cases hs
  ·obtain⟨j,hj,hs⟩:=yb4.mp hs;obtain⟨m,hm,hs⟩:=yb4.mp hs;split at hs
   ·rename_i hc;rw[ya9.mp hs];refine⟨λp hp=>?_,yaa _,.inr ⟨j,m,hc.1,rfl⟩⟩
    rcases yaj.mp hp with rfl|hp
    ·exact⟨h1,h2⟩
    ·rw[ya9.mp hp];exact⟨yb6.mp hj,yb6.mp hm⟩
   ·cases hs
def dlT(D:List (List Dr)):T:=.lst (D.map λl=>.lst (l.map zau))
structure DsOk(D:List (List Dr)):Prop where
 l:D.length<=100
 k:∀l∈D,l.length<=200
 g:∀l∈D,∀d∈l,shL d.g=true
 z:∀l∈D,∀d∈l,Sgn d.z
theorem DsOk.sl{D:List (List Dr)}(h:DsOk D){l:List Dr}(hl:l∈D):shL (l.map zau)=true:=zc0 λd hd=>by
 have:=h.g l hl d hd
 simp_arith[this,za7]
theorem DsOk.sh{D:List (List Dr)}(h:DsOk D):shL (D.map λl=>T.lst (l.map zau))=true:=zc0 λl hl=>by
 show((!false) && shL (l.map zau))=true;rw[h.sl hl]
 rfl
theorem zBy{D:List (List Dr)}{i:Nat}(h1:i<D.length):∃l∈D,D.getD i []=l/\atI (D.map λl=>T.lst (l.map zau)) (i:Int)=some (.lst (l.map zau)) :=
 ⟨D[i],yam h1,by rw[ya7,ya0 h1];rfl,zb2 (by rw[ya3,ya0 h1];rfl)⟩
theorem zM4{D:List (List Dr)}{i k:Nat}(h1:i<D.length)(h2:k<(D.getD i []).length):∃l∈D,D.getD i []=l/\dAt D i k∈l/\atI (D.map λl=>T.lst (l.map zau)) (i:Int)=some (.lst (l.map zau))/\atI (l.map zau) (k:Int)=some (zau (dAt D i k)):=by
 obtain⟨l,hl,e,a⟩:=zBy h1;rw[e]at h2;have ed:dAt D i k=l[k]:=by unfold dAt;rw[e,ya7,ya0 h2];rfl
 exact⟨l,hl,e,by rw[ed];exact yam h2,a,zb2 (by rw[ya3,ya0 h2,ed];rfl)⟩
theorem zs1{z:Str}(h:Sgn z)(hz:z≠""):∃(y:Str) (c:Nat),Sml y/\y.cps.size<=8/\(c=33\/c=63)/\Tx.cs z=Tx.cs y++[c]/\Txt.slice z none (some (-1))=y/\Txt.endswith z "?"=decide (c=63)/\z.length<=9/\atI z.cps.toList (-1)=some c:=by
 rcases h with h|⟨y,c,h1,h2,h3,hc,e⟩
 ·exact absurd h hz
 ·have hl:(Tx.cs z).length=(Tx.cs y).length+1:=by rw[e,yab];rfl
  have h3':(Tx.cs y).length<=8:=h3;refine⟨y,c,h1,h3,hc,e,?_,?_,by rw[Tx.cs_len];omega,?_⟩
  ·have e2:Txt.slice z none (some (-1))=StrLaws.sliceText z none (some (-1)):=rfl;rw[e2,StrLaws.sliceText_neg_hi z none (by decide) (by rw[Tx.cs_len,hl];omega)]
   have e3:((-1:Int)+(z.length:Int))=(((Tx.cs y).length:Nat):Int):=by rw[Tx.cs_len,hl];omega
   rw[e3];refine Tx.cs_ext ?_;show Tx.cs (Txt.slice z none (some (((Tx.cs y).length:Nat):Int)))=Tx.cs y;rw[Tx.sl_to (by omega),e,List.take_left' rfl]
  ·rcases hc with rfl|rfl
   ·refine zBv (c:=63) (by rw[zF4];decide) λq=>?_
    rw[e]at q
    rcases ybe.mp q with q|q
    ·have:=zq3 h1 63 q
     omega
    ·cases ya9.mp q
   ·exact zH1 (x:=y) (by rw[e,zF4])
  ·show atI (Tx.cs z) (-1)=some c;rw[e];unfold atI ixN;rw[yab,ybf,if_neg (by decide),if_pos (by omega)]
   show(Tx.cs y++[c])[((-1:Int)+(((Tx.cs y).length+1:Nat):Int)).toNat]?=some c;rw[show((-1:Int)+(((Tx.cs y).length+1:Nat):Int)).toNat=(Tx.cs y).length by omega,yb3 (yaa _),Nat.sub_self]
   rfl
theorem zp5{α:Type}(f:α->T)(d:α)(L:List α):zgr 0 (L.map f)=(List.range L.length).map λ(j:Nat)=>T.tup [.int (j:Int),f (L.getD j d)]:=by
 have e:L.map f=mT L.length λj=>f (L.getD j d):=zjo (by simp) λj hj=>by
  rw[ya3,ya0 hj,ya7,ya0 hj]
  rfl
 rw[e,zH2]
 rfl
theorem zBw:PyData.strOk (Str.ofString "")=true:=by decide +kernel
theorem zMg{z:Str}(h:Sgn z)(hz:z≠""):PyData.strOk (anS z)=true:=by
 obtain⟨y,c,h1,_,_,_,e,_⟩:=zs1 h hz;refine zze λx hx=>?_
 unfold anS at hx;rw[e,Tx.cs_app]at hx
 rcases ybe.mp hx with hx|hx
 ·have:=zq3 h1 x hx
  omega
 ·rw[show Tx.cs (Str.ofString "?")=[63] from zF4]at hx;rw[ya9.mp hx]
  decide
abbrev shO(s:List (Nat×Nat)):T:=.own (s.map pqT)
abbrev sO(D:List (List Dr))(i k:Nat)(z:Str)(a:List (List (Nat×Nat)))(x6 x7 x8 x9:Option T):PSt:=[some (dlT D),some (.int (i:Int)),some (.int (k:Int)),some (.str z),some (.str (anS z)),some (.own (a.map shO)),x6,x7,x8,x9]
theorem so_ok{D:List (List Dr)}(h:DsOk D){i k:Nat}(h1:i<D.length)(h2:k<(D.getD i []).length):zd1 [dlT D,.int (i:Int),.int (k:Int)]=some (.ok (.own ((gos D i k).map shO))):=by
 have hs:=h.sh;obtain⟨l,hl,_,hd,a1,a2⟩:=zM4 h1 h2;have sl:=h.sl hl;have sg:=h.g l hl _ hd;have hz:=h.z l hl _ hd;generalize hdd:dAt D i k=d at *;have q0:=zeh (zq5 hz) zBw
 by_cases z0:d.z=""
 ·have eg:gos D i k=[[(i,k)]]:=by unfold gos;rw[hdd,if_pos z0]
  rw[decide_eq_true (show d.z=Str.ofString "" from z0)]at q0;rw[eg];unfold zd1 zcv dlT
  simp_arith[hs,za0 _ hs,a1,a2,sl,sg,za0 _ sg,za7,q0]
  rfl
 ·rw[decide_eq_false (show ¬ d.z=Str.ofString "" from z0)]at q0;obtain⟨y,c,y1,y2,hc,ez,es,ee,zl,_⟩:=zs1 hz z0
  by_cases c63:c=63
  ·rw[decide_eq_true c63]at ee;have eg:gos D i k=[]:=by unfold gos;rw[hdd,if_neg z0,if_pos ee]
   rw[eg];unfold zd1 zcv dlT
   simp_arith[hs,za0 _ hs,a1,a2,sl,sg,za0 _ sg,za7,q0,zGc,ee]
  ·rw[decide_eq_false c63]at ee;have eg:gos D i k=(List.range D.length).flatMap λj=>(List.range (D.getD j []).length).flatMap λm=>if j≠i/\(dAt D j m).z=anS d.z then [[(i,k),(j,m)]] else []:=by unfold gos;rw[hdd,if_neg z0,if_neg (by rw[ee];exact ybg)]
   have an:=zMg hz z0
   have il:∀j,j<D.length->((List.range (D.getD j []).length).flatMap λm=>if j≠i/\(dAt D j m).z=anS d.z then [[(i,k),(j,m)]] else []).length<=200:=λj hj=>by
    obtain⟨lj,hlj,ej,_⟩:=zBy hj
    have:=zbm (g:=λm=>if j≠i/\(dAt D j m).z=anS d.z then [[(i,k),(j,m)]] else []) (m:=1) (L:=List.range (D.getD j []).length) λm _=>by
     split
     ·exact yaa 1
     ·exact yb2 1
    rw[ybb,ej,Nat.mul_one]at this;rw[ej];exact yae this (h.k lj hlj)
   have tl:=zbm (g:=λj=>(List.range (D.getD j []).length).flatMap λm=>if j≠i/\(dAt D j m).z=anS d.z then [[(i,k),(j,m)]] else []) (m:=200) (L:=List.range D.length) λj hj=>il j (yb6.mp hj)
   rw[ybb]at tl;have hlD:=h.l
   obtain⟨τ,e,y6,y7,y8,y9,rfl⟩:=zck (b:=zg1 2 (zak (bNm 6) (zak (bNm 7) zg4))) (body:=zf5) (λ(j:Nat)=>T.tup [.int (j:Int),.lst ((D.getD j []).map zau)]) (λ(a:List (List (Nat×Nat))) τ=>∃y6 y7 y8 y9,τ=(sO D i k d.z a y6 y7 y8 y9)) (λj=>(List.range (D.getD j []).length).flatMap λm=>if j≠i/\(dAt D j m).z=anS d.z then [[(i,k),(j,m)]] else []) 20000 (List.range D.length) [] [some (dlT D),some (.int (i:Int)),some (.int (k:Int)),some (.str d.z),some (.str (anS d.z)),some (.own []),none,none,none,none] ⟨none,none,none,none,rfl⟩ (by rw[yaw];omega) λj hj a τ hS hN=>by
    obtain⟨y6,y7,y8,y9,rfl⟩:=hS;have hj:=yb6.mp hj;obtain⟨lj,hlj,ej,_⟩:=zBy hj;have slj:=h.sl hlj;rw[ej]at hN ⊢
    obtain⟨τ2,e2,z8,z9,rfl⟩:=zck (b:=zg1 2 (zak (bNm 8) (zak (bNm 9) zg4))) (body:=zcd) (λ(m:Nat)=>T.tup [.int (m:Int),zau (lj.getD m d0)]) (λ(a:List (List (Nat×Nat))) τ=>∃y8 y9,τ=(sO D i k d.z a (some (.int (j:Int))) (some (.lst (lj.map zau))) y8 y9)) (λm=>if j≠i/\(dAt D j m).z=anS d.z then [[(i,k),(j,m)]] else []) 20000 (List.range lj.length) a (sO D i k d.z a (some (.int (j:Int))) (some (.lst (lj.map zau))) y8 y9) ⟨y8,y9,rfl⟩ hN λm hm a τ hS hN=>by
     obtain⟨y8,y9,rfl⟩:=hS;have hm:=yb6.mp hm;have em:lj.getD m d0=dAt D j m:=by unfold dAt;rw[ej]
     have hdm:dAt D j m∈lj:=by rw[<- em,ya7,ya0 hm];exact yam hm
     rw[em];have sgm:=h.g lj hlj _ hdm;have q1:=zeh (zq5 (h.z lj hlj _ hdm)) an;generalize dAt D j m=dm at *;refine⟨(sO D i k d.z a (some (.int (j:Int))) (some (.lst (lj.map zau))) (some (.int (m:Int))) (some (zau dm))),by simp_arith[],_,?_,some (.int (m:Int)),some (zau dm),rfl⟩
     by_cases hji:j=i
     ·rw[if_neg (λz=>z.1 hji),yap]
      have n1:((j:Int) == (i:Int))=true:=by rw[hji];exact beq_self_eq_true _
      unfold zcd
      simp_arith[zhg,n1]
     ·have n1:((j:Int) == (i:Int))=false:=by rw[beq_eq_false_iff_ne];exact λz=>hji (Int.ofNat.inj z)
      by_cases hzz:dm.z=anS d.z
      ·rw[decide_eq_true hzz]at q1;rw[if_pos ⟨hji,hzz⟩]at hN ⊢;have ll:a.length<100000:=by rw[ybf]at hN;omega
       unfold sO;rw[yaq];unfold zcd
       simp_arith[zhg,n1,sgm,za0 _ sgm,za7,q1,ya1,ll]
       rfl
      ·rw[decide_eq_false hzz]at q1;rw[if_neg (λz=>hzz z.2),yap]
       unfold zcd
       simp_arith[zhg,n1,sgm,za0 _ sgm,za7,q1]
    refine⟨(sO D i k d.z a (some (.int (j:Int))) (some (.lst (lj.map zau))) y8 y9),by simp_arith[],_,?_,some (.int (j:Int)),some (.lst (lj.map zau)),z8,z9,rfl⟩
    unfold zf5
    simp_arith[zdz,slj,za0 _ slj,zp5 zau d0,e2]
   rw[yba]at e;have sy:Txt.slice d.z none (some (-1))++Str.ofString "?"=anS d.z:=rfl;have ls:d.z.length<=100000:=by omega
   have l9:(Txt.slice d.z none (some (-1))).length+(Str.ofString "?").length<=100000:=by
    rw[es,Tx.cs_len,show(Str.ofString "?").length=1 by decide +kernel]
    have:(Tx.cs y).length<=8:=y2
    omega
   have en:zgr 0 (D.map λl=>T.lst (l.map zau))=(List.range D.length).map λ(j:Nat)=>T.tup [.int (j:Int),.lst ((D.getD j []).map zau)]:=zp5 (λl:List Dr=>T.lst (l.map zau)) [] D
   rw[eg]
   have key:zcv [some (dlT D),some (.int (i:Int)),some (.int (k:Int)),none,none,none,none,none,none,none]=some (.rt (.own (((List.range D.length).flatMap λj=>(List.range (D.getD j []).length).flatMap λm=>if j≠i/\(dAt D j m).z=anS d.z then [[(i,k),(j,m)]] else []).map shO))):=by
    unfold zcv;refine sq (τ':=[some (dlT D),some (.int (i:Int)),some (.int (k:Int)),some (.str d.z),none,none,none,none,none,none]) (by unfold dlT;simp_arith[hs,za0 _ hs,a1,a2,sl,sg,za0 _ sg,za7]) ?_
    refine sq (τ':=[some (dlT D),some (.int (i:Int)),some (.int (k:Int)),some (.str d.z),none,none,none,none,none,none]) (by simp_arith[q0]) ?_
    refine sq (τ':=[some (dlT D),some (.int (i:Int)),some (.int (k:Int)),some (.str d.z),none,none,none,none,none,none]) (by simp_arith[zGc,ee]) ?_
    refine sq (τ':=[some (dlT D),some (.int (i:Int)),some (.int (k:Int)),some (.str d.z),some (.str (anS d.z)),none,none,none,none,none]) (by simp_arith[zsq,ls,show(-(1:Int))=-1 from rfl,l9,sy]) ?_
    refine sq (τ':=[some (dlT D),some (.int (i:Int)),some (.int (k:Int)),some (.str d.z),some (.str (anS d.z)),some (.own []),none,none,none,none]) (by simp_arith[]) ?_
    refine sq (τ':=_) (by rw[<- e];unfold dlT;simp_arith[zdz,hs,za0 _ hs,en]) ?_
    simp_arith[]
   unfold zd1;have sD:(dlT D).share=dlT D:=by unfold dlT;simp_arith[hs,za0 _ hs]
   simp_arith[key]
abbrev zf7:Stmt:=top 42
theorem zmc:FnScope ["lists","share","taking"] ["lists","share","taking"] (za2 zf7):=scM (by decide +kernel)
def ze2:PSt->Option Rs :=
 (m2 eqT (zih zah zaq 0 (mIx (mIx (za5 2) (za5 0)) (za5 1))) (mIx (za5 3) (za5 0)))
def zfi:PSt->Option Out :=
 (zc1 (m1 zth (mLC 2 [0,2] (ze9 (za5 1)) (zg1 2 (zak (bNm 0) (zak (bNm 1) zg4))) (mC (.bl true)) ze2)))
def zdh:List T->Option Ru:=zda 3 3 zfi
abbrev zhh:Fn:=⟨1,["lists","share","taking"],zdh⟩
abbrev zml:Gx:=⟨[],[("Door",zah,zaq)],[],[],false,true,true,none,[],[],[],true,[],[],[],[]⟩
abbrev zmr:Gm:=⟨["lists","share","taking"],(za2 zf7).names,["lists","taking"],0,[],["all"],[],[],[],false,[],[],[],zml⟩
theorem zmy:dSs 200 zmr (zab zf7)=some zfi:=by kernel_rfl
def stf(D:List (List Dr))(s:List (Nat×Nat))(t:List Str):Bool:=s.all λp=>decide ((dAt D p.1 p.2).s=t.getD p.1 "")
theorem zro{α:Type}(f:α->Bool):∀L:List α,zjl (L.map λx=>T.bl (f x))=some (L.map f)
 |[]=>rfl
 |a::r=>by
  rw[yaf,yaf];unfold zjl;rw[zro f r]
theorem zrd{D:List (List Dr)}(h:DsOk D):(dlT D).share=dlT D/\(dlT D).sh=true:=by
 have hs:=h.sh;unfold dlT;constructor<;>simp_arith[hs,za0 _ hs]
theorem sf_ok{D:List (List Dr)}(h:DsOk D)(ht:∀l∈D,∀d∈l,PyData.strOk d.s=true){s:List (Nat×Nat)}(hs:zCf D s)(hl:s.length<=2){t:List Str}(tl:t.length=D.length)(tx:Txs t):zdh [dlT D,shT s,tkT t]=some (.ok (.bl (stf D s t))):=by
 obtain⟨d1,d2⟩:=zrd h;have hD:=h.sh
 have lc:zg5 (zg1 2 (zak (bNm 0) (zak (bNm 1) zg4))) (mC (.bl true)) ze2 (s.map pqT) [none,none,some (dlT D),some (tkT t)]=some (s.map λp=>T.bl (decide ((dAt D p.1 p.2).s=t.getD p.1 ""))):=zbq pqT (λp=>T.bl (decide ((dAt D p.1 p.2).s=t.getD p.1 ""))) (λτ=>∃a b,τ=[a,b,some (dlT D),some (tkT t)]) _ _ ⟨none,none,rfl⟩ λp hp τ hI=>by
  obtain⟨a,b,rfl⟩:=hI;obtain⟨k1,k2⟩:=hs p hp;obtain⟨l,hl,_,hd,a1,a2⟩:=zM4 k1 k2;have sl:=h.sl hl;have sg:=h.g l hl _ hd;have it:p.1<t.length:=by omega
  have a3:atI (t.map T.str) (p.1:Int)=some (.str (t.getD p.1 "")):=zb2 (by rw[ya3,ya0 it,ya7,ya0 it];rfl)
  have q:=zeh (ht l hl _ hd) (tx (t.getD p.1 "") (by rw[ya7,ya0 it];exact yam it))
  generalize dAt D p.1 p.2=d at *;refine⟨[some (.int (p.1:Int)),some (.int (p.2:Int)),some (dlT D),some (tkT t)],by simp_arith[],?_,_,_,rfl⟩
  unfold ze2 dlT
  simp_arith[hD,a1,a2,sl,sg,za7,a3,q]
 have ba:=zro (λp:Nat×Nat=>decide ((dAt D p.1 p.2).s=t.getD p.1 "")) s
 have sb:=za0 _ (zc0 (f:=λp:Nat×Nat=>T.bl (decide ((dAt D p.1 p.2).s=t.getD p.1 ""))) (L:=s) λ_ _=>rfl)
 have al:(s.map λp=>decide ((dAt D p.1 p.2).s=t.getD p.1 "")).all id=stf D s t:=by unfold stf;rw[List.all_map];rfl
 have ll:s.length<=100000:=by omega
 have c0:zHz [some (dlT D),some (shT s),some (tkT t)] 0=some (dlT D):=by unfold zHz;simp only[List.getElem?_cons_zero,d2,if_true]
 unfold zdh zfi
 simp_arith[d1,d2,za7,za3,zcr,zb3,ya1,ll,lc,sb,ba,al]
abbrev zga:Stmt:=top 40
theorem zny:FnScope ["machines","takings","lists","ways","at","doors","number","share"] ["machines","takings"] (za2 zga):=scM (by decide +kernel)
def zex:PSt->Option Rs :=
 (zg2 za8 zaa zam (za5 0) zac)
def zet:PSt->Option Rs :=
 (zan zdh (za4 (za5 1) (za4 (za5 2) (za4 (za5 0) zac))))
def zew:PSt->Option Rs :=
 (zol (za4 (za5 2) (za4 (za5 0) zac)))
def zb4:PSt->Option Out :=
 (zai (zzg 3 (mLC 1 [2,7] (ze9 (za5 1)) (bNm 0) zet zew))
 (sIf (m2 (zp9 λi j=>decide (j<i)) (m1 zhe (za5 3)) (mC zbf)) (zl5 "TooMany" (za4 (mC (.str "the whole would have more than 200 doors")) zac)) sNx))
def zb5:PSt->Option Out :=
 (zgf (ze9 (zan zd1 (za4 (za5 2) (za4 (za5 4) (za4 (za5 6) zac))))) (bNm 7) zb4)
def zb6:PSt->Option Out :=
 (zgf (zba (za4 (m1 zhe (za5 5)) zac)) (bNm 6) zb5)
def zee:PSt->Option Out :=
 (zai (zco (mLC 1 [] (ze9 (za5 0)) (bNm 0) (mC (.bl true)) zex) (bNm 2))
 (zai (zki 3 (zea zac))
 (zai (zgf (zdz (za4 (za5 2) zac)) (zg1 2 (zak (bNm 4) (zak (bNm 5) zg4))) zb6)
 (zc1 (za5 3)))))
def zbt:List T->Option Ru:=zda 2 8 zee
abbrev zfr:Fn:=⟨2,["machines","takings"],zbt⟩
abbrev zov:Gx:=⟨[("MOST_DOORS",zbf)],[],[("doors",za8,zaa,zde)],[],false,true,true,none,[],[],[],true,[],[],[],[]⟩
abbrev zoz:Gm:=⟨["machines","takings","lists","ways","at","doors","number","share"],(za2 zga).names,["lists","share"],1,[("shares_of",zju),("starts_from",zhh)],["enumerate","range","len"],["TooMany"],["ways"],[],false,[],[],[],zov⟩
theorem zpa:dSs 200 zoz (zab zga)=some zee:=by kernel_rfl
theorem zua{α:Type}{b:T->PSt->Option PSt}{mt me:PSt->Option Rs}(f g:α->T)(p:α->Bool)(I:PSt->Prop):∀(L:List α) (τ:PSt),I τ->(∀x∈L,∀τ,I τ->∃τ1 bb,b (f x) τ=some τ1/\mt τ1=some (.v (.bl (p x)) bb)/\(p x=true->me τ1=some (.v (g x) false))/\I τ1)->zg5 b mt me (L.map f) τ=some ((L.filter p).map g)
 |[],_,_,_=>rfl
 |x::L,τ,h,hs=>by
  obtain⟨τ1,bb,e1,e2,e3,h1⟩:=hs x (ya8 ..) τ h;have k:=zua f g p I L τ1 h1 λu hu=>hs u (ya6 _ hu)
  rw[yaf,List.filter_cons];unfold zg5;cases hp:p x with
  |true=>simp only[e1,e2,hp,e3 hp,k,if_true];rfl
  |false=>simp only[e1,e2,hp,k,yc7,if_false]
abbrev wyT(w:List (Nat×Nat)×List Str):T:=.tup [shT w.1,tkT w.2]
def wy1(D:List (List Dr))(ts:List (List Str))(s:List (Nat×Nat)):List (List (Nat×Nat)×List Str):=(ts.filter (stf D s)).map λt=>(s,t)
def wy2(D:List (List Dr))(ts:List (List Str))(i k:Nat):List (List (Nat×Nat)×List Str):=(gos D i k).flatMap (wy1 D ts)
def wy3(D:List (List Dr))(ts:List (List Str))(i:Nat):List (List (Nat×Nat)×List Str):=(List.range (D.getD i []).length).flatMap (wy2 D ts i)
def wys(D:List (List Dr))(ts:List (List Str)):List (List (Nat×Nat)×List Str):=(List.range D.length).flatMap (wy3 D ts)
theorem zry{D:List (List Dr)}{ts:List (List Str)}{w:List (Nat×Nat)×List Str}(h:w∈wys D ts):w.2∈ts/\∃i k,i<D.length/\k<(D.getD i []).length/\w.1∈gos D i k/\stf D w.1 w.2=true:=by
 obtain⟨i,hi,h⟩:=yb4.mp h;obtain⟨k,hk,h⟩:=yb4.mp h;obtain⟨s,hs,h⟩:=yb4.mp h;obtain⟨t,ht,rfl⟩:=yag.mp h;obtain⟨h1,h2⟩:=yd7.mp ht;exact⟨h1,i,k,yb6.mp hi,yb6.mp hk,hs,h2⟩
theorem zzn(w:List (Nat×Nat)×List Str):(wyT w).sh=true:=by simp_arith[zcr,za7]
theorem ds_of{Ms:List Mc}(h:MsOk Ms):DsOk (dss Ms)/\∀l∈dss Ms,∀d∈l,PyData.strOk d.s=true:=by
 have key:∀l∈dss Ms,∃M∈Ms,M.ds=l:=λl hl=>by
  obtain⟨M,hM,rfl⟩:=yag.mp hl;exact⟨M,hM,rfl⟩
 refine⟨⟨by rw[ya1];have:=h.l6;omega,λl hl=>?_,λl hl d hd=>?_,λl hl d hd=>?_⟩,λl hl d hd=>?_⟩<;>obtain⟨M,hM,rfl⟩:=key l hl
 ·exact(h.m M hM).dl
 ·exact((h.m M hM).d d hd).g.sh
 ·exact((h.m M hM).d d hd).z
 ·exact(h.m M hM).tn _ ((h.m M hM).d d hd).s
abbrev sW(Ms:List Mc)(ts:List (List Str))(D:List (List Dr))(a:List (List (Nat×Nat)×List Str))(x4 x5 x6 x7:Option T):PSt:=[some (.lst (Ms.map mcT)),some (.lst (ts.map tkT)),some (dlT D),some (.own (a.map wyT)),x4,x5,x6,x7]
theorem zI1{Ms:List Mc}(h:MsOk Ms)(hr:RmOk Ms):((wys (dss Ms) (tks Ms)).length<=200/\zbt [.lst (Ms.map mcT),.lst ((tks Ms).map tkT)]=some (.ok (.own ((wys (dss Ms) (tks Ms)).map wyT))))\/(200<(wys (dss Ms) (tks Ms)).length/\zbt [.lst (Ms.map mcT),.lst ((tks Ms).map tkT)]=some (.exc "TooMany")):=by
 obtain⟨hD,hD2⟩:=ds_of h;obtain⟨d1,d2⟩:=zrd hD;have sD:=hD.sh;have sm:=zfx h.m;have st:=zg7 (tks Ms);have l64:(tks Ms).length<=64:=by have:=hr.k Ms.length (yaa _);rwa[ybp]at this
 have tl:∀t∈tks Ms,t.length=(dss Ms).length/\Txs t:=λt ht=>by
  obtain⟨k1,_,_,k4⟩:=hr.t h ht;refine⟨by rw[ya1];exact k1,λx hx=>?_⟩
  obtain⟨i,e⟩:=ybo.mp hx;obtain⟨M,e1,e2⟩:=k4 i x e;exact(h.m M (yat e1)).tn x e2
 generalize hts:tks Ms=ts at *;have eD:(dss Ms).length=Ms.length:=ya1 _;generalize hDD:dss Ms=D at *
 have lc1:zg5 (bNm 0) (mC (.bl true)) zex (Ms.map mcT) [none]=some (Ms.map λM=>T.own (M.ds.map zau)):=zbq mcT (λM=>T.own (M.ds.map zau)) (λτ=>∃a,τ=[a]) Ms _ ⟨none,rfl⟩ λM hM τ hI=>by
  obtain⟨a,rfl⟩:=hI;have k1:=zld (h.m M hM);exact⟨[some (mcT M)],by simp_arith[],by unfold zex;simp_arith[-zrw,zj9,k1,zaz _ k1,zG9 (h.m M hM)],_,rfl⟩
 have so:T.lst (zal (Ms.map λM=>T.own (M.ds.map zau)))=dlT D:=by
  rw[<- hDD];unfold dlT;rw[zap,yax,yax];refine congrArg T.lst (ybn λM hM=>?_)
  show T.nd false .lst (zal (M.ds.map zau))=T.lst (M.ds.map zau);rw[za0 _ (h.m M hM).sd]
 have one:∀(i k:Nat) (l:List Dr) (s:List (Nat×Nat)),zCf D s->s.length<=2->∀a:List (List (Nat×Nat)×List Str),a.length<=200 ->
   let τ:=λ(a:List (List (Nat×Nat)×List Str))=>(sW Ms ts D a (some (.int (i:Int))) (some (.lst (l.map zau))) (some (.int (k:Int))) (some (shT s)))
   (a.length+(wy1 D ts s).length<=200/\zb4 (τ a)=some (.nx (τ (a++wy1 D ts s))))\/(200<a.length+(wy1 D ts s).length/\zb4 (τ a)=some (.xc "TooMany" (τ (a++wy1 D ts s)))):=λi k l s hs hl a ha=>by
  have lc:zg5 (bNm 0) zet zew (ts.map tkT) [none,some (dlT D),some (shT s)]=some ((ts.filter (stf D s)).map λt=>wyT (s,t)):=zua tkT (λt=>wyT (s,t)) (stf D s) (λτ=>∃a,τ=[a,some (dlT D),some (shT s)]) ts _ ⟨none,rfl⟩ λt ht τ hI=>by
   obtain⟨x,rfl⟩:=hI;obtain⟨k1,k2⟩:=tl t ht;have sf:=sf_ok hD hD2 hs hl k1 k2;refine⟨[some (tkT t),some (dlT D),some (shT s)],false,by simp_arith[],?_,λ_=>?_,_,rfl⟩
   ·unfold zet
    simp_arith[d1,d2,zcr,zb3,za7,za3,sf]
   ·unfold zew
    simp_arith[zcr,zb3,za7,za3]
  have e1:(ts.filter (stf D s)).map (λt=>wyT (s,t))=(wy1 D ts s).map wyT:=by unfold wy1;rw[yax];rfl
  have fl:(wy1 D ts s).length<=64:=by unfold wy1;rw[ya1];exact yae (List.length_filter_le _ _) l64
  have sw:=zc0 (f:=wyT) (L:=wy1 D ts s) λw _=>zzn w
  have l1:ts.length<=100000:=by omega
  have l2:a.length+(wy1 D ts s).length<=100000:=by omega
  rw[e1]at lc
  have dc:decide ((200:Int)<((((a++wy1 D ts s).map wyT).length:Nat):Int))=decide (200<a.length+(wy1 D ts s).length):=by
   rw[ya1,yab];exact decide_eq_decide.mpr (by omega)
  have ext:zb4 (sW Ms ts D a (some (.int (i:Int))) (some (.lst (l.map zau))) (some (.int (k:Int))) (some (shT s)))=sIf (mAp (g2 (zp9 λi j=>decide (j<i))) (za4 (mAp (g1 zhe) (za4 (za5 3) zac)) (za4 (mC zbf) zac))) (zl5 "TooMany" (za4 (mC (.str "the whole would have more than 200 doors")) zac)) sNx (sW Ms ts D (a++wy1 D ts s) (some (.int (i:Int))) (some (.lst (l.map zau))) (some (.int (k:Int))) (some (shT s))):=by
   unfold zb4;refine sq ?_ rfl;unfold sW;rw[yaq]
   simp_arith[d2,st,za0 _ st,zcr,ya1,l1,lc,l2,sw,za0 _ sw]
  have swa:=za0 _ (zc0 (f:=wyT) (L:=a++wy1 D ts s) λw _=>zzn w)
  by_cases hc:200<a.length+(wy1 D ts s).length
  ·rw[decide_eq_true hc]at dc;refine .inr ⟨hc,ext.trans ?_⟩;unfold zbf
   simp_arith[swa,dc]
  ·rw[decide_eq_false hc]at dc;refine .inl ⟨by omega,ext.trans ?_⟩
   unfold zbf
   simp_arith[swa,dc]
 have two:∀(i k:Nat) (l:List Dr),i<D.length->D.getD i []=l->k<l.length->∀(a:List (List (Nat×Nat)×List Str)) (y:Option T),a.length<=200 ->
   (a.length+(wy2 D ts i k).length<=200/\∃z,zb5 (sW Ms ts D a (some (.int (i:Int))) (some (.lst (l.map zau))) (some (.int (k:Int))) y)=some (.nx (sW Ms ts D (a++wy2 D ts i k) (some (.int (i:Int))) (some (.lst (l.map zau))) (some (.int (k:Int))) z)))\/(200<a.length+(wy2 D ts i k).length/\∃τ,zb5 (sW Ms ts D a (some (.int (i:Int))) (some (.lst (l.map zau))) (some (.int (k:Int))) y)=some (.xc "TooMany" τ)):=λi k l hi hl hk a y ha=>by
  have so':=so_ok hD hi (k:=k) (by rw[hl];exact hk)
  have ss:zal ((gos D i k).map shO)=(gos D i k).map shT:=by
   rw[zap,yax];refine ybn λs _=>?_
   show T.nd false .lst (zal (s.map pqT))=_;rw[zb3]
  have fc:=zp4 (b:=bNm 7) (body:=zb4) shT (λ(a:List (List (Nat×Nat)×List Str)) τ=>∃z,τ=(sW Ms ts D a (some (.int (i:Int))) (some (.lst (l.map zau))) (some (.int (k:Int))) z)) (wy1 D ts) 200 "TooMany" (gos D i k) a (sW Ms ts D a (some (.int (i:Int))) (some (.lst (l.map zau))) (some (.int (k:Int))) y) ⟨y,rfl⟩ ha λs hs a τ hS ha=>by
   obtain⟨z,rfl⟩:=hS;obtain⟨g1,g2,_⟩:=zqz hi (by rw[hl];exact hk) hs
   refine⟨(sW Ms ts D a (some (.int (i:Int))) (some (.lst (l.map zau))) (some (.int (k:Int))) (some (shT s))),by simp_arith[],?_⟩
   rcases one i k l s g1 g2 a ha with ⟨o1,o2⟩|⟨o1,o2⟩
   ·exact .inl ⟨o1,_,o2,_,rfl⟩
   ·exact .inr ⟨o1,_,o2⟩
  have e4:zb5 (sW Ms ts D a (some (.int (i:Int))) (some (.lst (l.map zau))) (some (.int (k:Int))) y)=zc2 (bNm 7) zb4 ((gos D i k).map shT) (sW Ms ts D a (some (.int (i:Int))) (some (.lst (l.map zau))) (some (.int (k:Int))) y):=by
   unfold zb5
   simp_arith[d1,d2,so',ss]
  rw[e4]
  rcases fc with ⟨o1,τ,o2,z,rfl⟩|⟨o1,τ,o2⟩
  ·exact .inl ⟨o1,z,o2⟩
  ·exact .inr ⟨o1,τ,o2⟩
 have fc:=zp4 (b:=zg1 2 (zak (bNm 4) (zak (bNm 5) zg4))) (body:=zb6) (λ(j:Nat)=>T.tup [.int (j:Int),.lst ((D.getD j []).map zau)]) (λ(a:List (List (Nat×Nat)×List Str)) τ=>∃y4 y5 y6 y7,τ=(sW Ms ts D a y4 y5 y6 y7)) (wy3 D ts) 200 "TooMany" (List.range D.length) [] [some (.lst (Ms.map mcT)),some (.lst (ts.map tkT)),some (dlT D),some (.own []),none,none,none,none] ⟨none,none,none,none,rfl⟩ (yb2 _) λi hi a τ hS ha=>by
  obtain⟨y4,y5,y6,y7,rfl⟩:=hS;have hi:=yb6.mp hi;obtain⟨l,hl,el,_⟩:=zBy hi;have sl:=hD.sl hl;have lk:=hD.k l hl;refine⟨(sW Ms ts D a (some (.int (i:Int))) (some (.lst (l.map zau))) y6 y7),by rw[el];simp_arith[],?_⟩
  have fc:=zp4 (b:=bNm 6) (body:=zb5) (λ(k:Nat)=>T.int (k:Int)) (λ(a:List (List (Nat×Nat)×List Str)) τ=>∃y6 y7,τ=(sW Ms ts D a (some (.int (i:Int))) (some (.lst (l.map zau))) y6 y7)) (wy2 D ts i) 200 "TooMany" (List.range l.length) a (sW Ms ts D a (some (.int (i:Int))) (some (.lst (l.map zau))) y6 y7) ⟨y6,y7,rfl⟩ ha λk hk a τ hS ha=>by
   obtain⟨y6,y7,rfl⟩:=hS;refine⟨(sW Ms ts D a (some (.int (i:Int))) (some (.lst (l.map zau))) (some (.int (k:Int))) y7),by simp_arith[],?_⟩
   rcases two i k l hi el (yb6.mp hk) a y7 ha with ⟨o1,z,o2⟩|⟨o1,τ,o2⟩
   ·exact .inl ⟨o1,_,o2,_,_,rfl⟩
   ·exact .inr ⟨o1,τ,o2⟩
  have ok:zmj (l.length:Int)=true:=zch (by omega)
  have er:zcq 0 l.length=(List.range l.length).map λ(k:Nat)=>T.int (k:Int):=zb8
  have e3:zb6 (sW Ms ts D a (some (.int (i:Int))) (some (.lst (l.map zau))) y6 y7)=zc2 (bNm 6) zb5 ((List.range l.length).map λ(k:Nat)=>T.int (k:Int)) (sW Ms ts D a (some (.int (i:Int))) (some (.lst (l.map zau))) y6 y7):=by
   unfold zb6
   simp_arith[sl,za0 _ sl,ya1,ok,er]
  rw[e3,show wy3 D ts i=(List.range l.length).flatMap (wy2 D ts i) by unfold wy3;rw[el]]
  rcases fc with ⟨o1,τ,o2,z6,z7,rfl⟩|⟨o1,τ,o2⟩
  ·exact .inl ⟨o1,_,o2,_,_,_,_,rfl⟩
  ·exact .inr ⟨o1,τ,o2⟩
 have en:zgr 0 (D.map λl=>T.lst (l.map zau))=(List.range D.length).map λ(j:Nat)=>T.tup [.int (j:Int),.lst ((D.getD j []).map zau)]:=zp5 (λl:List Dr=>T.lst (l.map zau)) [] D
 have lM:Ms.length<=100000:=by have:=h.l6;omega
 have key:zee [some (.lst (Ms.map mcT)),some (.lst (ts.map tkT)),none,none,none,none,none,none]=zai (λ_=>zc2 (zg1 2 (zak (bNm 4) (zak (bNm 5) zg4))) zb6 ((List.range D.length).map λ(j:Nat)=>T.tup [.int (j:Int),.lst ((D.getD j []).map zau)]) [some (.lst (Ms.map mcT)),some (.lst (ts.map tkT)),some (dlT D),some (.own []),none,none,none,none]) (zc1 (za5 3)) []:=by
  unfold zee;refine sq (τ':=[some (.lst (Ms.map mcT)),some (.lst (ts.map tkT)),some (dlT D),none,none,none,none,none]) (by simp_arith[sm,za0 _ sm,ya1,lM,lc1,so]) ?_
  refine sq (τ':=[some (.lst (Ms.map mcT)),some (.lst (ts.map tkT)),some (dlT D),some (.own []),none,none,none,none]) (by simp_arith[]) ?_
  unfold zai
  have:zgf (zdz (za4 (za5 2) zac)) (zg1 2 (zak (bNm 4) (zak (bNm 5) zg4))) zb6 [some (.lst (Ms.map mcT)),some (.lst (ts.map tkT)),some (dlT D),some (.own []),none,none,none,none]=zc2 (zg1 2 (zak (bNm 4) (zak (bNm 5) zg4))) zb6 ((List.range D.length).map λ(j:Nat)=>T.tup [.int (j:Int),.lst ((D.getD j []).map zau)]) [some (.lst (Ms.map mcT)),some (.lst (ts.map tkT)),some (dlT D),some (.own []),none,none,none,none]:=by
   unfold dlT
   simp_arith[zdz,sD,za0 _ sD,en]
  rw[this]
 rw[yaw,ydb]at fc
 rcases fc with ⟨o1,τ,o2,y4,y5,y6,y7,rfl⟩|⟨o1,τ,o2⟩
 ·refine .inl ⟨o1,?_⟩;rw[yba]at o2;unfold zbt
  simp_arith[key,o2]
  rfl
 ·refine .inr ⟨o1,?_⟩;unfold zbt
  simp_arith[key,o2]
abbrev ziy:Stmt:=top 32
theorem zs2:FnScope ["machines","takings","rooms","doors"] ["machines"] (za2 ziy):=scM (by decide +kernel)
def zgt:PSt->Option Rs :=
 (zol (za4 (zan zbu (za4 (za5 0) zac)) (za4 (zan zej (za4 (za5 1) (za4 (za5 0) zac))) zac)))
def zgs:PSt->Option Rs :=
 (zan zek (za4 (za5 2) (za4 (za5 0) (za4 (za5 1) zac))))
def zh9:PSt->Option Out :=
 (zai (zco (zan zbc (za4 (za5 0) zac)) (bNm 1))
 (zai (zco (mLC 1 [0] (ze9 (za5 1)) (bNm 0) (mC (.bl true)) zgt) (bNm 2))
 (zai (zco (mLC 2 [0] (ze9 (zan zbt (za4 (za5 0) (za4 (za5 1) zac)))) (zg1 2 (zak (bNm 0) (zak (bNm 1) zg4))) (mC (.bl true)) zgs) (bNm 3))
 (zc1 (zB6 zay [] (za4 (zan zbz (za4 (za5 0) zac)) (za4 (za5 2) (za4 (za5 3) zac))))))))
def zby:List T->Option Ru:=zda 1 4 zh9
abbrev zhz:Fn:=⟨8,["machines"],zby⟩
abbrev zsv:Gx:=⟨[],[],[],[("Machine",zgq,[(3,[])])],false,true,true,none,[],[],[],true,[],[],[],[]⟩
abbrev zsx:Gm:=⟨["machines","takings","rooms","doors"],(za2 ziy).names,["machines"],7,[("checked_takings",zcm),("whole_name",zdg),("whole_stay",zil),("whole_ways",zfr),("whole_door",zim),("all_watches",zev)],[],[],[],[],false,[],[],[],zsv⟩
theorem zt9:dSs 200 zsx (zab ziy)=some zh9:=by kernel_rfl
theorem zCl:∀(rss ts:List (List Str)) (u v:List Str),u∈ts->v.length=rss.length->(∀(i:Nat) (r:Str),v[i]?=some r->∃rs,rss[i]?=some rs/\r∈rs)->u++v∈rss.foldl zi3 ts
 |[],ts,u,[],hu,_,_=>by rw[yap];exact hu
 |[],_,_,_::_,_,h,_=>by cases h
 |_::_,_,_,[],_,h,_=>by cases h
 |rs::rss,ts,u,r::v,hu,hl,hv=>by
  obtain⟨rs',e,hr⟩:=hv 0 r rfl;cases e;have:=zCl rss (zi3 ts rs) (u++[r]) v (yb4.mpr ⟨u,hu,yag.mpr ⟨r,hr,rfl⟩⟩) (by simpa using hl) λi x e=>by simpa using hv (i+1) x (by simpa using e)
  rw[ybi]at this;exact this
theorem zIe{rss:List (List Str)}{t:List Str}(hl:t.length=rss.length)(h:∀(i:Nat) (r:Str),t[i]?=some r->∃rs,rss[i]?=some rs/\r∈rs):t∈tak rss:=zCl rss [[]] [] t (ya9.mpr rfl) hl h
theorem zw2:∀(rss ts:List (List Str)),ts≠[]->(∀rs∈rss,rs≠[])->rss.foldl zi3 ts≠[]
 |[],_,h,_=>h
 |rs::rss,ts,h,hr=>by
  refine zw2 rss (zi3 ts rs) (λz=>?_) λx hx=>hr x (ya6 _ hx)
  obtain⟨t,ht⟩:=List.exists_mem_of_ne_nil ts h;obtain⟨r,hr'⟩:=List.exists_mem_of_ne_nil rs (hr rs (ya8 ..));have:t++[r]∈zi3 ts rs:=yb4.mpr ⟨t,ht,yag.mpr ⟨r,hr',rfl⟩⟩;rw[z]at this;cases this
def whl(Ms:List Mc):Mc:=⟨Ms.flatMap Mc.ws,(tks Ms).map λt=>(jnS t,wst Ms t),(wys (dss Ms) (tks Ms)).map (wdr (dss Ms))⟩
structure FwOk(Ms:List Mc):Prop where
 y:∀M∈Ms,∀r∈M.rs,r.2.length<=100
 g:∀M∈Ms,∀d∈M.ds,d.g.length<=100
 n:∀M∈Ms,∀d∈M.ds,d.n.length<=40
theorem zEh{M:Mc}(hy:∀r∈M.rs,r.2.length<=100)(r:Str):(sty M r).length<=100:=by
 unfold sty;cases hf:M.rs.find? (λx=>decide (x.1=r)) with
 |none=>exact yb2 _
 |some x=>exact hy x (List.mem_of_find?_eq_some hf)
theorem zI3{Ms:List Mc}(hd:(Ms.flatMap Mc.ws).Nodup){i j:Nat}{M N:Mc}(h1:Ms[i]?=some M)(h2:Ms[j]?=some N)(hij:i≠j){x y:Str}(hx:x∈M.ws)(hy:y∈N.ws):x≠y:=by
 have:=(List.pairwise_flatMap.mp hd).2;obtain⟨i1,rfl⟩:=ya5.mp h1;obtain⟨j1,rfl⟩:=ya5.mp h2
 rcases Nat.lt_or_gt_of_ne hij with h|h
 ·exact List.pairwise_iff_getElem.mp this i j i1 j1 h x hx y hy
 ·exact λz=>List.pairwise_iff_getElem.mp this j i j1 i1 h y hy x hx z.symm
theorem zCh{Ms:List Mc}(h:MsOk Ms)(hr:RmOk Ms)(hf:FwOk Ms)(hw:(wys (dss Ms) (tks Ms)).length<=200):McOk (whl Ms):=by
 have hin:∀M∈Ms,∀x∈M.ws,x∈Ms.flatMap Mc.ws:=λM hM x hx=>yb4.mpr ⟨M,hM,hx⟩
 have en:(whl Ms).rs.map (·.1)=(tks Ms).map jnS:=by unfold whl;rw[yax];rfl
 refine⟨λx hx=>?_,h.wd,h.wl,⟨?_,?_,λr hr'=>?_,by rw[en];exact hr.d,λr hr'=>?_⟩,λd hd=>?_,by unfold whl;rw[ya1];exact hw⟩
 ·obtain⟨M,hM,hx⟩:=yb4.mp hx;exact(h.m M hM).w x hx
 ·show 1<=((tks Ms).map _).length;rw[ya1];refine ycs.mpr (zw2 _ _ (by simp) λrs hrs=>?_)
  obtain⟨M,hM,rfl⟩:=yag.mp hrs;have:=(h.m M hM).r.l1;exact λz=>by unfold Mc.nm at z;rw[List.map_eq_nil_iff]at z;rw[z]at this;exact absurd this (by decide)
 ·show((tks Ms).map _).length<=64;rw[ya1];have:=hr.k Ms.length (yaa _)
  rwa[ybp]at this
 ·obtain⟨t,ht,rfl⟩:=yag.mp hr';exact hr.n t ht
 ·obtain⟨t,ht,rfl⟩:=yag.mp hr';have key:=λ(x:Mc×Str) hx=>(zvv h hr ht (x:=x) hx)
  refine⟨λu hu=>?_,?_⟩
  ·obtain⟨x,hx,hu⟩:=yb4.mp hu;obtain⟨k1,k2⟩:=key x hx;exact(ztr (h.m _ k1) k2).2.2.2.more (hin _ k1) u hu
  ·have:=zbm (g:=λx:Mc×Str=>sty x.1 x.2) (m:=100) (L:=Ms.zip t) λx hx=>zEh (hf.y _ (key x hx).1) _
   have zl:(Ms.zip t).length<=6:=by rw[List.length_zip];have:=h.l6;omega
   show((Ms.zip t).flatMap λx=>sty x.1 x.2).length<=1000
   omega
 ·obtain⟨w,hwm,rfl⟩:=yag.mp hd;obtain⟨ht,i,k,hi,hk,hs,_⟩:=zry hwm;obtain⟨g1,g2,g3⟩:=zqz hi hk hs;obtain⟨t1,t2,t3,t4⟩:=hr.t h ht;have at':=λp hp=>zus h.m g1 (p:=p) hp
  rw[en];refine⟨yag.mpr ⟨_,ht,rfl⟩,yag.mpr ⟨_,zIe ?_ λi r e=>?_,rfl⟩,λu hu=>?_,?_,λx hx=>?_,?_,?_,.inl rfl⟩
  ·rw[zp7,t1,ya1]
  ·rcases zp6 _ _ _ i r e with e|⟨p,hp,rfl,rfl⟩
   ·obtain⟨M,e1,e2⟩:=t4 i r e;exact⟨M.nm,by rw[ya3,e1];rfl,e2⟩
   ·obtain⟨M,hM,e1,_,kk⟩:=at' p hp;exact⟨M.nm,by rw[ya3,e1];rfl,kk.e⟩
  ·obtain⟨p,hp,hu⟩:=yb4.mp hu;obtain⟨M,hM,_,_,kk⟩:=at' p hp;exact kk.g.more (hin M hM) u hu
  ·have:=zbm (g:=λp:Nat×Nat=>(dAt (dss Ms) p.1 p.2).g) (m:=100) (L:=w.1) λp hp=>by
    obtain⟨M,hM,_,e2,_⟩:=at' p hp;exact hf.g M hM _ (yat e2)
   show(gdS (dss Ms) w.1).length<=1000;unfold gdS
   omega
  ·obtain⟨p,hp,hx⟩:=yb4.mp hx;obtain⟨M,hM,_,_,kk⟩:=at' p hp;exact hin M hM x (kk.n x hx)
  ·show(ntS (dss Ms) w.1).Nodup;unfold ntS
   rcases g3 with e|⟨j,m,hj,e⟩
   ·rw[e]at at' ⊢;obtain⟨M,hM,_,_,kk⟩:=at' (i,k) (ya9.mpr rfl)
    simpa using kk.nd
   ·rw[e]at at' ⊢;obtain⟨M,hM,e1,_,kk⟩:=at' (i,k) (ya8 ..);obtain⟨N,hN,e2,_,kk2⟩:=at' (j,m) (ya6 _ (ya9.mpr rfl));rw[ybc,ybc,ybl,yap];exact List.nodup_append.mpr ⟨kk.nd,kk2.nd,λx hx y hy=>zI3 h.wd e1 e2 (yay hj) (kk.n x hx) (kk2.n y hy)⟩
  ·have:=zbm (g:=λp:Nat×Nat=>(dAt (dss Ms) p.1 p.2).n) (m:=40) (L:=w.1) λp hp=>by
    obtain⟨M,hM,_,e2,_⟩:=at' p hp;exact hf.n M hM _ (yat e2)
   show(ntS (dss Ms) w.1).length<=100;unfold ntS
   omega
theorem zCj{Ms:List Mc}(h:MsOk Ms)(hr:RmOk Ms)(hf:FwOk Ms):((wys (dss Ms) (tks Ms)).length<=200/\zby [.lst (Ms.map mcT)]=some (.ok (mcT (whl Ms))))\/(200<(wys (dss Ms) (tks Ms)).length/\zby [.lst (Ms.map mcT)]=some (.exc "TooMany")):=by
 have sm:=zfx h.m;have ct:=zM7 h hr;have st:=zg7 (tks Ms);have l64:(tks Ms).length<=64:=by have:=hr.k Ms.length (yaa _);rwa[ybp]at this
 have ll:(tks Ms).length<=100000:=by omega
 have ss:∀t∈tks Ms,shL (wst Ms t)=true:=λt ht=>by
  rw[zbj,yau];intro u hu;obtain⟨x,hx,hu⟩:=yb4.mp hu;obtain⟨k1,k2⟩:=zvv h hr ht hx;have:=(ztr (h.m _ k1) k2).2.1;rw[zbj,yau]at this;exact this u hu
 have lc1:zg5 (bNm 0) (mC (.bl true)) zgt ((tks Ms).map tkT) [none,some (.lst (Ms.map mcT))]=some ((tks Ms).map λt=>zkj (jnS t,wst Ms t)):=zbq tkT (λt=>zkj (jnS t,wst Ms t)) (λτ=>∃a,τ=[a,some (.lst (Ms.map mcT))]) _ _ ⟨none,rfl⟩ λt ht τ hI=>by
  obtain⟨a,rfl⟩:=hI;obtain⟨_,k1,k2,_⟩:=hr.t h ht;have w1:=ztj (o:=false) k1 k2;have w2:=zI2 h hr ht;exact⟨[some (tkT t),some (.lst (Ms.map mcT))],by simp_arith[],by unfold zgt;simp_arith[sm,za0 _ sm,za7,za3,w1,w2,za0 _ (ss t ht)],_,rfl⟩
 have er:(tks Ms).map (λt=>zkj (jnS t,wst Ms t))=(whl Ms).rs.map zkj:=by unfold whl;rw[yax];rfl
 rw[er]at lc1
 have sr:shL ((whl Ms).rs.map zkj)=true:=zc0 λr hr'=>by
  obtain⟨t,ht,rfl⟩:=yag.mp hr'
  simp_arith[ss t ht]
 rcases zI1 h hr with ⟨w1,w2⟩|⟨w1,w2⟩
 ·have ok:=zCh h hr hf w1;have mi:zay [.lst ((whl Ms).ws.map T.str),zv6 (whl Ms).rs,.lst ((whl Ms).ds.map zau)]=some (.ok (mcT (whl Ms))):=zxd ok;have aw:zbz [.lst (Ms.map mcT)]=some (.ok (.own ((whl Ms).ws.map T.str))):=zMe h.m (by have:=h.wl;omega)
  have sw:=zc0 (f:=wyT) (L:=wys (dss Ms) (tks Ms)) λw _=>zzn w
  have lc2:zg5 (zg1 2 (zak (bNm 0) (zak (bNm 1) zg4))) (mC (.bl true)) zgs ((wys (dss Ms) (tks Ms)).map wyT) [none,none,some (.lst (Ms.map mcT))]=some ((whl Ms).ds.map zau):=by
   have e0:(whl Ms).ds.map zau=(wys (dss Ms) (tks Ms)).map λw=>zau (wdr (dss Ms) w):=by unfold whl;rw[yax];rfl
   rw[e0]
   exact zbq wyT (λw=>zau (wdr (dss Ms) w)) (λτ=>∃a b,τ=[a,b,some (.lst (Ms.map mcT))]) _ _ ⟨none,none,rfl⟩ λw hw τ hI=>by
    obtain⟨a,b,rfl⟩:=hI;obtain⟨ht,i,k,hi,hk,hs,_⟩:=zry hw;obtain⟨g1,g2,_⟩:=zqz hi hk hs;have wd:=wd_ok h hr ht g1 g2;exact⟨[some (shT w.1),some (tkT w.2),some (.lst (Ms.map mcT))],by simp_arith[],by unfold zgs;simp_arith[sm,za0 _ sm,za7,za3,zcr,zb3,wd],_,_,rfl⟩
  have l2:(wys (dss Ms) (tks Ms)).length<=100000:=by omega
  have sd:=ok.sd;refine .inl ⟨w1,?_⟩;unfold zby zh9
  simp_arith[sm,za0 _ sm,ct,st,za0 _ st,ya1,ll,lc1,sr,za0 _ sr,w2,sw,za0 _ sw,l2,lc2,sd,za0 _ sd,aw,za3,za7,mi]
 ·refine .inr ⟨w1,?_⟩;unfold zby zh9
  simp_arith[sm,za0 _ sm,ct,st,za0 _ st,ya1,ll,lc1,sr,za0 _ sr,w2]
abbrev zo3:Stmt:=top 33
theorem zwd:FnScope ["machines","takings"] ["machines"] (za2 zo3):=scM (by decide +kernel)
def zjk:PSt->Option Rs :=
 (m1 zcp (za5 0))
def zkl:PSt->Option Out :=
 (zai (zco (zan zbc (za4 (za5 0) zac)) (bNm 1))
 (zc1 (mLC 2 [] (ze9 (zan zbt (za4 (za5 0) (za4 (za5 1) zac)))) (zg1 2 (zak (bNm 0) (zak (bNm 1) zg4))) (mC (.bl true)) zjk)))
def zd7:List T->Option Ru:=zda 1 2 zkl
abbrev zlt:Fn:=⟨5,["machines"],zd7⟩
abbrev zy0:Gm:=⟨["machines","takings"],(za2 zo3).names,[],4,[("checked_takings",zcm),("whole_ways",zfr)],["list"],[],[],[],false,[],[],[],gxD⟩
theorem zyp:dSs 200 zy0 (zab zo3)=some zkl:=by kernel_rfl
theorem zCs{Ms:List Mc}(h:MsOk Ms)(hr:RmOk Ms):((wys (dss Ms) (tks Ms)).length<=200/\zd7 [.lst (Ms.map mcT)]=some (.ok (.own ((wys (dss Ms) (tks Ms)).map λw=>shO w.1))))\/(200<(wys (dss Ms) (tks Ms)).length/\zd7 [.lst (Ms.map mcT)]=some (.exc "TooMany")):=by
 have sm:=zfx h.m;have ct:=zM7 h hr;have st:=zg7 (tks Ms)
 rcases zI1 h hr with ⟨w1,w2⟩|⟨w1,w2⟩
 ·have sw:=zc0 (f:=wyT) (L:=wys (dss Ms) (tks Ms)) λw _=>zzn w
  have l2:(wys (dss Ms) (tks Ms)).length<=100000:=by omega
  have lc:zg5 (zg1 2 (zak (bNm 0) (zak (bNm 1) zg4))) (mC (.bl true)) zjk ((wys (dss Ms) (tks Ms)).map wyT) [none,none]=some ((wys (dss Ms) (tks Ms)).map λw=>shO w.1):=zbq wyT (λw=>shO w.1) (λτ=>∃a b,τ=[a,b]) _ _ ⟨none,none,rfl⟩ λw hw τ hI=>by
   obtain⟨a,b,rfl⟩:=hI;exact⟨[some (shT w.1),some (tkT w.2)],by simp_arith[],by unfold zjk;simp_arith[zcr,zb3],_,_,rfl⟩
  refine .inl ⟨w1,?_⟩;unfold zd7 zkl
  simp_arith[sm,za0 _ sm,ct,st,za0 _ st,ya1,w2,sw,za0 _ sw,l2,lc]
 ·refine .inr ⟨w1,?_⟩;unfold zd7 zkl
  simp_arith[sm,za0 _ sm,ct,st,za0 _ st,w2]
abbrev zo7:Stmt:=top 49
theorem zwg:FnScope ["_law_number","_law_watches","_law_unit","_law_looks","_law_k","_law_one","_law_word"] ["_law_number","_law_watches","_law_unit"] (za2 zo7):=scM (by decide +kernel)
def zh2:PSt->Option Out :=
 (sIf (m2 neT (za5 1) (zea zac)) (zai (zco (m2 zh8 (m2 zfs (za5 0) (m2 zf0 (mC (.int 3)) (m2 znc (mC (.int 4)) (za5 4)))) (mC (.int 1000003))) (bNm 5))
 (zai (zco (mIx (zea (zao (mC (.str "<")) (zao (mC (.str "<=")) (zao (mC (.str ">")) (zao (mC (.str ">=")) (zao (mC (.str "=")) zac)))))) (m2 zh8 (m2 zfs (za5 5) (mC (.int 7))) (mC (.int 5)))) (bNm 6))
 (ztv 3 (zol (za4 (mIx (za5 1) (m2 zh8 (za5 5) (m1 zhe (za5 1)))) (za4 (za5 6) (za4 (m2 zf0 (m2 znc (m2 zh8 (m2 zfs (za5 5) (mC (.int 35))) (mC (.int 4))) (za5 2)) (m2 zh8 (m2 zfs (za5 5) (mC (.int 140))) (mC (.int 3)))) zac))))))) sNx)
def zoj:PSt->Option Out :=
 (zai (zki 3 (zea zac))
 (zai (zgf (zba (za4 (m2 zh8 (za5 0) (mC (.int 3))) zac)) (bNm 4) zh2)
 (zc1 (za5 3))))
def zkr:List T->Option Ru:=zda 3 7 zoj
abbrev zr6:Fn:=⟨1,["_law_number","_law_watches","_law_unit"],zkr⟩
abbrev zy3:Gm:=⟨["_law_number","_law_watches","_law_unit","_law_looks","_law_k","_law_one","_law_word"],(za2 zo7).names,[],0,[],["range","len"],[],["_law_looks"],[],false,[],[],[],gxD⟩
theorem zys:dSs 200 zy3 (zab zo7)=some zoj:=by kernel_rfl
theorem zlc{α:Type}(l:List α)(hl:l≠[])(i:Int):∃x∈l,atI l (i.fmod (l.length:Int))=some x:=by
 have hp:0<l.length:=ycs.mpr hl;have h0:=ybd i (show(0:Int)<(l.length:Int) by omega)
 have h1:=yby i (show(0:Int)<(l.length:Int) by omega)
 have h2:(i.fmod (l.length:Int)).toNat<l.length:=by omega
 exact⟨l[(i.fmod (l.length:Int)).toNat],yam h2,zzd h0 (ya0 h2)⟩
theorem zma{α:Type}(f:α->T){l:List α}{i:Int}{x:α}(h:atI l i=some x):atI (l.map f) i=some (f x):=by
 unfold atI at h ⊢;rw[ya1];cases hi:ixN l.length i with
 |none=>rw[hi]at h;cases h
 |some j =>
  rw[hi]at h;have h':l[j]?=some x:=h;show(l.map f)[j]?=some (f x);rw[ya3,h']
  rfl
theorem zDk{α:Type}{l:List α}(h:l≠[]):((l.length:Nat):Int)≠0:=λz=>h (List.length_eq_zero_iff.mp (Int.ofNat.inj z))
theorem zCy{a b:Int}(h1:0<=a)(h2:a<=100)(h3:0<=b)(h4:b<=100):s70 (a+b)=true:=zec (Int.lt_of_lt_of_le (show(-(10 ^ 70):Int)<0 by decide +kernel) (Int.add_nonneg h1 h3)) (Int.lt_of_le_of_lt (Int.add_le_add h2 h4) (by decide +kernel))
theorem zum{l:List Str}(h:Txs l):Fit (.lst (l.map T.str)) 1:=Fit.nd λt ht=>by
 obtain⟨x,hx,rfl⟩:=yag.mp ht;exact Fit.str (h x hx) 0
theorem zKy{l:List Str}(h:Txs l):neT (.lst (l.map T.str)) (.lst [])=some (.bl (!decide (l=[]))):=by
 cases l with
 |nil=>rfl
 |cons a r =>
  rw[(zyd (zum h) (Fit.nd (o:=false) (k:=.lst) (l:=[]) (n:=0) λ_ z=>by cases z) (by decide)).2,decide_eq_false (ydy a r)]
  have e:¬ ((T.lst ((a::r).map T.str)).data=(T.lst []).data):=λz=>by
   have z':PyData.list (zbs ((a::r).map T.str))=PyData.list (zbs []):=z;injection z' with z'
   cases z'
  rw[@decide_eq_false _ (Classical.propDecidable _) e]
theorem zBl{ws:List Str}(tw:Txs ws)(x u:Int)(hu:0<=u):∃g:List T,Lks ws wdS g/\g.length<=2/\zkr [.int x,.lst (ws.map T.str),.int u]=some (.ok (.own g)):=by
 have hne:=zKy tw;obtain⟨q,hq⟩:=ybr (ybd x (show(0:Int)<3 by decide))
 have hq3:=yby x (show(0:Int)<3 by decide)
 rw[hq]at hq3
 obtain⟨τ,e,g,hl,hg,y4,y5,y6,rfl⟩:=zbr (b:=bNm 4) (body:=zh2) (ts:=mT q λi=>.int (i:Int)) (τ:=[some (.int x),some (.lst (ws.map T.str)),some (.int u),some (.own []),none,none,none])
  (λi τ=>∃g:List T,g.length<=i/\Lks ws wdS g/\∃y4 y5 y6,τ=[some (.int x),some (.lst (ws.map T.str)),some (.int u),some (.own g),y4,y5,y6]) ⟨[],yaa 0,λ_ z=>(by cases z),none,none,none,rfl⟩ λi t τ h1 h2=>by
   obtain⟨hi,rfl⟩:=zcz h1;obtain⟨g,hl,hg,y4,y5,y6,rfl⟩:=h2
   by_cases h0:ws=[]
   ·refine⟨[some (.int x),some (.lst (ws.map T.str)),some (.int u),some (.own g),some (.int (i:Int)),y5,y6],(by simp_arith[]),[some (.int x),some (.lst (ws.map T.str)),some (.int u),some (.own g),some (.int (i:Int)),y5,y6],?_,g,Nat.le_succ_of_le hl,hg,_,_,_,rfl⟩
    rw[decide_eq_true h0]at hne;unfold zh2
    simp_arith[za3,za7,hne]
   ·rw[decide_eq_false h0]at hne;have m4:zhd 4 (i:Int)=true:=zfh (zfv (by decide) (by decide))
    have n0:(3+4 * (i:Int)=0)=False:=eq_false (by omega)
    have s0:s70 (3+4 * (i:Int))=true:=zCy (by decide) (by decide) (by lia) (by lia)
    have b0:=ybd (x.fdiv (3+4 * (i:Int))) (show(0:Int)<1000003 by decide)
    obtain⟨b,hb⟩:∃b,(x.fdiv (3+4 * (i:Int))).fmod 1000003=b:=⟨_,rfl⟩;rw[hb]at b0;obtain⟨w,hw,ew⟩:=zlc ws h0 b;obtain⟨o,ho,eo⟩:=zlc wdS (by decide) (b.fdiv 7)
    have ew':=zma T.str ew;have eo':atI [T.str "<",T.str "<=",T.str ">",T.str ">=",T.str "="] ((b.fdiv 7).fmod 5)=some (.str o):=zma T.str eo;have l0:=zDk h0;have s7:s70 7=true:=zec (by decide) (by decide)
    have s35:s70 35=true:=zec (by decide) (by decide)
    have s140:s70 140=true:=zec (by decide) (by decide)
    have r0:=ybd (b.fdiv 35) (show(0:Int)<4 by decide)
    have r1:=yby (b.fdiv 35) (show(0:Int)<4 by decide)
    have r2:=ybd (b.fdiv 140) (show(0:Int)<3 by decide)
    have m5:zhd ((b.fdiv 35).fmod 4) u=true:=zfh (zfv (by omega) (by omega))
    have nn:0<=(b.fdiv 35).fmod 4 * u+(b.fdiv 140).fmod 3:=Int.add_nonneg (Int.mul_nonneg r0 hu) r2;have ll:g.length<100000:=by omega
    refine⟨[some (.int x),some (.lst (ws.map T.str)),some (.int u),some (.own g),some (.int (i:Int)),y5,y6],(by simp_arith[]),[some (.int x),some (.lst (ws.map T.str)),some (.int u),some (.own (g++[.tup [.str w,.str o,.int ((b.fdiv 35).fmod 4 * u+(b.fdiv 140).fmod 3)]])),some (.int (i:Int)),some (.int b),some (.str o)],?_,_,(by rw[yab,ybf];exact ydt hl),λt ht=>?_,_,_,_,rfl⟩
    ·unfold zh2
     simp_arith[za3,za7,hne,m4,n0,s0,hb,ya1,l0,s7,s35,s140,ew',eo',m5,ll]
    ·rcases ybe.mp ht with ht|ht
     ·exact hg t ht
     ·rw[ya9.mp ht];exact⟨w,o,_,rfl,hw,ho,nn⟩
 rw[zcj]at hl;have ok:zmj (q:Int)=true:=zch (by omega)
 have er:zcq 0 q=mT q λi=>.int (i:Int):=zb8
 refine⟨g,hg,by omega,?_⟩
 unfold zkr zoj
 simp_arith[hq,ok,er,e,za3,za7]
abbrev zsb:Stmt:=top 50
theorem zA5:FnScope ["_law_number","_law_k","_law_rooms","_law_watches","_law_names_here","_law_unit","_law_xs","_law_sign","_law_noughts"] ["_law_number","_law_k","_law_rooms","_law_watches","_law_names_here","_law_unit"] (za2 zsb):=scM (by decide +kernel)
def zlp:PSt->Option Rs :=
 (m2 eqT (m2 zh8 (m2 zfs (mIx (za5 2) (mC (.int 1))) (m2 zf0 (mC (.int 2)) (za5 0))) (mC (.int 2))) (mC (.int 1)))
def zm9:PSt->Option Rs :=
 (mIx (za5 1) (za5 0))
def zok:PSt->Option Out :=
 (zai (zco (zan zhc (za4 (za5 0) (za4 (za5 1) (za4 (mC (.int 6)) zac)))) (bNm 6))
 (zai (zco (mIx (zea (zao (mC (.str "")) (zao (m2 zf0 (mIx (za5 4) (m2 zh8 (m2 zfs (mIx (za5 6) (mC (.int 0))) (mC (.int 6))) (mC (.int 2)))) (mC (.str "!"))) (zao (m2 zf0 (mIx (za5 4) (m2 zh8 (m2 zfs (mIx (za5 6) (mC (.int 0))) (mC (.int 6))) (mC (.int 2)))) (mC (.str "?"))) zac)))) (m2 zh8 (mIx (za5 6) (mC (.int 0))) (mC (.int 3)))) (bNm 7))
 (zai (zco (mLC 1 [3,6] (zba (za4 (m1 zhe (za5 3)) zac)) (bNm 0) zlp zm9) (bNm 8))
 (zai (sIf (m2 eqT (m2 zh8 (mIx (za5 6) (mC (.int 2))) (mC (.int 2))) (mC (.int 1))) (zco (mRv (za5 8) (m1 zsl (mC (.int 1)))) (bNm 8)) sNx)
 (zc1 (zol (za4 (mIx (za5 2) (m2 zh8 (mIx (za5 6) (mC (.int 3))) (m1 zhe (za5 2)))) (za4 (mIx (za5 2) (m2 zh8 (mIx (za5 6) (mC (.int 4))) (m1 zhe (za5 2)))) (za4 (zan zkr (za4 (mIx (za5 6) (mC (.int 5))) (za4 (za5 3) (za4 (za5 5) zac)))) (za4 (za5 8) (za4 (za5 7) zac)))))))))))
def zmb:List T->Option Ru:=zda 6 9 zok
abbrev zul:Fn:=⟨3,["_law_number","_law_k","_law_rooms","_law_watches","_law_names_here","_law_unit"],zmb⟩
abbrev zBs:Gm:=⟨["_law_number","_law_k","_law_rooms","_law_watches","_law_names_here","_law_unit","_law_xs","_law_sign","_law_noughts"],(za2 zsb).names,["_law_watches","_law_xs"],2,[("_law_draws",zr8),("_law_guard",zr6)],["range","len"],[],[],[],false,[],[],[],gxD⟩
theorem zC7:dSs 200 zBs (zab zsb)=some zok:=by kernel_rfl
abbrev dtT(d:Dr):T:=.tup [.str d.s,.str d.e,.lst d.g,.lst (d.n.map T.str),.str d.z]
theorem zAc(ws:List Str):(List.range ws.length).map (λj=>ws.getD j "")=ws:=by
 refine ycx λi=>?_
 rw[ya3]
 by_cases hi:i<ws.length
 ·rw[yc1 hi,ya0 hi,ybt,ya7,ya0 hi]
  rfl
 ·rw[yb7 (by simpa using hi),yb7 (by omega)]
  rfl
theorem zJ1{y z:Str}(h:Sml y)(h1:1<=y.cps.size)(h8:y.cps.size<=8)(hz:z=""\/z=y++"!"\/z=y++"?"):Sgn z:=by
 rcases hz with rfl|rfl|rfl
 ·exact .inl rfl
 ·exact .inr ⟨y,33,h,h1,h8,.inl rfl,by rw[Tx.cs_app,show Tx.cs (Str.ofString "!")=[33] by decide +kernel]⟩
 ·exact .inr ⟨y,63,h,h1,h8,.inr rfl,by rw[Tx.cs_app,show Tx.cs (Str.ofString "?")=[63] by decide +kernel]⟩
abbrev sD(c:Int)(k:Nat)(rs ws:List Str)(n1 n2:Str)(u:Int)(x6 x7 x8:Option T):PSt:=[some (.int c),some (.int (k:Int)),some (.lst (rs.map T.str)),some (.lst (ws.map T.str)),some (.lst [.str n1,.str n2]),some (.int u),x6,x7,x8]
theorem zH4{ws rs:List Str}(hw:∀x∈ws,Wnm x)(wd:ws.Nodup)(wl:ws.length<=7)(hr:rs≠[]){n1 n2:Str}(s1:Sml n1/\1<=n1.cps.size/\n1.cps.size<=8)(s2:Sml n2/\1<=n2.cps.size/\n2.cps.size<=8)(c:Int){k:Nat}(hk:k<=100){u:Int}(hu:0<=u) :
  ∃d:Dr,DrOk ws rs d/\d.g.length<=2/\d.n.length<=7/\zmb [.int c,.int (k:Int),.lst (rs.map T.str),.lst (ws.map T.str),.lst [.str n1,.str n2],.int u]=some (.ok (dtT d)):=by
 have tw:Txs ws:=λy hy=>zks (hw y hy)
 obtain⟨ys,ed⟩:=zBx c (k:=k) (m:=6) (by omega) (by omega) (by decide)
 have ed:zhc [.int c,.int (k:Int),.int 6]=some (.ok (.own (mT 6 λi=>.int (ys i)))):=ed
 have a0:atI (mT 6 λi=>T.int (ys i)) 0=some (.int (ys 0)):=znd (k:=0) (by decide)
 have a1:atI (mT 6 λi=>T.int (ys i)) 1=some (.int (ys 1)):=znd (k:=1) (by decide)
 have a2:atI (mT 6 λi=>T.int (ys i)) 2=some (.int (ys 2)):=znd (k:=2) (by decide)
 have a3:atI (mT 6 λi=>T.int (ys i)) 3=some (.int (ys 3)):=znd (k:=3) (by decide)
 have a4:atI (mT 6 λi=>T.int (ys i)) 4=some (.int (ys 4)):=znd (k:=4) (by decide)
 have a5:atI (mT 6 λi=>T.int (ys i)) 5=some (.int (ys 5)):=znd (k:=5) (by decide)
 obtain⟨y,hy,ey⟩:=zlc [n1,n2] (by simp) ((ys 0).fdiv 6)
 have ey':atI [T.str n1,T.str n2] (((ys 0).fdiv 6).fmod 2)=some (.str y):=zma T.str ey
 have sy:Sml y/\1<=y.cps.size/\y.cps.size<=8:=by
  rcases yaj.mp hy with rfl|hy
  ·exact s1
  ·rw[ya9.mp hy];exact s2
 obtain⟨z,hz,ez⟩:=zlc [(Str.ofString ""),y++"!",y++"?"] (by simp) (ys 0)
 have ez':atI [T.str (Str.ofString ""),T.str (y++Str.ofString "!"),T.str (y++Str.ofString "?")] ((ys 0).fmod 3)=some (.str z):=zma T.str ez;have sz:Sgn z:=zJ1 sy.1 sy.2.1 sy.2.2 (by simpa using hz)
 have yl:y.length<=8:=sy.2.2;have q1:y.length+(Str.ofString "!").length<=100000:=by rw[show(Str.ofString "!").length=1 by decide +kernel];omega
 have q2:y.length+(Str.ofString "?").length<=100000:=by rw[show(Str.ofString "?").length=1 by decide +kernel];omega
 obtain⟨b,hb,eb⟩:=zlc rs hr (ys 3);obtain⟨e,he,ee⟩:=zlc rs hr (ys 4);have eb':=zma T.str eb;have ee':=zma T.str ee;have l0:=zDk hr;obtain⟨g,hg,gl,eg⟩:=zBl tw (ys 5) u hu;have s6:s70 6=true:=zec (by decide) (by decide)
 have ok:zmj (ws.length:Int)=true:=zch (by omega)
 have er:zcq 0 ws.length=(List.range ws.length).map λ(k:Nat)=>T.int (k:Int):=zb8
 have lc:zg5 (bNm 0) zlp zm9 ((List.range ws.length).map λ(k:Nat)=>T.int (k:Int)) [none,some (.lst (ws.map T.str)),some (.lst (mT 6 λi=>T.int (ys i)))]=some (((List.range ws.length).filter λ(j:Nat)=>((ys 1).fdiv (2+(j:Int))).fmod 2 == 1).map λj=>T.str (ws.getD j "")):=zua (λ(k:Nat)=>T.int (k:Int)) (λj=>T.str (ws.getD j "")) (λ(j:Nat)=>((ys 1).fdiv (2+(j:Int))).fmod 2 == 1) (λτ=>∃a,τ=[a,some (.lst (ws.map T.str)),some (.lst (mT 6 λi=>T.int (ys i)))]) _ _ ⟨none,rfl⟩ λj hj τ hI=>by
  obtain⟨a,rfl⟩:=hI;have hj:=yb6.mp hj;have n0:(2+(j:Int)=0)=False:=eq_false (by omega)
  have s0:s70 (2+(j:Int))=true:=zCy (by decide) (by decide) (by lia) (by lia)
  have aj:atI (ws.map T.str) (j:Int)=some (.str (ws.getD j "")):=zb2 (by rw[ya3,ya0 hj,ya7,ya0 hj];rfl)
  refine⟨[some (.int (j:Int)),some (.lst (ws.map T.str)),some (.lst (mT 6 λi=>T.int (ys i)))],false,by simp_arith[],?_,λ_=>?_,_,rfl⟩
  ·unfold zlp
   simp_arith[a1,n0,s0,zio]
  ·unfold zm9
   simp_arith[za7,aj]
 obtain⟨ns,hns⟩:∃ns,((List.range ws.length).filter λ(j:Nat)=>((ys 1).fdiv (2+(j:Int))).fmod 2 == 1).map (λj=>ws.getD j "")=ns:=⟨_,rfl⟩
 have sub:ns.Sublist ws:=by
  rw[<- hns]
  conv=>rhs;rw[<- zAc ws]
  exact List.Sublist.map _ List.filter_sublist
 have en:((List.range ws.length).filter λ(j:Nat)=>((ys 1).fdiv (2+(j:Int))).fmod 2 == 1).map (λj=>T.str (ws.getD j ""))=ns.map T.str:=by rw[<- hns,yax];rfl
 rw[en]at lc;have wl1:ws.length<=100000:=by omega
 have fin:∀m:List Str,(∀x∈m,x∈ws)->m.Nodup->m.length<=7->DrOk ws rs ⟨b,e,g,m,z⟩:=λm m1 m2 m3=>⟨hb,he,hg,yae gl (by decide),m1,m2,yae m3 (by decide),sz⟩
 have nl:ns.length<=7:=yae sub.length_le wl;have sg:=hg.sh
 have key:∀m:List Str,(sIf (mAp (g2 eqT) (za4 (mAp (g2 zh8) (za4 (mIx (za5 6) (mC (.int 2))) (za4 (mC (.int 2)) zac))) (za4 (mC (.int 1)) zac))) (zco (mRv (za5 8) (mAp (g1 zsl) (za4 (mC (.int 1)) zac))) (bNm 8)) sNx) (sD c k rs ws n1 n2 u (some (.lst (mT 6 λi=>T.int (ys i)))) (some (.str z)) (some (.lst (ns.map T.str))))=some (.nx (sD c k rs ws n1 n2 u (some (.lst (mT 6 λi=>T.int (ys i)))) (some (.str z)) (some (.lst (m.map T.str)))))->zmb [.int c,.int (k:Int),.lst (rs.map T.str),.lst (ws.map T.str),.lst [.str n1,.str n2],.int u]=some (.ok (dtT ⟨b,e,g,m,z⟩)):=λm hm=>by
  have run:zok (sD c k rs ws n1 n2 u none none none)=some (.rt (dtT ⟨b,e,g,m,z⟩)):=by
   unfold zok;refine sq (τ':=(sD c k rs ws n1 n2 u (some (.lst (mT 6 λi=>T.int (ys i)))) none none)) (by simp_arith[ed]) ?_
   refine sq (τ':=(sD c k rs ws n1 n2 u (some (.lst (mT 6 λi=>T.int (ys i)))) (some (.str z)) none)) (by simp_arith[a0,s6,ey',q1,q2,ez']) ?_
   refine sq (τ':=(sD c k rs ws n1 n2 u (some (.lst (mT 6 λi=>T.int (ys i)))) (some (.str z)) (some (.lst (ns.map T.str))))) (by simp_arith[za7,za3,ya1,ybb,ok,er,lc,wl1]) ?_
   refine sq hm ?_
   simp_arith[za7,za3,ya1,a3,a4,a5,l0,eb',ee',eg,za0 _ sg]
  unfold zmb
  simp_arith[za3,za7,run]
 by_cases h2:(ys 2).fmod 2=1
 ·have h2':((ys 2).fmod 2 == 1)=true:=by simpa using h2
  refine⟨⟨b,e,g,ns.reverse,z⟩,fin _ (λx hx=>sub.subset (List.mem_reverse.mp hx)) (List.pairwise_reverse.mpr ((wd.sublist sub).imp yay)) (by rw[ydg];exact nl),gl,by show ns.reverse.length<=7;rw[ydg];exact nl,key _ ?_⟩
  rw[List.map_reverse];have sr:zal ((ns.map T.str).reverse)=(ns.map T.str).reverse:=by rw[<- List.map_reverse,za3]
  simp_arith[a2,zio,h2',mRv,show(-(1:Int))=-1 from rfl,za3,za7,sr]
 ·have h2':((ys 2).fmod 2 == 1)=false:=by simpa using h2
  refine⟨⟨b,e,g,ns,z⟩,fin _ (λx hx=>sub.subset hx) (wd.sublist sub) nl,gl,nl,key _ ?_⟩
  simp_arith[a2,zio,h2']
abbrev zo5:Stmt:=top 51
theorem zwe:FnScope ["_law_script","_law_names_here","_law_unit","_law_parts_here","_law_i","_law_cell","_law_watches","_law_first","_law_rooms","_law_doors","_law_k"] ["_law_script"] (za2 zo5):=scM (by decide +kernel)
def zhp:PSt->Option Out :=
 (ztv 9 (zan zmb (za4 (m2 zf0 (m2 zfs (za5 5) (mC (.int 90))) (za5 4)) (za4 (za5 10) (za4 (za5 8) (za4 (za5 6) (za4 (zmk (mSl (za5 1) (some (mC (.int 20))) (some (mC (.int 22)))) (zsq (za5 1) (some (mC (.int 20))) (some (mC (.int 22))))) (za4 (za5 2) zac))))))))
def zix:PSt->Option Out :=
 (zai (zco (zan zd2 (za4 (za5 0) (za4 (m2 zf0 (mC (.int 3)) (za5 4)) zac))) (bNm 5))
 (zai (zco (zmk (mSl (za5 1) (some (m2 zf0 (mC (.int 12)) (m2 znc (mC (.int 2)) (za5 4)))) (some (m2 zf0 (m2 zf0 (mC (.int 12)) (m2 znc (mC (.int 2)) (za5 4))) (m2 zh8 (za5 5) (mIx (zea (zao (mC (.int 3)) (zao (mC (.int 3)) (zao (mC (.int 3)) (zao (mC (.int 2)) zac))))) (za5 4)))))) (zsq (za5 1) (some (m2 zf0 (mC (.int 12)) (m2 znc (mC (.int 2)) (za5 4)))) (some (m2 zf0 (m2 zf0 (mC (.int 12)) (m2 znc (mC (.int 2)) (za5 4))) (m2 zh8 (za5 5) (mIx (zea (zao (mC (.int 3)) (zao (mC (.int 3)) (zao (mC (.int 3)) (zao (mC (.int 2)) zac))))) (za5 4))))))) (bNm 6))
 (zai (zco (mIx (zea (zao (mC (.int 0)) (zao (m2 znc (mC (.int 3)) (za5 4)) zac))) (m2 zh8 (m2 zfs (za5 5) (mC (.int 3))) (mC (.int 2)))) (bNm 7))
 (zai (zco (zmk (mSl (za5 1) (some (za5 7)) (some (m2 zf0 (m2 zf0 (za5 7) (mC (.int 1))) (m2 zh8 (m2 zfs (za5 5) (mC (.int 6))) (mIx (zea (zao (mC (.int 3)) (zao (mC (.int 3)) (zao (mC (.int 3)) (zao (mC (.int 2)) zac))))) (za5 4)))))) (zsq (za5 1) (some (za5 7)) (some (m2 zf0 (m2 zf0 (za5 7) (mC (.int 1))) (m2 zh8 (m2 zfs (za5 5) (mC (.int 6))) (mIx (zea (zao (mC (.int 3)) (zao (mC (.int 3)) (zao (mC (.int 3)) (zao (mC (.int 2)) zac))))) (za5 4))))))) (bNm 8))
 (zai (zki 9 (zea zac))
 (zai (zgf (zba (za4 (m2 zh8 (m2 zfs (za5 5) (mC (.int 18))) (mC (.int 5))) zac)) (bNm 10) zhp)
 (zai (zvr 9) (ztv 3 (zol (za4 (za5 6) (za4 (za5 8) (za4 (za5 9) zac))))))))))))
def zkm:PSt->Option Out :=
 (zai (zco (zan ziv (za4 (zan zd2 (za4 (za5 0) (za4 (mC (.int 0)) zac))) (za4 (mC (.int 26)) zac))) (bNm 1))
 (zai (zco (m2 zf0 (mC (.int 1)) (m2 zh8 (zan zd2 (za4 (za5 0) (za4 (mC (.int 1)) zac))) (m2 zD8 (mC (.int 10)) (mC (.int 40))))) (bNm 2))
 (zai (zki 3 (zea zac))
 (zai (zgf (zba (za4 (m2 zf0 (mC (.int 1)) (m2 zh8 (zan zd2 (za4 (za5 0) (za4 (mC (.int 2)) zac))) (mC (.int 4)))) zac)) (bNm 4) zix)
 (zc1 (za5 3))))))
def zkq:List T->Option Ru:=zda 1 11 zkm
abbrev zr4:Fn:=⟨4,["_law_script"],zkq⟩
abbrev zy1:Gm:=⟨["_law_script","_law_names_here","_law_unit","_law_parts_here","_law_i","_law_cell","_law_watches","_law_first","_law_rooms","_law_doors","_law_k"],(za2 zo5).names,[],3,[("_law_names",zr5),("_law_cell_at",zly),("_law_door",zul)],["range"],[],["_law_parts_here","_law_doors"],[],false,[],[],[],gxD⟩
theorem zyq:dSs 200 zy1 (zab zo5)=some zkm:=by kernel_rfl
structure Pt where
 ws:List Str
 rs:List Str
 ds:List Dr
abbrev ptT(P:Pt):T:=.tup [.lst (P.ws.map T.str),.lst (P.rs.map T.str),.lst (P.ds.map dtT)]
def mcP(P:Pt):Mc:=⟨P.ws,P.rs.map λr=>(r,[]),P.ds⟩
def Shn(x:Str):Prop:=Sml x/\1<=x.cps.size/\x.cps.size<=8
structure PtOk(P:Pt):Prop where
 w:∀x∈P.ws,Shn x
 wd:P.ws.Nodup
 wl:P.ws.length<=2
 r:∀x∈P.rs,Shn x
 rd:P.rs.Nodup
 r0:P.rs≠[]
 rl:P.rs.length<=3
 d:∀d∈P.ds,DrOk P.ws P.rs d/\d.g.length<=2/\d.n.length<=7
 dl:P.ds.length<=4
theorem zxg(P:Pt):(mcP P).nm=P.rs:=by
 unfold Mc.nm mcP;rw[yax];exact List.map_id _
theorem znv{x:Str}(h:Shn x):Wnm x:=.inr h
theorem zEj{x:Str}(h:Sml x):Rmn x:=λi hi=>.inr (h i hi)
theorem PtOk.mc{P:Pt}(h:PtOk P):McOk (mcP P):=by
 have en:(mcP P).rs.map (·.1)=P.rs:=zxg P;have rl:=h.rl;refine⟨λx hx=>znv (h.w x hx),h.wd,yae h.wl (by decide),⟨?_,?_,λr hr=>?_,by rw[en];exact h.rd,λr hr=>?_⟩,λd hd=>by rw[en];exact(h.d d hd).1,yae h.dl (by decide)⟩
 ·show 1<=(P.rs.map _).length;rw[ya1];exact ycs.mpr h.r0
 ·show(P.rs.map _).length<=64;rw[ya1]
  omega
 ·obtain⟨x,hx,rfl⟩:=yag.mp hr;obtain⟨k1,k2,k3⟩:=h.r x hx;exact⟨zEj k1,k2,yae k3 (by decide)⟩
 ·obtain⟨x,hx,rfl⟩:=yag.mp hr;exact⟨λt ht=>(by cases ht),yb2 _⟩
def nmL(c:Int)(a n:Nat):List Str:=(List.range' a n).map (nmX c)
theorem zxa(c:Int)(k:Nat):Shn (nmX c k):=by
 refine⟨λi hi=>?_,zKv c k,zG0 c k⟩
 refine zKx c k _ ?_;show(nmX c k).cps.getD i 0∈(nmX c k).cps.toList;rw[ybu,yb8 hi];exact Array.getElem_mem_toList hi
theorem zsk{c:Int}{a n:Nat}{x:Str}(h:x∈nmL c a n):Shn x:=by
 obtain⟨k,_,rfl⟩:=yag.mp h;exact zxa c k
theorem zqk{c:Int}{l:List Nat}(h:l.Nodup)(hl:∀k∈l,k<26):(l.map (nmX c)).Nodup:=by
 refine ydr.mpr (h.imp_of_mem λ{a b} ha hb hab e=>hab (zB0 (hl a ha) (hl b hb) e))
theorem zqb(a n:Nat):(List.range' a n).Nodup:=List.nodup_range'
theorem zxb{c:Int}{a n:Nat}(h:a+n<=26):(nmL c a n).Nodup:=zqk (zqb a n) λk hk=>by
 have:=(yds.mp hk)
 omega
theorem zj8(c:Int)(a n:Nat):(nmL c a n).length=n:=by unfold nmL;rw[ya1,ycu]
theorem zym(c:Int){a n:Nat}(h:a+n<=26):zrf (((List.range 26).map (nmX c)).map T.str) (some (a:Int)) (some ((a:Int)+(n:Int)))=(nmL c a n).map T.str:=by
 rw[zyn,zyn];unfold nmL
 congr 2
 unfold zrf;have e1:HT.sIx (List.range 26).length 0 (some (a:Int))=a:=by rw[ybb];simp[HT.sIx];omega
 have e2:HT.sIx (List.range 26).length (List.range 26).length (some ((a:Int)+(n:Int)))=a+n:=by rw[ybb];simp[HT.sIx];omega
 rw[e1,e2];refine ycx λi=>?_
 by_cases hi:i<n
 ·rw[ycf (by omega),ycm,yc1 (by omega),List.getElem?_range' hi]
  simp
 ·rw[yb7 (by rw[yc3];omega),yb7 (by rw[ycu];omega)]
theorem ztq(ts:List (List Str))(rs:List Str):(zi3 ts rs).length=ts.length * rs.length:=by
 unfold zi3
 induction ts with
 |nil=>rw[ybl,yaw,Nat.zero_mul]
 |cons t ts ih=>rw[ybc,yab,ih,ya1,yao,yd1,yd2,yda]
structure PsI(c:Int)(i:Nat)(Ps:List Pt):Prop where
 l:Ps.length=i
 p:∀P∈Ps,PtOk P
 w:∃ks:List Nat,Ps.flatMap Pt.ws=ks.map (nmX c)/\ks.Nodup/\(∀k∈ks,12<=k/\k<12+2 * i)/\ks.length<=2 * i/\ks.length<=7
 t:(tak (Ps.map Pt.rs)).length<=3 ^ i/\(tak (Ps.map Pt.rs)).length<=54
theorem zAo{c:Int}{i m a f b:Nat}(hi:i<4)(hm:i≠3/\m=3\/i=3/\m=2)(ha:a<m)(hf:f=0\/f=3 * i)(hb:b<m){Ps:List Pt}(h:PsI c i Ps){ds:List Dr}(hd:∀d∈ds,DrOk (nmL c (12+2 * i) a) (nmL c f (1+b)) d/\d.g.length<=2/\d.n.length<=7)(dl:ds.length<=4):PsI c (i+1) (Ps++[⟨nmL c (12+2 * i) a,nmL c f (1+b),ds⟩]):=by
 obtain⟨ks,e,k1,k2,k3,k4⟩:=h.w;obtain⟨t1,t2⟩:=h.t;have ok:PtOk ⟨nmL c (12+2 * i) a,nmL c f (1+b),ds⟩:=⟨λx hx=>zsk hx,zxb (by omega),by rw[zj8];omega,λx hx=>zsk hx,zxb (by omega),λz=>by have:=zj8 c f (1+b);rw[show nmL c f (1+b)=[] from z]at this;rw[yaw]at this;omega,by rw[zj8];omega,hd,dl⟩
 refine⟨by rw[yab,h.l];rfl,λP hP=>?_,⟨ks++List.range' (12+2 * i) a,?_,?_,λk hk=>?_,?_,?_⟩,?_⟩
 ·rcases ybe.mp hP with hP|hP
  ·exact h.p P hP
  ·rw[ya9.mp hP];exact ok
 ·rw[List.flatMap_append,e,yaq,ybc,ybl,yap]
  rfl
 ·refine List.nodup_append.mpr ⟨k1,zqb _ _,λx hx y hy=>?_⟩
  have h1:=k2 x hx;have h2:=yds.mp hy
  omega
 ·rcases ybe.mp hk with hk|hk
  ·have:=k2 k hk
   omega
  ·have:=yds.mp hk
   omega
 ·rw[yab,ycu]
  omega
 ·rw[yab,ycu]
  omega
 ·rw[yaq,yaf,yc6,zno,ztq];generalize (tak (Ps.map Pt.rs)).length=q at t1 t2;have el:(nmL c f (1+b)).length=1+b:=zj8 c f (1+b);show q * (nmL c f (1+b)).length<=_/\q * (nmL c f (1+b)).length<=_;rw[el];have u1:q * (1+b)<=q * 3:=Nat.mul_le_mul_left q (by omega)
  have u2:3 ^ (i+1)=3 ^ i * 3:=Nat.pow_succ 3 i;refine⟨by rw[u2];exact yae u1 (Nat.mul_le_mul_right 3 t1),?_⟩
  rcases hm with ⟨h3,rfl⟩|⟨rfl,rfl⟩
  ·have h9:3 ^ i<=9:=yae (Nat.pow_le_pow_right (by decide) (show i<=2 by omega)) (by decide)
   omega
  ·have u3:q * (1+b)<=q * 2:=Nat.mul_le_mul_left q (by omega)
   have h27:(3:Nat) ^ 3=27:=by decide
   omega
theorem zAz(c:Int):(mT 26 λk=>T.str (nmX c k))=((List.range 26).map (nmX c)).map T.str:=by rw[yax];rfl
abbrev sP(ns:List Int)(c u:Int)(Ps:List Pt)(x4 x5 x6 x7 x8 x9 x10:Option T):PSt:=[some (zaw ns),some (.lst (((List.range 26).map (nmX c)).map T.str)),some (.int u),some (.own (Ps.map ptT)),x4,x5,x6,x7,x8,x9,x10]
theorem zAs{ns:List Int}:∃(c:Int) (n:Nat) (Ps:List Pt),1<=n/\n<=4/\PsI c n Ps/\zkq [zaw ns]=some (.ok (.own (Ps.map ptT))):=by
 obtain⟨c,hc⟩:∃c,ns.getD 0 0=c:=⟨_,rfl⟩;have c0:=zpg ns (k:=0) (by decide)
 have c1:=zpg ns (k:=1) (by decide)
 have c2:=zpg ns (k:=2) (by decide)
 rw[show(0:Int).toNat=0 from rfl,hc]at c0;rw[show(1:Int).toNat=1 from rfl]at c1;rw[show(2:Int).toNat=2 from rfl]at c2;have nm:=zB3 c (m:=26) (by decide)
 have nm:ziv [.int c,.int 26]=some (.ok (.own (mT 26 λk=>.str (nmX c k)))):=nm
 rw[zAz]at nm;obtain⟨u,hu⟩:∃u,1+(ns.getD 1 0).fmod (10 ^ 40)=u:=⟨_,rfl⟩
 have u0:0<=u:=by
  rw[<- hu];exact Int.add_nonneg (by decide) (ybd _ (by decide +kernel))
 obtain⟨q,hq⟩:=ybr (ybd (ns.getD 2 0) (show(0:Int)<4 by decide))
 have hq4:=yby (ns.getD 2 0) (show(0:Int)<4 by decide)
 rw[hq]at hq4;have tn:zal (((List.range 26).map (nmX c)).map T.str)=((List.range 26).map (nmX c)).map T.str:=za3 _;have sn:=za7 ((List.range 26).map (nmX c));obtain⟨N,hN⟩:∃N,T.lst (((List.range 26).map (nmX c)).map T.str)=N:=⟨_,rfl⟩
 obtain⟨τ,e,Ps,hP,y4,y5,y6,y7,y8,y9,y10,rfl⟩:=zbr (b:=bNm 4) (body:=zix) (ts:=mT (1+q) λi=>.int (i:Int)) (τ:=[some (zaw ns),some (.lst (((List.range 26).map (nmX c)).map T.str)),some (.int u),some (.own []),none,none,none,none,none,none,none])
  (λi τ=>∃Ps:List Pt,PsI c i Ps/\∃y4 y5 y6 y7 y8 y9 y10,τ=(sP ns c u Ps y4 y5 y6 y7 y8 y9 y10)) ⟨[],⟨rfl,λ_ z=>(by cases z),⟨[],rfl,List.nodup_nil,λ_ z=>(by cases z),yb2 _,yb2 _⟩,by decide,by decide⟩,_,_,_,_,_,_,_,rfl⟩ λi t τ h1 h2=>by
   obtain⟨hi,rfl⟩:=zcz h1;obtain⟨Ps,hP,y4,y5,y6,y7,y8,y9,y10,rfl⟩:=h2;have i4:i<4:=by omega
   have ci:=zpg ns (k:=3+(i:Int)) (by omega)
   obtain⟨x,hx⟩:∃x,ns.getD (3+(i:Int)).toNat 0=x:=⟨_,rfl⟩;rw[hx]at ci
   obtain⟨m,em,hm⟩:∃m:Nat,atI [T.int 3,T.int 3,T.int 3,T.int 2] (i:Int)=some (.int (m:Int))/\(i≠3/\m=3\/i=3/\m=2):=by
    rcases(by omega:i=0\/i=1\/i=2\/i=3) with rfl|rfl|rfl|rfl
    ·exact⟨3,zb2 rfl,by decide⟩
    ·exact⟨3,zb2 rfl,by decide⟩
    ·exact⟨3,zb2 rfl,by decide⟩
    ·exact⟨2,zb2 rfl,by decide⟩
   have m0:(0:Int)<(m:Int):=by omega
   have mz:((m:Int)=0)=False:=eq_false (by omega)
   obtain⟨a,ea⟩:=ybr (ybd x m0);have ha:=yby x m0;rw[ea]at ha;obtain⟨b,eb⟩:=ybr (ybd (x.fdiv 6) m0);have hb:=yby (x.fdiv 6) m0;rw[eb]at hb
   obtain⟨f,hf,ef⟩:∃f:Nat,(f=0\/f=3 * i)/\atI [T.int 0,T.int (3 * (i:Int))] ((x.fdiv 3).fmod 2)=some (.int (f:Int)):=by
    obtain⟨z,hz,ez⟩:=zlc [(0:Int),3 * (i:Int)] (by simp) (x.fdiv 3)
    have ez':atI [T.int 0,T.int (3 * (i:Int))] ((x.fdiv 3).fmod 2)=some (.int z):=zma T.int ez
    rcases yaj.mp hz with rfl|hz
    ·exact⟨0,.inl rfl,ez'⟩
    ·refine⟨3 * i,.inr rfl,?_⟩;rw[ya9.mp hz]at ez';rw[ez']
     congr 2
   obtain⟨p,ep⟩:=ybr (ybd (x.fdiv 18) (show(0:Int)<5 by decide))
   have hp:=yby (x.fdiv 18) (show(0:Int)<5 by decide)
   rw[ep]at hp;have k1:=zym c (a:=12+2 * i) (n:=a) (by omega)
   have k2:=zym c (a:=f) (n:=1+b) (by omega)
   have k3:=zym c (a:=20) (n:=2) (by omega)
   have k3:zrf (((List.range 26).map (nmX c)).map T.str) (some 20) (some 22)=[.str (nmX c 20),.str (nmX c 21)]:=k3;rw[show((12+2 * i:Nat):Int)=12+2 * (i:Int) by omega]at k1
   rw[show((1+b:Nat):Int)=1+(b:Int) by omega,<- Int.add_assoc]at k2
   have m2:zhd 2 (i:Int)=true:=zfh (zfv (by decide) (by decide))
   have m3:zhd 3 (i:Int)=true:=zfh (zfv (by decide) (by decide))
   have s3:s70 3=true:=zec (by decide) (by decide)
   have s6:s70 6=true:=zec (by decide) (by decide)
   have s18:s70 18=true:=zec (by decide) (by decide)
   have s90:s70 90=true:=zec (by decide) (by decide)
   have rs0:nmL c f (1+b)≠[]:=λz=>by
    have:=zj8 c f (1+b);rw[z,yaw]at this
    omega
   obtain⟨τ2,e2,ds,hd,dl,z10,rfl⟩:=zbr (b:=bNm 10) (body:=zhp) (ts:=mT p λi=>.int (i:Int)) (τ:=(sP ns c u Ps (some (.int (i:Int))) (some (.int x)) (some (.lst ((nmL c (12+2 * i) a).map T.str))) (some (.int (f:Int))) (some (.lst ((nmL c f (1+b)).map T.str))) (some (.own [])) y10))
    (λk τ=>∃ds:List Dr,(∀d∈ds,DrOk (nmL c (12+2 * i) a) (nmL c f (1+b)) d/\d.g.length<=2/\d.n.length<=7)/\ds.length=k/\∃z,τ=(sP ns c u Ps (some (.int (i:Int))) (some (.int x)) (some (.lst ((nmL c (12+2 * i) a).map T.str))) (some (.int (f:Int))) (some (.lst ((nmL c f (1+b)).map T.str))) (some (.own (ds.map dtT))) z)) ⟨[],λ_ z=>(by cases z),rfl,_,rfl⟩ λk t τ h1 h2=>by
     obtain⟨hk,rfl⟩:=zcz h1;obtain⟨ds,hd,dl,z,rfl⟩:=h2;obtain⟨d,d1,d2,d3,ed⟩:=zH4 (ws:=nmL c (12+2 * i) a) (rs:=nmL c f (1+b)) (λx hx=>znv (zsk hx)) (zxb (by omega)) (by rw[zj8];omega) rs0 (zxa c 20) (zxa c 21) (x.fdiv 90+(i:Int)) (k:=k) (by omega) u0
     have ll:ds.length<100000:=by omega
     refine⟨(sP ns c u Ps (some (.int (i:Int))) (some (.int x)) (some (.lst ((nmL c (12+2 * i) a).map T.str))) (some (.int (f:Int))) (some (.lst ((nmL c f (1+b)).map T.str))) (some (.own (ds.map dtT))) (some (.int (k:Int)))),by simp_arith[],_,?_,ds++[d],λy hy=>?_,by rw[yab,dl];rfl,some (.int (k:Int)),rfl⟩
     ·rw[yaq];unfold zhp
      simp_arith[sn,tn,k3,za7,za3,s90,ed,ya1,ll]
     ·rcases ybe.mp hy with hy|hy
      ·exact hd y hy
      ·rw[ya9.mp hy];exact⟨d1,d2,d3⟩
   rw[zcj]at dl;have ok:zmj (p:Int)=true:=zch (by omega)
   have er:zcq 0 p=mT p λi=>.int (i:Int):=zb8
   have sd:shL (ds.map dtT)=true:=zc0 λd hd'=>by
    have:=(hd d hd').1.g.sh
    simp_arith[this,za7]
   have ll:Ps.length<100000:=by rw[hP.l];omega
   have st:=zAo i4 hm (by omega) hf (by omega) hP hd (by omega)
   refine⟨(sP ns c u Ps (some (.int (i:Int))) y5 y6 y7 y8 y9 y10),by simp_arith[],_,?_,_,st,some (.int (i:Int)),some (.int x),some (.lst ((nmL c (12+2 * i) a).map T.str)),some (.int (f:Int)),some (.lst ((nmL c f (1+b)).map T.str)),some (.lst (ds.map dtT)),z10,rfl⟩
   unfold sP;rw[yaq];have F:=zkx ns;have F2:=zg9 ns;unfold zix;refine sq (τ':=(sP ns c u Ps (some (.int (i:Int))) (some (.int x)) y6 y7 y8 y9 y10)) (by simp_arith[F,F2,ci]) ?_
   refine sq (τ':=(sP ns c u Ps (some (.int (i:Int))) (some (.int x)) (some (.lst ((nmL c (12+2 * i) a).map T.str))) y7 y8 y9 y10)) (by simp_arith[sn,tn,m2,em,mz,ea,k1,za3]) ?_
   refine sq (τ':=(sP ns c u Ps (some (.int (i:Int))) (some (.int x)) (some (.lst ((nmL c (12+2 * i) a).map T.str))) (some (.int (f:Int))) y8 y9 y10)) (by simp_arith[m3,s3,ef]) ?_
   refine sq (τ':=(sP ns c u Ps (some (.int (i:Int))) (some (.int x)) (some (.lst ((nmL c (12+2 * i) a).map T.str))) (some (.int (f:Int))) (some (.lst ((nmL c f (1+b)).map T.str))) y9 y10)) (by simp_arith[sn,tn,s6,em,mz,eb,k2,za3]) ?_
   refine sq (τ':=(sP ns c u Ps (some (.int (i:Int))) (some (.int x)) (some (.lst ((nmL c (12+2 * i) a).map T.str))) (some (.int (f:Int))) (some (.lst ((nmL c f (1+b)).map T.str))) (some (.own [])) y10)) (by simp_arith[]) ?_
   refine sq (by simp_arith[s18,ep,ok,er,e2];rfl) ?_
   simp_arith[za7,za3,sd,za0 _ sd,ya1,ll]
 rw[zcj]at hP;have ok:zmj (1+(q:Int))=true:=zch (n:=1+q) (by omega)
 have tq:(1+(q:Int)).toNat=1+q:=by omega
 have er:zcq 0 (1+q)=mT (1+q) λi=>.int (i:Int):=zb8
 have p40:(0:Int)<=40/\(40:Int)<=1000000/\s64 10=true:=⟨by decide,by decide,zfv (by decide) (by decide)⟩
 have r40:(40:Int).toNat=40:=rfl;have n40:((10:Int) ^ 40=0)=False:=eq_false (by decide +kernel)
 have F:=zkx ns;have F2:=zg9 ns;refine⟨c,1+q,Ps,by omega,by omega,hP,?_⟩
 have run:zkm [some (zaw ns),none,none,none,none,none,none,none,none,none,none]=some (.rt (.own (Ps.map ptT))):=by
  unfold zkm;refine sq (τ':=[some (zaw ns),some (.lst (((List.range 26).map (nmX c)).map T.str)),none,none,none,none,none,none,none,none,none]) (by simp_arith[F,F2,c0,nm,za3]) ?_
  refine sq (τ':=[some (zaw ns),some (.lst (((List.range 26).map (nmX c)).map T.str)),some (.int u),none,none,none,none,none,none,none,none]) (by simp_arith[F,F2,c1,p40,r40,n40,hu]) ?_
  refine sq (τ':=[some (zaw ns),some (.lst (((List.range 26).map (nmX c)).map T.str)),some (.int u),some (.own []),none,none,none,none,none,none,none]) (by simp_arith[]) ?_
  refine sq (by simp_arith[F,F2,c2,hq,ok,tq,er,e];rfl) ?_
  simp_arith[]
 unfold zkq
 simp_arith[run]
abbrev zs8:Stmt:=top 53
theorem zA2:FnScope ["_law_parts_here","_law_ways_here","_law_watches","_law_rooms","_law_doors","_law_longer","_law_way","_law_name"] ["_law_parts_here"] (za2 zs8):=scM (by decide +kernel)
def zi4:PSt->Option Out :=
 (ztv 5 (m2 zf0 (za5 6) (zea (zao (za5 7) zac))))
def zi5:PSt->Option Out :=
 (zgf (ze9 (za5 3)) (bNm 7) zi4)
def zkt:PSt->Option Out :=
 (zai (zki 5 (zea zac))
 (zai (zgf (ze9 (za5 1)) (bNm 6) zi5)
 (zai (zvr 5) (zco (za5 5) (bNm 1)))))
def zso:PSt->Option Out :=
 (zai (zco (zea (zao (zea zac) zac)) (bNm 1))
 (zai (zgf (ze9 (za5 0)) (zg1 3 (zak (bNm 2) (zak (bNm 3) (zak (bNm 4) zg4)))) zkt)
 (zc1 (za5 1))))
def zpp:List T->Option Ru:=zda 1 8 zso
abbrev zui:Fn:=⟨1,["_law_parts_here"],zpp⟩
abbrev zBp:Gm:=⟨["_law_parts_here","_law_ways_here","_law_watches","_law_rooms","_law_doors","_law_longer","_law_way","_law_name"],(za2 zs8).names,[],0,[],[],[],["_law_longer"],[],false,[],[],[],gxD⟩
theorem zC4:dSs 200 zBp (zab zs8)=some zso:=by kernel_rfl
theorem at3{α:Type}{a b c d:α}{l:List α}:atI (a::b::c::d::l) (3:Int)=some d:=zb2 (j:=3) rfl
theorem at4{α:Type}{a b c d e:α}{l:List α}:atI (a::b::c::d::e::l) (4:Int)=some e:=zb2 (j:=4) rfl
theorem PtOk.sd{P:Pt}(h:PtOk P):shL (P.ds.map dtT)=true:=zc0 λd hd=>by
 have:=(h.d d hd).1.g.sh
 simp_arith[this,za7]
theorem zna{Ps:List Pt}(h:∀P∈Ps,PtOk P):shL (Ps.map ptT)=true:=zc0 λP hP=>by
 have:=(h P hP).sd
 simp_arith[this,za7]
abbrev tkO(t:List Str):T:=.own (t.map T.str)
theorem zE5{Ps:List Pt}(h:∀P∈Ps,PtOk P)(hl:Ps.length<=6)(hk:∀i,i<=Ps.length->(tak ((Ps.take i).map Pt.rs)).length<=64):zpp [.lst (Ps.map ptT)]=some (.ok (.lst ((tak (Ps.map Pt.rs)).map tkT))):=by
 have hs:=zna h
 obtain⟨τ,e,y2,y3,y4,y5,y6,y7,rfl⟩:=zbr (b:=zg1 3 (zak (bNm 2) (zak (bNm 3) (zak (bNm 4) zg4)))) (body:=zkt) (ts:=Ps.map ptT) (τ:=[some (.lst (Ps.map ptT)),some (.lst [.lst []]),none,none,none,none,none,none]) (λi τ=>∃y2 y3 y4 y5 y6 y7,τ=[some (.lst (Ps.map ptT)),some (.lst ((tak ((Ps.take i).map Pt.rs)).map tkT)),y2,y3,y4,y5,y6,y7]) ⟨_,_,_,_,_,_,rfl⟩ λi t τ h1 h2=>by
  obtain⟨y2,y3,y4,y5,y6,y7,rfl⟩:=h2;have hi:i<Ps.length:=by simpa using (ya5.mp h1).1
  rw[ya3,ya0 hi]at h1;have et:t=ptT Ps[i]:=(yas h1).symm;subst et;have k:=h _ (yam hi);have sd:=k.sd;have hl2:=hk (i+1) (by omega)
  have en:tak ((Ps.take (i+1)).map Pt.rs)=zi3 (tak ((Ps.take i).map Pt.rs)) Ps[i].rs:=by rw[zpx hi,yaq,yaf,yc6,zno]
  rw[en]at hl2 ⊢
  have tl:∀t∈tak ((Ps.take i).map Pt.rs),t.length<=6:=λt ht=>by
   have:=(zkw ht).1;rw[ya1,yc3]at this
   omega
  generalize hts:tak ((Ps.take i).map Pt.rs)=ts at *;have sts:=zg7 ts;let st:List (List Str)->Option T->Option T->PSt:=λa z6 z7=>[some (.lst (Ps.map ptT)),some (.lst (ts.map tkT)),some (.lst (Ps[i].ws.map T.str)),some (.lst (Ps[i].rs.map T.str)),some (.lst (Ps[i].ds.map dtT)),some (.own (a.map tkO)),z6,z7]
  obtain⟨τ2,e2,z6,z7,rfl⟩:=zck (b:=bNm 6) (body:=zi5) tkT (λ(a:List (List Str)) τ=>∃z6 z7,τ=st a z6 z7) (λt=>Ps[i].rs.map λr=>t++[r]) 64 ts [] (st [] y6 y7) ⟨y6,y7,rfl⟩ (by rw[yaw,ydb];exact hl2) λt ht a τ hS hN=>by
   obtain⟨z6,z7,rfl⟩:=hS;have t6:=tl t ht;have a1:t.length+1<=100000:=by omega
   obtain⟨τ3,e3,w7,rfl⟩:=zck (b:=bNm 7) (body:=zi4) T.str (λ(a:List (List Str)) τ=>∃z7,τ=st a (some (tkT t)) z7) (λr=>[t++[r]]) 64 Ps[i].rs a (st a (some (tkT t)) z7) ⟨z7,rfl⟩ (by rw[<- List.map_eq_flatMap];exact hN) λr hr a τ hS hN=>by
    obtain⟨z7,rfl⟩:=hS;rw[ybf]at hN;have ll:a.length<100000:=by omega
    refine⟨st a (some (tkT t)) (some (.str r)),by simp_arith[st],_,?_,some (.str r),rfl⟩
    unfold zi4
    simp_arith[st,za3,za7,ya1,a1,ll,yaq]
    rw[show tkO (t++[r])=T.own (t.map T.str++[T.str r]) by show T.own ((t++[r]).map T.str)=_;rw[yaq];rfl]
   rw[<- List.map_eq_flatMap]at e3;refine⟨st a (some (tkT t)) z7,by simp_arith[st],_,?_,some (tkT t),w7,rfl⟩
   have e3':zc2 (bNm 7) zi4 (Ps[i].rs.map T.str) [some (.lst (Ps.map ptT)),some (.lst (ts.map tkT)),some (.lst (Ps[i].ws.map T.str)),some (.lst (Ps[i].rs.map T.str)),some (.lst (Ps[i].ds.map dtT)),some (.own (a.map tkO)),some (tkT t),z7]=_:=e3;unfold zi5
   simp_arith[st,za7,za3,e3']
  rw[yba]at e2;have eb:ts.flatMap (λt=>Ps[i].rs.map λr=>t++[r])=zi3 ts Ps[i].rs:=rfl
  rw[eb]at e2;have e2':zc2 (bNm 6) zi5 (ts.map tkT) [some (.lst (Ps.map ptT)),some (.lst (ts.map tkT)),some (.lst (Ps[i].ws.map T.str)),some (.lst (Ps[i].rs.map T.str)),some (.lst (Ps[i].ds.map dtT)),some (.own []),y6,y7]=_:=e2
  have so:zal ((zi3 ts Ps[i].rs).map tkO)=(zi3 ts Ps[i].rs).map tkT:=by
   rw[zap,yax];refine ybn λr _=>?_
   show T.nd false .lst (zal (r.map T.str))=_;rw[za3]
  have st2:=zg7 (zi3 ts Ps[i].rs);refine⟨[some (.lst (Ps.map ptT)),some (.lst (ts.map tkT)),some (.lst (Ps[i].ws.map T.str)),some (.lst (Ps[i].rs.map T.str)),some (.lst (Ps[i].ds.map dtT)),y5,y6,y7],by simp_arith[],_,?_,some (.lst (Ps[i].ws.map T.str)),some (.lst (Ps[i].rs.map T.str)),some (.lst (Ps[i].ds.map dtT)),some (.lst ((zi3 ts Ps[i].rs).map tkT)),z6,z7,rfl⟩
  unfold zkt
  simp_arith[sts,za0 _ sts,e2',st,so,st2,za0 _ st2]
 rw[ya1,ybp]at e;have st:=zg7 (tak (Ps.map Pt.rs));unfold zpp zso
 simp_arith[hs,za0 _ hs,e,za0 _ st]
abbrev zo8:Stmt:=top 54
theorem zwh:FnScope ["_law_parts_here","_law_i","_law_k","_law_sign","_law_found","_law_j","_law_m"] ["_law_parts_here","_law_i","_law_k"] (za2 zo8):=scM (by decide +kernel)
def zcb:PSt->Option Out :=
 (sIf (zom (m2 neT (za5 5) (za5 1)) (zom (m2 eqT (mIx (za5 3) (m1 zsl (mC (.int 1)))) (mC (.str "!"))) (m2 eqT (mIx (mIx (mIx (mIx (za5 0) (za5 5)) (mC (.int 2))) (za5 6)) (mC (.int 4))) (m2 zf0 (zmk (mSl (za5 3) none (some (m1 zsl (mC (.int 1))))) (zsq (za5 3) none (some (m1 zsl (mC (.int 1)))))) (mC (.str "?")))))) (ztv 4 (zea (zao (zol (za4 (za5 1) (za4 (za5 2) zac))) (zao (zol (za4 (za5 5) (za4 (za5 6) zac))) zac)))) sNx)
def zh3:PSt->Option Out :=
 (zgf (zba (za4 (m1 zhe (mIx (mIx (za5 0) (za5 5)) (mC (.int 2)))) zac)) (bNm 6) zcb)
def zkn:PSt->Option Out :=
 (zai (zco (mIx (mIx (mIx (mIx (za5 0) (za5 1)) (mC (.int 2))) (za5 2)) (mC (.int 4))) (bNm 3))
 (zai (sIf (m2 eqT (za5 3) (mC (.str ""))) (zc1 (zea (zao (zea (zao (zol (za4 (za5 1) (za4 (za5 2) zac))) zac)) zac))) sNx)
 (zai (zki 4 (zea zac))
 (zai (zgf (zba (za4 (m1 zhe (za5 0)) zac)) (bNm 5) zh3)
 (zc1 (za5 4))))))
def ziw:List T->Option Ru:=zda 3 7 zkn
abbrev zr7:Fn:=⟨1,["_law_parts_here","_law_i","_law_k"],ziw⟩
abbrev zy4:Gm:=⟨["_law_parts_here","_law_i","_law_k","_law_sign","_law_found","_law_j","_law_m"],(za2 zo8).names,[],0,[],["range","len"],[],["_law_found"],[],false,[],[],[],gxD⟩
theorem zyt:dSs 200 zy4 (zab zo8)=some zkn:=by kernel_rfl
abbrev dsP(Ps:List Pt):List (List Dr):=Ps.map Pt.ds
theorem zv7{Ps:List Pt}(h:∀P∈Ps,PtOk P){i k:Nat}(h1:i<(dsP Ps).length)(h2:k<((dsP Ps).getD i []).length):∃P∈Ps,(dsP Ps).getD i []=P.ds/\dAt (dsP Ps) i k∈P.ds/\atI (Ps.map ptT) (i:Int)=some (ptT P)/\atI (P.ds.map dtT) (k:Int)=some (dtT (dAt (dsP Ps) i k)):=by
 have h1':i<Ps.length:=by rw[ya1]at h1;exact h1
 have e:(dsP Ps).getD i []=Ps[i].ds:=by rw[ya7,ya3,ya0 h1'];rfl
 rw[e]at h2;have ed:dAt (dsP Ps) i k=Ps[i].ds[k]:=by unfold dAt;rw[e,ya7,ya0 h2];rfl
 exact⟨Ps[i],yam h1',e,by rw[ed];exact yam h2,zb2 (by rw[ya3,ya0 h1'];rfl),zb2 (by rw[ya3,ya0 h2,ed];rfl)⟩
theorem zLv:PyData.strOk (Str.ofString "!")=true:=by decide +kernel
theorem zBn{Ps:List Pt}(h:∀P∈Ps,PtOk P)(hl:Ps.length<=6){i k:Nat}(h1:i<(dsP Ps).length)(h2:k<((dsP Ps).getD i []).length):ziw [.lst (Ps.map ptT),.int (i:Int),.int (k:Int)]=some (.ok (.own ((gos (dsP Ps) i k).map shO))):=by
 have hs:=zna h;obtain⟨P,hP,_,hd,a1,a2⟩:=zv7 h h1 h2;have sd:=(h P hP).sd;have sg:=((h P hP).d _ hd).1.g.sh;have hz:=((h P hP).d _ hd).1.z;have lD:(dsP Ps).length<=6:=by rw[ya1];exact hl
 have lE:(dsP Ps).length=Ps.length:=ya1 _;generalize hdd:dAt (dsP Ps) i k=d at *;have q0:=zeh (zq5 hz) zBw
 by_cases z0:d.z=""
 ·have eg:gos (dsP Ps) i k=[[(i,k)]]:=by unfold gos;rw[hdd,if_pos z0]
  rw[decide_eq_true (show d.z=Str.ofString "" from z0)]at q0;rw[eg];unfold ziw zkn
  simp_arith[hs,za0 _ hs,a1,a2,sd,sg,za0 _ sg,za7,at4,q0]
  rfl
 ·rw[decide_eq_false (show ¬ d.z=Str.ofString "" from z0)]at q0;obtain⟨y,c,y1,y2,hc,ez,es,ee,zl,al⟩:=zs1 hz z0;have an:=zMg hz z0;have ls:d.z.length<=100000:=by omega
  have q1:eqT (.str ⟨#[c]⟩) (.str "!")=some (.bl (decide (c=33))):=by
   have o1:PyData.strOk (Str.mk #[c])=true:=zze λx hx=>by
    have hx':x∈[c]:=hx;rw[ya9.mp hx']
    omega
   rw[zeh o1 zLv]
   congr 3
   rcases hc with rfl|rfl<;>decide +kernel
  have l9:(Txt.slice d.z none (some (-1))).length+(Str.ofString "?").length<=100000:=by
   rw[es,Tx.cs_len,show(Str.ofString "?").length=1 by decide +kernel]
   have:(Tx.cs y).length<=8:=y2
   omega
  have sy:Txt.slice d.z none (some (-1))++Str.ofString "?"=anS d.z:=rfl;let g:=λ(j m:Nat)=>if j≠i/\c=33/\(dAt (dsP Ps) j m).z=anS d.z then [[(i,k),(j,m)]] else []
  have eg:gos (dsP Ps) i k=(List.range (dsP Ps).length).flatMap λj=>(List.range ((dsP Ps).getD j []).length).flatMap (g j):=by
   unfold gos;rw[hdd,if_neg z0]
   rcases hc with rfl|rfl
   ·rw[if_neg (by rw[ee];decide)]
    simp only[g,true_and]
   ·rw[if_pos (by rw[ee];decide)]
    have e0:∀j,g j=λ_=>[]:=λj=>funext λm=>if_neg λz=>absurd z.2.1 (by decide)
    refine(List.flatMap_eq_nil_iff.mpr λj _=>?_).symm
    rw[e0];exact List.flatMap_eq_nil_iff.mpr λ_ _=>rfl
  have gl:∀j m,(g j m).length<=1:=λj m=>by
   show(if _ then _ else _:List (List (Nat×Nat))).length<=1
   split
   ·exact yaa 1
   ·exact yb2 1
  have il:∀j,j<(dsP Ps).length->((List.range ((dsP Ps).getD j []).length).flatMap (g j)).length<=4:=λj hj=>by
   have:=zbm (g:=g j) (m:=1) (L:=List.range ((dsP Ps).getD j []).length) λm _=>gl j m
   rw[ybb,Nat.mul_one]at this;refine yae this ?_;have hj':j<Ps.length:=by omega
   rw[ya7,ya3,ya0 hj'];exact(h _ (yam hj')).dl
  have tl:=zbm (g:=λj=>(List.range ((dsP Ps).getD j []).length).flatMap (g j)) (m:=4) (L:=List.range (dsP Ps).length) λj hj=>il j (yb6.mp hj)
  rw[ybb]at tl;let st:List (List (Nat×Nat))->Option T->Option T->PSt:=λa y5 y6=>[some (.lst (Ps.map ptT)),some (.int (i:Int)),some (.int (k:Int)),some (.str d.z),some (.own (a.map shO)),y5,y6]
  obtain⟨τ,e,y5,y6,rfl⟩:=zck (b:=bNm 5) (body:=zh3) (λ(j:Nat)=>T.int (j:Int)) (λ(a:List (List (Nat×Nat))) τ=>∃y5 y6,τ=st a y5 y6) (λj=>(List.range ((dsP Ps).getD j []).length).flatMap (g j)) 1000 (List.range (dsP Ps).length) [] (st [] none none) ⟨none,none,rfl⟩ (by rw[yaw];omega) λj hj a τ hS hN=>by
   obtain⟨y5,y6,rfl⟩:=hS;have hj:=yb6.mp hj;have hj':j<Ps.length:=by omega
   have ej:(dsP Ps).getD j []=Ps[j].ds:=by rw[ya7,ya3,ya0 hj'];rfl
   have aj:atI (Ps.map ptT) (j:Int)=some (ptT Ps[j]):=zb2 (by rw[ya3,ya0 hj'];rfl)
   have kj:=h _ (yam hj');have sdj:=kj.sd
   obtain⟨τ2,e2,z6,rfl⟩:=zck (b:=bNm 6) (body:=zcb) (λ(m:Nat)=>T.int (m:Int)) (λ(a:List (List (Nat×Nat))) τ=>∃y6,τ=st a (some (.int (j:Int))) y6) (g j) 1000 (List.range ((dsP Ps).getD j []).length) a (st a (some (.int (j:Int))) y6) ⟨y6,rfl⟩ hN λm hm a τ hS hN=>by
    obtain⟨y6,rfl⟩:=hS;obtain⟨P',hP',_,hdm,a1',a2'⟩:=zv7 h hj (yb6.mp hm);have sd':=(h P' hP').sd;have kd:=((h P' hP').d _ hdm).1;have sgm:=kd.g.sh;have q2:=zeh (zq5 kd.z) an;refine⟨st a (some (.int (j:Int))) (some (.int (m:Int))),by simp_arith[st],_,?_,some (.int (m:Int)),rfl⟩
    show zcb (st a (some (.int (j:Int))) (some (.int (m:Int))))=some (.nx (st (a++(if j≠i/\c=33/\(dAt (dsP Ps) j m).z=anS d.z then [[(i,k),(j,m)]] else [])) (some (.int (j:Int))) (some (.int (m:Int)))))
    have hN':a.length+(if j≠i/\c=33/\(dAt (dsP Ps) j m).z=anS d.z then [[(i,k),(j,m)]] else []).length<=1000:=hN
    generalize dAt (dsP Ps) j m=dm at *
    by_cases hji:j=i
    ·rw[if_neg (λz=>z.1 hji),yap]
     have n1:((j:Int) == (i:Int))=true:=by rw[hji];exact beq_self_eq_true _
     unfold zcb
     simp_arith[st,zhg,n1]
    ·have n1:((j:Int) == (i:Int))=false:=by rw[beq_eq_false_iff_ne];exact λz=>hji (Int.ofNat.inj z)
     by_cases c33:c=33
     ·rw[decide_eq_true c33]at q1
      by_cases hzz:dm.z=anS d.z
      ·rw[decide_eq_true hzz]at q2;rw[if_pos ⟨hji,c33,hzz⟩]at hN' ⊢;have ll:a.length<100000:=by rw[ybf]at hN';omega
       unfold zcb
       simp_arith[st,zhg,n1,ls,show(-(1:Int))=-1 from rfl,al,q1,hs,za0 _ hs,a1',a2',sd',sgm,za7,at4,zsq,l9,sy,q2,ya1,ll,yaq]
       rfl
      ·rw[decide_eq_false hzz]at q2;rw[if_neg (λz=>hzz z.2.2),yap]
       unfold zcb
       simp_arith[st,zhg,n1,ls,show(-(1:Int))=-1 from rfl,al,q1,hs,za0 _ hs,a1',a2',sd',sgm,za7,at4,zsq,l9,sy,q2]
     ·rw[decide_eq_false c33]at q1;rw[if_neg (λz=>c33 z.2.1),yap]
      unfold zcb
      simp_arith[st,zhg,n1,ls,show(-(1:Int))=-1 from rfl,al,q1]
   rw[ej]at e2;have ok:zmj (Ps[j].ds.length:Int)=true:=zch (by have:=kj.dl;omega)
   have er:zcq 0 Ps[j].ds.length=(List.range Ps[j].ds.length).map λ(m:Nat)=>T.int (m:Int):=zb8
   refine⟨st a (some (.int (j:Int))) y6,by simp_arith[st],_,?_,some (.int (j:Int)),z6,rfl⟩
   rw[ej];have e2':zc2 (bNm 6) zcb ((List.range Ps[j].ds.length).map λ(m:Nat)=>T.int (m:Int)) [some (.lst (Ps.map ptT)),some (.int (i:Int)),some (.int (k:Int)),some (.str d.z),some (.own (a.map shO)),some (.int (j:Int)),y6]=_:=e2
   unfold zh3
   simp_arith[st,hs,za0 _ hs,aj,sdj,za0 _ sdj,za7,ya1,ok,er,e2']
  rw[yba,<- eg]at e;have ok:zmj (Ps.length:Int)=true:=zch (by omega)
  have er:zcq 0 Ps.length=(List.range Ps.length).map λ(m:Nat)=>T.int (m:Int):=zb8
  rw[lE]at e;have e':zc2 (bNm 5) zh3 ((List.range Ps.length).map λ(m:Nat)=>T.int (m:Int)) [some (.lst (Ps.map ptT)),some (.int (i:Int)),some (.int (k:Int)),some (.str d.z),some (.own []),none,none]=_:=e
  unfold ziw zkn
  simp_arith[hs,za0 _ hs,a1,a2,sd,sg,za0 _ sg,za7,at4,q0,ya1,ok,er,e',st]
abbrev zwl:Stmt:=top 55
theorem zEp:FnScope ["_law_parts_here","_law_due_here","_law_ways_here","_law_i","_law_k","_law_share","_law_way","_law_end","_law_looks","_law_noughts","_law_j","_law_m"] ["_law_parts_here"] (za2 zwl):=scM (by decide +kernel)
def zot:PSt->Option Rs :=
 (m2 neT (mIx (za5 3) (za5 0)) (mIx (mIx (mIx (mIx (za5 2) (za5 0)) (mC (.int 2))) (za5 1)) (mC (.int 0))))
def zpm:PSt->Option Rs :=
 (mC (.int 1))
def zi7:PSt->Option Out :=
 (zai (zHq 7 (za5 10) (mIx (mIx (mIx (mIx (za5 0) (za5 10)) (mC (.int 2))) (za5 11)) (mC (.int 1))))
 (zai (zco (m2 zf0 (za5 8) (mIx (mIx (mIx (mIx (za5 0) (za5 10)) (mC (.int 2))) (za5 11)) (mC (.int 2)))) (bNm 8))
 (zco (m2 zf0 (za5 9) (mIx (mIx (mIx (mIx (za5 0) (za5 10)) (mC (.int 2))) (za5 11)) (mC (.int 3)))) (bNm 9))))
def zi6:PSt->Option Out :=
 (sIf (m2 eqT (mLC 2 [0,6] (ze9 (za5 5)) (zg1 2 (zak (bNm 0) (zak (bNm 1) zg4))) zot zpm) (zea zac)) (zai (zki 7 (m1 zcp (za5 6)))
 (zai (zco (zea zac) (bNm 8))
 (zai (zco (zea zac) (bNm 9))
 (zai (zgf (ze9 (za5 5)) (zg1 2 (zak (bNm 10) (zak (bNm 11) zg4))) zi7)
 (ztv 1 (zol (za4 (mJn (mC (.str "/")) (za5 6)) (za4 (mJn (mC (.str "/")) (za5 7)) (za4 (za5 8) (za4 (za5 9) (za4 (za5 5) zac))))))))))) sNx)
def znm:PSt->Option Out :=
 (zgf (ze9 (za5 2)) (bNm 6) zi6)
def znn:PSt->Option Out :=
 (zgf (ze9 (zan ziw (za4 (za5 0) (za4 (za5 3) (za4 (za5 4) zac))))) (bNm 5) znm)
def zkd:PSt->Option Out :=
 (zgf (zba (za4 (m1 zhe (mIx (mIx (za5 0) (za5 3)) (mC (.int 2)))) zac)) (bNm 4) znn)
def zxj:PSt->Option Out :=
 (zai (zki 1 (zea zac))
 (zai (zco (zan zpp (za4 (za5 0) zac)) (bNm 2))
 (zai (zgf (zba (za4 (m1 zhe (za5 0)) zac)) (bNm 3) zkd)
 (zc1 (za5 1)))))
def zuw:List T->Option Ru:=zda 1 12 zxj
abbrev zya:Fn:=⟨2,["_law_parts_here"],zuw⟩
abbrev zGx:Gm:=⟨["_law_parts_here","_law_due_here","_law_ways_here","_law_i","_law_k","_law_share","_law_way","_law_end","_law_looks","_law_noughts","_law_j","_law_m"],(za2 zwl).names,["_law_parts_here","_law_way"],1,[("_law_ways",zui),("_law_goers",zr7)],["range","len","list"],[],["_law_end","_law_due_here"],[],false,[],[],[],gxD⟩
theorem zHc:dSs 200 zGx (zab zwl)=some zxj:=by kernel_rfl
theorem zkk{t u:T}{b:Bool}(h:eqT t u=some (.bl b)):neT t u=some (.bl (!b)):=by
 unfold eqT at h;unfold neT;split at h
 ·rename_i hok;rw[if_pos hok];injection h with h
  injection h with h
  rw[h]
 ·cases h
theorem zLw{α:Type}(L:List α):eqT (.lst (L.map λ_=>T.int 1)) (.lst [])=some (.bl (decide (L=[]))):=by
 cases L with
 |nil=>rfl
 |cons a r =>
  have f1:Fit (.lst ((a::r).map λ_=>T.int 1)) 1:=Fit.nd λt ht=>by
   obtain⟨x,_,rfl⟩:=yag.mp ht;exact Fit.int 1 0
  rw[(zyd f1 (Fit.nd (o:=false) (k:=.lst) (l:=[]) (n:=0) λ_ z=>by cases z) (by decide)).1]
  have e:¬ ((T.lst ((a::r).map λ_=>T.int 1)).data=(T.lst []).data):=λz=>by
   have z':PyData.list (zbs ((a::r).map λ_=>T.int 1))=PyData.list (zbs []):=z
   injection z' with z'
   cases z'
  rw[@decide_eq_false _ (Classical.propDecidable _) e]
  rfl
theorem zyb{α β:Type}(p:α->Bool)(f:α->β):∀L:List α,(L.flatMap λt=>if p t=true then [f t] else [])=(L.filter p).map f
 |[]=>rfl
 |a::r=>by
  rw[ybc,zyb p f r,List.filter_cons];split<;>rfl
theorem zEi(D:List (List Dr))(s:List (Nat×Nat))(t:List Str):decide ((s.filter λp=>!decide (t.getD p.1 ""=(dAt D p.1 p.2).s))=[])=stf D s t:=by
 unfold stf;rw[yc9,decide_eq_true_iff,List.filter_eq_nil_iff,yau];constructor
 ·intro h p hp;have:=h p hp;simp only[ybm,decide_eq_false_iff_not,Classical.not_not]at this;exact decide_eq_true this.symm
 ·intro h p hp;have:=of_decide_eq_true (h p hp);simp only[ybm,decide_eq_false_iff_not,Classical.not_not];exact this.symm
abbrev zrc(D:List (List Dr))(w:List (Nat×Nat)×List Str):T:=.tup [.str (jnS w.2),.str (jnS (enS D w.1 w.2)),.lst (gdS D w.1),.lst ((ntS D w.1).map T.str),shT w.1]
theorem zup{Ps:List Pt}(h:∀P∈Ps,PtOk P){x1 x2 x3 x4 x5 x6:Option T}:∀(s:List (Nat×Nat)) (e:List Str) (g:List T) (n:List Str) (y10 y11:Option T),zCf (dsP Ps) s->e.length=Ps.length->shL g=true->g.length+s.length * 1000<=100000->n.length+s.length * 1000<=100000->∃z10 z11,
  zc2 (zg1 2 (zak (bNm 10) (zak (bNm 11) zg4))) zi7 (s.map pqT) [some (.lst (Ps.map ptT)),x1,x2,x3,x4,x5,x6,some (.own (e.map T.str)),some (.lst g),some (.lst (n.map T.str)),y10,y11]=some (.nx [some (.lst (Ps.map ptT)),x1,x2,x3,x4,x5,x6,some (.own ((enS (dsP Ps) s e).map T.str)),some (.lst (g++gdS (dsP Ps) s)),some (.lst ((n++ntS (dsP Ps) s).map T.str)),z10,z11])
 |[],e,g,n,y10,y11,_,_,_,_,_=>⟨y10,y11,by unfold gdS ntS;rw[ybl,ybl,yap,yap];rfl⟩
 |p::s,e,g,n,y10,y11,hs,he,hg,hgl,hn=>by
  rw[yao,yd1,yd2]at hgl hn;have sm:=zna h;obtain⟨k1,k2⟩:=hs p (ya8 ..);obtain⟨P,hP,_,hd,a1,a2⟩:=zv7 h k1 k2;have sd:=(h P hP).sd;obtain⟨kd,gl,nl⟩:=(h P hP).d _ hd;have sg:=kd.g.sh;have a3:ixN e.length (p.1:Int)=some p.1:=zDo (by rw[he];rw[ya1]at k1;exact k1)
  generalize hdd:dAt (dsP Ps) p.1 p.2=d at *;have l1:g.length+d.g.length<=100000:=by omega
  have l2:n.length+d.n.length<=100000:=by omega
  have sgg:shL (g++d.g)=true:=by
   rw[zbj,List.all_append,<- zbj,<- zbj,hg,sg]
   rfl
  obtain⟨z10,z11,ih⟩:=zup h (x1:=x1) (x2:=x2) (x3:=x3) (x4:=x4) (x5:=x5) (x6:=x6) s (e.set p.1 d.e) (g++d.g) (n++d.n) (some (.int (p.1:Int))) (some (.int (p.2:Int))) (λq hq=>hs q (ya6 _ hq)) (by rw[ybs];exact he) sgg (by rw[yab];omega) (by rw[yab];omega)
  have body:zi7 [some (.lst (Ps.map ptT)),x1,x2,x3,x4,x5,x6,some (.own (e.map T.str)),some (.lst g),some (.lst (n.map T.str)),some (.int (p.1:Int)),some (.int (p.2:Int))]=some (.nx [some (.lst (Ps.map ptT)),x1,x2,x3,x4,x5,x6,some (.own ((e.set p.1 d.e).map T.str)),some (.lst (g++d.g)),some (.lst ((n++d.n).map T.str)),some (.int (p.1:Int)),some (.int (p.2:Int))]):=by
   have q1:(e.set p.1 d.e).map T.str=(e.map T.str).set p.1 (.str d.e):=List.map_set;have sn:zal (n.map T.str++d.n.map T.str)=n.map T.str++d.n.map T.str:=by rw[<- yaq,za3]
   rw[q1,yaq];unfold zi7;refine sq (τ':=[some (.lst (Ps.map ptT)),x1,x2,x3,x4,x5,x6,some (.own ((e.map T.str).set p.1 (.str d.e))),some (.lst g),some (.lst (n.map T.str)),some (.int (p.1:Int)),some (.int (p.2:Int))]) ?_ ?_
   ·simp_arith[sm,a1,a2,sd,sg,za7,ya1,a3]
   ·simp_arith[sm,a1,a2,sd,sg,za0 _ sg,hg,za0 _ hg,za7,za3,at3,ya1,l1,l2,za0 _ sgg,sn]
  have bind:zg1 2 (zak (bNm 10) (zak (bNm 11) zg4)) (pqT p) [some (.lst (Ps.map ptT)),x1,x2,x3,x4,x5,x6,some (.own (e.map T.str)),some (.lst g),some (.lst (n.map T.str)),y10,y11]=some [some (.lst (Ps.map ptT)),x1,x2,x3,x4,x5,x6,some (.own (e.map T.str)),some (.lst g),some (.lst (n.map T.str)),some (.int (p.1:Int)),some (.int (p.2:Int))]:=by simp_arith[]
  refine⟨z10,z11,?_⟩;rw[yaf];unfold zc2;simp only[bind,body];rw[ih];unfold gdS ntS enS;rw[ybc,ybc,List.foldl_cons,hdd,ybi,ybi]
theorem zLs{Ps:List Pt}(h:∀P∈Ps,PtOk P){s:List (Nat×Nat)}(hs:zCf (dsP Ps) s):shL (gdS (dsP Ps) s)=true:=by
 rw[zbj,yau];intro u hu;obtain⟨p,hp,hu⟩:=yb4.mp hu;obtain⟨k1,k2⟩:=hs p hp;obtain⟨P,hP,_,hd,_⟩:=zv7 h k1 k2;have:=((h P hP).d _ hd).1.g.sh;rw[zbj,yau]at this;exact this u hu
section
variable {Ps:List Pt}(h:∀P∈Ps,PtOk P)(hl:Ps.length<=6){ts:List (List Str)}(hts:∀t∈ts,t.length=Ps.length/\(∀r∈t,Shn r))(tl:ts.length<=64)
include h hl
abbrev dst(Ps:List Pt)(ts:List (List Str))(a:List (List (Nat×Nat)×List Str))(y3 y4 y5 y6 y7 y8 y9 y10 y11:Option T):PSt:=[some (.lst (Ps.map ptT)),some (.own (a.map (zrc (dsP Ps)))),some (.lst (ts.map tkT)),y3,y4,y5,y6,y7,y8,y9,y10,y11]
theorem zH3{s:List (Nat×Nat)}(hs:zCf (dsP Ps) s)(sl:s.length<=2){t:List Str}(ht:t.length=Ps.length/\(∀r∈t,Shn r)){a:List (List (Nat×Nat)×List Str)}(al:a.length<100000)(y3 y4 y7 y8 y9 y10 y11:Option T):∃z7 z8 z9 z10 z11,
  zi6 (dst Ps ts a y3 y4 (some (shT s)) (some (tkT t)) y7 y8 y9 y10 y11)=some (.nx (dst Ps ts (a++if stf (dsP Ps) s t=true then [(s,t)] else []) y3 y4 (some (shT s)) (some (tkT t)) z7 z8 z9 z10 z11)):=by
 have sm:=zna h
 have lc:zg5 (zg1 2 (zak (bNm 0) (zak (bNm 1) zg4))) zot zpm (s.map pqT) [none,none,some (.lst (Ps.map ptT)),some (tkT t)]=some ((s.filter λp=>!decide (t.getD p.1 ""=(dAt (dsP Ps) p.1 p.2).s)).map λ_=>T.int 1):=zua pqT (λ_=>T.int 1) (λp=>!decide (t.getD p.1 ""=(dAt (dsP Ps) p.1 p.2).s)) (λτ=>∃a b,τ=[a,b,some (.lst (Ps.map ptT)),some (tkT t)]) _ _ ⟨none,none,rfl⟩ λp hp τ hI=>by
  obtain⟨x,y,rfl⟩:=hI;obtain⟨k1,k2⟩:=hs p hp;obtain⟨P,hP,_,hd,a1,a2⟩:=zv7 h k1 k2;have sd:=(h P hP).sd;obtain⟨kd,_,_⟩:=(h P hP).d _ hd;have sg:=kd.g.sh;have it:p.1<t.length:=by rw[ht.1];rw[ya1]at k1;exact k1
  have a3:atI (t.map T.str) (p.1:Int)=some (.str (t.getD p.1 "")):=zb2 (by rw[ya3,ya0 it,ya7,ya0 it];rfl)
  have ox:PyData.strOk (t.getD p.1 "")=true:=zks (znv (ht.2 _ (by rw[ya7,ya0 it];exact yam it)))
  have q:=zkk (zeh ox (zks (znv ((h P hP).r _ kd.s))));generalize dAt (dsP Ps) p.1 p.2=d at *;refine⟨[some (.int (p.1:Int)),some (.int (p.2:Int)),some (.lst (Ps.map ptT)),some (tkT t)],false,by simp_arith[],?_,λ_=>by unfold zpm;simp_arith[],_,_,rfl⟩
  unfold zot
  simp_arith[sm,za7,a1,a2,a3,sd,sg,q]
 have qn:=zLw (s.filter λp=>!decide (t.getD p.1 ""=(dAt (dsP Ps) p.1 p.2).s))
 rw[zEi]at qn;have ss:s.length<=100000:=by omega
 have so:zal ((s.filter λp=>!decide (t.getD p.1 ""=(dAt (dsP Ps) p.1 p.2).s)).map λ_=>T.int 1)=(s.filter λp=>!decide (t.getD p.1 ""=(dAt (dsP Ps) p.1 p.2).s)).map λ_=>T.int 1:=za0 _ (zc0 λ_ _=>rfl)
 cases hst:stf (dsP Ps) s t with
 |false =>
  rw[hst]at qn;refine⟨y7,y8,y9,y10,y11,?_⟩;rw[if_neg (by decide),yap]
  unfold zi6
  simp_arith[sm,za7,zcr,zb3,ya1,ss,lc,so,qn]
 |true =>
  rw[hst]at qn;obtain⟨z10,z11,e⟩:=zup h (x1:=some (.own (a.map (zrc (dsP Ps))))) (x2:=some (.lst (ts.map tkT))) (x3:=y3) (x4:=y4) (x5:=some (shT s)) (x6:=some (tkT t)) s t [] [] y10 y11 hs ht.1 rfl (by rw[yaw];omega) (by rw[yaw];omega)
  rw[yba,yba,yc6]at e;have sg:=zLs h hs;have t6:t.length<=6:=by rw[ht.1];exact hl
  have j1:=zxs (t:=t) t6 λr hr=>yae (ht.2 r hr).2.2 (by decide)
  have j2:=zxs (t:=enS (dsP Ps) s t) (by rw[zp7];exact t6) λr hr=>by
   obtain⟨i,q⟩:=ybo.mp hr
   rcases zp6 _ s t i r q with q|⟨p,hp,_,rfl⟩
   ·exact yae (ht.2 r (yat q)).2.2 (by decide)
   ·obtain⟨k1,k2⟩:=hs p hp;obtain⟨P,hP,_,hd,_⟩:=zv7 h k1 k2;exact yae ((h P hP).r _ ((h P hP).d _ hd).1.e).2.2 (by decide)
  refine⟨some (.own ((enS (dsP Ps) s t).map T.str)),some (.lst (gdS (dsP Ps) s)),some (.lst ((ntS (dsP Ps) s).map T.str)),z10,z11,?_⟩;rw[if_pos rfl];unfold dst;rw[yaq];unfold zi6
  simp_arith[sm,za7,za3,zcr,zb3,ya1,ss,lc,so,qn,e,mJn,zh4,j1,j2,sg,za0 _ sg,al]
  rfl
end
theorem zGv{Ps:List Pt}(h:∀P∈Ps,PtOk P)(hl:Ps.length<=6)(i k:Nat):(gos (dsP Ps) i k).length<=24:=by
 have l6:(dsP Ps).length<=6:=by rw[ya1];exact hl
 unfold gos;split
 ·show 1<=24
  decide
 ·split
  ·exact yb2 _
  ·have:=zbm (g:=λj=>(List.range ((dsP Ps).getD j []).length).flatMap λm=>if j≠i/\(dAt (dsP Ps) j m).z=anS (dAt (dsP Ps) i k).z then [[(i,k),(j,m)]] else []) (m:=4) (L:=List.range (dsP Ps).length) λj hj=>by
    have hj:=yb6.mp hj;have hj':j<Ps.length:=by rw[ya1]at hj;exact hj
    have:=zbm (g:=λm=>if j≠i/\(dAt (dsP Ps) j m).z=anS (dAt (dsP Ps) i k).z then [[(i,k),(j,m)]] else []) (m:=1) (L:=List.range ((dsP Ps).getD j []).length) λm _=>by
     split
     ·exact yaa 1
     ·exact yb2 1
    rw[ybb,Nat.mul_one]at this;refine yae this ?_;rw[ya7,ya3,ya0 hj'];exact(h _ (yam hj')).dl
   rw[ybb]at this
   omega
theorem zE4(D:List (List Dr))(ts:List (List Str))(s:List (Nat×Nat)):(wy1 D ts s).length<=ts.length:=by
 unfold wy1;rw[ya1];exact List.length_filter_le _ _
theorem zLz{Ps:List Pt}(h:∀P∈Ps,PtOk P)(i:Nat):((dsP Ps).getD i []).length<=4:=by
 rw[ya7,ya3];cases e:Ps[i]? with
 |none=>exact yb2 4
 |some P=>exact(h P (yat e)).dl
theorem zvw{Ps:List Pt}(h:∀P∈Ps,PtOk P)(hl:Ps.length<=6){ts:List (List Str)}(tl:ts.length<=64):(∀i k,(wy2 (dsP Ps) ts i k).length<=1536)/\(∀i,(wy3 (dsP Ps) ts i).length<=6144)/\(wys (dsP Ps) ts).length<=36864:=by
 have h2:∀i k,(wy2 (dsP Ps) ts i k).length<=1536:=λi k=>by
  have:=zbm (g:=wy1 (dsP Ps) ts) (m:=64) (L:=gos (dsP Ps) i k) λs _=>yae (zE4 _ _ s) tl
  have:=zGv h hl i k;unfold wy2
  omega
 have h3:∀i,(wy3 (dsP Ps) ts i).length<=6144:=λi=>by
  have:=zbm (g:=wy2 (dsP Ps) ts i) (m:=1536) (L:=List.range ((dsP Ps).getD i []).length) λk _=>h2 i k
  rw[ybb]at this;have:=zLz h i;unfold wy3
  omega
 refine⟨h2,h3,?_⟩;have:=zbm (g:=wy3 (dsP Ps) ts) (m:=6144) (L:=List.range (dsP Ps).length) λk _=>h3 k
 rw[ybb]at this;have l6:(dsP Ps).length<=6:=by rw[ya1];exact hl
 unfold wys
 omega
theorem zLx{Ps:List Pt}(h:∀P∈Ps,PtOk P)(hl:Ps.length<=6)(hk:∀i,i<=Ps.length->(tak ((Ps.take i).map Pt.rs)).length<=64):zuw [.lst (Ps.map ptT)]=some (.ok (.own ((wys (dsP Ps) (tak (Ps.map Pt.rs))).map (zrc (dsP Ps))))):=by
 have sm:=zna h;have wo:=zE5 h hl hk;have tl:(tak (Ps.map Pt.rs)).length<=64:=by have:=hk Ps.length (yaa _);rwa[ybp]at this
 have hts:∀t∈tak (Ps.map Pt.rs),t.length=Ps.length/\(∀r∈t,Shn r):=λt ht=>by
  obtain⟨h1,h2⟩:=zkw ht;rw[ya1]at h1;refine⟨h1,λr hr=>?_⟩
  obtain⟨i,e⟩:=ybo.mp hr;obtain⟨rs,e1,e2⟩:=h2 i r e;rw[ya3]at e1;obtain⟨P,e3,rfl⟩:=ya2.mp e1;exact(h P (yat e3)).r r e2
 have st:=zg7 (tak (Ps.map Pt.rs));generalize tak (Ps.map Pt.rs)=ts at *;obtain⟨n2,n3,n4⟩:=zvw h hl tl;have lE:(dsP Ps).length=Ps.length:=ya1 _
 obtain⟨τ,e,y3,y4,y5,y6,y7,y8,y9,y10,y11,rfl⟩:=zck (b:=bNm 3) (body:=zkd) (λ(j:Nat)=>T.int (j:Int)) (λ(a:List (List (Nat×Nat)×List Str)) τ=>∃y3 y4 y5 y6 y7 y8 y9 y10 y11,τ=dst Ps ts a y3 y4 y5 y6 y7 y8 y9 y10 y11) (wy3 (dsP Ps) ts) 50000 (List.range (dsP Ps).length) [] (dst Ps ts [] none none none none none none none none none) ⟨_,_,_,_,_,_,_,_,_,rfl⟩ (by rw[yaw,ydb];show(wys (dsP Ps) ts).length<=50000;omega) λi hi a τ hS hN=>by
  obtain⟨y3,y4,y5,y6,y7,y8,y9,y10,y11,rfl⟩:=hS;have hi:=yb6.mp hi;have hi':i<Ps.length:=by omega
  have ei:(dsP Ps).getD i []=Ps[i].ds:=by rw[ya7,ya3,ya0 hi'];rfl
  have ai:atI (Ps.map ptT) (i:Int)=some (ptT Ps[i]):=zb2 (by rw[ya3,ya0 hi'];rfl)
  have ki:=h _ (yam hi');have sdi:=ki.sd
  obtain⟨τ2,e2,z4,z5,z6,z7,z8,z9,z10,z11,rfl⟩:=zck (b:=bNm 4) (body:=znn) (λ(j:Nat)=>T.int (j:Int)) (λ(a:List (List (Nat×Nat)×List Str)) τ=>∃y4 y5 y6 y7 y8 y9 y10 y11,τ=dst Ps ts a (some (.int (i:Int))) y4 y5 y6 y7 y8 y9 y10 y11) (wy2 (dsP Ps) ts i) 50000 (List.range ((dsP Ps).getD i []).length) a (dst Ps ts a (some (.int (i:Int))) y4 y5 y6 y7 y8 y9 y10 y11) ⟨_,_,_,_,_,_,_,_,rfl⟩ hN λk hk a τ hS hN=>by
   obtain⟨y4,y5,y6,y7,y8,y9,y10,y11,rfl⟩:=hS;have hk:=yb6.mp hk;have go:=zBn h hl hi hk
   have ss:zal ((gos (dsP Ps) i k).map shO)=(gos (dsP Ps) i k).map shT:=by
    rw[zap,yax];refine ybn λs _=>?_
    show T.nd false .lst (zal (s.map pqT))=_;rw[zb3]
   obtain⟨τ3,e3,w5,w6,w7,w8,w9,w10,w11,rfl⟩:=zck (b:=bNm 5) (body:=znm) shT (λ(a:List (List (Nat×Nat)×List Str)) τ=>∃y5 y6 y7 y8 y9 y10 y11,τ=dst Ps ts a (some (.int (i:Int))) (some (.int (k:Int))) y5 y6 y7 y8 y9 y10 y11) (wy1 (dsP Ps) ts) 50000 (gos (dsP Ps) i k) a (dst Ps ts a (some (.int (i:Int))) (some (.int (k:Int))) y5 y6 y7 y8 y9 y10 y11) ⟨_,_,_,_,_,_,_,rfl⟩ hN λs hs a τ hS hN=>by
    obtain⟨y5,y6,y7,y8,y9,y10,y11,rfl⟩:=hS;obtain⟨g1,g2,_⟩:=zqz hi hk hs;have ew:wy1 (dsP Ps) ts s=ts.flatMap λt=>if stf (dsP Ps) s t=true then [(s,t)] else []:=(zyb (stf (dsP Ps) s) (λt=>(s,t)) ts).symm
    rw[ew]at hN ⊢
    obtain⟨τ4,e4,v6,v7,v8,v9,v10,v11,rfl⟩:=zck (b:=bNm 6) (body:=zi6) tkT (λ(a:List (List (Nat×Nat)×List Str)) τ=>∃y6 y7 y8 y9 y10 y11,τ=dst Ps ts a (some (.int (i:Int))) (some (.int (k:Int))) (some (shT s)) y6 y7 y8 y9 y10 y11) (λt=>if stf (dsP Ps) s t=true then [(s,t)] else []) 50000 ts a (dst Ps ts a (some (.int (i:Int))) (some (.int (k:Int))) (some (shT s)) y6 y7 y8 y9 y10 y11) ⟨_,_,_,_,_,_,rfl⟩ hN λt ht a τ hS hN=>by
     obtain⟨y6,y7,y8,y9,y10,y11,rfl⟩:=hS;obtain⟨v7,v8,v9,v10,v11,ew⟩:=zH3 h hl (ts:=ts) g1 g2 (hts t ht) (a:=a) (by omega) (some (.int (i:Int))) (some (.int (k:Int))) y7 y8 y9 y10 y11
     exact⟨_,by simp_arith[dst],_,ew,_,_,_,_,_,_,rfl⟩
    refine⟨dst Ps ts a (some (.int (i:Int))) (some (.int (k:Int))) (some (shT s)) y6 y7 y8 y9 y10 y11,by simp_arith[dst],_,?_,some (shT s),v6,v7,v8,v9,v10,v11,rfl⟩
    unfold znm
    simp_arith[st,za0 _ st,e4]
   refine⟨dst Ps ts a (some (.int (i:Int))) (some (.int (k:Int))) y5 y6 y7 y8 y9 y10 y11,by simp_arith[dst],_,?_,some (.int (k:Int)),w5,w6,w7,w8,w9,w10,w11,rfl⟩
   unfold znn
   simp_arith[sm,za0 _ sm,go,ss,e3]
   rfl
  rw[ei]at e2;have ok:zmj (Ps[i].ds.length:Int)=true:=zch (by have:=ki.dl;omega)
  have er:zcq 0 Ps[i].ds.length=(List.range Ps[i].ds.length).map λ(m:Nat)=>T.int (m:Int):=zb8
  refine⟨dst Ps ts a (some (.int (i:Int))) y4 y5 y6 y7 y8 y9 y10 y11,by simp_arith[dst],_,?_,some (.int (i:Int)),z4,z5,z6,z7,z8,z9,z10,z11,rfl⟩
  rw[show wy3 (dsP Ps) ts i=(List.range Ps[i].ds.length).flatMap (wy2 (dsP Ps) ts i) by unfold wy3;rw[ei]]
  unfold zkd
  simp_arith[sm,za0 _ sm,ai,sdi,za0 _ sdi,za7,ya1,ok,er,e2]
 rw[yba,lE]at e;have ok:zmj (Ps.length:Int)=true:=zch (by omega)
 have er:zcq 0 Ps.length=(List.range Ps.length).map λ(m:Nat)=>T.int (m:Int):=zb8
 have ew:(List.range Ps.length).flatMap (wy3 (dsP Ps) ts)=wys (dsP Ps) ts:=by unfold wys;rw[lE]
 rw[ew]at e;have e':zc2 (bNm 3) zkd ((List.range Ps.length).map λ(m:Nat)=>T.int (m:Int)) [some (.lst (Ps.map ptT)),some (.own []),some (.lst (ts.map tkT)),none,none,none,none,none,none,none,none,none]=_:=e
 unfold zuw zxj
 simp_arith[sm,za0 _ sm,wo,st,za0 _ st,ya1,ok,er,e',dst]
abbrev zj2:Stmt:=top 52
theorem zs6:FnScope ["_law_part","_law_made","_law_watches","_law_rooms","_law_doors"] ["_law_part"] (za2 zj2):=scM (by decide +kernel)
def zgw:PSt->Option Rs :=
 (zB6 zc9 [] (za4 (mIx (za5 0) (mC (.int 0))) (za4 (mIx (za5 0) (mC (.int 1))) (za4 (m1 zcp (mIx (za5 0) (mC (.int 2)))) (za4 (m1 zcp (mIx (za5 0) (mC (.int 3)))) (za4 (mIx (za5 0) (mC (.int 4))) zac))))))
def zgv:PSt->Option Rs :=
 (zol (za4 (za5 0) (za4 (zea zac) zac)))
def zjd:PSt->Option Out :=
 (zai (zco (za5 0) (zg1 3 (zak (bNm 2) (zak (bNm 3) (zak (bNm 4) zg4)))))
 (zai (zco (mLC 1 [] (ze9 (za5 4)) (bNm 0) (mC (.bl true)) zgw) (bNm 1))
 (zc1 (zB6 zay [] (za4 (m1 zcp (za5 2)) (za4 (mLC 1 [] (ze9 (za5 3)) (bNm 0) (mC (.bl true)) zgv) (za4 (za5 1) zac)))))))
def zhb:List T->Option Ru:=zda 1 5 zjd
abbrev zlx:Fn:=⟨8,["_law_part"],zhb⟩
abbrev zsw:Gx:=⟨[],[],[],[("Door",zjx,[(5,[])]),("Machine",zgq,[(3,[])])],false,true,true,none,[],[],[],true,[],[],[],[]⟩
abbrev zt1:Gm:=⟨["_law_part","_law_made","_law_watches","_law_rooms","_law_doors"],(za2 zj2).names,[],7,[],["list"],[],[],[],false,[],[],[],zsw⟩
theorem ztd:dSs 200 zt1 (zab zj2)=some zjd:=by kernel_rfl
theorem zGb{P:Pt}(h:PtOk P):zhb [ptT P]=some (.ok (mcT (mcP P))):=by
 have sd:=h.sd;have mi:zay [.lst (P.ws.map T.str),zv6 (mcP P).rs,.lst (P.ds.map zau)]=some (.ok (mcT (mcP P))):=zxd h.mc;have er:(mcP P).rs.map zkj=P.rs.map λr=>T.tup [.str r,.lst []]:=by unfold mcP;rw[yax];rfl
 rw[show zv6 (mcP P).rs=.lst (P.rs.map λr=>T.tup [.str r,.lst []]) from congrArg T.lst er]at mi
 have rl:=h.rl;have dl:=h.dl;have l1:P.ds.length<=100000:=by omega
 have l2:P.rs.length<=100000:=by omega
 have lc1:zg5 (bNm 0) (mC (.bl true)) zgw (P.ds.map dtT) [none]=some (P.ds.map zau):=zbq dtT zau (λτ=>∃a,τ=[a]) _ _ ⟨none,rfl⟩ λd hd τ hI=>by
  obtain⟨a,rfl⟩:=hI;have k:=(h.d d hd).1;have sg:=k.g.sh;have di:=di_ok k;exact⟨[some (dtT d)],by simp_arith[],by unfold zgw;simp_arith[sg,za0 _ sg,za7,za3,at3,at4,di],_,rfl⟩
 have lc2:zg5 (bNm 0) (mC (.bl true)) zgv (P.rs.map T.str) [none]=some (P.rs.map λr=>T.tup [.str r,.lst []]):=zbq T.str (λr=>T.tup [.str r,.lst []]) (λτ=>∃a,τ=[a]) _ _ ⟨none,rfl⟩ λr hr τ hI=>by
  obtain⟨a,rfl⟩:=hI;exact⟨[some (.str r)],by simp_arith[],by unfold zgv;simp_arith[],_,rfl⟩
 have s1:shL (P.ds.map zau)=true:=h.mc.sd;have s2:shL (P.rs.map λr=>T.tup [.str r,.lst []])=true:=zc0 λ_ _=>rfl
 unfold zhb zjd
 simp_arith[sd,za0 _ sd,za7,za3,ya1,l1,l2,lc1,lc2,s1,za0 _ s1,s2,za0 _ s2,mi]
abbrev zsa:Stmt:=top 56
theorem zA4:FnScope ["_law_machines","_law_way","e"] ["_law_machines","_law_way"] (za2 zsa):=scM (by decide +kernel)
def zoi:PSt->Option Out :=
 (zai (zHp 2 zgz (sIf (m2 eqT (za5 1) (mC (.int 0))) (zzh (zan zby (za4 (za5 0) zac))) (zzh (zan zd7 (za4 (za5 0) zac)))) (zc1 (m1 (zHs zgx) (za5 2))))
 (zc1 (mC (.bl false))))
def zjm:List T->Option Ru:=zda 2 3 zoi
abbrev zuk:Fn:=⟨9,["_law_machines","_law_way"],zjm⟩
abbrev zBk:Gx:=⟨[],[],[],[],false,true,true,none,[("TooMany",zgz)],[],[("ValueError",zgx)],true,[],[],[],[]⟩
abbrev zBr:Gm:=⟨["_law_machines","_law_way","e"],(za2 zsa).names,[],8,[("together",zhz),("shares",zlt)],["isinstance"],[],[],[],false,[],[],[],zBk⟩
theorem zC6:dSs 200 zBr (zab zsa)=some zoi:=by kernel_rfl
theorem zxh{Ms:List Mc}(h:MsOk Ms)(hr:RmOk Ms)(hf:FwOk Ms)(hw:200<(wys (dss Ms) (tks Ms)).length)(w:Int)(h01:w=0\/w=1):zjm [.lst (Ms.map mcT),.int w]=some (.ok (.bl true)):=by
 have sm:=zfx h.m;have to:zby [.lst (Ms.map mcT)]=some (.exc "TooMany"):=(zCj h hr hf).elim (λz=>absurd z.1 (by omega)) (·.2)
 have sh:zd7 [.lst (Ms.map mcT)]=some (.exc "TooMany"):=(zCs h hr).elim (λz=>absurd z.1 (by omega)) (·.2)
 obtain⟨C,x0,x1⟩:∃C,zgz.lookup (Str.ofString "TooMany")=some C/\zgx.lookup C=some true:=⟨(zgz.lookup (Str.ofString "TooMany")).getD 0,by decide +kernel,by decide +kernel⟩
 rcases h01 with rfl|rfl
 ·unfold zjm zoi
  simp_arith[sm,za0 _ sm,zio,to,x0,x1]
 ·unfold zjm zoi
  simp_arith[sm,za0 _ sm,zio,sh,x0,x1]
abbrev zs9:Stmt:=top 57
theorem zA3:FnScope ["_law_door_here","_law_one"] ["_law_door_here","_law_one"] (za2 zs9):=scM (by decide +kernel)
def zsp:PSt->Option Out :=
 (zai (sIf (mOr (zf4 (m1 (zzj znl) (za5 0))) (mOr (m2 neT (zih zah zaq 0 (za5 0)) (mIx (za5 1) (mC (.int 0)))) (mOr (m2 neT (zih zah zaq 1 (za5 0)) (mIx (za5 1) (mC (.int 1)))) (m2 neT (zih zah zaq 4 (za5 0)) (mC (.str "")))))) (zc1 (mC (.bl false))) sNx)
 (zc1 (zom (m2 eqT (zg2 zah zaq zca (za5 0) zac) (mIx (za5 1) (mC (.int 2)))) (m2 eqT (zg2 zah zaq zc8 (za5 0) zac) (mIx (za5 1) (mC (.int 3)))))))
def zpq:List T->Option Ru:=zda 2 2 zsp
abbrev zuj:Fn:=⟨2,["_law_door_here","_law_one"],zpq⟩
abbrev zBj:Gx:=⟨[],[("Door",zah,zaq)],[("asks",zah,zaq,zjy),("sets",zah,zaq,zjw)],[],false,true,true,none,[],[],[],true,[],[("Door",znl)],[],[]⟩
abbrev zBq:Gm:=⟨["_law_door_here","_law_one"],(za2 zs9).names,[],1,[],["isinstance"],[],[],[],false,[],[],[],zBj⟩
theorem zC5:dSs 200 zBq (zab zs9)=some zsp:=by kernel_rfl
theorem zGe{ws:List Str}(h:Txs ws){g:List T}(hg:Lks ws wdS g):Fit (.lst g) 2:=Fit.nd λt ht=>by
 obtain⟨x,y,n,rfl,h1,h2,_⟩:=hg t ht;refine Fit.tup λt ht=>?_
 simp only[yaj,ybx,or_false]at ht
 rcases ht with rfl|rfl|rfl
 ·exact Fit.str (h x h1) _
 ·exact Fit.str (zI6 y h2) _
 ·exact Fit.int _ _
theorem zEq{ws ns:List Str}(hw:Txs ws)(hn:Txs ns){d:Dr}(h:DrOk ws ns d)(hz:d.z="")(s:List (Nat×Nat)):zpq [zau d,.tup [.str d.s,.str d.e,.lst d.g,.lst (d.n.map T.str),shT s]]=some (.ok (.bl true)):=by
 obtain⟨ds,de,dg,dn,dz⟩:=d;cases (show dz=Str.ofString "" from hz);have sg:=h.g.sh;have e1:=zkk (zeh (hn _ h.s) (hn _ h.s));have e2:=zkk (zeh (hn _ h.e) (hn _ h.e));have e3:=zkk (zeh zBw zBw);rw[decide_eq_true rfl]at e1 e2 e3;have f1:=zyh sg;have f2:=zye sg;have fg:=zGe hw h.g;have q1:=(zt5 fg (by decide) rfl fg).1
 have fn:Fit (.lst (dn.map T.str)) 1:=zum λx hx=>hw x (h.n x hx)
 have q2:=(zt5 fn (by decide) rfl fn).1
 have lk:List.lookup zah znl=some true:=by decide +kernel
 unfold zpq zsp
 simp_arith[zzj,lk,sg,za0 _ sg,za7,za3,zcr,zb3,e1,e2,e3,f1,f2,at3,q1,q2]
abbrev zwj:Stmt:=top 58
theorem zJ2:FnScope ["_law_script","_law_parts_here","_law_machines","_law_due_here","_law_whole","_law_told","_law_doors","_law_share"] ["_law_script"] (za2 zwj):=scM (by decide +kernel)
def ztf:PSt->Option Rs :=
 (zan zhb (za4 (za5 0) zac))
def zpl:PSt->Option Rs :=
 (zan zpq (za4 (za5 0) (za4 (za5 1) zac)))
def zpk:PSt->Option Rs :=
 (mIx (za5 0) (mC (.int 4)))
def zm8:PSt->Option Rs :=
 (m1 (zdy "list") (za5 0))
def zpj:PSt->Option Rs :=
 (mIx (za5 0) (mC (.int 4)))
def zxi:PSt->Option Out :=
 (zai (zco (zan zkq (za4 (za5 0) zac)) (bNm 1))
 (zai (zco (mLC 1 [] (ze9 (za5 1)) (bNm 0) (mC (.bl true)) ztf) (bNm 2))
 (zai (zco (zan zuw (za4 (za5 1) zac)) (bNm 3))
 (zai (sIf (m2 (zp9 λi j=>decide (j<i)) (m1 zhe (za5 3)) (mC (.int 200))) (zc1 (zom (zan zjm (za4 (m1 zcp (za5 2)) (za4 (mC (.int 0)) zac))) (zan zjm (za4 (m1 zcp (za5 2)) (za4 (mC (.int 1)) zac))))) sNx)
 (zai (zco (zan zby (za4 (m1 zcp (za5 2)) zac)) (bNm 4))
 (zai (zki 5 (zan zd7 (za4 (m1 zcp (za5 2)) zac)))
 (zai (zki 6 (zg2 za8 zaa zam (za5 4) zac))
 (zai (sIf (mOr (zf4 (m1 (zdy "list") (za5 6))) (mOr (m2 neT (m1 zhe (za5 6)) (m1 zhe (za5 3))) (zf4 (m1 (zdy "list") (za5 5))))) (zc1 (mC (.bl false))) sNx)
 (zai (sIf (zB8 6 (zf4 (m1 zth (mLC 2 [] (zou (za4 (za5 6) (za4 (za5 3) zac))) (zg1 2 (zak (bNm 0) (zak (bNm 1) zg4))) (mC (.bl true)) zpl)))) (zc1 (mC (.bl false))) sNx)
 (zai (sIf (zB8 5 (mOr (m2 neT (za5 5) (mLC 1 [] (ze9 (za5 3)) (bNm 0) (mC (.bl true)) zpk)) (zf4 (m1 zth (mLC 1 [] (ze9 (za5 5)) (bNm 0) (mC (.bl true)) zm8))))) (zc1 (mC (.bl false))) sNx)
 (zai (zwm 5 7)
 (zai (zJc 6)
 (zc1 (zom (m2 eqT (zan zd7 (za4 (m1 zcp (za5 2)) zac)) (mLC 1 [] (ze9 (za5 3)) (bNm 0) (mC (.bl true)) zpj)) (m2 eqT (m1 zhe (zg2 za8 zaa zam (za5 4) zac)) (m1 zhe (za5 3)))))))))))))))))
def zCg:List T->Option Ru:=zda 1 8 zxi
abbrev zLp:Gx:=⟨[],[],[("doors",za8,zaa,zde)],[],false,true,true,none,[],[],[],true,["_law_told"],[],[],[]⟩
abbrev zDr:Gm:=⟨["_law_script","_law_parts_here","_law_machines","_law_due_here","_law_whole","_law_told","_law_doors","_law_share"],(za2 zwj).names,[],9,[("_law_parts",zr4),("_law_machine",zlx),("_law_due",zya),("_law_many",zuk),("together",zhz),("shares",zlt),("_law_same",zuj)],["len","list","isinstance","all","zip"],[],["_law_doors","_law_share","_law_told"],[],false,[],["_law_told","_law_doors"],[],zLp⟩
theorem zMa:dSs 200 zDr (zab zwj)=some zxi:=by kernel_rfl
theorem zti{α:Type}(f g:α->T):∀L:List α,zHm (L.map f) (L.map g)=L.map λx=>T.tup [f x,g x]
 |[]=>rfl
 |x::L=>by
  rw[yaf,yaf,yaf,<- zti f g L]
  rfl
theorem zE9(a b:List (List Str)):tak (a++b)=b.foldl zi3 (tak a):=by unfold tak;rw[List.foldl_append]
theorem zy9:∀(rss ts:List (List Str)),(∀rs∈rss,rs≠[])->ts.length<=(rss.foldl zi3 ts).length
 |[],_,_=>yaa _
 |rs::rss,ts,h=>by
  refine yae ?_ (zy9 rss (zi3 ts rs) λx hx=>h x (ya6 _ hx))
  rw[ztq];exact Nat.le_mul_of_pos_right _ (ycs.mpr (h rs (ya8 ..)))
theorem zEa{ts:List (List Str)}{rs:List Str}(h1:ts.Nodup)(h2:rs.Nodup):(zi3 ts rs).Nodup:=by
 unfold zi3;refine List.pairwise_flatMap.mpr ⟨λt _=>ydr.mpr (h2.imp λ{a b} hab e=>hab ?_),h1.imp λ{a b} hab x hx y hy e=>hab ?_⟩
 ·have:=List.append_cancel_left e;injection this
 ·obtain⟨r,_,rfl⟩:=yag.mp hx;obtain⟨r',_,rfl⟩:=yag.mp hy;exact(List.append_inj' e rfl).1
theorem zy8:∀(rss ts:List (List Str)),ts.Nodup->(∀rs∈rss,rs.Nodup)->(rss.foldl zi3 ts).Nodup
 |[],_,h,_=>h
 |rs::rss,ts,h,hr=>zy8 rss (zi3 ts rs) (zEa h (hr rs (ya8 ..))) λx hx=>hr x (ya6 _ hx)
theorem zBd(t:List Str):Tx.cs (jnS t)=Tx.joinL 47 (t.map Tx.cs):=by
 have e:(Str.ofString "/")=⟨#[47]⟩:=Tx.cs_ext (by decide +kernel)
 have j:jnS t=Str.join (Str.ofString "/") t:=eq_of_beq (PyProof.Rows.join_plain_closes _ _);rw[j,e,Tx.cs_join]
theorem zqo{c x:Nat}:∀{l:List (List Nat)},x∈Tx.joinL c l->x=c\/∃p∈l,x∈p
 |[],h=>by cases h
 |[a],h=>.inr ⟨a,ya9.mpr rfl,h⟩
 |a::b::r,h=>by
  have h':x∈a++c::Tx.joinL c (b::r):=h
  rcases ybe.mp h' with h'|h'
  ·exact .inr ⟨a,ya8 ..,h'⟩
  ·rcases yaj.mp h' with h'|h'
   ·exact .inl h'
   ·rcases zqo h' with h'|⟨p,hp,h'⟩
    ·exact .inl h'
    ·exact .inr ⟨p,ya6 _ hp,h'⟩
theorem zqp{c m:Nat}:∀{l:List (List Nat)},(∀p∈l,p.length<=m)->(Tx.joinL c l).length<=l.length * (m+1)
 |[],_=>yb2 _
 |[a],h=>by
  have:=h a (ya9.mpr rfl);show a.length<=1 * (m+1)
  omega
 |a::b::r,h=>by
  have h1:=h a (ya8 ..);have h2:=zqp (c:=c) (l:=b::r) λp hp=>h p (ya6 _ hp)
  show(a++c::Tx.joinL c (b::r)).length<=_;rw[yab,yao,yao (a:=a),yd1,yd2]
  omega
theorem zCr{x:Str}(h:Shn x):∀c∈Tx.cs x,c≠47:=λc hc z=>by
 have:=zq3 h.1 c hc
 omega
theorem jn_ok{t:List Str}(h0:t≠[])(hl:t.length<=6)(h:∀r∈t,Shn r):Rmn (jnS t)/\1<=(jnS t).cps.size/\(jnS t).cps.size<=60:=by
 have sz:(jnS t).cps.size=(Tx.joinL 47 (t.map Tx.cs)).length:=by rw[<- zBd];rfl
 refine⟨λi hi=>?_,?_,?_⟩
 ·have hm:(jnS t).cps.getD i 0∈Tx.cs (jnS t):=by
   rw[ybu,yb8 hi];exact Array.getElem_mem_toList hi
  rw[zBd]at hm
  rcases zqo hm with hm|⟨p,hp,hm⟩
  ·exact .inl hm
  ·obtain⟨r,hr,rfl⟩:=yag.mp hp;exact .inr (zq3 (h r hr).1 _ hm)
 ·rw[sz];cases t with
  |nil=>exact absurd rfl h0
  |cons a r =>
   have ha:1<=(Tx.cs a).length:=(h a (ya8 ..)).2.1;cases r with
   |nil=>exact ha
   |cons b r =>
    show 1<=(Tx.cs a++47::Tx.joinL 47 ((b::r).map Tx.cs)).length;rw[yab]
    omega
 ·rw[sz]
  have:=zqp (c:=47) (m:=8) (l:=t.map Tx.cs) λp hp=>by
   obtain⟨r,hr,rfl⟩:=yag.mp hp;exact(h r hr).2.2
  rw[ya1]at this
  omega
theorem zLg{t u:List Str}(ht:t≠[])(hu:u≠[])(h1:∀r∈t,Shn r)(h2:∀r∈u,Shn r)(e:jnS t=jnS u):t=u:=by
 have e':=congrArg Tx.cs e;rw[zBd,zBd]at e';refine Tx.map_cs_inj (Tx.joinL_inj (by simpa using ht) (by simpa using hu) (λp hp z=>?_) (λp hp z=>?_) e')
 ·obtain⟨r,hr,rfl⟩:=yag.mp hp;exact zCr (h1 r hr) 47 z rfl
 ·obtain⟨r,hr,rfl⟩:=yag.mp hp;exact zCr (h2 r hr) 47 z rfl
section
variable {c:Int}{n:Nat}{Ps:List Pt}(h1:1<=n)(h4:n<=4)(h:PsI c n Ps)
theorem zB1(Ps:List Pt):(Ps.map mcP).map Mc.nm=Ps.map Pt.rs:=by
 rw[yax];exact ybn λP _=>zxg P
theorem ds_eq(Ps:List Pt):dss (Ps.map mcP)=dsP Ps:=by
 unfold dss dsP;rw[yax]
 rfl
theorem zI4(Ps:List Pt):(Ps.map mcP).flatMap Mc.ws=Ps.flatMap Pt.ws:=by rw[List.flatMap_map];rfl
include h1 h4 h
theorem ms_ok:MsOk (Ps.map mcP):=by
 obtain⟨ks,e,k1,k2,_,k4⟩:=h.w;refine⟨by rw[ya1,h.l];exact h1,by rw[ya1,h.l];omega,λM hM=>?_,by rw[zI4,e,ya1];exact k4,by rw[zI4,e];exact zqk k1 λk hk=>by have:=k2 k hk;omega⟩
 obtain⟨P,hP,rfl⟩:=yag.mp hM;exact(h.p P hP).mc
theorem zCk:∀i,i<=Ps.length->(tak ((Ps.take i).map Pt.rs)).length<=64:=λi _=>by
 have e:Ps.map Pt.rs=(Ps.take i).map Pt.rs++(Ps.drop i).map Pt.rs:=by rw[<- yaq,List.take_append_drop]
 have t:=h.t.2;rw[e,zE9]at t;refine yae (zy9 ((Ps.drop i).map Pt.rs) _ λrs hrs=>?_) (yae t (by decide))
 obtain⟨P,hP,rfl⟩:=yag.mp hrs;exact(h.p P (List.mem_of_mem_drop hP)).r0
theorem rm_ok:RmOk (Ps.map mcP):=by
 have key:∀t∈tak (Ps.map Pt.rs),t≠[]/\t.length<=6/\∀r∈t,Shn r:=λt ht=>by
  obtain⟨k1,k2⟩:=zkw ht;rw[ya1,h.l]at k1;refine⟨λz=>by rw[z,yaw]at k1;omega,by omega,λr hr=>?_⟩
  obtain⟨i,e⟩:=ybo.mp hr;obtain⟨rs,e1,e2⟩:=k2 i r e;rw[ya3]at e1;obtain⟨P,e3,rfl⟩:=ya2.mp e1;exact(h.p P (yat e3)).r r e2
 refine⟨λi hi=>?_,λM hM r hr=>?_,λt ht=>?_,?_⟩
 ·rw[<- List.map_take,zB1];exact zCk h1 h4 h i (by rw[ya1]at hi;exact hi)
 ·obtain⟨P,hP,rfl⟩:=yag.mp hM;rw[zxg]at hr;exact yae ((h.p P hP).r r hr).2.2 (by decide)
 ·rw[zB1]at ht;obtain⟨k1,k2,k3⟩:=key t ht;exact jn_ok k1 k2 k3
 ·rw[zB1]
  have nd:(tak (Ps.map Pt.rs)).Nodup:=zy8 _ _ (by simp) λrs hrs=>by
   obtain⟨P,hP,rfl⟩:=yag.mp hrs;exact(h.p P hP).rd
  exact ydr.mpr (nd.imp_of_mem λ{a b} ha hb hab e=>hab (zLg (key a ha).1 (key b hb).1 (key a ha).2.2 (key b hb).2.2 e))
theorem fw_ok:FwOk (Ps.map mcP):=by
 refine⟨λM hM r hr=>?_,λM hM d hd=>?_,λM hM d hd=>?_⟩<;>obtain⟨P,hP,rfl⟩:=yag.mp hM
 ·obtain⟨x,hx,rfl⟩:=yag.mp hr;exact yb2 _
 ·exact yae ((h.p P hP).d d hd).2.1 (by decide)
 ·exact yae ((h.p P hP).d d hd).2.2 (by decide)
end
theorem zEx{α:Type}(f:α->List (Nat×Nat))(L:List α)(h:∀x∈L,(f x).length<=2):zl6 (L.map λx=>shO (f x))=true:=by
 induction L with
 |nil=>rfl
 |cons a r ih =>
  rw[yaf];unfold zl6 zu5;rw[ih λx hx=>h x (ya6 _ hx)]
  have:=h a (ya8 ..);show(decide (((f a).map pqT).length<1000000) && true)=true;rw[ya1,decide_eq_true (by omega)]
  rfl
abbrev sL(ns:List Int)(Ps:List Pt)(Ms:List Mc)(W:List (List (Nat×Nat)×List Str))(X:T)(x5 x6:Option T):PSt:=[some (zaw ns),some (.lst (Ps.map ptT)),some (.lst (Ms.map mcT)),some (.lst (W.map (zrc (dss Ms)))),some X,x5,x6,none]
theorem law_true(ns:List Int)(hns:ns.length<=63):zCg [zaw ns]=some (.ok (.bl true)):=by
 obtain⟨c,n,Ps,h1,h4,h,pe⟩:=zAs (ns:=ns);have F:=zkx ns;have F2:=zg9 ns;have hm:=ms_ok h1 h4 h;have hr:=rm_ok h1 h4 h;have hf:=fw_ok h1 h4 h;have sp:=zna h.p;have pl:Ps.length<=6:=by rw[h.l];omega
 have du:=zLx h.p pl (zCk h1 h4 h);have ed:=ds_eq Ps;have et:tks (Ps.map mcP)=tak (Ps.map Pt.rs):=by unfold tks;rw[zB1]
 have lc2:zg5 (bNm 0) (mC (.bl true)) ztf (Ps.map ptT) [none]=some ((Ps.map mcP).map mcT):=by
  rw[yax]
  exact zbq ptT (λP=>mcT (mcP P)) (λτ=>∃a,τ=[a]) _ _ ⟨none,rfl⟩ λP hP τ hI=>by
   obtain⟨a,rfl⟩:=hI;have k:=zGb (h.p P hP);have sd:=(h.p P hP).sd;exact⟨[some (ptT P)],by simp_arith[],by unfold ztf;simp_arith[sd,za0 _ sd,za7,za3,k],_,rfl⟩
 rw[<- ed,<- et]at du;have wl:=(zvw h.p pl (ts:=tks (Ps.map mcP)) (by rw[et];exact yae h.t.2 (by decide))).2.2
 rw[<- ed]at wl
 have gsh:∀w∈wys (dss (Ps.map mcP)) (tks (Ps.map mcP)),shL (gdS (dss (Ps.map mcP)) w.1)=true/\w.1.length<=2:=λw hw=>by
  obtain⟨_,i,k,hi,hk,hs,_⟩:=zry hw;obtain⟨g1,g2,_⟩:=zqz hi hk hs;rw[ed]at g1 ⊢;exact⟨zLs h.p g1,g2⟩
 generalize Ps.map mcP=Ms at *;obtain⟨W,hW⟩:∃W,wys (dss Ms) (tks Ms)=W:=⟨_,rfl⟩;have sm:=zfx hm.m;rw[hW]at du wl gsh
 have sdu:shL (W.map (zrc (dss Ms)))=true:=zc0 λw hw=>by
  have:=(gsh w hw).1
  simp_arith[this,za7,zcr]
 have lW:W.length<=100000:=by omega
 have lP:Ps.length<=100000:=by omega
 by_cases h200:200<W.length
 ·have m0:=zxh hm hr hf (by rw[hW];exact h200) 0 (.inl rfl)
  have m1:=zxh hm hr hf (by rw[hW];exact h200) 1 (.inr rfl)
  have g:decide ((200:Int)<(W.length:Int))=true:=decide_eq_true (by omega)
  unfold zCg zxi
  simp_arith[F,F2,pe,sp,za0 _ sp,ya1,lP,lc2,sm,za0 _ sm,du,sdu,za0 _ sdu,g,m0,m1]
 ·have g:decide ((200:Int)<(W.length:Int))=false:=decide_eq_false (by omega)
  have to:zby [.lst (Ms.map mcT)]=some (.ok (mcT (whl Ms))):=(zCj hm hr hf).elim (·.2) λz=>absurd z.1 (by rw[hW];omega)
  have sh:zd7 [.lst (Ms.map mcT)]=some (.ok (.own (W.map λw=>shO w.1))):=by
   rw[<- hW];exact(zCs hm hr).elim (·.2) λz=>absurd z.1 (by rw[hW];omega)
  have ok:=zCh hm hr hf (by rw[hW];omega)
  have k1:=zld ok
  have kd:zam [mcT (whl Ms)]=some (.ok (.own (W.map λw=>zau (wdr (dss Ms) w)))):=by
   have:=zG9 ok;rw[show(whl Ms).ds.map zau=W.map λw=>zau (wdr (dss Ms) w) by unfold whl;rw[hW,yax];rfl]at this
   exact this
  have sds:shL (W.map λw=>zau (wdr (dss Ms) w))=true:=by
   have:=ok.sd;rw[show(whl Ms).ds.map zau=W.map λw=>zau (wdr (dss Ms) w) by unfold whl;rw[hW,yax];rfl]at this
   exact this
  have st:shL (W.map λw=>shT w.1)=true:=zc0 λw _=>by simp_arith[zcr]
  have so:zal (W.map λw=>shO w.1)=W.map λw=>shT w.1:=by
   rw[zap,yax];refine ybn λw _=>?_
   show T.nd false .lst (zal (w.1.map pqT))=_;rw[zb3]
  have sds2:zal (W.map λw=>zau (wdr (dss Ms) w))=W.map λw=>zau (wdr (dss Ms) w):=za0 _ sds
  have lc11:zg5 (zg1 2 (zak (bNm 0) (zak (bNm 1) zg4))) (mC (.bl true)) zpl (W.map λw=>T.tup [zau (wdr (dss Ms) w),zrc (dss Ms) w]) [none,none]=some (W.map λ_=>T.bl true):=zbq (λw=>T.tup [zau (wdr (dss Ms) w),zrc (dss Ms) w]) (λ_=>T.bl true) (λτ=>∃a b,τ=[a,b]) _ _ ⟨none,none,rfl⟩ λw hw τ hI=>by
   obtain⟨a,b,rfl⟩:=hI;have sg:=(gsh w hw).1;have dk:DrOk (whl Ms).ws ((whl Ms).rs.map (·.1)) (wdr (dss Ms) w):=ok.d _ (by unfold whl;exact yag.mpr ⟨w,by rw[hW];exact hw,rfl⟩)
   have sa:=zEq ok.tw ok.tn dk rfl w.1;unfold wdr at sa ⊢;exact⟨[some (zau ⟨jnS w.2,jnS (enS (dss Ms) w.1 w.2),gdS (dss Ms) w.1,ntS (dss Ms) w.1,""⟩),some (zrc (dss Ms) w)],by simp_arith[],by unfold zpl;simp_arith[sg,za0 _ sg,za7,za3,zcr,zb3,sa],_,_,rfl⟩
  have lc13:zg5 (bNm 0) (mC (.bl true)) zpk (W.map (zrc (dss Ms))) [none]=some (W.map λw=>shT w.1):=zbq (zrc (dss Ms)) (λw=>shT w.1) (λτ=>∃a,τ=[a]) _ _ ⟨none,rfl⟩ λw hw τ hI=>by
   obtain⟨a,rfl⟩:=hI;have sg:=(gsh w hw).1;exact⟨[some (zrc (dss Ms) w)],by simp_arith[],by unfold zpk;simp_arith[sg,za7,zcr,at4],_,rfl⟩
  have lc18:zg5 (bNm 0) (mC (.bl true)) zpj (W.map (zrc (dss Ms))) [none]=some (W.map λw=>shT w.1):=zbq (zrc (dss Ms)) (λw=>shT w.1) (λτ=>∃a,τ=[a]) _ _ ⟨none,rfl⟩ λw hw τ hI=>by
   obtain⟨a,rfl⟩:=hI;have sg:=(gsh w hw).1;exact⟨[some (zrc (dss Ms) w)],by simp_arith[],by unfold zpj;simp_arith[sg,za7,zcr,at4],_,rfl⟩
  have lc13b:zg5 (bNm 0) (mC (.bl true)) zm8 (W.map λw=>shT w.1) [none]=some (W.map λ_=>T.bl true):=zbq (λw:List (Nat×Nat)×List Str=>shT w.1) (λ_=>T.bl true) (λτ=>∃a,τ=[a]) _ _ ⟨none,rfl⟩ λw hw τ hI=>by
   obtain⟨a,rfl⟩:=hI;exact⟨[some (shT w.1)],by simp_arith[],by unfold zm8;simp_arith[zcr,zb3],_,rfl⟩
  have ft:Fit (.lst (W.map λw=>shT w.1)) 3:=Fit.nd λt ht=>by
   obtain⟨w,_,rfl⟩:=yag.mp ht;refine Fit.nd λt ht=>?_
   obtain⟨p,_,rfl⟩:=yag.mp ht;exact Fit.fr _ _
  have q1:=(zt5 ft (by decide) rfl ft)
  have ba:=zpn W;have sb:=za0 _ (zc0 (f:=λ_=>T.bl true) (L:=W) λ_ _=>rfl)
  have al:(W.map λ_=>true).all id=true:=by simp
  have ro:=zEx (λw:List (Nat×Nat)×List Str=>w.1) W λw hw=>(gsh w hw).2
  have zs:=zti (λw=>zau (wdr (dss Ms) w)) (zrc (dss Ms)) W
  have ii:=zj9 (whl Ms);generalize mcT (whl Ms)=X at *
  have key:zxi [some (zaw ns),none,none,none,none,none,none,none]=some (.rt (.bl true)):=by
   unfold zxi;refine sq (τ':=[some (zaw ns),some (.lst (Ps.map ptT)),none,none,none,none,none,none]) (by simp_arith[F,F2,pe,sp,za0 _ sp]) ?_
   refine sq (τ':=[some (zaw ns),some (.lst (Ps.map ptT)),some (.lst (Ms.map mcT)),none,none,none,none,none]) (by simp_arith[sp,za0 _ sp,ya1,lP,lc2,za0 _ sm]) ?_
   refine sq (τ':=[some (zaw ns),some (.lst (Ps.map ptT)),some (.lst (Ms.map mcT)),some (.lst (W.map (zrc (dss Ms)))),none,none,none,none]) (by simp_arith[sp,za0 _ sp,du,za0 _ sdu]) ?_
   refine sq (τ':=[some (zaw ns),some (.lst (Ps.map ptT)),some (.lst (Ms.map mcT)),some (.lst (W.map (zrc (dss Ms)))),none,none,none,none]) (by simp_arith[sdu,za0 _ sdu,ya1,g]) ?_
   refine sq (τ':=(sL ns Ps Ms W X none none)) (by simp_arith[sm,za0 _ sm,to,zaz _ k1]) ?_
   refine sq (τ':=(sL ns Ps Ms W X (some (.own (W.map λw=>shO w.1))) none)) (by simp_arith[sm,za0 _ sm,sh]) ?_
   refine sq (τ':=(sL ns Ps Ms W X (some (.own (W.map λw=>shO w.1))) (some (.own (W.map λw=>zau (wdr (dss Ms) w)))))) (by simp_arith[-zrw,ii,k1,zaz _ k1,kd]) ?_
   refine sq (τ':=(sL ns Ps Ms W X (some (.own (W.map λw=>shO w.1))) (some (.own (W.map λw=>zau (wdr (dss Ms) w)))))) (by simp_arith[sds2,so,sdu,za0 _ sdu,ya1,zhg]) ?_
   refine sq (τ':=(sL ns Ps Ms W X (some (.own (W.map λw=>shO w.1))) (some (.own (W.map λw=>zau (wdr (dss Ms) w)))))) (by simp_arith[zB8,T.deep,sds,sds2,sdu,za0 _ sdu,zs,ya1,lW,lc11,sb,ba,al]) ?_
   refine sq (τ':=(sL ns Ps Ms W X (some (.own (W.map λw=>shO w.1))) (some (.own (W.map λw=>zau (wdr (dss Ms) w)))))) (by simp_arith[zB8,T.deep,so,st,za0 _ st,sdu,za0 _ sdu,ya1,lW,lc13,lc13b,q1.2,sb,ba,al]) ?_
   refine sq (τ':=(sL ns Ps Ms W X none (some (.own (W.map λw=>zau (wdr (dss Ms) w)))))) (by simp_arith[zwm,ro,show((5:Nat)=7)=False from eq_false (by decide)]) ?_
   refine sq (τ':=(sL ns Ps Ms W X none (some (.own [])))) (by simp_arith[]) ?_
   simp_arith[-zrw,ii,k1,zaz _ k1,kd,sds2,sm,za0 _ sm,sh,so,sdu,za0 _ sdu,ya1,lW,lc18,za0 _ st,q1.1,zio]
  unfold zCg
  simp_arith[F,F2,key]
end
end Zl
namespace Zl
open PySem PySem.W L2 Zw Zx Pu Hd
abbrev pw:Program:=PySem.Challenge.pw_zonewalk_k25_whole_doors_and_shares
abbrev rw_:OpenLaw:=PySem.Challenge.rw_zonewalk_k25_whole_doors_and_shares
def cO(a:Str)(ta:Nat)(b:Str)(tb:Nat)(f:Str)(tf:Nat)(r n k:Int)(r1:Nat)(z:Int)(r2 r3 r4 r5:Nat)(x y:Int)(tg:Nat):Obj:=⟨(.type "code"),none,(.fields (Array.mk [(.str a ta),(.str b tb),(.str f tf),(.int r 0),(.int n 0),(.int 0 0),(.int 0 0),(.int k 0),(.ref r1),(.bool true),(.int z 0),(.ref r2),.none,(.ref r3),(.ref r4),(.ref r5),(.int x 0),(.int y 0),(.str f tg)])),Array.mk []⟩
def fO(a b:Str)(s:Stmt)(d:Value)(m:Str)(t c:Nat)(y:Value):Obj:=⟨(.type "function"),none,(.func (fnOf a b (zji s) (zab s) (za2 s) d .none .none (.str m t) none (.ref c) y)),Array.mk []⟩
noncomputable def o2(P:Params):Obj:=⟨.none,none,(.dict (Array.mk []) 0),Array.mk []⟩
noncomputable def o3(P:Params):Obj:=⟨(.type "dict"),none,(.dict (Array.mk [en P "__name__" 165 (.str "law_zonewalk_k25_whole_doors_and_shares" 593),en P "__doc__" 166 .none,en P "__package__" 167 .none,en P "__loader__" 168 (.builtin "__main__.__loader__#opaque"),en P "__spec__" 169 .none,en P "__annotations__" 170 (.ref 6),en P "__builtins__" 171 (.ref 4),en P "__file__" 173 (.str "/claim/cut.py" 172),en P "__cached__" 174 .none,en P "_wall" 193 (.ref 21),en P "WalkError" 213 (.ref 31),en P "BadMachine" 229 (.ref 44),en P "TooMany" 245 (.ref 56),en P "is_whole" 254 (.ref 65),en P "WORDS" 262 (.ref 66),en P "STAY_WORDS" 265 (.ref 67),en P "is_look" 274 (.ref 74),en P "is_number" 281 (.ref 81),en P "is_guard" 287 (.ref 86),en P "MOST_WATCHES" 291 (.int 7 290),en P "MOST_ROOMS" 293 (.int 64 292),en P "MOST_DOORS" 295 (.int 200 294),en P "is_small_letter" 302 (.ref 93),en P "is_name" 308 (.ref 98),en P "is_watch_name" 315 (.ref 105),en P "is_room_name" 321 (.ref 110),en P "is_sign" 328 (.ref 117),en P "own_copy" 335 (.ref 124),en P "Door" 387 (.ref 156),en P "Machine" 453 (.ref 210),en P "check_watches" 459 (.ref 219),en P "are_unlike" 466 (.ref 226),en P "check_rooms" 472 (.ref 231),en P "check_doors" 482 (.ref 238),en P "are_noughts" 488 (.ref 243),en P "MOST_PARTS" 492 (.int 6 491),en P "together" 498 (.ref 248),en P "shares" 504 (.ref 253),en P "checked_takings" 510 (.ref 258),en P "check_parts" 516 (.ref 263),en P "all_watches" 525 (.ref 270),en P "all_takings" 531 (.ref 275),en P "whole_name" 538 (.ref 282),en P "whole_stay" 549 (.ref 289),en P "whole_ways" 555 (.ref 294),en P "shares_of" 571 (.ref 301),en P "starts_from" 577 (.ref 306),en P "whole_door" 592 (.ref 313),en P "_law_cell_at" 602 (.ref 320),en P "_law_stream" 614 (.ref 327),en P "_law_draws" 623 (.ref 334),en P "_law_names" 639 (.ref 341),en P "_law_guard" 652 (.ref 348),en P "_law_door" 658 (.ref 353),en P "_law_parts" 675 (.ref 360),en P "_law_machine" 681 (.ref 365),en P "_law_ways" 695 (.ref 372),en P "_law_goers" 708 (.ref 379),en P "_law_due" 714 (.ref 384),en P "_law_many" 723 (.ref 391),en P "_law_same" 731 (.ref 398),en P "law" 737 (.ref 403)]) 62),Array.mk []⟩
noncomputable def o22(P:Params):Obj:=⟨(.type "tuple"),none,(.seq (Array.mk [(.type "ValueError")]) 0),Array.mk []⟩
noncomputable def o29(P:Params):Obj:=⟨(.type "tuple"),none,(.seq (Array.mk []) 0),Array.mk []⟩
noncomputable def o30(P:Params):Obj:=⟨(.type "dict"),none,(.dict (Array.mk [en P "__module__" 203 (.str "zonewalk.errors" 194),en P "__firstlineno__" 207 (.int 5 206),en P "__static_attributes__" 208 (.ref 29),en P "__weakref__" 210 (.ref 32),en P "__doc__" 211 .none]) 3),Array.mk []⟩
noncomputable def o31(P:Params):Obj:=⟨(.type "type"),none,(.cls ⟨"WalkError",[(.type "ValueError")],[(.ref 31),(.type "ValueError"),(.type "Exception"),(.type "BaseException"),(.type "object")],30,"WalkError",true,[],[(.ref 44),(.ref 56)],false,none,false⟩),Array.mk [(some (.ref 22)),none,(some (.str "WalkError" 196)),(some (.str "WalkError" 204)),(some (.builtin "ValueError.__new__")),(some (.bool true))]⟩
noncomputable def o32(P:Params):Obj:=⟨(.type "getset_descriptor"),none,(.fields (Array.mk [(.str "__weakref__" 209),(.ref 31),(.builtin "ExceptionGroup.__weakref__"),.none])),Array.mk []⟩
noncomputable def o35(P:Params):Obj:=⟨(.type "tuple"),none,(.seq (Array.mk [(.ref 31)]) 0),Array.mk []⟩
noncomputable def o42(P:Params):Obj:=⟨(.type "tuple"),none,(.seq (Array.mk []) 0),Array.mk []⟩
noncomputable def o43(P:Params):Obj:=⟨(.type "dict"),none,(.dict (Array.mk [en P "__module__" 221 (.str "zonewalk.errors" 194),en P "__firstlineno__" 225 (.int 7 224),en P "__static_attributes__" 226 (.ref 42),en P "__doc__" 227 .none]) 2),Array.mk []⟩
noncomputable def o44(P:Params):Obj:=⟨(.type "type"),none,(.cls ⟨"BadMachine",[(.ref 31)],[(.ref 44),(.ref 31),(.type "ValueError"),(.type "Exception"),(.type "BaseException"),(.type "object")],43,"BadMachine",true,[],[],false,none,false⟩),Array.mk [(some (.ref 35)),none,(some (.str "BadMachine" 214)),(some (.str "BadMachine" 222)),(some (.builtin "ValueError.__new__")),(some (.bool true))]⟩
noncomputable def o47(P:Params):Obj:=⟨(.type "tuple"),none,(.seq (Array.mk [(.ref 31)]) 0),Array.mk []⟩
noncomputable def o54(P:Params):Obj:=⟨(.type "tuple"),none,(.seq (Array.mk []) 0),Array.mk []⟩
noncomputable def o55(P:Params):Obj:=⟨(.type "dict"),none,(.dict (Array.mk [en P "__module__" 237 (.str "zonewalk.errors" 194),en P "__firstlineno__" 241 (.int 9 240),en P "__static_attributes__" 242 (.ref 54),en P "__doc__" 243 .none]) 2),Array.mk []⟩
noncomputable def o56(P:Params):Obj:=⟨(.type "type"),none,(.cls ⟨"TooMany",[(.ref 31)],[(.ref 56),(.ref 31),(.type "ValueError"),(.type "Exception"),(.type "BaseException"),(.type "object")],55,"TooMany",true,[],[],false,none,false⟩),Array.mk [(some (.ref 47)),none,(some (.str "TooMany" 230)),(some (.str "TooMany" 238)),(some (.builtin "ValueError.__new__")),(some (.bool true))]⟩
def o64(_:Params):=cO (Str.ofString "is_whole") 248 (Str.ofString "is_whole") 249 (Str.ofString "/claim/cut.py") 250 12 1 3 59 181 60 61 62 63 252 12 253
def o65(_:Params):=fO (Str.ofString "is_whole") (Str.ofString "is_whole") (top 6) .none (Str.ofString "zonewalk.fractions") 246 64 .none
noncomputable def o66(P:Params):Obj:=⟨(.type "tuple"),none,(.seq (Array.mk [(.str "<" 257),(.str "<=" 258),(.str ">" 259),(.str ">=" 260),(.str "=" 261)]) 0),Array.mk []⟩
noncomputable def o67(P:Params):Obj:=⟨(.type "tuple"),none,(.seq (Array.mk [(.str "<" 263),(.str "<=" 264)]) 0),Array.mk []⟩
def o73(_:Params):=cO (Str.ofString "is_look") 266 (Str.ofString "is_look") 267 (Str.ofString "/claim/cut.py") 268 17 3 3 68 181 69 70 71 72 272 17 273
def o74(_:Params):=fO (Str.ofString "is_look") (Str.ofString "is_look") (top 10) .none (Str.ofString "zonewalk.looks") 255 73 .none
def o80(_:Params):=cO (Str.ofString "is_number") 275 (Str.ofString "is_number") 276 (Str.ofString "/claim/cut.py") 277 21 1 3 75 181 76 77 78 79 279 21 280
def o81(_:Params):=fO (Str.ofString "is_number") (Str.ofString "is_number") (top 11) .none (Str.ofString "zonewalk.looks") 255 80 .none
noncomputable def o85(P:Params):Obj:=⟨(.type "code"),none,(.fields (Array.mk [(.str "is_guard" 282),(.str "is_guard" 283),(.str "/claim/cut.py" 284),(.int 23 0),(.int 3 0),(.int 0 0),(.int 0 0),(.int 3 0),(.ref 82),(.bool true),(.int 181 0),(.ref 83),.none,.none,.none,(.ref 84),(.int 285 0),(.int 23 0),(.str "/claim/cut.py" 286)])),Array.mk []⟩
def o86(_:Params):=fO (Str.ofString "is_guard") (Str.ofString "is_guard") (top 12) .none (Str.ofString "zonewalk.looks") 255 85 .none
def o92(_:Params):=cO (Str.ofString "is_small_letter") 296 (Str.ofString "is_small_letter") 297 (Str.ofString "/claim/cut.py") 298 29 1 3 87 181 88 89 90 91 300 29 301
def o93(_:Params):=fO (Str.ofString "is_small_letter") (Str.ofString "is_small_letter") (top 17) .none (Str.ofString "zonewalk.machines") 288 92 .none
noncomputable def o97(P:Params):Obj:=⟨(.type "code"),none,(.fields (Array.mk [(.str "is_name" 303),(.str "is_name" 304),(.str "/claim/cut.py" 305),(.int 31 0),(.int 1 0),(.int 0 0),(.int 0 0),(.int 3 0),(.ref 94),(.bool true),(.int 181 0),(.ref 95),.none,.none,.none,(.ref 96),(.int 306 0),(.int 31 0),(.str "/claim/cut.py" 307)])),Array.mk []⟩
def o98(_:Params):=fO (Str.ofString "is_name") (Str.ofString "is_name") (top 18) .none (Str.ofString "zonewalk.machines") 288 97 .none
def o104(_:Params):=cO (Str.ofString "is_watch_name") 309 (Str.ofString "is_watch_name") 310 (Str.ofString "/claim/cut.py") 311 33 1 3 99 181 100 101 102 103 313 33 314
def o105(_:Params):=fO (Str.ofString "is_watch_name") (Str.ofString "is_watch_name") (top 19) .none (Str.ofString "zonewalk.machines") 288 104 .none
noncomputable def o109(P:Params):Obj:=⟨(.type "code"),none,(.fields (Array.mk [(.str "is_room_name" 316),(.str "is_room_name" 317),(.str "/claim/cut.py" 318),(.int 35 0),(.int 1 0),(.int 0 0),(.int 0 0),(.int 3 0),(.ref 106),(.bool true),(.int 181 0),(.ref 107),.none,.none,.none,(.ref 108),(.int 319 0),(.int 35 0),(.str "/claim/cut.py" 320)])),Array.mk []⟩
def o110(_:Params):=fO (Str.ofString "is_room_name") (Str.ofString "is_room_name") (top 20) .none (Str.ofString "zonewalk.machines") 288 109 .none
def o116(_:Params):=cO (Str.ofString "is_sign") 322 (Str.ofString "is_sign") 323 (Str.ofString "/claim/cut.py") 324 39 1 3 111 181 112 113 114 115 326 39 327
def o117(_:Params):=fO (Str.ofString "is_sign") (Str.ofString "is_sign") (top 21) .none (Str.ofString "zonewalk.machines") 288 116 .none
def o123(_:Params):=cO (Str.ofString "own_copy") 329 (Str.ofString "own_copy") 330 (Str.ofString "/claim/cut.py") 331 43 1 3 118 181 119 120 121 122 333 43 334
def o124(_:Params):=fO (Str.ofString "own_copy") (Str.ofString "own_copy") (top 22) .none (Str.ofString "zonewalk.machines") 288 123 .none
noncomputable def o132(P:Params):Obj:=⟨(.type "tuple"),none,(.seq (Array.mk [(.str "" 348)]) 0),Array.mk []⟩
def o138(_:Params):=cO (Str.ofString "__init__") 349 (Str.ofString "Door.__init__") 350 (Str.ofString "/claim/cut.py") 351 47 6 3 133 181 134 135 136 137 358 47 359
def o139(_:Params):=fO (Str.ofString "__init__") (Str.ofString "Door.__init__") (zrv 23 0) (.ref 132) (Str.ofString "zonewalk.machines") 288 138 .none
def o145(_:Params):=cO (Str.ofString "asks") 361 (Str.ofString "Door.asks") 362 (Str.ofString "/claim/cut.py") 363 54 1 3 140 181 141 142 143 144 365 54 366
def o146(_:Params):=fO (Str.ofString "asks") (Str.ofString "Door.asks") (zrv 23 1) .none (Str.ofString "zonewalk.machines") 288 145 .none
def o152(_:Params):=cO (Str.ofString "sets") 368 (Str.ofString "Door.sets") 369 (Str.ofString "/claim/cut.py") 370 57 1 3 147 181 148 149 150 151 372 57 373
def o153(_:Params):=fO (Str.ofString "sets") (Str.ofString "Door.sets") (zrv 23 2) .none (Str.ofString "zonewalk.machines") 288 152 .none
noncomputable def o154(P:Params):Obj:=⟨(.type "tuple"),none,(.seq (Array.mk [(.str "end" 375),(.str "guard" 376),(.str "noughts" 377),(.str "sign" 378),(.str "start" 379)]) 0),Array.mk []⟩
noncomputable def o155(P:Params):Obj:=⟨(.type "dict"),none,(.dict (Array.mk [en P "__module__" 343 (.str "zonewalk.machines" 288),en P "__firstlineno__" 347 (.int 45 346),en P "__init__" 360 (.ref 139),en P "asks" 367 (.ref 146),en P "sets" 374 (.ref 153),en P "__static_attributes__" 380 (.ref 154),en P "__dict__" 382 (.ref 157),en P "__weakref__" 384 (.ref 158),en P "__doc__" 385 .none]) 4),Array.mk []⟩
noncomputable def o156(P:Params):Obj:=⟨(.type "type"),none,(.cls ⟨"Door",[(.type "object")],[(.ref 156),(.type "object")],155,"Door",true,[],[],false,none,false⟩),Array.mk [none,none,(some (.str "Door" 336)),(some (.str "Door" 344)),(some (.builtin "object.__new__")),(some (.bool true))]⟩
noncomputable def o157(P:Params):Obj:=⟨(.type "getset_descriptor"),none,(.fields (Array.mk [(.str "__dict__" 381),(.ref 156),(.builtin "function.__dict__"),(.builtin "function.__dict__#set")])),Array.mk []⟩
noncomputable def o158(P:Params):Obj:=⟨(.type "getset_descriptor"),none,(.fields (Array.mk [(.str "__weakref__" 383),(.ref 156),(.builtin "ExceptionGroup.__weakref__"),.none])),Array.mk []⟩
noncomputable def o171(P:Params):Obj:=⟨(.type "code"),none,(.fields (Array.mk [(.str "__init__" 400),(.str "Machine.__init__" 401),(.str "/claim/cut.py" 402),(.int 61 0),(.int 4 0),(.int 0 0),(.int 0 0),(.int 3 0),(.ref 168),(.bool true),(.int 181 0),(.ref 169),.none,.none,.none,(.ref 170),(.int 403 0),(.int 61 0),(.str "/claim/cut.py" 404)])),Array.mk []⟩
def o172(_:Params):=fO (Str.ofString "__init__") (Str.ofString "Machine.__init__") (zrv 24 0) .none (Str.ofString "zonewalk.machines") 288 171 .none
def o178(_:Params):=cO (Str.ofString "watches") 406 (Str.ofString "Machine.watches") 407 (Str.ofString "/claim/cut.py") 408 73 1 3 173 181 174 175 176 177 410 73 411
def o179(_:Params):=fO (Str.ofString "watches") (Str.ofString "Machine.watches") (zrv 24 1) .none (Str.ofString "zonewalk.machines") 288 178 .none
def o185(_:Params):=cO (Str.ofString "rooms") 413 (Str.ofString "Machine.rooms") 414 (Str.ofString "/claim/cut.py") 415 76 1 3 180 181 181 182 183 184 417 76 418
def o186(_:Params):=fO (Str.ofString "rooms") (Str.ofString "Machine.rooms") (zrv 24 2) .none (Str.ofString "zonewalk.machines") 288 185 .none
def o192(_:Params):=cO (Str.ofString "doors") 420 (Str.ofString "Machine.doors") 421 (Str.ofString "/claim/cut.py") 422 79 1 3 187 181 188 189 190 191 424 79 425
def o193(_:Params):=fO (Str.ofString "doors") (Str.ofString "Machine.doors") (zrv 24 3) .none (Str.ofString "zonewalk.machines") 288 192 .none
def o199(_:Params):=cO (Str.ofString "stay") 427 (Str.ofString "Machine.stay") 428 (Str.ofString "/claim/cut.py") 429 82 2 3 194 181 195 196 197 198 432 82 433
def o200(_:Params):=fO (Str.ofString "stay") (Str.ofString "Machine.stay") (zrv 24 4) .none (Str.ofString "zonewalk.machines") 288 199 .none
noncomputable def o208(P:Params):Obj:=⟨(.type "tuple"),none,(.seq (Array.mk [(.str "door_list" 443),(.str "stays" 444),(.str "watch_names" 445)]) 0),Array.mk []⟩
noncomputable def o209(P:Params):Obj:=⟨(.type "dict"),none,(.dict (Array.mk [en P "__module__" 395 (.str "zonewalk.machines" 288),en P "__firstlineno__" 399 (.int 59 398),en P "__init__" 405 (.ref 172),en P "watches" 412 (.ref 179),en P "rooms" 419 (.ref 186),en P "doors" 426 (.ref 193),en P "stay" 434 (.ref 200),en P "watch_number" 442 (.ref 207),en P "__static_attributes__" 446 (.ref 208),en P "__dict__" 448 (.ref 211),en P "__weakref__" 450 (.ref 212),en P "__doc__" 451 .none]) 4),Array.mk []⟩
noncomputable def o210(P:Params):Obj:=⟨(.type "type"),none,(.cls ⟨"Machine",[(.type "object")],[(.ref 210),(.type "object")],209,"Machine",true,[],[],false,none,false⟩),Array.mk [none,none,(some (.str "Machine" 388)),(some (.str "Machine" 396)),(some (.builtin "object.__new__")),(some (.bool true))]⟩
noncomputable def o211(P:Params):Obj:=⟨(.type "getset_descriptor"),none,(.fields (Array.mk [(.str "__dict__" 447),(.ref 210),(.builtin "function.__dict__"),(.builtin "function.__dict__#set")])),Array.mk []⟩
noncomputable def o212(P:Params):Obj:=⟨(.type "getset_descriptor"),none,(.fields (Array.mk [(.str "__weakref__" 449),(.ref 210),(.builtin "ExceptionGroup.__weakref__"),.none])),Array.mk []⟩
noncomputable def o218(P:Params):Obj:=⟨(.type "code"),none,(.fields (Array.mk [(.str "check_watches" 454),(.str "check_watches" 455),(.str "/claim/cut.py" 456),(.int 87 0),(.int 1 0),(.int 0 0),(.int 0 0),(.int 3 0),(.ref 215),(.bool true),(.int 181 0),(.ref 216),.none,.none,.none,(.ref 217),(.int 457 0),(.int 87 0),(.str "/claim/cut.py" 458)])),Array.mk []⟩
def o219(_:Params):=fO (Str.ofString "check_watches") (Str.ofString "check_watches") (top 25) .none (Str.ofString "zonewalk.machines") 288 218 .none
def o225(_:Params):=cO (Str.ofString "are_unlike") 460 (Str.ofString "are_unlike") 461 (Str.ofString "/claim/cut.py") 462 92 1 3 220 181 221 222 223 224 464 92 465
def o226(_:Params):=fO (Str.ofString "are_unlike") (Str.ofString "are_unlike") (top 26) .none (Str.ofString "zonewalk.machines") 288 225 .none
noncomputable def o230(P:Params):Obj:=⟨(.type "code"),none,(.fields (Array.mk [(.str "check_rooms" 467),(.str "check_rooms" 468),(.str "/claim/cut.py" 469),(.int 94 0),(.int 2 0),(.int 0 0),(.int 0 0),(.int 3 0),(.ref 227),(.bool true),(.int 181 0),(.ref 228),.none,.none,.none,(.ref 229),(.int 470 0),(.int 94 0),(.str "/claim/cut.py" 471)])),Array.mk []⟩
def o231(_:Params):=fO (Str.ofString "check_rooms") (Str.ofString "check_rooms") (top 27) .none (Str.ofString "zonewalk.machines") 288 230 .none
def o237(_:Params):=cO (Str.ofString "check_doors") 473 (Str.ofString "check_doors") 474 (Str.ofString "/claim/cut.py") 475 104 3 3 232 181 233 234 235 236 480 104 481
def o238(_:Params):=fO (Str.ofString "check_doors") (Str.ofString "check_doors") (top 28) .none (Str.ofString "zonewalk.machines") 288 237 .none
noncomputable def o242(P:Params):Obj:=⟨(.type "code"),none,(.fields (Array.mk [(.str "are_noughts" 483),(.str "are_noughts" 484),(.str "/claim/cut.py" 485),(.int 116 0),(.int 2 0),(.int 0 0),(.int 0 0),(.int 3 0),(.ref 239),(.bool true),(.int 181 0),(.ref 240),.none,.none,.none,(.ref 241),(.int 486 0),(.int 116 0),(.str "/claim/cut.py" 487)])),Array.mk []⟩
def o243(_:Params):=fO (Str.ofString "are_noughts") (Str.ofString "are_noughts") (top 29) .none (Str.ofString "zonewalk.machines") 288 242 .none
noncomputable def o247(P:Params):Obj:=⟨(.type "code"),none,(.fields (Array.mk [(.str "together" 493),(.str "together" 494),(.str "/claim/cut.py" 495),(.int 122 0),(.int 1 0),(.int 0 0),(.int 0 0),(.int 3 0),(.ref 244),(.bool true),(.int 181 0),(.ref 245),.none,.none,.none,(.ref 246),(.int 496 0),(.int 122 0),(.str "/claim/cut.py" 497)])),Array.mk []⟩
def o248(_:Params):=fO (Str.ofString "together") (Str.ofString "together") (top 32) .none (Str.ofString "zonewalk.together") 489 247 .none
noncomputable def o252(P:Params):Obj:=⟨(.type "code"),none,(.fields (Array.mk [(.str "shares" 499),(.str "shares" 500),(.str "/claim/cut.py" 501),(.int 127 0),(.int 1 0),(.int 0 0),(.int 0 0),(.int 3 0),(.ref 249),(.bool true),(.int 181 0),(.ref 250),.none,.none,.none,(.ref 251),(.int 502 0),(.int 127 0),(.str "/claim/cut.py" 503)])),Array.mk []⟩
def o253(_:Params):=fO (Str.ofString "shares") (Str.ofString "shares") (top 33) .none (Str.ofString "zonewalk.together") 489 252 .none
noncomputable def o257(P:Params):Obj:=⟨(.type "code"),none,(.fields (Array.mk [(.str "checked_takings" 505),(.str "checked_takings" 506),(.str "/claim/cut.py" 507),(.int 130 0),(.int 1 0),(.int 0 0),(.int 0 0),(.int 3 0),(.ref 254),(.bool true),(.int 181 0),(.ref 255),.none,.none,.none,(.ref 256),(.int 508 0),(.int 130 0),(.str "/claim/cut.py" 509)])),Array.mk []⟩
def o258(_:Params):=fO (Str.ofString "checked_takings") (Str.ofString "checked_takings") (top 34) .none (Str.ofString "zonewalk.together") 489 257 .none
noncomputable def o262(P:Params):Obj:=⟨(.type "code"),none,(.fields (Array.mk [(.str "check_parts" 511),(.str "check_parts" 512),(.str "/claim/cut.py" 513),(.int 137 0),(.int 1 0),(.int 0 0),(.int 0 0),(.int 3 0),(.ref 259),(.bool true),(.int 181 0),(.ref 260),.none,.none,.none,(.ref 261),(.int 514 0),(.int 137 0),(.str "/claim/cut.py" 515)])),Array.mk []⟩
def o263(_:Params):=fO (Str.ofString "check_parts") (Str.ofString "check_parts") (top 35) .none (Str.ofString "zonewalk.together") 489 262 .none
def o269(_:Params):=cO (Str.ofString "all_watches") 517 (Str.ofString "all_watches") 518 (Str.ofString "/claim/cut.py") 519 145 1 3 264 181 265 266 267 268 523 145 524
def o270(_:Params):=fO (Str.ofString "all_watches") (Str.ofString "all_watches") (top 36) .none (Str.ofString "zonewalk.together") 489 269 .none
noncomputable def o274(P:Params):Obj:=⟨(.type "code"),none,(.fields (Array.mk [(.str "all_takings" 526),(.str "all_takings" 527),(.str "/claim/cut.py" 528),(.int 150 0),(.int 1 0),(.int 0 0),(.int 0 0),(.int 3 0),(.ref 271),(.bool true),(.int 181 0),(.ref 272),.none,.none,.none,(.ref 273),(.int 529 0),(.int 150 0),(.str "/claim/cut.py" 530)])),Array.mk []⟩
def o275(_:Params):=fO (Str.ofString "all_takings") (Str.ofString "all_takings") (top 37) .none (Str.ofString "zonewalk.together") 489 274 .none
def o281(_:Params):=cO (Str.ofString "whole_name") 532 (Str.ofString "whole_name") 533 (Str.ofString "/claim/cut.py") 534 160 1 3 276 181 277 278 279 280 536 160 537
def o282(_:Params):=fO (Str.ofString "whole_name") (Str.ofString "whole_name") (top 38) .none (Str.ofString "zonewalk.together") 489 281 .none
def o288(_:Params):=cO (Str.ofString "whole_stay") 539 (Str.ofString "whole_stay") 540 (Str.ofString "/claim/cut.py") 541 162 2 3 283 181 284 285 286 287 547 162 548
def o289(_:Params):=fO (Str.ofString "whole_stay") (Str.ofString "whole_stay") (top 39) .none (Str.ofString "zonewalk.together") 489 288 .none
noncomputable def o293(P:Params):Obj:=⟨(.type "code"),none,(.fields (Array.mk [(.str "whole_ways" 550),(.str "whole_ways" 551),(.str "/claim/cut.py" 552),(.int 167 0),(.int 2 0),(.int 0 0),(.int 0 0),(.int 3 0),(.ref 290),(.bool true),(.int 181 0),(.ref 291),.none,.none,.none,(.ref 292),(.int 553 0),(.int 167 0),(.str "/claim/cut.py" 554)])),Array.mk []⟩
def o294(_:Params):=fO (Str.ofString "whole_ways") (Str.ofString "whole_ways") (top 40) .none (Str.ofString "zonewalk.together") 489 293 .none
def o300(_:Params):=cO (Str.ofString "shares_of") 556 (Str.ofString "shares_of") 557 (Str.ofString "/claim/cut.py") 558 177 3 3 295 181 296 297 298 299 569 177 570
def o301(_:Params):=fO (Str.ofString "shares_of") (Str.ofString "shares_of") (top 41) .none (Str.ofString "zonewalk.together") 489 300 .none
noncomputable def o305(P:Params):Obj:=⟨(.type "code"),none,(.fields (Array.mk [(.str "starts_from" 572),(.str "starts_from" 573),(.str "/claim/cut.py" 574),(.int 190 0),(.int 3 0),(.int 0 0),(.int 0 0),(.int 3 0),(.ref 302),(.bool true),(.int 181 0),(.ref 303),.none,.none,.none,(.ref 304),(.int 575 0),(.int 190 0),(.str "/claim/cut.py" 576)])),Array.mk []⟩
def o306(_:Params):=fO (Str.ofString "starts_from") (Str.ofString "starts_from") (top 42) .none (Str.ofString "zonewalk.together") 489 305 .none
def o312(_:Params):=cO (Str.ofString "whole_door") 578 (Str.ofString "whole_door") 579 (Str.ofString "/claim/cut.py") 580 192 3 3 307 181 308 309 310 311 590 192 591
def o313(_:Params):=fO (Str.ofString "whole_door") (Str.ofString "whole_door") (top 43) .none (Str.ofString "zonewalk.together") 489 312 .none
def o319(_:Params):=cO (Str.ofString "_law_cell_at") 595 (Str.ofString "_law_cell_at") 596 (Str.ofString "/claim/cut.py") 597 203 2 3 314 181 315 316 317 318 600 203 601
def o320(_:Params):=fO (Str.ofString "_law_cell_at") (Str.ofString "_law_cell_at") (top 45) .none (Str.ofString "law_zonewalk_k25_whole_doors_and_shares") 593 319 .none
def o326(_:Params):=cO (Str.ofString "_law_stream") 603 (Str.ofString "_law_stream") 604 (Str.ofString "/claim/cut.py") 605 207 2 3 321 181 322 323 324 325 612 207 613
def o327(_:Params):=fO (Str.ofString "_law_stream") (Str.ofString "_law_stream") (top 46) .none (Str.ofString "law_zonewalk_k25_whole_doors_and_shares") 593 326 .none
def o333(_:Params):=cO (Str.ofString "_law_draws") 615 (Str.ofString "_law_draws") 616 (Str.ofString "/claim/cut.py") 617 220 3 3 328 181 329 330 331 332 621 220 622
def o334(_:Params):=fO (Str.ofString "_law_draws") (Str.ofString "_law_draws") (top 47) .none (Str.ofString "law_zonewalk_k25_whole_doors_and_shares") 593 333 .none
def o340(_:Params):=cO (Str.ofString "_law_names") 624 (Str.ofString "_law_names") 625 (Str.ofString "/claim/cut.py") 626 224 2 3 335 181 336 337 338 339 637 224 638
def o341(_:Params):=fO (Str.ofString "_law_names") (Str.ofString "_law_names") (top 48) .none (Str.ofString "law_zonewalk_k25_whole_doors_and_shares") 593 340 .none
def o347(_:Params):=cO (Str.ofString "_law_guard") 640 (Str.ofString "_law_guard") 641 (Str.ofString "/claim/cut.py") 642 236 3 3 342 181 343 344 345 346 650 236 651
def o348(_:Params):=fO (Str.ofString "_law_guard") (Str.ofString "_law_guard") (top 49) .none (Str.ofString "law_zonewalk_k25_whole_doors_and_shares") 593 347 .none
noncomputable def o352(P:Params):Obj:=⟨(.type "code"),none,(.fields (Array.mk [(.str "_law_door" 653),(.str "_law_door" 654),(.str "/claim/cut.py" 655),(.int 244 0),(.int 6 0),(.int 0 0),(.int 0 0),(.int 3 0),(.ref 349),(.bool true),(.int 181 0),(.ref 350),.none,.none,.none,(.ref 351),(.int 656 0),(.int 244 0),(.str "/claim/cut.py" 657)])),Array.mk []⟩
def o353(_:Params):=fO (Str.ofString "_law_door") (Str.ofString "_law_door") (top 50) .none (Str.ofString "law_zonewalk_k25_whole_doors_and_shares") 593 352 .none
def o359(_:Params):=cO (Str.ofString "_law_parts") 659 (Str.ofString "_law_parts") 660 (Str.ofString "/claim/cut.py") 661 251 1 3 354 181 355 356 357 358 673 251 674
def o360(_:Params):=fO (Str.ofString "_law_parts") (Str.ofString "_law_parts") (top 51) .none (Str.ofString "law_zonewalk_k25_whole_doors_and_shares") 593 359 .none
noncomputable def o364(P:Params):Obj:=⟨(.type "code"),none,(.fields (Array.mk [(.str "_law_machine" 676),(.str "_law_machine" 677),(.str "/claim/cut.py" 678),(.int 265 0),(.int 1 0),(.int 0 0),(.int 0 0),(.int 3 0),(.ref 361),(.bool true),(.int 181 0),(.ref 362),.none,.none,.none,(.ref 363),(.int 679 0),(.int 265 0),(.str "/claim/cut.py" 680)])),Array.mk []⟩
def o365(_:Params):=fO (Str.ofString "_law_machine") (Str.ofString "_law_machine") (top 52) .none (Str.ofString "law_zonewalk_k25_whole_doors_and_shares") 593 364 .none
def o371(_:Params):=cO (Str.ofString "_law_ways") 682 (Str.ofString "_law_ways") 683 (Str.ofString "/claim/cut.py") 684 269 1 3 366 181 367 368 369 370 693 269 694
def o372(_:Params):=fO (Str.ofString "_law_ways") (Str.ofString "_law_ways") (top 53) .none (Str.ofString "law_zonewalk_k25_whole_doors_and_shares") 593 371 .none
def o378(_:Params):=cO (Str.ofString "_law_goers") 696 (Str.ofString "_law_goers") 697 (Str.ofString "/claim/cut.py") 698 278 3 3 373 181 374 375 376 377 706 278 707
def o379(_:Params):=fO (Str.ofString "_law_goers") (Str.ofString "_law_goers") (top 54) .none (Str.ofString "law_zonewalk_k25_whole_doors_and_shares") 593 378 .none
noncomputable def o383(P:Params):Obj:=⟨(.type "code"),none,(.fields (Array.mk [(.str "_law_due" 709),(.str "_law_due" 710),(.str "/claim/cut.py" 711),(.int 288 0),(.int 1 0),(.int 0 0),(.int 0 0),(.int 3 0),(.ref 380),(.bool true),(.int 181 0),(.ref 381),.none,.none,.none,(.ref 382),(.int 712 0),(.int 288 0),(.str "/claim/cut.py" 713)])),Array.mk []⟩
def o384(_:Params):=fO (Str.ofString "_law_due") (Str.ofString "_law_due") (top 55) .none (Str.ofString "law_zonewalk_k25_whole_doors_and_shares") 593 383 .none
def o390(_:Params):=cO (Str.ofString "_law_many") 715 (Str.ofString "_law_many") 716 (Str.ofString "/claim/cut.py") 717 305 2 3 385 181 386 387 388 389 721 305 722
def o391(_:Params):=fO (Str.ofString "_law_many") (Str.ofString "_law_many") (top 56) .none (Str.ofString "law_zonewalk_k25_whole_doors_and_shares") 593 390 .none
def o397(_:Params):=cO (Str.ofString "_law_same") 724 (Str.ofString "_law_same") 725 (Str.ofString "/claim/cut.py") 726 314 2 3 392 181 393 394 395 396 729 314 730
def o398(_:Params):=fO (Str.ofString "_law_same") (Str.ofString "_law_same") (top 57) .none (Str.ofString "law_zonewalk_k25_whole_doors_and_shares") 593 397 .none
noncomputable def o402(P:Params):Obj:=⟨(.type "code"),none,(.fields (Array.mk [(.str "law" 732),(.str "law" 733),(.str "/claim/cut.py" 734),(.int 318 0),(.int 1 0),(.int 0 0),(.int 0 0),(.int 3 0),(.ref 399),(.bool true),(.int 181 0),(.ref 400),.none,.none,.none,(.ref 401),(.int 735 0),(.int 318 0),(.str "/claim/cut.py" 736)])),Array.mk []⟩
def o403(_:Params):=fO (Str.ofString "law") (Str.ofString "law") (top 58) .none (Str.ofString "law_zonewalk_k25_whole_doors_and_shares") 593 402 .none
noncomputable def zHv(P:Params):Frag:=[(2,o2 P),(3,o3 P),(22,o22 P),(29,o29 P),(30,o30 P),(31,o31 P),(32,o32 P),(35,o35 P),(42,o42 P),(43,o43 P),(44,o44 P),(47,o47 P),(54,o54 P),(55,o55 P),(56,o56 P),(64,o64 P),(65,o65 P),(66,o66 P),(67,o67 P),(73,o73 P),(74,o74 P),(80,o80 P),(81,o81 P),(85,o85 P),(86,o86 P),(92,o92 P),(93,o93 P),(97,o97 P),(98,o98 P),(104,o104 P),(105,o105 P),(109,o109 P),(110,o110 P),(116,o116 P),(117,o117 P),(123,o123 P),(124,o124 P),(132,o132 P),(138,o138 P),(139,o139 P),(145,o145 P),(146,o146 P),(152,o152 P),(153,o153 P),(154,o154 P),(155,o155 P),(156,o156 P),(157,o157 P),(158,o158 P),(171,o171 P),(172,o172 P),(178,o178 P),(179,o179 P),(185,o185 P),(186,o186 P),(192,o192 P),(193,o193 P),(199,o199 P),(200,o200 P),(208,o208 P),(209,o209 P),(210,o210 P),(211,o211 P),(212,o212 P),(218,o218 P),(219,o219 P),(225,o225 P),(226,o226 P),(230,o230 P),(231,o231 P),(237,o237 P),(238,o238 P),(242,o242 P),(243,o243 P),(247,o247 P),(248,o248 P),(252,o252 P),(253,o253 P),(257,o257 P),(258,o258 P),(262,o262 P),(263,o263 P),(269,o269 P),(270,o270 P),(274,o274 P),(275,o275 P),(281,o281 P),(282,o282 P),(288,o288 P),(289,o289 P),(293,o293 P),(294,o294 P),(300,o300 P),(301,o301 P),(305,o305 P),(306,o306 P),(312,o312 P),(313,o313 P),(319,o319 P),(320,o320 P),(326,o326 P),(327,o327 P),(333,o333 P),(334,o334 P),(340,o340 P),(341,o341 P),(347,o347 P),(348,o348 P),(352,o352 P),(353,o353 P),(359,o359 P),(360,o360 P),(364,o364 P),(365,o365 P),(371,o371 P),(372,o372 P),(378,o378 P),(379,o379 P),(383,o383 P),(384,o384 P),(390,o390 P),(391,o391 P),(397,o397 P),(398,o398 P),(402,o402 P),(403,o403 P)]
def fas:List Addr:=[2,3,22,29,30,31,32,35,42,43,44,47,54,55,56,64,65,66,67,73,74,80,81,85,86,92,93,97,98,104,105,109,110,116,117,123,124,132,138,139,145,146,152,153,154,155,156,157,158,171,172,178,179,185,186,192,193,199,200,208,209,210,211,212,218,219,225,226,230,231,237,238,242,243,247,248,252,253,257,258,262,263,269,270,274,275,281,282,288,289,293,294,300,301,305,306,312,313,319,320,326,327,333,334,340,341,347,348,352,353,359,360,364,365,371,372,378,379,383,384,390,391,397,398,402,403]
def vq:Program:={ pw with main:={ (pw).main with body:=[top 58] } }
def loo:List Str:=[Str.ofString "_wall",Str.ofString "WalkError",Str.ofString "BadMachine",Str.ofString "TooMany",Str.ofString "is_whole",Str.ofString "WORDS",Str.ofString "STAY_WORDS",Str.ofString "is_look",Str.ofString "is_number",Str.ofString "is_guard",Str.ofString "MOST_WATCHES",Str.ofString "MOST_ROOMS",Str.ofString "MOST_DOORS",Str.ofString "is_small_letter",Str.ofString "is_name",Str.ofString "is_watch_name",Str.ofString "is_room_name",Str.ofString "is_sign",Str.ofString "own_copy",Str.ofString "Door",Str.ofString "Machine",Str.ofString "check_watches",Str.ofString "are_unlike",Str.ofString "check_rooms",Str.ofString "check_doors",Str.ofString "are_noughts",Str.ofString "MOST_PARTS",Str.ofString "together",Str.ofString "shares",Str.ofString "checked_takings",Str.ofString "check_parts",Str.ofString "all_watches",Str.ofString "all_takings",Str.ofString "whole_name",Str.ofString "whole_stay",Str.ofString "whole_ways",Str.ofString "shares_of",Str.ofString "starts_from",Str.ofString "whole_door",Str.ofString "_law_cell_at",Str.ofString "_law_stream",Str.ofString "_law_draws",Str.ofString "_law_names",Str.ofString "_law_guard",Str.ofString "_law_door",Str.ofString "_law_parts",Str.ofString "_law_machine",Str.ofString "_law_ways",Str.ofString "_law_goers",Str.ofString "_law_due",Str.ofString "_law_many",Str.ofString "_law_same"]
noncomputable abbrev hk:Hook:=kHook zHv fas (λ_=>by kernel_rfl)
theorem zJd(w:World)(os:OsState):(go pw 2717 w os).map (λs=>znx pw vq loo (xt rw_.row.toRowW vq) hk.obs (boot_heap w.params) s.abs)=some (true,openGood vq loo,hk.val w):=by kernel_rfl
theorem left:LeftO pw vq loo (xt rw_.row.toRowW vq) hk.obs hk.val 6014 true:=zGh 6014 2717 (by kernel_rfl) (by decide) (λs=>by kernel_rfl) (by decide) zJd
theorem said:rw_.wellSaid=true:=zEr (by kernel_rfl)
noncomputable abbrev fr(w:World):Frag:=zHv w.params
theorem all_mk{w:World}{h:Heap}{mg:Str->Option Value}{fa:Addr}(X:(zHv w.params).In h)(G:h.Ns mainGlobals mg)(hfa:mg "law"=some (.ref fa))
  : ∃fd:FuncData,(∀(s:Shared) (v:Value),BindsTo s fd ⟨[v],[]⟩ [("_law_script",v)])/\∀base:Heap,(zHv w.params).In base->base.Ns mainGlobals mg->FnOk pw w (zHv w.params) mg base CX0 10 fa fd ["_law_script"] (zzy (zHv w.params)):=by
 have e:=hfa.symm.trans (mg_of X G (show nsIn (fr w) mainGlobals "law"=some (some (.ref 403)) by kernel_rfl))
 cases e;have mK:∀(x:Str) (a:Addr),nsIn (fr w) mainGlobals x=some (some (.ref a))->mg x=some (.ref a):=λ_ _ e=>mg_of X G e
 have mN:∀x:Str,nsIn (fr w) mainGlobals x=some none->mg x=none:=λ_ e=>mg_none_of X G e
 have cl_Door:Cls (fr w) zah:=⟨by kernel_rfl,by kernel_rfl,by kernel_rfl,by kernel_rfl⟩
 have na_Door:∀f∈zaq,zbn (fr w) zah f:=(za1 (by unfold zbn;kernel_rfl) (za1 (by unfold zbn;kernel_rfl) (za1 (by unfold zbn;kernel_rfl) (za1 (by unfold zbn;kernel_rfl) (za1 (by unfold zbn;kernel_rfl) za6)))))
 have cl_Machine:Cls (fr w) za8:=⟨by kernel_rfl,by kernel_rfl,by kernel_rfl,by kernel_rfl⟩
 have na_Machine:∀f∈zaa,zbn (fr w) za8 f:=(za1 (by unfold zbn;kernel_rfl) (za1 (by unfold zbn;kernel_rfl) (za1 (by unfold zbn;kernel_rfl) za6)))
 let ca:Str->Value:=λc=>if c="BadMachine" then .ref 44 else if c="TooMany" then .ref 56 else if c="WalkError" then .ref 31 else .none
 have b_len:=mN "len" (by kernel_rfl)
 have b_range:=mN "range" (by kernel_rfl)
 have b_int:=mN "int" (by kernel_rfl)
 have b_all:=mN "all" (by kernel_rfl)
 have b_isinstance:=mN "isinstance" (by kernel_rfl)
 have b_str:=mN "str" (by kernel_rfl)
 have b_bool:=mN "bool" (by kernel_rfl)
 have b_tuple:=mN "tuple" (by kernel_rfl)
 have b_list:=mN "list" (by kernel_rfl)
 have b_set:=mN "set" (by kernel_rfl)
 have b_zip:=mN "zip" (by kernel_rfl)
 have b_enumerate:=mN "enumerate" (by kernel_rfl)
 have yg:specialIn (fr w) (.builtin "object.__class__") "__get__"=some (some (.builtin "getset_descriptor.__get__")):=by kernel_rfl
 have yt:takesIn (fr w) (.builtin "object.__class__")=some true:=by kernel_rfl
 let CL_BadMachine:ECls (fr w) mg "BadMachine":=⟨44,mK "BadMachine" 44 (by kernel_rfl),⟨by kernel_rfl,by kernel_rfl,⟨(clsIn (fr w) 44).getD default,by kernel_rfl⟩,by kernel_rfl,by kernel_rfl,by kernel_rfl,by kernel_rfl,by kernel_rfl,by kernel_rfl,yg,yt⟩⟩
 have E_BadMachine:∃T:ECls (fr w) mg "BadMachine",ca "BadMachine"=.ref T.C:=⟨CL_BadMachine,by rfl⟩
 let CL_TooMany:ECls (fr w) mg "TooMany":=⟨56,mK "TooMany" 56 (by kernel_rfl),⟨by kernel_rfl,by kernel_rfl,⟨(clsIn (fr w) 56).getD default,by kernel_rfl⟩,by kernel_rfl,by kernel_rfl,by kernel_rfl,by kernel_rfl,by kernel_rfl,by kernel_rfl,yg,yt⟩⟩
 have E_TooMany:∃T:ECls (fr w) mg "TooMany",ca "TooMany"=.ref T.C:=⟨CL_TooMany,by rfl⟩
 let CL_WalkError:ECls (fr w) mg "WalkError":=⟨31,mK "WalkError" 31 (by kernel_rfl),⟨by kernel_rfl,by kernel_rfl,⟨(clsIn (fr w) 31).getD default,by kernel_rfl⟩,by kernel_rfl,by kernel_rfl,by kernel_rfl,by kernel_rfl,by kernel_rfl,by kernel_rfl,yg,yt⟩⟩
 have E_WalkError:∃T:ECls (fr w) mg "WalkError",ca "WalkError"=.ref T.C:=⟨CL_WalkError,by rfl⟩
 have F20:=zeu (st:=zff) (show(fr w).lookup 139=some (o139 w.params) by kernel_rfl) (show codeIn (fr w) (.ref 138) "Door.__init__"=true by kernel_rfl) (by kernel_rfl)
 have F21:=zeu (st:=zd6) (show(fr w).lookup 172=some (o172 w.params) by kernel_rfl) (show codeIn (fr w) (.ref 171) "Machine.__init__"=true by kernel_rfl) (by kernel_rfl)
 have F22:=zeu (st:=zbw) (show(fr w).lookup 179=some (o179 w.params) by kernel_rfl) (show codeIn (fr w) (.ref 178) "Machine.watches"=true by kernel_rfl) (by kernel_rfl)
 have F23:=zeu (st:=zce) (show(fr w).lookup 186=some (o186 w.params) by kernel_rfl) (show codeIn (fr w) (.ref 185) "Machine.rooms"=true by kernel_rfl) (by kernel_rfl)
 have F24:=zeu (st:=zcf) (show(fr w).lookup 193=some (o193 w.params) by kernel_rfl) (show codeIn (fr w) (.ref 192) "Machine.doors"=true by kernel_rfl) (by kernel_rfl)
 have F25:=zeu (st:=zd5) (show(fr w).lookup 200=some (o200 w.params) by kernel_rfl) (show codeIn (fr w) (.ref 199) "Machine.stay"=true by kernel_rfl) (by kernel_rfl)
 have F26:=zeu (st:=zfg) (show(fr w).lookup 146=some (o146 w.params) by kernel_rfl) (show codeIn (fr w) (.ref 145) "Door.asks"=true by kernel_rfl) (by kernel_rfl)
 have F27:=zeu (st:=zfe) (show(fr w).lookup 153=some (o153 w.params) by kernel_rfl) (show codeIn (fr w) (.ref 152) "Door.sets"=true by kernel_rfl) (by kernel_rfl)
 have F49:=zeu (st:=zwj) (show(fr w).lookup 403=some (o403 w.params) by kernel_rfl) (show codeIn (fr w) (.ref 402) "law"=true by kernel_rfl) (by kernel_rfl)
 let T49:Tx (fr w) mg "law" zwj ["_law_script"]:=⟨_,_,F49,mK "law" 403 (by kernel_rfl),.all (us1 λ_=>rfl)⟩
 refine⟨T49.fd,λs v=>.of_eq rfl,λbase _ _=>?_⟩
 have q:Qx pw w (fr w) mg base ca:=⟨mK⟩;let D1:=dfX q (f:=zly) (o:=o320 w.params) 320 (.all (us2 λ_ _=>rfl)) zs7 zte (za1 b_len za6) zae gxC
 let D2:=dfX q (f:=znk) (o:=o327 w.params) 327 (.all (us2 λ_ _=>rfl)) zv4 zvp (za1 b_range za6) zae gxC
 let D3:=dfX q (f:=zr8) (o:=o334 w.params) 334 (.all (us3 λ_ _ _=>rfl)) zwi zyu za6 (za9 (by decide) D2 zae) gxC
 let D4:=dfX q (f:=zr5) (o:=o341 w.params) 341 (.all (us2 λ_ _=>rfl)) zwf zyr (za1 b_range (za1 b_int za6)) zae gxC
 let D5:=dfX q (f:=zcl) (o:=o93 w.params) 93 (.all (us1 λ_=>rfl)) zi9 ziq za6 zae gxC
 let D6:=dfX q (f:=zjh) (o:=o98 w.params) 98 (.all (us1 λ_=>rfl)) zv2 zvn (za1 b_len (za1 b_all za6)) (za9 (by decide) D5 zae) gxC
 let D7:=dfX q (f:=zdd) (o:=o105 w.params) 105 (.all (us1 λ_=>rfl)) zjz zk9 (za1 b_isinstance (za1 b_str za6)) (za9 (by decide) D6 zae) gxC
 let D8:=dfX q (f:=ze1) (o:=o110 w.params) 110 (.all (us1 λ_=>rfl)) zky zm2 (za1 b_isinstance (za1 b_str (za1 b_len (za1 b_all za6)))) (za9 (by decide) D5 zae) gxC
 let D9:=dfX q (f:=zlv) (o:=o65 w.params) 65 (.all (us1 λ_=>rfl)) zs4 ztb (za1 b_isinstance (za1 b_int (za1 b_bool za6))) zae gxC
 let D10:=dfX q (f:=zjv) (o:=o81 w.params) 81 (.all (us1 λ_=>rfl)) zq7 zrh za6 (za9 (by decide) D9 zae) gxC
 let D11:=dfX q (f:=znj) (o:=o74 w.params) 74 (.all (us3 λ_ _ _=>rfl)) zv3 zvo (za1 b_isinstance (za1 b_tuple (za1 b_len za6))) (za9 (by decide) D10 zae) gxC
 let D12:=dfX q (f:=zi0) (o:=o86 w.params) 86 (.all (us3 λ_ _ _=>rfl)) zs5 ztc (za1 b_isinstance (za1 b_list (za1 b_all za6))) (za9 (by decide) D11 zae) gxC (hce:=(za1 (by rfl) (za1 (by rfl) za6)))
 let D13:=dfX q (f:=zbx) (o:=o226 w.params) 226 (.all (us1 λ_=>rfl)) zo2 zpe (za1 b_len (za1 b_set za6)) zae gxC
 let D14:=dfX q (f:=zg0) (o:=o219 w.params) 219 (.all (us1 λ_=>rfl)) zk0 zka (za1 b_isinstance (za1 b_list (za1 b_len (za1 b_all za6)))) (za9 (by decide) D7 (za9 (by decide) D13 zae)) (gxC (co:=(zas ⟨(.int (7) 290),(.int 7),mg_of X G (show nsIn (fr w) mainGlobals "MOST_WATCHES"=some (some (.int (7) 290)) by kernel_rfl),⟨_,rfl⟩,λF=>.int _⟩ zbe))) (hex:=(za1 E_BadMachine za6))
 let D15:=dfX q (f:=zhi) (o:=o231 w.params) 231 (.all (us2 λ_ _=>rfl)) zmd zmz (za1 b_isinstance (za1 b_list (za1 b_len (za1 b_tuple za6)))) (za9 (by decide) D8 (za9 (by decide) D12 (za9 (by decide) D13 zae))) (gxC (co:=(zas ⟨_,.ref 67,mK "STAY_WORDS" 67 (by kernel_rfl),rfl,λF=>Rps.of_node (k:=.rt) (xs:=[.str "<",.str "<="]) (.inr ⟨o67 w.params,_,_,by kernel_rfl,rfl,rfl,by decide,(.cons ⟨_,rfl⟩ (.cons ⟨_,rfl⟩ .nil))⟩) (zsg ["<","<="])⟩ zbe))) (hex:=(za1 E_BadMachine za6))
 let D16:=dfX q (f:=zhl) (o:=o243 w.params) 243 (.all (us2 λ_ _=>rfl)) zmg zn2 (za1 b_isinstance (za1 b_list (za1 b_all za6))) (za9 (by decide) D7 (za9 (by decide) D13 zae)) gxC (hce:=(za1 (by rfl) za6))
 let D17:=dfX q (f:=zni) (o:=o117 w.params) 117 (.all (us1 λ_=>rfl)) zv1 zvm (za1 b_isinstance (za1 b_str za6)) (za9 (by decide) D6 zae) gxC
 let D18:=dfX q (f:=zlu) (o:=o124 w.params) 124 (.all (us1 λ_=>rfl)) zs3 zta (za1 b_isinstance (za1 b_list za6)) zae gxC
 let D19:=dfX q (f:=zhk) (o:=o238 w.params) 238 (.all (us3 λ_ _ _=>rfl)) zmf zn1 (za1 b_isinstance (za1 b_list za6)) (za9 (by decide) D12 (za9 (by decide) D16 (za9 (by decide) D17 zae))) (gxC (co:=(zas ⟨_,.ref 66,mK "WORDS" 66 (by kernel_rfl),rfl,λF=>Rps.of_node (k:=.rt) (xs:=[.str "<",.str "<=",.str ">",.str ">=",.str "="]) (.inr ⟨o66 w.params,_,_,by kernel_rfl,rfl,rfl,by decide,(.cons ⟨_,rfl⟩ (.cons ⟨_,rfl⟩ (.cons ⟨_,rfl⟩ (.cons ⟨_,rfl⟩ (.cons ⟨_,rfl⟩ .nil)))))⟩) (zsg ["<","<=",">",">=","="])⟩ zbe)) (cl:=(za1 ⟨cl_Door,na_Door⟩ za6)) (ci:=(zas ⟨156,mK "Door" 156 (by kernel_rfl),(zas ⟨⟨cl_Door,by kernel_rfl,by kernel_rfl,by kernel_rfl,by kernel_rfl⟩,by kernel_rfl⟩ (zas ⟨⟨cl_Machine,by kernel_rfl,by kernel_rfl,by kernel_rfl,by kernel_rfl⟩,by kernel_rfl⟩ zbe))⟩ zbe))) (hex:=(za1 E_BadMachine za6))
 have K20:FnOk pw w (fr w) mg base (CX1 pw w) 2 _ _ ["self","start","end","guard","noughts","sign"] (spN (fr w) ca zah zc9):=zDu (C:=zah) (fs:=zaq) (n:=200) (Γ:=zjr) F20 zq9 rfl rfl za6 rfl za6 (za9 (by decide) D18 zae) za6 zeo rfl (gxC (sf:=(λC fs h=>by cases h;exact⟨cl_Door,na_Door⟩))) zrj
 let D20:NewX pw w (fr w) mg base "Door" zah 2 ["self","start","end","guard","noughts","sign"] (spN (fr w) ca zah zc9):=⟨_,_,mK "Door" 156 (by kernel_rfl),⟨by kernel_rfl,by kernel_rfl,by kernel_rfl,by kernel_rfl⟩,K20⟩
 have E20:zjn (fr w) D20.fd ["self","start","end","guard","noughts","sign"] []:=λs us X hl=>match us,hl with|[_,_,_,_,_,_],_=>binds_K X rfl (show(fr w).lookup 132=some (o132 w.params) by kernel_rfl) rfl rfl rfl
 have K21:FnOk pw w (fr w) mg base (CX1 pw w) 6 _ _ ["self","watches","rooms","doors"] (spN (fr w) ca za8 zay):=zDu (C:=za8) (fs:=zaa) (n:=200) (Γ:=zgo) F21 zl0 rfl rfl za6 rfl (za1 b_len (za1 b_list za6)) (za9 (by decide) D14 (za9 (by decide) D15 (za9 (by decide) D19 zae))) (za1 E_TooMany za6) zeo rfl (gxC (co:=(zas ⟨(.int (64) 292),(.int 64),mg_of X G (show nsIn (fr w) mainGlobals "MOST_ROOMS"=some (some (.int (64) 292)) by kernel_rfl),⟨_,rfl⟩,λF=>.int _⟩ (zas ⟨(.int (200) 294),(.int 200),mg_of X G (show nsIn (fr w) mainGlobals "MOST_DOORS"=some (some (.int (200) 294)) by kernel_rfl),⟨_,rfl⟩,λF=>.int _⟩ zbe))) (sf:=(λC fs h=>by cases h;exact⟨cl_Machine,na_Machine⟩))) zm4
 let D21:NewX pw w (fr w) mg base "Machine" za8 6 ["self","watches","rooms","doors"] (spN (fr w) ca za8 zay):=⟨_,_,mK "Machine" 210 (by kernel_rfl),⟨by kernel_rfl,by kernel_rfl,by kernel_rfl,by kernel_rfl⟩,K21⟩
 have E21:zjn (fr w) D21.fd ["self","watches","rooms","doors"] []:=.all (us4 λ_ _ _ _=>rfl)
 have K22:FnOk pw w (fr w) mg base (CX1 pw w) 1 _ _ ["self"] (spP (fr w) ca zat):=zr3 (n:=200) (Γ:=zeg) F22 zib rfl rfl za6 rfl (za1 b_list za6) zae za6 zeo rfl (gxC (cl:=(za1 ⟨cl_Machine,na_Machine⟩ za6))) zis;let D22:MetX pw w (fr w) mg base za8 "watches" 1 ["self"] (spP (fr w) ca zat):=⟨_,_,cl_Machine,⟨by kernel_rfl,by kernel_rfl,by kernel_rfl⟩,K22,.all (us1 λ_=>rfl)⟩
 have K23:FnOk pw w (fr w) mg base (CX1 pw w) 1 _ _ ["self"] (spP (fr w) ca zb1):=zr3 (n:=200) (Γ:=zfy) F23 zk1 rfl rfl za6 rfl (za1 b_list za6) zae za6 zeo rfl (gxC (cl:=(za1 ⟨cl_Machine,na_Machine⟩ za6))) zkb;let D23:MetX pw w (fr w) mg base za8 "rooms" 1 ["self"] (spP (fr w) ca zb1):=⟨_,_,cl_Machine,⟨by kernel_rfl,by kernel_rfl,by kernel_rfl⟩,K23,.all (us1 λ_=>rfl)⟩
 have K24:FnOk pw w (fr w) mg base (CX1 pw w) 1 _ _ ["self"] (spP (fr w) ca zam):=zr3 (n:=200) (Γ:=zfz) F24 zk2 rfl rfl za6 rfl (za1 b_list za6) zae za6 zeo rfl (gxC (cl:=(za1 ⟨cl_Machine,na_Machine⟩ za6))) zkc;let D24:MetX pw w (fr w) mg base za8 "doors" 1 ["self"] (spP (fr w) ca zam):=⟨_,_,cl_Machine,⟨by kernel_rfl,by kernel_rfl,by kernel_rfl⟩,K24,.all (us1 λ_=>rfl)⟩
 have K25:FnOk pw w (fr w) mg base (CX1 pw w) 1 _ _ ["self","room"] (spP (fr w) ca zb7):=zr3 (n:=200) (Γ:=zgn) F25 zkz rfl rfl za6 rfl (za1 b_list za6) zae za6 zeo rfl (gxC (cl:=(za1 ⟨cl_Machine,na_Machine⟩ za6))) zm3;let D25:MetX pw w (fr w) mg base za8 "stay" 1 ["self","room"] (spP (fr w) ca zb7):=⟨_,_,cl_Machine,⟨by kernel_rfl,by kernel_rfl,by kernel_rfl⟩,K25,.all (us2 λ_ _=>rfl)⟩
 have K26:FnOk pw w (fr w) mg base (CX1 pw w) 1 _ _ ["self"] (spP (fr w) ca zca):=zr3 (n:=200) (Γ:=zjs) F26 zqa rfl rfl za6 rfl (za1 b_list za6) zae za6 zeo rfl (gxC (cl:=(za1 ⟨cl_Door,na_Door⟩ za6))) zrk;let D26:MetX pw w (fr w) mg base zah "asks" 1 ["self"] (spP (fr w) ca zca):=⟨_,_,cl_Door,⟨by kernel_rfl,by kernel_rfl,by kernel_rfl⟩,K26,.all (us1 λ_=>rfl)⟩
 have K27:FnOk pw w (fr w) mg base (CX1 pw w) 1 _ _ ["self"] (spP (fr w) ca zc8):=zr3 (n:=200) (Γ:=zjq) F27 zq8 rfl rfl za6 rfl (za1 b_list za6) zae za6 zeo rfl (gxC (cl:=(za1 ⟨cl_Door,na_Door⟩ za6))) zri;let D27:MetX pw w (fr w) mg base zah "sets" 1 ["self"] (spP (fr w) ca zc8):=⟨_,_,cl_Door,⟨by kernel_rfl,by kernel_rfl,by kernel_rfl⟩,K27,.all (us1 λ_=>rfl)⟩
 let D28:=dfX q (f:=zev) (o:=o270 w.params) 270 (.all (us1 λ_=>rfl)) zmh zn3 za6 zae (gxC (mt:=(za1 ⟨by decide,⟨D22⟩⟩ za6)))
 let D29:=dfX q (f:=zhj) (o:=o263 w.params) 263 (.all (us1 λ_=>rfl)) zme zn0 (za1 b_isinstance (za1 b_list (za1 b_len (za1 b_all za6)))) (za9 (by decide) D28 (za9 (by decide) D13 zae)) (gxC (co:=(zas ⟨(.int (6) 491),(.int 6),mg_of X G (show nsIn (fr w) mainGlobals "MOST_PARTS"=some (some (.int (6) 491)) by kernel_rfl),⟨_,rfl⟩,λF=>.int _⟩ (zas ⟨(.int (7) 290),(.int 7),mg_of X G (show nsIn (fr w) mainGlobals "MOST_WATCHES"=some (some (.int (7) 290)) by kernel_rfl),⟨_,rfl⟩,λF=>.int _⟩ zbe))) (ci:=(zas ⟨210,mK "Machine" 210 (by kernel_rfl),(zas ⟨⟨cl_Door,by kernel_rfl,by kernel_rfl,by kernel_rfl,by kernel_rfl⟩,by kernel_rfl⟩ (zas ⟨⟨cl_Machine,by kernel_rfl,by kernel_rfl,by kernel_rfl,by kernel_rfl⟩,by kernel_rfl⟩ zbe))⟩ zbe))) (hex:=(za1 E_BadMachine za6))
 let D30:=dfX q (f:=zhm) (o:=o275 w.params) 275 (.all (us1 λ_=>rfl)) zmi zn4 (za1 b_len za6) zae (gxC (co:=(zas ⟨(.int (64) 292),(.int 64),mg_of X G (show nsIn (fr w) mainGlobals "MOST_ROOMS"=some (some (.int (64) 292)) by kernel_rfl),⟨_,rfl⟩,λF=>.int _⟩ zbe)) (mt:=(za1 ⟨by decide,⟨D23⟩⟩ za6))) (hce:=(za1 (by rfl) za6)) (hex:=(za1 E_TooMany za6))
 let D31:=dfX q (f:=zdg) (o:=o282 w.params) 282 (.all (us1 λ_=>rfl)) zo0 zpc za6 zae gxC
 let D32:=dfX q (f:=zcm) (o:=o258 w.params) 258 (.all (us1 λ_=>rfl)) zia zir (za1 b_all za6) (za9 (by decide) D29 (za9 (by decide) D30 (za9 (by decide) D31 (za9 (by decide) D13 (za9 (by decide) D8 zae))))) gxC (hex:=(za1 E_BadMachine za6))
 let D33:=dfX q (f:=zil) (o:=o289 w.params) 289 (.all (us2 λ_ _=>rfl)) znz zpb (za1 b_zip za6) zae (gxC (mt:=(za1 ⟨by decide,⟨D25⟩⟩ za6)))
 let D34:=dfX q (f:=zim) (o:=o313 w.params) 313 (.all (us3 λ_ _ _=>rfl)) zo1 zpd (za1 b_list za6) (za9 (by decide) D31 zae) (gxC (cl:=(za1 ⟨cl_Door,na_Door⟩ za6)) (mt:=(za1 ⟨by decide,⟨D24⟩⟩ (za1 ⟨by decide,⟨D26⟩⟩ (za1 ⟨by decide,⟨D27⟩⟩ za6)))) (nw:=(zoe ⟨by decide,zah,D20,(zas ⟨[.str ""],[.str (Str.ofString "") 348],(λs us X hl=>us5 (P:=λus=>BindsTo s _ ⟨us,[]⟩ (List.zip _ (us++_))) (λ_ _ _ _ _=>binds_K X rfl (show(fr w).lookup 132=some (o132 w.params) by kernel_rfl) rfl rfl rfl) us (by simpa using hl)),.cons ⟨_,rfl⟩ .nil,λF=>.cons (H:=F) (.str _) .nil⟩ zbe)⟩ zu6)))
 let D35:=dfX q (f:=zju) (o:=o301 w.params) 301 (.all (us3 λ_ _ _=>rfl)) zq6 zrg (za1 b_enumerate za6) zae (gxC (cl:=(za1 ⟨cl_Door,na_Door⟩ za6)))
 let D36:=dfX q (f:=zhh) (o:=o306 w.params) 306 (.all (us3 λ_ _ _=>rfl)) zmc zmy (za1 b_all za6) zae (gxC (cl:=(za1 ⟨cl_Door,na_Door⟩ za6))) (hce:=(za1 (by rfl) (za1 (by rfl) za6)))
 let D37:=dfX q (f:=zfr) (o:=o294 w.params) 294 (.all (us2 λ_ _=>rfl)) zny zpa (za1 b_enumerate (za1 b_range (za1 b_len za6))) (za9 (by decide) D35 (za9 (by decide) D36 zae)) (gxC (co:=(zas ⟨(.int (200) 294),(.int 200),mg_of X G (show nsIn (fr w) mainGlobals "MOST_DOORS"=some (some (.int (200) 294)) by kernel_rfl),⟨_,rfl⟩,λF=>.int _⟩ zbe)) (mt:=(za1 ⟨by decide,⟨D24⟩⟩ za6))) (hce:=(za1 (by rfl) (za1 (by rfl) za6))) (hex:=(za1 E_TooMany za6))
 let D38:=dfX q (f:=zhz) (o:=o248 w.params) 248 (.all (us1 λ_=>rfl)) zs2 zt9 za6 (za9 (by decide) D32 (za9 (by decide) D31 (za9 (by decide) D33 (za9 (by decide) D37 (za9 (by decide) D34 (za9 (by decide) D28 zae)))))) (gxC (nw:=(zoe ⟨by decide,za8,D21,(zas ⟨[],[],E21,.nil,λ_=>.nil⟩ zbe)⟩ zu6))) (hce:=(za1 (by rfl) za6))
 let D39:=dfX q (f:=zlt) (o:=o253 w.params) 253 (.all (us1 λ_=>rfl)) zwd zyp (za1 b_list za6) (za9 (by decide) D32 (za9 (by decide) D37 zae)) gxC
 let D40:=dfX q (f:=zr6) (o:=o348 w.params) 348 (.all (us3 λ_ _ _=>rfl)) zwg zys (za1 b_range (za1 b_len za6)) zae gxC
 let D41:=dfX q (f:=zul) (o:=o353 w.params) 353 (.all (us6 λ_ _ _ _ _ _=>rfl)) zA5 zC7 (za1 b_range (za1 b_len za6)) (za9 (by decide) D3 (za9 (by decide) D40 zae)) gxC (hce:=(za1 (by rfl) (za1 (by rfl) za6)))
 let D42:=dfX q (f:=zr4) (o:=o360 w.params) 360 (.all (us1 λ_=>rfl)) zwe zyq (za1 b_range za6) (za9 (by decide) D4 (za9 (by decide) D1 (za9 (by decide) D41 zae))) gxC
 let D43:=dfX q (f:=zui) (o:=o372 w.params) 372 (.all (us1 λ_=>rfl)) zA2 zC4 za6 zae gxC
 let D44:=dfX q (f:=zr7) (o:=o379 w.params) 379 (.all (us3 λ_ _ _=>rfl)) zwh zyt (za1 b_range (za1 b_len za6)) zae gxC
 let D45:=dfX q (f:=zya) (o:=o384 w.params) 384 (.all (us1 λ_=>rfl)) zEp zHc (za1 b_range (za1 b_len (za1 b_list za6))) (za9 (by decide) D43 (za9 (by decide) D44 zae)) gxC (hce:=(za1 (by rfl) (za1 (by rfl) za6)))
 let D46:=dfX q (f:=zlx) (o:=o365 w.params) 365 (.all (us1 λ_=>rfl)) zs6 ztd (za1 b_list za6) zae (gxC (nw:=(zoe ⟨by decide,zah,D20,(zas ⟨[],[],E20,.nil,λ_=>.nil⟩ zbe)⟩ (zoe ⟨by decide,za8,D21,(zas ⟨[],[],E21,.nil,λ_=>.nil⟩ zbe)⟩ zu6))))
 let D47:=dfX q (f:=zuk) (o:=o391 w.params) 391 (.all (us2 λ_ _=>rfl)) zA4 zC6 (za1 b_isinstance za6) (za9 (by decide) D38 (za9 (by decide) D39 zae)) (gxC (xs:=(zas ⟨CL_TooMany,(zas ⟨by rfl,by kernel_rfl⟩ zbe)⟩ zbe)) (sv:=(zas ⟨mN "ValueError" (by kernel_rfl),"ValueError",by kernel_rfl,(zas ⟨CL_WalkError.k,by kernel_rfl⟩ (zas ⟨CL_BadMachine.k,by kernel_rfl⟩ (zas ⟨CL_TooMany.k,by kernel_rfl⟩ zbe)))⟩ zbe)))
 let D48:=dfX q (f:=zuj) (o:=o398 w.params) 398 (.all (us2 λ_ _=>rfl)) zA3 zC5 (za1 b_isinstance za6) zae (gxC (cl:=(za1 ⟨cl_Door,na_Door⟩ za6)) (mt:=(za1 ⟨by decide,⟨D26⟩⟩ (za1 ⟨by decide,⟨D27⟩⟩ za6))) (ci:=(zas ⟨156,mK "Door" 156 (by kernel_rfl),(zas ⟨⟨cl_Door,by kernel_rfl,by kernel_rfl,by kernel_rfl,by kernel_rfl⟩,by kernel_rfl⟩ (zas ⟨⟨cl_Machine,by kernel_rfl,by kernel_rfl,by kernel_rfl,by kernel_rfl⟩,by kernel_rfl⟩ zbe))⟩ zbe)))
 have K49:FnOk pw w (fr w) mg base (CX1 pw w) 10 T49.f T49.fd ["_law_script"] (spP (fr w) ca zCg):=zr3 (n:=200) (Γ:=zDr) T49.F zJ2 rfl rfl za6 rfl (za1 b_len (za1 b_list (za1 b_isinstance (za1 b_all (za1 b_zip za6))))) (za9 (by decide) D42 (za9 (by decide) D46 (za9 (by decide) D45 (za9 (by decide) D47 (za9 (by decide) D38 (za9 (by decide) D39 (za9 (by decide) D48 zae))))))) za6 zeo rfl (gxC (mt:=(za1 ⟨by decide,⟨D24⟩⟩ za6))) zMa
 exact zL8 K49 λns h=>law_true ns h
theorem walk{l:PySem.W.OpenLaw}{q:Program}{loose:List Str}{XP:(Str->Option Value)->Heap->Prop}{YP:World->Heap->Prop}{d:DefRec}{K:Params->PySem.W.Frag}(hn:l.most=some 63)(hdf:d.params.defaults=[])
  (hY:∀(w:World) (h:Heap),YP w h->(K w.params).In h)
  (F : ∀ (w : World) (mg : Str -> Option Value) (fa : Addr) (h : Heap), (K w.params).In h -> h.Ns mainGlobals mg -> mg d.name = some (.ref fa) ->
   ∃fd:FuncData,(∀(s:Shared) (u:Value),BindsTo s fd ⟨[u],[]⟩ [("_law_script",u)])/\∀base:Heap,(K w.params).In base->base.Ns mainGlobals mg->FnOk l.prog w (K w.params) mg base CX0 10 fa fd ["_law_script"] (zzy (K w.params))) :
  PySem.W.WalkO q loose XP YP l.row.toRowW d [] (λf vs=>PySem.call f vs) :=
 L2.walk_of (n:=63) (k:=10) (x:="_law_script") (CX:=λ_=>CX0) (sp:=λw=>zzy (K w.params)) hn (by decide) hdf ⟨rfl,by decide,by decide⟩ hY F (λ_ _ a ns hl _ hS=>⟨a,ns,rfl,hS,hl,λ_=>rfl⟩) λ_ _ _ _ _ z=>z
end Zl
open PySem PySem.W PyProof.Rows
set_option maxRecDepth 100000 in
set_option maxHeartbeats 0 in
theorem PySem.Challenge.cw_zonewalk_k25_whole_doors_and_shares_holds : PySem.Challenge.rw_zonewalk_k25_whole_doors_and_shares.Holds := by
 refine holds_law Zl.said λs=>?_
 refine holds_open (q:=Zl.vq) (loose:=Zl.loo) (Xt:=Hd.xt PySem.Challenge.rw_zonewalk_k25_whole_doors_and_shares.row.toRowW Zl.vq) (XP:=XL Zl.vq []) (Yf:=Zl.hk.obs) (Ya:=Zl.hk.val) (YP:=Zl.hk.says) Zl.left Zl.hk.of Zl.hk.keeps (λs e=>xl_of s (Bool.and_eq_true_iff.mp e).1) XL.keeps (by rfl) (by rfl) (by rfl) (λs e=>recFacts_of (Bool.and_eq_true_iff.mp e).2) (by rfl) s (by decide +kernel) ⟨rfl,rfl,rfl,rfl,rfl,by decide +kernel⟩ ?hw ?hc
 case hw=>w_witness2
 case hc=>exact Zl.walk (l:=PySem.Challenge.rw_zonewalk_k25_whole_doors_and_shares) rfl rfl (λw h Y=>kIn_of Y) λw mg fa h X G e=>Zl.all_mk X G e
