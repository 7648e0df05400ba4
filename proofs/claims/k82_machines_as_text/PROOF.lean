import PyProof.Rows.All
import Wide.All
import OpenK.AllK
import Wide.FinOn
import Lean
import PyProof.EqAt
import PyProof.EqKinds
import PyProof.TupleCall
import PySem.Challenge.RW_zonewalk_k82_machines_as_text
set_option compiler.extract_closed false
set_option linter.all false
def ya0:=@List.length_map
def ya1:=@List.getElem?_eq_getElem
def ya2:=@Option.map_eq_some_iff
def ya3:=@Bool.and_eq_true
def ya4:=@List.getElem?_eq_some_iff
def ya5:=@List.length_append
def ya6:=@List.mem_singleton
def ya7:=@List.mem_cons
def ya8:=@List.length_cons
def ya9:=@List.mem_cons_of_mem
def yaa:=@List.getElem?_map
def yab:=@List.mem_cons_self
def yac:=@PySem.Heap.get?_push_of_some
def yad:=@Nat.le_refl
def yae:=@PySem.Heap.lt_size
def yaf:=@List.mem_map
def yag:=@List.size_toArray
def yah:=@List.map_cons
def yai:=@List.mem_append
def yaj:=@Nat.le_trans
def yak:=@List.map_map
def yal:=@PySem.Heap.get?_push_size
def yam:=@Nat.lt_of_lt_of_le
def yan:=@List.getD_eq_getElem?_getD
def yao:=@List.mem_append_right
def yap:=@List.append_assoc
def yaq:=@List.map_append
def yar:=@Array.getElem?_eq_getElem
def yas:=@List.getElem?_set_self
def yat:=@List.getElem?_set_ne
def yau:=@Nat.ne_of_lt
def yav:=@List.all_eq_true
def yaw:=@List.getElem?_append_right
def yax:=@Nat.le_of_eq
def yay:=@List.getElem?_append_left
def yaz:=@List.lookup_cons
def yb0:=@Bool.eq_false_iff
def yb1:=@Option.some.inj
def yb2:=@List.length_take
def yb3:=@Nat.lt_irrefl
def yb4:=@List.contains_iff_mem
def yb5:=@List.not_mem_nil
def yb6:=@List.mem_of_getElem?
def yb7:=@Bool.false_ne_true
def yb8:=@Ne.symm
def yb9:=@Int.fmod_nonneg_of_pos
def yba:=@List.append_nil
def ybb:=@PyProof.Rows.callWith_type1
def ybc:=@PySem.W.kia_one
def ybd:=@List.length_nil
def ybe:=@Int.natCast_nonneg
def ybf:=@List.getElem_mem
def ybg:=@List.getElem?_eq_none
def ybh:=@Array.getElem?_toList
def ybi:=@Nat.zero_le
def ybj:=@List.findIdx?_eq_some_iff_getElem
def ybk:=@Int.fmod_lt_of_pos
def ybl:=@Int.toNat_natCast
def ybm:=@List.flatten_cons
def ybn:=@List.length_singleton
def ybo:=@Nat.lt_trans
def ybp:=@Bool.or_eq_false_iff
def ybq:=@Int.eq_ofNat_of_zero_le
def ybr:=@Array.getD_eq_getD_getElem?
def ybs:=@PySem.mem_of_lookup
def ybt:=@List.replicate_succ
def ybu:=@List.map_congr_left
def ybv:=@List.cons.inj
def ybw:=@List.cons_ne_nil
def ybx:=@List.take_length
def yby:=@Option.map_some
def ybz:=@Bool.eq_iff_iff
def yc0:=@Bool.not_eq_true'
def yc1:=@PySem.W.hideAll_get
def yc2:=@PySem.Heap.size_push
def yc3:=@Nat.lt_succ_self
def yc4:=@PySem.Heap.get?_update_other
def yc5:=@Nat.le_succ
def yc6:=@PySem.F.plainAttrs_str
def yc7:=@List.mem_filterMap
def yc8:=@Bool.or_eq_true
def yc9:=@Array.getElem?_eq_some_iff
def yca:=@Nat.lt_succ_of_lt
def ycb:=@List.mem_append_left
def ycc:=@List.drop_eq_getElem_cons
def ycd:=@List.cons_append
def yce:=@PySem.F.slot_str_getitem
def ycf:=@Int.ofNat_lt
def ycg:=@Int.lt_of_lt_of_le
def ych:=@PySem.W.of_hideAll
def yci:=@List.find?_cons
def ycj:=@Int.mul_le_mul_of_nonneg_right
def yck:=@Bool.false_eq_true
def ycl:=@List.all_append
def ycm:=@Nat.min_eq_left
def ycn:=@PySem.F.slot_str_split
def yco:=@List.take_of_length_le
def ycp:=@List.reverse_cons
def ycq:=@Bool.true_or
def ycr:=@PySem.F.slot_str_join
def ycs:=@List.take_succ
def yct:=@PySem.Around.under_plainId
def ycu:=@Nat.mul_le_mul_right
def ycv:=@List.getElem?_range
def ycw:=@List.length_reverse
def ycx:=@List.nodup_cons
def ycy:=@List.nil_append
def ycz:=@List.drop_left'
def yd0:=@Nat.lt_of_le_of_lt
def yd1:=@Nat.le_of_lt
def yd2:=@PySem.Calls.spliced_cons
def yd3:=@PySem.W.callWith_K
def yd4:=@Option.isSome_iff_exists
def yd5:=@List.zip_cons_cons
def yd6:=@PySem.F.called_set
def yd7:=@PySem.F.args_str_split_2
def yd8:=@Bool.false_and
def yd9:=@List.getElem?_replicate
def yda:=@List.getElem?_cons_succ
def ydb:=@PyProof.Rows.F.plain_set_update_loop
def ydc:=@PySem.F.entry_str_split
def ydd:=@Nat.add_sub_cancel_left
def yde:=@PySem.Calls.spliced_nil
def ydf:=@Option.some.injEq
def ydg:=@List.length_range
def ydh:=@PyProof.V.reads_dictOf
def ydi:=@PySem.SeqAt.notIn_list_reads
def ydj:=@PyProof.Rows.boot_list
def ydk:=@List.getElem_inj
def ydl:=@List.length_drop
def ydm:=@List.length_replicate
def ydn:=@List.getElem?_reverse
def ydo:=@PySem.W.hideAll_none
def ydp:=@List.length_set
def ydq:=@PySem.Calls.evalArgs_plain
def ydr:=@Nat.succ_mul
def yds:=@List.map_nil
def ydt:=@List.filterMap_cons
def ydu:=@Array.length_toList
def ydv:=@PySem.W.plainGet_of
def ydw:=@PySem.SeqAt.in_list_reads
def ydx:=@Int.toNat_of_nonneg
def ydy:=@List.length_pos_iff
def ydz:=@List.mem_range
def ye0:=@Bool.and_false
def ye1:=@Array.append_assoc
def ye2:=@List.getElem?_drop
def ye3:=@List.findIdx?_cons
def ye4:=@PySem.Paired.length
def ye5:=@Bool.or_false
def ye6:=@List.any_cons
def ye7:=@Bool.false_or
def ye8:=@List.sum_cons
def ye9:=@PySem.W.kitx_dict
def yea:=@List.ext_getElem?
def yeb:=@Nat.succ_le_succ
def yec:=@Int.le_of_lt
def yed:=@Bool.or_true
def yee:=@PySem.Txt.slice_le
def yef:=@List.map_reverse
def yeg:=@List.isEmpty_iff
def yeh:=@PySem.StrLaws.subAt_eq
def yei:=@Option.getD_some
def yej:=@Nat.add_zero
set_option Elab.async false
set_option linter.all false
set_option maxRecDepth 100000
set_option genSizeOf false
local macro_rules
  |`(tactic| omega)=>`(tactic| first
    |assumption
    |exact yaj (by assumption) (by decide +kernel)
    |exact yam (by assumption) (by decide +kernel)
    |exact yd0 (by assumption) (by decide +kernel)
    |exact Nat.succ_pos _
    |exact yam (by assumption) (yeb (yaj (by assumption) (by decide +kernel)))
    |exact yeb (yaj (by assumption) (by decide +kernel))
    |exact ybo (by assumption) (by assumption)
    |exact yam (by assumption) (by assumption)
    |exact Int.lt_trans (b:=0) (by decide +kernel) (by assumption)
    |exact ycg (b:=0) (by decide +kernel) (by assumption)
    |exact Int.lt_of_le_of_lt (by assumption) (by decide +kernel)
    |exact Int.le_trans (by assumption) (by decide +kernel)
    |exact yec (by assumption)
    |exact Int.ne_of_gt (by assumption)
    |lia
    |fail)
namespace L2
open PySem PySem.Spec PyProof.Rows
abbrev Key:=Sum Int Str
def keyIs:Key->Value->Bool
 |.inl k,v=>Value.isInt k v
 |.inr x,v=>Value.isStrOf x v
def keyH(w:World):Key->Int
 |.inl k=>hashInt k
 |.inr x=>hashStr w x
theorem zb2:∀{k:Key} {v:Value},keyIs k v=true->(∃i t,k=Sum.inl i/\v=Value.int i t)\/(∃x t,k=Sum.inr x/\v=Value.str x t)
 |.inl i,v,h=>by
  obtain⟨t,e⟩:=Value.isInt_shape (k:=i) (v:=v) h;exact .inl ⟨i,t,rfl,e⟩
 |.inr x,v,h=>by
  obtain⟨t,e⟩:=Value.isStrOf_shape (x:=x) (v:=v) h;exact .inr ⟨x,t,rfl,e⟩
theorem keyIs_int(i:Int)(t:Tok):keyIs (.inl i) (.int i t)=true:=by simp[keyIs,Value.isInt]
theorem keyIs_str(x:Str)(t:Tok):keyIs (.inr x) (.str x t)=true:=by simp[keyIs,Value.isStrOf]
theorem key_ll(a b:Int):decide ((Sum.inl a:Key)=Sum.inl b)=(a == b):=by
 by_cases e:a=b
 ·subst e;simp
 ·have h:¬ (Sum.inl a:Key)=Sum.inl b:=fun q=>e (Sum.inl.inj q)
  rw[decide_eq_false h];exact(beq_eq_false_iff_ne.mpr e).symm
theorem key_rr(a b:Str):decide ((Sum.inr a:Key)=Sum.inr b)=decide (a=b):=by
 by_cases e:a=b
 ·subst e;simp
 ·have h:¬ (Sum.inr a:Key)=Sum.inr b:=fun q=>e (Sum.inr.inj q)
  rw[decide_eq_false h,decide_eq_false e]
theorem key_lr(a:Int)(b:Str):decide ((Sum.inl a:Key)=Sum.inr b)=false:=decide_eq_false (fun q=>nomatch q)
theorem key_rl(a:Str)(b:Int):decide ((Sum.inr a:Key)=Sum.inl b)=false:=decide_eq_false (fun q=>nomatch q)
def zbg(prog:Program)(w:World):PySem.KeyKind prog w Key where
 is:=keyIs
 hash:=keyH w
 inj:=fun v a b ha hb=>by
  rcases zb2 ha with ⟨i,t,rfl,rfl⟩|⟨x,t,rfl,rfl⟩
  ·rcases zb2 hb with ⟨j,u,rfl,e⟩|⟨y,u,rfl,e⟩
   ·injection e with e1 _;rw[e1]
   ·exact nomatch e
  ·rcases zb2 hb with ⟨j,u,rfl,e⟩|⟨y,u,rfl,e⟩
   ·exact nomatch e
   ·injection e with e1 _;rw[e1]
 byValue:=fun k v h=>by
  rcases zb2 h with ⟨i,t,rfl,rfl⟩|⟨x,t,rfl,rfl⟩<;>rfl
 pyHash:=fun hv h=>by
  rcases zb2 hv with ⟨i,t,rfl,rfl⟩|⟨x,t,rfl,rfl⟩
  ·exact wpAny_pyHash_int h
  ·exact wpAny_pyHash_str h
 eqBool:=fun hu hv h=>by
  rcases zb2 hu with ⟨i,t,rfl,rfl⟩|⟨x,t,rfl,rfl⟩
  ·rcases zb2 hv with ⟨j,u,rfl,rfl⟩|⟨y,u,rfl,rfl⟩
   ·rw[key_ll]at h;exact wpAny_eqBool_int h
   ·rw[key_lr]at h;exact SeqAt.EqAt.int_str i t y u _ _ _ _ h
  ·rcases zb2 hv with ⟨j,u,rfl,rfl⟩|⟨y,u,rfl,rfl⟩
   ·rw[key_rl]at h;exact SeqAt.EqAt.str_int x t j u _ _ _ _ h
   ·rw[key_rr]at h;exact wpAny_eqBool_str h
 «strs»:=fun k x t v h=>by
  rcases zb2 h with ⟨i,u,rfl,e⟩|⟨y,u,rfl,e⟩
  ·exact nomatch e
  ·injection e with e1 _
   subst e1;cases v<;>rfl
theorem mixKind_int(prog:Program)(w:World)(i:Int)(t:Tok):(zbg prog w).is (.inl i) (.int i t)=true:=keyIs_int i t
theorem mixKind_str(prog:Program)(w:World)(x:Str)(t:Tok):(zbg prog w).is (.inr x) (.str x t)=true:=keyIs_str x t
inductive V where
 |non|bl (b:Bool)|int (i:Int)|str (x:Str)|byt (b:Array UInt8)|flt (b:UInt64)|ref (a:Addr)|ty (n:String)
 deriving DecidableEq
def RelV:V->Value->Prop
 |.non,u=>u=Value.none
 |.bl b,u=>u=Value.bool b
 |.int i,u=>∃t,u=Value.int i t
 |.str x,u=>∃t,u=Value.str x t
 |.byt b,u=>∃t,u=Value.bytes b t
 |.flt b,u=>∃t,u=Value.float b t
 |.ref a,u=>u=Value.ref a
 |.ty n,u=>u=Value.type n
abbrev zb9:List V->List Value->Prop:=Paired RelV
theorem zb9.length{xs:List V}{us:List Value}(r:zb9 xs us):xs.length=us.length:=ye4 r
theorem zb9.get:∀{xs:List V} {us:List Value} {i:Nat} {x:V},zb9 xs us->xs[i]?=some x->∃u,us[i]?=some u/\RelV x u
 |_,_,_,_,.nil,e=>by simp at e
 |_,_,0,_,.cons r _,e=>by simp at e;subst e;exact⟨_,rfl,r⟩
 |_,_,i+1,x,.cons _ t,e=>by
  obtain⟨u,h1,h2⟩:=zb9.get (i:=i) (x:=x) t (by simpa using e)
  exact⟨u,by simpa using h1,h2⟩
theorem zb9.set{x:V}{u:Value}(r:RelV x u):∀{xs:List V} {us:List Value} (i:Nat),zb9 xs us->zb9 (xs.set i x) (us.set i u)
 |_,_,_,.nil=>.nil
 |_,_,0,.cons _ t=>.cons r t
 |_,_,i+1,.cons q t=>.cons q (zb9.set r i t)
theorem zb9.append:∀{xs ys:List V} {us ws:List Value},zb9 xs us->zb9 ys ws->zb9 (xs++ys) (us++ws)
 |_,_,_,_,.nil,s=>s
 |_,_,_,_,.cons r t,s=>.cons r (zb9.append t s)
theorem zb9.take:∀{xs:List V} {us:List Value} (n:Nat),zb9 xs us->zb9 (xs.take n) (us.take n)
 |_,_,0,_=>.nil
 |_,_,_+1,.nil=>.nil
 |_,_,n+1,.cons r t=>.cons r (zb9.take n t)
theorem zb9.drop:∀{xs:List V} {us:List Value} (n:Nat),zb9 xs us->zb9 (xs.drop n) (us.drop n)
 |_,_,0,r=>r
 |_,_,_+1,.nil=>.nil
 |_,_,n+1,.cons _ t=>zb9.drop n t
theorem zb9.none_of:∀{xs:List V} {us:List Value} {i:Nat},zb9 xs us->xs[i]?=none->us[i]?=none:=fun {xs us i} r e=>by
 have h1:=r.length;have h2:xs.length<=i:=List.getElem?_eq_none_iff.mp e;exact List.getElem?_eq_none_iff.mpr (by omega)
def RelO:Option V->Option Value->Prop
 |some v,some u=>RelV v u
 |none,none=>True
 |_,_=>False
def KV{κ:Type}:List (κ×V)->List (κ×Value)->Prop:=Paired fun(p:κ×V) (q:κ×Value)=>p.1=q.1/\RelV p.2 q.2
def kV:Key->V
 |.inl i=>.int i
 |.inr x=>.str x
inductive HO where
 |lst (xs:List V)
 |tup (xs:List V)
 |dK (kvs:List (Key×V))|dT (kvs:List (List Key×V))
 |set (S:Int->Bool) (n:Nat)
 |ins (C dx:Addr) (fs:List (Str×V))
 |own (x:Addr)
 |xd (fs:List (Str×V))
 |met (f x:Addr)
 |rng (lo hi:Int)
 |frz (o:Obj) (u:HO)
 |tbl (ps:Array Value)
 |ext (φ:Heap->Prop)
abbrev Hp:=Addr->Option HO
def upd(H:Hp)(a:Addr)(o:HO):Hp:=fun b=>if b=a then some o else H b
theorem zau{H:Hp}{a:Addr}{o:HO}:upd H a o a=some o:=by unfold upd;rw[if_pos rfl]
theorem zaj{H:Hp}{a b:Addr}{o:HO}(h:b≠a):upd H a o b=H b:=by unfold upd;rw[if_neg h]
theorem ne_of{H:Hp}{a b:Addr}{o u:HO}(h:H a=some o)(h':H b=some u)(d:o≠u):a≠b:=by
 intro e;subst e;rw[h]at h';exact d (yb1 h')
theorem zah{H:Hp}{a b:Addr}{o:HO}(h:H a=some o)(h':H b=none):a≠b:=by
 intro e;subst e;rw[h]at h';cases h'
section
variable (P:Program)(w:World)
def zbp(H:Hp)(h:Heap)(a:Addr):HO->Prop
 |.lst xs=>xs.length<=sizeLine/\∃(its:List Value) (n:Nat),zb9 xs its/\h.get? a=some { cls:=.type "list",data:=.seq its.toArray n }
 |.tup xs=>xs.length<=sizeLine/\∃its:List Value,zb9 xs its/\IsTup h a its.toArray
 |.dK kvs=>kvs.length<=sizeLine/\(a == sysModules)=false/\∃vs,KV kvs vs/\h.DictOf (zbg P w) a vs
 |.dT kvs=>kvs.length<=sizeLine/\(a == sysModules)=false/\∃xs:List (List Key×Addr×Value),
   Paired (fun(p:List Key×V) (q:List Key×Addr×Value)=>p.1=q.1/\H q.2.1=some (.tup (p.1.map kV))/\RelV p.2 q.2.2) kvs xs /\
   ∃o es ep,h.get? a=some o/\o.ExactDict/\o.data=.dict es ep/\es.toList=xs.map (entryOfKey (tupleKind (zbg P w)))/\(xs.map (·.1)).Nodup
 |.set S n=>h.SetOf (intKind P w) a S n
 |.ins C dx fs=>H dx=some (.own a)/\fs.length<=1000/\dx≠a/\h.get? a=some (PySem.W.instObj C dx) /\
   ∃mA,h.Ns1 dx mA/\(∀f,RelO (fs.lookup f) (mA f))/\PySem.Within mA (fs.map (·.1))
 |.own _=>∃o,h.get? a=some o
 |.xd fs=>∃mA,h.Ns1 a mA/\∀f,RelO (fs.lookup f) (mA f)
 |.rng lo hi=>∃t u v,h.get? a=some { cls:=.type "range",data:=.fields #[.int lo t,.int hi u,.int 1 v] }
 |.frz o u=>h.get? a=some o/\zbp H h a u
 |.tbl ps=>h.get? a=some { cls:=.none,data:=.fields ps }
 |.met f x=>h.get? a=some (PySem.W.methodObj (.ref f) (.ref x))
 |.ext φ=>φ h/\(∃o,h.get? a=some o)/\∀h1 h2:Heap,φ h1->(∀o,h1.get? a=some o->h2.get? a=some o)->φ h2
def HOk(H:Hp)(h:Heap):Prop:=∀a o,H a=some o->zbp P w H h a o
end
section
variable {P:Program}{w:World}{H H':Hp}{h h':Heap}{a:Addr}{o:HO}
theorem zbp.lt(x:zbp P w H h a o):a<h.objs.size:=by
 cases o with
 |lst xs=>obtain⟨_,_,_,_,e⟩:=x;exact yae e
 |tup xs=>obtain⟨_,_,_,p⟩:=x;exact p.lt
 |dK kvs=>obtain⟨_,_,_,_,o,_,_,e,_⟩:=x;exact yae e
 |dT kvs=>obtain⟨_,_,_,_,o,_,_,e,_⟩:=x;exact yae e
 |set S n=>obtain⟨o,_,_,_,e,_⟩:=x;exact yae e
 |ins C dx fs=>obtain⟨_,_,_,e,_⟩:=x;exact yae e
 |own y=>obtain⟨_,e⟩:=x;exact yae e
 |xd fs=>obtain⟨_,⟨_,_,_,e,_⟩,_⟩:=x;exact yae e
 |rng lo hi=>obtain⟨_,_,_,e⟩:=x;exact yae e
 |frz ob u=>obtain⟨e,_⟩:=x;exact yae e
 |tbl ps=>exact yae (show h.get? a=some _ from x)
 |met f y=>exact yae (show h.get? a=some _ from x)
 |ext φ=>obtain⟨_,⟨_,e⟩,_⟩:=x;exact yae e
theorem Paired.mapP{α β:Type}{F G:α->β->Prop}:∀{l₁:List α} {l₂:List β},Paired F l₁ l₂->(∀a b,F a b->G a b)->Paired G l₁ l₂
 |_,_,.nil,_=>.nil
 |_,_,.cons r t,f=>.cons (f _ _ r) (Paired.mapP t f)
theorem zbp.stay(x:zbp P w H h a o)(k:∀b u,(b=a\/H b=some (.own a))->h.get? b=some u->h'.get? b=some u)
  (ho:∀b,H b=some (.own a)->H' b=some (.own a)) (ht:∀b xs,H b=some (.tup xs)->H' b=some (.tup xs)):zbp P w H' h' a o:=by
 induction o with
 |lst xs=>obtain⟨z,its,n,r,e⟩:=x;exact⟨z,its,n,r,k _ _ (.inl rfl) e⟩
 |tup xs=>obtain⟨z,its,r,ob,e,c⟩:=x;exact⟨z,its,r,ob,k _ _ (.inl rfl) e,c⟩
 |dK kvs=>obtain⟨z,y,vs,r,ob,es,ep,e,c⟩:=x;exact⟨z,y,vs,r,ob,es,ep,k _ _ (.inl rfl) e,c⟩
 |dT kvs =>
  obtain⟨z,y,xs,r,ob,es,ep,e,c⟩:=x;exact⟨z,y,xs,Paired.mapP r fun p q z=>⟨z.1,ht _ _ z.2.1,z.2.2⟩,ob,es,ep,k _ _ (.inl rfl) e,c⟩
 |set S n=>obtain⟨ob,es,ep,t,e,c⟩:=x;exact⟨ob,es,ep,t,k _ _ (.inl rfl) e,c⟩
 |ins C dx fs =>
  obtain⟨d,z,ne,e,mA,⟨od,es,ep,e2,c⟩,r⟩:=x;exact⟨ho _ d,z,ne,k _ _ (.inl rfl) e,mA,⟨od,es,ep,k _ _ (.inr d) e2,c⟩,r⟩
 |own y=>obtain⟨ob,e⟩:=x;exact⟨ob,k _ _ (.inl rfl) e⟩
 |xd fs=>obtain⟨mA,⟨od,es,ep,e,c⟩,r⟩:=x;exact⟨mA,⟨od,es,ep,k _ _ (.inl rfl) e,c⟩,r⟩
 |rng lo hi=>obtain⟨t,u,v,e⟩:=x;exact⟨t,u,v,k _ _ (.inl rfl) e⟩
 |frz ob u ih=>obtain⟨e,q⟩:=x;exact⟨k _ _ (.inl rfl) e,ih q⟩
 |tbl ps =>
  have e:h.get? a=some { cls:=.none,data:=.fields ps }:=x;show h'.get? a=some { cls:=.none,data:=.fields ps };exact k a _ (.inl rfl) e
 |met f y =>
  have e:h.get? a=some (PySem.W.methodObj (.ref f) (.ref y)):=x;show h'.get? a=some (PySem.W.methodObj (.ref f) (.ref y));exact k a _ (.inl rfl) e
 |ext φ=>obtain⟨p,⟨o,e⟩,st⟩:=x;exact⟨st _ _ p fun o q=>k _ _ (.inl rfl) q,⟨o,k _ _ (.inl rfl) e⟩,st⟩
theorem HOk.lt(x:HOk P w H h)(e:H a=some o):a<h.objs.size:=(x a o e).lt
theorem HOk.fresh(x:HOk P w H h)(e:h.objs.size<=a):H a=none:=by
 cases q:H a with
 |none=>rfl
 |some u=>exact absurd (yam (x.lt q) e) (yb3 _)
theorem HOk.kept(x:HOk P w H h)(k:∀b u,h.get? b=some u->h'.get? b=some u):HOk P w H h':=fun a o e =>
 (x a o e).stay (fun b u _ q=>k b u q) (fun _ q=>q) fun _ _ q=>q
theorem HOk.laid(x:HOk P w H h)(k:∀b u,h.get? b=some u->h'.get? b=some u)(hp:h.objs.size<=a)(new:zbp P w (upd H a o) h' a o):HOk P w (upd H a o) h':=fun b u e=>by
 have hn:=x.fresh hp
 by_cases hb:b=a
 ·subst hb;rw[zau]at e;cases e;exact new
 ·rw[zaj hb]at e;exact(x b u e).stay (fun c v _ q=>k c v q) (fun c q=>by rw[zaj (zah q hn)];exact q) fun c xs q=>by rw[zaj (zah q hn)];exact q
end
def Rd(H:Hp)(a:Addr)(u:HO):Prop:=H a=some u\/∃o,H a=some (.frz o u)
theorem Rd.of{H:Hp}{a:Addr}{u:HO}(h:H a=some u):Rd H a u:=.inl h
theorem Rd.ok{P:Program}{w:World}{H:Hp}{h:Heap}{a:Addr}{u:HO}(r:Rd H a u)(x:HOk P w H h):zbp P w H h a u:=by
 rcases r with r|⟨o,r⟩
 ·exact x a u r
 ·obtain⟨_,q⟩:=x a _ r;exact q
def Mut:Option HO->Prop
 |some (.lst _)=>True
 |some (.dK _)=>True
 |some (.dT _)=>True
 |some (.set _ _)=>True
 |some (.ins _ _ _)=>True
 |some (.ext _)=>True
 |_=>False
section
variable {P:Program}{w:World}{H:Hp}{h h':Heap}{x e:Addr}{o':HO}
theorem HOk.write(ok:HOk P w H h)(mu:Mut (H x))(he:e=x\/H e=some (.own x))(k:∀b u,b≠e->h.get? b=some u->h'.get? b=some u)(heo:∃u,h'.get? e=some u)
  (new:zbp P w (upd H x o') h' x o'):HOk P w (upd H x o') h':=fun b u q=>by
 have nown:∀c y,H c=some (.own y)->c≠x:=fun c y r z=>by subst z;rw[r]at mu;exact mu
 have ntup:∀c xs,H c=some (.tup xs)->c≠x:=fun c xs r z=>by subst z;rw[r]at mu;exact mu
 by_cases hb:b=x
 ·subst hb;rw[zau]at q;cases q;exact new
 ·rw[zaj hb]at q
  by_cases hbe:b=e
  ·have q':H b=some (.own x):=by
    rcases he with z|z
    ·exact absurd (hbe.trans z) hb
    ·rw[hbe];exact z
   rw[q]at q';cases q';obtain⟨v,hv⟩:=heo;exact⟨v,by rw[hbe];exact hv⟩
  ·refine(ok b u q).stay (fun c v hc r=>k c v ?_ r) (fun c r=>by rw[zaj (nown c b r)];exact r) fun c xs r=>by rw[zaj (ntup c xs r)];exact r
   rcases hc with rfl|hc
   ·exact hbe
   ·rintro rfl
    rcases he with z|z
    ·exact nown c b hc z
    ·rw[hc]at z;cases z;exact hb rfl
end
structure Un(fs ex:List Addr)(H H':Hp)(h h':Heap):Prop where
 keep:∀b o,h.get? b=some o->H b=none->b∉fs->b∉ex->h'.get? b=some o
 slot:∀b o,h.get? b=some o->H b=none->b∈fs->b∉ex->∃sl,h'.get? b=some { o with slots:=sl }
 free:∀b o,h.get? b=some o->H b=none->b∉ex->H' b=none
 there:∀b o,h.get? b=some o->b∉ex->∃o',h'.get? b=some o'
 tups:∀b xs,H b=some (.tup xs)->H' b=some (.tup xs)
 frzs:∀b o u,H b=some (.frz o u)->H' b=some (.frz o u)
 tbls:∀b ps,H b=some (.tbl ps)->∃more,H' b=some (.tbl (ps++more))
section
variable {fs fs' ex ex':List Addr}{H H1 H2:Hp}{h h1 h2 h':Heap}{a x e:Addr}{o:HO}
theorem Un.any(u:Un fs ex H H1 h h1){b:Addr}{ob:Obj}(q:h.get? b=some ob)(n:H b=none)(hx:b∉ex):∃sl,h1.get? b=some { ob with slots:=sl }:=by
 by_cases hb:b∈fs
 ·exact u.slot b ob q n hb hx
 ·exact⟨ob.slots,u.keep b ob q n hb hx⟩
theorem Un.trans(a:Un fs ex H H1 h h1)(b:Un fs ex H1 H2 h1 h2):Un fs ex H H2 h h2 where
 keep:=fun c ob q n hc hx=>b.keep c ob (a.keep c ob q n hc hx) (a.free c ob q n hx) hc hx
 slot:=fun c ob q n hc hx=>by
  obtain⟨sl,e1⟩:=a.slot c ob q n hc hx;obtain⟨sl',e2⟩:=b.slot c _ e1 (a.free c ob q n hx) hc hx;exact⟨sl',e2⟩
 free:=fun c ob q n hx=>by
  obtain⟨o',e1⟩:=a.there c ob q hx;exact b.free c o' e1 (a.free c ob q n hx) hx
 there:=fun c ob q hx=>by
  obtain⟨o',e1⟩:=a.there c ob q hx;exact b.there c o' e1 hx
 tups:=fun c xs q=>b.tups c xs (a.tups c xs q)
 frzs:=fun c ob xs q=>b.frzs c ob xs (a.frzs c ob xs q)
 tbls:=fun c ps q=>by
  obtain⟨m1,e1⟩:=a.tbls c ps q;obtain⟨m2,e2⟩:=b.tbls c _ e1;exact⟨m1++m2,by rw[e2,ye1]⟩
theorem Un.kept(k:∀b u,h.get? b=some u->h'.get? b=some u):Un fs ex H H h h' :=
 ⟨fun b ob q _ _ _=>k b ob q,fun b ob q _ _ _=>⟨ob.slots,k b ob q⟩,fun _ _ _ n _=>n,fun b ob q _=>⟨ob,k b ob q⟩,fun _ _ q=>q,fun _ _ _ q=>q,fun _ ps q=>⟨#[],by rw[q];simp⟩⟩
theorem Un.refl:Un fs ex H H h h:=Un.kept fun _ _ q=>q
theorem Un.laid(k:∀b u,h.get? b=some u->h'.get? b=some u)(hp:h.objs.size<=a)(hn:H a=none):Un fs ex H (upd H a o) h h' where
 keep:=fun b u q _ _ _=>k b u q
 slot:=fun b u q _ _ _=>⟨u.slots,k b u q⟩
 free:=fun b u q n _=>by rw[zaj (yau (yam (yae q) hp))];exact n
 there:=fun b u q _=>⟨u,k b u q⟩
 tups:=fun b xs q=>by rw[zaj (zah q hn)];exact q
 frzs:=fun b u xs q=>by rw[zaj (zah q hn)];exact q
 tbls:=fun b ps q=>⟨#[],by rw[zaj (zah q hn),q];simp⟩
theorem Un.write(mu:Mut (H x))(he:e=x\/H e=some (.own x))(k:∀b u,b≠e->h.get? b=some u->h'.get? b=some u)(heo:∃u,h'.get? e=some u):Un fs ex H (upd H x o) h h':=by
 have hx:∀b,H b=none->b≠x:=fun b n z=>by subst z;rw[n]at mu;exact mu
 have hb:∀b,H b=none->b≠e:=fun b n z=>by
  subst z
  rcases he with r|r
  ·exact hx b n r
  ·rw[n]at r;cases r
 have hm:∀b u,H b=some u->¬ Mut (some u)->b≠x:=fun b u q nm z=>by subst z;rw[q]at mu;exact nm mu
 refine⟨fun b u q n _ _=>k b u (hb b n) q,fun b u q n _ _=>⟨u.slots,k b u (hb b n) q⟩,fun b u q n _=>by rw[zaj (hx b n)];exact n,fun b u q _=>?_,
  fun b xs q=>by rw[zaj (hm b _ q fun z=>z)];exact q,fun b u xs q=>by rw[zaj (hm b _ q fun z=>z)];exact q,fun b ps q=>⟨#[],by rw[zaj (hm b _ q fun z=>z),q];simp⟩⟩
 by_cases hbe:b=e
 ·subst hbe;exact heo
 ·exact⟨u,k b u hbe q⟩
theorem Un.mono(u:Un fs ex H H1 h h1)(hs:∀b∈fs,b∈fs')(hx:∀b∈ex,b∈ex'):Un fs' ex' H H1 h h1 :=
 ⟨fun b ob q n hb he=>u.keep b ob q n (fun z=>hb (hs b z)) fun z=>he (hx b z),fun _ _ q n _ he=>u.any q n fun z=>he (hx _ z),fun b ob q n he=>u.free b ob q n fun z=>he (hx b z),fun b ob q he=>u.there b ob q fun z=>he (hx b z),u.tups,u.frzs,u.tbls⟩
end
def trk(h:Heap)(H:Hp):List Addr:=(List.range h.objs.size).filter fun a=>(H a).isSome
def hidT(h:Heap)(H:Hp):Heap:=PySem.W.hideAll h (trk h H)
theorem hidT_size(h:Heap)(H:Hp):(hidT h H).objs.size=h.objs.size:=PySem.W.hideAll_size _ _
theorem hidT_get{h:Heap}{H:Hp}{b:Addr}{o:Obj}(e:h.get? b=some o)(n:H b=none):(hidT h H).get? b=some o :=
 yc1 _ e fun hm=>by
  have q:(H b).isSome=true:=(List.mem_filter.mp hm).2;rw[n]at q;simp at q
theorem of_hidT{h:Heap}{H:Hp}{b:Addr}{o:Obj}(e:(hidT h H).get? b=some o):h.get? b=some o/\H b=none:=by
 have e':h.get? b=some o:=ych (trk h H) e;refine⟨e',?_⟩;cases q:H b with
 |none=>rfl
 |some x =>
  have hm:b∈trk h H:=List.mem_filter.mpr ⟨ydz.mpr (yae e'),by simp[q]⟩
  have z:(hidT h H).get? b=none:=ydo (trk h H) hm;rw[z]at e;cases e
def allNews(g h:Heap)(L:Addr):List (Addr×Obj):=(List.range h.objs.size).filterMap fun a=>if a=L\/(g.get? a).isSome=true then none else (h.get? a).map fun o=>(a,o)
def zh6(g h:Heap)(L d:Addr):List (Addr×Obj):=(allNews g h L).filter fun p=>decide (p.1≠d)
structure Mod(K:PySem.W.Frag)(mg:Str->Option Value)(base:Heap):Prop where
 kin:K.In base
 glob:base.Ns mainGlobals mg
 blt:∃mb,base.Ns builtinsNs mb/\∀x:Str,x≠"__name__"->mb x=bootBuiltins x
 nolimit:base.NoLimit
set_option genInjectivity false in
structure Cx where
 prog:Program
 w:World
 K:PySem.W.Frag
 mg:Str->Option Value
 base:Heap
 A:Around
 N:List Str
 s₀:Shared
 H₀:Hp
 env:Env
 outer:List Env
 stack:List Env
 ex:List Addr
 fn:Str->Bool
 calm:Bool
 pn:List (Addr×Obj)
 xe:Value->Shared->Prop
def frs(l:List Env):List Addr:=l.filterMap (·.frame)
abbrev Cx.fs(X:Cx):List Addr:=frs X.outer
def Vis(sc:Scope)(x:Str):Prop:=sc.names.lookup x=some .local\/sc.names.lookup x=some .cell\/sc.names.lookup x=some .free
def Loc(sc:Scope)(x:Str):Prop:=sc.names.lookup x=some .local\/sc.names.lookup x=some .cell
def Look(env:Env)(h:Heap)(m:Str->Option Value)(x:Str)(u:Value):Prop :=
 (env.kindOf x=some .local/\m x=some u)\/((env.kindOf x=some .cell\/env.kindOf x=some .free)/\∃c,env.cells.lookup x=some c/\h.IsCell c (some u))
structure Cx.Ok(X:Cx):Prop where
 mod:Mod X.K X.mg X.base
 kind:X.env.scope.kind=.function
 glob:X.env.globals=mainGlobals
 blt:X.env.builtins=builtinsNs
 above:X.s₀.heap.objs.size<=X.env.locals
 inj:∀x y c,X.env.cells.lookup x=some c->X.env.cells.lookup y=some c->x=y
 has:∀x,(X.env.kindOf x=some .cell\/X.env.kindOf x=some .free)->∃c,X.env.cells.lookup x=some c
 cab:∀x c,X.fn x=true->X.env.cells.lookup x=some c->X.s₀.heap.objs.size<=c
 hd:X.calm=true->X.A.handled=none
 frames:X.A.frames=some X.stack
 stk:X.stack=X.outer\/(X.stack=X.env::X.outer/\X.env.frame=some X.env.locals)
 exf:∀b∈X.ex,b≠X.env.locals/\∀x c,X.env.cells.lookup x=some c->c≠b
 bs:∀b o,X.base.get? b=some o->X.s₀.heap.get? b=some o/\X.H₀ b=none
 bsz:X.base.objs.size<=X.s₀.heap.objs.size
 noex:∀b o,X.base.get? b=some o->b∉X.ex
 exfs:∀b∈X.ex,b∉X.fs
 funs:X.s₀.heap.FunFrames X.base X.outer
 frf:∀b∈X.fs,X.H₀ b=none
structure Inv(X:Cx)(pins:List (Addr×Obj))(σ:List (Option V))(H:Hp)(s:Shared):Prop where
 ok:X.Ok
 os:s.os=X.s₀.os
 bare:AllBare s.gens
 base:Un X.fs X.ex X.H₀ H X.s₀.heap s.heap
 loc:∃m,s.heap.Ns X.env.locals m/\∀(i:Nat) (x:Str) (v:V),X.N[i]?=some x->σ[i]?=some (some v)->Vis X.env.scope x->∃u,RelV v u/\Look X.env s.heap m x u
 cell:∀x c,X.env.cells.lookup x=some c->∃v,s.heap.IsCell c v
 free:H X.env.locals=none
 freeC:∀x c,X.env.cells.lookup x=some c->H c=none
 pin:∀p∈X.pn++pins,s.heap.get? p.1=some p.2/\H p.1=none/\p.1≠X.env.locals/\p.1∉X.fs/\∀v,p.2.data≠.cell v
 hok:HOk X.prog X.w H s.heap
 len:σ.length=X.N.length
section
variable {X:Cx}{pins:List (Addr×Obj)}{σ:List (Option V)}{H H':Hp}{s:Shared}{h':Heap}
theorem Cx.Ok.nofr(ok:X.Ok){b:Addr}{o:Obj}(e:X.base.get? b=some o):b∉X.fs:=fun hb=>by
 have:=(ok.funs.mem hb).1;rw[e]at this;cases this
theorem Inv.bs(I:Inv X pins σ H s):∀b o,X.base.get? b=some o->s.heap.get? b=some o/\H b=none:=fun b o e =>
 ⟨I.base.keep b o (I.ok.bs b o e).1 (I.ok.bs b o e).2 (I.ok.nofr e) (I.ok.noex b o e),I.base.free b o (I.ok.bs b o e).1 (I.ok.bs b o e).2 (I.ok.noex b o e)⟩
theorem Inv.bk(I:Inv X pins σ H s):∀b o,X.base.get? b=some o->s.heap.get? b=some o:=fun b o e=>(I.bs b o e).1
theorem Inv.mod(I:Inv X pins σ H s):Mod X.K X.mg X.base:=I.ok.mod
theorem Inv.kIn(I:Inv X pins σ H s):X.K.In s.heap:=I.ok.mod.kin.keeps I.bk
theorem Inv.nolimit(I:Inv X pins σ H s):s.heap.NoLimit:=I.ok.mod.nolimit.keeps I.bk
theorem Inv.fr(I:Inv X pins σ H s):∃m,Fr X.base X.env.locals s.heap m :=
 let ⟨m,hn,_⟩:=I.loc
 ⟨m,hn,I.bk,yaj I.ok.bsz I.ok.above⟩
theorem Inv.lt(I:Inv X pins σ H s):X.env.locals<s.heap.objs.size:=let ⟨_,hn,_⟩:=I.loc;hn.lt
theorem Inv.sz(I:Inv X pins σ H s):X.s₀.heap.objs.size<=s.heap.objs.size:=yaj I.ok.above (yd1 I.lt)
theorem Inv.nofs(I:Inv X pins σ H s){a:Addr}(h:s.heap.objs.size<=a):a∉X.fs:=fun hb=>by
 obtain⟨_,o,ho,_⟩:=I.ok.funs.mem hb;exact absurd (yam (yae ho) (yaj I.sz h)) (yb3 _)
theorem Inv.cne(I:Inv X pins σ H s):∀x c,X.env.cells.lookup x=some c->c≠X.env.locals:=fun x c e z=>by
 obtain⟨v,o,ho,hd⟩:=I.cell x c e;obtain⟨m,⟨o',es,ep,ho',hd',_⟩,_⟩:=I.loc;rw[z,ho']at ho;cases ho;rw[hd']at hd;cases hd
theorem Inv.funs(I:Inv X pins σ H s):s.heap.FunFrames X.base X.outer:=by
 have all:∀(l:List Env),(∀b∈frs l,b∈X.fs)->X.s₀.heap.FunFrames X.base l->s.heap.FunFrames X.base l:=by
  intro l
  induction l with
  |nil=>intro _ _;trivial
  |cons env r ih =>
   intro hs hl;obtain⟨hk,⟨L,o,hf,hn,ho,hd⟩,hr⟩:=hl;have hL:L∈X.fs:=hs L (by unfold frs;rw[ydt,hf];exact yab)
   obtain⟨sl,e⟩:=I.base.slot L o ho (I.ok.frf L hL) hL fun z=>I.ok.exfs L z hL
   exact⟨hk,⟨L,_,hf,hn,e,hd⟩,ih (fun b hb=>hs b (by unfold frs;rw[ydt,hf];exact ya9 _ hb)) hr⟩
 exact all X.outer (fun _ hb=>hb) I.ok.funs
theorem Inv.stack(I:Inv X pins σ H s):s.heap.FunFrames X.base X.stack:=by
 rcases I.ok.stk with e|⟨e,hf⟩
 ·rw[e];exact I.funs
 ·rw[e];obtain⟨m,hn,_⟩:=I.loc;refine .cons (by rw[I.ok.kind];decide) hf hn ?_ I.funs
  exact Heap.get?_none_of_le (yaj I.ok.bsz I.ok.above)
theorem Inv.stkSub(I:Inv X pins σ H s):∀b∈frs X.stack,b∈X.env.locals::X.fs:=fun b hb=>by
 rcases I.ok.stk with e|⟨e,hf⟩
 ·rw[e]at hb;exact ya9 _ hb
 ·rw[e]at hb;unfold frs at hb;rw[ydt,hf]at hb;exact hb
theorem Inv.stkFree(I:Inv X pins σ H s):∀b∈frs X.stack,H b=none:=fun b hb=>by
 rcases ya7.mp (I.stkSub b hb) with e|hb
 ·rw[e];exact I.free
 ·obtain⟨_,o,ho,_⟩:=I.ok.funs.mem hb;exact I.base.free b o ho (I.ok.frf b hb) fun z=>I.ok.exfs b z hb
theorem Inv.step{g':Array GenState}{t':Nat}{d':Drawn}{ch:List Addr}(I:Inv X pins σ H s)
  (hch:∀b∈ch,(b∈X.ex\/X.s₀.heap.objs.size<=b)/\b≠X.env.locals/\(∀x c,X.env.cells.lookup x=some c->c≠b)/\∀p∈X.pn++pins,p.1≠b)
  (keep:∀b o,b≠X.env.locals->b∉X.fs->b∉ch->s.heap.get? b=some o->H b=none->h'.get? b=some o)
  (slot:∀b o,b≠X.env.locals->b∈X.fs->b∉ch->s.heap.get? b=some o->H b=none->∃sl,h'.get? b=some { o with slots:=sl }) (free:∀b o,b∉ch->s.heap.get? b=some o->H b=none->H' b=none)
  (there:∀b o,b∉ch->s.heap.get? b=some o->∃o',h'.get? b=some o')
  (tups:∀b xs,H b=some (.tup xs)->H' b=some (.tup xs)) (frzs:∀b o u,H b=some (.frz o u)->H' b=some (.frz o u)) (tbls:∀b ps,H b=some (.tbl ps)->∃more,H' b=some (.tbl (ps++more)))
  (ns:∀m,s.heap.Ns X.env.locals m->h'.Ns X.env.locals m) (hok:HOk X.prog X.w H' h') (hg:AllBare g') :
  Inv X pins σ H' { s with heap:=h',gens:=g',drawn:=d',toks:=t' }:=by
 have neL:∀b o,X.s₀.heap.get? b=some o->b≠X.env.locals:=fun b o e=>yau (yam (yae e) I.ok.above)
 have neC:∀b o,X.s₀.heap.get? b=some o->b∉X.ex->b∉ch:=fun b o e hx hb=>by
  rcases(hch b hb).1 with z|z
  ·exact hx z
  ·exact absurd (yam (yae e) z) (yb3 _)
 have cellK:∀x c,X.env.cells.lookup x=some c->∀v,s.heap.IsCell c v->h'.IsCell c v:=fun x c e v ⟨o,ho,hd⟩=>by
  have nch:c∉ch:=fun z=>(hch c z).2.2.1 x c e rfl
  by_cases hc:c∈X.fs
  ·obtain⟨sl,q⟩:=slot c o (I.cne x c e) hc nch ho (I.freeC x c e);exact⟨_,q,hd⟩
  ·exact⟨o,keep c o (I.cne x c e) hc nch ho (I.freeC x c e),hd⟩
 refine⟨I.ok,I.os,hg,⟨fun b o e n hb hx=>?_,fun b o e n hb hx=>?_,fun b o e n hx=>?_,fun b o e hx=>?_,fun b xs e=>tups b xs (I.base.tups b xs e),fun b o xs e=>frzs b o xs (I.base.frzs b o xs e),fun b ps e=>?_⟩,?_,fun x c e=>?_,?_,fun x c e=>?_,fun p hp=>?_,hok,I.len⟩
 ·exact keep b o (neL b o e) hb (neC b o e hx) (I.base.keep b o e n hb hx) (I.base.free b o e n hx)
 ·obtain⟨sl,e1⟩:=I.base.slot b o e n hb hx;obtain⟨sl',e2⟩:=slot b _ (neL b o e) hb (neC b o e hx) e1 (I.base.free b o e n hx);exact⟨sl',e2⟩
 ·obtain⟨o',e1⟩:=I.base.there b o e hx;exact free b o' (neC b o e hx) e1 (I.base.free b o e n hx)
 ·obtain⟨o',e1⟩:=I.base.there b o e hx;exact there b o' (neC b o e hx) e1
 ·obtain⟨m1,e1⟩:=I.base.tbls b ps e;obtain⟨m2,e2⟩:=tbls b _ e1;exact⟨m1++m2,by rw[e2,ye1]⟩
 ·obtain⟨m,hn,hl⟩:=I.loc;refine⟨m,ns m hn,fun i x v e1 e2 e3=>?_⟩
  obtain⟨u,r,l⟩:=hl i x v e1 e2 e3;refine⟨u,r,?_⟩
  rcases l with l|⟨k,c,e,z⟩
  ·exact .inl l
  ·exact .inr ⟨k,c,e,cellK x c e _ z⟩
 ·obtain⟨v,z⟩:=I.cell x c e;exact⟨v,cellK x c e v z⟩
 ·obtain⟨m,⟨o,_,_,ho,_⟩,_⟩:=I.loc;exact free _ o (fun z=>(hch _ z).2.1 rfl) ho I.free
 ·obtain⟨v,o,ho,hd⟩:=I.cell x c e;exact free c o (fun z=>(hch c z).2.2.1 x c e rfl) ho (I.freeC x c e)
 ·obtain⟨e,n,ne,nf,d⟩:=I.pin p hp;have nch:p.1∉ch:=fun z=>(hch p.1 z).2.2.2 p hp rfl
  exact⟨keep p.1 p.2 ne nf nch e n,free p.1 p.2 nch e n,ne,nf,d⟩
theorem Inv.un{t':Nat}(I:Inv X pins σ H s)(u:Un X.fs [] H H' s.heap h')(hok:HOk X.prog X.w H' h'):Inv X pins σ H' { s with heap:=h',toks:=t' }:=by
 obtain⟨m,⟨o,es,ep,ho,r⟩,_⟩:=id I.loc;obtain⟨sl,hL⟩:=u.any ho I.free (by simp)
 exact I.step (g':=s.gens) (d':=s.drawn) (ch:=[]) (fun _ z=>nomatch z) (fun b o _ hb _ e n=>u.keep b o e n hb (by simp)) (fun b o _ hb _ e n=>u.slot b o e n hb (by simp)) (fun b o _ e n=>u.free b o e n (by simp)) (fun b o _ e=>u.there b o e (by simp)) u.tups u.frzs u.tbls (fun m' hm=>by
  obtain⟨o',es',ep',ho',r'⟩:=hm;rw[ho]at ho';cases ho';exact⟨_,es',ep',hL,r'⟩) hok I.bare
theorem Inv.call{g':Array GenState}{t':Nat}{d':Drawn}{ch:List Addr}(I:Inv X pins σ H s)(u:Un (frs X.stack) ch H H' s.heap h')(hok:HOk X.prog X.w H' h')(hg:AllBare g')
  (hch:∀b∈ch,(b∈X.ex\/X.s₀.heap.objs.size<=b)/\b≠X.env.locals/\(∀x c,X.env.cells.lookup x=some c->c≠b)/\∀p∈X.pn++pins,p.1≠b) :
  Inv X pins σ H' { s with heap:=h',gens:=g',drawn:=d',toks:=t' }:=by
 obtain⟨m,⟨o,es,ep,ho,r⟩,_⟩:=id I.loc;obtain⟨sl,hL⟩:=u.any ho I.free fun z=>(hch _ z).2.1 rfl
 exact I.step (ch:=ch) hch (fun b o hL hb hc e n=>u.keep b o e n (fun z=>(ya7.mp (I.stkSub b z)).elim hL hb) hc) (fun b o _ _ hc e n=>u.any e n hc) (fun b o hc e n=>u.free b o e n hc) (fun b o hc e=>u.there b o e hc) u.tups u.frzs u.tbls (fun m' hm=>by
  obtain⟨o',es',ep',ho',r'⟩:=hm;rw[ho]at ho';cases ho';exact⟨_,es',ep',hL,r'⟩) hok hg
theorem Inv.turned{t':Nat}{it:Addr}(I:Inv X pins σ H s)(k:∀b o,b≠it->s.heap.get? b=some o->h'.get? b=some o)(hn:H it=none)(hL:it≠X.env.locals)
  (h1:it∈X.ex\/X.s₀.heap.objs.size<=it) (h2:∀x c,X.env.cells.lookup x=some c->c≠it) (h3:∀p∈X.pn++pins,p.1≠it):Inv X pins σ H { s with heap:=h',toks:=t' }:=by
 have nit:∀b u,H b=some u->b≠it:=fun b u e z=>by rw[z,hn]at e;cases e
 refine I.step (g':=s.gens) (d':=s.drawn) (ch:=[it]) (fun b hb=>?_) (fun b o _ _ hc e _=>k b o (fun z=>hc (by simp[z])) e) (fun b o _ _ hc e _=>⟨o.slots,k b o (fun z=>hc (by simp[z])) e⟩) (fun _ _ _ _ n=>n)
  (fun b o hc e=>⟨o,k b o (fun z=>hc (by simp[z])) e⟩) (fun _ _ e=>e) (fun _ _ _ e=>e) (fun b ps e=>⟨#[],by rw[e];simp⟩) (fun m hm=>?_) (fun b u e=>?_) I.bare
 ·have e:b=it:=by simpa using hb
  subst e;exact⟨h1,hL,h2,h3⟩
 ·obtain⟨o,es,ep,ho,r⟩:=hm;exact⟨o,es,ep,k _ o (yb8 hL) ho,r⟩
 ·refine(I.hok b u e).stay (fun c v hc q=>k c v ?_ q) (fun _ q=>q) fun _ _ q=>q
  rcases hc with z|z
  ·rw[z];exact nit b u e
  ·exact nit c _ z
theorem Inv.tok(I:Inv X pins σ H s)(t:Nat):Inv X pins σ H { s with toks:=t }:=I.un (h':=s.heap) (t':=t) Un.refl I.hok
theorem Inv.kept{t':Nat}(I:Inv X pins σ H s)(k:∀b u,s.heap.get? b=some u->h'.get? b=some u):Inv X pins σ H { s with heap:=h',toks:=t' }:=I.un (Un.kept k) (I.hok.kept k)
theorem Inv.laid{a:Addr}{o:HO}{t':Nat}(I:Inv X pins σ H s)(k:∀b u,s.heap.get? b=some u->h'.get? b=some u)(hp:s.heap.objs.size<=a)(new:zbp X.prog X.w (upd H a o) h' a o) :
  Inv X pins σ (upd H a o) { s with heap:=h',toks:=t' }:=I.un (Un.laid k hp (I.hok.fresh hp)) (I.hok.laid k hp new)
theorem Inv.write{x e:Addr}{o:HO}{t':Nat}(I:Inv X pins σ H s)(mu:Mut (H x))(he:e=x\/H e=some (.own x))(k:∀b u,b≠e->s.heap.get? b=some u->h'.get? b=some u)(heo:∃u,h'.get? e=some u)
  (new:zbp X.prog X.w (upd H x o) h' x o):Inv X pins σ (upd H x o) { s with heap:=h',toks:=t' }:=I.un (Un.write mu he k heo) (I.hok.write mu he k heo new)
theorem Inv.weak{σ':List (Option V)}(I:Inv X pins σ H s)(hl:σ'.length=σ.length)(w:∀(i:Nat) v,σ'[i]?=some (some v)->σ[i]?=some (some v)):Inv X pins σ' H s :=
 ⟨I.ok,I.os,I.bare,I.base,let ⟨m,hn,hl'⟩:=I.loc;⟨m,hn,fun i x v e1 e2 e3=>hl' i x v e1 (w i v e2) e3⟩,I.cell,I.free,I.freeC,I.pin,I.hok,hl.trans I.len⟩
theorem Inv.pins_of{pins':List (Addr×Obj)}(I:Inv X pins σ H s)(h:∀p∈pins',s.heap.get? p.1=some p.2/\H p.1=none/\p.1≠X.env.locals/\p.1∉X.fs/\∀v,p.2.data≠.cell v):Inv X pins' σ H s :=
 ⟨I.ok,I.os,I.bare,I.base,I.loc,I.cell,I.free,I.freeC,fun p hp=>(yai.mp hp).elim (fun z=>I.pin p (ycb _ z)) (h p),I.hok,I.len⟩
theorem nodup_ix{N:List Str}(hN:N.Nodup){i j:Nat}{x:Str}(a:N[i]?=some x)(b:N[j]?=some x):i=j:=by
 obtain⟨h1,e1⟩:=ya4.mp a;obtain⟨h2,e2⟩:=ya4.mp b;exact(ydk hN).mp (e1.trans e2.symm)
theorem store_ok2{M:Model}{A:Around}{E:Value->Shared->Prop}{i:Nat}{x:Str}{v:V}{u:Value}{Q:Unit->Shared->Prop}(I:Inv X pins σ H s)(hN:X.N.Nodup)(hi:X.N[i]?=some x)(hx:Loc X.env.scope x)(r:RelV v u)
  (h:∀s',Inv X pins (σ.set i (some v)) H s'->(∃a,Heap.SameBut a s.heap s'.heap/\(a=X.env.locals\/X.env.cells.lookup x=some a))->Q () s') (hf:X.fn x=true\/X.env.scope.names.lookup x=some .local:=by first|exact .inl rfl|exact .inr rfl|assumption):wpAny M A (storeName X.env x u) Q E s:=by
 obtain⟨m,hn,hl⟩:=id I.loc;have hcls:(X.env.scope.kind == .class || (X.env.scope.kind == .module && X.env.locals != X.env.globals))=false:=by rw[I.ok.kind];rfl
 have hiσ:i<σ.length:=by rw[I.len];exact(ya4.mp hi).1
 have cne:=I.cne
 have tracked:∀{a:Addr} {h':Heap},(∃o,s.heap.get? a=some o/\H a=none)->Heap.SameBut a s.heap h'->HOk X.prog X.w H h':=fun {a h'} ha hs b ob e=>by
  obtain⟨_,_,hfree⟩:=ha;refine(I.hok b ob e).stay (fun c w' hc q=>(hs.2 c ?_).trans q) (fun _ q=>q) fun _ _ q=>q
  rintro rfl
  rcases hc with rfl|hc
  ·rw[hfree]at e;cases e
  ·rw[hfree]at hc;cases hc
 rcases hx with hk|hk
 ·refine wpAny_storeName_local hk hn (fun h' hn' hs=>?_) hcls
  obtain⟨oL,_,_,hoL,_⟩:=id hn;refine h _ ⟨I.ok,I.os,I.bare,⟨fun b o e n hb hx=>?_,fun b o e n hb hx=>?_,I.base.free,fun b o e hx=>?_,I.base.tups,I.base.frzs,I.base.tbls⟩,⟨_,hn',fun j y v' e1 e2 e3=>?_⟩,fun y c e=>?_,I.free,I.freeC,fun p hp=>?_,tracked ⟨oL,hoL,I.free⟩ hs,by simpa using I.len⟩ ⟨_,hs,.inl rfl⟩
  ·exact(hs.2 b (yau (yam (yae e) I.ok.above))).trans (I.base.keep b o e n hb hx)
  ·obtain⟨sl,e1⟩:=I.base.slot b o e n hb hx;exact⟨sl,(hs.2 b (yau (yam (yae e) I.ok.above))).trans e1⟩
  ·obtain⟨o',e1⟩:=I.base.there b o e hx;exact⟨o',(hs.2 b (yau (yam (yae e) I.ok.above))).trans e1⟩
  ·by_cases hj:j=i
   ·subst hj;rw[hi]at e1;cases e1;rw[yas hiσ]at e2;cases e2;exact⟨u,r,.inl ⟨hk,by simp⟩⟩
   ·rw[yat (yb8 hj)]at e2;obtain⟨u',r',q⟩:=hl j y v' e1 e2 e3;refine⟨u',r',?_⟩
    rcases q with ⟨k,e⟩|⟨k,c,e,z⟩
    ·refine .inl ⟨k,?_⟩;have:y≠x:=fun e=>hj (nodup_ix hN e1 (e▸hi))
     simp[this,e]
    ·exact .inr ⟨k,c,e,z.sameBut hs (cne y c e)⟩
  ·obtain⟨w',z⟩:=I.cell y c e;exact⟨w',z.sameBut hs (cne y c e)⟩
  ·obtain⟨e,n,ne,nf,d⟩:=I.pin p hp;exact⟨(hs.2 p.1 ne).trans e,n,ne,nf,d⟩
 ·have hfn:X.fn x=true:=by
   rcases hf with z|z
   ·exact z
   ·rw[z]at hk;cases hk
  obtain⟨c,hc⟩:=I.ok.has x (.inl hk);obtain⟨w',z⟩:=I.cell x c hc;refine wpAny_storeName_cell I.ok.kind hk hc z (fun h' hc' hs=>?_)
  obtain⟨oc,hoc,hocd⟩:=id z;refine h { s with heap:=h' } ⟨I.ok,I.os,I.bare,⟨fun b o e n hb hx=>?_,fun b o e n hb hx=>?_,I.base.free,fun b o e hx=>?_,I.base.tups,I.base.frzs,I.base.tbls⟩,⟨m,hn.sameBut hs (yb8 (cne x c hc)),fun j y v' e1 e2 e3=>?_⟩,fun y c' e=>?_,I.free,I.freeC,fun p hp=>?_,tracked ⟨oc,hoc,I.freeC x c hc⟩ hs,by simpa using I.len⟩ ⟨c,hs,.inr hc⟩
  ·exact(hs.2 b (yau (yam (yae e) (I.ok.cab x c hfn hc)))).trans (I.base.keep b o e n hb hx)
  ·obtain⟨sl,e1⟩:=I.base.slot b o e n hb hx;exact⟨sl,(hs.2 b (yau (yam (yae e) (I.ok.cab x c hfn hc)))).trans e1⟩
  ·obtain⟨o',e1⟩:=I.base.there b o e hx;exact⟨o',(hs.2 b (yau (yam (yae e) (I.ok.cab x c hfn hc)))).trans e1⟩
  ·by_cases hj:j=i
   ·subst hj;rw[hi]at e1;cases e1;rw[yas hiσ]at e2;cases e2;exact⟨u,r,.inr ⟨.inl hk,c,hc,hc'⟩⟩
   ·rw[yat (yb8 hj)]at e2;obtain⟨u',r',q⟩:=hl j y v' e1 e2 e3;refine⟨u',r',?_⟩
    rcases q with q|⟨k,c',e,z'⟩
    ·exact .inl q
    ·refine .inr ⟨k,c',e,z'.sameBut hs ?_⟩;rintro rfl;exact hj (nodup_ix hN e1 (I.ok.inj _ _ _ e hc▸hi))
  ·by_cases hcc:c'=c
   ·subst hcc;exact⟨_,hc'⟩
   ·obtain⟨w2,z2⟩:=I.cell y c' e;exact⟨w2,z2.sameBut hs hcc⟩
  ·obtain⟨e,n,ne,nf,d⟩:=I.pin p hp;refine⟨(hs.2 p.1 ?_).trans e,n,ne,nf,d⟩;intro q;rw[q,hoc]at e;have q':oc=p.2:=yb1 e;exact d w' (by rw[<- q'];exact hocd)
theorem store_ok{M:Model}{A:Around}{E:Value->Shared->Prop}{i:Nat}{x:Str}{v:V}{u:Value}{Q:Unit->Shared->Prop}(I:Inv X pins σ H s)(hN:X.N.Nodup)(hi:X.N[i]?=some x)(hx:Loc X.env.scope x)(r:RelV v u)
  (h:∀s',Inv X pins (σ.set i (some v)) H s'->Q () s') (hf:X.fn x=true\/X.env.scope.names.lookup x=some .local:=by first|exact .inl rfl|exact .inr rfl|assumption):wpAny M A (storeName X.env x u) Q E s :=
 store_ok2 I hN hi hx r (fun s' I' _=>h s' I') hf
theorem Inv.call'{s':Shared}{ch:List Addr}(I:Inv X pins σ H s)(ho:s'.os=s.os)(u:Un (frs X.stack) ch H H' s.heap s'.heap)(hok:HOk X.prog X.w H' s'.heap)(hg:AllBare s'.gens)
  (hch:∀b∈ch,(b∈X.ex\/X.s₀.heap.objs.size<=b)/\b≠X.env.locals/\(∀x c,X.env.cells.lookup x=some c->c≠b)/\∀p∈X.pn++pins,p.1≠b):Inv X pins σ H' s':=by
 obtain⟨h',g',d',t',o'⟩:=s';have e:o'=s.os:=ho;subst e;exact I.call (g':=g') (t':=t') (d':=d') u hok hg hch
end
abbrev XK:=Value->Option Addr->Hp->Prop
abbrev St:=List (Option V)
abbrev VK:=V->Hp->Prop
abbrev TE:=St->Hp->VK->Prop
abbrev TT:=St->Hp->(Bool->Hp->Prop)->Prop
abbrev TA:=St->Hp->(List V->Hp->Prop)->Prop
structure Ends where
 nx:St->Hp->Prop
 rt:VK
 bk:St->Hp->Prop:=fun _ _=>False
 ct:St->Hp->Prop:=fun _ _=>False
abbrev TS:=Ends->St->Hp->Prop
def EP(X:Cx)(pins:List (Addr×Obj))(σ:St)(Q:VK)(u:Value)(s':Shared):Prop:=∃v H',Inv X pins σ H' s'/\RelV v u/\Q v H'
def TP(X:Cx)(pins:List (Addr×Obj))(σ:St)(Q:Bool->Hp->Prop)(b:Bool)(s':Shared):Prop:=∃H',Inv X pins σ H' s'/\Q b H'
def AP(X:Cx)(pins:List (Addr×Obj))(σ:St)(Q:List V->Hp->Prop)(us:List Value)(s':Shared):Prop:=∃vs H',Inv X pins σ H' s'/\zb9 vs us/\Q vs H'
def SP(X:Cx)(pins:List (Addr×Obj))(D:Ends)(f:Flow)(s':Shared):Prop :=
 match f with
 |.next=>∃σ' H',Inv X pins σ' H' s'/\D.nx σ' H'
 |.brk=>∃σ' H',Inv X pins σ' H' s'/\D.bk σ' H'
 |.cont=>∃σ' H',Inv X pins σ' H' s'/\D.ct σ' H'
 |.ret u=>∃v σ' H',Inv X pins σ' H' s'/\RelV v u/\D.rt v H'
def PE(X:Cx)(e:Expr)(t:TE):Prop :=
 ∀(pins:List (Addr×Obj)) (s:Shared) (σ:St) (H:Hp) (Q:VK),Inv X pins σ H s->t σ H Q->wpAny (model X.prog X.w) X.A (eval e X.env) (EP X pins σ Q) X.xe s
def PT(X:Cx)(e:Expr)(t:TT):Prop :=
 ∀(pins:List (Addr×Obj)) (s:Shared) (σ:St) (H:Hp) (Q:Bool->Hp->Prop),Inv X pins σ H s->t σ H Q->wpAny (model X.prog X.w) X.A (isTrue e X.env (eval e X.env)) (TP X pins σ Q) X.xe s
def PW(X:Cx)(e:Expr)(t:TT):Prop :=
 ∀(whole:Sem Value) (pins:List (Addr×Obj)) (s:Shared) (σ:St) (H:Hp) (Q:Bool->Hp->Prop),Inv X pins σ H s->t σ H Q->wpAny (model X.prog X.w) X.A (isTrue e X.env whole) (TP X pins σ Q) X.xe s
theorem PW.pt{X:Cx}{e:Expr}{t:TT}(h:PW X e t):PT X e t:=h _
def PA(X:Cx)(es:List Expr)(t:TA):Prop :=
 ∀(pos:Pos) (pins:List (Addr×Obj)) (s:Shared) (σ:St) (H:Hp) (Q:List V->Hp->Prop),Inv X pins σ H s->t σ H Q->wpAny (model X.prog X.w) X.A (spliced (backTo pos (starEach es X.env))) (AP X pins σ Q) X.xe s
def PS(X:Cx)(st:Stmt)(t:TS):Prop :=
 ∀(pins:List (Addr×Obj)) (s:Shared) (σ:St) (H:Hp) (D:Ends),Inv X pins σ H s->t D σ H->wpAny (model X.prog X.w) X.A (exec st X.env) (SP X pins D) X.xe s
def PSs(X:Cx)(st:List Stmt)(t:TS):Prop :=
 ∀(pins:List (Addr×Obj)) (s:Shared) (σ:St) (H:Hp) (D:Ends),Inv X pins σ H s->t D σ H->wpAny (model X.prog X.w) X.A (execs st X.env) (SP X pins D) X.xe s
theorem thn{α:Type}{t:Sem α}{Q Q':α->Shared->Prop}{M:Model}{A:Around}{E:Value->Shared->Prop}{s:Shared}(h:wpAny M A t Q E s)(hQ:∀a s,Q a s->Q' a s):wpAny M A t Q' E s:=wpAny_mono h hQ fun _ _ x=>x
section
variable {X:Cx}
def tVar(i:Nat):TE:=fun σ H Q=>∃v,σ[i]?=some (some v)/\Q v H
def tC(v:V):TE:=fun _ H Q=>Q v H
theorem zl8{i:Nat}{x:Str}{pos:Pos}(hN:X.N[i]?=some x)(hv:Vis X.env.scope x)(hd:(x == ("__debug__":Str))=false:=by decide)(hcd:(x == ("__classdict__":Str))=false:=by decide):PE X (.Name x pos) (tVar i):=by
 intro pins s σ H Q I h;obtain⟨v,e,h⟩:=h;obtain⟨m,hn,hl⟩:=I.loc;obtain⟨u,r,l⟩:=hl i x v hN e hv;have fin:EP X pins σ Q u s:=⟨v,H,I,r,h⟩
 rcases l with ⟨hk,hm⟩|⟨hk,c,hc,hcell⟩
 ·exact wpAny_Name (wpAny_loadName_local I.ok.kind hk hn hm fin) hd
 ·rcases hk with hk|hk
  ·exact wpAny_Name (wpAny_loadName_cell I.ok.kind hk hc hcell fin) hd
  ·exact wpAny_Name (wpAny_loadName_free I.ok.kind hk hc hcell fin hcd) hd
theorem pe_int{i j pos}:PE X (.Constant (.int i) j pos) (tC (.int i)):=fun _ _ _ H _ I h=>wpAny_Constant_int ⟨.int i,H,I.tok _,⟨_,rfl⟩,h⟩
theorem pe_bl{b j pos}:PE X (.Constant (.bool b) j pos) (tC (.bl b)):=fun _ _ _ H _ I h=>Constant_bool ⟨.bl b,H,I,rfl,h⟩
theorem pe_non{j pos}:PE X (.Constant .none j pos) (tC .non):=fun _ _ _ H _ I h=>Constant_none ⟨.non,H,I,rfl,h⟩
theorem pe_str{x j pos}:PE X (.Constant (.str x) j pos) (tC (.str x)):=fun _ _ _ H _ I h=>Calls.Constant_str ⟨.str x,H,I.tok _,⟨_,rfl⟩,h⟩
def Gl(X:Cx)(x:Str):Prop:=X.env.kindOf x=some .globalImplicit
theorem zli{E:Value->Shared->Prop}{pins:List (Addr×Obj)}{s:Shared}{σ:St}{H:Hp}{x:Str}{u:Value}{pos:Pos}{Q:Value->Shared->Prop}(I:Inv X pins σ H s)(hg:Gl X x)(hm:X.mg x=some u)(h:Q u s)
  (hd:(x == ("__debug__":Str))=false:=by decide):wpAny (model X.prog X.w) X.A (eval (.Name x pos) X.env) Q E s :=
 Calls.Name_function_global I.ok.kind hg (Calls.loadGlobal_global (by rw[I.ok.glob];exact I.mod.glob.keeps I.bk) hm h) hd
theorem zif{E:Value->Shared->Prop}{pins:List (Addr×Obj)}{s:Shared}{σ:St}{H:Hp}{x:Str}{u:Value}{pos:Pos}{Q:Value->Shared->Prop}(I:Inv X pins σ H s)(hg:Gl X x)(hm:X.mg x=none)(hv:bootBuiltins x=some u)(h:Q u s)
  (hn:x≠"__name__":=by decide) (hd:(x == ("__debug__":Str))=false:=by decide):wpAny (model X.prog X.w) X.A (eval (.Name x pos) X.env) Q E s:=by
 obtain⟨mb,h1,h2⟩:=I.mod.blt;exact Calls.Name_function_global I.ok.kind hg (Calls.loadGlobal_builtin (by rw[I.ok.glob];exact I.mod.glob.keeps I.bk) hm (by rw[I.ok.blt];exact h1.keeps I.bk) ((h2 x hn).trans hv) h) hd
theorem pe_glob{x:Str}{v:V}{u:Value}{pos:Pos}(hg:Gl X x)(hm:X.mg x=some u)(r:RelV v u)(hd:(x == ("__debug__":Str))=false:=by decide):PE X (.Name x pos) (tC v) :=
 fun _ _ _ H _ I h=>zli I hg hm ⟨v,H,I,r,h⟩ hd
theorem pe_bltn{x:Str}{v:V}{u:Value}{pos:Pos}(hg:Gl X x)(hm:X.mg x=none)(hv:bootBuiltins x=some u)(r:RelV v u)(hn:x≠"__name__":=by decide)(hd:(x == ("__debug__":Str))=false:=by decide):PE X (.Name x pos) (tC v) :=
 fun _ _ _ H _ I h=>zif I hg hm hv ⟨v,H,I,r,h⟩ hn hd
variable {a b:Expr}{ta tb:TE}{pos:Pos}
def tB(t:TE):TT:=fun σ H Q=>t σ H fun x H1=>∃c,x=.bl c/\Q c H1
theorem pt_val{e:Expr}{t:TE}(h:PE X e t)(he:∀whole,isTrue e X.env whole=(do let v <- whole;standAt e.pos;holding [v] (truthy v)):=by intro _;rfl):PT X e (tB t):=by
 intro pins s σ H Q I hw;refine isTrue_plain (thn (h pins s σ H _ I hw) fun v s1 ⟨x,H1,I1,r1,q1⟩=>?_) (he _)
 obtain⟨d,rfl,q⟩:=q1;cases r1;exact wpAny_truthy_bool ⟨H1,I1,q⟩
variable {tA tB':TT}{zh6:List Expr}
def tAnd(t u:TT):TT:=fun σ H Q=>t σ H fun c H1=>if c=true then u σ H1 Q else Q false H1
def tOr(t u:TT):TT:=fun σ H Q=>t σ H fun c H1=>if c=true then Q true H1 else u σ H1 Q
def tNot(t:TT):TT:=fun σ H Q=>t σ H fun c H1=>Q (!c) H1
theorem pw_and1(ha:PT X a tA):PW X (.BoolOp .And [a] pos) tA:=by
 intro wh pins s σ H Q I h;refine isTrue_and (thn (ha pins s σ H Q I h) fun c s1 e=>?_)
 cases c with
 |true=>exact isTrue_and_nil e
 |false=>exact e
theorem pw_or1(ha:PT X a tA):PW X (.BoolOp .Or [a] pos) tA:=by
 intro wh pins s σ H Q I h;refine isTrue_or (thn (ha pins s σ H Q I h) fun c s1 e=>?_)
 cases c with
 |false=>exact isTrue_or_nil e
 |true=>exact e
theorem pw_and(ha:PT X a tA)(hb:PW X (.BoolOp .And (b::zh6) pos) tB'):PW X (.BoolOp .And (a::b::zh6) pos) (tAnd tA tB'):=by
 intro wh pins s σ H Q I h;refine isTrue_and (thn (ha pins s σ H _ I h) fun c s1 ⟨H1,I1,q1⟩=>?_)
 cases c with
 |true=>exact hb wh pins s1 σ H1 Q I1 q1
 |false=>exact⟨H1,I1,q1⟩
theorem pw_or(ha:PT X a tA)(hb:PW X (.BoolOp .Or (b::zh6) pos) tB'):PW X (.BoolOp .Or (a::b::zh6) pos) (tOr tA tB'):=by
 intro wh pins s σ H Q I h;refine isTrue_or (thn (ha pins s σ H _ I h) fun c s1 ⟨H1,I1,q1⟩=>?_)
 cases c with
 |true=>exact⟨H1,I1,q1⟩
 |false=>exact hb wh pins s1 σ H1 Q I1 q1
theorem pt_not(ha:PT X a tA):PT X (.UnaryOp .Not a pos) (tNot tA):=by
 intro pins s σ H Q I h;exact isTrue_not (ha pins s σ H (fun c H1=>Q (!c) H1) I h)
def tAndV(ta tb:TE):TE:=fun σ H Q=>ta σ H fun x H1=>∃c,x=.bl c/\if c=true then tb σ H1 Q else Q (.bl false) H1
def tOrV(ta tb:TE):TE:=fun σ H Q=>ta σ H fun x H1=>∃c,x=.bl c/\if c=true then Q (.bl true) H1 else tb σ H1 Q
def tNotV(ta:TE):TE:=fun σ H Q=>ta σ H fun x H1=>∃c,x=.bl c/\Q (.bl (!c)) H1
theorem pe_one{op}{t:TE}(h:PE X a t):PE X (.BoolOp op [a] pos) t:=fun pins s σ H Q I hw=>BoolOp_one (h pins s σ H Q I hw)
theorem pe_and(ha:PE X a ta)(hb:PE X (.BoolOp .And (b::zh6) pos) tb):PE X (.BoolOp .And (a::b::zh6) pos) (tAndV ta tb):=by
 intro pins s σ H Q I h;refine BoolOp_and (thn (ha pins s σ H _ I h) fun v s1 ⟨x,H1,I1,r1,q1⟩=>?_)
 obtain⟨c,rfl,q1⟩:=q1;cases r1;refine wpAny_truthy_bool ?_;cases c with
 |true=>exact hb pins s1 σ H1 Q I1 q1
 |false=>exact⟨.bl false,H1,I1,rfl,q1⟩
theorem pe_or(ha:PE X a ta)(hb:PE X (.BoolOp .Or (b::zh6) pos) tb):PE X (.BoolOp .Or (a::b::zh6) pos) (tOrV ta tb):=by
 intro pins s σ H Q I h;refine BoolOp_or (thn (ha pins s σ H _ I h) fun v s1 ⟨x,H1,I1,r1,q1⟩=>?_)
 obtain⟨c,rfl,q1⟩:=q1;cases r1;refine wpAny_truthy_bool ?_;cases c with
 |false=>exact hb pins s1 σ H1 Q I1 q1
 |true=>exact⟨.bl true,H1,I1,rfl,q1⟩
theorem pe_not(ha:PE X a ta):PE X (.UnaryOp .Not a pos) (tNotV ta):=by
 intro pins s σ H Q I h;refine UnaryOp_ (thn (ha pins s σ H _ I h) fun v s1 ⟨x,H1,I1,r1,q1⟩=>?_)
 obtain⟨c,rfl,q1⟩:=q1;cases r1;exact not_of (wpAny_truthy_bool ⟨.bl (!c),H1,I1,rfl,q1⟩)
def tIf(t:TT)(ta tb:TE):TE:=fun σ H Q=>t σ H fun c H1=>if c=true then ta σ H1 Q else tb σ H1 Q
theorem pe_ifExp{c:Expr}(hc:PT X c tA)(ha:PE X a ta)(hb:PE X b tb):PE X (.IfExp c a b pos) (tIf tA ta tb):=by
 intro pins s σ H Q I h;refine wpAny_IfExp (thn (hc pins s σ H _ I h) fun d s1 ⟨H1,I1,q1⟩=>?_)
 cases d with
 |true=>exact ha pins s1 σ H1 Q I1 q1
 |false=>exact hb pins s1 σ H1 Q I1 q1
end
def SqL(K:PySem.W.Frag)(H:Hp)(a:Addr)(xs:List V):Prop :=
 Rd H a (.lst xs) \/
  ∃(o:Obj) (its:Array Value) (n:Nat),K.lookup a=some o/\o.cls=.type "list"/\o.dict=none/\o.data=.seq its n/\its.size<=sizeLine/\zb9 xs its.toList
def SqT(K:PySem.W.Frag)(H:Hp)(a:Addr)(xs:List V):Prop :=
 Rd H a (.tup xs) \/
  ∃(o:Obj) (its:Array Value) (n:Nat),K.lookup a=some o/\o.cls=.type "tuple"/\o.data=.seq its n/\its.size<=sizeLine/\zb9 xs its.toList
def absV:Value->Option V
 |.none=>some .non
 |.bool b=>some (.bl b)
 |.int i _=>some (.int i)
 |.str x _=>some (.str x)
 |.bytes b _=>some (.byt b)
 |.float b _=>some (.flt b)
 |.ref a=>some (.ref a)
 |.type n=>some (.ty n)
 |_=>none
theorem RelV.abs{x:V}{u:Value}(r:RelV x u):absV u=some x:=by
 cases x with
 |non=>cases r;rfl
 |bl _=>cases r;rfl
 |int _=>obtain⟨t,rfl⟩:=r;rfl
 |str _=>obtain⟨t,rfl⟩:=r;rfl
 |byt _=>obtain⟨t,rfl⟩:=r;rfl
 |flt _=>obtain⟨t,rfl⟩:=r;rfl
 |ref _=>cases r;rfl
 |ty _=>cases r;rfl
theorem RelV.inj{x y:V}{u:Value}(r:RelV x u)(q:RelV y u):x=y:=yb1 (r.abs.symm.trans q.abs)
theorem zb9.inj:∀{xs ys:List V} {us:List Value},zb9 xs us->zb9 ys us->xs=ys
 |_,_,_,.nil,.nil=>rfl
 |_,_,_,.cons r t,.cons r' t'=>by rw[r.inj r',zb9.inj t t']
section
variable {X:Cx}{pins:List (Addr×Obj)}{σ:St}{H:Hp}{s:Shared}{a:Addr}{xs ys:List V}
theorem SqL.of{K:PySem.W.Frag}(h:H a=some (.lst xs)):SqL K H a xs:=.inl (.inl h)
theorem SqT.of{K:PySem.W.Frag}(h:H a=some (.tup xs)):SqT K H a xs:=.inl (.inl h)
theorem Inv.list(I:Inv X pins σ H s)(h:SqL X.K H a xs):∃its:List Value,zb9 xs its/\PlainL s.heap a its.toArray/\xs.length<=sizeLine:=by
 rcases h with h|⟨o,its,n,hk,hc,hd,hs,hz,r⟩
 ·obtain⟨z,its,n,r,e⟩:=h.ok I.hok;exact⟨its,r,⟨_,n,e,rfl,rfl,rfl⟩,z⟩
 ·refine⟨its.toList,r,⟨o,n,I.kIn a o hk,hc,hd,by simpa using hs⟩,?_⟩
  have e:=r.length;simp only[ydu]at e
  omega
theorem Inv.tuple(I:Inv X pins σ H s)(h:SqT X.K H a xs):∃its:List Value,zb9 xs its/\IsTup s.heap a its.toArray/\xs.length<=sizeLine:=by
 rcases h with h|⟨o,its,n,hk,hc,hs,hz,r⟩
 ·obtain⟨z,its,r,p⟩:=h.ok I.hok;exact⟨its,r,p,z⟩
 ·refine⟨its.toList,r,⟨o,I.kIn a o hk,hc,n,by simpa using hs⟩,?_⟩
  have e:=r.length;simp only[ydu]at e
  omega
theorem Inv.list_inj(I:Inv X pins σ H s)(h:SqL X.K H a xs)(h':SqL X.K H a ys):xs=ys:=by
 obtain⟨its,r,⟨o,n,e,_,_,d⟩,_⟩:=I.list h;obtain⟨its',r',⟨o',n',e',_,_,d'⟩,_⟩:=I.list h';rw[e]at e';cases e';rw[d]at d';injection d' with d1 _
 have:its=its':=by simpa using congrArg Array.toList d1
 subst this;exact r.inj r'
theorem Inv.tuple_inj(I:Inv X pins σ H s)(h:SqT X.K H a xs)(h':SqT X.K H a ys):xs=ys:=by
 obtain⟨its,r,⟨o,e,_,n,d⟩,_⟩:=I.tuple h;obtain⟨its',r',⟨o',e',_,n',d'⟩,_⟩:=I.tuple h';rw[e]at e';cases e';rw[d]at d';injection d' with d1 _
 have:its=its':=by simpa using congrArg Array.toList d1
 subst this;exact r.inj r'
end
abbrev Cx.wish(X:Cx)(E:Value->Shared->Prop):Cx:={ X with xe:=E }
abbrev Cx.nox(X:Cx):Cx:=X.wish fun _ _=>False
theorem Cx.Ok.wish{X:Cx}(ok:X.Ok)(E:Value->Shared->Prop):(X.wish E).Ok :=
 ⟨ok.mod,ok.kind,ok.glob,ok.blt,ok.above,ok.inj,ok.has,ok.cab,ok.hd,ok.frames,ok.stk,ok.exf,ok.bs,ok.bsz,ok.noex,ok.exfs,ok.funs,ok.frf⟩
theorem Cx.Ok.unwish{X:Cx}{E:Value->Shared->Prop}(ok:(X.wish E).Ok):X.Ok :=
 ⟨ok.mod,ok.kind,ok.glob,ok.blt,ok.above,ok.inj,ok.has,ok.cab,ok.hd,ok.frames,ok.stk,ok.exf,ok.bs,ok.bsz,ok.noex,ok.exfs,ok.funs,ok.frf⟩
section
variable {X:Cx}{pins:List (Addr×Obj)}{σ:St}{H:Hp}{s:Shared}{E:Value->Shared->Prop}
theorem Inv.wish(I:Inv X pins σ H s)(E:Value->Shared->Prop):Inv (X.wish E) pins σ H s:=⟨I.ok.wish E,I.os,I.bare,I.base,I.loc,I.cell,I.free,I.freeC,I.pin,I.hok,I.len⟩
theorem Inv.unwish(I:Inv (X.wish E) pins σ H s):Inv X pins σ H s:=⟨I.ok.unwish,I.os,I.bare,I.base,I.loc,I.cell,I.free,I.freeC,I.pin,I.hok,I.len⟩
theorem SP.unwish{D:Ends}{f:Flow}{s':Shared}(h:SP (X.wish E) pins D f s'):SP X pins D f s':=by
 cases f with
 |next=>obtain⟨σ',H',I,q⟩:=h;exact⟨σ',H',I.unwish,q⟩
 |brk=>obtain⟨σ',H',I,q⟩:=h;exact⟨σ',H',I.unwish,q⟩
 |cont=>obtain⟨σ',H',I,q⟩:=h;exact⟨σ',H',I.unwish,q⟩
 |ret u=>obtain⟨v,σ',H',I,r,q⟩:=h;exact⟨v,σ',H',I.unwish,r,q⟩
theorem PE.nox{e:Expr}{t:TE}(h:PE X.nox e t):PE X e t:=fun pins s σ H Q I hw =>
 wpAny_mono (h pins s σ H Q (I.wish _) hw) (fun _ _ ⟨v,H',I',r,q⟩=>⟨v,H',I'.unwish,r,q⟩) fun _ _ z=>False.elim z
theorem PT.nox{e:Expr}{t:TT}(h:PT X.nox e t):PT X e t:=fun pins s σ H Q I hw =>
 wpAny_mono (h pins s σ H Q (I.wish _) hw) (fun _ _ ⟨H',I',q⟩=>⟨H',I'.unwish,q⟩) fun _ _ z=>False.elim z
theorem PSs.nox{st:List Stmt}{t:TS}(h:PSs X.nox st t):PSs X st t:=fun pins s σ H D I hw =>
 wpAny_mono (h pins s σ H D (I.wish _) hw) (fun _ _ q=>q.unwish) fun _ _ z=>False.elim z
end
section
variable {X:Cx}{st:Stmt}{zh6:List Stmt}{t u:TS}{e:Expr}{te:TE}{pos:Pos}
def tNext:TS:=fun D σ H=>D.nx σ H
def tSeq(t u:TS):TS:=fun D σ H=>t { D with nx:=u D } σ H
theorem pss_nil:PSs X [] tNext:=fun _ _ σ H _ I h=>wpAny_execs_nil ⟨σ,H,I,h⟩
theorem pss_cons(h1:PS X st t)(h2:PSs X zh6 u):PSs X (st::zh6) (tSeq t u):=by
 intro pins s σ H D I h;refine wpAny_execs_cons (thn (h1 pins s σ H { D with nx:=u D } I h) fun f s1 q=>?_)
 cases f with
 |next =>
  obtain⟨σ',H',I',q⟩:=q;exact h2 pins s1 σ' H' D I' q
 |ret v=>exact q
 |brk=>exact q
 |cont=>exact q
theorem pss_one(h1:PS X st t):PSs X [st] t:=by
 intro pins s σ H D I h;refine wpAny_execs_cons (thn (h1 pins s σ H D I h) fun f s1 q=>?_)
 cases f with
 |next=>exact wpAny_execs_nil q
 |ret v=>exact q
 |brk=>exact q
 |cont=>exact q
def tBreak:TS:=fun D σ H=>D.bk σ H
def tCont:TS:=fun D σ H=>D.ct σ H
theorem ps_pass:PS X (.Pass pos) tNext:=fun _ _ σ H _ I h=>wpAny_Pass ⟨σ,H,I,h⟩
theorem ps_break:PS X (.Break pos) tBreak:=fun _ _ σ H _ I h=>wpAny_Break ⟨σ,H,I,h⟩
theorem ps_continue:PS X (.Continue pos) tCont:=fun _ _ σ H _ I h=>wpAny_Continue ⟨σ,H,I,h⟩
theorem Inv.quiet{pins:List (Addr×Obj)}{σ:St}{H:Hp}{s:Shared}(I:Inv X pins σ H s):interactive X.env=false:=by simp[interactive,I.ok.kind]
def tDrop(te:TE):TS:=fun D σ H=>te σ H fun _ H1=>D.nx σ H1
theorem ps_expr(he:PE X e te)(hs:swapsWith e none pos.line X.env=pure false:=by rfl):PS X (.Expr e pos) (tDrop te):=by
 intro pins s σ H D I h;exact wpAny_Expr_any (thn (he pins s σ H _ I h) fun v s1 ⟨x,H1,I1,r1,q1⟩=>⟨σ,H1,I1,q1⟩) I.quiet hs
def tRet(te:TE):TS:=fun D σ H=>te σ H D.rt
theorem ps_ret(he:PE X e te):PS X (.Return (some e) pos) (tRet te):=by
 intro pins s σ H D I h;exact wpAny_Return_some (thn (he pins s σ H _ I h) fun v s1 ⟨x,H1,I1,r1,q1⟩=>⟨x,σ,H1,I1,r1,q1⟩)
def tRetN:TS:=fun D _ H=>D.rt .non H
theorem ps_retN:PS X (.Return none pos) tRetN:=fun _ _ σ H _ I h=>wpAny_Return_none ⟨.non,σ,H,I,rfl,h⟩
def tIfS(c:TT)(t u:TS):TS:=fun D σ H=>c σ H fun b H1=>if b=true then t D σ H1 else u D σ H1
theorem ps_if{c:Expr}{a b:List Stmt}{tc:TT}(hc:PT X c tc)(ha:PSs X a t)(hb:PSs X b u):PS X (.If c a b pos) (tIfS tc t u):=by
 intro pins s σ H D I h;refine wpAny_If (thn (hc pins s σ H _ I h) fun d s1 ⟨H1,I1,q1⟩=>?_)
 cases d with
 |true=>exact ha pins s1 σ H1 D I1 q1
 |false=>exact hb pins s1 σ H1 D I1 q1
end
abbrev TG:=V->St->Hp->(St->Hp->Prop)->Prop
abbrev TGs:=List V->St->Hp->(St->Hp->Prop)->Prop
def PG(X:Cx)(target:Expr)(t:TG):Prop :=
 ∀(pins:List (Addr×Obj)) (s:Shared) (σ:St) (H:Hp) (v:V) (u:Value) (Q:St->Hp->Prop),Inv X pins σ H s->RelV v u->t v σ H Q ->
  wpAny (model X.prog X.w) X.A (assign target X.env u) (fun _ s'=>∃σ' H',Inv X pins σ' H' s'/\Q σ' H') X.xe s
def PGs(X:Cx)(ts:List Expr)(t:TGs):Prop :=
 ∀(pins:List (Addr×Obj)) (s:Shared) (σ:St) (H:Hp) (vs:List V) (us:List Value) (Q:St->Hp->Prop),Inv X pins σ H s->zb9 vs us->t vs σ H Q ->
  wpAny (model X.prog X.w) X.A (assignInOrder ((assignEach ts X.env).map (·.2)) us) (fun _ s'=>∃σ' H',Inv X pins σ' H' s'/\Q σ' H') X.xe s
abbrev TSet:=V->V->V->Hp->(Hp->Prop)->Prop
def PSet(X:Cx)(t:TSet):Prop :=
 ∀(pins:List (Addr×Obj)) (s:Shared) (σ:St) (H:Hp) (o i v:V) (ov iv u:Value) (Q:Hp->Prop),Inv X pins σ H s->RelV o ov->RelV i iv->RelV v u->t o i v H Q ->
  wpAny (model X.prog X.w) X.A (setItem ov iv u) (fun _ s'=>∃H',Inv X pins σ H' s'/\Q H') X.xe s
abbrev TIp:=V->V->Hp->VK->Prop
def PIp(X:Cx)(op:Operator)(t:TIp):Prop :=
 ∀(pins:List (Addr×Obj)) (s:Shared) (σ:St) (H:Hp) (x y:V) (v u:Value) (Q:VK),Inv X pins σ H s->RelV x v->RelV y u->t x y H Q ->
  wpAny (model X.prog X.w) X.A (inplaceOp op v u) (EP X pins σ Q) X.xe s
section
variable {X:Cx}{pos:Pos}
def gName(i:Nat):TG:=fun v σ H Q=>Q (σ.set i (some v)) H
theorem pg_name{i:Nat}{x:Str}(hN:X.N.Nodup)(hi:X.N[i]?=some x)(hx:Loc X.env.scope x)(hf:X.fn x=true\/X.env.scope.names.lookup x=some .local:=by first|exact .inl rfl|exact .inr rfl|assumption):PG X (.Name x pos) (gName i):=by
 intro pins s σ H v u Q I r h;exact wpAny_assign_Name (store_ok I hN hi hx r (fun s' I'=>⟨_,H,I',h⟩) hf)
def gNil:TGs:=fun vs σ H Q=>vs=[]/\Q σ H
def gCons(t:TG)(u:TGs):TGs:=fun vs σ H Q=>∃v r,vs=v::r/\t v σ H fun σ' H'=>u r σ' H' Q
theorem pgs_nil:PGs X [] gNil:=by
 intro pins s σ H vs us Q I r h;obtain⟨e,h⟩:=h;subst e;cases r;exact assignInOrder_nil ⟨σ,H,I,h⟩
theorem pgs_cons{e:Expr}{es:List Expr}{t:TG}{u:TGs}(h1:PG X e t)(h2:PGs X es u)
  (hs:(assignEach (e::es) X.env).map (·.2)=assign e X.env::(assignEach es X.env).map (·.2):=by rfl):PGs X (e::es) (gCons t u):=by
 intro pins s σ H vs us Q I r h;obtain⟨v,vr,e1,h⟩:=h;subst e1;cases r with
 |cons r rr =>
  rw[hs];refine assignInOrder_cons (thn (h1 pins s σ H _ _ _ I r h) fun _ s1 ⟨σ1,H1,I1,q1⟩=>?_)
  exact h2 pins s1 σ1 H1 _ _ Q I1 rr q1
def gTup(K:PySem.W.Frag)(n:Nat)(t:TGs):TG:=fun v σ H Q=>∃a xs,v=.ref a/\SqT K H a xs/\xs.length=n/\t xs σ H Q
theorem pg_tup{es:List Expr}{k:Nat}{t:TGs}{n:Nat}(hc:X.calm=true)(h:PGs X es t)
  (hn:(assignEach es X.env).length=n:=by rfl) (hst:(assignEach es X.env).findIdx? (·.1)=none:=by rfl):PG X (.Tuple es k pos) (gTup X.K n t):=by
 intro pins s σ H v u Q I r hw;obtain⟨a,xs,e1,hq,hl,hw⟩:=hw;subst e1;cases r;obtain⟨its,rv,ht,hz⟩:=I.tuple hq;refine assign_Tuple_tuple (I.ok.hd hc) ht (by simp[hn,<- hl,rv.length]) hst fun h' hx=>?_
 have I1:Inv X pins σ H { s with heap:=h' }:=I.kept (t':=s.toks) fun b o e=>hx b o (yau (yae e)) e
 exact h pins _ σ H xs _ Q I1 (by simpa using rv) hw
def gSub(to ti:TE)(t:TSet):TG:=fun v σ H Q=>to σ H fun o H1=>ti σ H1 fun i H2=>t o i v H2 fun H3=>Q σ H3
theorem pg_sub{o i:Expr}{to ti:TE}{t:TSet}(ho:PE X o to)(hi:PE X i ti)(hs:PSet X t)
  (ha : ∀ v, assign (.Subscript o i pos) X.env v = (do
   let ov <- holding [v] (eval o X.env);let iv <- holding [v,ov] (eval i X.env)
   standAt pos
   holding [v,ov,iv] (setItem ov iv v)
   release [v,ov,iv] []):=by intro _;rfl):PG X (.Subscript o i pos) (gSub to ti t):=by
 intro pins s σ H v u Q I r h;rw[ha];refine wpAny_bind (wpAny_holding (thn (ho pins s σ H _ I h) fun ov s1 ⟨x,H1,I1,r1,q1⟩=>?_))
 refine wpAny_bind (wpAny_holding (thn (hi pins s1 σ H1 _ I1 q1) fun iv s2 ⟨y,H2,I2,r2,q2⟩=>?_))
 refine wpAny_bind (wpAny_standAt (wpAny_bind (wpAny_holding (thn (hs pins s2 σ H2 x y v ov iv u _ I2 r1 r2 r q2) fun _ s3 ⟨H3,I3,q3⟩=>?_))))
 exact wpAny_release ⟨σ,H3,I3,q3⟩
def tAsg(te:TE)(g:TG):TS:=fun D σ H=>te σ H fun x H1=>g x σ H1 D.nx
theorem ps_asg{tg e:Expr}{te:TE}{g:TG}(he:PE X e te)(hg:PG X tg g)(hs:swapsWithSole [tg] e pos.line X.env=pure false:=by rfl)(hw:swappedStores [tg] e X.env=pure none:=by rfl)
  (h1:(assignEach [tg] X.env).map (·.2)=[assign tg X.env]:=by rfl):PS X (.Assign [tg] e pos) (tAsg te g):=by
 intro pins s σ H D I h;refine wpAny_Assign_stores (thn (he pins s σ H _ I h) fun v s1 ⟨x,H1,I1,r1,q1⟩=>?_) hs hw
 rw[h1];exact thn (hg pins s1 σ H1 x v _ I1 r1 q1) fun _ s2 q=>q
theorem ps_set{i:Nat}{x:Str}{e:Expr}{te:TE}{pos':Pos}(hN:X.N.Nodup)(hi:X.N[i]?=some x)(hx:Loc X.env.scope x)(he:PE X e te)(hs:swapsWith e (some (.Name x pos')) pos.line X.env=pure false:=by rfl)(hf:X.fn x=true\/X.env.scope.names.lookup x=some .local:=by first|exact .inl rfl|exact .inr rfl|assumption) :
  PS X (.Assign [.Name x pos'] e pos) (tAsg te (gName i)):=by
 intro pins s σ H D I h;refine wpAny_Assign_Name (thn (he pins s σ H _ I h) fun v s1 ⟨y,H1,I1,r1,q1⟩=>?_) hs
 exact store_ok I1 hN hi hx r1 (fun s2 I2=>⟨_,H1,I2,q1⟩) hf
def tAug(i:Nat)(te:TE)(ti:TIp):TS:=fun D σ H=>∃x,σ[i]?=some (some x)/\te σ H fun y H1=>ti x y H1 fun z H2=>D.nx (σ.set i (some z)) H2
theorem ps_aug{i:Nat}{x:Str}{e:Expr}{te:TE}{op:Operator}{ti:TIp}{pos':Pos}(hN:X.N.Nodup)(hi:X.N[i]?=some x)(hx:Loc X.env.scope x)(he:PE X e te)(ho:PIp X op ti)(hf:X.fn x=true\/X.env.scope.names.lookup x=some .local:=by first|exact .inl rfl|exact .inr rfl|assumption) :
  PS X (.AugAssign (.Name x pos') op e pos) (tAug i te ti):=by
 intro pins s σ H D I h;obtain⟨v,e1,h⟩:=h;obtain⟨m,hn,hl⟩:=I.loc;have vis:Vis X.env.scope x:=by rcases hx with k|k;exact .inl k;exact .inr (.inl k)
 obtain⟨u,r,l⟩:=hl i x v hi e1 vis;refine wpAny_AugAssign_Name ?_
 have go:wpAny (model X.prog X.w) X.A (eval e X.env) (fun w s₂=>wpAny (model X.prog X.w) X.A (inplaceOp op u w) (fun r s₃=>wpAny (model X.prog X.w) X.A (storeName X.env x r) (fun _=>SP X pins D .next) X.xe s₃) X.xe s₂) X.xe s:=by
  refine thn (he pins s σ H _ I h) fun w s1 ⟨y,H1,I1,r1,q1⟩=>?_
  refine thn (ho pins s1 σ H1 v y u w _ I1 r r1 q1) fun z s2 ⟨zv,H2,I2,r2,q2⟩=>?_
  exact store_ok I2 hN hi hx r2 (fun s3 I3=>⟨_,H2,I3,q2⟩) hf
 rcases l with ⟨hk,hm⟩|⟨hk,c,hc,hcell⟩
 ·exact wpAny_loadName_local I.ok.kind hk hn hm go
 ·rcases hk with hk|hk
  ·exact wpAny_loadName_cell I.ok.kind hk hc hcell go
  ·rcases hx with k|k
   ·have:X.env.scope.names.lookup x=some .free:=hk;rw[k]at this;cases this
   ·have:X.env.scope.names.lookup x=some .free:=hk;rw[k]at this;cases this
def ipI(f:Int->Int->Int):TIp:=fun x y H Q=>∃i j,x=.int i/\y=.int j/\Q (.int (f i j)) H
theorem ip_add:PIp X .Add (ipI fun i j=>i+j):=by
 intro pins s σ H x y v u Q I r1 r2 h;obtain⟨i,j,e1,e2,q⟩:=h;subst e1;subst e2;obtain⟨t,rfl⟩:=r1;obtain⟨t',rfl⟩:=r2;exact iadd_int ⟨.int _,H,I.tok _,⟨_,rfl⟩,q⟩
end
section
variable {X:Cx}{pos:Pos}
def tWhile(c:TT)(tb:TS):TS:=fun D σ H=>∃W:Nat->St->Hp->Prop,(∃m,W m σ H)/\∀m σ H,W m σ H ->
 c σ H fun b H1=>if b=true then ∃N:St->Hp->Prop,(∀σ' H',N σ' H'->∃m',m'<m/\W m' σ' H')/\tb { D with nx:=N,ct:=N,bk:=D.nx } σ H1 else D.nx σ H1
theorem ps_while{c:Expr}{body:List Stmt}{tc:TT}{tb:TS}(hp:PassesOwn (model X.prog X.w) X.A X.env X.xe)(hc:PT X c tc)(hb:PSs X body tb):PS X (.While c body [] pos) (tWhile tc tb):=by
 intro pins s σ H D I h;obtain⟨W,⟨m0,w0⟩,turn⟩:=h;refine wpAny_While (codeAny_whileLoop (fun n s'=>∃σ' H',Inv X pins σ' H' s'/\W n σ' H') ?_ m0 ⟨σ,H,I,w0⟩)
 rintro n s1 ⟨σ1,H1,I1,w1⟩;refine wpAny_passesOwn hp (thn (hc pins s1 σ1 H1 _ I1 (turn n σ1 H1 w1)) fun b s2 ⟨H2,I2,q2⟩=>?_)
 cases b with
 |true =>
  obtain⟨N,hN,q2⟩:=q2;rw[if_pos rfl];refine wpAny_passesOwn hp (thn (hb pins s2 σ1 H2 _ I2 q2) fun f s3 q3=>?_)
  cases f with
  |next =>
   obtain⟨σ3,H3,I3,n3⟩:=q3;obtain⟨m',hm,w3⟩:=hN σ3 H3 n3;exact⟨m',hm,σ3,H3,I3,w3⟩
  |cont =>
   obtain⟨σ3,H3,I3,n3⟩:=q3;obtain⟨m',hm,w3⟩:=hN σ3 H3 n3;exact⟨m',hm,σ3,H3,I3,w3⟩
  |brk=>exact q3
  |ret v=>exact q3
 |false =>
  rw[if_neg yb7];exact wpAny_execs_nil ⟨σ1,H2,I2,q2⟩
end
structure It where
 go:Nat->Hp->Prop
 yld:Nat->Hp->V->Hp->Prop
 stop:Nat->Hp->Prop
def FpOk(X:Cx)(pins:List (Addr×Obj))(H:Hp)(b:Addr):Prop :=
 H b=none/\b≠X.env.locals/\b∉X.fs/\(b∈X.ex\/X.s₀.heap.objs.size<=b)/\(∀x c,X.env.cells.lookup x=some c->c≠b)/\∀p∈X.pn++pins,p.1≠b
theorem Inv.fpOk{X:Cx}{pins:List (Addr×Obj)}{σ:St}{H H':Hp}{s:Shared}{b:Addr}(I:Inv X pins σ H s)(hb:s.heap.objs.size<=b)(hn:H' b=none):FpOk X pins H' b:=by
 refine⟨hn,Nat.ne_of_gt (yam I.lt hb),I.nofs hb,.inr (yaj I.sz hb),fun x c e z=>?_,fun p hp z=>?_⟩
 ·obtain⟨v,q⟩:=I.cell x c e;exact absurd (yam q.lt (by rw[z];exact hb)) (yb3 _)
 ·exact absurd (yam (yae (I.pin p hp).1) (by rw[z];exact hb)) (yb3 _)
structure Turn(P:Program)(w:World)(K:PySem.W.Frag)(tg:Expr)(J:It)(fp:List Addr)(it:Addr)(tn:Nat->Heap->Prop):Prop where
 mem:it∈fp
 obj:∀i h,tn i h->∀b∈fp,∃o,h.get? b=some o/\∀v,o.data≠.cell v
 keep:∀i h h',tn i h->(∀b∈fp,∀o,h.get? b=some o->h'.get? b=some o)->tn i h'
 item:∀(X:Cx),X.prog=P->X.w=w->X.K=K->X.calm=true->∀(i:Nat) (pins:List (Addr×Obj)) (s:Shared) (σ:St) (H:Hp) (E:Value->Shared->Prop),Inv X pins σ H s->(∀b∈fp,FpOk X pins H b)->tn i s.heap->J.go i H ->
  wpAny (model P w) X.A (pyNext (.ref it)) (fun r s1=>∃u,r=some u /\
   wpAny (model P w) X.A (letOwnedTupleGo tg (.ref it) u) (fun _ s2=>∃x H',Inv X pins σ H' s2/\RelV x u/\J.yld i H x H'/\tn (i+1) s2.heap/\∀b∈fp,H' b=none) E s1) E s
 done:∀(X:Cx),X.prog=P->X.w=w->X.K=K->X.calm=true->∀(i:Nat) (pins:List (Addr×Obj)) (s:Shared) (σ:St) (H:Hp) (E:Value->Shared->Prop),Inv X pins σ H s->(∀b∈fp,FpOk X pins H b)->tn i s.heap->J.stop i H ->
  wpAny (model P w) X.A (pyNext (.ref it)) (fun r s1=>r=none/\Inv X pins σ H s1) E s
 self:∀(A:Around) (i:Nat) (s:Shared) (Q:Value->Shared->Prop) (E:Value->Shared->Prop),tn i s.heap->Q (.ref it) s->wpAny (model P w) A (pyIter (.ref it)) Q E s
abbrev TI:=St->Hp->(It->Hp->Prop)->Prop
def PIE(X:Cx)(pins:List (Addr×Obj))(σ:St)(tg:Expr)(R:It->Hp->Prop)(itv:Value)(s2:Shared):Prop :=
 ∃(it:Addr) (fp:List Addr) (tn:Nat->Heap->Prop) (J:It) (H':Hp),itv=.ref it/\Inv X pins σ H' s2/\Turn X.prog X.w X.K tg J fp it tn/\tn 0 s2.heap/\(∀b∈fp,FpOk X pins H' b)/\R J H'
def PI(X:Cx)(tg iter:Expr)(wi:TI):Prop :=
 ∀(pins:List (Addr×Obj)) (s:Shared) (σ:St) (H:Hp) (R:It->Hp->Prop),Inv X pins σ H s->wi σ H R ->
  wpAny (model X.prog X.w) X.A (eval iter X.env) (fun v s1=>wpAny (model X.prog X.w) X.A (pyIter v) (PIE X pins σ tg R) X.xe s1) X.xe s
theorem go_of{M:Model}{A:Around}{E:Value->Shared->Prop}{s:Shared}{tg:Expr}{it:Addr}{u:Value}{o:Obj}{n:String}{vs:Array Value}{Q:Unit->Shared->Prop}(ho:s.heap.get? it=some o)(hc:o.cls=.type n)(hd:o.data=.fields vs)
    (hn:["enumerate","zip","dict_itemiterator","dict_reverseitemiterator","odict_iterator","itertools.zip_longest","itertools.pairwise"].contains n=false) (hQ:Q () s):wpAny M A (letOwnedTupleGo tg (.ref it) u) Q E s:=by
  unfold letOwnedTupleGo
  cases tg<;>first
    |exact wpAny_pure hQ
    |(cases u<;>first
        |exact wpAny_pure hQ
        | (refine wpAny_bind (wpAny_load ho ?_)
           rw[hc,hd];show wpAny M A (if (["enumerate","zip","dict_itemiterator","dict_reverseitemiterator","odict_iterator","itertools.zip_longest","itertools.pairwise"].contains n && vs[0]? == some (rawInt _))=true then _ else _) Q E s
           rw[if_neg (by intro h;rw[hn,yd8]at h;cases h)]
           exact wpAny_pure hQ))
def Itl(K:PySem.W.Frag)(a:Addr):It :=
 ⟨fun i H=>∃xs x,SqL K H a xs/\xs[i]?=some x,fun i H x H'=>H'=H/\∀xs,SqL K H a xs->xs[i]?=some x,fun i H=>∃xs,SqL K H a xs/\xs.length<=i⟩
def Itt(K:PySem.W.Frag)(a:Addr):It :=
 ⟨fun i H=>∃xs x,SqT K H a xs/\xs[i]?=some x,fun i H x H'=>H'=H/\∀xs,SqT K H a xs->xs[i]?=some x,fun i H=>∃xs,SqT K H a xs/\xs.length<=i⟩
def Itr(lo:Int)(n:Nat):It:=⟨fun i _=>i<n,fun i H x H'=>H'=H/\x=.int (lo+i),fun i _=>n<=i⟩
theorem turn_list{P:Program}{w:World}{K:PySem.W.Frag}{tg:Expr}(a it:Addr):Turn P w K tg (Itl K a) [it] it (fun i h=>h.IsListIter it a i) where
 mem:=by simp
 obj:=fun i h st b hb=>by
  have e:b=it:=by simpa using hb
  subst e;obtain⟨o,e,c,d⟩:=st;exact⟨o,e,fun v z=>by rw[d]at z;cases z⟩
 keep:=fun i h h' st k=>st.at fun o e=>k it (by simp) o e
 item:=by
  intro X hP hw hK hc i pins s σ H E I hf st hg;subst hP hw hK;obtain⟨xs,x,hq,hx⟩:=hg;obtain⟨its,rv,p,hz⟩:=I.list hq;obtain⟨u,hu,ru⟩:=rv.get hx;obtain⟨f0,f1,f2,f3,f4,f5⟩:=hf it (by simp)
  refine wpAny_pyNext_list_item st p.isList (x:=u) (by simpa using hu) fun h' st' sb=>?_
  have I1:Inv X pins σ H { s with heap:=h' }:=I.turned (t':=s.toks) (fun b o hb e=>(sb.2 b hb).trans e) f0 f1 f3 f4 f5
  obtain⟨o,e,c,d⟩:=id st';exact⟨u,rfl,go_of (s:={ s with heap:=h' }) e c d (by decide) ⟨x,H,I1,ru,⟨rfl,fun ys hy=>by rw[I.list_inj hy hq];exact hx⟩,st',fun b hb=>(hf b hb).1⟩⟩
 done:=by
  intro X hP hw hK hc i pins s σ H E I hf st hg;subst hP hw hK;obtain⟨xs,hq,hx⟩:=hg;obtain⟨its,rv,p,hz⟩:=I.list hq;obtain⟨f0,f1,f2,f3,f4,f5⟩:=hf it (by simp)
  have hl:=rv.length;exact wpAny_pyNext_list_end (I.ok.hd hc) st p.isList (by simp;omega) fun h' eb=>⟨rfl,I.turned (t':=s.toks) (fun b o hb e=>eb b o hb e) f0 f1 f3 f4 f5⟩
 self:=fun _ _ _ _ _ st h=>wpAny_pyIter_listiter st h
theorem turn_tuple{P:Program}{w:World}{K:PySem.W.Frag}{tg:Expr}(a it:Addr):Turn P w K tg (Itt K a) [it] it (fun i h=>h.IsTupleIter it a i) where
 mem:=by simp
 obj:=fun i h st b hb=>by
  have e:b=it:=by simpa using hb
  subst e;obtain⟨o,e,c,d⟩:=st;exact⟨o,e,fun v z=>by rw[d]at z;cases z⟩
 keep:=fun i h h' st k=>st.at fun o e=>k it (by simp) o e
 item:=by
  intro X hP hw hK hc i pins s σ H E I hf st hg;subst hP hw hK;obtain⟨xs,x,hq,hx⟩:=hg;obtain⟨its,rv,p,hz⟩:=I.tuple hq;obtain⟨u,hu,ru⟩:=rv.get hx;obtain⟨f0,f1,f2,f3,f4,f5⟩:=hf it (by simp)
  refine wpAny_pyNext_tuple_item st (show s.heap.IsTuple a its.toArray from p) (x:=u) (by simpa using hu) fun h' st' sb=>?_
  have I1:Inv X pins σ H { s with heap:=h' }:=I.turned (t':=s.toks) (fun b o hb e=>(sb.2 b hb).trans e) f0 f1 f3 f4 f5
  obtain⟨o,e,c,d⟩:=id st';exact⟨u,rfl,go_of (s:={ s with heap:=h' }) e c d (by decide) ⟨x,H,I1,ru,⟨rfl,fun ys hy=>by rw[I.tuple_inj hy hq];exact hx⟩,st',fun b hb=>(hf b hb).1⟩⟩
 done:=by
  intro X hP hw hK hc i pins s σ H E I hf st hg;subst hP hw hK;obtain⟨xs,hq,hx⟩:=hg;obtain⟨its,rv,p,hz⟩:=I.tuple hq;obtain⟨f0,f1,f2,f3,f4,f5⟩:=hf it (by simp)
  have hl:=rv.length;exact wpAny_pyNext_tuple_end (I.ok.hd hc) st (show s.heap.IsTuple a its.toArray from p) (by simp;omega) fun h' eb=>⟨rfl,I.turned (t':=s.toks) (fun b o hb e=>eb b o hb e) f0 f1 f3 f4 f5⟩
 self:=fun _ _ _ _ _ st h=>wpAny_pyIter_tupleiter st h
theorem turn_range{P:Program}{w:World}{K:PySem.W.Frag}{tg:Expr}(it:Addr)(lo:Int)(n:Nat):Turn P w K tg (Itr lo n) [it] it (fun i h=>IsRangeIter h it (lo+(i:Nat) * 1) ((n:Int) - (i:Nat)) 1) where
 mem:=by simp
 obj:=fun i h st b hb=>by
  have e:b=it:=by simpa using hb
  subst e
  exact⟨_,st,fun v z=>by
   have z':Data.fields _=Data.cell v:=z;cases z'⟩
 keep:=fun i h h' st k=>k it (by simp) _ st
 item:=by
  intro X hP hw hK hc i pins s σ H E I hf st hg;subst hP hw hK;obtain⟨f0,f1,f2,f3,f4,f5⟩:=hf it (by simp)
  have W:=Walks.range (prog:=X.prog) (w:=X.w) (I.ok.hd hc) it lo 1 n;refine W.item i s _ _ hg st fun v h' tk hv st' kk=>?_
  obtain⟨t,rfl⟩:=hv;have I1:Inv X pins σ H { s with heap:=h',toks:=tk }:=I.turned (fun b o hb e=>kk b o (by simpa using hb) e) f0 f1 f3 f4 f5
  refine⟨_,rfl,go_of (s:={ s with heap:=h',toks:=tk }) (n:="range_iterator") st' rfl rfl (by decide) ⟨.int (lo+i),H,I1,⟨t,?_⟩,⟨rfl,rfl⟩,st',fun b hb=>(hf b hb).1⟩⟩
  rw[Int.mul_one]
 done:=by
  intro X hP hw hK hc i pins s σ H E I hf st hg;subst hP hw hK;obtain⟨f0,f1,f2,f3,f4,f5⟩:=hf it (by simp)
  exact wpAny_pyNext_range_end (I.ok.hd hc) st (by have:n<=i:=hg;omega) fun h' eb=>⟨rfl,I.turned (t':=s.toks) (fun b o hb e=>eb b o hb e) f0 f1 f3 f4 f5⟩
 self:=fun _ _ _ _ _ st h=>wpAny_pyIter_rangeiter st h
section
variable {X:Cx}{tg:Expr}
def iList(K:PySem.W.Frag)(tl:TE):TI:=fun σ H R=>tl σ H fun x H1=>∃a,x=.ref a/\(∃xs,SqL K H1 a xs)/\R (Itl K a) H1
def iTup(K:PySem.W.Frag)(tl:TE):TI:=fun σ H R=>tl σ H fun x H1=>∃a,x=.ref a/\(∃xs,SqT K H1 a xs)/\R (Itt K a) H1
theorem pi_list{l:Expr}{tl:TE}(hl:PE X l tl):PI X tg l (iList X.K tl):=by
 intro pins s σ H R I h;refine thn (hl pins s σ H _ I h) fun v s1 ⟨x,H1,I1,r1,q1⟩=>?_
 obtain⟨a,e,⟨xs,hq⟩,q⟩:=q1;subst e;cases r1;obtain⟨its,rv,p,hz⟩:=I1.list hq;refine wpAny_pyIter_list p.isList ?_;refine⟨s1.heap.objs.size,[s1.heap.objs.size],_,_,H1,rfl,I1.kept (t':=s1.toks) fun b o e=>yac _ e,turn_list a _,⟨_,yal _ rfl,rfl,rfl⟩,fun b hb=>?_,q⟩
 have e:b=s1.heap.objs.size:=by simpa using hb
 subst e;exact I1.fpOk (yad _) (I1.hok.fresh (yad _))
theorem pi_tup{l:Expr}{tl:TE}(hl:PE X l tl):PI X tg l (iTup X.K tl):=by
 intro pins s σ H R I h;refine thn (hl pins s σ H _ I h) fun v s1 ⟨x,H1,I1,r1,q1⟩=>?_
 obtain⟨a,e,⟨xs,hq⟩,q⟩:=q1;subst e;cases r1;obtain⟨its,rv,p,hz⟩:=I1.tuple hq;refine wpAny_pyIter_tuple (show s1.heap.IsTuple a its.toArray from p) ?_;refine⟨s1.heap.objs.size,[s1.heap.objs.size],_,_,H1,rfl,I1.kept (t':=s1.toks) fun b o e=>yac _ e,turn_tuple a _,⟨_,yal _ rfl,rfl,rfl⟩,fun b hb=>?_,q⟩
 have e:b=s1.heap.objs.size:=by simpa using hb
 subst e;exact I1.fpOk (yad _) (I1.hok.fresh (yad _))
theorem range_it{pins:List (Addr×Obj)}{σ:St}{H:Hp}{s:Shared}{R:It->Hp->Prop}{E:Value->Shared->Prop}{lo hi:Int}{t u v:Tok}{tk:Nat}(I:Inv X pins σ H s)(h1:-(2 ^ 62)<=lo)(h2:lo<2 ^ 62)(h3:-(2 ^ 62)<=hi)(h4:hi<2 ^ 62)
  (q:R (Itr lo (hi - lo).toNat) H):wpAny (model X.prog X.w) X.A (pyIter (.ref s.heap.objs.size)) (PIE X pins σ tg R) E { s with heap:=s.heap.push { cls:=.type "range",data:=.fields #[.int lo t,.int hi u,.int 1 v] },toks:=tk }:=by
 refine wpAny_pyIter_range (IsRange.new ..) (small_one h1 h2 h3 h4) ?_;have I1:Inv X pins σ H { s with heap:=s.heap.push { cls:=.type "range",data:=.fields #[.int lo t,.int hi u,.int 1 v] },toks:=tk }:=I.kept fun b o e=>yac _ e
 refine⟨(s.heap.push { cls:=.type "range",data:=.fields #[.int lo t,.int hi u,.int 1 v] }).objs.size,[(s.heap.push { cls:=.type "range",data:=.fields #[.int lo t,.int hi u,.int 1 v] }).objs.size],_,_,H,rfl,
  I1.kept (t':=tk) fun b o e=>yac _ e,turn_range _ lo (hi - lo).toNat,?_,fun b hb=>?_,q⟩
 ·have e1:lo+((0:Nat):Int) * 1=lo:=by simp
  have e2:(((hi - lo).toNat:Nat):Int) - ((0:Nat):Int)=Builtin.Range.rangeSize lo hi 1:=by rw[rangeSize_one];split<;>omega
  show IsRangeIter _ _ (lo+((0:Nat):Int) * 1) ((((hi - lo).toNat:Nat):Int) - ((0:Nat):Int)) 1;rw[e1,e2];exact yal _ rfl
 ·have e:b=(s.heap.push { cls:=.type "range",data:=.fields #[.int lo t,.int hi u,.int 1 v] }).objs.size:=by simpa using hb
  subst e;exact I1.fpOk (yad _) (I1.hok.fresh (yad _))
def iRng1(ta:TA):TI:=fun σ H R=>ta σ H fun vs H1=>∃j:Int,vs=[.int j]/\-(2 ^ 62)<=j/\j<2 ^ 62/\R (Itr 0 j.toNat) H1
def iRng2(ta:TA):TI:=fun σ H R=>ta σ H fun vs H1=>∃i j:Int,vs=[.int i,.int j]/\(-(2 ^ 62)<=i/\i<2 ^ 62/\-(2 ^ 62)<=j/\j<2 ^ 62)/\R (Itr i (j - i).toNat) H1
theorem pi_range1{a:Expr}{ta:TA}{p pos:Pos}(hg:Gl X "range")(hm:X.mg "range"=none)(ha:PA X [a] ta)(hs:starEach [a] X.env=[(false,eval a X.env)]:=by rfl):PI X tg (.Call (.Name "range" p) [a] [] pos) (iRng1 ta):=by
 intro pins s σ H R I h;refine Call_ (zif I hg hm boot_range (ybb (thn (ha pos pins s σ H _ I h) fun us s1 ⟨vs,H1,I1,r1,q1⟩=>?_) hs rfl))
 obtain⟨j,e,q1,q2,q⟩:=q1;subst e;cases r1 with
 |cons r rr =>
  cases rr;obtain⟨t,rfl⟩:=r;exact call_range_1 (range_it I1 (by omega) (by omega) q1 q2 (by simpa using q))
theorem pi_range2{a b:Expr}{ta:TA}{p pos:Pos}(hg:Gl X "range")(hm:X.mg "range"=none)(ha:PA X [a,b] ta)(hs:starEach [a,b] X.env=[(false,eval a X.env),(false,eval b X.env)]:=by rfl)(hs2:starEach [b] X.env=[(false,eval b X.env)]:=by rfl) :
  PI X tg (.Call (.Name "range" p) [a,b] [] pos) (iRng2 ta):=by
 intro pins s σ H R I h;refine Call_ (zif I hg hm boot_range (ybb (thn (ha pos pins s σ H _ I h) fun us s1 ⟨vs,H1,I1,r1,q1⟩=>?_) (by rw[hs,hs2]) (by rw[hs2];rfl)))
 obtain⟨i,j,e,⟨q1,q2,q3,q4⟩,q⟩:=q1;subst e;cases r1 with
 |cons r rr =>
  cases rr with
  |cons r' rr =>
   cases rr;obtain⟨t,rfl⟩:=r;obtain⟨t',rfl⟩:=r';exact call_range_2 (range_it I1 q1 q2 q3 q4 q)
def tFor(wi:TI)(g:TG)(tb:TS):TS:=fun D σ H=>wi σ H fun J H1=>∃W:Nat->Nat->St->Hp->Prop,(∃m,W 0 m σ H1)/\∀i m σ H,W i m σ H ->
 (J.stop i H/\D.nx σ H)\/(J.go i H/\∃N:St->Hp->Prop,(∀σ' H',N σ' H'->∃m',m'<m/\W (i+1) m' σ' H')/\∀x H',J.yld i H x H'->g x σ H' fun σ2 H2=>tb { D with nx:=N,ct:=N,bk:=D.nx } σ2 H2)
def zl7(fp:List Addr)(h:Heap):List (Addr×Obj):=fp.filterMap fun b=>(h.get? b).map fun o=>(b,o)
theorem zco{fp:List Addr}{h:Heap}{b:Addr}{o:Obj}(hb:b∈fp)(e:h.get? b=some o):(b,o)∈zl7 fp h:=yc7.mpr ⟨b,hb,by rw[e];rfl⟩
theorem of_pinsAt{fp:List Addr}{h:Heap}{p:Addr×Obj}(hp:p∈zl7 fp h):p.1∈fp/\h.get? p.1=some p.2:=by
 obtain⟨b,hb,e⟩:=yc7.mp hp;cases q:h.get? b with
 |none=>rw[q]at e;cases e
 |some o =>
  rw[q]at e;have e':(b,o)=p:=yb1 e;subst e';exact⟨hb,q⟩
theorem Inv.pinned{pins:List (Addr×Obj)}{σ:St}{H:Hp}{s:Shared}{fp:List Addr}(I:Inv X pins σ H s)(hf:∀b∈fp,FpOk X pins H b)(ho:∀b∈fp,∃o,s.heap.get? b=some o/\∀v,o.data≠.cell v):Inv X (pins++zl7 fp s.heap) σ H s :=
 I.pins_of fun p hp=>(yai.mp hp).elim (fun z=>I.pin p (yao _ z)) fun z=>by
  obtain⟨hb,e⟩:=of_pinsAt z;obtain⟨f0,f1,f2,_⟩:=hf p.1 hb;obtain⟨o,e',d⟩:=ho p.1 hb;rw[e]at e';cases e';exact⟨e,f0,f1,f2,d⟩
theorem Inv.unpinned{pins pl:List (Addr×Obj)}{σ:St}{H:Hp}{s:Shared}(I:Inv X (pins++pl) σ H s):Inv X pins σ H s:=I.pins_of fun p hp=>I.pin p (yao _ (ycb _ hp))
theorem ps_for{iter:Expr}{body:List Stmt}{wi:TI}{g:TG}{tb:TS}{pos:Pos}(hp:PassesOwn (model X.prog X.w) X.A X.env X.xe)(hc:X.calm=true)(hi:PI X tg iter wi)(hg:PG X tg g)(hb:PSs X body tb)
  (hs:∀x,foldedSetIterable iter X.env x=pure x:=by intro _;rfl):PS X (.For tg iter body [] pos) (tFor wi g tb):=by
 intro pins s σ H D I h;refine wpAny_For (thn (hi pins s σ H _ I h) fun v s1 h1=>thn h1 fun itv s2 h2=>?_) hs
 obtain⟨it,fp,tn,J,H2,e,I2,T,st2,f2,W,⟨m0,w0⟩,turn⟩:=h2;subst e;have stat:∀{H':Hp},(∀b∈fp,H' b=none)->∀b∈fp,FpOk X pins H' b:=fun hn b hb=>⟨hn b hb,(f2 b hb).2⟩
 refine codeAny_forLoop_any (fun n s'=>∃i σ' H',Inv X pins σ' H' s'/\tn i s'.heap/\(∀b∈fp,H' b=none)/\W i n σ' H') ?_ m0 ⟨0,σ,H2,I2,st2,fun b hb=>(f2 b hb).1,w0⟩
 rintro n s3 ⟨i,σ3,H3,I3,st3,fr3,w3⟩
 rcases turn i n σ3 H3 w3 with ⟨stop,qn⟩|⟨go,N,hN,step⟩
 ·refine wpAny_passesOwn hp (thn (T.done X rfl rfl rfl hc i pins s3 σ3 H3 X.xe I3 (stat fr3) st3 stop) fun r s4 ⟨hr,I4⟩=>?_)
  subst hr;exact wpAny_execs_nil ⟨σ3,H3,I4,qn⟩
 ·refine wpAny_passesOwn hp (thn (T.item X rfl rfl rfl hc i pins s3 σ3 H3 X.xe I3 (stat fr3) st3 go) fun r s4 ⟨u,hr,h4⟩=>?_)
  subst hr;refine wpAny_passesOwn hp (thn h4 fun _ s5 ⟨x,H5,I5,r5,y5,st5,fr5⟩=>?_)
  have I5':=I5.pinned (stat fr5) (T.obj _ _ st5);refine wpAny_passesOwn hp (thn (hg _ s5 σ3 H5 x u _ I5' r5 (step x H5 y5)) fun _ s6 ⟨σ6,H6,I6,q6⟩=>?_)
  refine wpAny_passesOwn hp (thn (hb _ s6 σ6 H6 _ I6 q6) fun f s7 q7=>?_)
  have again:∀{σ7:St} {H7:Hp},Inv X (pins++zl7 fp s5.heap) σ7 H7 s7->N σ7 H7->∃m,m<n/\∃i σ' H',Inv X pins σ' H' s7/\tn i s7.heap/\(∀b∈fp,H' b=none)/\W i m σ' H':=fun {σ7 H7} I7 n7=>by
   obtain⟨m',hm,w7⟩:=hN σ7 H7 n7;refine⟨m',hm,i+1,σ7,H7,I7.unpinned,T.keep _ _ _ st5 fun b hb o e=>(I7.pin (b,o) (yao _ (yao _ (zco hb e)))).1,fun b hb=>?_,w7⟩
   obtain⟨o,e,d⟩:=T.obj _ _ st5 b hb;exact(I7.pin (b,o) (yao _ (yao _ (zco hb e)))).2.1
  cases f with
  |next=>obtain⟨σ7,H7,I7,n7⟩:=q7;exact again I7 n7
  |cont=>obtain⟨σ7,H7,I7,n7⟩:=q7;exact again I7 n7
  |brk=>obtain⟨σ7,H7,I7,q7⟩:=q7;exact⟨σ7,H7,I7.unpinned,q7⟩
  |ret v=>obtain⟨x7,σ7,H7,I7,r7,q7⟩:=q7;exact⟨x7,σ7,H7,I7.unpinned,r7,q7⟩
end
abbrev R2:=V->V->Hp->VK->Prop
def OpR(X:Cx)(f:Value->Value->Sem Value)(r:R2):Prop :=
 ∀(pins:List (Addr×Obj)) (s:Shared) (σ:St) (H:Hp) (x y:V) (v u:Value) (Q:VK),Inv X pins σ H s->RelV x v->RelV y u->r x y H Q ->
  wpAny (model X.prog X.w) X.A (f v u) (EP X pins σ Q) X.xe s
def UnR(X:Cx)(f:Value->Sem Value)(r:V->Hp->VK->Prop):Prop :=
 ∀(pins:List (Addr×Obj)) (s:Shared) (σ:St) (H:Hp) (x:V) (v:Value) (Q:VK),Inv X pins σ H s->RelV x v->r x H Q ->
  wpAny (model X.prog X.w) X.A (f v) (EP X pins σ Q) X.xe s
def zbx(X:Cx)(f:Value)(r:List V->Hp->VK->Prop):Prop :=
 ∀(pins:List (Addr×Obj)) (s:Shared) (σ:St) (H:Hp) (xs:List V) (us:List Value) (Q:VK),Inv X pins σ H s->zb9 xs us->r xs H Q ->
  wpAny (model X.prog X.w) X.A (call f us) (EP X pins σ Q) X.xe s
def tOp(r:R2)(ta tb:TE):TE:=fun σ H Q=>ta σ H fun x H1=>tb σ H1 fun y H2=>r x y H2 Q
def tUn(r:V->Hp->VK->Prop)(ta:TE):TE:=fun σ H Q=>ta σ H fun x H1=>r x H1 Q
def rI(C:Int->Int->Prop)(g:Int->Int->V):R2:=fun x y H Q=>∃i j,x=.int i/\y=.int j/\C i j/\Q (g i j) H
def rI0(g:Int->Int->V):R2:=fun x y H Q=>∃i j,x=.int i/\y=.int j/\Q (g i j) H
def rU(g:Int->V):V->Hp->VK->Prop:=fun x H Q=>∃i,x=.int i/\Q (g i) H
section
variable {X:Cx}{a b c:Expr}{ta tb tc:TE}{pos:Pos}
theorem binT(ha:PE X a ta)(hb:PE X b tb){pins:List (Addr×Obj)}{s:Shared}{σ:St}{H:Hp}{R:V->V->Hp->Prop}(I:Inv X pins σ H s)
  (h:ta σ H fun x H1=>tb σ H1 fun y H2=>R x y H2) {Q:Value->Shared->Prop} {f:Value->Value->Sem Value}
  (hf:∀v u s2 x y H2,Inv X pins σ H2 s2->RelV x v->RelV y u->R x y H2->wpAny (model X.prog X.w) X.A (f v u) Q X.xe s2) :
  wpAny (model X.prog X.w) X.A (eval a X.env) (fun v s₁=>wpAny (model X.prog X.w) X.A (eval b X.env) (fun u s₂=>wpAny (model X.prog X.w) X.A (f v u) Q X.xe s₂) X.xe s₁) X.xe s:=by
 refine thn (ha pins s σ H _ I h) fun v s1 ⟨x,H1,I1,r1,q1⟩=>?_
 refine thn (hb pins s1 σ H1 _ I1 q1) fun u s2 ⟨y,H2,I2,r2,q2⟩=>?_
 exact hf v u s2 x y H2 I2 r1 r2 q2
theorem pe_op{op:Operator}{r:R2}(ho:OpR X (binaryOp op) r)(ha:PE X a ta)(hb:PE X b tb):PE X (.BinOp a op b pos) (tOp r ta tb):=by
 intro pins s σ H Q I h;exact wpAny_BinOp (binT ha hb I h fun v u s2 x y H2 I2 rx ry q=>ho pins s2 σ H2 x y v u Q I2 rx ry q)
theorem pe_un{op:UnaryOp}{r:V->Hp->VK->Prop}(ho:UnR X (unaryOp op) r)(ha:PE X a ta):PE X (.UnaryOp op a pos) (tUn r ta):=by
 intro pins s σ H Q I h;exact UnaryOp_ (thn (ha pins s σ H _ I h) fun v s1 ⟨x,H1,I1,r1,q1⟩=>ho pins s1 σ H1 x v Q I1 r1 q1)
theorem opI{f:Value->Value->Sem Value}{C:Int->Int->Prop}{g:Int->Int->Int}
  (rule:∀(i j:Int) (t u:Tok) (s:Shared) (Q:Value->Shared->Prop) (E:Value->Shared->Prop),C i j->Q (.int (g i j) s.toks) { s with toks:=s.toks+1 }->wpAny (model X.prog X.w) X.A (f (.int i t) (.int j u)) Q E s) :
  OpR X f (rI C fun i j=>.int (g i j)):=by
 intro pins s σ H x y v u Q I rx ry h;obtain⟨i,j,rfl,rfl,hc,q⟩:=h;obtain⟨t,rfl⟩:=rx;obtain⟨t',rfl⟩:=ry;exact rule i j t t' s _ _ hc ⟨.int (g i j),H,I.tok _,⟨_,rfl⟩,q⟩
theorem opI0{f:Value->Value->Sem Value}{g:Int->Int->Int}
  (rule:∀(i j:Int) (t u:Tok) (s:Shared) (Q:Value->Shared->Prop) (E:Value->Shared->Prop),Q (.int (g i j) s.toks) { s with toks:=s.toks+1 }->wpAny (model X.prog X.w) X.A (f (.int i t) (.int j u)) Q E s) :
  OpR X f (rI0 fun i j=>.int (g i j)):=by
 intro pins s σ H x y v u Q I rx ry h;obtain⟨i,j,rfl,rfl,q⟩:=h;obtain⟨t,rfl⟩:=rx;obtain⟨t',rfl⟩:=ry;exact rule i j t t' s _ _ ⟨.int (g i j),H,I.tok _,⟨_,rfl⟩,q⟩
theorem opB0{f:Value->Value->Sem Value}{g:Int->Int->Bool}
  (rule:∀(i j:Int) (t u:Tok) (s:Shared) (Q:Value->Shared->Prop) (E:Value->Shared->Prop),Q (.bool (g i j)) s->wpAny (model X.prog X.w) X.A (f (.int i t) (.int j u)) Q E s) :
  OpR X f (rI0 fun i j=>.bl (g i j)):=by
 intro pins s σ H x y v u Q I rx ry h;obtain⟨i,j,rfl,rfl,q⟩:=h;obtain⟨t,rfl⟩:=rx;obtain⟨t',rfl⟩:=ry;exact rule i j t t' s _ _ ⟨.bl (g i j),H,I,rfl,q⟩
def CPow(i j:Int):Prop:=0<=j/\j<=1000000/\i.natAbs<2 ^ 64
def CMul(i j:Int):Prop:=(-(2 ^ 64)<i/\i<2 ^ 64)\/(-(2 ^ 64)<j/\j<2 ^ 64)
theorem CMul.ok{i j:Int}(h:CMul i j):IntMulOk i j:=by
 rcases h with ⟨h1,h2⟩|⟨h1,h2⟩
 ·exact .of_left (intBits_le_64 h1 h2)
 ·exact .of_right (intBits_le_64 h1 h2)
theorem op_add:OpR X (binaryOp .Add) (rI0 fun i j=>.int (i+j)):=opI0 fun _ _ _ _ _ _ _ q=>add_int q
theorem op_sub:OpR X (binaryOp .Sub) (rI0 fun i j=>.int (i - j)):=opI0 fun _ _ _ _ _ _ _ q=>sub_int q
theorem op_mul:OpR X (binaryOp .Mult) (rI CMul fun i j=>.int (i * j)):=opI fun _ _ _ _ _ _ _ hc q=>mul_int q hc.ok
theorem op_modN:OpR X (binaryOp .Mod) (rI (fun _ j=>j≠0) fun i j=>.int (i.fmod j)):=opI fun _ _ _ _ _ _ _ hc q=>mod_int' hc q
theorem op_pow:OpR X (binaryOp .Pow) (rI CPow fun i j=>.int (i ^ j.toNat)):=opI fun _ _ _ _ _ _ _ hc q=>pow_int_small hc.1 hc.2.1 hc.2.2 q
theorem op_and:OpR X (binaryOp .BitAnd) (rI0 fun i j=>.int (Builtin.bitAnd i j)):=opI0 fun _ _ _ _ _ _ _ q=>and_int q
theorem op_or:OpR X (binaryOp .BitOr) (rI0 fun i j=>.int (Builtin.bitOr i j)):=opI0 fun _ _ _ _ _ _ _ q=>or_int q
theorem unI{f:Value->Sem Value}{g:Int->Int}
  (rule:∀(i:Int) (t:Tok) (s:Shared) (Q:Value->Shared->Prop) (E:Value->Shared->Prop),Q (.int (g i) s.toks) { s with toks:=s.toks+1 }->wpAny (model X.prog X.w) X.A (f (.int i t)) Q E s) :
  UnR X f (rU fun i=>.int (g i)):=by
 intro pins s σ H x v Q I rx h;obtain⟨i,rfl,q⟩:=h;obtain⟨t,rfl⟩:=rx;exact rule i t s _ _ ⟨.int (g i),H,I.tok _,⟨_,rfl⟩,q⟩
theorem un_neg:UnR X (unaryOp .USub) (rU fun i=>.int (-i)):=unI fun _ _ _ _ _ q=>neg_int q
end
section
variable {X:Cx}{a b c:Expr}{ta tb tc:TE}{pos:Pos}
theorem fin_bl{pins:List (Addr×Obj)}{σ:St}{H:Hp}{s:Shared}{Q:VK}{k k':Bool}(I:Inv X pins σ H s)(q:Q (.bl k) H)(e:k=k'):EP X pins σ Q (.bool k') s:=by
 subst e;exact⟨.bl k,H,I,rfl,q⟩
theorem op_lt:OpR X (compareOp .Lt) (rI0 fun i j=>.bl (decide (i<j))):=opB0 fun _ _ _ _ _ _ _ q=>lt_int q
theorem op_le:OpR X (compareOp .LtE) (rI0 fun i j=>.bl (decide (i<=j))):=opB0 fun _ _ _ _ _ _ _ q=>le_int q
theorem op_gt:OpR X (compareOp .Gt) (rI0 fun i j=>.bl (decide (j<i))):=opB0 fun _ _ _ _ _ _ _ q=>gt_int q
theorem op_ge:OpR X (compareOp .GtE) (rI0 fun i j=>.bl (decide (j<=i))):=opB0 fun _ _ _ _ _ _ _ q=>ge_int q
theorem op_in_str:OpR X (compareOp .In) (fun x y H Q=>∃i j,x=.str i/\y=.str j/\Q (.bl (!(Builtin.Str.occurrences j i 0 j.length 1).isEmpty)) H):=by
 intro pins s σ H x y v u Q I rx ry h;obtain⟨i,j,rfl,rfl,q⟩:=h;obtain⟨t,rfl⟩:=rx;obtain⟨t',rfl⟩:=ry;exact in_str (fin_bl I q rfl)
theorem op_isN:OpR X (compareOp .Is) (fun x y H Q=>y=.non/\Q (.bl (decide (x=.non))) H):=by
 intro pins s σ H x y v u Q I rx ry h;obtain⟨rfl,q⟩:=h;cases ry;refine is_none_gen (fin_bl I q ?_)
 cases x<;>first
  |(cases rx;rfl)
  |(obtain⟨t,rfl⟩:=rx;rfl)
theorem op_notN:OpR X (compareOp .IsNot) (fun x y H Q=>y=.non/\Q (.bl (!decide (x=.non))) H):=by
 intro pins s σ H x y v u Q I rx ry h;obtain⟨rfl,q⟩:=h;cases ry;refine isnot_none_gen (fin_bl I q ?_)
 cases x<;>first
  |(cases rx;rfl)
  |(obtain⟨t,rfl⟩:=rx;rfl)
theorem OpR.or{f:Value->Value->Sem Value}{r r':R2}(h:OpR X f r)(h':OpR X f r'):OpR X f (fun x y H Q=>r x y H Q\/r' x y H Q):=by
 intro pins s σ H x y v u Q I rx ry q
 rcases q with q|q
 ·exact h pins s σ H x y v u Q I rx ry q
 ·exact h' pins s σ H x y v u Q I rx ry q
theorem pe_cmpR{op:CmpOp}{r:R2}(ho:OpR X (compareOp op) r)(ha:PE X a ta)(hb:PE X b tb)(hm:behindInMarks op b=false):PE X (.Compare a [op] [b] pos) (tOp r ta tb):=by
 intro pins s σ H Q I h;exact wpAny_Compare1 (binT ha hb I h fun v u s2 x y H2 I2 rx ry q=>ho pins s2 σ H2 x y v u Q I2 rx ry q) hm
def tTest(t:TE):TT:=fun σ H Q=>t σ H fun x H'=>∃k,x=.bl k/\Q k H'
theorem pt_cmpR{op:CmpOp}{r:R2}(ho:OpR X (compareOp op) r)(ha:PE X a ta)(hb:PE X b tb)(hm:behindInMarks op b=false):PT X (.Compare a [op] [b] pos) (tTest (tOp r ta tb)):=by
 intro pins s σ H Q I h
 refine wpAny_isTrue_Compare1 (thn (ha pins s σ H _ I h) fun v s1 ⟨x,H1,I1,r1,q1⟩=>thn (hb pins s1 σ H1 _ I1 q1) fun u s2 ⟨y,H2,I2,r2,q2⟩ =>
  thn (ho pins s2 σ H2 x y v u _ I2 r1 r2 q2) fun c s3 ⟨z,H3,I3,r3,k,e,q3⟩=>?_) hm
 subst e;cases r3;exact wpAny_truthy_bool ⟨H3,I3,q3⟩
def tChain(r r':R2)(ta tb tc:TE):TE:=fun σ H Q=>ta σ H fun x H1=>tb σ H1 fun y H2=>r x y H2 fun z H3=>∃k,z=.bl k /\
 (if k=true then tc σ H3 fun w' H4=>r' y w' H4 Q else Q (.bl false) H3)
theorem pe_chain{op op':CmpOp}{r r':R2}(ho:OpR X (compareOp op) r)(ho':OpR X (compareOp op') r')(ha:PE X a ta)(hb:PE X b tb)(hc:PE X c tc)
  (hm:lastMarks [op,op'] [b,c]=false:=by with_unfolding_all rfl):PE X (.Compare a [op,op'] [b,c] pos) (tChain r r' ta tb tc):=by
 intro pins s σ H Q I h
 refine Compare_chain (thn (ha pins s σ H _ I h) fun v s1 ⟨x,H1,I1,r1,q1⟩=>chain_link (thn (hb pins s1 σ H1 _ I1 q1) fun u s2 ⟨y,H2,I2,r2,q2⟩ =>
  thn (ho pins s2 σ H2 x y v u _ I2 r1 r2 q2) fun d s3 ⟨z,H3,I3,r3,k,e,q3⟩=>?_)) hm
 subst e;cases r3;refine wpAny_truthy_bool ?_;cases k with
 |false=>exact ite_ff ⟨.bl false,H3,I3,rfl,q3⟩
 |true=>exact ite_tt (chain_last (thn (hc pins s3 σ H3 _ I3 q3) fun w' s4 ⟨z',H4,I4,r4,q4⟩=>ho' pins s4 σ H4 y z' u w' Q I4 r2 r4 q4))
theorem pt_chain{op op':CmpOp}{r r':R2}(ho:OpR X (compareOp op) r)(ho':OpR X (compareOp op') r')(ha:PE X a ta)(hb:PE X b tb)(hc:PE X c tc)
  (hm:lastMarks [op,op'] [b,c]=false:=by with_unfolding_all rfl):PT X (.Compare a [op,op'] [b,c] pos) (tTest (tChain r r' ta tb tc)):=by
 intro pins s σ H Q I h
 refine isTrue_chain (thn (ha pins s σ H _ I h) fun v s1 ⟨x,H1,I1,r1,q1⟩=>test_link (thn (hb pins s1 σ H1 _ I1 q1) fun u s2 ⟨y,H2,I2,r2,q2⟩ =>
  thn (ho pins s2 σ H2 x y v u _ I2 r1 r2 q2) fun d s3 ⟨z,H3,I3,r3,k,e,q3⟩=>?_)) hm
 subst e;cases r3;refine wpAny_truthy_bool ?_;cases k with
 |false =>
  obtain⟨k',e',q'⟩:=q3;cases e';exact ite_ff ⟨H3,I3,q'⟩
 |true =>
  refine ite_tt (test_last (thn (hc pins s3 σ H3 _ I3 q3) fun w' s4 ⟨z',H4,I4,r4,q4⟩=>thn (ho' pins s4 σ H4 y z' u w' _ I4 r2 r4 q4) fun d' s5 ⟨z2,H5,I5,r5,k2,e2,q5⟩=>?_))
  subst e2;cases r5;exact wpAny_truthy_bool ⟨H5,I5,q5⟩
theorem line63:(sizeLine:Nat)<2 ^ 63:=by rw[sizeLine_eq];decide
theorem op_add_str:OpR X (binaryOp .Add) (fun x y H Q=>∃i j,x=.str i/\y=.str j/\i.length+j.length<=sizeLine/\Q (.str (i++j)) H):=by
 intro pins s σ H x y v u Q I rx ry h;obtain⟨i,j,rfl,rfl,hz,q⟩:=h;obtain⟨t,rfl⟩:=rx;obtain⟨t',rfl⟩:=ry;exact add_str (fun t' tk=>⟨.str (i++j),H,I.tok _,⟨_,rfl⟩,q⟩) hz
theorem ziz{x:V}{us:List Value}(r:zb9 [x] us):∃u,us=[u]/\RelV x u:=by
 cases r with
 |cons r1 r2=>cases r2;exact⟨_,rfl,r1⟩
theorem vals2{x y:V}{us:List Value}(r:zb9 [x,y] us):∃u w',us=[u,w']/\RelV x u/\RelV y w':=by
 cases r with
 |cons r1 r2 =>
  cases r2 with
  |cons r3 r4=>cases r4;exact⟨_,_,rfl,r1,r3⟩
theorem call_abs:zbx X (.builtin "abs") (fun xs H Q=>∃i,xs=[.int i]/\Q (.int (if i<0 then -i else i)) H):=by
 intro pins s σ H xs us Q I r h;obtain⟨i,rfl,q⟩:=h;obtain⟨u,rfl,t,rfl⟩:=ziz r;exact call_abs_int fun u tk=>⟨.int (if i<0 then -i else i),H,I.tok _,⟨_,rfl⟩,q⟩
theorem call_min2(hc:X.calm=true):zbx X (.builtin "min") (fun xs H Q=>∃i j,xs=[.int i,.int j]/\Q (.int (if j<i then j else i)) H):=by
 intro pins s σ H xs us Q I r h;obtain⟨i,j,rfl,q⟩:=h;obtain⟨u,w',rfl,⟨t,rfl⟩,⟨t',rfl⟩⟩:=vals2 r;refine min_two_ints (I.ok.hd hc) fun h' tk k=>⟨_,H,I.kept k,?_,q⟩
 by_cases hj:j<i
 ·rw[if_pos hj,if_pos hj];exact⟨_,rfl⟩
 ·rw[if_neg hj,if_neg hj];exact⟨_,rfl⟩
theorem call_int1:zbx X (.type "int") (fun xs H Q=>(∃i,xs=[.int i]/\Q (.int i) H)\/∃k,xs=[.bl k]/\Q (.int (if k then 1 else 0)) H):=by
 intro pins s σ H xs us Q I r h
 rcases h with ⟨i,rfl,q⟩|⟨k,rfl,q⟩
 ·obtain⟨u,rfl,t,rfl⟩:=ziz r;exact call_int_int ⟨.int i,H,I,⟨_,rfl⟩,q⟩
 ·obtain⟨u,rfl,r1⟩:=ziz r;cases r1;exact call_int_bool ⟨.int (if k then 1 else 0),H,I.tok _,⟨_,rfl⟩,q⟩
theorem call_str_int:zbx X (.type "str") (fun xs H Q=>∃i,xs=[.int i]/\i.natAbs.log2<1920/\Q (.str (toString i)) H):=by
 intro pins s σ H xs us Q I r h;obtain⟨i,rfl,hz,q⟩:=h;obtain⟨u,rfl,t,rfl⟩:=ziz r;exact PySem.P.str_of_int hz ⟨.str _,H,I.tok _,⟨_,rfl⟩,q⟩
def LenV(K:PySem.W.Frag)(x:V)(H:Hp)(n:Nat):Prop :=
 match x with
 |.str y=>y.length<=sizeLine/\n=y.length
 |.byt y=>y.size<=sizeLine/\n=y.size
 |.ref p=>(∃xs,SqL K H p xs/\n=xs.length)\/∃xs,SqT K H p xs/\n=xs.length
 |_=>False
theorem call_len:zbx X (.builtin "len") (fun xs H Q=>∃x n,xs=[x]/\LenV X.K x H n/\Q (.int n) H):=by
 intro pins s σ H xs us Q I r h;obtain⟨x,n,rfl,e,q⟩:=h;obtain⟨u,rfl,rx⟩:=ziz r;have hl:=line63;have hs:sizeLine=16777216:=sizeLine_eq;cases x with
 |str y =>
  obtain⟨t,rfl⟩:=rx;obtain⟨hy,e'⟩:y.length<=sizeLine/\n=y.length:=e;subst e';exact len_str (by omega) ⟨.int _,H,I.tok _,⟨_,rfl⟩,q⟩
 |byt y =>
  obtain⟨t,rfl⟩:=rx;obtain⟨hy,e'⟩:y.size<=sizeLine/\n=y.size:=e;subst e';exact PySem.W.len_bytes (by omega) ⟨.int _,H,I.tok _,⟨_,rfl⟩,q⟩
 |ref p =>
  cases rx;have e':(∃xs,SqL X.K H p xs/\n=xs.length)\/∃xs,SqT X.K H p xs/\n=xs.length:=e
  rcases e' with ⟨xs,hx,e'⟩|⟨xs,hx,e'⟩
  ·subst e';obtain⟨its,r',pl,hz⟩:=I.list hx;have hlen:=r'.length;exact Calls.call_len_list pl.isList (by simp only[yag];omega) ⟨.int xs.length,H,I.tok _,⟨_,by simp only[yag];rw[hlen]⟩,q⟩
  ·subst e';obtain⟨its,r',pl,hz⟩:=I.tuple hx;have hlen:=r'.length;exact len_tuple pl (by simp only[yag];omega) ⟨.int xs.length,H,I.tok _,⟨_,by simp only[yag];rw[hlen]⟩,q⟩
 |_=>exact(show False from e).elim
end
structure ObjM(h:Heap)(x dx C:Addr)(mA:Str->Option Value):Prop where
 obj:h.get? x=some (PySem.W.instObj C dx)
 ns:h.Ns1 dx mA
 ne:dx≠x
theorem lookIn_ns{h:Heap}{dx:Addr}{mA:Str->Option Value}(n:h.Ns1 dx mA):∃od,h.get? dx=some od/\∀name,PySem.W.lookIn name od=some (mA name):=by
 obtain⟨o,es,ep,ho,hd,hk,_,hm⟩:=n;refine⟨o,ho,fun name=>?_⟩
 have e:=hm name;unfold nsFind findBy at e;rw[<- Array.find?_toList]at e;unfold PySem.W.lookIn;rw[hd];dsimp only;split
 ·rename_i y q;rw[q]at e;exact congrArg some e
 ·rename_i q;rw[q]at e
  have a:es.toList.any (·.refKey)=false:=by
   rw[List.any_eq_false];intro y hy;obtain⟨z,t,hkey⟩:=hk y (Array.mem_toList_iff.mp hy);simp[DictEntry.refKey,hkey]
  have a':¬ es.toList.any (·.refKey)=true:=by rw[a];exact yb7
  rw[if_neg a'];exact congrArg some e
theorem ObjM.look{h:Heap}{x dx C:Addr}{mA:Str->Option Value}(I:ObjM h x dx C mA):∃od,PySem.W.InstAt h x (PySem.W.instObj C dx) C (some od)/\∀name,PySem.W.lookIn name od=some (mA name) :=
 let ⟨od,ho,hl⟩:=lookIn_ns I.ns
 ⟨od,⟨I.obj,rfl,rfl,ho⟩,hl⟩
section
variable {prog:Program}{w:World}{A:Around}{E:Value->Shared->Prop}{s:Shared}{K:PySem.W.Frag}{x dx C f:Addr}{mA:Str->Option Value}{name:Str}{v:Value}
theorem get_map{expr:Bool}{Q:Value->Shared->Prop}(X:K.In s.heap)(I:ObjM s.heap x dx C mA)(hg:PySem.W.plainGet K C name=true)(hh:PySem.W.hasDictIn K C=true)
  (ha:PySem.W.findIn K (.ref C) name=some none) (hv:mA name=some v) (hv':PySem.W.handedIn v=true) (h:Q v { s with toks:=s.toks+1 }) :
  wpAny (model prog w) A (getAttr (.ref x) name expr) Q E s:=by
 obtain⟨od,J,hl⟩:=I.look;exact PySem.W.get_value X J (ydv hg).1 (PySem.W.findObj_own hh ha rfl (by rw[hl,hv])) hv' h
theorem get_meth{pl:Sem Bool}{Q:Value×List Value->Shared->Prop}(X:K.In s.heap)(I:ObjM s.heap x dx C mA)(hg:PySem.W.plainGet K C name=true)
  (hf:PySem.W.findIn K (.ref C) name=some (some (.ref f))) (ht:PySem.W.isFn K (.ref f)=true) (hv:mA name=none) (h:Q (.ref f,[.ref x]) s) :
  wpAny (model prog w) A (getMethod (.ref x) name pl) Q E s:=by
 obtain⟨od,J,hl⟩:=I.look;exact PySem.W.method_fn X J (ydv hg).1 (ydv hg).2 hf (beq_iff_eq.mp ht) (by show(PySem.W.lookIn name od).map (·.isSome)=some false;rw[hl,hv];rfl) h
theorem set_map{ns:List Str}{Q:Unit->Shared->Prop}(X:K.In s.heap)(I:ObjM s.heap x dx C mA)
  (hs:PySem.W.findIn K (.ref C) "__setattr__"=some (some (.builtin "object.__setattr__"))) (hp:PySem.W.plainOver K C=true) (ht:PySem.W.takerIn K C name=some none) (hh:PySem.W.hasDictIn K C=true)
  (hw:PySem.Within mA ns) (hsz:ns.length<=sizeLine)
  (h:∀h',ObjM h' x dx C (fun y=>if y=name then some v else mA y)->Heap.SameBut dx s.heap h'->Q () { s with heap:=h',toks:=s.toks+2 }) :
  wpAny (model prog w) A (setAttr (.ref x) name v) Q E s:=by
 obtain⟨od,J,hl⟩:=I.look;refine PySem.W.set_plain X J hs (PySem.W.osa_open (s:={ s with toks:=s.toks+1 }) (r:=none) X J hp ht fun b=>?_)
 obtain⟨cd,hc,hd'⟩:=PySem.W.any_some hh;have hx:s.heap.get? x=some ⟨.ref C,some dx,.plain,#[]⟩:=I.obj;refine wpAny_bind (wpAny_pure (wpAny_bind (wpAny_bind (wpAny_loadPart hx (wpAny_bind (PySem.W.Looks.here (s:={ s with toks:=s.toks+1 }) (PySem.W.looks_clsIn X hc) ?_))))))
 rw[hd'];refine wpAny_pure (a:=some dx) (wpAny_bind (wpAny_pure (wpAny_bind ?_)));refine wpAny_nsSet1 (s:={ s with toks:=s.toks+1 }) I.ns fun h' hn2 hs2=>?_
 obtain⟨oD,esD,epD,hoD,hdD,hcD⟩:=hn2.count (PySem.Within.cons name v hw);refine wpAny_bind (wpAny_lookBehind hoD (by rw[hdD];exact pastItsLine_dict (yaj hcD (by rw[ya8];omega))) ?_)
 exact wpAny_pure (h _ ⟨(hs2.2 _ (yb8 I.ne)).trans I.obj,hn2,I.ne⟩ hs2)
theorem make_map{R:Result->Shared->Prop}{vs:List Value}{kw:List (Str×Value)}(X:K.In s.heap)(hm:PySem.W.makesIn K C=true)
  (hi:PySem.W.findIn K (.ref C) "__init__"=some (some (.ref f))) (hf:PySem.W.typeIn K (.ref f)=some (.type "function"))
  (h : codeAny (model prog w) (A.under (.builtin "type.__call__" ⟨.ref C :: vs, kw⟩)) (.call (.ref f) ⟨.ref (s.heap.objs.size + 1) :: vs, kw⟩) (PySem.W.InitBack (s.heap.objs.size + 1) R)
   { s with heap:=(s.heap.push PySem.W.emptyDict).push (PySem.W.instObj C s.heap.objs.size) }) :
  codeAny (model prog w) A (.call (.ref C) ⟨vs,kw⟩) R s:=by
 obtain⟨hh,g,d,t,os⟩:=s;exact PySem.W.make_core (PySem.W.makes_of X hm) (PySem.W.looks_findIn X hi) (fun self=>PySem.W.bind_fn X self hf) (.inl rfl) h
end
def putF(f:Str)(v:V):List (Str×V)->List (Str×V)
 |[]=>[(f,v)]
 |(g,x)::r=>if g=f then (g,v)::r else (g,x)::putF f v r
theorem zlf(f g:Str)(v:V):∀fs:List (Str×V),(putF f v fs).lookup g=if g=f then some v else fs.lookup g
 |[]=>by
  show List.lookup g [(f,v)]=_
  by_cases h:g=f
  ·have hb:(g == f)=true:=beq_iff_eq.mpr h;simp only[List.lookup,hb,if_pos h]
  ·have hb:(g == f)=false:=beq_eq_false_iff_ne.mpr h;simp only[List.lookup,hb,if_neg h]
 |(k,x)::r=>by
  have ih:=zlf f g v r;rw[show putF f v ((k,x)::r)=(if k=f then (k,v)::r else (k,x)::putF f v r) from rfl]
  by_cases hk:k=f
  ·rw[if_pos hk]
   by_cases h:g=k
   ·have hb:(g == k)=true:=beq_iff_eq.mpr h;simp only[List.lookup,hb,if_pos (h.trans hk)]
   ·have hb:(g == k)=false:=beq_eq_false_iff_ne.mpr h;simp only[List.lookup,hb,if_neg (fun e:g=f=>h (e.trans hk.symm))]
  ·rw[if_neg hk]
   by_cases h:g=k
   ·have hb:(g == k)=true:=beq_iff_eq.mpr h;simp only[List.lookup,hb,if_neg (fun e:g=f=>hk (h.symm.trans e))]
   ·have hb:(g == k)=false:=beq_eq_false_iff_ne.mpr h;simp only[List.lookup,hb];exact ih
theorem zlj(f:Str)(v:V):∀fs:List (Str×V),f∈(putF f v fs).map (·.1)/\∀g,g∈fs.map (·.1)->g∈(putF f v fs).map (·.1)
 |[]=>⟨by simp[putF],fun g h=>by simp at h⟩
 |(k,x)::r=>by
  obtain⟨i1,i2⟩:=zlj f v r;rw[show putF f v ((k,x)::r)=(if k=f then (k,v)::r else (k,x)::putF f v r) from rfl]
  by_cases hk:k=f
  ·rw[if_pos hk];subst hk;exact⟨by simp,fun g h=>by simpa using h⟩
  ·rw[if_neg hk];refine⟨?_,fun g h=>?_⟩
   ·rw[yah];exact ya9 _ i1
   ·rw[yah]at h ⊢
    rcases ya7.mp h with e|e
    ·exact ya7.mpr (.inl e)
    ·exact ya9 _ (i2 g e)
theorem zlh(f:Str)(v:V):∀fs:List (Str×V),(putF f v fs).length<=fs.length+1
 |[]=>by simp[putF]
 |(k,x)::r=>by
  have ih:=zlh f v r;rw[show putF f v ((k,x)::r)=(if k=f then (k,v)::r else (k,x)::putF f v r) from rfl]
  by_cases hk:k=f
  ·rw[if_pos hk,ya8,ya8];omega
  ·rw[if_neg hk,ya8,ya8];omega
theorem RelO.some_of{v:V}{o:Option Value}(r:RelO (some v) o):∃u,o=some u/\RelV v u:=by
 cases o with
 |none=>exact(show False from r).elim
 |some u=>exact⟨u,rfl,r⟩
theorem RelO.none_of{o:Option Value}(r:RelO none o):o=none:=by
 cases o with
 |none=>rfl
 |some u=>exact(show False from r).elim
theorem handed_of{v:V}{u:Value}(r:RelV v u):PySem.W.handedIn u=true:=by
 cases v with
 |non=>cases (show u=Value.none from r);rfl
 |bl b=>cases (show u=Value.bool b from r);rfl
 |int i=>obtain⟨t,e⟩:=(show ∃t,u=Value.int i t from r);cases e;rfl
 |str x=>obtain⟨t,e⟩:=(show ∃t,u=Value.str x t from r);cases e;rfl
 |byt b=>obtain⟨t,e⟩:=(show ∃t,u=Value.bytes b t from r);cases e;rfl
 |flt b=>obtain⟨t,e⟩:=(show ∃t,u=Value.float b t from r);cases e;rfl
 |ref a=>cases (show u=Value.ref a from r);rfl
 |ty n=>cases (show u=Value.type n from r);rfl
section
variable {P:Program}{w:World}{H H':Hp}{h h':Heap}{a C dx:Addr}{fs fs':List (Str×V)}
theorem ins_get(hok:HOk P w H h)(e:H a=some (.ins C dx fs)):∃mA,ObjM h a dx C mA/\(∀f,RelO (fs.lookup f) (mA f))/\PySem.Within mA (fs.map (·.1))/\fs.length<=1000/\H dx=some (.own a):=by
 obtain⟨d,z,ne,ob,mA,n,r,q⟩:=(show zbp P w H h a (.ins C dx fs) from hok a _ e);exact⟨mA,⟨ob,n,ne⟩,r,q,z,d⟩
end
structure Cls(K:PySem.W.Frag)(C:Addr):Prop where
 pg:PySem.W.plainGet K C Str.empty=true
 hd:PySem.W.hasDictIn K C=true
 po:PySem.W.plainOver K C=true
 sa:PySem.W.findIn K (.ref C) "__setattr__"=some (some (.builtin "object.__setattr__"))
theorem Cls.get{K:PySem.W.Frag}{C:Addr}(c:Cls K C)(f:Str):PySem.W.plainGet K C f=true:=c.pg
def zbj(K:PySem.W.Frag)(C:Addr)(f:Str):Prop:=PySem.W.findIn K (.ref C) f=some none
theorem zbj.taker{K:PySem.W.Frag}{C:Addr}{f:Str}(n:zbj K C f):PySem.W.takerIn K C f=some none:=by
 unfold PySem.W.takerIn;rw[show PySem.W.findIn K (.ref C) f=some none from n]
 rfl
structure Meth(K:PySem.W.Frag)(C:Addr)(m:Str)(f:Addr):Prop where
 at_:PySem.W.findIn K (.ref C) m=some (some (.ref f))
 fn:PySem.W.isFn K (.ref f)=true
 kp:PySem.W.keepIn K (.ref f)=true
section
variable {X:Cx}{pins:List (Addr×Obj)}{σ:St}{H:Hp}{s:Shared}{a C dx:Addr}{fs:List (Str×V)}{f:Str}{v:V}{A:Around}{E:Value->Shared->Prop}
theorem getattr_ok{b:Bool}{Q:Value->Shared->Prop}(I:Inv X pins σ H s)(e:H a=some (.ins C dx fs))(c:Cls X.K C)(n:zbj X.K C f)(l:fs.lookup f=some v)
  (h:∀u s',Inv X pins σ H s'->RelV v u->Q u s'):wpAny (model X.prog X.w) A (getAttr (.ref a) f b) Q E s:=by
 obtain⟨mA,O,r,_,_,_⟩:=ins_get I.hok e;obtain⟨u,hu,ru⟩:=RelO.some_of (v:=v) (o:=mA f) (by rw[<- l];exact r f)
 exact get_map I.kIn O (c.get f) c.hd n hu (handed_of ru) (h u _ (I.tok _) ru)
theorem zni{m:Str}{g:Addr}{pl:Sem Bool}{Q:Value×List Value->Shared->Prop}(I:Inv X pins σ H s)(e:H a=some (.ins C dx fs))(c:Cls X.K C)(k:Meth X.K C m g)(l:fs.lookup m=none)
  (h:Q (.ref g,[.ref a]) s):wpAny (model X.prog X.w) A (getMethod (.ref a) m pl) Q E s:=by
 obtain⟨mA,O,r,_,_,_⟩:=ins_get I.hok e;have hn:mA m=none:=RelO.none_of (by rw[<- l];exact r m)
 exact get_meth I.kIn O (c.get m) k.at_ k.fn hn h
theorem setattr_ok{y:V}{u:Value}{Q:Unit->Shared->Prop}(I:Inv X pins σ H s)(e:H a=some (.ins C dx fs))(c:Cls X.K C)(n:zbj X.K C f)(hl:fs.length<1000)(ry:RelV y u)
  (h:∀s',Inv X pins σ (upd H a (.ins C dx (putF f y fs))) s'->Q () s'):wpAny (model X.prog X.w) A (setAttr (.ref a) f u) Q E s:=by
 obtain⟨mA,O,r,wi,_,ho⟩:=ins_get I.hok e;have hz:(fs.map (·.1)).length<=sizeLine:=by rw[ya0,sizeLine_eq];omega
 refine set_map I.kIn O c.sa c.po n.taker c.hd wi hz fun h' O' sb=>h _ ?_
 have hd:∃o,h'.get? dx=some o:=let ⟨o,_,_,e',_⟩:=O'.ns;⟨o,e'⟩;refine I.write (x:=a) (e:=dx) (by rw[e];exact True.intro) (.inr ho) (fun b q hb z=>(sb.2 b hb).trans z) hd ?_
 refine⟨by rw[zaj O.ne];exact ho,?_,O.ne,O'.obj,_,O'.ns,fun g=>?_,fun g hg=>?_⟩
 ·have:=zlh f y fs;omega
 ·show RelO ((putF f y fs).lookup g) (if g=f then some u else mA g)
  rw[zlf]
  by_cases q:g=f
  ·rw[if_pos q,if_pos q];exact ry
  ·rw[if_neg q,if_neg q];exact r g
 ·by_cases q:g=f
  ·rw[q];exact(zlj f y fs).1
  ·refine(zlj f y fs).2 g (wi g fun z=>hg ?_)
   show(if g=f then some u else mA g)=none
   rw[if_neg q];exact z
theorem Inv.made(I:Inv X pins σ H s):Inv X pins σ (upd (upd H s.heap.objs.size (.own (s.heap.objs.size+1))) (s.heap.objs.size+1) (.ins C s.heap.objs.size []))
  { s with heap:=(s.heap.push PySem.W.emptyDict).push (PySem.W.instObj C s.heap.objs.size) }:=by
 have e1:(s.heap.push PySem.W.emptyDict).get? s.heap.objs.size=some PySem.W.emptyDict:=yal s.heap rfl
 have e2:((s.heap.push PySem.W.emptyDict).push (PySem.W.instObj C s.heap.objs.size)).get? (s.heap.objs.size+1)=some (PySem.W.instObj C s.heap.objs.size):=by
  have:=yal (s.heap.push PySem.W.emptyDict) (o:=PySem.W.instObj C s.heap.objs.size) rfl
  rwa[yc2]at this
 have e3:(s.heap.push PySem.W.emptyDict).Ns s.heap.objs.size (fun _=>none):=⟨PySem.W.emptyDict,#[],_,e1,rfl,(fun e he=>absurd he (by simp)),fun _=>rfl⟩
 have I1:=I.laid (a:=s.heap.objs.size) (o:=.own (s.heap.objs.size+1)) (h':=s.heap.push PySem.W.emptyDict) (t':=s.toks) (fun b u q=>yac _ q) (yad _) ⟨_,e1⟩
 refine I1.laid (a:=s.heap.objs.size+1) (o:=.ins C s.heap.objs.size []) (t':=s.toks) (fun b u q=>yac _ q) (yax (yc2 _ _)) ?_
 have ne:s.heap.objs.size≠s.heap.objs.size+1:=yau (yc3 _);refine⟨by rw[zaj ne,zau],ybi _,ne,e2,fun _=>none,(Heap.Ns1.of_empty e3).at fun o q=>yac _ q,fun _=>True.intro,fun y hy=>absurd rfl hy⟩
theorem attr_of{prog:Program}{w:World}{env:Env}{e:Expr}{f:Str}{pos:Pos}{s:Shared}{Q:Value->Shared->Prop}(hb:attributeBase e f env (eval e env)=eval e env)
  (h:wpAny (model prog w) A (eval e env) (fun o s₁=>wpAny (model prog w) A (getAttr o f true) Q E s₁) E s):wpAny (model prog w) A (eval (.Attribute e f pos) env) Q E s :=
 Attribute_any_ h (by rw[arm_eval_Attribute,hb])
end
def tFld(K:PySem.W.Frag)(ta:TE)(f:Str):TE:=fun σ H Q=>ta σ H fun x H1=>∃a C dx fs v,x=.ref a/\H1 a=some (.ins C dx fs)/\Cls K C/\zbj K C f/\fs.lookup f=some v/\Q v H1
def sFld(K:PySem.W.Frag)(ta tv:TE)(f:Str):TS:=fun D σ H=>tv σ H fun y H1=>ta σ H1 fun x H2=>∃a C dx fs,x=.ref a/\H2 a=some (.ins C dx fs)/\Cls K C/\zbj K C f/\fs.length<1000 /\
 D.nx σ (upd H2 a (.ins C dx (putF f y fs)))
section
variable {X:Cx}{o e value:Expr}{f:Str}{pos pos' tpos:Pos}{ta tv:TE}
theorem pe_fld(he:PE X e ta)(hb:attributeBase e f X.env (eval e X.env)=eval e X.env):PE X (.Attribute e f pos) (tFld X.K ta f):=by
 intro pins s σ H Q I h;refine attr_of hb (thn (he pins s σ H _ I h) fun u s1 ⟨x,H1,I1,rx,a,C,dx,fs,v,ex,ea,c,n,l,q⟩=>?_)
 subst ex;obtain rfl:u=Value.ref a:=rx;exact getattr_ok I1 ea c n l fun u' s2 I2 ru=>⟨v,H1,I2,ru,q⟩
theorem ps_fld(ha:PE X o ta)(hv:PE X value tv)(hs:swapsWith value (some (.Attribute o f pos')) pos.line X.env=pure false):PS X (.Assign [.Attribute o f pos'] value pos) (sFld X.K ta tv f):=by
 intro pins s σ H D I h;refine plainObj_wpAny_Assign_Attribute (thn (hv pins s σ H _ I h) fun u s1 ⟨y,H1,I1,ry,q⟩=>thn (ha pins s1 σ H1 _ I1 q) fun ov s2 ⟨x,H2,I2,rx,a,C,dx,fs,ex,ea,c,n,l,q2⟩=>?_) hs
 subst ex;obtain rfl:ov=Value.ref a:=rx;exact setattr_ok I2 ea c n l ry fun s3 I3=>⟨σ,_,I3,q2⟩
end
section
variable {X:Cx}{pins:List (Addr×Obj)}{σ:St}{H:Hp}{s:Shared}{A:Around}{E:Value->Shared->Prop}{Q:Value->Shared->Prop}{c:Value}{b:Bool}
inductive TyOf(K:PySem.W.Frag)(H:Hp):V->Value->Prop where
 |non:TyOf K H .non (.type "NoneType")
 |bl (x:Bool):TyOf K H (.bl x) (.type "bool")
 |int (i:Int):TyOf K H (.int i) (.type "int")
 |str (x:Str):TyOf K H (.str x) (.type "str")
 |flt (x:UInt64):TyOf K H (.flt x) (.type "float")
 |lst {a:Addr} {xs:List V} (e:H a=some (.lst xs)):TyOf K H (.ref a) (.type "list")
 |frz {a:Addr} {o:Obj} {xs:List V} (e:H a=some (.frz o (.lst xs))):TyOf K H (.ref a) (.type "list")
 |tup {a:Addr} {xs:List V} (e:H a=some (.tup xs)):TyOf K H (.ref a) (.type "tuple")
 |dK {a:Addr} {kvs:List (Key×V)} (e:H a=some (.dK kvs)):TyOf K H (.ref a) (.type "dict")
 |dT {a:Addr} {kvs:List (List Key×V)} (e:H a=some (.dT kvs)):TyOf K H (.ref a) (.type "dict")
 |ins {a C dx:Addr} {fs:List (Str×V)} (e:H a=some (.ins C dx fs)) (cl:Cls K C) (ha:PySem.W.findIn K (.ref C) "__class__"=some (some (.builtin "object.__class__")))
   (hn:PySem.W.specialIn K (.builtin "object.__class__") "__get__"=some (some (.builtin "getset_descriptor.__get__"))) (htk:PySem.W.takesIn K (.builtin "object.__class__")=some true)
   (hm:PySem.W.mroIn K C (.type "object")=some true):TyOf K H (.ref a) (.ref C)
theorem isinst_ok{x:V}{u t:Value}(I:Inv X pins σ H s)(rx:RelV x u)(ty:TyOf X.K H x t)(e:PySem.W.kitOne X.K t c=some b)(h:∀tk,Q (.bool b) { s with toks:=tk }) :
  wpAny (model X.prog X.w) A (call (.builtin "isinstance") [u,c]) Q E s:=by
 cases ty with
 |non=>cases (show u=Value.none from rx);exact ybc PySem.W.kitx_none I.kIn True.intro e (fun z=>nomatch z) h
 |bl y=>cases (show u=Value.bool y from rx);exact ybc PySem.W.kitx_bool I.kIn True.intro e (fun z=>nomatch z) h
 |int i=>obtain⟨t,q⟩:=(show ∃t,u=Value.int i t from rx);cases q;exact ybc PySem.W.kitx_int I.kIn True.intro e (fun z=>nomatch z) h
 |str y=>obtain⟨t,q⟩:=(show ∃t,u=Value.str y t from rx);cases q;exact ybc PySem.W.kitx_str I.kIn True.intro e (fun z=>nomatch z) h
 |flt y=>obtain⟨t,q⟩:=(show ∃t,u=Value.float y t from rx);cases q;exact ybc PySem.W.kitx_float I.kIn True.intro e (fun z=>nomatch z) h
 |@lst a xs ea =>
  cases (show u=Value.ref a from rx);obtain⟨_,_,n,_,h1⟩:=(show zbp X.prog X.w H s.heap a (.lst xs) from I.hok a _ ea);exact ybc PySem.W.kitx_list I.kIn ⟨_,h1,rfl⟩ e (fun z=>nomatch z) h
 |@frz a ob xs ea =>
  cases (show u=Value.ref a from rx);obtain⟨_,_,_,n,_,h1⟩:=(show zbp X.prog X.w H s.heap a (.frz ob (.lst xs)) from I.hok a _ ea);exact ybc PySem.W.kitx_list I.kIn ⟨_,h1,rfl⟩ e (fun z=>nomatch z) h
 |@tup a xs ea =>
  cases (show u=Value.ref a from rx);obtain⟨_,_,_,p⟩:=(show zbp X.prog X.w H s.heap a (.tup xs) from I.hok a _ ea);obtain⟨o,h1,h2,_⟩:=p;exact ybc PySem.W.kitx_tuple I.kIn ⟨o,h1,h2⟩ e (fun z=>nomatch z) h
 |@dK a kvs ea =>
  cases (show u=Value.ref a from rx);obtain⟨_,_,vs,_,p⟩:=(show zbp X.prog X.w H s.heap a (.dK kvs) from I.hok a _ ea);obtain⟨o,es,ep,h1,h2,_⟩:=p;exact ybc ye9 I.kIn ⟨o,h1,h2.1⟩ e (fun z=>nomatch z) h
 |@dT a kvs ea =>
  cases (show u=Value.ref a from rx);obtain⟨_,_,xs,_,o,es,ep,h1,h2,_⟩:=(show zbp X.prog X.w H s.heap a (.dT kvs) from I.hok a _ ea);exact ybc ye9 I.kIn ⟨o,h1,h2.1⟩ e (fun z=>nomatch z) h
 |@ins a C dx fs ea cl ha hn htk hm =>
  cases (show u=Value.ref a from rx);obtain⟨mA,O,_⟩:=ins_get I.hok ea;obtain⟨od,J,_⟩:=O.look;exact ybc (PySem.W.kitx_own (cl.get _) cl.hd ha hn htk hm) I.kIn J e (fun z=>nomatch z) h
end
structure Room(k:Nat)(A:Around):Prop where
 hd:A.handled=none
 dp:A.depth+3 * k+5<recursionLimit
 un:A.units+16 * k+200<cLine
theorem Room.mono{j k:Nat}{A:Around}(r:Room k A)(h:j<=k):Room j A:=⟨r.hd,by have:=r.dp;omega,by have:=r.un;omega⟩
theorem Room.deeper{k:Nat}{A:Around}(r:Room (k+1) A)(env:Env):Room k (A.deeper env) :=
 ⟨r.hd,by have:=r.dp;show A.depth+1+3 * k+5<_;omega,by have:=r.un;show A.units+3+16 * k+200<_;omega⟩
theorem Room.in1{k:Nat}{A:Around}(r:Room (k+1) A):Room k A.in1 :=
 ⟨r.hd,by have:=r.dp;show A.depth+3 * k+5<_;omega,by have:=r.un;show A.units+1+16 * k+200<_;omega⟩
theorem make_depth{A:Around}{C:Addr}{us:List Value}{kw:List (Str×Value)}:(A.under (.builtin "type.__call__" ⟨.ref C::us,kw⟩)).depth=A.depth+1:=by
 first|rfl|simp[Around.under,Code.weight,Code.isCreation,Code.isGuard,Code.isCaller,Code.frames,Code.isFrame,guardIds]
theorem make_units{A:Around}{C:Addr}{us:List Value}{kw:List (Str×Value)}:(A.under (.builtin "type.__call__" ⟨.ref C::us,kw⟩)).units=A.units+1:=by
 first|rfl|simp[Around.under,Code.cUnits,Code.frames,Code.isFrame]
theorem Room.make{k:Nat}{A:Around}(r:Room (k+1) A)(C:Addr)(us:List Value)(kw:List (Str×Value)):Room k (A.under (.builtin "type.__call__" ⟨.ref C::us,kw⟩)) :=
 ⟨r.hd,by have:=r.dp;rw[make_depth];omega,by have:=r.un;rw[make_units];omega⟩
theorem Room.depth{k:Nat}{A:Around}(r:Room k A):A.depth<recursionLimit:=by have:=r.dp;omega
theorem Room.units{k:Nat}{A:Around}(r:Room k A):A.units+64<cLine:=by have:=r.un;omega
def tNil:TA:=fun _ H Q=>Q [] H
def tCons(ta:TE)(tr:TA):TA:=fun σ H Q=>ta σ H fun x H1=>tr σ H1 fun xs H2=>Q (x::xs) H2
section
variable {X:Cx}{e:Expr}{es:List Expr}{te:TE}{t:TA}{pos:Pos}
theorem zfs:PA X [] tNil:=fun _ _ _ _ H Q I h=>yde ⟨[],H,I,.nil,h⟩
theorem zcc(ha:PE X e te)(hr:PA X es t)(hs:starEach (e::es) X.env=(false,eval e X.env)::starEach es X.env:=by rfl):PA X (e::es) (tCons te t):=by
 intro pos pins s σ H Q I h;rw[hs];show wpAny _ _ (spliced ((false,eval e X.env)::backTo pos (starEach es X.env))) _ _ s;refine yd2 (thn (ha pins s σ H _ I h) fun u s1 ⟨x,H1,I1,r1,q1⟩=>?_)
 exact thn (hr pos pins s1 σ H1 _ I1 q1) fun us s2 ⟨xs,H2,I2,r2,q2⟩=>⟨x::xs,H2,I2,.cons r1 r2,q2⟩
def tTup(t:TA):TE:=fun σ H Q=>t σ H fun xs H1=>xs.length<=sizeLine/\∀p,H1 p=none->Q (.ref p) (upd H1 p (.tup xs))
def tLst(t:TA):TE:=fun σ H Q=>t σ H fun xs H1=>xs.length<=sizeLine/\∀p,H1 p=none->Q (.ref p) (upd H1 p (.lst xs))
theorem pe_tup{x1}(h:PA X es t):PE X (.Tuple es x1 pos) (tTup t):=by
 intro pins s σ H Q I hq;refine wpAny_Tuple_spliced (thn (h pos pins s σ H _ I hq) fun us s1 ⟨xs,H1,I1,r,z,q⟩=>⟨by rw[<- r.length];exact z,?_⟩)
 have hf:H1 s1.heap.objs.size=none:=I1.hok.fresh (yad _);refine⟨.ref s1.heap.objs.size,upd H1 s1.heap.objs.size (.tup xs),I1.laid (t':=s1.toks) (fun b u e=>yac _ e) (yad _) ?_,rfl,q _ hf⟩
 exact⟨z,us,r,⟨_,yal _ rfl,rfl,_,rfl⟩⟩
theorem pe_lst(h:PA X es t):PE X (.List es pos) (tLst t):=by
 intro pins s σ H Q I hq;refine wpAny_List_spliced (thn (h pos pins s σ H _ I hq) fun us s1 ⟨xs,H1,I1,r,z,q⟩=>⟨by rw[<- r.length];exact z,?_⟩)
 have hf:H1 s1.heap.objs.size=none:=I1.hok.fresh (yad _);refine⟨.ref s1.heap.objs.size,upd H1 s1.heap.objs.size (.lst xs),I1.laid (t':=s1.toks) (fun b u e=>yac _ e) (yad _) ?_,rfl,q _ hf⟩
 exact⟨z,us,0,r,yal _ rfl⟩
end
abbrev Sp:=List V->Hp->VK->XK->Prop
abbrev CXT:=List Env->Hp->Shared->XK->Value->Shared->Prop
structure Env0(P:Program)(w:World)(K:PySem.W.Frag)(mg:Str->Option Value)(base:Heap)(A:Around)(outer:List Env)(s:Shared)(H:Hp):Prop where
 frames:A.frames=some outer
 mod:Mod K mg base
 bs:∀b o,base.get? b=some o->s.heap.get? b=some o/\H b=none
 bsz:base.objs.size<=s.heap.objs.size
 funs:s.heap.FunFrames base outer
 frf:∀b∈frs outer,H b=none
 hok:HOk P w H s.heap
 bare:AllBare s.gens
def CE(outer:List Env)(P:Program)(w:World)(H:Hp)(s:Shared)(Q:VK)(u:Value)(s':Shared):Prop :=
 ∃v H',s'.os=s.os/\AllBare s'.gens/\Un (frs outer) [] H H' s.heap s'.heap/\HOk P w H' s'.heap/\RelV v u/\Q v H'
def CR(CX:CXT)(outer:List Env)(P:Program)(w:World)(H:Hp)(s:Shared)(Q:VK)(E:XK)(r:Result)(s':Shared):Prop :=
 match r with
 |.ok (.ret u)=>CE outer P w H s Q u s'
 |.ok _=>False
 |.error e=>CX outer H s E e s'
structure FnOk(P:Program)(w:World)(K:PySem.W.Frag)(mg:Str->Option Value)(base:Heap)(CX:CXT)(k:Nat)(f:Addr)(fd:FuncData)(ps:List Str)(sp:Sp):Prop where
 len:∀vs H Q E,sp vs H Q E->vs.length=ps.length
 run:∀(A:Around) (outer:List Env) (s:Shared) (H:Hp) (args:Args) (us:List Value) (vs:List V) (Q:VK) (E:XK),Room k A->Env0 P w K mg base A outer s H->BindsTo s fd args (ps.zip us)->zb9 vs us->sp vs H Q E ->
  codeAny (model P w) A (.call (.ref f) args) (CR CX outer P w H s Q E) s
theorem FnOk.mono{P:Program}{w:World}{K:PySem.W.Frag}{mg:Str->Option Value}{base:Heap}{CX:CXT}{j k:Nat}{f:Addr}{fd:FuncData}{ps:List Str}{sp:Sp}(F:FnOk P w K mg base CX j f fd ps sp)(h:j<=k) :
  FnOk P w K mg base CX k f fd ps sp:=⟨F.len,fun A outer s H args us vs Q E hr=>F.run A outer s H args us vs Q E (hr.mono h)⟩
theorem FnOk.imp{P:Program}{w:World}{K:PySem.W.Frag}{mg:Str->Option Value}{base:Heap}{CX:CXT}{k:Nat}{f:Addr}{fd:FuncData}{ps:List Str}{sp sp':Sp}(F:FnOk P w K mg base CX k f fd ps sp)
  (h:∀vs H Q E,sp' vs H Q E->sp vs H Q E):FnOk P w K mg base CX k f fd ps sp' :=
 ⟨fun vs H Q E q=>F.len vs H Q E (h _ _ _ _ q),fun A outer s H args us vs Q E hr he hb hv hs=>F.run A outer s H args us vs Q E hr he hb hv (h _ _ _ _ hs)⟩
theorem Env0.make{P:Program}{w:World}{K:PySem.W.Frag}{mg:Str->Option Value}{base:Heap}{A:Around}{outer:List Env}{s:Shared}{H:Hp}(e:Env0 P w K mg base A outer s H)(C:Addr)(us:List Value)(kw:List (Str×Value)) :
  Env0 P w K mg base (A.under (.builtin "type.__call__" ⟨.ref C::us,kw⟩)) outer s H:=⟨by first|exact e.frames|(simpa[Around.under,Code.envs,Code.isFrame,pushEnvs] using e.frames),e.mod,e.bs,e.bsz,e.funs,e.frf,e.hok,e.bare⟩
theorem Env0.in1{P:Program}{w:World}{K:PySem.W.Frag}{mg:Str->Option Value}{base:Heap}{A:Around}{outer:List Env}{s:Shared}{H:Hp}(e:Env0 P w K mg base A outer s H) :
  Env0 P w K mg base A.in1 outer s H:=⟨e.frames,e.mod,e.bs,e.bsz,e.funs,e.frf,e.hok,e.bare⟩
section
variable {X:Cx}{pins:List (Addr×Obj)}{σ:St}{H:Hp}{s s':Shared}
theorem Inv.env0(I:Inv X pins σ H s):Env0 X.prog X.w X.K X.mg X.base X.A X.stack s H :=
 ⟨I.ok.frames,I.ok.mod,I.bs,yaj I.ok.bsz I.sz,I.stack,I.stkFree,I.hok,I.bare⟩
theorem Inv.after{Q:VK}{u:Value}(I:Inv X pins σ H s)(h:CE X.stack X.prog X.w H s Q u s'):EP X pins σ Q u s':=by
 obtain⟨v,H',os,bare,un,hok,r,q⟩:=h;obtain⟨hh,g,d,t,os'⟩:=s';obtain rfl:os'=s.os:=os;exact⟨v,H',I.call (h':=hh) (g':=g) (d':=d) (t':=t) (ch:=[]) un hok bare (fun b z=>absurd z (by simp)),r,q⟩
end
def tCall(sp:Sp)(dvs:List V)(E:XK)(t:TA):TE:=fun σ H Q=>t σ H fun vs H1=>sp (vs++dvs) H1 Q E
def zgy(K:PySem.W.Frag)(fd:FuncData)(ps:List Str)(ds:List Value):Prop :=
 ∀(s:Shared) (us:List Value),K.In s.heap->(us++ds).length=ps.length->BindsTo s fd ⟨us,[]⟩ (ps.zip (us++ds))
theorem zgy.all{K:PySem.W.Frag}{fd:FuncData}{ps:List Str}(h:∀us:List Value,us.length=ps.length->bindArgs fd ⟨us,[]⟩=pure (ps.zip us)):zgy K fd ps []:=fun s us _ hl=>by
 rw[yba]at hl ⊢;exact .of_eq (h us hl)
def Passes(CX:CXT)(X:Cx)(E:XK):Prop:=∀(pins:List (Addr×Obj)) (σ:St) (H:Hp) (s:Shared) (e:Value) (s':Shared),Inv X pins σ H s->CX X.stack H s E e s'->X.xe e s'
section
variable {X:Cx}{CX:CXT}{k:Nat}{f C:Addr}{fd:FuncData}{ps:List Str}{sp:Sp}{dvs:List V}{ds:List Value}{E:XK}{x m:Str}{p pos apos:Pos}{e o:Expr}{es:List Expr}{ta:TE}{t:TA}
theorem run_fn{pins:List (Addr×Obj)}{σ:St}{H:Hp}{s:Shared}{Q:VK}{us:List Value}{vs:List V}(F:FnOk X.prog X.w X.K X.mg X.base CX k f fd ps sp)(hr:Room k X.A)(hb:zgy X.K fd ps ds)(hd:zb9 dvs ds)(hx:Passes CX X E)
  (I:Inv X pins σ H s) (r:zb9 vs us) (h:sp (vs++dvs) H Q E):wpAny (model X.prog X.w) X.A (call (.ref f) us) (EP X pins σ Q) X.xe s:=by
 have r2:zb9 (vs++dvs) (us++ds):=r.append hd;have hl:(us++ds).length=ps.length:=by rw[<- r2.length];exact F.len _ _ _ _ h
 refine wpAny_call (codeAny_mono (F.run X.A X.stack s H ⟨us,[]⟩ (us++ds) (vs++dvs) Q E hr I.env0 (hb s us I.kIn hl) r2 h) fun r s' hq=>?_)
 cases r with
 |error e=>exact hx pins σ H s e s' I hq
 |ok fl =>
  cases fl with
  |ret u=>exact I.after hq
  |next=>exact False.elim hq
  |brk=>exact False.elim hq
  |cont=>exact False.elim hq
theorem pe_call(F:FnOk X.prog X.w X.K X.mg X.base CX k f fd ps sp)(hr:Room k X.A)(hg:Gl X x)(hm:X.mg x=some (.ref f))(hk:PySem.W.keepIn X.K (.ref f)=true)(hb:zgy X.K fd ps ds)(hd:zb9 dvs ds)(hx:Passes CX X E)
  (ha:PA X (e::es) t) (hdb:(x == ("__debug__":Str))=false:=by decide) (he:starEach (e::es) X.env=(false,eval e X.env)::starEach es X.env:=by rfl) (hpl:(backTo pos (starEach es X.env)).any (·.1)=false:=by rfl) :
  PE X (.Call (.Name x p) (e::es) [] pos) (tCall sp dvs E t):=by
 intro pins s σ H Q I h;refine wpAny_Call_Name_kw (zli I hg hm ?_ hdb);refine yd3 (h₀:=X.base) I.ok.mod.kin hk (thn (ha pos pins s σ H _ I h) fun us s1 ⟨vs,H1,I1,r,q⟩=>⟨I1.kIn,?_⟩) he hpl
 exact run_fn F hr hb hd hx I1 r q
structure Mk(K:PySem.W.Frag)(C f:Addr):Prop where
 makes:PySem.W.makesIn K C=true
 init:PySem.W.findIn K (.ref C) "__init__"=some (some (.ref f))
 fn:PySem.W.isFn K (.ref f)=true
 kp:PySem.W.keepIn K (.ref C)=true
end
section
variable {X:Cx}{CX:CXT}{k:Nat}{f C:Addr}{fd:FuncData}{ps ks:List Str}{sp:Sp}{E:XK}{x m:Str}{p pos apos kpos:Pos}{e o:Expr}{es:List Expr}{kws:List Keyword}{te ta:TE}{t tk:TA}{nm:Option Str}
variable {g:List Value->List Value->List Value}{gV:List V->List V->List V}
end
structure FnScope(N P:List Str)(sc:Scope):Prop where
 kind:sc.kind=.function
 co:sc.isCoroutine=false
 gen:sc.isGenerator=false
 nd:N.Nodup
 pre:N.take P.length=P
 par:∀x∈P,sc.names.lookup x=some .local\/sc.names.lookup x=some .cell
 nofree:∀y∈sc.names,y.2≠.free
theorem bindL_out{kindOf:Str->Option NameKind}{x:Str}:∀{binds:List (Str×Value)} {m:Str->Option Value},(∀v,(x,v)∉binds)->bindL kindOf binds m x=m x
 |[],_,_=>rfl
 |(n,v)::r,m,h=>by
  unfold bindL;rw[bindL_out fun w hw=>h w (ya9 _ hw)]
  split
  ·have:x≠n:=by rintro rfl;exact h v yab
   simp[this]
  ·rfl
theorem bindC_out{kindOf:Str->Option NameKind}{x:Str}:∀{binds:List (Str×Value)} {m:Str->Option Value},(∀v,(x,v)∉binds)->bindC kindOf binds m x=m x
 |[],_,_=>rfl
 |(n,v)::r,m,h=>by
  unfold bindC;rw[bindC_out fun w hw=>h w (ya9 _ hw)]
  split
  ·rfl
  ·have:x≠n:=by rintro rfl;exact h v yab
   simp[this]
theorem bindL_get{kindOf:Str->Option NameKind}{x:Str}{v:Value}:∀{P:List Str} {vs:List Value} {i:Nat} {m:Str->Option Value},P.Nodup->P[i]?=some x->vs[i]?=some v->kindOf x=some .local ->
  bindL kindOf (P.zip vs) m x=some v
 |[],_,_,_,_,h,_,_=>by simp at h
 |_::_,[],_,_,_,_,h,_=>by simp at h
 |p::P,w::vs,0,m,nd,h1,h2,hk=>by
  simp at h1 h2;subst h1;subst h2;show bindL kindOf ((p,w)::P.zip vs) m p=_;unfold bindL;rw[bindL_out fun v hv=>(ycx.mp nd).1 (List.of_mem_zip hv).1,if_pos hk]
  simp
 |p::P,w::vs,i+1,m,nd,h1,h2,hk=>by
  show bindL kindOf ((p,w)::P.zip vs) m x=_;unfold bindL;exact bindL_get (i:=i) (ycx.mp nd).2 (by simpa using h1) (by simpa using h2) hk
theorem bindC_get{kindOf:Str->Option NameKind}{x:Str}{v:Value}:∀{P:List Str} {vs:List Value} {i:Nat} {m:Str->Option Value},P.Nodup->P[i]?=some x->vs[i]?=some v->kindOf x≠some .local ->
  bindC kindOf (P.zip vs) m x=some v
 |[],_,_,_,_,h,_,_=>by simp at h
 |_::_,[],_,_,_,_,h,_=>by simp at h
 |p::P,w::vs,0,m,nd,h1,h2,hk=>by
  simp at h1 h2;subst h1;subst h2;show bindC kindOf ((p,w)::P.zip vs) m p=_;unfold bindC;rw[bindC_out fun v hv=>(ycx.mp nd).1 (List.of_mem_zip hv).1,if_neg hk]
  simp
 |p::P,w::vs,i+1,m,nd,h1,h2,hk=>by
  show bindC kindOf ((p,w)::P.zip vs) m x=_;unfold bindC;exact bindC_get (i:=i) (ycx.mp nd).2 (by simpa using h1) (by simpa using h2) hk
def start(N:List Str)(vs:List V):St:=vs.map some++List.replicate (N.length - vs.length) none
def cxOf(CX:CXT)(P:Program)(w:World)(K:PySem.W.Frag)(mg:Str->Option Value)(base:Heap)(N:List Str)(qual:Str)(scope:Scope)(f:Addr)(cd:Value)(A:Around)(outer:List Env)(s:Shared)(H:Hp)(E:XK):Cx where
 prog:=P
 w:=w
 K:=K
 mg:=mg
 base:=base
 A:=A.deeper (envOfC qual scope s.heap.objs.size f cd)
 N:=N
 s₀:=s
 H₀:=H
 env:=envOfC qual scope s.heap.objs.size f cd
 outer:=outer
 stack:=envOfC qual scope s.heap.objs.size f cd::outer
 ex:=[]
 calm:=true
 fn:=fun _=>true
 pn:=[]
 xe:=fun e s'=>wpAny (model P w) (A.deeper (envOfC qual scope s.heap.objs.size f cd)) (leaving (envOfC qual scope s.heap.objs.size f cd) e) (fun _ s''=>CX outer H s E e s'') (fun e' s''=>CX outer H s E e' s'') s'
theorem cell_has{sc:Scope}{n:Nat}{x:Str}(h:sc.names.lookup x=some .cell):∃c,(cellsFrom n sc.names []).lookup x=some c:=by
 have q:=PySem.W.cellsFrom_some sc.names n [] (.inl h);exact yd4.mp q
theorem inv_start{CX:CXT}{P:Program}{w:World}{K:PySem.W.Frag}{mg:Str->Option Value}{base:Heap}{N ps:List Str}{qual:Str}{scope:Scope}{f:Addr}{cd:Value}{A:Around}{outer:List Env}{s s1:Shared}{H:Hp}{E:XK}{us:List Value}{vs:List V}
  (S:FnScope N ps scope) (hd:A.handled=none) (e0:Env0 P w K mg base A outer s H) (hl:vs.length=ps.length) (r:zb9 vs us)
  (x:InCallC s s.heap.objs.size (bindL (envOfC qual scope s.heap.objs.size f cd).kindOf (ps.zip us) fun _=>none) (cellsFrom (s.heap.objs.size+1) scope.names []) (bindC (envOfC qual scope s.heap.objs.size f cd).kindOf (ps.zip us) fun _=>none) s1) :
  Inv (cxOf CX P w K mg base N qual scope f cd A outer s H E) [] (start N vs) H s1:=by
 have hpl:ps.length<=N.length:=by have:=congrArg List.length S.pre;rw[yb2]at this;omega
 obtain⟨h1,tk,rfl,hk⟩:=x.done;have noA:∀b:Addr,b∉(cxOf CX P w K mg base N qual scope f cd A outer s H E).ex:=fun b z=>absurd (show b∈([]:List Addr) from z) (by simp)
 refine⟨⟨e0.mod,S.kind,rfl,rfl,yad _,fun y z c h1 h2=>?_,fun y hy=>?_,fun y c _ h=>?_,fun _=>hd,Around.frames_deeper e0.frames,.inr ⟨rfl,rfl⟩,fun b z=>absurd z (noA b),e0.bs,e0.bsz,fun b _ _=>noA b,fun b z=>absurd z (noA b),e0.funs,e0.frf⟩,
  rfl,e0.bare,Un.kept hk,⟨_,x.toInCall.ns,fun i y v h1 h2 h3=>?_⟩,fun y c h=>⟨_,x.cell y c h⟩,e0.hok.fresh (yad _),fun y c h=>?_,fun p hp=>absurd (show p∈([]:List (Addr×Obj)) from hp) (by simp),e0.hok.kept hk,?_⟩
 ·exact name_of_addr x.apart (ybs h1) (ybs h2)
 ·have hy:scope.names.lookup y=some .cell\/scope.names.lookup y=some .free:=hy
  rcases hy with hy|hy
  ·exact cell_has hy
  ·exact absurd rfl (S.nofree _ (ybs hy))
 ·exact yd1 (x.above y c (ybs h))
 ·have hi:i<vs.length:=by
   unfold start at h2
   by_cases hi:i<vs.length
   ·exact hi
   ·rw[yaw (by simpa using hi)]at h2
    rw[yd9]at h2;split at h2<;>cases h2
  have ha:vs[i]?=some v:=by
   unfold start at h2;rw[yay (by simpa using hi),yaa]at h2
   cases e:vs[i]? with
   |none=>rw[e]at h2;cases h2
   |some a=>rw[e]at h2;cases h2;rfl
  obtain⟨u,hu,rv⟩:=r.get ha
  have hp:ps[i]?=some y:=by
   rw[<- S.pre,List.getElem?_take_of_lt (by omega)];exact h1
  have ndP:ps.Nodup:=by rw[<- S.pre];exact S.nd.sublist (List.take_sublist _ _)
  refine⟨u,rv,?_⟩
  rcases S.par y (yb6 hp) with k|k
  ·exact .inl ⟨k,bindL_get ndP hp hu k⟩
  ·obtain⟨c,e⟩:=cell_has (n:=s.heap.objs.size+1) k;refine .inr ⟨.inl k,c,e,?_⟩;have q:=x.cell y c e;rw[bindC_get ndP hp hu (by show scope.names.lookup y≠_;rw[k];decide)]at q
   exact q
 ·exact e0.hok.fresh (yd1 (x.above y c (ybs h)))
 ·unfold start;show _=N.length;rw[ya5,ya0,ydm]
  omega
theorem fn_of{CX:CXT}{P:Program}{w:World}{K:PySem.W.Frag}{mg:Str->Option Value}{base:Heap}{k:Nat}{f:Addr}{name qual:Str}{params:Arguments}{body:List Stmt}{scope:Scope}{dV kV doc pm cdv ct oc:Value}{an od:Option Addr}
  {osl:Array (Option Value)} {N ps:List Str} {sp:Sp} (lk:K.lookup f=some ⟨oc,od,.func (PySem.W.fnOf name qual params body scope dV kV doc pm an cdv ct),osl⟩) (hcd:PySem.W.codeIn K cdv qual=true) (S:FnScope N ps scope)
  (len:∀vs H Q E,sp vs H Q E->vs.length=ps.length)
  (hbody : ∀ (A : Around) (outer : List Env) (s : Shared) (H : Hp) (vs : List V) (Q : VK) (E : XK), Room k (A.deeper (envOfC qual scope s.heap.objs.size f cdv)) -> sp vs H Q E ->
   ∃t,PSs (cxOf CX P w K mg base N qual scope f cdv A outer s H E) body t/\t { nx:=fun _ H'=>Q .non H',rt:=Q } (start N vs) H) :
  FnOk P w K mg base CX (k+1) f (PySem.W.fnOf name qual params body scope dV kV doc pm an cdv ct) ps sp:=by
 refine⟨len,fun A outer s H args us vs Q E hr e0 hb r hsp=>?_⟩
 have hl:=len _ _ _ _ hsp;have KX:K.In s.heap:=e0.mod.kin.keeps fun b o e=>(e0.bs b o e).1
 have lim:s.heap.NoLimit:=e0.mod.nolimit.keeps fun b o e=>(e0.bs b o e).1
 have hkind:∀y∈ps.zip us,scope.names.lookup y.1=some .local\/(scope.names.lookup y.1=some .cell/\((cellsFrom (s.heap.objs.size+1) scope.names []).lookup y.1).isSome=true):=fun⟨n,v⟩ hy=>by
  rcases S.par n (List.of_mem_zip hy).1 with q|q
  ·exact .inl q
  ·exact .inr ⟨q,PySem.W.cellsFrom_some _ _ _ (.inl q)⟩
 refine codeAny_call_function hr.depth (KX _ _ lk) rfl S.co S.gen rfl (PySem.W.codeRec_of KX hcd) (hb _ _ _ _ ?_);refine wpAny_newFunctionEnv_cells S.kind hkind fun env he s1 x=>?_
 subst he;refine⟨lim.keeps x.toInCall.keep,codeAny_func ?_⟩;obtain⟨t,ht,hq⟩:=hbody A outer s H vs Q E (hr.deeper _) hsp;have I:Inv (cxOf CX P w K mg base N qual scope f cdv A outer s H E) [] (start N vs) H s1:=inv_start S hr.hd e0 hl r x;refine wpAny_mono (ht [] s1 (start N vs) H _ I hq) (fun fl s' hs=>?_) fun e s' hs=>hs
 have fin:∀{σ':St} {H':Hp} {v:V} {u:Value},Inv (cxOf CX P w K mg base N qual scope f cdv A outer s H E) [] σ' H' s'->RelV v u->Q v H'->CE outer P w H s Q u s' :=
  fun {σ' H' v u} J rv q=>⟨v,H',J.os,J.bare,J.base,J.hok,rv,q⟩
 cases fl with
 |ret u =>
  obtain⟨v,σ',H',J,rv,q⟩:=hs;exact fin J rv q
 |next =>
  obtain⟨σ',H',J,q⟩:=hs;exact fin (v:=V.non) (u:=Value.none) J rfl q
 |brk =>
  obtain⟨_,_,_,q⟩:=hs;exact False.elim q
 |cont =>
  obtain⟨_,_,_,q⟩:=hs;exact False.elim q
section
variable {X:Cx}{x:Str}{p pos:Pos}{e:Expr}{es:List Expr}{t:TA}{id T:String}{r:List V->Hp->VK->Prop}
def tCB(r:List V->Hp->VK->Prop)(t:TA):TE:=fun σ H Q=>t σ H fun vs H1=>r vs H1 Q
theorem zkj(hc:zbx X (.builtin id) r)(hg:Gl X x)(hm:X.mg x=none)(hv:bootBuiltins x=some (.builtin id))(ha:PA X (e::es) t)(hn:x≠"__name__":=by decide)(hdb:(x == ("__debug__":Str))=false:=by decide)
  (he:starEach (e::es) X.env=(false,eval e X.env)::starEach es X.env:=by rfl) (hpl:(backTo pos (starEach es X.env)).any (·.1)=false:=by rfl):PE X (.Call (.Name x p) (e::es) [] pos) (tCB r t):=by
 intro pins s σ H Q I h;refine wpAny_Call_Name_kw (zif I hg hm hv ?_ hn hdb);exact PyProof.Rows.callWith_builtin1 (thn (ha pos pins s σ H _ I h) fun us s1 ⟨vs,H1,I1,r1,q1⟩=>hc pins s1 σ H1 vs us Q I1 r1 q1) he hpl
theorem pe_callTy(hc:zbx X (.type T) r)(hg:Gl X x)(hm:X.mg x=none)(hv:bootBuiltins x=some (.type T))(ha:PA X (e::es) t)(hn:x≠"__name__":=by decide)(hdb:(x == ("__debug__":Str))=false:=by decide)
  (he:starEach (e::es) X.env=(false,eval e X.env)::starEach es X.env:=by rfl) (hpl:(backTo pos (starEach es X.env)).any (·.1)=false:=by rfl):PE X (.Call (.Name x p) (e::es) [] pos) (tCB r t):=by
 intro pins s σ H Q I h;refine wpAny_Call_Name_kw (zif I hg hm hv ?_ hn hdb);exact ybb (thn (ha pos pins s σ H _ I h) fun us s1 ⟨vs,H1,I1,r1,q1⟩=>hc pins s1 σ H1 vs us Q I1 r1 q1) he hpl
end
end L2
namespace HT
open PySem PyProof.Rows
section
open PySem.SeqAt
open PySem.AutoSeq1 (wpAny_loadPart')
open PySem.MeetsSeq PySem.MeetsSeq2 PySem.MeetsSeq3
end
section
variable {prog:Program}{w:World}{A:Around}{E:Value->Shared->Prop}{s:Shared}
def sIx(n d:Nat):Option Int->Nat
 |none=>d
 |some v=>if v<0 then (v+(n:Int)).toNat else min v.toNat n
theorem sIx_none(n d:Nat):sIx n d none=d:=rfl
theorem sIx_nat(n d k:Nat):sIx n d (some (k:Int))=min k n:=by
 show(if (k:Int)<0 then ((k:Int)+(n:Int)).toNat else min (k:Int).toNat n)=min k n
 rw[if_neg (by omega),ybl]
end
end HT
namespace L2
open PySem PySem.Spec PyProof.Rows
abbrev TO:=St->Hp->(Option Int->Hp->Prop)->Prop
def PO(X:Cx)(e:Option Expr)(t:TO):Prop :=
 ∀(pins:List (Addr×Obj)) (s:Shared) (σ:St) (H:Hp) (Q:Option Int->Hp->Prop),Inv X pins σ H s->t σ H Q ->
  wpAny (model X.prog X.w) X.A (evalPart e X.env) (fun u s'=>∃o H',Inv X pins σ H' s'/\IsPart u o/\Q o H') X.xe s
def tNoPart:TO:=fun _ H Q=>Q none H
def tPart(t:TE):TO:=fun σ H Q=>t σ H fun x H1=>∃i,x=.int i/\Q (some i) H1
section
variable {X:Cx}{e:Expr}{te:TE}{lo hi:Option Expr}{tl th:TO}{pos p2:Pos}
theorem po_none:PO X none tNoPart:=by
 intro pins s σ H Q I h;rw[evalPart_none];exact wpAny_pure ⟨none,H,I,.none,h⟩
theorem po_some(h:PE X e te):PO X (some e) (tPart te):=by
 intro pins s σ H Q I hw;rw[evalPart_some];refine thn (h pins s σ H _ I hw) fun u s1 ⟨x,H1,I1,r1,q1⟩=>?_
 obtain⟨i,rfl,q⟩:=q1;obtain⟨t,rfl⟩:=r1;exact⟨some i,H1,I1,.int i t,q⟩
def SlR(X:Cx)(r:V->Option Int->Option Int->Hp->VK->Prop):Prop :=
 ∀(pins:List (Addr×Obj)) (s:Shared) (σ:St) (H:Hp) (x:V) (v vl vu:Value) (lo hi:Option Int) (sl:Addr) (Q:VK),Inv X pins σ H s->RelV x v->s.heap.IsSliceOf sl vl vu .none->IsPart vl lo->IsPart vu hi->r x lo hi H Q ->
  ∃T id,typeLookup (.type T) "__getitem__"=pure (some (.builtin id))/\s.TypeIs v T/\wpAny (model X.prog X.w) X.A (getItem v (.ref sl)) (EP X pins σ Q) X.xe s
theorem SlR.or{r r':V->Option Int->Option Int->Hp->VK->Prop}(h:SlR X r)(h':SlR X r'):SlR X (fun x lo hi H Q=>r x lo hi H Q\/r' x lo hi H Q):=by
 intro pins s σ H x v vl vu lo hi sl Q I rx hs pl pu q
 rcases q with q|q
 ·exact h pins s σ H x v vl vu lo hi sl Q I rx hs pl pu q
 ·exact h' pins s σ H x v vl vu lo hi sl Q I rx hs pl pu q
def tSl(r:V->Option Int->Option Int->Hp->VK->Prop)(te:TE)(tl th:TO):TE:=fun σ H Q=>te σ H fun x H1=>tl σ H1 fun l H2=>th σ H2 fun u H3=>r x l u H3 Q
theorem pe_slice{r:V->Option Int->Option Int->Hp->VK->Prop}(hr:SlR X r)(he:PE X e te)(hl:PO X lo tl)(hu:PO X hi th):PE X (.Subscript e (.Slice lo hi none p2) pos) (tSl r te tl th):=by
 intro pins s σ H Q I h;refine Subscript_ (thn (he pins s σ H _ I h) fun v s1 ⟨x,H1,I1,r1,q1⟩=>?_)
 refine wpAny_Slice (thn (hl pins s1 σ H1 _ I1 q1) fun vl s2 ⟨l,H2,I2,pl,q2⟩=>thn (hu pins s2 σ H2 _ I2 q2) fun vu s3 ⟨u,H3,I3,pu,q3⟩=>?_)
 rw[evalPart_none];refine wpAny_pure ?_;have I4:Inv X pins σ H3 { s3 with heap:=s3.heap.push { cls:=.type "slice",data:=.fields #[vl,vu,.none] } }:=I3.kept (t':=s3.toks) fun b ob q=>yac _ q
 obtain⟨T,id,hT,ht,hg⟩:=hr pins { s3 with heap:=s3.heap.push { cls:=.type "slice",data:=.fields #[vl,vu,.none] } } σ H3 x v vl vu l u s3.heap.objs.size Q I4 r1 (Heap.IsSliceOf.new ..) pl pu q3
 show wpAny (model X.prog X.w) X.A (subscriptTail e (.Slice lo hi none p2) v (.ref s3.heap.objs.size)) (EP X pins σ Q) X.xe { s3 with heap:=s3.heap.push { cls:=.type "slice",data:=.fields #[vl,vu,.none] } }
 exact tail_any (ops:=[.ref s3.heap.objs.size,v]) ht hT hg (by with_unfolding_all rfl)
def cutV(xs:List V)(lo hi:Option Int):List V:=(xs.drop (HT.sIx xs.length 0 lo)).take (HT.sIx xs.length xs.length hi - HT.sIx xs.length 0 lo)
theorem cutV_length(xs:List V)(lo hi:Option Int):(cutV xs lo hi).length<=xs.length:=by
 unfold cutV;rw[yb2,ydl]
 omega
end
def ixN(n:Nat)(i:Int):Option Nat:=if 0<=i then (if i<n then some i.toNat else none) else if -(n:Int)<=i then some (i+n).toNat else none
def atI{α:Type}(xs:List α)(i:Int):Option α:=(ixN xs.length i).bind fun j=>xs[j]?
theorem ixN_seq{n:Nat}{i:Int}{j:Nat}(h:ixN n i=some j):seqIndex? i n=some j/\j<n/\-(n:Int)<=i/\i<n:=by
 unfold ixN at h
 by_cases h0:0<=i
 ·rw[if_pos h0]at h
  by_cases h1:i<n
  ·rw[if_pos h1]at h;have e:i.toNat=j:=yb1 h;exact⟨by rw[seqIndex_of h0 h1,e],by omega,by omega,h1⟩
  ·rw[if_neg h1]at h;cases h
 ·rw[if_neg h0]at h
  by_cases h1:-(n:Int)<=i
  ·rw[if_pos h1]at h;have e:(i+n).toNat=j:=yb1 h;exact⟨by rw[seqIndex_neg (by omega) h1,e],by omega,h1,by omega⟩
  ·rw[if_neg h1]at h;cases h
theorem atI_get{α:Type}{xs:List α}{i:Int}{v:α}(h:atI xs i=some v):∃j,seqIndex? i xs.length=some j/\xs[j]?=some v/\j<xs.length/\-(xs.length:Int)<=i/\i<xs.length:=by
 unfold atI at h;cases e:ixN xs.length i with
 |none=>rw[e]at h;cases h
 |some j =>
  rw[e]at h;obtain⟨h1,h2,h3,h4⟩:=ixN_seq e;exact⟨j,h1,h,h2,h3,h4⟩
theorem atI_nat{α:Type}{xs:List α}{j:Nat}{v:α}(h:xs[j]?=some v):atI xs (j:Int)=some v:=by
 have hj:j<xs.length:=(ya4.mp h).1
 have e:ixN xs.length (j:Int)=some j:=by
  unfold ixN;rw[if_pos (by omega),if_pos (by omega)];simp
 unfold atI;rw[e];exact h
def PlainIx(b:Expr):Prop:=∀o i,subscripted b false o i=operate [o,i] (getItem o i)
def IxR(X:Cx)(r:R2):Prop :=
 ∀(value slice:Expr) (pins:List (Addr×Obj)) (s:Shared) (σ:St) (H:Hp) (x y:V) (v u:Value) (Q:VK),Inv X pins σ H s->RelV x v->RelV y u->r x y H Q ->
  subscripted slice false v u=operate [v,u] (getItem v u)->wpAny (model X.prog X.w) X.A (subscriptTail value slice v u) (EP X pins σ Q) X.xe s
def MtR(X:Cx)(id:String)(r:V->List V->Hp->VK->Prop):Prop :=
 ∀(pins:List (Addr×Obj)) (s:Shared) (σ:St) (H:Hp) (x:V) (xs:List V) (v:Value) (us:List Value) (Q:VK),Inv X pins σ H s->RelV x v->zb9 xs us->r x xs H Q ->
  wpAny (model X.prog X.w) X.A (call (.builtin id) (v::us)) (EP X pins σ Q) X.xe s
section
variable {X:Cx}{a b:Expr}{ta tb:TE}{pos:Pos}
theorem IxR.or{r r':R2}(h:IxR X r)(h':IxR X r'):IxR X (fun x y H Q=>r x y H Q\/r' x y H Q):=by
 intro value slice pins s σ H x y v u Q I rx ry q hs
 rcases q with q|q
 ·exact h value slice pins s σ H x y v u Q I rx ry q hs
 ·exact h' value slice pins s σ H x y v u Q I rx ry q hs
theorem MtR.or{id:String}{r r':V->List V->Hp->VK->Prop}(h:MtR X id r)(h':MtR X id r'):MtR X id (fun x xs H Q=>r x xs H Q\/r' x xs H Q):=by
 intro pins s σ H x xs v us Q I rx rs q
 rcases q with q|q
 ·exact h pins s σ H x xs v us Q I rx rs q
 ·exact h' pins s σ H x xs v us Q I rx rs q
theorem pe_ix{r:R2}(hr:IxR X r)(ha:PE X a ta)(hb:PE X b tb)(hs:PlainIx b):PE X (.Subscript a b pos) (tOp r ta tb):=by
 intro pins s σ H Q I h;exact Subscript_ (binT ha hb I h fun v u s2 x y H2 I2 rx ry q=>hr a b pins s2 σ H2 x y v u Q I2 rx ry q (hs _ _))
def rIxL(K:PySem.W.Frag):R2:=fun x y H Q=>∃p xs i v,x=.ref p/\y=.int i/\SqL K H p xs/\atI xs i=some v/\Q v H
def rIxT(K:PySem.W.Frag):R2:=fun x y H Q=>∃p xs i v,x=.ref p/\y=.int i/\SqT K H p xs/\atI xs i=some v/\Q v H
def rIxS:R2:=fun x y H Q=>∃z i c,x=.str z/\y=.int i/\z.length<=sizeLine/\atI z.cps.toList i=some c/\Q (.str ⟨#[c]⟩) H
theorem ix_list:IxR X (rIxL X.K):=by
 intro value slice pins s σ H x y v u Q I rx ry h hs;obtain⟨p,xs,i,z,rfl,rfl,hq,he,q⟩:=h;cases rx;obtain⟨t,rfl⟩:=ry;obtain⟨its,r,pl,hz⟩:=I.list hq;obtain⟨j,h1,h2,h3,h4,h5⟩:=atI_get he;obtain⟨w,ew,rw'⟩:=r.get h2;have hl:=r.length;have hn:=line63;have fin:EP X pins σ Q w s:=⟨z,H,I,rw',q⟩
 by_cases h0:0<=i
 ·have hj:i.toNat=j:=by
   rw[seqIndex_of h0 h5]at h1;exact yb1 h1
  exact item_listR pl.isList h0 (by omega) (by rw[hj];simpa using ew) fin hs
 ·have hj:(i+(its.toArray.size:Int)).toNat=j:=by
   rw[seqIndex_neg (by omega) h4]at h1
   rw[yag,<- hl];exact yb1 h1
  exact subscriptTail_builtinR (x:=w) pl.isList.typeIs slot_list_getitem.lookup
   (wpAny_getItem_list_neg (Q:=fun r s'=>r=w/\EP X pins σ Q r s') pl.isList (by omega) (by rw[yag]<;>omega) (by omega) (by rw[hj];simpa using ew) ⟨rfl,fin⟩) hs
theorem ix_tup:IxR X (rIxT X.K):=by
 intro value slice pins s σ H x y v u Q I rx ry h hs;obtain⟨p,xs,i,z,rfl,rfl,hq,he,q⟩:=h;cases rx;obtain⟨t,rfl⟩:=ry;obtain⟨its,r,pl,hz⟩:=I.tuple hq;obtain⟨j,h1,h2,h3,h4,h5⟩:=atI_get he;obtain⟨w,ew,rw'⟩:=r.get h2;have hl:=r.length;have hn:=line63;have fin:EP X pins σ Q w s:=⟨z,H,I,rw',q⟩
 exact subscriptTail_builtinR (x:=w) pl.typeIs slot_tuple_getitem.lookup
  (getItem_tuple (j:=j) (Q:=fun r s'=>r=w/\EP X pins σ Q r s') pl (by omega) (by omega) (by rw[yag,<- hl];exact h1) (by simpa using ew) ⟨rfl,fin⟩) hs
theorem ix_str:IxR X rIxS:=by
 intro value slice pins s σ H x y v u Q I rx ry h hs;obtain⟨z,i,c,rfl,rfl,hz,he,q⟩:=h;obtain⟨t,rfl⟩:=rx;obtain⟨t',rfl⟩:=ry;obtain⟨j,h1,h2,h3,h4,h5⟩:=atI_get he;have hl:z.cps.toList.length=z.length:=by simp[Str.length]
 rw[hl]at h1 h4 h5;have hn:=line63
 exact tail_any (typeIs_str s z t) slot_str_getitem.lookup (getItem_str (c:=c) (by
  have e1:decide (i < -(2 ^ 63:Int))=false:=decide_eq_false (by omega)
  have e2:decide (i ≥ 2 ^ 63)=false:=decide_eq_false (by omega)
  rw[e1,e2,ye5]) (by rw[h1];simpa using h2) ⟨.str ⟨#[c]⟩,H,I.tok _,⟨_,rfl⟩,q⟩) hs
def rIx(K:PySem.W.Frag):R2:=fun x y H Q=>rIxL K x y H Q\/rIxT K x y H Q\/rIxS x y H Q
theorem ix_seq:IxR X (rIx X.K):=ix_list.or (ix_tup.or ix_str)
theorem mapSeq_set(its:List Value)(n j:Nat)(u:Value):Obj.mapSeq (·.setIfInBounds j u) { cls:=.type "list",data:=.seq its.toArray n }={ cls:=.type "list",data:=.seq (its.set j u).toArray n }:=by
 simp[Obj.mapSeq]
theorem Inv.lst{pins:List (Addr×Obj)}{σ:St}{H:Hp}{s:Shared}{p:Addr}{xs:List V}(I:Inv X pins σ H s)(h:H p=some (.lst xs)) :
  ∃(its:List Value) (n:Nat),zb9 xs its/\s.heap.get? p=some { cls:=.type "list",data:=.seq its.toArray n }/\xs.length<=sizeLine:=by
 obtain⟨z,its,n,r,e⟩:=I.hok p _ h;exact⟨its,n,r,e,z⟩
theorem Inv.lstUpd{pins:List (Addr×Obj)}{σ:St}{H:Hp}{s:Shared}{p:Addr}{xs ys:List V}{its its':List Value}{n n':Nat}{f:Obj->Obj}(I:Inv X pins σ H s)(h:H p=some (.lst xs))
  (ho:s.heap.get? p=some { cls:=.type "list",data:=.seq its.toArray n }) (hf:f { cls:=.type "list",data:=.seq its.toArray n }={ cls:=.type "list",data:=.seq its'.toArray n' }) (r:zb9 ys its') (hz:ys.length<=sizeLine) (t:Nat) :
  Inv X pins σ (upd H p (.lst ys)) { s with heap:=s.heap.update p f,toks:=t }:=by
 have e:(s.heap.update p f).get? p=some { cls:=.type "list",data:=.seq its'.toArray n' }:=by
  rw[Heap.get?_update_self f ho (by rw[hf]<;>rfl),hf]
 refine I.write (x:=p) (e:=p) (by rw[h];trivial) (.inl rfl) (fun b u hb q=>(yc4 _ _ (yb8 hb)).trans q) ⟨_,e⟩ ?_
 exact⟨hz,its',n',r,e⟩
def rSetL:V->V->V->Hp->(Hp->Prop)->Prop:=fun o i v H Q=>∃p xs k j,o=.ref p/\i=.int k/\H p=some (.lst xs)/\ixN xs.length k=some j/\Q (upd H p (.lst (xs.set j v)))
theorem set_list:PSet X rSetL:=by
 intro pins s σ H o i v ov iv u Q I ro ri rv h;obtain⟨p,xs,k,j,rfl,rfl,hp,hj,q⟩:=h;cases ro;obtain⟨t,rfl⟩:=ri;obtain⟨its,n,r,ho,hz⟩:=I.lst hp;obtain⟨h1,h2,h3,h4⟩:=ixN_seq hj;have hl:=r.length;have hn:=line63
 have I':Inv X pins σ (upd H p (.lst (xs.set j v))) { s with heap:=s.heap.update p (Obj.mapSeq (·.setIfInBounds j u)) } :=
  I.lstUpd hp ho (mapSeq_set its n j u) (r.set rv j) (by rw[ydp];exact hz) s.toks
 by_cases h0:0<=k
 ·have hk:k.toNat=j:=by
   rw[seqIndex_of h0 h4]at h1;exact yb1 h1
  exact PySem.W.ki_setAt ho h0 (by omega) (by rw[yag,<- hl];exact h4) (by rw[hk];exact⟨_,I',q⟩)
 ·have hk:(k+(its.toArray.size:Int)).toNat=j:=by
   rw[seqIndex_neg (by omega) h3]at h1
   rw[yag,<- hl];exact yb1 h1
  exact PySem.W.ki_setBack ho (by omega) (by rw[yag,<- hl];exact h3) (by omega) (by rw[hk];exact⟨_,I',q⟩)
theorem slice_bounds(lo hi:Option Int)(n:Nat):(sliceBounds lo hi none n).1=((HT.sIx n 0 lo:Nat):Int)/\(sliceBounds lo hi none n).2.1=((HT.sIx n n hi:Nat):Int)/\(sliceBounds lo hi none n).2.2=1:=by
 refine⟨?_,?_,rfl⟩
 ·cases lo with
  |none=>simp[sliceBounds,HT.sIx]
  |some i =>
   simp only[sliceBounds,HT.sIx,Option.getD_none,show(1:Int) > 0 by decide,if_true]
   by_cases h:i<0
   ·simp only[h,if_true]<;>omega
   ·simp only[h,if_false]<;>omega
 ·cases hi with
  |none=>simp[sliceBounds,HT.sIx]
  |some i =>
   simp only[sliceBounds,HT.sIx,Option.getD_none,show(1:Int) > 0 by decide,if_true]
   by_cases h:i<0
   ·simp only[h,if_true]<;>omega
   ·simp only[h,if_false]<;>omega
theorem slicePick_cut(its:List Value)(lo hi:Option Int):slicePick its.toArray lo hi none=((its.drop (HT.sIx its.length 0 lo)).take (HT.sIx its.length its.length hi - HT.sIx its.length 0 lo)).toArray:=by
 obtain⟨h1,h2,h3⟩:=slice_bounds lo hi its.toArray.size;unfold slicePick;rw[h1,h2,h3];simp only[sliceRange_one,pick_run,yag]<;>rfl
def rSlL(K:PySem.W.Frag):V->Option Int->Option Int->Hp->VK->Prop:=fun x lo hi H Q=>∃a xs,x=.ref a/\SqL K H a xs/\∀p,H p=none->Q (.ref p) (upd H p (.lst (cutV xs lo hi)))
theorem sl_list:SlR X (rSlL X.K):=by
 intro pins s σ H x v vl vu lo hi sl Q I rx hs pl pu h;obtain⟨a,xs,rfl,hx,q⟩:=h;cases rx;obtain⟨its,r,ht,hz⟩:=I.list hx;have hlen:=r.length;refine⟨"list",_,slot_list_getitem.lookup,ht.isList.typeIs,?_⟩;refine wpAny_getItem_list_slice ht.isList hs pl pu .none (by simp) ?_ (by rw[yag]<;>omega)
 rw[slicePick_cut,<- hlen];refine⟨.ref s.heap.objs.size,_,I.laid (t':=s.toks) (o:=.lst (cutV xs lo hi)) (fun b ob q=>yac _ q) (yad _) ?_,rfl,q _ (I.hok.fresh (yad _))⟩
 exact⟨yaj (cutV_length xs lo hi) hz,_,0,(r.drop (HT.sIx xs.length 0 lo)).take (HT.sIx xs.length xs.length hi - HT.sIx xs.length 0 lo),yal _ rfl⟩
theorem zbx.or{f:Value}{r r':List V->Hp->VK->Prop}(h:zbx X f r)(h':zbx X f r'):zbx X f (fun xs H Q=>r xs H Q\/r' xs H Q):=by
 intro pins s σ H xs us Q I rs q
 rcases q with q|q
 ·exact h pins s σ H xs us Q I rs q
 ·exact h' pins s σ H xs us Q I rs q
theorem call_list_of:zbx X (.type "list") (fun xs H Q=>∃p ys,xs=[.ref p]/\(SqL X.K H p ys\/SqT X.K H p ys)/\∀l,H l=none->Q (.ref l) (upd H l (.lst ys))):=by
 intro pins s σ H xs us Q I r h;obtain⟨p,ys,rfl,hq,q⟩:=h;obtain⟨u,rfl,rx⟩:=ziz r;cases rx
 have fin:∀(its:List Value),zb9 ys its->ys.length<=sizeLine->∀(h':Heap) (c':Nat),(∀b o',s.heap.get? b=some o'->h'.get? b=some o') ->
   h'.get? s.heap.objs.size=some { cls:=.type "list",dict:=none,data:=.seq its.toArray c',slots:=#[] }->EP X pins σ Q (.ref s.heap.objs.size) { s with heap:=h' }:=fun its r' hz h' c' kp e =>
  ⟨.ref s.heap.objs.size,_,I.laid (t':=s.toks) kp (yad _) (show zbp X.prog X.w _ h' _ (.lst ys) from⟨hz,its,c',r',e⟩),rfl,q _ (I.hok.fresh (yad _))⟩
 rcases hq with hq|hq
 ·obtain⟨its,r',pl,hz⟩:=I.list hq;have hlen:=r'.length;obtain⟨o,ho,hc,n,hd⟩:=pl.isList;exact call_list_seq p (.inl rfl) ho hc hd (fun h' c' kp e=>fin its r' hz h' c' kp e) (by simp only[yag]<;>omega)
 ·obtain⟨its,r',pl,hz⟩:=I.tuple hq;have hlen:=r'.length;obtain⟨o,ho,hc,n,hd⟩:=pl;exact call_list_seq p (.inr rfl) ho hc hd (fun h' c' kp e=>fin its r' hz h' c' kp e) (by simp only[yag]<;>omega)
theorem call_tuple_of:zbx X (.type "tuple") (fun xs H Q=>∃p ys,xs=[.ref p]/\((SqL X.K H p ys/\∀l,H l=none->Q (.ref l) (upd H l (.tup ys)))\/(SqT X.K H p ys/\Q (.ref p) H))):=by
 intro pins s σ H xs us Q I r h;obtain⟨p,ys,rfl,h⟩:=h;obtain⟨u,rfl,rx⟩:=ziz r;cases rx
 rcases h with ⟨hq,q⟩|⟨hq,q⟩
 ·obtain⟨its,r',pl,hz⟩:=I.list hq;have hlen:=r'.length;refine call_tuple_list pl.isList (fun h' kp=>?_) (by simp only[yag]<;>omega)
  have I1:Inv X pins σ H { s with heap:=h' }:=I.kept (t':=s.toks) kp
  have I2:Inv X pins σ (upd H h'.objs.size (.tup ys)) { s with heap:=h'.push { cls:=.type "tuple",data:=.seq its.toArray } } :=
   I1.laid (t':=s.toks) (fun b o e=>yac _ e) (yad _) (show zbp X.prog X.w _ _ _ (.tup ys) from⟨hz,its,r',IsTup.new _ _⟩)
  exact⟨.ref h'.objs.size,_,I2,rfl,q _ (I1.hok.fresh (yad _))⟩
 ·obtain⟨its,r',pl,hz⟩:=I.tuple hq;exact call_tuple_same pl ⟨.ref p,H,I,rfl,q⟩
def tyV(K:PySem.W.Frag)(T:String)(x:V)(H:Hp):Prop:=match x with
 |.str _=>T="str"
 |.int _=>T="int"
 |.ref p=>(T="list"/\∃xs,SqL K H p xs)\/(T="tuple"/\∃o,K.lookup p=some o/\o.cls=.type "tuple"/\o.dict=none) \/
   (T="dict"/\((∃kvs,H p=some (.dK kvs))\/∃kvs,H p=some (.dT kvs)))\/(T="set"/\∃S n,H p=some (.set S n))
 |_=>False
theorem tyV_is{pins:List (Addr×Obj)}{σ:St}{H:Hp}{s:Shared}{T:String}{x:V}{v:Value}(I:Inv X pins σ H s)(r:RelV x v)(ty:tyV X.K T x H) :
  s.TypeIs v T/\∀a,v=.ref a->∃ob,s.heap.get? a=some ob/\ob.dict=none:=by
 cases x with
 |str z =>
  obtain⟨t,rfl⟩:=r;cases (show T="str" from ty);exact⟨typeIs_str s z t,fun _ e=>nomatch e⟩
 |int i =>
  obtain⟨t,rfl⟩:=r;cases (show T="int" from ty);exact⟨typeIs_int s i t,fun _ e=>nomatch e⟩
 |ref p =>
  cases r
  rcases ty with ⟨rfl,xs,hq⟩|⟨rfl,o,hk,hc,hd⟩|⟨rfl,hk⟩|⟨rfl,S,n,hk⟩
  ·obtain⟨its,_,pl,_⟩:=I.list hq;refine⟨pl.isList.typeIs,fun a e=>?_⟩
   cases e;obtain⟨o,n,e,c,hd,_⟩:=pl;exact⟨o,e,hd⟩
  ·refine⟨⟨o,I.kIn p o hk,hc⟩,fun a e=>?_⟩
   cases e;exact⟨o,I.kIn _ o hk,hd⟩
  ·have z:∃o,s.heap.get? p=some o/\o.ExactDict:=by
    rcases hk with ⟨kvs,hk⟩|⟨kvs,hk⟩
    ·obtain⟨_,_,_,_,o,_,_,e,ex,_⟩:=I.hok p _ hk;exact⟨o,e,ex⟩
    ·obtain⟨_,_,_,_,o,_,_,e,ex,_⟩:=I.hok p _ hk;exact⟨o,e,ex⟩
   obtain⟨o,e,ex⟩:=z;refine⟨⟨o,e,ex.1⟩,fun a e2=>?_⟩
   cases e2;exact⟨o,e,ex.2.1⟩
  ·obtain⟨o,_,_,_,e,ex,_⟩:=I.hok p _ hk;refine⟨⟨o,e,ex.1⟩,fun a e2=>?_⟩
   cases e2;exact⟨o,e,ex.2.1⟩
 |_=>exact False.elim ty
def tBM(K:PySem.W.Frag)(T:String)(r:V->List V->Hp->VK->Prop)(to:TE)(t:TA):TE:=fun σ H Q=>to σ H fun x H1=>tyV K T x H1/\t σ H1 fun xs H2=>r x xs H2 Q
variable {o e:Expr}{es:List Expr}{to:TE}{t:TA}{name:Str}{apos cpos:Pos}{T id:String}{r:V->List V->Hp->VK->Prop}
theorem pe_bm(pa:PlainAttrs T)(slot:Slot T name id)(hty:typeOf (.builtin id)=pure (.type "method_descriptor"))(hm:MtR X id r)(ho:PE X o to)(ha:PA X (e::es) t)
  (hbase:attributeBase o name X.env (eval o X.env)=eval o X.env:=by rfl)
  (hfew : ((backTo cpos (starEach (e :: es) X.env)).all (fun x => !x.1) && (backToKw cpos (keywordEach [] X.env)).all (fun x => x.1.isSome)
   && decide ((e::es).length+([]:List Keyword).length+(if ([]:List Keyword).isEmpty then 0 else 1)<30))=true:=by rfl)
  (hline:(apos.endLine == cpos.line)=true:=by rfl) (hs:starEach (e::es) X.env=(false,eval e X.env)::starEach es X.env:=by rfl) (hplain:(backTo cpos (starEach es X.env)).any (·.1)=false:=by rfl) :
  PE X (.Call (.Attribute o name apos) (e::es) [] cpos) (tBM X.K T r to t):=by
 intro pins s σ H Q I h;refine wpAny_Call_method_late hbase hfew hline rfl (thn (ho pins s σ H _ I h) fun v s1 ⟨x,H1,I1,r1,ty,q1⟩=>?_)
 obtain⟨h1,h2⟩:=tyV_is I1 r1 ty;refine⟨T,id,pa,slot,hty,h1,h2,?_⟩;have hA:=ha cpos pins s1 σ H1 _ I1 q1;rw[hs]at hA ⊢;refine Calls.callWith_builtin (by show(false || (backTo cpos (starEach es X.env)).any (·.1))=false;rw[hplain]<;>rfl) (ydq ?_)
 exact thn hA fun us s2 ⟨vs,H2,I2,r2,q2⟩=>hm pins s2 σ H2 x vs v us Q I2 r1 r2 q2
end
def MtM(X:Cx)(id:String)(r:V->List V->Hp->VK->Prop):Prop :=
 ∀(pins:List (Addr×Obj)) (s:Shared) (σ:St) (H:Hp) (x:V) (xs:List V) (v:Value) (us:List Value) (Q:VK),Inv X pins σ H s->RelV x v->zb9 xs us->r x xs H Q ->
  wpAny (model X.prog X.w) X.A (call (.builtin id) (v::us)) (EP X pins σ Q) X.xe s
theorem zb9.one:∀{x:V} {us:List Value},zb9 [x] us->∃u,us=[u]/\RelV x u
 |_,_,.cons r .nil=>⟨_,rfl,r⟩
theorem zb9.two:∀{x y:V} {us:List Value},zb9 [x,y] us->∃u v,us=[u,v]/\RelV x u/\RelV y v
 |_,_,_,.cons r (.cons q .nil)=>⟨_,_,rfl,r,q⟩
theorem zb9.zero:∀{us:List Value},zb9 [] us->us=[]
 |_,.nil=>rfl
theorem zb9.reverse{xs:List V}{us:List Value}(h:zb9 xs us):zb9 xs.reverse us.reverse:=by
 induction h with
 |nil=>exact .nil
 |cons r t ih=>rw[ycp,ycp];exact zb9.append ih (.cons r .nil)
theorem zb9.rep{xs:List V}{us:List Value}(h:zb9 xs us):∀k:Nat,zb9 (List.replicate k xs).flatten (List.replicate k us).flatten
 |0=>.nil
 |k+1=>by
  rw[ybt,ybt,ybm,ybm];exact zb9.append h (zb9.rep h k)
theorem foldl_rep(its:List Value):∀(k:Nat) (acc:List Value),
  List.foldl (fun x1 x2=>x1++x2) acc.toArray (List.replicate k its.toArray)=(acc++(List.replicate k its).flatten).toArray
 |0,acc=>by simp
 |k+1,acc=>by
  have e:acc.toArray++its.toArray=(acc++its).toArray:=by simp
  have e2:(acc++its)++(List.replicate k its).flatten=acc++(List.replicate (k+1) its).flatten:=by
   rw[ybt,ybm,yap]
  rw[<- e2,<- foldl_rep its k (acc++its),<- e,ybt,List.foldl_cons]
section
variable {X:Cx}{pins:List (Addr×Obj)}{σ:St}{H:Hp}{s:Shared}{l b:Addr}{xs ys zs:List V}
theorem Inv.lset{its its':List Value}{n:Nat}{f:Array Value->Array Value}{t':Nat}(I:Inv X pins σ H s)(hH:H l=some (.lst xs))
  (e:s.heap.get? l=some { cls:=.type "list",data:=.seq its.toArray n }) (hf:f its.toArray=its'.toArray) (hv:zb9 ys its') (hz:ys.length<=sizeLine) :
  Inv X pins σ (upd H l (.lst ys)) { s with heap:=s.heap.update l (Obj.mapSeq f),toks:=t' }:=by
 have q:=PySem.IsL.update e f;rw[hf]at q;refine I.write (x:=l) (e:=l) (by rw[hH];exact trivial) (.inl rfl) (fun b' u hb hu=>(yc4 s.heap (Obj.mapSeq f) (yb8 hb)).trans hu) ⟨_,q⟩ ?_
 exact⟨hz,its',_,hv,q⟩
theorem Inv.lnew{its:List Value}{t':Nat}(I:Inv X pins σ H s)(hv:zb9 ys its)(hz:ys.length<=sizeLine) :
  Inv X pins σ (upd H s.heap.objs.size (.lst ys)) { s with heap:=s.heap.push { cls:=.type "list",data:=.seq its.toArray },toks:=t' } :=
 I.laid (fun _ _ q=>yac _ q) (yad _) ⟨hz,its,0,hv,yal _ rfl⟩
theorem Inv.fresh(I:Inv X pins σ H s):H s.heap.objs.size=none:=I.hok.fresh (yad _)
theorem Inv.lstM(I:Inv X pins σ H s)(hH:H l=some (.lst xs)):xs.length<=sizeLine/\∃(its:List Value) (n:Nat),zb9 xs its/\xs.length=its.length/\s.heap.get? l=some { cls:=.type "list",data:=.seq its.toArray n }:=by
 obtain⟨z,its,n,r,e⟩:=I.hok l _ hH;exact⟨z,its,n,r,r.length,e⟩
theorem notLongL{n:Nat}(h:n<=sizeLine):Builtin.List.listTooLong n=false:=by
 unfold Builtin.List.listTooLong;exact decide_eq_false (by omega)
end
section
variable {X:Cx}
def rAppend:V->List V->Hp->VK->Prop:=fun x vs H Q=>∃l xs y,x=.ref l/\vs=[y]/\H l=some (.lst xs)/\xs.length<sizeLine/\Q .non (upd H l (.lst (xs++[y])))
theorem mt_append:MtM X "list.append" rAppend:=by
 intro pins s σ H x vs v us Q I rx rv h;obtain⟨l,xs,y,rfl,rfl,hH,hz,q⟩:=h;cases rx;obtain⟨u,rfl,ru⟩:=rv.one;obtain⟨z,its,n,r,hl,e⟩:=I.lstM hH;refine call_meets F.slot_list_append ⟨_,e,rfl⟩ F.entry_list_append (F.args_list_append_2 _ _) (PySem.list_append l its.toArray n u (by rw[yag];omega)) ⟨e,?_⟩
 refine⟨.non,_,I.lset (its':=its++[u]) hH e (by simp) (r.append (.cons ru .nil)) ?_,rfl,q⟩
 rw[ya5,ybn]
 omega
def rExtend:V->List V->Hp->VK->Prop:=fun x vs H Q=>∃l b xs zs,x=.ref l/\vs=[.ref b]/\H l=some (.lst xs)/\H b=some (.lst zs)/\xs.length+zs.length<=sizeLine/\Q .non (upd H l (.lst (xs++zs)))
theorem mt_extend:MtM X "list.extend" rExtend:=by
 intro pins s σ H x vs v us Q I rx rv h;obtain⟨l,b,xs,zs,rfl,rfl,hH,hB,hz,q⟩:=h;cases rx;obtain⟨u,rfl,ru⟩:=rv.one;cases ru;obtain⟨z,its,n,r,hl,e⟩:=I.lstM hH;obtain⟨z2,its2,n2,r2,hl2,e2⟩:=I.lstM hB;have hsz:its.toArray.size+its2.toArray.size<=sizeLine:=by rw[yag,yag];omega
 have hlong:¬ (!its.toArray.isEmpty && Builtin.List.listTooLong (its.toArray.size+its2.toArray.size))=true:=by
  rw[notLongL hsz,ye0];exact yb7
 refine call_meets F.slot_list_extend ⟨_,e,rfl⟩ F.entry_list_extend (F.args_list_extend_2 _ _)
  (AutoSeq1.list_extend_list_list_0 l its.toArray n b its2.toArray n2 hlong (by rw[yag];omega) (by omega)) ⟨e,e2,?_⟩
 refine⟨.non,_,I.lset (its':=its++its2) hH e (by simp) (r.append r2) ?_,rfl,q⟩
 rw[ya5]
 omega
def rCat:R2:=fun x y H Q=>∃l b xs zs,x=.ref l/\y=.ref b/\H l=some (.lst xs)/\H b=some (.lst zs)/\xs.length+zs.length<=sizeLine/\∀p,H p=none->Q (.ref p) (upd H p (.lst (xs++zs)))
theorem op_cat:OpR X (binaryOp .Add) rCat:=by
 intro pins s σ H x y v u Q I rx ry h;obtain⟨l,b,xs,zs,rfl,rfl,hH,hB,hz,q⟩:=h;cases rx;cases ry;obtain⟨z,its,n,r,hl,e⟩:=I.lstM hH;obtain⟨z2,its2,n2,r2,hl2,e2⟩:=I.lstM hB;refine PySem.P.add_list e e2 ?_ (by rw[yag,yag];omega)
 have ea:its.toArray++its2.toArray=(its++its2).toArray:=by simp
 rw[ea];exact⟨.ref _,_,I.lnew (t':=s.toks) (r.append r2) (by rw[ya5];omega),rfl,q _ I.fresh⟩
def rRep:R2:=fun x y H Q=>∃l k xs,x=.ref l/\y=.int k/\H l=some (.lst xs)/\-(2 ^ 63)<=k/\k<2 ^ 63/\xs.length * k.toNat<=sizeLine /\
 ∀p,H p=none->Q (.ref p) (upd H p (.lst (List.replicate k.toNat xs).flatten))
theorem len_rep{α:Type}(xs:List α)(k:Nat):(List.replicate k xs).flatten.length=k * xs.length:=by
 induction k with
 |zero=>simp
 |succ k ih=>rw[ybt,ybm,ya5,ih,ydr,Nat.add_comm]
theorem op_rep:OpR X (binaryOp .Mult) rRep:=by
 intro pins s σ H x y v u Q I rx ry h;obtain⟨l,k,xs,rfl,rfl,hH,h1,h2,hz,q⟩:=h;cases rx;obtain⟨t,rfl⟩:=ry;obtain⟨z,its,n,r,hl,e⟩:=I.lstM hH;have hlen:its.toArray.size * k.toNat<=sizeLine:=by rw[yag,<- hl];exact hz
 have hcap:¬ its.toArray.size * k.toNat > (2 ^ 63 - 1) / 8:=by
  have:(sizeLine:Nat)<=(2 ^ 63 - 1) / 8:=by decide
  omega
 have hfit:¬ (!Builtin.List.listFitsIndex k)=true:=by
  rw[fitsIndex_both h1 h2];exact yb7
 have hlong:¬ Builtin.List.listTooLong (its.toArray.size * k.toNat)=true:=by
  rw[notLongL hlen];exact yb7
 have hnew:List.foldl (fun x1 x2=>x1++x2) #[] (List.replicate (if its.toArray.isEmpty=true then 0 else k.toNat) its.toArray)=(List.replicate k.toNat its).flatten.toArray:=by
  have f0:∀m:Nat,List.foldl (fun x1 x2=>x1++x2) #[] (List.replicate m its.toArray)=(List.replicate m its).flatten.toArray:=fun m=>by
   have:=foldl_rep its m [];rw[ycy]at this;exact this
  rw[f0];cases its with
  |nil=>simp
  |cons a r'=>rw[if_neg (by simp)]
 refine wpAny_binaryOp_repeat_ref (T:="list") (U:="int") (by decide) ⟨_,e,rfl⟩ (fun s'=>typeIs_int s' k t) noFill_list_mul F.fills_int_mul F.slot_int_rmul repeat_list F.slot_int_index.lookup
  (call_meets F.slot_int_rmul (typeIs_int s k t) F.entry_int_rmul (F.args_int_rmul_2 _ _) (int___rmul___int_list k t l its.toArray n)
   ⟨e,rfl,⟨_,e,rfl⟩,call_meets F.slot_list_mul ⟨_,e,rfl⟩ F.entry_list_mul (F.args_list_mul_2 _ _) (AutoListH.list___mul___list_int_3 l its.toArray n k t hfit hcap hlong) ⟨e,?_⟩⟩)
 rw[hnew];exact⟨.ref _,_,I.lnew (t':=s.toks) (r.rep k.toNat) (by rw[len_rep,Nat.mul_comm];exact hz),rfl,q _ I.fresh⟩
end
section
variable {prog:Program}{w:World}{A:Around}{E:Value->Shared->Prop}{s:Shared}
end
section
variable {X:Cx}
end
end L2
namespace Att
open PySem PySem.W PySem.Calls PyProof.Rows
theorem zll{P:Params}{h:Heap}:∀(ns:List Int) (vs:List Value),WellAll P h vs (ns.map WData.int)->IntsAre vs ns:=by
 intro ns
 induction ns with
 |nil =>
  intro vs w;rw[yds]at w;cases w;exact .nil
 |cons n ns ih =>
  intro vs w;rw[yah]at w;cases w with
  |cons a b =>
   cases a;exact .cons _ _ (ih _ b)
theorem script_of{l:OpenLaw}{n:Nat}(hn:l.most=some n){P:Params}{h:Heap}{args:List WData}{vals:List Value}
  (hpre:l.row.toRowW.claim.pre args=true) (hwl:WellAll P h vals args) :
  ∃a vs ns,vals=[Value.ref a]/\args=[WData.list (ns.map WData.int)]/\h.get? a=some { cls:=.type "list",data:=.seq vs.toArray }/\IntsAre vs ns/\ns.length<=n:=by
 have hsh:WShape.hasAll [] args [.list .int]=true:=(pre_splitW hpre).1;have hc:l.pre.holds [] { args:=args }=true:=(pre_splitW hpre).2;obtain⟨d,r,rfl,h1,h2⟩:=hasAllW_cons hsh;obtain rfl:=hasAllW_nil h2;obtain⟨xs,rfl,h3⟩:=hasW_list h1;obtain⟨ns,rfl⟩:=items_int h3
 have hlen:ns.length<=n:=by
  unfold OpenLaw.pre at hc
  have h4:(WTm.not (.lt (.lit (.int (n:Int))) (.len (.arg 0)))).holds [] { args:=[.list (ns.map .int)] }=true:=by
   have h4:=(holds_andW hc).1;rw[hn]at h4;exact h4
  have h5:=condW_of h4 (w_not (w_lt w_lit (w_len_list (w_arg rfl))));rw[ya0]at h5;refine Nat.le_of_not_lt fun q=>?_
  have q':(n:Int)<((ns.length:Nat):Int):=by omega
  first
   |(rw[decide_eq_true q']at h5;exact absurd h5 (by decide))
   |(simp at h5;omega)
 cases hwl with
 |cons w1 w2 =>
  cases w2;cases w1 with
  |list ho hall=>exact⟨_,_,ns,rfl,rfl,ho,zll ns _ hall,hlen⟩
theorem post_true(l:OpenLaw)(args:List WData):l.row.toRowW.claim.post args (.bool true) args=true :=
 postW_of (r:=l.row.toRowW) (X:=(true == true))
  (show WShape.has [] (.bool true) .bool=true by first|rfl|decide|simp[WShape.has,WShape.arms,WShape.armsAll])
  (show(WTm.eq .res (.lit (.bool true))).value [] { args:=args,res:=some (.bool true),after:=args }=some (.bool (true == true)) from w_eq_bool (w_res rfl) w_lit) rfl
theorem attach_call{l:OpenLaw}{n:Nat}{q:Program}{loose:List Str}{XP:(Str->Option Value)->Heap->Prop}{YP:World->Heap->Prop}{d:DefRec}
  (hn:l.most=some n) (hdf:d.params.defaults=[])
  (call : ∀ (w : World) (s₀ s₁ : Shared) (mg mb : Str -> Option Value) (fa : Addr) (o : Obj) (pm cd doc : Value) (a : Addr) (vs : List Value) (ns : List Int),
   Ground q loose [] XP w s₀ mg mb s₁.heap->YP w s₁.heap ->
   s₁.heap.get? fa=some o->o.data=.func (docDef d.name d.params d.body d.scope pm cd doc)->s₁.heap.CodeRec cd d.name->mg d.name=some (.ref fa) ->
   s₁.heap.get? a=some { cls:=.type "list",data:=.seq vs.toArray }->IntsAre vs ns->ns.length<=n->s₁.gens=#[] ->
   codeAny (model l.prog w) callerA (.call (.ref fa) ⟨[.ref a],[]⟩) (fun r s'=>r=.ok (.ret (.bool true))/\OldK s₁.heap s'.heap/\s'.os=s₁.os/\AllBare s'.gens) s₁) :
  WalkO q loose XP YP l.row.toRowW d [] (fun f vs=>PySem.call f vs):=by
 intro w s₀ s₁ mg mb G Y fa o pm cd doc dV kV ho hd hcd hD hmg hg args vals as hpre hlay hrd hwl hlo;obtain rfl:dV=.none:=Dflts.none hD hdf;obtain rfl:kV=.none:=Dflts.noKw hD;obtain⟨a,vs,ns,rfl,rfl,hobj,hints,hlen⟩:=script_of hn hpre hwl;refine enter_call (codeAny_mono (call w s₀ s₁ mg mb fa o pm cd doc a vs ns G Y ho (fd_plain hd) hcd hmg hobj hints hlen hg) fun r s' hq=>?_)
 obtain⟨rfl,h2,h3,h4⟩:=hq;exact⟨.inl ⟨.bool true,.bool true,[],rfl,fun _=>rfl,.bool true,post_true l _,fun _=>⟨List.Pairwise.nil,fun _ hm=>(nomatch hm)⟩⟩,h2,h3,h4⟩
section
variable {prog:Program}{w:World}{A:Around}{E:Value->Shared->Prop}{s:Shared}{K:Frag}
end
end Att
namespace L2
open PySem PySem.Spec PyProof.Rows
theorem vals_ints:∀{vs:List Value} {ns:List Int},IntsAre vs ns->zb9 (ns.map V.int) vs
 |_,_,.nil=>.nil
 |_,_,.cons n t h=>.cons ⟨t,rfl⟩ (vals_ints h)
def Only(H:Hp):Prop:=∀b,H b=none\/∃o xs,H b=some (.frz o (.lst xs))
theorem law_call{P:Program}{w:World}{K:PySem.W.Frag}{mg mb:Str->Option Value}{CX:CXT}{k:Nat}{fa a:Addr}{fd:FuncData}{x:Str}{sp:Sp}{s₁:Shared}{vs:List Value}{ns:List Int}
  (KX:K.In s₁.heap) (hns:s₁.heap.Ns mainGlobals mg) (hb:s₁.heap.Ns builtinsNs mb) (hbb:∀x:Str,x≠"__name__"->mb x=bootBuiltins x) (hlim:s₁.heap.NoLimit) (hg:s₁.gens=#[])
  (ha:s₁.heap.get? a=some { cls:=.type "list",data:=.seq vs.toArray }) (hi:IntsAre vs ns) (hl:ns.length<=sizeLine) (hr:Room k callerA)
  (F:∀base:Heap,K.In base->base.Ns mainGlobals mg->FnOk P w K mg base CX k fa fd [x] sp) (hbind:∀(s:Shared) (u:Value),BindsTo s fd ⟨[u],[]⟩ [(x,u)])
  (hsp:∀H:Hp,Only H->SqL K H a (ns.map V.int)->sp [.ref a] H (fun v _=>v=.bl true) fun _ _ _=>False)
  (hCX:∀H e s',CX [] H s₁ (fun _ _ _=>False) e s'->False) :
  codeAny (model P w) callerA (.call (.ref fa) ⟨[.ref a],[]⟩) (fun r s'=>r=.ok (.ret (.bool true))/\OldK s₁.heap s'.heap/\s'.os=s₁.os/\AllBare s'.gens) s₁:=by
 have rv:=vals_ints hi;have lenV:=hi.length
 have core:∀H:Hp,Only H->SqL K H a (ns.map V.int)->HOk P w H s₁.heap->(∀b,H b≠none->b=a)->(H a≠none->K.lookup a=none) ->
   codeAny (model P w) callerA (.call (.ref fa) ⟨[.ref a],[]⟩) (fun r s'=>r=.ok (.ret (.bool true))/\OldK s₁.heap s'.heap/\s'.os=s₁.os/\AllBare s'.gens) s₁:=by
  intro H hO hS hok hA hK;have base_of:∀{b:Addr} {o:Obj},s₁.heap.get? b=some o->H b=none->(hidT s₁.heap H).get? b=some o:=fun e n=>hidT_get e n
  have noA:∀{b:Addr} {o:Obj} {es:Array DictEntry} {ep:Nat},s₁.heap.get? b=some o->o.data=.dict es ep->H b=none:=fun {b o es ep} e d=>by
   cases q:H b with
   |none=>rfl
   |some u =>
    have e':b=a:=hA b (by rw[q];simp)
    subst e';rw[ha]at e;cases e;have d':Data.seq vs.toArray _=Data.dict es ep:=d;cases d'
  have nsK:∀{b:Addr} {m:Str->Option Value},s₁.heap.Ns b m->(hidT s₁.heap H).Ns b m:=fun {b m} ⟨o,es,ep,e,d,r⟩=>⟨o,es,ep,base_of e (noA e d),d,r⟩
  have hKb:K.In (hidT s₁.heap H):=fun b o e=>base_of (KX b o e) (by
   cases q:H b with
   |none=>rfl
   |some u =>
    have e':b=a:=hA b (by rw[q];simp)
    subst e';rw[hK (by rw[q];simp)]at e;cases e)
  have hM:Mod K mg (hidT s₁.heap H):=⟨hKb,nsK hns,⟨mb,nsK hb,hbb⟩,let ⟨mc,h1,h2⟩:=hlim;⟨mc,nsK h1,h2⟩⟩;have e0:Env0 P w K mg (hidT s₁.heap H) callerA [] s₁ H:=⟨rfl,hM,fun b o e=>of_hidT e,yax (hidT_size _ _),trivial,fun b hb=>absurd (show b∈([]:List Addr) from hb) (by simp),hok,.of_eq hg⟩
  refine codeAny_mono ((F _ hKb (nsK hns)).run callerA [] s₁ H ⟨[.ref a],[]⟩ [.ref a] [.ref a] _ _ hr e0 (hbind s₁ (.ref a)) (.cons rfl .nil) (hsp H hO hS)) fun r s' h=>?_
  cases r with
  |error e=>exact(hCX H e s' h).elim
  |ok fl =>
   cases fl with
   |next=>exact False.elim h
   |brk=>exact False.elim h
   |cont=>exact False.elim h
   |ret u =>
    obtain⟨v,H',os,bare,un,hok',r',q⟩:=h;have q':v=.bl true:=q;subst q';obtain rfl:u=Value.bool true:=r';refine⟨rfl,OldK.of_keep fun b o e=>?_,os,bare⟩
    cases q:H b with
    |none=>exact un.keep b o e q (by intro z;exact absurd (show b∈([]:List Addr) from z) (by simp)) (by simp)
    |some u =>
     rcases hO b with z|⟨ob,xs,z⟩
     ·rw[q]at z;cases z
     ·have z2:=un.frzs b ob _ z;obtain⟨e1,_⟩:=hok b _ z;obtain⟨e2,_⟩:=hok' b _ z2;rw[e]at e1;cases e1;exact e2
 cases hk:K.lookup a with
 |some o =>
  have e:=KX a o hk;rw[ha]at e;cases e;refine core (fun _=>none) (fun _=>.inl rfl) (.inr ⟨_,vs.toArray,_,hk,rfl,rfl,rfl,by rw[yag,lenV];exact hl,by simpa using rv⟩) (fun b u z=>by have z':(none:Option HO)=some u:=z;cases z') (fun b z=>absurd rfl z) fun z=>absurd rfl z
 |none =>
  refine core (fun b=>if b=a then some (.frz { cls:=.type "list",data:=.seq vs.toArray } (.lst (ns.map V.int))) else none) (fun b=>?_) (.inl (.inr ⟨{ cls:=.type "list",data:=.seq vs.toArray },if_pos rfl⟩)) (fun b u z=>?_) (fun b z=>?_) fun _=>hk
  ·by_cases hb:b=a
   ·exact .inr ⟨_,_,if_pos hb⟩
   ·exact .inl (if_neg hb)
  ·by_cases hb:b=a
   ·have z':=(if_pos hb).symm.trans z;cases z';subst hb;exact⟨ha,by rw[ya0];exact hl,vs,_,rv,ha⟩
   ·have z':=(if_neg hb).symm.trans z;cases z'
  ·by_cases hb:b=a
   ·exact hb
   ·exact absurd (if_neg hb) z
theorem walk_of{l:PySem.W.OpenLaw}{n k:Nat}{q:Program}{loose:List Str}{XP:(Str->Option Value)->Heap->Prop}{YP:World->Heap->Prop}{d:DefRec}{K:Params->PySem.W.Frag}{CX:World->CXT}{sp:World->Sp}{x:Str}
  (hn:l.most=some n) (hn2:n<=sizeLine) (hdf:d.params.defaults=[]) (hr:Room k callerA)
  (hY:∀(w:World) (h:Heap),YP w h->(K w.params).In h)
  (F : ∀ (w : World) (mg : Str -> Option Value) (fa : Addr) (h : Heap), (K w.params).In h -> h.Ns mainGlobals mg -> mg d.name = some (.ref fa) ->
   ∃fd:FuncData,(∀(s:Shared) (u:Value),BindsTo s fd ⟨[u],[]⟩ [(x,u)]) /\
    ∀base:Heap,(K w.params).In base->base.Ns mainGlobals mg->FnOk l.prog w (K w.params) mg base (CX w) k fa fd [x] (sp w))
  (hsp:∀(w:World) (H:Hp) (a:Addr) (ns:List Int),ns.length<=n->Only H->SqL (K w.params) H a (ns.map V.int)->sp w [.ref a] H (fun v _=>v=.bl true) fun _ _ _=>False)
  (hCX:∀(w:World) (H:Hp) (s:Shared) (e:Value) (s':Shared),CX w [] H s (fun _ _ _=>False) e s'->False) :
  PySem.W.WalkO q loose XP YP l.row.toRowW d [] (fun f vs=>PySem.call f vs):=by
 refine Att.attach_call hn hdf fun w s₀ s₁ mg mb fa o pm cd doc a vs ns G Y ho hd hcd hmg hobj hints hlen hg=>?_
 have KX:=hY w _ Y;obtain⟨fd,hb,hF⟩:=F w mg fa _ KX G.T.g hmg;exact law_call KX G.T.g G.T.b G.T.builtins G.T.nolimit hg hobj hints (yaj hlen hn2) hr hF hb (fun H hO hS=>hsp w H a ns hlen hO hS) fun H e s'=>hCX w H s₁ e s'
def zgu(s:Stmt):Arguments:=match s with
 |.FunctionDef _ a _ _ _ _ _ _ _ _=>a
 |_=>{ posonlyargs:=[],args:=[],vararg:=none,kwonlyargs:=[],kw_defaults:=[],kwarg:=none,defaults:=[] }
def zaa(s:Stmt):List Stmt:=match s with
 |.FunctionDef _ _ b _ _ _ _ _ _ _=>b
 |_=>[]
def za2(s:Stmt):Scope:=match s with
 |.FunctionDef _ _ _ _ _ _ sc _ _ _=>sc
 |_=>{ kind:=.function,names:=[],isGenerator:=false,isCoroutine:=false }
abbrev CX0:CXT:=fun _ _ _ _ _ _=>False
abbrev E0:XK:=fun _ _ _=>False
theorem pass0{X:Cx}:Passes CX0 X E0:=fun _ _ _ _ _ _ _ h=>h.elim
structure Fun(K:PySem.W.Frag)(x qual:Str)(st:Stmt)(f:Addr)(fd:FuncData):Prop where
 ex:∃(oc:Value) (od:Option Addr) (kV doc pm:Value) (an:Option Addr) (cdv ct:Value) (osl:Array (Option Value)),
  fd=PySem.W.fnOf x qual (zgu st) (zaa st) (za2 st) .none kV doc pm an cdv ct/\K.lookup f=some ⟨oc,od,.func fd,osl⟩/\PySem.W.codeIn K cdv qual=true
 kp:PySem.W.keepIn K (.ref f)=true
section
variable {P:Program}{w:World}{K:PySem.W.Frag}{mg:Str->Option Value}{base:Heap}
theorem Fun.ok{x qual:Str}{st:Stmt}{f:Addr}{fd:FuncData}{N ps:List Str}{k:Nat}{sp:Sp}(F:Fun K x qual st f fd)(S:FnScope N ps (za2 st))(len:∀vs H Q E,sp vs H Q E->vs.length=ps.length)
  (hbody : ∀ (cdv : Value) (A : Around) (outer : List Env) (s : Shared) (H : Hp) (vs : List V) (Q : VK) (E : XK), Room k (A.deeper (envOfC qual (za2 st) s.heap.objs.size f cdv)) -> sp vs H Q E ->
   ∃t,PSs (cxOf CX0 P w K mg base N qual (za2 st) f cdv A outer s H E).nox (zaa st) t/\t { nx:=fun _ H'=>Q .non H',rt:=Q } (start N vs) H):FnOk P w K mg base CX0 (k+1) f fd ps sp:=by
 obtain⟨oc,od,kV,doc,pm,an,cdv,ct,osl,rfl,lk,hcd⟩:=F.ex;refine fn_of lk hcd S len fun A outer s H vs Q E hr hsp=>?_
 obtain⟨t,h,q⟩:=hbody cdv A outer s H vs Q E hr hsp;exact⟨t,h.nox,q⟩
theorem Fun.binds{x qual:Str}{st:Stmt}{f:Addr}{fd:FuncData}{ps:List Str}(F:Fun K x qual st f fd)
  (h:∀(kV doc pm:Value) (an:Option Addr) (cdv ct:Value) (us:List Value),us.length=ps.length->bindArgs (PySem.W.fnOf x qual (zgu st) (zaa st) (za2 st) .none kV doc pm an cdv ct) ⟨us,[]⟩=pure (ps.zip us)):zgy K fd ps []:=by
 obtain⟨oc,od,kV,doc,pm,an,cdv,ct,osl,rfl,lk,hcd⟩:=F.ex;exact .all (h kV doc pm an cdv ct)
end
theorem small1000{n:Nat}(h:n<=1000):n<sizeLine:=yd0 h (by decide)
section
variable {X:Cx}
theorem pv(i:Nat){x:Str}{pos:Pos}(hN:X.N[i]?=some x:=by rfl)(hv:Vis X.env.scope x:=by first|exact Or.inl rfl|exact Or.inr (Or.inl rfl)|exact Or.inr (Or.inr rfl))(hd:(x == ("__debug__":Str))=false:=by decide)
  (hcd:(x == ("__classdict__":Str))=false:=by decide):PE X (.Name x pos) (tVar i):=zl8 hN hv hd hcd
end
theorem iteF{A B:Prop}(h:B):if false=true then A else B:=by
 rw[if_neg yb7];exact h
theorem iteT{A B:Prop}(h:A):if true=true then A else B:=by
 rw[if_pos rfl];exact h
def zbe(H H':Hp):Prop:=∀b o,H b=some o->H' b=some o
theorem zbe.refl(H:Hp):zbe H H:=fun _ _ h=>h
theorem zbe.trans{H H1 H2:Hp}(a:zbe H H1)(b:zbe H1 H2):zbe H H2:=fun c o h=>b c o (a c o h)
theorem zbe.free{H H':Hp}(e:zbe H H'){l:Addr}(h:H' l=Option.none):H l=Option.none:=by
 cases q:H l with
 |none=>rfl
 |some o =>
  rw[e l o q]at h;cases h
theorem zbe.seq{K:PySem.W.Frag}{H H':Hp}{a:Addr}{xs:List V}(e:zbe H H')(h:SqL K H a xs):SqL K H' a xs:=by
 rcases h with (h|⟨o,h⟩)|h
 ·exact .inl (.inl (e _ _ h))
 ·exact .inl (.inr ⟨o,e _ _ h⟩)
 ·exact .inr h
section
variable {κ:Type} [DecidableEq κ]
def valV(kvs:List (κ×V))(k:κ):Option V:=(kvs.find? fun kv=>decide (kv.1=k)).map (·.2)
def putK(kvs:List (κ×V))(k:κ)(v:V):List (κ×V) :=
 if (kvs.any fun kv=>decide (kv.1=k))=true then kvs.map (fun kv=>if kv.1=k then (kv.1,v) else kv) else kvs++[(k,v)]
def dropK(kvs:List (κ×V))(k:κ):List (κ×V):=kvs.filter fun kv=>decide (kv.1≠k)
theorem zke{p:κ×V}{r:List (κ×V)}{k:κ}(e:p.1=k):valV (p::r) k=some p.2:=by simp[valV,yci,e]
theorem zkf{p:κ×V}{r:List (κ×V)}{k:κ}(e:¬ p.1=k):valV (p::r) k=valV r k:=by simp[valV,yci,e]
theorem valV_any(k:κ):∀kvs:List (κ×V),(kvs.any fun kv=>decide (kv.1=k))=(valV kvs k).isSome
 |[]=>rfl
 |p::r=>by
  rw[ye6]
  by_cases e:p.1=k
  ·simp only[zke e,decide_eq_true e,ycq,Option.isSome_some]
  ·rw[zkf e,decide_eq_false e,ye7];exact valV_any k r
theorem zlg(kvs:List (κ×V))(k:κ)(v:V):(putK kvs k v).length<=kvs.length+1:=by
 unfold putK;split
 ·rw[ya0];omega
 ·rw[ya5,ya8,ybd];omega
theorem RelO.isSome_eq{o:Option V}{u:Option Value}(r:RelO o u):o.isSome=u.isSome:=by
 cases o with
 |none=>cases u with
  |none=>rfl
  |some _=>exact(show False from r).elim
 |some _=>cases u with
  |none=>exact(show False from r).elim
  |some _=>rfl
theorem RelO.getD{o:Option V}{u:Option Value}{d:V}{d':Value}(r:RelO o u)(rd:RelV d d'):RelV (o.getD d) (u.getD d'):=by
 cases o with
 |none=>cases u with
  |none=>exact rd
  |some _=>exact(show False from r).elim
 |some _=>cases u with
  |none=>exact(show False from r).elim
  |some _=>exact r
theorem KV.val{kvs:List (κ×V)}{vs:List (κ×Value)}(r:KV kvs vs)(k:κ):RelO (valV kvs k) (valueAt vs k):=by
 unfold KV at r
 induction r with
 |nil=>exact True.intro
 |@cons p q ps qs h t ih =>
  obtain⟨h1,h2⟩:=h
  by_cases e:p.1=k
  ·have e':q.1=k:=h1.symm.trans e;have b:valueAt (q::qs) k=some q.2:=by simp[valueAt,yci,e']
   rw[zke e,b];exact h2
  ·have e':¬ q.1=k:=fun z=>e (h1.trans z)
   have b:valueAt (q::qs) k=valueAt qs k:=by simp[valueAt,yci,e']
   rw[zkf e,b];exact ih
theorem KV.any{kvs:List (κ×V)}{vs:List (κ×Value)}(r:KV kvs vs)(k:κ):(kvs.any fun kv=>decide (kv.1=k))=vs.any fun kv=>decide (kv.1=k):=by
 unfold KV at r
 induction r with
 |nil=>rfl
 |cons h t ih=>rw[ye6,ye6,ih,h.1]
theorem KV.repl{kvs:List (κ×V)}{vs:List (κ×Value)}(r:KV kvs vs)(k:κ){y:V}{u:Value}(ry:RelV y u) :
  KV (kvs.map fun kv=>if kv.1=k then (kv.1,y) else kv) (vs.map fun kv=>if kv.1=k then (kv.1,u) else kv):=by
 unfold KV at r ⊢
 induction r with
 |nil=>exact .nil
 |@cons p q ps qs h t ih =>
  rw[yah,yah];refine .cons ?_ ih;obtain⟨h1,h2⟩:=h
  by_cases e:p.1=k
  ·rw[if_pos e,if_pos (h1.symm.trans e)];exact⟨h1,ry⟩
  ·rw[if_neg e,if_neg (fun z=>e (h1.trans z))];exact⟨h1,h2⟩
theorem KV.put{kvs:List (κ×V)}{vs:List (κ×Value)}(r:KV kvs vs)(k:κ){y:V}{u:Value}(ry:RelV y u):KV (putK kvs k y) (stored vs k u):=by
 unfold putK stored;rw[r.any k]
 by_cases e:(vs.any fun kv=>decide (kv.1=k))=true
 ·rw[if_pos e,if_pos e];exact r.repl k ry
 ·rw[if_neg e,if_neg e];exact Paired.snoc r ⟨rfl,ry⟩
theorem KV.drop{kvs:List (κ×V)}{vs:List (κ×Value)}(r:KV kvs vs)(k:κ):KV (dropK kvs k) (without vs k):=by
 unfold KV at r ⊢;unfold dropK without
 induction r with
 |nil=>exact .nil
 |@cons p q ps qs h t ih =>
  obtain⟨h1,h2⟩:=h;rw[List.filter_cons,List.filter_cons]
  by_cases e:p.1=k
  ·have a:¬ decide (p.1≠k)=true:=by simp[e]
   have b:¬ decide (q.1≠k)=true:=by simp[h1.symm.trans e]
   rw[if_neg a,if_neg b];exact ih
  ·have e':¬ q.1=k:=fun z=>e (h1.trans z)
   have a:decide (p.1≠k)=true:=by simp[e]
   have b:decide (q.1≠k)=true:=by simp[e']
   rw[if_pos a,if_pos b];exact .cons ⟨h1,h2⟩ ih
theorem KV.length{kvs:List (κ×V)}{vs:List (κ×Value)}(r:KV kvs vs):kvs.length=vs.length:=ye4 r
end
theorem kV_is{P:Program}{w:World}{k:Key}{u:Value}(r:RelV (kV k) u):(zbg P w).is k u=true:=by
 cases k with
 |inl i=>obtain⟨t,e⟩:=(show ∃t,u=Value.int i t from r);subst e;exact mixKind_int P w i t
 |inr x=>obtain⟨t,e⟩:=(show ∃t,u=Value.str x t from r);subst e;exact mixKind_str P w x t
theorem items_are{P:Program}{w:World}:∀{ks:List Key} {us:List Value},zb9 (ks.map kV) us->ItemsAre (zbg P w) ks us
 |[],_,r=>by rw[yds]at r;cases r;exact .nil
 |k::ks,_,r=>by
  rw[yah]at r;cases r with
  |cons h t=>exact .cons (kV_is h) (items_are t)
abbrev KT(H:Hp):List (List Key×V)->List (List Key×Addr×Value)->Prop:=Paired fun p q=>p.1=q.1/\H q.2.1=some (.tup (p.1.map kV))/\RelV p.2 q.2.2
theorem KT.val{H:Hp}{kvs:List (List Key×V)}{xs:List (List Key×Addr×Value)}(r:KT H kvs xs)(k:List Key):RelO (valV kvs k) ((atKey xs k).map (·.2)):=by
 induction r with
 |nil=>exact True.intro
 |@cons p q ps qs h t ih =>
  obtain⟨h1,_,h2⟩:=h
  by_cases e:p.1=k
  ·have e':q.1=k:=h1.symm.trans e;have b:atKey (q::qs) k=some q.2:=by simp[atKey,yci,e']
   rw[zke e,b];exact h2
  ·have e':¬ q.1=k:=fun z=>e (h1.trans z)
   have b:atKey (q::qs) k=atKey qs k:=by simp[atKey,yci,e']
   rw[zkf e,b];exact ih
theorem KT.repl{H:Hp}{kvs:List (List Key×V)}{xs:List (List Key×Addr×Value)}(r:KT H kvs xs)(k:List Key){y:V}{u:Value}(ry:RelV y u) :
  KT H (kvs.map fun kv=>if kv.1=k then (kv.1,y) else kv) (xs.map (putAt k u)):=by
 induction r with
 |nil=>exact .nil
 |@cons p q ps qs h t ih =>
  rw[yah,yah];refine .cons ?_ ih;obtain⟨h1,h2,h3⟩:=h;unfold putAt
  by_cases e:p.1=k
  ·rw[if_pos e,if_pos (h1.symm.trans e)];exact⟨h1,h2,ry⟩
  ·rw[if_neg e,if_neg (fun z=>e (h1.trans z))];exact⟨h1,h2,h3⟩
theorem KT.put{H:Hp}{kvs:List (List Key×V)}{xs:List (List Key×Addr×Value)}(r:KT H kvs xs)(k:List Key){b:Addr}{y:V}{u:Value}(hb:H b=some (.tup (k.map kV)))(ry:RelV y u) :
  KT H (putK kvs k y) (storedH xs k b u):=by
 have e:(kvs.any fun kv=>decide (kv.1=k))=(atKey xs k).isSome:=by
  rw[valV_any,(r.val k).isSome_eq,Option.isSome_map]
 unfold putK storedH;rw[e]
 by_cases q:(atKey xs k).isSome=true
 ·rw[if_pos q,if_pos q];exact r.repl k ry
 ·rw[if_neg q,if_neg q];exact Paired.snoc r ⟨rfl,hb,ry⟩
theorem KT.keeps{H H':Hp}{kvs:List (List Key×V)}{xs:List (List Key×Addr×Value)}(r:KT H kvs xs)(ht:∀b ys,H b=some (.tup ys)->H' b=some (.tup ys)):KT H' kvs xs :=
 Paired.mapP r fun _ _ z=>⟨z.1,ht _ _ z.2.1,z.2.2⟩
section
variable {P:Program}{w:World}{H:Hp}{h:Heap}{a:Addr}
theorem rd_of{u:HO}(ok:HOk P w H h)(e:Rd H a u):zbp P w H h a u:=e.ok ok
theorem dk_rd{kvs:List (Key×V)}(ok:HOk P w H h)(e:Rd H a (.dK kvs)):kvs.length<=sizeLine/\(a == sysModules)=false/\∃vs,KV kvs vs/\h.DictOf (zbg P w) a vs :=
 show zbp P w H h a (.dK kvs) from rd_of ok e
theorem dk_of{kvs:List (Key×V)}(ok:HOk P w H h)(e:H a=some (.dK kvs)):kvs.length<=sizeLine/\(a == sysModules)=false/\∃vs,KV kvs vs/\h.DictOf (zbg P w) a vs:=dk_rd ok (.inl e)
theorem key_of{ks:List Key}(ok:HOk P w H h)(e:H a=some (.tup (ks.map kV))):(tupleKind (zbg P w)).is h ks a:=by
 obtain⟨_,its,r,o,h1,h2,n,h3⟩:=(show zbp P w H h a (.tup (ks.map kV)) from ok a _ e);exact⟨o,its.toArray,n,h1,h2,h3,by simpa using items_are r⟩
theorem dt_rd{kvs:List (List Key×V)}(ok:HOk P w H h)(e:Rd H a (.dT kvs)):kvs.length<=sizeLine/\(a == sysModules)=false /\
  ∃xs,KT H kvs xs/\h.DictOfH (tupleKind (zbg P w)) a xs:=by
 obtain⟨z,y,xs,r,o,es,ep,h1,h2,h3,h4,h5⟩:=(show zbp P w H h a (.dT kvs) from rd_of ok e);refine⟨z,y,xs,r,o,es,ep,h1,h2,h3,h4,fun x hx=>?_,h5⟩
 have all:∀{l:List (List Key×V)} {m:List (List Key×Addr×Value)},KT H l m->∀x∈m,(tupleKind (zbg P w)).is h x.1 x.2.1:=by
  intro l m q
  induction q with
  |nil=>intro x hx;exact nomatch hx
  |@cons p q ps qs hq t ih =>
   intro x hx
   rcases(ya7.mp hx) with e|hx
   ·subst e;exact key_of ok (by rw[<- hq.1];exact hq.2.1)
   ·exact ih x hx
 exact all r x hx
theorem dt_of{kvs:List (List Key×V)}(ok:HOk P w H h)(e:H a=some (.dT kvs)):kvs.length<=sizeLine/\(a == sysModules)=false /\
  ∃xs,KT H kvs xs/\h.DictOfH (tupleKind (zbg P w)) a xs:=dt_rd ok (.inl e)
end
def DGet(H:Hp)(a:Addr)(y:V)(r:Option V):Prop :=
 (∃kvs k,Rd H a (.dK kvs)/\y=kV k/\r=valV kvs k)\/∃kvs k b,Rd H a (.dT kvs)/\y=.ref b/\H b=some (.tup (k.map kV))/\r=valV kvs k
def DPut(H:Hp)(a:Addr)(y v:V)(H':Hp):Prop :=
 (∃kvs k,H a=some (.dK kvs)/\y=kV k/\kvs.length<sizeLine/\H'=upd H a (.dK (putK kvs k v))) \/
 ∃kvs k b,H a=some (.dT kvs)/\y=.ref b/\H b=some (.tup (k.map kV))/\kvs.length<sizeLine/\H'=upd H a (.dT (putK kvs k v))
theorem DGet.k{H:Hp}{a:Addr}{kvs:List (Key×V)}{k:Key}(e:H a=some (.dK kvs)):DGet H a (kV k) (valV kvs k):=.inl ⟨kvs,k,.inl e,rfl,rfl⟩
theorem DGet.t{H:Hp}{a b:Addr}{kvs:List (List Key×V)}{k:List Key}(e:H a=some (.dT kvs))(eb:H b=some (.tup (k.map kV))):DGet H a (.ref b) (valV kvs k):=.inr ⟨kvs,k,b,.inl e,rfl,eb,rfl⟩
theorem DPut.k{H:Hp}{a:Addr}{kvs:List (Key×V)}{k:Key}{v:V}(e:H a=some (.dK kvs))(hl:kvs.length<sizeLine):DPut H a (kV k) v (upd H a (.dK (putK kvs k v))):=.inl ⟨kvs,k,e,rfl,hl,rfl⟩
theorem DPut.t{H:Hp}{a b:Addr}{kvs:List (List Key×V)}{k:List Key}{v:V}(e:H a=some (.dT kvs))(eb:H b=some (.tup (k.map kV)))(hl:kvs.length<sizeLine) :
  DPut H a (.ref b) v (upd H a (.dT (putK kvs k v))):=.inr ⟨kvs,k,b,e,rfl,eb,hl,rfl⟩
section
variable {X:Cx}{pins:List (Addr×Obj)}{σ:St}{H:Hp}{s:Shared}{a:Addr}{y v:V}{u r:Value}{o:Option V}{A:Around}{E:Value->Shared->Prop}
theorem Inv.big(I:Inv X pins σ H s):sysModules<s.heap.objs.size:=by
 have h:mainGlobals<s.heap.objs.size:=(I.mod.glob.keeps I.bk).lt;exact ybo (by decide) h
theorem d_getItem{Q:Value->Shared->Prop}(hu:A.units+1<cLine)(I:Inv X pins σ H s)(g:DGet H a y (some v))(ry:RelV y u)(h:∀w' s',Inv X pins σ H s'->RelV v w'->Q w' s') :
  wpAny (model X.prog X.w) A (getItem (.ref a) u) Q E s:=by
 rcases g with ⟨kvs,k,e,ey,l⟩|⟨kvs,k,b,e,ey,eb,l⟩
 ·subst ey;obtain⟨z,hd,vs,rel,dd⟩:=dk_rd I.hok e;obtain⟨w',hw,rw'⟩:=RelO.some_of (v:=v) (o:=valueAt vs k) (by rw[l];exact rel.val k)
  exact wpAny_getItem_of (kV_is ry) dd.mapOf hw (h w' _ (I.tok _) rw')
 ·subst ey;cases (show u=Value.ref b from ry);obtain⟨z,hd,xs,rel,dd⟩:=dt_rd I.hok e;obtain⟨w',hw,rw'⟩:=RelO.some_of (v:=v) (o:=(atKey xs k).map (·.2)) (by rw[l];exact rel.val k)
  obtain⟨p,hp,hp2⟩:=ya2.mp hw;refine wpAny_getItem_heap (tupleKind_room_in1 hu) (key_of I.hok eb) dd hp ?_;rw[hp2];exact h w' _ (I.tok _) rw'
theorem d_write{h':Heap}{t':Nat}{ob:HO}(I:Inv X pins σ H s)(mu:Mut (H a))(hs:Heap.SameBut a s.heap h')(he:∃q,h'.get? a=some q)(new:zbp X.prog X.w (upd H a ob) h' a ob) :
  Inv X pins σ (upd H a ob) { s with heap:=h',toks:=t' } :=
 I.write (x:=a) (e:=a) mu (.inl rfl) (fun b q hb z=>(hs.2 b hb).trans z) he new
theorem dk_new{P:Program}{w:World}{H':Hp}{h':Heap}{kvs:List (Key×V)}{vs:List (Key×Value)}(z:kvs.length<=sizeLine)(hd:(a == sysModules)=false)(rel:KV kvs vs)(dd:h'.DictOf (zbg P w) a vs) :
  zbp P w H' h' a (.dK kvs):=⟨z,hd,vs,rel,dd⟩
theorem d_setItem{H':Hp}{Q:Unit->Shared->Prop}(hu:A.units+1<cLine)(I:Inv X pins σ H s)(g:DPut H a y v H')(ry:RelV y u)(rv:RelV v r)(h:∀s',Inv X pins σ H' s'->Q () s') :
  wpAny (model X.prog X.w) A (setItem (.ref a) u r) Q E s:=by
 rcases g with ⟨kvs,k,e,ey,l,eH⟩|⟨kvs,k,b,e,ey,eb,l,eH⟩
 ·subst ey eH;obtain⟨z,hd,vs,rel,dd⟩:=dk_of I.hok e;have hz:vs.length<=sizeLine:=by rw[<- rel.length];exact z
  have hl:(putK kvs k v).length<=sizeLine:=by have:=zlg kvs k v;omega
  refine wpAny_setItem_pairs (hsz:=hz) (kV_is ry) dd fun h' dd' hs=>h _ ?_
  have he:∃q,h'.get? a=some q:=let ⟨q,_,_,hq,_⟩:=dd';⟨q,hq⟩;exact d_write I (by rw[e];exact True.intro) hs he (dk_new hl hd (rel.put k rv) dd')
 ·subst ey eH;cases (show u=Value.ref b from ry);obtain⟨z,hd,xs,rel,dd⟩:=dt_of I.hok e;have hz:xs.length<=sizeLine:=by rw[<- ye4 rel];exact z
  have hl:(putK kvs k v).length<=sizeLine:=by have:=zlg kvs k v;omega
  refine wpAny_setItem_heap (hsz:=hz) (tupleKind_room_in1 hu) (key_of I.hok eb) dd fun h' dd' hs=>h _ ?_
  obtain⟨q,es,ep,hq,h2,h3,h4,_,h5⟩:=dd';refine d_write I (by rw[e];exact True.intro) hs ⟨q,hq⟩ ⟨hl,hd,_,(rel.put k eb rv).keeps fun c ys ec=>?_,q,es,ep,hq,h2,h3,h4,h5⟩
  rw[zaj (ne_of ec e (fun z=>nomatch z))]
  exact ec
end
section
variable {X:Cx}{pins:List (Addr×Obj)}{σ:St}{H:Hp}{s:Shared}{a:Addr}{kvs:List (Key×V)}{k:Key}{u:Value}{A:Around}{E:Value->Shared->Prop}
end
section
variable {X:Cx}{o i e value:Expr}{pos pos' tpos:Pos}{td ty tv:TE}
end
theorem dk_empty{P:Program}{w:World}{H:Hp}(h:Heap)(hb:sysModules<h.objs.size):zbp P w H (h.push { cls:=.type "dict",data:=.dict #[] }) h.objs.size (.dK []) :=
 ⟨ybi _,beq_eq_false_iff_ne.mpr (yb8 (yau hb)),[],.nil,Heap.DictOf.new h⟩
section
variable {X:Cx}{pos:Pos}
end
section
variable {X:Cx}{pins:List (Addr×Obj)}{σ:St}{H:Hp}{s:Shared}{a:Addr}{y d:V}{u r:Value}{o:Option V}{A:Around}{E:Value->Shared->Prop}
end
section
variable {X:Cx}{o e f:Expr}{apos cpos:Pos}{td ty tx:TE}
end
section
variable {X:Cx}{pins:List (Addr×Obj)}{σ:St}{H:Hp}{s:Shared}{a:Addr}{kvs:List (Key×V)}{A:Around}{E:Value->Shared->Prop}
end
section
variable {X:Cx}{pins:List (Addr×Obj)}{σ:St}{H:Hp}{s:Shared}{a:Addr}{y:V}{u:Value}{A:Around}{E:Value->Shared->Prop}
end
end L2
namespace Zm
def gd(a b:Int):Int:=(Int.gcd a b:Nat)
def lt(t b:Int):Int:=t.fdiv (gd t b)
theorem sum_le{n m t b u c:Int}(hb:0<b)(hc:0<c)(h1:t<=n * b)(h2:u<=m * c):t * c+u * b<=(n+m) * (b * c):=by
 have e1:=ycj h1 (yec hc);have e2:=ycj h2 (yec hb)
 have e3:(n+m) * (b * c)=n * b * c+m * c * b:=by
  rw[Int.add_mul,Int.mul_assoc,Int.mul_assoc,Int.mul_comm c b]
 omega
def sg(t b:Int):Int:=if b<0 then -(gd t b) else gd t b
end Zm
namespace Zw
open PySem PySem.Spec PyProof.Rows L2
def Sm(i:Int):Prop:=-(10 ^ 70)<i/\i<10 ^ 70
theorem Sm.nat{i:Int}(h:Sm i):i.natAbs<10 ^ 70:=by
 unfold Sm at h
 omega
theorem pow300:10 ^ 70<=2 ^ 300:=by decide +kernel
theorem Sm.log{i:Int}(h:Sm i):i.natAbs.log2<300:=by
 by_cases z:i.natAbs=0
 ·rw[z]
  decide
 ·exact(Nat.log2_lt z).mpr (yam h.nat pow300)
theorem Sm.bits{i:Int}(h:Sm i):Builtin.Int.intBits i<=2 ^ 20:=by
 have q:=h.log;have e20:(2:Nat) ^ 20=1048576:=by decide
 unfold Builtin.Int.intBits;split<;>omega
theorem Sm.of{i:Int}(h1:-(10 ^ 70)<i)(h2:i<10 ^ 70):Sm i:=⟨h1,h2⟩
theorem Sm.abs{i:Int}{m:Nat}(h:i.natAbs<=m)(hm:m<10 ^ 70):Sm i:=by
 constructor<;>omega
section
variable {X:Cx}
theorem op_mulS:OpR X (binaryOp .Mult) (rI (fun i j=>Sm i/\Sm j) fun i j=>.int (i * j)):=opI fun _ _ _ _ _ _ _ hc q=>mul_int q (.of_bits hc.1.bits hc.2.bits)
theorem op_fdivL:OpR X (binaryOp .FloorDiv) (rI (fun _ j=>j≠0/\Sm j) fun i j=>.int (i.fdiv j)) :=
 opI fun _ _ _ _ _ _ _ hc q=>floordiv_int hc.1 q (.inl (PyProof.noPylong_of_log2 (ybo hc.2.log (by decide))))
theorem isB_val{x:V}{v:Value}{b:Bool}(r:RelV x v):PySem.plainIs v (.bool b)=true/\(v == Value.bool b)=decide (x=V.bl b):=by
 cases x with
 |non=>cases r;exact⟨rfl,by simp⟩
 |bl c=>cases r;exact⟨rfl,by cases c<;>cases b<;>simp⟩
 |int i=>obtain⟨t,rfl⟩:=r;exact⟨rfl,by simp⟩
 |str i=>obtain⟨t,rfl⟩:=r;exact⟨rfl,by simp⟩
 |byt i=>obtain⟨t,rfl⟩:=r;exact⟨rfl,by simp⟩
 |flt i=>obtain⟨t,rfl⟩:=r;exact⟨rfl,by simp⟩
 |ref i=>cases r;exact⟨rfl,by simp⟩
 |ty i=>cases r;exact⟨rfl,by simp⟩
theorem op_isB:OpR X (compareOp .Is) (fun x y H Q=>∃b,y=.bl b/\Q (.bl (decide (x=.bl b))) H):=by
 intro pins s σ H x y v u Q I rx ry h;obtain⟨b,rfl,q⟩:=h;cases ry;obtain⟨e1,e2⟩:=isB_val (b:=b) rx;exact wpAny_is_plain e1 (fin_bl I q e2.symm)
theorem op_notB:OpR X (compareOp .IsNot) (fun x y H Q=>∃b,y=.bl b/\Q (.bl (!decide (x=.bl b))) H):=by
 intro pins s σ H x y v u Q I rx ry h;obtain⟨b,rfl,q⟩:=h;cases ry;obtain⟨e1,e2⟩:=isB_val (b:=b) rx;exact wpAny_isNot_plain e1 (fin_bl I q (by rw[e2]))
theorem call_isT{c:String}:zbx X (.builtin "isinstance") (fun xs H Q=>∃x t b,xs=[x,.ty c]/\TyOf X.K H x t/\PySem.W.kitOne X.K t (.type c)=some b/\Q (.bl b) H):=by
 intro pins s σ H xs us Q I r h;obtain⟨x,t,b,rfl,ty,e,q⟩:=h;obtain⟨u,w',rfl,rx,ry⟩:=vals2 r;cases ry;exact isinst_ok I rx ty e fun tk=>⟨.bl b,H,I.tok _,rfl,q⟩
end
section
variable {X:Cx}
end
section
variable {X:Cx}{pos:Pos}
end
section
variable {X:Cx}
end
theorem kitMeta_int:PySem.W.kitMeta "int"=true:=by decide +kernel
theorem kitMeta_bool:PySem.W.kitMeta "bool"=true:=by decide +kernel
theorem kitMeta_tuple:PySem.W.kitMeta "tuple"=true:=by decide +kernel
theorem kit_same(K:PySem.W.Frag)(c:String):PySem.W.kitOne K (.type c) (.type c)=some true:=by
 unfold PySem.W.kitOne;rw[if_pos (by simp)]
theorem kit_ne(K:PySem.W.Frag){t c:String}{l:List Value}{b:Bool}(h:t≠c)(hm:PySem.W.kitMeta c=true)(hl:(fastBuiltinMro t).map (·.contains (Value.type c))=some b):PySem.W.kitOne K (.type t) (.type c)=some b:=by
 unfold PySem.W.kitOne;rw[if_neg (by simpa using h)]
 unfold PySem.W.kitCls;show(if PySem.W.kitMeta c=true then PySem.W.subIn K (.type t) (.type c) else none)=some b
 rw[if_pos hm];exact hl
inductive Known(H:Hp):V->Prop where
 |non:Known H .non
 |bl (b:Bool):Known H (.bl b)
 |int (i:Int):Known H (.int i)
 |str (x:Str):Known H (.str x)
 |lst {p:Addr} {xs:List V} (e:H p=some (.lst xs)):Known H (.ref p)
 |tup {p:Addr} {xs:List V} (e:H p=some (.tup xs)):Known H (.ref p)
 |dic {p:Addr} {kvs:List (Key×V)} (e:H p=some (.dK kvs)):Known H (.ref p)
theorem Known.same{H H':Hp}{x:V}(h:Known H x)(s:zbe H H'):Known H' x:=by
 cases h with
 |non=>exact .non
 |bl b=>exact .bl b
 |int i=>exact .int i
 |str y=>exact .str y
 |lst e=>exact .lst (s _ _ e)
 |tup e=>exact .tup (s _ _ e)
 |dic e=>exact .dic (s _ _ e)
set_option genInjectivity false in
structure FunD(K:PySem.W.Frag)(x qual:Str)(st:Stmt)(f:Addr)(fd:FuncData):Prop where
 ex:∃(oc:Value) (od:Option Addr) (dV kV doc pm:Value) (an:Option Addr) (cdv ct:Value) (osl:Array (Option Value)),
  fd=PySem.W.fnOf x qual (zgu st) (zaa st) (za2 st) dV kV doc pm an cdv ct/\K.lookup f=some ⟨oc,od,.func fd,osl⟩/\PySem.W.codeIn K cdv qual=true
 kp:PySem.W.keepIn K (.ref f)=true
theorem FunD.ok{P:Program}{w:World}{K:PySem.W.Frag}{mg:Str->Option Value}{base:Heap}{x qual:Str}{st:Stmt}{f:Addr}{fd:FuncData}{N ps:List Str}{k:Nat}{sp:Sp}(F:FunD K x qual st f fd)(S:FnScope N ps (za2 st))(len:∀vs H Q E,sp vs H Q E->vs.length=ps.length)
  (hbody : ∀ (cdv : Value) (A : Around) (outer : List Env) (s : Shared) (H : Hp) (vs : List V) (Q : VK) (E : XK), Room k (A.deeper (envOfC qual (za2 st) s.heap.objs.size f cdv)) -> sp vs H Q E ->
   ∃t,PSs (cxOf CX0 P w K mg base N qual (za2 st) f cdv A outer s H E).nox (zaa st) t/\t { nx:=fun _ H'=>Q .non H',rt:=Q } (start N vs) H):FnOk P w K mg base CX0 (k+1) f fd ps sp:=by
 obtain⟨oc,od,dV,kV,doc,pm,an,cdv,ct,osl,rfl,lk,hcd⟩:=F.ex;refine fn_of lk hcd S len fun A outer s H vs Q E hr hsp=>?_
 obtain⟨t,h,q⟩:=hbody cdv A outer s H vs Q E hr hsp;exact⟨t,h.nox,q⟩
theorem zel{K:PySem.W.Frag}{x qual:Str}{st:Stmt}{f:Addr}{oc:Value}{od an:Option Addr}{osl:Array (Option Value)}{dV kV doc pm cdv ct:Value}(l:K.lookup f=some ⟨oc,od,.func (PySem.W.fnOf x qual (zgu st) (zaa st) (za2 st) dV kV doc pm an cdv ct),osl⟩)
  (c:PySem.W.codeIn K cdv qual=true) (k:PySem.W.keepIn K (.ref f)=true):FunD K x qual st f (PySem.W.fnOf x qual (zgu st) (zaa st) (za2 st) dV kV doc pm an cdv ct):=⟨⟨oc,od,dV,kV,doc,pm,an,cdv,ct,osl,rfl,l,c⟩,k⟩
set_option genInjectivity false in
structure Tx(K:PySem.W.Frag)(mg:Str->Option Value)(x:Str)(st:Stmt)(ps:List Str) where
 f:Addr
 fd:FuncData
 F:FunD K x x st f fd
 m:mg x=some (.ref f)
 b:zgy K fd ps []
structure Def(P:Program)(w:World)(K:PySem.W.Frag)(mg:Str->Option Value)(base:Heap)(k:Nat)(x:Str)(ps:List Str)(sp:Sp) where
 f:Addr
 fd:FuncData
 ok:FnOk P w K mg base CX0 k f fd ps sp
 m:mg x=some (.ref f)
 kp:PySem.W.keepIn K (.ref f)=true
 b:zgy K fd ps []
section
variable {X:Cx}{k j:Nat}{x:Str}{ps:List Str}{sp:Sp}{p pos:Pos}{e:Expr}{es:List Expr}{t:TA}
theorem pd(D:Def X.prog X.w X.K X.mg X.base k x ps sp)(hr:Room j X.A)(ha:PA X (e::es) t)(hk:k<=j:=by decide)(hg:Gl X x:=by rfl)(hdb:(x == ("__debug__":Str))=false:=by decide)
  (he:starEach (e::es) X.env=(false,eval e X.env)::starEach es X.env:=by rfl) (hpl:(backTo pos (starEach es X.env)).any (·.1)=false:=by rfl) :
  PE X (.Call (.Name x p) (e::es) [] pos) (tCall sp [] E0 t):=pe_call D.ok (hr.mono hk) hg D.m D.kp D.b .nil pass0 ha hdb he hpl
end
theorem zki{H:Hp}{p:Addr}(h:H p=none)(o:HO):zbe H (upd H p o):=fun b u q=>by
 rw[zaj (zah q h)];exact q
def Fra(H:Hp)(p:Addr)(a b:Int):Prop:=H p=some (.tup [.int a,.int b])
theorem Fra.same{H H':Hp}{p:Addr}{a b:Int}(h:Fra H p a b)(s:zbe H H'):Fra H' p a b:=s _ _ h
theorem Fra.new{H:Hp}{p:Addr}{a b:Int}:Fra (upd H p (.tup [.int a,.int b])) p a b:=zau
theorem sz{n:Nat}(h:n<=1000:=by exact Nat.le_of_ble_eq_true rfl):n<=sizeLine:=yd1 (small1000 h)
def compCx(X:Cx)(scope:Scope)(cl:List (Str×Addr))(N':List Str)(C:Addr)(s₀:Shared)(H₀:Hp)(ex:List Addr):Cx :=
 { X with N:=N',s₀:=s₀,H₀:=H₀,env:=compEnvC scope cl C X.env,outer:=X.stack,ex:=ex,fn:=fun _=>false,xe:=fun _ _=>False }
theorem HOk.adopt{P:Program}{w:World}{H:Hp}{h:Heap}{a:Addr}{o:HO}(x:HOk P w H h)(hn:H a=none)(new:zbp P w (upd H a o) h a o):HOk P w (upd H a o) h:=fun b u e=>by
 by_cases hb:b=a
 ·subst hb;rw[zau]at e;cases e;exact new
 ·rw[zaj hb]at e;exact(x b u e).stay (fun c v _ q=>q) (fun c q=>by rw[zaj (zah q hn)];exact q) fun c xs q=>by rw[zaj (zah q hn)];exact q
section
variable {X:Cx}{elt iter tg:Expr}{scope:Scope}{pos:Pos}{cl:List (Str×Addr)}{N':List Str}{wi:TI}{g:TG}{te:TE}
end
end Zw
namespace Zx
open PySem PySem.Spec PyProof.Rows L2 Zw
def FlyX(B:Heap)(l:List Env)(a:Addr)(cls a0:Value)(h:Heap):Prop:=∃fl,B.StaysIn h/\B.get? a=none/\h.FunFrames B l/\h.TracedAtW B a cls a0 fl
theorem flyX{B h:Heap}{l:List Env}{a:Addr}{cls a0:Value}(x:Heap.FlyingW B l a cls a0 h):FlyX B l a cls a0 h:=⟨.none,x⟩
section
variable {M:Model}{A:Around}{E:Value->Shared->Prop}{s:Shared}{B:Heap}{env v:Env}{l:List Env}{L a:Addr}{cls a0:Value}{Q:Unit->Shared->Prop}
theorem noteX(hfr:A.frames=some (v::l))(hv:env.frame=v.frame)(hL:v.frame=some L)(hx:FlyX B (v::l) a cls a0 s.heap)(hQ:∀h',Heap.HeldW B (v::l) a cls a0 L h'->s.heap.UpToSlots h'->Q () { s with heap:=h' }):wpAny M A (noteFrame (.ref a) env) Q E s:=by
 have en:noteFrame (.ref a) env=noteFrame (.ref a) v:=by
  unfold noteFrame PySem.frameOf;rw[hv]
 rw[en];obtain⟨fl,f1,f2,f3,f4⟩:=hx
 by_cases hfl:fl=rawInt L
 ·subst hfl;exact wpAny_noteFrame_againW hL f4 (hQ _ ⟨f1,f2,f3,f4⟩ (.refl _))
 ·obtain⟨oe,ws,Tb,oT,ts,ha,⟨rfl,g0⟩,hd,g1,nT,Tne,hT,dT,g3⟩:=f4;have g3s:=(yc9.mp g3).1;have oth:∀b,b≠Tb->(s.heap.update Tb (Obj.mapFields (·.setIfInBounds 3 Value.none))).get? b=s.heap.get? b:=fun b hb=>yc4 _ _ (yb8 hb)
  have nr:∀b o,s.heap.get? b=some o->(∀us,o.data≠.fields us)->b≠Tb:=fun b o hb hn z=>by
   rw[z,hT]at hb;cases hb;exact hn ts dT
  unfold noteFrame;simp only[hL];refine wpAny_bind (wpAny_field ha hd g1 ?_);rw[if_pos (by simp)]
  refine wpAny_bind (wpAny_field hT dT g3 ?_);rw[if_neg (fun z=>hfl (beq_iff_eq.mp z))]
  refine wpAny_bind (wpAny_setField hT dT g3s ?_);refine wpAny_entryW hfr (f3.of_keeps fun b o hb hn=>⟨o,(oth b (nr b o hb hn)).trans hb,rfl⟩) hL ((oth a (yb8 Tne)).trans ha) (fun b o hb=>(oth b fun z=>by rw[z,nT]at hb;cases hb).trans (f1 b o hb)) f2 hd (yc9.mp g1).1 g0 fun h' k=>?_
  obtain⟨k1,k2,k3,k4⟩:=k;exact hQ h' ⟨k1,f2,k2,k3⟩ fun b o hb hn=>k4 b o ((oth b (nr b o hb hn)).trans hb) hn
theorem leavX(hfr:A.frames=some (v::l))(hL:v.frame=some L)(hx:FlyX B (v::l) a cls a0 s.heap)(hQ:∀h',Heap.FlyingW B l a cls a0 h'->s.heap.UpToSlots h'->Q () { s with heap:=h' }):wpAny M A (leaving v (.ref a)) Q E s:=by
 unfold leaving;refine wpAny_bind (noteX hfr rfl hL hx fun h1 hh sm1=>wpAny_landsW hh fun h2 hf sm2=>?_)
 obtain⟨k1,k2,⟨_,_,k3⟩,k4⟩:=hf;exact hQ h2 ⟨k1,k2,k3,k4⟩ (sm1.trans sm2)
end
def CX1(P:Program)(w:World):CXT:=fun outer H s E e s'=>∃(a:Addr) (cls:Value) (H':Hp) (B:Heap) (a0:Value),
 e=.ref a/\s'.os=s.os/\AllBare s'.gens/\Un (frs outer) [] H H' s.heap s'.heap/\HOk P w H' B/\(∀b o,s.heap.get? b=some o->H b=none->b∉frs outer->B.get? b=some o) /\
 (∀b o,s.heap.get? b=some o->b∉frs outer->∃o',B.get? b=some o')/\FlyX B outer a cls a0 s'.heap/\E cls none H'
theorem there_of{P:Program}{w:World}{H:Hp}{h:Heap}{a:Addr}{o:HO}(x:zbp P w H h a o):∃ob,h.get? a=some ob:=by
 cases o with
 |lst xs=>obtain⟨_,_,_,_,e⟩:=x;exact⟨_,e⟩
 |tup xs=>obtain⟨_,_,_,o',e,_⟩:=x;exact⟨o',e⟩
 |dK kvs=>obtain⟨_,_,_,_,o',_,_,e,_⟩:=x;exact⟨o',e⟩
 |dT kvs=>obtain⟨_,_,_,_,o',_,_,e,_⟩:=x;exact⟨o',e⟩
 |set S n=>obtain⟨o',_,_,_,e,_⟩:=x;exact⟨o',e⟩
 |ins C dx fs=>obtain⟨_,_,_,e,_⟩:=x;exact⟨_,e⟩
 |own y=>exact x
 |xd fs=>obtain⟨_,⟨o',_,_,e,_⟩,_⟩:=x;exact⟨o',e⟩
 |rng lo hi=>obtain⟨_,_,_,e⟩:=x;exact⟨_,e⟩
 |frz ob u=>obtain⟨e,_⟩:=x;exact⟨_,e⟩
 |tbl ps=>exact⟨_,(show h.get? a=some _ from x)⟩
 |met f y=>exact⟨_,(show h.get? a=some _ from x)⟩
 |ext φ=>obtain⟨_,e,_⟩:=x;exact e
theorem none_of{P:Program}{w:World}{H:Hp}{h:Heap}{a:Addr}(x:HOk P w H h)(e:h.get? a=none):H a=none:=by
 cases q:H a with
 |none=>rfl
 |some u =>
  obtain⟨ob,z⟩:=there_of (x a u q);rw[e]at z;cases z
def zbk(X:Cx)(E:L2.St->XK):Prop:=∀(pins:List (Addr×Obj)) (σ:L2.St) (H:Hp) (s:Shared) (e:Value) (s':Shared),Inv X pins σ H s->CX1 X.prog X.w X.stack H s (E σ) e s'->X.xe e s'
def MadeS(X:Cx)(E:L2.St->XK):Prop:=∀(pins:List (Addr×Obj)) (σ:L2.St) (H:Hp) (s:Shared) (a:Addr) (cls:Value) (vs:List Value) (h':Heap),Inv X pins σ H s->Heap.MadeExcOf s.heap h' a cls vs->E σ cls none H->X.xe (.ref a) { s with heap:=h' }
section
variable {X:Cx}{pins:List (Addr×Obj)}{σ:L2.St}{H:Hp}{s:Shared}
theorem noframe(I:Inv X pins σ H s){b:Addr}{o:Obj}(e:X.s₀.heap.get? b=some o)(hb:b∉frs X.outer):b∉frs X.stack:=fun z=>by
 rcases ya7.mp (I.stkSub b z) with q|q
 ·exact absurd (yam (yae e) I.ok.above) (by rw[q];exact yb3 _)
 ·exact hb q
theorem stack_sub(hst:X.stack=X.env::X.outer){b:Addr}(hb:b∈frs X.outer):b∈frs X.stack:=by
 rw[hst];obtain⟨v,h1,h2⟩:=yc7.mp hb;exact yc7.mpr ⟨v,ya9 _ h1,h2⟩
theorem hid_ok(I:Inv X pins σ H s):HOk X.prog X.w H (PySem.W.hideAll s.heap (frs X.stack)):=fun b u e=>(I.hok b u e).stay (fun c v hc q=>yc1 _ q fun z=>by
  have f:=I.stkFree c z
  rcases hc with y|y
  ·rw[y,e]at f;cases f
  ·rw[y]at f;cases f) (fun _ q=>q) fun _ _ q=>q
theorem made_ok(hst:X.stack=X.env::X.outer)(hf:X.env.frame=some X.env.locals)(hex:X.ex=[]){E:XK}{a:Addr}{cls:Value}{vs:List Value}{h':Heap}{Ex:Value->Shared->Prop}(I:Inv X pins σ H s)(hx:Heap.MadeExcOf s.heap h' a cls vs)(he:E cls none H) :
  wpAny (model X.prog X.w) X.A (leaving X.env (.ref a)) (fun _ s2=>CX1 X.prog X.w X.outer X.H₀ X.s₀ E (.ref a) s2) Ex { s with heap:=h' }:=by
 have nex:∀b:Addr,b∉X.ex:=fun b z=>by rw[hex]at z;cases z
 have hfr:X.A.frames=some (X.env::X.outer):=hst▸I.ok.frames
 have FF:s.heap.FunFrames (PySem.W.hideAll s.heap (frs X.stack)) (X.env::X.outer):=by
  rw[<- hst];exact PySem.W.funFrames_hide I.stack fun v hv b hb=>yc7.mpr ⟨v,hv,hb⟩
 refine wpAny_leaves_madeW (base:=PySem.W.hideAll s.heap (frs X.stack)) (h:=s.heap) (args:=vs) hfr hf (fun b o q=>ych _ q) FF hx fun h2 t fl _ _ sm=>?_
 have kB:∀b o,X.s₀.heap.get? b=some o->X.H₀ b=none->b∉frs X.outer->(PySem.W.hideAll s.heap (frs X.stack)).get? b=some o:=fun b o e n hb=>yc1 _ (I.base.keep b o e n hb (nex b)) (noframe I e hb)
 have tB:∀b o,X.s₀.heap.get? b=some o->b∉frs X.outer->∃o',(PySem.W.hideAll s.heap (frs X.stack)).get? b=some o':=fun b o e hb=>by
  obtain⟨o',e'⟩:=I.base.there b o e (nex b);exact⟨o',yc1 _ e' (noframe I e hb)⟩
 have sl:∀b o,X.s₀.heap.get? b=some o->X.H₀ b=none->b∈frs X.outer->∃z,h2.get? b=some { o with slots:=z }:=fun b o e n hb=>by
  obtain⟨z,e1⟩:=I.base.slot b o e n hb (nex b);obtain⟨_,o2,ho2,hd⟩:=I.funs.mem hb;rw[e1]at ho2;cases ho2;obtain⟨z3,e3⟩:=sm b { o with slots:=z } (hx.keeps b _ e1) hd
  exact⟨z3,e3⟩
 refine⟨a,cls,H,_,_,rfl,I.os,I.bare,⟨fun b o e n hb _=>fl.1 b o (kB b o e n hb),fun b o e n hb _=>sl b o e n hb,fun b o e n _=>I.base.free b o e n (nex b),fun b o e _=>?_,I.base.tups,I.base.frzs,I.base.tbls⟩,hid_ok I,kB,tB,flyX fl,he⟩
 by_cases hb:b∈frs X.outer
 ·obtain⟨z,q⟩:=sl b o e (I.ok.frf b hb) hb;exact⟨_,q⟩
 ·obtain⟨o',q⟩:=tB b o e hb;exact⟨o',fl.1 b o' q⟩
theorem pass_ok(hst:X.stack=X.env::X.outer)(hf:X.env.frame=some X.env.locals)(hex:X.ex=[]){E:XK}{e:Value}{s':Shared}{Ex:Value->Shared->Prop}(I:Inv X pins σ H s)(h:CX1 X.prog X.w X.stack H s E e s') :
  wpAny (model X.prog X.w) X.A (leaving X.env e) (fun _ s2=>CX1 X.prog X.w X.outer X.H₀ X.s₀ E e s2) Ex s':=by
 obtain⟨a,cls,H',B,a0,rfl,os,bare,un,hok,kB0,tB0,fl0,he⟩:=h;have nex:∀b:Addr,b∉X.ex:=fun b z=>by rw[hex]at z;cases z
 have hfr:X.A.frames=some (X.env::X.outer):=hst▸I.ok.frames;have fl1:FlyX B (X.env::X.outer) a cls a0 s'.heap:=hst▸fl0;refine leavX hfr hf fl1 fun h2 fl sm=>?_
 have kB:∀b o,X.s₀.heap.get? b=some o->X.H₀ b=none->b∉frs X.outer->B.get? b=some o:=fun b o e n hb=>kB0 b o (I.base.keep b o e n hb (nex b)) (I.base.free b o e n (nex b)) (noframe I e hb)
 have tB:∀b o,X.s₀.heap.get? b=some o->b∉frs X.outer->∃o',B.get? b=some o':=fun b o e hb=>by
  obtain⟨o',e'⟩:=I.base.there b o e (nex b);exact tB0 b o' e' (noframe I e hb)
 have sl:∀b o,X.s₀.heap.get? b=some o->X.H₀ b=none->b∈frs X.outer->∃z,h2.get? b=some { o with slots:=z }:=fun b o e n hb=>by
  obtain⟨z,e1⟩:=I.base.slot b o e n hb (nex b);obtain⟨_,o2,ho2,hd⟩:=I.funs.mem hb;rw[e1]at ho2;cases ho2;obtain⟨z2,e2⟩:=un.slot b { o with slots:=z } e1 (I.base.free b o e n (nex b)) (stack_sub hst hb) (by simp)
  obtain⟨z3,e3⟩:=sm b { o with slots:=z2 } e2 hd
  exact⟨z3,e3⟩
 refine⟨a,cls,H',B,a0,rfl,os.trans I.os,bare,⟨fun b o e n hb _=>fl.1 b o (kB b o e n hb),fun b o e n hb _=>sl b o e n hb,fun b o e n _=>?_,fun b o e _=>?_,fun b xs e=>un.tups b xs (I.base.tups b xs e),fun b o u e=>un.frzs b o u (I.base.frzs b o u e),fun b ps e=>?_⟩,hok,kB,tB,flyX fl,he⟩
 ·obtain⟨o',e'⟩:=I.base.there b o e (nex b);exact un.free b o' e' (I.base.free b o e n (nex b)) (by simp)
 ·by_cases hb:b∈frs X.outer
  ·obtain⟨z,q⟩:=sl b o e (I.ok.frf b hb) hb;exact⟨_,q⟩
  ·obtain⟨o',q⟩:=tB b o e hb;exact⟨o',fl.1 b o' q⟩
 ·obtain⟨m1,e1⟩:=I.base.tbls b ps e;obtain⟨m2,e2⟩:=un.tbls b _ e1;exact⟨m1++m2,e2.trans (by rw[ye1])⟩
end
section
variable {P:Program}{w:World}{K:PySem.W.Frag}{mg:Str->Option Value}{base:Heap}
theorem passD{N:List Str}{qual:Str}{sc:Scope}{f:Addr}{cd:Value}{A:Around}{outer:List Env}{s:Shared}{H:Hp}{E:XK}:zbk (cxOf (CX1 P w) P w K mg base N qual sc f cd A outer s H E) (fun _=>E) :=
 fun _ _ _ _ _ _ I h=>pass_ok rfl rfl rfl I h
theorem madeD{N:List Str}{qual:Str}{sc:Scope}{f:Addr}{cd:Value}{A:Around}{outer:List Env}{s:Shared}{H:Hp}{E:XK}:MadeS (cxOf (CX1 P w) P w K mg base N qual sc f cd A outer s H E) (fun _=>E) :=
 fun _ _ _ _ _ _ _ _ I hx he=>made_ok rfl rfl rfl I hx he
theorem okX{x qual:Str}{st:Stmt}{f:Addr}{fd:FuncData}{N ps:List Str}{k:Nat}{sp:Sp}(F:FunD K x qual st f fd)(S:FnScope N ps (za2 st))(len:∀vs H Q E,sp vs H Q E->vs.length=ps.length)
  (hbody : ∀ (cdv : Value) (A : Around) (outer : List Env) (s : Shared) (H : Hp) (vs : List V) (Q : VK) (E : XK), Room k (A.deeper (envOfC qual (za2 st) s.heap.objs.size f cdv)) -> sp vs H Q E ->
   ∃t,PSs (cxOf (CX1 P w) P w K mg base N qual (za2 st) f cdv A outer s H E) (zaa st) t/\t { nx:=fun _ H'=>Q .non H',rt:=Q } (start N vs) H):FnOk P w K mg base (CX1 P w) (k+1) f fd ps sp:=by
 obtain⟨oc,od,dV,kV,doc,pm,an,cdv,ct,osl,rfl,lk,hcd⟩:=F.ex;exact fn_of lk hcd S len fun A outer s H vs Q E hr hsp=>hbody cdv A outer s H vs Q E hr hsp
end
set_option genInjectivity false in
structure DefX(P:Program)(w:World)(K:PySem.W.Frag)(mg:Str->Option Value)(base:Heap)(k:Nat)(x:Str)(ps:List Str)(sp:Sp) where
 f:Addr
 fd:FuncData
 ok:FnOk P w K mg base (CX1 P w) k f fd ps sp
 m:mg x=some (.ref f)
 kp:PySem.W.keepIn K (.ref f)=true
 b:zgy K fd ps []
section
variable {X:Cx}{k j:Nat}{f:Addr}{fd:FuncData}{x:Str}{ps:List Str}{sp:Sp}{p pos:Pos}{e:Expr}{es:List Expr}{t:TA}{E:L2.St->XK}{dvs:List V}
theorem run_fnX{pins:List (Addr×Obj)}{σ:L2.St}{H:Hp}{s:Shared}{Q:VK}{us ds:List Value}{vs:List V}(F:FnOk X.prog X.w X.K X.mg X.base (CX1 X.prog X.w) k f fd ps sp)(hr:Room k X.A)(hb:zgy X.K fd ps ds)(hd:zb9 dvs ds)(hx:zbk X E)
  (I:Inv X pins σ H s) (r:zb9 vs us) (h:sp (vs++dvs) H Q (E σ)):wpAny (model X.prog X.w) X.A (call (.ref f) us) (EP X pins σ Q) X.xe s:=by
 have r2:zb9 (vs++dvs) (us++ds):=r.append hd;have hl:(us++ds).length=ps.length:=r2.length.symm.trans (F.len _ _ _ _ h);refine wpAny_call (codeAny_mono (F.run X.A X.stack s H ⟨us,[]⟩ (us++ds) (vs++dvs) Q (E σ) hr I.env0 (hb s us I.kIn hl) r2 h) fun r s' hq=>?_)
 cases r with
 |error v=>exact hx pins σ H s v s' I hq
 |ok fl =>
  cases fl with
  |ret u=>exact I.after hq
  |_=>exact False.elim hq
def tCallX(sp:Sp)(dvs:List V)(E:L2.St->XK)(t:TA):TE:=fun σ H Q=>t σ H fun vs H1=>sp (vs++dvs) H1 Q (E σ)
theorem px(D:DefX X.prog X.w X.K X.mg X.base k x ps sp)(hr:Room j X.A)(hx:zbk X E)(ha:PA X (e::es) t)(hk:k<=j:=by decide)(hg:Gl X x:=by rfl)(hdb:(x == ("__debug__":Str))=false:=by decide)
  (he:starEach (e::es) X.env=(false,eval e X.env)::starEach es X.env:=by rfl) (hpl:(backTo pos (starEach es X.env)).any (·.1)=false:=by rfl):PE X (.Call (.Name x p) (e::es) [] pos) (tCallX sp [] E t):=by
 intro pins s σ H Q I h;refine wpAny_Call_Name_kw (zli I hg D.m ?_ hdb);refine yd3 (h₀:=X.base) I.ok.mod.kin D.kp (thn (ha pos pins s σ H _ I h) fun us s1 ⟨vs,H1,I1,r,q⟩=>⟨I1.kIn,?_⟩) he hpl
 exact run_fnX D.ok (hr.mono hk) D.b .nil hx I1 r q
end
abbrev vmro:List Value:=[.type "ValueError",.type "Exception",.type "BaseException",.type "object"]
structure ExcK(K:PySem.W.Frag)(C:Addr):Prop where
 q:PySem.W.excIn K C vmro "ValueError.__new__"=true
 self:PySem.W.subIn K (.ref C) (.ref C)=some true
 cd:∃cd,PySem.W.clsIn K C=some cd
 ty:PySem.W.typeIn K (.ref C)=some (.type "type")
 ga:PySem.W.findIn K (.ref C) "__getattribute__"=some (some (.builtin "BaseException.__getattribute__"))
 gt:PySem.W.findIn K (.ref C) "__getattr__"=some none
 ca:PySem.W.findIn K (.ref C) "__class__"=some (some (.builtin "object.__class__"))
 ob:PySem.W.mroIn K C (.type "object")=some true
 be:PySem.W.mroIn K C (.type "BaseException")=some true
 gs:PySem.W.specialIn K (.builtin "object.__class__") "__get__"=some (some (.builtin "getset_descriptor.__get__"))
 tk:PySem.W.takesIn K (.builtin "object.__class__")=some true
structure ECls(K:PySem.W.Frag)(mg:Str->Option Value)(x:Str) where
 C:Addr
 m:mg x=some (.ref C)
 k:ExcK K C
theorem exc_in{K:PySem.W.Frag}{h:Heap}{C:Addr}{bmB:List Value}{newId:String}(X:K.In h)(q:PySem.W.excIn K C bmB newId=true):∃bm N nm qn bs hd sn sub ab col dd k0 k1 k2 k3 k5 mN,
  h.get? C=some (excClassObj nm qn C N bs bm hd sn sub ab col dd k0 k1 k2 k3 k5 newId)/\h.Ns N mN/\mN "__init__"=none/\OwnTail h bmB bm:=by
 unfold PySem.W.excIn at q;split at q
 ·rename_i dd cd sl ho;split at q
  ·rename_i C2 bm k0 k1 k2 k3 nid k5 hm hs;simp only[yc0,ya3,beq_iff_eq]at q;obtain⟨⟨⟨⟨⟨z1,z2⟩,hdel⟩,ht⟩,hok⟩,hni⟩:=q;subst z1;subst z2;obtain⟨nm,bs,mro,nsp,qn,hd,sn,sub,ab,col,dl⟩:=cd;dsimp only at hm hok hni hdel;subst hm;subst hdel
   have hsl:sl=#[k0,k1,k2,k3,some (.builtin nid),k5]:=by
    obtain⟨l⟩:=sl;have hs':l=[k0,k1,k2,k3,some (.builtin nid),k5]:=hs;rw[hs']
   subst hsl;exact⟨bm,nsp,nm,qn,bs,hd,sn,sub,ab,col,dd,k0,k1,k2,k3,k5,_,X _ _ ho,.of_isNs (PySem.W.isNs_of_in X hok),PySem.W.nsMap_none_of_in X hok hni,PySem.W.tail_of_in X ht⟩
  ·exact absurd q yb7
 ·exact absurd q yb7
section
variable {X:Cx}{x:Str}{p cpos pos:Pos}{e:Expr}{es:List Expr}{t:TA}{E:L2.St->XK}
def tRaise(C:Addr)(E:L2.St->XK)(t:TA):TS:=fun _ σ H=>t σ H fun vs H1=>vs.length<=sizeLine/\E σ (.ref C) none H1
theorem ps_raise(T:ECls X.K X.mg x)(hc:X.calm=true)(hx:MadeS X E)(ha:PA X (e::es) t)(hg:Gl X x:=by rfl)(hdb:(x == ("__debug__":Str))=false:=by decide)
  (he:starEach (e::es) X.env=(false,eval e X.env)::starEach es X.env:=by rfl) (hpl:(backTo cpos (starEach (e::es) X.env)).any (·.1)=false:=by rfl) :
  PS X (.Raise (some (.Call (.Name x p) (e::es) [] cpos)) none pos) (tRaise T.C E t):=by
 intro pins s σ H D I h;obtain⟨bm,N,nm,qn,bs,hd,sn,sub,ab,col,dd,k0,k1,k2,k3,k5,mN,hC,hN,hni,TL⟩:=exc_in I.mod.kin T.k.q
 refine wpAny_Raise_call_subT (C:=T.C) (nm:=nm) (q:=qn) (N:=N) (bs:=bs) (bm:=bm) (hdct:=hd) (sn:=sn) (sub:=sub) (ab:=ab) (col:=col) (dd:=dd) (k0:=k0) (k1:=k1) (k2:=k2) (k3:=k3) (k5:=k5) (mN:=mN)
  PySem.F.excBase_ValueError (TL.hasType PySem.F.excBase_ValueError.hasBase) (I.ok.hd hc) hpl hni (zli I hg T.m ⟨rfl,?_⟩ hdb)
 have h2:=ha cpos pins s σ H _ I h;rw[he]at h2 ⊢;exact ydq (thn h2 fun us s1 ⟨vs,H1,I1,r,z,q1⟩=>⟨rfl,r.length▸z,I1.bk _ _ hC,hN.keeps I1.bk,TL.keeps I1.bk,fun h' a hm=>hx pins σ H1 s1 a _ us h' I1 hm q1⟩)
end
def ExcO(a C:Addr):HO:=.ext fun h=>∃o,h.get? a=some o/\o.cls=.ref C
section
variable {K:PySem.W.Frag}{a C:Addr}
end
section
variable {X:Cx}
end
section
variable {X:Cx}{pins:List (Addr×Obj)}{σ:L2.St}{H:Hp}{s:Shared}{xe:Value->Shared->Prop}
end
section
variable {A:Around}{E:Value->Shared->Prop}{M:Model}
end
section
variable {X:Cx}{i:Nat}{x n:Str}{np pos hpos:Pos}{body suite:List Stmt}{b₀:Stmt}{tb th:TS}{E:L2.St->XK}
end
end Zx
namespace Pu
open PySem PySem.Spec PyProof.Rows L2 Zw Zx
abbrev Rg:=Addr->Prop
def R0:Rg:=fun _=>False
inductive Kd where
 |lst|rl|tup|rt|pin (p:Addr)
inductive Ob where
 |ins (C:Addr) (fs:List Str)|exn (C:Addr)|sdc (ks:List Str)
inductive T where
 |non|bl (b:Bool)|int (i:Int)|str (x:Str)|nd (o:Bool) (k:Kd) (l:List T)|dic (ks:List Int) (l:List T)|pdc (ks:List Int) (l:List T)|odc (ks:List Int) (l:List T)
 |obj (k:Ob) (l:List T)|oob (p C:Addr) (fs:List Str) (l:List T)|osd (ks:List Str) (l:List T)
abbrev T.lst(l:List T):T:=.nd false .lst l
abbrev T.own(l:List T):T:=.nd true .lst l
abbrev T.tup(l:List T):T:=.nd false .tup l
mutual
def T.share:T->T
 |.nd _ k l=>.nd false k (zae l)
 |.dic ks l=>.dic ks (zae l)
 |.pdc ks l=>.pdc ks (zae l)
 |.odc ks l=>.pdc ks (zae l)
 |.obj k l=>.obj k (zae l)
 |.oob _ C fs l=>.obj (.ins C fs) (zae l)
 |.osd ks l=>.obj (.sdc ks) (zae l)
 |.non=>.non
 |.bl b=>.bl b
 |.int i=>.int i
 |.str x=>.str x
def zae:List T->List T
 |[]=>[]
 |t::r=>t.share::zae r
end
mutual
def T.sh:T->Bool
 |.nd o _ l=>!o && shL l
 |.dic _ l=>shL l
 |.pdc _ l=>shL l
 |.odc _ _=>false
 |.obj _ l=>shL l
 |.oob _ _ _ _=>false
 |.osd _ _=>false
 |.non=>true
 |.bl _=>true
 |.int _=>true
 |.str _=>true
def shL:List T->Bool
 |[]=>true
 |t::r=>t.sh && shL r
end
def T.flat:T->Bool
 |.nd _ _ _=>false
 |.dic _ _=>false
 |.pdc _ _=>false
 |.odc _ _=>false
 |.obj _ _=>false
 |.oob _ _ _ _=>false
 |.osd _ _=>false
 |_=>true
theorem zat:∀l:List T,zae l=l.map T.share
 |[]=>rfl
 |t::r=>by rw[zae,zat r];rfl
theorem zaw:∀l:List T,shL l=l.all T.sh
 |[]=>rfl
 |t::r=>by rw[shL,zaw r];rfl
mutual
theorem zbc:∀t:T,t.sh=true->t.share=t
 |.nd o k l,h=>by
  rw[T.sh,ya3]at h;have ho:o=false:=by simpa using h.1
  subst ho;rw[T.share,za1 l h.2]
 |.dic ks l,h=>by
  rw[T.sh]at h;rw[T.share,za1 l h]
 |.pdc ks l,h=>by
  rw[T.sh]at h;rw[T.share,za1 l h]
 |.odc ks l,h=>by
  rw[T.sh]at h;cases h
 |.obj k l,h=>by
  rw[T.sh]at h;rw[T.share,za1 l h]
 |.oob p C fs l,h=>by
  rw[T.sh]at h;cases h
 |.osd ks l,h=>by
  rw[T.sh]at h;cases h
 |.non,_=>rfl
 |.bl _,_=>rfl
 |.int _,_=>rfl
 |.str _,_=>rfl
theorem za1:∀l:List T,shL l=true->zae l=l
 |[],_=>rfl
 |t::r,h=>by
  rw[shL,ya3]at h;rw[zae,zbc t h.1,za1 r h.2]
end
theorem shL_get{l:List T}(h:shL l=true){i:Nat}{t:T}(e:l[i]?=some t):t.sh=true:=by
 rw[zaw]at h;exact yav.mp h _ (yb6 e)
def zn5(K:PySem.W.Frag)(F:Hp)(k:Kd)(p:Addr)(xs:List V):Prop:=match k with
 |.lst=>F p=some (.lst xs)
 |.rl=>SqL K F p xs
 |.tup=>F p=some (.tup xs)
 |.rt=>SqT K F p xs
 |.pin _=>F p=some (.lst xs)
theorem zd1{K:PySem.W.Frag}{F F':Hp}{p:Addr}{xs:List V}(s:zbe F F')(h:SqT K F p xs):SqT K F' p xs:=by
 rcases h with (h|⟨o,h⟩)|h
 ·exact .inl (.inl (s _ _ h))
 ·exact .inl (.inr ⟨o,s _ _ h⟩)
 ·exact .inr h
theorem zn5.same{K:PySem.W.Frag}{F F':Hp}{k:Kd}{p:Addr}{xs:List V}(h:zn5 K F k p xs)(s:zbe F F'):zn5 K F' k p xs:=by
 cases k with
 |lst=>exact s _ _ h
 |rl=>exact s.seq h
 |tup=>exact s _ _ h
 |rt=>exact zd1 s h
 |pin q=>exact s _ _ h
def OwnK(k:Kd)(p:Addr):Prop:=match k with
 |.lst=>True
 |.pin q=>q=p
 |_=>False
theorem OwnK.node{K:PySem.W.Frag}{F:Hp}{k:Kd}{p:Addr}{xs:List V}(hk:OwnK k p)(h:F p=some (.lst xs)):zn5 K F k p xs:=by
 cases k with
 |lst=>exact h
 |pin q=>exact h
 |_=>exact hk.elim
def kvK(ks:List Int)(xs:List V):List (Key×V):=List.zipWith (fun k x=>(Sum.inl k,x)) ks xs
def kvS(ks:List Str)(xs:List V):List (Key×V):=List.zipWith (fun k x=>(Sum.inr k,x)) ks xs
def ObS(F:Hp)(k:Ob)(p:Addr)(xs:List V):Prop:=match k with
 |.ins C fs=>∃dx,F p=some (.ins C dx (fs.zip xs))
 |.exn C=>F p=some (ExcO p C)
 |.sdc ks=>ks.length=xs.length/\F p=some (.dK (kvS ks xs))
theorem ObS.same{F F':Hp}{k:Ob}{p:Addr}{xs:List V}(h:ObS F k p xs)(s:zbe F F'):ObS F' k p xs:=by
 cases k with
 |ins C fs=>exact h.elim fun dx e=>⟨dx,s _ _ e⟩
 |exn C=>exact s _ _ h
 |sdc ks=>exact⟨h.1,s _ _ h.2⟩
inductive Rp(K:PySem.W.Frag)(F H:Hp):T->V->Rg->Prop where
 |non:Rp K F H .non .non R0
 |bl (b:Bool):Rp K F H (.bl b) (.bl b) R0
 |int (i:Int):Rp K F H (.int i) (.int i) R0
 |str (x:Str):Rp K F H (.str x) (.str x) R0
 |shr {k:Kd} {p:Addr} {xs:List V} {l:List T} (h:zn5 K F k p xs) (e:l.length=xs.length) (c:∀(i:Nat) (t:T) (x:V),l[i]?=some t->xs[i]?=some x->Rp K F H t x R0):Rp K F H (.nd false k l) (.ref p) R0
 |dic {p:Addr} {ob:Obj} {ks:List Int} {xs:List V} {l:List T} (h:F p=some (.frz ob (.dK (kvK ks xs)))) (e:l.length=xs.length) (ek:ks.length=xs.length) (c:∀(i:Nat) (t:T) (x:V),l[i]?=some t->xs[i]?=some x->Rp K F H t x R0):Rp K F H (.dic ks l) (.ref p) R0
 |pdc {p:Addr} {ks:List Int} {xs:List V} {l:List T} (h:F p=some (.dK (kvK ks xs))) (e:l.length=xs.length) (ek:ks.length=xs.length) (c:∀(i:Nat) (t:T) (x:V),l[i]?=some t->xs[i]?=some x->Rp K F H t x R0):Rp K F H (.pdc ks l) (.ref p) R0
 |odc {p:Addr} {ks:List Int} {xs:List V} {l:List T} (f:F p=none) (h:H p=some (.dK (kvK ks xs))) (e:l.length=xs.length) (ek:ks.length=xs.length) (c:∀(i:Nat) (t:T) (x:V),l[i]?=some t->xs[i]?=some x->Rp K F H t x R0):Rp K F H (.odc ks l) (.ref p) (fun a=>a=p)
 |obj {k:Ob} {p:Addr} {xs:List V} {l:List T} (h:ObS F k p xs) (e:l.length=xs.length) (c:∀(i:Nat) (t:T) (x:V),l[i]?=some t->xs[i]?=some x->Rp K F H t x R0):Rp K F H (.obj k l) (.ref p) R0
 |oob {C p dx:Addr} {fs:List Str} {xs:List V} {l:List T} (R:Nat->Rg) (f:F p=none) (h:H p=some (.ins C dx (fs.zip xs))) (e:l.length=xs.length) (c:∀(i:Nat) (t:T) (x:V),l[i]?=some t->xs[i]?=some x->Rp K F H t x (R i))
   (d:∀i j a,i≠j->R i a->¬ R j a) (dp:∀i,¬ R i p) (o:∀i a,R i a->i<l.length):Rp K F H (.oob p C fs l) (.ref p) (fun a=>a=p\/∃i,R i a)
 |osd {p:Addr} {ks:List Str} {xs:List V} {l:List T} (f:F p=none) (h:H p=some (.dK (kvS ks xs))) (e:l.length=xs.length) (ek:ks.length=xs.length) (c:∀(i:Nat) (t:T) (x:V),l[i]?=some t->xs[i]?=some x->Rp K F H t x R0):Rp K F H (.osd ks l) (.ref p) (fun a=>a=p)
 |own {k:Kd} {p:Addr} {xs:List V} {l:List T} (hk:OwnK k p) (R:Nat->Rg) (f:F p=none) (h:H p=some (.lst xs)) (e:l.length=xs.length) (c:∀(i:Nat) (t:T) (x:V),l[i]?=some t->xs[i]?=some x->Rp K F H t x (R i))
   (d:∀i j a,i≠j->R i a->¬ R j a) (dp:∀i,¬ R i p) (o:∀i a,R i a->i<l.length):Rp K F H (.nd true k l) (.ref p) (fun a=>a=p\/∃i,R i a)
section
variable {K:PySem.W.Frag}{F F' H H':Hp}{t:T}{x:V}{A:Rg}
theorem Rp.frame(h:Rp K F H t x A)(s:zbe F F')(k:∀a,A a->H' a=H a/\F' a=none):Rp K F' H' t x A:=by
 induction h with
 |non=>exact .non
 |bl b=>exact .bl b
 |int i=>exact .int i
 |str y=>exact .str y
 |shr h e c ih=>exact .shr (h.same s) e fun i t x h1 h2=>ih i t x h1 h2 fun a z=>z.elim
 |dic h e ek c ih=>exact .dic (s _ _ h) e ek fun i t x h1 h2=>ih i t x h1 h2 fun a z=>z.elim
 |pdc h e ek c ih=>exact .pdc (s _ _ h) e ek fun i t x h1 h2=>ih i t x h1 h2 fun a z=>z.elim
 |odc f h e ek c ih =>
  have q:=k _ rfl;exact .odc q.2 (q.1.trans h) e ek fun i t x h1 h2=>ih i t x h1 h2 fun a z=>z.elim
 |obj h e c ih=>exact .obj (h.same s) e fun i t x h1 h2=>ih i t x h1 h2 fun a z=>z.elim
 |oob R f h e c d dp o ih =>
  have q:=k _ (.inl rfl);exact .oob R q.2 (q.1.trans h) e (fun i t x h1 h2=>ih i t x h1 h2 fun a z=>k a (.inr ⟨i,z⟩)) d dp o
 |osd f h e ek c ih =>
  have q:=k _ rfl;exact .osd q.2 (q.1.trans h) e ek fun i t x h1 h2=>ih i t x h1 h2 fun a z=>z.elim
 |own hk R f h e c d dp o ih =>
  have q:=k _ (.inl rfl);exact .own hk R q.2 (q.1.trans h) e (fun i t x h1 h2=>ih i t x h1 h2 fun a z=>k a (.inr ⟨i,z⟩)) d dp o
theorem Rp.dom(h:Rp K F H t x A){a:Addr}(ha:A a):F a=none/\∃u,H a=some u:=by
 induction h with
 |non=>exact ha.elim
 |bl b=>exact ha.elim
 |int i=>exact ha.elim
 |str y=>exact ha.elim
 |shr h e c ih=>exact ha.elim
 |dic h e ek c ih=>exact ha.elim
 |pdc h e ek c ih=>exact ha.elim
 |odc f h e ek c ih =>
  cases ha;exact⟨f,_,h⟩
 |obj h e c ih=>exact ha.elim
 |osd f h e ek c ih =>
  cases ha;exact⟨f,_,h⟩
 |@oob C p dx fs xs l R f h e c d dp o ih =>
  rcases ha with rfl|⟨i,z⟩
  ·exact⟨f,_,h⟩
  ·have hi:=o i a z;have hx:i<xs.length:=by omega
   exact ih i _ _ (ya1 hi) (ya1 hx) z
 |@own k0 p xs l hk R f h e c d dp o ih =>
  rcases ha with rfl|⟨i,z⟩
  ·exact⟨f,_,h⟩
  ·have hi:=o i a z;have hx:i<xs.length:=by omega
   exact ih i _ _ (ya1 hi) (ya1 hx) z
theorem Rp.share(h:Rp K F H t x A)(s:zbe F F')(k:∀a u,A a->H a=some u->F' a=some u):Rp K F' H' t.share x R0:=by
 induction h with
 |non=>exact .non
 |bl b=>exact .bl b
 |int i=>exact .int i
 |str y=>exact .str y
 |@shr k0 p xs l h e c ih =>
  rw[T.share,zat];refine .shr (h.same s) (by rw[ya0];exact e) fun i t x h1 h2=>?_
  rw[yaa]at h1;obtain⟨t0,e0,rfl⟩:=ya2.mp h1;exact ih i t0 x e0 h2 fun a u z=>z.elim
 |@dic p ob ks xs l h e ek c ih =>
  rw[T.share,zat];refine .dic (s _ _ h) (by rw[ya0];exact e) ek fun i t x h1 h2=>?_
  rw[yaa]at h1;obtain⟨t0,e0,rfl⟩:=ya2.mp h1;exact ih i t0 x e0 h2 fun a u z=>z.elim
 |@pdc p ks xs l h e ek c ih =>
  rw[T.share,zat];refine .pdc (s _ _ h) (by rw[ya0];exact e) ek fun i t x h1 h2=>?_
  rw[yaa]at h1;obtain⟨t0,e0,rfl⟩:=ya2.mp h1;exact ih i t0 x e0 h2 fun a u z=>z.elim
 |@odc p ks xs l f h e ek c ih =>
  rw[T.share,zat];refine .pdc (k _ _ rfl h) (by rw[ya0];exact e) ek fun i t x h1 h2=>?_
  rw[yaa]at h1;obtain⟨t0,e0,rfl⟩:=ya2.mp h1;exact ih i t0 x e0 h2 fun a u z=>z.elim
 |@obj k0 p xs l h e c ih =>
  rw[T.share,zat];refine .obj (h.same s) (by rw[ya0];exact e) fun i t x h1 h2=>?_
  rw[yaa]at h1;obtain⟨t0,e0,rfl⟩:=ya2.mp h1;exact ih i t0 x e0 h2 fun a u z=>z.elim
 |@oob C p dx fs xs l R f h e c d dp o ih =>
  rw[T.share,zat];refine .obj (k:=.ins C fs) (xs:=xs) ⟨dx,k _ _ (.inl rfl) h⟩ (by rw[ya0];exact e) fun i t x h1 h2=>?_
  rw[yaa]at h1;obtain⟨t0,e0,rfl⟩:=ya2.mp h1;exact ih i t0 x e0 h2 fun a u z=>k a u (.inr ⟨i,z⟩)
 |@osd p ks xs l f h e ek c ih =>
  rw[T.share,zat];refine .obj (k:=.sdc ks) (xs:=xs) ⟨ek,k _ _ rfl h⟩ (by rw[ya0];exact e) fun i t x h1 h2=>?_
  rw[yaa]at h1;obtain⟨t0,e0,rfl⟩:=ya2.mp h1;exact ih i t0 x e0 h2 fun a u z=>z.elim
 |@own k0 p xs l hk R f h e c d dp o ih =>
  rw[T.share,zat];refine .shr (k:=k0) (xs:=xs) (hk.node (k _ _ (.inl rfl) h)) (by rw[ya0];exact e) fun i t x h1 h2=>?_
  rw[yaa]at h1;obtain⟨t0,e0,rfl⟩:=ya2.mp h1;exact ih i t0 x e0 h2 fun a u z=>k a u (.inr ⟨i,z⟩)
theorem Rp.r0(h:Rp K F H t x A)(s:t.sh=true):A=R0:=by
 cases h with
 |own hk R f h e c d dp o =>
  rw[T.sh]at s;cases s
 |odc f h e ek c =>
  rw[T.sh]at s;cases s
 |oob R f h e c d dp o =>
  rw[T.sh]at s;cases s
 |osd f h e ek c =>
  rw[T.sh]at s;cases s
 |_=>rfl
theorem Rp.move(h:Rp K F H t x A)(s:t.sh=true)(q:zbe F F'):Rp K F' H' t x R0:=by
 have e:=h.r0 s;subst e;exact h.frame q fun a z=>z.elim
theorem Rp.flat_any(h:Rp K F H t x A)(s:t.flat=true):Rp K F' H' t x R0:=by
 cases h with
 |non=>exact .non
 |bl b=>exact .bl b
 |int i=>exact .int i
 |str y=>exact .str y
 |shr h e c=>cases s
 |dic h e ek c=>cases s
 |pdc h e ek c=>cases s
 |odc f h e ek c=>cases s
 |obj h e c=>cases s
 |oob R f h e c d dp o=>cases s
 |osd f h e ek c=>cases s
 |own hk R f h e c d dp o=>cases s
theorem Rp.int_inv{i:Int}(h:Rp K F H (.int i) x A):x=.int i:=by cases h;rfl
theorem Rp.bl_inv{b:Bool}(h:Rp K F H (.bl b) x A):x=.bl b:=by cases h;rfl
theorem Rp.non_inv(h:Rp K F H .non x A):x=.non:=by cases h;rfl
theorem Rp.str_inv{y:Str}(h:Rp K F H (.str y) x A):x=.str y:=by cases h;rfl
end
def Rps(K:PySem.W.Frag)(F:Hp)(ts:List T)(xs:List V):Prop:=ts.length=xs.length/\∀(i:Nat) (t:T) (x:V),ts[i]?=some t->xs[i]?=some x->Rp K F F t x R0
theorem Rps.nil{K:PySem.W.Frag}{F:Hp}:Rps K F [] []:=⟨rfl,fun i t x h=>by simp at h⟩
theorem Rp.any{K:PySem.W.Frag}{F H H':Hp}{t:T}{x:V}(h:Rp K F H t x R0):Rp K F H' t x R0:=h.frame (zbe.refl F) fun a z=>z.elim
theorem Rps.cons{K:PySem.W.Frag}{F H:Hp}{t:T}{x:V}{ts:List T}{xs:List V}(h:Rp K F H t x R0)(r:Rps K F ts xs):Rps K F (t::ts) (x::xs):=by
 refine⟨by simp[r.1],fun i t' x' h1 h2=>?_⟩
 cases i with
 |zero =>
  simp at h1 h2;subst h1;subst h2;exact h.any
 |succ j=>exact r.2 j t' x' (by simpa using h1) (by simpa using h2)
theorem Rps.inv{K:PySem.W.Frag}{F:Hp}{t:T}{ts:List T}{xs:List V}(r:Rps K F (t::ts) xs):∃x xs',xs=x::xs'/\Rp K F F t x R0/\Rps K F ts xs':=by
 obtain⟨e,h⟩:=r;cases xs with
 |nil=>simp at e
 |cons x xs'=>exact⟨x,xs',rfl,h 0 t x rfl rfl,by simpa using e,fun i t' x' h1 h2=>h (i+1) t' x' (by simpa using h1) (by simpa using h2)⟩
theorem Rps.inv0{K:PySem.W.Frag}{F:Hp}{xs:List V}(r:Rps K F [] xs):xs=[]:=by
 obtain⟨e,h⟩:=r;cases xs with
 |nil=>rfl
 |cons x xs'=>simp at e
theorem Rps.same{K:PySem.W.Frag}{F F':Hp}{ts:List T}{xs:List V}(r:Rps K F ts xs)(s:zbe F F'):Rps K F' ts xs:=⟨r.1,fun i t x h1 h2=>((r.2 i t x h1 h2).frame (H':=F') s fun a z=>z.elim)⟩
theorem Rps.node{K:PySem.W.Frag}{F H:Hp}{k:Kd}{p:Addr}{l:List T}{A:Rg}(h:Rp K F H (.nd false k l) (.ref p) A):∃xs,zn5 K F k p xs/\Rps K F l xs:=by
 cases h with
 |shr h e c=>exact⟨_,h,e,fun i t x h1 h2=>(c i t x h1 h2).any⟩
theorem Rp.ref_inv{K:PySem.W.Frag}{F H:Hp}{o:Bool}{k:Kd}{l:List T}{x:V}{A:Rg}(h:Rp K F H (.nd o k l) x A):∃p,x=.ref p:=by
 cases h with
 |shr h e c=>exact⟨_,rfl⟩
 |own hk R f h e c d dp o=>exact⟨_,rfl⟩
theorem Rps.of_node{K:PySem.W.Frag}{F H:Hp}{k:Kd}{p:Addr}{l:List T}{xs:List V}(h:zn5 K F k p xs)(r:Rps K F l xs):Rp K F H (.nd false k l) (.ref p) R0:=.shr h r.1 fun i t x h1 h2=>(r.2 i t x h1 h2).any
structure Ext(F H F' H':Hp)(B:Rg):Prop where
 hh:zbe H H'
 ff:zbe F F'
 fh:zbe F' H'
 nb:∀b,B b->H b=none
 nf:∀b u,F' b=some u->F b=some u\/H b=none
theorem zbl{H H':Hp}(s:zbe H H'){b:Addr}(h:H' b=none):H b=none:=by
 cases e:H b with
 |none=>rfl
 |some u=>rw[s b u e]at h;cases h
section
variable {F H F1 H1 F2 H2:Hp}{B C:Rg}
theorem Ext.refl(s:zbe F H):Ext F H F H R0:=⟨.refl _,.refl _,s,fun _ z=>z.elim,fun _ _ e=>.inl e⟩
theorem Ext.trans(a:Ext F H F1 H1 B)(b:Ext F1 H1 F2 H2 C):Ext F H F2 H2 (fun x=>B x\/C x) where
 hh:=a.hh.trans b.hh
 ff:=a.ff.trans b.ff
 fh:=b.fh
 nb:=fun x z=>z.elim (a.nb x) fun z=>zbl a.hh (b.nb x z)
 nf:=fun x u e=>(b.nf x u e).elim (a.nf x u) fun z=>.inr (zbl a.hh z)
theorem Ext.mono(a:Ext F H F1 H1 B)(h:∀x,C x->B x):Ext F H F1 H1 C:=⟨a.hh,a.ff,a.fh,fun x z=>a.nb x (h x z),a.nf⟩
theorem Ext.trans0(a:Ext F H F1 H1 R0)(b:Ext F1 H1 F2 H2 C):Ext F H F2 H2 C:=(a.trans b).mono fun x z=>.inr z
open Classical in
noncomputable def frz(F H:Hp)(A:Rg):Hp:=fun b=>if A b then H b else F b
theorem zjr{A:Rg}{b:Addr}(h:A b):frz F H A b=H b:=by unfold frz;rw[if_pos h]
theorem zfk{A:Rg}{b:Addr}(h:¬ A b):frz F H A b=F b:=by unfold frz;rw[if_neg h]
theorem zgl{A:Rg}(n:∀a,A a->F a=none):zbe F (frz F H A):=fun b u e=>by
 by_cases h:A b
 ·rw[n b h]at e;cases e
 ·rw[zfk h];exact e
theorem znj{A:Rg}(s:zbe F H):zbe (frz F H A) H:=fun b u e=>by
 by_cases h:A b
 ·rw[zjr h]at e;exact e
 ·rw[zfk h]at e;exact s b u e
theorem Ext.frz(a:Ext F H F1 H1 B)(n:∀b,B b->F1 b=none):Ext F H (frz F1 H1 B) H1 R0 where
 hh:=a.hh
 ff:=a.ff.trans (zgl n)
 fh:=znj a.fh
 nb:=fun _ z=>z.elim
 nf:=fun b u e=>by
  by_cases h:B b
  ·exact .inr (a.nb b h)
  ·rw[zfk h]at e;exact a.nf b u e
theorem Rp.ext{K:PySem.W.Frag}{t:T}{x:V}{A:Rg}(h:Rp K F H t x A)(a:Ext F H F1 H1 B):Rp K F1 H1 t x A:=h.frame a.ff fun b z=>by
 obtain⟨f,u,e⟩:=h.dom z;refine⟨(a.hh b u e).trans e.symm,?_⟩;cases q:F1 b with
 |none=>rfl
 |some u' =>
  rcases a.nf b u' q with z|z
  ·rw[f]at z;cases z
  ·rw[e]at z;cases z
theorem Rp.apart{K:PySem.W.Frag}{t:T}{x:V}{A:Rg}(h:Rp K F H t x A)(a:Ext F H F1 H1 B){b:Addr}(hb:B b):¬ A b:=fun z=>by
 obtain⟨f,u,e⟩:=h.dom z;rw[a.nb b hb]at e;cases e
theorem Ext.new{p:Addr}{o:HO}(s:zbe F H)(h:H p=none):Ext F H (upd F p o) (upd H p o) R0 where
 hh:=zki h o
 ff:=zki (zbl s h) o
 fh:=fun b u e=>by
  by_cases hb:b=p
  ·subst hb;rw[zau]at e ⊢;exact e
  ·rw[zaj hb]at e ⊢;exact s b u e
 nb:=fun _ z=>z.elim
 nf:=fun b u e=>by
  by_cases hb:b=p
  ·subst hb;exact .inr h
  ·rw[zaj hb]at e;exact .inl e
theorem Ext.newO{p:Addr}{o:HO}(s:zbe F H)(h:H p=none):Ext F H F (upd H p o) (fun a=>a=p) where
 hh:=zki h o
 ff:=.refl _
 fh:=fun b u e=>zki h o b u (s b u e)
 nb:=fun b z=>by rw[z];exact h
 nf:=fun b u e=>.inl e
end
abbrev PSt:=List (Option T)
structure StR(K:PySem.W.Frag)(F H:Hp)(σ:L2.St)(τ:PSt)(R:Nat->Rg):Prop where
 fh:zbe F H
 len:σ.length=τ.length
 rep:∀i t,τ[i]?=some (some t)->∃x,σ[i]?=some (some x)/\Rp K F H t x (R i)
 out:∀i a,R i a->∃t,τ[i]?=some (some t)
 dis:∀i j a,i≠j->R i a->¬ R j a
section
variable {K:PySem.W.Frag}{F H F1 H1:Hp}{σ:L2.St}{τ:PSt}{R:Nat->Rg}{B:Rg}
theorem StR.dom(h:StR K F H σ τ R){i:Nat}{a:Addr}(ha:R i a):F a=none/\∃u,H a=some u:=by
 obtain⟨t,e⟩:=h.out i a ha;obtain⟨x,_,r⟩:=h.rep i t e;exact r.dom ha
theorem StR.ext(h:StR K F H σ τ R)(a:Ext F H F1 H1 B):StR K F1 H1 σ τ R where
 fh:=a.fh
 len:=h.len
 rep:=fun i t e=>by
  obtain⟨x,e1,r⟩:=h.rep i t e;exact⟨x,e1,r.ext a⟩
 out:=h.out
 dis:=h.dis
theorem StR.apart(h:StR K F H σ τ R)(a:Ext F H F1 H1 B){b:Addr}(hb:B b)(i:Nat):¬ R i b:=fun z=>by
 obtain⟨f,u,e⟩:=h.dom z;rw[a.nb b hb]at e;cases e
end
end Pu
set_option Elab.async false
set_option linter.all false
set_option maxRecDepth 100000
namespace Pu
open PySem PySem.Spec PyProof.Rows L2 Zw Zx
def keyD:Key->PyData
 |.inl i=>.int i
 |.inr x=>.str x
mutual
def T.data:T->PyData
 |.non=>.none
 |.bl b=>.bool b
 |.int i=>.int i
 |.str x=>.str x
 |.nd _ .lst l=>.list (zbt l)
 |.nd _ .rl l=>.list (zbt l)
 |.nd _ .tup l=>.tuple (zbt l)
 |.nd _ .rt l=>.tuple (zbt l)
 |.nd _ (.pin _) l=>.list (zbt l)
 |.dic ks l=>.dict ((ks.map PyData.int).zip (zbt l))
 |.pdc ks l=>.dict ((ks.map PyData.int).zip (zbt l))
 |.odc ks l=>.dict ((ks.map PyData.int).zip (zbt l))
 |.obj _ _=>.none
 |.oob _ _ _ _=>.none
 |.osd _ _=>.none
def zbt:List T->List PyData
 |[]=>[]
 |t::r=>t.data::zbt r
end
mutual
def T.pln:T->Bool
 |.nd _ _ l=>plnL l
 |.dic _ l=>plnL l
 |.pdc _ l=>plnL l
 |.odc _ l=>plnL l
 |.obj _ _=>false
 |.oob _ _ _ _=>false
 |.osd _ _=>false
 |.non=>true
 |.bl _=>true
 |.int _=>true
 |.str _=>true
def plnL:List T->Bool
 |[]=>true
 |t::r=>t.pln && plnL r
end
theorem zcb:∀{l:List T},plnL l=true->∀{i:Nat} {t:T},l[i]?=some t->t.pln=true
 |[],_,i,t,e=>by simp at e
 |a::r,h,i,t,e=>by
  rw[plnL,ya3]at h;cases i with
  |zero =>
   simp at e;subst e;exact h.1
  |succ i=>exact zcb h.2 (by simpa using e)
theorem zl5{h:Heap}:∀{l:List T} {us:List Value},l.length=us.length->(∀(i:Nat) (t:T) (u:Value),l[i]?=some t->us[i]?=some u->∃as,Reads h u t.data as)->∃as,ReadsAll h us (zbt l) as
 |[],[],_,_=>⟨_,.nil⟩
 |[],_::_,e,_=>by simp at e
 |_::_,[],e,_=>by simp at e
 |t::l,u::us,e,f=>by
  obtain⟨a1,r1⟩:=f 0 t u rfl rfl;obtain⟨a2,r2⟩:=zl5 (l:=l) (us:=us) (by simpa using e) fun i t' u' h1 h2=>f (i+1) t' u' (by simpa using h1) (by simpa using h2)
  exact⟨_,.cons r1 r2⟩
theorem zlk{P:Program}{w:World}{h:Heap}{k:Key}{v:Value}(e:(zbg P w).is k v=true):Reads h v (keyD k) []:=by
 rcases zb2 (show keyIs k v=true from e) with ⟨i,t,rfl,rfl⟩|⟨x,t,rfl,rfl⟩
 ·exact .int i t
 ·exact .str x t
theorem zh7{h:Heap}:∀(ks:List Int) (xs:List V) (l:List T) (vs:List (Key×Value)),KV (kvK ks xs) vs->l.length=xs.length->ks.length=xs.length->(∀(i:Nat) (t:T) (x:V),l[i]?=some t->xs[i]?=some x->∀{u:Value},RelV x u->∃as,Reads h u t.data as) ->
  ∃bs,PyProof.V.PairsRead h keyD vs ((ks.map PyData.int).zip (zbt l)) bs
 |[],xs,l,vs,r,_,_,_=>by
  have r':Paired _ [] vs:=(show Paired _ (kvK [] xs) vs from r);cases r';exact⟨_,.nil⟩
 |k::ks,[],l,vs,r,_,ek,_=>by simp at ek
 |k::ks,x::xs,[],vs,r,e,_,_=>by simp at e
 |k::ks,x::xs,t::l,vs,r,e,ek,f=>by
  have r':Paired (fun(p:Key×V) (q:Key×Value)=>p.1=q.1/\RelV p.2 q.2) ((Sum.inl k,x)::kvK ks xs) vs:=r
  cases r' with
  |@cons _ q _ qs hd tl =>
   obtain⟨a1,r1⟩:=f 0 t x rfl rfl hd.2;obtain⟨a2,r2⟩:=zh7 ks xs l qs tl (by simpa using e) (by simpa using ek) fun i t' x' h1 h2=>f (i+1) t' x' (by simpa using h1) (by simpa using h2)
   obtain⟨q1,q2⟩:=q;cases (show Sum.inl k=q1 from hd.1);exact⟨_,.cons r1 r2⟩
section
variable {X:Cx}{pins:List (Addr×Obj)}{σ:L2.St}{F H:Hp}{s:Shared}
theorem ze2(I:Inv X pins σ H s)(fh:zbe F H){t:T}{x:V}{A:Rg}(h:Rp X.K F H t x A)(hpl:t.pln=true):∀{u:Value},RelV x u->∃as,Reads s.heap u t.data as:=by
 have kids:∀{l:List T} {xs:List V} {its:List Value},zb9 xs its->l.length=xs.length->(∀(i:Nat) (t:T) (x:V),l[i]?=some t->xs[i]?=some x->∀{u:Value},RelV x u->∃as,Reads s.heap u t.data as)->∃as,ReadsAll s.heap its (zbt l) as:=by
  intro l xs its r e ih;refine zl5 (e.trans r.length) fun i t u h1 h2=>?_
  have hi:i<xs.length:=by
   have:=(ya4.mp h1).1
   omega
  obtain⟨u',e1,r1⟩:=r.get (ya1 hi);rw[h2]at e1;cases e1;exact ih i t _ h1 (ya1 hi) r1
 have lsts:∀{p:Addr} {l:List T} {xs:List V},SqL X.K H p xs->l.length=xs.length->(∀(i:Nat) (t:T) (x:V),l[i]?=some t->xs[i]?=some x->∀{u:Value},RelV x u->∃as,Reads s.heap u t.data as)->∃as,Reads s.heap (.ref p) (.list (zbt l)) as:=by
  intro p l xs hq e ih;obtain⟨its,r,⟨o,n,e1,e2,e3,e4⟩,_⟩:=I.list hq;obtain⟨as,ra⟩:=kids r e ih;exact⟨_,.list e1 e2 e4 (by simpa using ra)⟩
 have tups:∀{p:Addr} {l:List T} {xs:List V},SqT X.K H p xs->l.length=xs.length->(∀(i:Nat) (t:T) (x:V),l[i]?=some t->xs[i]?=some x->∀{u:Value},RelV x u->∃as,Reads s.heap u t.data as)->∃as,Reads s.heap (.ref p) (.tuple (zbt l)) as:=by
  intro p l xs hq e ih;obtain⟨its,r,⟨o,e1,e2,n,e4⟩,_⟩:=I.tuple hq;obtain⟨as,ra⟩:=kids r e ih;exact⟨_,.tuple e1 e2 e4 (by simpa using ra)⟩
 induction h with
 |non=>intro u r;cases r;exact⟨_,.none⟩
 |bl b=>intro u r;cases r;exact⟨_,.bool b⟩
 |int i=>intro u r;obtain⟨t,rfl⟩:=r;exact⟨_,.int i t⟩
 |str y=>intro u r;obtain⟨t,rfl⟩:=r;exact⟨_,.str y t⟩
 |@shr k p xs l h e c ih =>
  intro u r;cases r;cases k with
  |lst=>exact lsts (SqL.of (fh _ _ h)) e fun i t x h1 h2=>ih i t x h1 h2 (zcb hpl h1)
  |rl=>exact lsts (fh.seq h) e fun i t x h1 h2=>ih i t x h1 h2 (zcb hpl h1)
  |tup=>exact tups (SqT.of (fh _ _ h)) e fun i t x h1 h2=>ih i t x h1 h2 (zcb hpl h1)
  |rt=>exact tups (zd1 fh h) e fun i t x h1 h2=>ih i t x h1 h2 (zcb hpl h1)
  |pin q=>exact lsts (SqL.of (fh _ _ h)) e fun i t x h1 h2=>ih i t x h1 h2 (zcb hpl h1)
 |@dic p ob ks xs l h e ek c ih =>
  intro u r;cases r;obtain⟨ho,z,hd,vs,rel,dd⟩:=(show zbp X.prog X.w H s.heap p (.frz ob (.dK (kvK ks xs))) from I.hok p _ (fh _ _ h));obtain⟨bs,pr⟩:=zh7 ks xs l vs rel e ek fun i t x h1 h2=>ih i t x h1 h2 (zcb hpl h1)
  exact⟨_,ydh (fun k v q=>zlk q) dd pr⟩
 |@pdc p ks xs l h e ek c ih =>
  intro u r;cases r;obtain⟨z,hd,vs,rel,dd⟩:=(show zbp X.prog X.w H s.heap p (.dK (kvK ks xs)) from I.hok p _ (fh _ _ h));obtain⟨bs,pr⟩:=zh7 ks xs l vs rel e ek fun i t x h1 h2=>ih i t x h1 h2 (zcb hpl h1)
  exact⟨_,ydh (fun k v q=>zlk q) dd pr⟩
 |@odc p ks xs l f h e ek c ih =>
  intro u r;cases r;obtain⟨z,hd,vs,rel,dd⟩:=(show zbp X.prog X.w H s.heap p (.dK (kvK ks xs)) from I.hok p _ h);obtain⟨bs,pr⟩:=zh7 ks xs l vs rel e ek fun i t x h1 h2=>ih i t x h1 h2 (zcb hpl h1)
  exact⟨_,ydh (fun k v q=>zlk q) dd pr⟩
 |obj h e c ih=>cases hpl
 |oob R f h e c d dp o ih=>cases hpl
 |osd f h e ek c ih=>cases hpl
 |@own k0 p xs l hk R f h e c d dp o ih =>
  intro u r;cases r;cases k0 with
  |lst=>exact lsts (SqL.of h) e fun i t x h1 h2=>ih i t x h1 h2 (zcb hpl h1)
  |pin q=>exact lsts (SqL.of h) e fun i t x h1 h2=>ih i t x h1 h2 (zcb hpl h1)
  |_=>exact hk.elim
end
def fitT(t:T):Bool:=t.pln && t.data.canLay0
def eqvT(t u:T):Bool:=PyData.eqv t.data u.data
def eqOk(t u:T):Bool:=fitT t && fitT u && decide (min t.data.depth u.data.depth<=60)
def eqT(t u:T):Option T:=if eqOk t u then some (.bl (eqvT t u)) else none
def neT(t u:T):Option T:=if eqOk t u then some (.bl (!eqvT t u)) else none
def inOk(t:T)(l:List T):Bool:=fitT t && (plnL l && PyData.canLayAll0 (zbt l)) && decide (min (PyData.depthAll (zbt l)) t.data.depth<=60)
def hasT(t:T)(l:List T):Bool:=(zbt l).any fun y=>PyData.eqv y t.data
def inS(t:T)(y:Str):Option T:=match t with
 |.str x=>some (.bl (!(Builtin.Str.occurrences y x 0 y.length 1).isEmpty))
 |_=>none
def inT(t c:T):Option T:=match c with
 |.nd _ _ l=>if inOk t l then some (.bl (hasT t l)) else none
 |.str y=>inS t y
 |_=>none
def zl9(t c:T):Option T:=match c with
 |.nd _ _ l=>if inOk t l then some (.bl (!hasT t l)) else none
 |_=>none
def zmd(K:PySem.W.Frag)(F H:Hp)(v:T)(Q:VK):Prop:=∀F' H' z C,Ext F H F' H' C->Rp K F' H' v z C->Q z H'
def rT2(K:PySem.W.Frag)(g:T->T->Option T):R2:=fun x y H Q=>∃F t u v,zbe F H/\Rp K F F t x R0/\Rp K F F u y R0/\g t u=some v/\zmd K F H v Q
def rT1(K:PySem.W.Frag)(g:T->Option T):V->Hp->VK->Prop:=fun x H Q=>∃F t v,zbe F H/\Rp K F F t x R0/\g t=some v/\zmd K F H v Q
def rTn(K:PySem.W.Frag)(g:List T->Option T):List V->Hp->VK->Prop:=fun xs H Q=>∃F ts v,zbe F H/\Rps K F ts xs/\g ts=some v/\zmd K F H v Q
section
variable {K:PySem.W.Frag}{F H:Hp}{Q:VK}
theorem zmd.int{i:Int}(q:zmd K F H (.int i) Q)(s:zbe F H):Q (.int i) H:=q F H _ _ (Ext.refl s) (.int i)
theorem zmd.bl{b:Bool}(q:zmd K F H (.bl b) Q)(s:zbe F H):Q (.bl b) H:=q F H _ _ (Ext.refl s) (.bl b)
theorem zmd.str{x:Str}(q:zmd K F H (.str x) Q)(s:zbe F H):Q (.str x) H:=q F H _ _ (Ext.refl s) (.str x)
theorem zmd.non(q:zmd K F H .non Q)(s:zbe F H):Q .non H:=q F H _ _ (Ext.refl s) .non
theorem zmd.list{l:List T}{xs:List V}(q:zmd K F H (.own l) Q)(s:zbe F H)(r:Rps K F l xs){p:Addr}(hp:H p=none):Q (.ref p) (upd H p (.lst xs)):=by
 refine q F (upd H p (.lst xs)) (.ref p) _ ((Ext.newO s hp).mono ?_) (.own (k:=.lst) (xs:=xs) trivial (fun _=>R0) (zbl s hp) zau r.1 (fun i t x h1 h2=>?_) (fun _ _ _ _ z=>z.elim) (fun _ z=>z) (fun _ _ z=>z.elim))
 ·rintro a (z|⟨i,z⟩)
  ·exact z
  ·exact z.elim
 ·exact(r.2 i t x h1 h2).any
theorem zmd.tuple{l:List T}{xs:List V}(q:zmd K F H (.tup l) Q)(s:zbe F H)(r:Rps K F l xs){p:Addr}(hp:H p=none):Q (.ref p) (upd H p (.tup xs)):=by
 have e:=Ext.new (o:=.tup xs) s hp;exact q _ _ _ _ e (Rps.of_node (k:=.tup) zau (r.same e.ff))
theorem zmd.same{t:T}{x:V}(q:zmd K F H t Q)(s:zbe F H)(r:Rp K F F t x R0):Q x H:=q F H x _ (Ext.refl s) r.any
end
noncomputable def s64(i:Int):Bool:=@decide (-(2 ^ 64)<i/\i<2 ^ 64) (Classical.propDecidable _)
noncomputable def s70(i:Int):Bool:=@decide (-(10 ^ 70)<i/\i<10 ^ 70) (Classical.propDecidable _)
noncomputable def k63(k:Int):Bool:=@decide (k<2 ^ 63/\-(2 ^ 63)<=k) (Classical.propDecidable _)
noncomputable def zg8(i j:Int):Bool:=s64 i || s64 j || (s70 i && s70 j)
def lim:Nat:=16777216
def zcl:T->T->Option T
 |.int i,.int j=>some (.int (i+j))
 |.str x,.str y=>if x.length+y.length<=lim then some (.str (x++y)) else none
 |.nd _ .lst l,.nd _ .lst m=>if l.length+m.length<=lim then some (.own (l++m)) else none
 |_,_=>none
def subT:T->T->Option T
 |.int i,.int j=>some (.int (i - j))
 |_,_=>none
noncomputable def mulT:T->T->Option T
 |.int i,.int j=>if zg8 i j then some (.int (i * j)) else none
 |.nd _ .lst l,.int k=>if k63 k=true/\l.length * k.toNat<=lim then some (.own (List.replicate k.toNat l).flatten) else none
 |.str x,.int k=>if 0<=k/\k<=1000000/\x.length<=16 then some (.str (Txt.mul x k)) else none
 |_,_=>none
def zhc:T->T->Option T
 |.int i,.int j=>if j≠0 then some (.int (i.fmod j)) else none
 |_,_=>none
noncomputable def zhd:T->T->Option T
 |.int i,.int j=>if j≠0/\s70 j then some (.int (i.fdiv j)) else none
 |_,_=>none
noncomputable def powT:T->T->Option T
 |.int i,.int j=>if 0<=j/\j<=1000000/\s64 i then some (.int (i ^ j.toNat)) else none
 |_,_=>none
def borT:T->T->Option T
 |.int i,.int j=>some (.int (Builtin.bitOr i j))
 |_,_=>none
def bandT:T->T->Option T
 |.int i,.int j=>some (.int (Builtin.bitAnd i j))
 |_,_=>none
def cmpT(f:Int->Int->Bool):T->T->Option T
 |.int i,.int j=>some (.bl (f i j))
 |_,_=>none
def negT:T->Option T
 |.int i=>some (.int (-i))
 |_=>none
theorem s64_iff{i:Int}(h:s64 i=true):-(2 ^ 64)<i/\i<2 ^ 64:=@of_decide_eq_true _ (Classical.propDecidable _) h
theorem s70_iff{i:Int}(h:s70 i=true):Sm i:=@of_decide_eq_true _ (Classical.propDecidable _) h
theorem k63_iff{k:Int}(h:k63 k=true):k<2 ^ 63/\-(2 ^ 63)<=k:=@of_decide_eq_true _ (Classical.propDecidable _) h
theorem zdx:lim=sizeLine:=by rw[sizeLine_eq];rfl
theorem zh5{K:PySem.W.Frag}{F:Hp}:∀{l m:List T} {xs ys:List V},Rps K F l xs->Rps K F m ys->Rps K F (l++m) (xs++ys)
 |[],m,xs,ys,r,q=>by rw[r.inv0];exact q
 |t::l,m,xs,ys,r,q=>by
  obtain⟨x,xs',rfl,r1,r2⟩:=r.inv;exact .cons r1 (zh5 r2 q)
theorem rps_rep{K:PySem.W.Frag}{F:Hp}{l:List T}{xs:List V}(r:Rps K F l xs):∀n:Nat,Rps K F (List.replicate n l).flatten (List.replicate n xs).flatten
 |0=>.nil
 |n+1=>by
  rw[ybt,ybt,ybm,ybm];exact zh5 r (rps_rep r n)
section
variable {X:Cx}
theorem zcd{K:PySem.W.Frag}{F H:Hp}{o:Bool}{k:Kd}{l:List T}{x:V}(h:Rp K F H (.nd o k l) x R0):∃p xs,x=.ref p/\o=false/\zn5 K F k p xs/\Rps K F l xs:=by
 generalize hA:R0=A at h;cases h with
 |shr h e c=>exact⟨_,_,rfl,rfl,h,e,fun i t x h1 h2=>(hA▸c i t x h1 h2).any⟩
 |@own k0 p xs l hk R f h e c d dp o =>
  exfalso
  have z:=congrFun hA p;have:R0 p:=by rw[z];exact .inl rfl
  exact this
theorem opT_add:OpR X (binaryOp .Add) (rT2 X.K zcl):=by
 intro pins s σ H x y v u Q I rx ry h;obtain⟨F,t1,t2,r,fh,r1,r2,e,q⟩:=h;unfold zcl at e;split at e
 ·cases e;rw[r1.int_inv]at rx;rw[r2.int_inv]at ry;exact op_add pins s σ H _ _ v u Q I rx ry ⟨_,_,rfl,rfl,q.int fh⟩
 ·split at e
  ·cases e;rename_i hz;rw[r1.str_inv]at rx;rw[r2.str_inv]at ry;exact op_add_str pins s σ H _ _ v u Q I rx ry ⟨_,_,rfl,rfl,by rw[<- zdx];exact hz,q.str fh⟩
  ·cases e
 ·split at e
  ·cases e;rename_i hz;obtain⟨p,xs,rfl,rfl,n1,k1⟩:=zcd r1;obtain⟨p2,ys,rfl,rfl,n2,k2⟩:=zcd r2;refine op_cat pins s σ H _ _ v u Q I rx ry ⟨p,p2,xs,ys,rfl,rfl,fh _ _ n1,fh _ _ n2,?_,fun a ha=>q.list fh (zh5 k1 k2) ha⟩
   rw[<- k1.1,<- k2.1,<- zdx];exact hz
  ·cases e
 ·cases e
theorem zhs{f:Value->Value->Sem Value}{C:Int->Int->Prop}{g:Int->Int->V}{gT:T->T->Option T}(ho:OpR X f (rI C g))(hg:∀t u v,gT t u=some v->∃i j,t=.int i/\u=.int j/\C i j/\((∃k,v=.int k/\g i j=.int k)\/∃k,v=.bl k/\g i j=.bl k)):OpR X f (rT2 X.K gT):=by
 intro pins s σ H x y v u Q I rx ry h;obtain⟨F,t1,t2,r,fh,r1,r2,e,q⟩:=h;obtain⟨i,j,rfl,rfl,hc,hv⟩:=hg _ _ _ e;rw[r1.int_inv]at rx;rw[r2.int_inv]at ry;refine ho pins s σ H _ _ v u Q I rx ry ⟨i,j,rfl,rfl,hc,?_⟩
 rcases hv with ⟨k,rfl,ek⟩|⟨k,rfl,ek⟩
 ·rw[ek];exact q.int fh
 ·rw[ek];exact q.bl fh
theorem OpR.weak{f:Value->Value->Sem Value}{r r':R2}(h:OpR X f r)(w:∀x y H Q,r' x y H Q->r x y H Q):OpR X f r':=fun pins s σ H x y v u Q I rx ry q=>h pins s σ H x y v u Q I rx ry (w x y H Q q)
theorem ri0{g:Int->Int->V}{f:Value->Value->Sem Value}(h:OpR X f (rI0 g)):OpR X f (rI (fun _ _=>True) g):=OpR.weak h fun x y H Q ⟨i,j,a,b,_,q⟩=>⟨i,j,a,b,q⟩
theorem opT_sub:OpR X (binaryOp .Sub) (rT2 X.K subT):=zhs (ri0 op_sub) fun t u v h=>by
 unfold subT at h;split at h
 ·cases h;exact⟨_,_,rfl,rfl,trivial,.inl ⟨_,rfl,rfl⟩⟩
 ·cases h
theorem opT_bor:OpR X (binaryOp .BitOr) (rT2 X.K borT):=zhs (ri0 op_or) fun t u v h=>by
 unfold borT at h;split at h
 ·cases h;exact⟨_,_,rfl,rfl,trivial,.inl ⟨_,rfl,rfl⟩⟩
 ·cases h
theorem opT_band:OpR X (binaryOp .BitAnd) (rT2 X.K bandT):=zhs (ri0 op_and) fun t u v h=>by
 unfold bandT at h;split at h
 ·cases h;exact⟨_,_,rfl,rfl,trivial,.inl ⟨_,rfl,rfl⟩⟩
 ·cases h
theorem opT_mod:OpR X (binaryOp .Mod) (rT2 X.K zhc):=zhs op_modN fun t u v h=>by
 unfold zhc at h;split at h
 ·split at h
  ·cases h;exact⟨_,_,rfl,rfl,by assumption,.inl ⟨_,rfl,rfl⟩⟩
  ·cases h
 ·cases h
theorem opT_fdiv:OpR X (binaryOp .FloorDiv) (rT2 X.K zhd):=zhs op_fdivL fun t u v h=>by
 unfold zhd at h;split at h
 ·split at h
  ·cases h;rename_i hc;exact⟨_,_,rfl,rfl,⟨hc.1,s70_iff hc.2⟩,.inl ⟨_,rfl,rfl⟩⟩
  ·cases h
 ·cases h
theorem opT_pow:OpR X (binaryOp .Pow) (rT2 X.K powT):=zhs op_pow fun t u v h=>by
 unfold powT at h;split at h
 ·split at h
  ·cases h;rename_i hc;have q:=s64_iff hc.2.2;exact⟨_,_,rfl,rfl,⟨hc.1,hc.2.1,by omega⟩,.inl ⟨_,rfl,rfl⟩⟩
  ·cases h
 ·cases h
theorem opT_cmp{op:CmpOp}{g:Int->Int->Bool}(ho:OpR X (compareOp op) (rI0 fun i j=>.bl (g i j))):OpR X (compareOp op) (rT2 X.K (cmpT g)):=zhs (ri0 ho) fun t u v h=>by
 unfold cmpT at h;split at h
 ·cases h;exact⟨_,_,rfl,rfl,trivial,.inr ⟨_,rfl,rfl⟩⟩
 ·cases h
theorem opT_mul:OpR X (binaryOp .Mult) (rT2 X.K mulT):=by
 intro pins s σ H x y v u Q I rx ry h;obtain⟨F,t1,t2,r,fh,r1,r2,e,q⟩:=h;unfold mulT at e;split at e
 ·rename_i i j;split at e
  ·cases e;rename_i hc;rw[r1.int_inv]at rx;rw[r2.int_inv]at ry;unfold zg8 at hc;rw[yc8,yc8,ya3]at hc
   rcases hc with (hc|hc)|hc
   ·exact op_mul pins s σ H _ _ v u Q I rx ry ⟨i,j,rfl,rfl,.inl (s64_iff hc),q.int fh⟩
   ·exact op_mul pins s σ H _ _ v u Q I rx ry ⟨i,j,rfl,rfl,.inr (s64_iff hc),q.int fh⟩
   ·exact op_mulS pins s σ H _ _ v u Q I rx ry ⟨i,j,rfl,rfl,⟨s70_iff hc.1,s70_iff hc.2⟩,q.int fh⟩
  ·cases e
 ·split at e
  ·cases e;rename_i hc;obtain⟨p,xs,rfl,rfl,n1,k1⟩:=zcd r1;rw[r2.int_inv]at ry;refine op_rep pins s σ H _ _ v u Q I rx ry ⟨p,_,xs,rfl,rfl,fh _ _ n1,(k63_iff hc.1).2,(k63_iff hc.1).1,?_,fun a ha=>q.list fh (rps_rep k1 _) ha⟩
   rw[<- k1.1,<- zdx];exact hc.2
  ·cases e
 ·split at e
  ·cases e;rename_i hc;rw[r1.str_inv]at rx;rw[r2.int_inv]at ry;obtain⟨t1,rfl⟩:=rx;obtain⟨t2,rfl⟩:=ry;exact SB.mul (mulOk_of 16 1048576 hc.2.2 (by omega) (by omega) (by decide) (by decide)) fun t' k=>⟨.str _,H,I.tok _,⟨_,rfl⟩,q.str fh⟩
  ·cases e
 ·cases e
theorem unT_neg:UnR X (unaryOp .USub) (rT1 X.K negT):=by
 intro pins s σ H x v Q I rx h;obtain⟨F,t,r,fh,r1,e,q⟩:=h;unfold negT at e;split at e
 ·cases e;rw[r1.int_inv]at rx;exact un_neg pins s σ H _ v Q I rx ⟨_,rfl,q.int fh⟩
 ·cases e
theorem depth_le{A:Around}{n:Nat}(hu:A.units+64<cLine)(h:n<=60):A.units+n<cLine:=by omega
theorem opT_eq(hu:X.A.units+64<cLine):OpR X (compareOp .Eq) (rT2 X.K eqT):=by
 intro pins s σ H x y v u Q I rx ry h;obtain⟨F,t1,t2,r,fh,r1,r2,e,q⟩:=h;unfold eqT at e;split at e
 ·cases e;rename_i hc;unfold eqOk fitT at hc;rw[ya3,ya3,ya3,ya3,decide_eq_true_eq]at hc;obtain⟨a1,q1⟩:=ze2 I fh (r1.any) hc.1.1.1 rx;obtain⟨a2,q2⟩:=ze2 I fh (r2.any) hc.1.2.1 ry;exact SeqAt.compareEq_reads q1 q2 hc.1.1.2 hc.1.2.2 (depth_le hu hc.2) ⟨.bl _,H,I,rfl,q.bl fh⟩
 ·cases e
theorem opT_ne(hu:X.A.units+64<cLine):OpR X (compareOp .NotEq) (rT2 X.K neT):=by
 intro pins s σ H x y v u Q I rx ry h;obtain⟨F,t1,t2,r,fh,r1,r2,e,q⟩:=h;unfold neT at e;split at e
 ·cases e;rename_i hc;unfold eqOk fitT at hc;rw[ya3,ya3,ya3,ya3,decide_eq_true_eq]at hc;obtain⟨a1,q1⟩:=ze2 I fh (r1.any) hc.1.1.1 rx;obtain⟨a2,q2⟩:=ze2 I fh (r2.any) hc.1.2.1 ry;exact SeqAt.compareNe_reads q1 q2 hc.1.1.2 hc.1.2.2 (depth_le hu hc.2) ⟨.bl _,H,I,rfl,q.bl fh⟩
 ·cases e
theorem opT_in(hu:X.A.units+64<cLine):OpR X (compareOp .In) (rT2 X.K inT):=by
 intro pins s σ H x y v u Q I rx ry h;obtain⟨F,t1,t2,r,fh,r1,r2,e,q⟩:=h;unfold inT at e;split at e
 ·rename_i o k l;split at e
  ·cases e;rename_i hc;unfold inOk fitT at hc;rw[ya3,ya3,ya3,ya3,decide_eq_true_eq]at hc;obtain⟨a1,q1⟩:=ze2 I fh (r1.any) hc.1.1.1 rx;obtain⟨a2,q2⟩:=ze2 I fh (r2.any) (show(T.nd o k l).pln=true from hc.1.2.1) ry;have hd:X.A.units+1+min (PyData.depthAll (zbt l)) t1.data.depth<cLine:=by omega
   cases k with
   |lst=>exact ydw q2 q1 hc.1.2.2 hc.1.1.2 hd ⟨.bl _,H,I,rfl,q.bl fh⟩
   |rl=>exact ydw q2 q1 hc.1.2.2 hc.1.1.2 hd ⟨.bl _,H,I,rfl,q.bl fh⟩
   |tup=>exact SeqAt.in_tuple_reads q2 q1 hc.1.2.2 hc.1.1.2 hd ⟨.bl _,H,I,rfl,q.bl fh⟩
   |rt=>exact SeqAt.in_tuple_reads q2 q1 hc.1.2.2 hc.1.1.2 hd ⟨.bl _,H,I,rfl,q.bl fh⟩
   |pin _=>exact ydw q2 q1 hc.1.2.2 hc.1.1.2 hd ⟨.bl _,H,I,rfl,q.bl fh⟩
  ·cases e
 ·unfold inS at e;split at e
  ·cases e;rw[r1.str_inv]at rx;rw[r2.str_inv]at ry;exact op_in_str pins s σ H _ _ v u Q I rx ry ⟨_,_,rfl,rfl,q.bl fh⟩
  ·cases e
 ·cases e
theorem opT_notIn(hu:X.A.units+64<cLine):OpR X (compareOp .NotIn) (rT2 X.K zl9):=by
 intro pins s σ H x y v u Q I rx ry h;obtain⟨F,t1,t2,r,fh,r1,r2,e,q⟩:=h;unfold zl9 at e;split at e
 ·rename_i o k l;split at e
  ·cases e;rename_i hc;unfold inOk fitT at hc;rw[ya3,ya3,ya3,ya3,decide_eq_true_eq]at hc;obtain⟨a1,q1⟩:=ze2 I fh (r1.any) hc.1.1.1 rx;obtain⟨a2,q2⟩:=ze2 I fh (r2.any) (show(T.nd o k l).pln=true from hc.1.2.1) ry;have hd:X.A.units+1+min (PyData.depthAll (zbt l)) t1.data.depth<cLine:=by omega
   cases k with
   |lst=>exact ydi q2 q1 hc.1.2.2 hc.1.1.2 hd ⟨.bl _,H,I,rfl,q.bl fh⟩
   |rl=>exact ydi q2 q1 hc.1.2.2 hc.1.1.2 hd ⟨.bl _,H,I,rfl,q.bl fh⟩
   |tup=>exact SeqAt.notIn_tuple_reads q2 q1 hc.1.2.2 hc.1.1.2 hd ⟨.bl _,H,I,rfl,q.bl fh⟩
   |rt=>exact SeqAt.notIn_tuple_reads q2 q1 hc.1.2.2 hc.1.1.2 hd ⟨.bl _,H,I,rfl,q.bl fh⟩
   |pin _=>exact ydi q2 q1 hc.1.2.2 hc.1.1.2 hd ⟨.bl _,H,I,rfl,q.bl fh⟩
  ·cases e
 ·cases e
end
end Pu
set_option Elab.async false
set_option linter.all false
set_option maxRecDepth 100000
namespace Pu
open PySem PySem.Spec PyProof.Rows L2 Zw Zx
inductive Rs where
 |v (t:T) (b:Bool)|x (c:Str)
inductive RsL where
 |v (ts:List T) (b:Bool)|x (c:Str)
def tot(R:Nat->Rg):Rg:=fun a=>∃i,R i a
def Got(K:PySem.W.Frag)(F H:Hp)(R:Nat->Rg)(v:T)(b:Bool)(x:V)(B:Rg):Prop:=match b with
 |true=>B=R0/\∃A,(∀a,A a->tot R a)/\Rp K F H v x A
 |false=>Rp K F H v x B
noncomputable def Gz(b:Bool)(F H:Hp)(R:Nat->Rg):Hp:=match b with
 |true=>frz F H (tot R)
 |false=>F
section
variable {K:PySem.W.Frag}{F H F1 H1:Hp}{σ:L2.St}{τ:PSt}{R:Nat->Rg}{B:Rg}{b c:Bool}{v:T}{x:V}
theorem StR.tot(S:StR K F H σ τ R){a:Addr}(h:tot R a):F a=none/\∃u,H a=some u:=by
 obtain⟨i,z⟩:=h;exact S.dom z
theorem gz_ff(S:StR K F H σ τ R):zbe F (Gz b F H R):=by
 cases b with
 |true=>exact zgl fun a z=>(S.tot z).1
 |false=>exact .refl _
theorem gz_fh(S:StR K F H σ τ R):zbe (Gz b F H R) H:=by
 cases b with
 |true=>exact znj S.fh
 |false=>exact S.fh
theorem gz_mono(S:StR K F H σ τ R)(e:Ext F H F1 H1 B)(h:b=true->c=true):zbe (Gz b F H R) (Gz c F1 H1 R):=by
 have S1:=S.ext e;cases b with
 |false=>exact e.ff.trans (gz_ff S1)
 |true =>
  rw[h rfl];intro a u q;show frz F1 H1 (Pu.tot R) a=some u
  by_cases z:Pu.tot R a
  ·rw[zjr z];have q':frz F H (Pu.tot R) a=some u:=q;rw[zjr z]at q';exact e.hh _ _ q'
  ·rw[zfk z];have q':frz F H (Pu.tot R) a=some u:=q;rw[zfk z]at q';exact e.ff _ _ q'
theorem Got.frz(S:StR K F H σ τ R)(e:Ext F H F1 H1 B)(g:Got K F1 H1 R v b x B):∃F2,Ext F H F2 H1 R0/\zbe F1 F2/\Rp K (Gz b F2 H1 R) (Gz b F2 H1 R) v.share x R0:=by
 have S1:=S.ext e;cases b with
 |true =>
  obtain⟨rfl,A,hA,r⟩:=g
  exact⟨F1,e,.refl _,r.share (gz_ff (b:=true) S1) fun a u z q=>by
   show Pu.frz F1 H1 (Pu.tot R) a=some u;rw[zjr (hA a z)];exact q⟩
 |false =>
  have g':Rp K F1 H1 v x B:=g;have n:∀a,B a->F1 a=none:=fun a z=>(g'.dom z).1
  exact⟨_,e.frz n,zgl n,g'.share (zgl n) fun a u z q=>by
   show Pu.frz F1 H1 B a=some u;rw[zjr z];exact q⟩
theorem Ext.grow{H2:Hp}(e:Ext F H F1 H1 R0)(s:zbe H1 H2):Ext F H F1 H2 R0:=⟨e.hh.trans s,e.ff,e.fh.trans s,fun _ z=>z.elim,e.nf⟩
end
def tM(K:PySem.W.Frag)(E:L2.St->XK)(ca:Str->Value)(m:PSt->Option Rs):TE:=fun σ H Q=>∃F τ R,StR K F H σ τ R/\match m τ with
 |some (.v v b)=>∀F' H' x B,Ext F H F' H' B->Got K F' H' R v b x B->Q x H'
 |some (.x c)=>∀F' H',Ext F H F' H' R0->E σ (ca c) none H'
 |none=>False
def tMs(K:PySem.W.Frag)(E:L2.St->XK)(ca:Str->Value)(m:PSt->Option RsL):TA:=fun σ H Q=>∃F τ R,StR K F H σ τ R/\match m τ with
 |some (.v ts b)=>∀F' H' xs,Ext F H F' H' R0->Rps K (Gz b F' H' R) ts xs->Q xs H'
 |some (.x c)=>∀F' H',Ext F H F' H' R0->E σ (ca c) none H'
 |none=>False
def tMB(K:PySem.W.Frag)(E:L2.St->XK)(ca:Str->Value)(m:PSt->Option Rs):TT:=fun σ H Q=>∃F τ R,StR K F H σ τ R/\match m τ with
 |some (.v (.bl c) _)=>∀F' H',Ext F H F' H' R0->Q c H'
 |some (.v _ _)=>False
 |some (.x c)=>∀F' H',Ext F H F' H' R0->E σ (ca c) none H'
 |none=>False
def za5(i:Nat):PSt->Option Rs:=fun τ=>match τ[i]? with
 |some (some t)=>some (.v t (!t.sh))
 |_=>none
def mC(t:T):PSt->Option Rs:=fun _=>some (.v t false)
def za4:PSt->Option RsL:=fun _=>some (.v [] false)
def za0(m:PSt->Option Rs)(ms:PSt->Option RsL):PSt->Option RsL:=fun τ=>match m τ with
 |some (.v t b)=>(match ms τ with
  |some (.v ts b')=>some (.v (t.share::ts) (b || b'))
  |r=>r)
 |some (.x c)=>some (.x c)
 |none=>none
def fin(b:Bool)(v:T):Option Rs:=if b && !v.flat then none else some (.v v false)
def mAp(g:List T->Option T)(ms:PSt->Option RsL):PSt->Option Rs:=fun τ=>match ms τ with
 |some (.v ts b)=>(match g ts with
  |some v=>fin b v
  |none=>none)
 |some (.x c)=>some (.x c)
 |none=>none
def g2(g:T->T->Option T):List T->Option T
 |[t,u]=>g t u
 |_=>none
def g1(g:T->Option T):List T->Option T
 |[t]=>g t
 |_=>none
def mIf(c:PSt->Option Rs)(a b:PSt->Option Rs):PSt->Option Rs:=fun τ=>match c τ with
 |some (.v (.bl true) _)=>a τ
 |some (.v (.bl false) _)=>b τ
 |some (.x c)=>some (.x c)
 |_=>none
def zge(c:PSt->Option Rs):PSt->Option Rs:=fun τ=>match c τ with
 |some (.v (.bl b) _)=>some (.v (.bl (!b)) false)
 |some (.x c)=>some (.x c)
 |_=>none
def mAnd(a b:PSt->Option Rs):PSt->Option Rs:=mIf a b (mC (.bl false))
def mOr(a b:PSt->Option Rs):PSt->Option Rs:=mIf a (mC (.bl true)) b
section
variable {X:Cx}{E:L2.St->XK}{ca:Str->Value}{σ:L2.St}{H:Hp}{m ma mb mc:PSt->Option Rs}{ms:PSt->Option RsL}{K:PySem.W.Frag}{a b c e:Expr}{es:List Expr}{pos:Pos}
theorem PE.weak{t t':TE}(h:PE X e t)(w:∀σ H Q,t' σ H Q->t σ H Q):PE X e t':=fun pins s σ H Q I q=>h pins s σ H Q I (w σ H Q q)
theorem PT.weak{t t':TT}(h:PT X e t)(w:∀σ H Q,t' σ H Q->t σ H Q):PT X e t':=fun pins s σ H Q I q=>h pins s σ H Q I (w σ H Q q)
theorem PA.weak{t t':TA}(h:PA X es t)(w:∀σ H Q,t' σ H Q->t σ H Q):PA X es t':=fun pos pins s σ H Q I q=>h pos pins s σ H Q I (w σ H Q q)
theorem tM.mono{Q Q':VK}(h:tM K E ca m σ H Q)(w:∀x H',Q x H'->Q' x H'):tM K E ca m σ H Q':=by
 obtain⟨F,τ,R,S,q⟩:=h;refine⟨F,τ,R,S,?_⟩;cases hm:m τ with
 |none=>rw[hm]at q;exact q
 |some r =>
  rw[hm]at q;cases r with
  |v v b=>exact fun F' H' x B e g=>w _ _ (q F' H' x B e g)
  |x c=>exact q
theorem tMs.mono{Q Q':List V->Hp->Prop}(h:tMs K E ca ms σ H Q)(w:∀x H',Q x H'->Q' x H'):tMs K E ca ms σ H Q':=by
 obtain⟨F,τ,R,S,q⟩:=h;refine⟨F,τ,R,S,?_⟩;cases hm:ms τ with
 |none=>rw[hm]at q;exact q
 |some r =>
  rw[hm]at q;cases r with
  |v v b=>exact fun F' H' x e g=>w _ _ (q F' H' x e g)
  |x c=>exact q
theorem zho{Q:List V->Hp->Prop}(h:tMs K E ca za4 σ H Q):Q [] H:=by
 obtain⟨F,τ,R,S,q⟩:=h;exact q F H [] (Ext.refl S.fh) .nil
theorem zez{Q:List V->Hp->Prop}(h:tMs K E ca (za0 m ms) σ H Q):tM K E ca m σ H fun x H1=>tMs K E ca ms σ H1 fun xs H2=>Q (x::xs) H2:=by
 obtain⟨F,τ,R,S,q⟩:=h;refine⟨F,τ,R,S,?_⟩;unfold za0 at q;cases hm:m τ with
 |none=>rw[hm]at q;exact q
 |some r =>
  rw[hm]at q;cases r with
  |x c=>exact q
  |v t b =>
   intro F' H' x B e g;obtain⟨F2,e2,_,r2⟩:=Got.frz S e g;have S2:=S.ext e2;refine⟨F2,τ,R,S2,?_⟩;cases hs:ms τ with
   |none=>simp only[hs]at q
   |some r =>
    simp only[hs]at q;cases r with
    |x c=>exact fun F3 H3 e3=>q F3 H3 (e2.trans0 e3)
    |v ts b' =>
     intro F3 H3 xs e3 rs;refine q F3 H3 (x::xs) (e2.trans0 e3) ?_;refine .cons (H:=H3) ((r2.frame (gz_mono S2 e3 (by intro z;simp[z])) fun a z=>z.elim)) ?_
     cases b' with
     |true=>rw[yed];exact rs
     |false =>
      rw[ye5];cases b with
      |false=>exact rs
      |true=>exact rs.same (gz_ff (b:=true) (S2.ext e3))
theorem tM_ap{g:List T->Option T}{Q:VK}(h:tM K E ca (mAp g ms) σ H Q):tMs K E ca ms σ H fun xs H1=>rTn K g xs H1 Q:=by
 obtain⟨F,τ,R,S,q⟩:=h;refine⟨F,τ,R,S,?_⟩;unfold mAp at q;cases hs:ms τ with
 |none=>simp only[hs]at q
 |some r =>
  simp only[hs]at q;cases r with
  |x c=>exact q
  |v ts b =>
   intro F1 H1 xs e1 rs;have S1:=S.ext e1;cases hg:g ts with
   |none=>simp only[hg]at q
   |some v =>
    simp only[hg]at q;refine⟨Gz b F1 H1 R,ts,v,gz_fh S1,rs,hg,fun F2 H2 z C e2 r2=>?_⟩
    unfold fin at q;cases b with
    |false=>exact q F2 H2 z C (e1.trans0 e2) r2
    |true =>
     cases hf:v.flat with
     |false =>
      rw[hf]at q;exact False.elim q
     |true =>
      rw[hf]at q;exact q F1 H2 z R0 (e1.grow e2.hh) (r2.flat_any hf)
theorem rTn2{g:T->T->Option T}{x y:V}{Q:VK}(h:rTn K (g2 g) [x,y] H Q):rT2 K g x y H Q:=by
 obtain⟨F,ts,v,fh,rs,e,q⟩:=h;unfold g2 at e;split at e
 ·obtain⟨x1,xs1,e1,r1,rs1⟩:=rs.inv;obtain⟨x2,xs2,e2,r2,rs2⟩:=rs1.inv;cases e1;cases e2;exact⟨F,_,_,v,fh,r1,r2,e,q⟩
 ·cases e
theorem rTn1{g:T->Option T}{x:V}{Q:VK}(h:rTn K (g1 g) [x] H Q):rT1 K g x H Q:=by
 obtain⟨F,ts,v,fh,rs,e,q⟩:=h;unfold g1 at e;split at e
 ·obtain⟨x1,xs1,e1,r1,rs1⟩:=rs.inv;cases e1;exact⟨F,_,v,fh,r1,e,q⟩
 ·cases e
theorem tM_op2{g:T->T->Option T}{Q:VK}(h:tM K E ca (mAp (g2 g) (za0 ma (za0 mb za4))) σ H Q):tOp (rT2 K g) (tM K E ca ma) (tM K E ca mb) σ H Q :=
 (zez (tM_ap h)).mono fun x H1 h1=>(zez h1).mono fun y H2 h2=>rTn2 (zho h2)
theorem tM_op1{g:T->Option T}{Q:VK}(h:tM K E ca (mAp (g1 g) (za0 ma za4)) σ H Q):tUn (rT1 K g) (tM K E ca ma) σ H Q :=
 (zez (tM_ap h)).mono fun x H1 h1=>rTn1 (zho h1)
theorem r_var{i:Nat}{x:Str}(hN:X.N[i]?=some x)(hv:Vis X.env.scope x)(hd:(x == ("__debug__":Str))=false)(hcd:(x == ("__classdict__":Str))=false):PE X (.Name x pos) (tM X.K E ca (za5 i)):=by
 refine PE.weak (zl8 hN hv hd hcd) fun σ H Q h=>?_
 obtain⟨F,τ,R,S,q⟩:=h;unfold za5 at q;split at q
 ·rename_i t b hm;split at hm
  ·rename_i ht;cases hm;obtain⟨x,e,r⟩:=S.rep i t ht;refine⟨x,e,q F H x R0 (Ext.refl S.fh) ?_⟩;cases hs:t.sh with
   |true=>exact r.move hs (.refl _)
   |false=>exact⟨rfl,R i,fun a z=>⟨i,z⟩,r⟩
  ·cases hm
 ·rename_i c hm;split at hm<;>cases hm
 ·exact q.elim
theorem r_const{t:T}{v:V}(h:PE X e (tC v))(r:∀F H,Rp X.K F H t v R0):PE X e (tM X.K E ca (mC t)):=PE.weak h fun σ H Q h=>by
 obtain⟨F,τ,R,S,q⟩:=h;exact q F H v R0 (Ext.refl S.fh) (r _ _)
theorem r_nil:PA X [] (tMs X.K E ca za4):=PA.weak zfs fun σ H Q h=>zho h
theorem r_cons(ha:PE X e (tM X.K E ca m))(hr:PA X es (tMs X.K E ca ms))(hs:starEach (e::es) X.env=(false,eval e X.env)::starEach es X.env):PA X (e::es) (tMs X.K E ca (za0 m ms)) :=
 PA.weak (zcc ha hr hs) fun σ H Q h=>zez h
theorem r_bin{op:Operator}{g:T->T->Option T}(ho:OpR X (binaryOp op) (rT2 X.K g))(ha:PE X a (tM X.K E ca ma))(hb:PE X b (tM X.K E ca mb)):PE X (.BinOp a op b pos) (tM X.K E ca (mAp (g2 g) (za0 ma (za0 mb za4)))) :=
 PE.weak (pe_op ho ha hb) fun σ H Q h=>tM_op2 h
theorem r_un{op:UnaryOp}{g:T->Option T}(ho:UnR X (unaryOp op) (rT1 X.K g))(ha:PE X a (tM X.K E ca ma)):PE X (.UnaryOp op a pos) (tM X.K E ca (mAp (g1 g) (za0 ma za4))) :=
 PE.weak (pe_un ho ha) fun σ H Q h=>tM_op1 h
theorem r_cmp{op:CmpOp}{g:T->T->Option T}(ho:OpR X (compareOp op) (rT2 X.K g))(ha:PE X a (tM X.K E ca ma))(hb:PE X b (tM X.K E ca mb))(hm:behindInMarks op b=false):PE X (.Compare a [op] [b] pos) (tM X.K E ca (mAp (g2 g) (za0 ma (za0 mb za4)))) :=
 PE.weak (pe_cmpR ho ha hb hm) fun σ H Q h=>tM_op2 h
theorem tMB_val{Q:Bool->Hp->Prop}(h:tMB K E ca m σ H Q):tM K E ca m σ H fun x H1=>∃k,x=.bl k/\Q k H1:=by
 obtain⟨F,τ,R,S,q⟩:=h;refine⟨F,τ,R,S,?_⟩;cases hm:m τ with
 |none=>rw[hm]at q;exact q
 |some r =>
  rw[hm]at q;cases r with
  |x c=>exact q
  |v v b =>
   cases v with
   |bl k =>
    intro F' H' x B e g
    have hx:x=.bl k:=by
     cases b with
     |true=>obtain⟨_,A,_,r⟩:=g;exact r.bl_inv
     |false=>exact(show Rp K F' H' _ _ _ from g).bl_inv
    exact⟨k,hx,q F' H' (e.mono fun _ z=>z.elim)⟩
   |_=>exact q.elim
theorem r_tcmp{op:CmpOp}{g:T->T->Option T}(ho:OpR X (compareOp op) (rT2 X.K g))(ha:PE X a (tM X.K E ca ma))(hb:PE X b (tM X.K E ca mb))(hm:behindInMarks op b=false):PT X (.Compare a [op] [b] pos) (tMB X.K E ca (mAp (g2 g) (za0 ma (za0 mb za4)))) :=
 PT.weak (pt_cmpR ho ha hb hm) fun σ H Q h=>tM_op2 (tMB_val h)
theorem r_tval(h:PE X e (tM X.K E ca m))(he:∀whole,isTrue e X.env whole=(do let v <- whole;standAt e.pos;holding [v] (truthy v))):PT X e (tMB X.K E ca m):=PT.weak (pt_val h he) fun σ H Q h=>tMB_val h
theorem tMB_if{Q:Bool->Hp->Prop}(h:tMB K E ca (mIf mc ma mb) σ H Q):tMB K E ca mc σ H fun k H1=>if k=true then tMB K E ca ma σ H1 Q else tMB K E ca mb σ H1 Q:=by
 obtain⟨F,τ,R,S,q⟩:=h;refine⟨F,τ,R,S,?_⟩;unfold mIf at q;cases hm:mc τ with
 |none=>simp only[hm]at q
 |some r =>
  simp only[hm]at q;cases r with
  |x c=>exact q
  |v v b =>
   cases v with
   |bl k =>
    intro F1 H1 e1;have S1:=S.ext e1
    have key:∀{mm:PSt->Option Rs},(match mm τ with
      |some (.v (.bl c) _)=>∀F' H',Ext F H F' H' R0->Q c H'
      |some (.v _ _)=>False
      |some (.x c)=>∀F' H',Ext F H F' H' R0->E σ (ca c) none H'
      |none=>False)->tMB K E ca mm σ H1 Q:=fun {mm} q=>by
     refine⟨F1,τ,R,S1,?_⟩;cases hr:mm τ with
     |none=>simp only[hr]at q
     |some r =>
      simp only[hr]at q;cases r with
      |x c=>exact fun F' H' e=>q F' H' (e1.trans0 e)
      |v v b =>
       cases v with
       |bl k=>exact fun F' H' e=>q F' H' (e1.trans0 e)
       |_=>exact q.elim
    cases k with
    |true=>exact iteT (key q)
    |false=>exact iteF (key q)
   |_=>exact q.elim
theorem tM_if{Q:VK}(h:tM K E ca (mIf mc ma mb) σ H Q):tMB K E ca mc σ H fun k H1=>if k=true then tM K E ca ma σ H1 Q else tM K E ca mb σ H1 Q:=by
 obtain⟨F,τ,R,S,q⟩:=h;refine⟨F,τ,R,S,?_⟩;unfold mIf at q;cases hm:mc τ with
 |none=>simp only[hm]at q
 |some r =>
  simp only[hm]at q;cases r with
  |x c=>exact q
  |v v b =>
   cases v with
   |bl k =>
    intro F1 H1 e1;have S1:=S.ext e1
    have key:∀{mm:PSt->Option Rs},(match mm τ with
      |some (.v v b)=>∀F' H' x B,Ext F H F' H' B->Got K F' H' R v b x B->Q x H'
      |some (.x c)=>∀F' H',Ext F H F' H' R0->E σ (ca c) none H'
      |none=>False)->tM K E ca mm σ H1 Q:=fun {mm} q=>by
     refine⟨F1,τ,R,S1,?_⟩;cases hr:mm τ with
     |none=>simp only[hr]at q
     |some r =>
      simp only[hr]at q;cases r with
      |x c=>exact fun F' H' e=>q F' H' (e1.trans0 e)
      |v v b=>exact fun F' H' x B e g=>q F' H' x B (e1.trans0 e) g
    cases k with
    |true=>exact iteT (key q)
    |false=>exact iteF (key q)
   |_=>exact q.elim
theorem r_ife(hc:PT X c (tMB X.K E ca mc))(ha:PE X a (tM X.K E ca ma))(hb:PE X b (tM X.K E ca mb)):PE X (.IfExp c a b pos) (tM X.K E ca (mIf mc ma mb)):=PE.weak (pe_ifExp hc ha hb) fun σ H Q h=>tM_if h
theorem tMB_not{Q:Bool->Hp->Prop}(h:tMB K E ca (zge mc) σ H Q):tNot (tMB K E ca mc) σ H Q:=by
 obtain⟨F,τ,R,S,q⟩:=h;refine⟨F,τ,R,S,?_⟩;unfold zge at q;cases hm:mc τ with
 |none=>simp only[hm]at q
 |some r =>
  simp only[hm]at q;cases r with
  |x c=>exact q
  |v v b =>
   cases v with
   |bl k=>exact q
   |_=>exact q.elim
theorem r_tnot(hc:PT X c (tMB X.K E ca mc)):PT X (.UnaryOp .Not c pos) (tMB X.K E ca (zge mc)):=PT.weak (pt_not hc) fun σ H Q h=>tMB_not h
theorem tM_not{Q:VK}(h:tM K E ca (zge mc) σ H Q):tNotV (tM K E ca mc) σ H Q:=by
 obtain⟨F,τ,R,S,q⟩:=h;refine⟨F,τ,R,S,?_⟩;unfold zge at q;cases hm:mc τ with
 |none=>simp only[hm]at q
 |some r =>
  simp only[hm]at q;cases r with
  |x c=>exact q
  |v v b =>
   cases v with
   |bl k =>
    intro F' H' x B e g
    have hx:x=.bl k:=by
     cases b with
     |true=>obtain⟨_,A,_,r⟩:=g;exact r.bl_inv
     |false=>exact(show Rp K F' H' _ _ _ from g).bl_inv
    exact⟨k,hx,q F' H' _ R0 (e.mono fun _ z=>z.elim) (.bl _)⟩
   |_=>exact q.elim
theorem r_not(ha:PE X a (tM X.K E ca ma)):PE X (.UnaryOp .Not a pos) (tM X.K E ca (zge ma)):=PE.weak (pe_not ha) fun σ H Q h=>tM_not h
theorem tM_ifV{Q:VK}(h:tM K E ca (mIf mc ma mb) σ H Q):tM K E ca mc σ H fun x H1=>∃k,x=.bl k/\if k=true then tM K E ca ma σ H1 Q else tM K E ca mb σ H1 Q:=tMB_val (tM_if h)
theorem tM_c{t:T}{v:V}(r:∀F H,Rp K F H t v R0){Q:VK}(h:tM K E ca (mC t) σ H Q):Q v H:=by
 obtain⟨F,τ,R,S,q⟩:=h;exact q F H v R0 (Ext.refl S.fh) (r _ _)
theorem r_and{zh6:List Expr}(ha:PE X a (tM X.K E ca ma))(hb:PE X (.BoolOp .And (b::zh6) pos) (tM X.K E ca mb)):PE X (.BoolOp .And (a::b::zh6) pos) (tM X.K E ca (mAnd ma mb)) :=
 PE.weak (pe_and ha hb) fun σ H Q h=>(tM_ifV h).mono fun x H1 ⟨k,e,q⟩=>⟨k,e,by
  cases k with
  |true=>exact q
  |false=>exact tM_c (E:=E) (ca:=ca) (fun _ _=>.bl _) q⟩
theorem r_or{zh6:List Expr}(ha:PE X a (tM X.K E ca ma))(hb:PE X (.BoolOp .Or (b::zh6) pos) (tM X.K E ca mb)):PE X (.BoolOp .Or (a::b::zh6) pos) (tM X.K E ca (mOr ma mb)) :=
 PE.weak (pe_or ha hb) fun σ H Q h=>(tM_ifV h).mono fun x H1 ⟨k,e,q⟩=>⟨k,e,by
  cases k with
  |true=>exact tM_c (E:=E) (ca:=ca) (fun _ _=>.bl _) q
  |false=>exact q⟩
theorem r_one{op:BoolOp}(ha:PE X a (tM X.K E ca ma)):PE X (.BoolOp op [a] pos) (tM X.K E ca ma):=pe_one ha
theorem tMB.mono{Q Q':Bool->Hp->Prop}(h:tMB K E ca m σ H Q)(w:∀x H',Q x H'->Q' x H'):tMB K E ca m σ H Q':=by
 obtain⟨F,τ,R,S,q⟩:=h;refine⟨F,τ,R,S,?_⟩;cases hm:m τ with
 |none=>rw[hm]at q;exact q
 |some r =>
  rw[hm]at q;cases r with
  |v v b =>
   cases v with
   |bl k=>exact fun F' H' e=>w _ _ (q F' H' e)
   |_=>exact q.elim
  |x c=>exact q
theorem tMB_c{k:Bool}{Q:Bool->Hp->Prop}(h:tMB K E ca (mC (.bl k)) σ H Q):Q k H:=by
 obtain⟨F,τ,R,S,q⟩:=h;exact q F H (Ext.refl S.fh)
theorem PW.weak{t t':TT}(h:PW X e t)(w:∀σ H Q,t' σ H Q->t σ H Q):PW X e t':=fun wh pins s σ H Q I q=>h wh pins s σ H Q I (w σ H Q q)
theorem r_wand{zh6:List Expr}(ha:PT X a (tMB X.K E ca ma))(hb:PW X (.BoolOp .And (b::zh6) pos) (tMB X.K E ca mb)):PW X (.BoolOp .And (a::b::zh6) pos) (tMB X.K E ca (mAnd ma mb)) :=
 PW.weak (pw_and ha hb) fun σ H Q h=>(tMB_if h).mono fun k H1 q=>by
  cases k with
  |true=>exact q
  |false=>exact tMB_c (E:=E) (ca:=ca) q
theorem r_wor{zh6:List Expr}(ha:PT X a (tMB X.K E ca ma))(hb:PW X (.BoolOp .Or (b::zh6) pos) (tMB X.K E ca mb)):PW X (.BoolOp .Or (a::b::zh6) pos) (tMB X.K E ca (mOr ma mb)) :=
 PW.weak (pw_or ha hb) fun σ H Q h=>(tMB_if h).mono fun k H1 q=>by
  cases k with
  |true=>exact tMB_c (E:=E) (ca:=ca) q
  |false=>exact q
theorem r_wone1(ha:PT X a (tMB X.K E ca ma)):PW X (.BoolOp .And [a] pos) (tMB X.K E ca ma):=pw_and1 ha
theorem r_wone2(ha:PT X a (tMB X.K E ca ma)):PW X (.BoolOp .Or [a] pos) (tMB X.K E ca ma):=pw_or1 ha
end
end Pu
set_option Elab.async false
set_option linter.all false
set_option maxRecDepth 100000
namespace Pu
open PySem PySem.Spec PyProof.Rows L2 Zw Zx
section
variable {X:Cx}{pins:List (Addr×Obj)}{σ:L2.St}{H:Hp}{s:Shared}{h':Heap}
theorem zhn{t':Nat}{ch:List Addr}(I:Inv X pins σ H s)(k:∀b o,b∉ch->s.heap.get? b=some o->h'.get? b=some o)(f:∀b∈ch,FpOk X pins H b):Inv X pins σ H { s with heap:=h',toks:=t' }:=by
 have nit:∀b u,H b=some u->b∉ch:=fun b u e z=>by rw[(f b z).1]at e;cases e
 refine I.step (g':=s.gens) (d':=s.drawn) (ch:=ch) (fun b hb=>?_) (fun b o _ _ hc e _=>k b o hc e) (fun b o _ _ hc e _=>⟨o.slots,k b o hc e⟩) (fun _ _ _ _ n=>n)
  (fun b o hc e=>⟨o,k b o hc e⟩) (fun _ _ e=>e) (fun _ _ _ e=>e) (fun b ps e=>⟨#[],by rw[e];simp⟩) (fun m hm=>?_) (fun b u e=>?_) I.bare
 ·obtain⟨_,f1,f2,f3,f4,f5⟩:=f b hb;exact⟨f3,f1,f4,f5⟩
 ·obtain⟨o,es,ep,ho,r⟩:=hm;exact⟨o,es,ep,k _ o (fun z=>(f _ z).2.1 rfl) ho,r⟩
 ·refine(I.hok b u e).stay (fun c v hc q=>k c v ?_ q) (fun _ q=>q) fun _ _ q=>q
  rcases hc with z|z
  ·rw[z];exact nit b u e
  ·exact nit c _ z
theorem zn7{t':Nat}{ch:List Addr}{p:Addr}{o:HO}(I:Inv X pins σ H s)(k:∀b o,b∉ch->s.heap.get? b=some o->h'.get? b=some o)(f:∀b∈ch,FpOk X pins H b)(hp:s.heap.objs.size<=p)(new:zbp X.prog X.w (upd H p o) h' p o) :
  Inv X pins σ (upd H p o) { s with heap:=h',toks:=t' }:=by
 have hn:H p=none:=I.hok.fresh hp;have nit:∀b u,H b=some u->b∉ch:=fun b u e z=>by rw[(f b z).1]at e;cases e
 have old:∀b ob,s.heap.get? b=some ob->b≠p:=fun b ob e z=>by
  subst z;exact absurd (yae e) (Nat.not_lt.mpr hp)
 refine I.step (g':=s.gens) (d':=s.drawn) (ch:=ch) (fun b hb=>?_) (fun b o _ _ hc e _=>k b o hc e) (fun b o _ _ hc e _=>⟨o.slots,k b o hc e⟩) (fun b ob hc e n=>by rw[zaj (old b ob e)];exact n)
  (fun b o hc e=>⟨o,k b o hc e⟩) (fun b xs e=>by rw[zaj (zah e hn)];exact e) (fun b o u e=>by rw[zaj (zah e hn)];exact e) (fun b ps e=>⟨#[],by rw[zaj (zah e hn),e];simp⟩) (fun m hm=>?_) (fun b u e=>?_) I.bare
 ·obtain⟨_,f1,f2,f3,f4,f5⟩:=f b hb;exact⟨f3,f1,f4,f5⟩
 ·obtain⟨o,es,ep,ho,r⟩:=hm;exact⟨o,es,ep,k _ o (fun z=>(f _ z).2.1 rfl) ho,r⟩
 ·by_cases hb:b=p
  ·subst hb;rw[zau]at e;cases e;exact new
  ·rw[zaj hb]at e;refine(I.hok b u e).stay (fun c v hc q=>k c v ?_ q) (fun c q=>by rw[zaj (zah q hn)];exact q) fun c xs q=>by rw[zaj (zah q hn)];exact q
   rcases hc with z|z
   ·rw[z];exact nit b u e
   ·exact nit c _ z
theorem fp_upd{p b:Addr}{o:HO}(f:FpOk X pins H b)(h:b≠p):FpOk X pins (upd H p o) b:=⟨by rw[zaj h];exact f.1,f.2⟩
end
def Ite(K:PySem.W.Frag)(l:Addr):It :=
 ⟨fun i H=>∃xs x,SqL K H l xs/\xs[i]?=some x,fun i H x H'=>∃p y,x=.ref p/\H p=none/\H'=upd H p (.tup [.int i,y])/\∀xs,SqL K H l xs->xs[i]?=some y,fun i H=>∃xs,SqL K H l xs/\xs.length<=i⟩
theorem turn_enum{P:Program}{w:World}{K:PySem.W.Frag}{elts:List Expr}{kk:Nat}{tpos:Pos}(l e it:Addr)(hei:e≠it) :
  Turn P w K (.Tuple elts kk tpos) (Ite K l) [e,it] e (fun i h=>(∃old,IsEnum h e it i old)/\h.IsListIter it l i) where
 mem:=by simp
 obj:=fun i h st b hb=>by
  obtain⟨⟨old,he⟩,o,hi,hc,hd⟩:=st;obtain rfl|hb:=ya7.mp hb
  ·exact⟨_,he,fun v z=>by
    have z':Data.fields _=Data.cell v:=z;cases z'⟩
  ·have q:b=it:=by simpa using hb
   subst q;exact⟨o,hi,fun v z=>by rw[hd]at z;cases z⟩
 keep:=fun i h h' st k=>by
  obtain⟨⟨old,he⟩,hi⟩:=st;exact⟨⟨old,k e (by simp) _ he⟩,hi.at fun o q=>k it (by simp) o q⟩
 item:=by
  intro X hP hw hK hc i pins s σ H E I hf st hg;subst hP hw hK;obtain⟨⟨old,he⟩,hit⟩:=st;obtain⟨xs,x,hq,hx⟩:=hg;obtain⟨its,rv,p,hz⟩:=I.list hq;obtain⟨u,hu,ru⟩:=rv.get hx;have elt:e<s.heap.objs.size:=yae he;have ilt:it<s.heap.objs.size:=by obtain⟨o,q,_⟩:=hit;exact yae q
  have hn:H s.heap.objs.size=none:=I.hok.fresh (yad _);refine wpAny_pyNext_enum_item he hit p.isList (x:=u) (by simpa using hu) hei fun h' ho hit' hT hsz hk=>?_
  have I1:Inv X pins σ (upd H s.heap.objs.size (.tup [.int i,x])) { s with heap:=h',toks:=s.toks+1 }:=by
   refine zn7 (ch:=[e,it]) I (fun b o hb q=>hk b o (fun z=>hb (by simp[z])) (fun z=>hb (by simp[z])) q) hf (yad _) ?_
   exact⟨by simp only[ya8,ybd];rw[sizeLine_eq];decide,[.int i s.toks,u],.cons ⟨_,rfl⟩ (.cons ru .nil),_,hT,rfl,0,rfl⟩
  have f1:∀b∈[e,it],FpOk X pins (upd H s.heap.objs.size (.tup [.int i,x])) b:=fun b hb=>fp_upd (hf b hb) (by
   obtain rfl|hb:=ya7.mp hb
   ·exact yau elt
   ·have q:b=it:=by simpa using hb
    subst q;exact yau ilt)
  refine⟨.ref s.heap.objs.size,rfl,wpAny_letOwnedTupleGo_enum ho fun h2 he2 hs2=>?_⟩
  refine⟨.ref s.heap.objs.size,_,zhn (t':=s.toks+1) (ch:=[e]) I1 (fun b o hb q=>hs2.extBut b o (fun z=>hb (by simp[z])) q) (fun b hb=>f1 b (by simp at hb;simp[hb])),rfl,⟨_,x,rfl,hn,rfl,fun ys hy=>by rw[I.list_inj hy hq];exact hx⟩,⟨⟨_,by simpa using he2⟩,hit'.extBut hs2.extBut hei.symm⟩,fun b hb=>(f1 b hb).1⟩
 done:=by
  intro X hP hw hK hc i pins s σ H E I hf st hg;subst hP hw hK;obtain⟨⟨old,he⟩,hit⟩:=st;obtain⟨xs,hq,hx⟩:=hg;obtain⟨its,rv,p,hz⟩:=I.list hq;have hl:=rv.length;exact wpAny_pyNext_enum_end (I.ok.hd hc) he hit p.isList (by simp;omega) fun h' eb=>⟨rfl,zhn (t':=s.toks) (ch:=[it]) I (fun b o hb q=>eb b o (fun z=>hb (by simp[z])) q) (fun b hb=>hf b (by simp at hb;simp[hb]))⟩
 self:=fun _ _ _ _ _ st h=>wpAny_pyIter_enum st.1.choose_spec h
section
variable {X:Cx}{elts:List Expr}{kk:Nat}{tpos:Pos}
def iEnum(K:PySem.W.Frag)(ta:TA):TI:=fun σ H R=>ta σ H fun vs H1=>∃a,vs=[.ref a]/\(∃xs,SqL K H1 a xs)/\R (Ite K a) H1
theorem pi_enum{a:Expr}{ta:TA}{p pos:Pos}(hg:Gl X "enumerate")(hm:X.mg "enumerate"=none)(ha:PA X [a] ta)(hs:starEach [a] X.env=[(false,eval a X.env)]):PI X (.Tuple elts kk tpos) (.Call (.Name "enumerate" p) [a] [] pos) (iEnum X.K ta):=by
 intro pins s σ H R I h;refine Call_ (zif I hg hm boot_enumerate (ybb (thn (ha pos pins s σ H _ I h) fun us s1 ⟨vs,H1,I1,r1,q1⟩=>?_) hs rfl))
 obtain⟨l,e,⟨xs,hq⟩,q⟩:=q1;subst e;obtain⟨u,rfl,ru⟩:=ziz r1;cases ru;obtain⟨its,rv,pl,hz⟩:=I1.list hq;have llt:l<s1.heap.objs.size:=by obtain⟨o,n,e,_⟩:=pl;exact yae e
 refine call_enumerate_list pl.isList fun h' he hit hsz hk=>?_
 have I2:Inv X pins σ H1 { s1 with heap:=h',toks:=s1.toks }:=I1.kept hk
 refine wpAny_pyIter_enum he ⟨s1.heap.objs.size+1,[s1.heap.objs.size+1,s1.heap.objs.size],_,_,H1,rfl,I2,turn_enum l _ _ (by simp),⟨⟨_,he⟩,hit⟩,fun b hb=>?_,q⟩
 have hb':s1.heap.objs.size<=b:=by
  obtain rfl|hb:=ya7.mp hb
  ·exact yc5 _
  ·have e:b=s1.heap.objs.size:=by simpa using hb
   subst e;exact yad _
 exact I1.fpOk hb' (I1.hok.fresh hb')
end
end Pu
set_option Elab.async false
set_option linter.all false
set_option maxRecDepth 100000
namespace Pu
open PySem PySem.Spec PyProof.Rows L2 Zw Zx
section
variable {X:Cx}{pins:List (Addr×Obj)}{σ:L2.St}{H:Hp}{s:Shared}{a:Addr}{o:Obj}{kvs:List (Key×V)}
theorem kv_len{vs:List (Key×Value)}(r:KV kvs vs):kvs.length=vs.length:=ye4 (show Paired _ kvs vs from r)
end
section
variable {X:Cx}{o:Expr}{to:TE}{ap cp:Pos}{elts:List Expr}{kk:Nat}{tpos:Pos}
end
end Pu
set_option Elab.async false
set_option linter.all false
set_option maxRecDepth 100000
namespace Pu
open PySem PySem.Spec PyProof.Rows L2 Zw Zx
def zku(ifs:List Expr)(env:Env):Sem Bool:=forIn ifs true fun c r=>if r=true then do let ok <- isTrue c env (eval c env);pure (ForInStep.yield ok) else pure (ForInStep.yield r)
def PTs(X:Cx)(ifs:List Expr)(t:TT):Prop :=
 ∀(pins:List (Addr×Obj)) (s:Shared) (σ:L2.St) (H:Hp) (Q:Bool->Hp->Prop),Inv X pins σ H s->t σ H Q->wpAny (model X.prog X.w) X.A (zku ifs X.env) (TP X pins σ Q) X.xe s
theorem pts_nil{X:Cx}:PTs X [] (fun _ H Q=>Q true H):=fun pins s σ H Q I h=>wpAny_pure ⟨H,I,h⟩
theorem pts_one{X:Cx}{c:Expr}{t:TT}(h:PT X c t):PTs X [c] t:=fun pins s σ H Q I q=>by
 have e:zku [c] X.env=(isTrue c X.env (eval c X.env) >>= fun ok=>pure ok):=by
  unfold zku;simp[List.forIn_cons]
 rw[e];exact wpAny_bind (wpAny_mono (h pins s σ H Q I q) (fun b s1 h1=>wpAny_pure h1) fun _ _ z=>z)
theorem comp_turn2{elt target iter:Expr}{ifs:List Expr}{scope:Scope}{pos:Pos}{it acc:Value}{env:Env}:compTurn (.ListComp elt [⟨target,iter,ifs,0⟩] scope pos) 0 it acc env=(standAt iter.pos >>= fun _=>pyNext it >>= fun r=>match r with
  |none=>pure (.done .next)
  |some u=>letOwnedTupleGo target it u >>= fun _=>assign target env u >>= fun _=>zku ifs env >>= fun ok =>
   if ok=true then ((eval elt env >>= fun x=>call (.builtin "list.append") [acc,x] >>= fun _=>pure ()) >>= fun _=>again (.compLoop (.ListComp elt [⟨target,iter,ifs,0⟩] scope pos) 0 it acc env))
   else again (.compLoop (.ListComp elt [⟨target,iter,ifs,0⟩] scope pos) 0 it acc env)):=by rfl
theorem comp_loop2{prog:Program}{w:World}{A:Around}{R:Result->Shared->Prop}{s:Shared}{elt target iter:Expr}{ifs:List Expr}{scope:Scope}{pos:Pos}{it acc:Value}{env:Env}{NE:Value->Shared->Prop}(hN:NE=notedBy (model prog w) A env fun e s'=>R (.error e) s')(I:Nat->Shared->Prop)
  (hturn : ∀ n s, I n s -> wpAny (model prog w) A (pyNext it) (fun r s₁ => match r with
   |none=>R (.ok .next) s₁
   |some v=>wpAny (model prog w) A (letOwnedTupleGo target it v) (fun _ s₁'=>wpAny (model prog w) A (assign target env v) (fun _ s₂=>wpAny (model prog w) A (zku ifs env) (fun ok s₂'=>if ok=true then wpAny (model prog w) A (eval elt env) (fun x s₃ =>
     wpAny (model prog w) A (call (.builtin "list.append") [acc,x]) (fun _ s₄=>∃m,m<n/\I m s₄) NE s₃)
     NE s₂' else ∃m,m<n/\I m s₂') NE s₂) NE s₁') NE s₁) NE s)
  (k:Nat) (hk:I k s):codeAny (model prog w) A (.compLoop (.ListComp elt [⟨target,iter,ifs,0⟩] scope pos) 0 it acc env) R s:=by
 subst hN;refine codeAny_loop rfl I (fun n s hI=>?_) k hk
 show wpAny _ _ ((compTurn (.ListComp elt [⟨target,iter,ifs,0⟩] scope pos) 0 it acc env).onRaise (fun y=>do noteFrame y env;theTreesLotGoes y)) _ _ s
 refine wpAny_noted ?_;rw[comp_turn2];refine wpAny_bind (wpAny_standAt (wpAny_bind (wpAny_mono (hturn n s hI) (fun r s₁ h₁=>?_) fun _ _ z=>z)))
 cases r with
 |none=>exact wpAny_pure h₁
 |some v =>
  refine wpAny_bind (wpAny_mono h₁ (fun _ s₁' h₁'=>?_) fun _ _ z=>z)
  refine wpAny_bind (wpAny_mono h₁' (fun _ s₂ h₂=>wpAny_bind (wpAny_mono h₂ (fun ok s₂' h₂'=>?_) fun _ _ z=>z)) fun _ _ z=>z)
  cases ok with
  |false =>
   rw[if_neg (by decide)]at h₂' ⊢
   exact wpAny_pure ⟨rfl,h₂'⟩
  |true =>
   rw[if_pos rfl]at h₂' ⊢;exact wpAny_bind (wpAny_bind (wpAny_mono h₂' (fun x s₃ h₃=>wpAny_bind (wpAny_mono h₃ (fun _ s₄ h₄=>wpAny_pure (wpAny_pure ⟨rfl,h₄⟩)) fun _ _ z=>z)) fun _ _ z=>z))
theorem zjj(env:Env):∀(names:List (Str×NameKind)),(∀y∈names,y.2=.free->∃c,env.cells.lookup y.1=some c)->∀acc:List (Str×Addr),∃cl:List (Str×Addr),
  (forIn names acc fun(x:Str×NameKind) (r:List (Str×Addr))=>(if (x.2 == NameKind.free)=true then do let a <- cellOf env x.1;pure (ForInStep.yield ((x.1,a)::r)) else pure (ForInStep.yield r):Sem (ForInStep (List (Str×Addr)))))=(pure cl:Sem (List (Str×Addr))) /\
  (∀y c,cl.lookup y=some c->acc.lookup y=some c\/env.cells.lookup y=some c)/\(∀y∈names,y.2=.free->∃c,cl.lookup y.1=some c)/\∀y c,acc.lookup y=some c->∃c',cl.lookup y=some c'
 |[],_,acc=>⟨acc,rfl,fun _ _ e=>.inl e,(fun _ z=>by cases z),fun _ c e=>⟨c,e⟩⟩
 |(n,k)::r,h,acc=>by
  rw[List.forIn_cons]
  by_cases hk:k=.free
  ·subst hk;obtain⟨c,hc⟩:=h (n,.free) (yab ..) rfl;have e1:cellOf env n=pure c:=by unfold cellOf;rw[hc]
   obtain⟨cl,e,h1,h2,h3⟩:=zjj env r (fun y hy=>h y (ya9 _ hy)) ((n,c)::acc)
   refine⟨cl,?_,fun y c' q=>?_,fun y hy hf=>?_,fun y c' q=>?_⟩
   ·simp only[beq_self_eq_true,if_true,e1,pure_bind];exact e
   ·rcases h1 y c' q with z|z
    ·rw[yaz]at z;cases hy:y == n with
     |true =>
      rw[hy]at z;cases z;exact .inr (by rw[eq_of_beq hy];exact hc)
     |false=>rw[hy]at z;exact .inl z
    ·exact .inr z
   ·obtain rfl|hy:=ya7.mp hy
    ·exact h3 n c (by simp)
    ·exact h2 y hy hf
   ·by_cases hy:y=n
    ·subst hy;exact h3 y c (by simp)
    ·exact h3 y c' (by rw[yaz,beq_eq_false_iff_ne.mpr hy];exact q)
  ·have hk':(k == NameKind.free)=false:=beq_eq_false_iff_ne.mpr hk;obtain⟨cl,e,h1,h2,h3⟩:=zjj env r (fun y hy=>h y (ya9 _ hy)) acc
   refine⟨cl,?_,h1,fun y hy hf=>?_,h3⟩
   ·simp only[hk',pure_bind];exact e
   ·obtain rfl|hy:=ya7.mp hy
    ·exact absurd hf hk
    ·exact h2 y hy hf
theorem closure_for(scope:Scope)(env:Env)(h:∀y∈scope.names,y.2=.free->∃c,env.cells.lookup y.1=some c):∃cl,closureFor scope env=pure cl/\(∀y c,cl.lookup y=some c->env.cells.lookup y=some c)/\∀y∈scope.names,y.2=.free->∃c,cl.lookup y.1=some c:=by
 obtain⟨cl,e,h1,h2,_⟩:=zjj env scope.names h [];refine⟨cl,?_,fun y c q=>?_,h2⟩
 ·have e2:closureFor scope env=(forIn scope.names [] fun(x:Str×NameKind) (r:List (Str×Addr))=>(if (x.2 == NameKind.free)=true then do let a <- cellOf env x.1;pure (ForInStep.yield ((x.1,a)::r)) else pure (ForInStep.yield r):Sem (ForInStep (List (Str×Addr))))) >>= pure:=rfl
  rw[e2,e,pure_bind]
 ·rcases h1 y c q with z|z
  ·cases z
  ·exact z
theorem zma:∀(names:List (Str×NameKind)) (h:Heap) (acc:List (Str×Addr)) (y:Str) (c:Addr),(cellsFrom h.objs.size names acc).lookup y=some c->acc.lookup y=some c\/(h.objs.size<=c/\(pushCells h names).IsCell c none/\(y,NameKind.cell)∈names)
 |[],h,acc,y,c,e=>.inl e
 |(n,k)::r,h,acc,y,c,e=>by
  unfold cellsFrom at e;unfold pushCells;split at e
  ·rename_i hk;rw[if_pos hk];have ez:(h.push { cls:=.type "cell",data:=.cell none }).objs.size=h.objs.size+1:=yc2 ..;rw[<- ez]at e
   rcases zma r _ _ y c e with q|⟨q1,q2,q3⟩
   ·rw[yaz]at q;cases hy:y == n with
    |true =>
     rw[hy]at q;cases q;have e1:y=n:=eq_of_beq hy;subst e1;exact .inr ⟨yad _,⟨_,pushCells_keeps _ _ _ _ (yal _ rfl),rfl⟩,by rw[eq_of_beq hk];exact yab ..⟩
    |false=>rw[hy]at q;exact .inl q
   ·exact .inr ⟨by rw[ez]at q1;exact yaj (yc5 _) q1,q2,ya9 _ q3⟩
  ·rename_i hk;rw[if_neg hk]
   rcases zma r h acc y c e with q|⟨q1,q2,q3⟩
   ·exact .inl q
   ·exact .inr ⟨q1,q2,ya9 _ q3⟩
theorem zmb:∀(names:List (Str×NameKind)) (h:Heap) (acc:List (Str×Addr)),(∀y z c,acc.lookup y=some c->acc.lookup z=some c->y=z)->(∀y c,acc.lookup y=some c->c<h.objs.size) ->
  ∀y z c,(cellsFrom h.objs.size names acc).lookup y=some c->(cellsFrom h.objs.size names acc).lookup z=some c->y=z
 |[],h,acc,hi,_=>hi
 |(n,k)::r,h,acc,hi,hl=>by
  unfold cellsFrom;split
  ·have ez:(h.push { cls:=.type "cell",data:=.cell none }).objs.size=h.objs.size+1:=yc2 ..;rw[<- ez];refine zmb r _ _ (fun y z c h1 h2=>?_) (fun y c h1=>?_)
   ·rw[yaz]at h1 h2;cases hy:y == n with
    |true =>
     rw[hy]at h1;cases h1;cases hz:z == n with
     |true=>rw[eq_of_beq hy,eq_of_beq hz]
     |false =>
      rw[hz]at h2;exact absurd (hl z _ h2) (yb3 _)
    |false =>
     rw[hy]at h1;cases hz:z == n with
     |true =>
      rw[hz]at h2;cases h2;exact absurd (hl y _ h1) (yb3 _)
     |false=>rw[hz]at h2;exact hi y z c h1 h2
   ·rw[yaz]at h1;rw[ez];cases hy:y == n with
    |true=>rw[hy]at h1;cases h1;exact yc3 _
    |false=>rw[hy]at h1;exact yca (hl y c h1)
  ·exact zmb r h acc hi hl
theorem zm9:∀(names:List (Str×NameKind)) (n lo:Nat) (acc:List (Str×Addr)) (y:Str) (c:Addr),lo<=n->((y,NameKind.cell)∈names\/∃c0,acc.lookup y=some c0/\lo<=c0)->(cellsFrom n names acc).lookup y=some c->lo<=c
 |[],n,lo,acc,y,c,hn,h,e=>by
  rcases h with h|⟨c0,h1,h2⟩
  ·cases h
  ·have e':acc.lookup y=some c:=e;rw[h1]at e';cases e';exact h2
 |(m,k)::r,n,lo,acc,y,c,hn,h,e=>by
  unfold cellsFrom at e;split at e
  ·refine zm9 r (n+1) lo _ y c (Nat.le_succ_of_le hn) ?_ e
   by_cases hy:y=m
   ·subst hy;exact .inr ⟨n,by simp,hn⟩
   ·rcases h with h|⟨c0,h1,h2⟩
    ·rcases ya7.mp h with z|z
     ·cases z;exact absurd rfl hy
     ·exact .inl z
    ·exact .inr ⟨c0,by rw[yaz,beq_eq_false_iff_ne.mpr hy];exact h1,h2⟩
  ·rename_i hk;refine zm9 r n lo acc y c hn ?_ e
   rcases h with h|h
   ·rcases ya7.mp h with z|z
    ·cases z;exact absurd rfl hk
    ·exact .inl z
   ·exact .inr h
theorem newEnv_cells{M:Model}{A:Around}{E:Value->Shared->Prop}{s:Shared}{scope:Scope}{globals:Addr}{cl:List (Str×Addr)}{qual:Str}{func:Option Addr}{code:Value}{outer:Env}{builtins:Addr}{Q:Env->Shared->Prop}
  (hQ:Q (newEnv scope s.heap.objs.size globals (cellsFrom (s.heap.objs.size+1) scope.names cl) qual func code (some outer) builtins) { s with heap:=pushCells (s.heap.push { cls:=.type "dict",data:=.dict #[] }) scope.names }) :
  wpAny M A (newFunctionEnv scope globals cl [] qual func code (some outer) builtins) Q E s:=by
 simp only[newFunctionEnv,Option.isSome_some,if_true];refine wpAny_bind (wpAny_alloc ?_);refine wpAny_bind (wpAny_layCells _ (fun name kind cells=>by cases hkc:kind == NameKind.cell<;>simp[hkc]) _ _ _ _ ?_);rw[show({ s with heap:=s.heap.push { cls:=.type "dict",data:=.dict #[] } }:Shared).heap.objs.size=s.heap.objs.size+1 from yc2 ..]
 rw[List.forIn_nil];exact wpAny_bind (wpAny_pure (wpAny_pure hQ))
abbrev zac(X:Cx)(scope:Scope)(cl:List (Str×Addr))(N':List Str)(C:Addr)(s₀:Shared)(H₀:Hp)(ex:List Addr)(xb:Value->Shared->Prop):Cx:={ compCx X scope cl N' C s₀ H₀ ex with fn:=fun x=>decide (scope.names.lookup x=some .cell),xe:=xb }
theorem ff_to{h h' B B':Heap}(k:∀b o,B.get? b=none->h.get? b=some o->(∀us,o.data≠.fields us)->B'.get? b=none/\∃o',h'.get? b=some o'/\∀us,o'.data≠.fields us):∀{l:List Env},h.FunFrames B l->h'.FunFrames B' l
 |[],_=>trivial
 |_::_,⟨x,⟨L,o,y1,y2,y3,y4⟩,r⟩=>by
  obtain⟨z1,o',z2,z3⟩:=k L o y2 y3 y4;exact⟨x,⟨L,o',y1,z1,z2,z3⟩,ff_to k r⟩
def FrOk(X:Cx):Prop:=∃v l,X.stack=v::l/\X.env.frame=v.frame
theorem comp_pass{X:Cx}{E:L2.St->XK}{pins:List (Addr×Obj)}{σ:L2.St}{H:Hp}{s s':Shared}{C:Addr}{benv:Env}{e acc:Value}{use:Option (Value->Sem Unit)}{QQ:Value->Shared->Prop}{EE:Value->Shared->Prop}(hx:zbk X E)(hst:FrOk X)(I:Inv X pins σ H s)(fC:FpOk X pins H C)(hC:∃m,s.heap.Ns C m)(nC:C∉frs X.stack)
  (hb:benv.frame=X.env.frame) (h:CX1 X.prog X.w X.stack H s (E σ) e s'):wpAny (model X.prog X.w) X.A (noteFrame e benv) (fun _ s2=>compPost (model X.prog X.w) X.A X.xe use QQ acc C (.error e) s2) EE s':=by
 obtain⟨v,l,st,hv⟩:=hst;obtain⟨a,cls,H',B,a0,rfl,os,bare,un,hok,kB,tB,fl0,he⟩:=h;have fl1:FlyX B (v::l) a cls a0 s'.heap:=st▸fl0
 obtain⟨L,hL⟩:∃L,v.frame=some L:=by
  obtain⟨_,_,_,⟨_,⟨L,_,y,_⟩,_⟩,_⟩:=fl1;exact⟨L,y⟩
 refine noteX (st▸I.ok.frames) (hb.trans hv) hL fl1 fun h4 held sm=>?_
 obtain⟨m,oC,es,ep,hCo,dC,rC⟩:=hC;have bC:B.get? C=some oC:=kB C oC hCo fC.1 nC;obtain⟨f1,f2,f3,oe,ws,Tb,oT,ts,ha,hcl,hd,g1,nT,Tne,hT,dT,g3⟩:=held
 have hne:∀{b:Addr},B.get? b=none->b≠C:=fun z w=>by
  rw[w,bC]at z;cases z
 have key:∃m,h4.Ns C m/\∀h',Heap.SameBut C h4 h'->∀cenv:Env,cenv.locals=C->wpAny (model X.prog X.w) X.A (PySem.passOn "comprehension.variables-let-go" (.ref a) cenv:Sem Value) (fun _ _=>False) X.xe { s' with heap:=h' }:=by
  refine⟨m,⟨oC,es,ep,f1 C oC bC,dC,rC⟩,fun h5 sb cenv _=>?_⟩
  have ha5:h5.get? a=some oe:=(sb.2 a (hne f2)).trans ha;have hT5:h5.get? Tb=some oT:=(sb.2 Tb (hne nT)).trans hT;unfold PySem.passOn;refine wpAny_bind (wpAny_field ha5 hd g1 ?_);rw[if_neg (by simp)]
  refine wpAny_bind ?_;unfold setFlight;refine wpAny_bind (wpAny_field ha5 hd g1 ?_);rw[if_pos (by simp)]
  refine wpAny_setField hT5 dT (yc9.mp g3).1 (wpAny_throw ?_);generalize hfl:(cenv.frame.elim Value.none fun f=>rawInt f)=fl
  have dT6:=Obj.data_mapFields dT (·.setIfInBounds 3 fl);have hT6:=Heap.get?_update_self (Obj.mapFields (·.setIfInBounds 3 fl)) hT5 (Obj.isFreed_of_fields dT6);generalize hh6:h5.update Tb (Obj.mapFields (·.setIfInBounds 3 fl))=h6 at hT6 ⊢
  have to6:∀b o,b≠C->b≠Tb->h4.get? b=some o->h6.get? b=some o:=fun b o n1 n2 e=>by
   rw[<- hh6,yc4 _ _ (yb8 n2)];exact(sb.2 b n1).trans e
  have B6:∀b o,b≠C->B.get? b=some o->h6.get? b=some o:=fun b o n e=>to6 b o n (fun z=>by rw[z,nT]at e;cases e) (f1 b o e)
  have hid:∀{b:Addr} {o:Obj},(PySem.W.hideAll s.heap [C]).get? b=some o->s.heap.get? b=some o/\b≠C:=fun {b o} e=>⟨ych _ e,fun z=>by
   rw[z,ydo [C] (ya6.mpr rfl)]at e;cases e⟩
  have hidB:∀{b:Addr} {o:Obj},b≠C->B.get? b=some o->(PySem.W.hideAll B [C]).get? b=some o:=fun {b o} n e=>yc1 _ e (fun z=>n (ya6.mp z))
  have hidN:∀{b:Addr},B.get? b=none->(PySem.W.hideAll B [C]).get? b=none:=fun {b} e=>by
   cases q:(PySem.W.hideAll B [C]).get? b with
   |none=>rfl
   |some o =>
    rw[ych _ q]at e;cases e
  have IX:Inv X pins σ H { s with heap:=PySem.W.hideAll s.heap [C] }:=zhn (t':=s.toks) (ch:=[C]) I (fun b o n e=>yc1 _ e n) fun b z=>by
   rw[ya6.mp z];exact fC
  have slot:∀b o,s.heap.get? b=some o->H b=none->b∈frs X.stack->∃z,h6.get? b=some { o with slots:=z }:=fun b o e n z=>by
   obtain⟨_,o2,ho2,d2⟩:=I.stack.mem z;rw[e]at ho2;cases ho2;obtain⟨z2,e2⟩:=un.slot b o e n z (by simp)
   obtain⟨z3,e3⟩:=sm b _ e2 d2;refine⟨z3,to6 b _ (fun w=>nC (w▸z)) (fun w=>?_) e3⟩
   rw[w,hT]at e3;cases e3;exact d2 _ dT
  have HC:H' C=none:=un.free C oC hCo fC.1 (by simp)
  refine hx pins σ H _ _ _ IX ⟨a,cls,H',PySem.W.hideAll B [C],a0,rfl,os,bare,⟨fun b o e n z _=>?_,fun b o e n z _=>slot b o (hid e).1 n z,fun b o e n z=>un.free b o (hid e).1 n z,fun b o e _=>?_,un.tups,un.frzs,un.tbls⟩,?_,fun b o e n z=>hidB (hid e).2 (kB b o (hid e).1 n z),fun b o e z=>?_,⟨fl,fun b o e=>?_,hidN f2,?_,?_⟩,he⟩
  ·exact B6 b o (hid e).2 (kB b o (hid e).1 n z)
  ·by_cases z:b∈frs X.stack
   ·obtain⟨w,q⟩:=slot b o (hid e).1 (I.stkFree b z) z;exact⟨_,q⟩
   ·obtain⟨o',q⟩:=tB b o (hid e).1 z;exact⟨o',B6 b o' (hid e).2 q⟩
  ·intro b u e;refine(hok b u e).stay (fun c x hc q=>hidB (fun w=>?_) q) (fun _ q=>q) fun _ _ q=>q
   rcases hc with y|y
   ·rw[<- y,w,HC]at e;cases e
   ·rw[w,HC]at y;cases y
  ·obtain⟨o',q⟩:=tB b o (hid e).1 z;exact⟨o',hidB (hid e).2 q⟩
  ·have e':=ych _ e;refine B6 b o (fun w=>?_) e'
   rw[w,ydo [C] (ya6.mpr rfl)]at e;cases e
  ·rw[st];refine ff_to (fun b o n e d=>⟨hidN n,o,to6 b o (hne n) (fun w=>?_) e,d⟩) f3
   rw[w,hT]at e;cases e;exact d _ dT
  ·refine⟨oe,ws,Tb,_,_,?_,hcl,hd,g1,hidN nT,Tne,hT6,dT6,?_⟩
   ·rw[<- hh6,yc4 _ _ Tne];exact ha5
   ·simp[Array.getElem?_setIfInBounds,(yc9.mp g3).1]
 cases use<;>exact key
section
variable {X:Cx}{elt iter tg:Expr}{ifs:List Expr}{scope:Scope}{pos pos2:Pos}{cl:List (Str×Addr)}{N':List Str}{wi:TI}{g:TG}{tt:TT}{te:TE}
def tLC2(σ':L2.St->L2.St)(wi:TI)(g:TG)(tt:TT)(te:TE):TE:=fun σ H Q=>wi σ H fun J H1=>∃(W:Nat->List V->L2.St->Hp->Prop) (n:Nat),n<=sizeLine/\W 0 [] (σ' σ) H1/\∀i ys τ H,W i ys τ H->ys.length<=i/\i<=n /\
 ((J.stop i H/\∀p,H p=none->Q (.ref p) (upd H p (.lst ys)))\/(i<n/\J.go i H/\∀x H',J.yld i H x H'->g x τ H' fun τ2 H2=>tt τ2 H2 fun k H3=>if k=true then te τ2 H3 fun y H4=>W (i+1) (ys++[y]) τ2 H4 else W (i+1) ys τ2 H3))
theorem lc_any(σ':L2.St->L2.St)(hclos:closureFor scope X.env=pure cl)(hkind:scope.kind=.function)(hnames:∀y∈scope.names,y.2=.local->scope.names.lookup y.1=some .local)
  (hcl:∀y c,cl.lookup y=some c->X.env.cells.lookup y=some c) (hhas:∀y,(relabel scope X.env).names.lookup y=some .cell\/(relabel scope X.env).names.lookup y=some .free->(y,NameKind.cell)∈scope.names\/∃c,cl.lookup y=some c) (hcap:∀(σ:L2.St) (i:Nat) (y:Str) (v:V),N'[i]?=some y->(σ' σ)[i]?=some (some v)->(y,NameKind.cell)∉scope.names)
  (hσ:∀σ:L2.St,σ.length=X.N.length->(σ' σ).length=N'.length)
  (hvis:∀(σ:L2.St) (i:Nat) (y:Str) (v:V),N'[i]?=some y->(σ' σ)[i]?=some (some v)->((relabel scope X.env).names.lookup y=some .cell\/(relabel scope X.env).names.lookup y=some .free)/\∃j:Nat,X.N[j]?=some y/\σ[j]?=some (some v)/\Vis X.env.scope y/\X.env.kindOf y≠some .local)
  (hc:X.calm=true) (hi:PI X tg iter wi) {E:L2.St->XK} (hps:zbk X E) (hst:FrOk X) {σ:L2.St} (hg:∀cl C s₀ H₀ ex xb,zbk (zac X scope cl N' C s₀ H₀ ex xb) (fun _=>E σ)->PG (zac X scope cl N' C s₀ H₀ ex xb) tg g) (ht:∀cl C s₀ H₀ ex xb,zbk (zac X scope cl N' C s₀ H₀ ex xb) (fun _=>E σ)->PTs (zac X scope cl N' C s₀ H₀ ex xb) ifs tt) (he:∀cl C s₀ H₀ ex xb,zbk (zac X scope cl N' C s₀ H₀ ex xb) (fun _=>E σ)->PE (zac X scope cl N' C s₀ H₀ ex xb) elt te)
  (hs:∀x,foldedSetIterable iter X.env x=pure x) {use:Option (Value->Sem Unit)} {pins:List (Addr×Obj)} {s:Shared} {H:Hp} {Q:VK} {QQ:Value->Shared->Prop} (I:Inv X pins σ H s) (h:tLC2 σ' wi g tt te σ H Q)
  (hend:∀(D C:Addr) (s5:Shared) (H5:Hp),Inv X pins σ H5 s5->Q (.ref D) H5->(∃m,s5.heap.Ns C m)->FpOk X pins H5 C->compPost (model X.prog X.w) X.A X.xe use QQ (.ref D) C (.ok .next) s5) :
  wpAny (model X.prog X.w) X.A (comprehension (.ListComp elt [⟨tg,iter,ifs,0⟩] scope pos) scope X.env pos2 (newList []) false (eval iter X.env) use) QQ X.xe s:=by
 refine wpAny_comprehension_free (use:=use) rfl hs hclos hkind hnames (thn (hi pins s σ H _ I h) fun v s1 h1=>thn h1 fun itv s2 h2=>?_)
 obtain⟨it,fp,tn,J,H2,e,I2,T,st2,f2,W,n,hn,w0,turn⟩:=h2;subst e;refine wpAny_newObj_type (newEnv_cells ?_);dsimp only;generalize hHp:s2.heap.push { cls:=.type "list",dict:=none,data:=.seq ([]:List Value).toArray }=P2;generalize hcl':cellsFrom (P2.objs.size+1) scope.names cl=cl';generalize hh1:pushCells (P2.push { cls:=.type "dict",data:=.dict #[] }) scope.names=h₁;have hC:P2.objs.size=s2.heap.objs.size+1:=by rw[<- hHp,yc2]
 have hP3:(P2.push { cls:=.type "dict",data:=.dict #[] }).objs.size=P2.objs.size+1:=yc2 ..;have hDC:s2.heap.objs.size≠P2.objs.size:=by rw[hC];exact yau (yc3 _)
 have below:∀b,b<s2.heap.objs.size->b≠P2.objs.size/\b≠s2.heap.objs.size:=fun b hb=>⟨by rw[hC];exact yau (yca hb),yau hb⟩
 have old:∀b o,s2.heap.get? b=some o->h₁.get? b=some o:=fun b o e=>by
  rw[<- hh1];exact pushCells_keeps _ _ _ _ (yac _ (hHp▸yac _ e))
 have hacc:h₁.PlainList s2.heap.objs.size #[]:=⟨_,by
  rw[<- hh1];exact pushCells_keeps _ _ _ _ (yac _ (hHp▸yal _ rfl))⟩
 have hns₁:h₁.Ns P2.objs.size (fun _=>none):=by
  rw[<- hh1];exact(Heap.Ns.new P2 (.type "dict")).keeps (pushCells_keeps _ _)
 have cells:∀y c,cl'.lookup y=some c->X.env.cells.lookup y=some c\/(P2.objs.size<c/\h₁.IsCell c none/\(y,NameKind.cell)∈scope.names):=fun y c e=>by
  rw[<- hcl',<- hP3]at e
  rcases zma _ _ _ y c e with q|⟨q1,q2,q3⟩
  ·exact .inl (hcl y c q)
  ·rw[hP3]at q1;rw[hh1]at q2;exact .inr ⟨q1,q2,q3⟩
 have has':∀y,(y,NameKind.cell)∈scope.names\/(∃c,cl.lookup y=some c)->∃c,cl'.lookup y=some c:=fun y hy=>by
  rw[<- hcl']
  have go:∀(names:List (Str×NameKind)) (n:Nat) (acc:List (Str×Addr)),((y,NameKind.cell)∈names\/∃c,acc.lookup y=some c)->∃c,(cellsFrom n names acc).lookup y=some c:=by
   intro names
   induction names with
   |nil =>
    intro n acc h
    rcases h with h|h
    ·cases h
    ·exact h
   |cons x r ih =>
    obtain⟨m,k⟩:=x;intro n acc h;unfold cellsFrom;split
    ·refine ih _ _ ?_
     by_cases hm:y=m
     ·subst hm;exact .inr ⟨n,by simp⟩
     ·rcases h with h|⟨c,h⟩
      ·rcases ya7.mp h with z|z
       ·cases z;exact absurd rfl hm
       ·exact .inl z
      ·exact .inr ⟨c,by rw[yaz,beq_eq_false_iff_ne.mpr hm];exact h⟩
    ·rename_i hk;refine ih _ _ ?_
     rcases h with h|h
     ·rcases ya7.mp h with z|z
      ·cases z;exact absurd rfl hk
      ·exact .inl z
     ·exact .inr h
  exact go _ _ _ hy
 have fsub:∀b∈frs X.stack,b∈X.env.locals::X.fs:=I2.stkSub
 have fpfs:∀b∈fp,b∉frs X.stack:=fun b hb z=>by
  obtain⟨_,h2,h3,_⟩:=f2 b hb
  rcases ya7.mp (fsub b z) with q|q
  ·exact h2 q
  ·exact h3 q
 have fpold:∀b∈fp,b<s2.heap.objs.size:=fun b hb=>by
  obtain⟨o,e,_⟩:=T.obj 0 _ st2 b hb;exact yae e
 have cold:∀y c,cl'.lookup y=some c->c<s2.heap.objs.size\/P2.objs.size<c:=fun y c e=>by
  rcases cells y c e with q|q
  ·obtain⟨v,z⟩:=I2.cell y c q;exact .inl z.lt
  ·exact .inr q.1
 have cneD:∀y c,cl'.lookup y=some c->c≠s2.heap.objs.size:=fun y c e z=>by
  rcases cold y c e with q|q
  ·rw[z]at q;exact yb3 _ q
  ·rw[z,hC]at q;exact absurd q (Nat.not_lt.mpr (yc5 _))
 have cneF:∀b,b<s2.heap.objs.size->(∀y c,X.env.cells.lookup y=some c->c≠b)->∀y c,cl'.lookup y=some c->c≠b:=fun b hb hx y c e z=>by
  rcases cells y c e with q|q
  ·exact hx y c q z
  ·have:=q.1;rw[z,hC]at this;exact absurd (ybo hb (Nat.lt_of_succ_lt this)) (yb3 _)
 have fresh2:∀b,s2.heap.objs.size<=b->H2 b=none:=fun b hb=>I2.hok.fresh hb
 have CS:s2.heap.objs.size<=P2.objs.size:=by rw[hC];exact yc5 _
 obtain⟨xb,hxb⟩:∃xb,xb=notedBy (model X.prog X.w) X.A (compEnvC scope cl' P2.objs.size X.env) fun e s'=>compPost (model X.prog X.w) X.A X.xe use QQ (.ref s2.heap.objs.size) P2.objs.size (.error e) s':=⟨_,rfl⟩
 have hpb:zbk (zac X scope cl' N' P2.objs.size s2 H2 fp xb) (fun _=>E σ):=by
  subst hxb;intro pins4 σ4 H4 s4 e s' I4 hcx
  have IX:Inv X pins σ H4 s4:=I2.call' (s':=s4) (ch:=fp) I4.os I4.base I4.hok I4.bare fun b hb=>by
   obtain⟨g1,g2,g3,g4,g5,g6⟩:=f2 b hb;exact⟨g4,g2,g5,g6⟩
  obtain⟨m4,hm4,_⟩:=I4.loc
  exact comp_pass hps hst IX ⟨I4.free,(I2.fpOk (H':=H2) CS (fresh2 _ CS)).2⟩ ⟨m4,hm4⟩ (fun z=>by
   obtain⟨o,ho,_⟩:=(I2.stack.mem z).2;exact absurd (yae ho) (Nat.not_lt.mpr CS)) rfl hcx
 have ok':(zac X scope cl' N' P2.objs.size s2 H2 fp xb).Ok:=by
  refine⟨I2.ok.mod,hkind,I2.ok.glob,I2.ok.blt,CS,?inj,fun y hy=>has' y (hhas y hy),?cab,I2.ok.hd,I2.ok.frames,.inl rfl,fun b hb=>⟨(below b (fpold b hb)).1,cneF b (fpold b hb) fun y c e=>(f2 b hb).2.2.2.2.1 y c e⟩,
   fun b o e=>I2.bs b o e,yaj I2.ok.bsz I2.sz,fun b o e hb=>?_,fun b hb=>fpfs b hb,I2.stack,I2.stkFree⟩
  case inj =>
   intro y z c h1 h2;have h1':(cellsFrom (P2.push { cls:=.type "dict",data:=.dict #[] }).objs.size scope.names cl).lookup y=some c:=by rw[hP3,hcl'];exact h1
   have h2':(cellsFrom (P2.push { cls:=.type "dict",data:=.dict #[] }).objs.size scope.names cl).lookup z=some c:=by rw[hP3,hcl'];exact h2
   refine zmb scope.names _ cl (fun y z c g1 g2=>I2.ok.inj y z c (hcl y c g1) (hcl z c g2)) (fun y c g=>?_) y z c h1' h2'
   obtain⟨v,q⟩:=I2.cell y c (hcl y c g);rw[hP3,hC];exact yca (yca q.lt)
  case cab =>
   intro y c hy e;have hy':scope.names.lookup y=some .cell:=of_decide_eq_true hy;have e':(cellsFrom (P2.objs.size+1) scope.names cl).lookup y=some c:=by rw[hcl'];exact e
   exact yaj CS (yaj (yc5 _) (zm9 scope.names _ (P2.objs.size+1) cl y c (yad _) (.inl (ybs hy')) e'))
  ·obtain⟨_,_,_,q,_⟩:=f2 b hb
   rcases q with q|q
   ·exact I2.ok.noex b o e q
   ·exact absurd (yam (yae e) (yaj I2.ok.bsz q)) (yb3 _)
 have I':Inv (zac X scope cl' N' P2.objs.size s2 H2 fp xb) pins (σ' σ) H2 { s2 with heap:=h₁ }:=by
  refine⟨ok',rfl,I2.bare,Un.kept old,⟨_,hns₁,fun i y v h1 h2 h3=>?_⟩,fun y c e=>?_,fresh2 _ CS,?fc,fun p hp=>?_,I2.hok.kept old,hσ σ I2.len⟩
  case fc =>
   intro y c e
   rcases cells y c e with q|q
   ·exact I2.freeC y c q
   ·exact fresh2 c (yaj CS (yd1 q.1))
  ·obtain⟨hk,j,h4,h5,h6,h7⟩:=hvis σ i y v h1 h2;have hno:=hcap σ i y v h1 h2;obtain⟨m,hn',hl⟩:=I2.loc;obtain⟨u,r,l⟩:=hl j y v h4 h5 h6;obtain⟨c,hcc⟩:=has' y (hhas y hk);refine⟨u,r,.inr ⟨hk,c,hcc,?_⟩⟩
   rcases l with ⟨k1,_⟩|⟨_,c',e',z⟩
   ·exact absurd k1 h7
   ·rcases cells y c hcc with w|w
    ·rw[w]at e';cases e';obtain⟨o,ho,hd⟩:=z;exact⟨o,old _ _ ho,hd⟩
    ·exact absurd w.2.2 hno
  ·rcases cells y c e with w|w
   ·obtain⟨v,o,ho,hd⟩:=I2.cell y c w;exact⟨v,o,old _ _ ho,hd⟩
   ·exact⟨none,w.2.1⟩
  ·obtain⟨e1,e2,e3,e4,e5⟩:=I2.pin p hp;refine⟨old _ _ e1,e2,(below _ (yae e1)).1,fun z=>?_,e5⟩
   rcases ya7.mp (fsub _ z) with q|q
   ·exact e3 q
   ·exact e4 q
 have stat:∀{H':Hp},(∀b∈fp,H' b=none)->∀b∈fp,FpOk (zac X scope cl' N' P2.objs.size s2 H2 fp xb) pins H' b:=fun hn' b hb =>
  ⟨hn' b hb,(below b (fpold b hb)).1,fpfs b hb,.inl hb,cneF b (fpold b hb) fun y c e=>(f2 b hb).2.2.2.2.1 y c e,(f2 b hb).2.2.2.2.2⟩
 have Dok:∀{H':Hp},H' s2.heap.objs.size=none->FpOk (zac X scope cl' N' P2.objs.size s2 H2 fp xb) pins H' s2.heap.objs.size:=fun hn' =>
  ⟨hn',hDC,(fun z=>by
   obtain⟨o,ho,_⟩:=(I2.stack.mem z).2;exact absurd (yae ho) (yb3 _)),.inr (yad _),cneD,fun p hp z=>absurd (yae (I2.pin p hp).1) (by rw[z];exact yb3 _)⟩
 have loop:∀s3:Shared,s3={ s2 with heap:=h₁ } ->
   codeAny (model X.prog X.w) X.A (.compLoop (.ListComp elt [⟨tg,iter,ifs,0⟩] scope pos) 0 (.ref it) (.ref s2.heap.objs.size) (compEnvC scope cl' P2.objs.size X.env))
    (compPost (model X.prog X.w) X.A X.xe use QQ (.ref s2.heap.objs.size) P2.objs.size) s3:=by
  rintro s3 rfl
  refine comp_loop2 hxb (fun m s'=>∃i ys τ H',m=n - i/\Inv (zac X scope cl' N' P2.objs.size s2 H2 fp xb) pins τ H' s'/\tn i s'.heap/\(∀b∈fp,H' b=none)/\H' s2.heap.objs.size=none/\(∃its:List Value,zb9 ys its/\s'.heap.PlainList s2.heap.objs.size its.toArray)/\W i ys τ H')
   ?_ n ⟨0,[],σ' σ,H2,rfl,I',T.keep _ _ _ st2 fun b _ o e=>old b o e,fun b hb=>(f2 b hb).1,fresh2 _ (yad _),⟨[],.nil,hacc⟩,w0⟩
  rintro m s4 ⟨i,ys,τ,H4,rfl,I4,st4,fr4,hD4,⟨its,rv,hpl⟩,w4⟩;obtain⟨hly,hin,c⟩:=turn i ys τ H4 w4
  have statp:∀{H':Hp},(∀b∈fp,H' b=none)->∀b∈fp,FpOk (zac X scope cl' N' P2.objs.size s2 H2 fp xb) (pins++zl7 [s2.heap.objs.size] s4.heap) H' b:=fun {H'} fr' b hb=>by
    obtain⟨g1,g2,g3,g4,g5,g6⟩:=stat fr' b hb;refine⟨g1,g2,g3,g4,g5,fun p hp z=>?_⟩
    rcases yai.mp hp with y|y
    ·exact g6 p (ycb _ y) z
    ·rcases yai.mp y with y|y
     ·exact g6 p (yao _ y) z
     ·obtain⟨hb',_⟩:=of_pinsAt y;rw[z,ya6]at hb';exact absurd (fpold b hb) (by rw[hb'];exact yb3 _)
  rcases c with ⟨stop,q⟩|⟨hlt,go,step⟩
  ·obtain⟨k,hDo⟩:=hpl;have I4p:=I4.pinned (fp:=[s2.heap.objs.size]) (fun b hb=>by rw[ya6.mp hb];exact Dok hD4) (fun b hb=>by rw[ya6.mp hb];exact⟨_,hDo,fun v z=>(by cases z)⟩)
   refine thn (T.done (zac X scope cl' N' P2.objs.size s2 H2 fp xb) rfl rfl rfl hc i _ s4 τ H4 _ I4p (statp fr4) st4 stop) fun r s5 ⟨hr,I5⟩=>?_
   subst hr;have hD5:s5.heap.get? s2.heap.objs.size=some { cls:=.type "list",data:=.seq its.toArray k }:=(I5.pin (s2.heap.objs.size,_) (yao _ (yao _ (zco (ya6.mpr rfl) hDo)))).1;obtain⟨m5,hn5,_⟩:=I5.loc;have fC:H4 P2.objs.size=none:=I5.free
   have U5:Un (frs X.stack) fp H2 (upd H4 s2.heap.objs.size (.lst ys)) s2.heap s5.heap:=by
    have B:=I5.base;refine⟨fun b o e1 e2 e3 e4=>B.keep b o e1 e2 e3 e4,fun b o e1 e2 e3 e4=>B.slot b o e1 e2 e3 e4,fun b o e1 e2 e4=>?_,fun b o e1 e4=>B.there b o e1 e4,fun b xs e1=>?_,fun b o u e1=>?_,fun b ps e1=>?_⟩
    ·rw[zaj (below b (yae e1)).2];exact B.free b o e1 e2 e4
    ·have q':=B.tups b xs e1;rw[zaj (zah q' hD4)];exact q'
    ·have q':=B.frzs b o u e1;rw[zaj (zah q' hD4)];exact q'
    ·obtain⟨more,q'⟩:=B.tbls b ps e1;exact⟨more,by rw[zaj (zah q' hD4)];exact q'⟩
   have hzy:ys.length<=sizeLine:=yaj hly (yaj hin hn);have HK:HOk X.prog X.w (upd H4 s2.heap.objs.size (.lst ys)) s5.heap:=Zw.HOk.adopt I5.hok hD4 ⟨hzy,its,k,rv,hD5⟩;have os5:s5.os=s2.os:=I5.os
   have IX:Inv X pins σ (upd H4 s2.heap.objs.size (.lst ys)) s5:=I2.call' (s':=s5) (ch:=fp) os5 U5 HK I5.bare (fun b hb=>by
    obtain⟨g1,g2,g3,g4,g5,g6⟩:=f2 b hb;exact⟨g4,g2,g5,g6⟩)
   refine hend s2.heap.objs.size P2.objs.size s5 _ IX (q _ hD4) ⟨m5,hn5⟩ ?_;have CL:s2.heap.objs.size<=P2.objs.size:=CS;have fp0:FpOk X pins H2 P2.objs.size:=I2.fpOk CS (fresh2 _ CS);exact⟨by rw[zaj (yb8 hDC)];exact fC,fp0.2⟩
  ·obtain⟨k,hDo⟩:=hpl;have I4p:=I4.pinned (fp:=[s2.heap.objs.size]) (fun b hb=>by rw[ya6.mp hb];exact Dok hD4) (fun b hb=>by rw[ya6.mp hb];exact⟨_,hDo,fun v z=>(by cases z)⟩)
   refine thn (T.item (zac X scope cl' N' P2.objs.size s2 H2 fp xb) rfl rfl rfl hc i _ s4 τ H4 _ I4p (statp fr4) st4 go) fun r s5 ⟨u,hr,h5⟩=>?_
   subst hr;refine thn h5 fun _ s6 ⟨x,H6,I6,r6,y6,st6,fr6⟩=>?_
   have I6':=I6.pinned (statp fr6) (T.obj _ _ st6);refine thn (hg _ _ _ _ _ _ hpb _ s6 τ H6 x u _ I6' r6 (step x H6 y6)) fun _ s7 ⟨τ7,H7,I7,q7⟩=>?_
   refine thn (ht _ _ _ _ _ _ hpb _ s7 τ7 H7 _ I7 q7) fun ok s7b ⟨H7b,I7b,q7b⟩=>?_
   have fin:∀{H8:Hp} {s8:Shared} {τ8:L2.St},Inv (zac X scope cl' N' P2.objs.size s2 H2 fp xb) (pins++zl7 [s2.heap.objs.size] s4.heap++zl7 fp s6.heap) τ8 H8 s8->∀h9:Heap,(∀b o,b≠s2.heap.objs.size->s8.heap.get? b=some o->h9.get? b=some o)->tn (i+1) h9/\∀b∈fp,H8 b=none:=fun {H8 s8 τ8} I8 h9 sb=>by
    refine⟨T.keep _ _ _ st6 fun b hb o e=>?_,fun b hb=>?_⟩
    ·exact sb b o (below b (fpold b hb)).2 (I8.pin (b,o) (yao _ (yao _ (zco hb e)))).1
    ·obtain⟨o,e,d⟩:=T.obj _ _ st6 b hb;exact(I8.pin (b,o) (yao _ (yao _ (zco hb e)))).2.1
   cases ok with
   |false =>
    rw[if_neg (by decide)]at q7b ⊢
    have hD8:=I7b.pin (s2.heap.objs.size,_) (yao _ (ycb _ (yao _ (zco (ya6.mpr rfl) hDo))));obtain⟨t9,f9⟩:=fin I7b s7b.heap fun b o _ e=>e
    exact⟨n - (i+1),by omega,i+1,ys,τ7,H7b,rfl,I7b.unpinned.unpinned,t9,f9,hD8.2.1,⟨its,rv,k,hD8.1⟩,q7b⟩
   |true =>
    rw[if_pos rfl]at q7b ⊢;refine thn (he _ _ _ _ _ _ hpb _ s7b τ7 H7b _ I7b q7b) fun uy s8 ⟨y,H8,I8,ry,w8⟩=>?_
    have hD8:=I8.pin (s2.heap.objs.size,_) (yao _ (ycb _ (yao _ (zco (ya6.mpr rfl) hDo))));have P8:s8.heap.PlainList s2.heap.objs.size its.toArray:=⟨k,hD8.1⟩;have hlen:=rv.length;refine wpAny_list_append_plain P8 (fun h' pl' sb=>?_) (by rw[yag,<- hlen];omega)
    have I8u:Inv (zac X scope cl' N' P2.objs.size s2 H2 fp xb) pins τ7 H8 s8:=I8.unpinned.unpinned;obtain⟨d1,d2,d3,d4,d5,d6⟩:=Dok hD8.2.1;have I9:Inv (zac X scope cl' N' P2.objs.size s2 H2 fp xb) pins τ7 H8 { s8 with heap:=h' }:=I8u.turned (t':=s8.toks) (fun b o hb e=>(sb.2 b hb).trans e) d1 d2 d4 d5 d6
    obtain⟨t9,f9⟩:=fin I8 h' fun b o hb e=>(sb.2 b hb).trans e
    exact⟨n - (i+1),by omega,i+1,ys++[y],τ7,H8,rfl,I9,t9,f9,hD8.2.1,⟨its++[uy],rv.append (.cons ry .nil),by simpa using pl'⟩,w8⟩
 refine codeAny_compStart_list (loop _ rfl) (T.self _ 0 _ _ _ (T.keep _ _ _ st2 fun b _ o e=>old b o e) (loop _ rfl))
theorem lc_val(σ':L2.St->L2.St)(hclos:closureFor scope X.env=pure cl)(hkind:scope.kind=.function)(hnames:∀y∈scope.names,y.2=.local->scope.names.lookup y.1=some .local)
  (hcl:∀y c,cl.lookup y=some c->X.env.cells.lookup y=some c) (hhas:∀y,(relabel scope X.env).names.lookup y=some .cell\/(relabel scope X.env).names.lookup y=some .free->(y,NameKind.cell)∈scope.names\/∃c,cl.lookup y=some c) (hcap:∀(σ:L2.St) (i:Nat) (y:Str) (v:V),N'[i]?=some y->(σ' σ)[i]?=some (some v)->(y,NameKind.cell)∉scope.names)
  (hσ:∀σ:L2.St,σ.length=X.N.length->(σ' σ).length=N'.length)
  (hvis:∀(σ:L2.St) (i:Nat) (y:Str) (v:V),N'[i]?=some y->(σ' σ)[i]?=some (some v)->((relabel scope X.env).names.lookup y=some .cell\/(relabel scope X.env).names.lookup y=some .free)/\∃j:Nat,X.N[j]?=some y/\σ[j]?=some (some v)/\Vis X.env.scope y/\X.env.kindOf y≠some .local)
  (hc:X.calm=true) (hi:PI X tg iter wi) {E:L2.St->XK} (hps:zbk X E) (hst:FrOk X) {σ:L2.St} (hg:∀cl C s₀ H₀ ex xb,zbk (zac X scope cl N' C s₀ H₀ ex xb) (fun _=>E σ)->PG (zac X scope cl N' C s₀ H₀ ex xb) tg g) (ht:∀cl C s₀ H₀ ex xb,zbk (zac X scope cl N' C s₀ H₀ ex xb) (fun _=>E σ)->PTs (zac X scope cl N' C s₀ H₀ ex xb) ifs tt) (he:∀cl C s₀ H₀ ex xb,zbk (zac X scope cl N' C s₀ H₀ ex xb) (fun _=>E σ)->PE (zac X scope cl N' C s₀ H₀ ex xb) elt te)
  (hs:∀x,foldedSetIterable iter X.env x=pure x) {pins:List (Addr×Obj)} {s:Shared} {H:Hp} {Q:VK} (I:Inv X pins σ H s) (h:tLC2 σ' wi g tt te σ H Q) :
  wpAny (model X.prog X.w) X.A (eval (.ListComp elt [⟨tg,iter,ifs,0⟩] scope pos) X.env) (EP X pins σ Q) X.xe s:=by
 rw[eval_ListComp];refine lc_any σ' hclos hkind hnames hcl hhas hcap hσ hvis hc hi hps hst hg ht he hs I h fun D C s5 H5 I5 q5 ⟨m,hm⟩ f=>⟨m,hm,fun h' sb=>?_⟩
 exact⟨.ref D,H5,zhn (t':=s5.toks) (ch:=[C]) I5 (fun b o hb e=>(sb.2 b (fun z=>hb (by simp[z]))).trans e) (fun b hb=>by rw[ya6.mp hb];exact f),rfl,q5⟩
theorem lc_set(σ':L2.St->L2.St)(hclos:closureFor scope X.env=pure cl)(hkind:scope.kind=.function)(hnames:∀y∈scope.names,y.2=.local->scope.names.lookup y.1=some .local)
  (hcl:∀y c,cl.lookup y=some c->X.env.cells.lookup y=some c) (hhas:∀y,(relabel scope X.env).names.lookup y=some .cell\/(relabel scope X.env).names.lookup y=some .free->(y,NameKind.cell)∈scope.names\/∃c,cl.lookup y=some c) (hcap:∀(σ:L2.St) (i:Nat) (y:Str) (v:V),N'[i]?=some y->(σ' σ)[i]?=some (some v)->(y,NameKind.cell)∉scope.names)
  (hσ:∀σ:L2.St,σ.length=X.N.length->(σ' σ).length=N'.length)
  (hvis:∀(σ:L2.St) (i:Nat) (y:Str) (v:V),N'[i]?=some y->(σ' σ)[i]?=some (some v)->((relabel scope X.env).names.lookup y=some .cell\/(relabel scope X.env).names.lookup y=some .free)/\∃j:Nat,X.N[j]?=some y/\σ[j]?=some (some v)/\Vis X.env.scope y/\X.env.kindOf y≠some .local)
  (hc:X.calm=true) (hi:PI X tg iter wi) {E:L2.St->XK} (hps:zbk X E) (hst:FrOk X) {σ:L2.St} (hg:∀cl C s₀ H₀ ex xb,zbk (zac X scope cl N' C s₀ H₀ ex xb) (fun _=>E σ)->PG (zac X scope cl N' C s₀ H₀ ex xb) tg g) (ht:∀cl C s₀ H₀ ex xb,zbk (zac X scope cl N' C s₀ H₀ ex xb) (fun _=>E σ)->PTs (zac X scope cl N' C s₀ H₀ ex xb) ifs tt) (he:∀cl C s₀ H₀ ex xb,zbk (zac X scope cl N' C s₀ H₀ ex xb) (fun _=>E σ)->PE (zac X scope cl N' C s₀ H₀ ex xb) elt te)
  (hs:∀x,foldedSetIterable iter X.env x=pure x) {pins:List (Addr×Obj)} {s:Shared} {H:Hp} {D:Ends} {i:Nat} {x:Str} {pos':Pos} (hN:X.N.Nodup) (hix:X.N[i]?=some x) (hx:X.env.scope.names.lookup x=some .local)
  (hsw:swapsWith (.ListComp elt [⟨tg,iter,ifs,0⟩] scope pos) (some (.Name x pos')) pos2.line X.env=pure true)
  (I:Inv X pins σ H s) (h:tLC2 σ' wi g tt te σ H fun v H1=>D.nx (σ.set i (some v)) H1) :
  wpAny (model X.prog X.w) X.A (exec (.Assign [.Name x pos'] (.ListComp elt [⟨tg,iter,ifs,0⟩] scope pos) pos2) X.env) (SP X pins D) X.xe s:=by
 rw[exec_Assign_Name_used _ _ _ _ hsw];refine wpAny_bind (wpAny_standAt (wpAny_bind ?_));show wpAny _ X.A (do let _ <- comprehension (.ListComp elt [⟨tg,iter,ifs,0⟩] scope pos) scope X.env _ (newList []) false (eval iter X.env) (some (assign (.Name x pos') X.env))) _ _ s
 refine wpAny_bind (wpAny_mono (lc_any (QQ:=fun _ s'=>SP X pins D .next s') σ' hclos hkind hnames hcl hhas hcap hσ hvis hc hi hps hst hg ht he hs I h fun A C s5 H5 I5 q5 ⟨m,hm⟩ f=>?_) (fun _ s' hq=>wpAny_pure (wpAny_pure hq)) fun _ _ e=>e)
 show wpAny _ X.A (assign (.Name x pos') X.env (.ref A)) _ _ _;refine wpAny_assign_Name (store_ok2 I5 hN hix (.inl hx) (v:=.ref A) rfl (fun s6 I6 ⟨a,sb,ha⟩=>?_) (.inr hx))
 have hCa:C≠a:=by
  rcases ha with rfl|ha
  ·exact f.2.1
  ·exact fun z=>f.2.2.2.2.1 x a ha z.symm
 refine⟨m,hm.sameBut sb hCa,fun h' sb2=>⟨_,H5,zhn (t':=s6.toks) (ch:=[C]) I6 (fun b o hb e=>(sb2.2 b (fun z=>hb (by simp[z]))).trans e) (fun b hb=>by rw[ya6.mp hb];exact f),q5⟩⟩
end
end Pu
set_option Elab.async false
set_option linter.all false
set_option maxRecDepth 100000
namespace Pu
open PySem PySem.Spec PyProof.Rows L2 Zw Zx
structure RpO(K:PySem.W.Frag)(F H:Hp)(l:List T)(xs:List V)(R:Nat->Rg):Prop where
 len:l.length=xs.length
 rep:∀(i:Nat) (t:T) (x:V),l[i]?=some t->xs[i]?=some x->Rp K F H t x (R i)
 dis:∀i j a,i≠j->R i a->¬ R j a
 out:∀i a,R i a->i<l.length
section
variable {K:PySem.W.Frag}{F H F1 H1:Hp}{l:List T}{xs:List V}{R:Nat->Rg}{B:Rg}
theorem RpO.nil:RpO K F H [] [] (fun _=>R0):=⟨rfl,fun i t x h=>by simp at h,fun _ _ _ _ z=>z.elim,fun _ _ z=>z.elim⟩
theorem RpO.dom(h:RpO K F H l xs R){i:Nat}{a:Addr}(z:R i a):F a=none/\∃u,H a=some u:=by
 have hi:=h.out i a z;have hx:i<xs.length:=by have:=h.len;omega
 exact(h.rep i _ _ (ya1 hi) (ya1 hx)).dom z
theorem RpO.ext(h:RpO K F H l xs R)(e:Ext F H F1 H1 B):RpO K F1 H1 l xs R:=⟨h.len,fun i t x h1 h2=>(h.rep i t x h1 h2).ext e,h.dis,h.out⟩
theorem RpO.apart(h:RpO K F H l xs R)(e:Ext F H F1 H1 B){b:Addr}(hb:B b)(i:Nat):¬ R i b:=fun z=>by
 obtain⟨f,u,q⟩:=h.dom z;rw[e.nb b hb]at q;cases q
theorem RpO.snoc(h:RpO K F H l xs R){t:T}{x:V}(r:Rp K F H t x B)(d:∀i a,R i a->¬ B a):RpO K F H (l++[t]) (xs++[x]) (fun j=>if j=l.length then B else R j):=by
 have hl:=h.len;refine⟨by simp[hl],fun i t' x' h1 h2=>?_,fun i j a hij z1 z2=>?_,fun i a z=>?_⟩
 ·by_cases hi:i=l.length
  ·subst hi;rw[if_pos rfl];have e1:t=t':=by simpa using h1
   have e2:x=x':=by rw[hl]at h2;simpa using h2
   subst e1;subst e2;exact r
  ·rw[if_neg hi]
   have hlt:i<l.length:=by
    have:=(ya4.mp h1).1;simp at this
    omega
   rw[yay hlt]at h1;rw[yay (by omega)]at h2
   exact h.rep i t' x' h1 h2
 ·by_cases hi:i=l.length
  ·simp only[hi,if_true]at z1;have hj:¬ j=l.length:=fun z=>hij (hi.trans z.symm)
   simp only[hj,if_false]at z2;exact d j a z2 z1
  ·simp only[hi,if_false]at z1
   by_cases hj:j=l.length
   ·simp only[hj,if_true]at z2;exact d i a z1 z2
   ·simp only[hj,if_false]at z2;exact h.dis i j a hij z1 z2
 ·by_cases hi:i=l.length
  ·simp[hi]
  ·simp only[hi,if_false]at z;have:=h.out i a z;simp
   omega
theorem RpO.cons(h:RpO K F H l xs R){t:T}{x:V}(r:Rp K F H t x B)(d:∀i a,R i a->¬ B a):RpO K F H (t::l) (x::xs) (fun j=>match j with|0=>B|j+1=>R j):=by
 refine⟨by simp[h.len],fun i t' x' h1 h2=>?_,fun i j a hij z1 z2=>?_,fun i a z=>?_⟩
 ·cases i with
  |zero =>
   simp at h1 h2;subst h1;subst h2;exact r
  |succ i=>exact h.rep i t' x' (by simpa using h1) (by simpa using h2)
 ·cases i with
  |zero =>
   cases j with
   |zero=>exact hij rfl
   |succ j=>exact d j a z2 z1
  |succ i =>
   cases j with
   |zero=>exact d i a z1 z2
   |succ j=>exact h.dis i j a (fun z=>hij (by rw[z])) z1 z2
 ·cases i with
  |zero=>simp
  |succ i=>have:=h.out i a z;simp;omega
theorem RpO.r0(h:RpO K F H l xs R)(s:shL l=true):Rps K F l xs:=⟨h.len,fun i t x h1 h2=>(h.rep i t x h1 h2).move (shL_get s h1) (.refl _)⟩
theorem RpO.list(h:RpO K F H l xs R)(s:zbe F H){p:Addr}(hp:H p=none):Rp K F (upd H p (.lst xs)) (.own l) (.ref p) (fun a=>a=p\/∃i,R i a)/\Ext F H F (upd H p (.lst xs)) (fun a=>a=p):=by
 have e:=Ext.newO (o:=.lst xs) s hp;have h':=h.ext e;exact⟨.own (k:=.lst) trivial R (zbl s hp) zau h.len h'.rep h.dis (fun i z=>h.apart e rfl i z) h.out,e⟩
end
def mIx(ma mk:PSt->Option Rs):PSt->Option Rs:=fun τ=>match ma τ with
 |some (.v t b)=>(match mk τ with
  |some (.v (.int i) _)=>(match t with
   |.nd _ _ l=>(match atI l i with
    |some c=>some (.v c (b && !c.sh))
    |none=>none)
   |.str z=>if z.length<=lim then (match atI z.cps.toList i with
    |some c=>some (.v (.str ⟨#[c]⟩) false)
    |none=>none) else none
   |_=>none)
  |some (.v _ _)=>none
  |r=>r)
 |r=>r
theorem atI_two{α β:Type}{l:List α}{m:List β}{i:Int}{c:α}(e:l.length=m.length)(h:atI l i=some c):∃(j:Nat) (d:β),l[j]?=some c/\m[j]?=some d/\atI m i=some d:=by
 unfold atI at h ⊢;rw[<- e];cases q:ixN l.length i with
 |none=>rw[q]at h;cases h
 |some j =>
  rw[q]at h;have h':l[j]?=some c:=h
  have hj:j<m.length:=by
   have:=(ya4.mp h').1
   omega
  exact⟨j,m[j],h',ya1 hj,ya1 hj⟩
section
variable {K:PySem.W.Frag}{F H:Hp}
theorem Rp.seq{o:Bool}{k:Kd}{l:List T}{x:V}{A:Rg}(s:zbe F H)(h:Rp K F H (.nd o k l) x A):∃p xs,x=.ref p/\(SqL K H p xs\/SqT K H p xs)/\l.length=xs.length/\∀(i:Nat) (t:T) (x:V),l[i]?=some t->xs[i]?=some x->∃B,(∀a,B a->A a)/\Rp K F H t x B:=by
 cases h with
 |@shr k p xs l h e c =>
  refine⟨p,xs,rfl,?_,e,fun i t x h1 h2=>⟨R0,fun _ z=>z.elim,c i t x h1 h2⟩⟩
  cases k with
  |lst=>exact .inl (SqL.of (s _ _ h))
  |rl=>exact .inl (s.seq h)
  |tup=>exact .inr (SqT.of (s _ _ h))
  |rt=>exact .inr (zd1 s h)
  |pin q=>exact .inl (SqL.of (s _ _ h))
 |@own k0 p xs l hk R f h e c d dp o=>exact⟨p,xs,rfl,.inl (SqL.of h),e,fun i t x h1 h2=>⟨R i,fun a z=>.inr ⟨i,z⟩,c i t x h1 h2⟩⟩
end
section
variable {X:Cx}{E:L2.St->XK}{ca:Str->Value}{σ:L2.St}{H:Hp}{m ma mb mc:PSt->Option Rs}{ms:PSt->Option RsL}{K:PySem.W.Frag}{a b c e:Expr}{es:List Expr}{pos:Pos}
theorem tM_ix{Q:VK}(h:tM K E ca (mIx ma mb) σ H Q):tOp (rIx K) (tM K E ca ma) (tM K E ca mb) σ H Q:=by
 obtain⟨F,τ,R,S,q⟩:=h;refine⟨F,τ,R,S,?_⟩;unfold mIx at q;cases hm:ma τ with
 |none=>simp only[hm]at q
 |some r =>
  simp only[hm]at q;cases r with
  |x c=>exact q
  |v t bb =>
   intro F1 H1 x B e1 g1;have S1:=S.ext e1;refine⟨F1,τ,R,S1,?_⟩;cases hk:mb τ with
   |none=>simp only[hk]at q
   |some r =>
    simp only[hk]at q;cases r with
    |x c=>exact fun F' H' e=>q F' H' ((e1.trans e).mono fun _ z=>z.elim)
    |v tk bk =>
     cases tk with
     |int i =>
      intro F2 H2 y C e2 g2
      have hy:y=.int i:=by
       cases bk with
       |true=>obtain⟨_,A,_,r⟩:=g2;exact r.int_inv
       |false=>exact(show Rp K F2 H2 _ _ _ from g2).int_inv
      subst hy;have e02:Ext F H F2 H2 B:=(e1.trans e2).mono fun _ z=>.inl z
      have S2:=S1.ext e2;cases t with
      |nd o k l =>
       simp only at q;cases hc:atI l i with
       |none=>simp only[hc]at q
       |some cc =>
        simp only[hc]at q
        have node:∃A0,(bb=true->∀a,A0 a->tot R a)/\(bb=false->∀a,A0 a->B a)/\Rp K F2 H2 (.nd o k l) x A0:=by
         cases bb with
         |true =>
          obtain⟨_,A,hA,r⟩:=g1;exact⟨A,fun _=>hA,(fun z=>by cases z),r.ext e2⟩
         |false=>exact⟨B,(fun z=>by cases z),fun _ _ z=>z,(show Rp K F1 H1 _ _ _ from g1).ext e2⟩
        obtain⟨A0,hA1,hA2,rn⟩:=node;obtain⟨p,xs,rfl,hq,hl,kids⟩:=Rp.seq S2.fh rn;obtain⟨j,d,h1,h2,h3⟩:=atI_two hl hc;obtain⟨A1,hA,rk⟩:=kids j cc d h1 h2
        have qq:Q d H2:=by
         cases bb with
         |false=>exact q F2 H2 d A1 (e02.mono fun a z=>hA2 rfl a (hA a z)) rk
         |true =>
          cases hs:cc.sh with
          |true =>
           rw[hs]at q;exact q F2 H2 d R0 (e02.mono fun _ z=>z.elim) (rk.move hs (.refl _))
          |false =>
           rw[hs]at q;exact q F2 H2 d R0 (e02.mono fun _ z=>z.elim) ⟨rfl,A1,fun a z=>hA1 rfl a (hA a z),rk⟩
        rcases hq with hq|hq
        ·exact .inl ⟨p,xs,i,d,rfl,rfl,hq,h3,qq⟩
        ·exact .inr (.inl ⟨p,xs,i,d,rfl,rfl,hq,h3,qq⟩)
      |str z =>
       by_cases hz:z.length<=lim
       ·simp only[hz,if_true]at q;cases hc:atI z.cps.toList i with
        |none=>simp only[hc]at q
        |some cc =>
         simp only[hc]at q
         have hx:x=.str z:=by
          cases bb with
          |true=>obtain⟨_,A,_,r⟩:=g1;exact r.str_inv
          |false=>exact(show Rp K F1 H1 _ _ _ from g1).str_inv
         subst hx;exact .inr (.inr ⟨z,i,cc,rfl,rfl,by rw[<- zdx];exact hz,hc,q F2 H2 _ R0 (e02.mono fun _ z=>z.elim) (.str _)⟩)
       ·simp only[hz,if_false]at q
      |_=>exact q.elim
     |_=>exact q.elim
theorem r_ix(ha:PE X a (tM X.K E ca ma))(hb:PE X b (tM X.K E ca mb))(hs:PlainIx b):PE X (.Subscript a b pos) (tM X.K E ca (mIx ma mb)):=PE.weak (pe_ix ix_seq ha hb hs) fun σ H Q h=>tM_ix h
def zk9{α:Type}(l:List α)(lo hi:Option Int):List α:=(l.drop (HT.sIx l.length 0 lo)).take (HT.sIx l.length l.length hi - HT.sIx l.length 0 lo)
def zjc(m:Option (PSt->Option Rs)):PSt->Option (Option Int):=fun τ=>match m with
 |none=>some none
 |some m=>match m τ with
  |some (.v (.int i) _)=>some (some i)
  |_=>none
def mSl(ma:PSt->Option Rs)(ml mh:Option (PSt->Option Rs)):PSt->Option Rs:=fun τ=>match ma τ with
 |some (.v t false)=>(match zjc ml τ with
  |some lo=>(match zjc mh τ with
   |some hi=>(match t with
    |.nd _ .lst l=>some (.v (.own (zk9 (zae l) lo hi)) false)
    |.nd _ .rl l=>some (.v (.own (zk9 (zae l) lo hi)) false)
    |_=>none)
   |none=>none)
  |none=>none)
 |some (.v _ true)=>none
 |r=>r
def tPo(K:PySem.W.Frag)(m:Option (PSt->Option Rs)):TO:=fun σ H Q=>∃F τ R o,StR K F H σ τ R/\zjc m τ=some o/\∀F' H',Ext F H F' H' R0->Q o H'
theorem r_po0:PO X none (tPo X.K none):=fun pins s σ H Q I h=>by
 obtain⟨F,τ,R,o,S,e,q⟩:=h;cases e;exact po_none pins s σ H Q I (q F H (Ext.refl S.fh))
theorem r_po1(ha:PE X e (tM X.K E ca m)):PO X (some e) (tPo X.K (some m)):=fun pins s σ H Q I h=>by
 obtain⟨F,τ,R,o,S,e',q⟩:=h;refine po_some ha pins s σ H Q I ⟨F,τ,R,S,?_⟩;unfold zjc at e';simp only at e';cases hm:m τ with
 |none=>rw[hm]at e';cases e'
 |some r =>
  rw[hm]at e';cases r with
  |x c=>cases e'
  |v v b =>
   cases v with
   |int i =>
    cases e';intro F' H' x B e g
    have hx:x=.int i:=by
     cases b with
     |true=>obtain⟨_,A,_,r⟩:=g;exact r.int_inv
     |false=>exact(show Rp X.K F' H' _ _ _ from g).int_inv
    exact⟨i,hx,q F' H' (e.mono fun _ z=>z.elim)⟩
   |_=>cases e'
theorem cutL_rps{F:Hp}{l:List T}{xs:List V}(r:Rps K F l xs)(lo hi:Option Int):Rps K F (zk9 l lo hi) (cutV xs lo hi):=by
 have hl:=r.1;unfold zk9 cutV;rw[hl];refine⟨by simp[hl],fun i t x h1 h2=>?_⟩
 rw[List.getElem?_take]at h1 h2;split at h1
 ·rename_i hi';rw[if_pos hi',ye2]at h2;rw[ye2]at h1;exact r.2 _ t x h1 h2
 ·cases h1
theorem r_slice{lo hi:Option Expr}{ml mh:Option (PSt->Option Rs)}{p2:Pos}(ha:PE X a (tM X.K E ca ma))(hl:PO X lo (tPo X.K ml))(hh:PO X hi (tPo X.K mh)):PE X (.Subscript a (.Slice lo hi none p2) pos) (tM X.K E ca (mSl ma ml mh)):=by
 refine PE.weak (pe_slice sl_list ha hl hh) fun σ H Q h=>?_
 obtain⟨F,τ,R,S,q⟩:=h;refine⟨F,τ,R,S,?_⟩;unfold mSl at q;cases hm:ma τ with
 |none=>simp only[hm]at q
 |some r =>
  simp only[hm]at q;cases r with
  |x c=>exact q
  |v t bb =>
   cases bb with
   |true=>exact q.elim
   |false =>
    intro F1 H1 x B e1 g1;obtain⟨F1',e1',_,r1⟩:=Got.frz (b:=false) S e1 g1;have S1:=S.ext e1';simp only at q;cases h1:zjc ml τ with
    |none=>simp only[h1]at q
    |some lo' =>
     simp only[h1]at q;refine⟨F1',τ,R,lo',S1,h1,fun F2 H2 e2=>?_⟩
     have S2:=S1.ext e2;cases h2:zjc mh τ with
     |none=>simp only[h2]at q
     |some hi' =>
      simp only[h2]at q;refine⟨F2,τ,R,hi',S2,h2,fun F3 H3 e3=>?_⟩
      have S3:=S2.ext e3;have e03:=e1'.trans0 (e2.trans0 e3);have r3:Rp X.K F3 F3 t.share x R0:=(show Rp X.K F1' F1' t.share x R0 from r1).frame (e2.ff.trans e3.ff) fun _ z=>z.elim
      have key:∀{o:Bool} {k:Kd} {l:List T},t=.nd o k l->(k=.lst\/k=.rl)->(∀F' H' x B,Ext F H F' H' B->Rp X.K F' H' (.own (zk9 (zae l) lo' hi')) x B->Q x H')->rSlL X.K x lo' hi' H3 Q:=by
       intro o k l et hk qq;subst et;rw[T.share]at r3;obtain⟨p,xs,rfl,_,n3,k3⟩:=zcd r3
       have sq:SqL X.K H3 p xs:=by
        rcases hk with rfl|rfl
        ·exact SqL.of (S3.fh _ _ n3)
        ·exact S3.fh.seq n3
       refine⟨p,xs,rfl,sq,fun p' hp'=>?_⟩
       have gg:zmd X.K F3 H3 (.own (zk9 (zae l) lo' hi')) Q:=fun F' H' z C e g=>qq F' H' z C (e03.trans0 e) g
       exact gg.list S3.fh (cutL_rps k3 lo' hi') hp'
      cases t with
      |nd o k l =>
       cases k with
       |lst=>exact key rfl (.inl rfl) q
       |rl=>exact key rfl (.inr rfl) q
       |tup=>exact q.elim
       |rt=>exact q.elim
       |pin _=>exact q.elim
      |_=>exact q.elim
def tMo(K:PySem.W.Frag)(E:L2.St->XK)(ca:Str->Value)(m:PSt->Option RsL):TA:=fun σ H Q=>∃F τ R,StR K F H σ τ R/\match m τ with
 |some (.v ts _)=>∀F' H' xs (Rr:Nat->Rg),Ext F H F' H' (tot Rr)->RpO K F' H' ts xs Rr->Q xs H'
 |some (.x c)=>∀F' H',Ext F H F' H' R0->E σ (ca c) none H'
 |none=>False
def zb4(m:PSt->Option Rs)(ms:PSt->Option RsL):PSt->Option RsL:=fun τ=>match m τ with
 |some (.v t false)=>(match ms τ with
  |some (.v ts _)=>some (.v (t::ts) false)
  |r=>r)
 |some (.v _ true)=>none
 |some (.x c)=>some (.x c)
 |none=>none
theorem r_nilO:PA X [] (tMo X.K E ca za4):=PA.weak zfs fun σ H Q h=>by
 obtain⟨F,τ,R,S,q⟩:=h;exact q F H [] (fun _=>R0) ((Ext.refl S.fh).mono fun a ⟨i,z⟩=>z.elim) .nil
theorem r_consO(ha:PE X e (tM X.K E ca m))(hr:PA X es (tMo X.K E ca ms))(hs:starEach (e::es) X.env=(false,eval e X.env)::starEach es X.env):PA X (e::es) (tMo X.K E ca (zb4 m ms)):=by
 refine PA.weak (zcc ha hr hs) fun σ H Q h=>?_
 obtain⟨F,τ,R,S,q⟩:=h;refine⟨F,τ,R,S,?_⟩;unfold zb4 at q;cases hm:m τ with
 |none=>simp only[hm]at q
 |some r =>
  simp only[hm]at q;cases r with
  |x c=>exact q
  |v t bb =>
   cases bb with
   |true=>exact q.elim
   |false =>
    intro F1 H1 x B e1 g1;have S1:=S.ext e1;refine⟨F1,τ,R,S1,?_⟩;simp only at q;cases hs:ms τ with
    |none=>simp only[hs]at q
    |some r =>
     simp only[hs]at q;cases r with
     |x c=>exact fun F' H' e=>q F' H' ((e1.trans e).mono fun _ z=>z.elim)
     |v ts b' =>
      intro F2 H2 xs Rr e2 ro;have g1':Rp X.K F1 H1 t x B:=g1;refine q F2 H2 (x::xs) _ ((e1.trans e2).mono ?_) (ro.cons (g1'.ext e2) fun i a z=>?_)
      ·rintro a ⟨j,z⟩;cases j with
       |zero=>exact .inl z
       |succ j=>exact .inr ⟨j,z⟩
      ·exact g1'.apart e2 ⟨i,z⟩
def ziy(ms:PSt->Option RsL):PSt->Option Rs:=fun τ=>match ms τ with
 |some (.v ts _)=>if ts.length<=lim then some (.v (.own ts) false) else none
 |some (.x c)=>some (.x c)
 |none=>none
theorem r_lst(h:PA X es (tMo X.K E ca ms)):PE X (.List es pos) (tM X.K E ca (ziy ms)):=by
 refine PE.weak (pe_lst h) fun σ H Q h=>?_
 obtain⟨F,τ,R,S,q⟩:=h;refine⟨F,τ,R,S,?_⟩;unfold ziy at q;cases hm:ms τ with
 |none=>simp only[hm]at q
 |some r =>
  simp only[hm]at q;cases r with
  |x c=>exact q
  |v ts b =>
   intro F1 H1 xs Rr e1 ro
   by_cases hz:ts.length<=lim
   ·simp only[hz,if_true]at q;refine⟨by rw[<- ro.len,<- zdx];exact hz,fun p hp=>?_⟩
    obtain⟨r,e2⟩:=ro.list e1.fh hp;refine q F1 _ _ _ ((e1.trans e2).mono ?_) r;rintro a (z|⟨i,z⟩)
    ·exact .inr z
    ·exact .inl ⟨i,z⟩
   ·simp only[hz,if_false]at q
def mTup(ms:PSt->Option RsL):PSt->Option Rs:=fun τ=>match ms τ with
 |some (.v ts false)=>if ts.length<=lim then some (.v (.tup ts) false) else none
 |some (.v _ true)=>none
 |some (.x c)=>some (.x c)
 |none=>none
theorem r_tup{k:Nat}(h:PA X es (tMs X.K E ca ms)):PE X (.Tuple es k pos) (tM X.K E ca (mTup ms)):=by
 refine PE.weak (pe_tup h) fun σ H Q h=>?_
 obtain⟨F,τ,R,S,q⟩:=h;refine⟨F,τ,R,S,?_⟩;unfold mTup at q;cases hm:ms τ with
 |none=>simp only[hm]at q
 |some r =>
  simp only[hm]at q;cases r with
  |x c=>exact q
  |v ts b =>
   cases b with
   |true=>exact q.elim
   |false =>
    intro F1 H1 xs e1 rs
    by_cases hz:ts.length<=lim
    ·simp only[hz,if_true]at q;refine⟨by rw[<- rs.1,<- zdx];exact hz,fun p hp=>?_⟩
     have gg:zmd X.K F1 H1 (.tup ts) Q:=fun F' H' z C e g=>q F' H' z C (e1.trans0 e) g
     exact gg.tuple e1.fh rs hp
    ·simp only[hz,if_false]at q
theorem r_bltF{id:String}{x:Str}{p:Pos}{g:List T->Option T}(hc:zbx X (.builtin id) (rTn X.K g))(hg:Gl X x)(hm:X.mg x=none)(hv:bootBuiltins x=some (.builtin id))(ha:PA X (e::es) (tMs X.K E ca ms))(hn:x≠"__name__")(hdb:(x == ("__debug__":Str))=false)
  (he:starEach (e::es) X.env=(false,eval e X.env)::starEach es X.env) (hpl:(backTo pos (starEach es X.env)).any (·.1)=false):PE X (.Call (.Name x p) (e::es) [] pos) (tM X.K E ca (mAp g ms)) :=
 PE.weak (zkj hc hg hm hv ha hn hdb he hpl) fun σ H Q h=>tM_ap h
theorem r_bltT{T':String}{x:Str}{p:Pos}{g:List T->Option T}(hc:zbx X (.type T') (rTn X.K g))(hg:Gl X x)(hm:X.mg x=none)(hv:bootBuiltins x=some (.type T'))(ha:PA X (e::es) (tMs X.K E ca ms))(hn:x≠"__name__")(hdb:(x == ("__debug__":Str))=false)
  (he:starEach (e::es) X.env=(false,eval e X.env)::starEach es X.env) (hpl:(backTo pos (starEach es X.env)).any (·.1)=false):PE X (.Call (.Name x p) (e::es) [] pos) (tM X.K E ca (mAp g ms)) :=
 PE.weak (pe_callTy hc hg hm hv ha hn hdb he hpl) fun σ H Q h=>tM_ap h
end
end Pu
set_option Elab.async false
set_option linter.all false
set_option maxRecDepth 100000
namespace Pu
open PySem PySem.Spec PyProof.Rows L2 Zw Zx
def zk2:T->Option T
 |.nd _ _ l=>some (.int l.length)
 |.str z=>if z.length<=lim then some (.int z.length) else none
 |_=>none
def zei:T->Option T
 |.nd _ _ l=>some (.own l)
 |_=>none
def absT:T->Option T
 |.int i=>some (.int (if i<0 then -i else i))
 |_=>none
def minT:T->T->Option T
 |.int i,.int j=>some (.int (if j<i then j else i))
 |_,_=>none
def maxT:T->T->Option T
 |.int i,.int j=>some (.int (if j > i then j else i))
 |_,_=>none
def intT:T->Option T
 |.int i=>some (.int i)
 |.bl k=>some (.int (if k then 1 else 0))
 |.str x=>if x.length<=640 then (intText? x).map T.int else none
 |_=>none
def strT:T->Option T
 |.int i=>if i.natAbs.log2<1920 then some (.str (toString i)) else none
 |_=>none
def zmc:List T->Option (List Bool)
 |[]=>some []
 |.bl b::r=>(match zmc r with
  |some l=>some (b::l)
  |none=>none)
 |_::_=>none
def allT:T->Option T
 |.nd _ .lst l=>(match zmc l with
  |some bs=>some (.bl (bs.all id))
  |none=>none)
 |_=>none
def anyT:T->Option T
 |.nd _ .lst l=>(match zmc l with
  |some bs=>some (.bl (bs.any id))
  |none=>none)
 |_=>none
def tyN:T->Option String
 |.non=>some "NoneType"
 |.bl _=>some "bool"
 |.int _=>some "int"
 |.str _=>some "str"
 |.nd _ .lst _=>some "list"
 |.nd _ .tup _=>some "tuple"
 |.dic _ _=>some "dict"
 |.pdc _ _=>some "dict"
 |_=>none
def tyCs:List String:=["int","bool","str","list","tuple"]
def subTy(a c:String):Bool:=a == c || (a == "bool" && c == "int")
def zek(c:String)(t:T):Option T:=match tyN t with
 |some a=>if c∈tyCs then some (.bl (subTy a c)) else none
 |none=>none
theorem kitMeta_str:PySem.W.kitMeta "str"=true:=by decide +kernel
theorem kitMeta_list:PySem.W.kitMeta "list"=true:=by decide +kernel
theorem kit_ok(K:PySem.W.Frag){a c:String}(ha:a∈["NoneType","bool","int","str","list","tuple","dict"])(hc:c∈tyCs):PySem.W.kitOne K (.type a) (.type c)=some (subTy a c):=by
 have km:PySem.W.kitMeta c=true:=by
  simp only[tyCs,ya7,yb5,or_false]at hc
  rcases hc with rfl|rfl|rfl|rfl|rfl
  ·exact kitMeta_int
  ·exact kitMeta_bool
  ·exact kitMeta_str
  ·exact kitMeta_list
  ·exact kitMeta_tuple
 by_cases h:a=c
 ·subst h;rw[kit_same];simp[subTy]
 ·refine kit_ne K (l:=[]) h km ?_;simp only[tyCs,ya7,yb5,or_false]at hc ha
  rcases ha with rfl|rfl|rfl|rfl|rfl|rfl|rfl<;>rcases hc with rfl|rfl|rfl|rfl|rfl<;>first|exact absurd rfl h|decide +kernel
section
variable {X:Cx}
theorem callT_len:zbx X (.builtin "len") (rTn X.K (g1 zk2)):=by
 intro pins s σ H xs us Q I r h;obtain⟨F,ts,v,fh,rs,e,q⟩:=h;unfold g1 at e;split at e
 ·obtain⟨x1,xs1,rfl,r1,rs1⟩:=rs.inv;cases rs1.inv0;unfold zk2 at e;split at e
  ·cases e;obtain⟨p,ys,rfl,hq,hl,_⟩:=Rp.seq (H:=H) fh (r1.any);refine call_len pins s σ H _ us Q I r ⟨_,ys.length,rfl,?_,by rw[<- hl];exact q.int fh⟩
   rcases hq with hq|hq
   ·exact .inl ⟨ys,hq,rfl⟩
   ·exact .inr ⟨ys,hq,rfl⟩
  ·split at e
   ·cases e;rename_i hz;rw[r1.str_inv]at r;exact call_len pins s σ H _ us Q I r ⟨_,_,rfl,⟨by rw[<- zdx];exact hz,rfl⟩,q.int fh⟩
   ·cases e
  ·cases e
 ·cases e
theorem nodeS_seq{K:PySem.W.Frag}{F H:Hp}{k:Kd}{p:Addr}{xs:List V}(s:zbe F H)(h:zn5 K F k p xs):SqL K H p xs\/SqT K H p xs:=by
 cases k with
 |lst=>exact .inl (SqL.of (s _ _ h))
 |rl=>exact .inl (s.seq h)
 |tup=>exact .inr (SqT.of (s _ _ h))
 |rt=>exact .inr (zd1 s h)
 |pin q=>exact .inl (SqL.of (s _ _ h))
theorem callT_list:zbx X (.type "list") (rTn X.K (g1 zei)):=by
 intro pins s σ H xs us Q I r h;obtain⟨F,ts,v,fh,rs,e,q⟩:=h;unfold g1 at e;split at e
 ·obtain⟨x1,xs1,rfl,r1,rs1⟩:=rs.inv;cases rs1.inv0;unfold zei at e;split at e
  ·cases e;obtain⟨p,ys,rfl,rfl,n1,k1⟩:=zcd r1;have hq:SqL X.K H p ys\/SqT X.K H p ys:=nodeS_seq fh n1;exact call_list_of pins s σ H _ us Q I r ⟨p,ys,rfl,hq,fun l hl=>q.list fh k1 hl⟩
  ·cases e
 ·cases e
theorem callT_abs:zbx X (.builtin "abs") (rTn X.K (g1 absT)):=by
 intro pins s σ H xs us Q I r h;obtain⟨F,ts,v,fh,rs,e,q⟩:=h;unfold g1 at e;split at e
 ·obtain⟨x1,xs1,rfl,r1,rs1⟩:=rs.inv;cases rs1.inv0;unfold absT at e;split at e
  ·cases e;rw[r1.int_inv]at r;exact call_abs pins s σ H _ us Q I r ⟨_,rfl,q.int fh⟩
  ·cases e
 ·cases e
theorem callT_int:zbx X (.type "int") (rTn X.K (g1 intT)):=by
 intro pins s σ H xs us Q I r h;obtain⟨F,ts,v,fh,rs,e,q⟩:=h;unfold g1 at e;split at e
 ·obtain⟨x1,xs1,rfl,r1,rs1⟩:=rs.inv;cases rs1.inv0;unfold intT at e;split at e
  ·cases e;rw[r1.int_inv]at r;exact call_int1 pins s σ H _ us Q I r (.inl ⟨_,rfl,q.int fh⟩)
  ·cases e;rw[r1.bl_inv]at r;exact call_int1 pins s σ H _ us Q I r (.inr ⟨_,rfl,q.int fh⟩)
  ·split at e
   ·obtain⟨n,hn,rfl⟩:=ya2.mp e;rw[r1.str_inv]at r;obtain⟨u,rfl,ru⟩:=r.one;obtain⟨t,rfl⟩:=ru;exact PySem.W.KIN.call_text hn ‹_› ⟨.int n,H,I.tok _,⟨_,rfl⟩,q.int fh⟩
   ·cases e
  ·cases e
 ·cases e
theorem callT_str:zbx X (.type "str") (rTn X.K (g1 strT)):=by
 intro pins s σ H xs us Q I r h;obtain⟨F,ts,v,fh,rs,e,q⟩:=h;unfold g1 at e;split at e
 ·obtain⟨x1,xs1,rfl,r1,rs1⟩:=rs.inv;cases rs1.inv0;unfold strT at e;split at e
  ·split at e
   ·cases e;rename_i hz;rw[r1.int_inv]at r;exact call_str_int pins s σ H _ us Q I r ⟨_,rfl,hz,q.str fh⟩
   ·cases e
  ·cases e
 ·cases e
theorem callT_two{f:String}{g:T->T->Option T}{gi:Int->Int->Int}(hc:zbx X (.builtin f) (fun xs H Q=>∃i j,xs=[.int i,.int j]/\Q (.int (gi i j)) H))(hg:∀t u v,g t u=some v->∃i j,t=.int i/\u=.int j/\v=.int (gi i j)):zbx X (.builtin f) (rTn X.K (g2 g)):=by
 intro pins s σ H xs us Q I r h;obtain⟨F,ts,v,fh,rs,e,q⟩:=h;unfold g2 at e;split at e
 ·obtain⟨x1,xs1,rfl,r1,rs1⟩:=rs.inv;obtain⟨x2,xs2,rfl,r2,rs2⟩:=rs1.inv;cases rs2.inv0;obtain⟨i,j,rfl,rfl,rfl⟩:=hg _ _ _ e;rw[r1.int_inv,r2.int_inv]at r;exact hc pins s σ H _ us Q I r ⟨_,_,rfl,q.int fh⟩
 ·cases e
theorem callT_min(hc:X.calm=true):zbx X (.builtin "min") (rTn X.K (g2 minT)):=callT_two (call_min2 hc) fun t u v h=>by
 unfold minT at h;split at h
 ·cases h;exact⟨_,_,rfl,rfl,rfl⟩
 ·cases h
theorem bools_get:∀{l:List T} {bs:List Bool},zmc l=some bs->l.length=bs.length/\∀(i:Nat) (t:T),l[i]?=some t->∃b,bs[i]?=some b/\t=.bl b
 |[],bs,h=>by cases h;exact⟨rfl,fun i t e=>by simp at e⟩
 |t::r,bs,h=>by
  unfold zmc at h;cases t with
  |bl b =>
   simp only at h;cases hr:zmc r with
   |none=>simp only[hr]at h;cases h
   |some l =>
    simp only[hr]at h;cases h;obtain⟨h1,h2⟩:=bools_get hr;refine⟨by simp[h1],fun i t e=>?_⟩
    cases i with
    |zero=>simp at e;exact⟨b,rfl,e.symm⟩
    |succ i=>exact h2 i t (by simpa using e)
  |_=>cases h
theorem range_all{bs:List Bool}{tr:Nat->Bool}(h:∀(i:Nat) (b:Bool),bs[i]?=some b->tr i=b):(List.range bs.length).all tr=bs.all id/\(List.range bs.length).any tr=bs.any id:=by
 have e:(List.range bs.length).map tr=bs:=by
  apply yea;intro i;rw[yaa]
  by_cases hi:i<bs.length
  ·rw[ycv hi,ya1 hi];simp only[yby];rw[h i _ (ya1 hi)]
  ·rw[ybg (by simp;omega),ybg (by omega)]
   rfl
 constructor
 ·have:(List.range bs.length).all tr=((List.range bs.length).map tr).all id:=by rw[List.all_map];rfl
  rw[this,e]
 ·have:(List.range bs.length).any tr=((List.range bs.length).map tr).any id:=by rw[List.any_map];rfl
  rw[this,e]
theorem walkB(hc:X.calm=true){pins:List (Addr×Obj)}{s:Shared}{σ:L2.St}{H:Hp}{F:Hp}{l:List T}{bs:List Bool}{p:Addr}{E':Value->Shared->Prop}{P:Value->Shared->Prop}{o:Bool}(I:Inv X pins σ H s)(fh:zbe F H)(r1:Rp X.K F F (.nd o .lst l) (.ref p) R0)(hb:zmc l=some bs)
  (hP : ∀ (I0 : Addr) (wr fp : List Addr) (St : Nat -> Heap -> Prop) (PP : Nat -> Value -> Prop) (tr : Nat -> Bool) (s2 : Shared), Walks X.prog X.w X.A.in1 I0 fp wr bs.length PP St -> St 0 s2.heap -> TruthOf X.prog X.w X.A.in1 PP tr -> (∀ (i : Nat) (b : Bool), bs[i]? = some b -> tr i = b) ->
   (∀h' tk,(∀b o,b∉wr->s2.heap.get? b=some o->h'.get? b=some o)->Inv X pins σ H { s2 with heap:=h',toks:=tk })->P (.ref I0) s2):wpAny (model X.prog X.w) X.A.in1 (pyIter (.ref p)) P E' s:=by
 obtain⟨p',ys,e',rfl,n1,k1⟩:=zcd r1;cases e';obtain⟨hlen,hget⟩:=bools_get hb;obtain⟨its,rv,pl,hz⟩:=I.list (SqL.of (fh _ _ n1):SqL X.K H p ys);have hl:=rv.length
 have hne:p≠s.heap.objs.size:=yau (by
  obtain⟨o,n,e,_⟩:=pl;exact yae e)
 have hh:X.A.in1.handled=none:=I.ok.hd hc
 have val:∀(i:Nat) (v:Value),its[i]?=some v->∃b,bs[i]?=some b/\v=.bool b:=fun i v hv=>by
  have hi:i<ys.length:=by
   have:=(ya4.mp hv).1
   omega
  have hi2:i<l.length:=by rw[k1.1];exact hi
  obtain⟨b,h1,h2⟩:=hget i _ (ya1 hi2);have rr:=k1.2 i _ _ (ya1 hi2) (ya1 hi);rw[h2]at rr;obtain⟨u,e1,ru⟩:=rv.get (ya1 hi);rw[hv]at e1;cases e1;rw[rr.bl_inv]at ru;exact⟨b,h1,ru⟩
 have hbl:its.toArray.size=bs.length:=by rw[yag,<- hl,<- k1.1,hlen]
 refine wpAny_pyIter_list pl.isList ?_;have W:=Walks.list (prog:=X.prog) (w:=X.w) hh s.heap.objs.size p hne its.toArray;rw[hbl]at W;refine hP s.heap.objs.size _ _ _ _ (fun i=>bs.getD i false) _ W ⟨⟨_,yal _ rfl,rfl,rfl⟩,?_⟩ ?_ ?_ ?_
 ·obtain⟨o,ho,hr⟩:=pl.isList;exact⟨o,yac _ ho,hr⟩
 ·intro i v s' Q' E'' hv hq';obtain⟨b,h1,h2⟩:=val i v (by simpa using hv)
  subst h2;refine wpAny_truthy_bool ?_;have e:bs.getD i false=b:=by rw[yan,h1];rfl
  rw[<- e];exact hq'
 ·intro i b hb';show bs.getD i false=b;rw[yan,hb']
  rfl
 ·intro h' tk k
  exact I.kept fun b o e=>k b o (fun z=>by
   rw[ya6]at z;exact absurd (yae e) (by rw[z];exact yb3 _)) (yac _ e)
theorem callT_all(hc:X.calm=true):zbx X (.builtin "all") (rTn X.K (g1 allT)):=by
 intro pins s σ H xs us Q I r h;obtain⟨F,ts,v,fh,rs,e,q⟩:=h;unfold g1 at e;split at e
 ·obtain⟨x1,xs1,rfl,r1,rs1⟩:=rs.inv;cases rs1.inv0;unfold allT at e;split at e
  ·split at e
   ·cases e;rename_i bs hbs;obtain⟨p,rfl⟩:=r1.ref_inv;obtain⟨u,rfl,ru⟩:=ziz r;cases ru;refine call_all_walk (walkB hc I fh r1 hbs fun I0 wr fp St PP tr s2 W st0 tro htr fin=>⟨I0,fp,wr,bs.length,PP,St,tr,rfl,W,st0,tro,fun h' tk k=>?_⟩)
    rw[(range_all htr).1];exact⟨.bl _,H,fin h' tk k,rfl,q.bl fh⟩
   ·cases e
  ·cases e
 ·cases e
theorem callT_any(hc:X.calm=true):zbx X (.builtin "any") (rTn X.K (g1 anyT)):=by
 intro pins s σ H xs us Q I r h;obtain⟨F,ts,v,fh,rs,e,q⟩:=h;unfold g1 at e;split at e
 ·obtain⟨x1,xs1,rfl,r1,rs1⟩:=rs.inv;cases rs1.inv0;unfold anyT at e;split at e
  ·split at e
   ·cases e;rename_i bs hbs;obtain⟨p,rfl⟩:=r1.ref_inv;obtain⟨u,rfl,ru⟩:=ziz r;cases ru;refine call_any_walk (walkB hc I fh r1 hbs fun I0 wr fp St PP tr s2 W st0 tro htr fin=>⟨I0,fp,wr,bs.length,PP,St,tr,rfl,W,st0,tro,fun h' tk k=>?_⟩)
    rw[(range_all htr).2];exact⟨.bl _,H,fin h' tk k,rfl,q.bl fh⟩
   ·cases e
  ·cases e
 ·cases e
theorem isinst_dic{pins:List (Addr×Obj)}{σ:L2.St}{H:Hp}{s:Shared}{p:Addr}{ob:Obj}{kvs:List (Key×V)}{c:Value}{b:Bool}{A:Around}{Q:Value->Shared->Prop}{E:Value->Shared->Prop}(I:Inv X pins σ H s)(ea:H p=some (.frz ob (.dK kvs)))(e:PySem.W.kitOne X.K (.type "dict") c=some b)(h:∀tk,Q (.bool b) { s with toks:=tk }) :
  wpAny (model X.prog X.w) A (call (.builtin "isinstance") [.ref p,c]) Q E s:=by
 obtain⟨_,_,_,vs,_,q⟩:=(show zbp X.prog X.w H s.heap p (.frz ob (.dK kvs)) from I.hok p _ ea);obtain⟨o,es,ep,h1,h2,_⟩:=q;exact ybc ye9 I.kIn ⟨o,h1,h2.1⟩ e (fun z=>nomatch z) h
theorem tyOf_T{F H:Hp}{t:T}{x:V}{a:String}(fh:zbe F H)(r:Rp X.K F F t x R0)(h:tyN t=some a):(TyOf X.K H x (.type a)\/a="dict"/\∃p ob kvs,x=.ref p/\H p=some (.frz ob (.dK kvs)))/\a∈["NoneType","bool","int","str","list","tuple","dict"]:=by
 cases t with
 |non=>cases h;rw[r.non_inv];exact⟨.inl .non,by simp⟩
 |bl b=>cases h;rw[r.bl_inv];exact⟨.inl (.bl b),by simp⟩
 |int i=>cases h;rw[r.int_inv];exact⟨.inl (.int i),by simp⟩
 |str y=>cases h;rw[r.str_inv];exact⟨.inl (.str y),by simp⟩
 |nd o k l =>
  obtain⟨p,xs,rfl,_,n,_⟩:=zcd r;cases k with
  |lst=>cases h;exact⟨.inl (.lst (fh _ _ n)),by simp⟩
  |tup=>cases h;exact⟨.inl (.tup (fh _ _ n)),by simp⟩
  |rl=>cases h
  |rt=>cases h
  |pin _=>cases h
 |dic ks l =>
  cases h;cases r with
  |dic h e ek c=>exact⟨.inr ⟨rfl,_,_,_,rfl,fh _ _ h⟩,by simp⟩
 |pdc ks l =>
  cases h;cases r with
  |pdc h e ek c=>exact⟨.inl (.dK (fh _ _ h)),by simp⟩
 |odc ks l=>cases h
 |obj k l=>cases h
 |oob p C fs l=>cases h
 |osd ks l=>cases h
theorem callT_isT{c:String}:zbx X (.builtin "isinstance") (fun xs H Q=>∃x,xs=[x,.ty c]/\rTn X.K (g1 (zek c)) [x] H Q):=by
 intro pins s σ H xs us Q I r h;obtain⟨x,rfl,F,ts,v,fh,rs,e,q⟩:=h;unfold g1 at e;split at e
 ·obtain⟨x1,xs1,e1,r1,rs1⟩:=rs.inv;cases e1;unfold zek at e;split at e
  ·rename_i a ha;split at e
   ·cases e;rename_i hc;obtain⟨ty,hm⟩:=tyOf_T fh r1 ha
    rcases ty with ty|⟨rfl,p,ob,kvs,rfl,hp⟩
    ·exact call_isT pins s σ H _ us Q I r ⟨x,_,_,rfl,ty,kit_ok X.K hm hc,q.bl fh⟩
    ·obtain⟨u,w',rfl,rx,ry⟩:=vals2 r;cases ry;cases rx;exact isinst_dic I hp (kit_ok X.K hm hc) fun tk=>⟨.bl _,H,I.tok _,rfl,q.bl fh⟩
   ·cases e
  ·cases e
 ·cases e
def T.isN:T->Bool
 |.non=>true
 |_=>false
def T.isB(b:Bool):T->Bool
 |.bl c=>c == b
 |_=>false
def isT2(neg:Bool)(t u:T):Option T:=match u with
 |.non=>some (.bl (neg ^^ t.isN))
 |.bl b=>some (.bl (neg ^^ t.isB b))
 |_=>none
theorem dec_non{K:PySem.W.Frag}{F H:Hp}{t:T}{x:V}{A:Rg}(r:Rp K F H t x A):decide (x=V.non)=t.isN:=by
 cases r<;>simp[T.isN]
theorem dec_b{K:PySem.W.Frag}{F H:Hp}{t:T}{x:V}{A:Rg}{b:Bool}(r:Rp K F H t x A):decide (x=V.bl b)=t.isB b:=by
 cases r<;>simp[T.isB]
 rename_i c;cases c<;>cases b<;>rfl
theorem opT_is:OpR X (compareOp .Is) (rT2 X.K (isT2 false)):=by
 intro pins s σ H x y v u Q I rx ry h;obtain⟨F,t1,t2,r,fh,r1,r2,e,q⟩:=h;unfold isT2 at e;split at e
 ·cases e;rw[r2.non_inv]at ry;refine op_isN pins s σ H _ _ v u Q I rx ry ⟨rfl,?_⟩;rw[dec_non r1];have:=q.bl fh;rw[Bool.false_xor]at this;exact this
 ·cases e;rw[r2.bl_inv]at ry;refine op_isB pins s σ H _ _ v u Q I rx ry ⟨_,rfl,?_⟩;rw[dec_b r1];have:=q.bl fh;rw[Bool.false_xor]at this;exact this
 ·cases e
theorem opT_isNot:OpR X (compareOp .IsNot) (rT2 X.K (isT2 true)):=by
 intro pins s σ H x y v u Q I rx ry h;obtain⟨F,t1,t2,r,fh,r1,r2,e,q⟩:=h;unfold isT2 at e;split at e
 ·cases e;rw[r2.non_inv]at ry;refine op_notN pins s σ H _ _ v u Q I rx ry ⟨rfl,?_⟩;rw[dec_non r1];have:=q.bl fh;rw[Bool.true_xor]at this;exact this
 ·cases e;rw[r2.bl_inv]at ry;refine op_notB pins s σ H _ _ v u Q I rx ry ⟨_,rfl,?_⟩;rw[dec_b r1];have:=q.bl fh;rw[Bool.true_xor]at this;exact this
 ·cases e
end
section
variable {X:Cx}{E:L2.St->XK}{ca:Str->Value}{σ:L2.St}{H:Hp}{m ma mb mc:PSt->Option Rs}{ms:PSt->Option RsL}{K:PySem.W.Frag}{a b c e:Expr}{es:List Expr}{pos p p2:Pos}
theorem r_isT{c:String}{cn:Str}(hv:bootBuiltins cn=some (.type c))(hg:Gl X "isinstance")(hm:X.mg "isinstance"=none)(hgc:Gl X cn)(hmc:X.mg cn=none)(hn:cn≠"__name__")(hd:(cn == ("__debug__":Str))=false)(ha:PE X e (tM X.K E ca m))(he:starEach [e,.Name cn p2] X.env=(false,eval e X.env)::starEach [.Name cn p2] X.env) :
  PE X (.Call (.Name "isinstance" p) [e,.Name cn p2] [] pos) (tM X.K E ca (mAp (g1 (zek c)) (za0 m za4))):=by
 refine PE.weak (zkj (callT_isT (c:=c)) hg hm PyProof.Rows.boot_isinstance (zcc ha (zcc (pe_bltn (v:=.ty c) hgc hmc hv rfl hn hd) zfs) he) (by decide) (by decide) he rfl) fun σ H Q h=>?_
 exact(zez (tM_ap h)).mono fun x H1 h1=>⟨x,rfl,zho h1⟩
inductive Ru where
 |ok (t:T)|exc (c:Str)
def spP(K:PySem.W.Frag)(ca:Str->Value)(g:List T->Option Ru):Sp:=fun vs H Q E=>∃F ts,zbe F H/\Rps K F ts vs/\match g ts with
 |some (.ok v)=>zmd K F H v Q
 |some (.exc c)=>∀F' H',Ext F H F' H' R0->E (ca c) none H'
 |none=>False
def zan(g:List T->Option Ru)(ms:PSt->Option RsL):PSt->Option Rs:=fun τ=>match ms τ with
 |some (.v ts b)=>(match g ts with
  |some (.ok v)=>fin b v
  |some (.exc c)=>some (.x c)
  |none=>none)
 |some (.x c)=>some (.x c)
 |none=>none
theorem r_call{k j:Nat}{x:Str}{ps:List Str}{g:List T->Option Ru}(D:DefX X.prog X.w X.K X.mg X.base k x ps (spP X.K ca g))(hr:Room j X.A)(hx:zbk X E)(ha:PA X (e::es) (tMs X.K E ca ms))(hk:k<=j)(hg:Gl X x)(hdb:(x == ("__debug__":Str))=false)
  (he:starEach (e::es) X.env=(false,eval e X.env)::starEach es X.env) (hpl:(backTo pos (starEach es X.env)).any (·.1)=false):PE X (.Call (.Name x p) (e::es) [] pos) (tM X.K E ca (zan g ms)):=by
 refine PE.weak (px D hr hx ha hk hg hdb he hpl) fun σ H Q h=>?_
 obtain⟨F,τ,R,S,q⟩:=h;refine⟨F,τ,R,S,?_⟩;unfold zan at q;cases hs:ms τ with
 |none=>simp only[hs]at q
 |some r =>
  simp only[hs]at q;cases r with
  |x c=>exact q
  |v ts b =>
   intro F1 H1 xs e1 rs;have S1:=S.ext e1;simp only at q;rw[yba];refine⟨Gz b F1 H1 R,ts,gz_fh S1,rs,?_⟩;cases hg:g ts with
   |none=>simp only[hg]at q
   |some r =>
    simp only[hg]at q;cases r with
    |exc c=>exact fun F' H' e2=>q F1 H' (e1.grow e2.hh)
    |ok v =>
     intro F2 H2 z C e2 r2;simp only at q;unfold fin at q;cases b with
     |false=>exact q F2 H2 z C (e1.trans0 e2) r2
     |true =>
      cases hf:v.flat with
      |false=>rw[hf]at q;exact False.elim q
      |true=>rw[hf]at q;exact q F1 H2 z R0 (e1.grow e2.hh) (r2.flat_any hf)
end
end Pu
set_option Elab.async false
set_option linter.all false
set_option maxRecDepth 100000
namespace Pu
open PySem PySem.Spec PyProof.Rows L2 Zw Zx
def Its(K:PySem.W.Frag)(J:It)(F:Hp)(ts:List T):Prop:=∀(i:Nat) (F' H':Hp),zbe F F'->zbe F' H' ->
 (∀t,ts[i]?=some t->J.go i H'/\∀x H'',J.yld i H' x H''->∃F'',Ext F' H' F'' H'' R0/\Rp K F'' H'' t x R0)/\(i=ts.length->J.stop i H')
def tI(K:PySem.W.Frag)(E:L2.St->XK)(ca:Str->Value)(m:PSt->Option RsL):TI:=fun σ H P=>∃F τ R,StR K F H σ τ R/\match m τ with
 |some (.v ts _)=>∀F' H' J,Ext F H F' H' R0->Its K J F' ts->P J H'
 |some (.x c)=>∀F' H',Ext F H F' H' R0->E σ (ca c) none H'
 |none=>False
def isL:T->Bool
 |.nd _ .lst _=>true
 |.nd _ .rl _=>true
 |.nd _ (.pin _) _=>true
 |_=>false
def iVal(m:PSt->Option Rs):PSt->Option RsL:=fun τ=>match m τ with
 |some (.v (.nd _ k l) false)=>some (.v (zae l) false)
 |some (.x c)=>some (.x c)
 |_=>none
def zeq(lo:Int)(n:Nat):List T:=(List.range n).map fun(i:Nat)=>.int (lo+(i:Int))
noncomputable def ok62(j:Int):Bool:=@decide (-(2 ^ 62)<=j/\j<2 ^ 62) (Classical.propDecidable _)
def as1:List T->Option Int
 |[.int j]=>some j
 |_=>none
def as2:List T->Option (Int×Int)
 |[.int i,.int j]=>some (i,j)
 |_=>none
noncomputable def zc3(ms:PSt->Option RsL):PSt->Option RsL:=fun τ=>match ms τ with
 |some (.v ts _)=>(match as1 ts with
  |some j=>if ok62 j then some (.v (zeq 0 j.toNat) false) else none
  |none=>none)
 |r=>r
noncomputable def zhy(ms:PSt->Option RsL):PSt->Option RsL:=fun τ=>match ms τ with
 |some (.v ts _)=>(match as2 ts with
  |some (i,j)=>if ok62 i && ok62 j then some (.v (zeq i (j - i).toNat) false) else none
  |none=>none)
 |r=>r
def zhe:Nat->List T->List T
 |_,[]=>[]
 |i,t::r=>.tup [.int (i:Int),t]::zhe (i+1) r
def asL:List T->Option (List T)
 |[.nd o k l]=>if isL (.nd o k l) then some l else none
 |_=>none
def asL2:List T->Option (List T×List T)
 |[.nd o k l,.nd o' k' m]=>if isL (.nd o k l) && isL (.nd o' k' m) then some (l,m) else none
 |_=>none
def zjn(ms:PSt->Option RsL):PSt->Option RsL:=fun τ=>match ms τ with
 |some (.v ts false)=>(match asL ts with
  |some l=>some (.v (zhe 0 l) false)
  |none=>none)
 |some (.v _ true)=>none
 |r=>r
theorem zm0:∀(l:List T) (n i:Nat),(zhe n l)[i]?=(l[i]?).map fun t=>T.tup [.int ((n+i:Nat):Int),t]
 |[],n,i=>by simp[zhe]
 |t::r,n,i=>by
  cases i with
  |zero=>simp[zhe]
  |succ i =>
   simp only[zhe,yda];rw[zm0 r (n+1) i];have:n+1+i=n+(i+1):=by omega
   rw[this]
theorem zgt(l:List T):∀n,(zhe n l).length=l.length:=by
 induction l with
 |nil=>intro n;rfl
 |cons t r ih=>intro n;simp[zhe,ih]
section
variable {X:Cx}{E:L2.St->XK}{ca:Str->Value}{σ:L2.St}{H:Hp}{m ma mb mc:PSt->Option Rs}{ms:PSt->Option RsL}{K:PySem.W.Frag}{a b c e tg:Expr}{es elts:List Expr}{pos p tpos:Pos}{kk:Nat}
theorem its_list{F:Hp}{p:Addr}{xs:List V}{l:List T}(n:∀F' H':Hp,zbe F F'->zbe F' H'->SqL K H' p xs)(r:Rps K F l xs):Its K (Itl K p) F l:=by
 intro i F' H' s1 s2;have sq:=n F' H' s1 s2;refine⟨fun t ht=>?_,fun e=>⟨xs,sq,by rw[e,r.1];exact yad _⟩⟩
 have hi:i<xs.length:=by
  have:=(ya4.mp ht).1;have:=r.1
  omega
 refine⟨⟨xs,xs[i],sq,ya1 hi⟩,fun x H'' y=>?_⟩
 obtain⟨rfl,y⟩:=y;have hx:=y xs sq;exact⟨F',Ext.refl s2,((r.same s1).2 i t x ht hx).any⟩
theorem its_tup{F:Hp}{p:Addr}{xs:List V}{l:List T}(n:∀F' H':Hp,zbe F F'->zbe F' H'->SqT K H' p xs)(r:Rps K F l xs):Its K (Itt K p) F l:=by
 intro i F' H' s1 s2;have sq:=n F' H' s1 s2;refine⟨fun t ht=>?_,fun e=>⟨xs,sq,by rw[e,r.1];exact yad _⟩⟩
 have hi:i<xs.length:=by
  have:=(ya4.mp ht).1;have:=r.1
  omega
 refine⟨⟨xs,xs[i],sq,ya1 hi⟩,fun x H'' y=>?_⟩
 obtain⟨rfl,y⟩:=y;have hx:=y xs sq;exact⟨F',Ext.refl s2,((r.same s1).2 i t x ht hx).any⟩
theorem its_range{F:Hp}{lo:Int}{n:Nat}:Its K (Itr lo n) F (zeq lo n):=by
 intro i F' H' s1 s2;refine⟨fun t ht=>?_,fun e=>?_⟩
 ·unfold zeq at ht;rw[yaa]at ht;obtain⟨j,e1,e2⟩:=ya2.mp ht
  have hi:i<n:=by
   have:=(ya4.mp e1).1
   simpa using this
  have hj:i=j:=by rw[ycv hi]at e1;exact yb1 e1
  subst hj;subst e2;refine⟨hi,fun x H'' y=>?_⟩
  obtain⟨rfl,rfl⟩:=y;exact⟨F',Ext.refl s2,.int _⟩
 ·have:n<=i:=by rw[e];simp[zeq]
  exact this
theorem its_enum{F:Hp}{p:Addr}{xs:List V}{l:List T}(n:∀F' H':Hp,zbe F F'->zbe F' H'->SqL K H' p xs)(r:Rps K F l xs):Its K (Ite K p) F (zhe 0 l):=by
 intro i F' H' s1 s2;have sq:=n F' H' s1 s2;refine⟨fun t ht=>?_,fun e=>⟨xs,sq,by rw[e,zgt,r.1];exact yad _⟩⟩
 rw[zm0]at ht;obtain⟨t0,h0,rfl⟩:=ya2.mp ht
 have hi:i<xs.length:=by
  have:=(ya4.mp h0).1;have:=r.1
  omega
 refine⟨⟨xs,xs[i],sq,ya1 hi⟩,fun x H'' y=>?_⟩
 obtain⟨q,y0,rfl,hq,rfl,y⟩:=y;have hx:=y xs sq;have e:=Ext.new (o:=.tup [.int i,y0]) s2 hq;refine⟨_,e,Rps.of_node (k:=.tup) (xs:=[.int i,y0]) zau ?_⟩;have e0:((0+i:Nat):Int)=(i:Int):=by simp
 rw[e0];exact .cons (H:=H') (.int _) (.cons (H:=H') (((r.same (s1.trans e.ff)).2 i t0 y0 h0 hx).any) .nil)
theorem PI.weak{t t':TI}(h:PI X tg e t)(w:∀σ H P,t' σ H P->t σ H P):PI X tg e t':=fun pins s σ H P I q=>h pins s σ H P I (w σ H P q)
theorem PI.or{t t':TI}(h:PI X tg e t)(h':PI X tg e t'):PI X tg e (fun σ H P=>t σ H P\/t' σ H P):=fun pins s σ H P I q=>q.elim (h pins s σ H P I) (h' pins s σ H P I)
theorem r_iVal(ha:PE X e (tM X.K E ca m)):PI X tg e (tI X.K E ca (iVal m)):=by
 refine PI.weak (PI.or (pi_list ha) (pi_tup ha)) fun σ H P h=>?_
 obtain⟨F,τ,R,S,q⟩:=h;unfold iVal at q
 have key:∀{o:Bool} {k:Kd} {l:List T},m τ=some (.v (.nd o k l) false)->(∀F' H' J,Ext F H F' H' R0->Its X.K J F' (zae l)->P J H')->∀F1 H1 x B,Ext F H F1 H1 B->Got X.K F1 H1 R (.nd o k l) false x B->∃(F2:Hp) (p:Addr) (xs:List V),x=.ref p/\Ext F H F2 H1 R0/\zn5 X.K F2 k p xs/\Rps X.K F2 (zae l) xs:=by
  intro o k l hm q F1 H1 x B e1 g1;obtain⟨F2,e2,_,r2⟩:=Got.frz (b:=false) S e1 g1;have r2':Rp X.K F2 F2 (T.nd o k l).share x R0:=r2;rw[T.share]at r2';obtain⟨p,xs,rfl,_,n,kd⟩:=zcd r2';exact⟨F2,p,xs,rfl,e2,n,kd⟩
 cases hm:m τ with
 |none=>simp only[hm]at q
 |some r =>
  simp only[hm]at q;cases r with
  |x c=>exact .inl ⟨F,τ,R,S,by rw[hm];exact q⟩
  |v t bb =>
   cases t with
   |nd o k l =>
    cases bb with
    |true=>exact q.elim
    |false =>
     simp only at q;cases k with
     |lst =>
      refine .inl ⟨F,τ,R,S,?_⟩;rw[hm];intro F1 H1 x B e1 g1;obtain⟨F2,p,xs,rfl,e2,n,kd⟩:=key hm q F1 H1 x B e1 g1;exact⟨p,rfl,⟨xs,SqL.of (e2.fh _ _ n)⟩,q F2 H1 _ e2 (its_list (fun F' H' s1 s2=>SqL.of (s2 _ _ (s1 _ _ n))) kd)⟩
     |pin _ =>
      refine .inl ⟨F,τ,R,S,?_⟩;rw[hm];intro F1 H1 x B e1 g1;obtain⟨F2,p,xs,rfl,e2,n,kd⟩:=key hm q F1 H1 x B e1 g1;exact⟨p,rfl,⟨xs,SqL.of (e2.fh _ _ n)⟩,q F2 H1 _ e2 (its_list (fun F' H' s1 s2=>SqL.of (s2 _ _ (s1 _ _ n))) kd)⟩
     |rl =>
      refine .inl ⟨F,τ,R,S,?_⟩;rw[hm];intro F1 H1 x B e1 g1;obtain⟨F2,p,xs,rfl,e2,n,kd⟩:=key hm q F1 H1 x B e1 g1;exact⟨p,rfl,⟨xs,e2.fh.seq n⟩,q F2 H1 _ e2 (its_list (fun F' H' s1 s2=>s2.seq (s1.seq n)) kd)⟩
     |tup =>
      refine .inr ⟨F,τ,R,S,?_⟩;rw[hm];intro F1 H1 x B e1 g1;obtain⟨F2,p,xs,rfl,e2,n,kd⟩:=key hm q F1 H1 x B e1 g1;exact⟨p,rfl,⟨xs,SqT.of (e2.fh _ _ n)⟩,q F2 H1 _ e2 (its_tup (fun F' H' s1 s2=>SqT.of (s2 _ _ (s1 _ _ n))) kd)⟩
     |rt =>
      refine .inr ⟨F,τ,R,S,?_⟩;rw[hm];intro F1 H1 x B e1 g1;obtain⟨F2,p,xs,rfl,e2,n,kd⟩:=key hm q F1 H1 x B e1 g1;exact⟨p,rfl,⟨xs,zd1 e2.fh n⟩,q F2 H1 _ e2 (its_tup (fun F' H' s1 s2=>zd1 s2 (zd1 s1 n)) kd)⟩
   |_=>exact q.elim
theorem tI_args{f:(PSt->Option RsL)->PSt->Option RsL}{P:It->Hp->Prop}{W:List V->Hp->Prop}(hx:∀τ c,ms τ=some (.x c)->f ms τ=some (.x c))(hn:∀τ,ms τ=none->f ms τ=none)
  (hv : ∀ F τ R ts b, StR K F H σ τ R -> ms τ = some (.v ts b) -> (match f ms τ with
   |some (.v us _)=>∀F' H' J,Ext F H F' H' R0->Its K J F' us->P J H'
   |some (.x c)=>∀F' H',Ext F H F' H' R0->E σ (ca c) none H'
   |none=>False)->∀F' H' xs,Ext F H F' H' R0->Rps K (Gz b F' H' R) ts xs->W xs H') (h:tI K E ca (f ms) σ H P):tMs K E ca ms σ H W:=by
 obtain⟨F,τ,R,S,q⟩:=h;refine⟨F,τ,R,S,?_⟩;cases hm:ms τ with
 |none=>rw[hn τ hm]at q;exact q.elim
 |some r =>
  cases r with
  |x c=>rw[hx τ c hm]at q;exact q
  |v ts b=>exact fun F' H' xs e rs=>hv F τ R ts b S hm q F' H' xs e rs
theorem ok62_iff{j:Int}(h:ok62 j=true):-(2 ^ 62)<=j/\j<2 ^ 62:=@of_decide_eq_true _ (Classical.propDecidable _) h
theorem r_range1(hg:Gl X "range")(hm:X.mg "range"=none)(ha:PA X [a] (tMs X.K E ca ms))(hs:starEach [a] X.env=[(false,eval a X.env)]):PI X tg (.Call (.Name "range" p) [a] [] pos) (tI X.K E ca (zc3 ms)):=by
 refine PI.weak (pi_range1 hg hm ha hs) fun σ H P h=>?_
 refine tI_args (f:=zc3) (fun τ c e=>by unfold zc3;rw[e]) (fun τ e=>by unfold zc3;rw[e]) (fun F τ R ts b S e q F' H' xs e1 rs=>?_) h
 unfold zc3 at q;rw[e]at q;simp only at q;cases h1:as1 ts with
 |none=>simp only[h1]at q
 |some j =>
  simp only[h1]at q
  by_cases hj:ok62 j=true
  ·simp only[hj,if_true]at q;obtain⟨g1,g2⟩:=ok62_iff hj;unfold as1 at h1;split at h1
   ·cases h1;obtain⟨x1,xs1,rfl,r1,rs1⟩:=rs.inv;cases rs1.inv0;rw[r1.int_inv];exact⟨j,rfl,g1,g2,q F' H' _ e1 its_range⟩
   ·cases h1
  ·simp only[hj]at q;exact q.elim
theorem r_range2(hg:Gl X "range")(hm:X.mg "range"=none)(ha:PA X [a,b] (tMs X.K E ca ms))(hs:starEach [a,b] X.env=[(false,eval a X.env),(false,eval b X.env)])(hs2:starEach [b] X.env=[(false,eval b X.env)]):PI X tg (.Call (.Name "range" p) [a,b] [] pos) (tI X.K E ca (zhy ms)):=by
 refine PI.weak (pi_range2 hg hm ha hs hs2) fun σ H P h=>?_
 refine tI_args (f:=zhy) (fun τ c e=>by unfold zhy;rw[e]) (fun τ e=>by unfold zhy;rw[e]) (fun F τ R ts b S e q F' H' xs e1 rs=>?_) h
 unfold zhy at q;rw[e]at q;simp only at q;cases h1:as2 ts with
 |none=>simp only[h1]at q
 |some ij =>
  obtain⟨i,j⟩:=ij;simp only[h1]at q
  by_cases hj:(ok62 i && ok62 j)=true
  ·simp only[hj,if_true]at q;rw[ya3]at hj;obtain⟨g1,g2⟩:=ok62_iff hj.1;obtain⟨g3,g4⟩:=ok62_iff hj.2;unfold as2 at h1;split at h1
   ·cases h1;obtain⟨x1,xs1,rfl,r1,rs1⟩:=rs.inv;obtain⟨x2,xs2,rfl,r2,rs2⟩:=rs1.inv;cases rs2.inv0;rw[r1.int_inv,r2.int_inv];exact⟨i,j,rfl,⟨g1,g2,g3,g4⟩,q F' H' _ e1 its_range⟩
   ·cases h1
  ·simp only[hj]at q;exact q.elim
theorem isL_sq{F:Hp}{o:Bool}{k:Kd}{l:List T}{x:V}(h:isL (.nd o k l)=true)(r:Rp K F F (.nd o k l) x R0):∃p xs,x=.ref p/\(∀F' H':Hp,zbe F F'->zbe F' H'->SqL K H' p xs)/\Rps K F l xs:=by
 obtain⟨p,xs,rfl,_,n,kd⟩:=zcd r;refine⟨p,xs,rfl,fun F' H' s1 s2=>?_,kd⟩
 cases k with
 |lst=>exact SqL.of (s2 _ _ (s1 _ _ n))
 |rl=>exact s2.seq (s1.seq n)
 |tup=>cases h
 |rt=>cases h
 |pin q=>exact SqL.of (s2 _ _ (s1 _ _ n))
theorem r_enum(hg:Gl X "enumerate")(hm:X.mg "enumerate"=none)(ha:PA X [a] (tMs X.K E ca ms))(hs:starEach [a] X.env=[(false,eval a X.env)]):PI X (.Tuple elts kk tpos) (.Call (.Name "enumerate" p) [a] [] pos) (tI X.K E ca (zjn ms)):=by
 refine PI.weak (pi_enum hg hm ha hs) fun σ H P h=>?_
 refine tI_args (f:=zjn) (fun τ c e=>by unfold zjn;rw[e]) (fun τ e=>by unfold zjn;rw[e]) (fun F τ R ts b S e q F' H' xs e1 rs=>?_) h
 unfold zjn at q;rw[e]at q;cases b with
 |true=>exact q.elim
 |false =>
  simp only at q;cases h1:asL ts with
  |none=>simp only[h1]at q
  |some l =>
   simp only[h1]at q;unfold asL at h1;split at h1
   ·split at h1
    ·cases h1;rename_i hL;obtain⟨x1,xs1,rfl,r1,rs1⟩:=rs.inv;cases rs1.inv0;obtain⟨p',ys,rfl,sq,kd⟩:=isL_sq hL r1;exact⟨p',rfl,⟨ys,sq F' H' (.refl _) e1.fh⟩,q F' H' _ e1 (its_enum sq kd)⟩
    ·cases h1
   ·cases h1
end
theorem StR.set{K:PySem.W.Frag}{F H:Hp}{σ:L2.St}{τ:PSt}{R:Nat->Rg}(S:StR K F H σ τ R){i:Nat}{t:T}{x:V}{A:Rg}(r:Rp K F H t x A)(d:∀j a,j≠i->R j a->¬ A a)(hi:i<τ.length) :
  StR K F H (σ.set i (some x)) (τ.set i (some t)) (fun j=>if j=i then A else R j):=by
 have hl:=S.len;refine⟨S.fh,by simp[hl],fun j t' e=>?_,fun j a z=>?_,fun j k a hjk z1 z2=>?_⟩
 ·by_cases hj:j=i
  ·subst hj;rw[yas hi]at e;cases e;exact⟨x,yas (by omega),by simpa using r⟩
  ·rw[yat (yb8 hj)]at e ⊢;obtain⟨y,e1,r1⟩:=S.rep j t' e;exact⟨y,e1,by simpa[hj] using r1⟩
 ·by_cases hj:j=i
  ·subst hj;exact⟨t,yas hi⟩
  ·simp only[hj,if_false]at z;obtain⟨t',e⟩:=S.out j a z;exact⟨t',by rw[yat (yb8 hj)];exact e⟩
 ·by_cases hj:j=i
  ·simp only[hj,if_true]at z1;have hk:¬ k=i:=fun z=>hjk (hj.trans z.symm)
   simp only[hk,if_false]at z2;exact d k a hk z2 z1
  ·simp only[hj,if_false]at z1
   by_cases hk:k=i
   ·simp only[hk,if_true]at z2;exact d j a hj z1 z2
   ·simp only[hk,if_false]at z2;exact S.dis j k a hjk z1 z2
def tGM(K:PySem.W.Frag)(b:T->PSt->Option PSt):TG:=fun v σ H Q=>∃F τ R t τ',StR K F H σ τ R/\Rp K F H t v R0/\b t τ=some τ'/\∀σ' R',StR K F H σ' τ' R'->(∀i a,R' i a->R i a)->Q σ' H
def tGMs(K:PySem.W.Frag)(b:List T->PSt->Option PSt):TGs:=fun vs σ H Q=>∃F τ R ts τ',StR K F H σ τ R/\Rps K F ts vs/\b ts τ=some τ'/\∀σ' R',StR K F H σ' τ' R'->(∀i a,R' i a->R i a)->Q σ' H
def bNm(i:Nat):T->PSt->Option PSt:=fun t τ=>if i<τ.length then some (τ.set i (some t)) else none
def ziv:List T->PSt->Option PSt
 |[],τ=>some τ
 |_::_,_=>none
def zao(b:T->PSt->Option PSt)(bs:List T->PSt->Option PSt):List T->PSt->Option PSt
 |t::ts,τ=>(match b t τ with
  |some τ'=>bs ts τ'
  |none=>none)
 |[],_=>none
def zi4(n:Nat)(bs:List T->PSt->Option PSt):T->PSt->Option PSt
 |.nd _ .tup l,τ=>if l.length=n then bs l τ else none
 |.nd _ .rt l,τ=>if l.length=n then bs l τ else none
 |_,_=>none
section
variable {X:Cx}{e:Expr}{es:List Expr}{pos:Pos}{b:T->PSt->Option PSt}{bs:List T->PSt->Option PSt}
theorem PG.weak{t t':TG}(h:PG X e t)(w:∀v σ H Q,t' v σ H Q->t v σ H Q):PG X e t':=fun pins s σ H v u Q I r q=>h pins s σ H v u Q I r (w v σ H Q q)
theorem PGs.weak{t t':TGs}(h:PGs X es t)(w:∀v σ H Q,t' v σ H Q->t v σ H Q):PGs X es t':=fun pins s σ H v u Q I r q=>h pins s σ H v u Q I r (w v σ H Q q)
theorem g_nm{i:Nat}{x:Str}(hN:X.N.Nodup)(hi:X.N[i]?=some x)(hx:Loc X.env.scope x)(hf:X.fn x=true\/X.env.scope.names.lookup x=some .local):PG X (.Name x pos) (tGM X.K (bNm i)):=by
 refine PG.weak (pg_name hN hi hx hf) fun v σ H Q h=>?_
 obtain⟨F,τ,R,t,τ',S,r,e,q⟩:=h;unfold bNm at e;split at e
 ·cases e;rename_i hl;refine q _ _ (S.set r (fun _ _ _ _ z=>z.elim) hl) fun j a z=>?_
  by_cases hj:j=i
  ·simp only[hj,if_true]at z;exact z.elim
  ·simpa[hj] using z
 ·cases e
theorem g_nil:PGs X [] (tGMs X.K ziv):=PGs.weak pgs_nil fun v σ H Q h=>by
 obtain⟨F,τ,R,ts,τ',S,r,e,q⟩:=h;cases ts with
 |nil=>cases e;exact⟨r.inv0,q σ R S fun _ _ z=>z⟩
 |cons _ _=>cases e
theorem g_cons(h1:PG X e (tGM X.K b))(h2:PGs X es (tGMs X.K bs))(hs:(assignEach (e::es) X.env).map (·.2)=assign e X.env::(assignEach es X.env).map (·.2)):PGs X (e::es) (tGMs X.K (zao b bs)):=by
 refine PGs.weak (pgs_cons h1 h2 hs) fun v σ H Q h=>?_
 obtain⟨F,τ,R,ts,τ',S,r,e,q⟩:=h;cases ts with
 |nil=>cases e
 |cons t ts =>
  obtain⟨x,xs,rfl,r1,rs⟩:=r.inv;unfold zao at e;simp only at e;cases hb:b t τ with
  |none=>rw[hb]at e;cases e
  |some τ1 =>
   rw[hb]at e;exact⟨x,xs,rfl,F,τ,R,t,τ1,S,r1.any,hb,fun σ1 R1 S1 w1=>⟨F,τ1,R1,ts,τ',S1,rs,e,fun σ2 R2 S2 w2=>q σ2 R2 S2 fun i a z=>w1 i a (w2 i a z)⟩⟩
theorem g_tup{k n:Nat}(hc:X.calm=true)(h:PGs X es (tGMs X.K bs))(hn:(assignEach es X.env).length=n)(hst:(assignEach es X.env).findIdx? (·.1)=none):PG X (.Tuple es k pos) (tGM X.K (zi4 n bs)):=by
 refine PG.weak (pg_tup hc h hn hst) fun v σ H Q h=>?_
 obtain⟨F,τ,R,t,τ',S,r,e,q⟩:=h
 have key:∀{o:Bool} {kd:Kd} {l:List T},t=.nd o kd l->(kd=.tup\/kd=.rt)->(if l.length=n then bs l τ else none)=some τ'->gTup X.K n (tGMs X.K bs) v σ H Q:=by
  intro o kd l et hk e';subst et;split at e'
  ·rename_i hl;obtain⟨p,xs,rfl,_,nn,kid⟩:=zcd (r.any (H':=F))
   have sq:SqT X.K H p xs:=by
    rcases hk with rfl|rfl
    ·exact SqT.of (S.fh _ _ nn)
    ·exact zd1 S.fh nn
   exact⟨p,xs,rfl,sq,by rw[<- kid.1];exact hl,F,τ,R,l,τ',S,kid,e',q⟩
  ·cases e'
 unfold zi4 at e;split at e
 ·exact key rfl (.inl rfl) e
 ·exact key rfl (.inr rfl) e
 ·cases e
end
end Pu
set_option Elab.async false
set_option linter.all false
set_option maxRecDepth 100000
namespace Pu
open PySem PySem.Spec PyProof.Rows L2 Zw Zx
def zfy(b:T->PSt->Option PSt)(mt me:PSt->Option Rs):List T->PSt->Option (List T)
 |[],_=>some []
 |t::ts,τ=>(match b t τ with
  |some τ1=>(match mt τ1 with
   |some (.v (.bl true) _)=>(match me τ1 with
    |some (.v v false)=>(match zfy b mt me ts τ1 with
     |some l=>some (v::l)
     |none=>none)
    |_=>none)
   |some (.v (.bl false) _)=>zfy b mt me ts τ1
   |_=>none)
  |none=>none)
def lcX(b:T->PSt->Option PSt)(mt me:PSt->Option Rs):List T->PSt->Option Str
 |[],_=>none
 |t::ts,τ=>(match b t τ with
  |some τ1=>(match mt τ1 with
   |some (.v (.bl true) _)=>(match me τ1 with
    |some (.v _ false)=>lcX b mt me ts τ1
    |some (.x c)=>some c
    |_=>none)
   |some (.v (.bl false) _)=>lcX b mt me ts τ1
   |some (.x c)=>some c
   |_=>none)
  |none=>none)
def capT(τ:PSt)(j:Nat):Option T:=match τ[j]? with
 |some (some t)=>if t.sh then some t else none
 |_=>none
def blk(n:Nat)(caps:List Nat)(τ:PSt):PSt:=List.replicate n none++caps.map (capT τ)
def capV(σ:L2.St)(j:Nat):Option V:=match σ[j]? with
 |some (some v)=>some v
 |_=>none
def blkV(n:Nat)(caps:List Nat)(σ:L2.St):L2.St:=List.replicate n none++caps.map (capV σ)
def mLC(n:Nat)(caps:List Nat)(mi:PSt->Option RsL)(b:T->PSt->Option PSt)(mt me:PSt->Option Rs):PSt->Option Rs:=fun τ=>match mi τ with
 |some (.v ts _)=>if ts.length<=lim then (match zfy b mt me ts (blk n caps τ) with
  |some l=>some (.v (.own l) false)
  |none=>(match lcX b mt me ts (blk n caps τ) with
   |some c=>some (.x c)
   |none=>none)) else none
 |some (.x c)=>some (.x c)
 |none=>none
theorem blk_st{K:PySem.W.Frag}{F H:Hp}{σ:L2.St}{τ:PSt}{R:Nat->Rg}(S:StR K F H σ τ R)(n:Nat)(caps:List Nat):StR K F H (blkV n caps σ) (blk n caps τ) (fun _=>R0):=by
 refine⟨S.fh,by simp[blkV,blk],fun i t e=>?_,fun _ _ z=>z.elim,fun _ _ _ _ z=>z.elim⟩
 unfold blk at e;unfold blkV
 by_cases hi:i<n
 ·rw[yay (by simpa using hi),yd9,if_pos hi]at e
  cases e
 ·rw[yaw (by simp;omega),yaa]at e ⊢
  simp only[ydm]at e ⊢;cases hc:caps[i - n]? with
  |none=>rw[hc]at e;cases e
  |some j =>
   rw[hc]at e;simp only[yby]at e ⊢;have e':capT τ j=some t:=yb1 e;unfold capT at e';split at e'
   ·rename_i t' ht;split at e'
    ·cases e';rename_i hs;obtain⟨x,ex,r⟩:=S.rep j _ ht;refine⟨x,?_,r.move hs (.refl _)⟩;unfold capV;rw[ex]
    ·cases e'
   ·cases e'
theorem snoc_tot{l:List T}{Rr:Nat->Rg}{B:Rg}{a:Addr}(h:tot (fun j=>if j=l.length then B else Rr j) a):tot Rr a\/B a:=by
 obtain⟨j,z⟩:=h
 by_cases hj:j=l.length
 ·simp only[hj,if_true]at z;exact .inr z
 ·simp only[hj,if_false]at z;exact .inl ⟨j,z⟩
section
variable {X:Cx}{E:L2.St->XK}{ca:Str->Value}{σ:L2.St}{H:Hp}{K:PySem.W.Frag}{n:Nat}{caps:List Nat}{mi:PSt->Option RsL}{b:T->PSt->Option PSt}{mt me:PSt->Option Rs}
theorem lcGo_cons{t:T}{us l2:List T}{τ1:PSt}(h:zfy b mt me (t::us) τ1=some l2):∃τ2,b t τ1=some τ2/\((∃bt,mt τ2=some (.v (.bl false) bt)/\zfy b mt me us τ2=some l2)\/∃bt w l3,mt τ2=some (.v (.bl true) bt)/\me τ2=some (.v w false)/\zfy b mt me us τ2=some l3/\l2=w::l3):=by
 unfold zfy at h;split at h
 ·rename_i τ2 hb;refine⟨τ2,hb,?_⟩;split at h
  ·rename_i bt ht;split at h
   ·rename_i w hw;split at h
    ·rename_i l3 h3;cases h;exact .inr ⟨bt,w,l3,ht,hw,h3,rfl⟩
    ·cases h
   ·cases h
  ·rename_i bt ht;exact .inl ⟨bt,ht,h⟩
  ·cases h
 ·cases h
theorem lcX_cons{t:T}{us:List T}{c:Str}{τ1:PSt}(h:lcX b mt me (t::us) τ1=some c):∃τ2,b t τ1=some τ2/\((∃bt,mt τ2=some (.v (.bl false) bt)/\lcX b mt me us τ2=some c)\/(∃bt,mt τ2=some (.v (.bl true) bt)/\((∃w,me τ2=some (.v w false)/\lcX b mt me us τ2=some c)\/me τ2=some (.x c)))\/mt τ2=some (.x c)):=by
 unfold lcX at h;split at h
 ·rename_i τ2 hb;refine⟨τ2,hb,?_⟩;split at h
  ·rename_i bt ht;split at h
   ·rename_i w hw;exact .inr (.inl ⟨bt,ht,.inl ⟨w,hw,h⟩⟩)
   ·rename_i c' hw;cases h;exact .inr (.inl ⟨bt,ht,.inr hw⟩)
   ·cases h
  ·rename_i bt ht;exact .inl ⟨bt,ht,h⟩
  ·rename_i c' ht;cases h;exact .inr (.inr ht)
  ·cases h
 ·cases h
theorem tM_lc{Q:VK}(h:tM K E ca (mLC n caps mi b mt me) σ H Q):tLC2 (blkV n caps) (tI K E ca mi) (tGM K b) (tMB K (fun _=>E σ) ca mt) (tM K (fun _=>E σ) ca me) σ H Q:=by
 obtain⟨F,τ,R,S,q⟩:=h;refine⟨F,τ,R,S,?_⟩;unfold mLC at q;cases hi:mi τ with
 |none=>simp only[hi]at q
 |some r =>
  simp only[hi]at q;cases r with
  |x c=>exact q
  |v ts bb =>
   intro F1 H1 J e1 its
   by_cases hz':¬ ts.length<=lim
   ·simp only[hz',if_false]at q
   have hz:ts.length<=lim:=Decidable.not_not.mp hz';simp only[hz,if_true]at q
   obtain⟨G,g1,g0,gs⟩:∃G:List T->PSt->List T->Prop,(∀t us τ1 l,G (t::us) τ1 l->∃τ2,b t τ1=some τ2/\((∃bt,mt τ2=some (.v (.bl false) bt)/\G us τ2 l)\/(∃bt,mt τ2=some (.v (.bl true) bt)/\((∃w,me τ2=some (.v w false)/\G us τ2 (l++[w]))\/∃c,me τ2=some (.x c)/\∀F' H',Ext F H F' H' R0->E σ (ca c) none H'))\/∃c,mt τ2=some (.x c)/\∀F' H',Ext F H F' H' R0->E σ (ca c) none H')) /\
     (∀τ1 l,G [] τ1 l->∀F' H' x B,Ext F H F' H' B->Rp K F' H' (.own l) x B->Q x H')/\G ts (blk n caps τ) []:=by
    cases hg:zfy b mt me ts (blk n caps τ) with
    |some res =>
     simp only[hg]at q;refine⟨fun us τ1 l=>∃l2,zfy b mt me us τ1=some l2/\l++l2=res,fun t us τ1 l z=>?_,fun τ1 l z=>?_,res,hg,rfl⟩
     ·obtain⟨l2,z,e⟩:=z;obtain⟨τ2,y,w|⟨bt,w,l3,y1,y2,y3,rfl⟩⟩:=lcGo_cons z
      ·obtain⟨bt,w1,w2⟩:=w;exact⟨τ2,y,.inl ⟨bt,w1,l2,w2,e⟩⟩
      ·exact⟨τ2,y,.inr (.inl ⟨bt,y1,.inl ⟨w,y2,l3,y3,by simpa using e⟩⟩)⟩
     ·obtain⟨l2,z,e⟩:=z;cases z;rw[yba]at e;subst e;exact q
    |none =>
     simp only[hg]at q;cases hx:lcX b mt me ts (blk n caps τ) with
     |none=>simp only[hx]at q
     |some c =>
      simp only[hx]at q;refine⟨fun us τ1 l=>lcX b mt me us τ1=some c,fun t us τ1 l z=>?_,fun τ1 l z=>(by cases z),hx⟩
      obtain⟨τ2,y,w|⟨bt,y1,⟨w,y2,y3⟩|y2⟩|w⟩:=lcX_cons z
      ·exact⟨τ2,y,.inl w⟩
      ·exact⟨τ2,y,.inr (.inl ⟨bt,y1,.inl ⟨w,y2,y3⟩⟩)⟩
      ·exact⟨τ2,y,.inr (.inl ⟨bt,y1,.inr ⟨c,y2,q⟩⟩)⟩
      ·exact⟨τ2,y,.inr (.inr ⟨c,w,q⟩)⟩
   have S1:=S.ext e1;refine⟨fun i ys st H'=>∃(F':Hp) (τ':PSt) (l:List T) (Rr:Nat->Rg),Ext F1 H1 F' H' (tot Rr)/\RpO K F' H' l ys Rr/\StR K F' H' st τ' (fun _=>R0)/\i<=ts.length/\G (ts.drop i) τ' l/\l.length<=i,ts.length,by rw[<- zdx];exact hz,?_,?_⟩
   ·exact⟨F1,blk n caps τ,[],fun _=>R0,(Ext.refl S1.fh).mono fun a ⟨_,z⟩=>z.elim,.nil,blk_st S1 n caps,ybi _,gs,yad _⟩
   ·rintro i ys st H' ⟨F',τ',l,Rr,e2,ro,S2,hle,hgo,hll⟩;have hly:=ro.len;refine⟨by omega,hle,?_⟩
    obtain⟨i1,i2⟩:=its i F' H' e2.ff e2.fh
    by_cases hlt:i<ts.length
    ·refine .inr ⟨hlt,?_⟩;obtain⟨go,yld⟩:=i1 _ (ya1 hlt);refine⟨go,fun x H'' y=>?_⟩
     obtain⟨F'',e3,rx⟩:=yld x H'' y;have S3:=S2.ext e3;rw[ycc hlt]at hgo;obtain⟨τ1,hb,hgo⟩:=g1 _ _ _ _ hgo;refine⟨F'',τ',_,ts[i],τ1,S3,rx,hb,fun st1 R1 S4 hR1=>?_⟩
     have R1e:R1=fun _=>R0:=funext fun j=>funext fun a=>propext ⟨fun z=>hR1 j a z,fun z=>z.elim⟩
     subst R1e;refine⟨F'',τ1,_,S4,?_⟩;have eX:∀{c:Str},(∀F' H',Ext F H F' H' R0->E σ (ca c) none H')->∀F' H',Ext F'' H'' F' H' R0->E σ (ca c) none H':=fun z F' H' e=>z F' H' (((e1.trans0 e2).trans (e3.trans0 e)).mono fun _ z=>z.elim)
     rcases hgo with ⟨bt,ht,hgo⟩|⟨bt,ht,hgo⟩|⟨c,ht,hX⟩
     ·rw[ht];intro F4 H4 e4;exact iteF ⟨F4,τ1,l,Rr,(e2.trans ((e3.trans0 e4).mono fun _ z=>z)).mono fun a z=>.inl z,(ro.ext e3).ext e4,S4.ext e4,hlt,hgo,by omega⟩
     ·rw[ht];intro F4 H4 e4;have S5:=S4.ext e4;have e24:=e2.trans ((e3.trans0 e4).mono fun _ z=>z)
      refine iteT ⟨F4,τ1,_,S5,?_⟩
      rcases hgo with ⟨ve,he,hgo⟩|⟨c,he,hX⟩
      ·rw[he];intro F5 H5 y B e5 ry;have ry':Rp K F5 H5 ve y B:=ry;have ro4:=(ro.ext e3).ext e4;have ro5:=ro4.ext e5;refine⟨F5,τ1,l++[ve],_,(e24.trans e5).mono ?_,ro5.snoc ry' (fun j a z1 z2=>ro4.apart e5 z2 j z1),S5.ext e5,hlt,hgo,by simp;omega⟩
       intro a z
       rcases snoc_tot z with z|z
       ·exact .inl (.inl z)
       ·exact .inr z
      ·rw[he];exact fun F' H' e=>eX hX F' H' (e4.trans0 e)
     ·rw[ht];exact eX hX
    ·have hi':i=ts.length:=by omega
     subst hi';refine .inl ⟨i2 rfl,fun p hp=>?_⟩
     rw[List.drop_length]at hgo;obtain⟨rl,e3⟩:=ro.list e2.fh hp;refine g0 _ _ hgo F' _ _ _ (((e1.trans0 e2).trans e3).mono ?_) rl;rintro a (z|⟨j,z⟩)
     ·exact .inr z
     ·exact .inl ⟨j,z⟩
structure BlkOk(X:Cx)(scope:Scope)(N':List Str)(n:Nat)(caps:List Nat):Prop where
 kind:scope.kind=.function
 names:∀y∈scope.names,y.2=.local->scope.names.lookup y.1=some .local
 len:N'.length=n+caps.length
 cap:∀(k j:Nat),caps[k]?=some j->∃y,X.N[j]?=some y/\N'[n+k]?=some y/\scope.names.lookup y=some .free/\(y,NameKind.cell)∉scope.names
 free:∀y∈scope.names,y.2=.free->scope.names.lookup y.1=some .free/\(X.env.scope.names.lookup y.1=some .cell\/X.env.scope.names.lookup y.1=some .free)
theorem zeh{env:Env}(y:Str):∀(names:List (Str×NameKind)),(names.map fun(n,k)=>if (k == NameKind.free && env.scope.kind == .function && env.kindOf n == some .cell) then (n,NameKind.cell) else (n,k)).lookup y =
  (names.lookup y).map fun k=>if (k == NameKind.free && env.scope.kind == .function && env.kindOf y == some .cell) then .cell else k
 |[]=>rfl
 |(n,k)::r=>by
  rw[yah];cases hy:y == n with
  |true =>
   have e:y=n:=eq_of_beq hy;subst e
   by_cases hc:(k == NameKind.free && env.scope.kind == .function && env.kindOf y == some .cell)=true
   ·simp only[hc,if_true,yaz,beq_self_eq_true,yby]
   ·simp only[hc,yaz,beq_self_eq_true,yby];simp
  |false =>
   by_cases hc:(k == .free && env.scope.kind == .function && env.kindOf n == some .cell)=true
   ·simp only[hc,if_true,yaz,hy];exact zeh y r
   ·simp only[hc,yaz,hy];simp only[yck,if_false,yaz,hy];exact zeh y r
theorem zec(scope:Scope)(env:Env)(y:Str):(relabel scope env).names.lookup y=(scope.names.lookup y).map fun k=>if (k == NameKind.free && env.scope.kind == .function && env.kindOf y == some .cell) then .cell else k:=zeh y scope.names
theorem zje{y:Str}{k:NameKind}:∀{names:List (Str×NameKind)},names.lookup y=some k->(y,k)∈names:=fun h=>ybs h
theorem blk_go{scope:Scope}{N':List Str}(B:BlkOk X scope N' n caps){pins:List (Addr×Obj)}{s:Shared}(I:Inv X pins σ H s) :
  ∃cl,closureFor scope X.env=pure cl/\(∀y c,cl.lookup y=some c->X.env.cells.lookup y=some c)/\(∀y,(relabel scope X.env).names.lookup y=some .cell\/(relabel scope X.env).names.lookup y=some .free->(y,NameKind.cell)∈scope.names\/∃c,cl.lookup y=some c) /\
   (∀(σ:L2.St) (i:Nat) (y:Str) (v:V),N'[i]?=some y->(blkV n caps σ)[i]?=some (some v)->(y,NameKind.cell)∉scope.names) /\
   (∀σ:L2.St,σ.length=X.N.length->(blkV n caps σ).length=N'.length) /\
   (∀(σ:L2.St) (i:Nat) (y:Str) (v:V),N'[i]?=some y->(blkV n caps σ)[i]?=some (some v)->((relabel scope X.env).names.lookup y=some .cell\/(relabel scope X.env).names.lookup y=some .free)/\∃j:Nat,X.N[j]?=some y/\σ[j]?=some (some v)/\Vis X.env.scope y/\X.env.kindOf y≠some .local):=by
 obtain⟨cl,h1,h2,h3⟩:=closure_for scope X.env fun y hy hf=>I.ok.has y.1 (B.free y hy hf).2
 have at1:∀(σ:L2.St) (i:Nat) (y:Str) (v:V),N'[i]?=some y->(blkV n caps σ)[i]?=some (some v)->∃j:Nat,X.N[j]?=some y/\σ[j]?=some (some v)/\scope.names.lookup y=some .free/\(y,NameKind.cell)∉scope.names:=by
  intro σ i y v e1 e2;unfold blkV at e2
  by_cases hi:i<n
  ·rw[yay (by simpa using hi),yd9,if_pos hi]at e2
   cases e2
  ·rw[yaw (by simp;omega),yaa]at e2
   simp only[ydm]at e2;cases hc:caps[i - n]? with
   |none=>rw[hc]at e2;cases e2
   |some j =>
    rw[hc]at e2;simp only[yby]at e2;have e':capV σ j=some v:=yb1 e2;obtain⟨y',g1,g2,g3,g4⟩:=B.cap (i - n) j hc;have en:n+(i - n)=i:=by omega
    rw[en,e1]at g2;cases g2
    have sv:σ[j]?=some (some v):=by
     unfold capV at e';split at e'
     ·rename_i v' hv;cases e';exact hv
     ·cases e'
    exact⟨j,g1,sv,g3,g4⟩
 refine⟨cl,h1,h2,fun y hy=>?_,fun σ i y v e1 e2=>?_,fun σ hσ=>by simp[blkV,B.len],fun σ i y v e1 e2=>?_⟩
 ·cases hk:scope.names.lookup y with
  |none =>
   rw[zec,hk]at hy
   rcases hy with hy|hy<;>cases hy
  |some k =>
   by_cases hf:k=.free
   ·subst hf;exact .inr (h3 _ (zje hk) rfl)
   ·rw[zec,hk]at hy;simp only[yby]at hy;have hf':(k == NameKind.free)=false:=beq_eq_false_iff_ne.mpr hf;simp only[hf',yd8,yck,if_false]at hy
    rcases hy with hy|hy
    ·cases hy;exact .inl (zje hk)
    ·cases hy;exact absurd rfl hf
 ·exact(at1 σ i y v e1 e2).choose_spec.2.2.2
 ·obtain⟨j,g1,sv,g3,g4⟩:=at1 σ i y v e1 e2;have fr:=B.free _ (zje g3) rfl;refine⟨?_,j,g1,sv,?_,?_⟩
  ·rw[zec,g3];simp only[yby]
   by_cases hc2:(NameKind.free == NameKind.free && X.env.scope.kind == .function && X.env.kindOf y == some .cell)=true
   ·exact .inl (by rw[if_pos hc2])
   ·exact .inr (by rw[if_neg hc2])
  ·rcases fr.2 with z|z
   ·exact .inr (.inl z)
   ·exact .inr (.inr z)
  ·intro z;have z':X.env.scope.names.lookup y=some .local:=z
   rcases fr.2 with w|w
   ·rw[z']at w;cases w
   ·rw[z']at w;cases w
theorem r_lcV{elt iter tg:Expr}{ifs:List Expr}{scope:Scope}{pos:Pos}{N':List Str}(B:BlkOk X scope N' n caps)(hc:X.calm=true)(hi:PI X tg iter (tI X.K E ca mi))
  (hps:zbk X E) (hst:FrOk X) (hg:∀cl C s₀ H₀ ex xb E',zbk (zac X scope cl N' C s₀ H₀ ex xb) E'->PG (zac X scope cl N' C s₀ H₀ ex xb) tg (tGM X.K b)) (ht:∀cl C s₀ H₀ ex xb E',zbk (zac X scope cl N' C s₀ H₀ ex xb) E'->PTs (zac X scope cl N' C s₀ H₀ ex xb) ifs (tMB X.K E' ca mt)) (he:∀cl C s₀ H₀ ex xb E',zbk (zac X scope cl N' C s₀ H₀ ex xb) E'->PE (zac X scope cl N' C s₀ H₀ ex xb) elt (tM X.K E' ca me))
  (hs:∀x,foldedSetIterable iter X.env x=pure x):PE X (.ListComp elt [⟨tg,iter,ifs,0⟩] scope pos) (tM X.K E ca (mLC n caps mi b mt me)):=by
 intro pins s σ H Q I h;obtain⟨cl,h1,h2,h3,h4,h5,h6⟩:=blk_go B I;exact lc_val (blkV n caps) h1 B.kind B.names h2 h3 h4 h5 h6 hc hi hps hst (fun cl C s₀ H₀ ex xb=>hg cl C s₀ H₀ ex xb _) (fun cl C s₀ H₀ ex xb=>ht cl C s₀ H₀ ex xb _) (fun cl C s₀ H₀ ex xb=>he cl C s₀ H₀ ex xb _) hs I (tM_lc h)
theorem r_lcS{elt iter tg:Expr}{ifs:List Expr}{scope:Scope}{pos pos2 pos':Pos}{N':List Str}(B:BlkOk X scope N' n caps)(hc:X.calm=true)(hi:PI X tg iter (tI X.K E ca mi))
  (hps:zbk X E) (hst:FrOk X) (hg:∀cl C s₀ H₀ ex xb E',zbk (zac X scope cl N' C s₀ H₀ ex xb) E'->PG (zac X scope cl N' C s₀ H₀ ex xb) tg (tGM X.K b)) (ht:∀cl C s₀ H₀ ex xb E',zbk (zac X scope cl N' C s₀ H₀ ex xb) E'->PTs (zac X scope cl N' C s₀ H₀ ex xb) ifs (tMB X.K E' ca mt)) (he:∀cl C s₀ H₀ ex xb E',zbk (zac X scope cl N' C s₀ H₀ ex xb) E'->PE (zac X scope cl N' C s₀ H₀ ex xb) elt (tM X.K E' ca me))
  (hs:∀x,foldedSetIterable iter X.env x=pure x) {i:Nat} {x:Str} (hN:X.N.Nodup) (hix:X.N[i]?=some x) (hx:X.env.scope.names.lookup x=some .local)
  (hsw:swapsWith (.ListComp elt [⟨tg,iter,ifs,0⟩] scope pos) (some (.Name x pos')) pos2.line X.env=pure true):PS X (.Assign [.Name x pos'] (.ListComp elt [⟨tg,iter,ifs,0⟩] scope pos) pos2) (fun D σ H=>tM X.K E ca (mLC n caps mi b mt me) σ H fun v H1=>D.nx (σ.set i (some v)) H1):=by
 intro pins s σ H D I h;obtain⟨cl,h1,h2,h3,h4,h5,h6⟩:=blk_go B I;exact lc_set (blkV n caps) h1 B.kind B.names h2 h3 h4 h5 h6 hc hi hps hst (fun cl C s₀ H₀ ex xb=>hg cl C s₀ H₀ ex xb _) (fun cl C s₀ H₀ ex xb=>ht cl C s₀ H₀ ex xb _) (fun cl C s₀ H₀ ex xb=>he cl C s₀ H₀ ex xb _) hs hN hix hx hsw I (tM_lc h)
end
end Pu
set_option Elab.async false
set_option linter.all false
set_option maxRecDepth 100000
namespace Pu
open PySem PySem.Spec PyProof.Rows L2 Zw Zx
section
variable {X:Cx}{E:L2.St->XK}{ca:Str->Value}{m mk mv:PSt->Option Rs}{o k v:Expr}{pos p p2 ap cp:Pos}{K:PySem.W.Frag}{elts:List Expr}{kk:Nat}{tpos:Pos}
end
end Pu
set_option Elab.async false
set_option linter.all false
set_option maxRecDepth 100000
namespace Pu
open PySem PySem.Spec PyProof.Rows L2 Zw Zx
inductive Out where
 |nx (τ:PSt)|rt (t:T)|bk (τ:PSt)|ct (τ:PSt)|xc (c:Str) (τ:PSt)
structure Stp(F H:Hp)(O:Rg)(F' H':Hp)(O':Rg):Prop where
 ff:zbe F F'
 fh:zbe F' H'
 kp:∀b u,¬ O b->H b=some u->H' b=some u
 nw:∀b,O' b->O b\/H b=none
 nf:∀b u,F' b=some u->F b=some u\/O b\/H b=none
section
variable {F H F1 H1 F2 H2:Hp}{O O1 O2 B:Rg}{R:Nat->Rg}
theorem Stp.refl(s:zbe F H):Stp F H O F H O:=⟨.refl _,s,fun _ _ _ e=>e,fun _ z=>.inl z,fun _ _ e=>.inl e⟩
theorem Stp.trans(a:Stp F H O F1 H1 O1)(b:Stp F1 H1 O1 F2 H2 O2):Stp F H O F2 H2 O2 where
 ff:=a.ff.trans b.ff
 fh:=b.fh
 kp:=fun x u n e=>b.kp x u (fun z=>(a.nw x z).elim n fun w=>by rw[e]at w;cases w) (a.kp x u n e)
 nw:=fun x z=>(b.nw x z).elim (a.nw x) fun w=>by
  by_cases hO:O x
  ·exact .inl hO
  ·cases e:H x with
   |none=>exact .inr rfl
   |some u=>rw[a.kp x u hO e]at w;cases w
 nf:=fun x u e=>(b.nf x u e).elim (a.nf x u) fun z=>.inr (z.elim (a.nw x) fun w=>by
  by_cases hO:O x
  ·exact .inl hO
  ·cases e':H x with
   |none=>exact .inr rfl
   |some u'=>rw[a.kp x u' hO e']at w;cases w)
theorem Stp.mono(a:Stp F H O F1 H1 O1)(h:∀x,O2 x->O1 x):Stp F H O F1 H1 O2:=⟨a.ff,a.fh,a.kp,fun x z=>a.nw x (h x z),a.nf⟩
theorem Ext.stp(e:Ext F H F1 H1 B):Stp F H O F1 H1 (fun x=>O x\/B x):=⟨e.ff,e.fh,fun b u _ q=>e.hh b u q,fun b z=>z.elim .inl fun z=>.inr (e.nb b z),fun b u q=>(e.nf b u q).elim .inl fun z=>.inr (.inr z)⟩
theorem Ext.stp0(e:Ext F H F1 H1 B):Stp F H O F1 H1 O:=e.stp.mono fun _ z=>.inl z
end
section
def Wr(K:PySem.W.Frag)(mu:Bool)(F H:Hp)(t:T)(x:V)(B:Rg):Prop:=match mu with
 |false=>Rp K F H t x B
 |true=>∃v q l,t=.own [v,.nd true (.pin q) l]/\v.flat=true/\Rp K F H v x R0/\Rp K F H (.nd true (.pin q) l) (.ref q) B
def tS(K:PySem.W.Frag)(E:L2.St->XK)(ca:Str->Value)(mu:Bool)(m:PSt->Option Out):TS:=fun D σ H=>∃F τ R,StR K F H σ τ R/\match m τ with
 |some (.nx τ')=>∀F' H' σ' R',Stp F H (tot R) F' H' (tot R')->StR K F' H' σ' τ' R'->D.nx σ' H'
 |some (.bk τ')=>∀F' H' σ' R',Stp F H (tot R) F' H' (tot R')->StR K F' H' σ' τ' R'->D.bk σ' H'
 |some (.ct τ')=>∀F' H' σ' R',Stp F H (tot R) F' H' (tot R')->StR K F' H' σ' τ' R'->D.ct σ' H'
 |some (.rt t)=>∀F' H' x B,Stp F H (tot R) F' H' B->Wr K mu F' H' t x B->D.rt x H'
 |some (.xc c τ')=>∀F' H' σ' R',Stp F H (tot R) F' H' (tot R')->StR K F' H' σ' τ' R'->E σ' (ca c) none H'
 |none=>False
end
def zam(m n:PSt->Option Out):PSt->Option Out:=fun τ=>match m τ with
 |some (.nx τ')=>n τ'
 |r=>r
def sNx:PSt->Option Out:=fun τ=>some (.nx τ)
def sNo:PSt->Option Out:=fun _=>none
def sBk:PSt->Option Out:=fun τ=>some (.bk τ)
def sCt:PSt->Option Out:=fun τ=>some (.ct τ)
def sExp(m:PSt->Option Rs):PSt->Option Out:=fun τ=>match m τ with
 |some (.v _ _)=>some (.nx τ)
 |some (.x c)=>some (.xc c τ)
 |none=>none
def zcn(m:PSt->Option Rs):PSt->Option Out:=fun τ=>match m τ with
 |some (.v t _)=>some (.rt t)
 |some (.x c)=>some (.xc c τ)
 |none=>none
def sRetN:PSt->Option Out:=fun _=>some (.rt .non)
def zda(m:PSt->Option Rs)(b:T->PSt->Option PSt):PSt->Option Out:=fun τ=>match m τ with
 |some (.v t false)=>(match b t.share τ with
  |some τ'=>some (.nx τ')
  |none=>none)
 |some (.v _ true)=>none
 |some (.x c)=>some (.xc c τ)
 |none=>none
def sOwn(i:Nat)(m:PSt->Option Rs):PSt->Option Out:=fun τ=>match m τ with
 |some (.v t false)=>if i<τ.length then some (.nx (τ.set i (some t))) else none
 |some (.v _ true)=>none
 |some (.x c)=>some (.xc c τ)
 |none=>none
def sFrz(i:Nat):PSt->Option Out:=fun τ=>match τ[i]? with
 |some (some t)=>some (.nx (τ.set i (some t.share)))
 |_=>some (.nx τ)
def sIf(c:PSt->Option Rs)(a b:PSt->Option Out):PSt->Option Out:=fun τ=>match c τ with
 |some (.v (.bl true) _)=>a τ
 |some (.v (.bl false) _)=>b τ
 |some (.x c)=>some (.xc c τ)
 |_=>none
def zet(b:T->PSt->Option PSt)(body:PSt->Option Out):List T->PSt->Option Out
 |[],τ=>some (.nx τ)
 |t::ts,τ=>(match b t τ with
  |some τ1=>(match body τ1 with
   |some (.nx τ2)=>zet b body ts τ2
   |some (.ct τ2)=>zet b body ts τ2
   |some (.bk τ2)=>some (.nx τ2)
   |r=>r)
  |none=>none)
def sFor(mi:PSt->Option RsL)(b:T->PSt->Option PSt)(body:PSt->Option Out):PSt->Option Out:=fun τ=>match mi τ with
 |some (.v ts _)=>zet b body ts τ
 |some (.x c)=>some (.xc c τ)
 |none=>none
def whN(c:PSt->Option Rs)(body:PSt->Option Out):Nat->PSt->Option Out
 |0,_=>none
 |n+1,τ=>(match c τ with
  |some (.v (.bl true) _)=>(match body τ with
   |some (.nx τ2)=>whN c body n τ2
   |some (.ct τ2)=>whN c body n τ2
   |some (.bk τ2)=>some (.nx τ2)
   |r=>r)
  |some (.v (.bl false) _)=>some (.nx τ)
  |some (.x c)=>some (.xc c τ)
  |_=>none)
open Classical in
noncomputable def sWh(c:PSt->Option Rs)(body:PSt->Option Out):PSt->Option Out:=fun τ=>if h:∃n,(whN c body n τ).isSome=true then whN c body h.choose τ else none
theorem sWh_some{c:PSt->Option Rs}{body:PSt->Option Out}{τ:PSt}{o:Out}(h:sWh c body τ=some o):∃n,whN c body n τ=some o:=by
 unfold sWh at h;split at h
 ·exact⟨_,h⟩
 ·cases h
theorem whN_more{c:PSt->Option Rs}{body:PSt->Option Out}:∀{n:Nat} {τ:PSt} {o:Out},whN c body n τ=some o->whN c body (n+1) τ=some o
 |0,τ,o,h=>by cases h
 |n+1,τ,o,h=>by
  unfold whN at h ⊢;split at h
  ·split at h
   ·exact whN_more h
   ·exact whN_more h
   ·exact h
   ·exact h
  ·exact h
  ·exact h
  ·cases h
theorem whN_le{c:PSt->Option Rs}{body:PSt->Option Out}{n m:Nat}{τ:PSt}{o:Out}(h:whN c body n τ=some o)(hm:n<=m):whN c body m τ=some o:=by
 induction hm with
 |refl=>exact h
 |step _ ih=>exact whN_more ih
theorem sWh_of{c:PSt->Option Rs}{body:PSt->Option Out}{n:Nat}{τ:PSt}{o:Out}(h:whN c body n τ=some o):sWh c body τ=some o:=by
 unfold sWh;have hx:∃n,(whN c body n τ).isSome=true:=⟨n,by rw[h];rfl⟩
 rw[dif_pos hx];obtain⟨o',e⟩:=yd4.mp hx.choose_spec;have e1:=whN_le e (Nat.le_max_left hx.choose n);have e2:=whN_le h (Nat.le_max_right hx.choose n);rw[e1]at e2;rw[e,<- e2]
section
variable {mu:Bool}{X:Cx}{E:L2.St->XK}{ca:Str->Value}{σ:L2.St}{H:Hp}{K:PySem.W.Frag}{m mk mc:PSt->Option Rs}{ms mi:PSt->Option RsL}{b:T->PSt->Option PSt}{u w:PSt->Option Out}{D:Ends}{e c tg iter:Expr}{st:Stmt}{zh6 body sa sb:List Stmt}{pos pos':Pos}
theorem PS.weak{t t':TS}(h:PS X st t)(w:∀D σ H,t' D σ H->t D σ H):PS X st t':=fun pins s σ H D I q=>h pins s σ H D I (w D σ H q)
theorem PSs.weak{t t':TS}(h:PSs X zh6 t)(w:∀D σ H,t' D σ H->t D σ H):PSs X zh6 t':=fun pins s σ H D I q=>h pins s σ H D I (w D σ H q)
theorem tS_seq(h:tS K E ca mu (zam u w) D σ H):tSeq (tS K E ca mu u) (tS K E ca mu w) D σ H:=by
 obtain⟨F,τ,R,S,q⟩:=h;refine⟨F,τ,R,S,?_⟩;unfold zam at q;cases hm:u τ with
 |none=>simp only[hm]at q
 |some o =>
  simp only[hm]at q;cases o with
  |nx τ' =>
   intro F1 H1 σ1 R1 s1 S1;refine⟨F1,τ',R1,S1,?_⟩;simp only at q;cases hw:w τ' with
   |none=>simp only[hw]at q
   |some o =>
    simp only[hw]at q;cases o with
    |nx _=>exact fun F' H' σ' R' s S=>q F' H' σ' R' (s1.trans s) S
    |bk _=>exact fun F' H' σ' R' s S=>q F' H' σ' R' (s1.trans s) S
    |ct _=>exact fun F' H' σ' R' s S=>q F' H' σ' R' (s1.trans s) S
    |rt _=>exact fun F' H' x B s r=>q F' H' x B (s1.trans s) r
    |xc _ _=>exact fun F' H' σ' R' s S=>q F' H' σ' R' (s1.trans s) S
  |rt _=>exact q
  |bk _=>exact q
  |ct _=>exact q
  |xc _ _=>exact q
theorem s_nil:PSs X [] (tS X.K E ca mu sNx):=PSs.weak pss_nil fun D σ H h=>by
 obtain⟨F,τ,R,S,q⟩:=h;exact q F H σ R (Stp.refl S.fh) S
theorem s_cons(h1:PS X st (tS X.K E ca mu u))(h2:PSs X zh6 (tS X.K E ca mu w)):PSs X (st::zh6) (tS X.K E ca mu (zam u w)):=PSs.weak (pss_cons h1 h2) fun D σ H h=>tS_seq h
theorem s_one(h1:PS X st (tS X.K E ca mu u)):PSs X [st] (tS X.K E ca mu u):=pss_one h1
theorem s_no:PS X st (tS X.K E ca mu sNo):=fun pins s σ H D I h=>by
 obtain⟨_,_,_,_,q⟩:=h;exact q.elim
theorem s_pass:PS X (.Pass pos) (tS X.K E ca mu sNx):=PS.weak ps_pass fun D σ H h=>by
 obtain⟨F,τ,R,S,q⟩:=h;exact q F H σ R (Stp.refl S.fh) S
theorem s_break:PS X (.Break pos) (tS X.K E ca mu sBk):=PS.weak ps_break fun D σ H h=>by
 obtain⟨F,τ,R,S,q⟩:=h;exact q F H σ R (Stp.refl S.fh) S
theorem s_continue:PS X (.Continue pos) (tS X.K E ca mu sCt):=PS.weak ps_continue fun D σ H h=>by
 obtain⟨F,τ,R,S,q⟩:=h;exact q F H σ R (Stp.refl S.fh) S
theorem tS_frz{i:Nat}(h:tS K E ca mu (zam (sFrz i) w) D σ H):tS K E ca mu w D σ H:=by
 obtain⟨F,τ,R,S,q⟩:=h;unfold zam sFrz at q;cases ht:τ[i]? with
 |none =>
  rw[ht]at q;exact⟨F,τ,R,S,q⟩
 |some ot =>
  rw[ht]at q;cases ot with
  |none=>exact⟨F,τ,R,S,q⟩
  |some t =>
   simp only at q;obtain⟨x,ex,r⟩:=S.rep i t ht;have hi:i<τ.length:=(ya4.mp ht).1;have n:∀a,R i a->F a=none:=fun a z=>(r.dom z).1
   have S0:StR K (frz F H (R i)) H σ (τ.set i (some t.share)) (fun j=>if j=i then R0 else R j):=by
    refine⟨znj S.fh,by simpa using S.len,fun j t' e=>?_,fun j a z=>?_,fun j k a hjk z1 z2=>?_⟩
    ·by_cases hj:j=i
     ·subst hj;rw[yas hi]at e;cases e;exact⟨x,ex,by simpa using r.share (zgl n) fun a u z q=>by rw[zjr z];exact q⟩
     ·rw[yat (yb8 hj)]at e;obtain⟨y,e1,r1⟩:=S.rep j t' e;refine⟨y,e1,?_⟩;simp only[hj,if_false]
      exact r1.frame (zgl n) fun a z=>⟨rfl,by
       rw[zfk (fun z'=>S.dis j i a hj z z')]
       exact(r1.dom z).1⟩
    ·by_cases hj:j=i
     ·simp only[hj,if_true]at z;exact z.elim
     ·simp only[hj,if_false]at z;obtain⟨t',e⟩:=S.out j a z;exact⟨t',by rw[yat (yb8 hj)];exact e⟩
    ·by_cases hj:j=i
     ·simp only[hj,if_true]at z1;exact z1.elim
     ·by_cases hk:k=i
      ·simp only[hk,if_true]at z2;exact z2.elim
      ·simp only[hj,if_false]at z1;simp only[hk,if_false]at z2;exact S.dis j k a hjk z1 z2
   have st0:Stp F H (tot R) (frz F H (R i)) H (tot fun j=>if j=i then R0 else R j):=by
    refine⟨zgl n,znj S.fh,fun _ _ _ e=>e,fun b ⟨j,z⟩=>?_,fun b u e=>?_⟩
    ·by_cases hj:j=i
     ·simp only[hj,if_true]at z;exact z.elim
     ·simp only[hj,if_false]at z;exact .inl ⟨j,z⟩
    ·by_cases hb:R i b
     ·exact .inr (.inl ⟨i,hb⟩)
     ·rw[zfk hb]at e;exact .inl e
   refine⟨_,_,_,S0,?_⟩;cases hw:w (τ.set i (some t.share)) with
   |none=>simp only[hw]at q
   |some o =>
    simp only[hw]at q;cases o with
    |nx _=>exact fun F' H' σ' R' s S=>q F' H' σ' R' (st0.trans s) S
    |bk _=>exact fun F' H' σ' R' s S=>q F' H' σ' R' (st0.trans s) S
    |ct _=>exact fun F' H' σ' R' s S=>q F' H' σ' R' (st0.trans s) S
    |rt _=>exact fun F' H' x B s r=>q F' H' x B (st0.trans s) r
    |xc _ _=>exact fun F' H' σ' R' s S=>q F' H' σ' R' (st0.trans s) S
theorem s_frz{i:Nat}(h:PSs X zh6 (tS X.K E ca mu w)):PSs X zh6 (tS X.K E ca mu (zam (sFrz i) w)):=PSs.weak h fun D σ H h=>tS_frz h
theorem s_exp(he:PE X e (tM X.K E ca m))(hs:swapsWith e none pos.line X.env=pure false):PS X (.Expr e pos) (tS X.K E ca mu (sExp m)):=by
 refine PS.weak (ps_expr he hs) fun D σ H h=>?_
 obtain⟨F,τ,R,S,q⟩:=h;refine⟨F,τ,R,S,?_⟩;unfold sExp at q;cases hm:m τ with
 |none=>simp only[hm]at q
 |some r =>
  simp only[hm]at q;cases r with
  |x c=>exact fun F' H' e=>q F' H' σ R e.stp0 (S.ext e)
  |v t bb=>exact fun F' H' x B e g=>q F' H' σ R e.stp0 (S.ext e)
theorem s_ret(he:PE X e (tM X.K E ca m)):PS X (.Return (some e) pos) (tS X.K E ca false (zcn m)):=by
 refine PS.weak (ps_ret he) fun D σ H h=>?_
 obtain⟨F,τ,R,S,q⟩:=h;refine⟨F,τ,R,S,?_⟩;unfold zcn at q;cases hm:m τ with
 |none=>simp only[hm]at q
 |some r =>
  simp only[hm]at q;cases r with
  |x c=>exact fun F' H' e=>q F' H' σ R e.stp0 (S.ext e)
  |v t bb =>
   intro F' H' x B e g;cases bb with
   |false=>exact q F' H' x B (e.stp.mono fun _ z=>.inr z) g
   |true =>
    obtain⟨_,A,hA,r⟩:=g;exact q F' H' x A (e.stp.mono fun a z=>.inl (hA a z)) r
theorem s_retN:PS X (.Return none pos) (tS X.K E ca false sRetN):=PS.weak ps_retN fun D σ H h=>by
 obtain⟨F,τ,R,S,q⟩:=h;exact q F H .non R0 ((Stp.refl S.fh).mono fun _ z=>z.elim) .non
theorem s_if(hc:PT X c (tMB X.K E ca mc))(ha:PSs X sa (tS X.K E ca mu u))(hb:PSs X sb (tS X.K E ca mu w)):PS X (.If c sa sb pos) (tS X.K E ca mu (sIf mc u w)):=by
 refine PS.weak (ps_if hc ha hb) fun D σ H h=>?_
 obtain⟨F,τ,R,S,q⟩:=h;refine⟨F,τ,R,S,?_⟩;unfold sIf at q;cases hm:mc τ with
 |none=>simp only[hm]at q
 |some r =>
  simp only[hm]at q;cases r with
  |x c=>exact fun F' H' e=>q F' H' σ R e.stp0 (S.ext e)
  |v t bb =>
   cases t with
   |bl k =>
    intro F1 H1 e1;have S1:=S.ext e1
    have key:∀{mm:PSt->Option Out},(match mm τ with
      |some (.nx τ')=>∀F' H' σ' R',Stp F H (tot R) F' H' (tot R')->StR X.K F' H' σ' τ' R'->D.nx σ' H'
      |some (.bk τ')=>∀F' H' σ' R',Stp F H (tot R) F' H' (tot R')->StR X.K F' H' σ' τ' R'->D.bk σ' H'
      |some (.ct τ')=>∀F' H' σ' R',Stp F H (tot R) F' H' (tot R')->StR X.K F' H' σ' τ' R'->D.ct σ' H'
      |some (.rt t)=>∀F' H' x B,Stp F H (tot R) F' H' B->Wr X.K mu F' H' t x B->D.rt x H'
      |some (.xc c τ')=>∀F' H' σ' R',Stp F H (tot R) F' H' (tot R')->StR X.K F' H' σ' τ' R'->E σ' (ca c) none H'
      |none=>False)->tS X.K E ca mu mm D σ H1:=fun {mm} q=>by
     refine⟨F1,τ,R,S1,?_⟩;cases hr:mm τ with
     |none=>simp only[hr]at q
     |some o =>
      simp only[hr]at q;cases o with
      |nx _=>exact fun F' H' σ' R' s S=>q F' H' σ' R' (e1.stp0.trans s) S
      |bk _=>exact fun F' H' σ' R' s S=>q F' H' σ' R' (e1.stp0.trans s) S
      |ct _=>exact fun F' H' σ' R' s S=>q F' H' σ' R' (e1.stp0.trans s) S
      |rt _=>exact fun F' H' x B s r=>q F' H' x B (e1.stp0.trans s) r
      |xc _ _=>exact fun F' H' σ' R' s S=>q F' H' σ' R' (e1.stp0.trans s) S
    cases k with
    |true=>exact iteT (key q)
    |false=>exact iteF (key q)
   |_=>exact q.elim
theorem tS_set{g:TG}(hg:∀v σ H Q,tGM K b v σ H Q->g v σ H Q)(h:tS K E ca mu (zda m b) D σ H):tAsg (tM K E ca m) g D σ H:=by
 obtain⟨F,τ,R,S,q⟩:=h;refine⟨F,τ,R,S,?_⟩;unfold zda at q;cases hm:m τ with
 |none=>simp only[hm]at q
 |some r =>
  simp only[hm]at q;cases r with
  |x c=>exact fun F' H' e=>q F' H' σ R e.stp0 (S.ext e)
  |v t bb =>
   cases bb with
   |true=>exact q.elim
   |false =>
    intro F1 H1 x B e1 g1;obtain⟨F2,e2,_,r2⟩:=Got.frz (b:=false) S e1 g1;simp only at q;cases hb:b t.share τ with
    |none=>simp only[hb]at q
    |some τ' =>
     simp only[hb]at q;refine hg _ _ _ _ ⟨F2,τ,R,t.share,τ',S.ext e2,(show Rp K F2 F2 t.share x R0 from r2).any,hb,fun σ' R' S' hR=>?_⟩
     exact q F2 H1 σ' R' (e2.stp0.mono fun a ⟨i,z⟩=>⟨i,hR i a z⟩) S'
theorem gName_of{i:Nat}{v:V}{Q:L2.St->Hp->Prop}(h:tGM K (bNm i) v σ H Q):gName i v σ H Q:=by
 obtain⟨F,τ,R,t,τ',S,r,e,q⟩:=h;unfold bNm at e;split at e
 ·cases e;rename_i hl;refine q _ _ (S.set r (fun _ _ _ _ z=>z.elim) hl) fun j a z=>?_
  by_cases hj:j=i
  ·simp only[hj,if_true]at z;exact z.elim
  ·simpa[hj] using z
 ·cases e
theorem s_setN{i:Nat}{x:Str}(hN:X.N.Nodup)(hi:X.N[i]?=some x)(hx:Loc X.env.scope x)(he:PE X e (tM X.K E ca m))(hs:swapsWith e (some (.Name x pos')) pos.line X.env=pure false)(hf:X.fn x=true\/X.env.scope.names.lookup x=some .local) :
  PS X (.Assign [.Name x pos'] e pos) (tS X.K E ca mu (zda m (bNm i))):=PS.weak (ps_set hN hi hx he hs hf) fun D σ H h=>tS_set (fun _ _ _ _ z=>gName_of z) h
theorem s_setG(he:PE X e (tM X.K E ca m))(hg:PG X tg (tGM X.K b))(hs:swapsWithSole [tg] e pos.line X.env=pure false)(hw:swappedStores [tg] e X.env=pure none)(h1:(assignEach [tg] X.env).map (·.2)=[assign tg X.env]) :
  PS X (.Assign [tg] e pos) (tS X.K E ca mu (zda m b)):=PS.weak (ps_asg he hg hs hw h1) fun D σ H h=>tS_set (fun _ _ _ _ z=>z) h
theorem tS_own{i:Nat}(h:tS K E ca mu (sOwn i m) D σ H):tAsg (tM K E ca m) (gName i) D σ H:=by
 obtain⟨F,τ,R,S,q⟩:=h;refine⟨F,τ,R,S,?_⟩;unfold sOwn at q;cases hm:m τ with
 |none=>simp only[hm]at q
 |some r =>
  simp only[hm]at q;cases r with
  |x c=>exact fun F' H' e=>q F' H' σ R e.stp0 (S.ext e)
  |v t bb =>
   cases bb with
   |true=>exact q.elim
   |false =>
    intro F1 H1 x B e1 g1;have g1':Rp K F1 H1 t x B:=g1;have S1:=S.ext e1
    by_cases hl:i<τ.length
    ·simp only[hl,if_true]at q;refine q F1 H1 _ _ (e1.stp.mono ?_) (S1.set g1' (fun j a _ z1 z2=>S.apart e1 z2 j z1) hl)
     rintro a ⟨j,z⟩
     by_cases hj:j=i
     ·simp only[hj,if_true]at z;exact .inr z
     ·simp only[hj,if_false]at z;exact .inl ⟨j,z⟩
    ·simp only[hl,if_false]at q
theorem s_ownN{i:Nat}{x:Str}(hN:X.N.Nodup)(hi:X.N[i]?=some x)(hx:Loc X.env.scope x)(he:PE X e (tM X.K E ca m))(hs:swapsWith e (some (.Name x pos')) pos.line X.env=pure false)(hf:X.fn x=true\/X.env.scope.names.lookup x=some .local) :
  PS X (.Assign [.Name x pos'] e pos) (tS X.K E ca mu (sOwn i m)):=PS.weak (ps_set hN hi hx he hs hf) fun D σ H h=>tS_own h
theorem s_for(hp:PassesOwn (model X.prog X.w) X.A X.env X.xe)(hc:X.calm=true)(hi:PI X tg iter (tI X.K E ca mi))(hg:PG X tg (tGM X.K b))(hb:PSs X body (tS X.K E ca mu u))(hs:∀x,foldedSetIterable iter X.env x=pure x) :
  PS X (.For tg iter body [] pos) (tS X.K E ca mu (sFor mi b u)):=by
 refine PS.weak (ps_for hp hc hi hg hb hs) fun D σ H h=>?_
 obtain⟨F,τ,R,S,q⟩:=h;refine⟨F,τ,R,S,?_⟩;unfold sFor at q;cases hm:mi τ with
 |none=>simp only[hm]at q
 |some r =>
  simp only[hm]at q;cases r with
  |x c=>exact fun F' H' e=>q F' H' σ R e.stp0 (S.ext e)
  |v ts bb =>
   intro F1 H1 J e1 its;simp only at q;have S1:=S.ext e1;cases hg:zet b u ts τ with
   |none=>simp only[hg]at q
   |some out =>
    simp only[hg]at q;refine⟨fun i mm σ' H'=>mm=ts.length - i/\i<=ts.length/\∃F' τ' R',Stp F H (tot R) F' H' (tot R')/\zbe F1 F'/\StR X.K F' H' σ' τ' R'/\zet b u (ts.drop i) τ'=some out,⟨ts.length,by simp,ybi _,F1,τ,R,e1.stp0,.refl _,S1,by simpa using hg⟩,?_⟩
    rintro i mm σ' H' ⟨rfl,hle,F',τ',R',st,sf,S',hgo⟩;obtain⟨i1,i2⟩:=its i F' H' sf S'.fh
    by_cases hlt:i<ts.length
    ·refine .inr ⟨(i1 _ (ya1 hlt)).1,fun σ2 H2=>i+1<=ts.length/\∃F2 τ2 R2,Stp F H (tot R) F2 H2 (tot R2)/\zbe F1 F2/\StR X.K F2 H2 σ2 τ2 R2/\zet b u (ts.drop (i+1)) τ2=some out,fun σ2 H2 n2=>⟨ts.length - (i+1),by omega,rfl,n2⟩,fun x H'' y=>?_⟩
     obtain⟨F'',e3,rx⟩:=(i1 _ (ya1 hlt)).2 x H'' y;have S3:=S'.ext e3;rw[ycc hlt]at hgo;unfold zet at hgo;cases hb2:b ts[i] τ' with
     |none=>simp only[hb2]at hgo;cases hgo
     |some τ1 =>
      simp only[hb2]at hgo;refine⟨F'',τ',R',ts[i],τ1,S3,rx,hb2,fun σ3 R3 S4 hR3=>?_⟩
      have st3:Stp F H (tot R) F'' H'' (tot R3):=(st.trans e3.stp0).mono fun a ⟨j,z⟩=>⟨j,hR3 j a z⟩
      refine⟨F'',τ1,R3,S4,?_⟩;cases hu:u τ1 with
      |none=>simp only[hu]at hgo;cases hgo
      |some o =>
       simp only[hu]at hgo;cases o with
       |nx τ2=>exact fun F4 H4 σ4 R4 s4 S5=>⟨hlt,F4,τ2,R4,st3.trans s4,(sf.trans e3.ff).trans s4.ff,S5,hgo⟩
       |ct τ2=>exact fun F4 H4 σ4 R4 s4 S5=>⟨hlt,F4,τ2,R4,st3.trans s4,(sf.trans e3.ff).trans s4.ff,S5,hgo⟩
       |bk τ2 =>
        cases hgo;exact fun F4 H4 σ4 R4 s4 S5=>q F4 H4 σ4 R4 (st3.trans s4) S5
       |rt v =>
        cases hgo;exact fun F4 H4 x B s4 r=>q F4 H4 x B (st3.trans s4) r
       |xc cc τ2 =>
        cases hgo;exact fun F4 H4 σ4 R4 s4 S5=>q F4 H4 σ4 R4 (st3.trans s4) S5
    ·have hi':i=ts.length:=by omega
     subst hi';refine .inl ⟨i2 rfl,?_⟩;rw[List.drop_length]at hgo;unfold zet at hgo;cases hgo;exact q F' H' σ' R' st S'
theorem s_wh(hp:PassesOwn (model X.prog X.w) X.A X.env X.xe)(hc:PT X c (tMB X.K E ca mc))(hb:PSs X body (tS X.K E ca mu u)):PS X (.While c body [] pos) (tS X.K E ca mu (sWh mc u)):=by
 refine PS.weak (ps_while hp hc hb) fun D σ H h=>?_
 obtain⟨F,τ,R,S,q⟩:=h;cases hw:sWh mc u τ with
 |none=>simp only[hw]at q
 |some out =>
  simp only[hw]at q;obtain⟨n,hn⟩:=sWh_some hw;refine⟨fun mm σ' H'=>∃F' τ' R',Stp F H (tot R) F' H' (tot R')/\StR X.K F' H' σ' τ' R'/\whN mc u mm τ'=some out,⟨n,F,τ,R,Stp.refl S.fh,S,hn⟩,?_⟩
  rintro mm σ' H' ⟨F',τ',R',st,S',hgo⟩;cases mm with
  |zero=>cases hgo
  |succ mm =>
   refine⟨F',τ',R',S',?_⟩;unfold whN at hgo;cases hm:mc τ' with
   |none=>simp only[hm]at hgo;cases hgo
   |some r =>
    simp only[hm]at hgo;cases r with
    |x cc =>
     cases hgo;exact fun F2 H2 e2=>q F2 H2 σ' R' (st.trans e2.stp0) (S'.ext e2)
    |v t bb =>
     cases t with
     |bl k =>
      intro F2 H2 e2;have S2:=S'.ext e2;have st2:Stp F H (tot R) F2 H2 (tot R'):=st.trans e2.stp0;cases k with
      |false =>
       cases hgo;exact iteF (q F2 H2 σ' R' st2 S2)
      |true =>
       simp only at hgo;refine iteT ⟨fun σ2 H2=>∃F2 τ2 R2,Stp F H (tot R) F2 H2 (tot R2)/\StR X.K F2 H2 σ2 τ2 R2/\whN mc u mm τ2=some out,fun σ3 H3 n3=>⟨mm,yc3 _,n3⟩,F2,τ',R',S2,?_⟩
       cases hu:u τ' with
       |none=>simp only[hu]at hgo;cases hgo
       |some o =>
        simp only[hu]at hgo;cases o with
        |nx τ2=>exact fun F4 H4 σ4 R4 s4 S5=>⟨F4,τ2,R4,st2.trans s4,S5,hgo⟩
        |ct τ2=>exact fun F4 H4 σ4 R4 s4 S5=>⟨F4,τ2,R4,st2.trans s4,S5,hgo⟩
        |bk τ2 =>
         cases hgo;exact fun F4 H4 σ4 R4 s4 S5=>q F4 H4 σ4 R4 (st2.trans s4) S5
        |rt v =>
         cases hgo;exact fun F4 H4 x B s4 r=>q F4 H4 x B (st2.trans s4) r
        |xc cc τ2 =>
         cases hgo;exact fun F4 H4 σ4 R4 s4 S5=>q F4 H4 σ4 R4 (st2.trans s4) S5
     |_=>cases hgo
end
end Pu
set_option Elab.async false
set_option linter.all false
set_option maxRecDepth 100000
namespace Pu
open PySem PySem.Spec PyProof.Rows L2 Zw Zx
section
variable {K:PySem.W.Frag}{F H:Hp}{l:List T}{xs:List V}{Rr:Nat->Rg}{p:Addr}{o:HO}
theorem Rp.own_inv{x:V}{A:Rg}{k:Kd}(h:Rp K F H (.nd true k l) x A):∃p xs Rr,x=.ref p/\A=(fun a=>a=p\/∃j,Rr j a)/\F p=none/\H p=some (.lst xs)/\RpO K F H l xs Rr/\(∀j,¬ Rr j p)/\OwnK k p:=by
 cases h with
 |own hk R f h e c d dp o=>exact⟨_,_,R,rfl,rfl,f,h,⟨e,c,d,o⟩,dp,hk⟩
theorem own_mk{k:Kd}(hk:OwnK k p)(r:RpO K F H l xs Rr)(f:F p=none)(h:H p=some (.lst xs))(dp:∀j,¬ Rr j p):Rp K F H (.nd true k l) (.ref p) (fun a=>a=p\/∃j,Rr j a):=.own hk Rr f h r.len r.rep r.dis dp r.out
theorem RpO.upd(r:RpO K F H l xs Rr)(dp:∀j,¬ Rr j p):RpO K F (L2.upd H p o) l xs Rr:=⟨r.len,fun i t x h1 h2=>(r.rep i t x h1 h2).frame (.refl _) fun a z=>⟨zaj (fun e=>dp i (e▸z)),(r.dom z).1⟩,r.dis,r.out⟩
theorem Rp.upd{t:T}{x:V}{A:Rg}(r:Rp K F H t x A)(dp:¬ A p):Rp K F (L2.upd H p o) t x A:=r.frame (.refl _) fun a z=>⟨zaj (fun e=>dp (e▸z)),(r.dom z).1⟩
theorem RpO.set(r:RpO K F H l xs Rr){j0:Nat}{t:T}{y:V}{B:Rg}(hj:j0<l.length)(rt:Rp K F H t y B)(d:∀j a,j≠j0->Rr j a->¬ B a):RpO K F H (l.set j0 t) (xs.set j0 y) (fun j=>if j=j0 then B else Rr j):=by
 have hl:=r.len;refine⟨by simp[hl],fun i t' x' h1 h2=>?_,fun i k a hik z1 z2=>?_,fun i a z=>?_⟩
 ·by_cases hi:i=j0
  ·subst hi;rw[yas hj]at h1;rw[yas (by omega)]at h2
   cases h1;cases h2
   simpa using rt
  ·rw[yat (yb8 hi)]at h1 h2
   simpa[hi] using r.rep i t' x' h1 h2
 ·by_cases hi:i=j0
  ·simp only[hi,if_true]at z1;have hk:¬ k=j0:=fun z=>hik (hi.trans z.symm)
   simp only[hk,if_false]at z2;exact d k a hk z2 z1
  ·simp only[hi,if_false]at z1
   by_cases hk:k=j0
   ·simp only[hk,if_true]at z2;exact d i a hi z1 z2
   ·simp only[hk,if_false]at z2;exact r.dis i k a hik z1 z2
 ·by_cases hi:i=j0
  ·simp[hi];omega
  ·simp only[hi,if_false]at z
   simpa using r.out i a z
variable {σ:L2.St}{τ:PSt}{R:Nat->Rg}
theorem StR.upd(S:StR K F H σ τ R){i:Nat}{t t':T}{x:V}{A' B:Rg}(ht:τ[i]?=some (some t))(hx:σ[i]?=some (some x))(hp:R i p)(r':Rp K F (L2.upd H p o) t' x A')(hA:∀a,A' a->R i a\/B a)(hB:∀j a,R j a->¬ B a) :
  StR K F (L2.upd H p o) σ (τ.set i (some t')) (fun j=>if j=i then A' else R j)/\Stp F H (fun a=>Pu.tot R a\/B a) F (L2.upd H p o) (Pu.tot fun j=>if j=i then A' else R j):=by
 have fp:F p=none:=(S.dom hp).1;have hi:i<τ.length:=(ya4.mp ht).1
 have fh':zbe F (L2.upd H p o):=fun b u e=>by
  rw[zaj (fun z=>by rw[z,fp]at e;cases e)]
  exact S.fh b u e
 refine⟨⟨fh',by simpa using S.len,fun j t1 e=>?_,fun j a z=>?_,fun j k a hjk z1 z2=>?_⟩,⟨.refl _,fh',fun b u n e=>?_,fun b ⟨j,z⟩=>?_,fun b u e=>.inl e⟩⟩
 ·by_cases hj:j=i
  ·subst hj;rw[yas hi]at e;cases e;exact⟨x,hx,by simpa using r'⟩
  ·rw[yat (yb8 hj)]at e;obtain⟨y,e1,r1⟩:=S.rep j t1 e;exact⟨y,e1,by simpa[hj] using r1.upd (o:=o) (fun z=>S.dis j i p hj z hp)⟩
 ·by_cases hj:j=i
  ·subst hj;exact⟨t',yas hi⟩
  ·simp only[hj,if_false]at z;obtain⟨t1,e⟩:=S.out j a z;exact⟨t1,by rw[yat (yb8 hj)];exact e⟩
 ·by_cases hj:j=i
  ·simp only[hj,if_true]at z1;have hk:¬ k=i:=fun z=>hjk (hj.trans z.symm)
   simp only[hk,if_false]at z2
   rcases hA a z1 with w|w
   ·exact S.dis i k a (yb8 hk) w z2
   ·exact hB k a z2 w
  ·simp only[hj,if_false]at z1
   by_cases hk:k=i
   ·simp only[hk,if_true]at z2
    rcases hA a z2 with w|w
    ·exact S.dis i j a (yb8 hj) w z1
    ·exact hB j a z1 w
   ·simp only[hk,if_false]at z2;exact S.dis j k a hjk z1 z2
 ·rw[zaj (fun z=>n (.inl (by rw[z];exact⟨i,hp⟩)))]
  exact e
 ·by_cases hj:j=i
  ·simp only[hj,if_true]at z
   rcases hA b z with w|w
   ·exact .inl (.inl ⟨i,w⟩)
   ·exact .inl (.inr w)
  ·simp only[hj,if_false]at z;exact .inl (.inl ⟨j,z⟩)
end
def zml(τ:PSt)(i:Nat):Option (Kd×List T):=match τ[i]? with
 |some (some (.nd true k l))=>some (k,l)
 |_=>none
theorem zj6{τ:PSt}{i:Nat}{k:Kd}{l:List T}(h:zml τ i=some (k,l)):τ[i]?=some (some (.nd true k l)):=by
 unfold zml at h;split at h
 ·rename_i k' l' e;cases h;exact e
 ·cases h
def sApp(i:Nat)(m:PSt->Option Rs):PSt->Option Out:=fun τ=>match zml τ i with
 |some (kd,l)=>(match m τ with
  |some (.v t false)=>if l.length<lim then some (.nx (τ.set i (some (.nd true kd (l++[t]))))) else none
  |some (.v _ true)=>none
  |some (.x c)=>some (.xc c τ)
  |none=>none)
 |none=>none
def sExt(i:Nat)(m:PSt->Option Rs):PSt->Option Out:=fun τ=>match zml τ i with
 |some (kd,l)=>(match m τ with
  |some (.v (.nd _ .lst r) false)=>if l.length+r.length<=lim then some (.nx (τ.set i (some (.nd true kd (l++zae r))))) else none
  |some (.v _ _)=>none
  |some (.x c)=>some (.xc c τ)
  |none=>none)
 |none=>none
def sSto(i:Nat)(mk m:PSt->Option Rs):PSt->Option Out:=fun τ=>match m τ with
 |some (.v t false)=>(match zml τ i with
  |some (kd,l)=>(match mk τ with
   |some (.v (.int k) _)=>(match ixN l.length k with
    |some j=>some (.nx (τ.set i (some (.nd true kd (l.set j t)))))
    |none=>none)
   |some (.v _ _)=>none
   |some (.x c)=>some (.xc c τ)
   |none=>none)
  |none=>none)
 |some (.v _ true)=>none
 |some (.x c)=>some (.xc c τ)
 |none=>none
def ownKid:Option T->Option (List T)
 |some (.nd true .lst l)=>some l
 |_=>none
section
variable {mu:Bool}{X:Cx}{E:L2.St->XK}{ca:Str->Value}{σ:L2.St}{H:Hp}{K:PySem.W.Frag}{m mk mn:PSt->Option Rs}{D:Ends}{e k n:Expr}{pos apos cpos p1 pos2 pos3:Pos}{i:Nat}{x:Str}
theorem got_int{F:Hp}{R:Nat->Rg}{j:Int}{b:Bool}{y:V}{B:Rg}(g:Got K F H R (.int j) b y B):y=.int j:=by
 cases b with
 |true=>obtain⟨_,A,_,r⟩:=g;exact r.int_inv
 |false=>exact(show Rp K F H _ _ _ from g).int_inv
theorem snoc_tot'{l:List T}{Rr:Nat->Rg}{B:Rg}{a:Addr}(h:∃j,(fun j=>if j=l.length then B else Rr j) j a):(∃j,Rr j a)\/B a:=snoc_tot (l:=l) h
theorem set_tot{j0:Nat}{Rr:Nat->Rg}{B:Rg}{a:Addr}(h:∃j,(fun j=>if j=j0 then B else Rr j) j a):(∃j,Rr j a)\/B a:=by
 obtain⟨j,z⟩:=h
 by_cases hj:j=j0
 ·simp only[hj,if_true]at z;exact .inr z
 ·simp only[hj,if_false]at z;exact .inl ⟨j,z⟩
theorem s_app(hN:X.N[i]?=some x)(hv:Vis X.env.scope x)(hd:(x == ("__debug__":Str))=false)(hcd:(x == ("__classdict__":Str))=false)(he:PE X e (tM X.K E ca m))(hs:starEach [e] X.env=[(false,eval e X.env)])(hline:(apos.endLine == cpos.line)=true) :
  PS X (.Expr (.Call (.Attribute (.Name x p1) "append" apos) [e] [] cpos) pos) (tS X.K E ca mu (sApp i m)):=by
 refine PS.weak (ps_expr (pe_bm PySem.F.plainAttrs_list PySem.F.slot_list_append PySem.F.type_list_append mt_append (zl8 hN hv hd hcd) (zcc he zfs hs) rfl (by rw[hs];rfl) hline hs rfl) rfl) fun D σ H h=>?_
 obtain⟨F,τ,R,S,q⟩:=h;unfold sApp at q;cases ho:zml τ i with
 |none=>simp only[ho]at q
 |some kl =>
  obtain⟨kd,l⟩:=kl;simp only[ho]at q;have ht:=zj6 ho;obtain⟨y,ey,ry⟩:=S.rep i _ ht;obtain⟨p,xs,Rr,rfl,hA,fp,hp,ro,dp,hOw⟩:=ry.own_inv;refine⟨_,ey,.inl ⟨rfl,xs,SqL.of hp⟩,F,τ,R,S,?_⟩;cases hm:m τ with
  |none=>simp only[hm]at q
  |some r =>
   simp only[hm]at q;cases r with
   |x c=>exact fun F' H' e=>q F' H' σ R e.stp0 (S.ext e)
   |v t bb =>
    cases bb with
    |true=>exact q.elim
    |false =>
     intro F1 H1 y B e1 g1;have g1':Rp X.K F1 H1 t y B:=g1
     by_cases hz:l.length<lim
     ·simp only[hz,if_true]at q;have S1:=S.ext e1;have ro1:=ro.ext e1;have hp1:=e1.hh _ _ hp;have pB:¬ B p:=fun z=>by rw[e1.nb p z]at hp;cases hp
      have fp1:F1 p=none:=(ry.ext e1 |>.dom (by rw[hA];exact .inl rfl)).1
      refine⟨p,xs,y,rfl,rfl,hp1,by rw[<- ro.len,<- zdx];exact hz,?_⟩
      have ro2:RpO X.K F1 (upd H1 p (.lst (xs++[y]))) (l++[t]) (xs++[y]) _:=(ro1.upd dp).snoc (g1'.upd pB) fun j a z1 z2=>ro.apart e1 z2 j z1
      have dp2:∀j,¬ (if j=l.length then B else Rr j) p:=fun j z=>by
       by_cases hj:j=l.length
       ·simp only[hj,if_true]at z;exact pB z
       ·simp only[hj,if_false]at z;exact dp j z
      have r2:=own_mk hOw ro2 fp1 zau dp2
      obtain⟨S3,st3⟩:=S1.upd ht ey (by rw[hA];exact .inl rfl) r2 (B:=B) (fun a z=>by
       rw[hA]
       rcases z with z|z
       ·exact .inl (.inl z)
       ·rcases snoc_tot' z with w|w
        ·exact .inl (.inr w)
        ·exact .inr w) (fun j a z1 z2=>S.apart e1 z2 j z1)
      exact q F1 _ σ _ (e1.stp.trans st3) S3
     ·simp only[hz,if_false]at q
theorem s_ext(hN:X.N[i]?=some x)(hv:Vis X.env.scope x)(hd:(x == ("__debug__":Str))=false)(hcd:(x == ("__classdict__":Str))=false)(he:PE X e (tM X.K E ca m))(hs:starEach [e] X.env=[(false,eval e X.env)])(hline:(apos.endLine == cpos.line)=true) :
  PS X (.Expr (.Call (.Attribute (.Name x p1) "extend" apos) [e] [] cpos) pos) (tS X.K E ca mu (sExt i m)):=by
 refine PS.weak (ps_expr (pe_bm PySem.F.plainAttrs_list PySem.F.slot_list_extend PySem.F.type_list_extend mt_extend (zl8 hN hv hd hcd) (zcc he zfs hs) rfl (by rw[hs];rfl) hline hs rfl) rfl) fun D σ H h=>?_
 obtain⟨F,τ,R,S,q⟩:=h;unfold sExt at q;cases ho:zml τ i with
 |none=>simp only[ho]at q
 |some kl =>
  obtain⟨kd,l⟩:=kl;simp only[ho]at q;have ht:=zj6 ho;obtain⟨y,ey,ry⟩:=S.rep i _ ht;obtain⟨p,xs,Rr,rfl,hA,fp,hp,ro,dp,hOw⟩:=ry.own_inv;refine⟨_,ey,.inl ⟨rfl,xs,SqL.of hp⟩,F,τ,R,S,?_⟩;cases hm:m τ with
  |none=>simp only[hm]at q
  |some r =>
   simp only[hm]at q;cases r with
   |x c=>exact fun F' H' e=>q F' H' σ R e.stp0 (S.ext e)
   |v t bb =>
    cases t with
    |nd o kd2 r =>
     cases kd2 with
     |lst =>
      cases bb with
      |true=>exact q.elim
      |false =>
       intro F1 H1 y B e1 g1;obtain⟨F2,e2,_,r2⟩:=Got.frz (b:=false) S e1 g1;have r2':Rp X.K F2 F2 (T.nd o .lst r).share y R0:=r2;rw[T.share]at r2';obtain⟨p2,ys,rfl,_,nn,kid⟩:=zcd r2'
       by_cases hz:l.length+r.length<=lim
       ·simp only[hz,if_true]at q;have S1:=S.ext e2;have ro1:=ro.ext e2;have hp1:=e2.hh _ _ hp;have fp1:F2 p=none:=(ry.ext e2 |>.dom (by rw[hA];exact .inl rfl)).1
        have hn2:F2 p2=some (.lst ys):=nn;have lr:r.length=ys.length:=by have:=kid.1;rw[zat,ya0]at this;exact this
        refine⟨p,p2,xs,ys,rfl,rfl,hp1,e2.fh _ _ hn2,by rw[<- ro.len,<- lr,<- zdx];exact hz,?_⟩
        have app:∀(l2:List T) (ys2:List V),Rps X.K F2 l2 ys2->∀(l:List T) (xs:List V) (H0:Hp),RpO X.K F2 H0 l xs Rr->RpO X.K F2 H0 (l++l2) (xs++ys2) Rr:=by
         intro l2
         induction l2 with
         |nil=>intro ys2 hk l xs H0 hro;rw[hk.inv0,yba,yba];exact hro
         |cons t l2 ih =>
          intro ys2 hk l xs H0 hro;obtain⟨y,ys',rfl,r1,rs1⟩:=hk.inv;have h2:=hro.snoc (r1.any (H':=H0)) (fun _ _ _ z=>z)
          have e3:(fun j=>if j=l.length then R0 else Rr j)=Rr:=funext fun j=>by
           by_cases hj:j=l.length
           ·simp only[hj,if_true];exact funext fun a=>propext ⟨fun z=>z.elim,fun z=>absurd (hro.out _ a z) (yb3 _)⟩
           ·simp only[hj,if_false]
          rw[e3]at h2;have h3:=ih ys' rs1 (l++[t]) (xs++[y]) H0 h2
          simpa using h3
        have ro2:=app _ _ kid l xs _ (ro1.upd (o:=.lst (xs++ys)) dp);have r3:=own_mk hOw ro2 fp1 zau dp;obtain⟨S3,st3⟩:=S1.upd ht ey (by rw[hA];exact .inl rfl) r3 (B:=R0) (fun a z=>.inl (by rw[hA];exact z)) (fun j a z1 z2=>z2)
        exact q F2 _ σ _ ((e2.stp (O:=tot R)).trans st3) S3
       ·simp only[hz,if_false]at q
     |_=>exact q.elim
    |_=>exact q.elim
theorem s_sto(hN:X.N[i]?=some x)(hv:Vis X.env.scope x)(hd:(x == ("__debug__":Str))=false)(hcd:(x == ("__classdict__":Str))=false)(he:PE X e (tM X.K E ca m))(hk:PE X k (tM X.K E ca mk))(hs:swapsWithSole [.Subscript (.Name x p1) k pos2] e pos.line X.env=pure false)(hw:swappedStores [.Subscript (.Name x p1) k pos2] e X.env=pure none)
  (ha : ∀ v, assign (.Subscript (.Name x p1) k pos2) X.env v = (do
   let ov <- holding [v] (eval (.Name x p1) X.env);let iv <- holding [v,ov] (eval k X.env)
   standAt pos2
   holding [v,ov,iv] (setItem ov iv v)
   release [v,ov,iv] [])) :
  PS X (.Assign [.Subscript (.Name x p1) k pos2] e pos) (tS X.K E ca mu (sSto i mk m)):=by
 refine PS.weak (ps_asg he (pg_sub (zl8 hN hv hd hcd) hk set_list ha) hs hw rfl) fun D σ H h=>?_
 obtain⟨F,τ,R,S,q⟩:=h;refine⟨F,τ,R,S,?_⟩;unfold sSto at q;cases hm:m τ with
 |none=>simp only[hm]at q
 |some r =>
  simp only[hm]at q;cases r with
  |x c=>exact fun F' H' e=>q F' H' σ R e.stp0 (S.ext e)
  |v t bb =>
   cases bb with
   |true=>exact q.elim
   |false =>
    intro F1 H1 y B e1 g1;have g1':Rp X.K F1 H1 t y B:=g1;simp only at q;cases ho:zml τ i with
    |none=>simp only[ho]at q
    |some kl =>
     obtain⟨kd,l⟩:=kl;simp only[ho]at q;have S1:=S.ext e1;have ht:=zj6 ho;obtain⟨y2,ey,ry⟩:=S1.rep i _ ht;refine⟨y2,ey,F1,τ,R,S1,?_⟩;cases hkk:mk τ with
     |none=>simp only[hkk]at q
     |some r =>
      simp only[hkk]at q;cases r with
      |x c=>exact fun F' H' e=>q F' H' σ R ((e1.stp0).trans e.stp0) (S1.ext e)
      |v tk bk =>
       cases tk with
       |int kk =>
        simp only at q;cases hj:ixN l.length kk with
        |none=>simp only[hj]at q
        |some j =>
         simp only[hj]at q;intro F2 H2 z C e2 g2;have hz:=got_int g2;subst hz;have S2:=S1.ext e2;have ry2:=ry.ext e2;obtain⟨p,xs,Rr,rfl,hA,fp,hp,ro,dp,hOw⟩:=ry2.own_inv;have hjl:=(ixN_seq hj).2.1;have g2':=g1'.ext e2
         have pB:¬ B p:=fun z=>by
          have:R i p:=by rw[hA];exact .inl rfl
          exact S.apart e1 z i this
         refine⟨p,xs,kk,j,rfl,rfl,hp,by rw[<- ro.len];exact hj,?_⟩
         have ro2:RpO X.K F2 (upd H2 p (.lst (xs.set j y))) (l.set j t) (xs.set j y) _:=(ro.upd dp).set hjl (g2'.upd pB) fun j' a _ z1 z2=>S.apart e1 z2 i (by rw[hA];exact .inr ⟨j',z1⟩)
         have dp2:∀j',¬ (if j'=j then B else Rr j') p:=fun j' z=>by
          by_cases hj':j'=j
          ·simp only[hj',if_true]at z;exact pB z
          ·simp only[hj',if_false]at z;exact dp j' z
         have r3:=own_mk hOw ro2 fp zau dp2
         obtain⟨S3,st3⟩:=S2.upd ht ey (by rw[hA];exact .inl rfl) r3 (B:=B) (fun a z=>by
          rw[hA]
          rcases z with z|z
          ·exact .inl (.inl z)
          ·rcases set_tot z with w|w
           ·exact .inl (.inr w)
           ·exact .inr w) (fun j a z1 z2=>S.apart e1 z2 j z1)
         exact q F2 _ σ _ ((e1.stp.trans e2.stp0).trans st3) S3
       |_=>exact q.elim
end
section
variable {X:Cx}{E:L2.St->XK}{ca:Str->Value}{σ:L2.St}{H F:Hp}{K:PySem.W.Frag}{m mk:PSt->Option Rs}{ms:PSt->Option RsL}{D:Ends}{e:Expr}{es:List Expr}{pos apos cpos p1 p2:Pos}{i j:Nat}{x y:Str}{τ:PSt}{R:Nat->Rg}{mu:Bool}
theorem Rp.kind{k k':Kd}{l:List T}{p:Addr}{A:Rg}(h:Rp K F H (.nd true k l) (.ref p) A)(o:OwnK k' p):Rp K F H (.nd true k' l) (.ref p) A:=by
 obtain⟨p',xs,Rr,e,rfl,fp,hp,ro,dp,_⟩:=h.own_inv;cases e;exact own_mk o ro fp hp dp
theorem Rp.pin_at{q:Addr}{l:List T}{x:V}{A:Rg}(h:Rp K F H (.nd true (.pin q) l) x A):x=.ref q:=by
 obtain⟨p',xs,Rr,rfl,rfl,fp,hp,ro,dp,o⟩:=h.own_inv;have o':q=p':=o;rw[o']
def retAt(t:T)(τ:PSt):Option Out:=match τ[(0:Nat)]? with
 |some (some (.nd true (.pin q) l))=>some (.rt (.own [t,.nd true (.pin q) l]))
 |_=>none
theorem znb{t:T}{o:Out}(h:retAt t τ=some o):∃q l,τ[0]?=some (some (.nd true (.pin q) l))/\o=.rt (.own [t,.nd true (.pin q) l]):=by
 unfold retAt at h;split at h
 ·rename_i q l e;cases h;exact⟨q,l,e,rfl⟩
 ·cases h
theorem retAt_w{t:T}{q:Addr}{l:List T}{x:V}{F' H':Hp}(S:StR K F' H' σ τ R)(h:τ[0]?=some (some (.nd true (.pin q) l)))(hf:t.flat=true)(r:Rp K F' H' t x R0):Wr K true F' H' (.own [t,.nd true (.pin q) l]) x (R 0):=by
 obtain⟨y,_,ry⟩:=S.rep 0 _ h;have hy:=ry.pin_at;subst hy;exact⟨t,q,l,rfl,hf,r,ry⟩
def sRetM(m:PSt->Option Rs):PSt->Option Out:=fun τ=>match m τ with
 |some (.v t _)=>if t.flat then retAt t τ else none
 |some (.x c)=>some (.xc c τ)
 |none=>none
def sRetMN:PSt->Option Out:=fun τ=>retAt .non τ
theorem got_flat{F H:Hp}{t:T}{b:Bool}{x:V}{B:Rg}(g:Got K F H R t b x B)(hf:t.flat=true):Rp K F H t x R0:=by
 cases b with
 |true=>obtain⟨_,A,_,r⟩:=g;exact r.flat_any hf
 |false=>exact(show Rp K F H _ _ _ from g).flat_any hf
theorem s_retM(he:PE X e (tM X.K E ca m)):PS X (.Return (some e) pos) (tS X.K E ca true (sRetM m)):=by
 refine PS.weak (ps_ret he) fun D σ H h=>?_
 obtain⟨F,τ,R,S,q⟩:=h;refine⟨F,τ,R,S,?_⟩;unfold sRetM at q;cases hm:m τ with
 |none=>simp only[hm]at q
 |some r =>
  simp only[hm]at q;cases r with
  |x c=>exact fun F' H' e=>q F' H' σ R e.stp0 (S.ext e)
  |v t bb =>
   intro F' H' x B e g;simp only at q;cases hf:t.flat with
   |false=>rw[hf]at q;exact False.elim q
   |true =>
    rw[hf,if_pos rfl]at q;cases ho:retAt t τ with
    |none=>rw[ho]at q;exact q.elim
    |some o =>
     rw[ho]at q;obtain⟨p,l,h0,rfl⟩:=znb ho;exact q F' H' x (R 0) (e.stp0.mono fun a z=>⟨0,z⟩) (retAt_w (S.ext e) h0 hf (got_flat g hf))
theorem s_retMN:PS X (.Return none pos) (tS X.K E ca true sRetMN):=PS.weak ps_retN fun D σ H h=>by
 obtain⟨F,τ,R,S,q⟩:=h;unfold sRetMN at q;cases ho:retAt .non τ with
 |none=>simp only[ho]at q
 |some o =>
  simp only[ho]at q;obtain⟨p,l,h0,rfl⟩:=znb ho;exact q F H .non (R 0) ((Stp.refl S.fh).mono fun a z=>⟨0,z⟩) (retAt_w S h0 rfl .non)
inductive Mo where
 |ok (v:T) (τ:PSt)|exc (c:Str) (τ:PSt)
def gAll(g:List T->Option Ru)(l ts:List T)(r:T×List T):Prop:=∀p,g (.nd true (.pin p) l::ts)=some (.ok (.own [r.1,.nd true (.pin p) r.2]))
open Classical in
noncomputable def gMu(g:List T->Option Ru)(l ts:List T):Option (T×List T):=if h:∃r,gAll g l ts r then some h.choose else none
noncomputable def mMut(i:Nat)(g:List T->Option Ru)(ms:PSt->Option RsL):PSt->Option Mo:=fun τ=>match zml τ i with
 |some (kd,l)=>(match ms τ with
  |some (.v ts false)=>(match gMu g l ts with
   |some (v,l')=>if v.flat then some (.ok v (τ.set i (some (.nd true kd l')))) else none
   |none=>none)
  |some (.v _ true)=>none
  |some (.x c)=>some (.exc c τ)
  |none=>none)
 |none=>none
def spM(K:PySem.W.Frag)(ca:Str->Value)(g:List T->Option Ru):Sp:=fun vs H Q E=>∃F p l ts A vs',zbe F H/\vs=.ref p::vs'/\Rp K F H (.nd true (.pin p) l) (.ref p) A/\Rps K F ts vs'/\match g (.nd true (.pin p) l::ts) with
 |some (.ok t)=>∀F' H' x B,Stp F H A F' H' B->Wr K true F' H' t x B->Q x H'
 |some (.exc c)=>∀F' H',Stp F H A F' H' R0->E (ca c) none H'
 |none=>False
variable {mm:PSt->Option Mo}
end
end Pu
set_option Elab.async false
set_option linter.all false
set_option maxRecDepth 100000
namespace Pu
open PySem PySem.Spec PyProof.Rows L2 Zw Zx
section
variable {X:Cx}{pins:List (Addr×Obj)}{σ:L2.St}{H:Hp}{s:Shared}{a:Addr}{kvs:List (Key×V)}
end
section
variable {X:Cx}
def tDicO:TE:=fun _ H Q=>∀p,H p=none->Q (.ref p) (upd H p (.dK []))
theorem pe_dicO{pos:Pos}:PE X (.Dict [] [] pos) tDicO:=fun pins s σ H Q I h=>by
 refine wpAny_Dict_empty ⟨.ref s.heap.objs.size,_,I.laid (a:=s.heap.objs.size) (o:=.dK []) (t':=s.toks) (fun _ _ q=>yac _ q) (yad _) (dk_empty s.heap I.big),rfl,h _ (I.hok.fresh (yad _))⟩
end
section
variable {X:Cx}{E:L2.St->XK}{ca:Str->Value}{m mk mv:PSt->Option Rs}{e k:Expr}{pos p1 pos2:Pos}{mu:Bool}
end
section
variable {X:Cx}{E:L2.St->XK}{ca:Str->Value}{m mk:PSt->Option Rs}{e k:Expr}{pos p1 pos2:Pos}{mu:Bool}{i:Nat}{x:Str}
end
end Pu
set_option Elab.async false
set_option linter.all false
set_option maxRecDepth 100000
namespace Pu
open PySem PySem.Spec PyProof.Rows L2 Zw Zx
theorem StR.frz{K:PySem.W.Frag}{F H:Hp}{σ:L2.St}{τ:PSt}{R:Nat->Rg}{i:Nat}{t:T}(S:StR K F H σ τ R)(ht:τ[i]?=some (some t)):StR K (Pu.frz F H (R i)) H σ (τ.set i (some t.share)) (fun j=>if j=i then R0 else R j):=by
 obtain⟨x,ex,r⟩:=S.rep i t ht;have hi:i<τ.length:=(ya4.mp ht).1;have n:∀a,R i a->F a=none:=fun a z=>(r.dom z).1
 refine⟨znj S.fh,by simpa using S.len,fun j t' e=>?_,fun j a z=>?_,fun j k a hjk z1 z2=>?_⟩
 ·by_cases hj:j=i
  ·subst hj;rw[yas hi]at e;cases e;exact⟨x,ex,by simpa using r.share (zgl n) fun a u z q=>by rw[zjr z];exact q⟩
  ·rw[yat (yb8 hj)]at e;obtain⟨y,e1,r1⟩:=S.rep j t' e;refine⟨y,e1,?_⟩;simp only[hj,if_false]
   exact r1.frame (zgl n) fun a z=>⟨rfl,by
    rw[zfk (fun z'=>S.dis j i a hj z z')]
    exact(r1.dom z).1⟩
 ·by_cases hj:j=i
  ·simp only[hj,if_true]at z;exact z.elim
  ·simp only[hj,if_false]at z;obtain⟨t',e⟩:=S.out j a z;exact⟨t',by rw[yat (yb8 hj)];exact e⟩
 ·by_cases hj:j=i
  ·simp only[hj,if_true]at z1;exact z1.elim
  ·by_cases hk:k=i
   ·simp only[hk,if_true]at z2;exact z2.elim
   ·simp only[hj,if_false]at z1;simp only[hk,if_false]at z2;exact S.dis j k a hjk z1 z2
section
variable {X:Cx}{E:L2.St->XK}{ca:Str->Value}{σ:L2.St}{H:Hp}{K:PySem.W.Frag}{u w:PSt->Option Out}{D:Ends}
end
end Pu
set_option Elab.async false
set_option linter.all false
set_option maxRecDepth 100000
namespace Pu
open PySem PySem.Spec PyProof.Rows L2 Zw Zx
theorem zng{fs:List Str}{xs:List V}{f:Str}:∀{j:Nat} {x:V},fs.findIdx? (· == f)=some j->xs[j]?=some x->(fs.zip xs).lookup f=some x:=by
 induction fs generalizing xs with
 |nil=>intro j x h;simp at h
 |cons g r ih =>
  intro j x h hx;rw[ye3]at h;cases xs with
  |nil=>simp at hx
  |cons y ys =>
   rw[yd5,yaz]
   by_cases hg:g=f
   ·subst hg;simp only[beq_self_eq_true,if_true,ydf]at h;subst h;simp at hx;rw[beq_self_eq_true,hx]
   ·have h1:(g == f)=false:=beq_eq_false_iff_ne.mpr hg;have h2:(f == g)=false:=beq_eq_false_iff_ne.mpr (yb8 hg);rw[h1]at h;simp only[yck,if_false,ya2]at h;obtain⟨j',h3,rfl⟩:=h;rw[h2];exact ih h3 (by simpa using hx)
theorem zle{fs:List Str}{xs:List V}{f:Str}(h:fs.contains f=false):(fs.zip xs).lookup f=none:=by
 induction fs generalizing xs with
 |nil=>rfl
 |cons g r ih =>
  cases xs with
  |nil=>rfl
  |cons y ys =>
   rw[List.contains_cons,ybp]at h;rw[yd5,yaz,h.1];exact ih h.2
theorem Rp.obj_inv{K:PySem.W.Frag}{F H:Hp}{k:Ob}{l:List T}{x:V}{A:Rg}(h:Rp K F H (.obj k l) x A):∃p xs,x=.ref p/\A=R0/\ObS F k p xs/\l.length=xs.length/\∀(i:Nat) (t:T) (x:V),l[i]?=some t->xs[i]?=some x->Rp K F H t x R0:=by
 cases h with
 |obj h e c=>exact⟨_,_,rfl,rfl,h,e,c⟩
def zmm(C:Addr)(fs:List Str):T->Option (List T)
 |.obj (.ins C' fs') l=>if C'=C/\fs'=fs then some l else none
 |_=>none
theorem insT_some{C:Addr}{fs:List Str}{t:T}{l:List T}(h:zmm C fs t=some l):t=.obj (.ins C fs) l:=by
 unfold zmm at h;split at h
 ·split at h
  ·rename_i hc;cases h;rw[hc.1,hc.2]
  ·cases h
 ·cases h
def zie(C:Addr)(fs:List Str)(j:Nat)(m:PSt->Option Rs):PSt->Option Rs:=fun τ=>match m τ with
 |some (.v t b)=>(match zmm C fs t with
  |some l=>(match l[j]? with
   |some u=>some (.v u (b && !u.sh))
   |none=>none)
  |none=>none)
 |some (.x c)=>some (.x c)
 |none=>none
def zfi(C:Addr)(fs:List Str)(g:List T->Option Ru)(m:PSt->Option Rs)(ms:PSt->Option RsL):PSt->Option Rs:=fun τ=>match m τ with
 |some (.v t _)=>(match zmm C fs t with
  |some _=>(match ms τ with
   |some (.v ts b)=>(match g (t.share::ts) with
    |some (.ok v)=>fin b v
    |some (.exc c)=>some (.x c)
    |none=>none)
   |some (.x c)=>some (.x c)
   |none=>none)
  |none=>none)
 |some (.x c)=>some (.x c)
 |none=>none
def zjd(m n:PSt->Option Rs):PSt->Option Rs:=fun τ=>match m τ with
 |some r=>some r
 |none=>n τ
section
variable {X:Cx}{E:L2.St->XK}{ca:Str->Value}{m n:PSt->Option Rs}{ms:PSt->Option RsL}{e o:Expr}{es:List Expr}{pos p apos:Pos}{C:Addr}{fs:List Str}{f:Str}{j:Nat}
theorem r_alt(h1:PE X e (tM X.K E ca m))(h2:PE X e (tM X.K E ca n)):PE X e (tM X.K E ca (zjd m n)):=fun pins s σ H Q I h=>by
 obtain⟨F,τ,R,S,q⟩:=h;unfold zjd at q;cases hm:m τ with
 |none =>
  rw[hm]at q;exact h2 pins s σ H Q I ⟨F,τ,R,S,q⟩
 |some r =>
  rw[hm]at q;exact h1 pins s σ H Q I ⟨F,τ,R,S,by rw[hm];exact q⟩
theorem got_obj{K:PySem.W.Frag}{F H:Hp}{R:Nat->Rg}{k:Ob}{l:List T}{b:Bool}{x:V}{B:Rg}(g:Got K F H R (.obj k l) b x B):Rp K F H (.obj k l) x R0/\B=R0:=by
 cases b with
 |true =>
  obtain⟨hB,A,_,r⟩:=g;obtain⟨p,xs,rfl,hA,_⟩:=r.obj_inv;exact⟨hA▸r,hB⟩
 |false =>
  have r:Rp K F H (.obj k l) x B:=g;obtain⟨p,xs,rfl,hA,_⟩:=r.obj_inv;exact⟨hA▸r,hA⟩
theorem r_fld(c:Cls X.K C)(hn:zbj X.K C f)(hj:fs.findIdx? (· == f)=some j)(ho:PE X o (tM X.K E ca m))(hb:attributeBase o f X.env (eval o X.env)=eval o X.env):PE X (.Attribute o f pos) (tM X.K E ca (zie C fs j m)):=by
 refine PE.weak (pe_fld ho hb) fun σ H Q h=>?_
 obtain⟨F,τ,R,S,q⟩:=h;refine⟨F,τ,R,S,?_⟩;unfold zie at q;cases hm:m τ with
 |none=>simp only[hm]at q
 |some r =>
  simp only[hm]at q;cases r with
  |x c=>exact q
  |v t b =>
   intro F1 H1 x B e1 g1;cases hi:zmm C fs t with
   |none=>simp only[hi]at q
   |some l =>
    simp only[hi]at q;have ht:=insT_some hi;subst ht;cases hu:l[j]? with
    |none=>simp only[hu]at q
    |some u =>
     simp only[hu]at q;obtain⟨r1,hB⟩:=got_obj g1;subst hB;obtain⟨a,xs,rfl,_,⟨dx,hF⟩,el,cc⟩:=r1.obj_inv;have hjl:=(ya4.mp hu).1;have hx:xs[j]?=some xs[j]:=ya1 (by omega)
     have hc:=cc j u _ hu hx;refine⟨a,_,dx,_,xs[j],rfl,e1.fh _ _ hF,c,hn,zng hj hx,?_⟩;refine q F1 H1 _ R0 e1 ?_;cases b with
     |false=>exact hc
     |true =>
      cases hs:u.sh with
      |true=>exact hc
      |false=>exact⟨rfl,R0,fun _ z=>z.elim,hc⟩
structure MetX(P:Program)(w:World)(K:PySem.W.Frag)(mg:Str->Option Value)(base:Heap)(C:Addr)(m:Str)(k:Nat)(ps:List Str)(sp:Sp) where
 f:Addr
 fd:FuncData
 c:Cls K C
 me:Meth K C m f
 ok:FnOk P w K mg base (CX1 P w) k f fd ps sp
 b:zgy K fd ps []
def tMethX(C:Addr)(m:Str)(sp:Sp)(E:L2.St->XK)(ta:TE)(t:TA):TE:=fun σ H Q=>ta σ H fun x H1=>∃a dx fs,x=.ref a/\H1 a=some (.ins C dx fs)/\fs.lookup m=none /\
 t σ H1 fun vs H2=>sp (x::vs) H2 Q (E σ)
theorem pmx{k j:Nat}{ps:List Str}{sp:Sp}{ta:TE}{t:TA}{pl:Sem Bool}(D:MetX X.prog X.w X.K X.mg X.base C f k ps sp)(hr:Room j X.A)(hx:zbk X E)(he:PE X o ta)(ha:PA X (e::es) t)(hk:k<=j)
  (hst:starEach (e::es) X.env=(false,eval e X.env)::starEach es X.env) (hpl:(backTo pos (starEach es X.env)).any (·.1)=false)
  (ht : eval (.Call (.Attribute o f apos) (e :: es) [] pos) X.env = (do
   let ov <- eval o X.env
   standAt apos.atName
   let (f,first) <- holding [ov] (getMethod ov f pl)
   callWith pos f first (backTo pos (starEach (e::es) X.env)) (backToKw pos (keywordEach [] X.env)))):PE X (.Call (.Attribute o f apos) (e::es) [] pos) (tMethX C f sp E ta t):=by
 intro pins s σ H Q I h;refine PySem.W.methodCall_KW (pl:=pl) (thn (he pins s σ H _ I h) fun u s1 ⟨x,H1,I1,rx,a,dx,fs,ex,ea,l,q⟩=>?_) ht
 subst ex;obtain rfl:u=Value.ref a:=rx;refine zni I1 ea D.c D.me l ?_;refine yd3 (first:=[.ref a]) (h₀:=X.base) I.ok.mod.kin D.me.kp (thn (ha pos pins s1 σ H1 _ I1 q) fun us s2 ⟨vs,H2,I2,r,q2⟩=>⟨I2.kIn,?_⟩) hst hpl
 exact run_fnX (us:=.ref a::us) (vs:=.ref a::vs) (dvs:=[]) D.ok (hr.mono hk) D.b .nil hx I2 (.cons rfl r) (by rw[yba];exact q2)
theorem pmx0{k j:Nat}{ps:List Str}{sp:Sp}{ta:TE}{pl:Sem Bool}(D:MetX X.prog X.w X.K X.mg X.base C f k ps sp)(hr:Room j X.A)(hx:zbk X E)(he:PE X o ta)(hk:k<=j)
  (ht : eval (.Call (.Attribute o f apos) [] [] pos) X.env = (do
   let ov <- eval o X.env
   standAt apos.atName
   let (f,first) <- holding [ov] (getMethod ov f pl)
   callWith pos f first (backTo pos (starEach [] X.env)) (backToKw pos (keywordEach [] X.env)))):PE X (.Call (.Attribute o f apos) [] [] pos) (tMethX C f sp E ta tNil):=by
 intro pins s σ H Q I h;refine PySem.W.methodCall_KW (pl:=pl) (thn (he pins s σ H _ I h) fun u s1 ⟨x,H1,I1,rx,a,dx,fs,ex,ea,l,q⟩=>?_) ht
 subst ex;obtain rfl:u=Value.ref a:=rx;refine zni I1 ea D.c D.me l ?_;exact PySem.W.callWith_K0 (first:=[.ref a]) I1.kIn D.me.kp (run_fnX (us:=[.ref a]) (vs:=[.ref a]) (dvs:=[]) D.ok (hr.mono hk) D.b .nil hx I1 (.cons rfl .nil) q)
theorem tM_meth{g:List T->Option Ru}{σ:L2.St}{H:Hp}{Q:VK}(hf:fs.contains f=false)(h:tM X.K E ca (zfi C fs g m ms) σ H Q):tMethX C f (spP X.K ca g) E (tM X.K E ca m) (tMs X.K E ca ms) σ H Q:=by
 obtain⟨F,τ,R,S,q⟩:=h;refine⟨F,τ,R,S,?_⟩;unfold zfi at q;cases hm:m τ with
 |none=>simp only[hm]at q
 |some r =>
  simp only[hm]at q;cases r with
  |x c=>exact q
  |v t b =>
   intro F1 H1 x B e1 g1;cases hi:zmm C fs t with
   |none=>simp only[hi]at q
   |some l =>
    simp only[hi]at q;have ht:=insT_some hi;subst ht;obtain⟨r1,hB⟩:=got_obj g1;subst hB;have S1:=S.ext e1;obtain⟨a,xs,rfl,_,⟨dx,hF⟩,el,cc⟩:=r1.obj_inv;refine⟨a,dx,_,rfl,e1.fh _ _ hF,zle hf,F1,τ,R,S1,?_⟩;cases hs:ms τ with
    |none=>simp only[hs]at q
    |some r =>
     simp only[hs]at q;cases r with
     |x c=>exact fun F' H' e=>q F' H' (e1.trans0 e)
     |v ts b' =>
      intro F2 H2 vs e2 rs;have S2:=S1.ext e2;simp only at q;have r2:Rp X.K (Gz b' F2 H2 R) H2 (T.obj (.ins C fs) l).share (.ref a) R0:=(r1.ext e2).share (gz_ff S2) fun _ _ z=>z.elim
      refine⟨Gz b' F2 H2 R,_,gz_fh S2,.cons r2 rs,?_⟩;have e12:=e1.trans0 e2;cases hg:g ((T.obj (.ins C fs) l).share::ts) with
      |none=>simp only[hg]at q
      |some r =>
       simp only[hg]at q;cases r with
       |exc c=>exact fun F' H' e3=>q F2 H' (e12.grow e3.hh)
       |ok v =>
        intro F3 H3 z C3 e3 r3;simp only at q;unfold fin at q;cases b' with
        |false=>exact q F3 H3 z C3 (e12.trans0 e3) r3
        |true =>
         cases hf:v.flat with
         |false=>rw[hf]at q;exact False.elim q
         |true=>rw[hf]at q;exact q F2 H3 z R0 (e12.grow e3.hh) (r3.flat_any hf)
theorem r_meth{k j:Nat}{ps:List Str}{g:List T->Option Ru}{pl:Sem Bool}(D:MetX X.prog X.w X.K X.mg X.base C f k ps (spP X.K ca g))(hf:fs.contains f=false)(hr:Room j X.A)(hx:zbk X E)(he:PE X o (tM X.K E ca m))(ha:PA X (e::es) (tMs X.K E ca ms))(hk:k<=j)
  (hst:starEach (e::es) X.env=(false,eval e X.env)::starEach es X.env) (hpl:(backTo pos (starEach es X.env)).any (·.1)=false)
  (ht : eval (.Call (.Attribute o f apos) (e :: es) [] pos) X.env = (do
   let ov <- eval o X.env
   standAt apos.atName
   let (f,first) <- holding [ov] (getMethod ov f pl)
   callWith pos f first (backTo pos (starEach (e::es) X.env)) (backToKw pos (keywordEach [] X.env)))):PE X (.Call (.Attribute o f apos) (e::es) [] pos) (tM X.K E ca (zfi C fs g m ms)) :=
 PE.weak (pmx D hr hx he ha hk hst hpl ht) fun σ H Q h=>tM_meth hf h
structure NewX(P:Program)(w:World)(K:PySem.W.Frag)(mg:Str->Option Value)(base:Heap)(x:Str)(C:Addr)(k:Nat)(ps:List Str)(sp:Sp) where
 f:Addr
 fd:FuncData
 m:mg x=some (.ref C)
 ma:Mk K C f
 ok:FnOk P w K mg base (CX1 P w) k f fd ps sp
def tMakeX(C:Addr)(sp:Sp)(dvs:List V)(E:L2.St->XK)(t:TA):TE:=fun σ H Q=>t σ H fun vs H1=>∀x dx,H1 x=none->H1 dx=none->dx≠x ->
 sp (.ref x::(vs++dvs)) (upd (upd H1 dx (.own x)) x (.ins C dx [])) (fun v H2=>v=.non/\Q (.ref x) H2) (E σ)
theorem pnx{k j:Nat}{x:Str}{ps:List Str}{sp:Sp}{t:TA}{dvs:List V}{ds:List Value}(D:NewX X.prog X.w X.K X.mg X.base x C k ps sp)(hb:zgy X.K D.fd ps ds)(hd:zb9 dvs ds)(hr:Room j X.A)(hx:zbk X E)(ha:PA X (e::es) t)(hk:k+1<=j)(hg:Gl X x)(hdb:(x == ("__debug__":Str))=false)
  (he:starEach (e::es) X.env=(false,eval e X.env)::starEach es X.env) (hpl:(backTo pos (starEach es X.env)).any (·.1)=false):PE X (.Call (.Name x p) (e::es) [] pos) (tMakeX C sp dvs E t):=by
 intro pins s σ H Q I h;refine wpAny_Call_Name_kw (zli I hg D.m ?_ hdb);refine yd3 (h₀:=X.base) I.ok.mod.kin D.ma.kp (thn (ha pos pins s σ H _ I h) fun us s1 ⟨vs,H1,I1,r,q⟩=>⟨I1.kIn,?_⟩) he hpl
 have hq:=q (s1.heap.objs.size+1) s1.heap.objs.size (I1.hok.fresh (yc5 _)) (I1.hok.fresh (yad _)) (yau (yc3 _));have I2:=Inv.made (C:=C) I1;have r2:zb9 (V.ref (s1.heap.objs.size+1)::(vs++dvs)) (Value.ref (s1.heap.objs.size+1)::(us++ds)):=.cons rfl (r.append hd)
 have hl:(Value.ref (s1.heap.objs.size+1)::us++ds).length=ps.length:=by
  have e:=r2.length;rw[D.ok.len _ _ _ _ hq]at e;exact e.symm
 refine wpAny_call (make_map (f:=D.f) I1.kIn D.ma.makes D.ma.init (beq_iff_eq.mp D.ma.fn) (codeAny_mono (D.ok.run _ X.stack _ _ ⟨Value.ref (s1.heap.objs.size+1)::us,[]⟩ (Value.ref (s1.heap.objs.size+1)::(us++ds)) _ _ (E σ) ((hr.mono hk).make C us [])
  (I2.env0.make C us []) (hb _ (Value.ref (s1.heap.objs.size+1)::us) I2.kIn hl) r2 hq) fun r s' hq'=>?_))
 cases r with
 |error v=>exact hx pins σ _ _ v s' I2 hq'
 |ok fl =>
  cases fl with
  |ret u =>
   obtain⟨v,H',I3,rv,ev,q3⟩:=I2.after hq';subst ev;exact⟨rv,⟨V.ref (s1.heap.objs.size+1),H',I3,rfl,q3⟩⟩
  |next=>exact False.elim hq'
  |brk=>exact False.elim hq'
  |cont=>exact False.elim hq'
def spN(K:PySem.W.Frag)(ca:Str->Value)(C:Addr)(g:List T->Option Ru):Sp:=fun vs H Q E=>∃F p dx ts vs',zbe F H/\vs=.ref p::vs'/\F p=none/\H p=some (.ins C dx [])/\Rps K F ts vs'/\match g ts with
 |some (.ok t)=>∀F' H',Stp F H (fun a=>a=p) F' H' R0->Rp K F' H' t (.ref p) R0->Q .non H'
 |some (.exc c)=>∀F' H',Stp F H (fun a=>a=p) F' H' R0->E (ca c) none H'
 |none=>False
def mNew(g:List T->Option Ru)(ds:List T)(ms:PSt->Option RsL):PSt->Option Rs:=fun τ=>match ms τ with
 |some (.v ts false)=>(match g (ts++ds) with
  |some (.ok t)=>some (.v t false)
  |some (.exc c)=>some (.x c)
  |none=>none)
 |some (.v _ true)=>none
 |some (.x c)=>some (.x c)
 |none=>none
theorem r_new{k j:Nat}{x:Str}{ps:List Str}{g:List T->Option Ru}{dvs:List V}{dts:List T}{ds:List Value}(D:NewX X.prog X.w X.K X.mg X.base x C k ps (spN X.K ca C g))(hb:zgy X.K D.fd ps ds)(hd:zb9 dvs ds)(hdt:∀F:Hp,Rps X.K F dts dvs)(hr:Room j X.A)(hx:zbk X E)(ha:PA X (e::es) (tMs X.K E ca ms))(hk:k+1<=j)(hg:Gl X x)(hdb:(x == ("__debug__":Str))=false)
  (he:starEach (e::es) X.env=(false,eval e X.env)::starEach es X.env) (hpl:(backTo pos (starEach es X.env)).any (·.1)=false):PE X (.Call (.Name x p) (e::es) [] pos) (tM X.K E ca (mNew g dts ms)):=by
 refine PE.weak (pnx D hb hd hr hx ha hk hg hdb he hpl) fun σ H Q h=>?_
 obtain⟨F,τ,R,S,q⟩:=h;refine⟨F,τ,R,S,?_⟩;unfold mNew at q;cases hs:ms τ with
 |none=>simp only[hs]at q
 |some r =>
  simp only[hs]at q;cases r with
  |x c=>exact q
  |v ts b =>
   cases b with
   |true=>exact fun F1 H1 xs e1 rs=>q.elim
   |false =>
    intro F1 H1 xs e1 rs a dx ha hdx hne;simp only at q;have rs':Rps X.K F1 ts xs:=rs
    have key:∀F' H',Stp F1 (upd (upd H1 dx (.own a)) a (.ins C dx [])) (fun b=>b=a) F' H' R0->Ext F H F' H' R0:=fun F' H' st=>by
     refine e1.trans0 ⟨fun b u z=>?_,st.ff,st.fh,fun _ z=>z.elim,fun b u z=>?_⟩
     ·have h1:b≠a:=zah z ha;have h2:b≠dx:=zah z hdx;exact st.kp b u h1 (by rw[zaj h1,zaj h2];exact z)
     ·rcases st.nf b u z with w|w|w
      ·exact .inl w
      ·rw[w];exact .inr ha
      ·by_cases h1:b=a
       ·rw[h1];exact .inr ha
       ·by_cases h2:b=dx
        ·rw[h2];exact .inr hdx
        ·rw[zaj h1,zaj h2]at w;exact .inr w
    have fh2:zbe F1 (upd (upd H1 dx (.own a)) a (.ins C dx [])):=fun b u z=>by
     have z':=e1.fh b u z;rw[zaj (zah z' ha),zaj (zah z' hdx)];exact z'
    refine⟨F1,a,dx,ts++dts,xs++dvs,fh2,rfl,zbl e1.fh ha,zau,zh5 rs' (hdt F1),?_⟩;cases hg:g (ts++dts) with
    |none=>simp only[hg]at q
    |some r =>
     simp only[hg]at q;cases r with
     |exc c=>exact fun F' H' st=>q F' H' (key F' H' st)
     |ok t=>exact fun F' H' st r=>⟨rfl,q F' H' _ R0 (key F' H' st) r⟩
end
end Pu
set_option Elab.async false
set_option linter.all false
set_option maxRecDepth 100000
namespace Pu
open PySem PySem.Spec PyProof.Rows L2 Zw Zx
def oobAt(τ:PSt)(i:Nat)(C:Addr)(fs:List Str):Option (Addr×List T):=match τ[i]? with
 |some (some (.oob p C' fs' l))=>if C'=C/\fs'=fs then some (p,l) else none
 |_=>none
theorem zj7{τ:PSt}{i:Nat}{C:Addr}{fs:List Str}{p:Addr}{l:List T}(h:oobAt τ i C fs=some (p,l)):τ[i]?=some (some (.oob p C fs l)):=by
 unfold oobAt at h;split at h
 ·rename_i q;split at h
  ·rename_i hc;cases h;rw[q,hc.1,hc.2]
  ·cases h
 ·cases h
def zj5(C:Addr)(fs:List Str)(j i:Nat)(m:PSt->Option Rs):PSt->Option Out:=fun τ=>match m τ with
 |some (.v t false)=>(match oobAt τ i C fs with
  |some (p,l)=>if l.length=j then some (.nx (τ.set i (some (.oob p C fs (l++[t]))))) else none
  |none=>none)
 |some (.v _ true)=>none
 |some (.x c)=>some (.xc c τ)
 |none=>none
def osdAt:Option T->Option (List Str×List T)
 |some (.osd ks l)=>some (ks,l)
 |_=>none
theorem osdAt_some{o:Option T}{ks:List Str}{l:List T}(h:osdAt o=some (ks,l)):o=some (.osd ks l):=by
 unfold osdAt at h;split at h
 ·cases h;rfl
 ·cases h
open Classical in
noncomputable def sDpf(C:Addr)(fs:List Str)(j i:Nat)(mk m:PSt->Option Rs):PSt->Option Out:=fun τ=>match m τ with
 |some (.v t false)=>(match oobAt τ i C fs with
  |some (p,l)=>(match osdAt l[j]? with
   |some (ks,lv)=>(match mk τ with
    |some (.v (.str k) _)=>if k∉ks/\ks.length<100000 then some (.nx (τ.set i (some (.oob p C fs (l.set j (.osd (ks++[k]) (lv++[t.share]))))))) else none
    |some (.v _ _)=>none
    |some (.x c)=>some (.xc c τ)
    |none=>none)
   |none=>none)
  |none=>none)
 |some (.v _ true)=>none
 |some (.x c)=>some (.xc c τ)
 |none=>none
def mDicS:PSt->Option Rs:=fun _=>some (.v (.osd [] []) false)
theorem putF_zip{f:Str}{y:V}:∀{fs:List Str} {xs:List V},fs[xs.length]?=some f->(fs.take xs.length).contains f=false->putF f y (fs.zip xs)=fs.zip (xs++[y])
 |[],xs,h,_=>by simp at h
 |g::r,[],h,_=>by
  simp at h;subst h;simp[putF]
 |g::r,x::xs,h,hn=>by
  rw[ya8,List.take_succ_cons,List.contains_cons,ybp]at hn
  have hg:¬ g=f:=fun z=>by
   have:=hn.1;rw[z,beq_self_eq_true]at this;cases this
  have ih:=putF_zip (f:=f) (y:=y) (fs:=r) (xs:=xs) (by simpa using h) hn.2
  rw[yd5,ycd,yd5,<- ih];show(if g=f then _ else _)=_
  rw[if_neg hg]
section
variable {K:PySem.W.Frag}{F H:Hp}{C:Addr}{fs:List Str}{l:List T}
theorem Rp.oob_inv{p:Addr}{x:V}{A:Rg}(h:Rp K F H (.oob p C fs l) x A):∃dx xs Rr,x=.ref p/\A=(fun a=>a=p\/∃j,Rr j a)/\F p=none/\H p=some (.ins C dx (fs.zip xs))/\RpO K F H l xs Rr/\∀j,¬ Rr j p:=by
 cases h with
 |oob R f h e c d dp o=>exact⟨_,_,R,rfl,rfl,f,h,⟨e,c,d,o⟩,dp⟩
theorem oob_mk{p dx:Addr}{xs:List V}{Rr:Nat->Rg}(r:RpO K F H l xs Rr)(f:F p=none)(h:H p=some (.ins C dx (fs.zip xs)))(dp:∀j,¬ Rr j p):Rp K F H (.oob p C fs l) (.ref p) (fun a=>a=p\/∃j,Rr j a):=.oob Rr f h r.len r.rep r.dis dp r.out
theorem Rp.osd_inv{ks:List Str}{x:V}{A:Rg}(h:Rp K F H (.osd ks l) x A):∃p xs,x=.ref p/\A=(fun a=>a=p)/\F p=none/\H p=some (.dK (kvS ks xs))/\l.length=xs.length/\ks.length=xs.length/\∀(i:Nat) (t:T) (x:V),l[i]?=some t->xs[i]?=some x->Rp K F H t x R0:=by
 cases h with
 |osd f h e ek c=>exact⟨_,_,rfl,rfl,f,h,e,ek,c⟩
end
theorem kvS_len{ks:List Str}{xs:List V}(h:ks.length=xs.length):(kvS ks xs).length=xs.length:=by
 unfold kvS;rw[List.length_zipWith,h,Nat.min_self]
theorem kvS_key{ks:List Str}{xs:List V}{kv:Key×V}(h:kv∈kvS ks xs):∃k∈ks,kv.1=Sum.inr k:=by
 induction ks generalizing xs with
 |nil=>cases xs<;>cases h
 |cons a r ih =>
  cases xs with
  |nil=>cases h
  |cons b s =>
   unfold kvS at h;rw[List.zipWith_cons_cons]at h
   rcases ya7.mp h with e|e
   ·exact⟨a,yab ..,by rw[e]⟩
   ·obtain⟨k,hk,e⟩:=ih (xs:=s) e;exact⟨k,ya9 _ hk,e⟩
theorem putS_new{ks:List Str}{xs:List V}{k:Str}{y:V}(h:ks.length=xs.length)(hk:k∉ks):putK (kvS ks xs) (Sum.inr k) y=kvS (ks++[k]) (xs++[y]):=by
 unfold putK;rw[if_neg]
 ·unfold kvS;rw[List.zipWith_append h]
  rfl
 ·intro c;obtain⟨kv,h1,h2⟩:=List.any_eq_true.mp c;obtain⟨k',h3,h4⟩:=kvS_key h1;have:=of_decide_eq_true h2;rw[h4]at this;cases this;exact hk h3
section
variable {X:Cx}{E:L2.St->XK}{ca:Str->Value}{m mk:PSt->Option Rs}{e k:Expr}{pos p1 pos2 pos3:Pos}{mu:Bool}{i j:Nat}{x f:Str}{C:Addr}{fs:List Str}
theorem r_dicS:PE X (.Dict [] [] pos) (tM X.K E ca mDicS):=PE.weak pe_dicO fun σ H Q h p hp=>by
 obtain⟨F,τ,R,S,q⟩:=h;exact q F (upd H p (.dK [])) (.ref p) _ (Ext.newO S.fh hp) (Rp.osd (ks:=[]) (xs:=[]) (l:=[]) (zbl S.fh hp) zau rfl rfl fun i t x h=>by simp at h)
theorem s_fldA(c:Cls X.K C)(hn:zbj X.K C f)(hj:fs[j]?=some f)(hnf:(fs.take j).contains f=false)(hjl:j<900)(hN:X.N[i]?=some x)(hv:Vis X.env.scope x)(hd:(x == ("__debug__":Str))=false)(hcd:(x == ("__classdict__":Str))=false)(he:PE X e (tM X.K E ca m))
  (hs:swapsWith e (some (.Attribute (.Name x p1) f pos2)) pos.line X.env=pure false):PS X (.Assign [.Attribute (.Name x p1) f pos2] e pos) (tS X.K E ca mu (zj5 C fs j i m)):=by
 refine PS.weak (ps_fld (zl8 hN hv hd hcd) he hs) fun D σ H h=>?_
 obtain⟨F,τ,R,S,q⟩:=h;refine⟨F,τ,R,S,?_⟩;unfold zj5 at q;cases hm:m τ with
 |none=>simp only[hm]at q
 |some r =>
  simp only[hm]at q;cases r with
  |x c=>exact fun F' H' e=>q F' H' σ R e.stp0 (S.ext e)
  |v t bb =>
   cases bb with
   |true=>exact fun F1 H1 y B e1 g1=>q.elim
   |false =>
    intro F1 H1 y B e1 g1;have g1':Rp X.K F1 H1 t y B:=g1;simp only at q;cases ho:oobAt τ i C fs with
    |none=>simp only[ho]at q
    |some pl =>
     obtain⟨p,l⟩:=pl;simp only[ho]at q
     by_cases hl:l.length=j
     ·rw[if_pos hl]at q;have S1:=S.ext e1;have ht:=zj7 ho;obtain⟨y2,ey,ry⟩:=S.rep i _ ht;obtain⟨dx,xs,Rr,rfl,hA,fp,hp,ro,dp⟩:=ry.oob_inv;have hxs:xs.length=j:=by rw[<- ro.len];exact hl
      have hp1:=e1.hh _ _ hp;have pB:¬ B p:=fun z=>by rw[e1.nb p z]at hp;cases hp
      have fp1:F1 p=none:=(ry.ext e1 |>.dom (by rw[hA];exact .inl rfl)).1
      refine⟨_,ey,p,C,dx,fs.zip xs,rfl,hp1,c,hn,?_,?_⟩
      ·rw[List.length_zip]
       omega
      ·rw[putF_zip (by rw[hxs];exact hj) (by rw[hxs];exact hnf)]
       have ro1:=ro.ext e1;have ro2:RpO X.K F1 (upd H1 p (.ins C dx (fs.zip (xs++[y])))) (l++[t]) (xs++[y]) _:=(ro1.upd dp).snoc (g1'.upd pB) fun j a z1 z2=>ro.apart e1 z2 j z1
       have dp2:∀j,¬ (if j=l.length then B else Rr j) p:=fun j z=>by
        by_cases hj:j=l.length
        ·simp only[hj,if_true]at z;exact pB z
        ·simp only[hj,if_false]at z;exact dp j z
       have r2:=oob_mk (C:=C) (fs:=fs) ro2 fp1 zau dp2
       obtain⟨S3,st3⟩:=S1.upd ht ey (by rw[hA];exact .inl rfl) r2 (B:=B) (fun a z=>by
        rw[hA]
        rcases z with z|z
        ·exact .inl (.inl z)
        ·rcases snoc_tot' z with w|w
         ·exact .inl (.inr w)
         ·exact .inr w) (fun j a z1 z2=>S.apart e1 z2 j z1)
       exact q F1 _ σ _ (e1.stp.trans st3) S3
     ·rw[if_neg hl]at q;exact q.elim
def rSetS:TSet:=fun o i v H Q=>∃p kvs k,o=.ref p/\i=.str k/\H p=some (.dK kvs)/\kvs.length<sizeLine/\Q (upd H p (.dK (putK kvs (Sum.inr k) v)))
theorem set_dicS(hu:X.A.units+1<cLine):PSet X rSetS:=by
 intro pins s σ H o i v ov iv u Q I ro ri rv h;obtain⟨p,kvs,k,rfl,rfl,hp,hl,q⟩:=h;cases ro;exact d_setItem hu I (DPut.k (k:=Sum.inr k) hp hl) (show L2.RelV (kV (Sum.inr k)) iv from ri) rv fun s' I'=>⟨_,I',q⟩
theorem zdb{K:PySem.W.Frag}{F H:Hp}{R:Nat->Rg}{z:Str}{b:Bool}{y:V}{B:Rg}(g:Got K F H R (.str z) b y B):y=.str z:=by
 cases b with
 |true=>obtain⟨_,A,_,r⟩:=g;exact r.str_inv
 |false=>exact(show Rp K F H _ _ _ from g).str_inv
theorem s_dpf(hu:X.A.units+1<cLine)(c:Cls X.K C)(hn:zbj X.K C f)(hj:fs.findIdx? (· == f)=some j)(hN:X.N[i]?=some x)(hv:Vis X.env.scope x)(hd:(x == ("__debug__":Str))=false)(hcd:(x == ("__classdict__":Str))=false)(he:PE X e (tM X.K E ca m))(hk:PE X k (tM X.K E ca mk))
  (hs:swapsWithSole [.Subscript (.Attribute (.Name x p1) f pos3) k pos2] e pos.line X.env=pure false) (hw:swappedStores [.Subscript (.Attribute (.Name x p1) f pos3) k pos2] e X.env=pure none)
  (ha : ∀ v, assign (.Subscript (.Attribute (.Name x p1) f pos3) k pos2) X.env v = (do
   let ov <- holding [v] (eval (.Attribute (.Name x p1) f pos3) X.env);let iv <- holding [v,ov] (eval k X.env)
   standAt pos2
   holding [v,ov,iv] (setItem ov iv v)
   release [v,ov,iv] [])) :
  PS X (.Assign [.Subscript (.Attribute (.Name x p1) f pos3) k pos2] e pos) (tS X.K E ca mu (sDpf C fs j i mk m)):=by
 refine PS.weak (ps_asg he (pg_sub (pe_fld (zl8 hN hv hd hcd) rfl) hk (set_dicS hu) ha) hs hw rfl) fun D σ H h=>?_
 obtain⟨F,τ,R,S,q⟩:=h;refine⟨F,τ,R,S,?_⟩;unfold sDpf at q;cases hm:m τ with
 |none=>simp only[hm]at q
 |some r =>
  simp only[hm]at q;cases r with
  |x c=>exact fun F' H' e=>q F' H' σ R e.stp0 (S.ext e)
  |v t bb =>
   cases bb with
   |true=>exact fun F1 H1 y B e1 g1=>q.elim
   |false =>
    intro F0 H1 y B e0 g0;simp only at q;obtain⟨F1,e1,_,g1⟩:=Got.frz (b:=false) S e0 g0;have g1':Rp X.K F1 H1 t.share y R0:=(show Rp X.K F1 F1 t.share y R0 from g1).any;cases ho:oobAt τ i C fs with
    |none=>simp only[ho]at q
    |some pl =>
     obtain⟨p,l⟩:=pl;simp only[ho]at q;cases hos:osdAt l[j]? with
     |none=>simp only[hos]at q
     |some kl =>
      obtain⟨ks,lv⟩:=kl;simp only[hos]at q;have hlj:=osdAt_some hos;have S1:=S.ext e1;have ht:=zj7 ho;obtain⟨y2,ey,ry⟩:=S1.rep i _ ht;obtain⟨dx,xs,Rr,rfl,hA,fp,hp,ro,dp⟩:=ry.oob_inv;have hjl:=(ya4.mp hlj).1;have hjx:j<xs.length:=by rw[<- ro.len];exact hjl
      have hx:xs[j]?=some xs[j]:=ya1 hjx;refine⟨_,ey,p,C,dx,_,xs[j],rfl,hp,c,hn,zng hj hx,F1,τ,R,S1,?_⟩;cases hkk:mk τ with
      |none=>simp only[hkk]at q
      |some r =>
       simp only[hkk]at q;cases r with
       |x c=>exact fun F' H' e=>q F' H' σ R ((e1.stp0).trans e.stp0) (S1.ext e)
       |v tk bk =>
        cases tk with
        |str kk =>
         simp only at q
         by_cases hc:kk∉ks/\ks.length<100000
         ·rw[if_pos hc]at q;intro F2 H2 z CC e2 g2;have hz:=zdb g2;subst hz;have e2':Ext F1 H1 F2 H2 R0:=e2.mono fun _ z=>z.elim
          have S2:=S1.ext e2;have ry2:=ry.ext e2;have ro2:=ro.ext e2;have fp2:F2 p=none:=(ry2.dom (by rw[hA];exact .inl rfl)).1
          have hp2:=e2.hh _ _ hp;have rk:=ro2.rep j _ _ hlj hx;obtain⟨pd,ys,exj,hAd,fpd,hpd,el,ek,cc⟩:=rk.osd_inv;have g2':Rp X.K F2 H2 t.share y R0:=g1'.ext e2;have pdj:Rr j pd:=by rw[hAd]
          have pne:pd≠p:=fun z=>dp j (z▸pdj)
          refine⟨pd,kvS ks ys,kk,exj,rfl,hpd,?_,?_⟩
          ·rw[kvS_len ek,<- ek,sizeLine_eq];exact ybo hc.2 (by decide)
          ·rw[putS_new ek hc.1]
           have r3:Rp X.K F2 (upd H2 pd (.dK (kvS (ks++[kk]) (ys++[y])))) (.osd (ks++[kk]) (lv++[t.share])) (.ref pd) (fun a=>a=pd):=by
            refine .osd fpd zau (by simp[el]) (by simp[ek]) fun j t' x' h1 h2=>?_
            rcases Nat.lt_or_ge j lv.length with w|w
            ·rw[yay w]at h1;rw[yay (by omega)]at h2
             exact(cc j t' x' h1 h2).any
            ·rw[yaw w]at h1;rw[yaw (by omega)]at h2
             have hj:j - lv.length=0:=by
              have:=(ya4.mp h1).1;simp at this
              omega
             have hj2:j - ys.length=0:=by omega
             rw[hj]at h1;rw[hj2]at h2;simp at h1 h2;subst h1 h2;exact g2'.any
           have oth:∀k,k≠j->¬ Rr k pd:=fun k hk z=>ro2.dis k j pd hk z pdj
           have ro3:RpO X.K F2 (upd H2 pd (.dK (kvS (ks++[kk]) (ys++[y])))) (l.set j (.osd (ks++[kk]) (lv++[t.share]))) xs Rr:=by
            refine⟨by rw[ydp];exact ro2.len,fun k t' x' h1 h2=>?_,ro2.dis,fun k a z=>by rw[ydp];exact ro2.out k a z⟩
            by_cases hk:k=j
            ·subst hk;rw[yas hjl]at h1;rw[hx]at h2;cases h1;cases h2;rw[exj,hAd];exact r3
            ·rw[yat (yb8 hk)]at h1;exact(ro2.rep k t' x' h1 h2).upd (oth k hk)
           have r4:=oob_mk (C:=C) (fs:=fs) (p:=p) (dx:=dx) ro3 fp2 (by rw[zaj (yb8 pne)];exact hp2) dp
           obtain⟨S3,st3⟩:=S2.upd ht ey (p:=pd) (by rw[hA];exact .inr ⟨j,pdj⟩) r4 (B:=R0) (fun a z=>.inl (by rw[hA];exact z)) (fun j a z1 z2=>z2)
           exact q F2 _ σ _ ((e1.stp.trans e2.stp0).trans st3) S3
         ·rw[if_neg hc]at q;exact q.elim
        |_=>exact fun F' H' z CC e2 g2=>q.elim
end
end Pu
set_option Elab.async false
set_option linter.all false
set_option maxRecDepth 100000
namespace Pu
open PySem PySem.Spec PyProof.Rows L2 Zw Zx
section
variable {X:Cx}{E:L2.St->XK}{ca:Str->Value}{ma mb mc:PSt->Option Rs}{a b c:Expr}{pos:Pos}{x:Str}{t:T}
theorem r_con{v:V}{u:Value}(hg:Gl X x)(hm:X.mg x=some u)(rv:RelV v u)(hd:(x == ("__debug__":Str))=false)(r:∀F:Hp,Rp X.K F F t v R0):PE X (.Name x pos) (tM X.K E ca (mC t)) :=
 PE.weak (pe_glob hg hm rv hd) fun σ H Q h=>by
  obtain⟨F,τ,R,S,q⟩:=h;exact q F H v R0 (Ext.refl S.fh) (r F).any
def mChn(g g':T->T->Option T)(ma mb mc:PSt->Option Rs):PSt->Option Rs:=fun τ=>match ma τ,mb τ with
 |some (.v t _),some (.v u _)=>if t.flat && u.flat then (match g t u with
  |some (.bl true)=>(match mc τ with
   |some (.v w _)=>if w.flat then (match g' u w with
    |some (.bl k)=>some (.v (.bl k) false)
    |_=>none) else none
   |_=>none)
  |some (.bl false)=>some (.v (.bl false) false)
  |_=>none) else none
 |_,_=>none
theorem znh{K:PySem.W.Frag}{F H F' H':Hp}{R:Nat->Rg}{v:T}{b:Bool}{x:V}{B:Rg}(g:Got K F H R v b x B)(h:v.flat=true):Rp K F' H' v x R0:=by
 cases b with
 |true=>obtain⟨_,A,_,r⟩:=g;exact r.flat_any h
 |false=>exact(show Rp K F H v x B from g).flat_any h
theorem tM_chn{g g':T->T->Option T}{σ:L2.St}{H:Hp}{Q:VK}(h:tM X.K E ca (mChn g g' ma mb mc) σ H Q):tChain (rT2 X.K g) (rT2 X.K g') (tM X.K E ca ma) (tM X.K E ca mb) (tM X.K E ca mc) σ H Q:=by
 obtain⟨F,τ,R,S,q⟩:=h;refine⟨F,τ,R,S,?_⟩;unfold mChn at q;cases h1:ma τ with
 |none=>simp only[h1]at q
 |some r1 =>
  cases r1 with
  |x c=>simp only[h1]at q
  |v t b1 =>
   cases h2:mb τ with
   |none=>simp only[h1,h2]at q
   |some r2 =>
    cases r2 with
    |x c=>simp only[h1,h2]at q
    |v u b2 =>
     simp only[h1,h2]at q
     by_cases hf:(t.flat && u.flat)=true
     ·rw[if_pos hf]at q;rw[ya3]at hf;intro F1 H1 x B1 e1 g1;have S1:=S.ext e1;refine⟨F1,τ,R,S1,?_⟩;rw[h2];intro F2 H2 y B2 e2 g2;have S2:=S1.ext e2;have e12:Ext F H F2 H2 R0:=(e1.trans e2).mono fun _ z=>z.elim
      cases hg:g t u with
      |none=>simp only[hg]at q
      |some k =>
       cases k with
       |bl k =>
        cases k with
        |false =>
         simp only[hg]at q;refine⟨F2,t,u,_,S2.fh,znh g1 hf.1,znh g2 hf.2,hg,fun F3 H3 z C3 e3 r3=>⟨false,r3.bl_inv,?_⟩⟩
         rw[if_neg yb7];exact q F3 H3 _ R0 (e12.trans0 (e3.mono fun _ z=>z.elim)) (.bl false)
        |true =>
         simp only[hg]at q;refine⟨F2,t,u,_,S2.fh,znh g1 hf.1,znh g2 hf.2,hg,fun F3 H3 z C3 e3 r3=>⟨true,r3.bl_inv,?_⟩⟩
         rw[if_pos rfl];have S3:=S2.ext e3;refine⟨F3,τ,R,S3,?_⟩;cases h3:mc τ with
         |none=>simp only[h3]at q
         |some r3 =>
          cases r3 with
          |x c=>simp only[h3]at q
          |v w b3 =>
           simp only[h3]at q
           by_cases hw:w.flat=true
           ·rw[if_pos hw]at q;intro F4 H4 z4 B4 e4 g4;have S4:=S3.ext e4;cases hg':g' u w with
            |none=>simp only[hg']at q
            |some k =>
             cases k with
             |bl k =>
              simp only[hg']at q;refine⟨F4,u,w,_,S4.fh,znh g2 hf.2,znh g4 hw,hg',fun F5 H5 z5 C5 e5 r5=>?_⟩
              rw[r5.bl_inv];exact q F5 H5 _ R0 (e12.trans0 (((e3.trans e4).trans e5).mono fun _ z=>z.elim)) (.bl k)
             |_=>simp only[hg']at q
           ·rw[if_neg hw]at q;exact q.elim
       |_=>simp only[hg]at q
     ·rw[if_neg hf]at q;exact q.elim
theorem r_chn{op op':CmpOp}{g g':T->T->Option T}(ho:OpR X (compareOp op) (rT2 X.K g))(ho':OpR X (compareOp op') (rT2 X.K g'))(ha:PE X a (tM X.K E ca ma))(hb:PE X b (tM X.K E ca mb))(hc:PE X c (tM X.K E ca mc))(hm:lastMarks [op,op'] [b,c]=false) :
  PE X (.Compare a [op,op'] [b,c] pos) (tM X.K E ca (mChn g g' ma mb mc)):=PE.weak (pe_chain ho ho' ha hb hc hm) fun σ H Q h=>tM_chn h
theorem r_tchn{op op':CmpOp}{g g':T->T->Option T}(ho:OpR X (compareOp op) (rT2 X.K g))(ho':OpR X (compareOp op') (rT2 X.K g'))(ha:PE X a (tM X.K E ca ma))(hb:PE X b (tM X.K E ca mb))(hc:PE X c (tM X.K E ca mc))(hm:lastMarks [op,op'] [b,c]=false) :
  PT X (.Compare a [op,op'] [b,c] pos) (tMB X.K E ca (mChn g g' ma mb mc)):=PT.weak (pt_chain ho ho' ha hb hc hm) fun σ H Q h=>tM_chn (tMB_val h)
end
end Pu
set_option Elab.async false
set_option linter.all false
set_option maxRecDepth 100000
namespace Pu
open PySem PySem.Spec PyProof.Rows L2 Zw Zx
def ItS(x:Str):It:=⟨fun i _=>i<x.cps.size,fun i H y H'=>H'=H/\∃c,x.cps[i]?=some c/\y=.str ⟨#[c]⟩,fun i _=>x.cps.size<=i⟩
theorem turn_str{P:Program}{w:World}{K:PySem.W.Frag}{tg:Expr}(x:Str)(t:Tok)(it:Addr):Turn P w K tg (ItS x) [it] it (fun i h=>h.IsStrIter it (strIterType x) x t i) where
 mem:=by simp
 obj:=fun i h st b hb=>by
  have e:b=it:=by simpa using hb
  subst e;obtain⟨o,e,c,d⟩:=st;exact⟨o,e,fun v z=>by rw[d]at z;cases z⟩
 keep:=fun i h h' st k=>by
  obtain⟨o,e,c,d⟩:=st;exact⟨o,k it (by simp) o e,c,d⟩
 item:=by
  intro X hP hw hK hc i pins s σ H E I hf st hg;subst hP hw hK;have hi:i<x.cps.size:=hg;obtain⟨f0,f1,f2,f3,f4,f5⟩:=hf it (by simp)
  have fin:∀(h':Heap),h'.IsStrIter it (strIterType x) x t (i+1)->Heap.SameBut it s.heap h'->∃u,some (Value.str ⟨#[x.cps[i]]⟩ s.toks)=some u /\
   wpAny (model X.prog X.w) X.A (letOwnedTupleGo tg (.ref it) u) (fun _ s2=>∃y H',Inv X pins σ H' s2/\RelV y u/\(ItS x).yld i H y H'/\s2.heap.IsStrIter it (strIterType x) x t (i+1)/\∀b∈[it],H' b=none) E { s with heap:=h',toks:=s.toks+1 }:=fun h' st' sb=>by
   have I1:Inv X pins σ H { s with heap:=h',toks:=s.toks+1 }:=I.turned (t':=s.toks+1) (fun b o hb e=>(sb.2 b hb).trans e) f0 f1 f3 f4 f5
   obtain⟨o,e,c,d⟩:=id st';refine⟨_,rfl,go_of (s:={ s with heap:=h',toks:=s.toks+1 }) e c d ?_ ⟨.str ⟨#[x.cps[i]]⟩,H,I1,⟨_,rfl⟩,⟨rfl,_,yar hi,rfl⟩,st',fun b hb=>(hf b hb).1⟩⟩
   unfold strIterType;split<;>decide
  cases ha:(x.cps.all fun x=>decide (x<128)) with
  |true =>
   have e:strIterType x="str_ascii_iterator":=by unfold strIterType;rw[ha];rfl
   rw[e]at st fin ⊢;exact wpAny_pyNext_ascii_item st (yar hi) fin
  |false =>
   have e:strIterType x="str_iterator":=by unfold strIterType;rw[ha];rfl
   rw[e]at st fin ⊢;exact wpAny_pyNext_wide_item st (yar hi) fin
 done:=by
  intro X hP hw hK hc i pins s σ H E I hf st hg;subst hP hw hK;have hi:x.cps.size<=i:=hg;obtain⟨f0,f1,f2,f3,f4,f5⟩:=hf it (by simp)
  have n:x.cps[i]?=none:=Array.getElem?_eq_none hi;cases ha:(x.cps.all fun x=>decide (x<128)) with
  |true =>
   have e:strIterType x="str_ascii_iterator":=by unfold strIterType;rw[ha];rfl
   rw[e]at st;exact wpAny_pyNext_ascii_end (I.ok.hd hc) st n fun h' eb=>⟨rfl,I.turned (t':=s.toks) (fun b o hb e=>eb b o hb e) f0 f1 f3 f4 f5⟩
  |false =>
   have e:strIterType x="str_iterator":=by unfold strIterType;rw[ha];rfl
   rw[e]at st;exact wpAny_pyNext_wide_end (I.ok.hd hc) st n fun h' eb=>⟨rfl,I.turned (t':=s.toks) (fun b o hb e=>eb b o hb e) f0 f1 f3 f4 f5⟩
 self:=fun _ i s Q E st h=>by
  cases ha:(x.cps.all fun x=>decide (x<128)) with
  |true =>
   have e:strIterType x="str_ascii_iterator":=by unfold strIterType;rw[ha];rfl
   rw[e]at st;exact wpAny_pyIter_striter_ascii st h
  |false =>
   have e:strIterType x="str_iterator":=by unfold strIterType;rw[ha];rfl
   rw[e]at st;exact wpAny_pyIter_striter_wide st h
def iStrT(tl:TE):TI:=fun σ H P=>tl σ H fun x H1=>∃y,x=.str y/\P (ItS y) H1
section
variable {X:Cx}{tg l e:Expr}{tl:TE}{E:L2.St->XK}{ca:Str->Value}{m:PSt->Option Rs}
theorem pi_str(hl:PE X l tl):PI X tg l (iStrT tl):=by
 intro pins s σ H R I h;refine thn (hl pins s σ H _ I h) fun v s1 ⟨x,H1,I1,r1,q1⟩=>?_
 obtain⟨y,rfl,q⟩:=q1;obtain⟨t,rfl⟩:=(show ∃t,v=Value.str y t from r1);refine wpAny_pyIter_strU ?_;refine⟨s1.heap.objs.size,[s1.heap.objs.size],_,_,H1,rfl,I1.kept (t':=s1.toks) fun b o e=>yac _ e,turn_str y t _,⟨_,yal _ rfl,rfl,rfl⟩,fun b hb=>?_,q⟩
 have e:b=s1.heap.objs.size:=by simpa using hb
 subst e;exact I1.fpOk (yad _) (I1.hok.fresh (yad _))
def sgnT(x:Str):List T:=x.cps.toList.map fun c=>.str ⟨#[c]⟩
theorem its_str{K:PySem.W.Frag}{F:Hp}{x:Str}:Its K (ItS x) F (sgnT x):=by
 intro i F' H' s1 s2;refine⟨fun t ht=>?_,fun e=>?_⟩
 ·unfold sgnT at ht;rw[yaa]at ht;obtain⟨c,e1,rfl⟩:=ya2.mp ht;have hi:i<x.cps.size:=by simpa using (ya4.mp e1).1
  refine⟨hi,fun y H'' z=>?_⟩
  obtain⟨rfl,c',hc,rfl⟩:=z;rw[ybh,hc]at e1;cases e1;exact⟨F',Ext.refl s2,.str _⟩
 ·show x.cps.size<=i;rw[e];simp[sgnT]
def zfj(m:PSt->Option Rs):PSt->Option RsL:=fun τ=>match m τ with
 |some (.v (.str x) _)=>some (.v (sgnT x) false)
 |_=>iVal m τ
theorem r_iTxt(ha:PE X e (tM X.K E ca m)):PI X tg e (tI X.K E ca (zfj m)):=by
 refine PI.weak (PI.or (r_iVal ha) (pi_str ha)) fun σ H P h=>?_
 obtain⟨F,τ,R,S,q⟩:=h
 by_cases hs:∃x b,m τ=some (.v (.str x) b)
 ·obtain⟨x,b,hm⟩:=hs;have e:zfj m τ=some (.v (sgnT x) false):=by unfold zfj;rw[hm]
  rw[e]at q;refine .inr ⟨F,τ,R,S,?_⟩;rw[hm];intro F1 H1 y B e1 g1;exact⟨x,zdb g1,q F1 H1 _ (e1.mono fun _ z=>z.elim) its_str⟩
 ·have e:zfj m τ=iVal m τ:=by
   unfold zfj;split
   ·rename_i x b hm;exact absurd ⟨x,b,hm⟩ hs
   ·rfl
  rw[e]at q;exact .inl ⟨F,τ,R,S,q⟩
end
end Pu
set_option Elab.async false
set_option linter.all false
set_option maxRecDepth 100000
namespace Pu
open PySem PySem.Spec PyProof.Rows L2 Zw Zx
open Classical in
noncomputable def met(val:Nat->Key):Nat->List Key
 |0=>[]
 |i+1=>if val i∈met val i then met val i else met val i++[val i]
open Classical in
theorem met_len(val:Nat->Key):∀i,(met val i).length<=i
 |0=>yad 0
 |i+1=>by
  have:=met_len val i;unfold met;split
  ·omega
  ·rw[ya5,ybn]
   omega
section
variable {prog:Program}{w:World}{A:Around}{E:Value->Shared->Prop}
open Classical in
theorem loop_set{knd:PySem.KeyKind prog w Key}{R:Result->Shared->Prop}{I:Addr}{fp wr:List Addr}{G:Array GenState->Array GenState->Prop}{n:Nat}{P:Nat->Value->Prop}{St:Nat->Shared->Prop}(W:WalksS prog w A.in1 I fp wr G n P St)(S:Addr)(hS:S∉fp)(val:Nat->Key)
  (hP:∀i v,P i v->knd.is (val i) v=true/\v.scannable=true) (hn:n+1<scanBound):∀(k i:Nat) (s:Shared),n - i=k->i<=n->St i s->Heap.SetOf knd s.heap S (fun k'=>decide (k'∈met val i)) (met val i).length ->
   (∀s':Shared,Moved (S::wr) G s s'->Heap.SetOf knd s'.heap S (fun k'=>decide (k'∈met val n)) (met val n).length->R (Except.ok (Flow.ret Value.none)) s') ->
   codeAny (model prog w) A (Code.builtin "set.update.loop" { pos:=[Value.ref S,Value.ref I] }) R s
 |0,i,s,hk,hi,st,hset,h=>by
  have e:i=n:=by omega
  subst e;refine codeAny_builtin F.entry_set_update_loop ?_;rw[yct ydb];unfold Builtin.«set.update.loop»;refine wpAny_bind (W.done s _ _ st fun s' mv=>?_)
  refine wpAny_pure ?_;refine h s' (mv.mono fun b hb=>ya9 _ hb) ?_
  obtain⟨o,es,ep,t,h1,h2⟩:=hset;exact⟨o,es,ep,t,mv.heap S o (fun z=>hS (W.sub S z)) h1,h2⟩
 |k+1,i,s,hk,hi,st,hset,h=>by
  have hi':i<n:=by omega
  refine codeAny_builtin F.entry_set_update_loop ?_;rw[yct ydb];unfold Builtin.«set.update.loop»;refine wpAny_bind (W.item i s _ _ hi' st fun v s' pv st' mv=>?_)
  obtain⟨hk1,hk2⟩:=hP i v pv
  have hset':Heap.SetOf knd s'.heap S (fun k'=>decide (k'∈met val i)) (met val i).length:=by
   obtain⟨o,es,ep,t,h1,h2⟩:=hset;exact⟨o,es,ep,t,mv.heap S o (fun z=>hS (W.sub S z)) h1,h2⟩
  refine wpAny_bind (wpAny_holding ?_);unfold setAdd;refine wpAny_holding (wpAny_bind (knd.pyHash hk1 ?_));have hl:=met_len val i;refine wpAny_setAddHashed_of (s:={ s' with toks:=s'.toks+1 }) hk1 hk2 hset' (by omega) fun h' sb hset2=>?_
  refine wpAny_pure ⟨plainId_quiet ydb _,?_⟩;have st2:=W.frame (i+1) s' h' (s'.toks+1) st' (yc5 _) fun b hb o e=>(sb.2 b (fun z=>hS (z▸hb))).trans e
  have mv2:Moved (S::wr) G s { s' with heap:=h',toks:=s'.toks+1 }:=(mv.mono fun b hb=>ya9 _ hb).then_heap (yc5 _) fun b o hb e=>(sb.2 b (fun z=>hb (by rw[z];exact yab ..))).trans e
  refine loop_set W S hS val hP hn k (i+1) _ (by omega) (by omega) st2 ?_ fun s'' mv3 hs3=>h s'' (mv2.trans W.gtrans mv3) hs3
  have hS:(fun k'=>(decide (k'∈met val i) || decide (k'=val i)))=fun k'=>decide (k'∈met val (i+1)):=funext fun k'=>by
   conv=>rhs;unfold met
   by_cases hm:val i∈met val i
   ·rw[if_pos hm]
    by_cases e:k'=val i
    ·rw[e,decide_eq_true hm];rfl
    ·rw[decide_eq_false e,ye5]
   ·rw[if_neg hm,ybz];simp only[yc8,decide_eq_true_eq,yai,ya6]
  have hN:(if decide (val i∈met val i)=true then (met val i).length else (met val i).length+1)=(met val (i+1)).length:=by
   conv=>rhs;unfold met
   by_cases hm:val i∈met val i
   ·rw[if_pos hm,if_pos (decide_eq_true hm)]
   ·rw[if_neg hm,if_neg (fun z=>hm (of_decide_eq_true z)),ya5,ybn]
  obtain⟨o,es,ep,t,h1,h2,h3,h4,h5,h6,h7,h8⟩:=hset2;refine⟨o,es,ep,t,h1,h2,h3,h4,fun k'=>?_,h6,h7,h8.trans hN⟩
  rw[<- h5 k'];have e:=congrFun hS k';show decide (k'∈met val (i+1))=true ↔ _;rw[<- e]
end
open Classical in
theorem call_set_keys{prog:Program}{w:World}{A:Around}{E:Value->Shared->Prop}{s:Shared}{l:Addr}{items:Array Value}{knd:PySem.KeyKind prog w Key}{val:Nat->Key}{Q:Value->Shared->Prop}(hh:A.handled=none)(hl:s.heap.IsList l items)
  (hP:∀(i:Nat) (v:Value),items[i]?=some v->knd.is (val i) v=true/\v.scannable=true) (hb:items.size+1<scanBound)
  (h:∀(h':Heap) (tk:Nat),Heap.SetOf knd h' s.heap.objs.size (fun k'=>decide (k'∈met val items.size)) (met val items.size).length->(∀(b:Nat) (o:Obj),b<s.heap.objs.size->s.heap.get? b=some o->h'.get? b=some o)->Q (.ref s.heap.objs.size) { s with heap:=h',toks:=tk }) :
  wpAny (model prog w) A (call (Value.type "set") [Value.ref l]) Q E s:=by
 obtain⟨c,tl,hmro⟩:=yd6.mro;have hmade:=yd6.made;have hsub:=yd6.sub;refine wpAny_call (codeAny_of_tree ?_);refine wpAny_pure ⟨Code.quiet_builtin _ (by decide +kernel),codeAny_builtin F.entry_type_call ?_⟩
 have hu:=Around.under_plain (A:=A) (weight_type_call_type "set" [Value.ref l] []) rfl;have h1:=yd6.notType;have h2:=yd6.canCreate;have hct:=F.typeCall_set_1 (Value.ref l);show wpAny (model prog w) (A.under (Code.builtin "type.__call__" { pos:=[Value.type "set",Value.ref l] })) _ _ _ s;rw[hu];unfold Builtin.«type.__call__»;refine wpAny_ite_false (by rw[h1];rfl) (wpAny_ite_false (by rw[h2];rfl) ?_)
 refine wpAny_bind (wpAny_of_eq hct (wpAny_bind (wpAny_of_eq hmro (wpAny_ite_false rfl (wpAny_bind (wpAny_of_eq hmade (wpAny_bind (wpAny_pure (wpAny_bind (wpAny_holding (wpAny_call (codeAny_mono (code_set_new_1 (E:=fun _ _=>False) (Value.ref l) (Q₁:=fun v s'=>∃led:Bool,v=.ref s.heap.objs.size/\s'={ s with heap:=s.heap.push { cls:=.type "set",data:=.set #[] 0 (SetTable.fresh 0 0 led) } }) fun led=>⟨led,rfl,rfl⟩) fun r s₁ hr=>?_))))))))))))
 cases r with
 |error e=>exact False.elim hr
 |ok fl =>
  cases fl with
  |next=>exact False.elim hr
  |brk=>exact False.elim hr
  |cont=>exact False.elim hr
  |ret v =>
   obtain⟨led,rfl,rfl⟩:=(show ∃led:Bool,v=.ref s.heap.objs.size/\s₁={ s with heap:=s.heap.push { cls:=.type "set",data:=.set #[] 0 (SetTable.fresh 0 0 led) } } from hr)
   have ho:(s.heap.push { cls:=.type "set",data:=.set #[] 0 (SetTable.fresh 0 0 led) }).get? s.heap.objs.size=some { cls:=.type "set",data:=.set #[] 0 (SetTable.fresh 0 0 led) }:=yal _ rfl;have hT:Shared.TypeIs { s with heap:=s.heap.push { cls:=.type "set",data:=.set #[] 0 (SetTable.fresh 0 0 led) } } (.ref s.heap.objs.size) "set":=⟨_,ho,rfl⟩
   have hin:=yd6.init;refine wpAny_bind (wpAny_isInstance hT hsub (wpAny_ite_false rfl (wpAny_bind (wpAny_holding ?_))));unfold callSpecial?;refine wpAny_bind (wpAny_specialOf hT hin.lookup (wpAny_holding (wpAny_bind (wpAny_of_eq (hin.bind _) (wpAny_bind (wpAny_call (codeAny_mono (R:=wants (fun v s'=>v=.none/\∃tk h',s'={ s with heap:=h',toks:=tk }/\Heap.SetOf knd h' s.heap.objs.size (fun k'=>decide (k'∈met val items.size)) (met val items.size).length/\∀(b:Nat) (o:Obj),b<s.heap.objs.size->s.heap.get? b=some o->h'.get? b=some o) fun _ _=>False) (codeAny_call_builtin hin.plain F.entry_set_init (check_set_init_1 hT ?_)) fun r s₂ hr₂=>?_)))))))
   ·unfold Builtin.«set.__init__» noKeywords;refine wpAny_bind (wpAny_ite_true rfl (wpAny_pure ?_));unfold typeNameOfCut shownTypeOf;refine wpAny_bind (wpAny_bind (wpAny_bind (wpAny_typeOf hT (wpAny_ite_false (by decide +kernel) (wpAny_pure ?_)))))
    refine wpAny_of_eq (rfl:typeNameCut 200 (Value.type "set")=pure _) ?_;refine wpAny_bind (wpAny_of_eq (rfl:checkCount _ 0 1 1=pure ()) ?_);refine wpAny_bind (wpAny_pure ?_);unfold setUsed setState;refine wpAny_bind (wpAny_bind (wpAny_bind (wpAny_load ho (wpAny_ite_false rfl (wpAny_pure (wpAny_pure (wpAny_ite_false rfl ?_)))))));obtain⟨ol,hol,hcl,nl,hdl⟩:=id hl;have hol2:(s.heap.push { cls:=.type "set",data:=.set #[] 0 (SetTable.fresh 0 0 led) }).get? l=some ol:=yac _ hol;have hTl:Shared.TypeIs { s with heap:=s.heap.push { cls:=.type "set",data:=.set #[] 0 (SetTable.fresh 0 0 led) } } (.ref l) "list":=⟨_,hol2,hcl⟩
    unfold Builtin.Frozenset.updateFrom Builtin.Frozenset.isAnySet;refine wpAny_bind (wpAny_bind (wpAny_bind (wpAny_isInstance hTl F.sub_list_set ?_)));have hl2:(s.heap.push { cls:=.type "set",data:=.set #[] 0 (SetTable.fresh 0 0 led) }).IsList l items:=⟨ol,hol2,hcl,nl,hdl⟩;refine wpAny_isInstance hTl F.sub_list_frozenset (wpAny_ite_false rfl (wpAny_bind (wpAny_typeOf hTl (wpAny_ite_false (by decide +kernel) (wpAny_bind (wpAny_pyIter_list hl2 ?_))))))
    have lt:l<s.heap.objs.size:=yae hol;have hsz:(s.heap.push { cls:=.type "set",data:=.set #[] 0 (SetTable.fresh 0 0 led) }).objs.size=s.heap.objs.size+1:=yc2 _ _;generalize hhp:s.heap.push { cls:=.type "set",data:=.set #[] 0 (SetTable.fresh 0 0 led) }=hp at *
    have hS:s.heap.objs.size∉[hp.objs.size,l]:=by
     rw[hsz];intro z
     rcases ya7.mp z with e|e
     ·exact absurd e (yau (yc3 _))
     ·exact absurd (ya6.mp e) (Nat.ne_of_gt lt)
    refine wpAny_bind (wpAny_runValue ?_);refine loop_set (knd:=knd) (A:=A.in1.in1) (Walks.list (A:=A.in1.in1.in1) hh hp.objs.size l (by rw[hsz];exact yau (yca lt)) items).toS s.heap.objs.size hS val (fun i v e=>hP i v e) hb items.size 0 _ (by omega) (ybi _) ⟨?_,?_⟩ ?_ fun s' mv hs'=>?_
    ·exact⟨_,yal _ rfl,rfl,rfl⟩
    ·exact⟨ol,yac _ hol2,hcl,nl,hdl⟩
    ·letI:BEq Key:=⟨fun a b=>decide (a=b)⟩
     haveI:LawfulBEq Key:={ eq_of_beq:=fun h=>of_decide_eq_true h,rfl:=decide_eq_true rfl }
     have e0:=(setObjOf_fresh (prog:=prog) (w:=w) (knd:=knd) led).setOf (h:=hp.push { cls:=.type "list_iterator",data:=.fields #[.ref l,.int 0 0] }) (a:=s.heap.objs.size) (yac _ ho) (by decide)
     obtain⟨o,es,ep,t,g1,g2,g3,g4,g5,g6,g7,g8⟩:=e0;refine⟨o,es,ep,t,g1,g2,g3,g4,fun k'=>?_,g6,g7,g8⟩
     rw[<- g5 k'];simp[met]
    ·refine wpAny_pure (wpAny_pure ?_)
     have b2:∀(b:Nat) (o:Obj),b<s.heap.objs.size->s.heap.get? b=some o->s'.heap.get? b=some o:=fun b o hb e=>by
      refine mv.heap b o (fun z=>?_) (yac _ (by rw[<- hhp];exact yac _ e))
      rcases ya7.mp z with e|e
      ·exact absurd e (yau hb)
      ·have e:=ya6.mp e;rw[hsz]at e;exact absurd e (yau (yca hb))
     have m1:=mv.gens;have m2:=mv.drawn;have m3:=mv.os;obtain⟨hh',g',d',t',os'⟩:=s';refine⟨rfl,t',hh',?_,hs',b2⟩;simp only at m1 m2 m3;rw[m1,m2,m3]
   ·cases r with
    |error e=>exact False.elim hr₂
    |ok fl =>
     cases fl with
     |next=>exact False.elim hr₂
     |brk=>exact False.elim hr₂
     |cont=>exact False.elim hr₂
     |ret v =>
      obtain⟨rfl,tk,h',rfl,hs,hk⟩:=(show v=.none/\∃tk h',s₂={ s with heap:=h',toks:=tk }/\Heap.SetOf knd h' s.heap.objs.size (fun k'=>decide (k'∈met val items.size)) (met val items.size).length/\∀(b:Nat) (o:Obj),b<s.heap.objs.size->s.heap.get? b=some o->h'.get? b=some o from hr₂)
      refine wpAny_pure (wpAny_ite_false rfl (wpAny_pure ?_));exact h h' tk hs hk
noncomputable def SetK(P:Program)(w:World)(a:Addr)(ks:List Key):HO:=.ext fun h=>Heap.SetOf (zbg P w) h a (fun k=>@decide (k∈ks) (Classical.propDecidable _)) ks.length
section
variable {X:Cx}
theorem call_setT(hc:X.calm=true):zbx X (.type "set") (fun xs H Q=>∃(p:Addr) (ys:List Str),xs=[.ref p]/\SqL X.K H p (ys.map V.str)/\ys.length<1000/\∀a,H a=none->Q (.ref a) (upd H a (SetK X.prog X.w a (met (fun i=>Sum.inr (ys.getD i Str.empty)) ys.length)))):=by
 intro pins s σ H xs us Q I r h;obtain⟨p,ys,rfl,hq,hz,q⟩:=h;obtain⟨u,rfl,rx⟩:=ziz r;cases rx;obtain⟨its,r',pl,_⟩:=I.list hq;have hlen:=r'.length;rw[ya0]at hlen;have hsz:its.toArray.size=ys.length:=by rw[yag];exact hlen.symm
 refine call_set_keys (knd:=zbg X.prog X.w) (val:=fun i=>Sum.inr (ys.getD i Str.empty)) (I.ok.hd hc) pl.isList (fun i v e=>?_) (by rw[hsz];exact yam (Nat.succ_lt_succ hz) (by decide)) fun h' tk hs kp=>?_
 ·have e':its[i]?=some v:=by simpa using e
  have hi:i<ys.length:=by rw[hlen];exact(ya4.mp e').1
  have hx:(ys.map V.str)[i]?=some (.str ys[i]):=by rw[yaa,ya1 hi];rfl
  obtain⟨u,e2,ru⟩:=r'.get hx;rw[e']at e2;cases e2;obtain⟨t,rfl⟩:=(show ∃t,v=Value.str ys[i] t from ru);refine⟨?_,rfl⟩;show keyIs (Sum.inr (ys.getD i Str.empty)) (Value.str ys[i] t)=true;rw[yan,ya1 hi];show(ys[i] == ys[i])=true;exact beq_self_eq_true _
 ·rw[hsz]at hs;refine⟨.ref s.heap.objs.size,_,I.laid (a:=s.heap.objs.size) (o:=SetK X.prog X.w s.heap.objs.size (met (fun i=>Sum.inr (ys.getD i Str.empty)) ys.length)) (t':=tk) (fun b o e=>kp b o (yae e) e) (yad _) ⟨?_,?_,?_⟩,rfl,q _ (I.hok.fresh (yad _))⟩
  ·exact hs
  ·obtain⟨o,es,ep,t,g1,_⟩:=hs;exact⟨o,g1⟩
  ·intro h1 h2 p1 k;obtain⟨o,es,ep,t,g1,g2⟩:=p1;exact⟨o,es,ep,t,k o g1,g2⟩
theorem call_lenK:zbx X (.builtin "len") (fun xs H Q=>∃a ks,xs=[.ref a]/\H a=some (SetK X.prog X.w a ks)/\Q (.int ks.length) H):=by
 intro pins s σ H xs us Q I r h;obtain⟨a,ks,rfl,ha,q⟩:=h;obtain⟨u,rfl,rx⟩:=ziz r;cases rx;obtain⟨⟨o,es,ep,t,g1,g2,g3,g4,g5,g6,g7,g8⟩,_⟩:=(show _/\_ from I.hok a _ ha)
 have hb:((es.size:Nat):Int)<2 ^ 63:=by
  have:scanBound<=2 ^ 40:=by decide
  have g6':es.size<scanBound:=g6
  omega
 refine call_len_set g1 g2 g3 g7 hb ⟨.int (es.size:Int),H,I.tok _,⟨_,rfl⟩,?_⟩;rw[show es.size=ks.length from g8];exact q
end
def zdp:List T->Option (List Str)
 |[]=>some []
 |.str x::r=>(match zdp r with
  |some l=>some (x::l)
  |none=>none)
 |_::_=>none
theorem zn8{K:PySem.W.Frag}{F:Hp}:∀{l:List T} {ys:List Str} {xs:List V},zdp l=some ys->Rps K F l xs->xs=ys.map V.str
 |[],ys,xs,h,r=>by
  cases h;exact r.inv0
 |t::l,ys,xs,h,r=>by
  obtain⟨x,xs',rfl,r1,r2⟩:=r.inv;unfold zdp at h;split at h
  ·rename_i e;cases e
  ·rename_i y r e;cases e;split at h
   ·rename_i l' hl;cases h;rw[r1.str_inv,zn8 hl r2]
    rfl
   ·cases h
  ·cases h
noncomputable def unqN(ys:List Str):Nat:=(met (fun i=>Sum.inr (ys.getD i Str.empty)) ys.length).length
noncomputable def unqT:T->Option T
 |.nd _ .lst l=>(match zdp l with
  |some ys=>if ys.length<1000 then some (.int (unqN ys)) else none
  |none=>none)
 |_=>none
section
variable {X:Cx}{E:L2.St->XK}{ca:Str->Value}{m:PSt->Option Rs}{e:Expr}{pos p p2 p3:Pos}
theorem r_unq(hc:X.calm=true)(hg:Gl X "len")(hm:X.mg "len"=none)(hg2:Gl X "set")(hm2:X.mg "set"=none)(ha:PE X e (tM X.K E ca m))(he:starEach [e] X.env=[(false,eval e X.env)]) :
  PE X (.Call (.Name "len" p) [.Call (.Name "set" p2) [e] [] p3] [] pos) (tM X.K E ca (mAp (g1 unqT) (za0 m za4))):=by
 have hset:=pe_callTy (pos:=p3) (p:=p2) (call_setT hc) hg2 hm2 (show bootBuiltins "set"=some (.type "set") from rfl) (zcc ha zfs he) (by decide) (by decide) he rfl
 refine PE.weak (zkj (call_lenK (X:=X)) hg hm PySem.boot_len (zcc hset zfs rfl) (by decide) (by decide) rfl rfl) fun σ H Q h=>?_
 refine(zez (tM_ap h)).mono fun x H1 h1=>?_
 obtain⟨F,ts,v,fh,rs,e,q⟩:=zho h1;unfold g1 at e;split at e
 ·obtain⟨x1,xs1,e1,r1,rs1⟩:=rs.inv;cases e1;unfold unqT at e;split at e
  ·split at e
   ·rename_i o l ys hy;split at e
    ·rename_i hz;cases e;obtain⟨pp,zs,rfl,_,n,kd⟩:=zcd r1;have hF:F pp=some (.lst zs):=n;refine⟨pp,ys,rfl,SqL.of (by rw[<- zn8 hy kd];exact fh _ _ hF),hz,fun a ha=>⟨a,_,rfl,zau,?_⟩⟩
     exact q F _ _ R0 ((Ext.newO fh ha).mono fun _ z=>z.elim) (Rp.int _)
    ·cases e
   ·cases e
  ·cases e
 ·cases e
end
end Pu
set_option Elab.async false
set_option linter.all false
set_option maxRecDepth 100000
namespace Pu
open PySem PySem.Spec PyProof.Rows L2 Zw Zx
noncomputable def leT:T->T->Option T
 |.int i,.int j=>some (.bl (decide (i<=j)))
 |.str x,.str y=>some (.bl (!(@decide (y.cps.toList<x.cps.toList) (Classical.propDecidable _))))
 |_,_=>none
section
variable {X:Cx}{E:L2.St->XK}{ca:Str->Value}{m mk:PSt->Option Rs}{o k:Expr}{pos apos cpos:Pos}
theorem opT_leT:OpR X (compareOp .LtE) (rT2 X.K leT):=by
 intro pins s σ H x y v u Q I rx ry h;obtain⟨F,t1,t2,r,fh,r1,r2,e,q⟩:=h;unfold leT at e;split at e
 ·cases e;rw[r1.int_inv]at rx;rw[r2.int_inv]at ry;exact op_le pins s σ H _ _ v u Q I rx ry ⟨_,_,rfl,rfl,q.bl fh⟩
 ·rename_i a b;cases e;rw[r1.str_inv]at rx;rw[r2.str_inv]at ry;obtain⟨t,rfl⟩:=(show ∃t,v=Value.str a t from rx);obtain⟨t',rfl⟩:=(show ∃t,u=Value.str b t from ry);refine PySem.P.le_str ⟨.bl _,H,I,rfl,?_⟩;have q1:=q.bl fh;rw[show(!decide (b.cps.toList<a.cps.toList))=!(@decide (b.cps.toList<a.cps.toList) (Classical.propDecidable _)) from congrArg _ (by rw[ybz,decide_eq_true_eq,@decide_eq_true_eq _ (Classical.propDecidable _)])]
  exact q1
 ·cases e
end
noncomputable def idxS(ys:List Str)(y:Str):Option Nat:=ys.findIdx? fun x=>@decide (x=y) (Classical.propDecidable _)
section
variable {X:Cx}{E:L2.St->XK}{ca:Str->Value}{m mk:PSt->Option Rs}{o k:Expr}{pos apos cpos:Pos}
end
def tupT:T->Option T
 |.nd _ .lst l=>some (.tup l)
 |_=>none
theorem callT_tup{X:Cx}:zbx X (.type "tuple") (rTn X.K (g1 tupT)):=by
 intro pins s σ H xs us Q I r h;obtain⟨F,ts,v,fh,rs,e,q⟩:=h;unfold g1 at e;split at e
 ·obtain⟨x1,xs1,rfl,r1,rs1⟩:=rs.inv;cases rs1.inv0;unfold tupT at e;split at e
  ·cases e;obtain⟨p,ys,rfl,rfl,n1,k1⟩:=zcd r1;have hF:F p=some (.lst ys):=n1;exact call_tuple_of pins s σ H _ us Q I r ⟨p,ys,rfl,.inl ⟨SqL.of (fh _ _ hF),fun l hl=>q.tuple fh k1 hl⟩⟩
  ·cases e
 ·cases e
end Pu
set_option Elab.async false
set_option linter.all false
set_option maxRecDepth 100000
namespace Pu
open PySem PySem.Spec PyProof.Rows L2 Zw Zx
section
variable {X:Cx}{E:L2.St->XK}{ca:Str->Value}{mu:Bool}{i:Nat}{x n:Str}{np pos hpos:Pos}{body suite:List Stmt}{b₀:Stmt}{u h:PSt->Option Out}{cs:List (Str×Addr)}
theorem StR.put{K:PySem.W.Frag}{F H:Hp}{σ:L2.St}{τ:PSt}{R:Nat->Rg}{i:Nat}{t:T}{v:V}(S:StR K F H σ τ R)(hi:i<τ.length)(r:Rp K F H t v R0):StR K F H (σ.set i (some v)) (τ.set i (some t)) (fun j=>if j=i then R0 else R j):=by
 refine⟨S.fh,by simpa using S.len,fun j t' e=>?_,fun j a z=>?_,fun j k a hjk z1 z2=>?_⟩
 ·by_cases hj:j=i
  ·subst hj;rw[yas hi]at e;cases e;exact⟨v,yas (by rw[S.len];exact hi),by simpa using r⟩
  ·rw[yat (yb8 hj)]at e;obtain⟨y,e1,r1⟩:=S.rep j t' e;exact⟨y,by rw[yat (yb8 hj)];exact e1,by simpa[hj] using r1⟩
 ·by_cases hj:j=i
  ·simp only[hj,if_true]at z;exact z.elim
  ·simp only[hj,if_false]at z;obtain⟨t',e⟩:=S.out j a z;exact⟨t',by rw[yat (yb8 hj)];exact e⟩
 ·by_cases hj:j=i
  ·simp only[hj,if_true]at z1;exact z1.elim
  ·by_cases hk:k=i
   ·simp only[hk,if_true]at z2;exact z2.elim
   ·simp only[hj,if_false]at z1;simp only[hk,if_false]at z2;exact S.dis j k a hjk z1 z2
end
def isXT(tb:List (Addr×Bool)):T->Option T
 |.obj (.exn C) _=>(match tb.lookup C with
  |some b=>some (.bl b)
  |none=>none)
 |_=>none
section
variable {X:Cx}{E:L2.St->XK}{ca:Str->Value}{m:PSt->Option Rs}{e:Expr}{pos p p2:Pos}{c:Str}{v:V}{tb:List (Addr×Bool)}
end
end Pu
set_option Elab.async false
set_option linter.all false
set_option maxRecDepth 100000
namespace Pu
open PySem PySem.Spec PyProof.Rows L2 Zw Zx
def Kd.isLst:Kd->Bool
 |.lst=>true
 |_=>false
section
variable {X:Cx}{E:L2.St->XK}{ca:Str->Value}{mu:Bool}{i j:Nat}{tg it c:Expr}{ret:List Stmt}{mc:PSt->Option Rs}{k:T}{ip pos:Pos}
end
end Pu
set_option Elab.async false
set_option linter.all false
set_option maxRecDepth 100000
namespace Pu
open PySem PySem.Spec PyProof.Rows L2 Zw Zx
section
variable {X:Cx}{E:L2.St->XK}{ca:Str->Value}{m mk ma:PSt->Option Rs}{o k e a:Expr}{pos apos cpos p p2:Pos}
def rSlS:V->Option Int->Option Int->Hp->VK->Prop:=fun x lo hi H Q=>∃z:Str,x=.str z/\z.length<=lim/\Q (.str (Txt.slice z lo hi)) H
theorem sl_str:SlR X rSlS:=by
 intro pins s σ H x v vl vu lo hi sl Q I rx hs pl pu q;obtain⟨z,rfl,hz,q⟩:=q;obtain⟨t,rfl⟩:=(show ∃t,v=Value.str z t from rx);obtain⟨ob,ho,hc,hd⟩:=hs;rw[zdx]at hz;cases pl with
 |none =>
  cases pu with
  |none=>exact⟨"str",_,yce.lookup,typeIs_str _ _ _,wpAny_getItem_str_slice (l:=none) (u:=none) (st:=none) ⟨ob,ho,hc,hd⟩ rfl (post_val_or_str ⟨yaj (yee z _ _) hz,fun t' k=>⟨.str _,H,I.tok _,⟨_,rfl⟩,q⟩⟩)⟩
  |int j uj=>exact⟨"str",_,yce.lookup,typeIs_str _ _ _,wpAny_getItem_str_slice (l:=none) (u:=some (j,uj)) (st:=none) ⟨ob,ho,hc,hd⟩ rfl (post_val_or_str ⟨yaj (yee z _ _) hz,fun t' k=>⟨.str _,H,I.tok _,⟨_,rfl⟩,q⟩⟩)⟩
 |int i ui =>
  cases pu with
  |none=>exact⟨"str",_,yce.lookup,typeIs_str _ _ _,wpAny_getItem_str_slice (l:=some (i,ui)) (u:=none) (st:=none) ⟨ob,ho,hc,hd⟩ rfl (post_val_or_str ⟨yaj (yee z _ _) hz,fun t' k=>⟨.str _,H,I.tok _,⟨_,rfl⟩,q⟩⟩)⟩
  |int j uj=>exact⟨"str",_,yce.lookup,typeIs_str _ _ _,wpAny_getItem_str_slice (l:=some (i,ui)) (u:=some (j,uj)) (st:=none) ⟨ob,ho,hc,hd⟩ rfl (post_val_or_str ⟨yaj (yee z _ _) hz,fun t' k=>⟨.str _,H,I.tok _,⟨_,rfl⟩,q⟩⟩)⟩
def zme(ma:PSt->Option Rs)(ml mh:Option (PSt->Option Rs)):PSt->Option Rs:=fun τ=>match ma τ with
 |some (.v (.str z) _)=>(match zjc ml τ,zjc mh τ with
  |some lo,some hi=>if z.length<=lim then some (.v (.str (Txt.slice z lo hi)) false) else none
  |_,_=>none)
 |_=>none
theorem r_sliceT{lo hi:Option Expr}{ml mh:Option (PSt->Option Rs)}(ha:PE X a (tM X.K E ca ma))(hl:PO X lo (tPo X.K ml))(hh:PO X hi (tPo X.K mh)):PE X (.Subscript a (.Slice lo hi none p2) pos) (tM X.K E ca (zme ma ml mh)):=by
 refine PE.weak (pe_slice sl_str ha hl hh) fun σ H Q h=>?_
 obtain⟨F,τ,R,S,q⟩:=h;refine⟨F,τ,R,S,?_⟩;unfold zme at q;cases hm:ma τ with
 |none=>rw[hm]at q;exact q.elim
 |some r =>
  rw[hm]at q;cases r with
  |x c=>exact q.elim
  |v t bb =>
   cases t with
   |str z =>
    simp only at q;intro F1 H1 x B e1 g1;have hx:=zdb g1;subst hx;have e1':Ext F H F1 H1 R0:=e1.mono fun _ z=>z.elim
    have S1:=S.ext e1';cases h1:zjc ml τ with
    |none=>simp only[h1]at q
    |some lo' =>
     refine⟨F1,τ,R,lo',S1,h1,fun F2 H2 e2=>?_⟩
     have S2:=S1.ext e2;cases h2:zjc mh τ with
     |none=>simp only[h1,h2]at q
     |some hi' =>
      simp only[h1,h2]at q;refine⟨F2,τ,R,hi',S2,h2,fun F3 H3 e3=>?_⟩
      by_cases hz:z.length<=lim
      ·rw[if_pos hz]at q;exact⟨z,rfl,hz,q F3 H3 _ R0 (e1'.trans0 (e2.trans0 e3)) (.str _)⟩
      ·rw[if_neg hz]at q;exact q.elim
   |_=>exact q.elim
def rJoin:V->List V->Hp->VK->Prop:=fun x vs H Q=>∃(sep:Str) (l:Addr) (ys:List Str),x=.str sep/\vs=[.ref l]/\H l=some (.lst (ys.map V.str))/\(ys.map (·.length)).sum+ys.length * sep.length<=lim/\Q (.str (Txt.join sep ys)) H
theorem strs_are:∀{ys:List Str} {its:List Value},zb9 (ys.map V.str) its->StrsAre its ys
 |[],its,r=>by
  cases r;exact .nil
 |y::ys,its,r=>by
  cases r with
  |cons h t =>
   obtain⟨tk,rfl⟩:=h;exact .cons _ _ (strs_are t)
theorem mt_join:MtM X "str.join" rJoin:=by
 intro pins s σ H x vs v us Q I rx rv h;obtain⟨sep,l,ys,rfl,rfl,hH,hz,q⟩:=h;obtain⟨t,rfl⟩:=(show ∃t,v=Value.str sep t from rx);obtain⟨u,rfl,ru⟩:=rv.one;cases ru;obtain⟨its,r,pl,_⟩:=I.list (SqL.of hH);refine join_list (items:=its.toArray) pl.isList (strs_are r) (by rw[zdx]at hz;exact hz) fun t' k=>⟨.str _,H,I.tok _,⟨_,rfl⟩,q⟩
def mJn(m mk:PSt->Option Rs):PSt->Option Rs:=fun τ=>match m τ with
 |some (.v (.str sep) _)=>(match mk τ with
  |some (.v (.nd _ .lst l) _)=>(match zdp l with
   |some ys=>if (ys.map (·.length)).sum+ys.length * sep.length<=lim then some (.v (.str (Txt.join sep ys)) false) else none
   |none=>none)
  |_=>none)
 |_=>none
theorem lst_of{K:PySem.W.Frag}{F H:Hp}{o:Bool}{l:List T}{x:V}{A:Rg}(s:zbe F H)(h:Rp K F H (.nd o .lst l) x A):∃p xs,x=.ref p/\H p=some (.lst xs)/\l.length=xs.length/\∀(i:Nat) (t:T) (x:V),l[i]?=some t->xs[i]?=some x->∃B,Rp K F H t x B:=by
 cases h with
 |shr h e c=>exact⟨_,_,rfl,s _ _ h,e,fun i t x h1 h2=>⟨_,c i t x h1 h2⟩⟩
 |own hk R f h e c d dp o=>exact⟨_,_,rfl,h,e,fun i t x h1 h2=>⟨_,c i t x h1 h2⟩⟩
theorem zkv{K:PySem.W.Frag}{F H:Hp}:∀{l:List T} {ys:List Str} {xs:List V},zdp l=some ys->l.length=xs.length->(∀(i:Nat) (t:T) (x:V),l[i]?=some t->xs[i]?=some x->∃B,Rp K F H t x B)->xs=ys.map V.str
 |[],ys,xs,h,e,_=>by
  cases h;cases xs with
  |nil=>rfl
  |cons _ _=>simp at e
 |t::l,ys,[],h,e,_=>by simp at e
 |t::l,ys,x::xs,h,e,f=>by
  unfold zdp at h;split at h
  ·cases ‹_::_=[]›
  ·rename_i z r hh;cases hh;split at h
   ·rename_i l' hl;cases h;obtain⟨B,r0⟩:=f 0 _ x rfl rfl;have ih:xs=l'.map V.str:=zkv hl (by simpa using e) fun i t x h1 h2=>f (i+1) t x (by simpa using h1) (by simpa using h2)
    rw[r0.str_inv,ih]
    rfl
   ·cases h
  ·cases h
theorem r_join(ho:PE X o (tM X.K E ca m))(hk:PE X k (tM X.K E ca mk))(hbase:attributeBase o "join" X.env (eval o X.env)=eval o X.env)(hs:starEach [k] X.env=[(false,eval k X.env)])(hline:(apos.endLine == cpos.line)=true) :
  PE X (.Call (.Attribute o "join" apos) [k] [] cpos) (tM X.K E ca (mJn m mk)):=by
 refine PE.weak (pe_bm yc6 ycr PySem.F.type_str_join mt_join ho (zcc hk zfs hs) hbase (by rw[hs];rfl) hline hs rfl) fun σ H Q h=>?_
 obtain⟨F,τ,R,S,q⟩:=h;refine⟨F,τ,R,S,?_⟩;unfold mJn at q;cases hm:m τ with
 |none=>rw[hm]at q;exact q.elim
 |some r =>
  rw[hm]at q;cases r with
  |x c=>exact q.elim
  |v t b =>
   cases t with
   |str sep =>
    simp only at q;intro F1 H1 x B e1 g1;have hx:=zdb g1;subst hx;have e1':Ext F H F1 H1 R0:=e1.mono fun _ z=>z.elim
    refine⟨rfl,F1,τ,R,S.ext e1',?_⟩;cases hk2:mk τ with
    |none=>rw[hk2]at q;exact q.elim
    |some r2 =>
     rw[hk2]at q;cases r2 with
     |x c=>exact q.elim
     |v t2 b2 =>
      cases t2 with
      |nd o2 k2 l =>
       cases k2 with
       |lst =>
        simp only at q;intro F2 H2 z B2 e2 g2
        have hr:∃A,Rp X.K F2 H2 (.nd o2 .lst l) z A:=by
         cases b2 with
         |true=>obtain⟨_,A,_,r⟩:=g2;exact⟨A,r⟩
         |false=>exact⟨_,g2⟩
        obtain⟨A,r⟩:=hr;obtain⟨p,xs,rfl,hH,el,kd⟩:=lst_of e2.fh r;cases hy:zdp l with
        |none=>simp only[hy]at q
        |some ys =>
         simp only[hy]at q;have hxs:=zkv hy el kd
         by_cases hz:(ys.map (·.length)).sum+ys.length * sep.length<=lim
         ·rw[if_pos hz]at q;exact⟨sep,p,ys,rfl,rfl,by rw[<- hxs];exact hH,hz,q F2 H2 _ R0 ((e1'.trans e2).mono fun _ z=>z.elim) (.str _)⟩
         ·rw[if_neg hz]at q;exact q.elim
       |_=>exact q.elim
      |_=>exact q.elim
   |_=>exact q.elim
def rIxD:R2:=fun x y H Q=>∃a kvs k v,x=.ref a/\y=.str k/\H a=some (.dK kvs)/\valV kvs (Sum.inr k)=some v/\Q v H
theorem ix_dic(hu:X.A.units+1<cLine):IxR X rIxD:=by
 intro value slice pins s σ H x y v u Q I rx ry h hs;obtain⟨a,kvs,k,w,rfl,rfl,hH,hv,q⟩:=h;cases rx;have g:DGet H a (kV (Sum.inr k)) (some w):=hv▸DGet.k hH
 have hT:s.TypeIs (.ref a) "dict":=by
  obtain⟨_,_,vs,_,dd⟩:=dk_of I.hok hH;exact dd.typeIs
 unfold subscriptTail;refine wpAny_bind ?_;rw[getitemInPython_of_ne hT.not_modules];refine wpAny_bind (wpAny_specialOf hT PySem.F.slot_dict_getitem.lookup ?_)
 have fin:wpAny (model X.prog X.w) X.A (subscripted slice false (.ref a) u) (fun r s₃=>wpAny (model X.prog X.w) X.A (letTemporaryGo value (.ref a) r >>= fun _=>pure r) (EP X pins σ Q) X.xe s₃) X.xe s:=by
  rw[hs];exact wpAny_operating (wpAny_mono (d_getItem hu I g (show L2.RelV (kV (Sum.inr k)) u from ry) fun w' s3 I3 rw'=>(⟨w,H,I3,rw',q⟩:EP X pins σ Q w' s3)) (fun r s₃ h₃=>wpAny_bind (wpAny_letTemporaryGo (wpAny_pure h₃))) fun _ _ x=>x)
 first|exact wpAny_pure (wpAny_bind fin)|exact wpAny_bind (wpAny_pure (wpAny_bind fin))|exact wpAny_bind fin
noncomputable def mGt(m mk:PSt->Option Rs):PSt->Option Rs:=fun τ=>match m τ with
 |some (.v (.obj (.sdc ks) l) _)=>(match mk τ with
  |some (.v (.str y) _)=>(match idxS ks y with
   |some j=>(match l[j]? with
    |some u=>if u.sh then some (.v u false) else none
    |none=>none)
   |none=>none)
  |_=>none)
 |_=>none
theorem valV_kvS:∀{ks:List Str} {xs:List V} {y:Str} {j:Nat} {v:V},idxS ks y=some j->xs[j]?=some v->valV (kvS ks xs) (Sum.inr y)=some v
 |[],xs,y,j,v,h,_=>by simp[idxS]at h
 |k::ks,[],y,j,v,_,h=>by simp at h
 |k::ks,x::xs,y,j,v,h,hx=>by
  show valV ((Sum.inr k,x)::kvS ks xs) (Sum.inr y)=some v;unfold idxS at h;rw[ye3]at h
  by_cases e:k=y
  ·rw[@decide_eq_true _ (Classical.propDecidable _) e]at h;simp only[if_true,ydf]at h;subst h;rw[zke (p:=(Sum.inr k,x)) (by rw[e])]
   simpa using hx
  ·rw[@decide_eq_false _ (Classical.propDecidable _) e]at h;simp only[yck,if_false,ya2]at h;obtain⟨j',h1,rfl⟩:=h;rw[zkf (p:=(Sum.inr k,x)) (fun z=>e (Sum.inr.inj z))]
   exact valV_kvS (show idxS ks y=some j' from h1) (by simpa using hx)
theorem r_gt(hu:X.A.units+1<cLine)(ho:PE X o (tM X.K E ca m))(hk:PE X k (tM X.K E ca mk))(hs:PlainIx k):PE X (.Subscript o k pos) (tM X.K E ca (mGt m mk)):=by
 refine PE.weak (pe_ix (ix_dic hu) ho hk hs) fun σ H Q h=>?_
 obtain⟨F,τ,R,S,q⟩:=h;refine⟨F,τ,R,S,?_⟩;unfold mGt at q;cases hm:m τ with
 |none=>rw[hm]at q;exact q.elim
 |some r =>
  rw[hm]at q;cases r with
  |x c=>exact q.elim
  |v t b =>
   cases t with
   |obj kd l =>
    cases kd with
    |sdc ks =>
     simp only at q;intro F1 H1 x B e1 g1;obtain⟨r1,hB⟩:=got_obj g1;subst hB;obtain⟨a,xs,rfl,_,⟨hl1,hF⟩,el,cc⟩:=r1.obj_inv;refine⟨F1,τ,R,S.ext e1,?_⟩;cases hk2:mk τ with
     |none=>rw[hk2]at q;exact q.elim
     |some r2 =>
      rw[hk2]at q;cases r2 with
      |x c=>exact q.elim
      |v t2 b2 =>
       cases t2 with
       |str y =>
        simp only at q;intro F2 H2 z B2 e2 g2;have hz:=zdb g2;subst hz;have e2':Ext F1 H1 F2 H2 R0:=e2.mono fun _ z=>z.elim
        cases hj:idxS ks y with
        |none=>simp only[hj]at q
        |some j =>
         simp only[hj]at q;cases hu2:l[j]? with
         |none=>simp only[hu2]at q
         |some u =>
          simp only[hu2]at q
          by_cases hsh:u.sh=true
          ·rw[if_pos hsh]at q;have hjl:=(ya4.mp hu2).1;have hx:xs[j]?=some xs[j]:=ya1 (by omega)
           have hc:=(cc j u _ hu2 hx).move (F':=F2) (H':=H2) hsh e2'.ff;exact⟨a,_,y,_,rfl,rfl,e2'.hh _ _ (e1.fh _ _ hF),valV_kvS hj hx,q F2 H2 _ R0 (e1.trans0 e2') hc⟩
          ·rw[if_neg hsh]at q;exact q.elim
       |_=>exact q.elim
    |_=>exact q.elim
   |_=>exact q.elim
def tKys(to:TE):TE:=fun σ H Q=>to σ H fun x H1=>∃a ks xs,x=.ref a/\ks.length=xs.length/\H1 a=some (.dK (kvS ks xs))/\∀p,H1 p=none->Q (.ref p) (upd H1 p (.lst (ks.map V.str)))
theorem kvS_ln:∀{ks:List Str} {xs:List V},ks.length=xs.length->(kvS ks xs).length=ks.length
 |[],[],_=>rfl
 |[],_::_,h=>by simp at h
 |_::_,[],h=>by simp at h
 |k::ks,x::xs,h=>by
  show(kvS ks xs).length+1=ks.length+1;rw[kvS_ln (by simpa using h)]
theorem kvS_keys:∀{ks:List Str} {xs:List V} {vs:List (Key×Value)},ks.length=xs.length->KV (kvS ks xs) vs->vs.map (·.1)=ks.map Sum.inr
 |[],[],vs,_,r=>by
  have r':Paired _ [] vs:=(show Paired _ (kvS [] []) vs from r);cases r'
  rfl
 |[],_::_,_,h,_=>by simp at h
 |_::_,[],_,h,_=>by simp at h
 |k::ks,x::xs,vs,h,r=>by
  have r':Paired (fun(p:Key×V) (q:Key×Value)=>p.1=q.1/\RelV p.2 q.2) ((Sum.inr k,x)::kvS ks xs) vs:=r
  cases r' with
  |@cons _ q _ qs hd tl =>
   rw[yah,yah,<- hd.1,kvS_keys (by simpa using h) tl]
theorem pe_kys(hc:X.calm=true)(hg:Gl X "list")(hm:X.mg "list"=none){to:TE}(ho:PE X o to)(hs:starEach [o] X.env=[(false,eval o X.env)]) :
  PE X (.Call (.Name "list" p) [o] [] p2) (tKys to):=by
 intro pins s σ H Q I h;refine wpAny_Call_Name_kw (zif I hg hm ydj ?_ (by decide) (by decide))
 refine ybb ?_ (by rw[hs];rfl) rfl
 rw[hs];show wpAny _ _ (spliced ((false,eval o X.env)::backTo p2 (starEach [] X.env))) _ _ s;refine yd2 (thn (ho pins s σ H _ I h) fun v s1 ⟨x,H1,I1,r1,q1⟩=>?_)
 obtain⟨a,ks,xs,rfl,el,hd,q⟩:=q1;cases r1;obtain⟨z,hsm,vs,rel,o',es,ep,ho',r⟩:=(show zbp X.prog X.w H1 s1.heap a (.dK (kvS ks xs)) from I1.hok a _ hd);have hat:s1.heap.DictAt (zbg X.prog X.w) a vs ep:=⟨o',es,ho',r⟩;refine yde ?_;refine PySem.W.kdl_call (PySem.W.kdl_dict (knd:=zbg X.prog X.w) (d:=a) (kvs:=vs) (ep:=ep) hsm) (I1.ok.hd hc) hat (by rw[<- kv_len rel];exact z) fun h' tk acc' c' hk hD hacc=>?_
 have hkeys:=kvS_keys el rel;refine⟨.ref _,_,I1.laid (a:=s1.heap.objs.size) (o:=.lst (ks.map V.str)) (h':=h') (t':=tk) hk (yad _) ?_,rfl,q _ (I1.hok.fresh (yad _))⟩;refine⟨by rw[ya0,<- kvS_ln el];exact z,acc'.toList,c',?_,by rw[hD]⟩
 have hlen:acc'.toList.length=ks.length:=by
  rw[ydu,hacc.1,<- ya0 (f:=fun p:Key×Value=>p.1),hkeys,ya0]
 have key:∀(n:Nat) (k:Str) (v:Value),ks[n]?=some k->acc'.toList[n]?=some v->∃t,v=Value.str k t:=fun n k v h1 h2=>by
  obtain⟨k',x',e1,e2⟩:=hacc.2 n v (by rw[<- ybh];exact h2)
  have e3:(vs.map (·.1))[n]?=some k':=by rw[yaa,e1];rfl
  rw[hkeys,yaa,h1]at e3;have e4:k'=Sum.inr k:=(yb1 e3).symm;subst e4
  rcases zb2 (show keyIs (Sum.inr k) v=true from e2) with ⟨i,t,e5,_⟩|⟨x,t,e5,e6⟩
  ·cases e5
  ·cases e5;exact⟨t,e6⟩
 clear hD hk hacc
 generalize acc'.toList=as at hlen key
 clear hd q hkeys
 have go:∀(ks:List Str) (as:List Value),as.length=ks.length->(∀(n:Nat) (k:Str) (v:Value),ks[n]?=some k->as[n]?=some v->∃t,v=Value.str k t)->zb9 (ks.map V.str) as:=by
  intro ks
  induction ks with
  |nil =>
   intro as hl _;cases as with
   |nil=>exact .nil
   |cons _ _=>simp at hl
  |cons k ks ih =>
   intro as hl key;cases as with
   |nil=>simp at hl
   |cons v as=>exact .cons (key 0 k v rfl rfl) (ih as (by simpa using hl) fun n k v h1 h2=>key (n+1) k v (by simpa using h1) (by simpa using h2))
 exact go ks as hlen key
def mKys(m:PSt->Option Rs):PSt->Option Rs:=fun τ=>match m τ with
 |some (.v (.obj (.sdc ks) _) _)=>some (.v (.own (ks.map T.str)) false)
 |_=>none
theorem rps_strs{K:PySem.W.Frag}{F:Hp}(ks:List Str):Rps K F (ks.map T.str) (ks.map V.str):=⟨by simp,fun i t x h1 h2=>by
 rw[yaa]at h1 h2;cases h:ks[i]? with
 |none=>rw[h]at h1;cases h1
 |some k =>
  rw[h]at h1 h2;cases h1;cases h2;exact .str k⟩
theorem r_kys(hc:X.calm=true)(hg:Gl X "list")(hm:X.mg "list"=none)(ho:PE X o (tM X.K E ca m))(hs:starEach [o] X.env=[(false,eval o X.env)]):PE X (.Call (.Name "list" p) [o] [] p2) (tM X.K E ca (mKys m)):=by
 refine PE.weak (pe_kys hc hg hm ho hs) fun σ H Q h=>?_
 obtain⟨F,τ,R,S,q⟩:=h;refine⟨F,τ,R,S,?_⟩;unfold mKys at q;cases hm2:m τ with
 |none=>rw[hm2]at q;exact q.elim
 |some r =>
  rw[hm2]at q;cases r with
  |x c=>exact q.elim
  |v t b =>
   cases t with
   |obj kd l =>
    cases kd with
    |sdc ks =>
     intro F1 H1 x B e1 g1;obtain⟨r1,hB⟩:=got_obj g1;subst hB;obtain⟨a,xs,rfl,_,⟨hl1,hF⟩,el,cc⟩:=r1.obj_inv;refine⟨a,ks,xs,rfl,hl1,e1.fh _ _ hF,fun p hp=>?_⟩
     have gg:zmd X.K F1 H1 (.own (ks.map T.str)) Q:=fun F' H' z C e g=>q F' H' z C (e1.trans0 e) g
     exact gg.list e1.fh (rps_strs ks) hp
    |_=>exact q.elim
   |_=>exact q.elim
structure ICls(K:PySem.W.Frag)(C:Addr):Prop where
 c:Cls K C
 a:PySem.W.findIn K (.ref C) "__class__"=some (some (.builtin "object.__class__"))
 n:PySem.W.specialIn K (.builtin "object.__class__") "__get__"=some (some (.builtin "getset_descriptor.__get__"))
 k:PySem.W.takesIn K (.builtin "object.__class__")=some true
 m:PySem.W.mroIn K C (.type "object")=some true
def isCT(tb:List (Addr×Bool)):T->Option T
 |.obj (.ins C _) _=>(tb.lookup C).map .bl
 |_=>none
theorem call_isC{C D:Addr}{b:Bool}(hC:ICls X.K C)(hk:PySem.W.kitOne X.K (.ref C) (.ref D)=some b):zbx X (.builtin "isinstance") (fun xs H Q=>∃a dx fs,xs=[.ref a,.ref D]/\H a=some (.ins C dx fs)/\Q (.bl b) H):=by
 intro pins s σ H xs us Q I r h;obtain⟨a,dx,fs,rfl,e,q⟩:=h;obtain⟨u,w',rfl,rx,ry⟩:=vals2 r;cases ry;exact isinst_ok I rx (.ins e hC.c hC.a hC.n hC.k hC.m) hk fun tk=>⟨.bl b,H,I.tok _,rfl,q⟩
theorem r_isC{D:Addr}{tb:List (Addr×Bool)}{c:Str}(hC:∀C b,tb.lookup C=some b->ICls X.K C/\PySem.W.kitOne X.K (.ref C) (.ref D)=some b)(hg:Gl X "isinstance")(hm:X.mg "isinstance"=none)(hgc:Gl X c)(hmc:X.mg c=some (.ref D))(hd:(c == ("__debug__":Str))=false)(ha:PE X e (tM X.K E ca m))(he:starEach [e,.Name c p2] X.env=(false,eval e X.env)::starEach [.Name c p2] X.env) :
  PE X (.Call (.Name "isinstance" p) [e,.Name c p2] [] pos) (tM X.K E ca (mAp (g1 (isCT tb)) (za0 m za4))):=by
 have hR:zbx X (.builtin "isinstance") (fun xs H Q=>∃C b a dx fs,tb.lookup C=some b/\xs=[.ref a,.ref D]/\H a=some (.ins C dx fs)/\Q (.bl b) H):=fun pins s σ H xs us Q I r h=>by
  obtain⟨C,b,a,dx,fs,hl,h⟩:=h;exact call_isC (hC C b hl).1 (hC C b hl).2 pins s σ H xs us Q I r ⟨a,dx,fs,h⟩
 refine PE.weak (zkj hR hg hm PyProof.Rows.boot_isinstance (zcc ha (zcc (pe_glob (v:=.ref D) hgc hmc rfl hd) zfs) he) (by decide) (by decide) he rfl) fun σ H Q h=>?_
 refine(zez (tM_ap h)).mono fun x H1 h1=>?_
 obtain⟨F,ts,w,fh,rs,e,q⟩:=zho h1;unfold g1 at e;split at e
 ·obtain⟨x1,xs1,e1,r1,rs1⟩:=rs.inv;cases e1;unfold isCT at e;split at e
  ·obtain⟨b,hb,rfl⟩:=ya2.mp e;obtain⟨a,xs,rfl,_,⟨dx,hF⟩,_,_⟩:=r1.obj_inv;exact⟨_,b,a,dx,_,hb,rfl,fh _ _ hF,q.bl fh⟩
  ·cases e
 ·cases e
end
end Pu
set_option Elab.async false
set_option linter.all false
set_option maxRecDepth 100000
namespace Zx
open PySem PySem.Spec PyProof.Rows L2 Zw
section
variable {A:Around}{E:Value->Shared->Prop}{M:Model}
end
section
variable {X:Cx}{i1 i2:Nat}{x1 x2 n1 n2:Str}{np1 np2 pos hpos1 hpos2:Pos}{body suite1 suite2:List Stmt}{b1 b2:Stmt}{tb th1 th2:TS}{E:L2.St->XK}
end
end Zx
namespace Pu
open PySem PySem.Spec PyProof.Rows L2 Zw Zx
section
variable {X:Cx}{E:L2.St->XK}{ca:Str->Value}{mu:Bool}{i1 i2:Nat}{x1 x2 n1 n2:Str}{np1 np2 pos hpos1 hpos2:Pos}{body suite1 suite2:List Stmt}{b1 b2:Stmt}{u h1 h2:PSt->Option Out}{cs1 cs2:List (Str×Addr)}
end
section
variable {X:Cx}{E:L2.St->XK}{ca:Str->Value}{m:PSt->Option Rs}{e:Expr}{pos p p2 p3 p4:Pos}{c1 c2:Str}{t1 t2:List (Addr×Bool)}{kt:Nat}
end
end Pu
set_option Elab.async false
set_option linter.all false
set_option maxRecDepth 100000
namespace Pu
open PySem PySem.Spec PyProof.Rows L2 Zw Zx
end Pu
set_option Elab.async false
set_option linter.all false
set_option maxRecDepth 100000
namespace Pu
open PySem PySem.Spec PyProof.Rows L2 Zw Zx
section
variable {X:Cx}{E:L2.St->XK}{ca:Str->Value}{m mk ma:PSt->Option Rs}{o k e a:Expr}{pos apos cpos p p2:Pos}
def rSpl:V->List V->Hp->VK->Prop:=fun x vs H Q=>∃x1 y:Str,x=.str x1/\vs=[.str y]/\(y.length == 0)=false/\x1.length+2<=lim/\∀p,H p=none->Q (.ref p) (upd H p (.lst ((Txt.split x1 y).map V.str)))
theorem vals_strs:∀{ys:List Str} {its:List Value},StrsAre its ys->zb9 (ys.map V.str) its
 |_,_,.nil=>.nil
 |_,_,.cons y t h=>.cons ⟨_,rfl⟩ (vals_strs h)
theorem mt_split:MtM X "str.split" rSpl:=by
 intro pins s σ H x vs v us Q I rx rv h;obtain⟨x1,y,rfl,rfl,hy,hz,q⟩:=h;obtain⟨t,rfl⟩:=(show ∃t,v=Value.str x1 t from rx);obtain⟨u,rfl,ru⟩:=rv.one;obtain⟨u1,rfl⟩:=(show ∃t,u=Value.str y t from ru);rw[zdx]at hz;have hsl:=PyProof.Rows.split_le x1 y
 have fin:∀(l:List (Str×Tok)) (k:Nat),l.map (·.1)=Txt.split x1 y->EP X pins σ Q (.ref s.heap.objs.size) { s with heap:=s.heap.push { cls:=.type "list",data:=.seq (strValues l).toArray },toks:=k }:=fun l k e =>
  ⟨.ref _,_,I.lnew (vals_strs (e▸strsAre_of_values l)) (by rw[ya0];omega),rfl,q _ I.fresh⟩
 have hn:(Builtin.Str.partsBetween x1 (Builtin.Str.occurrences x1 y 0 x1.length (x1.length+1)) y.length).length<=sizeLine:=by
  have e1:=StrLaws.occ_length_le x1 y 0 x1.length (x1.length+1);rw[length_partsBetween];omega
 cases h1:(decide (x1.length<y.length) || decide (Builtin.Str.strKind x1<Builtin.Str.strKind y))
 ·cases hf:(Builtin.Str.occurrences x1 y 0 x1.length (x1.length+1)).isEmpty
  ·refine call_meets ycn (typeIs_str _ _ _) ydc (yd7 _ _) (meets_str_split_sep x1 y t u1 h1 hy hf (by omega) hn) ?_
   show wants _ _ _ { s with toks:=_,heap:=s.heap.push { cls:=.type "list",data:=.seq (strsFrom s.toks (Builtin.Str.partsBetween x1 (Builtin.Str.occurrences x1 y 0 x1.length (x1.length+1)) y.length)).toArray } }
   rw[strsFrom_eq];exact fin (numbered s.toks _) _ ((numbered_texts _ _).trans ((if_neg (ne_true_of_eq_false h1)).trans (if_neg (ne_true_of_eq_false hf))).symm)
  ·exact call_meets ycn (typeIs_str _ _ _) ydc (yd7 _ _) (meets_str_split_not_found x1 y t u1 h1 hy hf) (fin [(x1,t)] s.toks ((if_neg (ne_true_of_eq_false h1)).trans (if_pos hf)).symm)
 ·exact call_meets ycn (typeIs_str _ _ _) ydc (yd7 _ _) (meets_str_split_cannot_occur x1 y t u1 h1) (fin [(x1,t)] s.toks (if_pos h1).symm)
def mSpl(m mk:PSt->Option Rs):PSt->Option Rs:=fun τ=>match m τ with
 |some (.v (.str x) _)=>(match mk τ with
  |some (.v (.str y) _)=>if (y.length == 0)=false/\x.length+2<=lim then some (.v (.own ((Txt.split x y).map T.str)) false) else none
  |_=>none)
 |_=>none
theorem r_split(ho:PE X o (tM X.K E ca m))(hk:PE X k (tM X.K E ca mk))(hbase:attributeBase o "split" X.env (eval o X.env)=eval o X.env)(hs:starEach [k] X.env=[(false,eval k X.env)])(hline:(apos.endLine == cpos.line)=true) :
  PE X (.Call (.Attribute o "split" apos) [k] [] cpos) (tM X.K E ca (mSpl m mk)):=by
 refine PE.weak (pe_bm yc6 ycn PySem.F.type_str_split mt_split ho (zcc hk zfs hs) hbase (by rw[hs];rfl) hline hs rfl) fun σ H Q h=>?_
 obtain⟨F,τ,R,S,q⟩:=h;refine⟨F,τ,R,S,?_⟩;unfold mSpl at q;cases hm:m τ with
 |none=>rw[hm]at q;exact q.elim
 |some r =>
  rw[hm]at q;cases r with
  |x c=>exact q.elim
  |v t b =>
   cases t with
   |str x =>
    simp only at q;intro F1 H1 x' B e1 g1;have hx:=zdb g1;subst hx;have e1':Ext F H F1 H1 R0:=e1.mono fun _ z=>z.elim
    refine⟨rfl,F1,τ,R,S.ext e1',?_⟩;cases hk2:mk τ with
    |none=>rw[hk2]at q;exact q.elim
    |some r2 =>
     rw[hk2]at q;cases r2 with
     |x c=>exact q.elim
     |v t2 b2 =>
      cases t2 with
      |str y =>
       simp only at q;intro F2 H2 z B2 e2 g2;have hz:=zdb g2;subst hz;have e2':Ext F1 H1 F2 H2 R0:=e2.mono fun _ z=>z.elim
       by_cases hc:(y.length == 0)=false/\x.length+2<=lim
       ·rw[if_pos hc]at q;refine⟨x,y,rfl,rfl,hc.1,hc.2,fun p hp=>?_⟩
        have gg:zmd X.K F2 H2 (.own ((Txt.split x y).map T.str)) Q:=fun F' H' z C e g=>q F' H' z C ((e1'.trans0 e2').trans0 e) g
        exact gg.list e2.fh (rps_strs _) hp
       ·rw[if_neg hc]at q;exact q.elim
      |_=>exact q.elim
   |_=>exact q.elim
theorem rv_len:typeLookup (.type "list_reverseiterator") "__len__"=pure none:=by
 rw[typeLookup_type,builtinLookup_eq_fast]
 kernel_rfl
theorem rv_hint:typeLookup (.type "list_reverseiterator") "__length_hint__"=pure (some (.builtin "list_reverseiterator.__length_hint__")):=by
 rw[typeLookup_type,builtinLookup_eq_fast]
 kernel_rfl
theorem rv_sub:isSubtype (.type "list_reverseiterator") (.type "list_reverseiterator")=pure true:=by
 rw[isSubtype_type]
 kernel_rfl
theorem collect_rv{prog:Program}{w:World}{A:Around}{E:Value->Shared->Prop}{s:Shared}{I:Addr}{fp wr:List Addr}{G:Array GenState->Array GenState->Prop}{n:Nat}{P:Nat->Value->Prop}{St:Nat->Shared->Prop}{Q:List Value->Shared->Prop}
  (W:WalksS prog w A.in1 I fp wr G n P St) (ty:∀i s,St i s->s.TypeIs (.ref I) "list_reverseiterator") (st:St 0 s) (lo:∀b∈fp,b<s.heap.objs.size) (hI:I∈fp) (hn:n<=sizeLine) (q:∀s' acc,Moved wr G s s'->ItemsOf P acc n->Q acc.toList s'):wpAny (model prog w) A (collect (.ref I)) Q E s:=by
 have hS:s.heap.objs.size∉fp:=fun z=>yb3 _ (lo _ z)
 have hSI:s.heap.objs.size≠I:=fun z=>hS (by rw[z];exact hI)
 have st1:=W.frame 0 s (s.heap.push { cls:=.type "list",data:=.seq ([]:List Value).toArray }) s.toks st (yad _) fun b _ o e=>yac _ e
 have o1:(s.heap.push { cls:=.type "list",data:=.seq ([]:List Value).toArray }).get? s.heap.objs.size=some { cls:=.type "list",data:=.seq ([]:List Value).toArray }:=yal _ rfl;have ne:Builtin.List.listSameRef (.ref s.heap.objs.size) (.ref I)=false:=by simp[Builtin.List.listSameRef,hSI]
 unfold collect;refine wpAny_bind (wpAny_runValue (codeAny_builtin PySem.F.entry_proto_collect ?_));rw[yct PySem.F.plain_proto_collect _];refine wpAny_bind (m:=newList []) (wpAny_newObj_type (wpAny_pure ⟨plainId_quiet PySem.F.plain_list_iadd _,codeAny_builtin PySem.F.entry_list_iadd ?_⟩));rw[yct PySem.F.plain_list_iadd _];show wpAny _ A.in1 (Builtin.List.listExtendWith (.ref s.heap.objs.size) (.ref I) (.ref s.heap.objs.size)) _ _ _;unfold Builtin.List.listExtendWith;refine wpAny_bind (wpAny_typeOf (ty 0 _ st1) ?_);rw[if_neg (by rw[ne];decide)]
 refine wpAny_bind (W.self 0 _ _ _ st1 (wpAny_bind (wpAny_holding ?_)));unfold Builtin.List.listLengthHint;refine wpAny_bind (wpAny_specialOf (ty 0 _ st1) rv_len ?_);refine wpAny_bind (m:=specialOf (Value.ref I) (Str.ofString "__length_hint__")) (wpAny_specialOf (ty 0 _ st1) rv_hint ?_);generalize hid:("list_reverseiterator.__length_hint__":String)=d
 wp_delta
 rw[show splitId d=some ("list_reverseiterator","__length_hint__") from by subst hid;decide +kernel]
 subst hid;refine wpAny_bind (wpAny_isInstance (b:=true) (ty 0 _ st1) rv_sub (wpAny_pure ?_));rw[if_neg (by decide)]
 refine wpAny_pure ⟨plainId_quiet PySem.F.plain_extend_loop _,codeAny_extend_loopS W hn _ hS _ n 0 _ _ _ rfl (ybi _) st1 o1 (ItemsOf.nil P) fun s' a' c' mv o2 its=>?_⟩
 refine wpAny_bind (m:=load s.heap.objs.size) (wpAny_load o2 (wpAny_pure (q s' a' ?_ its)));exact Moved.drop_new (tk:=s.toks) mv (yad _)
theorem gives_jn(x:Str)(r:List (Str×Tok))(h:Builtin.Str.tooLong ((r.map (·.1)).toArray.foldl (· + ·.length+x.length) 0)=false):Gives (joinTail x (strValues r)) (joinMade x r):=by
 cases r with
 |nil=>exact gives_joinTail x [] h
 |cons a r=>cases r with
  |nil=>exact gives_joinTail x [a] h
  |cons b r=>exact gives_joinTail x (a::b::r) h
theorem join_rv{prog:Program}{w:World}{A:Around}{E:Value->Shared->Prop}{s:Shared}{x:Str}{t:Tok}{Q:Value->Shared->Prop}(hh:A.handled=none){I l:Addr}{ps:List (Str×Tok)}(hne:l≠I)(hlo:l<s.heap.objs.size/\I<s.heap.objs.size)
  (hi:s.heap.IsRevIter I l (((strValues ps).toArray.size:Int) - 1)) (hl:s.heap.IsList l (strValues ps).toArray) (hok:JoinOk x (ps.reverse.map (·.1))=true) (hz:ps.length<=sizeLine)
  (q:∀h' t' k,(∀b o,b≠I->s.heap.get? b=some o->h'.get? b=some o)->Q (.str (Txt.join x (ps.reverse.map (·.1))) t') { s with heap:=h',toks:=k }):wpAny (model prog w) A (call (.builtin "str.join") [.str x t,.ref I]) Q E s:=by
 have W:=(Walks.listRev (prog:=prog) (w:=w) (A:=A.in1.in1) hh I l hne (strValues ps).toArray).toS;have hT:∀(i:Nat) (s:Shared),(i<=(strValues ps).toArray.size/\s.heap.IsRevIter I l (((strValues ps).toArray.size:Int) - 1 - (i:Int))/\s.heap.IsList l (strValues ps).toArray)->s.TypeIs (.ref I) "list_reverseiterator":=fun i s z=>z.2.1.typeIs
 have st:(0<=(strValues ps).toArray.size/\s.heap.IsRevIter I l (((strValues ps).toArray.size:Int) - 1 - ((0:Nat):Int))/\s.heap.IsList l (strValues ps).toArray):=⟨ybi _,by simpa using hi,hl⟩
 refine wpAny_call (codeAny_call_builtin ycr.plain PySem.F.entry_str_join (ycr.check _ _ _ _ _ _ _ _ (typeIs_str _ _ _) (PySem.F.args_str_join_2 _ _) ?_));rw[join_tree_other];refine wpAny_bind (wpAny_typeOf (hT 0 s st) ?_);show wpAny _ A.in1 ((pyIter (.ref I)).tryCatch _ >>= fun it=>collect it >>= fun items=>joinTail x items) _ _ s
 refine wpAny_bind (wpAny_tryCatch (W.of_in1.self 0 s _ _ st (wpAny_bind (collect_rv W hT st ?_ (by simp) ?_ fun s' acc mv its=>?_))))
 ·intro b hb;simp only[ya7,yb5,or_false]at hb
  rcases hb with rfl|rfl
  ·exact hlo.2
  ·exact hlo.1
 ·simp only[strValues,yag,ya0];exact hz
 ·have e:acc.toList=strValues ps.reverse:=by
   apply yea;intro j;have hs:=its.1
   by_cases hj:j<acc.size
   ·have h1:=its.2 j acc[j] (yar hj);rw[ybh,yar hj,<- h1];simp only[strValues,yag,ya0]at hs ⊢;rw[List.getElem?_toArray,yaa,yaa,ydn (by omega)]
   ·rw[ybh,Array.getElem?_eq_none (by omega),ybg]
    simp only[strValues,yag,ya0,ycw]at hs ⊢
    omega
  rw[e];obtain⟨h',g',d',k',os'⟩:=s';obtain⟨m1,m2,m3,m4,m5⟩:=mv;cases m2;cases m3;cases m4;have hok':=hok;unfold JoinOk at hok';rw[yc0]at hok';exact(gives_jn x ps.reverse hok') prog w A (wants Q E) ⟨h',s.gens,s.drawn,k',s.os⟩ (post_join ps.reverse ⟨joinFit_length hok',fun t' k=>q h' t' k fun b o hb e=>m1 b o (by simpa using hb) e⟩)
def tJnR(to tk:TE):TE:=fun σ H Q=>to σ H fun x H1=>∃sep:Str,x=.str sep/\tk σ H1 fun y H2=>∃(l:Addr) (ys:List Str),y=.ref l/\H2 l=some (.lst (ys.map V.str))/\(ys.map (·.length)).sum+ys.length * sep.length<=lim/\Q (.str (Txt.join sep ys.reverse)) H2
theorem sum_rev:∀l:List Nat,l.reverse.sum=l.sum
 |[]=>rfl
 |a::l=>by
  rw[ycp,List.sum_append,sum_rev l,ye8,ye8,List.sum_nil]
  omega
theorem pe_jnr{to tk:TE}(hc:X.calm=true)(hg:Gl X "reversed")(hm:X.mg "reversed"=none)(ho:PE X o to)(hk:PE X k tk)(hbase:attributeBase o "join" X.env (eval o X.env)=eval o X.env)(hs:starEach [k] X.env=[(false,eval k X.env)])(hline:(apos.endLine == cpos.line)=true) :
  PE X (.Call (.Attribute o "join" apos) [.Call (.Name "reversed" p) [k] [] p2] [] cpos) (tJnR to tk):=by
 intro pins s σ H Q I h;refine wpAny_Call_method_late hbase rfl hline rfl (thn (ho pins s σ H _ I h) fun v s1 ⟨x,H1,I1,r1,q1⟩=>?_)
 obtain⟨sep,rfl,q1⟩:=q1;obtain⟨h1,h2⟩:=tyV_is (T:="str") I1 r1 rfl;obtain⟨t,rfl⟩:=(show ∃t,v=Value.str sep t from r1);refine⟨"str","str.join",yc6,ycr,PySem.F.type_str_join,h1,h2,?_⟩;refine Calls.callWith_builtin rfl (ydq ?_);show wpAny _ _ (spliced ((false,eval (.Call (.Name "reversed" p) [k] [] p2) X.env)::backTo cpos (starEach [] X.env))) _ _ s1;refine yd2 (wpAny_Call_Name_kw (zif I1 hg hm (show bootBuiltins "reversed"=some (.type "reversed") from rfl) ?_ (by decide) (by decide)))
 refine ybb ?_ (by rw[hs];rfl) rfl
 rw[hs];show wpAny _ _ (spliced ((false,eval k X.env)::backTo p2 (starEach [] X.env))) _ _ s1;refine yd2 (thn (hk pins s1 σ H1 _ I1 q1) fun v2 s2 ⟨y,H2,I2,r2,q2⟩=>?_)
 obtain⟨l,ys,rfl,hH,hz,q⟩:=q2;cases r2;refine yde ?_;obtain⟨its,r,pl,hn⟩:=I2.list (SqL.of hH);obtain⟨ps,e1,e2⟩:=PyProof.Rows.strsAre_values (strs_are r);have hl:s2.heap.IsList l (strValues ps).toArray:=by rw[<- e1];exact pl.isList
 have hll:l<s2.heap.objs.size:=by
  obtain⟨o,e,_⟩:=hl;exact yae e
 have hps:ps.length=ys.length:=by rw[<- e2,ya0]
 refine call_reversed_list hl (yde ?_);have e3:ps.reverse.map (·.1)=ys.reverse:=by rw[yef,e2]
 refine join_rv (I2.ok.hd hc) (I:=s2.heap.objs.size) (l:=l) (ps:=ps) (fun z=>yb3 _ (z▸hll)) ⟨?_,?_⟩ ⟨_,yal _ rfl,rfl,rfl⟩ ?_ ?_ ?_ fun h' t' k keep=>?_
 ·exact ybo hll (yae (yal _ rfl))
 ·exact yae (yal _ rfl)
 ·obtain⟨o,e,z⟩:=hl;exact⟨o,yac _ e,z⟩
 ·rw[e3];refine PyProof.Rows.joinOk_of ?_;rw[yef,sum_rev,ycw];rw[zdx]at hz;exact hz
 ·rw[hps,<- ya0 (f:=V.str)];exact hn
 ·rw[e3];exact⟨.str _,H2,I2.kept fun b u e=>keep b u (fun z=>yb3 _ (z▸yae e)) (yac _ e),⟨_,rfl⟩,q⟩
def mJnR(m mk:PSt->Option Rs):PSt->Option Rs:=fun τ=>match m τ with
 |some (.v (.str sep) _)=>(match mk τ with
  |some (.v (.nd _ .lst l) _)=>(match zdp l with
   |some ys=>if (ys.map (·.length)).sum+ys.length * sep.length<=lim then some (.v (.str (Txt.join sep ys.reverse)) false) else none
   |none=>none)
  |_=>none)
 |_=>none
theorem r_jnr(hc:X.calm=true)(hg:Gl X "reversed")(hm:X.mg "reversed"=none)(ho:PE X o (tM X.K E ca m))(hk:PE X k (tM X.K E ca mk))(hbase:attributeBase o "join" X.env (eval o X.env)=eval o X.env)(hs:starEach [k] X.env=[(false,eval k X.env)])(hline:(apos.endLine == cpos.line)=true) :
  PE X (.Call (.Attribute o "join" apos) [.Call (.Name "reversed" p) [k] [] p2] [] cpos) (tM X.K E ca (mJnR m mk)):=by
 refine PE.weak (pe_jnr hc hg hm ho hk hbase hs hline) fun σ H Q h=>?_
 obtain⟨F,τ,R,S,q⟩:=h;refine⟨F,τ,R,S,?_⟩;unfold mJnR at q;cases hm:m τ with
 |none=>rw[hm]at q;exact q.elim
 |some r =>
  rw[hm]at q;cases r with
  |x c=>exact q.elim
  |v t b =>
   cases t with
   |str sep =>
    simp only at q;intro F1 H1 x B e1 g1;have hx:=zdb g1;subst hx;have e1':Ext F H F1 H1 R0:=e1.mono fun _ z=>z.elim
    refine⟨sep,rfl,F1,τ,R,S.ext e1',?_⟩;cases hk2:mk τ with
    |none=>rw[hk2]at q;exact q.elim
    |some r2 =>
     rw[hk2]at q;cases r2 with
     |x c=>exact q.elim
     |v t2 b2 =>
      cases t2 with
      |nd o2 k2 l =>
       cases k2 with
       |lst =>
        simp only at q;intro F2 H2 z B2 e2 g2
        have hr:∃A,Rp X.K F2 H2 (.nd o2 .lst l) z A:=by
         cases b2 with
         |true=>obtain⟨_,A,_,r⟩:=g2;exact⟨A,r⟩
         |false=>exact⟨_,g2⟩
        obtain⟨A,r⟩:=hr;obtain⟨p,xs,rfl,hH,el,kd⟩:=lst_of e2.fh r;cases hy:zdp l with
        |none=>simp only[hy]at q
        |some ys =>
         simp only[hy]at q;have hxs:=zkv hy el kd
         by_cases hz:(ys.map (·.length)).sum+ys.length * sep.length<=lim
         ·rw[if_pos hz]at q;exact⟨p,ys,rfl,by rw[<- hxs];exact hH,hz,q F2 H2 _ R0 ((e1'.trans e2).mono fun _ z=>z.elim) (.str _)⟩
         ·rw[if_neg hz]at q;exact q.elim
       |_=>exact q.elim
      |_=>exact q.elim
   |_=>exact q.elim
end
end Pu
set_option Elab.async false
set_option linter.all false
set_option maxRecDepth 100000
namespace Pu
open PySem PySem.Spec PyProof.Rows L2 Zw Zx
def IteS(x:Str):It :=
 ⟨fun i _=>i<x.cps.size,fun i H y H'=>∃p c,y=.ref p/\H p=none/\H'=upd H p (.tup [.int i,.str ⟨#[c]⟩])/\x.cps[i]?=some c,fun i _=>i=x.cps.size⟩
theorem draws_str{P:Program}{w:World}{A:Around}(hh:A.handled=none)(it:Addr)(x:Str)(t:Tok):Draws P w A it [it] x.cps.size (fun i v=>∃c u,x.cps[i]?=some c/\v=.str ⟨#[c]⟩ u) (fun i h=>h.IsStrIter it (strIterType x) x t i):=by
 cases ha:(x.cps.all fun x=>decide (x<128)) with
 |true =>
  have e:strIterType x="str_ascii_iterator":=by unfold strIterType;rw[ha];rfl
  rw[e];exact Draws.strAscii hh it x t
 |false =>
  have e:strIterType x="str_iterator":=by unfold strIterType;rw[ha];rfl
  rw[e];exact Draws.strWide hh it x t
theorem turn_enumS{P:Program}{w:World}{K:PySem.W.Frag}{elts:List Expr}{kk:Nat}{tpos:Pos}(x:Str)(t:Tok)(e it:Addr)(hei:e≠it) :
  Turn P w K (.Tuple elts kk tpos) (IteS x) [e,it] e (fun i h=>(∃old,IsEnum h e it i old)/\h.IsStrIter it (strIterType x) x t i) where
 mem:=by simp
 obj:=fun i h st b hb=>by
  obtain⟨⟨old,he⟩,o,hi,hc,hd⟩:=st
  rcases ya7.mp hb with hb|hb
  ·subst hb
   exact⟨_,he,fun v z=>by
    have z':Data.fields _=Data.cell v:=z;cases z'⟩
  ·have q:b=it:=by simpa using hb
   subst q;exact⟨o,hi,fun v z=>by rw[hd]at z;cases z⟩
 keep:=fun i h h' st k=>by
  obtain⟨⟨old,he⟩,o,hi,r⟩:=st;exact⟨⟨old,k e (by simp) _ he⟩,o,k it (by simp) o hi,r⟩
 item:=by
  intro X hP hw hK hc i pins s σ H E I hf st hg;subst hP hw hK;obtain⟨⟨old,he⟩,hit⟩:=st;have hi:i<x.cps.size:=hg;have elt:e<s.heap.objs.size:=yae he;have ilt:it<s.heap.objs.size:=by obtain⟨o,q,_⟩:=hit;exact yae q
  have hn:H s.heap.objs.size=none:=I.hok.fresh (yad _);refine wpAny_pyNext_enum_itemD (draws_str (A:=X.A.in1) (I.ok.hd hc) it x t) he hit hi hei (by simpa using hei) fun u h' tk hu ho hit' hT hsz hk=>?_
  obtain⟨c,u',hcx,rfl⟩:=hu
  have I1:Inv X pins σ (upd H s.heap.objs.size (.tup [.int i,.str ⟨#[c]⟩])) { s with heap:=h',toks:=tk+1 }:=by
   refine zn7 (ch:=[e,it]) I (fun b o hb q=>hk b o (fun z=>hb (by simp[z])) (fun z=>hb (by simp[z])) q) hf (yad _) ?_
   exact⟨by simp only[ya8,ybd];rw[sizeLine_eq];decide,[.int i tk,.str ⟨#[c]⟩ u'],.cons ⟨_,rfl⟩ (.cons ⟨_,rfl⟩ .nil),_,hT,rfl,0,rfl⟩
  have f1:∀b∈[e,it],FpOk X pins (upd H s.heap.objs.size (.tup [.int i,.str ⟨#[c]⟩])) b:=fun b hb=>fp_upd (hf b hb) (by
   rcases ya7.mp hb with hb|hb
   ·exact yau (hb▸elt)
   ·have q:b=it:=by simpa using hb
    exact yau (q▸ilt))
  refine⟨.ref s.heap.objs.size,rfl,wpAny_letOwnedTupleGo_enum ho fun h2 he2 hs2=>?_⟩
  refine⟨.ref s.heap.objs.size,_,zhn (t':=tk+1) (ch:=[e]) I1 (fun b o hb q=>hs2.extBut b o (fun z=>hb (by simp[z])) q) (fun b hb=>f1 b (by simp at hb;simp[hb])),rfl,⟨_,c,rfl,hn,rfl,hcx⟩,⟨⟨_,by simpa using he2⟩,?_⟩,fun b hb=>(f1 b hb).1⟩
  obtain⟨o,h1,h2⟩:=hit';exact⟨o,hs2.extBut it o (yb8 hei) h1,h2⟩
 done:=by
  intro X hP hw hK hc i pins s σ H E I hf st hg;subst hP hw hK;obtain⟨⟨old,he⟩,hit⟩:=st;have hi:i=x.cps.size:=hg;subst hi;exact wpAny_pyNext_enum_endD (draws_str (A:=X.A.in1) (I.ok.hd hc) it x t) he hit fun h' eb=>⟨rfl,zhn (t':=s.toks) (ch:=[it]) I (fun b o hb q=>eb b o (fun z=>hb (by simp[z])) q) (fun b hb=>hf b (by simp at hb;simp[hb]))⟩
 self:=fun _ _ _ _ _ st h=>wpAny_pyIter_enum st.1.choose_spec h
section
variable {X:Cx}{E:L2.St->XK}{ca:Str->Value}{ms:PSt->Option RsL}{a:Expr}{elts:List Expr}{kk:Nat}{p pos tpos:Pos}
def iEnumS(ta:TA):TI:=fun σ H R=>ta σ H fun vs H1=>∃y,vs=[.str y]/\R (IteS y) H1
theorem pi_enumS{ta:TA}(hg:Gl X "enumerate")(hm:X.mg "enumerate"=none)(ha:PA X [a] ta)(hs:starEach [a] X.env=[(false,eval a X.env)]):PI X (.Tuple elts kk tpos) (.Call (.Name "enumerate" p) [a] [] pos) (iEnumS ta):=by
 intro pins s σ H R I h;refine Call_ (zif I hg hm boot_enumerate (ybb (thn (ha pos pins s σ H _ I h) fun us s1 ⟨vs,H1,I1,r1,q1⟩=>?_) hs rfl))
 obtain⟨y,rfl,q⟩:=q1;obtain⟨u,rfl,ru⟩:=ziz r1;obtain⟨t,rfl⟩:=(show ∃t,u=Value.str y t from ru);refine call_enumerate_str fun h' he hit hsz hk=>?_
 have I2:Inv X pins σ H1 { s1 with heap:=h',toks:=s1.toks }:=I1.kept hk
 refine wpAny_pyIter_enum he ⟨s1.heap.objs.size+1,[s1.heap.objs.size+1,s1.heap.objs.size],_,_,H1,rfl,I2,turn_enumS y t _ _ (by simp),⟨⟨_,he⟩,hit⟩,fun b hb=>?_,q⟩
 have hb':s1.heap.objs.size<=b:=by
  rcases ya7.mp hb with hb|hb
  ·rw[hb];exact yc5 _
  ·have e:b=s1.heap.objs.size:=by simpa using hb
   rw[e];exact yad _
 exact I1.fpOk hb' (I1.hok.fresh hb')
theorem its_enumS{K:PySem.W.Frag}{F:Hp}{x:Str}:Its K (IteS x) F (zhe 0 (sgnT x)):=by
 intro i F' H' s1 s2;refine⟨fun t ht=>?_,fun e=>?_⟩
 ·rw[zm0]at ht;obtain⟨t',e1,rfl⟩:=ya2.mp ht;unfold sgnT at e1;rw[yaa]at e1;obtain⟨c,e2,rfl⟩:=ya2.mp e1;have hi:i<x.cps.size:=by simpa using (ya4.mp e2).1
  refine⟨hi,fun y H'' z=>?_⟩
  obtain⟨p,c',rfl,hp,rfl,hc⟩:=z;rw[ybh,hc]at e2;cases e2;refine⟨_,Ext.new (o:=.tup [.int i,.str ⟨#[c]⟩]) s2 hp,Rps.of_node (k:=.tup) (xs:=[.int i,.str ⟨#[c]⟩]) zau ?_⟩;have e0:((0+i:Nat):Int)=(i:Int):=by simp
  rw[e0];exact .cons (H:=H') (.int _) (.cons (H:=H') (.str _) .nil)
 ·show i=x.cps.size;rw[e,zgt];simp[sgnT]
def iEnX(ms:PSt->Option RsL):PSt->Option RsL:=fun τ=>match ms τ with
 |some (.v [.str x] false)=>some (.v (zhe 0 (sgnT x)) false)
 |_=>zjn ms τ
theorem r_enX(hg:Gl X "enumerate")(hm:X.mg "enumerate"=none)(ha:PA X [a] (tMs X.K E ca ms))(hs:starEach [a] X.env=[(false,eval a X.env)]):PI X (.Tuple elts kk tpos) (.Call (.Name "enumerate" p) [a] [] pos) (tI X.K E ca (iEnX ms)):=by
 refine PI.weak (PI.or (r_enum hg hm ha hs) (pi_enumS hg hm ha hs)) fun σ H P h=>?_
 obtain⟨F,τ,R,S,q⟩:=h
 by_cases hx:∃x,ms τ=some (.v [.str x] false)
 ·obtain⟨x,hm⟩:=hx;have e:iEnX ms τ=some (.v (zhe 0 (sgnT x)) false):=by unfold iEnX;rw[hm]
  rw[e]at q;refine .inr ⟨F,τ,R,S,?_⟩;rw[hm];intro F1 H1 xs e1 rs;obtain⟨x1,xs1,rfl,r1,rs1⟩:=rs.inv;cases rs1.inv0;rw[r1.str_inv];exact⟨x,rfl,q F1 H1 _ e1 its_enumS⟩
 ·have e:iEnX ms τ=zjn ms τ:=by
   unfold iEnX;split
   ·rename_i x hm;exact absurd ⟨x,hm⟩ hx
   ·rfl
  rw[e]at q;exact .inl ⟨F,τ,R,S,q⟩
end
section
variable {X:Cx}{E:L2.St->XK}{ca:Str->Value}{m mk:PSt->Option Rs}{o k e:Expr}{pos pos' apos cpos:Pos}
theorem mt_stw:MtM X "str.startswith" (fun x vs H Q=>∃x1 y:Str,x=.str x1/\vs=[.str y]/\Q (.bl (Txt.startswith x1 y)) H):=by
 intro pins s σ H x vs v us Q I rx rv h;obtain⟨x1,y,rfl,rfl,q⟩:=h;obtain⟨t,rfl⟩:=(show ∃t,v=Value.str x1 t from rx);obtain⟨u,rfl,ru⟩:=rv.one;obtain⟨u1,rfl⟩:=(show ∃t,u=Value.str y t from ru);exact SC.startswith ⟨.bl _,H,I,rfl,q⟩
def mStw(m mk:PSt->Option Rs):PSt->Option Rs:=fun τ=>match m τ with
 |some (.v (.str x) _)=>(match mk τ with
  |some (.v (.str y) _)=>some (.v (.bl (Txt.startswith x y)) false)
  |_=>none)
 |_=>none
theorem r_stw(ho:PE X o (tM X.K E ca m))(hk:PE X k (tM X.K E ca mk))(hbase:attributeBase o "startswith" X.env (eval o X.env)=eval o X.env)(hs:starEach [k] X.env=[(false,eval k X.env)])(hline:(apos.endLine == cpos.line)=true) :
  PE X (.Call (.Attribute o "startswith" apos) [k] [] cpos) (tM X.K E ca (mStw m mk)):=by
 refine PE.weak (pe_bm yc6 PySem.F.slot_str_startswith PySem.F.type_str_startswith mt_stw ho (zcc hk zfs hs) hbase (by rw[hs];rfl) hline hs rfl) fun σ H Q h=>?_
 obtain⟨F,τ,R,S,q⟩:=h;refine⟨F,τ,R,S,?_⟩;unfold mStw at q;cases hm:m τ with
 |none=>rw[hm]at q;exact q.elim
 |some r =>
  rw[hm]at q;cases r with
  |x c=>exact q.elim
  |v t b =>
   cases t with
   |str x =>
    simp only at q;intro F1 H1 x' B e1 g1;have hx:=zdb g1;subst hx;have e1':Ext F H F1 H1 R0:=e1.mono fun _ z=>z.elim
    refine⟨rfl,F1,τ,R,S.ext e1',?_⟩;cases hk2:mk τ with
    |none=>rw[hk2]at q;exact q.elim
    |some r2 =>
     rw[hk2]at q;cases r2 with
     |x c=>exact q.elim
     |v t2 b2 =>
      cases t2 with
      |str y =>
       simp only at q;intro F2 H2 z B2 e2 g2;have hz:=zdb g2;subst hz;have e2':Ext F1 H1 F2 H2 R0:=e2.mono fun _ z=>z.elim
       exact⟨x,y,rfl,rfl,q F2 H2 _ R0 (e1'.trans0 e2') (.bl _)⟩
      |_=>exact q.elim
   |_=>exact q.elim
theorem mt_enw:MtM X "str.endswith" (fun x vs H Q=>∃x1 y:Str,x=.str x1/\vs=[.str y]/\Q (.bl (Txt.endswith x1 y)) H):=by
 intro pins s σ H x vs v us Q I rx rv h;obtain⟨x1,y,rfl,rfl,q⟩:=h;obtain⟨t,rfl⟩:=(show ∃t,v=Value.str x1 t from rx);obtain⟨u,rfl,ru⟩:=rv.one;obtain⟨u1,rfl⟩:=(show ∃t,u=Value.str y t from ru);exact SC.endswith ⟨.bl _,H,I,rfl,q⟩
def mEnw(m mk:PSt->Option Rs):PSt->Option Rs:=fun τ=>match m τ with
 |some (.v (.str x) _)=>(match mk τ with
  |some (.v (.str y) _)=>some (.v (.bl (Txt.endswith x y)) false)
  |_=>none)
 |_=>none
theorem r_enw(ho:PE X o (tM X.K E ca m))(hk:PE X k (tM X.K E ca mk))(hbase:attributeBase o "endswith" X.env (eval o X.env)=eval o X.env)(hs:starEach [k] X.env=[(false,eval k X.env)])(hline:(apos.endLine == cpos.line)=true) :
  PE X (.Call (.Attribute o "endswith" apos) [k] [] cpos) (tM X.K E ca (mEnw m mk)):=by
 refine PE.weak (pe_bm yc6 PySem.F.slot_str_endswith PySem.F.type_str_endswith mt_enw ho (zcc hk zfs hs) hbase (by rw[hs];rfl) hline hs rfl) fun σ H Q h=>?_
 obtain⟨F,τ,R,S,q⟩:=h;refine⟨F,τ,R,S,?_⟩;unfold mEnw at q;cases hm:m τ with
 |none=>rw[hm]at q;exact q.elim
 |some r =>
  rw[hm]at q;cases r with
  |x c=>exact q.elim
  |v t b =>
   cases t with
   |str x =>
    simp only at q;intro F1 H1 x' B e1 g1;have hx:=zdb g1;subst hx;have e1':Ext F H F1 H1 R0:=e1.mono fun _ z=>z.elim
    refine⟨rfl,F1,τ,R,S.ext e1',?_⟩;cases hk2:mk τ with
    |none=>rw[hk2]at q;exact q.elim
    |some r2 =>
     rw[hk2]at q;cases r2 with
     |x c=>exact q.elim
     |v t2 b2 =>
      cases t2 with
      |str y =>
       simp only at q;intro F2 H2 z B2 e2 g2;have hz:=zdb g2;subst hz;have e2':Ext F1 H1 F2 H2 R0:=e2.mono fun _ z=>z.elim
       exact⟨x,y,rfl,rfl,q F2 H2 _ R0 (e1'.trans0 e2') (.bl _)⟩
      |_=>exact q.elim
   |_=>exact q.elim
def sAug(i:Nat)(m:PSt->Option Rs):PSt->Option Out:=fun τ=>match τ[i]? with
 |some (some (.int a))=>(match m τ with
  |some (.v (.int b) _)=>some (.nx (τ.set i (some (.int (a+b)))))
  |_=>none)
 |_=>none
theorem s_aug{mu:Bool}{i:Nat}{x:Str}(hN:X.N.Nodup)(hi:X.N[i]?=some x)(hx:Loc X.env.scope x)(he:PE X e (tM X.K E ca m))(hf:X.fn x=true\/X.env.scope.names.lookup x=some .local) :
  PS X (.AugAssign (.Name x pos') .Add e pos) (tS X.K E ca mu (sAug i m)):=by
 refine PS.weak (ps_aug hN hi hx he ip_add hf) fun D σ H h=>?_
 obtain⟨F,τ,R,S,q⟩:=h;unfold sAug at q;cases ht:τ[i]? with
 |none=>rw[ht]at q;exact q.elim
 |some ot =>
  rw[ht]at q;cases ot with
  |none=>exact q.elim
  |some t =>
   cases t with
   |int a =>
    simp only at q;obtain⟨y,ey,ry⟩:=S.rep i _ ht;have hy:=ry.int_inv;subst hy;refine⟨_,ey,F,τ,R,S,?_⟩;cases hm:m τ with
    |none=>rw[hm]at q;exact q.elim
    |some r =>
     rw[hm]at q;cases r with
     |x c=>exact q.elim
     |v t b =>
      cases t with
      |int z =>
       simp only at q;intro F1 H1 y B e1 g1;have hy:=got_int g1;subst hy;have e1':Ext F H F1 H1 R0:=e1.mono fun _ z=>z.elim
       refine⟨a,z,rfl,rfl,?_⟩;refine q F1 H1 _ _ (e1'.stp0.mono fun b ⟨j,w⟩=>⟨j,?_⟩) ((S.ext e1').set (.int (a+z)) (fun _ _ _ _ z=>z.elim) (ya4.mp ht).1)
       by_cases hj:j=i
       ·simp only[hj,if_true]at w;exact w.elim
       ·simpa[hj] using w
      |_=>exact q.elim
   |_=>exact q.elim
def tRv(K:PySem.W.Frag)(te:TE)(ts:TO):TE:=fun σ H Q=>te σ H fun x H1=>ts σ H1 fun k H2=>∃a xs,k=some (-1)/\x=.ref a/\SqL K H2 a xs/\∀p,H2 p=none->Q (.ref p) (upd H2 p (.lst xs.reverse))
theorem vals_rev{xs:List V}{us:List Value}(h:zb9 xs us):zb9 xs.reverse us.reverse:=by
 induction h with
 |nil=>exact .nil
 |cons a _ ih =>
  rw[ycp,ycp];exact ih.append (.cons a .nil)
theorem pe_rv{te:TE}{ts:TO}{st:Expr}{p2:Pos}(he:PE X e te)(hs:PO X (some st) ts):PE X (.Subscript e (.Slice none none (some st) p2) pos) (tRv X.K te ts):=by
 intro pins s σ H Q I h;refine Subscript_ (thn (he pins s σ H _ I h) fun v s1 ⟨x,H1,I1,r1,q1⟩=>?_)
 refine wpAny_Slice ?_;rw[evalPart_none];refine wpAny_pure (wpAny_pure ?_);refine thn (hs pins s1 σ H1 _ I1 q1) fun vk s3 ⟨k,H3,I3,pk,q3⟩=>?_
 obtain⟨a,xs,rfl,rfl,hx,q⟩:=q3;cases r1;have I4:Inv X pins σ H3 { s3 with heap:=s3.heap.push { cls:=.type "slice",data:=.fields #[.none,.none,vk] } }:=I3.kept (t':=s3.toks) fun b ob q=>yac _ q
 obtain⟨its,r,ht,hz⟩:=I4.list hx;show wpAny (model X.prog X.w) X.A (subscriptTail e (.Slice none none (some st) p2) (.ref a) (.ref s3.heap.objs.size)) (EP X pins σ Q) X.xe { s3 with heap:=s3.heap.push { cls:=.type "slice",data:=.fields #[.none,.none,vk] } }
 refine tail_any (ops:=[.ref a,.ref s3.heap.objs.size]) ht.isList.typeIs slot_list_getitem.lookup (wpAny_getItem_list_slice ht.isList (Heap.IsSliceOf.new ..) .none .none pk (by decide) ?_ (by rw[yag,<- r.length];exact hz)) (by with_unfolding_all rfl)
 rw[PySem.W.krv_pick];refine⟨.ref _,_,I4.laid (t':=s3.toks) (o:=.lst xs.reverse) (fun b ob q=>yac _ q) (yad _) ?_,rfl,q _ (I4.hok.fresh (yad _))⟩
 exact⟨by rw[ycw];exact hz,_,0,vals_rev r,yal _ rfl⟩
def mRv(m mk:PSt->Option Rs):PSt->Option Rs:=fun τ=>match m τ with
 |some (.v (.nd _ .lst l) false)=>(match zjc (some mk) τ with
  |some (some k)=>if k=-1 then some (.v (.own (zae l).reverse) false) else none
  |_=>none)
 |_=>none
theorem rev_rps{K:PySem.W.Frag}{F:Hp}{l:List T}{xs:List V}(h:Rps K F l xs):Rps K F l.reverse xs.reverse:=by
 obtain⟨h1,h2⟩:=h;refine⟨by simp[h1],fun i t x e1 e2=>?_⟩
 have hi:i<l.length:=by simpa using (ya4.mp e1).1
 rw[ydn hi]at e1;rw[ydn (by omega)]at e2
 refine h2 _ t x e1 ?_;rw[h1];exact e2
theorem r_rv{st:Expr}{p2:Pos}(ha:PE X e (tM X.K E ca m))(hs:PO X (some st) (tPo X.K (some mk))):PE X (.Subscript e (.Slice none none (some st) p2) pos) (tM X.K E ca (mRv m mk)):=by
 refine PE.weak (pe_rv ha hs) fun σ H Q h=>?_
 obtain⟨F,τ,R,S,q⟩:=h;refine⟨F,τ,R,S,?_⟩;unfold mRv at q;cases hm:m τ with
 |none=>rw[hm]at q;exact q.elim
 |some r =>
  rw[hm]at q;cases r with
  |x c=>exact q.elim
  |v t b =>
   cases t with
   |nd o kd l =>
    cases kd with
    |lst =>
     cases b with
     |true=>exact q.elim
     |false =>
      simp only at q;intro F1 H1 x B e1 g1;obtain⟨F1',e1',_,r1⟩:=Got.frz (b:=false) S e1 g1;have S1:=S.ext e1';cases h1:zjc (some mk) τ with
      |none=>rw[h1]at q;exact q.elim
      |some ok =>
       rw[h1]at q;cases ok with
       |none=>exact q.elim
       |some k =>
        simp only at q
        by_cases hk:k=-1
        ·rw[if_pos hk]at q;refine⟨F1',τ,R,some k,S1,h1,fun F2 H2 e2=>?_⟩
         have r3:Rp X.K F2 F2 (T.nd o .lst l).share x R0:=(show Rp X.K F1' F1' _ x R0 from r1).frame e2.ff fun _ z=>z.elim
         rw[T.share]at r3;obtain⟨p,xs,rfl,_,n3,k3⟩:=zcd r3;refine⟨p,xs,by rw[hk],rfl,SqL.of (e2.fh _ _ n3),fun p' hp'=>?_⟩
         have gg:zmd X.K F2 H2 (.own (zae l).reverse) Q:=fun F' H' z C e g=>q F' H' z C ((e1'.trans0 e2).trans0 e) g
         exact gg.list e2.fh (rev_rps k3) hp'
        ·rw[if_neg hk]at q;exact q.elim
    |_=>exact q.elim
   |_=>exact q.elim
end
end Pu
set_option Elab.async false
set_option linter.all false
set_option maxRecDepth 100000
noncomputable section
namespace Pu
open PySem PySem.Spec PyProof.Rows L2 Zw Zx
structure Fn where
 lv:Nat
 ps:List Str
 g:List T->Option Ru
structure Gx where
 co:List (Str×T)
 cl:List (Str×Addr×List Str)
 mt:List (Str×Addr×List Str×Fn)
 nw:List (Str×Fn×List (Nat×List T))
 nr:Bool
 tx:Bool
 df:Bool
 sf:Option (Addr×List Str)
 xs:List (Str×List (Str×Addr))
 sb:List (Str×List (Addr×Bool))
 sv:List (Str×List (Addr×Bool))
 no:Bool
 fo:List Str
 ci:List (Str×List (Addr×Bool))
 x2:List (Str×Str×List (Str×Addr))
 gt:List Str
set_option genInjectivity false in
structure Gm where
 N:List Str
 nm:List (Str×NameKind)
 ce:List Str
 lv:Nat
 fns:List (Str×Fn)
 bl:List Str
 ex:List Str
 ow:List Str
 pk:List Str
 mu:Bool
 mus:List (Str×Fn)
 mv:List Str
 dc:List Str
 ox:Gx
def zds(x:Str):Bool:=!(x == ("__debug__":Str)) && !(x == ("__classdict__":Str)) && !(x == ("__name__":Str))
def visN(nm:List (Str×NameKind))(x:Str):Bool:=nm.lookup x == some .local || nm.lookup x == some .cell || nm.lookup x == some .free
def glN(nm:List (Str×NameKind))(x:Str):Bool:=nm.lookup x == some .globalImplicit
def ixOf(N:List Str)(x:Str):Option Nat:=N.findIdx? (· == x)
def Gm.var(Γ:Gm)(x:Str):Option Nat:=if zds x && visN Γ.nm x then ixOf Γ.N x else none
def Gm.loc(Γ:Gm)(x:Str):Bool:=zds x && (Γ.nm.lookup x == some .local || Γ.ce.contains x)
def zb5:Expr->Bool
 |.Starred ..=>false
 |_=>true
def opF:Operator->Option (T->T->Option T)
 |.Add=>some zcl
 |.Sub=>some subT
 |.Mult=>some mulT
 |.Mod=>some zhc
 |.FloorDiv=>some zhd
 |.Pow=>some powT
 |.BitOr=>some borT
 |.BitAnd=>some bandT
 |_=>none
def cmpF:CmpOp->Option (T->T->Option T)
 |.Eq=>some eqT
 |.NotEq=>some neT
 |.Lt=>some (cmpT fun i j=>decide (i<j))
 |.LtE=>some (cmpT fun i j=>decide (i<=j))
 |.Gt=>some (cmpT fun i j=>decide (j<i))
 |.GtE=>some (cmpT fun i j=>decide (j<=i))
 |.Is=>some (isT2 false)
 |.IsNot=>some (isT2 true)
 |.In=>some inT
 |.NotIn=>some zl9
def bltG(f:Str):Option (List T->Option T) :=
 if f="len" then some (g1 zk2) else if f="list" then some (g1 zei) else if f="abs" then some (g1 absT) else
 if f="tuple" then some (g1 tupT) else
 if f="int" then some (g1 intT) else
 if f="str" then some (g1 strT) else
 if f="min" then some (g2 minT) else
 if f="all" then some (g1 allT) else
 if f="any" then some (g1 anyT) else none
def tyName(c:Str):Option String:=if c="int" then some "int" else if c="bool" then some "bool" else if c="str" then some "str" else if c="list" then some "list" else if c="tuple" then some "tuple" else none
def okT:Expr->Bool
 |.IfExp ..=>false
 |.NamedExpr ..=>false
 |_=>true
def nmOf:Expr->Option (Str×Pos)
 |.Name x p=>some (x,p)
 |_=>none
theorem zg7{t:Expr}{x:Str}{p:Pos}(h:nmOf t=some (x,p)):t=.Name x p:=by
 unfold nmOf at h;split at h
 ·cases h;rfl
 ·cases h
def tgNs:List Expr->List Str
 |[]=>[]
 |e::es=>(match nmOf e with
  |some (x,_)=>x::tgNs es
  |none=>tgNs es)
def tgN:Expr->List Str
 |.Name x _=>[x]
 |.Tuple es _ _=>tgNs es
 |_=>[]
def isTupE:Expr->Bool
 |.Tuple ..=>true
 |_=>false
def zgi:Expr->Bool
 |.Slice ..=>true
 |_=>false
def zfz(nm:List (Str×NameKind)):List Str:=nm.filterMap fun(y,k)=>if k == .free then some y else none
def cellsN(nm:List (Str×NameKind)):List Str:=nm.filterMap fun(y,k)=>if k == .cell then some y else none
def relabN(inner outer:List (Str×NameKind)):List (Str×NameKind):=inner.map fun(n,k)=>if (k == .free && outer.lookup n == some .cell) then (n,.cell) else (n,k)
def capIx(N:List Str):List Str->Option (List Nat)
 |[]=>some []
 |y::r=>(match ixOf N y with
  |some i=>(match capIx N r with
   |some l=>some (i::l)
   |none=>none)
  |none=>none)
def blkOk(Γ:Gm)(scope:Scope)(N':List Str):Bool :=
 (scope.kind == .function) && scope.names.all (fun x=>!(x.2 == .local) || scope.names.lookup x.1 == some .local) &&
 scope.names.all (fun x=>!(x.2 == .free) || (scope.names.lookup x.1 == some .free && (Γ.nm.lookup x.1 == some .cell || Γ.nm.lookup x.1 == some .free) && !(scope.names.contains (x.1,NameKind.cell)))) &&
 decide N'.Nodup && (cellsN scope.names).all (fun y=>(relabN scope.names Γ.nm).lookup y == some .cell)
def Gm.blk(Γ:Gm)(scope:Scope)(N':List Str):Gm:={ Γ with N:=N',nm:=relabN scope.names Γ.nm,ce:=(cellsN scope.names).filter fun y=>scope.names.lookup y == some .cell,ow:=[],ox:={ Γ.ox with df:=false,nr:=true } }
def dGs(Γ:Gm):List Expr->Option (List T->PSt->Option PSt)
 |[]=>some ziv
 |e::es=>(match nmOf e with
  |some (x,_)=>if Γ.loc x then (match ixOf Γ.N x,dGs Γ es with
   |some i,some b=>some (zao (bNm i) b)
   |_,_=>none) else none
  |none=>none)
def dG(Γ:Gm):Expr->Option (T->PSt->Option PSt)
 |.Name x _=>if Γ.loc x then (ixOf Γ.N x).map bNm else none
 |.Tuple es _ _=>(dGs Γ es).map (zi4 es.length)
 |_=>none
def zl6:Expr->Bool
 |.Call ..=>false
 |_=>true
theorem zi3{o:Expr}{f:Str}{env:Env}(h:zl6 o=true):attributeBase o f env (eval o env)=eval o env:=by
 cases o<;>first|rfl|cases h
theorem meth_tree{o:Expr}{f:Str}{ap pos:Pos}{es:List Expr}{env:Env}(h:zl6 o=true)(hf:((backTo pos (starEach es env)).all fun x=>!x.1)=true)(hn:es.length<30)(hl:(ap.endLine == pos.line)=true):∃pl:Sem Bool,eval (.Call (.Attribute o f ap) es [] pos) env=(do
   let ov <- eval o env
   standAt ap.atName
   let (f,first) <- holding [ov] (getMethod ov f pl)
   callWith pos f first (backTo pos (starEach es env)) (backToKw pos (keywordEach [] env))):=by
 refine⟨do let b <- importBound o env;pure (b.getD true),?_⟩
 have e:methodCallForm (es.length+([]:List Keyword).length) (backTo pos (starEach es env)) (backToKw pos (keywordEach [] env))=true:=by
  unfold methodCallForm;rw[hf];show(true && true && decide (es.length+0+0<30))=true;rw[decide_eq_true (by omega)];rfl
 rw[arm_eval_Call,zi3 h];unfold methodCall calleeOf methodCallPos;rw[e,hl]
 rfl
def fldA(f:Str)(m:PSt->Option Rs):List (Str×Addr×List Str)->Option (PSt->Option Rs)
 |[]=>none
 |(_,C,fs)::r=>(match fs.findIdx? (· == f) with
  |some j=>(match fldA f m r with
   |some m2=>some (zjd (zie C fs j m) m2)
   |none=>some (zie C fs j m))
  |none=>fldA f m r)
def metA(f:Str)(m:PSt->Option Rs)(ms:PSt->Option RsL):List (Str×Addr×List Str×Fn)->Option (PSt->Option Rs)
 |[]=>none
 |(g,C,fs,F)::r=>if g=f && !(fs.contains f) then (match metA f m ms r with
   |some m2=>some (zjd (zfi C fs F.g m ms) m2)
   |none=>some (zfi C fs F.g m ms))
  else metA f m ms r
def chnF:CmpOp->Option (T->T->Option T)
 |.LtE=>some leT
 |op=>cmpF op
def setOf(f:Str)(e:Expr)(es:List Expr):Option (Expr×Pos×Pos):=if f="len" then (match es with
 |[]=>(match e with
  |.Call g as ks c=>(match nmOf g,as,ks with
   |some (x,p),[a],[]=>if x="set" then some (a,p,c) else none
   |_,_,_=>none)
  |_=>none)
 |_=>none) else none
theorem setOf_is{f:Str}{e a:Expr}{es:List Expr}{p c:Pos}(h:setOf f e es=some (a,p,c)):f="len"/\es=[]/\e=.Call (.Name "set" p) [a] [] c:=by
 unfold setOf at h;split at h
 ·rename_i hf;split at h
  ·split at h
   ·split at h
    ·rename_i hn;split at h
     ·rename_i hx;cases h;rw[zg7 hn,hx];exact⟨hf,rfl,rfl⟩
     ·cases h
    ·cases h
   ·cases h
  ·cases h
 ·cases h
def revOf(f:Str)(es:List Expr):Option (Expr×Pos×Pos):=if f="join" then (match es with
 |[.Call g as ks c]=>(match nmOf g,as,ks with
  |some (x,p),[a],[]=>if x="reversed" then some (a,p,c) else none
  |_,_,_=>none)
 |_=>none) else none
theorem revOf_is{f:Str}{a:Expr}{es:List Expr}{p c:Pos}(h:revOf f es=some (a,p,c)):f="join"/\es=[.Call (.Name "reversed" p) [a] [] c]:=by
 unfold revOf at h;split at h
 ·rename_i hf;split at h
  ·split at h
   ·rename_i hn;split at h
    ·rename_i hx;cases h;rw[zg7 hn,hx];exact⟨hf,rfl⟩
    ·cases h
   ·cases h
  ·cases h
 ·cases h
def itV(Γ:Gm)(m:PSt->Option Rs):PSt->Option RsL:=if Γ.ox.tx then zfj m else iVal m
def enV(Γ:Gm)(ms:PSt->Option RsL):PSt->Option RsL:=if Γ.ox.tx then iEnX ms else zjn ms
def isAt:Expr->Bool
 |.Attribute ..=>true
 |_=>false
def slA(Γ:Gm)(ma:PSt->Option Rs)(ml mh:Option (PSt->Option Rs)):PSt->Option Rs:=if Γ.ox.tx then zjd (mSl ma ml mh) (zme ma ml mh) else mSl ma ml mh
def gtN(Γ:Gm):Expr->Bool
 |.Name x _=>Γ.ox.gt.contains x
 |_=>false
noncomputable def ixA(Γ:Gm)(a:Expr)(ma mk:PSt->Option Rs):PSt->Option Rs:=if isAt a || gtN Γ a then mGt ma mk else mIx ma mk
def kyOf(f:Str)(e:Expr)(es:List Expr):Bool:=decide (f="list") && isAt e && es.isEmpty
theorem kyOf_is{f:Str}{e:Expr}{es:List Expr}(h:kyOf f e es=true):f="list"/\es=[]/\isAt e=true:=by
 unfold kyOf at h;simp only[ya3,decide_eq_true_eq,yeg]at h;exact⟨h.1.1,h.2,h.1.2⟩
mutual
def dE:Nat->Gm->Expr->Option (PSt->Option Rs)
  |0,_,_=>none
  |n+1,Γ,e=>match e with
    |.Constant (.int i) _ _=>some (mC (.int i))
    |.Constant (.bool b) _ _=>some (mC (.bl b))
    |.Constant .none _ _=>some (mC .non)
    |.Constant (.str x) _ _=>some (mC (.str x))
    |.Name x _=>(match Γ.var x with
      |some i=>some (za5 i)
      |none=>if zds x && glN Γ.nm x then (Γ.ox.co.lookup x).map mC else none)
    |.Attribute o f _=>if zl6 o then (match dE n Γ o with
      |some m=>fldA f m Γ.ox.cl
      |none=>none) else none
    |.Call (.Attribute o f ap) es [] c=>if !(zl6 o && ap.endLine == c.line && decide (es.length<30)) then none else
      if (revOf f es).isSome then (match dE n Γ o,(revOf f es).bind (fun z=>dE n Γ z.1) with
        |some m,some mk=>if glN Γ.nm "reversed" && Γ.bl.contains "reversed" && (revOf f es).any (fun z=>zb5 z.1) then some (mJnR m mk) else none
        |_,_=>none) else
      (match dE n Γ o,dA n Γ es with
      |some m,some ms =>
        if f="endswith" then (match es with
          |[k]=>(dE n Γ k).map (mEnw m)
          |_=>none)
        else
        if f="startswith" then (match es with
          |[k]=>(dE n Γ k).map (mStw m)
          |_=>none)
        else
        if f="split" then (match es with
          |[k]=>(dE n Γ k).map (mSpl m)
          |_=>none)
        else
        if f="join" then (match es with
          |[k]=>(dE n Γ k).map (mJn m)
          |_=>none)
        else
        metA f m ms Γ.ox.mt
      |_,_=>none)
    |.Compare a [op,op'] [b,c] _=>(match chnF op,chnF op',dE n Γ a,dE n Γ b,dE n Γ c with
      |some g,some g',some ma,some mb,some mc=>if lastMarks [op,op'] [b,c] then none else some (mChn g g' ma mb mc)
      |_,_,_,_,_=>none)
    |.BinOp a op b _=>(match opF op,dE n Γ a,dE n Γ b with
      |some g,some ma,some mb=>some (mAp (g2 g) (za0 ma (za0 mb za4)))
      |_,_,_=>none)
    |.UnaryOp .USub a _=>(match dE n Γ a with
      |some ma=>some (mAp (g1 negT) (za0 ma za4))
      |none=>none)
    |.UnaryOp .Not a _=>if okT a then (dE n Γ a).map zge else none
    |.BoolOp op vs _=>dB n Γ op vs
    |.Compare a [op] [b] _=>(match cmpF op,dE n Γ a,dE n Γ b with
      |some g,some ma,some mb=>if behindInMarks op b then none else some (mAp (g2 g) (za0 ma (za0 mb za4)))
      |_,_,_=>none)
    |.IfExp c a b _=>if okT c then (match dE n Γ c,dE n Γ a,dE n Γ b with
      |some mc,some ma,some mb=>some (mIf mc ma mb)
      |_,_,_=>none) else none
    |.List es _=>(dO n Γ es).map ziy
    |.Tuple es _ _=>(dA n Γ es).map mTup
    |.Subscript a k _=>(match k with
      |.Slice lo hi none _=>(match dE n Γ a,dP n Γ lo,dP n Γ hi with
        |some ma,some ml,some mh=>some (slA Γ ma ml mh)
        |_,_,_=>none)
      |.Slice none none (some st) _=>(match dE n Γ a,dP n Γ (some st) with
        |some ma,some (some mk)=>some (mRv ma mk)
        |_,_=>none)
      |_=>if zgi k then none else (match dE n Γ a,dE n Γ k with
        |some ma,some mk=>some (ixA Γ a ma mk)
        |_,_=>none))
    |.Call (.Name f _) (e::es) [] _ =>
      if zds f && glN Γ.nm f then
        (if Γ.bl.contains f then
          (if f="isinstance" then (match es with
            |[.Name c _]=>if glN Γ.nm c && Γ.bl.contains c && zds c && zb5 e then (match tyName c,dE n Γ e with
              |some t,some m=>some (mAp (g1 (zek t)) (za0 m za4))
              |_,_=>none)
              else if glN Γ.nm c && zds c && zb5 e then (match Γ.ox.ci.lookup c,dE n Γ e with
              |some C,some m=>some (mAp (g1 (isCT C)) (za0 m za4))
              |_,_=>none)
              else none
            |_=>none)
          else (
            match setOf f e es with
            |some (a,_,_)=>if glN Γ.nm "set" && Γ.bl.contains "set" && zb5 a then (dE n Γ a).map fun m=>mAp (g1 unqT) (za0 m za4) else none
            |none =>
            if kyOf f e es then (dE n Γ e).map (fun m=>zjd (mAp (g1 zei) (za0 m za4)) (mKys m)) else
            (match bltG f,dA n Γ (e::es) with
              |some g,some ms=>some (mAp g ms)
              |_,_=>none)))
        else
         match Γ.ox.nw.lookup f with
         |some (F,ds)=>(match ds.lookup (e::es).length,dA n Γ (e::es) with
           |some dts,some ms=>some (mNew F.g dts ms)
           |_,_=>none)
         |none =>
         (match Γ.fns.lookup f, dA n Γ (e :: es) with
          |some F,some ms=>some (zan F.g ms)
          |_,_=>none))
      else none
    |.ListComp elt [⟨tg,iter,ifs,0⟩] scope _=>dC n Γ elt tg iter ifs scope
    |_=>none
def dA:Nat->Gm->List Expr->Option (PSt->Option RsL)
 |0,_,_=>none
 |n+1,Γ,es=>match es with
  |[]=>some za4
  |e::es=>if zb5 e then (match dE n Γ e,dA n Γ es with
   |some m,some ms=>some (za0 m ms)
   |_,_=>none) else none
def dO:Nat->Gm->List Expr->Option (PSt->Option RsL)
 |0,_,_=>none
 |n+1,Γ,es=>match es with
  |[]=>some za4
  |e::es=>if zb5 e then (match dE n Γ e,dO n Γ es with
   |some m,some ms=>some (zb4 m ms)
   |_,_=>none) else none
def dB:Nat->Gm->BoolOp->List Expr->Option (PSt->Option Rs)
 |0,_,_,_=>none
 |n+1,Γ,op,vs=>match vs with
  |[]=>none
  |[a]=>if okT a then dE n Γ a else none
  |a::r=>if okT a then (match op,dE n Γ a,dB n Γ op r with
   |.And,some ma,some mb=>some (mAnd ma mb)
   |.Or,some ma,some mb=>some (mOr ma mb)
   |_,_,_=>none) else none
def dP:Nat->Gm->Option Expr->Option (Option (PSt->Option Rs))
 |0,_,_=>none
 |n+1,Γ,o=>match o with
  |none=>some none
  |some e=>(dE n Γ e).map some
def dC:Nat->Gm->Expr->Expr->Expr->List Expr->Scope->Option (PSt->Option Rs)
 |0,_,_,_,_,_,_=>none
 |n+1,Γ,elt,tg,iter,ifs,scope =>
  if blkOk Γ scope (tgN tg++zfz scope.names) then (match capIx Γ.N (zfz scope.names),dI n Γ tg iter,dG (Γ.blk scope (tgN tg++zfz scope.names)) tg,dE n (Γ.blk scope (tgN tg++zfz scope.names)) elt with
   |some caps,some mi,some b,some me=>(match ifs with
    |[]=>some (mLC (tgN tg).length caps mi b (mC (.bl true)) me)
    |[c]=>if okT c then (match dE n (Γ.blk scope (tgN tg++zfz scope.names)) c with
     |some mt=>some (mLC (tgN tg).length caps mi b mt me)
     |none=>none) else none
    |_=>none)
   |_,_,_,_=>none) else none
def dI:Nat->Gm->Expr->Expr->Option (PSt->Option RsL)
 |0,_,_,_=>none
 |n+1,Γ,tg,e=>match e with
  |.Call (.Name f _) [a] [] _ =>
   if f="range" then (if glN Γ.nm f && Γ.bl.contains f && zb5 a then (dA n Γ [a]).map zc3 else none)
   else if f="enumerate" then (if glN Γ.nm f && Γ.bl.contains f && zb5 a && isTupE tg then (dA n Γ [a]).map (enV Γ) else none)
   else (dE n Γ e).map (itV Γ)
  |.Call (.Name f _) [a,b] [] _ =>
   if f="range" then (if glN Γ.nm f && Γ.bl.contains f && zb5 a && zb5 b then (dA n Γ [a,b]).map zhy else none)
   else (dE n Γ e).map (itV Γ)
  |.Set ..=>none
  |_=>(dE n Γ e).map (itV Γ)
end
def dEb(n:Nat)(Γ:Gm)(e:Expr):Option (PSt->Option Rs):=match e with
    |.Constant (.int i) _ _=>some (mC (.int i))
    |.Constant (.bool b) _ _=>some (mC (.bl b))
    |.Constant .none _ _=>some (mC .non)
    |.Constant (.str x) _ _=>some (mC (.str x))
    |.Name x _=>(match Γ.var x with
      |some i=>some (za5 i)
      |none=>if zds x && glN Γ.nm x then (Γ.ox.co.lookup x).map mC else none)
    |.Attribute o f _=>if zl6 o then (match dE n Γ o with
      |some m=>fldA f m Γ.ox.cl
      |none=>none) else none
    |.Call (.Attribute o f ap) es [] c=>if !(zl6 o && ap.endLine == c.line && decide (es.length<30)) then none else
      if (revOf f es).isSome then (match dE n Γ o,(revOf f es).bind (fun z=>dE n Γ z.1) with
        |some m,some mk=>if glN Γ.nm "reversed" && Γ.bl.contains "reversed" && (revOf f es).any (fun z=>zb5 z.1) then some (mJnR m mk) else none
        |_,_=>none) else
      (match dE n Γ o,dA n Γ es with
      |some m,some ms =>
        if f="endswith" then (match es with
          |[k]=>(dE n Γ k).map (mEnw m)
          |_=>none)
        else
        if f="startswith" then (match es with
          |[k]=>(dE n Γ k).map (mStw m)
          |_=>none)
        else
        if f="split" then (match es with
          |[k]=>(dE n Γ k).map (mSpl m)
          |_=>none)
        else
        if f="join" then (match es with
          |[k]=>(dE n Γ k).map (mJn m)
          |_=>none)
        else
        metA f m ms Γ.ox.mt
      |_,_=>none)
    |.Compare a [op,op'] [b,c] _=>(match chnF op,chnF op',dE n Γ a,dE n Γ b,dE n Γ c with
      |some g,some g',some ma,some mb,some mc=>if lastMarks [op,op'] [b,c] then none else some (mChn g g' ma mb mc)
      |_,_,_,_,_=>none)
    |.BinOp a op b _=>(match opF op,dE n Γ a,dE n Γ b with
      |some g,some ma,some mb=>some (mAp (g2 g) (za0 ma (za0 mb za4)))
      |_,_,_=>none)
    |.UnaryOp .USub a _=>(match dE n Γ a with
      |some ma=>some (mAp (g1 negT) (za0 ma za4))
      |none=>none)
    |.UnaryOp .Not a _=>if okT a then (dE n Γ a).map zge else none
    |.BoolOp op vs _=>dB n Γ op vs
    |.Compare a [op] [b] _=>(match cmpF op,dE n Γ a,dE n Γ b with
      |some g,some ma,some mb=>if behindInMarks op b then none else some (mAp (g2 g) (za0 ma (za0 mb za4)))
      |_,_,_=>none)
    |.IfExp c a b _=>if okT c then (match dE n Γ c,dE n Γ a,dE n Γ b with
      |some mc,some ma,some mb=>some (mIf mc ma mb)
      |_,_,_=>none) else none
    |.List es _=>(dO n Γ es).map ziy
    |.Tuple es _ _=>(dA n Γ es).map mTup
    |.Subscript a k _=>(match k with
      |.Slice lo hi none _=>(match dE n Γ a,dP n Γ lo,dP n Γ hi with
        |some ma,some ml,some mh=>some (slA Γ ma ml mh)
        |_,_,_=>none)
      |.Slice none none (some st) _=>(match dE n Γ a,dP n Γ (some st) with
        |some ma,some (some mk)=>some (mRv ma mk)
        |_,_=>none)
      |_=>if zgi k then none else (match dE n Γ a,dE n Γ k with
        |some ma,some mk=>some (ixA Γ a ma mk)
        |_,_=>none))
    |.Call (.Name f _) (e::es) [] _ =>
      if zds f && glN Γ.nm f then
        (if Γ.bl.contains f then
          (if f="isinstance" then (match es with
            |[.Name c _]=>if glN Γ.nm c && Γ.bl.contains c && zds c && zb5 e then (match tyName c,dE n Γ e with
              |some t,some m=>some (mAp (g1 (zek t)) (za0 m za4))
              |_,_=>none)
              else if glN Γ.nm c && zds c && zb5 e then (match Γ.ox.ci.lookup c,dE n Γ e with
              |some C,some m=>some (mAp (g1 (isCT C)) (za0 m za4))
              |_,_=>none)
              else none
            |_=>none)
          else (
            match setOf f e es with
            |some (a,_,_)=>if glN Γ.nm "set" && Γ.bl.contains "set" && zb5 a then (dE n Γ a).map fun m=>mAp (g1 unqT) (za0 m za4) else none
            |none =>
            if kyOf f e es then (dE n Γ e).map (fun m=>zjd (mAp (g1 zei) (za0 m za4)) (mKys m)) else
            (match bltG f,dA n Γ (e::es) with
              |some g,some ms=>some (mAp g ms)
              |_,_=>none)))
        else
         match Γ.ox.nw.lookup f with
         |some (F,ds)=>(match ds.lookup (e::es).length,dA n Γ (e::es) with
           |some dts,some ms=>some (mNew F.g dts ms)
           |_,_=>none)
         |none =>
         (match Γ.fns.lookup f, dA n Γ (e :: es) with
          |some F,some ms=>some (zan F.g ms)
          |_,_=>none))
      else none
    |.ListComp elt [⟨tg,iter,ifs,0⟩] scope _=>dC n Γ elt tg iter ifs scope
    |_=>none
theorem zaf{n:Nat}{Γ:Gm}{e:Expr}:dE (n+1) Γ e=dEb n Γ e:=rfl
end Pu
end
set_option Elab.async false
set_option linter.all false
set_option maxRecDepth 100000
namespace Pu
open PySem PySem.Spec PyProof.Rows L2 Zw Zx
structure GxOk(G:Gx)(lv:Nat)(P:Program)(w:World)(K:PySem.W.Frag)(mg:Str->Option Value)(base:Heap)(ca:Str->Value):Prop where
 co:∀x t,G.co.lookup x=some t->∃u v,mg x=some u/\RelV v u/\∀F:Hp,Rp K F F t v R0
 cl:∀c∈G.cl,Cls K c.2.1/\∀f∈c.2.2,zbj K c.2.1 f
 mt:∀c∈G.mt,c.2.2.2.lv<=lv/\Nonempty (MetX P w K mg base c.2.1 c.1 c.2.2.2.lv c.2.2.2.ps (spP K ca c.2.2.2.g))
 nw:∀x F ds,G.nw.lookup x=some (F,ds)->F.lv+1<=lv/\∃(C:Addr) (D:NewX P w K mg base x C F.lv F.ps (spN K ca C F.g)),∀k dts,ds.lookup k=some dts->∃dvs us,zgy K D.fd F.ps us/\zb9 dvs us/\∀H:Hp,Rps K H dts dvs
 sf:∀C fs,G.sf=some (C,fs)->Cls K C/\∀f∈fs,zbj K C f
 xs:∀W cs,G.xs.lookup W=some cs->∃T:ECls K mg W,∀c C,cs.lookup c=some C->ca c=.ref C/\PySem.W.subIn K (.ref C) (.ref T.C)=some true
 sb:∀D tb,G.sb.lookup D=some tb->∃A:Addr,mg D=some (.ref A)/\∀C b,tb.lookup C=some b->ExcK K C/\PySem.W.kitOne K (.ref C) (.ref A)=some b
 sv:∀D tb,G.sv.lookup D=some tb->mg D=none/\∃t,bootBuiltins D=some (.type t)/\∀C b,tb.lookup C=some b->ExcK K C/\PySem.W.kitOne K (.ref C) (.type t)=some b
 ci:∀x tb,G.ci.lookup x=some tb->∃D:Addr,mg x=some (.ref D)/\∀C b,tb.lookup C=some b->ICls K C/\PySem.W.kitOne K (.ref C) (.ref D)=some b
 x2:∀W1 W2 cs,(W1,W2,cs)∈G.x2->∃(T1:ECls K mg W1) (T2:ECls K mg W2),∀c C,cs.lookup c=some C->ca c=.ref C/\PySem.W.subIn K (.ref C) (.ref T1.C)=some false/\PySem.W.subIn K (.ref C) (.ref T2.C)=some true
structure CxOk(Γ:Gm)(X:Cx)(E:L2.St->XK)(ca:Str->Value):Prop where
 N:X.N=Γ.N
 nd:Γ.N.Nodup
 nm:X.env.scope.names=Γ.nm
 kd:X.env.scope.kind=.function
 calm:X.calm=true
 room:Room Γ.lv X.A
 ce:∀x∈Γ.ce,X.fn x=true/\Γ.nm.lookup x=some .cell
 bl:∀b∈Γ.bl,X.mg b=none
 ps:zbk X E
 po:Γ.ox.nr=false->PassesOwn (model X.prog X.w) X.A X.env X.xe
 md:Γ.ox.nr=false->MadeS X E
 fs:∀f F,Γ.fns.lookup f=some F->F.lv<=Γ.lv/\Nonempty (DefX X.prog X.w X.K X.mg X.base F.lv f F.ps (spP X.K ca F.g))
 ex:∀c∈Γ.ex,∃T:ECls X.K X.mg c,ca c=.ref T.C
 ms:∀f F,Γ.mus.lookup f=some F->F.lv<=Γ.lv/\Nonempty (DefX X.prog X.w X.K X.mg X.base F.lv f F.ps (spM X.K ca F.g))
 gx:GxOk Γ.ox Γ.lv X.prog X.w X.K X.mg X.base ca
 tr:Γ.ox.df=true->X.stack=X.env::X.outer/\X.env.frame=some X.env.locals
 fr:FrOk X
theorem zig{N:List Str}{x:Str}{i:Nat}(h:ixOf N x=some i):N[i]?=some x:=by
 unfold ixOf at h;obtain⟨h1,h2,_⟩:=ybj.mp h;rw[ya1 h1];exact congrArg some (eq_of_beq h2)
theorem zbs{x:Str}(h:zds x=true):(x == ("__debug__":Str))=false/\(x == ("__classdict__":Str))=false/\x≠"__name__":=by
 unfold zds at h
 simp only[ya3,yc0]at h;exact⟨h.1.1,h.1.2,fun z=>by
  have:=h.2;rw[z]at this;simp at this⟩
theorem visN_iff{sc:Scope}{x:Str}(h:visN sc.names x=true):Vis sc x:=by
 unfold visN at h;simp only[yc8,beq_iff_eq]at h
 rcases h with (h|h)|h
 ·exact .inl h
 ·exact .inr (.inl h)
 ·exact .inr (.inr h)
theorem zb0{e:Expr}{es:List Expr}{env:Env}(h:zb5 e=true):starEach (e::es) env=(false,eval e env)::starEach es env:=by
 cases e<;>first|rfl|cases h
theorem zf0:∀{es:List Expr} {env:Env} {pos:Pos},(∀e∈es,zb5 e=true)->(backTo pos (starEach es env)).any (·.1)=false
 |[],env,pos,_=>rfl
 |e::es,env,pos,h=>by
  rw[zb0 (h e (yab ..))];have ih:=zf0 (es:=es) (env:=env) (pos:=pos) fun x hx=>h x (ya9 _ hx)
  show(false || (backTo pos (starEach es env)).any (·.1))=false
  rw[ih]
  rfl
theorem zcx:∀{n:Nat} {Γ:Gm} {es:List Expr} {ms:PSt->Option RsL},dA n Γ es=some ms->∀e∈es,zb5 e=true
 |0,_,_,_,h=>by cases h
 |n+1,Γ,[],_,_=>fun e he=>by cases he
 |n+1,Γ,e::es,ms,h=>by
  unfold dA at h;simp only at h;split at h
  ·rename_i hs;split at h
   ·rename_i m ms' h1 h2;intro x hx;rcases ya7.mp hx with rfl|hx
    ·exact hs
    ·exact zcx h2 x hx
   ·cases h
  ·cases h
section
variable {Γ:Gm}{X:Cx}{E:L2.St->XK}{ca:Str->Value}
theorem CxOk.var(C:CxOk Γ X E ca){x:Str}{i:Nat}{pos:Pos}(h:Γ.var x=some i):X.N[i]?=some x/\Vis X.env.scope x/\(x == ("__debug__":Str))=false/\(x == ("__classdict__":Str))=false:=by
 unfold Gm.var at h;split at h
 ·rename_i hp;rw[ya3]at hp;obtain⟨p1,p2,p3⟩:=zbs hp.1;exact⟨by rw[C.N];exact zig h,visN_iff (by rw[C.nm];exact hp.2),p1,p2⟩
 ·cases h
theorem CxOk.gl(C:CxOk Γ X E ca){x:Str}(h:glN Γ.nm x=true):Gl X x:=by
 unfold glN at h;show X.env.scope.names.lookup x=some .globalImplicit;rw[C.nm];exact eq_of_beq h
theorem CxOk.loc(C:CxOk Γ X E ca){x:Str}{i:Nat}(h:Γ.loc x=true)(hi:ixOf Γ.N x=some i):X.N[i]?=some x/\Loc X.env.scope x/\(X.fn x=true\/X.env.scope.names.lookup x=some .local):=by
 unfold Gm.loc at h;simp only[ya3,yc8,beq_iff_eq]at h;refine⟨by rw[C.N];exact zig hi,?_⟩
 rcases h.2 with h|h
 ·exact⟨.inl (by rw[C.nm];exact h),.inr (by rw[C.nm];exact h)⟩
 ·obtain⟨c1,c2⟩:=C.ce x (yb4.mp h);exact⟨.inr (by rw[C.nm];exact c2),.inl c1⟩
theorem CxOk.nodup(C:CxOk Γ X E ca):X.N.Nodup:=by rw[C.N];exact C.nd
theorem loc_nm(C:CxOk Γ X E ca){x:Str}{i:Nat}{pos:Pos}(h1:Γ.loc x=true)(h2:ixOf Γ.N x=some i):PG X (.Name x pos) (tGM X.K (bNm i)):=by
 obtain⟨g1,g2,g3⟩:=C.loc h1 h2;exact g_nm C.nodup g1 g2 g3
theorem dGs_ok(C:CxOk Γ X E ca):∀{es:List Expr} {b:List T->PSt->Option PSt},dGs Γ es=some b->PGs X es (tGMs X.K b)/\(assignEach es X.env).length=es.length/\(assignEach es X.env).findIdx? (·.1)=none
 |[],b,h=>by
  cases h;exact⟨g_nil,rfl,rfl⟩
 |e::es,b,h=>by
  unfold dGs at h;split at h
  ·rename_i x p hn;have hn:=zg7 hn;subst hn;split at h
   ·rename_i hl;split at h
    ·rename_i i b' h1 h2;cases h;obtain⟨q1,q2,q3⟩:=dGs_ok C h2;refine⟨g_cons (loc_nm C hl h1) q1 rfl,?_,?_⟩
     ·show(assignEach es X.env).length+1=es.length+1;rw[q2]
     ·show List.findIdx? (·.1) ((false,assign (.Name x p) X.env)::assignEach es X.env)=none
      rw[ye3,q3]
      rfl
    ·cases h
   ·cases h
  ·cases h
theorem dG_ok(C:CxOk Γ X E ca){tg:Expr}{b:T->PSt->Option PSt}(h:dG Γ tg=some b):PG X tg (tGM X.K b):=by
 unfold dG at h;split at h
 ·split at h
  ·rename_i hl;obtain⟨i,hi,rfl⟩:=ya2.mp h;exact loc_nm C hl hi
  ·cases h
 ·obtain⟨bs,hb,rfl⟩:=ya2.mp h;obtain⟨q1,q2,q3⟩:=dGs_ok C hb;exact g_tup C.calm q1 q2 q3
 ·cases h
theorem opF_ok{op:Operator}{g:T->T->Option T}(h:opF op=some g):OpR X (binaryOp op) (rT2 X.K g):=by
 cases op<;>cases h
 ·exact opT_add
 ·exact opT_sub
 ·exact opT_mul
 ·exact opT_mod
 ·exact opT_pow
 ·exact opT_bor
 ·exact opT_band
 ·exact opT_fdiv
theorem cmpF_ok(C:CxOk Γ X E ca){op:CmpOp}{g:T->T->Option T}(h:cmpF op=some g):OpR X (compareOp op) (rT2 X.K g):=by
 have hu:=C.room.units;cases op<;>cases h
 ·exact opT_eq hu
 ·exact opT_ne hu
 ·exact opT_cmp op_lt
 ·exact opT_cmp op_le
 ·exact opT_cmp op_gt
 ·exact opT_cmp op_ge
 ·exact opT_is
 ·exact opT_isNot
 ·exact opT_in hu
 ·exact opT_notIn hu
theorem chnF_ok(C:CxOk Γ X E ca){op:CmpOp}{g:T->T->Option T}(h:chnF op=some g):OpR X (compareOp op) (rT2 X.K g):=by
 unfold chnF at h;split at h
 ·cases h;exact opT_leT
 ·exact cmpF_ok C h
theorem fldA_ok{L:List (Str×Addr×List Str)}(hL:∀c∈L,Cls X.K c.2.1/\∀f∈c.2.2,zbj X.K c.2.1 f){f:Str}{m:PSt->Option Rs}{o:Expr}{pos:Pos}(ho:PE X o (tM X.K E ca m))(hb:attributeBase o f X.env (eval o X.env)=eval o X.env):∀{m':PSt->Option Rs},fldA f m L=some m'->PE X (.Attribute o f pos) (tM X.K E ca m'):=by
 induction L with
 |nil=>intro m' h;cases h
 |cons c r ih =>
  obtain⟨nmc,C0,fs⟩:=c;intro m' h;have ih':=@ih (fun c hc=>hL c (ya9 _ hc))
  unfold fldA at h;split at h
  ·rename_i j hj;obtain⟨h1,h2⟩:=hL _ (yab ..)
   have hf:f∈fs:=by
    obtain⟨q1,q2,_⟩:=ybj.mp hj;rw[<- eq_of_beq q2];exact ybf q1
   have p1:PE X (.Attribute o f pos) (tM X.K E ca (zie C0 fs j m)):=r_fld h1 (h2 f hf) hj ho hb;split at h
   ·rename_i m2 hm2;cases h;exact r_alt p1 (ih' hm2)
   ·cases h;exact p1
  ·exact ih' h
set_option maxHeartbeats 1000001 in
theorem bltG_ok(C:CxOk Γ X E ca){f:Str}{g:List T->Option T}{e:Expr}{es:List Expr}{ms:PSt->Option RsL}{p pos:Pos}(h:bltG f=some g)(hg:glN Γ.nm f=true)(hb:f∈Γ.bl)(ha:PA X (e::es) (tMs X.K E ca ms))(hs:∀x∈e::es,zb5 x=true)(hp:zds f=true) :
  PE X (.Call (.Name f p) (e::es) [] pos) (tM X.K E ca (mAp g ms)):=by
 have G:=C.gl hg;have B:=C.bl f hb;obtain⟨p1,p2,p3⟩:=zbs hp;have s1:=zb0 (es:=es) (env:=X.env) (hs e (yab ..));have s2:=zf0 (env:=X.env) (pos:=pos) fun x hx=>hs x (ya9 e hx)
 unfold bltG at h;split at h
 ·rename_i hf;subst hf;cases h;exact r_bltF callT_len G B PySem.boot_len ha p3 p1 s1 s2
 split at h
 ·rename_i hf;subst hf;cases h;exact r_bltT callT_list G B ydj ha p3 p1 s1 s2
 split at h
 ·rename_i hf;subst hf;cases h;exact r_bltF callT_abs G B PyProof.Rows.boot_abs ha p3 p1 s1 s2
 split at h
 ·rename_i hf;subst hf;cases h;exact r_bltT callT_tup G B PyProof.Rows.boot_tuple ha p3 p1 s1 s2
 split at h
 ·rename_i hf;subst hf;cases h;exact r_bltT callT_int G B PyProof.Rows.boot_int ha p3 p1 s1 s2
 split at h
 ·rename_i hf;subst hf;cases h;exact r_bltT callT_str G B PyProof.Rows.boot_str ha p3 p1 s1 s2
 split at h
 ·rename_i hf;subst hf;cases h;exact r_bltF (callT_min C.calm) G B PyProof.Rows.boot_min ha p3 p1 s1 s2
 split at h
 ·rename_i hf;subst hf;cases h;exact r_bltF (callT_all C.calm) G B PyProof.Rows.boot_all ha p3 p1 s1 s2
 split at h
 ·rename_i hf;subst hf;cases h;exact r_bltF (callT_any C.calm) G B PyProof.Rows.boot_any ha p3 p1 s1 s2
 ·cases h
theorem tyName_ok{c:Str}{t:String}(h:tyName c=some t):bootBuiltins c=some (.type t):=by
 unfold tyName at h;split at h
 ·rename_i hf;subst hf;cases h;exact PyProof.Rows.boot_int
 split at h
 ·rename_i hf;subst hf;cases h;exact PyProof.Rows.boot_bool
 split at h
 ·rename_i hf;subst hf;cases h;exact PyProof.Rows.boot_str
 split at h
 ·rename_i hf;subst hf;cases h;exact ydj
 split at h
 ·rename_i hf;subst hf;cases h;exact PyProof.Rows.boot_tuple
 ·cases h
theorem capIx_get{N:List Str}:∀{ys:List Str} {caps:List Nat},capIx N ys=some caps->ys.length=caps.length/\∀(k j:Nat),caps[k]?=some j->∃y,ys[k]?=some y/\N[j]?=some y
 |[],caps,h=>by cases h;exact⟨rfl,fun k j e=>by simp at e⟩
 |y::r,caps,h=>by
  unfold capIx at h;split at h
  ·rename_i i hi;split at h
   ·rename_i l hl;cases h;obtain⟨h1,h2⟩:=capIx_get hl;refine⟨by simp[h1],fun k j e=>?_⟩
    cases k with
    |zero=>simp at e;subst e;exact⟨y,rfl,zig hi⟩
    |succ k=>exact h2 k j (by simpa using e)
   ·cases h
  ·cases h
theorem frees_mem{nm:List (Str×NameKind)}{y:Str}(h:y∈zfz nm):(y,NameKind.free)∈nm:=by
 unfold zfz at h;obtain⟨⟨z,k⟩,hz,e⟩:=yc7.mp h;simp only at e;split at e
 ·rename_i hk;cases e;rw[<- eq_of_beq hk];exact hz
 ·cases e
theorem blk_ok(C:CxOk Γ X E ca){scope:Scope}{tg:Expr}{caps:List Nat}(h:blkOk Γ scope (tgN tg++zfz scope.names)=true)(hc:capIx Γ.N (zfz scope.names)=some caps):BlkOk X scope (tgN tg++zfz scope.names) (tgN tg).length caps:=by
 unfold blkOk at h;simp only[ya3]at h;obtain⟨⟨⟨⟨h1,h2⟩,h3⟩,h4⟩,h5⟩:=h;obtain⟨l1,l2⟩:=capIx_get hc
 have free:∀y∈scope.names,y.2=.free->scope.names.lookup y.1=some .free/\(Γ.nm.lookup y.1=some .cell\/Γ.nm.lookup y.1=some .free)/\(y.1,NameKind.cell)∉scope.names:=fun y hy hf=>by
  have q:=yav.mp h3 y hy;simp only[hf,beq_self_eq_true,Bool.not_true,ye7,ya3,beq_iff_eq,yc8,yc0]at q;refine⟨q.1.1,q.1.2,fun z=>?_⟩
  have:=yb4.mpr z;rw[this]at q;exact Bool.noConfusion q.2
 refine⟨eq_of_beq h1,fun y hy hl=>?_,by simp[l1],fun k j e=>?_,fun y hy hf=>?_⟩
 ·have q:=yav.mp h2 y hy;simp only[hl,beq_self_eq_true,Bool.not_true,ye7,beq_iff_eq]at q;exact q
 ·obtain⟨y,e1,e2⟩:=l2 k j e;have fm:=frees_mem (yb6 e1);obtain⟨f1,_,f3⟩:=free _ fm rfl;refine⟨y,by rw[C.N];exact e2,?_,f1,f3⟩
  rw[yaw (by omega)]
  simpa using e1
 ·obtain⟨f1,f2,_⟩:=free y hy hf;refine⟨f1,?_⟩;rw[C.nm];exact f2
theorem relab_eq{scope:Scope}{env:Env}(hk:env.scope.kind=.function):(relabel scope env).names=relabN scope.names env.scope.names:=by
 unfold relabel relabN;simp only;refine ybu fun x hx=>?_
 obtain⟨n,k⟩:=x;have e:(env.scope.kind == ScopeKind.function)=true:=by rw[hk];rfl
 simp only[e,Bool.and_true]
 rfl
theorem blk_cx(C:CxOk Γ X E ca){scope:Scope}{N':List Str}(h:blkOk Γ scope N'=true)(cl:List (Str×Addr))(A:Addr)(s₀:Shared)(H₀:Hp)(ex:List Addr)(xb:Value->Shared->Prop){E':L2.St->XK}(hp:zbk (zac X scope cl N' A s₀ H₀ ex xb) E'):CxOk (Γ.blk scope N') (zac X scope cl N' A s₀ H₀ ex xb) E' ca:=by
 unfold blkOk at h;simp only[ya3]at h;obtain⟨⟨⟨⟨h1,h2⟩,h3⟩,h4⟩,h5⟩:=h;refine⟨rfl,of_decide_eq_true h4,?_,?_,C.calm,C.room,fun x hx=>?_,C.bl,hp,fun z=>(by cases z),fun z=>(by cases z),C.fs,C.ex,C.ms,⟨C.gx.co,C.gx.cl,C.gx.mt,C.gx.nw,C.gx.sf,C.gx.xs,C.gx.sb,C.gx.sv,C.gx.ci,C.gx.x2⟩,fun z=>(by cases z),C.fr⟩
 ·show(relabel scope X.env).names=relabN scope.names Γ.nm;rw[relab_eq C.kd,C.nm]
 ·show scope.kind=.function;exact eq_of_beq h1
 ·have hx':x∈(cellsN scope.names).filter fun y=>scope.names.lookup y == some .cell:=hx
  rw[List.mem_filter]at hx';refine⟨decide_eq_true (eq_of_beq hx'.2),?_⟩;exact eq_of_beq (yav.mp h5 x hx'.1)
end
structure Good(ca:Str->Value)(n:Nat):Prop where
 e:∀{Γ:Gm} {X:Cx} {E:L2.St->XK} {e:Expr} {m:PSt->Option Rs},CxOk Γ X E ca->dE n Γ e=some m->PE X e (tM X.K E ca m)
 t:∀{Γ:Gm} {X:Cx} {E:L2.St->XK} {e:Expr} {m:PSt->Option Rs},CxOk Γ X E ca->okT e=true->dE n Γ e=some m->PT X e (tMB X.K E ca m)
 a:∀{Γ:Gm} {X:Cx} {E:L2.St->XK} {es:List Expr} {m:PSt->Option RsL},CxOk Γ X E ca->dA n Γ es=some m->PA X es (tMs X.K E ca m)
 o:∀{Γ:Gm} {X:Cx} {E:L2.St->XK} {es:List Expr} {m:PSt->Option RsL},CxOk Γ X E ca->dO n Γ es=some m->PA X es (tMo X.K E ca m)
 b:∀{Γ:Gm} {X:Cx} {E:L2.St->XK} {op:BoolOp} {es:List Expr} {m:PSt->Option Rs} {pos:Pos},CxOk Γ X E ca->dB n Γ op es=some m->PE X (.BoolOp op es pos) (tM X.K E ca m)/\PW X (.BoolOp op es pos) (tMB X.K E ca m)
 p:∀{Γ:Gm} {X:Cx} {E:L2.St->XK} {o:Option Expr} {m:Option (PSt->Option Rs)},CxOk Γ X E ca->dP n Γ o=some m->PO X o (tPo X.K m)
 c:∀{Γ:Gm} {X:Cx} {E:L2.St->XK} {elt tg iter:Expr} {ifs:List Expr} {scope:Scope} {m:PSt->Option Rs} {pos:Pos},CxOk Γ X E ca->dC n Γ elt tg iter ifs scope=some m->PE X (.ListComp elt [⟨tg,iter,ifs,0⟩] scope pos) (tM X.K E ca m)
 i:∀{Γ:Gm} {X:Cx} {E:L2.St->XK} {tg e:Expr} {m:PSt->Option RsL},CxOk Γ X E ca->dI n Γ tg e=some m->PI X tg e (tI X.K E ca m)
end Pu
set_option Elab.async false
set_option linter.all false
set_option maxRecDepth 100000
namespace Pu
open PySem PySem.Spec PyProof.Rows L2 Zw Zx
def notSet:Expr->Bool
 |.Set ..=>false
 |_=>true
theorem fold_ok{e:Expr}{env:Env}(h:notSet e=true)(x:Value):foldedSetIterable e env x=pure x:=by
 cases e<;>first|rfl|cases h
theorem zm3:∀{n:Nat} {Γ:Gm} {tg e:Expr} {m:PSt->Option RsL},dI n Γ tg e=some m->notSet e=true:=by
 intro n Γ tg e m h;cases n with
 |zero=>cases h
 |succ n =>
  cases e with
  |Set es k p=>unfold dI at h;cases h
  |_=>rfl
theorem plain_ix{k:Expr}(h:zgi k=false):PlainIx k:=fun o i=>by
 cases k<;>first|rfl|cases h
theorem tval_ok{e:Expr}{env:Env}(h:match e with|.UnaryOp ..=>False|.BoolOp ..=>False|.IfExp ..=>False|.Compare ..=>False|_=>True)(whole:Sem Value):isTrue e env whole=(do let v <- whole;standAt e.pos;holding [v] (truthy v)):=by
 cases e<;>first|rfl|exact False.elim h
section
variable {ca:Str->Value}{n:Nat}
theorem dC_parts(G:Good ca n){Γ:Gm}{X:Cx}{E:L2.St->XK}{elt tg iter:Expr}{ifs:List Expr}{scope:Scope}{m:PSt->Option Rs}(C:CxOk Γ X E ca)(h:dC (n+1) Γ elt tg iter ifs scope=some m) :
  ∃caps mi b mt me,m=mLC (tgN tg).length caps mi b mt me/\BlkOk X scope (tgN tg++zfz scope.names) (tgN tg).length caps/\PI X tg iter (tI X.K E ca mi) /\
   (∀cl A s₀ H₀ ex xb E',zbk (zac X scope cl (tgN tg++zfz scope.names) A s₀ H₀ ex xb) E'->PG (zac X scope cl (tgN tg++zfz scope.names) A s₀ H₀ ex xb) tg (tGM X.K b))/\(∀cl A s₀ H₀ ex xb E',zbk (zac X scope cl (tgN tg++zfz scope.names) A s₀ H₀ ex xb) E'->PTs (zac X scope cl (tgN tg++zfz scope.names) A s₀ H₀ ex xb) ifs (tMB X.K E' ca mt)) /\
   (∀cl A s₀ H₀ ex xb E',zbk (zac X scope cl (tgN tg++zfz scope.names) A s₀ H₀ ex xb) E'->PE (zac X scope cl (tgN tg++zfz scope.names) A s₀ H₀ ex xb) elt (tM X.K E' ca me))/\∀x,foldedSetIterable iter X.env x=pure x:=by
 unfold dC at h;split at h
 ·rename_i hb;split at h
  ·rename_i caps mi b me h1 h2 h3 h4;have B:=blk_ok C hb h1;have PB:=fun cl A s₀ H₀ ex xb E' hp=>dG_ok (blk_cx C hb cl A s₀ H₀ ex xb (E':=E') hp) h3
   have PEl:=fun cl A s₀ H₀ ex xb E' hp=>G.e (blk_cx C hb cl A s₀ H₀ ex xb (E':=E') hp) h4
   split at h
   ·cases h;exact⟨caps,mi,b,_,me,rfl,B,G.i C h2,PB,fun cl A s₀ H₀ ex xb E' _=>fun pins s σ H Q I q=>pts_nil pins s σ H Q I (tMB_c (K:=X.K) (E:=E') (ca:=ca) q),PEl,fold_ok (zm3 h2)⟩
   ·split at h
    ·rename_i hok;split at h
     ·rename_i mt h5;cases h;exact⟨caps,mi,b,mt,me,rfl,B,G.i C h2,PB,fun cl A s₀ H₀ ex xb E' hp=>pts_one (G.t (blk_cx C hb cl A s₀ H₀ ex xb (E':=E') hp) hok h5),PEl,fold_ok (zm3 h2)⟩
     ·cases h
    ·cases h
   ·cases h
  ·cases h
 ·cases h
theorem good0(ca:Str->Value):Good ca 0:=by
 constructor
 ·intro Γ X E e m C h;cases h
 ·intro Γ X E e m C _ h;cases h
 ·intro Γ X E e m C h;cases h
 ·intro Γ X E e m C h;cases h
 ·intro Γ X E op e m pos C h;cases h
 ·intro Γ X E e m C h;cases h
 ·intro Γ X E elt tg iter ifs scope m pos C h;cases h
 ·intro Γ X E tg e m C h;cases h
theorem dE_cmp(G:Good ca n){Γ:Gm}{X:Cx}{E:L2.St->XK}{a:Expr}{ops:List CmpOp}{bs:List Expr}{pos:Pos}{m:PSt->Option Rs}(C:CxOk Γ X E ca)(h:dE (n+1) Γ (.Compare a ops bs pos)=some m) :
  PE X (.Compare a ops bs pos) (tM X.K E ca m)/\PT X (.Compare a ops bs pos) (tMB X.K E ca m):=by
 cases ops with
 |nil=>rw[zaf]at h;unfold dEb at h;cases h
 |cons op r =>
  cases r with
  |cons op' r =>
   cases r with
   |cons _ _=>rw[zaf]at h;unfold dEb at h;cases h
   |nil =>
    cases bs with
    |nil=>rw[zaf]at h;unfold dEb at h;cases h
    |cons b r =>
     cases r with
     |nil=>rw[zaf]at h;unfold dEb at h;cases h
     |cons c r =>
      cases r with
      |cons _ _=>rw[zaf]at h;unfold dEb at h;cases h
      |nil =>
       rw[zaf]at h;unfold dEb at h;simp only at h;split at h
       ·rename_i g g' ma mb mc h1 h2 h3 h4 h5;split at h
        ·cases h
        ·rename_i hm;cases h;have hm':=yb0.mpr hm;exact⟨r_chn (chnF_ok C h1) (chnF_ok C h2) (G.e C h3) (G.e C h4) (G.e C h5) hm',r_tchn (chnF_ok C h1) (chnF_ok C h2) (G.e C h3) (G.e C h4) (G.e C h5) hm'⟩
       ·cases h
  |nil =>
   cases bs with
   |nil=>rw[zaf]at h;unfold dEb at h;cases h
   |cons b r =>
    cases r with
    |cons _ _=>rw[zaf]at h;unfold dEb at h;cases h
    |nil =>
     rw[zaf]at h;unfold dEb at h;simp only at h;split at h
     ·rename_i g ma mb h1 h2 h3;split at h
      ·cases h
      ·rename_i hm;cases h;have hm':=yb0.mpr hm;exact⟨r_cmp (cmpF_ok C h1) (G.e C h2) (G.e C h3) hm',r_tcmp (cmpF_ok C h1) (G.e C h2) (G.e C h3) hm'⟩
     ·cases h
theorem lc_dE{n:Nat}{Γ:Gm}{elt:Expr}{gens:List Comprehension}{scope:Scope}{pos:Pos}{m:PSt->Option Rs}(h:dE (n+1) Γ (.ListComp elt gens scope pos)=some m):∃tg iter ifs,gens=[⟨tg,iter,ifs,0⟩]/\dC n Γ elt tg iter ifs scope=some m:=by
 cases gens with
 |nil=>rw[zaf]at h;unfold dEb at h;cases h
 |cons g r =>
  obtain⟨tg,iter,ifs,a⟩:=g;cases a with
  |negSucc k=>rw[zaf]at h;unfold dEb at h;cases h
  |ofNat k =>
   cases k with
   |succ k=>rw[zaf]at h;unfold dEb at h;cases h
   |zero =>
    cases r with
    |cons _ _=>rw[zaf]at h;unfold dEb at h;cases h
    |nil=>exact⟨tg,iter,ifs,rfl,by rw[zaf]at h;unfold dEb at h;exact h⟩
end
end Pu
set_option Elab.async false
set_option linter.all false
set_option maxRecDepth 100000
namespace Pu
open PySem PySem.Spec PyProof.Rows L2 Zw Zx
section
variable {ca:Str->Value}{n:Nat}
theorem dA_nil{n:Nat}{Γ:Gm}{ms:PSt->Option RsL}(h:dA n Γ []=some ms):ms=za4:=by
 cases n with
 |zero=>cases h
 |succ n=>unfold dA at h;cases h;rfl
theorem metA_ok{Γ:Gm}{X:Cx}{E:L2.St->XK}(C:CxOk Γ X E ca){f:Str}{o:Expr}{es:List Expr}{m:PSt->Option Rs}{ms:PSt->Option RsL}{ap pos:Pos}(hpo:zl6 o=true)(hln:(ap.endLine == pos.line)=true)(hlen:es.length<30)(hnil:es=[]->ms=za4)(ho:PE X o (tM X.K E ca m))(ha:PA X es (tMs X.K E ca ms))(hst:∀e∈es,zb5 e=true){m':PSt->Option Rs}(h:metA f m ms Γ.ox.mt=some m'):PE X (.Call (.Attribute o f ap) es [] pos) (tM X.K E ca m'):=by
 have key:∀L:List (Str×Addr×List Str×Fn),(∀c∈L,c∈Γ.ox.mt)->∀{m':PSt->Option Rs},metA f m ms L=some m'->PE X (.Call (.Attribute o f ap) es [] pos) (tM X.K E ca m'):=by
  intro L
  induction L with
  |nil=>intro _ m' h;cases h
  |cons c r ih =>
   obtain⟨g,C0,fs,F⟩:=c;intro hL m' h;have ih':=@ih (fun c hc=>hL c (ya9 _ hc))
   unfold metA at h;split at h
   ·rename_i hc;rw[ya3,decide_eq_true_eq,yc0]at hc;obtain⟨rfl,hnf⟩:=hc;obtain⟨hlv,⟨D⟩⟩:=C.gx.mt _ (hL _ (yab ..))
    have p1:PE X (.Call (.Attribute o g ap) es [] pos) (tM X.K E ca (zfi C0 fs F.g m ms)):=by
     obtain⟨pl,ht⟩:=meth_tree (f:=g) (ap:=ap) (pos:=pos) (es:=es) (env:=X.env) hpo (by
      have:=zf0 (env:=X.env) (pos:=pos) hst;rw[yav];intro z hz;rw[List.any_eq_false]at this
      simpa using this z hz) hlen hln
     cases es with
     |cons e es=>exact r_meth D hnf C.room C.ps ho ha hlv (zb0 (hst e (yab ..))) (zf0 fun x hx=>hst x (ya9 e hx)) ht
     |nil =>
      refine PE.weak (pmx0 D C.room C.ps ho hlv ht) fun σ H Q h=>?_
      obtain⟨F,τ,R,S,q⟩:=tM_meth hnf h;refine⟨F,τ,R,S,?_⟩;cases hm:m τ with
      |none=>rw[hm]at q;exact q
      |some r =>
       rw[hm]at q;cases r with
       |x c=>exact q
       |v t b =>
        intro F1 H1 x B e1 g1;obtain⟨a,dx,fs',h1,h2,h3,h4⟩:=q F1 H1 x B e1 g1;refine⟨a,dx,fs',h1,h2,h3,?_⟩;rw[hnil rfl]at h4;exact zho h4
    split at h
    ·rename_i m2 hm2;cases h;exact r_alt p1 (ih' hm2)
    ·cases h;exact p1
   ·exact ih' h
 exact key _ (fun _ h=>h) h
theorem itV_ok{Γ:Gm}{X:Cx}{E:L2.St->XK}{tg e:Expr}{m:PSt->Option Rs}(h:PE X e (tM X.K E ca m)):PI X tg e (tI X.K E ca (itV Γ m)):=by
 unfold itV;split
 ·exact r_iTxt h
 ·exact r_iVal h
theorem dE_ok(G:Good ca n){Γ:Gm}{X:Cx}{E:L2.St->XK}{e:Expr}{m:PSt->Option Rs}(C:CxOk Γ X E ca)(h:dE (n+1) Γ e=some m):PE X e (tM X.K E ca m)/\(okT e=true->PT X e (tMB X.K E ca m)):=by
 have val:∀{e:Expr} {m:PSt->Option Rs},PE X e (tM X.K E ca m)->(match e with|.UnaryOp ..=>False|.BoolOp ..=>False|.IfExp ..=>False|.Compare ..=>False|_=>True)->PE X e (tM X.K E ca m)/\(okT e=true->PT X e (tMB X.K E ca m)):=fun h1 h2=>⟨h1,fun _=>r_tval h1 (tval_ok h2)⟩
 cases e with
 |Compare a ops bs pos=>exact⟨(dE_cmp G C h).1,fun _=>(dE_cmp G C h).2⟩
 |Constant c k pos =>
  cases c with
  |int i=>rw[zaf]at h;unfold dEb at h;cases h;exact val (r_const pe_int fun _ _=>.int i) trivial
  |bool b=>rw[zaf]at h;unfold dEb at h;cases h;exact val (r_const pe_bl fun _ _=>.bl b) trivial
  |none=>rw[zaf]at h;unfold dEb at h;cases h;exact val (r_const pe_non fun _ _=>.non) trivial
  |str x=>rw[zaf]at h;unfold dEb at h;cases h;exact val (r_const pe_str fun _ _=>.str x) trivial
  |_=>rw[zaf]at h;unfold dEb at h;cases h
 |Name x pos =>
  rw[zaf]at h;unfold dEb at h;simp only at h;split at h
  ·rename_i i hi;cases h;obtain⟨h1,h2,h3,h4⟩:=C.var (pos:=pos) hi;exact val (r_var h1 h2 h3 h4) trivial
  ·split at h
   ·rename_i hp;rw[ya3]at hp;obtain⟨t,ht,rfl⟩:=ya2.mp h;obtain⟨u,v,k1,k2,k3⟩:=C.gx.co x t ht;exact val (r_con (C.gl hp.2) k1 k2 (zbs hp.1).1 k3) trivial
   ·cases h
 |Attribute o f pos =>
  rw[zaf]at h;unfold dEb at h;simp only at h;split at h
  ·rename_i hpo;split at h
   ·rename_i m1 h1;exact val (fldA_ok C.gx.cl (G.e C h1) (zi3 hpo) h) trivial
   ·cases h
  ·cases h
 |BinOp a op b pos =>
  rw[zaf]at h;unfold dEb at h;simp only at h;split at h
  ·rename_i g ma mb h1 h2 h3;cases h;exact val (r_bin (opF_ok h1) (G.e C h2) (G.e C h3)) trivial
  ·cases h
 |UnaryOp op a pos =>
  cases op with
  |USub =>
   rw[zaf]at h;unfold dEb at h;simp only at h;split at h
   ·rename_i ma h1;cases h;have hp:=r_un (pos:=pos) unT_neg (G.e C h1);exact⟨hp,fun _=>r_tval hp fun _=>rfl⟩
   ·cases h
  |Not =>
   rw[zaf]at h;unfold dEb at h;simp only at h;split at h
   ·rename_i hok;obtain⟨ma,h1,rfl⟩:=ya2.mp h;exact⟨r_not (G.e C h1),fun _=>r_tnot (G.t C hok h1)⟩
   ·cases h
  |_=>rw[zaf]at h;unfold dEb at h;cases h
 |BoolOp op vs pos =>
  rw[zaf]at h;unfold dEb at h;simp only at h;obtain⟨h1,h2⟩:=G.b (pos:=pos) C h;exact⟨h1,fun _=>h2.pt⟩
 |IfExp c a b pos =>
  rw[zaf]at h;unfold dEb at h;simp only at h;split at h
  ·rename_i hok;split at h
   ·rename_i mc ma mb h1 h2 h3;cases h;exact⟨r_ife (G.t C hok h1) (G.e C h2) (G.e C h3),fun z=>by cases z⟩
   ·cases h
  ·cases h
 |List es pos =>
  rw[zaf]at h;unfold dEb at h;obtain⟨ms,h1,rfl⟩:=ya2.mp h;exact val (r_lst (G.o C h1)) trivial
 |Tuple es k pos =>
  rw[zaf]at h;unfold dEb at h;obtain⟨ms,h1,rfl⟩:=ya2.mp h;exact val (r_tup (G.a C h1)) trivial
 |Subscript a k pos =>
  rw[zaf]at h;unfold dEb at h;simp only at h;split at h
  ·rename_i lo hi p2;split at h
   ·rename_i ma ml mh h1 h2 h3;cases h;unfold slA;split
    ·exact val (r_alt (r_slice (G.e C h1) (G.p C h2) (G.p C h3)) (r_sliceT (G.e C h1) (G.p C h2) (G.p C h3))) trivial
    exact val (r_slice (G.e C h1) (G.p C h2) (G.p C h3)) trivial
   ·cases h
  ·rename_i st p2;split at h
   ·rename_i ma mk h1 h2;cases h;exact val (r_rv (G.e C h1) (G.p C h2)) trivial
   ·cases h
  ·split at h
   ·cases h
   ·rename_i hs;split at h
    ·rename_i ma mk h1 h2;cases h;unfold ixA;split
     ·exact val (r_gt (by have:=C.room.units;omega) (G.e C h1) (G.e C h2) (plain_ix (yb0.mpr hs))) trivial
     exact val (r_ix (G.e C h1) (G.e C h2) (plain_ix (yb0.mpr hs))) trivial
    ·cases h
 |ListComp elt gens scope pos =>
  obtain⟨tg,iter,ifs,rfl,h⟩:=lc_dE h;exact val (G.c C h) trivial
 |Call f args kws pos =>
  cases f with
  |Name f p =>
   cases args with
   |nil=>rw[zaf]at h;unfold dEb at h;cases h
   |cons e es =>
    cases kws with
    |cons _ _=>rw[zaf]at h;unfold dEb at h;cases h
    |nil =>
     rw[zaf]at h;unfold dEb at h;simp only at h;split at h
     ·rename_i hp;rw[ya3]at hp;split at h
      ·rename_i hb;have hb':f∈Γ.bl:=yb4.mp hb;split at h
       ·rename_i hf;subst hf;split at h
        ·rename_i c p2;split at h
         ·rename_i hc;simp only[ya3]at hc;split at h
          ·rename_i t m' h1 h2;cases h;obtain⟨q1,q2,q3⟩:=zbs hc.1.2;exact val (r_isT (tyName_ok h1) (C.gl hp.2) (C.bl _ hb') (C.gl hc.1.1.1) (C.bl _ (yb4.mp hc.1.1.2)) q3 q1 (G.e C h2) (zb0 hc.2)) trivial
          ·cases h
         ·
          split at h
          ·rename_i hc2;simp only[ya3]at hc2;split at h
           ·rename_i CC m' h1 h2;cases h;obtain⟨_,k1,k2⟩:=C.gx.ci c CC h1;exact val (r_isC k2 (C.gl hp.2) (C.bl _ hb') (C.gl hc2.1.1) k1 (zbs hc2.1.2).1 (G.e C h2) (zb0 hc2.2)) trivial
           ·cases h
          ·cases h
        ·cases h
       ·
        split at h
        ·rename_i a pa pc hst;obtain⟨rfl,rfl,rfl⟩:=setOf_is hst;split at h
         ·rename_i hc;simp only[ya3]at hc;obtain⟨m1,h1,rfl⟩:=ya2.mp h;exact val (r_unq C.calm (C.gl hp.2) (C.bl _ hb') (C.gl hc.1.1) (C.bl _ (yb4.mp hc.1.2)) (G.e C h1) (zb0 (es:=[]) (env:=X.env) hc.2)) trivial
         ·cases h
        split at h
        ·rename_i hky;obtain⟨rfl,rfl,hat⟩:=kyOf_is hky;obtain⟨m1,h1,rfl⟩:=ya2.mp h;have hns:zb5 e=true:=by cases e<;>first|rfl|cases hat
         have hst:starEach [e] X.env=[(false,eval e X.env)]:=zb0 (es:=[]) (env:=X.env) hns;have hb1:bltG "list"=some (g1 zei):=by kernel_rfl
         exact val (r_alt (bltG_ok C hb1 hp.2 hb' (r_cons (G.e C h1) r_nil hst) (fun x hx=>by rw[ya6.mp hx];exact hns) hp.1) (r_kys C.calm (C.gl hp.2) (C.bl _ hb') (G.e C h1) hst)) trivial
        split at h
        ·rename_i g ms h1 h2;cases h;exact val (bltG_ok C h1 hp.2 hb' (G.a C h2) (zcx h2) hp.1) trivial
        ·cases h
      ·
       split at h
       ·rename_i F ds hnw;split at h
        ·rename_i dts ms hds h2;cases h;obtain⟨hl,CC,D,hD⟩:=C.gx.nw f F ds hnw;obtain⟨dvs,us,k1,k2,k3⟩:=hD _ _ hds;obtain⟨q1,q2,q3⟩:=zbs hp.1;have hst:=zcx h2;exact val (r_new D k1 k2 k3 C.room C.ps (G.a C h2) hl (C.gl hp.2) q1 (zb0 (hst e (yab ..))) (zf0 fun x hx=>hst x (ya9 e hx))) trivial
        ·cases h
       split at h
       ·rename_i F ms h1 h2;cases h;obtain⟨hl,⟨D⟩⟩:=C.fs f F h1;obtain⟨q1,q2,q3⟩:=zbs hp.1;have hst:=zcx h2;exact val (r_call D C.room C.ps (G.a C h2) hl (C.gl hp.2) q1 (zb0 (hst e (yab ..))) (zf0 fun x hx=>hst x (ya9 e hx))) trivial
       ·cases h
     ·cases h
  |Attribute o m ap =>
   cases kws with
   |cons _ _=>rw[zaf]at h;unfold dEb at h;cases h
   |nil =>
    rw[zaf]at h;unfold dEb at h;simp only at h;split at h
    ·cases h
    rename_i hpo;rw[yc0,Bool.not_eq_false,ya3,ya3,decide_eq_true_eq]at hpo;obtain⟨⟨hpo,hl⟩,hlen⟩:=hpo
    by_cases hrv:(revOf m args).isSome=true
    ·rw[if_pos hrv]at h;obtain⟨⟨k,kp,kc⟩,hk⟩:=yd4.mp hrv;rw[hk]at h;obtain⟨hf,he⟩:=revOf_is hk;subst hf;subst he;split at h
     ·rename_i mo mk h1 h2;split at h
      ·rename_i hg;cases h;simp only[ya3,Option.any_some]at hg;exact val (r_jnr C.calm (C.gl hg.1.1) (C.bl _ (yb4.mp hg.1.2)) (G.e C h1) (G.e C h2) (zi3 hpo) (zb0 (es:=[]) (env:=X.env) hg.2) hl) trivial
      ·cases h
     ·cases h
    rw[if_neg hrv]at h;split at h
    ·rename_i mo ms h1 h2;split at h
     ·rename_i hf;subst hf;split at h
      ·rename_i k
       ·obtain⟨mk,h3,rfl⟩:=ya2.mp h;exact val (r_enw (G.e C h1) (G.e C h3) (zi3 hpo) (zb0 (es:=[]) (env:=X.env) (zcx h2 k (yab ..))) hl) trivial
      ·cases h
     split at h
     ·rename_i hf;subst hf;split at h
      ·rename_i k
       ·obtain⟨mk,h3,rfl⟩:=ya2.mp h;exact val (r_stw (G.e C h1) (G.e C h3) (zi3 hpo) (zb0 (es:=[]) (env:=X.env) (zcx h2 k (yab ..))) hl) trivial
      ·cases h
     split at h
     ·rename_i hf;subst hf;split at h
      ·rename_i k
       ·obtain⟨mk,h3,rfl⟩:=ya2.mp h;exact val (r_split (G.e C h1) (G.e C h3) (zi3 hpo) (zb0 (es:=[]) (env:=X.env) (zcx h2 k (yab ..))) hl) trivial
      ·cases h
     split at h
     ·rename_i hf;subst hf;split at h
      ·rename_i k
       ·obtain⟨mk,h3,rfl⟩:=ya2.mp h;exact val (r_join (G.e C h1) (G.e C h3) (zi3 hpo) (zb0 (es:=[]) (env:=X.env) (zcx h2 k (yab ..))) hl) trivial
      ·cases h
     exact val (metA_ok C hpo hl hlen (fun z=>dA_nil (z▸h2)) (G.e C h1) (G.a C h2) (zcx h2) h) trivial
    ·cases h
  |_=>rw[zaf]at h;unfold dEb at h;cases h
 |_=>rw[zaf]at h;unfold dEb at h;cases h
theorem goodS(G:Good ca n):Good ca (n+1):=by
 constructor
 ·intro Γ X E e m C h;exact(dE_ok G C h).1
 ·intro Γ X E e m C hok h;exact(dE_ok G C h).2 hok
 ·intro Γ X E es m C h;unfold dA at h;cases es with
  |nil=>cases h;exact r_nil
  |cons e es =>
   simp only at h;split at h
   ·rename_i hs;split at h
    ·rename_i m1 ms h1 h2;cases h;exact r_cons (G.e C h1) (G.a C h2) (zb0 hs)
    ·cases h
   ·cases h
 ·intro Γ X E es m C h;unfold dO at h;cases es with
  |nil=>cases h;exact r_nilO
  |cons e es =>
   simp only at h;split at h
   ·rename_i hs;split at h
    ·rename_i m1 ms h1 h2;cases h;exact r_consO (G.e C h1) (G.o C h2) (zb0 hs)
    ·cases h
   ·cases h
 ·intro Γ X E op es m pos C h;unfold dB at h;cases es with
  |nil=>cases h
  |cons a r =>
   cases r with
   |nil =>
    simp only at h;split at h
    ·rename_i hok;refine⟨r_one (G.e C h),?_⟩;cases op with
     |And=>exact r_wone1 (G.t C hok h)
     |Or=>exact r_wone2 (G.t C hok h)
    ·cases h
   |cons b r =>
    simp only at h;split at h
    ·rename_i hok;split at h
     ·rename_i ma mb h1 h2;cases h;obtain⟨b1,b2⟩:=G.b (pos:=pos) C h2;exact⟨r_and (G.e C h1) b1,r_wand (G.t C hok h1) b2⟩
     ·rename_i ma mb h1 h2;cases h;obtain⟨b1,b2⟩:=G.b (pos:=pos) C h2;exact⟨r_or (G.e C h1) b1,r_wor (G.t C hok h1) b2⟩
     ·cases h
    ·cases h
 ·intro Γ X E o m C h;unfold dP at h;cases o with
  |none=>cases h;exact r_po0
  |some e =>
   simp only at h;obtain⟨m1,h1,rfl⟩:=ya2.mp h;exact r_po1 (G.e C h1)
 ·intro Γ X E elt tg iter ifs scope m pos C h;obtain⟨caps,mi,b,mt,me,rfl,B,hi,hg,ht,he,hs⟩:=dC_parts G C h;exact r_lcV B C.calm hi C.ps C.fr hg ht he hs
 ·intro Γ X E tg e m C h
  have gen:∀{m:PSt->Option RsL},(dE n Γ e).map (itV Γ)=some m->PI X tg e (tI X.K E ca m):=fun h=>by
   obtain⟨m1,h1,rfl⟩:=ya2.mp h;exact itV_ok (G.e C h1)
  unfold dI at h;split at h
  ·rename_i f p a pos;split at h
   ·rename_i hf;subst hf;split at h
    ·rename_i hc;simp only[ya3]at hc;obtain⟨ms,h1,rfl⟩:=ya2.mp h;exact r_range1 (C.gl hc.1.1) (C.bl _ (yb4.mp hc.1.2)) (G.a C h1) (zb0 hc.2)
    ·cases h
   ·split at h
    ·rename_i hf;subst hf;split at h
     ·rename_i hc;simp only[ya3]at hc;obtain⟨ms,h1,rfl⟩:=ya2.mp h;cases tg with
      |Tuple elts kk tpos =>
       unfold enV;split
       ·exact r_enX (C.gl hc.1.1.1) (C.bl _ (yb4.mp hc.1.1.2)) (G.a C h1) (zb0 hc.1.2)
       ·exact r_enum (C.gl hc.1.1.1) (C.bl _ (yb4.mp hc.1.1.2)) (G.a C h1) (zb0 hc.1.2)
      |_=>exact Bool.noConfusion hc.2
     ·cases h
    ·exact gen h
  ·rename_i f p a b pos;split at h
   ·rename_i hf;subst hf;split at h
    ·rename_i hc;simp only[ya3]at hc;obtain⟨ms,h1,rfl⟩:=ya2.mp h;have s2:=zb0 (es:=[]) (env:=X.env) hc.2;exact r_range2 (C.gl hc.1.1.1) (C.bl _ (yb4.mp hc.1.1.2)) (G.a C h1) (by rw[zb0 hc.1.2,s2];rfl) s2
    ·cases h
   ·exact gen h
  ·cases h
  ·exact gen h
theorem good(ca:Str->Value):∀n,Good ca n
 |0=>good0 ca
 |n+1=>goodS (good ca n)
end
end Pu
set_option Elab.async false
set_option linter.all false
set_option maxRecDepth 100000
namespace Pu
open PySem PySem.Spec PyProof.Rows L2 Zw Zx
structure CxS(Γ:Gm)(X:Cx)(ca:Str->Value):Prop where
 N:X.N=Γ.N
 nd:Γ.N.Nodup
 nm:X.env.scope.names=Γ.nm
 un:X.A.units+64<cLine
 bl:∀b∈Γ.bl,X.mg b=none
 gx:GxOk Γ.ox Γ.lv X.prog X.w X.K X.mg X.base ca
theorem CxS.var{Γ:Gm}{X:Cx}{ca:Str->Value}(C:CxS Γ X ca){x:Str}{i:Nat}(h:Γ.var x=some i):X.N[i]?=some x/\Vis X.env.scope x/\(x == ("__debug__":Str))=false/\(x == ("__classdict__":Str))=false:=by
 unfold Gm.var at h;split at h
 ·rename_i hp;rw[ya3]at hp;obtain⟨p1,p2,p3⟩:=zbs hp.1;exact⟨by rw[C.N];exact zig h,visN_iff (by rw[C.nm];exact hp.2),p1,p2⟩
 ·cases h
theorem CxS.gl{Γ:Gm}{X:Cx}{ca:Str->Value}(C:CxS Γ X ca){x:Str}(h:glN Γ.nm x=true):Gl X x:=by
 unfold glN at h;show X.env.scope.names.lookup x=some .globalImplicit;rw[C.nm];exact eq_of_beq h
end Pu
set_option Elab.async false
set_option linter.all false
set_option maxRecDepth 100000
namespace Pu
open PySem PySem.Spec PyProof.Rows L2 Zw Zx
def pkB:List Str:=["len","isinstance","all","any","abs","min","max","int"]
def isLC:Expr->Bool
 |.ListComp ..=>true
 |_=>false
def zi5:Nat->List Str->Expr->List Str
 |0,_,_=>[]
 |n+1,pk,e =>
  let peek:=fun(x:Expr)=>match x with
   |.Name _ _=>[]
   |x=>zi5 n pk x
  match e with
  |.Name x _=>[x]
  |.BinOp a _ b _=>zi5 n pk a++zi5 n pk b
  |.UnaryOp _ a _=>zi5 n pk a
  |.BoolOp _ vs _=>vs.flatMap (zi5 n pk)
  |.Compare a _ bs _=>peek a++bs.flatMap peek
  |.IfExp c a b _=>zi5 n pk c++zi5 n pk a++zi5 n pk b
  |.Call (.Name f _) args [] _=>if pkB.contains f || pk.contains f then args.flatMap peek else args.flatMap (zi5 n pk)
  |.Call (.Attribute _ _ _) args [] _=>args.flatMap fun a=>if isLC a then zi5 n pk a else []
  |.Subscript a k _=>(match k with
   |.Slice lo hi _ _=>zi5 n pk a++(match lo with|some e=>zi5 n pk e|none=>[])++(match hi with|some e=>zi5 n pk e|none=>[])
   |_=>peek a++zi5 n pk k)
  |.List es _=>es.flatMap (zi5 n pk)
  |.Tuple es _ _=>es.flatMap (zi5 n pk)
  |.ListComp _ [⟨_,iter,_,_⟩] scope _=>zi5 n pk iter++zfz scope.names
  |_=>[]
def useS(pk:List Str):Stmt->List Str
 |.Expr (.Call (.Attribute (.Name _ _) _ _) [e] [] _) _=>zi5 40 pk e
 |.Expr e _=>zi5 40 pk e
 |.Return (some (.Name _ _)) _=>[]
 |.Return (some e) _=>zi5 40 pk e
 |.Assign [.Subscript (.Subscript _ k _) j _] e _=>zi5 40 pk k++zi5 40 pk j++zi5 40 pk e
 |.Assign [.Subscript _ k _] e _=>zi5 40 pk k++zi5 40 pk e
 |.Assign [_] e _=>zi5 40 pk e
 |.If c _ _ _=>zi5 40 pk c
 |.For _ it _ _ _=>zi5 40 pk it
 |.While c _ _ _=>zi5 40 pk c
 |_=>[]
def borE(Γ:Gm)(e:Expr)(m:PSt->Option Rs):PSt->Option Rs:=m
section
variable {X:Cx}{E:L2.St->XK}{ca:Str->Value}{Γ:Gm}{m:PSt->Option Rs}{e:Expr}{σ:L2.St}{H:Hp}
theorem tM_borE{Q:VK}(h:tM X.K E ca (borE Γ e m) σ H Q):tM X.K E ca m σ H Q:=h
theorem tMB_borE{Q:Bool->Hp->Prop}(h:tMB X.K E ca (borE Γ e m) σ H Q):tMB X.K E ca m σ H Q:=h
theorem pe_borE(h:PE X e (tM X.K E ca m)):PE X e (tM X.K E ca (borE Γ e m)):=PE.weak h fun σ H Q h=>tM_borE h
theorem pt_borE(h:PT X e (tMB X.K E ca m)):PT X e (tMB X.K E ca (borE Γ e m)):=fun pins s σ H Q I q=>h pins s σ H Q I (tMB_borE q)
end
def frzs(Γ:Gm)(s:Stmt):List Nat :=
 ((useS Γ.pk s).filter (Γ.ow.contains ·)).eraseDups.filterMap (ixOf Γ.N)
def frzAll(l:List Nat)(m:PSt->Option Out):PSt->Option Out:=l.foldr (fun i m=>zam (sFrz i) m) m
def ze3:Expr->Bool
 |.ListComp ..=>true
 |.SetComp ..=>true
 |.DictComp ..=>true
 |_=>false
def swp(Γ:Gm)(x:Str)(px:Pos):Expr->Bool
 |.ListComp _ _ scope p=>Γ.nm.lookup x == some .local && px.line == p.line && !(scope.names.any fun(n,k)=>n == x && (k == .local || k == .cell))
 |_=>false
def swn(Γ:Gm)(x:Str):Bool:=Γ.nm.lookup x == some .cell
def sAsg(Γ:Gm)(x:Str)(i:Nat)(m:PSt->Option Rs):PSt->Option Out:=if Γ.ow.contains x then sOwn i m else zda m (bNm i)
def zk1(c:Str)(ms:PSt->Option RsL):PSt->Option Out:=fun τ=>match ms τ with
 |some (.v ts _)=>if ts.length<=lim then some (.xc c τ) else none
 |some (.x c)=>some (.xc c τ)
 |none=>none
def appOf:Expr->Option (Str×Pos×Str×Pos×Expr×Pos)
 |.Call f es ks c=>(match f,es,ks with
  |.Attribute o f a,[e],[]=>(match o with
   |.Name x p=>some (x,p,f,a,e,c)
   |_=>none)
  |_,_,_=>none)
 |_=>none
theorem appOf_is{t:Expr}{x f:Str}{p a c:Pos}{e:Expr}(h:appOf t=some (x,p,f,a,e,c)):t=.Call (.Attribute (.Name x p) f a) [e] [] c:=by
 unfold appOf at h;split at h
 ·split at h
  ·split at h
   ·cases h;rfl
   ·cases h
  ·cases h
 ·cases h
def clrOf:Expr->Option (Str×Pos×Str×Pos×Pos)
 |.Call f es ks c=>(match f,es,ks with
  |.Attribute o f a,[],[]=>(match o with
   |.Name x p=>some (x,p,f,a,c)
   |_=>none)
  |_,_,_=>none)
 |_=>none
theorem clrOf_is{t:Expr}{x f:Str}{p a c:Pos}(h:clrOf t=some (x,p,f,a,c)):t=.Call (.Attribute (.Name x p) f a) [] [] c:=by
 unfold clrOf at h;split at h
 ·split at h
  ·split at h
   ·cases h;rfl
   ·cases h
  ·cases h
 ·cases h
def subOf:Expr->Option ((Str×Pos)×Expr×Pos)
 |.Subscript a k p=>(match nmOf a with
  |some x=>some (x,k,p)
  |none=>none)
 |_=>none
theorem subOf_is{t k:Expr}{x:Str}{q p:Pos}(h:subOf t=some ((x,q),k,p)):t=.Subscript (.Name x q) k p:=by
 unfold subOf at h;split at h
 ·split at h
  ·rename_i h1;cases h;rw[zg7 h1]
  ·cases h
 ·cases h
def rseOf(a b:Option Expr):Option (Str×Pos×Expr×List Expr×Pos):=match a,b with
 |some a,none=>(match a with
  |.Call f es ks c=>(match nmOf f,es,ks with
   |some (x,p),e::es,[]=>some (x,p,e,es,c)
   |_,_,_=>none)
  |_=>none)
 |_,_=>none
theorem rseOf_is{a b:Option Expr}{x:Str}{p c:Pos}{e:Expr}{es:List Expr}(h:rseOf a b=some (x,p,e,es,c)):a=some (.Call (.Name x p) (e::es) [] c)/\b=none:=by
 unfold rseOf at h;split at h
 ·split at h
  ·split at h
   ·rename_i h1;cases h;exact⟨by rw[zg7 h1],rfl⟩
   ·cases h
  ·cases h
 ·cases h
def isD0:Expr->Bool
 |.Dict ks vs _=>ks.isEmpty && vs.isEmpty
 |_=>false
theorem isD0_is{e:Expr}(h:isD0 e=true):∃p,e=.Dict [] [] p:=by
 unfold isD0 at h;split at h
 ·rename_i ks vs p;rw[ya3]at h;exact⟨p,by rw[yeg.mp h.1,yeg.mp h.2]⟩
 ·cases h
def atOf:Expr->Option ((Str×Pos)×Str×Pos)
 |.Attribute o f p=>(match nmOf o with
  |some x=>some (x,f,p)
  |none=>none)
 |_=>none
theorem atOf_is{t:Expr}{x f:Str}{q p:Pos}(h:atOf t=some ((x,q),f,p)):t=.Attribute (.Name x q) f p:=by
 unfold atOf at h;split at h
 ·split at h
  ·rename_i h1;cases h;rw[zg7 h1]
  ·cases h
 ·cases h
noncomputable def dFld(n:Nat)(Γ:Gm)(x f:Str)(e:Expr):Option (PSt->Option Out):=match Γ.ox.sf,Γ.var x with
 |some (C,fs),some i=>(match fs.findIdx? (· == f) with
  |some j=>if (fs.take j).contains f || !(decide (j<900)) || ze3 e then none else if isD0 e then some (zj5 C fs j i mDicS) else (dE n Γ e).map (zj5 C fs j i)
  |none=>none)
 |_,_=>none
noncomputable def dDpf(n:Nat)(Γ:Gm)(x f:Str)(k e:Expr):Option (PSt->Option Out):=match Γ.ox.sf,Γ.var x with
 |some (C,fs),some i=>(match fs.findIdx? (· == f) with
  |some j=>if zgi k || ze3 e then none else (match dE n Γ k,dE n Γ e with
   |some mk,some m=>some (sDpf C fs j i mk m)
   |_,_=>none)
  |none=>none)
 |_,_=>none
noncomputable def dAsg(n:Nat)(Γ:Gm)(t e:Expr):Option (PSt->Option Out):=match t with
    |.Name x px=>if Γ.loc x then (
     match ixOf Γ.N x,dE n Γ e with
      |some i,some m=>if ze3 e && !(swp Γ x px e) && !(swn Γ x) then none else some (sAsg Γ x i (borE Γ e m))
      |_,_=>none) else none
    |.Tuple ts kt pt=>(
      if isTupE e || ze3 e then none else (match dG Γ (.Tuple ts kt pt),dE n Γ e with
        |some b,some m=>some (zda m b)
        |_,_=>none))
    |.Subscript a j _=>(match subOf a with
      |some ((x,_),k,_) =>
        none
      |none=>(match nmOf a with
        |some (x,_)=>if zgi j || ze3 e then none else (match Γ.var x,dE n Γ j,dE n Γ e with
          |some i,some mk,some m=>some (sSto i mk m)
          |_,_,_=>none)
        |none=>(match atOf a with
          |some ((x,_),f,_)=>dDpf n Γ x f j e
          |none=>none)))
    |.Attribute o f _=>(match nmOf o with
      |some (x,_)=>dFld n Γ x f e
      |none=>none)
    |_=>none
mutual
noncomputable def dS:Nat->Gm->Stmt->Option (PSt->Option Out)
  |0,_,_=>none
  |n+1,Γ,s=>match s with
    |.Pass _=>some sNx
    |.Break _=>some sBk
    |.Continue _=>some sCt
    |.Return o _=>(match o with
      |none=>if Γ.mu then some sRetMN else some sRetN
      |some e=>if Γ.mu then (dE n Γ e).map sRetM else (dE n Γ e).map zcn)
    |.Expr e _=>(match appOf e with
      |some (x,_,f,apos,a,cpos)=>if zb5 a && (apos.endLine == cpos.line) then (
       match Γ.var x,dE n Γ a with
        |some i,some m=>if f="append" then some (sApp i m) else
          if f="extend" then some (sExt i m) else
          none
        |_,_=>none) else none
      |none=>(match clrOf e with
        |some (x,_,f,apos,cpos) =>
          none
        |none=>(
          if ze3 e then none else (dE n Γ e).map sExp)))
    |.Assign ts e _=>(match ts with
      |[t]=>dAsg n Γ t e
      |_=>none)
    |.AugAssign t op e _=>(match t,op with
      |.Name x _,.Add=>if Γ.loc x && !(Γ.ow.contains x) then (match ixOf Γ.N x,dE n Γ e with
        |some i,some m=>some (sAug i m)
        |_,_=>none) else none
      |_,_=>none)
    |.If c a b _=>(
      if okT c then (match dE n Γ c,dSs n Γ a,dSs n Γ b with
        |some mc,some u,some w=>some (sIf (borE Γ c mc) u w)
        |_,_,_=>none) else none)
    |.For tg it body els _=>if Γ.ox.nr then none else (
      (match els with
        |[]=>(match dI n Γ tg it,dG Γ tg,dSs n Γ body with
          |some mi,some b,some u=>some (sFor mi b u)
          |_,_,_=>none)
        |_=>none))
    |.While c body els _=>if Γ.ox.nr then none else (match els with
      |[]=>if okT c then (match dE n Γ c,dSs n Γ body with
        |some mc,some u=>some (sWh mc u)
        |_,_=>none) else none
      |_=>none)
    |.Raise a b _ =>
     (match rseOf a b with
      |some (c,_,e,es,_)=>if !(Γ.ox.nr) && Γ.ex.contains c && glN Γ.nm c && zds c then (dA n Γ (e::es)).map (zk1 c) else none
      |none=>none)
    |.Try body hs els fin _=>(match hs,els,fin with
      |_,_,_=>none)
    |_=>none
noncomputable def dSs:Nat->Gm->List Stmt->Option (PSt->Option Out)
 |0,_,_=>none
 |n+1,Γ,ss=>match ss with
  |[]=>some sNx
  |[s]=>(match dS n Γ s with
   |some m=>some (frzAll (frzs Γ s) m)
   |none=>if Γ.ox.no then some sNo else none)
  |s::r=>(match dS n Γ s,dSs n Γ r with
   |some m,some ms=>some (frzAll (frzs Γ s) (zam m ms))
   |none,some ms=>if Γ.ox.no then some (zam sNo ms) else none
   |_,none=>none)
end
section
variable {X:Cx}{E:L2.St->XK}{ca:Str->Value}{Γ:Gm}{mu:Bool}
theorem s_frzAll{zh6:List Stmt}{w:PSt->Option Out}(h:PSs X zh6 (tS X.K E ca mu w)):∀l:List Nat,PSs X zh6 (tS X.K E ca mu (frzAll l w))
 |[]=>h
 |i::r=>s_frz (s_frzAll h r)
theorem zkg{e:Expr}{t:Option Expr}{l:Nat}{env:Env}(h:ze3 e=false):swapsWith e t l env=pure false:=by
 cases e<;>first|rfl|cases h
theorem blockKind_fn{env:Env}(h:env.scope.kind=.function):env.blockKind=.function:=by
 unfold Env.blockKind;rw[h]
 rfl
theorem swap_yes(C:CxOk Γ X E ca){elt:Expr}{gens:List Comprehension}{scope:Scope}{p px:Pos}{x:Str}{l:Nat}(h:swp Γ x px (.ListComp elt gens scope p)=true):swapsWith (.ListComp elt gens scope p) (some (.Name x px)) l X.env=pure true:=by
 have e:swapsWith (.ListComp elt gens scope p) (some (.Name x px)) l X.env=pure (X.env.blockKind == .function && X.env.kindOf x == some .local && px.line == p.line && !(scope.names.any fun(n,k)=>n == x && (k == .local || k == .cell))):=rfl
 rw[e];unfold swp at h
 simp only[ya3]at h;have k:X.env.kindOf x=some .local:=by
  show X.env.scope.names.lookup x=some .local;rw[C.nm];exact eq_of_beq h.1.1
 rw[blockKind_fn C.kd,k,h.1.2,h.2]
 rfl
theorem swap_no(C:CxOk Γ X E ca){e:Expr}{px:Pos}{x:Str}{l:Nat}(h:swn Γ x=true):swapsWith e (some (.Name x px)) l X.env=pure false:=by
 have k:X.env.kindOf x=some .cell:=by
  show X.env.scope.names.lookup x=some .cell;rw[C.nm];exact eq_of_beq h
 have c:(some NameKind.cell == some NameKind.local)=false:=rfl;cases e<;>first|rfl|(unfold swapsWith;simp only[k,c,ye0,yd8])
theorem sole{t e:Expr}{l:Nat}{env:Env}(h:ze3 e=false):swapsWithSole [t] e l env=pure false:=zkg h
theorem sub_asg{o k:Expr}{pos:Pos}{env:Env}(h:zgi k=false)(v:Value):assign (.Subscript o k pos) env v=(do
   let ov <- holding [v] (eval o env);let iv <- holding [v,ov] (eval k env)
   standAt pos
   holding [v,ov,iv] (setItem ov iv v)
   release [v,ov,iv] []):=by
 cases k<;>first|rfl|cases h
theorem s_lcS{n:Nat}{elt:Expr}{gens:List Comprehension}{scope:Scope}{p px pos:Pos}{x:Str}{i:Nat}{m:PSt->Option Rs}(C:CxOk Γ X E ca)(h:dE n Γ (.ListComp elt gens scope p)=some m)(hw:swp Γ x px (.ListComp elt gens scope p)=true)(hi:ixOf Γ.N x=some i) :
  PS X (.Assign [.Name x px] (.ListComp elt gens scope p) pos) (tS X.K E ca mu (sAsg Γ x i (borE Γ (.ListComp elt gens scope p) m))):=by
 have lx:X.env.scope.names.lookup x=some .local:=by
  unfold swp at hw;simp only[ya3]at hw;rw[C.nm];exact eq_of_beq hw.1.1
 have hN:X.N[i]?=some x:=by rw[C.N];exact zig hi
 have main:PS X (.Assign [.Name x px] (.ListComp elt gens scope p) pos) (fun D σ H=>tM X.K E ca m σ H fun v H1=>D.nx (σ.set i (some v)) H1):=by
  cases n with
  |zero=>cases h
  |succ n =>
   obtain⟨tg,iter,ifs,rfl,h⟩:=lc_dE h;cases n with
   |zero=>cases h
   |succ n =>
    obtain⟨caps,mi,b,mt,me,rfl,B,hi',hg,ht,he,hs⟩:=dC_parts (good ca n) C h;exact r_lcS B C.calm hi' C.ps C.fr hg ht he hs C.nodup hN lx (swap_yes C hw)
 unfold sAsg;split
 ·exact PS.weak main fun D σ H h=>tM_borE (tS_own h)
 ·exact PS.weak main fun D σ H h=>tM_borE (tS_set (g:=gName i) (fun _ _ _ _ z=>gName_of z) h)
theorem s_asg{n:Nat}{e:Expr}{px pos:Pos}{x:Str}{i:Nat}{m:PSt->Option Rs}(C:CxOk Γ X E ca)(hl:Γ.loc x=true)(hi:ixOf Γ.N x=some i)(h:dE n Γ e=some m)(hc:(ze3 e && !(swp Γ x px e) && !(swn Γ x))=false) :
  PS X (.Assign [.Name x px] e pos) (tS X.K E ca mu (sAsg Γ x i (borE Γ e m))):=by
 have plain:(∀l,swapsWith e (some (.Name x px)) l X.env=pure false)->PS X (.Assign [.Name x px] e pos) (tS X.K E ca mu (sAsg Γ x i (borE Γ e m))):=fun sw=>by
  obtain⟨g1,g2,g3⟩:=C.loc hl hi;have he:=pe_borE (Γ:=Γ) ((good ca n).e C h);unfold sAsg;split
  ·exact s_ownN C.nodup g1 g2 he (sw _) g3
  ·exact s_setN C.nodup g1 g2 he (sw _) g3
 cases hcomp:ze3 e with
 |false=>exact plain fun l=>zkg hcomp
 |true =>
  rw[hcomp]at hc;cases hn:swn Γ x with
  |true=>exact plain fun l=>swap_no C hn
  |false =>
   rw[hn]at hc;have hw:swp Γ x px e=true:=by simpa using hc
   cases e with
   |ListComp elt gens scope p=>exact s_lcS C h hw hi
   |_=>cases hw
theorem s_rse{c:Str}{e:Expr}{es:List Expr}{ms:PSt->Option RsL}{p cpos pos:Pos}(C:CxOk Γ X E ca)(hnr:Γ.ox.nr=false)(hc:c∈Γ.ex)(hg:glN Γ.nm c=true)(hp:zds c=true)(ha:PA X (e::es) (tMs X.K E ca ms))(hs:∀x∈e::es,zb5 x=true) :
  PS X (.Raise (some (.Call (.Name c p) (e::es) [] cpos)) none pos) (tS X.K E ca mu (zk1 c ms)):=by
 obtain⟨T,hT⟩:=C.ex c hc;obtain⟨p1,p2,p3⟩:=zbs hp;refine PS.weak (ps_raise T C.calm (C.md hnr) ha (C.gl hg) p1 (zb0 (hs e (yab ..))) (zf0 hs)) fun D σ H h=>?_
 obtain⟨F,τ,R,S,q⟩:=h;refine⟨F,τ,R,S,?_⟩;unfold zk1 at q;cases hm:ms τ with
 |none=>simp only[hm]at q
 |some r =>
  simp only[hm]at q;cases r with
  |x c=>exact fun F' H' e=>q F' H' σ R e.stp0 (S.ext e)
  |v ts b =>
   intro F' H' xs e1 rs
   by_cases hz:ts.length<=lim
   ·simp only[hz,if_true]at q;refine⟨by rw[<- rs.1,<- zdx];exact hz,?_⟩
    have:=q F' H' σ R e1.stp0 (S.ext e1);rw[hT]at this;exact this
   ·simp only[hz,if_false]at q
structure GoodS(ca:Str->Value)(n:Nat):Prop where
 s:∀{Γ:Gm} {X:Cx} {E:L2.St->XK} {st:Stmt} {m:PSt->Option Out},CxOk Γ X E ca->dS n Γ st=some m->PS X st (tS X.K E ca Γ.mu m)
 ss:∀{Γ:Gm} {X:Cx} {E:L2.St->XK} {st:List Stmt} {m:PSt->Option Out},CxOk Γ X E ca->dSs n Γ st=some m->PSs X st (tS X.K E ca Γ.mu m)
end
theorem dAsg_ok{ca:Str->Value}{n:Nat}{Γ:Gm}{X:Cx}{E:L2.St->XK}{t e:Expr}{pos:Pos}{m:PSt->Option Out}(C:CxOk Γ X E ca)(h:dAsg n Γ t e=some m):PS X (.Assign [t] e pos) (tS X.K E ca Γ.mu m):=by
 have GE:=good ca n;unfold dAsg at h;split at h
 ·rename_i x px;split at h
  ·rename_i hl;split at h
   ·rename_i i m1 h1 h2;split at h
    ·cases h
    ·rename_i hc;cases h;exact s_asg C hl h1 h2 (yb0.mpr hc)
   ·cases h
  ·cases h
 ·rename_i ts kt pt;split at h
  ·cases h
  ·rename_i hc;split at h
   ·rename_i b m1 h1 h2;cases h;have hc':(isTupE e || ze3 e)=false:=yb0.mpr hc
    rw[ybp]at hc';refine s_setG (GE.e C h2) (dG_ok C h1) ?_ ?_ rfl
    ·exact sole hc'.2
    ·have ht:=hc'.1;cases e<;>first|rfl|cases ht
   ·cases h
 ·rename_i a j p3;split at h
  ·rename_i x p1 k p2 hsub;have hsub:=subOf_is hsub;subst hsub;cases h
  ·split at h
   ·rename_i x p1 hnm;have hnm:=zg7 hnm;subst hnm;split at h
    ·cases h
    ·rename_i hc;split at h
     ·rename_i i mk m1 h1 h2 h3;have hc':(zgi j || ze3 e)=false:=yb0.mpr hc
      rw[ybp]at hc';obtain⟨v1,v2,v3,v4⟩:=C.var (pos:=p1) h1;cases h;refine s_sto v1 v2 v3 v4 (GE.e C h3) (GE.e C h2) (sole hc'.2) ?_ (sub_asg hc'.1);cases e<;>rfl
     ·cases h
   ·split at h
    ·rename_i x p1 f p2 hat;have hat:=atOf_is hat;subst hat;unfold dDpf at h;split at h
     ·rename_i CC fs i hsf hv;split at h
      ·rename_i jj hj;split at h
       ·cases h
       ·rename_i hc;have hc':(zgi j || ze3 e)=false:=yb0.mpr hc
        rw[ybp]at hc';split at h
        ·rename_i mk m1 h1 h2;cases h;obtain⟨v1,v2,v3,v4⟩:=C.var (pos:=p1) hv;obtain⟨k1,k2⟩:=C.gx.sf CC fs hsf
         have hf:f∈fs:=by
          obtain⟨q1,q2,_⟩:=ybj.mp hj;rw[<- eq_of_beq q2];exact ybf q1
         refine s_dpf (by have:=C.room.units;omega) k1 (k2 f hf) hj v1 v2 v3 v4 (GE.e C h2) (GE.e C h1) (sole hc'.2) ?_ (sub_asg hc'.1)
         cases e<;>rfl
        ·cases h
      ·cases h
     ·cases h
    ·cases h
 ·rename_i o f p2;split at h
  ·rename_i x p1 hn;have hn:=zg7 hn;subst hn;unfold dFld at h;split at h
   ·rename_i CC fs i hsf hv;split at h
    ·rename_i jj hj;split at h
     ·cases h
     ·rename_i hc;have hc':((fs.take jj).contains f || !(decide (jj<900)) || ze3 e)=false:=yb0.mpr hc
      rw[ybp,ybp,Bool.not_eq_false',decide_eq_true_eq]at hc';obtain⟨⟨c1,c2⟩,c3⟩:=hc';obtain⟨v1,v2,v3,v4⟩:=C.var (pos:=p1) hv;obtain⟨k1,k2⟩:=C.gx.sf CC fs hsf;obtain⟨q1,q2,_⟩:=ybj.mp hj
      have hf:f∈fs:=by
       rw[<- eq_of_beq q2];exact ybf q1
      have hg:fs[jj]?=some f:=by rw[ya1 q1];exact congrArg some (eq_of_beq q2)
      split at h
      ·rename_i h0;obtain⟨p0,rfl⟩:=isD0_is h0;cases h;exact s_fldA k1 (k2 f hf) hg c1 c2 v1 v2 v3 v4 r_dicS rfl
      ·obtain⟨m1,h1,rfl⟩:=ya2.mp h;exact s_fldA k1 (k2 f hf) hg c1 c2 v1 v2 v3 v4 (GE.e C h1) (zkg c3)
    ·cases h
   ·cases h
  ·cases h
 ·cases h
theorem dS_ok{ca:Str->Value}{n:Nat}(G:GoodS ca n){Γ:Gm}{X:Cx}{E:L2.St->XK}{st:Stmt}{m:PSt->Option Out}(C:CxOk Γ X E ca)(h:dS (n+1) Γ st=some m):PS X st (tS X.K E ca Γ.mu m):=by
 have GE:=good ca n;unfold dS at h;split at h
 ·cases h;exact s_pass
 ·cases h;exact s_break
 ·cases h;exact s_continue
 ·split at h
  ·split at h
   ·rename_i hmu;cases h;rw[hmu];exact s_retMN
   ·rename_i hmu;cases h;rw[yb0.mpr hmu];exact s_retN
  ·split at h
   ·rename_i hmu;obtain⟨m1,h1,rfl⟩:=ya2.mp h;rw[hmu];exact s_retM (GE.e C h1)
   ·rename_i hmu;rw[yb0.mpr hmu];obtain⟨m1,h1,rfl⟩:=ya2.mp h;exact s_ret (GE.e C h1)
 ·split at h
  ·rename_i x p f apos e cpos happ;have happ:=appOf_is happ;subst happ;split at h
   ·rename_i hc;rw[ya3]at hc;split at h
    ·rename_i i m1 h1 h2;obtain⟨v1,v2,v3,v4⟩:=C.var (pos:=p) h1;have s1:=zb0 (es:=[]) (env:=X.env) hc.1;split at h
     ·rename_i hf;subst hf;cases h;exact s_app v1 v2 v3 v4 (GE.e C h2) s1 hc.2
     ·split at h
      ·rename_i hf;subst hf;cases h;exact s_ext v1 v2 v3 v4 (GE.e C h2) s1 hc.2
      ·cases h
    ·cases h
   ·cases h
  ·split at h
   ·rename_i x p f apos cpos hclr;have hclr:=clrOf_is hclr;subst hclr;cases h
   ·
    split at h
    ·cases h
    ·rename_i hc;obtain⟨m1,h1,rfl⟩:=ya2.mp h;exact s_exp (GE.e C h1) (zkg (yb0.mpr hc))
 ·split at h
  ·exact dAsg_ok C h
  ·cases h
 ·split at h
  ·split at h
   ·rename_i hl;rw[ya3]at hl;split at h
    ·rename_i i m1 h1 h2;cases h;obtain⟨g1,g2,g3⟩:=C.loc hl.1 h1;exact s_aug C.nodup g1 g2 (GE.e C h2) g3
    ·cases h
   ·cases h
  ·cases h
 ·rename_i c a b pos;split at h
  ·rename_i hok;split at h
   ·rename_i mc u w h1 h2 h3;cases h;exact s_if (pt_borE (GE.t C hok h1)) (G.ss C h2) (G.ss C h3)
   ·cases h
  ·cases h
 ·split at h
  ·cases h
  rename_i hnr;split at h
  ·split at h
   ·rename_i mi b u h1 h2 h3;cases h;exact s_for (C.po (yb0.mpr hnr)) C.calm (GE.i C h1) (dG_ok C h2) (G.ss C h3) (fold_ok (zm3 h1))
   ·cases h
  ·cases h
 ·split at h
  ·cases h
  rename_i hnr;split at h
  ·split at h
   ·rename_i hok;split at h
    ·rename_i mc u h1 h2;cases h;exact s_wh (C.po (yb0.mpr hnr)) (GE.t C hok h1) (G.ss C h2)
    ·cases h
   ·cases h
  ·cases h
 ·
  split at h
  ·rename_i c p e es cpos hr;obtain⟨rfl,rfl⟩:=rseOf_is hr;split at h
   ·rename_i hc;simp only[ya3,yc0]at hc;obtain⟨ms,h1,rfl⟩:=ya2.mp h;exact s_rse C hc.1.1.1 (yb4.mp hc.1.1.2) hc.1.2 hc.2 (GE.a C h1) (zcx h1)
   ·cases h
  ·cases h
 ·rename_i body hs els fin pos;split at h
  ·cases h
 ·cases h
theorem goodSt(ca:Str->Value):∀n,GoodS ca n
 |0=>⟨(fun C h=>by cases h),(fun C h=>by cases h)⟩
 |n+1=>by
  have G:=goodSt ca n;refine⟨fun C h=>dS_ok G C h,fun {Γ X E st m} C h=>?_⟩
  unfold dSs at h;cases st with
  |nil=>cases h;exact s_nil
  |cons s r =>
   cases r with
   |nil =>
    simp only at h;split at h
    ·rename_i m1 h1;cases h;exact s_frzAll (s_one (G.s C h1)) _
    ·split at h
     ·cases h;exact s_one s_no
     ·cases h
   |cons s2 r =>
    simp only at h;split at h
    ·rename_i m1 ms h1 h2;cases h;exact s_frzAll (s_cons (G.s C h1) (G.ss C h2)) _
    ·rename_i ms h1 h2;split at h
     ·cases h;exact s_cons s_no (G.ss C h2)
     ·cases h
    ·cases h
def runF(n:Nat)(u:PSt->Option Out)(ts:List T):Option Ru:=match u (ts.map some++List.replicate (n - ts.length) none) with
 |some (.rt t)=>some (.ok t)
 |some (.nx _)=>some (.ok .non)
 |some (.xc c _)=>some (.exc c)
 |_=>none
def zdl(k n:Nat)(u:PSt->Option Out)(ts:List T):Option Ru:=if ts.length=k then runF n u ts else none
theorem stp_ext{F H F' H':Hp}{O':Rg}{R:Nat->Rg}(hR:∀i a,¬ R i a)(s:Stp F H (tot R) F' H' O'):Ext F H F' H' O' where
 hh:=fun b u e=>s.kp b u (fun⟨i,z⟩=>hR i b z) e
 ff:=s.ff
 fh:=s.fh
 nb:=fun b z=>(s.nw b z).elim (fun⟨i,w⟩=>absurd w (hR i b)) id
 nf:=fun b u e=>(s.nf b u e).elim .inl fun z=>z.elim (fun⟨i,w⟩=>absurd w (hR i b)) .inr
theorem start_st{K:PySem.W.Frag}{F H:Hp}{N:List Str}{ts:List T}{vs:List V}(fh:zbe F H)(r:Rps K F ts vs):StR K F H (start N vs) (ts.map some++List.replicate (N.length - ts.length) none) (fun _=>R0):=by
 have hl:=r.1;refine⟨fh,by simp[L2.start,hl],fun i t e=>?_,fun _ _ z=>z.elim,fun _ _ _ _ z=>z.elim⟩
 unfold L2.start
 by_cases hi:i<ts.length
 ·rw[yay (by simpa using hi),yaa]at e
  obtain⟨t',e1,e2⟩:=ya2.mp e;cases e2;have hv:i<vs.length:=by omega
  refine⟨vs[i],?_,(r.2 i t vs[i] e1 (ya1 hv)).any⟩;rw[yay (by simpa using hv),yaa,ya1 hv]
  rfl
 ·rw[yaw (by simp;omega)]at e
  obtain⟨h1,h2⟩:=ya4.mp e;simp at h2
theorem fn_ok{P:Program}{w:World}{K:PySem.W.Frag}{mg:Str->Option Value}{base:Heap}{ca:Str->Value}{x qual:Str}{st:Stmt}{f:Addr}{fd:FuncData}{N ps:List Str}{k n:Nat}{Γ:Gm}{u:PSt->Option Out}(F:FunD K x qual st f fd)(S:FnScope N ps (za2 st))
  (hΓ:Γ.N=N) (hnm:Γ.nm=(za2 st).names) (hce:∀x∈Γ.ce,Γ.nm.lookup x=some .cell) (hlv:Γ.lv=k) (hbl:∀b∈Γ.bl,mg b=none)
  (hfs:∀f F,Γ.fns.lookup f=some F->F.lv<=k/\Nonempty (DefX P w K mg base F.lv f F.ps (spP K ca F.g))) (hex:∀c∈Γ.ex,∃T:ECls K mg c,ca c=.ref T.C)
  (hms:∀f F,Γ.mus.lookup f=some F->F.lv<=k/\Nonempty (DefX P w K mg base F.lv f F.ps (spM K ca F.g))) (hmu:Γ.mu=false) (hgx:GxOk Γ.ox k P w K mg base ca) (hu:dSs n Γ (zaa st)=some u):FnOk P w K mg base (CX1 P w) (k+1) f fd ps (spP K ca (zdl ps.length N.length u)):=by
 refine okX F S (fun vs H Q E h=>?_) fun cdv A outer s H vs Q E hr h=>?_
 ·obtain⟨F',ts,_,r,q⟩:=h;unfold zdl at q
  by_cases hl:ts.length=ps.length
  ·rw[<- r.1,hl]
  ·simp only[hl,if_false]at q
 ·have C:CxOk Γ (cxOf (CX1 P w) P w K mg base N qual (za2 st) f cdv A outer s H E) (fun _=>E) ca:=by
   refine⟨hΓ.symm,by rw[hΓ];exact S.nd,hnm.symm,S.kind,rfl,by rw[hlv];exact hr,fun y hy=>⟨rfl,hce y hy⟩,hbl,passD,fun _=>PassesOwn.leaving,fun _=>madeD,fun f F e=>by rw[hlv];exact hfs f F e,hex,fun f F e=>by rw[hlv];exact hms f F e,by rw[hlv];exact hgx,fun _=>⟨rfl,rfl⟩,⟨_,_,rfl,rfl⟩⟩
  have G:=(goodSt ca n).ss C hu;rw[hmu]at G;refine⟨_,G,?_⟩;obtain⟨F',ts,fh,r,q⟩:=h;refine⟨F',_,_,start_st fh r,?_⟩;unfold zdl at q
  by_cases hl:ts.length=ps.length
  ·simp only[hl,if_true]at q;unfold runF at q;cases ho:u (ts.map some++List.replicate (N.length - ts.length) none) with
   |none=>simp only[ho]at q
   |some o =>
    simp only[ho]at q;cases o with
    |nx τ=>exact fun F1 H1 σ1 R1 s1 S1=>q F1 H1 .non R0 ((stp_ext (fun _ _ z=>z) s1).mono fun _ z=>z.elim) .non
    |rt t=>exact fun F1 H1 x B s1 r1=>q F1 H1 x B (stp_ext (fun _ _ z=>z) s1) r1
    |bk τ=>exact q.elim
    |ct τ=>exact q.elim
    |xc c τ=>exact fun F1 H1 σ1 R1 s1 S1=>q F1 H1 ((stp_ext (fun _ _ z=>z) s1).mono fun _ z=>z.elim)
  ·simp only[hl,if_false]at q
def runM(k n:Nat)(u:PSt->Option Out)(ts:List T):Option Ru:=if ts.length=k then (match u (ts.map some++List.replicate (n - ts.length) none) with
 |some (.rt t)=>some (.ok t)
 |some (.nx τ)=>(match retAt .non τ with
  |some (.rt t)=>some (.ok t)
  |_=>none)
 |some (.xc c _)=>some (.exc c)
 |_=>none) else none
theorem start_stM{K:PySem.W.Frag}{F H:Hp}{N:List Str}{t0:T}{ts:List T}{x0:V}{vs:List V}{A:Rg}(fh:zbe F H)(r0:Rp K F H t0 x0 A)(r:Rps K F ts vs):StR K F H (start N (x0::vs)) ((t0::ts).map some++List.replicate (N.length - (t0::ts).length) none) (fun i=>if i=0 then A else R0):=by
 have hl:=r.1;refine⟨fh,by simp[L2.start,hl],fun i t e=>?_,fun i a z=>?_,fun i j a hij z1 z2=>?_⟩
 ·unfold L2.start
  by_cases hi:i<(t0::ts).length
  ·rw[yay (by simpa using hi),yaa]at e
   obtain⟨t',e1,e2⟩:=ya2.mp e;cases e2;cases i with
   |zero =>
    cases e1;exact⟨x0,by simp,r0⟩
   |succ i =>
    have hi':i<ts.length:=by simpa using hi
    have hv:i<vs.length:=by omega
    refine⟨vs[i],?_,(r.2 i t vs[i] (by simpa using e1) (ya1 hv)).any⟩
    rw[yay (by simpa using hv),yaa,yda,ya1 hv]
    rfl
  ·rw[yaw (by simp at hi ⊢;omega)]at e
   obtain⟨h1,h2⟩:=ya4.mp e;simp at h2
 ·by_cases hi:i=0
  ·subst hi;exact⟨t0,rfl⟩
  ·simp only[hi,if_false]at z;exact z.elim
 ·by_cases hi:i=0
  ·have hj:¬ j=0:=fun z=>hij (hi.trans z.symm)
   simp only[hj,if_false]at z2;exact z2
  ·simp only[hi,if_false]at z1;exact z1
theorem tot_one{A:Rg}:tot (fun i=>if i=0 then A else R0)=A:=funext fun a=>propext ⟨fun⟨i,z⟩=>by
 by_cases hi:i=0
 ·simp only[hi,if_true]at z;exact z
 ·simp only[hi,if_false]at z;exact z.elim,fun z=>⟨0,by simpa using z⟩⟩
end Pu
set_option Elab.async false
set_option linter.all false
set_option maxRecDepth 100000
namespace Pu
open PySem PySem.Spec PyProof.Rows L2 Zw Zx
theorem za6{α:Type}{P:α->Prop}:∀x∈([]:List α),P x:=fun _ h=>by cases h
theorem all_cons{α:Type}{P:α->Prop}{a:α}{l:List α}(h:P a)(r:∀x∈l,P x):∀x∈a::l,P x:=fun x hx=>by
 obtain rfl|hx:=ya7.mp hx
 ·exact h
 ·exact r x hx
theorem usN{P:List Value->Prop}(h:P []):∀us:List Value,us.length=0->P us:=fun us e=>by
 cases us with
 |nil=>exact h
 |cons a r=>cases e
theorem usS{P:List Value->Prop}{k:Nat}(h:∀a us,us.length=k->P (a::us)):∀us:List Value,us.length=k+1->P us:=fun us e=>by
 cases us with
 |nil=>cases e
 |cons a r=>exact h a r (Nat.succ.inj e)
theorem us1{P:List Value->Prop}(h:∀a,P [a]):∀us:List Value,us.length=1->P us:=usS fun a=>usN (h a)
theorem us2{P:List Value->Prop}(h:∀a b,P [a,b]):∀us:List Value,us.length=2->P us:=usS fun a=>usS fun b=>usN (h a b)
theorem us3{P:List Value->Prop}(h:∀a b c,P [a,b,c]):∀us:List Value,us.length=3->P us:=usS fun a=>usS fun b=>usS fun c=>usN (h a b c)
theorem us4{P:List Value->Prop}(h:∀a b c d,P [a,b,c,d]):∀us:List Value,us.length=4->P us:=usS fun a=>usS fun b=>usS fun c=>usS fun d=>usN (h a b c d)
section
variable {P:Program}{w:World}{K:PySem.W.Frag}{mg:Str->Option Value}{base:Heap}{ca:Str->Value}{k:Nat}
theorem zad:∀f F,([]:List (Str×Fn)).lookup f=some F->F.lv<=k/\Nonempty (DefX P w K mg base F.lv f F.ps (spP K ca F.g)):=fun _ _ h=>by cases h
theorem zab{x:Str}{F0:Fn}{l:List (Str×Fn)}(hk:F0.lv<=k)(D:DefX P w K mg base F0.lv x F0.ps (spP K ca F0.g))(r:∀f F,l.lookup f=some F->F.lv<=k/\Nonempty (DefX P w K mg base F.lv f F.ps (spP K ca F.g))) :
  ∀f F,((x,F0)::l).lookup f=some F->F.lv<=k/\Nonempty (DefX P w K mg base F.lv f F.ps (spP K ca F.g)):=fun f F h=>by
 rw[yaz]at h;cases hf:f == x with
 |true =>
  rw[hf]at h;cases h;rw[eq_of_beq hf];exact⟨hk,⟨D⟩⟩
 |false=>rw[hf]at h;exact r f F h
theorem zed:∀f F,([]:List (Str×Fn)).lookup f=some F->F.lv<=k/\Nonempty (DefX P w K mg base F.lv f F.ps (spM K ca F.g)):=fun _ _ h=>by cases h
def spLaw(K:PySem.W.Frag):Sp:=fun vs H Q _=>∃(a:Addr) (ns:List Int),vs=[.ref a]/\SqL K H a (ns.map V.int)/\ns.length<=63/\∀H',Q (.bl true) H'
def zbf(ns:List Int):T:=.nd false .rl (ns.map T.int)
theorem rps_ints{F:Hp}:∀ns:List Int,Rps K F (ns.map T.int) (ns.map V.int)
 |[]=>.nil
 |n::r=>.cons (H:=F) (.int n) (rps_ints r)
theorem law_fn{R:List T->Option Ru}{f:Addr}{fd:FuncData}(F:FnOk P w K mg base (CX1 P w) k f fd ["_law_script"] (spP K ca R))(h:∀ns:List Int,ns.length<=63->R [zbf ns]=some (.ok (.bl true))):FnOk P w K mg base CX0 k f fd ["_law_script"] (spLaw K):=by
 refine⟨fun vs H Q E hs=>?_,fun A outer s H args us vs Q E hr e0 hb hv hs=>?_⟩
 ·obtain⟨a,ns,rfl,_⟩:=hs
  rfl
 ·obtain⟨a,ns,rfl,hq,h63,q⟩:=hs;refine codeAny_mono (F.run A outer s H args us _ Q E0 hr e0 hb hv ⟨H,[zbf ns],.refl _,.cons (H:=H) (Rps.of_node (k:=.rl) hq (rps_ints ns)) .nil,?_⟩) fun r s' hx=>?_
  ·rw[h ns h63];intro F' H' z C e r;rw[r.bl_inv];exact q H'
  ·cases r with
   |error v =>
    obtain⟨_,_,_,_,_,_,_,_,_,_,_,_,_,z⟩:=hx;exact z.elim
   |ok fl=>cases fl<;>exact hx
end
end Pu
set_option Elab.async false
set_option linter.all false
set_option maxRecDepth 100000
namespace Pu
open PySem PySem.Spec PyProof.Rows L2 Zw Zx
end Pu
set_option Elab.async false
set_option linter.all false
set_option maxRecDepth 100000
namespace Pu
open PySem PySem.Spec PyProof.Rows L2 Zw Zx
def runI0(C:Addr)(fs:List Str)(k n:Nat)(u:PSt->Option Out)(p:Addr)(ts:List T):Option Ru:=if ts.length+1=k then (match u ((T.oob p C fs []::ts).map some++List.replicate (n - (ts.length+1)) none) with
 |some (.nx τ)=>(match oobAt τ 0 C fs with
  |some (q,l)=>if q=p then some (.ok (.obj (.ins C fs) (zae l))) else none
  |none=>none)
 |some (.xc c _)=>some (.exc c)
 |_=>none) else none
open Classical in
noncomputable def runI(C:Addr)(fs:List Str)(k n:Nat)(u:PSt->Option Out)(ts:List T):Option Ru:=if h:∃r,∀p,runI0 C fs k n u p ts=some r then some h.choose else none
theorem runI_of{C:Addr}{fs:List Str}{k n:Nat}{u:PSt->Option Out}{ts:List T}{r:Ru}(h:∀p,runI0 C fs k n u p ts=some r):runI C fs k n u ts=some r:=by
 have hx:∃r,∀p,runI0 C fs k n u p ts=some r:=⟨r,h⟩;unfold runI;rw[dif_pos hx];have e:=(hx.choose_spec 0).symm.trans (h 0);exact e
theorem runI_at{C:Addr}{fs:List Str}{k n:Nat}{u:PSt->Option Out}{ts:List T}{r:Ru}(h:runI C fs k n u ts=some r)(p:Addr):runI0 C fs k n u p ts=some r:=by
 unfold runI at h;split at h
 ·rename_i hx;cases h;exact hx.choose_spec p
 ·cases h
theorem fn_okI{P:Program}{w:World}{K:PySem.W.Frag}{mg:Str->Option Value}{base:Heap}{ca:Str->Value}{x qual:Str}{st:Stmt}{f:Addr}{fd:FuncData}{N ps:List Str}{k n:Nat}{Γ:Gm}{u:PSt->Option Out}{C:Addr}{fs:List Str}(F:FunD K x qual st f fd)(S:FnScope N ps (za2 st))
  (hΓ:Γ.N=N) (hnm:Γ.nm=(za2 st).names) (hce:∀x∈Γ.ce,Γ.nm.lookup x=some .cell) (hlv:Γ.lv=k) (hbl:∀b∈Γ.bl,mg b=none)
  (hfs:∀f F,Γ.fns.lookup f=some F->F.lv<=k/\Nonempty (DefX P w K mg base F.lv f F.ps (spP K ca F.g))) (hex:∀c∈Γ.ex,∃T:ECls K mg c,ca c=.ref T.C)
  (hms:∀f F,Γ.mus.lookup f=some F->F.lv<=k/\Nonempty (DefX P w K mg base F.lv f F.ps (spM K ca F.g))) (hmu:Γ.mu=false) (hgx:GxOk Γ.ox k P w K mg base ca) (hu:dSs n Γ (zaa st)=some u):FnOk P w K mg base (CX1 P w) (k+1) f fd ps (spN K ca C (runI C fs ps.length N.length u)):=by
 refine okX F S (fun vs H Q E h=>?_) fun cdv A outer s H vs Q E hr h=>?_
 ·obtain⟨F',p,dx,ts,vs',_,rfl,_,_,r,q⟩:=h;cases hg:runI C fs ps.length N.length u ts with
  |none=>rw[hg]at q;exact q.elim
  |some rr =>
   have h0:=runI_at hg 0;unfold runI0 at h0
   by_cases hl:ts.length+1=ps.length
   ·rw[ya8,<- r.1,hl]
   ·rw[if_neg hl]at h0;cases h0
 ·have CC:CxOk Γ (cxOf (CX1 P w) P w K mg base N qual (za2 st) f cdv A outer s H E) (fun _=>E) ca:=by
   refine⟨hΓ.symm,by rw[hΓ];exact S.nd,hnm.symm,S.kind,rfl,by rw[hlv];exact hr,fun y hy=>⟨rfl,hce y hy⟩,hbl,passD,fun _=>PassesOwn.leaving,fun _=>madeD,fun f F e=>by rw[hlv];exact hfs f F e,hex,fun f F e=>by rw[hlv];exact hms f F e,by rw[hlv];exact hgx,fun _=>⟨rfl,rfl⟩,⟨_,_,rfl,rfl⟩⟩
  have G:=(goodSt ca n).ss CC hu;rw[hmu]at G;refine⟨_,G,?_⟩;obtain⟨F',p,dx,ts,vs',fh,rfl,fp,hp,r,q⟩:=h;have r0:Rp K F' H (.oob p C fs []) (.ref p) (fun a=>a=p\/∃j:Nat,R0 a):=.oob (xs:=[]) (fun _=>R0) fp (by rw[List.zip_nil_right];exact hp) rfl (fun i t x h=>by simp at h) (fun _ _ _ _ z=>z.elim) (fun _ z=>z) (fun _ _ z=>z.elim)
  have hA:(fun a=>a=p\/∃j:Nat,R0 a)=fun a=>a=p:=funext fun a=>propext ⟨fun z=>z.elim id fun⟨_,w⟩=>w.elim,fun z=>.inl z⟩
  refine⟨F',_,_,start_stM fh r0 r,?_⟩;rw[tot_one,hA];cases hg:runI C fs ps.length N.length u ts with
  |none=>rw[hg]at q;exact q.elim
  |some rr =>
   rw[hg]at q;have h0:=runI_at hg p;unfold runI0 at h0
   by_cases hl:ts.length+1=ps.length
   ·rw[if_pos hl]at h0;have el:(T.oob p C fs []::ts).length=ts.length+1:=rfl;rw[el];cases ho:u ((T.oob p C fs []::ts).map some++List.replicate (N.length - (ts.length+1)) none) with
    |none=>rw[ho]at h0;cases h0
    |some o =>
     rw[ho]at h0;cases o with
     |nx τ =>
      simp only at h0;intro F1 H1 σ1 R1 s1 S1;cases hoo:oobAt τ 0 C fs with
      |none=>rw[hoo]at h0;cases h0
      |some ql =>
       obtain⟨q0,l⟩:=ql;rw[hoo]at h0;simp only at h0
       by_cases hq:q0=p
       ·rw[if_pos hq]at h0;subst hq;cases h0;have h00:=zj7 hoo;have S2:=S1.frz h00;obtain⟨y,ey,ry⟩:=S1.rep 0 _ h00;obtain⟨dx2,xs2,Rr,rfl,hA2,fp2,hp2,ro,dp⟩:=ry.oob_inv;have n1:∀a,R1 0 a->F1 a=none:=fun a z=>(S1.dom z).1
        have r2:=ry.share (H':=H1) (zgl (H:=H1) n1) fun a u z q=>by rw[zjr z];exact q
        simp only at q;refine q (frz F1 H1 (R1 0)) H1 ⟨s1.ff.trans (zgl n1),znj S1.fh,s1.kp,fun b z=>z.elim,fun b u e=>?_⟩ r2
        by_cases hb:R1 0 b
        ·exact(s1.nw b ⟨0,hb⟩).elim (fun z=>.inr (.inl z)) fun z=>.inr (.inr z)
        ·rw[zfk hb]at e;exact s1.nf b u e
       ·rw[if_neg hq]at h0;cases h0
     |rt t=>cases h0
     |bk τ=>cases h0
     |ct τ=>cases h0
     |xc c τ =>
      cases h0;simp only at q;exact fun F1 H1 σ1 R1 s1 S1=>q F1 H1 (s1.mono fun _ z=>z.elim)
   ·rw[if_neg hl]at h0;cases h0
theorem zbu{κ α:Type} [BEq κ]{P:κ->α->Prop}:∀y b,([]:List (κ×α)).lookup y=some b->P y b:=fun _ _ h=>by cases h
theorem zba{κ α:Type} [BEq κ] [LawfulBEq κ]{P:κ->α->Prop}{x:κ}{a:α}{l:List (κ×α)}(h:P x a)(r:∀y b,l.lookup y=some b->P y b):∀y b,((x,a)::l).lookup y=some b->P y b:=fun y b e=>by
 rw[yaz]at e;cases hf:y == x with
 |true =>
  rw[hf]at e;cases e;rw[eq_of_beq hf];exact h
 |false=>rw[hf]at e;exact r y b e
theorem rp_strs{K:PySem.W.Frag}{F:Hp}:∀ys:List Str,Rps K F (ys.map T.str) (ys.map V.str)
 |[]=>.nil
 |y::r=>.cons (H:=F) (.str y) (rp_strs r)
theorem nw_nil{P:Str->Fn->List (Nat×List T)->Prop}:∀x F ds,([]:List (Str×Fn×List (Nat×List T))).lookup x=some (F,ds)->P x F ds:=fun _ _ _ h=>by cases h
theorem nw_cons{P:Str->Fn->List (Nat×List T)->Prop}{l:List (Str×Fn×List (Nat×List T))}{x0:Str}{F0:Fn}{d0:List (Nat×List T)}(h:P x0 F0 d0)(r:∀x F ds,l.lookup x=some (F,ds)->P x F ds):∀x F ds,((x0,F0,d0)::l).lookup x=some (F,ds)->P x F ds:=fun x F ds e=>by
 rw[yaz]at e;cases hf:x == x0 with
 |true =>
  rw[hf]at e;cases e;rw[eq_of_beq hf];exact h
 |false =>
  rw[hf]at e;exact r x F ds e
theorem gxC{G:Gx}{lv:Nat}{P:Program}{w:World}{K:PySem.W.Frag}{mg:Str->Option Value}{base:Heap}{ca:Str->Value}
  (co:∀x t,G.co.lookup x=some t->∃u v,mg x=some u/\RelV v u/\∀F:Hp,Rp K F F t v R0:=by exact zbu)
  (cl:∀c∈G.cl,Cls K c.2.1/\∀f∈c.2.2,zbj K c.2.1 f:=by exact za6)
  (mt:∀c∈G.mt,c.2.2.2.lv<=lv/\Nonempty (MetX P w K mg base c.2.1 c.1 c.2.2.2.lv c.2.2.2.ps (spP K ca c.2.2.2.g)):=by exact za6)
  (nw:∀x F ds,G.nw.lookup x=some (F,ds)->F.lv+1<=lv/\∃(C:Addr) (D:NewX P w K mg base x C F.lv F.ps (spN K ca C F.g)),∀k dts,ds.lookup k=some dts->∃dvs us,zgy K D.fd F.ps us/\zb9 dvs us/\∀H:Hp,Rps K H dts dvs:=by exact nw_nil)
  (sf:∀C fs,G.sf=some (C,fs)->Cls K C/\∀f∈fs,zbj K C f:=by exact(fun _ _ h=>by cases h))
  (xs:∀W cs,G.xs.lookup W=some cs->∃T:ECls K mg W,∀c C,cs.lookup c=some C->ca c=.ref C/\PySem.W.subIn K (.ref C) (.ref T.C)=some true:=by exact zbu)
  (sb:∀D tb,G.sb.lookup D=some tb->∃A:Addr,mg D=some (.ref A)/\∀C b,tb.lookup C=some b->ExcK K C/\PySem.W.kitOne K (.ref C) (.ref A)=some b:=by exact zbu)
  (sv:∀D tb,G.sv.lookup D=some tb->mg D=none/\∃t,bootBuiltins D=some (.type t)/\∀C b,tb.lookup C=some b->ExcK K C/\PySem.W.kitOne K (.ref C) (.type t)=some b:=by exact zbu)
  (ci:∀x tb,G.ci.lookup x=some tb->∃D:Addr,mg x=some (.ref D)/\∀C b,tb.lookup C=some b->ICls K C/\PySem.W.kitOne K (.ref C) (.ref D)=some b:=by exact zbu)
  (x2:∀W1 W2 cs,(W1,W2,cs)∈G.x2->∃(T1:ECls K mg W1) (T2:ECls K mg W2),∀c C,cs.lookup c=some C->ca c=.ref C/\PySem.W.subIn K (.ref C) (.ref T1.C)=some false/\PySem.W.subIn K (.ref C) (.ref T2.C)=some true:=by exact(fun _ _ _ h=>by cases h)):GxOk G lv P w K mg base ca:=⟨co,cl,mt,nw,sf,xs,sb,sv,ci,x2⟩
noncomputable def dfX{P:Program}{w:World}{K:PySem.W.Frag}{mg:Str->Option Value}{base:Heap}{ca:Str->Value}{x:Str}{st:Stmt}{a:Addr}{oc:Value}{od an:Option Addr}{osl:Array (Option Value)}{dV kV doc pm cdv ct:Value}{Γ:Gm}{f:Fn}{u:PSt->Option Out}{N:List Str}
  (l:K.lookup a=some ⟨oc,od,.func (PySem.W.fnOf x x (zgu st) (zaa st) (za2 st) dV kV doc pm an cdv ct),osl⟩) (c:PySem.W.codeIn K cdv x=true) (k:PySem.W.keepIn K (.ref a)=true) (m:mg x=some (.ref a)) (b:zgy K (PySem.W.fnOf x x (zgu st) (zaa st) (za2 st) dV kV doc pm an cdv ct) f.ps [])
  (S:FnScope N f.ps (za2 st)) (hu:dSs 200 Γ (zaa st)=some u) (hbl:∀b∈Γ.bl,mg b=none) (hfs:∀g F,Γ.fns.lookup g=some F->F.lv<=Γ.lv/\Nonempty (DefX P w K mg base F.lv g F.ps (spP K ca F.g))) (hgx:GxOk Γ.ox Γ.lv P w K mg base ca) (hce:∀x∈Γ.ce,Γ.nm.lookup x=some .cell:=by exact za6) (hex:∀c∈Γ.ex,∃T:ECls K mg c,ca c=.ref T.C:=by exact za6)
  (hms:∀g F,Γ.mus.lookup g=some F->F.lv<=Γ.lv/\Nonempty (DefX P w K mg base F.lv g F.ps (spM K ca F.g)):=by exact zed) (hΓ:Γ.N=N:=by rfl) (hnm:Γ.nm=(za2 st).names:=by rfl) (hlv:Γ.lv+1=f.lv:=by rfl) (hmu:Γ.mu=false:=by rfl) (hg:f.g=zdl f.ps.length N.length u:=by rfl):DefX P w K mg base f.lv x f.ps (spP K ca f.g) :=
 ⟨a,_,by rw[hg,<- hlv];exact fn_ok (zel l c k) S hΓ hnm hce rfl hbl hfs hex hms hmu hgx hu,m,k,b⟩
end Pu
set_option Elab.async false
set_option linter.all false
set_option maxRecDepth 100000
namespace Pu
open PySem PySem.Spec PyProof.Rows L2 Zw Zx
theorem at0{α:Type}{x:α}{l:List α}:atI (x::l) (0:Int)=some x:=by
 have:atI (x::l) ((0:Nat):Int)=some x:=atI_nat rfl;exact this
theorem at1{α:Type}{x y:α}{l:List α}:atI (x::y::l) (1:Int)=some y:=by
 have:atI (x::y::l) ((1:Nat):Int)=some y:=atI_nat rfl;exact this
theorem at2{α:Type}{x y z:α}{l:List α}:atI (x::y::z::l) (2:Int)=some z:=by
 have:atI (x::y::z::l) ((2:Nat):Int)=some z:=atI_nat rfl;exact this
abbrev fr(a b:Int):T:=.tup [.int a,.int b]
section
variable {b:T->PSt->Option PSt}{body:PSt->Option Out}{mc:PSt->Option Rs}
theorem zb3{ts:List T}{τ:PSt}(I:Nat->PSt->Prop)(h0:I 0 τ)(hs:∀i t τ,ts[i]?=some t->I i τ->∃τ1,b t τ=some τ1/\∃τ2,body τ1=some (.nx τ2)/\I (i+1) τ2):∃τ',zet b body ts τ=some (.nx τ')/\I ts.length τ':=by
 have key:∀(l:List T) (k:Nat) (τ:PSt),ts.drop k=l->k<=ts.length->I k τ->∃τ',zet b body l τ=some (.nx τ')/\I ts.length τ':=by
  intro l
  induction l with
  |nil =>
   intro k τ hd hk hI
   have:k=ts.length:=by
    have:=congrArg List.length hd;simp at this
    omega
   subst this;exact⟨τ,rfl,hI⟩
  |cons t l ih =>
   intro k τ hd hk hI
   have hlt:k<ts.length:=by
    have:=congrArg List.length hd;simp at this
    omega
   rw[ycc hlt]at hd;injection hd with h1 h2
   obtain⟨τ1,e1,τ2,e2,hI2⟩:=hs k t τ (by rw[ya1 hlt,h1]) hI
   obtain⟨τ',e3,h3⟩:=ih (k+1) τ2 h2 hlt hI2;exact⟨τ',by unfold zet;simp only[e1,e2];exact e3,h3⟩
 exact key ts 0 τ rfl (ybi _) h0
theorem sWh_inv{τ:PSt}(I:PSt->Prop)(μ:PSt->Nat)(h0:I τ)(hs:∀τ,I τ->(∃bb,mc τ=some (.v (.bl true) bb)/\∃τ2,body τ=some (.nx τ2)/\I τ2/\μ τ2<μ τ)\/∃bb,mc τ=some (.v (.bl false) bb)) :
  ∃τ',sWh mc body τ=some (.nx τ')/\I τ'/\∃bb,mc τ'=some (.v (.bl false) bb):=by
 have key:∀(n:Nat) (τ:PSt),μ τ<n->I τ->∃τ',whN mc body n τ=some (.nx τ')/\I τ'/\∃bb,mc τ'=some (.v (.bl false) bb):=by
  intro n
  induction n with
  |zero=>intro τ h;exact absurd h (Nat.not_lt_zero _)
  |succ n ih =>
   intro τ hn hI
   rcases hs τ hI with ⟨bb,e1,τ2,e2,hI2,hm⟩|⟨bb,e1⟩
   ·obtain⟨τ',e3,h3⟩:=ih τ2 (by omega) hI2
    exact⟨τ',by unfold whN;simp only[e1,e2];exact e3,h3⟩
   ·exact⟨τ,by unfold whN;simp only[e1],hI,bb,e1⟩
 obtain⟨τ',e,h⟩:=key (μ τ+1) τ (yc3 _) h0;exact⟨τ',sWh_of e,h⟩
theorem zkl{me:PSt->Option Rs}{ts:List T}{τ:PSt}(I:Nat->PSt->Prop)(f:Nat->T)(h0:I 0 τ)(hs:∀i t τ,ts[i]?=some t->I i τ->∃τ1,b t τ=some τ1/\me τ1=some (.v (f i) false)/\I (i+1) τ1) :
  zfy b (mC (.bl true)) me ts τ=some ((List.range ts.length).map f):=by
 have key:∀(l:List T) (k:Nat) (τ:PSt),ts.drop k=l->k<=ts.length->I k τ->zfy b (mC (.bl true)) me l τ=some ((List.range' k l.length).map f):=by
  intro l
  induction l with
  |nil=>intro k τ _ _ _;rfl
  |cons t l ih =>
   intro k τ hd hk hI
   have hlt:k<ts.length:=by
    have:=congrArg List.length hd;simp at this
    omega
   rw[ycc hlt]at hd;injection hd with h1 h2
   obtain⟨τ1,e1,e2,hI2⟩:=hs k t τ (by rw[ya1 hlt,h1]) hI
   have e3:=ih (k+1) τ1 h2 hlt hI2;unfold zfy;simp only[e1,mC,e2,e3];simp[List.range'_succ]
 have:=key ts 0 τ rfl (ybi _) h0;rw[this,<- List.range_eq_range']
end
theorem zla{i j:Int}(h:s64 i=true):zg8 i j=true:=by unfold zg8;rw[h,ycq,ycq]
theorem mulOk_s{i j:Int}(h1:s70 i=true)(h2:s70 j=true):zg8 i j=true:=by unfold zg8;rw[h1,h2];simp
theorem zna{i:Int}(h1:-(2 ^ 64)<i)(h2:i<2 ^ 64):s64 i=true:=@decide_eq_true _ (Classical.propDecidable _) ⟨h1,h2⟩
theorem zep{i:Int}(h1:-(10 ^ 70)<i)(h2:i<10 ^ 70):s70 i=true:=@decide_eq_true _ (Classical.propDecidable _) ⟨h1,h2⟩
theorem fm{i j:Int}(h:0<j):i.fmod j=i % j:=Int.fmod_eq_emod_of_nonneg i (by omega)
theorem fd{i j:Int}(h:0<j):i.fdiv j=i / j:=Int.fdiv_eq_ediv_of_nonneg i (by omega)
theorem zd4{i j:Int}:eqT (.int i) (.int j)=some (.bl (i == j)):=by
 unfold eqT eqOk fitT eqvT;simp only[T.data,T.pln,PyData.canLay0,PyData.depth,PyData.eqv];simp
theorem ne_int{i j:Int}:neT (.int i) (.int j)=some (.bl (!(i == j))):=by
 unfold neT eqOk fitT eqvT;simp only[T.data,T.pln,PyData.canLay0,PyData.depth,PyData.eqv];simp
mutual
def nbD:PyData->Bool
 |.bool _=>false
 |.dict _=>false
 |.list xs=>nbDs xs
 |.tuple xs=>nbDs xs
 |_=>true
def nbDs:List PyData->Bool
 |[]=>true
 |x::xs=>nbD x && nbDs xs
end
mutual
theorem eqv_nb:∀d d':PyData,nbD d=true->nbD d'=true->(PyData.eqv d d'=true ↔ d=d')
 |.none,d',_,h'=>by cases d'<;>simp[PyData.eqv,nbD]at h' ⊢
 |.int i,d',_,h'=>by cases d'<;>simp[PyData.eqv,nbD]at h' ⊢
 |.str x,d',_,h'=>by cases d'<;>simp[PyData.eqv,nbD]at h' ⊢
 |.bool _,_,h,_=>by simp[nbD]at h
 |.dict _,_,h,_=>by simp[nbD]at h
 |.list xs,d',h,h'=>by
  cases d' with
  |list ys =>
   have:=zlz xs ys (by simpa[nbD] using h) (by simpa[nbD] using h')
   simp only[PyData.eqv];rw[this];simp
  |_=>simp[PyData.eqv,nbD]at h' ⊢
 |.tuple xs,d',h,h'=>by
  cases d' with
  |tuple ys =>
   have:=zlz xs ys (by simpa[nbD] using h) (by simpa[nbD] using h')
   simp only[PyData.eqv];rw[this];simp
  |_=>simp[PyData.eqv,nbD]at h' ⊢
theorem zlz:∀xs ys:List PyData,nbDs xs=true->nbDs ys=true->(PyData.eqvAll xs ys=true ↔ xs=ys)
 |[],[],_,_=>by simp[PyData.eqvAll]
 |[],_::_,_,_=>by simp[PyData.eqvAll]
 |_::_,[],_,_=>by simp[PyData.eqvAll]
 |x::xs,y::ys,hx,hy=>by
  simp only[nbDs,ya3]at hx hy;have h1:=eqv_nb x y hx.1 hy.1;have h2:=zlz xs ys hx.2 hy.2;simp only[PyData.eqvAll,ya3,h1,h2,List.cons.injEq]
end
structure Fit(t:T)(n:Nat):Prop where
 fit:fitT t=true
 nb:nbD t.data=true
 dep:t.data.depth<=n
theorem Fit.int(i:Int)(n:Nat):Fit (.int i) n:=⟨rfl,rfl,by simp[T.data,PyData.depth]⟩
theorem Fit.non(n:Nat):Fit .non n:=⟨rfl,rfl,by simp[T.data,PyData.depth]⟩
theorem fit_all:∀{l:List T} {n:Nat},(∀t∈l,Fit t n)->(plnL l=true/\PyData.canLayAll0 (zbt l)=true)/\nbDs (zbt l)=true/\PyData.depthAll (zbt l)<=n
 |[],n,_=>⟨⟨rfl,rfl⟩,rfl,ybi _⟩
 |t::r,n,h=>by
  obtain⟨h1,h2,h3⟩:=h t (yab ..);obtain⟨⟨g0,g1⟩,g2,g3⟩:=fit_all (l:=r) (n:=n) fun x hx=>h x (ya9 _ hx)
  unfold fitT at h1;rw[ya3]at h1;refine⟨⟨by rw[plnL,h1.1,g0];rfl,by rw[zbt,PyData.canLayAll0,h1.2,g1];rfl⟩,by rw[zbt,nbDs,h2,g2];rfl,?_⟩
  rw[zbt,PyData.depthAll]
  omega
theorem Fit.nd{o:Bool}{k:Kd}{l:List T}{n:Nat}(h:∀t∈l,Fit t n):Fit (.nd o k l) (n+1):=by
 obtain⟨g1,g2,g3⟩:=fit_all h;cases k<;>exact⟨by simpa[fitT,T.data,T.pln,PyData.canLay0] using g1,by simpa[T.data,nbD] using g2,by simpa[T.data,PyData.depth] using g3⟩
theorem Fit.tup{l:List T}{n:Nat}(h:∀t∈l,Fit t n):Fit (.tup l) (n+1):=Fit.nd h
theorem Fit.mono{t:T}{n m:Nat}(h:Fit t n)(hm:n<=m):Fit t m:=⟨h.fit,h.nb,yaj h.dep hm⟩
theorem Fit.fr(a b:Int):Fit (Pu.fr a b) 1:=Fit.tup fun t ht=>by
 simp only[ya7,yb5,or_false]at ht
 rcases ht with rfl|rfl<;>exact Fit.int _ _
open Classical in
theorem eq_fit{t u:T}{n m:Nat}(h:Fit t n)(h':Fit u m)(hn:n<=60):eqT t u=some (.bl (decide (t.data=u.data)))/\neT t u=some (.bl (!decide (t.data=u.data))):=by
 have ok:eqOk t u=true:=by
  unfold eqOk;rw[h.fit,h'.fit,decide_eq_true (by have:=h.dep;omega)]
  rfl
 have e:eqvT t u=decide (t.data=u.data):=by
  unfold eqvT;rw[ybz,eqv_nb _ _ h.nb h'.nb];simp
 unfold eqT neT;rw[if_pos ok,if_pos ok,e];exact⟨rfl,rfl⟩
theorem eq_same{t u:T}{n:Nat}(h:Fit t n)(hn:n<=60)(e:t.data=u.data)(h':Fit u n):eqT t u=some (.bl true)/\neT t u=some (.bl false):=by
 have:=eq_fit h h' hn
 simpa[e] using this
theorem zh3:∀ns:List Int,zae (ns.map T.int)=ns.map T.int
 |[]=>rfl
 |n::r=>by rw[yah,zae,zh3 r];rfl
theorem sh_ints:∀ns:List Int,shL (ns.map T.int)=true
 |[]=>rfl
 |n::r=>by rw[yah,shL,sh_ints r];rfl
theorem ze1(ns:List Int):(zbf ns).share=zbf ns:=by unfold zbf;rw[T.share,zh3]
theorem zi6(ns:List Int):(zbf ns).sh=true:=by unfold zbf;rw[T.sh,sh_ints];rfl
theorem zb8{α:Type}{l:List α}{k:Int}{x:α}(h0:0<=k)(h:l[k.toNat]?=some x):atI l k=some x:=by
 have:atI l ((k.toNat:Nat):Int)=some x:=atI_nat h
 rwa[ydx h0]at this
theorem cut_map{α β:Type}(f:α->β)(l:List α)(lo hi:Option Int):zk9 (l.map f) lo hi=(zk9 l lo hi).map f:=by
 unfold zk9;simp[List.map_drop,List.map_take]
end Pu
namespace Zm
end Zm
namespace Db
open PySem
def bs(a b:Int):Int:=2 * (a / 2+b / 2)+min (a % 2) (b % 2)
theorem bs_comm(a b:Int):bs a b=bs b a:=by unfold bs;omega
abbrev B:=Option Int
def le:B->B->Prop
 |_,none=>True
 |none,some _=>False
 |some a,some b=>a<=b
def add:B->B->B
 |some a,some b=>some (bs a b)
 |_,_=>none
def mn:B->B->B
 |none,b=>b
 |some a,none=>some a
 |some a,some b=>some (min a b)
theorem le_refl(a:B):le a a:=by cases a<;>simp[le]
theorem le_trans{a b c:B}(h:le a b)(h':le b c):le a c:=by
 cases a<;>cases b<;>cases c<;>simp_all [le]
 omega
theorem add_comm(a b:B):add a b=add b a:=by
 cases a<;>cases b<;>simp[add,bs_comm]
abbrev Z:=Nat->Nat->B
def free(i j:Nat):B:=if i=0\/i=j then some 1 else none
def z0(f:Z):Z:=fun i j=>mn (f i j) (free i j)
def stp(f:Z)(k:Nat):Z:=fun i j=>mn (f i j) (add (f i k) (f k j))
end Db
set_option Elab.async false
set_option linter.all false
set_option maxRecDepth 100000
namespace Pu
open PySem PySem.Spec PyProof.Rows L2 Zw Zx
def mT(n:Nat)(g:Nat->T):List T:=(List.range n).map g
theorem nl0:((0:Nat):Int)=0:=rfl
theorem nl1:((1:Nat):Int)=1:=rfl
theorem nl2:((2:Nat):Int)=2:=rfl
theorem nl3:((3:Nat):Int)=3:=rfl
theorem nl4:((4:Nat):Int)=4:=rfl
theorem nl5:((5:Nat):Int)=5:=rfl
theorem nl6:((6:Nat):Int)=6:=rfl
theorem nl7:((7:Nat):Int)=7:=rfl
theorem nl8:((8:Nat):Int)=8:=rfl
theorem nl9:((9:Nat):Int)=9:=rfl
theorem lim_le{k:Nat}(h:k<=100000):(k<=lim)=True:=eq_true (by unfold lim;omega)
theorem lim_lt{k:Nat}(h:k<100000):(k<lim)=True:=eq_true (by unfold lim;omega)
section
variable {n:Nat}{g h:Nat->T}
theorem zd3:(mT n g).length=n:=by simp[mT]
theorem znf{i:Nat}(hi:i<n):(mT n g)[i]?=some (g i):=by simp[mT,hi]
theorem zc6{i:Nat}{t:T}(e:(mT n g)[i]?=some t):i<n/\t=g i:=by
 have hi:i<n:=by
  rcases Nat.lt_or_ge i n with q|q
  ·exact q
  ·rw[ybg (by rw[zd3];exact q)]at e
   cases e
 rw[znf hi]at e;exact⟨hi,by injection e with e;exact e.symm⟩
theorem mT_ext{l:List T}(hl:l.length=n)(h:∀i,i<n->l[i]?=some (g i)):l=mT n g:=by
 refine yea fun i=>?_
 rcases Nat.lt_or_ge i n with q|q
 ·rw[h i q,znf q]
 ·rw[ybg (by omega),ybg (by rw[zd3];exact q)]
theorem mT_congr(e:∀i,i<n->g i=h i):mT n g=mT n h:=mT_ext zd3 fun i hi=>by rw[znf hi,e i hi]
theorem mT_at{k:Int}(h0:0<=k)(h1:k<n):atI (mT n g) k=some (g k.toNat):=zb8 h0 (znf (by omega))
theorem mT_mem{t:T}(ht:t∈mT n g):∃i,i<n/\t=g i:=by
 obtain⟨i,hi,e⟩:=yaf.mp ht;exact⟨i,ydz.mp hi,e.symm⟩
theorem shareL_mT:zae (mT n g)=mT n fun i=>(g i).share:=by
 rw[zat];unfold mT;rw[yak]
 rfl
theorem zi7(e:∀i,(g i).sh=true):shL (mT n g)=true:=by
 rw[zaw,yav];intro t ht;obtain⟨i,-,rfl⟩:=mT_mem ht;exact e i
theorem shL_mTi(xs:Nat->Int):shL (mT n fun i=>.int (xs i))=true:=zi7 fun _=>rfl
theorem shL_mTf(u w:Nat->Int):shL (mT n fun i=>.nd false .tup [.int (u i),.int (w i)])=true:=zi7 fun _=>rfl
theorem mT_app:mT n g++[g n]=mT (n+1) g:=by
 unfold mT;rw[List.range_succ,yaq]
 rfl
theorem mT_push{α:Type}(t:α->T)(xs:Nat->α)(r:α):mT n (fun j=>t (xs j))++[t r]=mT (n+1) fun j=>t (if j=n then r else xs j):=by
 rw[<- mT_app,if_pos rfl,mT_congr (g:=fun j=>t (if j=n then r else xs j)) (h:=fun j=>t (xs j)) fun j hj=>by rw[if_neg (by omega)]]
theorem range_mT(lo:Int):zeq lo n=mT n fun i=>.int (lo+(i:Int)):=rfl
theorem zd2:zeq 0 n=mT n fun i=>.int (i:Int):=by
 rw[range_mT];refine mT_congr fun i _=>?_
 rw[Int.zero_add]
theorem mT_of(l:List T)(d:T):l=mT l.length fun i=>l.getD i d:=mT_ext rfl fun i hi=>by
 rw[yan,ya1 hi];rfl
variable {b:T->PSt->Option PSt}{body:PSt->Option Out}{me:PSt->Option Rs}{τ:PSt}
theorem for_mT(I:Nat->PSt->Prop)(h0:I 0 τ)(hs:∀i τ,i<n->I i τ->∃τ1,b (g i) τ=some τ1/\∃τ2,body τ1=some (.nx τ2)/\I (i+1) τ2):∃τ',zet b body (mT n g) τ=some (.nx τ')/\I n τ':=by
 have:=zb3 (ts:=mT n g) I h0 fun i t τ e hI=>by
  obtain⟨hi,rfl⟩:=zc6 e;exact hs i τ hi hI
 rwa[zd3]at this
theorem lc1{f:Nat->T}{x:Option T}{cs:PSt}(hs:∀i,i<n->me (some (g i)::cs)=some (.v (f i) false)):zfy (bNm 0) (mC (.bl true)) me (mT n g) (x::cs)=some (mT n f):=by
 have:=zkl (b:=bNm 0) (me:=me) (ts:=mT n g) (τ:=x::cs) (fun _ τ=>∃y,τ=y::cs) f ⟨x,rfl⟩ fun i t τ e hI=>by
  obtain⟨hi,rfl⟩:=zc6 e;obtain⟨y,rfl⟩:=hI;exact⟨some (g i)::cs,by simp[bNm],hs i hi,_,rfl⟩
 rw[this,zd3]
 rfl
theorem lc2{u w f:Nat->T}{x y:Option T}{cs:PSt}(hs:∀i,i<n->me (some (u i)::some (w i)::cs)=some (.v (f i) false)):zfy (zi4 2 (zao (bNm 0) (zao (bNm 1) ziv))) (mC (.bl true)) me (mT n fun i=>.tup [u i,w i]) (x::y::cs)=some (mT n f):=by
 have:=zkl (b:=zi4 2 (zao (bNm 0) (zao (bNm 1) ziv))) (me:=me) (ts:=mT n fun i=>.tup [u i,w i]) (τ:=x::y::cs) (fun _ τ=>∃x y,τ=x::y::cs) f ⟨x,y,rfl⟩ fun i t τ e hI=>by
  obtain⟨hi,rfl⟩:=zc6 e;obtain⟨x,y,rfl⟩:=hI;exact⟨some (u i)::some (w i)::cs,by simp[zi4,zao,bNm,ziv],hs i hi,_,_,rfl⟩
 rw[this,zd3]
 rfl
end
end Pu
set_option Elab.async false
set_option linter.all false
set_option maxRecDepth 100000
namespace Pu
open PySem PySem.Spec PyProof.Rows L2 Zw Zx
def bT:Db.B->T
 |none=>.non
 |some i=>.int i
theorem bT_none:bT none=.non:=rfl
theorem bT_some(i:Int):bT (some i)=.int i:=rfl
theorem bT_sh(b:Db.B):(bT b).sh=true:=by cases b<;>rfl
theorem bT_share(b:Db.B):(bT b).share=bT b:=by cases b<;>rfl
theorem ziu{n:Nat}(p:Nat->Bool):zmc (mT n fun i=>.bl (p i))=some ((List.range n).map p):=by
 unfold mT;generalize List.range n=l
 induction l with
 |nil=>rfl
 |cons x r ih=>simp only[yah,zmc,ih]
theorem zh8{n:Nat}(h:n<=100000):ok62 (n:Int)=true:=@decide_eq_true _ (Classical.propDecidable _) ⟨by omega,by omega⟩
end Pu
set_option Elab.async false
set_option linter.all false
set_option maxRecDepth 100000
namespace Pu
open PySem PySem.Spec PyProof.Rows L2 Zw Zx
theorem zeo:∀ys:List Str,zdp (ys.map T.str)=some ys
 |[]=>rfl
 |y::r=>by
  show(match zdp (r.map T.str) with|some l=>some (y::l)|none=>none)=_
  rw[zeo r]
theorem za3:∀ys:List Str,zae (ys.map T.str)=ys.map T.str
 |[]=>rfl
 |y::r=>by
  show T.str y::zae (r.map T.str)=_;rw[za3 r]
  rfl
theorem za8:∀ys:List Str,shL (ys.map T.str)=true
 |[]=>rfl
 |y::r=>by
  show(true && shL (r.map T.str))=true;rw[za8 r]
  rfl
def Txs(ys:List Str):Prop:=∀y∈ys,PyData.strOk y=true
theorem pln_strs:∀ys:List Str,plnL (ys.map T.str)=true
 |[]=>rfl
 |y::r=>by
  show(true && plnL (r.map T.str))=true;rw[pln_strs r]
  rfl
theorem lay_strs:∀{ys:List Str},Txs ys->PyData.canLayAll0 (zbt (ys.map T.str))=true/\PyData.depthAll (zbt (ys.map T.str))=0
 |[],_=>⟨rfl,rfl⟩
 |y::r,h=>by
  obtain⟨h1,h2⟩:=lay_strs (ys:=r) fun x hx=>h x (ya9 _ hx)
  have h3:=h y (yab ..);rw[yah,zbt,PyData.canLayAll0,PyData.depthAll,h1,h2,T.data,PyData.canLay0,h3,PyData.depth];exact⟨rfl,rfl⟩
theorem zgs{x y:Str}(hx:PyData.strOk x=true)(hy:PyData.strOk y=true):eqT (.str x) (.str y)=some (.bl (decide (x=y))):=by
 have e:(x == y)=decide (x=y):=by rw[ybz,beq_iff_eq,decide_eq_true_eq]
 unfold eqT eqOk fitT eqvT;simp only[T.data,T.pln,PyData.canLay0,PyData.depth,PyData.eqv,hx,hy,e];simp
theorem Fit.str{x:Str}(h:PyData.strOk x=true)(n:Nat):Fit (.str x) n:=⟨by unfold fitT;rw[T.pln,T.data,PyData.canLay0,h];rfl,rfl,by simp[T.data,PyData.depth]⟩
theorem any_strs(x:Str):∀ys:List Str,((zbt (ys.map T.str)).any fun y=>PyData.eqv y (.str x))=decide (x∈ys)
 |[]=>by simp[zbt]
 |y::r=>by
  have e:(y == x)=decide (x=y):=by rw[ybz,beq_iff_eq,decide_eq_true_eq];exact eq_comm
  rw[yah,zbt,ye6,any_strs x r,T.data,PyData.eqv,e,ybz,yc8,decide_eq_true_eq,decide_eq_true_eq,decide_eq_true_eq,ya7]
theorem zlm{ys:List Str}{x:Str}{o:Bool}{k:Kd}(h:Txs ys)(hx:PyData.strOk x=true):inT (.str x) (.nd o k (ys.map T.str))=some (.bl (decide (x∈ys))):=by
 have ok:inOk (.str x) (ys.map T.str)=true:=by
  obtain⟨h1,h2⟩:=lay_strs h;unfold inOk fitT;rw[pln_strs,h1,h2,T.pln,T.data,PyData.canLay0,hx,PyData.depth]
  rfl
 unfold inT;simp only;rw[if_pos ok];unfold hasT;rw[T.data,any_strs]
end Pu
set_option Elab.async false
set_option linter.all false
set_option maxRecDepth 100000
namespace Tx
open PySem PySem.NumText
abbrev cs(x:Str):List Nat:=x.cps.toList
theorem cs_app(x y:Str):cs (x++y)=cs x++cs y:=Array.toList_append
theorem cs_ext{x y:Str}(h:cs x=cs y):x=y:=by
 cases x;cases y;exact congrArg Str.mk (Array.toList_inj.mp h)
theorem cs_len(x:Str):x.length=(cs x).length:=rfl
def joinL(c:Nat):List (List Nat)->List Nat
 |[]=>[]
 |[x]=>x
 |x::r=>x++c::joinL c r
theorem cs_join(c:Nat):∀l:List Str,cs (Str.join ⟨#[c]⟩ l)=joinL c (l.map cs)
 |[]=>rfl
 |[x]=>rfl
 |x::y::r=>by
  show cs (x++⟨#[c]⟩++Str.join ⟨#[c]⟩ (y::r))=cs x++c::joinL c ((y::r).map cs);rw[cs_app,cs_app,cs_join c (y::r),yap]
  rfl
theorem cut_one{c:Nat}:∀{a b u v:List Nat},a++c::u=b++c::v->c∉a->c∉b->a=b/\u=v
 |[],[],u,v,h,_,_=>⟨rfl,(ybv h).2⟩
 |[],y::b,u,v,h,_,hb=>absurd (by rw[(ybv h).1];exact yab ..) hb
 |x::a,[],u,v,h,ha,_=>absurd (by rw[<- (ybv h).1];exact yab ..) ha
 |x::a,y::b,u,v,h,ha,hb=>by
  obtain⟨e1,e2⟩:=ybv h;obtain⟨e3,e4⟩:=cut_one e2 (fun z=>ha (ya9 _ z)) (fun z=>hb (ya9 _ z))
  exact⟨by rw[e1,e3],e4⟩
theorem joinL_inj{c:Nat}:∀{l m:List (List Nat)},l≠[]->m≠[]->(∀p∈l,c∉p)->(∀p∈m,c∉p)->joinL c l=joinL c m->l=m
 |[],_,h,_,_,_,_=>absurd rfl h
 |_,[],_,h,_,_,_=>absurd rfl h
 |[a],[b],_,_,_,_,e=>by rw[show a=b from e]
 |[a],b::b2::r,_,_,ha,_,e=>absurd (by rw[show a=b++c::joinL c (b2::r) from e];simp) (ha a (yab ..))
 |a::a2::r,[b],_,_,_,hb,e=>absurd (by rw[<- show a++c::joinL c (a2::r)=b from e];simp) (hb b (yab ..))
 |a::a2::r,b::b2::q,_,_,ha,hb,e=>by
  obtain⟨e1,e2⟩:=cut_one (show a++c::joinL c (a2::r)=b++c::joinL c (b2::q) from e) (ha a (yab ..)) (hb b (yab ..));rw[e1,joinL_inj (ybw _ _) (ybw _ _) (fun p hp=>ha p (ya9 _ hp)) (fun p hp=>hb p (ya9 _ hp)) e2]
theorem zne:∀{l m:List Str},l.map cs=m.map cs->l=m
 |[],[],_=>rfl
 |[],_::_,h=>by cases h
 |_::_,[],h=>by cases h
 |a::l,b::m,h=>by
  obtain⟨e1,e2⟩:=ybv h;rw[cs_ext e1,zne e2]
theorem split_is{x:Str}{c:Nat}{l:List Str}(h0:l≠[])(hf:∀p∈l,c∉cs p)(hj:cs x=joinL c (l.map cs)):Txt.split x ⟨#[c]⟩=l:=by
 apply zne;have hp:=PyProof.Rows.split_pos x ⟨#[c]⟩;refine joinL_inj (c:=c) ?_ ?_ ?_ ?_ ?_
 ·intro z;have:=congrArg List.length z;simp only[ya0,ybd]at this
  omega
 ·intro z;exact h0 (List.map_eq_nil_iff.mp z)
 ·intro p hp;obtain⟨q,hq,rfl⟩:=yaf.mp hp;exact StrLaws.split_free x c q hq
 ·intro p hp;obtain⟨q,hq,rfl⟩:=yaf.mp hp;exact hf q hq
 ·rw[<- cs_join,StrLaws.join_split,hj]
def isDg(c:Nat):Bool:=decide (48<=c/\c<=57)
def isNum(l:List Nat):Bool:=decide (1<=l.length/\l.length<=60) && l.all isDg && (decide (l=[48]) || decide (l.head?≠some 48))
def dg(n:Nat):Str:=Str.ofString (toString ((n:Nat):Int))
theorem dg_cs(n:Nat):cs (dg n)=(Nat.toDigits 10 n).map Char.toNat:=PySem.W.KIN.signs_num n
theorem dg_val(n:Nat):digitsVal (cs (dg n))=n:=by rw[dg_cs,PySem.W.KIN.val_back]
theorem dg_all(n:Nat):∀c∈cs (dg n),48<=c/\c<=57:=by
 intro c hc;rw[dg_cs]at hc;obtain⟨ch,hch,e⟩:=yaf.mp hc;rw[<- e];have h:=Nat.isDigit_of_mem_toDigits (by decide) (by decide) hch
 unfold Char.isDigit at h;simp only[ge_iff_le,ya3,decide_eq_true_eq]at h;exact⟨UInt32.le_iff_toNat_le.mp h.1,UInt32.le_iff_toNat_le.mp h.2⟩
theorem dg_ne(n:Nat):cs (dg n)≠[]:=by
 rw[dg_cs];intro z;exact Nat.toDigits_ne_nil (List.map_eq_nil_iff.mp z)
theorem dg_len{n k:Nat}(hk:0<k)(h:n<10 ^ k):(cs (dg n)).length<=k:=by
 rw[dg_cs,ya0];exact(Nat.length_toDigits_le_iff (by decide) hk).mpr h
theorem dg_zero:cs (dg 0)=[48]:=by
 rw[dg_cs,Nat.toDigits_zero]
 rfl
theorem dg_head{n:Nat}(h:n≠0):(cs (dg n)).head?≠some 48:=by
 have key:∀n:Nat,n≠0->∃d r,d<10/\d≠0/\Nat.toDigits 10 n=Nat.digitChar d::r:=by
  intro n
  induction n using Nat.strongRecOn with
  |_ n ih =>
   intro h0
   by_cases hn:n<10
   ·exact⟨n,[],hn,h0,Nat.toDigits_of_lt_base hn⟩
   ·obtain⟨d,r,h1,h2,h3⟩:=ih (n / 10) (by omega) (by omega)
    refine⟨d,r++[Nat.digitChar (n % 10)],h1,h2,?_⟩;rw[Nat.toDigits_of_base_le (by decide) (by omega),h3]
    rfl
 obtain⟨d,r,h1,h2,h3⟩:=key n h;rw[dg_cs,h3];simp only[yah,List.head?_cons,ne_eq,ydf];have h4:∀d:Nat,d<10->d≠0->¬ (Nat.digitChar d).toNat=48:=by decide
 exact h4 d h1 h2
theorem dg_num{n:Nat}(h:n<10 ^ 60):isNum (cs (dg n))=true:=by
 have h1:=dg_len (by decide) h
 have h2:0<(cs (dg n)).length:=ydy.mpr (dg_ne n);have h3:(cs (dg n)).all isDg=true:=yav.mpr fun c hc=>decide_eq_true (dg_all n c hc)
 unfold isNum;rw[decide_eq_true (show 1<=(cs (dg n)).length/\(cs (dg n)).length<=60 from⟨h2,h1⟩),h3]
 by_cases hz:n=0
 ·subst hz;rw[decide_eq_true dg_zero]
  rfl
 ·rw[decide_eq_true (dg_head hz),yed]
  rfl
theorem num_all{l:List Nat}(h:isNum l=true):(1<=l.length/\l.length<=60)/\AllDigits l:=by
 unfold isNum at h;rw[ya3,ya3,decide_eq_true_eq]at h;exact⟨h.1.1,fun c hc=>of_decide_eq_true (yav.mp h.1.2 c hc)⟩
theorem num_text{x:Str}(h:isNum (cs x)=true):intText? x=some ((digitsVal (cs x):Nat):Int):=by
 obtain⟨⟨h1,h2⟩,h3⟩:=num_all h;exact intText_digits h3 (fun z=>by rw[show x.cps.toList=cs x from rfl]at z;rw[z]at h1;exact absurd h1 (by decide)) (yaj (by rw[cs_len];exact h2) (by decide))
theorem not_num_long{l:List Nat}(h:¬ (1<=l.length/\l.length<=60)):isNum l=false:=by
 unfold isNum;rw[decide_eq_false h]
 rfl
section
variable {x y:Str}{c:Nat}(hA:∀k,(cs x)[k]?=some c->StrLaws.At x y x.length k)
include hA
end
theorem cs_mk(l:List Nat):cs ⟨l.toArray⟩=l:=rfl
theorem sl_to{x:Str}{a:Nat}(h:a<=(cs x).length):cs (Txt.slice x none (some (a:Int)))=(cs x).take a:=by
 have e:Txt.slice x none (some (a:Int))=StrLaws.sliceText x none (some (a:Int)):=rfl;rw[e,StrLaws.sliceText_to ⟨ybe a,Int.ofNat_le.mpr h⟩,cs_mk,List.drop_zero,Int.sub_zero,ybl]
theorem sl_mid{x:Str}{a b:Nat}(hab:a<=b)(h:b<=(cs x).length):cs (Txt.slice x (some (a:Int)) (some (b:Int)))=((cs x).drop a).take (b - a):=by
 have e:Txt.slice x (some (a:Int)) (some (b:Int))=StrLaws.sliceText x (some (a:Int)) (some (b:Int)):=rfl;rw[e,StrLaws.sliceText_nat x hab h,cs_mk]
theorem sl_from{x:Str}{a:Nat}(h:a<=(cs x).length):cs (Txt.slice x (some (a:Int)) none)=(cs x).drop a:=by
 have e:Txt.slice x (some (a:Int)) none=StrLaws.sliceText x (some (a:Int)) none:=rfl;rw[e,StrLaws.sliceText_from ⟨ybe a,Int.ofNat_le.mpr h⟩,cs_mk,ybl];refine yco ?_;rw[ydl]
 omega
theorem stw_one{x:Str}{c:Nat}:Txt.startswith x ⟨#[c]⟩=decide ((cs x).head?=some c):=by
 unfold Txt.startswith;rw[yeh,List.drop_zero,Nat.zero_add];show(decide (1<=(cs x).length) && ((cs x).take 1 == [c]))=_;cases cs x with
 |nil=>rfl
 |cons a r =>
  rw[ybz];simp
theorem joinL_flat(c:Nat)(a:List Nat)(r:List (List Nat)):joinL c (a::r)=a++(r.map (c::·)).flatten:=by
 induction r generalizing a with
 |nil=>exact(yba a).symm
 |cons b r ih =>
  show a++c::joinL c (b::r)=_;rw[ih b,yah,ybm]
  rfl
theorem cs_join0:∀l:List Str,cs (Str.join ⟨#[]⟩ l)=(l.map cs).flatten
 |[]=>rfl
 |[x]=>(yba _).symm
 |x::y::r=>by
  show cs (x++⟨#[]⟩++Str.join ⟨#[]⟩ (y::r))=_;rw[cs_app,cs_app,cs_join0 (y::r),yah (l:=y::r),ybm];show cs x++[]++_=_;rw[yba]
end Tx
set_option linter.all false
set_option maxRecDepth 100000
namespace Hd
open PySem PySem.W PySem.Calls PyProof.Rows
def goT(st:SharedT->Thread->Option (SharedT×Thread))(ok:Thread->Bool):Nat->SharedT->Thread->Option SharedT
 |0=>fun _ _=>none
 |n+1=>fun s t=>bif through t then some s else bif ok t then (st s t).elim none fun x=>goT st ok n x.1 x.2 else none
theorem goT_top{tb:String->Option Builtin}{p:Program}{w:World}{m:Nat}{ann:Option Value}(n:Nat):∀(s:SharedT) (t:Thread) (r:SharedT),
  goT (stepT (denote tb) p w) (stepOk m ann) n s t=some r->topRun tb p w m ann n s.abs t=some r.abs:=by
 induction n with
 |zero=>intro s t r h;exact nomatch h
 |succ n ih =>
  intro s t r h;rw[goT]at h;dsimp only at h;rw[topRun];cases a:through t with
  |true=>rw[a]at h;cases h;rfl
  |false =>
   rw[a]at h;cases b:stepOk m ann t with
   |false=>rw[b]at h;exact nomatch h
   |true =>
    rw[b]at h;cases c:stepT (denote tb) p w s t with
    |none=>rw[c]at h;exact nomatch h
    |some x=>rw[c]at h;rw[stepT_spec (s':=x.1) (t':=x.2) c];exact ih _ _ _ h
def seenAll(p q:Program)(loose:List Str)(Xt:Shared->Bool){α:Type}(Yf:Shared->α)(h:Heap)(s:Shared) :=
 ((staticsOk (importedModules p.main.body) h s.heap && namesBound p s.heap && gensDone s && laidKept h s.heap),openSeen q loose (importedModules p.main.body) Xt true s,Yf s)
theorem left_of{p q:Program}{loose:List Str}{Xt:Shared->Bool}{α:Type}{Yf:Shared->α}{Ya:World->α}{N M m:Nat}{ann:Option Value}{bt:Params->BT}{lf:Params->Life}{st:World->SharedT->Thread->Option (SharedT×Thread)}{ok:Thread->Bool}(hst:∀w,stepT (denote treeTable) p w=st w)(hok:stepOk m ann=ok)
  (e:opening p=plainProg p.main.scope.names) (hN:Nat.ble 600 N=true) (f:∀s,fenceModules? p s=some s) (hM:Nat.ble M N=true)
  (hb:∀P,absHeap (bt P) m (lf P)=boot_heap P) (hs:∀P,(boot_heap P).isNs mainGlobals=true) (hz:∀P,(boot_heap P).objs.size=m) (ha:∀P,(boot_heap P).nsMap mainGlobals "__annotations__"=ann)
  (h:∀(w:World) (os:OsState),(goT (st w) ok M ⟨bt w.params,m,lf w.params,Array.mk [],boot_drawn,boot_toks,os⟩ (topStub p)).map (fun s=>seenAll p q loose Xt Yf (boot_heap w.params) s.abs)=some (true,openGood q loose,Ya w)) :
  LeftO p q loose Xt Yf Ya N true:=fun w=>by
 obtain⟨⟨h0,g0,d0,k0,os⟩,hs0,hv⟩:=ya2.mp (boot_open e hN f w);simp only[Prod.mk.injEq]at hv;obtain⟨rfl,rfl,rfl,rfl⟩:=hv;obtain⟨T,hT,hx⟩:=ya2.mp (h w os);rw[<- hst,<- hok]at hT;have r:=topRun_mono (N - M) _ _ _ _ (goT_top _ _ _ _ hT);rw[Nat.add_sub_cancel' (Nat.le_of_ble_eq_true hM)]at r;have hx1:=congrArg Prod.fst hx;have hx2:=congrArg Prod.snd hx;simp only[seenAll]at hx1 hx2;simp only[SharedT.abs,hb]at r hx1 hx2
 have k:topFrom treeTable p w N ⟨boot_heap w.params,Array.mk [],boot_drawn,boot_toks,os⟩=some T.abs:=by
  simp only[topFrom,hs,hz,ha,r];simp only[Option.bind_some,SharedT.abs];rw[hx1]
  rfl
 show((fencedOpening treeTable p w N).bind (topFrom treeTable p w N)).map _=_;rw[hs0];show(topFrom treeTable p w N _).map _=_;rw[k];exact congrArg some hx2
noncomputable def en(P:Params)(x:String)(k:Nat)(v:Value):DictEntry:=⟨PyData.keyHash P (Str.ofString x),.str (Str.ofString x) k,v⟩
noncomputable def bt(P:Params):BT:=((boot_heap P).objs.toList.foldl (fun(x:BT×Nat) o=>(x.1.ins x.2 o,x.2+1)) (BT.nil,0)).1
theorem bt_ok(P:Params):absHeap (bt P) 11 (boot_heap P).life=boot_heap P:=by kernel_rfl
theorem ann_ok(P:Params):(boot_heap P).nsMap mainGlobals "__annotations__"=some (.ref 6):=by kernel_rfl
theorem ns_ok(P:Params):(boot_heap P).isNs mainGlobals=true:=by kernel_rfl
theorem sz_ok(P:Params):(boot_heap P).objs.size=11:=by kernel_rfl
noncomputable abbrev go(p:Program)(M:Nat)(w:World)(os:OsState):Option SharedT :=
 goT (Fast.tw10156331382660048174 (Fast.tw11892475500146522536 Fast.tw14364793385576792824) p w) (Fast.tw6613529449190102663 11 (some (.ref 6))) M ⟨bt w.params,11,(boot_heap w.params).life,Array.mk [],boot_drawn,boot_toks,os⟩ (topStub p)
abbrev xt(r:RowW)(q:Program)(s:Shared):Bool:=xlAt q [] s && recOk r.records s
theorem left_go{p q:Program}{r:RowW}{loose:List Str}{α:Type}{Yf:Shared->α}{Ya:World->α}(N M:Nat)
  (e:opening p=plainProg p.main.scope.names) (hN:Nat.ble 600 N=true) (f:∀s,fenceModules? p s=some s) (hM:Nat.ble M N=true)
  (h:∀(w:World) (os:OsState),(go p M w os).map (fun s=>seenAll p q loose (xt r q) Yf (boot_heap w.params) s.abs)=some (true,openGood q loose,Ya w)):LeftO p q loose (xt r q) Yf Ya N true :=
 left_of (st:=fun w=>Fast.tw10156331382660048174 (Fast.tw11892475500146522536 Fast.tw14364793385576792824) p w) (ok:=Fast.tw6613529449190102663 11 (some (.ref 6)))
  (fun w=>by rw[Fast.te10156331382660048174,Fast.te11892475500146522536,Fast.te14364793385576792824]) (by rw[Fast.te6613529449190102663]) e hN f hM bt_ok ns_ok sz_ok ann_ok h
theorem said_of{l:OpenLaw}(h:Fast.tw9446332074065402090 l=true):l.wellSaid=true:=(congrFun Fast.te9446332074065402090 l).trans h
end Hd
set_option Elab.async false
set_option linter.all false
set_option maxRecDepth 100000
set_option maxHeartbeats 4200000
namespace Zl
open PySem L2 Zw Zx Pu
noncomputable section
local macro_rules
  |`(tactic| simp_arith[$as,*])=>`(tactic| simp only[zdl,runF,zam,zda,sOwn,sFrz,sIf,zcn,sRetN,sRetM,sRetMN,retAt,runM,mMut,sExp,sNx,sBk,sCt,sFor,sApp,sExt,sSto,zk1,zml,ownKid,za5,mC,za4,za0,zb4,mAp,zan,mIf,zge,mAnd,mOr,mIx,mSl,zjc,ziy,mTup,mLC,fin,g1,g2,bNm,ziv,zao,zi4,blk,capT,iVal,zc3,zhy,as1,as2,asL,asL2,isL,zcl,subT,mulT,zhc,zhd,powT,borT,bandT,cmpT,negT,isT2,T.isN,T.isB,zk2,zei,absT,minT,maxT,yby,intT,allT,anyT,zek,tyN,tyCs,subTy,T.share,zae,T.sh,shL,T.flat,at0,at1,at2,yah,yds,ya8,ybd,List.replicate,yba,ycy,ycd,List.getElem?_cons_zero,yda,List.getElem?_nil,List.set_cons_zero,List.set_cons_succ,ydp,nl0,nl1,nl2,nl3,nl4,nl5,nl6,nl7,nl8,nl9,Int.reduceBEq,Nat.reduceBEq,Nat.reduceAdd,Nat.reduceSub,Nat.reduceLT,Nat.reduceLeDiff,if_true,if_false,ite_true,ite_false,reduceIte,Bool.not_true,Bool.not_false,Bool.and_true,Bool.true_and,ye0,yd8,yed,ycq,ye5,ye7,Bool.false_xor,Bool.true_xor,yck,ydf,decide_true,decide_false,ya7,yb5,or_false,or_true,true_or,and_true,true_and,and_self,String.reduceEq,String.reduceBEq,beq_self_eq_true,ne_eq,not_false_eq_true,not_true_eq_false,lim_le,lim_lt,bT_sh,bT_share,zd3,shareL_mT,Int.reduceLT,Int.reduceAdd,ybl,shL_mTi,shL_mTf,zi7,implies_true,forall_const,bT_none,bT_some,Int.reduceEq,Int.reduceNe,zmm,zie,zfi,zjd,mNew,zj5,oobAt,sDpf,osdAt,mDicS,mChn,leT,zfj,tupT,isXT,sNo,Kd.isLst,$as,*])
def top(i:Nat):Stmt:=PySem.Challenge.pw_zonewalk_k82_machines_as_text.main.body.getD i (.Pass ⟨0,0,0,0⟩)
def clsDef(s:Stmt)(j:Nat):Stmt:=match s with
 |.ClassDef _ _ _ body _ _ _ _ _ _ _=>body.getD j (.Pass ⟨0,0,0,0⟩)
 |_=>.Pass ⟨0,0,0,0⟩
def meth(i j:Nat):Stmt:=clsDef (top i) j
abbrev zai:Addr:=168
def zap:List Str:=["start","end","guard","noughts","sign"]
abbrev za7:Addr:=222
def za9:List Str:=["watch_names","stays","door_list"]
def k_WORDS:T:=(.nd false .rt [(.str "<"),(.str "<="),(.str ">"),(.str ">="),(.str "=")])
def zgf:T:=(.nd false .rt [(.str "<"),(.str "<=")])
def zej:T:=(.int 7)
def zgg:T:=(.int 64)
def zgh:T:=(.int 200)
def zer:T:=(.str "0123456789")
def zbv:T:=(.int 60)
def zc7:T:=(.nd false .rt [(.str "<"),(.str ">"),(.str "=")])
def zb7:T:=(.str ":0")
def d_Door:List (Addr×Bool):=[(168,true),(222,false)]
def zm2:List (Addr×Bool):=[(168,false),(222,true)]
abbrev zj4:Stmt:=top 48
theorem sc_Lcell_at:FnScope ["_law_script","_law_k"] ["_law_script","_law_k"] (za2 zj4):=⟨rfl,rfl,rfl,by decide +kernel,rfl,by decide +kernel,by decide +kernel⟩
def zjb:PSt->Option Out :=
 (zam (sIf (mAp (g2 (cmpT fun i j=>decide (i<j))) (za0 (za5 1) (za0 (mAp (g1 zk2) (za0 (za5 0) za4)) za4))) (zcn (mIx (za5 0) (za5 1))) sNx)
 (zcn (mC (.int 0))))
def zav:List T->Option Ru:=zdl 2 2 zjb
abbrev zi0:Fn:=⟨1,["_law_script","_law_k"],zav⟩
abbrev gx_Lcell_at:Gx:=⟨[],[],[],[],false,true,true,none,[],[],[],true,[],[],[],[]⟩
abbrev gm_Lcell_at:Gm:=⟨["_law_script","_law_k"],(za2 zj4).names,[],0,[],["len"],[],[],[],false,[],[],[],gx_Lcell_at⟩
theorem ck_Lcell_at:dSs 200 gm_Lcell_at (zaa zj4)=some zjb:=by kernel_rfl
theorem zfm(ns:List Int){k:Int}(h0:0<=k):zav [zbf ns,.int k]=some (.ok (.int (ns.getD k.toNat 0))):=by
 unfold zav zjb
 by_cases h:k<ns.length
 ·have e:ns[k.toNat]?=some (ns.getD k.toNat 0):=by
   rw[yan,ya1 (by omega)]
   rfl
  have ea:atI (ns.map T.int) k=some (.int (ns.getD k.toNat 0)):=zb8 h0 (by rw[yaa,e];rfl)
  have el:decide (k<((ns.map T.int).length:Int))=true:=by simpa using h
  simp_arith[zbf,zh3,sh_ints,el,ea]
 ·have el:decide (k<((ns.map T.int).length:Int))=false:=by simpa using h
  have e:ns.getD k.toNat 0=0:=by
   rw[yan,ybg (by omega)]
   rfl
  simp_arith[zbf,zh3,sh_ints,el,e]
abbrev zl4:Stmt:=top 49
theorem sc_Lstream:FnScope ["_law_cell","_law_many","_law_found","_law_number","_law_k","_law_rest"] ["_law_cell","_law_many"] (za2 zl4):=⟨rfl,rfl,rfl,by decide +kernel,rfl,by decide +kernel,by decide +kernel⟩
def zhm:PSt->Option Out :=
 (zam (sApp 2 (mAp (g2 zhc) (za0 (za5 5) (za0 (mC (.int 2147483647)) za4))))
 (zda (mAp (g2 zhd) (za0 (za5 5) (za0 (mC (.int 2147483647)) za4))) (bNm 5)))
def zhl:PSt->Option Out :=
 (zam (zda (mAp (g2 zhc) (za0 (mAp (g2 zcl) (za0 (mAp (g2 zcl) (za0 (mAp (g2 mulT) (za0 (za5 3) (za0 (za5 3) za4))) (za0 (mAp (g2 mulT) (za0 (mC (.int 48271)) (za0 (za5 3) za4))) za4))) (za0 (za5 4) za4))) (za0 (mC (.int 2147483647)) za4))) (bNm 3))
 (sApp 2 (za5 3)))
def zid:PSt->Option Out :=
 (zam (sOwn 2 (ziy za4))
 (zam (sIf (mAp (g2 (cmpT fun i j=>decide (j<=i))) (za0 (za5 0) (za0 (mAp (g2 powT) (za0 (mC (.int 10)) (za0 (mC (.int 30)) za4))) za4))) (zam (zda (mAp (g2 subT) (za0 (za5 0) (za0 (mAp (g2 powT) (za0 (mC (.int 10)) (za0 (mC (.int 30)) za4))) za4))) (bNm 5))
 (zam (sFor (zc3 (za0 (za5 1) za4)) (bNm 4) zhm)
 (zcn (za5 2)))) sNx)
 (zam (zda (mAp (g2 zcl) (za0 (mAp (g2 zhc) (za0 (za5 0) (za0 (mC (.int 2147483647)) za4))) (za0 (mC (.int 48271)) za4))) (bNm 3))
 (zam (sFor (zc3 (za0 (mAp (g2 zcl) (za0 (za5 1) (za0 (mC (.int 2)) za4))) za4)) (bNm 4) zhl)
 (zam (sFrz 2) (zcn (zjd (mSl (za5 2) (some (mC (.int 2))) none) (zme (za5 2) (some (mC (.int 2))) none))))))))
def zd7:List T->Option Ru:=zdl 2 6 zid
abbrev zji:Fn:=⟨1,["_law_cell","_law_many"],zd7⟩
abbrev gx_Lstream:Gx:=⟨[],[],[],[],false,true,true,none,[],[],[],true,[],[],[],[]⟩
abbrev gm_Lstream:Gm:=⟨["_law_cell","_law_many","_law_found","_law_number","_law_k","_law_rest"],(za2 zl4).names,[],0,[],["range"],[],["_law_found"],[],false,[],[],[],gx_Lstream⟩
theorem ck_Lstream:dSs 200 gm_Lstream (zaa zl4)=some zid:=by kernel_rfl
theorem st_ex(c:Int){m:Nat}(hm:m<=1000):∃xs:Nat->Int,zd7 [.int c,.int m]=some (.ok (.own (mT m fun i=>.int (xs i)))):=by
 have p30:(0:Int)<=30/\(30:Int)<=1000000/\s64 10=true:=⟨by decide,by decide,zna (by decide) (by decide)⟩
 have s45:s70 2147483647=true:=zep (by decide) (by decide)
 have r30:(30:Int).toNat=30:=rfl
 by_cases h:(10:Int) ^ 30<=c
 ·have loop:=for_mT (b:=bNm 4) (body:=zhm) (n:=m) (g:=fun i=>.int (i:Int)) (τ:=[some (.int c),some (.int m),some (.own []),none,none,some (.int (c - 10 ^ 30))])
   (fun i τ=>∃(xs:Nat->Int) (x:Option T) (r:Int),τ=[some (.int c),some (.int m),some (.own (mT i fun i=>.int (xs i))),none,x,some (.int r)])
   ⟨fun _=>0,none,_,rfl⟩ (by
    rintro i τ hi ⟨xs,x,r,rfl⟩;refine⟨_,by simp_arith[];rfl,?_⟩
    have l1:i<100000:=by omega
    refine⟨_,by unfold zhm;simp_arith[s45,l1];rfl,fun j=>if j=i then r.fmod 2147483647 else xs j,some (.int (i:Int)),r.fdiv 2147483647,?_⟩
    rw[mT_push T.int])
  obtain⟨τ',e1,xs,x,r,rfl⟩:=loop;refine⟨xs,?_⟩;have o1:ok62 (m:Int)=true:=zh8 (by omega)
  unfold zd7 zid
  simp_arith[p30,r30,h,o1,zd2,e1]
 ·have loop:=for_mT (b:=bNm 4) (body:=zhl) (n:=m+2) (g:=fun i=>.int (i:Int)) (τ:=[some (.int c),some (.int m),some (.own []),some (.int (c.fmod 2147483647+48271)),none,none])
   (fun i τ=>∃(xs:Nat->Int) (x:Option T) (r:Int),0<=r/\r<4294967296/\τ=[some (.int c),some (.int m),some (.own (mT i fun i=>.int (xs i))),some (.int r),x,none])
   ⟨fun _=>0,none,_,by rw[fm (by decide)];omega,by rw[fm (by decide)];omega,rfl⟩ (by
    rintro i τ hi ⟨xs,x,r,r0,r1,rfl⟩;refine⟨_,by simp_arith[];rfl,?_⟩
    have l1:i<100000:=by omega
    have m1:zg8 r r=true:=mulOk_s (zep (by omega) (by omega)) (zep (by omega) (by omega))
    have m2:zg8 48271 r=true:=zla (zna (by decide) (by decide))
    refine⟨_,by unfold zhl;simp_arith[l1,m1,m2];rfl,fun j=>if j=i then (r * r+48271 * r+i).fmod 2147483647 else xs j,some (.int (i:Int)),(r * r+48271 * r+i).fmod 2147483647,by rw[fm (by decide)];omega,by rw[fm (by decide)];omega,?_⟩
    rw[mT_push T.int])
  obtain⟨τ',e1,xs,x,r,-,-,rfl⟩:=loop;refine⟨fun i=>xs (i+2),?_⟩
  have o1:ok62 ((m:Int)+2)=true:=zh8 (n:=m+2) (by omega)
  have o2:((m:Int)+2).toNat=m+2:=by omega
  have ct:zk9 (mT (m+2) fun i=>.int (xs i)) (some 2) none=mT m fun i=>.int (xs (i+2)):=by
   unfold zk9;have e2:HT.sIx (mT (m+2) fun i=>T.int (xs i)).length 0 (some 2)=2:=by rw[zd3];simp[HT.sIx]
   have e3:HT.sIx (mT (m+2) fun i=>T.int (xs i)).length (mT (m+2) fun i=>T.int (xs i)).length none=m+2:=by rw[zd3];rfl
   rw[e2,e3];refine mT_ext (by simp[zd3]) fun i hi=>?_
   rw[List.getElem?_take_of_lt (by omega),ye2,znf (by omega),Nat.add_comm]
  unfold zd7 zid
  simp_arith[p30,r30,h,o1,o2,zd2,e1,ct]
abbrev s_Lnames:Stmt:=top 50
theorem sc_Lnames:FnScope ["_law_cell","_law_many","_law_letters","_law_size_here","_law_at","_law_names_here","_law_k","_law_name","_law_j","_law_sign"] ["_law_cell","_law_many"] (za2 s_Lnames):=⟨rfl,rfl,rfl,by decide +kernel,rfl,by decide +kernel,by decide +kernel⟩
def zgz:PSt->Option Out :=
 (zam (zda (mAp (g2 zcl) (za0 (mAp (g2 zcl) (za0 (mAp (g2 zhd) (za0 (za5 0) (za0 (mC (.int 6720)) za4))) (za0 (mAp (g2 mulT) (za0 (za5 8) (za0 (mAp (g2 zcl) (za0 (mC (.int 1)) (za0 (mAp (g2 zhc) (za0 (za5 0) (za0 (mC (.int 25)) za4))) za4))) za4))) za4))) (za0 (mAp (g2 mulT) (za0 (za5 6) (za0 (mAp (g1 intT) (za0 (mAp (g2 eqT) (za0 (za5 8) (za0 (za5 4) za4))) za4)) za4))) za4))) (bNm 9))
 (zda (mAp (g2 zcl) (za0 (za5 7) (za0 (mIx (za5 2) (mAp (g2 zhc) (za0 (za5 9) (za0 (mC (.int 26)) za4)))) za4))) (bNm 7)))
def zh0:PSt->Option Out :=
 (zam (zda (mC (.str "")) (bNm 7))
 (zam (sFor (zc3 (za0 (za5 3) za4)) (bNm 8) zgz)
 (sApp 5 (za5 7))))
def m_Lnames:PSt->Option Out :=
 (zam (zda (mC (.str "abcdefghijklmnopqrstuvwxyz")) (bNm 2))
 (zam (zda (mAp (g2 zcl) (za0 (mC (.int 1)) (za0 (mAp (g2 zhc) (za0 (za5 0) (za0 (mC (.int 8)) za4))) za4))) (bNm 3))
 (zam (zda (mAp (g2 zhc) (za0 (mAp (g2 zhc) (za0 (mAp (g2 zhd) (za0 (za5 0) (za0 (mC (.int 8)) za4))) (za0 (mC (.int 840)) za4))) (za0 (za5 3) za4))) (bNm 4))
 (zam (sOwn 5 (ziy za4))
 (zam (sFor (zc3 (za0 (za5 1) za4)) (bNm 6) zh0)
 (zcn (za5 5)))))))
def zix:List T->Option Ru:=zdl 2 10 m_Lnames
abbrev fn_Lnames:Fn:=⟨1,["_law_cell","_law_many"],zix⟩
abbrev gx_Lnames:Gx:=⟨[],[],[],[],false,true,true,none,[],[],[],true,[],[],[],[]⟩
abbrev gm_Lnames:Gm:=⟨["_law_cell","_law_many","_law_letters","_law_size_here","_law_at","_law_names_here","_law_k","_law_name","_law_j","_law_sign"],(za2 s_Lnames).names,[],0,[],["range","int"],[],["_law_names_here"],[],false,[],[],[],gx_Lnames⟩
theorem ck_Lnames:dSs 200 gm_Lnames (zaa s_Lnames)=some m_Lnames:=by kernel_rfl
def sgI(c:Int)(k j:Nat):Int:=(c.fdiv 6720+(j:Int) * (1+c.fmod 25)+(k:Int) * (if ((j:Int) == ((c.fdiv 8).fmod 840).fmod (1+c.fmod 8))=true then 1 else 0)).fmod 26
def sgN(c:Int)(k j:Nat):Nat:=97+(sgI c k j).toNat
def nmS(c:Int)(k n:Nat):Str:=⟨((List.range n).map (sgN c k)).toArray⟩
def nmN(c:Int):Nat:=(1+c.fmod 8).toNat
theorem zib(c:Int):1<=nmN c/\nmN c<=8/\(1+c.fmod 8)=(nmN c:Int):=by
 unfold nmN;rw[fm (by decide)]
 omega
theorem zi8(c:Int)(k j:Nat):0<=sgI c k j/\sgI c k j<26:=by
 unfold sgI;rw[fm (j:=26) (by decide)]
 omega
theorem abc:(Str.ofString "abcdefghijklmnopqrstuvwxyz").cps.toList=(List.range 26).map (97 + ·):=by decide +kernel
theorem abc_at{i:Int}(h0:0<=i)(h1:i<26):atI (Str.ofString "abcdefghijklmnopqrstuvwxyz").cps.toList i=some (97+i.toNat):=by
 rw[abc];refine zb8 h0 ?_;rw[yaa,ycv (by omega)]
 rfl
theorem abc_len:(Str.ofString "abcdefghijklmnopqrstuvwxyz").length<=100000:=by decide +kernel
theorem nm_push(c:Int)(k n:Nat):nmS c k n++⟨#[sgN c k n]⟩=nmS c k (n+1):=by
 show Str.mk (((List.range n).map (sgN c k)).toArray++#[sgN c k n])=Str.mk _;rw[List.range_succ,yaq];simp
theorem nm_size(c:Int)(k n:Nat):(nmS c k n).length=n:=by
 show((List.range n).map (sgN c k)).toArray.size=n;simp
theorem w7_ok{c:Int}{k i m:Nat}(hi:i<8)(hk:k<30){o x9:Option T}:∃y9,zgz [some (.int c),some (.int (m:Int)),some (.str "abcdefghijklmnopqrstuvwxyz"),some (.int (1+c.fmod 8)),some (.int (((c.fdiv 8).fmod 840).fmod (1+c.fmod 8))),o,some (.int k),some (.str (nmS c k i)),some (.int i),x9]
  = some (.nx [some (.int c),some (.int (m:Int)),some (.str "abcdefghijklmnopqrstuvwxyz"),some (.int (1+c.fmod 8)),some (.int (((c.fdiv 8).fmod 840).fmod (1+c.fmod 8))),o,some (.int k),some (.str (nmS c k (i+1))),some (.int i),y9]):=by
 have m1:zg8 (i:Int) (1+c.fmod 25)=true:=zla (zna (by omega) (by omega))
 have m2:∀x:Int,zg8 (k:Int) x=true:=fun x=>zla (zna (by omega) (by omega))
 have s1:s70 6720=true:=zep (by decide) (by decide)
 have ea:atI (Str.ofString "abcdefghijklmnopqrstuvwxyz").cps.toList ((c.fdiv 6720+(i:Int) * (1+c.fmod 25)+(k:Int) * (if ((i:Int) == ((c.fdiv 8).fmod 840).fmod (1+c.fmod 8))=true then 1 else 0)).fmod 26)=some (sgN c k i):=abc_at (zi8 c k i).1 (zi8 c k i).2
 have el:(nmS c k i).length+(Str.mk #[sgN c k i]).length<=100000:=by
  rw[nm_size];show i+1<=100000
  omega
 unfold zgz;refine⟨some (.int (c.fdiv 6720+(i:Int) * (1+c.fmod 25)+(k:Int) * (if ((i:Int) == ((c.fdiv 8).fmod 840).fmod (1+c.fmod 8))=true then 1 else 0))),?_⟩
 simp_arith[zd4,m1,m2,s1,ea,abc_len,el,nm_push]
theorem w5_ok{c:Int}{k m:Nat}(hk:k<30){l:List T}(hl:l.length<1000){x7 x8 x9:Option T}:∃y7 y8 y9,zh0 [some (.int c),some (.int (m:Int)),some (.str "abcdefghijklmnopqrstuvwxyz"),some (.int (1+c.fmod 8)),some (.int (((c.fdiv 8).fmod 840).fmod (1+c.fmod 8))),some (.own l),some (.int k),x7,x8,x9]
  = some (.nx [some (.int c),some (.int (m:Int)),some (.str "abcdefghijklmnopqrstuvwxyz"),some (.int (1+c.fmod 8)),some (.int (((c.fdiv 8).fmod 840).fmod (1+c.fmod 8))),some (.own (l++[.str (nmS c k (nmN c))])),some (.int k),y7,y8,y9]):=by
 obtain⟨n1,n8,ne⟩:=zib c
 obtain⟨τ,e,z8,z9,rfl⟩:=zb3 (b:=bNm 8) (body:=zgz) (ts:=mT (nmN c) fun i=>.int (i:Int)) (τ:=[some (.int c),some (.int (m:Int)),some (.str "abcdefghijklmnopqrstuvwxyz"),some (.int (1+c.fmod 8)),some (.int (((c.fdiv 8).fmod 840).fmod (1+c.fmod 8))),some (.own l),some (.int k),some (.str ""),x8,x9])
  (fun i τ=>∃x8 x9,τ=[some (.int c),some (.int (m:Int)),some (.str "abcdefghijklmnopqrstuvwxyz"),some (.int (1+c.fmod 8)),some (.int (((c.fdiv 8).fmod 840).fmod (1+c.fmod 8))),some (.own l),some (.int k),some (.str (nmS c k i)),x8,x9]) ⟨x8,x9,by rfl⟩ fun i t τ h1 h2=>by
   obtain⟨hi,rfl⟩:=zc6 h1;obtain⟨x8,x9,rfl⟩:=h2;obtain⟨y9,ew⟩:=w7_ok (c:=c) (k:=k) (i:=i) (m:=m) (by omega) hk (o:=some (.own l)) (x9:=x9)
   exact⟨_,by simp_arith[],_,ew,_,_,rfl⟩
 rw[zd3]at e;have ok:ok62 (1+c.fmod 8)=true:=@decide_eq_true _ (Classical.propDecidable _) ⟨by omega,by omega⟩
 have er:zeq 0 (1+c.fmod 8).toNat=mT (nmN c) fun i=>.int (i:Int):=zd2
 have ll:l.length<100000:=by omega
 unfold zh0;refine⟨some (.str (nmS c k (nmN c))),z8,z9,?_⟩
 simp_arith[ok,er,e,ll]
abbrev nmX(c:Int)(k:Nat):Str:=nmS c k (nmN c)
theorem names_ok(c:Int){m:Nat}(hm:m<30):zix [.int c,.int (m:Int)]=some (.ok (.own (mT m fun k=>.str (nmX c k)))):=by
 obtain⟨n1,n8,ne⟩:=zib c
 obtain⟨τ,e,z6,z7,z8,z9,rfl⟩:=zb3 (b:=bNm 6) (body:=zh0) (ts:=mT m fun i=>.int (i:Int)) (τ:=[some (.int c),some (.int (m:Int)),some (.str "abcdefghijklmnopqrstuvwxyz"),some (.int (1+c.fmod 8)),some (.int (((c.fdiv 8).fmod 840).fmod (1+c.fmod 8))),some (.own []),none,none,none,none])
  (fun i τ=>∃x6 x7 x8 x9,τ=[some (.int c),some (.int (m:Int)),some (.str "abcdefghijklmnopqrstuvwxyz"),some (.int (1+c.fmod 8)),some (.int (((c.fdiv 8).fmod 840).fmod (1+c.fmod 8))),some (.own (mT i fun k=>.str (nmX c k))),x6,x7,x8,x9]) ⟨_,_,_,_,by rfl⟩ fun i t τ h1 h2=>by
   obtain⟨hi,rfl⟩:=zc6 h1;obtain⟨x6,x7,x8,x9,rfl⟩:=h2;obtain⟨y7,y8,y9,ew⟩:=w5_ok (c:=c) (k:=i) (m:=m) (by omega) (l:=mT i fun k=>.str (nmX c k)) (by rw[zd3];omega) (x7:=x7) (x8:=x8) (x9:=x9)
   rw[mT_app (g:=fun k=>.str (nmX c k))]at ew
   exact⟨_,by simp_arith[],_,ew,_,_,_,_,rfl⟩
 rw[zd3]at e;have ok:ok62 (m:Int)=true:=@decide_eq_true _ (Classical.propDecidable _) ⟨by omega,by omega⟩
 have er:zeq 0 m=mT m fun i=>.int (i:Int):=zd2
 have h0:(1+c.fmod 8≠0)=True:=eq_true (by omega)
 have s1:s70 8=true:=zep (by decide) (by decide)
 unfold zix m_Lnames
 simp_arith[ok,er,e,h0,s1]
theorem nm_cs(c:Int)(k:Nat):Tx.cs (nmX c k)=(List.range (nmN c)).map (sgN c k):=rfl
theorem nm_abc(c:Int)(k:Nat):∀s∈Tx.cs (nmX c k),97<=s/\s<=122:=fun s hs=>by
 rw[nm_cs]at hs;obtain⟨j,_,rfl⟩:=yaf.mp hs;have:=zi8 c k j;unfold sgN
 omega
theorem nm_inj83{c:Int}{j k:Nat}(hj:j<26)(hk:k<26)(h:nmX c j=nmX c k):j=k:=by
 obtain⟨n1,n8,ne⟩:=zib c
 have ha:0<=((c.fdiv 8).fmod 840).fmod (1+c.fmod 8)/\((c.fdiv 8).fmod 840).fmod (1+c.fmod 8)<1+c.fmod 8:=by
  rw[fm (j:=1+c.fmod 8) (by omega)]
  exact⟨Int.emod_nonneg _ (by omega),Int.emod_lt_of_pos _ (by omega)⟩
 obtain⟨a,ea⟩:=ybq ha.1;have hn:a<nmN c:=by omega
 have e:sgN c j a=sgN c k a:=by
  have e1:=congrArg (fun l:List Nat=>l[a]?) (congrArg Tx.cs h)
  simp only[nm_cs,yaa,ycv hn]at e1;exact yb1 e1
 have s1:=zi8 c j a;have s2:=zi8 c k a;unfold sgN at e;have e2:sgI c j a=sgI c k a:=by omega
 unfold sgI at e2;have eb:(((a:Nat):Int) == ((c.fdiv 8).fmod 840).fmod (1+c.fmod 8))=true:=by rw[ea];exact beq_self_eq_true _
 rw[if_pos eb,fm (j:=26) (by decide),fm (j:=26) (by decide)]at e2
 generalize c.fdiv 6720+((a:Nat):Int) * (1+c.fmod 25)=z at e2
 omega
abbrev s_Lsize:Stmt:=top 51
theorem sc_Lsize:FnScope ["_law_number","_law_cell"] ["_law_number","_law_cell"] (za2 s_Lsize):=⟨rfl,rfl,rfl,by decide +kernel,rfl,by decide +kernel,by decide +kernel⟩
def zld:PSt->Option Out :=
 (zam (sIf (mAp (g2 eqT) (za0 (mAp (g2 zhc) (za0 (za5 0) (za0 (mC (.int 3)) za4))) (za0 (mC (.int 0)) za4))) (zcn (mAp (g2 zhc) (za0 (mAp (g2 zhd) (za0 (za5 0) (za0 (mC (.int 3)) za4))) (za0 (mC (.int 10)) za4)))) sNx)
 (zam (sIf (mAp (g2 eqT) (za0 (mAp (g2 zhc) (za0 (za5 0) (za0 (mC (.int 3)) za4))) (za0 (mC (.int 1)) za4))) (zcn (mAp (g2 zcl) (za0 (mAp (g2 mulT) (za0 (za5 0) (za0 (mAp (g2 powT) (za0 (mC (.int 10)) (za0 (mC (.int 11)) za4))) za4))) (za0 (mAp (g2 zhc) (za0 (za5 1) (za0 (mAp (g2 powT) (za0 (mC (.int 10)) (za0 (mC (.int 11)) za4))) za4))) za4)))) sNx)
 (zcn (mAp (g2 zcl) (za0 (mAp (g2 powT) (za0 (mC (.int 10)) (za0 (mC (.int 59)) za4))) (za0 (mAp (g2 zhc) (za0 (mAp (g2 zcl) (za0 (mAp (g2 mulT) (za0 (za5 0) (za0 (mC (.int 48271)) za4))) (za0 (za5 1) za4))) (za0 (mAp (g2 mulT) (za0 (mC (.int 9)) (za0 (mAp (g2 powT) (za0 (mC (.int 10)) (za0 (mC (.int 59)) za4))) za4))) za4))) za4))))))
def zgx:List T->Option Ru:=zdl 2 2 zld
abbrev fn_Lsize:Fn:=⟨1,["_law_number","_law_cell"],zgx⟩
abbrev gx_Lsize:Gx:=⟨[],[],[],[],false,true,true,none,[],[],[],true,[],[],[],[]⟩
abbrev gm_Lsize:Gm:=⟨["_law_number","_law_cell"],(za2 s_Lsize).names,[],0,[],[],[],[],[],false,[],[],[],gx_Lsize⟩
theorem ck_Lsize:dSs 200 gm_Lsize (zaa s_Lsize)=some zld:=by kernel_rfl
theorem s64_10:s64 10=true:=by unfold s64;exact @decide_eq_true _ (Classical.propDecidable _) ⟨by decide,by decide⟩
theorem size_ok(b:Nat)(hb:b<10 ^ 20)(c:Int):∃v:Nat,v<10 ^ 60/\zgx [.int (b:Int),.int c]=some (.ok (.int (v:Int))):=by
 have s3:s70 3=true:=by unfold s70;exact @decide_eq_true _ (Classical.propDecidable _) ⟨by decide +kernel,by decide +kernel⟩
 have sb:s70 (b:Int)=true:=zep (ycg (show(-(10 ^ 70):Int)<0 by decide +kernel) (ybe b)) (Int.lt_trans (ycf.mpr hb) (by decide +kernel))
 have s11:s70 (10 ^ 11)=true:=zep (by decide +kernel) (by decide +kernel)
 have s2:s64 48271=true:=by unfold s64;exact @decide_eq_true _ (Classical.propDecidable _) ⟨by decide,by decide⟩
 have s9:s64 9=true:=by unfold s64;exact @decide_eq_true _ (Classical.propDecidable _) ⟨by decide,by decide⟩
 have m0:zg8 (b:Int) (10 ^ 11)=true:=mulOk_s sb s11;have m1:zg8 (b:Int) 48271=true:=by unfold zg8;rw[s2,yed,ycq]
 have m2:zg8 9 (10 ^ 59)=true:=by unfold zg8;rw[s9,ycq,ycq]
 have p11:(0:Int)<=11/\(11:Int)<=1000000/\s64 10=true:=⟨by decide,by decide,s64_10⟩
 have p59:(0:Int)<=59/\(59:Int)<=1000000/\s64 10=true:=⟨by decide,by decide,s64_10⟩
 have r11:(11:Int).toNat=11:=rfl;have r59:(59:Int).toNat=59:=rfl;have n11:¬ ((10:Int) ^ 11=0):=by decide +kernel
 have n59:¬ (9 * (10:Int) ^ 59=0):=by decide +kernel
 have fin:∀i:Int,0<=i->i<10 ^ 60->zgx [.int (b:Int),.int c]=some (.ok (.int i))->∃v:Nat,v<10 ^ 60/\zgx [.int (b:Int),.int c]=some (.ok (.int (v:Int))):=fun i h0 h1 e=>⟨i.toNat,by
  have h2:((i.toNat:Nat):Int)<((10 ^ 60:Nat):Int):=by rw[ydx h0];exact h1
  exact ycf.mp h2,by rw[e,ydx h0]⟩
 by_cases h0:(b:Int).fmod 3=0
 ·refine fin (((b:Int).fdiv 3).fmod 10) (yb9 _ (by decide)) (ycg (ybk _ (by decide)) (by decide +kernel)) ?_
  unfold zgx zld
  simp_arith[zd4,h0,s3]
 ·have hb0:((b:Int).fmod 3 == 0)=false:=by simpa using h0
  by_cases h1:(b:Int).fmod 3=1
  ·have hb1:((b:Int).fmod 3 == 1)=true:=by simpa using h1
   have t0:=yb9 c (show(0:Int)<10 ^ 11 by decide +kernel)
   have t1:=ybk c (show(0:Int)<10 ^ 11 by decide +kernel)
   refine fin ((b:Int) * 10 ^ 11+c.fmod (10 ^ 11)) (Int.add_nonneg (Int.mul_nonneg (ybe b) (by decide +kernel)) t0) ?_ ?_
   ·have u:(b:Int) * 10 ^ 11<=10 ^ 20 * 10 ^ 11:=ycj (yec (ycf.mpr hb)) (by decide +kernel)
    exact ycg (Int.add_lt_add_of_le_of_lt u t1) (by decide +kernel)
   ·unfold zgx zld
    simp_arith[zd4,hb0,hb1,s3,p11,r11,n11,m0]
  ·have hb1:((b:Int).fmod 3 == 1)=false:=by simpa using h1
   have r0:=yb9 ((b:Int) * 48271+c) (show(0:Int)<9 * 10 ^ 59 by decide +kernel)
   have r1:=ybk ((b:Int) * 48271+c) (show(0:Int)<9 * 10 ^ 59 by decide +kernel)
   have q:(10:Int) ^ 60=10 ^ 59+9 * 10 ^ 59:=by decide +kernel
   have q0:(0:Int)<=10 ^ 59:=by decide +kernel
   refine fin (10 ^ 59+((b:Int) * 48271+c).fmod (9 * 10 ^ 59)) (Int.add_nonneg q0 r0) (by rw[q];exact Int.add_lt_add_left r1 _) ?_
   unfold zgx zld
   simp_arith[zd4,hb0,hb1,s3,p59,r59,n59,m1,m2]
abbrev zg4:Stmt:=top 36
theorem sc_check_text:FnScope ["thing"] ["thing"] (za2 zg4):=⟨rfl,rfl,rfl,by decide +kernel,rfl,by decide +kernel,by decide +kernel⟩
def zgc:PSt->Option Out :=
 (sIf (zge (mAp (g1 (zek "str")) (za0 (za5 0) za4))) (zk1 "NoText" (za0 (mC (.str "what is read is a text")) za4)) sNx)
def ze8:List T->Option Ru:=zdl 1 1 zgc
abbrev zim:Fn:=⟨1,["thing"],ze8⟩
abbrev gx_check_text:Gx:=⟨[],[],[],[],false,true,true,none,[],[],[],true,[],[],[],[]⟩
abbrev gm_check_text:Gm:=⟨["thing"],(za2 zg4).names,[],0,[],["isinstance","str"],["NoText"],[],[],false,[],[],[],gx_check_text⟩
theorem ck_check_text:dSs 200 gm_check_text (zaa zg4)=some zgc:=by kernel_rfl
theorem znd{x y:Str}(hx:PyData.strOk x=true)(hy:PyData.strOk y=true):neT (.str x) (.str y)=some (.bl (!decide (x=y))):=by
 have e:(x == y)=decide (x=y):=by rw[ybz,beq_iff_eq,decide_eq_true_eq]
 unfold neT eqOk fitT eqvT;simp only[T.data,T.pln,PyData.canLay0,PyData.depth,PyData.eqv,hx,hy,e];simp
theorem zbh{α:Type}{b:T->PSt->Option PSt}{me:PSt->Option Rs}(f g:α->T)(I:PSt->Prop):∀(L:List α) (τ:PSt),I τ->(∀x∈L,∀τ,I τ->∃τ1,b (f x) τ=some τ1/\me τ1=some (.v (g x) false)/\I τ1)->zfy b (mC (.bl true)) me (L.map f) τ=some (L.map g)
 |[],_,_,_=>rfl
 |x::L,τ,h,hs=>by
  obtain⟨τ1,e1,e2,h1⟩:=hs x (yab ..) τ h;have k:=zbh f g I L τ1 h1 fun u hu=>hs u (ya9 _ hu)
  have f1:mC (.bl true) τ1=some (.v (.bl true) false):=rfl;rw[yah,yah];unfold zfy;simp only[e1,f1,e2,k]
theorem zit{α:Type}{p:α->Bool}:∀l:List α,zmc (l.map fun k=>.bl (p k))=some (l.map p)
 |[]=>rfl
 |a::l=>by
  show(match zmc (l.map fun k=>.bl (p k)) with|some r=>some (p a::r)|none=>none)=_
  rw[zit l]
  rfl
theorem ct_ok(x:Str):ze8 [.str x]=some (.ok .non):=by
 unfold ze8 zgc
 simp_arith[]
abbrev zd9:Stmt:=top 37
theorem zj0:FnScope ["text"] ["text"] (za2 zd9):=⟨rfl,rfl,rfl,by decide +kernel,rfl,by decide +kernel,by decide +kernel⟩
def zbi:PSt->Option Rs :=
 (mAp (g2 inT) (za0 (za5 0) (za0 (mC zer) za4)))
def zbd:PSt->Option Out :=
 (zam (sIf (mOr (zge (mChn leT leT (mC (.int 1)) (mAp (g1 zk2) (za0 (za5 0) za4)) (mC zbv))) (zge (mAp (g1 allT) (za0 (mLC 1 [] (zfj (za5 0)) (bNm 0) (mC (.bl true)) zbi) za4)))) (zcn (mC (.bl false))) sNx)
 (zcn (mOr (mAp (g2 eqT) (za0 (za5 0) (za0 (mC (.str "0")) za4))) (mAp (g2 neT) (za0 (mIx (za5 0) (mC (.int 0))) (za0 (mC (.str "0")) za4))))))
def zb6:List T->Option Ru:=zdl 1 1 zbd
abbrev zeu:Fn:=⟨1,["text"],zb6⟩
abbrev zjf:Gx:=⟨[("MOST_FIGURES",zbv),("FIGURES",zer)],[],[],[],false,true,true,none,[],[],[],true,[],[],[],[]⟩
abbrev zjg:Gm:=⟨["text"],(za2 zd9).names,[],0,[],["len","all"],[],[],[],false,[],[],[],zjf⟩
theorem zjk:dSs 200 zjg (zaa zd9)=some zbd:=by kernel_rfl
theorem dg_str{l:Str}(h:(Tx.cs l).all Tx.isDg=true):PyData.strOk l=true:=by
 unfold PyData.strOk;rw[<- Array.all_toList,yav];intro c hc;have:=of_decide_eq_true (yav.mp h c hc);exact decide_eq_true (by omega)
theorem fig(c:Nat):inT (.str ⟨#[c]⟩) zer=some (.bl (Tx.isDg c)):=by
 unfold zer inT inS;simp only;rw[StrLaws.found_one];have e:(Str.ofString "0123456789").cps.toList=[48,49,50,51,52,53,54,55,56,57]:=by decide +kernel
 rw[e];unfold Tx.isDg
 congr 2
 rw[decide_eq_decide];simp only[ya7,yb5,or_false]
 omega
theorem fig_sh:zer.share=zer:=rfl
theorem nought:Tx.cs (Str.ofString "0")=[48]:=by decide +kernel
theorem zh4{α:Type}(p:α->Bool):∀l:List α,zae (l.map fun c=>T.bl (p c))=l.map fun c=>T.bl (p c)
 |[]=>rfl
 |a::l=>by
  show T.bl (p a)::zae (l.map fun c=>T.bl (p c))=_
  rw[zh4 p l]
  rfl
theorem num_ok{x:Str}(hx:x.length<=lim):zb6 [.str x]=some (.ok (.bl (Tx.isNum (Tx.cs x)))):=by
 have lc:=zbh (b:=bNm 0) (me:=zbi) (fun c=>T.str ⟨#[c]⟩) (fun c=>T.bl (Tx.isDg c)) (fun τ=>∃o,τ=[o]) (Tx.cs x) [none] ⟨none,rfl⟩ fun c _ τ hI=>by
  obtain⟨o,rfl⟩:=hI;exact⟨[some (.str ⟨#[c]⟩)],rfl,by unfold zbi;simp_arith[fig_sh,fig],_,rfl⟩
 have lc':zfy (bNm 0) (mC (.bl true)) zbi (sgnT x) [none]=some ((Tx.cs x).map fun c=>T.bl (Tx.isDg c)):=lc
 have sl:(sgnT x).length<=lim:=by unfold sgnT;rw[ya0];exact hx
 have el:((x.length:Nat):Int)=((Tx.cs x).length:Nat):=rfl;have al:((Tx.cs x).map fun c=>Tx.isDg c).all id=(Tx.cs x).all Tx.isDg:=by rw[List.all_map];rfl
 by_cases h1:1<=(Tx.cs x).length/\(Tx.cs x).length<=60
 ·have d1:decide ((1:Int)<=((x.length:Nat):Int))=true:=decide_eq_true (by rw[el];omega)
  have d2:decide (((x.length:Nat):Int)<=60)=true:=decide_eq_true (by rw[el];omega)
  by_cases h2:(Tx.cs x).all Tx.isDg=true
  ·have s1:=dg_str h2
   obtain⟨c,r,hc⟩:∃c r,Tx.cs x=c::r:=by
    cases h:Tx.cs x with
    |nil=>rw[h]at h1;exact absurd h1.1 (by decide)
    |cons c r=>exact⟨c,r,rfl⟩
   have a0:atI x.cps.toList 0=some c:=by rw[show x.cps.toList=c::r from hc];exact zb8 (by decide) rfl
   have s2:PyData.strOk ⟨#[c]⟩=true:=dg_str (by rw[hc,List.all_cons,ya3]at h2;show [c].all _=true;rw[List.all_cons,h2.1];rfl)
   have s0:PyData.strOk (Str.ofString "0")=true:=by decide +kernel
   have q1:decide (x=Str.ofString "0")=decide (Tx.cs x=[48]):=by
    rw[decide_eq_decide];exact⟨fun h=>by rw[h,nought],fun h=>Tx.cs_ext (by rw[h,nought])⟩
   have q2:decide ((⟨#[c]⟩:Str)=Str.ofString "0")=decide (c=48):=by
    rw[decide_eq_decide];exact⟨fun h=>(ybv ((congrArg Tx.cs h).trans nought:[c]=[48])).1,fun h=>Tx.cs_ext (by rw[nought,h])⟩
   have n1:Tx.isNum (Tx.cs x)=(decide (Tx.cs x=[48]) || !decide (c=48)):=by
    unfold Tx.isNum;rw[decide_eq_true h1,h2,hc];simp
   unfold zb6 zbd zbv;cases hd:decide (Tx.cs x=[48])
   ·simp_arith[lc',sl,zh4,hx,d1,d2,zit,al,h2,zgs s1 s0,znd s2 s0,a0,q1,q2,n1,hd]
   ·simp_arith[lc',sl,zh4,hx,d1,d2,zit,al,h2,zgs s1 s0,znd s2 s0,a0,q1,q2,n1,hd]
  ·have n1:Tx.isNum (Tx.cs x)=false:=by
    unfold Tx.isNum;rw[yb0.mpr h2,ye0,yd8]
   rw[Bool.not_eq_true]at h2;unfold zb6 zbd zbv
   simp_arith[lc',sl,zh4,hx,d1,d2,zit,al,h2,n1]
 ·rw[Tx.not_num_long h1];unfold zb6 zbd zbv
  by_cases h2:1<=(Tx.cs x).length
  ·have d1:decide ((1:Int)<=((x.length:Nat):Int))=true:=decide_eq_true (by rw[el];omega)
   have d2:decide (((x.length:Nat):Int)<=60)=false:=decide_eq_false (by rw[el];omega)
   simp_arith[hx,d1,d2]
  ·have d1:decide ((1:Int)<=((x.length:Nat):Int))=false:=decide_eq_false (by rw[el];omega)
   simp_arith[hx,d1]
abbrev zf2:Stmt:=top 38
theorem zmg:FnScope ["text"] ["text"] (za2 zf2):=⟨rfl,rfl,rfl,by decide +kernel,rfl,by decide +kernel,by decide +kernel⟩
def zfb:PSt->Option Out :=
 (zam (sIf (zge (zan zb6 (za0 (za5 0) za4))) (zk1 "NoText" (za0 (mC (.str "a number is written by one to sixty figures, with no nought ahead")) za4)) sNx)
 (zcn (mAp (g1 intT) (za0 (za5 0) za4))))
def zci:List T->Option Ru:=zdl 1 1 zfb
abbrev zhg:Fn:=⟨2,["text"],zci⟩
abbrev zmo:Gx:=⟨[],[],[],[],false,true,true,none,[],[],[],true,[],[],[],[]⟩
abbrev zmu:Gm:=⟨["text"],(za2 zf2).names,[],1,[("is_number_text",zeu)],["int"],["NoText"],[],[],false,[],[],[],zmo⟩
theorem zn0:dSs 200 zmu (zaa zf2)=some zfb:=by kernel_rfl
theorem rd_ok{x:Str}(h:Tx.isNum (Tx.cs x)=true):zci [.str x]=some (.ok (.int ((NumText.digitsVal (Tx.cs x):Nat):Int))):=by
 have hl:(Tx.cs x).length<=60:=(Tx.num_all h).1.2;have hx:x.length<=lim:=by unfold lim;rw[Tx.cs_len];omega
 have h6:x.length<=640:=by rw[Tx.cs_len];omega
 have e:=num_ok hx;rw[h]at e;unfold zci zfb
 simp_arith[e,Tx.num_text h,h6]
abbrev zf1:Stmt:=top 39
theorem zmf:FnScope ["number","piece","pieces","rest"] ["number"] (za2 zf1):=⟨rfl,rfl,rfl,by decide +kernel,rfl,by decide +kernel,by decide +kernel⟩
def zdo:PSt->Option Rs :=
 (mAp (g2 (cmpT fun i j=>decide (j<=i))) (za0 (za5 3) (za0 (za5 1) za4)))
def zg0:PSt->Option Out :=
 (zam sNo
 (zda (mAp (g2 zhd) (za0 (za5 3) (za0 (za5 1) za4))) (bNm 3)))
def zfa:PSt->Option Out :=
 (zam (zda (mAp (g2 powT) (za0 (mC (.int 10)) (za0 (mC (.int 60)) za4))) (bNm 1))
 (zam (sOwn 2 (ziy za4))
 (zam (zda (za5 0) (bNm 3))
 (zam (sWh zdo zg0)
 (zam (sApp 2 (mAp (g1 strT) (za0 (za5 3) za4)))
 (zcn (mJnR (mC (.str "")) (za5 2))))))))
def zdh:List T->Option Ru:=zdl 1 4 zfa
abbrev zhf:Fn:=⟨1,["number"],zdh⟩
abbrev zmn:Gx:=⟨[],[],[],[],false,true,true,none,[],[],[],true,[],[],[],[]⟩
abbrev zmt:Gm:=⟨["number","piece","pieces","rest"],(za2 zf1).names,[],0,[],["str","reversed"],[],["pieces"],[],false,[],[],[],zmn⟩
theorem zmz:dSs 200 zmt (zaa zf1)=some zfa:=by kernel_rfl
theorem log_ok{n:Nat}(h:n<10 ^ 63):(((n:Nat):Int).natAbs).log2<1920:=by
 rw[Int.natAbs_natCast]
 by_cases h0:n=0
 ·subst h0
  decide +kernel
 ·exact(Nat.log2_lt h0).mpr (ybo h (by decide +kernel))
theorem str_dg(n:Nat):Str.ofString (toString ((n:Nat):Int))=Tx.dg n:=rfl
theorem dg_lim{n:Nat}(h:n<10 ^ 63):(Tx.dg n).length<=63:=by
 rw[Tx.cs_len];exact Tx.dg_len (by decide) h
theorem jn_one(y:Str):Txt.join (Str.ofString "") [y]=y:=by
 show Builtin.Str.glued _ _=_;rw[StrLaws.glued_eq_join]
 rfl
theorem sn_ok{n:Nat}(h:n<10 ^ 60):zdh [.int (n:Int)]=some (.ok (.str (Tx.dg n))):=by
 have h':n<10 ^ 63:=ybo h (by decide +kernel)
 have p60:(0:Int)<=60/\(60:Int)<=1000000/\s64 10=true:=⟨by decide,by decide,s64_10⟩
 have r60:(60:Int).toNat=60:=rfl
 have d1:decide ((10:Int) ^ 60<=((n:Nat):Int))=false:=decide_eq_false fun z=>by
  have:((10 ^ 60:Nat):Int)<=((n:Nat):Int):=z
  omega
 have loop:=sWh_inv (mc:=zdo) (body:=zg0)
  (τ:=[some (.int (n:Int)),some (.int (10 ^ 60)),some (.own []),some (.int (n:Int))])
  (fun τ=>τ=[some (.int (n:Int)),some (.int (10 ^ 60)),some (.own []),some (.int (n:Int))])
  (fun _=>0) rfl (by
   rintro τ rfl;right;exact⟨false,by unfold zdo;simp_arith[d1]⟩)
 obtain⟨τ',e1,rfl,bb,e2⟩:=loop;have l1:=dg_lim h'
 have hz:[(Tx.dg n).length].sum+1 * (Str.ofString "").length<=lim:=by
  have e:(Str.ofString "").length=0:=by decide +kernel
  rw[e];simp only[ye8,List.sum_nil];unfold lim
  omega
 have hs:zdp [T.str (Tx.dg n)]=some [Tx.dg n]:=rfl;have hr:[Tx.dg n].reverse=[Tx.dg n]:=rfl;unfold zdh zfa
 simp_arith[p60,r60,e1,strT,log_ok h',str_dg,mJnR,hs,hz,hr,jn_one]
abbrev zg1:Stmt:=top 40
theorem sc_show_looks:FnScope ["guard"] ["guard"] (za2 zg1):=⟨rfl,rfl,rfl,by decide +kernel,rfl,by decide +kernel,by decide +kernel⟩
def zem:PSt->Option Rs :=
 (mAp (g2 zcl) (za0 (mAp (g2 zcl) (za0 (za5 0) (za0 (za5 1) za4))) (za0 (zan zdh (za0 (za5 2) za4)) za4)))
def zg9:PSt->Option Out :=
 (zcn (mLC 3 [] (zfj (za5 0)) (zi4 3 (zao (bNm 0) (zao (bNm 1) (zao (bNm 2) ziv)))) (mC (.bl true)) zem))
def zd6:List T->Option Ru:=zdl 1 1 zg9
abbrev zfl:Fn:=⟨2,["guard"],zd6⟩
abbrev gx_show_looks:Gx:=⟨[],[],[],[],false,true,true,none,[],[],[],true,[],[],[],[]⟩
abbrev gm_show_looks:Gm:=⟨["guard"],(za2 zg1).names,[],1,[("show_number",zhf)],[],[],[],[],false,[],[],[],gx_show_looks⟩
theorem ck_show_looks:dSs 200 gm_show_looks (zaa zg1)=some zg9:=by kernel_rfl
theorem zfn(x y:Str):(x++y).length=x.length+y.length:=by rw[Tx.cs_len,Tx.cs_app,ya5];rfl
theorem zbm{x y:Str}{n m:Nat}(hx:x.length<=n)(hy:y.length<=m):(x++y).length<=n+m:=by
 rw[zfn]
 omega
theorem zl{x y:Str}{n m:Nat}(hx:x.length<=n)(hy:y.length<=m)(h:n+m<=16777216):x.length+y.length<=lim:=by
 unfold lim
 omega
theorem sq{f g:PSt->Option Out}{τ τ':PSt}{r:Option Out}(h:f τ=some (.nx τ'))(h2:g τ'=r):zam f g τ=r:=by
 unfold zam;rw[h];exact h2
theorem znm{x:Str}(h:∀c∈Tx.cs x,c<128):PyData.strOk x=true:=by
 unfold PyData.strOk;rw[<- Array.all_toList,yav];intro c hc;have:=h c hc;exact decide_eq_true (by omega)
theorem sum_le{α:Type}{f:α->Str}{m:Nat}:∀{l:List α},(∀a∈l,(f a).length<=m)->((l.map f).map (·.length)).sum<=l.length * m
 |[],_=>ybi _
 |a::l,h=>by
  have h1:=h a (yab ..);have h2:=sum_le (l:=l) fun b hb=>h b (ya9 _ hb)
  rw[yah,yah,ye8,ya8,ydr]
  omega
theorem zde{α:Type}{f:α->T}(h:∀a,(f a).sh=true)(l:List α):shL (l.map f)=true:=by
 rw[zaw,List.all_map,yav];exact fun a _=>h a
theorem li_b:Tx.cs (Str.ofString " ")=[32]:=by decide +kernel
theorem ln_b:(Str.ofString " ").length=1:=by decide +kernel
theorem zkh{α:Type}(f:α->Str)(l:List α):zdp (l.map fun a=>T.str (f a))=some (l.map f):=by
 have:=zeo (l.map f);rw[yak]at this;exact this
theorem bl_is:Str.ofString " "=(⟨#[32]⟩:Str):=Tx.cs_ext li_b
theorem bl_ok{x:Str}(h:x.length+2<=lim):((Str.ofString " ").length == 0)=false/\x.length+2<=lim:=⟨by decide +kernel,h⟩
theorem jn_is(s:Str)(l:List Str):Txt.join s l=Str.join s l:=by
 show Builtin.Str.glued _ _=_;rw[StrLaws.glued_eq_join]
theorem em_ok:PyData.strOk (Str.ofString "")=true:=by decide +kernel
structure Lk where
 w:Str
 o:Str
 n:Nat
structure LkOk(k:Lk):Prop where
 hw:∀c∈Tx.cs k.w,c<128/\c≠32/\c≠60/\c≠61/\c≠62
 hl:k.w.length<=100
 ho:∃c r,Tx.cs k.o=c::r/\(c=60\/c=61\/c=62)/\(r=[]\/r=[61]/\c≠61)
 hn:k.n<10 ^ 60
def lkT(k:Lk):T:=.tup [.str k.w,.str k.o,.int (k.n:Int)]
def lkS(k:Lk):Str:=k.w++k.o++Tx.dg k.n
theorem lk_sh(k:Lk):(lkT k).sh=true:=rfl
theorem zb1(L:List Lk):shL (L.map lkT)=true:=zde lk_sh L
theorem zak(L:List Lk):zae (L.map lkT)=L.map lkT:=za1 _ (zb1 L)
theorem lk_ol{k:Lk}(h:LkOk k):k.o.length<=2:=by
 obtain⟨c,r,e,_,hr⟩:=h.ho;rw[Tx.cs_len,e]
 rcases hr with rfl|⟨rfl,_⟩
 ·exact yc5 1
 ·exact yad 2
theorem lk_cs{k:Lk}:Tx.cs (lkS k)=Tx.cs k.w++(Tx.cs k.o++Tx.cs (Tx.dg k.n)):=by
 unfold lkS;rw[Tx.cs_app,Tx.cs_app,yap]
theorem lk_signs{k:Lk}(h:LkOk k):∀c∈Tx.cs (lkS k),c<128/\c≠32:=fun c hc=>by
 rw[lk_cs]at hc
 rcases yai.mp hc with hc|hc
 ·have:=h.hw c hc
  omega
 ·rcases yai.mp hc with hc|hc
  ·obtain⟨c0,r,e,h0,hr⟩:=h.ho;rw[e]at hc
   rcases hr with rfl|⟨rfl,_⟩
   ·rw[ya6.mp hc]
    omega
   ·rcases ya7.mp hc with rfl|hc
    ·omega
    ·rw[ya6.mp hc]
     decide
  ·have:=Tx.dg_all _ c hc
   omega
theorem lk_len{k:Lk}(h:LkOk k):(lkS k).length<=162:=by
 have h1:=h.hl;have h2:=lk_ol h;have h3:=Tx.dg_len (by decide) h.hn
 rw[Tx.cs_len]at h1 h2;rw[Tx.cs_len,lk_cs,ya5,ya5]
 omega
theorem dg_l{n:Nat}(h:n<10 ^ 60):(Tx.dg n).length<=60:=by
 rw[Tx.cs_len];exact Tx.dg_len (by decide) h
theorem slk_ok{L:List Lk}(h:∀k∈L,LkOk k)(hl:L.length<=63):zd6 [.lst (L.map lkT)]=some (.ok (.own (L.map fun k=>T.str (lkS k)))):=by
 have lc:=zbh (b:=zi4 3 (zao (bNm 0) (zao (bNm 1) (zao (bNm 2) ziv)))) (me:=zem) lkT (fun k=>T.str (lkS k)) (fun τ=>∃a b c,τ=[a,b,c]) L [none,none,none] ⟨none,none,none,rfl⟩ fun k hk τ hI=>by
  obtain⟨a,b,c,rfl⟩:=hI;have ok:=h k hk;have e1:=sn_ok ok.hn;have z1:=zl ok.hl (lk_ol ok) (by decide)
  have z2:=zl (zbm ok.hl (lk_ol ok)) (dg_l ok.hn) (by decide)
  refine⟨[some (.str k.w),some (.str k.o),some (.int (k.n:Int))],by unfold lkT;simp_arith[],?_,_,_,_,rfl⟩
  unfold zem
  simp_arith[e1,z1,z2]
  rfl
 have ll:(L.map lkT).length<=lim:=by rw[ya0];unfold lim;omega
 unfold zd6 zg9
 simp_arith[zak,zb1,ll,lc]
abbrev zhp:Stmt:=top 41
theorem sc_read_look:FnScope ["text","places","at","end"] ["text"] (za2 zhp):=⟨rfl,rfl,rfl,by decide +kernel,rfl,by decide +kernel,by decide +kernel⟩
def zce:PSt->Option Rs :=
 (mAp (g2 inT) (za0 (za5 1) (za0 (mC zc7) za4)))
def zcg:PSt->Option Rs :=
 (za5 0)
def zfc:PSt->Option Out :=
 (zam (zda (mLC 2 [] (iEnX (za0 (za5 0) za4)) (zi4 2 (zao (bNm 0) (zao (bNm 1) ziv))) zce zcg) (bNm 1))
 (zam (sIf (mAp (g2 eqT) (za0 (mAp (g1 zk2) (za0 (za5 1) za4)) (za0 (mC (.int 0)) za4))) (zk1 "NoText" (za0 (mC (.str "a look has a word in it")) za4)) sNx)
 (zam (zda (mIx (za5 1) (mC (.int 0))) (bNm 2))
 (zam (zda (mAp (g2 zcl) (za0 (za5 2) (za0 (mC (.int 1)) za4))) (bNm 3))
 (zam (sIf (mAnd (mAp (g2 neT) (za0 (mIx (za5 0) (za5 2)) (za0 (mC (.str "=")) za4))) (mStw (zjd (mSl (za5 0) (some (za5 3)) none) (zme (za5 0) (some (za5 3)) none)) (mC (.str "=")))) (sAug 3 (mC (.int 1))) sNx)
 (zcn (mTup (za0 (zjd (mSl (za5 0) none (some (za5 2))) (zme (za5 0) none (some (za5 2)))) (za0 (zjd (mSl (za5 0) (some (za5 2)) (some (za5 3))) (zme (za5 0) (some (za5 2)) (some (za5 3)))) (za0 (zan zci (za0 (zjd (mSl (za5 0) (some (za5 3)) none) (zme (za5 0) (some (za5 3)) none)) za4)) za4))))))))))
def zcs:List T->Option Ru:=zdl 1 4 zfc
abbrev zgo:Fn:=⟨3,["text"],zcs⟩
abbrev gx_read_look:Gx:=⟨[("LOOK_SIGNS",zc7)],[],[],[],false,true,true,none,[],[],[],true,[],[],[],[]⟩
abbrev gm_read_look:Gm:=⟨["text","places","at","end"],(za2 zhp).names,[],2,[("read_number",zhg)],["enumerate","len"],["NoText"],[],[],false,[],[],[],gx_read_look⟩
theorem ck_read_look:dSs 200 gm_read_look (zaa zhp)=some zfc:=by kernel_rfl
def isLk(c:Nat):Bool:=decide (c=60\/c=62\/c=61)
theorem lks_in{c:Nat}(h:c<128):inT (.str ⟨#[c]⟩) zc7=some (.bl (isLk c)):=by
 have e:zc7=.nd false .rt ([Str.ofString "<",Str.ofString ">",Str.ofString "="].map T.str):=rfl
 have t:Txs [Str.ofString "<",Str.ofString ">",Str.ofString "="]:=fun y hy=>by
  simp only[ya7,yb5,or_false]at hy
  rcases hy with rfl|rfl|rfl<;>decide +kernel
 rw[e,zlm t (znm fun d hd=>by rw[ya6.mp (show d∈[c] from hd)];exact h)]
 congr 2
 unfold isLk;rw[decide_eq_decide];have e1:Str.ofString "<"=(⟨#[60]⟩:Str):=Tx.cs_ext (by decide +kernel)
 have e2:Str.ofString ">"=(⟨#[62]⟩:Str):=Tx.cs_ext (by decide +kernel)
 have e3:Str.ofString "="=(⟨#[61]⟩:Str):=Tx.cs_ext (by decide +kernel)
 rw[e1,e2,e3];simp only[ya7,yb5,or_false];have q:∀d:Nat,(⟨#[c]⟩:Str)=⟨#[d]⟩ ↔ c=d:=fun d=>⟨fun h=>(ybv (congrArg Tx.cs h:[c]=[d])).1,fun h=>by rw[h]⟩
 rw[q,q,q]
theorem lks_sh:zc7.share=zc7:=rfl
def plc:Nat->List Nat->List T
 |_,[]=>[]
 |k,c::r=>if isLk c then .int (k:Int)::plc (k+1) r else plc (k+1) r
theorem lc_plc:∀(l:List Nat) (k:Nat) (τ:PSt),(∃a b,τ=[a,b])->(∀c∈l,c<128)->zfy (zi4 2 (zao (bNm 0) (zao (bNm 1) ziv))) zce zcg (zhe k (l.map fun c=>T.str ⟨#[c]⟩)) τ=some (plc k l)
 |[],k,τ,_,_=>rfl
 |c::r,k,τ,⟨a,b,e⟩,h=>by
  subst e;have ih:=lc_plc r (k+1) [some (.int (k:Int)),some (.str ⟨#[c]⟩)] ⟨_,_,rfl⟩ fun d hd=>h d (ya9 _ hd)
  have e1:zi4 2 (zao (bNm 0) (zao (bNm 1) ziv)) (T.tup [.int (k:Int),.str ⟨#[c]⟩]) [a,b]=some [some (.int (k:Int)),some (.str ⟨#[c]⟩)]:=by simp_arith[]
  have e2:zce [some (.int (k:Int)),some (.str ⟨#[c]⟩)]=some (.v (.bl (isLk c)) false):=by
   unfold zce
   simp_arith[lks_sh,lks_in (h c (yab ..))]
  have e3:zcg [some (.int (k:Int)),some (.str ⟨#[c]⟩)]=some (.v (.int (k:Int)) false):=by
   unfold zcg
   simp_arith[]
  rw[yah];unfold zhe plc zfy;cases hc:isLk c
  ·rw[hc]at e2;simp only[e1,e2,ih]
   rfl
  ·rw[hc]at e2;simp only[e1,e2,e3,ih]
   rfl
theorem plc_at{c:Nat}{u:List Nat}(hc:isLk c=true):∀(w:List Nat) (k:Nat),(∀d∈w,isLk d=false)->∃r,plc k (w++c::u)=.int ((k+w.length:Nat):Int)::r/\r.length<=u.length
 |[],k,_=>⟨plc (k+1) u,by
   show(if isLk c then T.int (k:Int)::plc (k+1) u else plc (k+1) u)=_
   rw[if_pos hc]
   rfl,by
   have key:∀(l:List Nat) (k:Nat),(plc k l).length<=l.length:=by
    intro l
    induction l with
    |nil=>intro k;exact yad _
    |cons a r ih =>
     intro k;have:=ih (k+1);unfold plc;split
     ·rw[ya8,ya8];omega
     ·rw[ya8];omega
   exact key u _⟩
 |d::w,k,h=>by
  obtain⟨r,e,hr⟩:=plc_at (u:=u) hc w (k+1) fun x hx=>h x (ya9 _ hx)
  refine⟨r,?_,hr⟩;show plc k (d::(w++c::u))=_;unfold plc;rw[if_neg (by rw[h d (yab ..)];exact Bool.noConfusion),e,ya8]
  congr 3
  omega
theorem eqs_is:Str.ofString "="=(⟨#[61]⟩:Str):=Tx.cs_ext (by decide +kernel)
theorem eqs_ok:PyData.strOk (Str.ofString "=")=true:=by decide +kernel
theorem rlk_ok{k:Lk}(h:LkOk k):zcs [.str (lkS k)]=some (.ok (lkT k)):=by
 obtain⟨c,r,eo,hc,hr⟩:=h.ho;have hx:=lk_len h;have hxl:(lkS k).length<=lim:=by unfold lim;omega
 have ex:Tx.cs (lkS k)=Tx.cs k.w++c::(r++Tx.cs (Tx.dg k.n)):=by rw[lk_cs,eo];rfl
 have hlk:isLk c=true:=by unfold isLk;exact decide_eq_true (by omega)
 obtain⟨ps,ep,hps⟩:=plc_at (u:=r++Tx.cs (Tx.dg k.n)) hlk (Tx.cs k.w) 0 fun d hd=>by
  have:=h.hw d hd;unfold isLk;exact decide_eq_false (by omega)
 rw[<- ex,Nat.zero_add]at ep;have lc:=lc_plc (Tx.cs (lkS k)) 0 [none,none] ⟨_,_,rfl⟩ fun d hd=>(lk_signs h d hd).1
 rw[ep]at lc;have lc':zfy (zi4 2 (zao (bNm 0) (zao (bNm 1) ziv))) zce zcg (zhe 0 (sgnT (lkS k))) [none,none]=some (.int ((Tx.cs k.w).length:Int)::ps):=lc
 have le:(zhe 0 (sgnT (lkS k))).length<=lim:=by
  rw[zgt];unfold sgnT;rw[ya0];exact hxl
 have hpsl:zae ps=ps/\shL ps=true:=by
  have key:∀(l:List Nat) (j:Nat),shL (plc j l)=true:=by
   intro l
   induction l with
   |nil=>intro j;rfl
   |cons a r ih =>
    intro j;unfold plc;split
    ·show(true && shL (plc (j+1) r))=true;rw[ih (j+1)]
     rfl
    ·exact ih (j+1)
  have e:=key (Tx.cs (lkS k)) 0;rw[ep]at e
  have e2:shL ps=true:=by
   have:(true && shL ps)=true:=e;rw[Bool.true_and]at this;exact this
  exact⟨za1 _ e2,e2⟩
 have nz:decide ((((ps.length+1:Nat):Int))=0)=false:=decide_eq_false (by omega)
 have nb:((((ps.length+1:Nat):Int)) == 0)=false:=by
  rw[yb0];intro z;have:=eq_of_beq z
  omega
 have a0:atI (T.int ((Tx.cs k.w).length:Int)::ps) 0=some (.int ((Tx.cs k.w).length:Int)):=zb8 (by decide) rfl
 have aw:atI (lkS k).cps.toList ((Tx.cs k.w).length:Int)=some c:=by
  refine zb8 (ybe _) ?_;show(Tx.cs (lkS k))[((Tx.cs k.w).length:Int).toNat]?=some c;rw[ybl,ex,yaw (yad _),Nat.sub_self]
  rfl
 have cok:PyData.strOk ⟨#[c]⟩=true:=znm fun d hd=>by rw[ya6.mp (show d∈[c] from hd)];omega
 have nec:=znd cok eqs_ok
 have dec:decide ((⟨#[c]⟩:Str)=Str.ofString "=")=decide (c=61):=by
  rw[decide_eq_decide,eqs_is];exact⟨fun h=>(ybv (congrArg Tx.cs h:[c]=[61])).1,fun h=>by rw[h]⟩
 rw[dec]at nec;have wl:(Tx.cs k.w).length<=(Tx.cs (lkS k)).length:=by rw[ex,ya5];omega
 have wl1:(Tx.cs k.w).length+1<=(Tx.cs (lkS k)).length:=by rw[ex,ya5,ya8];omega
 have i1:((Tx.cs k.w).length:Int)+1=(((Tx.cs k.w).length+1:Nat):Int):=rfl;have t1:Txt.slice (lkS k) none (some ((Tx.cs k.w).length:Int))=k.w:=Tx.cs_ext (by rw[Tx.sl_to wl,ex,List.take_left'  rfl])
 have f1:Tx.cs (Txt.slice (lkS k) (some (((Tx.cs k.w).length+1:Nat):Int)) none)=r++Tx.cs (Tx.dg k.n):=by
  rw[Tx.sl_from wl1,ex,<- List.drop_drop,ycz rfl]
  rfl
 have st:Txt.startswith (Txt.slice (lkS k) (some (((Tx.cs k.w).length+1:Nat):Int)) none) (Str.ofString "=")=decide (r=[61]):=by
  rw[eqs_is,Tx.stw_one,f1,decide_eq_decide]
  rcases hr with rfl|⟨rfl,_⟩
  ·refine⟨fun z=>?_,fun z=>by cases z⟩
   rw[ycy]at z;have:=Tx.dg_all k.n 61 (List.mem_of_mem_head? (by rw[z];exact rfl))
   omega
  ·exact⟨fun _=>rfl,fun _=>rfl⟩
 have rdn:zci [.str (Tx.dg k.n)]=some (.ok (.int (k.n:Int))):=by
  rw[rd_ok (Tx.dg_num h.hn),Tx.dg_val]
 have ln1:((T.int ((Tx.cs k.w).length:Int)::ps).length:Int)=((ps.length+1:Nat):Int):=rfl
 rcases hr with rfl|⟨rfl,hne⟩
 ·have st0:decide (([]:List Nat)=[61])=false:=by decide
  rw[st0]at st
  have m1:Txt.slice (lkS k) (some ((Tx.cs k.w).length:Int)) (some (((Tx.cs k.w).length+1:Nat):Int))=k.o:=Tx.cs_ext (by
   rw[Tx.sl_mid (Nat.le_add_right _ 1) wl1,ex,ycz rfl,eo,ydd]
   rfl)
  have f2:Txt.slice (lkS k) (some (((Tx.cs k.w).length+1:Nat):Int)) none=Tx.dg k.n:=Tx.cs_ext (by rw[f1];rfl)
  rw[f2]at st;unfold zcs zfc;refine(show zdl 1 4 _ _=_ from ?_);cases hd:decide (c=61)
  ·rw[hd]at nec
   simp_arith[iEnX,lc',le,hpsl,zd4,nb,a0,aw,hxl,nec,mStw,zme,i1,f2,st,t1,m1,rdn]
   rfl
  ·rw[hd]at nec
   simp_arith[iEnX,lc',le,hpsl,zd4,nb,a0,aw,hxl,nec,mStw,zme,i1,f2,st,t1,m1,rdn]
   rfl
 ·have st1:decide (([61]:List Nat)=[61])=true:=by decide
  rw[st1]at st;rw[decide_eq_false hne]at nec;have wl2:(Tx.cs k.w).length+2<=(Tx.cs (lkS k)).length:=by rw[ex,ya5,ya8,ya5];show _<=_+(1+_+1);omega
  have i2:(((Tx.cs k.w).length+1:Nat):Int)+1=(((Tx.cs k.w).length+2:Nat):Int):=rfl
  have m1:Txt.slice (lkS k) (some ((Tx.cs k.w).length:Int)) (some (((Tx.cs k.w).length+2:Nat):Int))=k.o:=Tx.cs_ext (by
   rw[Tx.sl_mid (Nat.le_add_right _ _) wl2,ex,ycz rfl,eo,ydd]
   rfl)
  have f2:Txt.slice (lkS k) (some (((Tx.cs k.w).length+2:Nat):Int)) none=Tx.dg k.n:=Tx.cs_ext (by
   rw[Tx.sl_from wl2,ex,<- List.drop_drop,ycz rfl]
   rfl)
  unfold zcs zfc
  simp_arith[iEnX,lc',le,hpsl,zd4,nb,a0,aw,hxl,nec,mStw,zme,i1,st,sAug,i2,f2,t1,m1,rdn]
  rfl
abbrev zg2:Stmt:=top 42
theorem sc_read_looks:FnScope ["words"] ["words"] (za2 zg2):=⟨rfl,rfl,rfl,by decide +kernel,rfl,by decide +kernel,by decide +kernel⟩
def zen:PSt->Option Rs :=
 (zan zcs (za0 (za5 0) za4))
def zga:PSt->Option Out :=
 (zcn (mLC 1 [] (zfj (za5 0)) (bNm 0) (mC (.bl true)) zen))
def ze6:List T->Option Ru:=zdl 1 1 zga
abbrev zik:Fn:=⟨4,["words"],ze6⟩
abbrev gx_read_looks:Gx:=⟨[],[],[],[],false,true,true,none,[],[],[],true,[],[],[],[]⟩
abbrev gm_read_looks:Gm:=⟨["words"],(za2 zg2).names,[],3,[("read_look",zgo)],[],[],[],[],false,[],[],[],gx_read_looks⟩
theorem ck_read_looks:dSs 200 gm_read_looks (zaa zg2)=some zga:=by kernel_rfl
theorem rlks_ok{L:List Lk}(h:∀k∈L,LkOk k)(hl:L.length<=63):ze6 [.lst (L.map fun k=>T.str (lkS k))]=some (.ok (.own (L.map lkT))):=by
 have lc:=zbh (b:=bNm 0) (me:=zen) (fun k=>T.str (lkS k)) lkT (fun τ=>∃a,τ=[a]) L [none] ⟨none,rfl⟩ fun k hk τ hI=>by
  obtain⟨a,rfl⟩:=hI;exact⟨[some (.str (lkS k))],rfl,by unfold zen;simp_arith[rlk_ok (h k hk)],_,rfl⟩
 have ll:(L.map fun k=>T.str (lkS k)).length<=lim:=by rw[ya0];unfold lim;omega
 have e1:shL (L.map fun k=>T.str (lkS k))=true:=zde (fun _=>rfl) L
 unfold ze6 zga
 simp_arith[e1,za1 _ e1,ll,lc]
abbrev zcm:Stmt:=top 18
theorem zi9:FnScope ["sign"] ["sign"] (za2 zcm):=⟨rfl,rfl,rfl,by decide +kernel,rfl,by decide +kernel,by decide +kernel⟩
def zcp:PSt->Option Out :=
 (zcn (mChn leT leT (mC (.str "a")) (za5 0) (mC (.str "z"))))
def zbb:List T->Option Ru:=zdl 1 1 zcp
abbrev zcf:Fn:=⟨1,["sign"],zbb⟩
abbrev zih:Gx:=⟨[],[],[],[],false,true,true,none,[],[],[],true,[],[],[],[]⟩
abbrev zij:Gm:=⟨["sign"],(za2 zcm).names,[],0,[],[],[],[],[],false,[],[],[],zih⟩
theorem zio:dSs 200 zij (zaa zcm)=some zcp:=by kernel_rfl
theorem sl_ok{c:Nat}(h1:97<=c)(h2:c<=122):zbb [.str ⟨#[c]⟩]=some (.ok (.bl true)):=by
 have a1:((Str.ofString "a").cps.toList)=[97]:=by decide +kernel
 have a2:((Str.ofString "z").cps.toList)=[122]:=by decide +kernel
 have b1:@decide ((#[c]:Array Nat).toList<(Str.ofString "a").cps.toList) (Classical.propDecidable _)=false:=@decide_eq_false _ (Classical.propDecidable _) (by
  rw[a1];show ¬ ([c] < [97]);rw[List.cons_lt_cons_iff];rintro(h|⟨_,h⟩)
  ·omega
  ·exact absurd h (List.not_lt_nil _))
 have b2:@decide ((Str.ofString "z").cps.toList<(#[c]:Array Nat).toList) (Classical.propDecidable _)=false:=@decide_eq_false _ (Classical.propDecidable _) (by
  rw[a2];show ¬ ([122] < [c]);rw[List.cons_lt_cons_iff];rintro(h|⟨_,h⟩)
  ·omega
  ·exact absurd h (List.not_lt_nil _))
 unfold zbb zcp
 simp_arith[b1,b2]
abbrev zl2:Stmt:=top 19
theorem sc_is_name:FnScope ["text"] ["text"] (za2 zl2):=⟨rfl,rfl,rfl,by decide +kernel,rfl,by decide +kernel,by decide +kernel⟩
def zi1:PSt->Option Rs :=
 (zan zbb (za0 (za5 0) za4))
def zlb:PSt->Option Out :=
 (zcn (mAnd (mChn leT leT (mC (.int 1)) (mAp (g1 zk2) (za0 (za5 0) za4)) (mC (.int 8))) (mAp (g1 allT) (za0 (mLC 1 [] (zfj (za5 0)) (bNm 0) (mC (.bl true)) zi1) za4))))
def zgw:List T->Option Ru:=zdl 1 1 zlb
abbrev zjh:Fn:=⟨2,["text"],zgw⟩
abbrev gx_is_name:Gx:=⟨[],[],[],[],false,true,true,none,[],[],[],true,[],[],[],[]⟩
abbrev gm_is_name:Gm:=⟨["text"],(za2 zl2).names,[],1,[("is_small_letter",zcf)],["len","all"],[],[],[],false,[],[],[],gx_is_name⟩
theorem ck_is_name:dSs 200 gm_is_name (zaa zl2)=some zlb:=by kernel_rfl
def Sml(x:Str):Prop:=∀i,i<x.cps.size->97<=x.cps.getD i 0/\x.cps.getD i 0<=122
theorem sgn_mT(x:Str):sgnT x=mT x.cps.size fun i=>.str ⟨#[x.cps.getD i 0]⟩:=by
 refine mT_ext (by simp[sgnT]) fun i hi=>?_
 unfold sgnT;rw[yaa,ybh,yar hi];simp[Array.getD,hi]
theorem nm_ok{x:Str}(h:Sml x)(h1:1<=x.cps.size)(h8:x.cps.size<=8):zgw [.str x]=some (.ok (.bl true)):=by
 have l1:x.cps.size<=100000:=by omega
 have lc:=lc1 (n:=x.cps.size) (me:=zi1) (x:=none) (cs:=[]) (g:=fun i=>.str ⟨#[x.cps.getD i 0]⟩) (f:=fun _=>.bl true) fun i hi=>by
  unfold zi1
  simp_arith[sl_ok (h i hi).1 (h i hi).2]
 have e1:decide ((1:Int)<=(x.length:Int))=true:=decide_eq_true (by show(1:Int)<=((x.cps.size:Nat):Int);omega)
 have e2:decide ((x.length:Int)<=8)=true:=decide_eq_true (by show((x.cps.size:Nat):Int)<=8;omega)
 have ll:x.length<=lim:=by
  show x.cps.size<=lim;unfold lim
  omega
 have ba:((List.range x.cps.size).map fun _=>true).all id=true:=by simp
 unfold zgw zlb
 simp_arith[sgn_mT,lc,l1,e1,e2,ll,ziu,ba]
abbrev zdq:Stmt:=top 20
theorem zjx:FnScope ["thing"] ["thing"] (za2 zdq):=⟨rfl,rfl,rfl,by decide +kernel,rfl,by decide +kernel,by decide +kernel⟩
def zdt:PSt->Option Out :=
 (zcn (mAnd (mAp (g1 (zek "str")) (za0 (za5 0) za4)) (mOr (mAp (g2 eqT) (za0 (za5 0) (za0 (mC (.str "/")) za4))) (zan zgw (za0 (za5 0) za4)))))
def zbn:List T->Option Ru:=zdl 1 1 zdt
abbrev zdc:Fn:=⟨3,["thing"],zbn⟩
abbrev zk3:Gx:=⟨[],[],[],[],false,true,true,none,[],[],[],true,[],[],[],[]⟩
abbrev zk7:Gm:=⟨["thing"],(za2 zdq).names,[],2,[("is_name",zjh)],["isinstance","str"],[],[],[],false,[],[],[],zk3⟩
theorem zka:dSs 200 zk7 (zaa zdq)=some zdt:=by kernel_rfl
theorem sml_tx{x:Str}(h:Sml x):PyData.strOk x=true:=by
 unfold PyData.strOk;rw[Array.all_eq_true];intro i hi;have:=(h i hi).2;rw[ybr,yar hi]at this;simp only[yei]at this;rw[decide_eq_true_eq]
 omega
def Wnm(x:Str):Prop:=x=Str.ofString "/"\/(Sml x/\1<=x.cps.size/\x.cps.size<=8)
theorem slash_tx:PyData.strOk (Str.ofString "/")=true:=by decide +kernel
theorem zn6{x:Str}(h:Wnm x):PyData.strOk x=true:=by
 rcases h with rfl|h
 ·exact slash_tx
 ·exact sml_tx h.1
theorem wn_ok{x:Str}(h:Wnm x):zbn [.str x]=some (.ok (.bl true)):=by
 have e:=zgs (zn6 h) slash_tx;unfold zbn zdt
 by_cases q:x=Str.ofString "/"
 ·rw[decide_eq_true q]at e
  simp_arith[e]
 ·rw[decide_eq_false q]at e;have en:=nm_ok (h.resolve_left q).1 (h.resolve_left q).2.1 (h.resolve_left q).2.2
  simp_arith[e,en]
abbrev zeb:Stmt:=top 21
theorem zky:FnScope ["thing"] ["thing"] (za2 zeb):=⟨rfl,rfl,rfl,by decide +kernel,rfl,by decide +kernel,by decide +kernel⟩
def zc2:PSt->Option Rs :=
 (mOr (mAp (g2 eqT) (za0 (za5 0) (za0 (mC (.str "/")) za4))) (zan zbb (za0 (za5 0) za4)))
def zee:PSt->Option Out :=
 (zam (sIf (mOr (zge (mAp (g1 (zek "str")) (za0 (za5 0) za4))) (zge (mChn leT leT (mC (.int 1)) (mAp (g1 zk2) (za0 (za5 0) za4)) (mC (.int 60))))) (zcn (mC (.bl false))) sNx)
 (zcn (mAp (g1 allT) (za0 (mLC 1 [] (zfj (za5 0)) (bNm 0) (mC (.bl true)) zc2) za4))))
def zd0:List T->Option Ru:=zdl 1 1 zee
abbrev zgp:Fn:=⟨2,["thing"],zd0⟩
abbrev zlp:Gx:=⟨[],[],[],[],false,true,true,none,[],[],[],true,[],[],[],[]⟩
abbrev zlu:Gm:=⟨["thing"],(za2 zeb).names,[],1,[("is_small_letter",zcf)],["isinstance","str","len","all"],[],[],[],false,[],[],[],zlp⟩
theorem zm6:dSs 200 zlu (zaa zeb)=some zee:=by kernel_rfl
def Rmn(x:Str):Prop:=∀i,i<x.cps.size->x.cps.getD i 0=47\/(97<=x.cps.getD i 0/\x.cps.getD i 0<=122)
theorem rmn_tx{x:Str}(h:Rmn x):PyData.strOk x=true:=by
 unfold PyData.strOk;rw[Array.all_eq_true];intro i hi;have:=h i hi;rw[ybr,yar hi]at this;simp only[yei]at this;rw[decide_eq_true_eq]
 omega
theorem rn_ok{x:Str}(h:Rmn x)(h1:1<=x.cps.size)(h8:x.cps.size<=60):zd0 [.str x]=some (.ok (.bl true)):=by
 have l1:x.cps.size<=100000:=by omega
 have lc:=lc1 (n:=x.cps.size) (me:=zc2) (x:=none) (cs:=[]) (g:=fun i=>.str ⟨#[x.cps.getD i 0]⟩) (f:=fun _=>.bl true) fun i hi=>by
  have o1:PyData.strOk (Str.mk #[x.cps.getD i 0])=true:=rmn_tx fun j hj=>by
   have hj':j<1:=hj;have e:j=0:=by omega
   subst e;exact h i hi
  have e:=zgs o1 slash_tx
  by_cases q:x.cps.getD i 0=47
  ·have n:Str.mk #[x.cps.getD i 0]=Str.ofString "/":=by
    rw[q];exact Tx.cs_ext (by decide +kernel)
   rw[decide_eq_true n]at e;unfold zc2
   simp_arith[e]
  ·have n:¬ (Str.mk #[x.cps.getD i 0]=Str.ofString "/"):=fun q1=>by
    have e1:(Str.ofString "/").cps=#[47]:=by decide +kernel
    have q1:#[x.cps.getD i 0]=(Str.ofString "/").cps:=congrArg Str.cps q1;rw[e1]at q1;exact q (by simpa using q1)
   rw[decide_eq_false n]at e;have hh:=(h i hi).resolve_left q;unfold zc2
   simp_arith[e,sl_ok hh.1 hh.2]
 have e1:decide ((1:Int)<=(x.length:Int))=true:=decide_eq_true (by show(1:Int)<=((x.cps.size:Nat):Int);omega)
 have e2:decide ((x.length:Int)<=60)=true:=decide_eq_true (by show((x.cps.size:Nat):Int)<=60;omega)
 have ll:x.length<=100000:=l1;have ba:((List.range x.cps.size).map fun _=>true).all id=true:=by simp
 unfold zd0 zee
 simp_arith[sgn_mT,lc,l1,e1,e2,ll,ziu,ba]
abbrev zj2:Stmt:=top 7
theorem sc_is_whole:FnScope ["thing"] ["thing"] (za2 zj2):=⟨rfl,rfl,rfl,by decide +kernel,rfl,by decide +kernel,by decide +kernel⟩
def zj9:PSt->Option Out :=
 (zcn (mAnd (mAp (g1 (zek "int")) (za0 (za5 0) za4)) (zge (mAp (g1 (zek "bool")) (za0 (za5 0) za4)))))
def zhb:List T->Option Ru:=zdl 1 1 zj9
abbrev zlx:Fn:=⟨1,["thing"],zhb⟩
abbrev gx_is_whole:Gx:=⟨[],[],[],[],false,true,true,none,[],[],[],true,[],[],[],[]⟩
abbrev gm_is_whole:Gm:=⟨["thing"],(za2 zj2).names,[],0,[],["isinstance","int","bool"],[],[],[],false,[],[],[],gx_is_whole⟩
theorem ck_is_whole:dSs 200 gm_is_whole (zaa zj2)=some zj9:=by kernel_rfl
theorem whole_int(i:Int):zhb [.int i]=some (.ok (.bl true)):=by simp_arith[zhb,zj9]
abbrev zhr:Stmt:=top 12
theorem sc_is_number:FnScope ["thing"] ["thing"] (za2 zhr):=⟨rfl,rfl,rfl,by decide +kernel,rfl,by decide +kernel,by decide +kernel⟩
def zhu:PSt->Option Out :=
 (zcn (mAnd (zan zhb (za0 (za5 0) za4)) (mAp (g2 (cmpT fun i j=>decide (j<=i))) (za0 (za5 0) (za0 (mC (.int 0)) za4)))))
def zfp:List T->Option Ru:=zdl 1 1 zhu
abbrev zjt:Fn:=⟨2,["thing"],zfp⟩
abbrev gx_is_number:Gx:=⟨[],[],[],[],false,true,true,none,[],[],[],true,[],[],[],[]⟩
abbrev gm_is_number:Gm:=⟨["thing"],(za2 zhr).names,[],1,[("is_whole",zlx)],[],[],[],[],false,[],[],[],gx_is_number⟩
theorem ck_is_number:dSs 200 gm_is_number (zaa zhr)=some zhu:=by kernel_rfl
theorem num_int(i:Int):zfp [.int i]=some (.ok (.bl (decide (0<=i)))):=by
 unfold zfp zhu
 simp_arith[whole_int]
abbrev zl3:Stmt:=top 11
theorem sc_is_look:FnScope ["thing","watches","words"] ["thing","watches","words"] (za2 zl3):=⟨rfl,rfl,rfl,by decide +kernel,rfl,by decide +kernel,by decide +kernel⟩
def zlc:PSt->Option Out :=
 (zam (sIf (mOr (zge (mAp (g1 (zek "tuple")) (za0 (za5 0) za4))) (mAp (g2 neT) (za0 (mAp (g1 zk2) (za0 (za5 0) za4)) (za0 (mC (.int 3)) za4)))) (zcn (mC (.bl false))) sNx)
 (zcn (mAnd (mAp (g2 inT) (za0 (mIx (za5 0) (mC (.int 0))) (za0 (za5 1) za4))) (mAnd (mAp (g2 inT) (za0 (mIx (za5 0) (mC (.int 1))) (za0 (za5 2) za4))) (zan zfp (za0 (mIx (za5 0) (mC (.int 2))) za4))))))
def ziw:List T->Option Ru:=zdl 3 3 zlc
abbrev znl:Fn:=⟨3,["thing","watches","words"],ziw⟩
abbrev gx_is_look:Gx:=⟨[],[],[],[],false,true,true,none,[],[],[],true,[],[],[],[]⟩
abbrev gm_is_look:Gm:=⟨["thing","watches","words"],(za2 zl3).names,[],2,[("is_number",zjt)],["isinstance","tuple","len"],[],[],[],false,[],[],[],gx_is_look⟩
theorem ck_is_look:dSs 200 gm_is_look (zaa zl3)=some zlc:=by kernel_rfl
def wdS:List Str:=["<","<=",">",">=","="]
theorem wd_tx:Txs wdS:=by unfold Txs;decide +kernel
abbrev zj3:Stmt:=top 13
theorem sc_is_guard:FnScope ["thing","watches","words"] ["thing","watches","words"] (za2 zj3):=⟨rfl,rfl,rfl,by decide +kernel,rfl,by decide +kernel,by decide +kernel⟩
def zgv:PSt->Option Rs :=
 (zan ziw (za0 (za5 0) (za0 (za5 1) (za0 (za5 2) za4))))
def zja:PSt->Option Out :=
 (zcn (mAnd (mAp (g1 (zek "list")) (za0 (za5 0) za4)) (mAp (g1 allT) (za0 (mLC 1 [1,2] (zfj (za5 0)) (bNm 0) (mC (.bl true)) zgv) za4))))
def zey:List T->Option Ru:=zdl 3 3 zja
abbrev zhz:Fn:=⟨4,["thing","watches","words"],zey⟩
abbrev gx_is_guard:Gx:=⟨[],[],[],[],false,true,true,none,[],[],[],true,[],[],[],[]⟩
abbrev gm_is_guard:Gm:=⟨["thing","watches","words"],(za2 zj3).names,["watches","words"],3,[("is_look",znl)],["isinstance","list","all"],[],[],[],false,[],[],[],gx_is_guard⟩
theorem ck_is_guard:dSs 200 gm_is_guard (zaa zj3)=some zja:=by kernel_rfl
abbrev zg5:Stmt:=top 27
theorem sc_are_unlike:FnScope ["texts"] ["texts"] (za2 zg5):=⟨rfl,rfl,rfl,by decide +kernel,rfl,by decide +kernel,by decide +kernel⟩
def zgd:PSt->Option Out :=
 (zcn (mAp (g2 eqT) (za0 (mAp (g1 unqT) (za0 (za5 0) za4)) (za0 (mAp (g1 zk2) (za0 (za5 0) za4)) za4))))
def zc8:List T->Option Ru:=zdl 1 1 zgd
abbrev zdf:Fn:=⟨1,["texts"],zc8⟩
abbrev gx_are_unlike:Gx:=⟨[],[],[],[],false,true,true,none,[],[],[],true,[],[],[],[]⟩
abbrev gm_are_unlike:Gm:=⟨["texts"],(za2 zg5).names,[],0,[],["len","set"],[],[],[],false,[],[],[],gx_are_unlike⟩
theorem ck_are_unlike:dSs 200 gm_are_unlike (zaa zg5)=some zgd:=by kernel_rfl
theorem met_un{val:Nat->L2.Key}{n:Nat}(h:∀i j,i<n->j<n->val i=val j->i=j):∀k,k<=n->(met val k).length=k/\∀x∈met val k,∃i,i<k/\x=val i
 |0,_=>⟨rfl,fun x hx=>by cases hx⟩
 |k+1,hk=>by
  obtain⟨h1,h2⟩:=met_un h k (by omega)
  have hn:val k∉met val k:=fun z=>by
   obtain⟨i,hi,e⟩:=h2 _ z;have:=h k i (by omega) (by omega) e
   omega
  have e:met val (k+1)=met val k++[val k]:=by
   conv=>lhs;unfold met
   rw[if_neg hn]
  rw[e];refine⟨by rw[ya5,ybn,h1],fun x hx=>?_⟩
  rcases yai.mp hx with q|q
  ·obtain⟨i,hi,e⟩:=h2 x q;exact⟨i,by omega,e⟩
  ·exact⟨k,by omega,ya6.mp q⟩
theorem unq_un{ys:List Str}(h:ys.Nodup):unqN ys=ys.length:=by
 unfold unqN;refine(met_un (n:=ys.length) (fun i j hi hj e=>?_) ys.length (yad _)).1
 have e':=Sum.inr.inj e;rw[yan,yan,ya1 hi,ya1 hj]at e';exact(ydk h).mp e'
theorem zkt{ys:List Str}(h:ys.Nodup)(hl:ys.length<1000):zc8 [.lst (ys.map T.str)]=some (.ok (.bl true)):=by
 have e:((ys.length:Int) == (ys.length:Int))=true:=beq_self_eq_true _;unfold zc8 zgd
 simp_arith[unqT,za3,zeo,hl,unq_un h,zd4,e,ya0]
abbrev zdr:Stmt:=top 26
theorem zjy:FnScope ["watches"] ["watches"] (za2 zdr):=⟨rfl,rfl,rfl,by decide +kernel,rfl,by decide +kernel,by decide +kernel⟩
def zcr:PSt->Option Rs :=
 (zan zbn (za0 (za5 0) za4))
def zdu:PSt->Option Out :=
 (zam (sIf (mOr (zge (mAp (g1 (zek "list")) (za0 (za5 0) za4))) (mAp (g2 (cmpT fun i j=>decide (j<i))) (za0 (mAp (g1 zk2) (za0 (za5 0) za4)) (za0 (mC zej) za4)))) (zk1 "BadMachine" (za0 (mC (.str "a machine's watches are a list of at most seven")) za4)) sNx)
 (sIf (mOr (zge (mAp (g1 allT) (za0 (mLC 1 [] (zfj (za5 0)) (bNm 0) (mC (.bl true)) zcr) za4))) (zge (zan zc8 (za0 (za5 0) za4)))) (zk1 "BadMachine" (za0 (mC (.str "a machine's watches are unlike names")) za4)) sNx))
def zcj:List T->Option Ru:=zdl 1 1 zdu
abbrev zfv:Fn:=⟨4,["watches"],zcj⟩
abbrev zk4:Gx:=⟨[("MOST_WATCHES",zej)],[],[],[],false,true,true,none,[],[],[],true,[],[],[],[]⟩
abbrev zk8:Gm:=⟨["watches"],(za2 zdr).names,[],3,[("is_watch_name",zdc),("are_unlike",zdf)],["isinstance","list","len","all"],["BadMachine"],[],[],false,[],[],[],zk4⟩
theorem zkb:dSs 200 zk8 (zaa zdr)=some zdu:=by kernel_rfl
theorem strs_mT(ws:List Str):ws.map T.str=mT ws.length fun i=>.str (ws.getD i Str.empty):=mT_ext (by rw[ya0]) fun i hi=>by
 rw[yaa,yan,ya1 hi]
 rfl
theorem cw_ok{ws:List Str}(h:∀x∈ws,Wnm x)(hd:ws.Nodup)(hl:ws.length<=7):zcj [.lst (ws.map T.str)]=some (.ok .non):=by
 have lc:=lc1 (n:=ws.length) (me:=zcr) (x:=none) (cs:=[]) (g:=fun i=>.str (ws.getD i Str.empty)) (f:=fun _=>.bl true) fun i hi=>by
  have hm:ws.getD i Str.empty∈ws:=by
   rw[yan,ya1 hi];exact ybf hi
  unfold zcr
  simp_arith[wn_ok (h _ hm)]
 rw[<- strs_mT]at lc;have l1:ws.length<=100000:=by omega
 have e1:decide ((7:Int)<(ws.length:Int))=false:=decide_eq_false (by omega)
 have ba:((List.range ws.length).map fun _=>true).all id=true:=by simp
 have un:=zkt hd (by omega)
 unfold zcj zdu zej
 simp_arith[za3,za8,ya0,lc,l1,e1,ziu,ba,un]
abbrev zf3:Stmt:=top 28
theorem zmh:FnScope ["rooms","watches","room"] ["rooms","watches"] (za2 zf3):=⟨rfl,rfl,rfl,by decide +kernel,rfl,by decide +kernel,by decide +kernel⟩
def zdm:PSt->Option Out :=
 (zam (sIf (mOr (zge (mAp (g1 (zek "tuple")) (za0 (za5 2) za4))) (mAp (g2 neT) (za0 (mAp (g1 zk2) (za0 (za5 2) za4)) (za0 (mC (.int 2)) za4)))) (zk1 "BadMachine" (za0 (mC (.str "a room is a tuple of a name and a stay")) za4)) sNx)
 (sIf (mOr (zge (zan zd0 (za0 (mIx (za5 2) (mC (.int 0))) za4))) (zge (zan zey (za0 (mIx (za5 2) (mC (.int 1))) (za0 (za5 1) (za0 (mC zgf) za4)))))) (zk1 "BadMachine" (za0 (mC (.str "a room has a name, and a stay of the machine's watches")) za4)) sNx))
def zdy:PSt->Option Rs :=
 (mIx (za5 0) (mC (.int 0)))
def zfe:PSt->Option Out :=
 (zam (sIf (mOr (zge (mAp (g1 (zek "list")) (za0 (za5 0) za4))) (mAp (g2 eqT) (za0 (mAp (g1 zk2) (za0 (za5 0) za4)) (za0 (mC (.int 0)) za4)))) (zk1 "BadMachine" (za0 (mC (.str "a machine's rooms are a list of one or more")) za4)) sNx)
 (zam (sFor (zfj (za5 0)) (bNm 2) zdm)
 (sIf (zge (zan zc8 (za0 (mLC 1 [] (zfj (za5 0)) (bNm 0) (mC (.bl true)) zdy) za4))) (zk1 "BadMachine" (za0 (mC (.str "no two rooms have one name")) za4)) sNx)))
def zdi:List T->Option Ru:=zdl 2 3 zfe
abbrev zhh:Fn:=⟨5,["rooms","watches"],zdi⟩
abbrev zmp:Gx:=⟨[("STAY_WORDS",zgf)],[],[],[],false,true,true,none,[],[],[],true,[],[],[],[]⟩
abbrev zmv:Gm:=⟨["rooms","watches","room"],(za2 zf3).names,[],4,[("is_room_name",zgp),("is_guard",zhz),("are_unlike",zdf)],["isinstance","list","len","tuple"],["BadMachine"],[],[],false,[],[],[],zmp⟩
theorem zn1:dSs 200 zmv (zaa zf3)=some zfe:=by kernel_rfl
def Lks(ws wd:List Str)(l:List T):Prop:=∀t∈l,∃x y n,t=.tup [.str x,.str y,.int n]/\x∈ws/\y∈wd/\0<=n
theorem Lks.sh{ws wd:List Str}{l:List T}(h:Lks ws wd l):shL l=true:=by
 rw[zaw,yav];intro t ht;obtain⟨x,y,n,rfl,_⟩:=h t ht
 rfl
theorem Lks.more{ws vs wd:List Str}{l:List T}(h:Lks ws wd l)(hs:∀x∈ws,x∈vs):Lks vs wd l:=fun t ht=>by
 obtain⟨x,y,n,e,h1,h2,h3⟩:=h t ht;exact⟨x,y,n,e,hs x h1,h2,h3⟩
abbrev kwT(wd:List Str):T:=.nd false .rt (wd.map T.str)
theorem look_lk{ws wd:List Str}(h:Txs ws)(hd:Txs wd){t:T}(ht:∃x y n,t=.tup [.str x,.str y,.int n]/\x∈ws/\y∈wd/\0<=n):ziw [t,.lst (ws.map T.str),kwT wd]=some (.ok (.bl true)):=by
 obtain⟨x,y,n,rfl,h1,h2,h3⟩:=ht;have e1:=zlm (o:=false) (k:=.lst) h (h x h1);have e2:=zlm (o:=false) (k:=.rt) hd (hd y h2);have e3:=num_int n;rw[decide_eq_true h1]at e1;rw[decide_eq_true h2]at e2;rw[decide_eq_true h3]at e3;unfold ziw zlc
 simp_arith[ne_int,za3,za8,e1,e2,e3]
theorem guard_lk{ws wd:List Str}(h:Txs ws)(hd:Txs wd){l:List T}(hl:l.length<=1000)(hk:Lks ws wd l):zey [.lst l,.lst (ws.map T.str),kwT wd]=some (.ok (.bl true)):=by
 have hs:=hk.sh;have es:=za1 l hs;have em:=mT_of l .non
 have sg:∀i,(l.getD i .non).sh=true:=fun i=>by
  by_cases hi:i<l.length
  ·rw[yan,ya1 hi];rw[zaw,yav]at hs;exact hs _ (ybf hi)
  ·rw[yan,ybg (by omega)]
   rfl
 have lc:=lc1 (n:=l.length) (me:=zgv) (x:=none) (cs:=[some (.lst (ws.map T.str)),some (kwT wd)]) (g:=fun i=>l.getD i .non) (f:=fun _=>.bl true) fun i hi=>by
  have hm:l.getD i .non∈l:=by
   rw[yan,ya1 hi];exact ybf hi
  have e:=look_lk h hd (hk _ hm);unfold zgv
  simp_arith[za3,za8,e,zbc _ (sg i),sg i]
 rw[<- em]at lc;have l1:l.length<=100000:=by omega
 have ba:((List.range l.length).map fun _=>true).all id=true:=by simp
 unfold zey zja
 simp_arith[za3,za8,hs,es,l1,lc,ziu,ba]
def stS:List Str:=["<","<="]
theorem k_stay:zgf=kwT stS:=rfl
theorem k_wds:k_WORDS=kwT wdS:=rfl
theorem st_tx:Txs stS:=by unfold Txs;decide +kernel
structure RsOk(ws:List Str)(rs:List (Str×List T)):Prop where
 l1:1<=rs.length
 l64:rs.length<=64
 nm:∀r∈rs,Rmn r.1/\1<=r.1.cps.size/\r.1.cps.size<=60
 nd:(rs.map (·.1)).Nodup
 lk:∀r∈rs,Lks ws stS r.2/\r.2.length<=1000
abbrev romT(r:Str×List T):T:=.tup [.str r.1,.lst r.2]
abbrev rmsT(rs:List (Str×List T)):T:=.lst (rs.map romT)
theorem rom_sh{ws:List Str}{rs:List (Str×List T)}(h:RsOk ws rs):shL (rs.map romT)=true:=by
 rw[zaw,yav];intro t ht;obtain⟨r,hr,rfl⟩:=yaf.mp ht;have:=(h.lk r hr).1.sh;show((!false) && (true && (((!false) && shL r.2) && true)))=true;rw[this]
 rfl
theorem cr_ok71{ws:List Str}(hw:Txs ws){rs:List (Str×List T)}(h:RsOk ws rs):zdi [rmsT rs,.lst (ws.map T.str)]=some (.ok .non):=by
 have sr:=rom_sh h;have er:=za1 _ sr;have hl1:=h.l1;have hl2:=h.l64;have en:(((rs.map romT).length:Int) == 0)=false:=by rw[beq_eq_false_iff_ne,ya0];omega
 obtain⟨τ,e,y,rfl⟩:=zb3 (b:=bNm 2) (body:=zdm) (ts:=rs.map romT) (τ:=[some (rmsT rs),some (.lst (ws.map T.str)),none]) (fun i τ=>∃y,τ=[some (rmsT rs),some (.lst (ws.map T.str)),y]) ⟨_,rfl⟩ fun i t τ h1 h2=>by
  obtain⟨y,rfl⟩:=h2;obtain⟨r,hr,rfl⟩:=yaf.mp (yb6 h1);obtain⟨n1,n2,n3⟩:=h.nm r hr;obtain⟨k1,k2⟩:=h.lk r hr;have e1:=rn_ok n1 n2 n3;have e2:=guard_lk hw st_tx k2 k1;have e3:=k1.sh;refine⟨[some (rmsT rs),some (.lst (ws.map T.str)),some (romT r)],by simp_arith[],[some (rmsT rs),some (.lst (ws.map T.str)),some (romT r)],?_,_,rfl⟩
  unfold zdm
  simp_arith[k_stay,ne_int,za3,za8,e1,e2,e3,za1 _ e3]
 have lc:=zkl (b:=bNm 0) (me:=zdy) (ts:=rs.map romT) (τ:=[none]) (fun _ τ=>∃y,τ=[y]) (fun i=>.str ((rs.map (·.1)).getD i Str.empty)) ⟨none,rfl⟩ fun i t τ h1 h2=>by
  obtain⟨y,rfl⟩:=h2;have hi:i<rs.length:=by simpa using (ya4.mp h1).1
  rw[yaa,ya1 hi]at h1;have et:t=romT rs[i]:=(yb1 h1).symm;subst et;have k1:=(h.lk rs[i] (ybf hi)).1.sh;have eg:(rs.map (·.1)).getD i Str.empty=rs[i].1:=by simp[hi]
  refine⟨[some (romT rs[i])],by simp_arith[],?_,_,rfl⟩
  rw[eg];unfold zdy
  simp_arith[k1]
 have em:(List.range (rs.map romT).length).map (fun i=>T.str ((rs.map (·.1)).getD i Str.empty))=(rs.map (·.1)).map T.str:=by
  rw[strs_mT (rs.map (·.1)),ya0,ya0]
  rfl
 rw[em]at lc;have un:=zkt h.nd (by rw[ya0];omega)
 have ll:(rs.map romT).length<=100000:=by rw[ya0];omega
 unfold zdi zfe
 simp_arith[zd4,za3,za8,sr,er,en,e,lc,un,ll]
abbrev zf5:Stmt:=top 30
theorem zmj:FnScope ["thing","watches"] ["thing","watches"] (za2 zf5):=⟨rfl,rfl,rfl,by decide +kernel,rfl,by decide +kernel,by decide +kernel⟩
def ze0:PSt->Option Rs :=
 (zan zbn (za0 (za5 0) za4))
def zdz:PSt->Option Rs :=
 (mAp (g2 inT) (za0 (za5 0) (za0 (za5 1) za4)))
def zfg:PSt->Option Out :=
 (zam (sIf (mOr (zge (mAp (g1 (zek "list")) (za0 (za5 0) za4))) (zge (mAp (g1 allT) (za0 (mLC 1 [] (zfj (za5 0)) (bNm 0) (mC (.bl true)) ze0) za4)))) (zcn (mC (.bl false))) sNx)
 (zcn (mAnd (zan zc8 (za0 (za5 0) za4)) (mAp (g1 allT) (za0 (mLC 1 [1] (zfj (za5 0)) (bNm 0) (mC (.bl true)) zdz) za4)))))
def zdk:List T->Option Ru:=zdl 2 2 zfg
abbrev zhj:Fn:=⟨4,["thing","watches"],zdk⟩
abbrev zmr:Gx:=⟨[],[],[],[],false,true,true,none,[],[],[],true,[],[],[],[]⟩
abbrev zmx:Gm:=⟨["thing","watches"],(za2 zf5).names,["watches"],3,[("is_watch_name",zdc),("are_unlike",zdf)],["isinstance","list","all"],[],[],[],false,[],[],[],zmr⟩
theorem zn3:dSs 200 zmx (zaa zf5)=some zfg:=by kernel_rfl
theorem nou_ok{ws ns:List Str}(hw:∀x∈ws,Wnm x)(hn:∀x∈ns,x∈ws)(hd:ns.Nodup)(hl:ns.length<=100):zdk [.lst (ns.map T.str),.lst (ws.map T.str)]=some (.ok (.bl true)):=by
 have tw:Txs ws:=fun x hx=>zn6 (hw x hx)
 have mem:∀i,i<ns.length->ns.getD i Str.empty∈ns:=fun i hi=>by
  rw[yan,ya1 hi];exact ybf hi
 have lc:=lc1 (n:=ns.length) (me:=ze0) (x:=none) (cs:=[]) (g:=fun i=>.str (ns.getD i Str.empty)) (f:=fun _=>.bl true) fun i hi=>by
  unfold ze0
  simp_arith[wn_ok (hw _ (hn _ (mem i hi)))]
 have lc2:=lc1 (n:=ns.length) (me:=zdz) (x:=none) (cs:=[some (.lst (ws.map T.str))]) (g:=fun i=>.str (ns.getD i Str.empty)) (f:=fun _=>.bl true) fun i hi=>by
  have e:=zlm (o:=false) (k:=.lst) tw (tw _ (hn _ (mem i hi)));rw[decide_eq_true (hn _ (mem i hi))]at e;unfold zdz
  simp_arith[za3,za8,e]
 rw[<- strs_mT]at lc lc2;have l1:ns.length<=100000:=by omega
 have ba:((List.range ns.length).map fun _=>true).all id=true:=by simp
 have un:=zkt hd (by omega)
 unfold zdk zfg
 simp_arith[za3,za8,ya0,lc,lc2,l1,ziu,ba,un]
abbrev zl1:Stmt:=top 22
theorem sc_is_sign:FnScope ["thing"] ["thing"] (za2 zl1):=⟨rfl,rfl,rfl,by decide +kernel,rfl,by decide +kernel,by decide +kernel⟩
def zic:PSt->Option Out :=
 (zam (sIf (zge (mAp (g1 (zek "str")) (za0 (za5 0) za4))) (zcn (mC (.bl false))) sNx)
 (zcn (mOr (mAp (g2 eqT) (za0 (za5 0) (za0 (mC (.str "")) za4))) (mAnd (mAp (g2 inT) (za0 (mIx (za5 0) (mAp (g1 negT) (za0 (mC (.int 1)) za4))) (za0 (mTup (za0 (mC (.str "!")) (za0 (mC (.str "?")) za4))) za4))) (zan zgw (za0 (zjd (mSl (za5 0) none (some (mAp (g1 negT) (za0 (mC (.int 1)) za4)))) (zme (za5 0) none (some (mAp (g1 negT) (za0 (mC (.int 1)) za4))))) za4))))))
def zex:List T->Option Ru:=zdl 1 1 zic
abbrev znk:Fn:=⟨3,["thing"],zex⟩
abbrev gx_is_sign:Gx:=⟨[],[],[],[],false,true,true,none,[],[],[],true,[],[],[],[]⟩
abbrev gm_is_sign:Gm:=⟨["thing"],(za2 zl1).names,[],2,[("is_name",zjh)],["isinstance","str"],[],[],[],false,[],[],[],gx_is_sign⟩
theorem ck_is_sign:dSs 200 gm_is_sign (zaa zl1)=some zic:=by kernel_rfl
def Sgn(z:Str):Prop:=z=Str.ofString ""\/∃(y:Str) (c:Nat),Sml y/\1<=y.cps.size/\y.cps.size<=8/\(c=33\/c=63)/\Tx.cs z=Tx.cs y++[c]
theorem zn9{y:Str}(h:Sml y):∀c∈Tx.cs y,97<=c/\c<=122:=fun c hc=>by
 obtain⟨i,hi⟩:=List.getElem?_of_mem hc;have hl:i<y.cps.size:=by simpa using (ya4.mp hi).1
 have:=h i hl;rw[ybh,yar hl]at hi;rw[ybr,yar hl]at this;cases hi;exact this
theorem sgn_asc{z:Str}(h:Sgn z):∀c∈Tx.cs z,c<128/\c≠32/\c≠10/\c≠58:=fun c hc=>by
 rcases h with rfl|⟨y,d,h1,_,_,hd,e⟩
 ·rw[show Tx.cs (Str.ofString "")=[] by decide +kernel]at hc
  cases hc
 ·rw[e]at hc
  rcases yai.mp hc with hc|hc
  ·have:=zn9 h1 c hc
   omega
  ·rw[ya6.mp hc]
   omega
theorem sgn_tx{z:Str}(h:Sgn z):PyData.strOk z=true:=znm fun c hc=>(sgn_asc h c hc).1
theorem sgn_ok{z:Str}(h:Sgn z):zex [.str z]=some (.ok (.bl true)):=by
 have o0:PyData.strOk (Str.ofString "")=true:=by decide +kernel
 have tl:∀c,(c=33\/c=63)->inT (.str (Str.mk #[c])) (.tup [.str (Str.ofString "!"),.str (Str.ofString "?")])=some (.bl true):=fun c hc=>by
  rcases hc with rfl|rfl<;>kernel_rfl
 have key:∀z y:Str,PyData.strOk z=true->z≠Str.ofString ""->z.length<=100000->∀c,(c=33\/c=63)->atI z.cps.toList (-1)=some c->Txt.slice z none (some (-1))=y->Sml y->1<=y.cps.size->y.cps.size<=8->zex [.str z]=some (.ok (.bl true)):=by
  intro z y hz hne hl c hc ha hs h1 h2 h3;have e:=zgs hz o0;rw[decide_eq_false hne]at e;have en:=nm_ok h1 h2 h3;unfold zex zic
  simp_arith[e,hl,ha,tl c hc,zme,hs,en,show(-(1:Int))=-1 from rfl]
 rcases id h with rfl|⟨y,c,h1,h2,h3,hc,e⟩
 ·have e:=zgs o0 o0;rw[decide_eq_true rfl]at e;unfold zex zic
  simp_arith[e]
 ·have hl:(Tx.cs z).length=(Tx.cs y).length+1:=by rw[e,ya5];rfl
  have h3':(Tx.cs y).length<=8:=h3;refine key z y (sgn_tx h) (fun q=>?_) (by rw[Tx.cs_len];omega) c hc ?_ ?_ h1 h2 h3
  ·rw[q,show Tx.cs (Str.ofString "")=[] by decide +kernel]at hl
   exact absurd hl (by rw[ybd];omega)
  ·show atI (Tx.cs z) (-1)=some c;rw[e];unfold atI ixN;rw[ya5,ybn,if_neg (by decide),if_pos (by omega)]
   show(Tx.cs y++[c])[((-1:Int)+(((Tx.cs y).length+1:Nat):Int)).toNat]?=some c;rw[show((-1:Int)+(((Tx.cs y).length+1:Nat):Int)).toNat=(Tx.cs y).length by omega,yaw (yad _),Nat.sub_self]
   rfl
  ·have e2:Txt.slice z none (some (-1))=StrLaws.sliceText z none (some (-1)):=rfl;rw[e2,StrLaws.sliceText_neg_hi z none (by decide) (by rw[Tx.cs_len,hl];omega)]
   have e3:((-1:Int)+(z.length:Int))=(((Tx.cs y).length:Nat):Int):=by rw[Tx.cs_len,hl];omega
   rw[e3];refine Tx.cs_ext ?_;show Tx.cs (Txt.slice z none (some (((Tx.cs y).length:Nat):Int)))=Tx.cs y;rw[Tx.sl_to (by omega),e,List.take_left' rfl]
abbrev zj1:Stmt:=top 23
theorem sc_own_copy:FnScope ["thing"] ["thing"] (za2 zj1):=⟨rfl,rfl,rfl,by decide +kernel,rfl,by decide +kernel,by decide +kernel⟩
def zj8:PSt->Option Out :=
 (zcn (mIf (mAp (g1 (zek "list")) (za0 (za5 0) za4)) (mAp (g1 zei) (za0 (za5 0) za4)) (za5 0)))
def zew:List T->Option Ru:=zdl 1 1 zj8
abbrev zlw:Fn:=⟨1,["thing"],zew⟩
abbrev gx_own_copy:Gx:=⟨[],[],[],[],false,true,true,none,[],[],[],true,[],[],[],[]⟩
abbrev gm_own_copy:Gm:=⟨["thing"],(za2 zj1).names,[],0,[],["isinstance","list"],[],[],[],false,[],[],[],gx_own_copy⟩
theorem ck_own_copy:dSs 200 gm_own_copy (zaa zj1)=some zj8:=by kernel_rfl
theorem oc_ok(l:List T)(h:shL l=true):zew [.lst l]=some (.ok (.own l)):=by
 unfold zew zj8
 simp_arith[h,za1 _ h]
abbrev zf4:Stmt:=top 29
theorem zmi:FnScope ["doors","names","watches","door"] ["doors","names","watches"] (za2 zf4):=⟨rfl,rfl,rfl,by decide +kernel,rfl,by decide +kernel,by decide +kernel⟩
def zdn:PSt->Option Out :=
 (zam (sIf (zge (mAp (g1 (isCT d_Door)) (za0 (za5 3) za4))) (zk1 "BadMachine" (za0 (mC (.str "a machine's doors are doors")) za4)) sNx)
 (zam (sIf (mOr (mAp (g2 zl9) (za0 (zie zai zap 0 (za5 3)) (za0 (za5 1) za4))) (mAp (g2 zl9) (za0 (zie zai zap 1 (za5 3)) (za0 (za5 1) za4)))) (zk1 "BadMachine" (za0 (mC (.str "a door leads from one room of the machine to another")) za4)) sNx)
 (zam (sIf (zge (zan zey (za0 (zie zai zap 2 (za5 3)) (za0 (za5 2) (za0 (mC k_WORDS) za4))))) (zk1 "BadMachine" (za0 (mC (.str "a door's guard is one of the machine's watches")) za4)) sNx)
 (sIf (mOr (zge (zan zdk (za0 (zie zai zap 3 (za5 3)) (za0 (za5 2) za4)))) (zge (zan zex (za0 (zie zai zap 4 (za5 3)) za4)))) (zk1 "BadMachine" (za0 (mC (.str "a door sets watches of the machine, each once, and has at most one sign")) za4)) sNx))))
def zff:PSt->Option Out :=
 (zam (sIf (zge (mAp (g1 (zek "list")) (za0 (za5 0) za4))) (zk1 "BadMachine" (za0 (mC (.str "a machine's doors are a list")) za4)) sNx)
 (sFor (zfj (za5 0)) (bNm 3) zdn))
def zdj:List T->Option Ru:=zdl 3 4 zff
abbrev zhi:Fn:=⟨5,["doors","names","watches"],zdj⟩
abbrev zmq:Gx:=⟨[("WORDS",k_WORDS)],[("Door",zai,zap)],[],[],false,true,true,none,[],[],[],true,[],[("Door",d_Door)],[],[]⟩
abbrev zmw:Gm:=⟨["doors","names","watches","door"],(za2 zf4).names,[],4,[("is_guard",zhz),("are_noughts",zhj),("is_sign",znk)],["isinstance","list"],["BadMachine"],[],[],false,[],[],[],zmq⟩
theorem zn2:dSs 200 zmw (zaa zf4)=some zff:=by kernel_rfl
structure Dr where
 s:Str
 e:Str
 g:List T
 n:List Str
 z:Str
abbrev zbq(d:Dr):T:=.obj (.ins zai zap) [.str d.s,.str d.e,.lst d.g,.lst (d.n.map T.str),.str d.z]
structure DrOk(ws ns:List Str)(d:Dr):Prop where
 s:d.s∈ns
 e:d.e∈ns
 g:Lks ws wdS d.g
 gl:d.g.length<=1000
 n:∀x∈d.n,x∈ws
 nd:d.n.Nodup
 nl:d.n.length<=100
 z:Sgn d.z
theorem DrOk.more{ws vs ns:List Str}{d:Dr}(h:DrOk ws ns d)(hs:∀x∈ws,x∈vs):DrOk vs ns d:=⟨h.s,h.e,h.g.more hs,h.gl,fun x hx=>hs x (h.n x hx),h.nd,h.nl,h.z⟩
theorem dor_sh{ws ns:List Str}{d:Dr}(h:DrOk ws ns d):(zbq d).sh=true:=by
 have:=h.g.sh
 simp_arith[this,za8]
theorem znc{ys:List Str}{x:Str}{o:Bool}{k:Kd}(h:Txs ys)(hx:PyData.strOk x=true):zl9 (.str x) (.nd o k (ys.map T.str))=some (.bl (!decide (x∈ys))):=by
 have e:=zlm (o:=o) (k:=k) h hx;unfold inT at e;unfold zl9;simp only at e ⊢;split at e
 ·rename_i hok;rw[if_pos hok];injection e with e
  injection e with e
  rw[e]
 ·cases e
theorem cd_ok71{ws ns:List Str}(hw:∀x∈ws,Wnm x)(hn:Txs ns){ds:List Dr}(h:∀d∈ds,DrOk ws ns d):zdj [.lst (ds.map zbq),.lst (ns.map T.str),.lst (ws.map T.str)]=some (.ok .non):=by
 have tw:Txs ws:=fun x hx=>zn6 (hw x hx)
 have sd:shL (ds.map zbq)=true:=by
  rw[zaw,yav];intro t ht;obtain⟨d,hd,rfl⟩:=yaf.mp ht;exact dor_sh (h d hd)
 have ed:=za1 _ sd
 obtain⟨τ,e,y,rfl⟩:=zb3 (b:=bNm 3) (body:=zdn) (ts:=ds.map zbq) (τ:=[some (.lst (ds.map zbq)),some (.lst (ns.map T.str)),some (.lst (ws.map T.str)),none]) (fun i τ=>∃y,τ=[some (.lst (ds.map zbq)),some (.lst (ns.map T.str)),some (.lst (ws.map T.str)),y]) ⟨_,rfl⟩ fun i t τ h1 h2=>by
  obtain⟨y,rfl⟩:=h2;obtain⟨d,hd,rfl⟩:=yaf.mp (yb6 h1);have k:=h d hd;have e1:=znc (o:=false) (k:=.lst) hn (hn _ k.s);have e2:=znc (o:=false) (k:=.lst) hn (hn _ k.e);rw[decide_eq_true k.s]at e1;rw[decide_eq_true k.e]at e2;have e3:=guard_lk tw wd_tx k.gl k.g;have e4:=nou_ok hw k.n k.nd k.nl;have e5:=sgn_ok k.z;have e6:=k.g.sh;have ci:List.lookup zai d_Door=some true:=rfl;refine⟨[some (.lst (ds.map zbq)),some (.lst (ns.map T.str)),some (.lst (ws.map T.str)),some (zbq d)],by simp_arith[],[some (.lst (ds.map zbq)),some (.lst (ns.map T.str)),some (.lst (ws.map T.str)),some (zbq d)],?_,_,rfl⟩
  unfold zdn
  simp_arith[k_wds,isCT,ci,za3,za8,e1,e2,e3,e4,e5,e6,za1 _ e6]
 unfold zdj zff
 simp_arith[za3,za8,sd,ed,e]
abbrev zf8:Stmt:=meth 24 0
theorem sc_Door_init:FnScope ["self","start","end","guard","noughts","sign"] ["self","start","end","guard","noughts","sign"] (za2 zf8):=⟨rfl,rfl,rfl,by decide +kernel,rfl,by decide +kernel,by decide +kernel⟩
def zhw:PSt->Option Out :=
 (zam (zj5 zai zap 0 0 (za5 1))
 (zam (zj5 zai zap 1 0 (za5 2))
 (zam (zj5 zai zap 2 0 (zan zew (za0 (za5 3) za4)))
 (zam (zj5 zai zap 3 0 (zan zew (za0 (za5 4) za4)))
 (zj5 zai zap 4 0 (za5 5))))))
def zbo:List T->Option Ru:=runI zai zap 6 6 zhw
abbrev zjv:Fn:=⟨2,["self","start","end","guard","noughts","sign"],zbo⟩
abbrev gx_Door_init:Gx:=⟨[],[],[],[],false,true,true,some (zai,zap),[],[],[],true,[],[],[],[]⟩
abbrev zjp:Gm:=⟨["self","start","end","guard","noughts","sign"],(za2 zf8).names,[],1,[("own_copy",zlw)],[],[],[],[],false,[],[],[],gx_Door_init⟩
theorem ck_Door_init:dSs 200 zjp (zaa zf8)=some zhw:=by kernel_rfl
theorem di_ok{ws ns:List Str}{d:Dr}(h:DrOk ws ns d):zbo [.str d.s,.str d.e,.lst d.g,.lst (d.n.map T.str),.str d.z]=some (.ok (zbq d)):=by
 have hg:=h.g.sh;have e1:=oc_ok d.g hg;have e2:=oc_ok (d.n.map T.str) (za8 _);refine runI_of fun p=>?_
 unfold runI0 zhw
 simp_arith[e1,e2,hg,za1 _ hg,za3,za8]
abbrev zcu:Stmt:=meth 25 0
theorem zl0:FnScope ["self","watches","rooms","doors","name","stay"] ["self","watches","rooms","doors"] (za2 zcu):=⟨rfl,rfl,rfl,by decide +kernel,rfl,by decide +kernel,by decide +kernel⟩
def zdd:PSt->Option Rs :=
 (za5 0)
def zd8:PSt->Option Out :=
 (sDpf za7 za9 1 0 (za5 4) (mAp (g1 zei) (za0 (za5 5) za4)))
def zeg:PSt->Option Out :=
 (zam (sExp (zan zcj (za0 (za5 1) za4)))
 (zam (sExp (zan zdi (za0 (za5 2) (za0 (za5 1) za4))))
 (zam (sExp (zan zdj (za0 (za5 3) (za0 (mLC 2 [] (zfj (za5 2)) (zi4 2 (zao (bNm 0) (zao (bNm 1) ziv))) (mC (.bl true)) zdd) (za0 (za5 1) za4)))))
 (zam (sIf (mOr (mAp (g2 (cmpT fun i j=>decide (j<i))) (za0 (mAp (g1 zk2) (za0 (za5 2) za4)) (za0 (mC zgg) za4))) (mAp (g2 (cmpT fun i j=>decide (j<i))) (za0 (mAp (g1 zk2) (za0 (za5 3) za4)) (za0 (mC zgh) za4)))) (zk1 "TooMany" (za0 (mC (.str "a machine has at most 64 rooms and at most 200 doors")) za4)) sNx)
 (zam (zj5 za7 za9 0 0 (mAp (g1 zei) (za0 (za5 1) za4)))
 (zam (zj5 za7 za9 1 0 mDicS)
 (zam (sFor (zfj (za5 2)) (zi4 2 (zao (bNm 4) (zao (bNm 5) ziv))) zd8)
 (zj5 za7 za9 2 0 (mAp (g1 zei) (za0 (za5 3) za4))))))))))
def zaz:List T->Option Ru:=runI za7 za9 4 6 zeg
abbrev zgr:Fn:=⟨6,["self","watches","rooms","doors"],zaz⟩
abbrev zlr:Gx:=⟨[("MOST_ROOMS",zgg),("MOST_DOORS",zgh)],[],[],[],false,true,true,some (za7,za9),[],[],[],true,[],[],[],[]⟩
abbrev zgk:Gm:=⟨["self","watches","rooms","doors","name","stay"],(za2 zcu).names,[],5,[("check_watches",zfv),("check_rooms",zhh),("check_doors",zhi)],["len","list"],["TooMany"],[],[],false,[],[],[],zlr⟩
theorem zm8:dSs 200 zgk (zaa zcu)=some zeg:=by kernel_rfl
structure Mc where
 ws:List Str
 rs:List (Str×List T)
 ds:List Dr
abbrev zht(M:Mc):T:=.obj (.ins za7 za9) [.lst (M.ws.map T.str),.obj (.sdc (M.rs.map (·.1))) (M.rs.map fun r=>.lst r.2),.lst (M.ds.map zbq)]
structure McOk(M:Mc):Prop where
 w:∀x∈M.ws,Wnm x
 wd:M.ws.Nodup
 wl:M.ws.length<=7
 r:RsOk M.ws M.rs
 d:∀d∈M.ds,DrOk M.ws (M.rs.map (·.1)) d
 dl:M.ds.length<=200
theorem McOk.tw{M:Mc}(h:McOk M):Txs M.ws:=fun x hx=>zn6 (h.w x hx)
theorem McOk.tn{M:Mc}(h:McOk M):Txs (M.rs.map (·.1)):=fun x hx=>by
 obtain⟨r,hr,rfl⟩:=yaf.mp hx;exact rmn_tx (h.r.nm r hr).1
theorem McOk.sd{M:Mc}(h:McOk M):shL (M.ds.map zbq)=true:=by
 rw[zaw,yav];intro t ht;obtain⟨d,hd,rfl⟩:=yaf.mp ht;exact dor_sh (h.d d hd)
theorem McOk.ss{M:Mc}(h:McOk M):shL (M.rs.map fun r=>T.lst r.2)=true:=by
 rw[zaw,yav];intro t ht;obtain⟨r,hr,rfl⟩:=yaf.mp ht;show((!false) && shL r.2)=true;rw[(h.r.lk r hr).1.sh]
 rfl
theorem McOk.sh{M:Mc}(h:McOk M):(zht M).sh=true:=by
 simp_arith[za8,h.ss,h.sd]
theorem mi_ok71{M:Mc}(h:McOk M):zaz [.lst (M.ws.map T.str),rmsT M.rs,.lst (M.ds.map zbq)]=some (.ok (zht M)):=by
 have cw:=cw_ok h.w h.wd h.wl;have cr:=cr_ok71 h.tw h.r;have cd:=cd_ok71 h.w h.tn h.d;have sr:=rom_sh h.r;have er:=za1 _ sr;have sd:=h.sd;have ed:=za1 _ sd;have h1:=h.r.l1;have h64:=h.r.l64;have h200:=h.dl
 have lc:=zkl (b:=zi4 2 (zao (bNm 0) (zao (bNm 1) ziv))) (me:=zdd) (ts:=M.rs.map romT) (τ:=[none,none]) (fun _ τ=>∃x y,τ=[x,y]) (fun i=>.str ((M.rs.map (·.1)).getD i Str.empty)) ⟨none,none,rfl⟩ fun i t τ h1 h2=>by
  obtain⟨x,y,rfl⟩:=h2;have hi:i<M.rs.length:=by simpa using (ya4.mp h1).1
  rw[yaa,ya1 hi]at h1;have et:t=romT M.rs[i]:=(yb1 h1).symm;subst et;have eg:(M.rs.map (·.1)).getD i Str.empty=M.rs[i].1:=by simp[hi]
  refine⟨[some (.str M.rs[i].1),some (.lst M.rs[i].2)],by simp_arith[],?_,_,_,rfl⟩
  rw[eg];unfold zdd
  simp_arith[]
 have em:(List.range (M.rs.map romT).length).map (fun i=>T.str ((M.rs.map (·.1)).getD i Str.empty))=(M.rs.map (·.1)).map T.str:=by
  rw[strs_mT (M.rs.map (·.1)),ya0,ya0]
  rfl
 rw[em]at lc;have ll:(M.rs.map romT).length<=100000:=by rw[ya0];omega
 have g1:decide ((64:Int)<((M.rs.map romT).length:Int))=false:=decide_eq_false (by rw[ya0];omega)
 have g2:decide ((200:Int)<((M.ds.map zbq).length:Int))=false:=decide_eq_false (by rw[ya0];omega)
 refine runI_of fun p=>?_
 obtain⟨τ,e,x,y,rfl⟩:=zb3 (b:=zi4 2 (zao (bNm 4) (zao (bNm 5) ziv))) (body:=zd8) (ts:=M.rs.map romT) (τ:=[some (.oob p za7 za9 [.own (M.ws.map T.str),.osd [] []]),some (.lst (M.ws.map T.str)),some (rmsT M.rs),some (.lst (M.ds.map zbq)),none,none])
  (fun i τ=>∃x y,τ=[some (.oob p za7 za9 [.own (M.ws.map T.str),.osd ((M.rs.take i).map (·.1)) ((M.rs.take i).map fun r=>.lst r.2)]),some (.lst (M.ws.map T.str)),some (rmsT M.rs),some (.lst (M.ds.map zbq)),x,y]) ⟨none,none,by rw[List.take_zero];rfl⟩ fun i t τ h1 h2=>by
  obtain⟨x,y,rfl⟩:=h2;have hi:i<M.rs.length:=by simpa using (ya4.mp h1).1
  rw[yaa,ya1 hi]at h1;have et:t=romT M.rs[i]:=(yb1 h1).symm;subst et;have k1:=(h.r.lk _ (ybf hi)).1.sh
  have hno:M.rs[i].1∉(M.rs.take i).map (·.1):=fun hm=>by
   rw[List.map_take]at hm;obtain⟨j,hj,ej⟩:=List.mem_iff_getElem.mp hm;rw[yb2,ya0]at hj;have hnd:=h.r.nd;rw[List.getElem_take]at ej;have e2:(M.rs.map (·.1))[j]'(by rw[ya0];omega)=(M.rs.map (·.1))[i]'(by rw[ya0];exact hi):=by rw[ej,List.getElem_map]
   have:=(ydk hnd).mp e2
   omega
  have hlen:((M.rs.take i).map (·.1)).length<100000:=by
   rw[ya0,yb2]
   omega
  have et2:M.rs.take (i+1)=M.rs.take i++[M.rs[i]]:=by rw[List.take_append_getElem]
  refine⟨[some (.oob p za7 za9 [.own (M.ws.map T.str),.osd ((M.rs.take i).map (·.1)) ((M.rs.take i).map fun r=>.lst r.2)]),some (.lst (M.ws.map T.str)),some (rmsT M.rs),some (.lst (M.ds.map zbq)),some (.str M.rs[i].1),some (.lst M.rs[i].2)],by simp_arith[],[some (.oob p za7 za9 [.own (M.ws.map T.str),.osd ((M.rs.take (i+1)).map (·.1)) ((M.rs.take (i+1)).map fun r=>.lst r.2)]),some (.lst (M.ws.map T.str)),some (rmsT M.rs),some (.lst (M.ds.map zbq)),some (.str M.rs[i].1),some (.lst M.rs[i].2)],?_,_,_,rfl⟩
  rw[et2,yaq,yaq];unfold zd8
  simp_arith[k1,za1 _ k1,hno,hlen]
 rw[ya0,ybx]at e;have es:=za1 _ h.ss;unfold runI0 zeg zgg zgh
 simp_arith[za3,za8,cw,cr,cd,sr,er,sd,ed,lc,ll,g1,g2,e,es]
abbrev zbr:Stmt:=meth 25 1
theorem zia:FnScope ["self"] ["self"] (za2 zbr):=⟨rfl,rfl,rfl,by decide +kernel,rfl,by decide +kernel,by decide +kernel⟩
def zcq:PSt->Option Out :=
 (zcn (zjd (mAp (g1 zei) (za0 (zie za7 za9 0 (za5 0)) za4)) (mKys (zie za7 za9 0 (za5 0)))))
def zal:List T->Option Ru:=zdl 1 1 zcq
abbrev ze5:Fn:=⟨1,["self"],zal⟩
abbrev zii:Gx:=⟨[],[("Machine",za7,za9)],[],[],false,true,true,none,[],[],[],true,[],[],[],[]⟩
abbrev ze4:Gm:=⟨["self"],(za2 zbr).names,[],0,[],["list"],[],[],[],false,[],[],[],zii⟩
theorem ziq:dSs 200 ze4 (zaa zbr)=some zcq:=by kernel_rfl
theorem mw_ok71{M:Mc}(h:McOk M):zal [zht M]=some (.ok (.own (M.ws.map T.str))):=by
 unfold zal zcq
 simp_arith[za3,za8,h.ss,h.sd,za1 _ h.ss,za1 _ h.sd]
abbrev zc9:Stmt:=meth 25 2
theorem zjz:FnScope ["self"] ["self"] (za2 zc9):=⟨rfl,rfl,rfl,by decide +kernel,rfl,by decide +kernel,by decide +kernel⟩
def zdv:PSt->Option Out :=
 (zcn (zjd (mAp (g1 zei) (za0 (zie za7 za9 1 (za5 0)) za4)) (mKys (zie za7 za9 1 (za5 0)))))
def zaq:List T->Option Ru:=zdl 1 1 zdv
abbrev zfw:Fn:=⟨1,["self"],zaq⟩
abbrev zk5:Gx:=⟨[],[("Machine",za7,za9)],[],[],false,true,true,none,[],[],[],true,[],[],[],[]⟩
abbrev zft:Gm:=⟨["self"],(za2 zc9).names,[],0,[],["list"],[],[],[],false,[],[],[],zk5⟩
theorem zkc:dSs 200 zft (zaa zc9)=some zdv:=by kernel_rfl
theorem mr_ok71{M:Mc}(h:McOk M):zaq [zht M]=some (.ok (.own ((M.rs.map (·.1)).map T.str))):=by
 unfold zaq zdv
 simp_arith[mKys,za3,za8,h.ss,h.sd,za1 _ h.ss,za1 _ h.sd]
abbrev zca:Stmt:=meth 25 3
theorem zk0:FnScope ["self"] ["self"] (za2 zca):=⟨rfl,rfl,rfl,by decide +kernel,rfl,by decide +kernel,by decide +kernel⟩
def zdw:PSt->Option Out :=
 (zcn (zjd (mAp (g1 zei) (za0 (zie za7 za9 2 (za5 0)) za4)) (mKys (zie za7 za9 2 (za5 0)))))
def zar:List T->Option Ru:=zdl 1 1 zdw
abbrev zfx:Fn:=⟨1,["self"],zar⟩
abbrev zk6:Gx:=⟨[],[("Machine",za7,za9)],[],[],false,true,true,none,[],[],[],true,[],[],[],[]⟩
abbrev zfu:Gm:=⟨["self"],(za2 zca).names,[],0,[],["list"],[],[],[],false,[],[],[],zk6⟩
theorem zkd:dSs 200 zfu (zaa zca)=some zdw:=by kernel_rfl
theorem md_ok71{M:Mc}(h:McOk M):zar [zht M]=some (.ok (.own (M.ds.map zbq))):=by
 unfold zar zdw
 simp_arith[za3,za8,h.ss,h.sd,za1 _ h.ss,za1 _ h.sd]
abbrev zct:Stmt:=meth 25 4
theorem zkz:FnScope ["self","room"] ["self","room"] (za2 zct):=⟨rfl,rfl,rfl,by decide +kernel,rfl,by decide +kernel,by decide +kernel⟩
def zef:PSt->Option Out :=
 (zcn (mAp (g1 zei) (za0 (mGt (zie za7 za9 1 (za5 0)) (za5 1)) za4)))
def zay:List T->Option Ru:=zdl 2 2 zef
abbrev zgq:Fn:=⟨1,["self","room"],zay⟩
abbrev zlq:Gx:=⟨[],[("Machine",za7,za9)],[],[],false,true,true,none,[],[],[],true,[],[],[],[]⟩
abbrev zgj:Gm:=⟨["self","room"],(za2 zct).names,[],0,[],["list"],[],[],[],false,[],[],[],zlq⟩
theorem zm7:dSs 200 zgj (zaa zct)=some zef:=by kernel_rfl
theorem idx_at71{ws:List Str}(hd:ws.Nodup){i:Nat}(hi:i<ws.length):idxS ws ws[i]=some i:=by
 unfold idxS;rw[ybj];refine⟨hi,@decide_eq_true _ (Classical.propDecidable _) rfl,fun j hj q=>?_⟩
 have:=@of_decide_eq_true _ (Classical.propDecidable _) q;have:=(ydk hd).mp this
 omega
theorem ms_ok71{M:Mc}(h:McOk M){i:Nat}(hi:i<M.rs.length):zay [zht M,.str M.rs[i].1]=some (.ok (.own M.rs[i].2)):=by
 have e:=idx_at71 h.r.nd (i:=i) (by rw[ya0];exact hi)
 rw[List.getElem_map]at e;have e2:(M.rs.map fun r=>T.lst r.2)[i]?=some (.lst M.rs[i].2):=by rw[yaa,ya1 hi];rfl
 have k:=(h.r.lk _ (ybf hi)).1.sh;unfold zay zef
 simp_arith[mGt,za3,za8,h.ss,h.sd,za1 _ h.ss,za1 _ h.sd,e,e2,k,za1 _ k]
abbrev zf9:Stmt:=meth 24 1
theorem sc_Door_asks:FnScope ["self"] ["self"] (za2 zf9):=⟨rfl,rfl,rfl,by decide +kernel,rfl,by decide +kernel,by decide +kernel⟩
def zhx:PSt->Option Out :=
 (zcn (zjd (mAp (g1 zei) (za0 (zie zai zap 2 (za5 0)) za4)) (mKys (zie zai zap 2 (za5 0)))))
def zc5:List T->Option Ru:=zdl 1 1 zhx
abbrev zjw:Fn:=⟨1,["self"],zc5⟩
abbrev gx_Door_asks:Gx:=⟨[],[("Door",zai,zap)],[],[],false,true,true,none,[],[],[],true,[],[],[],[]⟩
abbrev zjq:Gm:=⟨["self"],(za2 zf9).names,[],0,[],["list"],[],[],[],false,[],[],[],gx_Door_asks⟩
theorem ck_Door_asks:dSs 200 zjq (zaa zf9)=some zhx:=by kernel_rfl
theorem da_ok71{d:Dr}(h:shL d.g=true):zc5 [zbq d]=some (.ok (.own d.g)):=by
 unfold zc5 zhx
 simp_arith[za3,za8,h,za1 _ h]
abbrev zf7:Stmt:=meth 24 2
theorem sc_Door_sets:FnScope ["self"] ["self"] (za2 zf7):=⟨rfl,rfl,rfl,by decide +kernel,rfl,by decide +kernel,by decide +kernel⟩
def zhv:PSt->Option Out :=
 (zcn (zjd (mAp (g1 zei) (za0 (zie zai zap 3 (za5 0)) za4)) (mKys (zie zai zap 3 (za5 0)))))
def zc4:List T->Option Ru:=zdl 1 1 zhv
abbrev zju:Fn:=⟨1,["self"],zc4⟩
abbrev gx_Door_sets:Gx:=⟨[],[("Door",zai,zap)],[],[],false,true,true,none,[],[],[],true,[],[],[],[]⟩
abbrev zjo:Gm:=⟨["self"],(za2 zf7).names,[],0,[],["list"],[],[],[],false,[],[],[],gx_Door_sets⟩
theorem ck_Door_sets:dSs 200 zjo (zaa zf7)=some zhv:=by kernel_rfl
theorem ds_ok71{d:Dr}(h:shL d.g=true):zc4 [zbq d]=some (.ok (.own (d.n.map T.str))):=by
 unfold zc4 zhv
 simp_arith[za3,za8,h,za1 _ h]
abbrev s_Llooks:Stmt:=top 52
theorem sc_Llooks:FnScope ["_law_number","_law_watches","_law_words","_law_cell","_law_looks_here","_law_k","_law_one"] ["_law_number","_law_watches","_law_words","_law_cell"] (za2 s_Llooks):=⟨rfl,rfl,rfl,by decide +kernel,rfl,by decide +kernel,by decide +kernel⟩
def zh1:PSt->Option Out :=
 (sIf (mAp (g2 neT) (za0 (za5 1) (za0 (ziy za4) za4))) (zam (zda (mAp (g2 zhc) (za0 (mAp (g2 zhd) (za0 (za5 0) (za0 (mAp (g2 zcl) (za0 (mC (.int 4)) (za0 (mAp (g2 mulT) (za0 (mC (.int 3)) (za0 (za5 5) za4))) za4))) za4))) (za0 (mC (.int 1000003)) za4))) (bNm 6))
 (sApp 4 (mTup (za0 (mIx (za5 1) (mAp (g2 zhc) (za0 (za5 6) (za0 (mAp (g1 zk2) (za0 (za5 1) za4)) za4)))) (za0 (mIx (za5 2) (mAp (g2 zhc) (za0 (mAp (g2 zhd) (za0 (za5 6) (za0 (mC (.int 7)) za4))) (za0 (mAp (g1 zk2) (za0 (za5 2) za4)) za4)))) (za0 (zan zgx (za0 (mAp (g2 zhd) (za0 (za5 6) (za0 (mC (.int 35)) za4))) (za0 (za5 3) za4))) za4)))))) sNx)
def m_Llooks:PSt->Option Out :=
 (zam (sOwn 4 (ziy za4))
 (zam (sFor (zc3 (za0 (mAp (g2 zhc) (za0 (za5 0) (za0 (mC (.int 4)) za4))) za4)) (bNm 5) zh1)
 (zcn (za5 4))))
def zfq:List T->Option Ru:=zdl 4 7 m_Llooks
abbrev zly:Fn:=⟨2,["_law_number","_law_watches","_law_words","_law_cell"],zfq⟩
abbrev gx_Llooks:Gx:=⟨[],[],[],[],false,true,true,none,[],[],[],true,[],[],[],[]⟩
abbrev gm_Llooks:Gm:=⟨["_law_number","_law_watches","_law_words","_law_cell","_law_looks_here","_law_k","_law_one"],(za2 s_Llooks).names,[],1,[("_law_size",fn_Lsize)],["range","len"],[],["_law_looks_here"],[],false,[],[],[],gx_Llooks⟩
theorem ck_Llooks:dSs 200 gm_Llooks (zaa s_Llooks)=some m_Llooks:=by kernel_rfl
def LgOk(ws wd:List Str)(L:List Lk):Prop:=L.length<=3/\∀k∈L,LkOk k/\k.w∈ws/\k.o∈wd
theorem LgOk.lks{ws wd:List Str}{L:List Lk}(h:LgOk ws wd L):Lks ws wd (L.map lkT):=fun t ht=>by
 obtain⟨k,hk,rfl⟩:=yaf.mp ht;obtain⟨_,h1,h2⟩:=h.2 k hk;exact⟨k.w,k.o,(k.n:Int),rfl,h1,h2,ybe _⟩
theorem LgOk.ok{ws wd:List Str}{L:List Lk}(h:LgOk ws wd L):∀k∈L,LkOk k:=fun k hk=>(h.2 k hk).1
def WtOk(w:Str):Prop:=(∀c∈Tx.cs w,c<128/\c≠32/\c≠60/\c≠61/\c≠62)/\w.length<=100
def WoOk(o:Str):Prop:=∃c r,Tx.cs o=c::r/\(c=60\/c=61\/c=62)/\(r=[]\/r=[61]/\c≠61)
theorem wnm_wt{w:Str}(h:Wnm w):WtOk w:=by
 rcases h with rfl|⟨h1,_,h3⟩
 ·exact⟨by decide +kernel,by decide +kernel⟩
 ·refine⟨fun c hc=>?_,?_⟩
  ·have:=zn9 h1 c hc
   omega
  ·have:w.length=w.cps.size:=rfl
   omega
theorem wd_wo{o:Str}(h:o∈wdS):WoOk o:=by
 unfold wdS at h;simp only[ya7,yb5,or_false]at h
 rcases h with rfl|rfl|rfl|rfl|rfl
 ·exact⟨60,[],by decide +kernel,by decide,by decide⟩
 ·exact⟨60,[61],by decide +kernel,by decide,by decide⟩
 ·exact⟨62,[],by decide +kernel,by decide,by decide⟩
 ·exact⟨62,[61],by decide +kernel,by decide,by decide⟩
 ·exact⟨61,[],by decide +kernel,by decide,by decide⟩
theorem mod_at{α:Type}(l:List α)(hl:l≠[])(i:Int):∃x∈l,atI l (i.fmod (l.length:Int))=some x:=by
 have hp:0<l.length:=ydy.mpr hl;have h0:=yb9 i (show(0:Int)<(l.length:Int) by omega)
 have h1:=ybk i (show(0:Int)<(l.length:Int) by omega)
 have h2:(i.fmod (l.length:Int)).toNat<l.length:=by omega
 exact⟨l[(i.fmod (l.length:Int)).toNat],ybf h2,zb8 h0 (ya1 h2)⟩
theorem at_str{l:List Str}{i:Int}{x:Str}(h:atI l i=some x):atI (l.map T.str) i=some (.str x):=by
 unfold atI at h ⊢;rw[ya0];cases hi:ixN l.length i with
 |none=>rw[hi]at h;cases h
 |some j =>
  rw[hi]at h;have h':l[j]?=some x:=h;show(l.map T.str)[j]?=some (.str x);rw[yaa,h']
  rfl
theorem s70_sm{a b:Int}(h1:0<=a)(h2:a<=100)(h3:0<=b)(h4:b<=100):s70 (a+b)=true:=zep (ycg (show(-(10 ^ 70):Int)<0 by decide +kernel) (Int.add_nonneg h1 h3)) (Int.lt_of_le_of_lt (Int.add_le_add h2 h4) (by decide +kernel))
theorem len_ne{α:Type}{l:List α}(h:l≠[]):((l.length:Nat):Int)≠0:=fun z=>h (List.length_eq_zero_iff.mp (Int.ofNat.inj z))
theorem zh9{l:List Str}(h:Txs l):Fit (.lst (l.map T.str)) 1:=Fit.nd fun t ht=>by
 obtain⟨x,hx,rfl⟩:=yaf.mp ht;exact Fit.str (h x hx) 0
theorem ne_nil{l:List Str}(h:Txs l):neT (.lst (l.map T.str)) (.lst [])=some (.bl (!decide (l=[]))):=by
 cases l with
 |nil=>rfl
 |cons a r =>
  rw[(eq_fit (zh9 h) (Fit.nd (o:=false) (k:=.lst) (l:=[]) (n:=0) fun _ z=>by cases z) (by decide)).2,decide_eq_false (ybw a r)]
  have e:¬ ((T.lst ((a::r).map T.str)).data=(T.lst []).data):=fun z=>by
   have z':PyData.list (zbt ((a::r).map T.str))=PyData.list (zbt []):=z;injection z' with z'
   cases z'
  rw[@decide_eq_false _ (Classical.propDecidable _) e]
theorem looks_ok{ws wd:List Str}(hw:∀x∈ws,Wnm x)(hd:∀o∈wd,o∈wdS)(hd0:wd≠[])(x c:Int):∃L:List Lk,LgOk ws wd L/\zfq [.int x,.lst (ws.map T.str),.lst (wd.map T.str),.int c]=some (.ok (.own (L.map lkT))):=by
 have tw:Txs ws:=fun y hy=>zn6 (hw y hy)
 have hne:=ne_nil tw;obtain⟨q,hq⟩:=ybq (yb9 x (show(0:Int)<4 by decide))
 have hq4:=ybk x (show(0:Int)<4 by decide)
 rw[hq]at hq4
 obtain⟨τ,e,L,hL,hok,y5,y6,rfl⟩:=zb3 (b:=bNm 5) (body:=zh1) (ts:=mT q fun i=>.int (i:Int)) (τ:=[some (.int x),some (.lst (ws.map T.str)),some (.lst (wd.map T.str)),some (.int c),some (.own []),none,none])
  (fun i τ=>∃L:List Lk,L.length<=i/\(∀k∈L,LkOk k/\k.w∈ws/\k.o∈wd)/\∃y5 y6,τ=[some (.int x),some (.lst (ws.map T.str)),some (.lst (wd.map T.str)),some (.int c),some (.own (L.map lkT)),y5,y6]) ⟨[],yad 0,fun _ z=>(by cases z),none,none,rfl⟩ fun i t τ h1 h2=>by
   obtain⟨hi,rfl⟩:=zc6 h1;obtain⟨L,hL,hok,y5,y6,rfl⟩:=h2
   by_cases h0:ws=[]
   ·refine⟨[some (.int x),some (.lst (ws.map T.str)),some (.lst (wd.map T.str)),some (.int c),some (.own (L.map lkT)),some (.int (i:Int)),y6],(by simp_arith[]),[some (.int x),some (.lst (ws.map T.str)),some (.lst (wd.map T.str)),some (.int c),some (.own (L.map lkT)),some (.int (i:Int)),y6],?_,L,Nat.le_succ_of_le hL,hok,some (.int (i:Int)),y6,rfl⟩
    rw[decide_eq_true h0]at hne;unfold zh1
    simp_arith[za3,za8,hne]
   ·rw[decide_eq_false h0]at hne;have m3:zg8 3 (i:Int)=true:=zla (zna (by decide) (by decide))
    have n0:(4+3 * (i:Int)=0)=False:=eq_false (by omega)
    have s0:s70 (4+3 * (i:Int))=true:=s70_sm (by decide) (by decide) (by lia) (by lia)
    obtain⟨b,hb⟩:=ybq (yb9 (x.fdiv (4+3 * (i:Int))) (show(0:Int)<1000003 by decide))
    have hb2:=ybk (x.fdiv (4+3 * (i:Int))) (show(0:Int)<1000003 by decide)
    rw[hb]at hb2;obtain⟨w,hwm,ew⟩:=mod_at ws h0 (b:Int);obtain⟨o,hom,eo⟩:=mod_at wd hd0 ((b:Int).fdiv 7);have h35:(b:Int).fdiv 35=((b / 35:Nat):Int):=by rw[fd (by decide)];rfl
    obtain⟨v,hv,ev⟩:=size_ok (b / 35) (yd0 (Nat.div_le_self b 35) (ybo (show b<1000003 by omega) (by decide +kernel))) c
    have ew':=at_str ew;have eo':=at_str eo;have l0:=len_ne h0;have l1:=len_ne hd0;have s7:s70 7=true:=zep (by decide) (by decide)
    have s35:s70 35=true:=zep (by decide) (by decide)
    have ll:L.length<100000:=yd0 hL (ybo (ybo hi (ycf.mp hq4)) (by decide))
    refine⟨[some (.int x),some (.lst (ws.map T.str)),some (.lst (wd.map T.str)),some (.int c),some (.own (L.map lkT)),some (.int (i:Int)),y6],(by simp_arith[]),[some (.int x),some (.lst (ws.map T.str)),some (.lst (wd.map T.str)),some (.int c),some (.own ((L++[Lk.mk w o v]).map lkT)),some (.int (i:Int)),some (.int (b:Int))],?_,L++[Lk.mk w o v],(by rw[ya5,ybn];exact yeb hL),fun u hu=>?_,some (.int (i:Int)),some (.int (b:Int)),rfl⟩
    ·unfold zh1
     simp_arith[za3,za8,hne,m3,n0,s0,hb,ya0,l0,l1,s7,s35,ew',eo',h35,ev,ll]
     rw[yaq]
     rfl
    ·rcases yai.mp hu with hu|hu
     ·exact hok u hu
     ·rw[ya6.mp hu];obtain⟨w1,w2⟩:=wnm_wt (hw w hwm);exact⟨⟨w1,w2,wd_wo (hd o hom),hv⟩,hwm,hom⟩
 rw[zd3]at hL;have ok:ok62 (q:Int)=true:=zh8 (yaj (yd1 (ycf.mp hq4)) (show 4<=100000 by decide))
 have er:zeq 0 q=mT q fun i=>.int (i:Int):=zd2
 refine⟨L,⟨by omega,hok⟩,?_⟩
 unfold zfq m_Llooks
 simp_arith[hq,ok,er,e,za3,za8]
abbrev s_Ldoors:Stmt:=top 53
theorem sc_Ldoors:FnScope ["_law_script","_law_rooms","_law_watches","_law_names_here","_law_doors_here","_law_k","_law_xs","_law_guard","_law_noughts","_law_sign"] ["_law_script","_law_rooms","_law_watches","_law_names_here"] (za2 s_Ldoors):=⟨rfl,rfl,rfl,by decide +kernel,rfl,by decide +kernel,by decide +kernel⟩
def zes:PSt->Option Rs :=
 (mAp (g2 eqT) (za0 (mAp (g2 zhc) (za0 (mAp (g2 zhd) (za0 (mIx (za5 2) (mC (.int 3))) (za0 (mAp (g2 zcl) (za0 (mC (.int 2)) (za0 (mAp (g2 mulT) (za0 (mC (.int 3)) (za0 (za5 0) za4))) za4))) za4))) (za0 (mC (.int 2)) za4))) (za0 (mC (.int 1)) za4)))
def zev:PSt->Option Rs :=
 (mIx (za5 1) (za5 0))
def zh2:PSt->Option Out :=
 (zam (zda (zan zd7 (za0 (zan zav (za0 (za5 0) (za0 (mAp (g2 zcl) (za0 (mC (.int 5)) (za0 (za5 5) za4))) za4))) (za0 (mC (.int 5)) za4))) (bNm 6))
 (zam (zda (zan zfq (za0 (mIx (za5 6) (mC (.int 2))) (za0 (za5 2) (za0 (ziy (zb4 (mC (.str "<")) (zb4 (mC (.str "<=")) (zb4 (mC (.str ">")) (zb4 (mC (.str ">=")) (zb4 (mC (.str "=")) za4)))))) (za0 (zan zav (za0 (za5 0) (za0 (mC (.int 13)) za4))) za4))))) (bNm 7))
 (zam (zda (mLC 1 [2,6] (zc3 (za0 (mAp (g1 zk2) (za0 (za5 2) za4)) za4)) (bNm 0) zes zev) (bNm 8))
 (zam (zda (mIx (ziy (zb4 (mC (.str "")) (zb4 (mC (.str "")) (zb4 (mAp (g2 zcl) (za0 (mIx (za5 3) (mC (.int 20))) (za0 (mC (.str "!")) za4))) (zb4 (mAp (g2 zcl) (za0 (mIx (za5 3) (mC (.int 20))) (za0 (mC (.str "?")) za4))) (zb4 (mAp (g2 zcl) (za0 (mIx (za5 3) (mC (.int 21))) (za0 (mC (.str "?")) za4))) (zb4 (mAp (g2 zcl) (za0 (mIx (za5 3) (mC (.int 0))) (za0 (mC (.str "!")) za4))) za4))))))) (mAp (g2 zhc) (za0 (mIx (za5 6) (mC (.int 4))) (za0 (mC (.int 6)) za4)))) (bNm 9))
 (zam (sIf (mAp (g2 eqT) (za0 (mAp (g2 zhc) (za0 (mAp (g2 zhd) (za0 (mIx (za5 6) (mC (.int 4))) (za0 (mC (.int 6)) za4))) (za0 (mC (.int 2)) za4))) (za0 (mC (.int 1)) za4))) (zda (mRv (za5 8) (mAp (g1 negT) (za0 (mC (.int 1)) za4))) (bNm 8)) sNx)
 (sApp 4 (mTup (za0 (mIx (mIx (za5 1) (mAp (g2 zhc) (za0 (mIx (za5 6) (mC (.int 0))) (za0 (mAp (g1 zk2) (za0 (za5 1) za4)) za4)))) (mC (.int 0))) (za0 (mIx (mIx (za5 1) (mAp (g2 zhc) (za0 (mIx (za5 6) (mC (.int 1))) (za0 (mAp (g1 zk2) (za0 (za5 1) za4)) za4)))) (mC (.int 0))) (za0 (za5 7) (za0 (za5 8) (za0 (za5 9) za4))))))))))))
def m_Ldoors:PSt->Option Out :=
 (zam (sOwn 4 (ziy za4))
 (zam (sFor (zc3 (za0 (mAp (g2 zhc) (za0 (zan zav (za0 (za5 0) (za0 (mC (.int 4)) za4))) (za0 (mC (.int 9)) za4))) za4)) (bNm 5) zh2)
 (zcn (za5 4))))
def zkp:List T->Option Ru:=zdl 4 10 m_Ldoors
abbrev fn_Ldoors:Fn:=⟨3,["_law_script","_law_rooms","_law_watches","_law_names_here"],zkp⟩
abbrev gx_Ldoors:Gx:=⟨[],[],[],[],false,true,true,none,[],[],[],true,[],[],[],[]⟩
abbrev gm_Ldoors:Gm:=⟨["_law_script","_law_rooms","_law_watches","_law_names_here","_law_doors_here","_law_k","_law_xs","_law_guard","_law_noughts","_law_sign"],(za2 s_Ldoors).names,["_law_watches","_law_xs"],2,[("_law_cell_at",zi0),("_law_stream",zji),("_law_looks",zly)],["range","len"],[],["_law_doors_here"],[],false,[],[],[],gx_Ldoors⟩
theorem ck_Ldoors:dSs 200 gm_Ldoors (zaa s_Ldoors)=some m_Ldoors:=by kernel_rfl
structure Dx where
 s:Str
 e:Str
 g:List Lk
 n:List Str
 z:Str
def dxT(d:Dx):T:=.tup [.str d.s,.str d.e,.lst (d.g.map lkT),.lst (d.n.map T.str),.str d.z]
def dxD(d:Dx):Dr:=⟨d.s,d.e,d.g.map lkT,d.n,d.z⟩
structure DxOk(ws rs:List Str)(d:Dx):Prop where
 s:d.s∈rs
 e:d.e∈rs
 g:LgOk ws wdS d.g
 n:∀x∈d.n,x∈ws
 nd:d.n.Nodup
 nl:d.n.length<=7
 z:Sgn d.z
theorem dx_sh(d:Dx):(dxT d).sh=true:=by
 unfold dxT
 simp_arith[zb1,za8]
theorem zm1(D:List Dx):shL (D.map dxT)=true:=zde dx_sh D
theorem zd5(D:List Dx):zae (D.map dxT)=D.map dxT:=za1 _ (zm1 D)
def rxT(r:Str×List Lk):T:=.tup [.str r.1,.lst (r.2.map lkT)]
theorem rx_sh(r:Str×List Lk):(rxT r).sh=true:=by
 unfold rxT
 simp_arith[zb1]
theorem zfr(R:List (Str×List Lk)):shL (R.map rxT)=true:=zde rx_sh R
theorem zax(R:List (Str×List Lk)):zae (R.map rxT)=R.map rxT:=za1 _ (zfr R)
theorem at_map{α:Type}(f:α->T){l:List α}{i:Int}{x:α}(h:atI l i=some x):atI (l.map f) i=some (f x):=by
 unfold atI at h ⊢;rw[ya0];cases hi:ixN l.length i with
 |none=>rw[hi]at h;cases h
 |some j =>
  rw[hi]at h;have h':l[j]?=some x:=h;show(l.map f)[j]?=some (f x);rw[yaa,h']
  rfl
theorem nou_lc{ws:List Str}{xs:List T}{z:Int}(h3:atI xs 3=some (.int z))(sx:shL xs=true):∀(vs pre:List Str) (o:Option T),ws=pre++vs->ws.length<=7->∃N:List Str,N.Sublist vs/\zfy (bNm 0) zes zev ((List.range' pre.length vs.length).map fun(i:Nat)=>T.int (i:Int)) [o,some (.lst (ws.map T.str)),some (.lst xs)]=some (N.map T.str)
 |[],pre,o,_,_=>⟨[],.slnil,rfl⟩
 |v::vs,pre,o,e,hl=>by
  obtain⟨N,hN,ih⟩:=nou_lc h3 sx vs (pre++[v]) (some (.int (pre.length:Int))) (by rw[e,yap];rfl) hl
  rw[ya5,ybn]at ih;have hp:pre.length<=7:=by rw[e,ya5]at hl;lia
  have m3:zg8 3 (pre.length:Int)=true:=zla (zna (by decide) (by decide))
  have s0:s70 (2+3 * (pre.length:Int))=true:=s70_sm (by decide) (by decide) (by lia) (by lia)
  have n0:(2+3 * (pre.length:Int)=0)=False:=eq_false (by lia)
  have av:atI (ws.map T.str) (pre.length:Int)=some (.str v):=at_str (by
   refine zb8 (ybe _) ?_;rw[ybl,e,yaw (yad _),Nat.sub_self]
   rfl)
  have e1:bNm 0 (.int (pre.length:Int)) [o,some (.lst (ws.map T.str)),some (.lst xs)]=some [some (.int (pre.length:Int)),some (.lst (ws.map T.str)),some (.lst xs)]:=by simp_arith[]
  have e2:zes [some (.int (pre.length:Int)),some (.lst (ws.map T.str)),some (.lst xs)]=some (.v (.bl ((z.fdiv (2+3 * (pre.length:Int))).fmod 2 == 1)) false):=by
   unfold zes
   simp_arith[sx,h3,m3,s0,n0,zd4]
  have e3:zev [some (.int (pre.length:Int)),some (.lst (ws.map T.str)),some (.lst xs)]=some (.v (.str v) false):=by
   unfold zev
   simp_arith[za8,av]
  rw[ya8,List.range'_succ,yah];unfold zfy;cases hb:((z.fdiv (2+3 * (pre.length:Int))).fmod 2 == 1)
  ·rw[hb]at e2;refine⟨N,hN.cons v,?_⟩;simp only[e1,e2,ih]
  ·rw[hb]at e2;refine⟨v::N,hN.cons₂ v,?_⟩;simp only[e1,e2,e3,ih]
   rfl
theorem nou_ex{ws:List Str}(hl:ws.length<=7){xs:List T}{z:Int}(h3:atI xs 3=some (.int z))(sx:shL xs=true):∃N:List Str,N.Sublist ws/\zfy (bNm 0) zes zev (mT ws.length fun i=>.int (i:Int)) [none,some (.lst (ws.map T.str)),some (.lst xs)]=some (N.map T.str):=by
 obtain⟨N,hN,e⟩:=nou_lc h3 sx ws [] none rfl hl;rw[ybd,<- List.range_eq_range']at e;exact⟨N,hN,e⟩
theorem nodup_rev{l:List Str}(h:l.Nodup):l.reverse.Nodup:=by
 unfold List.Nodup at h ⊢;rw[List.pairwise_reverse];exact h.imp fun a=>a.symm
theorem exc_cs:Tx.cs (Str.ofString "!")=[33]/\Tx.cs (Str.ofString "?")=[63]/\(Str.ofString "!").length=1/\(Str.ofString "?").length=1:=by decide +kernel
def Nmn(x:Str):Prop:=Sml x/\1<=x.cps.size/\x.cps.size<=8
theorem sgn_at{f:Nat->Str}(hf:∀k,Nmn (f k))(z:Int):∃y:Str,Sgn y/\atI [T.str (Str.ofString ""),.str (Str.ofString ""),.str (f 20++Str.ofString "!"),.str (f 20++Str.ofString "?"),.str (f 21++Str.ofString "?"),.str (f 0++Str.ofString "!")] (z.fmod 6)=some (.str y):=by
 obtain⟨q1,q2,_,_⟩:=exc_cs
 have h6:z.fmod 6=0\/z.fmod 6=1\/z.fmod 6=2\/z.fmod 6=3\/z.fmod 6=4\/z.fmod 6=5:=by
  rw[fm (by decide)]
  omega
 have k1:∀k,Sgn (f k++Str.ofString "!"):=fun k=>.inr ⟨f k,33,(hf k).1,(hf k).2.1,(hf k).2.2,.inl rfl,by rw[Tx.cs_app,q1]⟩
 have k2:∀k,Sgn (f k++Str.ofString "?"):=fun k=>.inr ⟨f k,63,(hf k).1,(hf k).2.1,(hf k).2.2,.inr rfl,by rw[Tx.cs_app,q2]⟩
 rcases h6 with h|h|h|h|h|h
 ·exact⟨_,.inl rfl,by rw[h];exact zb8 (by decide) rfl⟩
 ·exact⟨_,.inl rfl,by rw[h];exact zb8 (by decide) rfl⟩
 ·exact⟨_,k1 20,by rw[h];exact zb8 (by decide) rfl⟩
 ·exact⟨_,k2 20,by rw[h];exact zb8 (by decide) rfl⟩
 ·exact⟨_,k2 21,by rw[h];exact zb8 (by decide) rfl⟩
 ·exact⟨_,k1 0,by rw[h];exact zb8 (by decide) rfl⟩
theorem mT_at{n:Nat}{g:Nat->T}{i:Nat}(h:i<n):atI (mT n g) (i:Int)=some (g i):=zb8 (ybe _) (by rw[ybl,znf h])
abbrev qD(ns:List Int)(R:List (Str×List Lk))(W:List Str)(f:Nat->Str)(r:PSt):PSt:=some (zbf ns)::some (.lst (R.map rxT))::some (.lst (W.map T.str))::some (.lst (mT 22 fun k=>.str (f k)))::r
theorem door_turn{ns:List Int}{ws:List Str}{R:List (Str×List Lk)}{f:Nat->Str}(hw:∀x∈ws,Wnm x)(hd:ws.Nodup)(hl:ws.length<=7)(hR:R≠[])(hf:∀k,Nmn (f k)){l:List T}(hl2:l.length<1000){k:Nat}{x6 x7 x8 x9:Option T}:∃d:Dx,DxOk ws (R.map (·.1)) d/\∃y6 y7 y8 y9,zh2 (qD ns R ws f [some (.own l),some (.int (k:Int)),x6,x7,x8,x9])
  = some (.nx (qD ns R ws f [some (.own (l++[dxT d])),some (.int (k:Int)),y6,y7,y8,y9])):=by
 have c5:=zfm ns (k:=5+(k:Int)) (by lia)
 have c13:=zfm ns (k:=13) (by decide)
 obtain⟨xs,ex⟩:=st_ex (ns.getD (5+(k:Int)).toNat 0) (m:=5) (by decide)
 have ex':zd7 [.int (ns.getD (5+(k:Int)).toNat 0),.int 5]=some (.ok (.own (mT 5 fun i=>.int (xs i)))):=ex
 have sx:shL (mT 5 fun i=>T.int (xs i))=true:=rfl
 have sx2:zae (mT 5 fun i=>T.int (xs i))=mT 5 fun i=>T.int (xs i):=rfl
 have a0:atI (mT 5 fun i=>T.int (xs i)) 0=some (.int (xs 0)):=mT_at (i:=0) (by decide)
 have a1:atI (mT 5 fun i=>T.int (xs i)) 1=some (.int (xs 1)):=mT_at (i:=1) (by decide)
 have a2:atI (mT 5 fun i=>T.int (xs i)) 2=some (.int (xs 2)):=mT_at (i:=2) (by decide)
 have a3:atI (mT 5 fun i=>T.int (xs i)) 3=some (.int (xs 3)):=mT_at (i:=3) (by decide)
 have a4:atI (mT 5 fun i=>T.int (xs i)) 4=some (.int (xs 4)):=mT_at (i:=4) (by decide)
 obtain⟨G,hG,eG⟩:=looks_ok hw (wd:=wdS) (fun _ h=>h) (ybw _ _) (xs 2) (ns.getD (13:Int).toNat 0)
 have eG':zfq [.int (xs 2),.lst (ws.map T.str),.lst [.str (Str.ofString "<"),.str (Str.ofString "<="),.str (Str.ofString ">"),.str (Str.ofString ">="),.str (Str.ofString "=")],.int (ns.getD (13:Int).toNat 0)]=some (.ok (.own (G.map lkT))):=eG;obtain⟨N,hN,eN⟩:=nou_ex hl a3 sx;obtain⟨y,hy,ey⟩:=sgn_at hf (xs 4);obtain⟨r1,hr1,er1⟩:=mod_at R hR (xs 0);obtain⟨r2,hr2,er2⟩:=mod_at R hR (xs 1);have er1':=at_map rxT er1;have er2':=at_map rxT er2;have b1:atI [T.str r1.1,.lst (r1.2.map lkT)] 0=some (.str r1.1):=zb8 (by decide) rfl
 have b2:atI [T.str r2.1,.lst (r2.2.map lkT)] 0=some (.str r2.1):=zb8 (by decide) rfl
 have n0:atI (mT 22 fun k=>T.str (f k)) 0=some (.str (f 0)):=mT_at (i:=0) (by decide)
 have n20:atI (mT 22 fun k=>T.str (f k)) 20=some (.str (f 20)):=mT_at (i:=20) (by decide)
 have n21:atI (mT 22 fun k=>T.str (f k)) 21=some (.str (f 21)):=mT_at (i:=21) (by decide)
 have sn:shL (mT 22 fun k=>T.str (f k))=true:=zi7 fun _=>rfl
 have sn2:zae (mT 22 fun k=>T.str (f k))=mT 22 fun k=>T.str (f k):=za1 _ sn
 obtain⟨_,_,q3,q4⟩:=exc_cs;have fl:∀k,(f k).length<=8:=fun k=>(hf k).2.2
 have z1:=fun k=>zl (fl k) (yax q3) (by decide)
 have z2:=fun k=>zl (fl k) (yax q4) (by decide)
 have l0:=len_ne hR;have lw:ws.length<=lim:=by unfold lim;lia
 have okw:ok62 (ws.length:Int)=true:=zh8 (yaj hl (by decide))
 have er:zeq 0 ws.length=mT ws.length fun i=>.int (i:Int):=zd2
 have s6:s70 6=true:=zep (by decide) (by decide)
 have sc:=ze1 ns;have ss:=zi6 ns;have ll:l.length<100000:=by lia
 have ml:(mT ws.length fun i=>T.int (i:Int)).length<=lim:=by rw[zd3];exact lw
 have hNl:N.length<=7:=yaj hN.length_le hl
 obtain⟨N',hN1,hN2,hN3,eN'⟩:∃N':List Str,(∀x∈N',x∈ws)/\N'.Nodup/\N'.length<=7/\((((xs 4).fdiv 6).fmod 2 == 1)=true/\N'=N.reverse\/(((xs 4).fdiv 6).fmod 2 == 1)=false/\N'=N):=by
  cases hc:(((xs 4).fdiv 6).fmod 2 == 1)
  ·exact⟨N,fun x hx=>hN.subset hx,hd.sublist hN,hNl,.inr ⟨rfl,rfl⟩⟩
  ·exact⟨N.reverse,fun x hx=>hN.subset (List.mem_reverse.mp hx),nodup_rev (hd.sublist hN),by rw[ycw];exact hNl,.inl ⟨rfl,rfl⟩⟩
 refine⟨⟨r1.1,r2.1,G,N',y⟩,⟨yaf.mpr ⟨r1,hr1,rfl⟩,yaf.mpr ⟨r2,hr2,rfl⟩,hG,hN1,hN2,hN3,hy⟩,some (.lst (mT 5 fun i=>.int (xs i))),some (.lst (G.map lkT)),some (.lst (N'.map T.str)),some (.str y),?_⟩
 unfold zh2;refine sq (τ':=(qD ns R ws f [some (.own l),some (.int (k:Int)),some (.lst (mT 5 fun i=>.int (xs i))),x7,x8,x9])) (by simp_arith[sc,ss,c5,ex',sx2]) ?_
 refine sq (τ':=(qD ns R ws f [some (.own l),some (.int (k:Int)),some (.lst (mT 5 fun i=>.int (xs i))),some (.lst (G.map lkT)),x8,x9])) (by simp_arith[sc,ss,c13,sx,a2,za3,za8,eG',zak]) ?_
 refine sq (τ':=(qD ns R ws f [some (.own l),some (.int (k:Int)),some (.lst (mT 5 fun i=>.int (xs i))),some (.lst (G.map lkT)),some (.lst (N.map T.str)),x9])) (by simp_arith[za3,za8,ya0,okw,er,sx,sx2,lw,eN]) ?_
 refine sq (τ':=(qD ns R ws f [some (.own l),some (.int (k:Int)),some (.lst (mT 5 fun i=>.int (xs i))),some (.lst (G.map lkT)),some (.lst (N.map T.str)),some (.str y)])) (by simp_arith[sn,sn2,n0,n20,n21,z1,z2,sx,a4,ey]) ?_
 refine sq (τ':=(qD ns R ws f [some (.own l),some (.int (k:Int)),some (.lst (mT 5 fun i=>.int (xs i))),some (.lst (G.map lkT)),some (.lst (N'.map T.str)),some (.str y)])) ?_ ?_
 ·rcases eN' with ⟨hc,rfl⟩|⟨hc,rfl⟩
  ·have rv:(N.map T.str).reverse=N.reverse.map T.str:=(yef ..).symm
   simp_arith[sx,a4,s6,zd4,hc,mRv,show(-(1:Int))=-1 from rfl,za3,za8,rv]
  ·simp_arith[sx,a4,s6,zd4,hc]
 simp_arith[sx,a0,a1,zfr,zax,ya0,l0,er1',er2',rxT,b1,b2,zb1,zak,za3,za8,ll]
 rfl
theorem doors_ok{ns:List Int}{ws:List Str}{R:List (Str×List Lk)}{f:Nat->Str}(hw:∀x∈ws,Wnm x)(hd:ws.Nodup)(hl:ws.length<=7)(hR:R≠[])(hf:∀k,Nmn (f k)):∃D:List Dx,D.length<=8/\(∀d∈D,DxOk ws (R.map (·.1)) d)/\zkp [zbf ns,.lst (R.map rxT),.lst (ws.map T.str),.lst (mT 22 fun k=>.str (f k))]=some (.ok (.own (D.map dxT))):=by
 have c4:=zfm ns (k:=4) (by decide)
 obtain⟨q,hq⟩:=ybq (yb9 (ns.getD (4:Int).toNat 0) (show(0:Int)<9 by decide))
 have hq9:=ybk (ns.getD (4:Int).toNat 0) (show(0:Int)<9 by decide)
 rw[hq]at hq9;have hq9':q<9:=ycf.mp hq9
 obtain⟨τ,e,D,hD,hok,y5,y6,y7,y8,y9,rfl⟩:=zb3 (b:=bNm 5) (body:=zh2) (ts:=mT q fun i=>.int (i:Int)) (τ:=(qD ns R ws f [some (.own []),none,none,none,none,none]))
  (fun i τ=>∃D:List Dx,D.length=i/\(∀d∈D,DxOk ws (R.map (·.1)) d)/\∃y5 y6 y7 y8 y9,τ=(qD ns R ws f [some (.own (D.map dxT)),y5,y6,y7,y8,y9])) ⟨[],rfl,fun _ z=>(by cases z),none,none,none,none,none,rfl⟩ fun i t τ h1 h2=>by
   obtain⟨hi,rfl⟩:=zc6 h1;obtain⟨D,hD,hok,y5,y6,y7,y8,y9,rfl⟩:=h2;obtain⟨d,hd',z6,z7,z8,z9,ew⟩:=door_turn (ns:=ns) (k:=i) hw hd hl hR hf (l:=D.map dxT) (by rw[ya0];lia) (x6:=y6) (x7:=y7) (x8:=y8) (x9:=y9)
   refine⟨_,(by simp_arith[]),_,ew,D++[d],(by rw[ya5,hD];rfl),fun u hu=>?_,some (.int (i:Int)),z6,z7,z8,z9,(by rw[yaq];rfl)⟩
   rcases yai.mp hu with hu|hu
   ·exact hok u hu
   ·rw[ya6.mp hu];exact hd'
 rw[zd3]at hD;have ok:ok62 (q:Int)=true:=zh8 (by lia)
 have er:zeq 0 q=mT q fun i=>.int (i:Int):=zd2
 have sn:shL (mT 22 fun k=>T.str (f k))=true:=zi7 fun _=>rfl
 have sn2:zae (mT 22 fun k=>T.str (f k))=mT 22 fun k=>T.str (f k):=za1 _ sn
 refine⟨D,by lia,hok,?_⟩
 unfold zkp m_Ldoors
 simp_arith[ze1,zi6,c4,hq,ok,er,zfr,zax,za3,za8,sn,sn2,e]
abbrev zf6:Stmt:=top 54
theorem zmk:FnScope ["_law_looks_here"] ["_law_looks_here"] (za2 zf6):=⟨rfl,rfl,rfl,by decide +kernel,rfl,by decide +kernel,by decide +kernel⟩
def zch:PSt->Option Rs :=
 (mAp (g2 zcl) (za0 (mAp (g2 zcl) (za0 (mAp (g2 zcl) (za0 (mC (.str " ")) (za0 (za5 0) za4))) (za0 (za5 1) za4))) (za0 (mAp (g1 strT) (za0 (za5 2) za4)) za4)))
def zfh:PSt->Option Out :=
 (zcn (mJn (mC (.str "")) (mLC 3 [] (zfj (za5 0)) (zi4 3 (zao (bNm 0) (zao (bNm 1) (zao (bNm 2) ziv)))) (mC (.bl true)) zch)))
def zck:List T->Option Ru:=zdl 1 1 zfh
abbrev zhk:Fn:=⟨1,["_law_looks_here"],zck⟩
abbrev zms:Gx:=⟨[],[],[],[],false,true,true,none,[],[],[],true,[],[],[],[]⟩
abbrev zmy:Gm:=⟨["_law_looks_here"],(za2 zf6).names,[],0,[],["str"],[],[],[],false,[],[],[],zms⟩
theorem zn4:dSs 200 zmy (zaa zf6)=some zfh:=by kernel_rfl
def lwS(L:List Lk):Str:=Txt.join (Str.ofString "") (L.map fun k=>Str.ofString " "++k.w++k.o++Tx.dg k.n)
theorem em_is:Str.ofString ""=(⟨#[]⟩:Str):=Tx.cs_ext (by decide +kernel)
theorem lw_cs(L:List Lk):Tx.cs (lwS L)=(((L.map lkS).map Tx.cs).map (32::·)).flatten:=by
 unfold lwS;rw[jn_is,em_is,Tx.cs_join0,yak,yak,yak];refine congrArg List.flatten (ybu fun k _=>?_)
 show Tx.cs (Str.ofString " "++k.w++k.o++Tx.dg k.n)=32::Tx.cs (lkS k);rw[Tx.cs_app,Tx.cs_app,Tx.cs_app,li_b,lk_cs,yap,yap]
 rfl
theorem lw_len{L:List Lk}(h:∀k∈L,LkOk k)(hl:L.length<=63):(lwS L).length<=20000:=by
 have key:∀l:List (List Nat),(∀p∈l,p.length<=162)->((l.map (32::·)).flatten).length<=l.length * 163:=by
  intro l
  induction l with
  |nil=>intro _;exact ybi _
  |cons a r ih =>
   intro hp;have h1:=hp a (yab ..);have h2:=ih fun p hp'=>hp p (ya9 _ hp')
   rw[yah,ybm,ya5,ya8,ya8,ydr]
   omega
 have h1:=key ((L.map lkS).map Tx.cs) fun p hp=>by
  rw[yak]at hp;obtain⟨k,hk,rfl⟩:=yaf.mp hp;exact lk_len (h k hk)
 rw[<- lw_cs,ya0,ya0]at h1;rw[Tx.cs_len]
 omega
theorem lw_lc{L:List Lk}(h:∀k∈L,LkOk k):zfy (zi4 3 (zao (bNm 0) (zao (bNm 1) (zao (bNm 2) ziv)))) (mC (.bl true)) zch (L.map lkT) [none,none,none]=some (L.map fun k=>T.str (Str.ofString " "++k.w++k.o++Tx.dg k.n)) :=
 zbh (b:=zi4 3 (zao (bNm 0) (zao (bNm 1) (zao (bNm 2) ziv)))) (me:=zch) lkT (fun k=>T.str (Str.ofString " "++k.w++k.o++Tx.dg k.n)) (fun τ=>∃a b c,τ=[a,b,c]) L [none,none,none] ⟨none,none,none,rfl⟩ fun k hk τ hI=>by
  obtain⟨a,b,c,rfl⟩:=hI;have ok:=h k hk;have hn':k.n<10 ^ 63:=ybo ok.hn (by decide +kernel)
  have z0:=zl (yax ln_b) ok.hl (by decide)
  have z1:=zl (zbm (yax ln_b) ok.hl) (lk_ol ok) (by decide)
  have z2:=zl (zbm (zbm (yax ln_b) ok.hl) (lk_ol ok)) (dg_lim hn') (by decide)
  refine⟨[some (.str k.w),some (.str k.o),some (.int (k.n:Int))],by unfold lkT;simp_arith[],?_,_,_,_,rfl⟩
  unfold zch
  simp_arith[strT,log_ok hn',str_dg,z0,z1,z2]
theorem lw_sum{L:List Lk}(h:∀k∈L,LkOk k)(hl:L.length<=63):((L.map fun k=>Str.ofString " "++k.w++k.o++Tx.dg k.n).map (·.length)).sum+(L.map fun k=>Str.ofString " "++k.w++k.o++Tx.dg k.n).length * (Str.ofString "").length<=lim:=by
 have h1:=sum_le (f:=fun k:Lk=>Str.ofString " "++k.w++k.o++Tx.dg k.n) (m:=163) (l:=L) fun k hk=>by
  have ok:=h k hk;have a1:=ok.hl;have a2:=lk_ol ok;have a3:=dg_l ok.hn;rw[zfn,zfn,zfn,ln_b]
  omega
 rw[show(Str.ofString "").length=0 by decide +kernel,Nat.mul_zero,yej]
 unfold lim
 omega
theorem lt_ok{L:List Lk}(h:∀k∈L,LkOk k)(hl:L.length<=63):zck [.lst (L.map lkT)]=some (.ok (.str (lwS L))):=by
 have lcw:=lw_lc h;have lsum:=lw_sum h hl;have hj:=zkh (fun k:Lk=>Str.ofString " "++k.w++k.o++Tx.dg k.n) L
 have ll:(L.map lkT).length<=lim:=by rw[ya0];unfold lim;omega
 unfold zck zfh
 simp_arith[zak,zb1,ll,lcw,mJn,hj,lsum]
 rfl
abbrev s_Ltext:Stmt:=top 55
theorem sc_Ltext:FnScope ["_law_watches","_law_rooms","_law_doors_here","_law_rows","_law_one","_law_name","_law_stay","_law_row"] ["_law_watches","_law_rooms","_law_doors_here"] (za2 s_Ltext):=⟨rfl,rfl,rfl,by decide +kernel,rfl,by decide +kernel,by decide +kernel⟩
def zis:PSt->Option Rs :=
 (mAp (g2 zcl) (za0 (mC (.str " ")) (za0 (za5 0) za4)))
def zks:PSt->Option Out :=
 (sApp 3 (mAp (g2 zcl) (za0 (mAp (g2 zcl) (za0 (mC (.str "room ")) (za0 (za5 5) za4))) (za0 (zan zck (za0 (za5 6) za4)) za4))))
def zir:PSt->Option Rs :=
 (mAp (g2 zcl) (za0 (mAp (g2 zcl) (za0 (mC (.str " ")) (za0 (za5 0) za4))) (za0 (mC (.str ":0")) za4)))
def zkr:PSt->Option Out :=
 (zam (zda (mAp (g2 zcl) (za0 (mAp (g2 zcl) (za0 (mAp (g2 zcl) (za0 (mAp (g2 zcl) (za0 (mC (.str "door ")) (za0 (mIx (za5 4) (mC (.int 0))) za4))) (za0 (mC (.str " ")) za4))) (za0 (mIx (za5 4) (mC (.int 1))) za4))) (za0 (zan zck (za0 (mIx (za5 4) (mC (.int 2))) za4)) za4))) (bNm 7))
 (zam (zda (mAp (g2 zcl) (za0 (za5 7) (za0 (mJn (mC (.str "")) (mLC 1 [] (zfj (mIx (za5 4) (mC (.int 3)))) (bNm 0) (mC (.bl true)) zir)) za4))) (bNm 7))
 (zam (sIf (mAp (g2 neT) (za0 (mIx (za5 4) (mC (.int 4))) (za0 (mC (.str "")) za4))) (zda (mAp (g2 zcl) (za0 (mAp (g2 zcl) (za0 (za5 7) (za0 (mC (.str " ")) za4))) (za0 (mIx (za5 4) (mC (.int 4))) za4))) (bNm 7)) sNx)
 (sApp 3 (za5 7)))))
def m_Ltext:PSt->Option Out :=
 (zam (sOwn 3 (ziy (zb4 (mAp (g2 zcl) (za0 (mC (.str "watches")) (za0 (mJn (mC (.str "")) (mLC 1 [] (zfj (za5 0)) (bNm 0) (mC (.bl true)) zis)) za4))) za4)))
 (zam (sFor (zfj (za5 1)) (zi4 2 (zao (bNm 5) (zao (bNm 6) ziv))) zks)
 (zam (sFor (zfj (za5 2)) (bNm 4) zkr)
 (zcn (mJn (mC (.str "\n")) (za5 3))))))
def R_Ltext:List T->Option Ru:=zdl 3 8 m_Ltext
abbrev fn_Ltext:Fn:=⟨2,["_law_watches","_law_rooms","_law_doors_here"],R_Ltext⟩
abbrev gx_Ltext:Gx:=⟨[],[],[],[],false,true,true,none,[],[],[],true,[],[],[],[]⟩
abbrev gm_Ltext:Gm:=⟨["_law_watches","_law_rooms","_law_doors_here","_law_rows","_law_one","_law_name","_law_stay","_law_row"],(za2 s_Ltext).names,[],1,[("_law_looks_text",zhk)],[],[],["_law_rows"],[],false,[],[],[],gx_Ltext⟩
theorem ck_Ltext:dSs 200 gm_Ltext (zaa s_Ltext)=some m_Ltext:=by kernel_rfl
def jnB(l:List Str):Str:=Txt.join (Str.ofString " ") l
def flB(l:List Str):List Nat:=((l.map Tx.cs).map (32::·)).flatten
theorem jb_js(l:List Str):Tx.cs (jnB l)=Tx.joinL 32 (l.map Tx.cs):=by
 unfold jnB;rw[jn_is,bl_is,Tx.cs_join]
theorem jb_cs(a:Str)(r:List Str):Tx.cs (jnB (a::r))=Tx.cs a++flB r:=by
 rw[jb_js,yah,Tx.joinL_flat]
 rfl
theorem flB_app(l m:List Str):flB (l++m)=flB l++flB m:=by
 unfold flB;rw[yaq,yaq,List.flatten_append]
theorem zdg(a:Str)(l:List Str):flB (a::l)=32::(Tx.cs a++flB l):=rfl
theorem flB_len{l:List Str}{m:Nat}(h:∀x∈l,x.length<=m):(flB l).length<=l.length * (m+1):=by
 induction l with
 |nil=>exact ybi _
 |cons a r ih =>
  have h1:=h a (yab ..);have h2:=ih fun x hx=>h x (ya9 _ hx)
  rw[Tx.cs_len]at h1;rw[zdg,ya8,ya5,ya8,ydr]
  omega
theorem lw_fl(L:List Lk):Tx.cs (lwS L)=flB (L.map lkS):=lw_cs L
def noW(n:List Str):List Str:=n.map fun w=>w++Str.ofString ":0"
def sgW(z:Str):List Str:=if z=Str.ofString "" then [] else [z]
def wtW(ws:List Str):List Str:=Str.ofString "watches"::ws
def rmW(r:Str×List Lk):List Str:=Str.ofString "room"::r.1::r.2.map lkS
def drW(d:Dx):List Str:=Str.ofString "door"::d.s::d.e::(d.g.map lkS++(noW d.n++sgW d.z))
def mcW(ws:List Str)(R:List (Str×List Lk))(D:List Dx):List (List Str):=wtW ws::(R.map rmW++D.map drW)
def mcS(ws:List Str)(R:List (Str×List Lk))(D:List Dx):Str:=Txt.join (Str.ofString "\n") ((mcW ws R D).map jnB)
theorem j0_cs(f:Str->Str)(g:Str->Str)(h:∀w,Tx.cs (f w)=32::Tx.cs (g w))(l:List Str):Tx.cs (Txt.join (Str.ofString "") (l.map f))=flB (l.map g):=by
 rw[jn_is,em_is,Tx.cs_join0];unfold flB;rw[yak,yak,yak];exact congrArg List.flatten (ybu fun w _=>h w)
theorem c0_cs:Tx.cs (Str.ofString ":0")=[58,48]/\(Str.ofString ":0").length=2:=by decide +kernel
theorem wt_tx(ws:List Str):Str.ofString "watches"++Txt.join (Str.ofString "") (ws.map fun w=>Str.ofString " "++w)=jnB (wtW ws):=Tx.cs_ext (by
 rw[Tx.cs_app,j0_cs _ (fun w=>w) (fun w=>by rw[Tx.cs_app,li_b];rfl),List.map_id']
 exact(jb_cs _ _).symm)
theorem rm_tx(r:Str×List Lk):Str.ofString "room "++r.1++lwS r.2=jnB (rmW r):=Tx.cs_ext (by
 unfold rmW;rw[jb_cs,zdg,Tx.cs_app,Tx.cs_app,lw_fl,show Tx.cs (Str.ofString "room ")=Tx.cs (Str.ofString "room")++[32] by decide +kernel,yap,yap]
 rfl)
theorem no_tx(n:List Str):Tx.cs (Txt.join (Str.ofString "") (n.map fun w=>Str.ofString " "++w++Str.ofString ":0"))=flB (noW n):=j0_cs _ (fun w=>w++Str.ofString ":0") (fun w=>by rw[Tx.cs_app,Tx.cs_app,Tx.cs_app,li_b,yap];rfl) n
def drA(d:Dx):Str:=Str.ofString "door "++d.s++Str.ofString " "++d.e++lwS d.g++Txt.join (Str.ofString "") (d.n.map fun w=>Str.ofString " "++w++Str.ofString ":0")
theorem drA_cs(d:Dx):Tx.cs (drA d)=Tx.cs (Str.ofString "door")++flB (d.s::d.e::(d.g.map lkS++noW d.n)):=by
 unfold drA;rw[Tx.cs_app,Tx.cs_app,Tx.cs_app,Tx.cs_app,Tx.cs_app,no_tx,lw_fl,li_b,zdg,zdg,flB_app,show Tx.cs (Str.ofString "door ")=Tx.cs (Str.ofString "door")++[32] by decide +kernel]
 simp only[yap]
 rfl
theorem dr_tx0{d:Dx}(h:d.z=Str.ofString ""):drA d=jnB (drW d):=Tx.cs_ext (by
 unfold drW sgW;rw[if_pos h,jb_cs,drA_cs,yba])
theorem dr_tx1{d:Dx}(h:¬ d.z=Str.ofString ""):drA d++Str.ofString " "++d.z=jnB (drW d):=Tx.cs_ext (by
 unfold drW sgW;rw[if_neg h,jb_cs,Tx.cs_app,Tx.cs_app,drA_cs,li_b,zdg,zdg,zdg,zdg,flB_app,flB_app,flB_app,zdg];simp only[yap,ycd];show _=_;rw[show flB []=[] from rfl,yba]
 rfl)
structure TxOk(ws:List Str)(R:List (Str×List Lk))(D:List Dx):Prop where
 w:∀x∈ws,Wnm x
 wl:ws.length<=7
 r:∀r∈R,Rmn r.1/\r.1.length<=60/\LgOk ws stS r.2
 rl:R.length<=6
 d:∀d∈D,DxOk ws (R.map (·.1)) d
 dl:D.length<=8
section
variable {ws:List Str}{R:List (Str×List Lk)}{D:List Dx}(h:TxOk ws R D)
include h
theorem TxOk.nm{x:Str}(hx:x∈R.map (·.1)):Rmn x/\x.length<=60:=by
 obtain⟨r,hr,rfl⟩:=yaf.mp hx;exact⟨(h.r r hr).1,(h.r r hr).2.1⟩
theorem TxOk.wn{x:Str}(hx:x∈ws):x.length<=8:=by
 rcases h.w x hx with rfl|⟨_,_,h3⟩
 ·decide +kernel
 ·exact h3
theorem TxOk.sg{d:Dx}(hd:d∈D):d.z.length<=9:=by
 rcases(h.d d hd).z with e|⟨y,c,_,_,h3,_,e⟩
 ·rw[e]
  decide +kernel
 ·rw[Tx.cs_len,e,ya5];have:(Tx.cs y).length<=8:=h3;show _+1<=9
  omega
theorem w0_lc:zfy (bNm 0) (mC (.bl true)) zis (ws.map T.str) [none]=some (ws.map fun w=>T.str (Str.ofString " "++w)) :=
 zbh (b:=bNm 0) (me:=zis) T.str (fun w=>T.str (Str.ofString " "++w)) (fun τ=>∃a,τ=[a]) ws [none] ⟨none,rfl⟩ fun w hw τ hI=>by
  obtain⟨a,rfl⟩:=hI;have z0:=zl (yax ln_b) (h.wn hw) (by decide)
  exact⟨[some (.str w)],rfl,by unfold zis;simp_arith[z0],_,rfl⟩
theorem n0_lc{n:List Str}(hn:∀x∈n,x∈ws):zfy (bNm 0) (mC (.bl true)) zir (n.map T.str) [none]=some (n.map fun w=>T.str (Str.ofString " "++w++Str.ofString ":0")) :=
 zbh (b:=bNm 0) (me:=zir) T.str (fun w=>T.str (Str.ofString " "++w++Str.ofString ":0")) (fun τ=>∃a,τ=[a]) n [none] ⟨none,rfl⟩ fun w hw τ hI=>by
  obtain⟨a,rfl⟩:=hI;have z0:=zl (yax ln_b) (h.wn (hn w hw)) (by decide)
  have z1:=zl (zbm (yax ln_b) (h.wn (hn w hw))) (yax c0_cs.2) (by decide)
  exact⟨[some (.str w)],rfl,by unfold zir;simp_arith[z0,z1],_,rfl⟩
end
theorem j0_sum{f:Str->Str}{l:List Str}(h:∀x∈l,(f x).length<=100)(hl:l.length<=63):((l.map f).map (·.length)).sum+(l.map f).length * (Str.ofString "").length<=lim:=by
 have h1:=sum_le (f:=f) (m:=100) h;rw[show(Str.ofString "").length=0 by decide +kernel,Nat.mul_zero,yej]
 unfold lim
 omega
abbrev qT(W:List Str)(R:List (Str×List Lk))(D:List Dx)(r:PSt):PSt:=some (.lst (W.map T.str))::some (.lst (R.map rxT))::some (.lst (D.map dxT))::r
theorem txt_ok{ws:List Str}{R:List (Str×List Lk)}{D:List Dx}(h:TxOk ws R D)(hsum:(((mcW ws R D).map jnB).map (·.length)).sum+((mcW ws R D).map jnB).length * (Str.ofString "\n").length<=lim):R_Ltext [.lst (ws.map T.str),.lst (R.map rxT),.lst (D.map dxT)]=some (.ok (.str (mcS ws R D))):=by
 have w0:=w0_lc h;have wj:=zkh (fun w:Str=>Str.ofString " "++w) ws
 have wsum:=j0_sum (f:=fun w:Str=>Str.ofString " "++w) (l:=ws) (fun x hx=>by have:=h.wn hx;rw[zfn,ln_b];omega) (by have:=h.wl;omega)
 rw[ya0]at wsum hsum
 have wlen:(Txt.join (Str.ofString "") (ws.map fun w=>Str.ofString " "++w)).length<=1000:=by
  rw[Tx.cs_len,j0_cs _ (fun w=>w) (fun w=>by rw[Tx.cs_app,li_b];rfl),List.map_id']
  have h1:=flB_len (l:=ws) (m:=8) fun x hx=>h.wn hx
  have:=h.wl
  omega
 have z0:=zl (show(Str.ofString "watches").length<=7 by decide +kernel) wlen (by decide)
 have lw:ws.length<=lim:=by have:=h.wl;unfold lim;omega
 obtain⟨τ1,e1,y5,y6,rfl⟩:=zb3 (b:=zi4 2 (zao (bNm 5) (zao (bNm 6) ziv))) (body:=zks) (ts:=R.map rxT) (τ:=(qT ws R D [some (.own [.str (jnB (wtW ws))]),none,none,none,none]))
  (fun i τ=>∃y5 y6,τ=(qT ws R D [some (.own (.str (jnB (wtW ws))::(R.take i).map fun r=>T.str (jnB (rmW r)))),none,y5,y6,none])) ⟨none,none,rfl⟩ fun i t τ h1 h2=>by
   rw[yaa]at h1;obtain⟨r,hr,rfl⟩:=ya2.mp h1;have hi:=(ya4.mp hr).1;obtain⟨y5,y6,rfl⟩:=h2;obtain⟨r1,r2,r3⟩:=h.r r (yb6 hr);have e:=lt_ok r3.ok (yaj r3.1 (by decide))
   have l3:=lw_len r3.ok (yaj r3.1 (by decide))
   have z1:=zl (show(Str.ofString "room ").length<=5 by decide +kernel) r2 (by decide)
   have z2:=zl (zbm (show(Str.ofString "room ").length<=5 by decide +kernel) r2) l3 (by decide)
   have ll:((R.take i).map fun r=>T.str (jnB (rmW r))).length+1<100000:=by rw[ya0,yb2];have:=h.rl;omega
   refine⟨(qT ws R D [some (.own (.str (jnB (wtW ws))::(R.take i).map fun r=>T.str (jnB (rmW r)))),none,some (.str r.1),some (.lst (r.2.map lkT)),none]),(by unfold rxT;simp_arith[zb1,zak]),(qT ws R D [some (.own (.str (jnB (wtW ws))::((R.take i).map (fun r=>T.str (jnB (rmW r)))++[.str (jnB (rmW r))]))),none,some (.str r.1),some (.lst (r.2.map lkT)),none]),?_,some (.str r.1),some (.lst (r.2.map lkT)),?_⟩
   ·unfold zks
    simp_arith[zb1,zak,e,z1,z2,rm_tx,ll]
   ·rw[ycs,hr,yaq]
    rfl
 rw[ya0,ybx]at e1
 obtain⟨τ2,e2,x4,x7,rfl⟩:=zb3 (b:=bNm 4) (body:=zkr) (ts:=D.map dxT) (τ:=(qT ws R D [some (.own (.str (jnB (wtW ws))::R.map fun r=>T.str (jnB (rmW r)))),none,y5,y6,none]))
  (fun i τ=>∃x4 x7,τ=(qT ws R D [some (.own ((.str (jnB (wtW ws))::R.map fun r=>T.str (jnB (rmW r)))++(D.take i).map fun d=>T.str (jnB (drW d)))),x4,y5,y6,x7])) ⟨none,none,by rw[List.take_zero,yds,yba]⟩ fun i t τ h1 h2=>by
   rw[yaa]at h1;obtain⟨d,hd,rfl⟩:=ya2.mp h1;have hi:=(ya4.mp hd).1;obtain⟨x4,x7,rfl⟩:=h2;have hm:=yb6 hd;have k:=h.d d hm;obtain⟨_,s2⟩:=h.nm k.s;obtain⟨_,t2⟩:=h.nm k.e;have e:=lt_ok k.g.ok (yaj k.g.1 (by decide))
   have l3:=lw_len k.g.ok (yaj k.g.1 (by decide))
   have n1:=n0_lc h k.n;have nj:=zkh (fun w:Str=>Str.ofString " "++w++Str.ofString ":0") d.n
   have nsum:=j0_sum (f:=fun w:Str=>Str.ofString " "++w++Str.ofString ":0") (l:=d.n) (fun x hx=>by have:=h.wn (k.n x hx);rw[zfn,zfn,ln_b,c0_cs.2];omega) (by have:=k.nl;omega)
   rw[ya0]at nsum
   have nlen:(Txt.join (Str.ofString "") (d.n.map fun w=>Str.ofString " "++w++Str.ofString ":0")).length<=1000:=by
    rw[Tx.cs_len,no_tx]
    have h1:=flB_len (l:=noW d.n) (m:=10) fun x hx=>by
     obtain⟨w,hw,rfl⟩:=yaf.mp hx;have:=h.wn (k.n w hw);rw[zfn,c0_cs.2]
     omega
    have:=k.nl;unfold noW at h1;rw[ya0]at h1;unfold noW
    omega
   have a:=fun(j:Nat) x (hj:[T.str d.s,.str d.e,.lst (d.g.map lkT),.lst (d.n.map T.str),.str d.z][j]?=some x)=>(zb8 (l:=[T.str d.s,.str d.e,.lst (d.g.map lkT),.lst (d.n.map T.str),.str d.z]) (k:=(j:Int)) (ybe _) (by rw[ybl];exact hj))
   have a0:atI [T.str d.s,.str d.e,.lst (d.g.map lkT),.lst (d.n.map T.str),.str d.z] 0=some (.str d.s):=a 0 _ rfl;have a1:atI [T.str d.s,.str d.e,.lst (d.g.map lkT),.lst (d.n.map T.str),.str d.z] 1=some (.str d.e):=a 1 _ rfl;have a2:atI [T.str d.s,.str d.e,.lst (d.g.map lkT),.lst (d.n.map T.str),.str d.z] 2=some (.lst (d.g.map lkT)):=a 2 _ rfl;have a3:atI [T.str d.s,.str d.e,.lst (d.g.map lkT),.lst (d.n.map T.str),.str d.z] 3=some (.lst (d.n.map T.str)):=a 3 _ rfl;have a4:atI [T.str d.s,.str d.e,.lst (d.g.map lkT),.lst (d.n.map T.str),.str d.z] 4=some (.str d.z):=a 4 _ rfl;have b0:=show(Str.ofString "door ").length<=5 by decide +kernel
   have z1:=zl b0 s2 (by decide)
   have z2:=zl (zbm b0 s2) (yax ln_b) (by decide)
   have z3:=zl (zbm (zbm b0 s2) (yax ln_b)) t2 (by decide)
   have z4:=zl (zbm (zbm (zbm b0 s2) (yax ln_b)) t2) l3 (by decide)
   have z5:=zl (zbm (zbm (zbm (zbm b0 s2) (yax ln_b)) t2) l3) nlen (by decide)
   have dA:(drA d).length<=30000:=by
    have:=zbm (zbm (zbm (zbm (zbm b0 s2) (yax ln_b)) t2) l3) nlen;unfold drA
    omega
   have z6:=zl dA (yax ln_b) (by decide)
   have z7:=zl (zbm dA (yax ln_b)) (h.sg hm) (by decide)
   have nl:d.n.length<=lim:=by have:=k.nl;unfold lim;omega
   have nez:=znd (sgn_tx k.z) em_ok
   have ll:(R.map fun r=>T.str (jnB (rmW r))).length+((D.take i).map fun d=>T.str (jnB (drW d))).length+1<100000:=by
    rw[ya0,ya0,yb2];have h1:=h.rl;have h2:=h.dl
    omega
   refine⟨(qT ws R D [some (.own ((.str (jnB (wtW ws))::R.map fun r=>T.str (jnB (rmW r)))++(D.take i).map fun d=>T.str (jnB (drW d)))),some (dxT d),y5,y6,x7]),(by simp_arith[]),(qT ws R D [some (.own ((.str (jnB (wtW ws))::R.map fun r=>T.str (jnB (rmW r)))++((D.take i).map (fun d=>T.str (jnB (drW d)))++[.str (jnB (drW d))]))),some (dxT d),y5,y6,some (.str (jnB (drW d)))]),?_,some (dxT d),some (.str (jnB (drW d))),?_⟩
   ·unfold zkr;refine sq (τ':=(qT ws R D [some (.own ((.str (jnB (wtW ws))::R.map fun r=>T.str (jnB (rmW r)))++(D.take i).map fun d=>T.str (jnB (drW d)))),some (dxT d),y5,y6,some (.str (Str.ofString "door "++d.s++Str.ofString " "++d.e++lwS d.g))])) (by unfold dxT;simp_arith[a0,a1,a2,zb1,zak,za8,za3,e,z1,z2,z3,z4]) ?_
    refine sq (τ':=(qT ws R D [some (.own ((.str (jnB (wtW ws))::R.map fun r=>T.str (jnB (rmW r)))++(D.take i).map fun d=>T.str (jnB (drW d)))),some (dxT d),y5,y6,some (.str (drA d))])) (by unfold dxT;simp_arith[a3,zb1,zak,za8,za3,ya0,nl,n1,mJn,nj,nsum,z5];rfl) ?_
    refine sq (τ':=(qT ws R D [some (.own ((.str (jnB (wtW ws))::R.map fun r=>T.str (jnB (rmW r)))++(D.take i).map fun d=>T.str (jnB (drW d)))),some (dxT d),y5,y6,some (.str (jnB (drW d)))])) ?_ ?_
    ·by_cases hz:d.z=Str.ofString ""
     ·rw[decide_eq_true hz]at nez;unfold dxT
      simp_arith[a4,zb1,za8,nez,dr_tx0 hz]
     ·rw[decide_eq_false hz]at nez;unfold dxT
      simp_arith[a4,zb1,za8,nez,z6,z7,dr_tx1 hz]
    ·simp_arith[ya5,ll,yap]
   ·rw[ycs,hd,yaq]
    rfl
 rw[ya0,ybx]at e2
 have hj:zdp (T.str (jnB (wtW ws))::((R.map fun r=>T.str (jnB (rmW r)))++D.map fun d=>T.str (jnB (drW d))))=some ((mcW ws R D).map jnB):=by
  have:=zeo ((mcW ws R D).map jnB);unfold mcW at this ⊢;simp only[yah,yaq,yak]at this ⊢;exact this
 unfold R_Ltext m_Ltext
 simp_arith[za3,za8,zfr,zax,zm1,zd5,ya0,lw,w0,mJn,wj,wsum,z0,wt_tx,e1,e2,hj,hsum]
 rfl
abbrev zg3:Stmt:=top 44
theorem sc_door_words:FnScope ["door","noughts","signs"] ["door"] (za2 zg3):=⟨rfl,rfl,rfl,by decide +kernel,rfl,by decide +kernel,by decide +kernel⟩
def zcy:PSt->Option Rs :=
 (mAp (g2 zcl) (za0 (za5 0) (za0 (mC zb7) za4)))
def zgb:PSt->Option Out :=
 (zam (zda (mLC 1 [] (zfj (zfi zai zap zc4 (za5 0) za4)) (bNm 0) (mC (.bl true)) zcy) (bNm 1))
 (zam (zda (mIf (mAp (g2 eqT) (za0 (zie zai zap 4 (za5 0)) (za0 (mC (.str "")) za4))) (ziy za4) (ziy (zb4 (zie zai zap 4 (za5 0)) za4))) (bNm 2))
 (zcn (mAp (g2 zcl) (za0 (mAp (g2 zcl) (za0 (mAp (g2 zcl) (za0 (ziy (zb4 (mC (.str "door")) (zb4 (zie zai zap 0 (za5 0)) (zb4 (zie zai zap 1 (za5 0)) za4)))) (za0 (zan zd6 (za0 (zfi zai zap zc5 (za5 0) za4) za4)) za4))) (za0 (za5 1) za4))) (za0 (za5 2) za4))))))
def ze7:List T->Option Ru:=zdl 1 3 zgb
abbrev zil:Fn:=⟨3,["door"],ze7⟩
abbrev gx_door_words:Gx:=⟨[("NOUGHT_END",zb7)],[("Door",zai,zap)],[("sets",zai,zap,zju),("asks",zai,zap,zjw)],[],false,true,true,none,[],[],[],true,[],[],[],[]⟩
abbrev gm_door_words:Gm:=⟨["door","noughts","signs"],(za2 zg3).names,[],2,[("show_looks",zfl)],[],[],[],[],false,[],[],[],gx_door_words⟩
theorem ck_door_words:dSs 200 gm_door_words (zaa zg3)=some zgb:=by kernel_rfl
theorem dw_lc{ws:List Str}{R:List (Str×List Lk)}{D:List Dx}(h:TxOk ws R D){n:List Str}(hn:∀x∈n,x∈ws):zfy (bNm 0) (mC (.bl true)) zcy (n.map T.str) [none]=some (n.map fun w=>T.str (w++Str.ofString ":0")) :=
 zbh (b:=bNm 0) (me:=zcy) T.str (fun w=>T.str (w++Str.ofString ":0")) (fun τ=>∃a,τ=[a]) n [none] ⟨none,rfl⟩ fun w hw τ hI=>by
  obtain⟨a,rfl⟩:=hI;have z0:=zl (h.wn (hn w hw)) (yax c0_cs.2) (by decide)
  exact⟨[some (.str w)],rfl,by unfold zcy zb7;simp_arith[z0],_,rfl⟩
theorem drW_T(d:Dx):(drW d).map T.str=[T.str (Str.ofString "door"),.str d.s,.str d.e]++(d.g.map fun k=>T.str (lkS k))++(d.n.map fun w=>T.str (w++Str.ofString ":0"))++(sgW d.z).map T.str:=by
 unfold drW noW;simp only[yah,yaq,yak,yap,ycd,ycy]
 rfl
theorem sgW_len(z:Str):(sgW z).length<=1:=by
 unfold sgW;split
 ·exact ybi _
 ·exact yad _
theorem dw_ok{ws:List Str}{R:List (Str×List Lk)}{D:List Dx}(h:TxOk ws R D){d:Dx}(hd:d∈D):ze7 [zbq (dxD d)]=some (.ok (.own ((drW d).map T.str))):=by
 have k:=h.d d hd;have n1:=dw_lc h k.n;have e1:=ds_ok71 (d:=dxD d) (zb1 d.g);have e2:=da_ok71 (d:=dxD d) (zb1 d.g);have e3:=slk_ok k.g.ok (yaj k.g.1 (by decide))
 have ez:=zgs (sgn_tx k.z) em_ok;have nl:d.n.length<=lim:=by have:=k.nl;unfold lim;omega
 have s1:shL (d.g.map fun k=>T.str (lkS k))=true:=zde (fun _=>rfl) d.g
 have s2:shL (d.n.map fun w=>T.str (w++Str.ofString ":0"))=true:=zde (fun _=>rfl) d.n
 have gl:=k.g.1;have nl7:=k.nl;have l1:3+d.g.length<=lim:=by unfold lim;omega
 have l2:d.g.length+1+1+1+d.n.length<=lim:=by unfold lim;omega
 have l3:d.g.length+d.n.length+1+1+1<=lim:=by unfold lim;omega
 have l4:d.g.length+d.n.length+1+1+1+1<=lim:=by unfold lim;omega
 have sx:zae ((d.g.map fun k=>T.str (lkS k))++d.n.map fun w=>T.str (w++Str.ofString ":0"))=(d.g.map fun k=>T.str (lkS k))++d.n.map fun w=>T.str (w++Str.ofString ":0"):=by
  refine za1 _ ?_;rw[zaw,ycl,<- zaw,<- zaw,s1,s2]
  rfl
 have fl:(dxD d).g=d.g.map lkT:=rfl;have fn:(dxD d).n=d.n:=rfl;rw[drW_T];unfold ze7 zgb
 by_cases hz:d.z=Str.ofString ""
 ·have hs:sgW d.z=[]:=by unfold sgW;rw[if_pos hz]
  rw[decide_eq_true hz]at ez;rw[hs];unfold dxD at *
  simp_arith[e1,e2,zb1,zak,za8,za3,ya0,nl,n1,ez,e3,s1,s2,za1 _ s1,za1 _ s2,ya5,l1,l2,l3,l4,sx,yej,yap]
 ·have hs:sgW d.z=[d.z]:=by unfold sgW;rw[if_neg hz]
  rw[decide_eq_false hz]at ez;rw[hs];unfold dxD at *
  simp_arith[e1,e2,zb1,zak,za8,za3,ya0,nl,n1,ez,e3,s1,s2,za1 _ s1,za1 _ s2,ya5,l1,l2,l3,l4,sx,yej,yap]
abbrev ze9:Stmt:=top 43
theorem zkw:FnScope ["machine","rows"] ["machine"] (za2 ze9):=⟨rfl,rfl,rfl,by decide +kernel,rfl,by decide +kernel,by decide +kernel⟩
def zc0:PSt->Option Rs :=
 (mAp (g2 zcl) (za0 (ziy (zb4 (mC (.str "room")) (zb4 (za5 0) za4))) (za0 (zan zd6 (za0 (zfi za7 za9 zay (za5 1) (za0 (za5 0) za4)) za4)) za4)))
def zbz:PSt->Option Rs :=
 (zan ze7 (za0 (za5 0) za4))
def zby:PSt->Option Rs :=
 (mJn (mC (.str " ")) (za5 0))
def zcv:PSt->Option Out :=
 (zam (sOwn 1 (ziy (zb4 (mAp (g2 zcl) (za0 (ziy (zb4 (mC (.str "watches")) za4)) (za0 (zfi za7 za9 zal (za5 0) za4) za4))) za4)))
 (zam (sExt 1 (mLC 1 [0] (zfj (zfi za7 za9 zaq (za5 0) za4)) (bNm 0) (mC (.bl true)) zc0))
 (zam (sExt 1 (mLC 1 [] (zfj (zfi za7 za9 zar (za5 0) za4)) (bNm 0) (mC (.bl true)) zbz))
 (zam (sFrz 1) (zcn (mJn (mC (.str "\n")) (mLC 1 [] (zfj (za5 1)) (bNm 0) (mC (.bl true)) zby)))))))
def zbw:List T->Option Ru:=zdl 1 2 zcv
abbrev zgm:Fn:=⟨4,["machine"],zbw⟩
abbrev zln:Gx:=⟨[],[],[("watches",za7,za9,ze5),("rooms",za7,za9,zfw),("stay",za7,za9,zgq),("doors",za7,za9,zfx)],[],false,true,true,none,[],[],[],true,[],[],[],[]⟩
abbrev zls:Gm:=⟨["machine","rows"],(za2 ze9).names,["machine"],3,[("show_looks",zfl),("door_words",zil)],[],[],["rows"],[],false,[],[],[],zln⟩
theorem zm4:dSs 200 zls (zaa ze9)=some zcv:=by kernel_rfl
def mcO(ws:List Str)(R:List (Str×List Lk))(D:List Dx):Mc:=⟨ws,R.map fun r=>(r.1,r.2.map lkT),D.map dxD⟩
theorem mc_rom(R:List (Str×List Lk)):(R.map fun r=>(r.1,r.2.map lkT)).map romT=R.map rxT:=by
 rw[yak]
 rfl
theorem ins_mc(M:Mc):zmm za7 za9 (zht M)=some [.lst (M.ws.map T.str),.obj (.sdc (M.rs.map (·.1))) (M.rs.map fun r=>.lst r.2),.lst (M.ds.map zbq)]:=(show zmm za7 za9 (zht M)=(if za7=za7/\za9=za9 then some [.lst (M.ws.map T.str),.obj (.sdc (M.rs.map (·.1))) (M.rs.map fun r=>.lst r.2),.lst (M.ds.map zbq)] else none) from rfl).trans (if_pos ⟨rfl,rfl⟩)
structure AlOk(ws:List Str)(R:List (Str×List Lk))(D:List Dx):Prop where
 t:TxOk ws R D
 wd:ws.Nodup
 r0:R≠[]
 r1:∀r∈R,1<=r.1.length
 rd:(R.map (·.1)).Nodup
theorem AlOk.mc{ws:List Str}{R:List (Str×List Lk)}{D:List Dx}(h:AlOk ws R D):McOk (mcO ws R D):=by
 have en:((R.map fun r=>(r.1,r.2.map lkT)).map (·.1))=R.map (·.1):=by rw[yak];rfl
 refine⟨h.t.w,h.wd,h.t.wl,⟨?_,?_,fun r hr=>?_,?_,fun r hr=>?_⟩,fun d hd=>?_,?_⟩
 ·show 1<=(R.map fun r=>(r.1,r.2.map lkT)).length
  rw[ya0];exact ydy.mpr h.r0
 ·show(R.map fun r=>(r.1,r.2.map lkT)).length<=64
  rw[ya0];have:=h.t.rl
  omega
 ·obtain⟨q,hq,rfl⟩:=yaf.mp hr;exact⟨(h.t.r q hq).1,h.r1 q hq,(h.t.r q hq).2.1⟩
 ·show((R.map fun r=>(r.1,r.2.map lkT)).map (·.1)).Nodup
  rw[en];exact h.rd
 ·obtain⟨q,hq,rfl⟩:=yaf.mp hr;have k:=(h.t.r q hq).2.2;refine⟨k.lks,?_⟩;rw[ya0];have:=k.1
  omega
 ·obtain⟨q,hq,rfl⟩:=yaf.mp hd;have k:=h.t.d q hq;refine⟨?_,?_,k.g.lks,?_,k.n,k.nd,?_,k.z⟩
  ·show q.s∈(R.map fun r=>(r.1,r.2.map lkT)).map (·.1)
   rw[en];exact k.s
  ·show q.e∈(R.map fun r=>(r.1,r.2.map lkT)).map (·.1)
   rw[en];exact k.e
  ·show(q.g.map lkT).length<=1000;rw[ya0];have:=k.g.1
   omega
  ·have:=k.nl;show q.n.length<=100
   omega
 ·show(D.map dxD).length<=200;rw[ya0];have:=h.t.dl
  omega
section
variable {ws:List Str}{R:List (Str×List Lk)}{D:List Dx}(h:AlOk ws R D)
include h
theorem stay_ok{r:Str×List Lk}(hr:r∈R):zay [zht (mcO ws R D),.str r.1]=some (.ok (.own (r.2.map lkT))):=by
 obtain⟨i,hi,e⟩:=List.mem_iff_getElem.mp hr
 have hi':i<(mcO ws R D).rs.length:=by
  show i<(R.map fun r=>(r.1,r.2.map lkT)).length
  rw[ya0];exact hi
 have e2:(mcO ws R D).rs[i]?=some (r.1,r.2.map lkT):=by
  show(R.map fun r=>(r.1,r.2.map lkT))[i]?=_
  rw[yaa,ya1 hi,e]
  rfl
 have e2:=(ya4.mp e2).2;have k:=ms_ok71 h.mc hi';rw[e2]at k;exact k
theorem sm_lc2:zfy (bNm 0) (mC (.bl true)) zc0 ((R.map (·.1)).map T.str) [none,some (zht (mcO ws R D))]=some (R.map fun r=>T.own ((rmW r).map T.str)):=by
 have hs:=h.mc.sh;have hs2:=zbc _ hs;have em:(R.map (·.1)).map T.str=R.map fun r=>T.str r.1:=by rw[yak];rfl
 rw[em];refine zbh (b:=bNm 0) (me:=zc0) (fun r:Str×List Lk=>T.str r.1) (fun r=>T.own ((rmW r).map T.str)) (fun τ=>∃a,τ=[a,some (zht (mcO ws R D))]) R _ ⟨none,rfl⟩ fun r hr τ hI=>?_
 obtain⟨a,rfl⟩:=hI;have k:=(h.t.r r hr).2.2;have e1:=stay_ok h hr;have e2:=slk_ok k.ok (yaj k.1 (by decide))
 have l1:2+r.2.length<=lim:=by have:=k.1;unfold lim;omega
 have s1:shL (r.2.map fun k=>T.str (lkS k))=true:=zde (fun _=>rfl) r.2
 have er:(rmW r).map T.str=T.str (Str.ofString "room")::T.str r.1::r.2.map fun k=>T.str (lkS k):=by
  unfold rmW;rw[yah,yah,yak]
  rfl
 have hi:zmm za7 za9 (zht (mcO ws R D))=some [.lst ((mcO ws R D).ws.map T.str),.obj (.sdc ((mcO ws R D).rs.map (·.1))) ((mcO ws R D).rs.map fun r=>.lst r.2),.lst ((mcO ws R D).ds.map zbq)]:=ins_mc _
 generalize hM:zht (mcO ws R D)=M at *;refine⟨[some (.str r.1),some M],rfl,?_,_,rfl⟩;rw[er];unfold zc0
 simp_arith[-zmm,hi,hs,hs2,e1,zb1,zak,e2,s1,za1 _ s1,ya0,l1]
theorem sm_lc3:zfy (bNm 0) (mC (.bl true)) zbz ((D.map dxD).map zbq) [none]=some (D.map fun d=>T.own ((drW d).map T.str)):=by
 have em:(D.map dxD).map zbq=D.map fun d=>zbq (dxD d):=by rw[yak];rfl
 rw[em];refine zbh (b:=bNm 0) (me:=zbz) (fun d=>zbq (dxD d)) (fun d=>T.own ((drW d).map T.str)) (fun τ=>∃a,τ=[a]) D _ ⟨none,rfl⟩ fun d hd τ hI=>?_
 obtain⟨a,rfl⟩:=hI;have e:=dw_ok h.t hd;have hs:(zbq (dxD d)).sh=true:=dor_sh (h.mc.d _ (yaf.mpr ⟨d,hd,rfl⟩));have hs2:=zbc _ hs;generalize hM:zbq (dxD d)=M at *;refine⟨[some M],rfl,?_,_,rfl⟩;unfold zbz
 simp_arith[hs,hs2,e]
theorem wrd_len:∀l∈mcW ws R D,l.length<=20/\∀x∈l,x.length<=200:=fun l hl=>by
 have lk:∀{wd:List Str} {L:List Lk},LgOk ws wd L->∀x∈L.map lkS,x.length<=200:=fun k x hx=>by
  obtain⟨u,hu,rfl⟩:=yaf.mp hx;have:=lk_len (k.ok u hu)
  omega
 rcases ya7.mp hl with rfl|hl
 ·refine⟨by unfold wtW;rw[ya8];have:=h.t.wl;omega,fun x hx=>?_⟩
  rcases ya7.mp hx with rfl|hx
  ·decide +kernel
  ·have:=h.t.wn hx
   omega
 ·rcases yai.mp hl with hl|hl
  ·obtain⟨r,hr,rfl⟩:=yaf.mp hl;obtain⟨_,k2,k3⟩:=h.t.r r hr;refine⟨by unfold rmW;rw[ya8,ya8,ya0];have:=k3.1;omega,fun x hx=>?_⟩
   rcases ya7.mp hx with rfl|hx
   ·decide +kernel
   ·rcases ya7.mp hx with rfl|hx
    ·omega
    ·exact lk k3 x hx
  ·obtain⟨d,hd,rfl⟩:=yaf.mp hl;have k:=h.t.d d hd;refine⟨?_,fun x hx=>?_⟩
   ·unfold drW noW;rw[ya8,ya8,ya8,ya5,ya5,ya0,ya0];have h1:=k.g.1;have h2:=k.nl;have h3:=sgW_len d.z
    omega
   ·rcases ya7.mp hx with rfl|hx
    ·decide +kernel
    ·rcases ya7.mp hx with rfl|hx
     ·have:=(h.t.nm k.s).2
      omega
     ·rcases ya7.mp hx with rfl|hx
      ·have:=(h.t.nm k.e).2
       omega
      ·rcases yai.mp hx with hx|hx
       ·exact lk k.g x hx
       ·rcases yai.mp hx with hx|hx
        ·obtain⟨w,hw,rfl⟩:=yaf.mp hx;have:=h.t.wn (k.n w hw);rw[zfn,c0_cs.2]
         omega
        ·have h9:=h.t.sg hd;unfold sgW at hx;split at hx
         ·cases hx
         ·rw[ya6.mp hx]
          omega
theorem row_len:∀l∈mcW ws R D,(jnB l).length<=5000:=fun l hl=>by
 obtain⟨h1,h2⟩:=wrd_len h l hl;cases l with
 |nil=>decide +kernel
 |cons a r =>
  have h3:=h2 a (yab ..);have h4:=flB_len (l:=r) (m:=200) fun x hx=>h2 x (ya9 _ hx)
  rw[ya8]at h1;rw[Tx.cs_len]at h3;rw[Tx.cs_len,jb_cs,ya5];have:r.length * (200+1)<=19 * 201:=ycu 201 (by omega)
  omega
theorem mcW_len:(mcW ws R D).length<=15:=by
 unfold mcW;rw[ya8,ya5,ya0,ya0];have h1:=h.t.rl;have h2:=h.t.dl
 omega
theorem mc_sum:(((mcW ws R D).map jnB).map (·.length)).sum+((mcW ws R D).map jnB).length * (Str.ofString "\n").length<=lim:=by
 have h1:=sum_le (f:=jnB) (m:=5000) (l:=mcW ws R D) (row_len h);have h2:=mcW_len h;rw[show(Str.ofString "\n").length=1 by decide +kernel,ya0]
 have:(mcW ws R D).length * 5000<=15 * 5000:=ycu 5000 h2;unfold lim
 omega
theorem jb_sum{l:List Str}(hl:l∈mcW ws R D):(l.map (·.length)).sum+l.length * (Str.ofString " ").length<=lim:=by
 obtain⟨h1,h2⟩:=wrd_len h l hl;have h3:=sum_le (f:=fun x:Str=>x) (m:=200) (l:=l) h2
 rw[List.map_id']at h3;have:l.length * 200<=20 * 200:=ycu 200 h1;rw[ln_b];unfold lim
 omega
theorem sm_lc4:zfy (bNm 0) (mC (.bl true)) zby ((mcW ws R D).map fun l=>T.lst (l.map T.str)) [none]=some ((mcW ws R D).map fun l=>T.str (jnB l)):=by
 refine zbh (b:=bNm 0) (me:=zby) (fun l:List Str=>T.lst (l.map T.str)) (fun l=>T.str (jnB l)) (fun τ=>∃a,τ=[a]) (mcW ws R D) _ ⟨none,rfl⟩ fun l hl τ hI=>?_
 obtain⟨a,rfl⟩:=hI;have z:=jb_sum h hl;refine⟨[some (.lst (l.map T.str))],rfl,?_,_,rfl⟩
 unfold zby
 simp_arith[za8,mJn,zeo,z]
 rfl
theorem shm_ok:zbw [zht (mcO ws R D)]=some (.ok (.str (mcS ws R D))):=by
 have hs:=h.mc.sh;have hs2:=zbc _ hs;have e1:zal [zht (mcO ws R D)]=some (.ok (.own (ws.map T.str))):=mw_ok71 h.mc
 have e2:zaq [zht (mcO ws R D)]=some (.ok (.own ((R.map (·.1)).map T.str))):=by
  have:=mr_ok71 h.mc;rw[show(mcO ws R D).rs.map (·.1)=R.map (·.1) by show(R.map fun r=>(r.1,r.2.map lkT)).map (·.1)=_;rw[yak];rfl]at this
  exact this
 have e3:zar [zht (mcO ws R D)]=some (.ok (.own ((D.map dxD).map zbq))):=md_ok71 h.mc;have sd:shL ((D.map dxD).map zbq)=true:=h.mc.sd;have l2:=sm_lc2 h;have l3:=sm_lc3 h;have l4:=sm_lc4 h;have hi:zmm za7 za9 (zht (mcO ws R D))=some [.lst ((mcO ws R D).ws.map T.str),.obj (.sdc ((mcO ws R D).rs.map (·.1))) ((mcO ws R D).rs.map fun r=>.lst r.2),.lst ((mcO ws R D).ds.map zbq)]:=ins_mc _
 have m1:1+ws.length<=lim:=by have:=h.t.wl;unfold lim;omega
 have m2:R.length<=lim:=by have:=h.t.rl;unfold lim;omega
 have m3:D.length<=lim:=by have:=h.t.dl;unfold lim;omega
 have m4:1+R.length<=lim:=by have:=h.t.rl;unfold lim;omega
 have m5:R.length+1+D.length<=lim:=by have h1:=h.t.rl;have h2:=h.t.dl;unfold lim;omega
 have m6:(mcW ws R D).length<=lim:=by have:=mcW_len h;unfold lim;omega
 have hsum:=mc_sum h;rw[ya0]at hsum;have hj:=zkh jnB (mcW ws R D)
 have sR:zae (R.map fun r=>T.own ((rmW r).map T.str))=R.map fun r=>T.lst ((rmW r).map T.str):=by
  rw[zat,yak];refine ybu fun r _=>?_
  show T.lst (zae ((rmW r).map T.str))=_;rw[za3]
 have sD:zae (D.map fun d=>T.own ((drW d).map T.str))=D.map fun d=>T.lst ((drW d).map T.str):=by
  rw[zat,yak];refine ybu fun r _=>?_
  show T.lst (zae ((drW r).map T.str))=_;rw[za3]
 have shR:shL (R.map fun r=>T.lst ((rmW r).map T.str))=true:=zde (fun r=>by show((!false) && shL ((rmW r).map T.str))=true;rw[za8];rfl) R
 have shD:shL (D.map fun r=>T.lst ((drW r).map T.str))=true:=zde (fun r=>by show((!false) && shL ((drW r).map T.str))=true;rw[za8];rfl) D
 have sA:shL (((R.map fun r=>T.lst ((rmW r).map T.str))++D.map fun d=>T.lst ((drW d).map T.str)))=true:=by
  rw[zaw,ycl,<- zaw,<- zaw,shR,shD]
  rfl
 have eall:(T.lst (T.str (Str.ofString "watches")::ws.map T.str))::((R.map fun r=>T.lst ((rmW r).map T.str))++D.map fun d=>T.lst ((drW d).map T.str))=(mcW ws R D).map fun l=>T.lst (l.map T.str):=by
  unfold mcW wtW;rw[yah,yaq,yak,yak]
  rfl
 have shA:shL ((mcW ws R D).map fun l=>T.lst (l.map T.str))=true:=zde (fun r=>by show((!false) && shL (r.map T.str))=true;rw[za8];rfl) _
 generalize hM:zht (mcO ws R D)=M at *
 have key:zcv [some M,none]=some (.rt (.str (mcS ws R D))):=by
  unfold zcv;refine sq (τ':=[some M,some (.own [.own (T.str (Str.ofString "watches")::ws.map T.str)])]) (by simp_arith[-zmm,hi,hs,hs2,e1,za8,za3,ya0,m1]) ?_
  refine sq (τ':=[some M,some (.own (.own (T.str (Str.ofString "watches")::ws.map T.str)::R.map fun r=>T.lst ((rmW r).map T.str)))]) (by simp_arith[-zmm,hi,hs,hs2,e2,za8,za3,ya0,m2,l2,sR,m4]) ?_
  refine sq (τ':=[some M,some (.own (.own (T.str (Str.ofString "watches")::ws.map T.str)::((R.map fun r=>T.lst ((rmW r).map T.str))++D.map fun d=>T.lst ((drW d).map T.str))))]) (by simp_arith[-zmm,hi,hs,hs2,e3,sd,za1 _ sd,ya0,m3,l3,sD,m5]) ?_
  refine sq (τ':=[some M,some (.lst ((mcW ws R D).map fun l=>T.lst (l.map T.str)))]) (by simp_arith[za3,za1 _ sA,eall]) ?_
  simp_arith[shA,za1 _ shA,ya0,m6,l4,mJn,hj,hsum]
  rfl
 unfold zbw
 simp_arith[hs,hs2,key]
end
abbrev zhq:Stmt:=top 46
theorem sc_read_door:FnScope ["words","guard","noughts","sign","word"] ["words"] (za2 zhq):=⟨rfl,rfl,rfl,by decide +kernel,rfl,by decide +kernel,by decide +kernel⟩
def zag:PSt->Option Out :=
 (zam (sIf (mAp (g2 neT) (za0 (za5 3) (za0 (mC (.str "")) za4))) (zk1 "NoText" (za0 (mC (.str "a door's sign is its last word")) za4)) sNx)
 (sIf (mEnw (za5 4) (mC zb7)) (sApp 2 (zjd (mSl (za5 4) none (some (mAp (g1 negT) (za0 (mC (.int 2)) za4)))) (zme (za5 4) none (some (mAp (g1 negT) (za0 (mC (.int 2)) za4)))))) (sIf (mOr (mEnw (za5 4) (mC (.str "!"))) (mEnw (za5 4) (mC (.str "?")))) (zda (za5 4) (bNm 3)) (sIf (mAp (g2 (cmpT fun i j=>decide (j<i))) (za0 (mAp (g1 zk2) (za0 (za5 2) za4)) (za0 (mC (.int 0)) za4))) (zk1 "NoText" (za0 (mC (.str "a door's looks are ahead of its noughts")) za4)) (sApp 1 (zan zcs (za0 (za5 4) za4)))))))
def zfd:PSt->Option Out :=
 (zam (sOwn 1 (ziy za4))
 (zam (sOwn 2 (ziy za4))
 (zam (zda (mC (.str "")) (bNm 3))
 (zam (sFor (zfj (zjd (mSl (za5 0) (some (mC (.int 3))) none) (zme (za5 0) (some (mC (.int 3))) none))) (bNm 4) zag)
 (zam (sFrz 1) (zam (sFrz 2) (zcn (mNew zbo [] (za0 (mIx (za5 0) (mC (.int 1))) (za0 (mIx (za5 0) (mC (.int 2))) (za0 (za5 1) (za0 (za5 2) (za0 (za5 3) za4)))))))))))))
def zfo:List T->Option Ru:=zdl 1 5 zfd
abbrev zjs:Fn:=⟨4,["words"],zfo⟩
abbrev gx_read_door:Gx:=⟨[("NOUGHT_END",zb7)],[],[],[("Door",zjv,[(5,[])])],false,true,true,none,[],[],[],true,[],[],[],[]⟩
abbrev gm_read_door:Gm:=⟨["words","guard","noughts","sign","word"],(za2 zhq).names,[],3,[("read_look",zgo)],["len"],["NoText"],["noughts","guard"],[],false,[],[],[],gx_read_door⟩
theorem ck_read_door:dSs 200 gm_read_door (zaa zhq)=some zfd:=by kernel_rfl
theorem zin{x y:Str}{c:Nat}(hc:c∈Tx.cs y)(hx:c∉Tx.cs x):Txt.endswith x y=false:=by
 unfold Txt.endswith;rw[Bool.and_eq_false_iff];right;rw[yeh,beq_eq_false_iff_ne];intro z;have hc':c∈y.cps.toList:=hc;rw[<- z]at hc';exact hx (List.mem_of_mem_drop (List.mem_of_mem_take hc'))
theorem enw_app{x y z:Str}(h:Tx.cs z=Tx.cs x++Tx.cs y):Txt.endswith z y=true:=by
 have hl:(Tx.cs z).length=(Tx.cs x).length+(Tx.cs y).length:=by rw[h,ya5]
 unfold Txt.endswith;rw[ya3];refine⟨decide_eq_true ?_,?_⟩
 ·rw[Tx.cs_len,Tx.cs_len]
  omega
 ·rw[yeh,beq_iff_eq];show((Tx.cs z).drop (z.length - y.length)).take y.length=Tx.cs y;rw[Tx.cs_len,Tx.cs_len,hl,Nat.add_sub_cancel,h,ycz rfl];exact ybx
theorem zlv{b:T->PSt->Option PSt}{body:PSt->Option Out}:∀{l m:List T} {τ τ1:PSt},zet b body l τ=some (.nx τ1)->(∀τ,body τ≠none->∀τ',body τ≠some (.bk τ'))->zet b body (l++m) τ=zet b body m τ1
 |[],m,τ,τ1,h,_=>by
  cases h
  rfl
 |t::l,m,τ,τ1,h,hb=>by
  unfold zet at h;rw[ycd]
  conv=>lhs;unfold zet
  cases h1:b t τ with
  |none=>rw[h1]at h;cases h
  |some τ2 =>
   rw[h1]at h;simp only at h ⊢;cases h2:body τ2 with
   |none=>rw[h2]at h;cases h
   |some o =>
    rw[h2]at h;cases o with
    |nx τ3=>exact zlv h hb
    |ct τ3=>exact zlv h hb
    |bk τ3=>exact absurd h2 (hb τ2 (by rw[h2];exact fun z=>by cases z) τ3)
    |rt t=>cases h
    |xc c τ3=>cases h
theorem ne_same{x:Str}(h:PyData.strOk x=true):neT (.str x) (.str x)=some (.bl false):=by
 rw[znd h h,decide_eq_true rfl]
 rfl
def rdI(d:Dx)(g:List T)(n:List Str)(z:Str)(x:Option T):PSt:=[some (.lst ((drW d).map T.str)),some (.own g),some (.own (n.map T.str)),some (.str z),x]
theorem lk_no{k:Lk}(h:LkOk k)(hw:Wnm k.w):58∉Tx.cs (lkS k)/\33∉Tx.cs (lkS k)/\63∉Tx.cs (lkS k):=by
 have key:∀c∈Tx.cs (lkS k),47<=c/\c≠58/\c≠63:=fun c hc=>by
  rw[lk_cs]at hc
  rcases yai.mp hc with hc|hc
  ·rcases hw with e|⟨h1,_⟩
   ·rw[e,show Tx.cs (Str.ofString "/")=[47] by decide +kernel]at hc
    rw[ya6.mp hc]
    decide
   ·have:=zn9 h1 c hc
    omega
  ·rcases yai.mp hc with hc|hc
   ·obtain⟨c0,r,e,h0,hr⟩:=h.ho;rw[e]at hc
    rcases hr with rfl|⟨rfl,_⟩
    ·rw[ya6.mp hc]
     omega
    ·rcases ya7.mp hc with rfl|hc
     ·omega
     ·rw[ya6.mp hc]
      decide
   ·have:=Tx.dg_all _ c hc
    omega
 exact⟨fun z=>(key 58 z).2.1 rfl,fun z=>by have:=(key 33 z).1;omega,fun z=>(key 63 z).2.2 rfl⟩
theorem ex_in:33∈Tx.cs (Str.ofString "!")/\63∈Tx.cs (Str.ofString "?")/\58∈Tx.cs (Str.ofString ":0"):=by decide +kernel
section
variable {d:Dx}{x:Option T}
theorem rd_look{k:Lk}(h:LkOk k)(hw:Wnm k.w){g:List T}(hg:g.length<1000):zag (rdI d g [] (Str.ofString "") (some (.str (lkS k))))=some (.nx (rdI d (g++[lkT k]) [] (Str.ofString "") (some (.str (lkS k))))):=by
 obtain⟨n1,n2,n3⟩:=lk_no h hw;have f1:=zin ex_in.2.2 n1;have f2:=zin ex_in.1 n2;have f3:=zin ex_in.2.1 n3;have e:=rlk_ok h;have q:=ne_same em_ok;have gl:g.length<100000:=by omega
 unfold zag rdI zb7
 simp_arith[q,mEnw,f1,f2,f3,e,gl]
theorem rd_nou{w:Str}{n:List Str}(hw:Wnm w){g:List T}(hn:n.length<1000):zag (rdI d g n (Str.ofString "") (some (.str (w++Str.ofString ":0"))))=some (.nx (rdI d g (n++[w]) (Str.ofString "") (some (.str (w++Str.ofString ":0"))))):=by
 have f1:Txt.endswith (w++Str.ofString ":0") (Str.ofString ":0")=true:=enw_app (Tx.cs_app _ _);have q:=ne_same em_ok;have wl:=(wnm_wt hw).2;have hl:(Tx.cs (w++Str.ofString ":0")).length=(Tx.cs w).length+2:=by rw[Tx.cs_app,c0_cs.1,ya5];rfl
 have ll:(w++Str.ofString ":0").length<=lim:=by
  rw[Tx.cs_len]at wl;rw[Tx.cs_len,hl];unfold lim
  omega
 have sl:Txt.slice (w++Str.ofString ":0") none (some (-2))=w:=by
  have e2:Txt.slice (w++Str.ofString ":0") none (some (-2))=StrLaws.sliceText (w++Str.ofString ":0") none (some (-2)):=rfl;rw[e2,StrLaws.sliceText_neg_hi _ none (by decide) (by rw[Tx.cs_len,hl];omega)]
  have e3:((-2:Int)+((w++Str.ofString ":0").length:Int))=(((Tx.cs w).length:Nat):Int):=by rw[Tx.cs_len,hl];omega
  rw[e3];refine Tx.cs_ext ?_;show Tx.cs (Txt.slice (w++Str.ofString ":0") none (some (((Tx.cs w).length:Nat):Int)))=Tx.cs w;rw[Tx.sl_to (by omega),Tx.cs_app,List.take_left' rfl]
 have nl:(n.map T.str).length<100000:=by rw[ya0];omega
 unfold zag rdI zb7
 simp_arith[q,mEnw,f1,zme,show(-(2:Int))=-2 from rfl,sl,ll,nl]
 rw[yaq]
 rfl
theorem rd_sgn{z:Str}{n:List Str}(hz:Sgn z)(h0:¬ z=Str.ofString ""){g:List T}:zag (rdI d g n (Str.ofString "") (some (.str z)))=some (.nx (rdI d g n z (some (.str z)))):=by
 have f1:=zin (x:=z) ex_in.2.2 fun q=>(sgn_asc hz 58 q).2.2.2 rfl
 have q:=ne_same em_ok;obtain⟨y,c,h1,_,_,hc,e⟩:=hz.resolve_left h0
 rcases hc with rfl|rfl
 ·have f2:Txt.endswith z (Str.ofString "!")=true:=enw_app (x:=y) (by rw[e,exc_cs.1])
  unfold zag rdI zb7
  simp_arith[q,mEnw,f1,f2]
 ·have f2:Txt.endswith z (Str.ofString "!")=false:=zin ex_in.1 fun q=>by
   rw[e]at q
   rcases yai.mp q with q|q
   ·have:=zn9 h1 33 q
    omega
   ·cases ya6.mp q
  have f3:Txt.endswith z (Str.ofString "?")=true:=enw_app (x:=y) (by rw[e,exc_cs.2.1])
  unfold zag rdI zb7
  simp_arith[q,mEnw,f1,f2,f3]
end
theorem rdoor_ok{ws:List Str}{R:List (Str×List Lk)}{D:List Dx}(h:AlOk ws R D){d:Dx}(hd:d∈D):zfo [.lst ((drW d).map T.str)]=some (.ok (zbq (dxD d))):=by
 have k:=h.t.d d hd;have gl:=k.g.1;have nl:=k.nl
 obtain⟨τ1,e1,x1,rfl⟩:=zb3 (b:=bNm 4) (body:=zag) (ts:=d.g.map fun k=>T.str (lkS k)) (τ:=rdI d [] [] (Str.ofString "") none) (fun i τ=>∃x,τ=rdI d ((d.g.take i).map lkT) [] (Str.ofString "") x) ⟨none,rfl⟩ fun i t τ h1 h2=>by
  rw[yaa]at h1;obtain⟨u,hu,rfl⟩:=ya2.mp h1;obtain⟨x,rfl⟩:=h2;obtain⟨m1,m2,m3⟩:=k.g.2 u (yb6 hu);refine⟨rdI d ((d.g.take i).map lkT) [] (Str.ofString "") (some (.str (lkS u))),rfl,_,rd_look m1 (h.t.w _ m2) (by rw[ya0,yb2];omega),some (.str (lkS u)),?_⟩
  rw[ycs,hu,yaq]
  rfl
 rw[ya0,ybx]at e1
 obtain⟨τ2,e2,x2,rfl⟩:=zb3 (b:=bNm 4) (body:=zag) (ts:=d.n.map fun w=>T.str (w++Str.ofString ":0")) (τ:=rdI d (d.g.map lkT) [] (Str.ofString "") x1) (fun i τ=>∃x,τ=rdI d (d.g.map lkT) (d.n.take i) (Str.ofString "") x) ⟨x1,rfl⟩ fun i t τ h1 h2=>by
  rw[yaa]at h1;obtain⟨u,hu,rfl⟩:=ya2.mp h1;obtain⟨x,rfl⟩:=h2;refine⟨rdI d (d.g.map lkT) (d.n.take i) (Str.ofString "") (some (.str (u++Str.ofString ":0"))),rfl,_,rd_nou (h.t.w _ (k.n u (yb6 hu))) (by rw[yb2];omega),some (.str (u++Str.ofString ":0")),?_⟩
  rw[ycs,hu]
  rfl
 rw[ya0,ybx]at e2
 have e3:∃x3,zet (bNm 4) zag ((sgW d.z).map T.str) (rdI d (d.g.map lkT) d.n (Str.ofString "") x2)=some (.nx (rdI d (d.g.map lkT) d.n d.z x3)):=by
  by_cases hz:d.z=Str.ofString ""
  ·refine⟨x2,?_⟩;unfold sgW;rw[if_pos hz,hz]
   rfl
  ·refine⟨some (.str d.z),?_⟩;have e:=rd_sgn (d:=d) (n:=d.n) k.z hz (g:=d.g.map lkT);unfold sgW;rw[if_neg hz,yah,yds];unfold zet;have eb:bNm 4 (.str d.z) (rdI d (d.g.map lkT) d.n (Str.ofString "") x2)=some (rdI d (d.g.map lkT) d.n (Str.ofString "") (some (.str d.z))):=rfl;rw[eb];simp only;rw[e]
   rfl
 obtain⟨x3,e3⟩:=e3
 have nb:∀τ,zag τ≠none->∀τ',zag τ≠some (.bk τ'):=fun τ _ τ'=>by
  unfold zag zam sIf zk1 sApp zda sNx;intro z
  repeat' split at z
  all_goals first|cases z|contradiction
 have e4:=zlv (m:=(d.n.map fun w=>T.str (w++Str.ofString ":0"))++(sgW d.z).map T.str) e1 nb
 rw[zlv e2 nb,e3]at e4
 have ed:(drW d).map T.str=T.str (Str.ofString "door")::T.str d.s::T.str d.e::((d.g.map fun k=>T.str (lkS k))++((d.n.map fun w=>T.str (w++Str.ofString ":0"))++(sgW d.z).map T.str)):=by
  rw[drW_T];simp only[yap,ycd,ycy]
 have cut:zk9 ((drW d).map T.str) (some 3) none=(d.g.map fun k=>T.str (lkS k))++((d.n.map fun w=>T.str (w++Str.ofString ":0"))++(sgW d.z).map T.str):=by
  rw[ed];unfold zk9;rw[show(some (3:Int))=some ((3:Nat):Int) from rfl,HT.sIx_nat,HT.sIx_none,ya8,ya8,ya8,ycm (by omega)]
  refine yco ?_;show List.length _<=_;simp only[List.drop_succ_cons,List.drop_zero]
  omega
 have a1:atI ((drW d).map T.str) 1=some (.str d.s):=by rw[ed];exact zb8 (by decide) rfl
 have a2:atI ((drW d).map T.str) 2=some (.str d.e):=by rw[ed];exact zb8 (by decide) rfl
 have di:zbo [.str d.s,.str d.e,.lst (d.g.map lkT),.lst (d.n.map T.str),.str d.z]=some (.ok (zbq (dxD d))):=di_ok (d:=dxD d) (h.mc.d _ (yaf.mpr ⟨d,hd,rfl⟩));have sl:=cut▸(rfl:zk9 ((drW d).map T.str) (some 3) none=zk9 ((drW d).map T.str) (some 3) none)
 have sx:zae ((d.g.map fun k=>T.str (lkS k))++((d.n.map fun w=>T.str (w++Str.ofString ":0"))++(sgW d.z).map T.str))=(d.g.map fun k=>T.str (lkS k))++((d.n.map fun w=>T.str (w++Str.ofString ":0"))++(sgW d.z).map T.str):=by
  refine za1 _ ?_;rw[zaw,ycl,ycl,<- zaw,<- zaw,<- zaw,za8,zde (f:=fun k=>T.str (lkS k)) (fun _=>rfl),zde (f:=fun w=>T.str (w++Str.ofString ":0")) (fun _=>rfl)]
  rfl
 generalize hA:(drW d).map T.str=A at *;have sA:shL A=true:=by rw[<- hA];exact za8 _
 have key:zfd [some (.lst A),none,none,none,none]=some (.rt (zbq (dxD d))):=by
  unfold zfd;refine sq (τ':=[some (.lst A),some (.own []),none,none,none]) (by simp_arith[]) ?_
  refine sq (τ':=[some (.lst A),some (.own []),some (.own []),none,none]) (by simp_arith[]) ?_
  refine sq (τ':=[some (.lst A),some (.own []),some (.own []),some (.str (Str.ofString "")),none]) (by simp_arith[]) ?_
  refine sq (τ':=[some (.lst A),some (.own (d.g.map lkT)),some (.own (d.n.map T.str)),some (.str d.z),x3]) (by
   simp_arith[sA,za1 _ sA,cut,sx]
   unfold rdI at e4;rw[hA]at e4;exact e4) ?_
  refine sq (τ':=[some (.lst A),some (.lst (d.g.map lkT)),some (.own (d.n.map T.str)),some (.str d.z),x3]) (by simp_arith[zak]) ?_
  refine sq (τ':=[some (.lst A),some (.lst (d.g.map lkT)),some (.lst (d.n.map T.str)),some (.str d.z),x3]) (by simp_arith[za3]) ?_
  simp_arith[sA,a1,a2,zb1,zak,za8,za3,di]
 unfold zfo
 simp_arith[sA,za1 _ sA,key]
abbrev zea:Stmt:=top 45
theorem zkx:FnScope ["text","rows","rooms","doors","words"] ["text"] (za2 zea):=⟨rfl,rfl,rfl,by decide +kernel,rfl,by decide +kernel,by decide +kernel⟩
def zc1:PSt->Option Rs :=
 (mSpl (za5 0) (mC (.str " ")))
def zas:PSt->Option Out :=
 (sIf (mAnd (mAp (g2 eqT) (za0 (mIx (za5 4) (mC (.int 0))) (za0 (mC (.str "room")) za4))) (mAnd (mAp (g2 (cmpT fun i j=>decide (j<=i))) (za0 (mAp (g1 zk2) (za0 (za5 4) za4)) (za0 (mC (.int 2)) za4))) (mAp (g2 eqT) (za0 (mAp (g1 zk2) (za0 (za5 3) za4)) (za0 (mC (.int 0)) za4))))) (sApp 2 (mTup (za0 (mIx (za5 4) (mC (.int 1))) (za0 (zan ze6 (za0 (zjd (mSl (za5 4) (some (mC (.int 2))) none) (zme (za5 4) (some (mC (.int 2))) none)) za4)) za4)))) (sIf (mAnd (mAp (g2 eqT) (za0 (mIx (za5 4) (mC (.int 0))) (za0 (mC (.str "door")) za4))) (mAp (g2 (cmpT fun i j=>decide (j<=i))) (za0 (mAp (g1 zk2) (za0 (za5 4) za4)) (za0 (mC (.int 3)) za4)))) (sApp 3 (zan zfo (za0 (za5 4) za4))) (zk1 "NoText" (za0 (mC (.str "behind the watches are rows of rooms, then of doors")) za4))))
def zcw:PSt->Option Out :=
 (zam (sExp (zan ze8 (za0 (za5 0) za4)))
 (zam (zda (mLC 1 [] (zfj (mSpl (za5 0) (mC (.str "\n")))) (bNm 0) (mC (.bl true)) zc1) (bNm 1))
 (zam (sIf (mAp (g2 neT) (za0 (mIx (mIx (za5 1) (mC (.int 0))) (mC (.int 0))) (za0 (mC (.str "watches")) za4))) (zk1 "NoText" (za0 (mC (.str "the first row of a machine is that of its watches")) za4)) sNx)
 (zam (sOwn 2 (ziy za4))
 (zam (sOwn 3 (ziy za4))
 (zam (sFor (zfj (zjd (mSl (za5 1) (some (mC (.int 1))) none) (zme (za5 1) (some (mC (.int 1))) none))) (bNm 4) zas)
 (zam (sFrz 2) (zam (sFrz 3) (zcn (mNew zaz [] (za0 (zjd (mSl (mIx (za5 1) (mC (.int 0))) (some (mC (.int 1))) none) (zme (mIx (za5 1) (mC (.int 0))) (some (mC (.int 1))) none)) (za0 (za5 2) (za0 (za5 3) za4)))))))))))))
def zcz:List T->Option Ru:=zdl 1 5 zcw
abbrev zgn:Fn:=⟨8,["text"],zcz⟩
abbrev zlo:Gx:=⟨[],[],[],[("Machine",zgr,[(3,[])])],false,true,true,none,[],[],[],true,[],[],[],[]⟩
abbrev zlt:Gm:=⟨["text","rows","rooms","doors","words"],(za2 zea).names,[],7,[("check_text",zim),("read_looks",zik),("read_door",zjs)],["len"],["NoText"],["rooms","doors"],[],false,[],[],[],zlo⟩
theorem zm5:dSs 200 zlt (zaa zea)=some zcw:=by kernel_rfl
theorem nl_is:Str.ofString "\n"=(⟨#[10]⟩:Str):=Tx.cs_ext (by decide +kernel)
section
variable {ws:List Str}{R:List (Str×List Lk)}{D:List Dx}(h:AlOk ws R D)
include h
theorem wrd_free:∀l∈mcW ws R D,l≠[]/\∀x∈l,∀c∈Tx.cs x,c≠32/\c≠10/\c<128:=fun l hl=>by
 have lk:∀{wd:List Str} {L:List Lk},LgOk ws wd L->∀x∈L.map lkS,∀c∈Tx.cs x,c≠32/\c≠10/\c<128:=fun k x hx c hc=>by
  obtain⟨u,hu,rfl⟩:=yaf.mp hx;obtain⟨m1,m2,_⟩:=k.2 u hu;have a:=lk_signs m1 c hc;refine⟨a.2,fun e=>?_,a.1⟩
  subst e;rw[lk_cs]at hc
  rcases yai.mp hc with hc|hc
  ·rcases h.t.w _ m2 with e|⟨h1,_⟩
   ·rw[e,show Tx.cs (Str.ofString "/")=[47] by decide +kernel]at hc
    cases ya6.mp hc
   ·have:=zn9 h1 10 hc
    omega
  ·rcases yai.mp hc with hc|hc
   ·obtain⟨c0,r,e,h0,hr⟩:=m1.ho;rw[e]at hc
    rcases hr with rfl|⟨rfl,_⟩
    ·have:=ya6.mp hc
     omega
    ·rcases ya7.mp hc with q|q
     ·omega
     ·cases ya6.mp q
   ·have:=Tx.dg_all _ 10 hc
    omega
 have wn:∀x∈ws,∀c∈Tx.cs x,c≠32/\c≠10/\c<128:=fun x hx c hc=>by
  rcases h.t.w x hx with rfl|⟨h1,_⟩
  ·rw[show Tx.cs (Str.ofString "/")=[47] by decide +kernel]at hc
   rw[ya6.mp hc]
   decide
  ·have:=zn9 h1 c hc
   omega
 have rm:∀x∈R.map (·.1),∀c∈Tx.cs x,c≠32/\c≠10/\c<128:=fun x hx c hc=>by
  have k:=(h.t.nm hx).1;obtain⟨i,hi⟩:=List.getElem?_of_mem hc;have hl:i<x.cps.size:=by simpa using (ya4.mp hi).1
  have:=k i hl;rw[ybh,yar hl]at hi;rw[ybr,yar hl]at this;cases hi;simp only[yei]at this
  omega
 rcases ya7.mp hl with rfl|hl
 ·refine⟨ybw _ _,fun x hx=>?_⟩
  rcases ya7.mp hx with rfl|hx
  ·decide +kernel
  ·exact wn x hx
 ·rcases yai.mp hl with hl|hl
  ·obtain⟨r,hr,rfl⟩:=yaf.mp hl;refine⟨ybw _ _,fun x hx=>?_⟩
   rcases ya7.mp hx with rfl|hx
   ·decide +kernel
   ·rcases ya7.mp hx with rfl|hx
    ·exact rm _ (yaf.mpr ⟨r,hr,rfl⟩)
    ·exact lk (h.t.r r hr).2.2 x hx
  ·obtain⟨d,hd,rfl⟩:=yaf.mp hl;have k:=h.t.d d hd;refine⟨ybw _ _,fun x hx=>?_⟩
   rcases ya7.mp hx with rfl|hx
   ·decide +kernel
   ·rcases ya7.mp hx with rfl|hx
    ·exact rm _ k.s
    ·rcases ya7.mp hx with rfl|hx
     ·exact rm _ k.e
     ·rcases yai.mp hx with hx|hx
      ·exact lk k.g x hx
      ·rcases yai.mp hx with hx|hx
       ·obtain⟨w,hw,rfl⟩:=yaf.mp hx;intro c hc;rw[Tx.cs_app,c0_cs.1]at hc
        rcases yai.mp hc with hc|hc
        ·exact wn w (k.n w hw) c hc
        ·simp only[ya7,yb5,or_false]at hc
         omega
       ·unfold sgW at hx;split at hx
        ·cases hx
        ·rw[ya6.mp hx];intro c hc;have:=sgn_asc k.z c hc
         omega
theorem row_free:∀l∈mcW ws R D,∀c∈Tx.cs (jnB l),c≠10/\c<128:=fun l hl c hc=>by
 have hf:=(wrd_free h l hl).2;rw[jb_js]at hc
 have key:∀m:List Str,(∀x∈m,∀c∈Tx.cs x,c≠32/\c≠10/\c<128)->∀c∈Tx.joinL 32 (m.map Tx.cs),c≠10/\c<128:=by
  intro m
  induction m with
  |nil=>intro _ c hc;cases hc
  |cons a r ih =>
   intro hm c hc;cases r with
   |nil=>exact(hm a (yab ..) c hc).2
   |cons b r =>
    rcases yai.mp (show c∈Tx.cs a++32::Tx.joinL 32 ((b::r).map Tx.cs) from hc) with hc|hc
    ·exact(hm a (yab ..) c hc).2
    ·rcases ya7.mp hc with rfl|hc
     ·decide
     ·exact ih (fun x hx=>hm x (ya9 _ hx)) c hc
 exact key l hf c hc
theorem mc_cs:Tx.cs (mcS ws R D)=Tx.joinL 10 (((mcW ws R D).map jnB).map Tx.cs):=by
 unfold mcS;rw[jn_is,nl_is,Tx.cs_join]
theorem mc_split:Txt.split (mcS ws R D) (Str.ofString "\n")=(mcW ws R D).map jnB:=by
 rw[nl_is];refine Tx.split_is (fun z=>?_) (fun p hp q=>?_) (mc_cs h)
 ·have:=congrArg List.length z;rw[ya0]at this;cases this
 ·obtain⟨l,hl,rfl⟩:=yaf.mp hp;exact(row_free h l hl 10 q).1 rfl
theorem row_split{l:List Str}(hl:l∈mcW ws R D):Txt.split (jnB l) (Str.ofString " ")=l:=by
 rw[bl_is];obtain⟨h0,hf⟩:=wrd_free h l hl;exact Tx.split_is h0 (fun p hp q=>(hf p hp 32 q).1 rfl) (jb_js l)
theorem mc_len:(mcS ws R D).length+2<=lim:=by
 have key:∀l:List (List Nat),(∀p∈l,p.length<=5000)->(Tx.joinL 10 l).length<=l.length * 5001:=by
  intro l
  induction l with
  |nil=>intro _;exact ybi _
  |cons a r ih =>
   intro hp;have h1:=hp a (yab ..);have h2:=ih fun p hp'=>hp p (ya9 _ hp')
   cases r with
   |nil =>
    show a.length<=1 * 5001
    omega
   |cons b r =>
    show(a++10::Tx.joinL 10 (b::r)).length<=_;rw[ya5,ya8];rw[ya8 (a:=a),ydr]
    omega
 have h1:=key (((mcW ws R D).map jnB).map Tx.cs) fun p hp=>by
  rw[yak]at hp;obtain⟨l,hl,rfl⟩:=yaf.mp hp;exact row_len h l hl
 rw[<- mc_cs h,ya0,ya0]at h1;have h2:=mcW_len h;have:(mcW ws R D).length * 5001<=15 * 5001:=ycu 5001 h2;rw[Tx.cs_len];unfold lim
 omega
theorem rm_lc:zfy (bNm 0) (mC (.bl true)) zc1 (((mcW ws R D).map jnB).map T.str) [none]=some ((mcW ws R D).map fun l=>T.own (l.map T.str)):=by
 have em:((mcW ws R D).map jnB).map T.str=(mcW ws R D).map fun l=>T.str (jnB l):=by rw[yak];rfl
 rw[em];refine zbh (b:=bNm 0) (me:=zc1) (fun l=>T.str (jnB l)) (fun l=>T.own (l.map T.str)) (fun τ=>∃a,τ=[a]) (mcW ws R D) _ ⟨none,rfl⟩ fun l hl τ hI=>?_
 obtain⟨a,rfl⟩:=hI;have hx:(jnB l).length+2<=lim:=by have:=row_len h l hl;unfold lim;omega
 refine⟨[some (.str (jnB l))],rfl,?_,_,rfl⟩;unfold zc1
 simp_arith[mSpl,bl_ok hx,row_split h hl]
end
theorem wd_eq:eqT (.str (Str.ofString "room")) (.str (Str.ofString "room"))=some (.bl true)/\eqT (.str (Str.ofString "door")) (.str (Str.ofString "room"))=some (.bl false)/\eqT (.str (Str.ofString "door")) (.str (Str.ofString "door"))=some (.bl true)/\neT (.str (Str.ofString "watches")) (.str (Str.ofString "watches"))=some (.bl false):=by
 have h1:PyData.strOk (Str.ofString "room")=true:=by decide +kernel
 have h2:PyData.strOk (Str.ofString "door")=true:=by decide +kernel
 have h3:PyData.strOk (Str.ofString "watches")=true:=by decide +kernel
 have d1:decide (Str.ofString "door"=Str.ofString "room")=false:=by decide +kernel
 rw[zgs h1 h1,zgs h2 h1,zgs h2 h2,znd h3 h3,d1];exact⟨by rw[decide_eq_true rfl],rfl,by rw[decide_eq_true rfl],by rw[decide_eq_true rfl];rfl⟩
theorem cut2(a b:T)(l:List T):zk9 (a::b::l) (some 2) none=l:=by
 unfold zk9;rw[show(some (2:Int))=some ((2:Nat):Int) from rfl,HT.sIx_nat,HT.sIx_none,ya8,ya8,ycm (by omega)]
 refine yco ?_;show l.length<=_
 omega
theorem cut1(a:T)(l:List T):zk9 (a::l) (some 1) none=l:=by
 unfold zk9;rw[show(some (1:Int))=some ((1:Nat):Int) from rfl,HT.sIx_nat,HT.sIx_none,ya8,ycm (by omega)]
 refine yco ?_;show l.length<=_
 omega
theorem rmach_ok{ws:List Str}{R:List (Str×List Lk)}{D:List Dx}(h:AlOk ws R D):zcz [.str (mcS ws R D)]=some (.ok (zht (mcO ws R D))):=by
 have ct:=ct_ok (mcS ws R D);have hx:=mc_len h;have hc:((Str.ofString "\n").length == 0)=false/\(mcS ws R D).length+2<=lim:=⟨by decide +kernel,hx⟩
 have sp:=mc_split h;have lc:=rm_lc h;have ml:=mcW_len h;obtain⟨w1,w2,w3,w4⟩:=wd_eq;have rl:=h.t.rl;have dl:=h.t.dl
 have sR:zae ((mcW ws R D).map fun l=>T.own (l.map T.str))=(mcW ws R D).map fun l=>T.lst (l.map T.str):=by
  rw[zat,yak];refine ybu fun r _=>?_
  show T.lst (zae (r.map T.str))=_;rw[za3]
 have shA:∀m:List (List Str),shL (m.map fun l=>T.lst (l.map T.str))=true:=fun m=>zde (fun r=>by show((!false) && shL (r.map T.str))=true;rw[za8];rfl) m
 have sS:zae (((mcW ws R D).map jnB).map T.str)=((mcW ws R D).map jnB).map T.str:=za3 _;have lm:(mcW ws R D).length<=lim:=by unfold lim;omega
 have eA:(mcW ws R D).map (fun l=>T.lst (l.map T.str))=T.lst (T.str (Str.ofString "watches")::ws.map T.str)::((R.map fun r=>T.lst ((rmW r).map T.str))++D.map fun d=>T.lst ((drW d).map T.str)):=by
  unfold mcW wtW;rw[yah,yaq,yak,yak]
  rfl
 have nb:∀τ,zas τ≠none->∀τ',zas τ≠some (.bk τ'):=fun τ _ τ'=>by
  unfold zas sIf zk1 sApp;intro z
  repeat' split at z
  all_goals first|cases z|contradiction
 generalize hA:(mcW ws R D).map (fun l=>T.lst (l.map T.str))=A at *
 have sA:shL A=true:=by rw[<- hA];exact shA _
 obtain⟨τ1,e1,x1,rfl⟩:=zb3 (b:=bNm 4) (body:=zas) (ts:=R.map fun r=>T.lst ((rmW r).map T.str)) (τ:=[some (.str (mcS ws R D)),some (.lst A),some (.own []),some (.own []),none]) (fun i τ=>∃x,τ=[some (.str (mcS ws R D)),some (.lst A),some (.own ((R.take i).map rxT)),some (.own []),x]) ⟨none,rfl⟩ fun i t τ h1 h2=>by
  rw[yaa]at h1;obtain⟨r,hr,rfl⟩:=ya2.mp h1;obtain⟨x,rfl⟩:=h2;have k:=(h.t.r r (yb6 hr)).2.2
  have er:(rmW r).map T.str=T.str (Str.ofString "room")::T.str r.1::r.2.map fun k=>T.str (lkS k):=by
   unfold rmW;rw[yah,yah,yak]
   rfl
  have s1:shL (r.2.map fun k=>T.str (lkS k))=true:=zde (fun _=>rfl) r.2
  have a0:atI (T.str (Str.ofString "room")::T.str r.1::r.2.map fun k=>T.str (lkS k)) 0=some (.str (Str.ofString "room")):=zb8 (by decide) rfl
  have a1:atI (T.str (Str.ofString "room")::T.str r.1::r.2.map fun k=>T.str (lkS k)) 1=some (.str r.1):=zb8 (by decide) rfl
  have d1:decide ((2:Int)<=((r.2.length+1+1:Nat):Int))=true:=decide_eq_true (by omega)
  have e:=rlks_ok k.ok (yaj k.1 (by decide))
  have ll:((R.take i).map rxT).length<100000:=by rw[ya0,yb2];omega
  have ll2:min i R.length<lim:=by unfold lim;omega
  have z0:(((0:Nat):Int) == 0)=true:=rfl;refine⟨[some (.str (mcS ws R D)),some (.lst A),some (.own ((R.take i).map rxT)),some (.own []),some (.lst (T.str (Str.ofString "room")::T.str r.1::r.2.map fun k=>T.str (lkS k)))],(by rw[er];simp_arith[]),[some (.str (mcS ws R D)),some (.lst A),some (.own ((R.take i).map rxT++[rxT r])),some (.own []),some (.lst (T.str (Str.ofString "room")::T.str r.1::r.2.map fun k=>T.str (lkS k)))],?_,_,by rw[ycs,hr,yaq];rfl⟩
  unfold zas
  simp_arith[s1,za1 _ s1,a0,a1,w1,ya0,d1,zd4,z0,cut2,e,zb1,zak,yb2,ll2]
  rfl
 rw[ya0,ybx]at e1
 obtain⟨τ2,e2,x2,rfl⟩:=zb3 (b:=bNm 4) (body:=zas) (ts:=D.map fun d=>T.lst ((drW d).map T.str)) (τ:=[some (.str (mcS ws R D)),some (.lst A),some (.own (R.map rxT)),some (.own []),x1]) (fun i τ=>∃x,τ=[some (.str (mcS ws R D)),some (.lst A),some (.own (R.map rxT)),some (.own ((D.take i).map fun d=>zbq (dxD d))),x]) ⟨x1,rfl⟩ fun i t τ h1 h2=>by
  rw[yaa]at h1;obtain⟨d,hd,rfl⟩:=ya2.mp h1;obtain⟨x,rfl⟩:=h2;have hm:=yb6 hd;have e:=rdoor_ok h hm;have a0:atI ((drW d).map T.str) 0=some (.str (Str.ofString "door")):=zb8 (by decide) rfl
  have d1:decide ((3:Int)<=(((drW d).length:Nat):Int))=true:=decide_eq_true (by unfold drW;simp only[ya8];omega)
  have hs:(zbq (dxD d)).sh=true:=dor_sh (h.mc.d _ (yaf.mpr ⟨d,hm,rfl⟩));have hs2:=zbc _ hs;have ll2:min i D.length<lim:=by unfold lim;omega
  have ed:(D.take (i+1)).map (fun d=>zbq (dxD d))=(D.take i).map (fun d=>zbq (dxD d))++[zbq (dxD d)]:=by rw[ycs,hd,yaq];rfl
  rw[ed];generalize zbq (dxD d)=M at *;refine⟨[some (.str (mcS ws R D)),some (.lst A),some (.own (R.map rxT)),some (.own ((D.take i).map fun d=>zbq (dxD d))),some (.lst ((drW d).map T.str))],(by simp_arith[]),[some (.str (mcS ws R D)),some (.lst A),some (.own (R.map rxT)),some (.own ((D.take i).map (fun d=>zbq (dxD d))++[M])),some (.lst ((drW d).map T.str))],?_,_,rfl⟩
  unfold zas
  simp_arith[za8,za3,a0,w2,w3,ya0,d1,e,yb2,ll2,hs,hs2]
 rw[ya0,ybx]at e2;have e4:=zlv (m:=D.map fun d=>T.lst ((drW d).map T.str)) e1 nb
 rw[e2]at e4;have ed:(D.map fun d=>zbq (dxD d))=(D.map dxD).map zbq:=by rw[yak];rfl
 rw[ed]at e4;have sd:shL ((D.map dxD).map zbq)=true:=h.mc.sd
 have mi:zaz [.lst (ws.map T.str),.lst (R.map rxT),.lst ((D.map dxD).map zbq)]=some (.ok (zht (mcO ws R D))):=by
  have:=mi_ok71 h.mc;rw[show rmsT (mcO ws R D).rs=.lst (R.map rxT) from congrArg T.lst (mc_rom R)]at this;exact this
 have a0:atI A 0=some (T.lst (T.str (Str.ofString "watches")::ws.map T.str)):=by rw[eA];exact zb8 (by decide) rfl
 have b0:atI (T.str (Str.ofString "watches")::ws.map T.str) 0=some (.str (Str.ofString "watches")):=zb8 (by decide) rfl
 have cA:zk9 A (some 1) none=(R.map fun r=>T.lst ((rmW r).map T.str))++D.map fun d=>T.lst ((drW d).map T.str):=by rw[eA];exact cut1 _ _
 have sB:shL ((R.map fun r=>T.lst ((rmW r).map T.str))++D.map fun d=>T.lst ((drW d).map T.str))=true:=by
  have:(true && shL ((R.map fun r=>T.lst ((rmW r).map T.str))++D.map fun d=>T.lst ((drW d).map T.str)))=true:=by
   have q:=sA;rw[eA]at q;have q2:((T.lst (T.str (Str.ofString "watches")::ws.map T.str)).sh && shL ((R.map fun r=>T.lst ((rmW r).map T.str))++D.map fun d=>T.lst ((drW d).map T.str)))=true:=q
   rw[ya3]at q2;rw[q2.2]
   rfl
  rw[Bool.true_and]at this;exact this
 have hMs:=h.mc.sh;have hMs2:=zbc _ hMs;generalize hM:zht (mcO ws R D)=M at *
 have key:zcw [some (.str (mcS ws R D)),none,none,none,none]=some (.rt M):=by
  unfold zcw;refine sq (τ':=[some (.str (mcS ws R D)),none,none,none,none]) (by simp_arith[ct]) ?_
  refine sq (τ':=[some (.str (mcS ws R D)),some (.lst A),none,none,none]) (by
   simp_arith[mSpl,hc,sp,sS,ya0,lm,lc,sR]) ?_
  refine sq (τ':=[some (.str (mcS ws R D)),some (.lst A),none,none,none]) (by simp_arith[sA,a0,b0,za8,w4]) ?_
  refine sq (τ':=[some (.str (mcS ws R D)),some (.lst A),some (.own []),none,none]) (by simp_arith[]) ?_
  refine sq (τ':=[some (.str (mcS ws R D)),some (.lst A),some (.own []),some (.own []),none]) (by simp_arith[]) ?_
  refine sq (τ':=[some (.str (mcS ws R D)),some (.lst A),some (.own (R.map rxT)),some (.own ((D.map dxD).map zbq)),x2]) (by
   simp_arith[sA,za1 _ sA,cA,za1 _ sB]
   exact e4) ?_
  refine sq (τ':=[some (.str (mcS ws R D)),some (.lst A),some (.lst (R.map rxT)),some (.own ((D.map dxD).map zbq)),x2]) (by simp_arith[zax]) ?_
  refine sq (τ':=[some (.str (mcS ws R D)),some (.lst A),some (.lst (R.map rxT)),some (.lst ((D.map dxD).map zbq)),x2]) (by simp_arith[za1 _ sd]) ?_
  simp_arith[sA,a0,za8,za3,cut1,zfr,zax,sd,za1 _ sd,mi]
 unfold zcz
 simp_arith[key]
abbrev s_Lright:Stmt:=top 56
theorem sc_Lright:FnScope ["_law_machine","_law_watches","_law_rooms","_law_doors_here","_law_told"] ["_law_machine","_law_watches","_law_rooms","_law_doors_here"] (za2 s_Lright):=⟨rfl,rfl,rfl,by decide +kernel,rfl,by decide +kernel,by decide +kernel⟩
def zjm:PSt->Option Rs :=
 (za5 0)
def zjl:PSt->Option Rs :=
 (zfi za7 za9 zay (za5 2) (za0 (za5 0) za4))
def zi2:PSt->Option Rs :=
 (za5 1)
def zha:PSt->Option Rs :=
 (mTup (za0 (zie zai zap 0 (za5 0)) (za0 (zie zai zap 1 (za5 0)) (za0 (zfi zai zap zc5 (za5 0) za4) (za0 (zfi zai zap zc4 (za5 0) za4) (za0 (zie zai zap 4 (za5 0)) za4))))))
def zkk:PSt->Option Out :=
 (zam (sIf (mOr (zge (mAp (g1 (isCT zm2)) (za0 (za5 0) za4))) (mAp (g2 neT) (za0 (zfi za7 za9 zal (za5 0) za4) (za0 (za5 1) za4)))) (zcn (mC (.bl false))) sNx)
 (zam (sIf (mAp (g2 neT) (za0 (zfi za7 za9 zaq (za5 0) za4) (za0 (mLC 2 [] (zfj (za5 2)) (zi4 2 (zao (bNm 0) (zao (bNm 1) ziv))) (mC (.bl true)) zjm) za4))) (zcn (mC (.bl false))) sNx)
 (zam (sIf (mAp (g2 neT) (za0 (mLC 2 [0] (zfj (za5 2)) (zi4 2 (zao (bNm 0) (zao (bNm 1) ziv))) (mC (.bl true)) zjl) (za0 (mLC 2 [] (zfj (za5 2)) (zi4 2 (zao (bNm 0) (zao (bNm 1) ziv))) (mC (.bl true)) zi2) za4))) (zcn (mC (.bl false))) sNx)
 (zam (zda (mLC 1 [] (zfj (zfi za7 za9 zar (za5 0) za4)) (bNm 0) (mC (.bl true)) zha) (bNm 4))
 (zcn (mAp (g2 eqT) (za0 (za5 4) (za0 (za5 3) za4))))))))
def zko:List T->Option Ru:=zdl 4 5 zkk
abbrev fn_Lright:Fn:=⟨2,["_law_machine","_law_watches","_law_rooms","_law_doors_here"],zko⟩
abbrev gx_Lright:Gx:=⟨[],[("Door",zai,zap)],[("watches",za7,za9,ze5),("rooms",za7,za9,zfw),("stay",za7,za9,zgq),("doors",za7,za9,zfx),("asks",zai,zap,zjw),("sets",zai,zap,zju)],[],false,true,true,none,[],[],[],true,[],[("Machine",zm2)],[],[]⟩
abbrev gm_Lright:Gm:=⟨["_law_machine","_law_watches","_law_rooms","_law_doors_here","_law_told"],(za2 s_Lright).names,["_law_machine"],1,[],["isinstance"],[],[],[],false,[],[],[],gx_Lright⟩
theorem ck_Lright:dSs 200 gm_Lright (zaa s_Lright)=some zkk:=by kernel_rfl
theorem lks_fit{L:List Lk}(h:∀k∈L,LkOk k):Fit (.lst (L.map lkT)) 2:=Fit.nd fun t ht=>by
 obtain⟨k,hk,rfl⟩:=yaf.mp ht;have ok:=h k hk;refine Fit.tup fun t ht=>?_
 simp only[ya7,yb5,or_false]at ht
 rcases ht with rfl|rfl|rfl
 ·exact Fit.str (znm fun c hc=>(ok.hw c hc).1) _
 ·refine Fit.str (znm fun c hc=>?_) _
  obtain⟨c0,r,e,h0,hr⟩:=ok.ho;rw[e]at hc
  rcases hr with rfl|⟨rfl,_⟩
  ·rw[ya6.mp hc]
   omega
  ·rcases ya7.mp hc with rfl|hc
   ·omega
   ·rw[ya6.mp hc]
    decide
 ·exact Fit.int _ _
section
variable {ws:List Str}{R:List (Str×List Lk)}{D:List Dx}(h:AlOk ws R D)
include h
theorem right_ok:zko [zht (mcO ws R D),.lst (ws.map T.str),.lst (R.map rxT),.lst (D.map dxT)]=some (.ok (.bl true)):=by
 have hs:=h.mc.sh;have hs2:=zbc _ hs;have e1:zal [zht (mcO ws R D)]=some (.ok (.own (ws.map T.str))):=mw_ok71 h.mc
 have e2:zaq [zht (mcO ws R D)]=some (.ok (.own ((R.map (·.1)).map T.str))):=by
  have:=mr_ok71 h.mc;rw[show(mcO ws R D).rs.map (·.1)=R.map (·.1) by show(R.map fun r=>(r.1,r.2.map lkT)).map (·.1)=_;rw[yak];rfl]at this
  exact this
 have e3:zar [zht (mcO ws R D)]=some (.ok (.own ((D.map dxD).map zbq))):=md_ok71 h.mc;have sd:shL ((D.map dxD).map zbq)=true:=h.mc.sd;have hi:zmm za7 za9 (zht (mcO ws R D))=some [.lst ((mcO ws R D).ws.map T.str),.obj (.sdc ((mcO ws R D).rs.map (·.1))) ((mcO ws R D).rs.map fun r=>.lst r.2),.lst ((mcO ws R D).ds.map zbq)]:=ins_mc _
 have ci:isCT zm2 (zht (mcO ws R D))=some (.bl true):=rfl;have tw:Txs ws:=h.mc.tw;have q1:=(eq_same (zh9 tw) (by decide) rfl (zh9 tw)).2
 have tn:Txs (R.map (·.1)):=fun x hx=>rmn_tx (h.t.nm hx).1
 have q2:=(eq_same (zh9 tn) (by decide) rfl (zh9 tn)).2
 have m2:R.length<=lim:=by have:=h.t.rl;unfold lim;omega
 have m3:D.length<=lim:=by have:=h.t.dl;unfold lim;omega
 have l3:zfy (zi4 2 (zao (bNm 0) (zao (bNm 1) ziv))) (mC (.bl true)) zjm (R.map rxT) [none,none]=some (R.map fun r=>T.str r.1):=zbh rxT (fun r=>T.str r.1) (fun τ=>∃a b,τ=[a,b]) R _ ⟨none,none,rfl⟩ fun r hr τ hI=>by
  obtain⟨a,b,rfl⟩:=hI;exact⟨[some (.str r.1),some (.lst (r.2.map lkT))],by unfold rxT;simp_arith[zb1,zak],by unfold zjm;simp_arith[],_,_,rfl⟩
 have l5b:zfy (zi4 2 (zao (bNm 0) (zao (bNm 1) ziv))) (mC (.bl true)) zi2 (R.map rxT) [none,none]=some (R.map fun r=>T.lst (r.2.map lkT)):=zbh rxT (fun r=>T.lst (r.2.map lkT)) (fun τ=>∃a b,τ=[a,b]) R _ ⟨none,none,rfl⟩ fun r hr τ hI=>by
  obtain⟨a,b,rfl⟩:=hI;exact⟨[some (.str r.1),some (.lst (r.2.map lkT))],by unfold rxT;simp_arith[zb1,zak],by unfold zi2;simp_arith[zb1],_,_,rfl⟩
 have st:=fun r (hr:r∈R)=>stay_ok h hr
 have em:(R.map (·.1)).map T.str=R.map fun r=>T.str r.1:=by rw[yak];rfl
 have fR:Fit (.lst (R.map fun r=>T.lst (r.2.map lkT))) 3:=Fit.nd fun t ht=>by
  obtain⟨r,hr,rfl⟩:=yaf.mp ht;exact lks_fit (h.t.r r hr).2.2.ok
 have q3:=(eq_same fR (by decide) rfl fR).2
 have fD:Fit (.lst (D.map dxT)) 4:=Fit.nd fun t ht=>by
  obtain⟨d,hd,rfl⟩:=yaf.mp ht;have k:=h.t.d d hd;refine Fit.tup fun t ht=>?_
  simp only[ya7,yb5,or_false]at ht
  rcases ht with rfl|rfl|rfl|rfl|rfl
  ·exact Fit.str (rmn_tx (h.t.nm k.s).1) _
  ·exact Fit.str (rmn_tx (h.t.nm k.e).1) _
  ·exact lks_fit k.g.ok
  ·exact(zh9 fun x hx=>zn6 (h.t.w x (k.n x hx))).mono (by decide)
  ·exact Fit.str (sgn_tx k.z) _
 have q4:=(eq_same fD (by decide) rfl fD).1
 have ed:(D.map dxD).map zbq=D.map fun d=>zbq (dxD d):=by rw[yak];rfl
 have l7:zfy (bNm 0) (mC (.bl true)) zha ((D.map dxD).map zbq) [none]=some (D.map dxT):=by
  rw[ed];refine zbh (b:=bNm 0) (me:=zha) (fun d=>zbq (dxD d)) dxT (fun τ=>∃a,τ=[a]) D _ ⟨none,rfl⟩ fun d hd τ hI=>?_
  obtain⟨a,rfl⟩:=hI;have f1:=ds_ok71 (d:=dxD d) (zb1 d.g);have f2:=da_ok71 (d:=dxD d) (zb1 d.g);refine⟨[some (zbq (dxD d))],rfl,?_,_,rfl⟩;unfold dxD at *;unfold zha
  simp_arith[f1,f2,zb1,zak,za8,za3]
  rfl
 have shR:shL (R.map fun r=>T.str r.1)=true:=zde (fun _=>rfl) R
 have shL5:shL (R.map fun r=>T.lst (r.2.map lkT))=true:=zde (fun r=>by show((!false) && shL (r.2.map lkT))=true;rw[zb1];rfl) R
 have so5:zae (R.map fun r=>T.own (r.2.map lkT))=R.map fun r=>T.lst (r.2.map lkT):=by
  rw[zat,yak];refine ybu fun r _=>?_
  show T.lst (zae (r.2.map lkT))=_;rw[zak]
 rw[em]at e2 q2;generalize hM:zht (mcO ws R D)=M at *
 have l5:zfy (zi4 2 (zao (bNm 0) (zao (bNm 1) ziv))) (mC (.bl true)) zjl (R.map rxT) [none,none,some M]=some (R.map fun r=>T.own (r.2.map lkT)):=zbh rxT (fun r=>T.own (r.2.map lkT)) (fun τ=>∃a b,τ=[a,b,some M]) R _ ⟨none,none,rfl⟩ fun r hr τ hI=>by
  obtain⟨a,b,rfl⟩:=hI;exact⟨[some (.str r.1),some (.lst (r.2.map lkT)),some M],by unfold rxT;simp_arith[zb1,zak],by unfold zjl;simp_arith[-zmm,hi,hs,hs2,st r hr],_,_,rfl⟩
 have key:zkk [some M,some (.lst (ws.map T.str)),some (.lst (R.map rxT)),some (.lst (D.map dxT)),none]=some (.rt (.bl true)):=by
  unfold zkk;refine sq (τ':=[some M,some (.lst (ws.map T.str)),some (.lst (R.map rxT)),some (.lst (D.map dxT)),none]) (by simp_arith[-zmm,hs,hs2,ci,hi,e1,za8,za3,q1]) ?_
  refine sq (τ':=[some M,some (.lst (ws.map T.str)),some (.lst (R.map rxT)),some (.lst (D.map dxT)),none]) (by simp_arith[-zmm,hs,hs2,hi,e2,zfr,zax,ya0,m2,l3,shR,za1 _ shR,q2]) ?_
  refine sq (τ':=[some M,some (.lst (ws.map T.str)),some (.lst (R.map rxT)),some (.lst (D.map dxT)),none]) (by simp_arith[-zmm,hs,hs2,zfr,zax,ya0,m2,l5,l5b,so5,shL5,za1 _ shL5,q3]) ?_
  refine sq (τ':=[some M,some (.lst (ws.map T.str)),some (.lst (R.map rxT)),some (.lst (D.map dxT)),some (.lst (D.map dxT))]) (by simp_arith[-zmm,hs,hs2,hi,e3,sd,za1 _ sd,ya0,m3,l7,zd5]) ?_
  simp_arith[zm1,zd5,q4]
 unfold zko
 simp_arith[hs,hs2,za8,za3,zfr,zax,zm1,zd5,key]
end
abbrev s_law:Stmt:=top 57
theorem sc_law:FnScope ["_law_script","_law_names_here","_law_watches","_law_xs","_law_rooms","_law_k","_law_doors_here","_law_made_of","_law_machine","_law_text_here","_law_shown","_law_found","_law_name"] ["_law_script"] (za2 s_law):=⟨rfl,rfl,rfl,by decide +kernel,rfl,by decide +kernel,by decide +kernel⟩
def zkq:PSt->Option Out :=
 (zam (zda (mIx (za5 1) (za5 5)) (bNm 12))
 (zam (sIf (mAp (g2 eqT) (za0 (mAp (g2 zhc) (za0 (mAp (g2 zhd) (za0 (zan zav (za0 (za5 0) (za0 (mC (.int 3)) za4))) (za0 (mC (.int 6)) za4))) (za0 (mC (.int 4)) za4))) (za0 (mC (.int 1)) za4))) (zda (mIx (ziy (zb4 (mAp (g2 zcl) (za0 (mC (.str "/")) (za0 (za5 12) za4))) (zb4 (mAp (g2 zcl) (za0 (mAp (g2 zcl) (za0 (za5 12) (za0 (mC (.str "/")) za4))) (za0 (mIx (za5 1) (mC (.int 7))) za4))) (zb4 (mAp (g2 zcl) (za0 (za5 12) (za0 (mC (.str "//")) za4))) za4)))) (mAp (g2 zhc) (za0 (za5 5) (za0 (mC (.int 3)) za4)))) (bNm 12)) sNx)
 (sApp 4 (mTup (za0 (za5 12) (za0 (zan zfq (za0 (mIx (za5 3) (za5 5)) (za0 (za5 2) (za0 (ziy (zb4 (mC (.str "<")) (zb4 (mC (.str "<=")) za4))) (za0 (zan zav (za0 (za5 0) (za0 (mC (.int 14)) za4))) za4))))) za4))))))
def zkn:PSt->Option Rs :=
 (mNew zbo [] (za0 (mIx (za5 0) (mC (.int 0))) (za0 (mIx (za5 0) (mC (.int 1))) (za0 (mAp (g1 zei) (za0 (mIx (za5 0) (mC (.int 2))) za4)) (za0 (mAp (g1 zei) (za0 (mIx (za5 0) (mC (.int 3))) za4)) (za0 (mIx (za5 0) (mC (.int 4))) za4))))))
def zkm:PSt->Option Rs :=
 (mTup (za0 (za5 0) (za0 (mAp (g1 zei) (za0 (za5 1) za4)) za4)))
def m_law:PSt->Option Out :=
 (zam (zda (zan zix (za0 (zan zav (za0 (za5 0) (za0 (mC (.int 0)) za4))) (za0 (mC (.int 22)) za4))) (bNm 1))
 (zam (zda (zjd (mSl (za5 1) (some (mC (.int 8))) (some (mAp (g2 zcl) (za0 (mC (.int 8)) (za0 (mAp (g2 zhc) (za0 (zan zav (za0 (za5 0) (za0 (mC (.int 1)) za4))) (za0 (mC (.int 7)) za4))) za4))))) (zme (za5 1) (some (mC (.int 8))) (some (mAp (g2 zcl) (za0 (mC (.int 8)) (za0 (mAp (g2 zhc) (za0 (zan zav (za0 (za5 0) (za0 (mC (.int 1)) za4))) (za0 (mC (.int 7)) za4))) za4)))))) (bNm 2))
 (zam (sIf (mAp (g2 eqT) (za0 (mAp (g2 zhc) (za0 (mAp (g2 zhd) (za0 (zan zav (za0 (za5 0) (za0 (mC (.int 1)) za4))) (za0 (mC (.int 7)) za4))) (za0 (mC (.int 4)) za4))) (za0 (mC (.int 1)) za4))) (zda (mAp (g2 zcl) (za0 (mAp (g2 zcl) (za0 (zjd (mSl (za5 2) none (some (mC (.int 2)))) (zme (za5 2) none (some (mC (.int 2))))) (za0 (ziy (zb4 (mC (.str "/")) za4)) za4))) (za0 (zjd (mSl (za5 2) (some (mC (.int 2))) none) (zme (za5 2) (some (mC (.int 2))) none)) za4))) (bNm 2)) sNx)
 (zam (zda (zan zd7 (za0 (zan zav (za0 (za5 0) (za0 (mC (.int 2)) za4))) (za0 (mC (.int 6)) za4))) (bNm 3))
 (zam (sOwn 4 (ziy za4))
 (zam (sFor (zc3 (za0 (mAp (g2 zcl) (za0 (mC (.int 1)) (za0 (mAp (g2 zhc) (za0 (zan zav (za0 (za5 0) (za0 (mC (.int 3)) za4))) (za0 (mC (.int 6)) za4))) za4))) za4)) (bNm 5) zkq)
 (zam (sFrz 4) (zam (zda (zan zkp (za0 (za5 0) (za0 (za5 4) (za0 (za5 2) (za0 (za5 1) za4))))) (bNm 6))
 (zam (zda (mLC 1 [] (zfj (za5 6)) (bNm 0) (mC (.bl true)) zkn) (bNm 7))
 (zam (sFrz 4) (zam (zda (mNew zaz [] (za0 (mAp (g1 zei) (za0 (za5 2) za4)) (za0 (mLC 2 [] (zfj (za5 4)) (zi4 2 (zao (bNm 0) (zao (bNm 1) ziv))) (mC (.bl true)) zkm) (za0 (za5 7) za4)))) (bNm 8))
 (zam (sFrz 4) (zam (zda (zan R_Ltext (za0 (za5 2) (za0 (za5 4) (za0 (za5 6) za4)))) (bNm 9))
 (zam (zda (zan zbw (za0 (za5 8) za4)) (bNm 10))
 (zam (sIf (mOr (zge (mAp (g1 (zek "str")) (za0 (za5 10) za4))) (mAp (g2 neT) (za0 (za5 10) (za0 (za5 9) za4)))) (zcn (mC (.bl false))) sNx)
 (zam (zda (zan zcz (za0 (za5 9) za4)) (bNm 11))
 (zam (sFrz 4) (zcn (mAnd (zan zko (za0 (za5 11) (za0 (za5 2) (za0 (za5 4) (za0 (za5 6) za4))))) (mAp (g2 eqT) (za0 (zan zbw (za0 (za5 11) za4)) (za0 (za5 9) za4))))))))))))))))))))))
def R_law:List T->Option Ru:=zdl 1 13 m_law
abbrev gx_law:Gx:=⟨[],[],[],[("Door",zjv,[(5,[])]),("Machine",zgr,[(3,[])])],false,true,true,none,[],[],[],true,[],[],[],[]⟩
abbrev gm_law:Gm:=⟨["_law_script","_law_names_here","_law_watches","_law_xs","_law_rooms","_law_k","_law_doors_here","_law_made_of","_law_machine","_law_text_here","_law_shown","_law_found","_law_name"],(za2 s_law).names,[],8,[("_law_names",fn_Lnames),("_law_cell_at",zi0),("_law_stream",zji),("_law_looks",zly),("_law_doors",fn_Ldoors),("_law_text",fn_Ltext),("show_machine",zgm),("read_machine",zgn),("_law_right",fn_Lright)],["range","list","isinstance","str"],[],["_law_rooms"],[],false,[],[],[],gx_law⟩
theorem ck_law:dSs 200 gm_law (zaa s_law)=some m_law:=by kernel_rfl
def rnS(b:Bool)(f:Nat->Str)(k:Nat):Str:=if b then (if k % 3=0 then Str.ofString "/"++f k else if k % 3=1 then f k++Str.ofString "/"++f 7 else f k++Str.ofString "//") else f k
structure FnOk82(f:Nat->Str)(N:Nat):Prop where
 n1:1<=N
 n8:N<=8
 l:∀k,(Tx.cs (f k)).length=N
 a:∀k,∀s∈Tx.cs (f k),97<=s/\s<=122
 i:∀j k,j<26->k<26->f j=f k->j=k
theorem cs_getD{x:Str}{i:Nat}(h:i<x.cps.size):x.cps.getD i 0∈Tx.cs x:=by
 rw[ybr,yar h];exact Array.getElem_mem_toList h
theorem FnOk82.nm{f:Nat->Str}{N:Nat}(h:FnOk82 f N)(k:Nat):Nmn (f k):=⟨fun i hi=>h.a k _ (cs_getD hi),by show 1<=(f k).cps.toList.length;rw[h.l k];exact h.n1,by show(f k).cps.toList.length<=8;rw[h.l k];exact h.n8⟩
theorem sl2:Tx.cs (Str.ofString "/")=[47]/\Tx.cs (Str.ofString "//")=[47,47]:=by decide +kernel
theorem rn_cs{f:Nat->Str}{N:Nat}(h:FnOk82 f N)(b:Bool)(k:Nat):(∀s∈Tx.cs (rnS b f k),s=47\/(97<=s/\s<=122))/\1<=(Tx.cs (rnS b f k)).length/\(Tx.cs (rnS b f k)).length<=60:=by
 have h1:=h.n1;have h8:=h.n8;have lk:=h.l k;have l7:=h.l 7;unfold rnS;cases b
 ·rw[if_neg yb7];exact⟨fun s hs=>.inr (h.a k s hs),by omega,by omega⟩
 ·rw[if_pos rfl];split
  ·rw[Tx.cs_app,sl2.1,ya5];refine⟨fun s hs=>?_,by show 1<=1+_;omega,by show 1+_<=60;omega⟩
   rcases yai.mp hs with hs|hs
   ·exact .inl (ya6.mp hs)
   ·exact .inr (h.a k s hs)
  ·split
   ·rw[Tx.cs_app,Tx.cs_app,sl2.1,ya5,ya5];refine⟨fun s hs=>?_,by omega,by show _+1+_<=60;omega⟩
    rcases yai.mp hs with hs|hs
    ·rcases yai.mp hs with hs|hs
     ·exact .inr (h.a k s hs)
     ·exact .inl (ya6.mp hs)
    ·exact .inr (h.a 7 s hs)
   ·rw[Tx.cs_app,sl2.2,ya5];refine⟨fun s hs=>?_,by omega,by show _+2<=60;omega⟩
    rcases yai.mp hs with hs|hs
    ·exact .inr (h.a k s hs)
    ·simp only[ya7,yb5,or_false]at hs
     omega
theorem rn_inj{f:Nat->Str}{N:Nat}(h:FnOk82 f N)(b:Bool){j k:Nat}(hj:j<6)(hk:k<6)(e:rnS b f j=rnS b f k):j=k:=by
 have h1:=h.n1;have lj:=h.l j;have lk:=h.l k;have l7:=h.l 7;have ij:Tx.cs (f j)=Tx.cs (f k)->j=k:=fun q=>h.i j k (by omega) (by omega) (Tx.cs_ext q)
 have e':=congrArg Tx.cs e;unfold rnS at e';cases b
 ·rw[if_neg yb7,if_neg yb7]at e';exact ij e'
 ·rw[if_pos rfl,if_pos rfl]at e';have len:=congrArg List.length e';split at e'
  ·split at e'
   ·rw[Tx.cs_app,Tx.cs_app]at e';exact ij (List.append_cancel_left e')
   ·split at e'
    ·exfalso
     rename_i a1 a2 a3;rw[if_pos a1,if_neg a2,if_pos a3,Tx.cs_app,Tx.cs_app,Tx.cs_app,sl2.1]at len;simp only[ya5,ya8,ybd]at len
     omega
    ·exfalso
     rename_i a1 a2 a3;rw[if_pos a1,if_neg a2,if_neg a3,Tx.cs_app,Tx.cs_app,sl2.1,sl2.2]at len;simp only[ya5,ya8,ybd]at len
     omega
  ·split at e'
   ·split at e'
    ·exfalso
     rename_i a1 a2 a3;rw[if_neg a1,if_pos a2,if_pos a3,Tx.cs_app,Tx.cs_app,Tx.cs_app,sl2.1]at len;simp only[ya5,ya8,ybd]at len
     omega
    ·split at e'
     ·rw[Tx.cs_app,Tx.cs_app,Tx.cs_app,Tx.cs_app,yap,yap]at e';exact ij (List.append_inj_left e' (by rw[lj,lk]))
     ·exfalso
      rw[Tx.cs_app,Tx.cs_app,Tx.cs_app,yap,sl2.1,sl2.2]at e';have q:=List.append_inj_right e' (by rw[lj,lk])
      have q2:Tx.cs (f 7)=[47]:=(ybv q).2;have:=h.a 7 47 (by rw[q2];exact ya6.mpr rfl)
      omega
   ·split at e'
    ·exfalso
     rename_i a1 a2 a3;rw[if_neg a1,if_neg a2,if_pos a3,Tx.cs_app,Tx.cs_app,sl2.1,sl2.2]at len;simp only[ya5,ya8,ybd]at len
     omega
    ·split at e'
     ·exfalso
      rw[Tx.cs_app,Tx.cs_app,Tx.cs_app,yap,sl2.1,sl2.2]at e';have q:=List.append_inj_right e' (by rw[lj,lk])
      have q2:[47]=Tx.cs (f 7):=(ybv q).2;have:=h.a 7 47 (by rw[<- q2];exact ya6.mpr rfl)
      omega
     ·rw[Tx.cs_app,Tx.cs_app]at e';exact ij (List.append_inj_left e' (by rw[lj,lk]))
theorem zg6{g:Nat->Str}{m:Nat}(h:∀j k,j<m->k<m->g j=g k->j=k):((List.range m).map g).Nodup:=by
 unfold List.Nodup;rw[List.pairwise_map];refine List.Pairwise.imp_of_mem (fun ha hb hne q=>?_) (List.nodup_range (n:=m))
 exact hne (h _ _ (ydz.mp ha) (ydz.mp hb) q)
theorem wat_ok{f:Nat->Str}{N:Nat}(h:FnOk82 f N)(b:Bool){q:Nat}(hq:q<7):∃W:List Str,(∀x∈W,Wnm x)/\W.Nodup/\W.length<=7/\(b=false->W=(((List.range 22).map f).drop 8).take q)/\(b=true->W=((((List.range 22).map f).drop 8).take q).take 2++Str.ofString "/"::((((List.range 22).map f).drop 8).take q).drop 2):=by
 have hsub:((((List.range 22).map f).drop 8).take q).Sublist ((List.range 22).map f):=(List.take_sublist _ _).trans (List.drop_sublist _ _);have hnd:=(zg6 (g:=f) (m:=22) fun j k hj hk e=>h.i j k (by omega) (by omega) e).sublist hsub
 have hl:((((List.range 22).map f).drop 8).take q).length<=6:=by rw[yb2];omega
 have hm:∀x∈(((List.range 22).map f).drop 8).take q,∃k,x=f k:=fun x hx=>by
  obtain⟨k,_,e⟩:=yaf.mp (hsub.subset hx);exact⟨k,e.symm⟩
 generalize (((List.range 22).map f).drop 8).take q=W0 at *
 have hw:∀x∈W0,Wnm x:=fun x hx=>by
  obtain⟨k,rfl⟩:=hm x hx;exact .inr (h.nm k)
 cases b
 ·exact⟨W0,hw,hnd,by omega,fun _=>rfl,fun z=>by cases z⟩
 ·refine⟨W0.take 2++Str.ofString "/"::W0.drop 2,fun x hx=>?_,?_,?_,(fun z=>by cases z),fun _=>rfl⟩
  ·rcases yai.mp hx with hx|hx
   ·exact hw x (List.mem_of_mem_take hx)
   ·rcases ya7.mp hx with rfl|hx
    ·exact .inl rfl
    ·exact hw x (List.mem_of_mem_drop hx)
  ·rw[List.perm_middle.nodup_iff,ycx,List.take_append_drop];refine⟨fun z=>?_,hnd⟩
   obtain⟨k,e⟩:=hm _ z;have:=h.a k 47 (by rw[<- e,sl2.1];exact ya6.mpr rfl)
   omega
  ·rw[ya5,ya8,yb2,ydl]
   omega
theorem cut_t2(l:List T):zk9 l none (some 2)=l.take 2:=by
 match l with
 |[]=>rfl
 |[a]=>rfl
 |a::b::r =>
  unfold zk9;rw[show(some (2:Int))=some ((2:Nat):Int) from rfl,HT.sIx_nat,HT.sIx_none,ya8,ya8,ycm (by omega)]
  rfl
theorem cut_d2(l:List T):zk9 l (some 2) none=l.drop 2:=by
 match l with
 |[]=>rfl
 |[a]=>rfl
 |a::b::r=>exact cut2 a b r
theorem cut_8{f:Nat->Str}{q:Nat}(hq:q<7):zk9 (mT 22 fun k=>T.str (f k)) (some 8) (some (8+(q:Int)))=((((List.range 22).map f).drop 8).take q).map T.str:=by
 have e:(mT 22 fun k=>T.str (f k))=((List.range 22).map f).map T.str:=by rw[yak];rfl
 rw[e,cut_map];refine congrArg (List.map T.str) ?_;unfold zk9;rw[show(some (8:Int))=some ((8:Nat):Int) from rfl,show(8:Int)+(q:Int)=((8+q:Nat):Int) from rfl,HT.sIx_nat,HT.sIx_nat,ya0,ydg,ycm (by omega),ycm (by omega),ydd]
abbrev qL(ns:List Int)(f:Nat->Str)(W:List Str)(xs:Nat->Int)(r:PSt):PSt:=some (zbf ns)::some (.lst (mT 22 fun k=>.str (f k)))::some (.lst (W.map T.str))::some (.lst (mT 6 fun i=>.int (xs i)))::r
section
variable {ns:List Int}{f:Nat->Str}{N:Nat}{W:List Str}{xs:Nat->Int}
theorem room_turn(hF:FnOk82 f N)(hw:∀x∈W,Wnm x){k:Nat}(hk:k<6){l:List T}(hl:l.length<1000){x12:Option T}:∃L:List Lk,LgOk W stS L/\∃y12,zkq (qL ns f W xs [some (.own l),some (.int (k:Int)),none,none,none,none,none,none,x12])
  = some (.nx (qL ns f W xs [some (.own (l++[rxT (rnS (((ns.getD (3:Int).toNat 0).fdiv 6).fmod 4 == 1) f k,L)])),some (.int (k:Int)),none,none,none,none,none,none,y12])):=by
 have c3:=zfm ns (k:=3) (by decide)
 have c14:=zfm ns (k:=14) (by decide)
 obtain⟨L,hL,eL⟩:=looks_ok hw (wd:=stS) (fun o ho=>by unfold stS at ho;unfold wdS;simp only[ya7,yb5,or_false]at ho ⊢;rcases ho with rfl|rfl<;>simp) (ybw _ _) (xs k) (ns.getD (14:Int).toNat 0)
 have eL':zfq [.int (xs k),.lst (W.map T.str),.lst [.str (Str.ofString "<"),.str (Str.ofString "<=")],.int (ns.getD (14:Int).toNat 0)]=some (.ok (.own (L.map lkT))):=eL;have sn:shL (mT 22 fun k=>T.str (f k))=true:=zi7 fun _=>rfl
 have sx:shL (mT 6 fun i=>T.int (xs i))=true:=zi7 fun _=>rfl
 have ak:atI (mT 22 fun k=>T.str (f k)) (k:Int)=some (.str (f k)):=mT_at (by omega)
 have a7:atI (mT 22 fun k=>T.str (f k)) 7=some (.str (f 7)):=mT_at (i:=7) (by decide)
 have xk:atI (mT 6 fun i=>T.int (xs i)) (k:Int)=some (.int (xs k)):=mT_at (by omega)
 have s6:s70 6=true:=zep (by decide) (by decide)
 have ll:l.length<100000:=by omega
 have fl:∀k,(f k).length<=8:=fun k=>(hF.nm k).2.2
 have q1:(Str.ofString "/").length=1/\(Str.ofString "//").length=2:=by decide +kernel
 have z1:=zl (yax q1.1) (fl k) (by decide)
 have z2:=zl (fl k) (yax q1.1) (by decide)
 have z3:=zl (zbm (fl k) (yax q1.1)) (fl 7) (by decide)
 have z4:=zl (fl k) (yax q1.2) (by decide)
 refine⟨L,hL,some (.str (rnS (((ns.getD (3:Int).toNat 0).fdiv 6).fmod 4 == 1) f k)),?_⟩;have sc:=ze1 ns;have ss:=zi6 ns;unfold zkq;refine sq (τ':=(qL ns f W xs [some (.own l),some (.int (k:Int)),none,none,none,none,none,none,some (.str (f k))])) (by simp_arith[sn,ak]) ?_
 refine sq (τ':=(qL ns f W xs [some (.own l),some (.int (k:Int)),none,none,none,none,none,none,some (.str (rnS (((ns.getD (3:Int).toNat 0).fdiv 6).fmod 4 == 1) f k))])) ?_ ?_
 ·cases hb:(((ns.getD (3:Int).toNat 0).fdiv 6).fmod 4 == 1)
  ·have e:rnS false f k=f k:=rfl;rw[e]
   simp_arith[sc,ss,c3,s6,zd4,hb]
  ·have e:atI [T.str (Str.ofString "/"++f k),.str (f k++Str.ofString "/"++f 7),.str (f k++Str.ofString "//")] ((k:Int).fmod 3)=some (.str (rnS true f k)):=by
    unfold rnS;rw[if_pos rfl,fm (by decide)]
    have h3:k % 3=0\/k % 3=1\/k % 3=2:=by omega
    have hc:(k:Int) % 3=((k % 3:Nat):Int):=rfl;rw[hc]
    rcases h3 with h|h|h
    ·rw[h,if_pos rfl];exact zb8 (by decide) rfl
    ·rw[h,if_neg (by decide),if_pos rfl]
     exact zb8 (by decide) rfl
    ·rw[h,if_neg (by decide),if_neg (by decide)]
     exact zb8 (by decide) rfl
   simp_arith[sc,ss,c3,s6,zd4,hb,sn,a7,z1,z2,z3,z4,e]
 simp_arith[sc,ss,c14,sx,xk,za8,za3,eL',zb1,zak,ll]
 rfl
theorem room_loop(hF:FnOk82 f N)(hw:∀x∈W,Wnm x){m:Nat}(hm:m<=6):∃R:List (Str×List Lk),R.map (·.1)=(List.range m).map (rnS (((ns.getD (3:Int).toNat 0).fdiv 6).fmod 4 == 1) f)/\(∀r∈R,LgOk W stS r.2)/\∃y5 y12,zet (bNm 5) zkq (mT m fun i=>.int (i:Int)) (qL ns f W xs [some (.own []),none,none,none,none,none,none,none,none])
  = some (.nx (qL ns f W xs [some (.own (R.map rxT)),y5,none,none,none,none,none,none,y12])):=by
 obtain⟨τ,e,R,hR,hok,y5,y12,rfl⟩:=zb3 (b:=bNm 5) (body:=zkq) (ts:=mT m fun i=>.int (i:Int)) (τ:=(qL ns f W xs [some (.own []),none,none,none,none,none,none,none,none]))
  (fun i τ=>∃R:List (Str×List Lk),R.map (·.1)=(List.range i).map (rnS (((ns.getD (3:Int).toNat 0).fdiv 6).fmod 4 == 1) f)/\(∀r∈R,LgOk W stS r.2)/\∃y5 y12,τ=(qL ns f W xs [some (.own (R.map rxT)),y5,none,none,none,none,none,none,y12])) ⟨[],rfl,fun _ z=>(by cases z),none,none,rfl⟩ fun i t τ h1 h2=>by
   obtain⟨hi,rfl⟩:=zc6 h1;obtain⟨R,hR,hok,y5,y12,rfl⟩:=h2
   have hRl:R.length=i:=by
    have:=congrArg List.length hR;rw[ya0,ya0,ydg]at this;exact this
   obtain⟨L,hL,z12,ew⟩:=room_turn (ns:=ns) (xs:=xs) hF hw (k:=i) (by omega) (l:=R.map rxT) (by rw[ya0];omega) (x12:=y12)
   refine⟨_,(by simp_arith[]),_,ew,R++[(rnS (((ns.getD (3:Int).toNat 0).fdiv 6).fmod 4 == 1) f i,L)],?_,fun u hu=>?_,some (.int (i:Int)),z12,(by rw[yaq];rfl)⟩
   ·rw[yaq,hR,List.range_succ,yaq]
    rfl
   ·rcases yai.mp hu with hu|hu
    ·exact hok u hu
    ·rw[ya6.mp hu];exact hL
 rw[zd3]at hR;exact⟨R,hR,hok,y5,y12,e⟩
end
theorem law_true(ns:List Int)(h:ns.length<=63):R_law [zbf ns]=some (.ok (.bl true)):=by
 have c0:=zfm ns (k:=0) (by decide)
 have c1:=zfm ns (k:=1) (by decide)
 have c2:=zfm ns (k:=2) (by decide)
 have c3:=zfm ns (k:=3) (by decide)
 have nm:zix [.int (ns.getD (0:Int).toNat 0),.int 22]=some (.ok (.own (mT 22 fun k=>.str (nmX (ns.getD (0:Int).toNat 0) k)))):=names_ok (ns.getD (0:Int).toNat 0) (m:=22) (by decide)
 have hF:FnOk82 (nmX (ns.getD (0:Int).toNat 0)) (nmN (ns.getD (0:Int).toNat 0)):=⟨(zib _).1,(zib _).2.1,fun k=>by rw[nm_cs,ya0,ydg],nm_abc _,fun j k hj hk e=>nm_inj83 hj hk e⟩
 generalize nmX (ns.getD (0:Int).toNat 0)=f at *;generalize nmN (ns.getD (0:Int).toNat 0)=N at *;obtain⟨q,hq⟩:=ybq (yb9 (ns.getD (1:Int).toNat 0) (show(0:Int)<7 by decide))
 have hq7:=ybk (ns.getD (1:Int).toNat 0) (show(0:Int)<7 by decide)
 rw[hq]at hq7;have hq':q<7:=ycf.mp hq7;obtain⟨W,hW1,hW2,hW3,hW4,hW5⟩:=wat_ok hF (((ns.getD (1:Int).toNat 0).fdiv 7).fmod 4 == 1) hq';have c8:=cut_8 (f:=f) hq';obtain⟨xs,ex⟩:=st_ex (ns.getD (2:Int).toNat 0) (m:=6) (by decide)
 have ex':zd7 [.int (ns.getD (2:Int).toNat 0),.int 6]=some (.ok (.own (mT 6 fun i=>.int (xs i)))):=ex
 obtain⟨p,hp⟩:=ybq (yb9 (ns.getD (3:Int).toNat 0) (show(0:Int)<6 by decide))
 have hp6:=ybk (ns.getD (3:Int).toNat 0) (show(0:Int)<6 by decide)
 rw[hp]at hp6;have hp':p<6:=ycf.mp hp6;obtain⟨R,hR,hRk,y5,y12,lp⟩:=room_loop (ns:=ns) (xs:=xs) hF hW1 (m:=1+p) (by omega)
 have hRl:R.length=1+p:=by
  have:=congrArg List.length hR;rw[ya0,ya0,ydg]at this;exact this
 have hR0:R≠[]:=fun z=>by rw[z,ybd]at hRl;omega
 have hrn:∀r∈R,∃k,r.1=rnS (((ns.getD (3:Int).toNat 0).fdiv 6).fmod 4 == 1) f k:=fun r hr=>by
  have:r.1∈R.map (·.1):=yaf.mpr ⟨r,hr,rfl⟩;rw[hR]at this;obtain⟨k,_,e⟩:=yaf.mp this;exact⟨k,e.symm⟩
 obtain⟨D,hD,hDk,eD⟩:=doors_ok (ns:=ns) (R:=R) hW1 hW2 hW3 hR0 (fun k=>hF.nm k)
 have al:AlOk W R D:=by
  refine⟨⟨hW1,hW3,fun r hr=>?_,by omega,hDk,hD⟩,hW2,hR0,fun r hr=>?_,?_⟩
  ·obtain⟨k,e⟩:=hrn r hr;obtain⟨a1,a2,a3⟩:=rn_cs hF (((ns.getD (3:Int).toNat 0).fdiv 6).fmod 4 == 1) k;rw[<- e]at a1 a3;exact⟨fun i hi=>a1 _ (cs_getD hi),a3,hRk r hr⟩
  ·obtain⟨k,e⟩:=hrn r hr;obtain⟨a1,a2,a3⟩:=rn_cs hF (((ns.getD (3:Int).toNat 0).fdiv 6).fmod 4 == 1) k;rw[<- e]at a2;exact a2
  ·rw[hR];exact zg6 fun j k hj hk e=>rn_inj hF _ (by omega) (by omega) e
 have e9:=txt_ok al.t (mc_sum al);have e10:=shm_ok al;have e11:=rmach_ok al;have e12:=right_ok al
 have tS:PyData.strOk (mcS W R D)=true:=znm fun c hc=>by
  rw[mc_cs al]at hc
  have key:∀l:List (List Nat),(∀p∈l,∀c∈p,c<128)->∀c∈Tx.joinL 10 l,c<128:=by
   intro l
   induction l with
   |nil=>intro _ c hc;cases hc
   |cons a r ih =>
    intro hp c hc;cases r with
    |nil=>exact hp a (yab ..) c hc
    |cons b r =>
     rcases yai.mp (show c∈a++10::Tx.joinL 10 (b::r) from hc) with hc|hc
     ·exact hp a (yab ..) c hc
     ·rcases ya7.mp hc with rfl|hc
      ·decide
      ·exact ih (fun p hp'=>hp p (ya9 _ hp')) c hc
  refine key _ (fun p hp c hc=>?_) c hc
  rw[yak]at hp;obtain⟨l,hl,rfl⟩:=yaf.mp hp;exact(row_free al l hl c hc).2
 have n1:=ne_same tS;have n2:eqT (.str (mcS W R D)) (.str (mcS W R D))=some (.bl true):=by rw[zgs tS tS,decide_eq_true rfl]
 have l13:zfy (bNm 0) (mC (.bl true)) zkn (D.map dxT) [none]=some (D.map fun d=>zbq (dxD d)):=by
  refine zbh (b:=bNm 0) (me:=zkn) dxT (fun d=>zbq (dxD d)) (fun τ=>∃a,τ=[a]) D _ ⟨none,rfl⟩ fun d hd τ hI=>?_
  obtain⟨a,rfl⟩:=hI;have di:zbo [.str d.s,.str d.e,.lst (d.g.map lkT),.lst (d.n.map T.str),.str d.z]=some (.ok (zbq (dxD d))):=di_ok (d:=dxD d) (al.mc.d _ (yaf.mpr ⟨d,hd,rfl⟩));have a:=fun(j:Nat) x (hj:[T.str d.s,.str d.e,.lst (d.g.map lkT),.lst (d.n.map T.str),.str d.z][j]?=some x)=>(zb8 (l:=[T.str d.s,.str d.e,.lst (d.g.map lkT),.lst (d.n.map T.str),.str d.z]) (k:=(j:Int)) (ybe _) (by rw[ybl];exact hj))
  have a0:atI [T.str d.s,.str d.e,.lst (d.g.map lkT),.lst (d.n.map T.str),.str d.z] 0=some (.str d.s):=a 0 _ rfl;have a1:atI [T.str d.s,.str d.e,.lst (d.g.map lkT),.lst (d.n.map T.str),.str d.z] 1=some (.str d.e):=a 1 _ rfl;have a2:atI [T.str d.s,.str d.e,.lst (d.g.map lkT),.lst (d.n.map T.str),.str d.z] 2=some (.lst (d.g.map lkT)):=a 2 _ rfl;have a3:atI [T.str d.s,.str d.e,.lst (d.g.map lkT),.lst (d.n.map T.str),.str d.z] 3=some (.lst (d.n.map T.str)):=a 3 _ rfl;have a4:atI [T.str d.s,.str d.e,.lst (d.g.map lkT),.lst (d.n.map T.str),.str d.z] 4=some (.str d.z):=a 4 _ rfl;refine⟨[some (dxT d)],rfl,?_,_,rfl⟩;generalize zbq (dxD d)=M at *;unfold zkn dxT
  simp_arith[a0,a1,a2,a3,a4,zb1,zak,za8,za3,di]
 have l14:zfy (zi4 2 (zao (bNm 0) (zao (bNm 1) ziv))) (mC (.bl true)) zkm (R.map rxT) [none,none]=some (R.map rxT):=by
  refine zbh (me:=zkm) rxT rxT (fun τ=>∃a b,τ=[a,b]) R _ ⟨none,none,rfl⟩ fun r hr τ hI=>?_
  obtain⟨a,b,rfl⟩:=hI;refine⟨[some (.str r.1),some (.lst (r.2.map lkT))],by unfold rxT;simp_arith[zb1,zak],?_,_,_,rfl⟩
  unfold zkm
  simp_arith[zb1,zak]
  rfl
 have ed:(D.map fun d=>zbq (dxD d))=(D.map dxD).map zbq:=by rw[yak];rfl
 rw[ed]at l13;have sd:shL ((D.map dxD).map zbq)=true:=al.mc.sd;have sd2:=za1 _ sd
 have mi:zaz [.lst (W.map T.str),.lst (R.map rxT),.lst ((D.map dxD).map zbq)]=some (.ok (zht (mcO W R D))):=by
  have:=mi_ok71 al.mc;rw[show rmsT (mcO W R D).rs=.lst (R.map rxT) from congrArg T.lst (mc_rom R)]at this;exact this
 have hMs:=al.mc.sh;have hMs2:=zbc _ hMs;have sn:shL (mT 22 fun k=>T.str (f k))=true:=zi7 fun _=>rfl
 have sn2:=za1 _ sn;have sx2:zae (mT 6 fun i=>T.int (xs i))=mT 6 fun i=>T.int (xs i):=za1 _ (zi7 fun _=>rfl)
 have sc:=ze1 ns;have ss:=zi6 ns;have s7:s70 7=true:=zep (by decide) (by decide)
 have okp:ok62 (1+(p:Int))=true:=zh8 (n:=1+p) (by omega)
 have erp:zeq 0 (1+(p:Int)).toNat=mT (1+p) fun i=>.int (i:Int):=by
  rw[show(1+(p:Int)).toNat=1+p by omega]
  exact zd2
 have lW:W.length<=lim:=by unfold lim;omega
 have lR:R.length<=lim:=by unfold lim;omega
 have lD:D.length<=lim:=by unfold lim;omega
 generalize hM:zht (mcO W R D)=M at *;generalize hZ:(D.map dxD).map zbq=Z at *
 have key:m_law [some (zbf ns),none,none,none,none,none,none,none,none,none,none,none,none]=some (.rt (.bl true)):=by
  unfold m_law;refine sq (τ':=[some (zbf ns),some (.lst (mT 22 fun k=>.str (f k))),none,none,none,none,none,none,none,none,none,none,none]) (by simp_arith[sc,ss,c0,nm,sn2]) ?_
  refine sq (τ':=[some (zbf ns),some (.lst (mT 22 fun k=>.str (f k))),some (.lst (((((List.range 22).map f).drop 8).take q).map T.str)),none,none,none,none,none,none,none,none,none,none]) (by simp_arith[sn,sn2,sc,ss,c1,hq,c8,za3]) ?_
  refine sq (τ':=[some (zbf ns),some (.lst (mT 22 fun k=>.str (f k))),some (.lst (W.map T.str)),none,none,none,none,none,none,none,none,none,none]) ?_ ?_
  ·cases hb:(((ns.getD (1:Int).toNat 0).fdiv 7).fmod 4 == 1)
   ·rw[hW4 hb]
    simp_arith[sc,ss,c1,s7,zd4,hb]
   ·rw[hW5 hb];have hl2:((((List.range 22).map f).drop 8).take q).length<=6:=by rw[yb2];omega
    generalize (((List.range 22).map f).drop 8).take q=W0 at *;have t1:(W0.map T.str).take 2=(W0.take 2).map T.str:=List.map_take.symm;have t2:(W0.map T.str).drop 2=(W0.drop 2).map T.str:=List.map_drop.symm;have u1:(W0.take 2).length+1<=lim:=by rw[yb2];unfold lim;omega
    have u2:(W0.take 2).length+1+(W0.drop 2).length<=lim:=by rw[yb2,ydl];unfold lim;omega
    have u3:zae ((W0.take 2).map T.str++[T.str (Str.ofString "/")])=(W0.take 2).map T.str++[T.str (Str.ofString "/")]:=by
     refine za1 _ ?_;rw[zaw,ycl,<- zaw,za8]
     rfl
    have u4:zae ((W0.take 2).map T.str++T.str (Str.ofString "/")::(W0.drop 2).map T.str)=(W0.take 2).map T.str++T.str (Str.ofString "/")::(W0.drop 2).map T.str:=by
     refine za1 _ ?_;rw[zaw,ycl,<- zaw,za8,List.all_cons,<- zaw,za8]
     rfl
    rw[yaq,yah]
    simp_arith[sc,ss,c1,s7,zd4,hb,za8,za3,cut_t2,cut_d2,t1,t2,ya0,u1,ya5,u2,u3,yap,u4]
  refine sq (τ':=(qL ns f W xs [none,none,none,none,none,none,none,none,none])) (by simp_arith[sc,ss,c2,ex',sx2]) ?_
  refine sq (τ':=(qL ns f W xs [some (.own []),none,none,none,none,none,none,none,none])) (by simp_arith[]) ?_
  refine sq (τ':=(qL ns f W xs [some (.own (R.map rxT)),y5,none,none,none,none,none,none,y12])) (by simp_arith[sc,ss,c3,hp,okp,erp];exact lp) ?_
  refine sq (τ':=(qL ns f W xs [some (.lst (R.map rxT)),y5,none,none,none,none,none,none,y12])) (by simp_arith[zax]) ?_
  refine sq (τ':=(qL ns f W xs [some (.lst (R.map rxT)),y5,some (.lst (D.map dxT)),none,none,none,none,none,y12])) (by simp_arith[sc,ss,zfr,zax,za8,za3,sn,sn2,eD,zd5]) ?_
  refine sq (τ':=(qL ns f W xs [some (.lst (R.map rxT)),y5,some (.lst (D.map dxT)),some (.lst Z),none,none,none,none,y12])) (by simp_arith[zm1,zd5,ya0,lD,l13,sd2]) ?_
  refine sq (τ':=(qL ns f W xs [some (.lst (R.map rxT)),y5,some (.lst (D.map dxT)),some (.lst Z),none,none,none,none,y12])) (by simp_arith[zax]) ?_
  refine sq (τ':=(qL ns f W xs [some (.lst (R.map rxT)),y5,some (.lst (D.map dxT)),some (.lst Z),some M,none,none,none,y12])) (by simp_arith[za8,za3,zfr,zax,ya0,lW,lR,l14,sd,sd2,mi,hMs2]) ?_
  refine sq (τ':=(qL ns f W xs [some (.lst (R.map rxT)),y5,some (.lst (D.map dxT)),some (.lst Z),some M,none,none,none,y12])) (by simp_arith[zax]) ?_
  refine sq (τ':=(qL ns f W xs [some (.lst (R.map rxT)),y5,some (.lst (D.map dxT)),some (.lst Z),some M,some (.str (mcS W R D)),none,none,y12])) (by simp_arith[za8,za3,zfr,zax,zm1,zd5,e9]) ?_
  refine sq (τ':=(qL ns f W xs [some (.lst (R.map rxT)),y5,some (.lst (D.map dxT)),some (.lst Z),some M,some (.str (mcS W R D)),some (.str (mcS W R D)),none,y12])) (by simp_arith[hMs,hMs2,e10]) ?_
  refine sq (τ':=(qL ns f W xs [some (.lst (R.map rxT)),y5,some (.lst (D.map dxT)),some (.lst Z),some M,some (.str (mcS W R D)),some (.str (mcS W R D)),none,y12])) (by simp_arith[n1]) ?_
  refine sq (τ':=(qL ns f W xs [some (.lst (R.map rxT)),y5,some (.lst (D.map dxT)),some (.lst Z),some M,some (.str (mcS W R D)),some (.str (mcS W R D)),some M,y12])) (by simp_arith[e11,hMs2]) ?_
  refine sq (τ':=(qL ns f W xs [some (.lst (R.map rxT)),y5,some (.lst (D.map dxT)),some (.lst Z),some M,some (.str (mcS W R D)),some (.str (mcS W R D)),some M,y12])) (by simp_arith[zax]) ?_
  simp_arith[hMs,hMs2,za8,za3,zfr,zax,zm1,zd5,e12,e10,n2]
 unfold R_law
 simp_arith[sc,ss,key]
end
end Zl
namespace Zl
open PySem PySem.W L2 Zw Zx Pu Hd
abbrev pw:Program:=PySem.Challenge.pw_zonewalk_k82_machines_as_text
abbrev rw_:OpenLaw:=PySem.Challenge.rw_zonewalk_k82_machines_as_text
def cO(a:Str)(ta:Nat)(b:Str)(tb:Nat)(f:Str)(tf:Nat)(r n k:Int)(r1:Nat)(z:Int)(r2 r3 r4 r5:Nat)(x y:Int)(tg:Nat):Obj:=⟨(.type "code"),none,(.fields (Array.mk [(.str a ta),(.str b tb),(.str f tf),(.int r 0),(.int n 0),(.int 0 0),(.int 0 0),(.int k 0),(.ref r1),(.bool true),(.int z 0),(.ref r2),.none,(.ref r3),(.ref r4),(.ref r5),(.int x 0),(.int y 0),(.str f tg)])),Array.mk []⟩
def fO(a b:Str)(s:Stmt)(d:Value)(m:Str)(t c:Nat)(y:Value):Obj:=⟨(.type "function"),none,(.func (fnOf a b (zgu s) (zaa s) (za2 s) d .none .none (.str m t) none (.ref c) y)),Array.mk []⟩
noncomputable def o2(P:Params):Obj:=⟨.none,none,(.dict (Array.mk []) 0),Array.mk []⟩
noncomputable def o3(P:Params):Obj:=⟨(.type "dict"),none,(.dict (Array.mk [en P "__name__" 165 (.str "law_zonewalk_k82_machines_as_text" 594),en P "__doc__" 166 .none,en P "__package__" 167 .none,en P "__loader__" 168 (.builtin "__main__.__loader__#opaque"),en P "__spec__" 169 .none,en P "__annotations__" 170 (.ref 6),en P "__builtins__" 171 (.ref 4),en P "__file__" 173 (.str "/claim/cut.py" 172),en P "__cached__" 174 .none,en P "_wall" 193 (.ref 21),en P "WalkError" 213 (.ref 31),en P "BadMachine" 229 (.ref 44),en P "TooMany" 245 (.ref 56),en P "NoText" 261 (.ref 68),en P "is_whole" 270 (.ref 77),en P "WORDS" 278 (.ref 78),en P "STAY_WORDS" 281 (.ref 79),en P "is_look" 290 (.ref 86),en P "is_number" 297 (.ref 93),en P "is_guard" 303 (.ref 98),en P "MOST_WATCHES" 307 (.int 7 306),en P "MOST_ROOMS" 309 (.int 64 308),en P "MOST_DOORS" 311 (.int 200 310),en P "is_small_letter" 318 (.ref 105),en P "is_name" 324 (.ref 110),en P "is_watch_name" 331 (.ref 117),en P "is_room_name" 337 (.ref 122),en P "is_sign" 344 (.ref 129),en P "own_copy" 351 (.ref 136),en P "Door" 403 (.ref 168),en P "Machine" 469 (.ref 222),en P "check_watches" 475 (.ref 231),en P "are_unlike" 482 (.ref 238),en P "check_rooms" 488 (.ref 243),en P "check_doors" 498 (.ref 250),en P "are_noughts" 504 (.ref 255),en P "FIGURES" 508 (.str "0123456789" 507),en P "MOST_FIGURES" 510 (.int 60 509),en P "LOOK_SIGNS" 514 (.ref 256),en P "NOUGHT_END" 516 (.str ":0" 515),en P "check_text" 523 (.ref 263),en P "is_number_text" 529 (.ref 268),en P "read_number" 536 (.ref 275),en P "show_number" 546 (.ref 282),en P "show_looks" 552 (.ref 287),en P "read_look" 558 (.ref 292),en P "read_looks" 564 (.ref 297),en P "show_machine" 570 (.ref 302),en P "door_words" 576 (.ref 307),en P "read_machine" 582 (.ref 312),en P "read_door" 593 (.ref 319),en P "_law_cell_at" 603 (.ref 326),en P "_law_stream" 615 (.ref 333),en P "_law_names" 631 (.ref 340),en P "_law_size" 639 (.ref 347),en P "_law_looks" 652 (.ref 354),en P "_law_doors" 658 (.ref 359),en P "_law_looks_text" 664 (.ref 364),en P "_law_text" 670 (.ref 369),en P "_law_right" 676 (.ref 374),en P "law" 682 (.ref 379)]) 61),Array.mk []⟩
noncomputable def o22(P:Params):Obj:=⟨(.type "tuple"),none,(.seq (Array.mk [(.type "ValueError")]) 0),Array.mk []⟩
noncomputable def o29(P:Params):Obj:=⟨(.type "tuple"),none,(.seq (Array.mk []) 0),Array.mk []⟩
noncomputable def o30(P:Params):Obj:=⟨(.type "dict"),none,(.dict (Array.mk [en P "__module__" 203 (.str "zonewalk.errors" 194),en P "__firstlineno__" 207 (.int 5 206),en P "__static_attributes__" 208 (.ref 29),en P "__weakref__" 210 (.ref 32),en P "__doc__" 211 .none]) 3),Array.mk []⟩
noncomputable def o31(P:Params):Obj:=⟨(.type "type"),none,(.cls ⟨"WalkError",[(.type "ValueError")],[(.ref 31),(.type "ValueError"),(.type "Exception"),(.type "BaseException"),(.type "object")],30,"WalkError",true,[],[(.ref 44),(.ref 56),(.ref 68)],false,none,false⟩),Array.mk [(some (.ref 22)),none,(some (.str "WalkError" 196)),(some (.str "WalkError" 204)),(some (.builtin "ValueError.__new__")),(some (.bool true))]⟩
noncomputable def o32(P:Params):Obj:=⟨(.type "getset_descriptor"),none,(.fields (Array.mk [(.str "__weakref__" 209),(.ref 31),(.builtin "ExceptionGroup.__weakref__"),.none])),Array.mk []⟩
noncomputable def o35(P:Params):Obj:=⟨(.type "tuple"),none,(.seq (Array.mk [(.ref 31)]) 0),Array.mk []⟩
noncomputable def o42(P:Params):Obj:=⟨(.type "tuple"),none,(.seq (Array.mk []) 0),Array.mk []⟩
noncomputable def o43(P:Params):Obj:=⟨(.type "dict"),none,(.dict (Array.mk [en P "__module__" 221 (.str "zonewalk.errors" 194),en P "__firstlineno__" 225 (.int 7 224),en P "__static_attributes__" 226 (.ref 42),en P "__doc__" 227 .none]) 2),Array.mk []⟩
noncomputable def o44(P:Params):Obj:=⟨(.type "type"),none,(.cls ⟨"BadMachine",[(.ref 31)],[(.ref 44),(.ref 31),(.type "ValueError"),(.type "Exception"),(.type "BaseException"),(.type "object")],43,"BadMachine",true,[],[],false,none,false⟩),Array.mk [(some (.ref 35)),none,(some (.str "BadMachine" 214)),(some (.str "BadMachine" 222)),(some (.builtin "ValueError.__new__")),(some (.bool true))]⟩
noncomputable def o47(P:Params):Obj:=⟨(.type "tuple"),none,(.seq (Array.mk [(.ref 31)]) 0),Array.mk []⟩
noncomputable def o54(P:Params):Obj:=⟨(.type "tuple"),none,(.seq (Array.mk []) 0),Array.mk []⟩
noncomputable def o55(P:Params):Obj:=⟨(.type "dict"),none,(.dict (Array.mk [en P "__module__" 237 (.str "zonewalk.errors" 194),en P "__firstlineno__" 241 (.int 9 240),en P "__static_attributes__" 242 (.ref 54),en P "__doc__" 243 .none]) 2),Array.mk []⟩
noncomputable def o56(P:Params):Obj:=⟨(.type "type"),none,(.cls ⟨"TooMany",[(.ref 31)],[(.ref 56),(.ref 31),(.type "ValueError"),(.type "Exception"),(.type "BaseException"),(.type "object")],55,"TooMany",true,[],[],false,none,false⟩),Array.mk [(some (.ref 47)),none,(some (.str "TooMany" 230)),(some (.str "TooMany" 238)),(some (.builtin "ValueError.__new__")),(some (.bool true))]⟩
noncomputable def o59(P:Params):Obj:=⟨(.type "tuple"),none,(.seq (Array.mk [(.ref 31)]) 0),Array.mk []⟩
noncomputable def o66(P:Params):Obj:=⟨(.type "tuple"),none,(.seq (Array.mk []) 0),Array.mk []⟩
noncomputable def o67(P:Params):Obj:=⟨(.type "dict"),none,(.dict (Array.mk [en P "__module__" 253 (.str "zonewalk.errors" 194),en P "__firstlineno__" 257 (.int 11 256),en P "__static_attributes__" 258 (.ref 66),en P "__doc__" 259 .none]) 2),Array.mk []⟩
noncomputable def o68(P:Params):Obj:=⟨(.type "type"),none,(.cls ⟨"NoText",[(.ref 31)],[(.ref 68),(.ref 31),(.type "ValueError"),(.type "Exception"),(.type "BaseException"),(.type "object")],67,"NoText",true,[],[],false,none,false⟩),Array.mk [(some (.ref 59)),none,(some (.str "NoText" 246)),(some (.str "NoText" 254)),(some (.builtin "ValueError.__new__")),(some (.bool true))]⟩
noncomputable def o76(_:Params):=cO "is_whole" 264 "is_whole" 265 "/claim/cut.py" 266 14 1 3 71 181 72 73 74 75 268 14 269
noncomputable def o77(_:Params):=fO "is_whole" "is_whole" (top 7) .none "zonewalk.fractions" 262 76 .none
noncomputable def o78(P:Params):Obj:=⟨(.type "tuple"),none,(.seq (Array.mk [(.str "<" 273),(.str "<=" 274),(.str ">" 275),(.str ">=" 276),(.str "=" 277)]) 0),Array.mk []⟩
noncomputable def o79(P:Params):Obj:=⟨(.type "tuple"),none,(.seq (Array.mk [(.str "<" 279),(.str "<=" 280)]) 0),Array.mk []⟩
noncomputable def o85(_:Params):=cO "is_look" 282 "is_look" 283 "/claim/cut.py" 284 19 3 3 80 181 81 82 83 84 288 19 289
noncomputable def o86(_:Params):=fO "is_look" "is_look" (top 11) .none "zonewalk.looks" 271 85 .none
noncomputable def o92(_:Params):=cO "is_number" 291 "is_number" 292 "/claim/cut.py" 293 23 1 3 87 181 88 89 90 91 295 23 296
noncomputable def o93(_:Params):=fO "is_number" "is_number" (top 12) .none "zonewalk.looks" 271 92 .none
noncomputable def o97(P:Params):Obj:=⟨(.type "code"),none,(.fields (Array.mk [(.str "is_guard" 298),(.str "is_guard" 299),(.str "/claim/cut.py" 300),(.int 25 0),(.int 3 0),(.int 0 0),(.int 0 0),(.int 3 0),(.ref 94),(.bool true),(.int 181 0),(.ref 95),.none,.none,.none,(.ref 96),(.int 301 0),(.int 25 0),(.str "/claim/cut.py" 302)])),Array.mk []⟩
noncomputable def o98(_:Params):=fO "is_guard" "is_guard" (top 13) .none "zonewalk.looks" 271 97 .none
noncomputable def o104(_:Params):=cO "is_small_letter" 312 "is_small_letter" 313 "/claim/cut.py" 314 31 1 3 99 181 100 101 102 103 316 31 317
noncomputable def o105(_:Params):=fO "is_small_letter" "is_small_letter" (top 18) .none "zonewalk.machines" 304 104 .none
noncomputable def o109(P:Params):Obj:=⟨(.type "code"),none,(.fields (Array.mk [(.str "is_name" 319),(.str "is_name" 320),(.str "/claim/cut.py" 321),(.int 33 0),(.int 1 0),(.int 0 0),(.int 0 0),(.int 3 0),(.ref 106),(.bool true),(.int 181 0),(.ref 107),.none,.none,.none,(.ref 108),(.int 322 0),(.int 33 0),(.str "/claim/cut.py" 323)])),Array.mk []⟩
noncomputable def o110(_:Params):=fO "is_name" "is_name" (top 19) .none "zonewalk.machines" 304 109 .none
noncomputable def o116(_:Params):=cO "is_watch_name" 325 "is_watch_name" 326 "/claim/cut.py" 327 35 1 3 111 181 112 113 114 115 329 35 330
noncomputable def o117(_:Params):=fO "is_watch_name" "is_watch_name" (top 20) .none "zonewalk.machines" 304 116 .none
noncomputable def o121(P:Params):Obj:=⟨(.type "code"),none,(.fields (Array.mk [(.str "is_room_name" 332),(.str "is_room_name" 333),(.str "/claim/cut.py" 334),(.int 37 0),(.int 1 0),(.int 0 0),(.int 0 0),(.int 3 0),(.ref 118),(.bool true),(.int 181 0),(.ref 119),.none,.none,.none,(.ref 120),(.int 335 0),(.int 37 0),(.str "/claim/cut.py" 336)])),Array.mk []⟩
noncomputable def o122(_:Params):=fO "is_room_name" "is_room_name" (top 21) .none "zonewalk.machines" 304 121 .none
noncomputable def o128(_:Params):=cO "is_sign" 338 "is_sign" 339 "/claim/cut.py" 340 41 1 3 123 181 124 125 126 127 342 41 343
noncomputable def o129(_:Params):=fO "is_sign" "is_sign" (top 22) .none "zonewalk.machines" 304 128 .none
noncomputable def o135(_:Params):=cO "own_copy" 345 "own_copy" 346 "/claim/cut.py" 347 45 1 3 130 181 131 132 133 134 349 45 350
noncomputable def o136(_:Params):=fO "own_copy" "own_copy" (top 23) .none "zonewalk.machines" 304 135 .none
noncomputable def o144(P:Params):Obj:=⟨(.type "tuple"),none,(.seq (Array.mk [(.str "" 364)]) 0),Array.mk []⟩
noncomputable def o150(_:Params):=cO "__init__" 365 "Door.__init__" 366 "/claim/cut.py" 367 49 6 3 145 181 146 147 148 149 374 49 375
noncomputable def o151(_:Params):=fO "__init__" "Door.__init__" (meth 24 0) (.ref 144) "zonewalk.machines" 304 150 .none
noncomputable def o157(_:Params):=cO "asks" 377 "Door.asks" 378 "/claim/cut.py" 379 56 1 3 152 181 153 154 155 156 381 56 382
noncomputable def o158(_:Params):=fO "asks" "Door.asks" (meth 24 1) .none "zonewalk.machines" 304 157 .none
noncomputable def o164(_:Params):=cO "sets" 384 "Door.sets" 385 "/claim/cut.py" 386 59 1 3 159 181 160 161 162 163 388 59 389
noncomputable def o165(_:Params):=fO "sets" "Door.sets" (meth 24 2) .none "zonewalk.machines" 304 164 .none
noncomputable def o166(P:Params):Obj:=⟨(.type "tuple"),none,(.seq (Array.mk [(.str "end" 391),(.str "guard" 392),(.str "noughts" 393),(.str "sign" 394),(.str "start" 395)]) 0),Array.mk []⟩
noncomputable def o167(P:Params):Obj:=⟨(.type "dict"),none,(.dict (Array.mk [en P "__module__" 359 (.str "zonewalk.machines" 304),en P "__firstlineno__" 363 (.int 47 362),en P "__init__" 376 (.ref 151),en P "asks" 383 (.ref 158),en P "sets" 390 (.ref 165),en P "__static_attributes__" 396 (.ref 166),en P "__dict__" 398 (.ref 169),en P "__weakref__" 400 (.ref 170),en P "__doc__" 401 .none]) 4),Array.mk []⟩
noncomputable def o168(P:Params):Obj:=⟨(.type "type"),none,(.cls ⟨"Door",[(.type "object")],[(.ref 168),(.type "object")],167,"Door",true,[],[],false,none,false⟩),Array.mk [none,none,(some (.str "Door" 352)),(some (.str "Door" 360)),(some (.builtin "object.__new__")),(some (.bool true))]⟩
noncomputable def o169(P:Params):Obj:=⟨(.type "getset_descriptor"),none,(.fields (Array.mk [(.str "__dict__" 397),(.ref 168),(.builtin "function.__dict__"),(.builtin "function.__dict__#set")])),Array.mk []⟩
noncomputable def o170(P:Params):Obj:=⟨(.type "getset_descriptor"),none,(.fields (Array.mk [(.str "__weakref__" 399),(.ref 168),(.builtin "ExceptionGroup.__weakref__"),.none])),Array.mk []⟩
noncomputable def o183(P:Params):Obj:=⟨(.type "code"),none,(.fields (Array.mk [(.str "__init__" 416),(.str "Machine.__init__" 417),(.str "/claim/cut.py" 418),(.int 63 0),(.int 4 0),(.int 0 0),(.int 0 0),(.int 3 0),(.ref 180),(.bool true),(.int 181 0),(.ref 181),.none,.none,.none,(.ref 182),(.int 419 0),(.int 63 0),(.str "/claim/cut.py" 420)])),Array.mk []⟩
noncomputable def o184(_:Params):=fO "__init__" "Machine.__init__" (meth 25 0) .none "zonewalk.machines" 304 183 .none
noncomputable def o190(_:Params):=cO "watches" 422 "Machine.watches" 423 "/claim/cut.py" 424 75 1 3 185 181 186 187 188 189 426 75 427
noncomputable def o191(_:Params):=fO "watches" "Machine.watches" (meth 25 1) .none "zonewalk.machines" 304 190 .none
noncomputable def o197(_:Params):=cO "rooms" 429 "Machine.rooms" 430 "/claim/cut.py" 431 78 1 3 192 181 193 194 195 196 433 78 434
noncomputable def o198(_:Params):=fO "rooms" "Machine.rooms" (meth 25 2) .none "zonewalk.machines" 304 197 .none
noncomputable def o204(_:Params):=cO "doors" 436 "Machine.doors" 437 "/claim/cut.py" 438 81 1 3 199 181 200 201 202 203 440 81 441
noncomputable def o205(_:Params):=fO "doors" "Machine.doors" (meth 25 3) .none "zonewalk.machines" 304 204 .none
noncomputable def o211(_:Params):=cO "stay" 443 "Machine.stay" 444 "/claim/cut.py" 445 84 2 3 206 181 207 208 209 210 448 84 449
noncomputable def o212(_:Params):=fO "stay" "Machine.stay" (meth 25 4) .none "zonewalk.machines" 304 211 .none
noncomputable def o220(P:Params):Obj:=⟨(.type "tuple"),none,(.seq (Array.mk [(.str "door_list" 459),(.str "stays" 460),(.str "watch_names" 461)]) 0),Array.mk []⟩
noncomputable def o221(P:Params):Obj:=⟨(.type "dict"),none,(.dict (Array.mk [en P "__module__" 411 (.str "zonewalk.machines" 304),en P "__firstlineno__" 415 (.int 61 414),en P "__init__" 421 (.ref 184),en P "watches" 428 (.ref 191),en P "rooms" 435 (.ref 198),en P "doors" 442 (.ref 205),en P "stay" 450 (.ref 212),en P "watch_number" 458 (.ref 219),en P "__static_attributes__" 462 (.ref 220),en P "__dict__" 464 (.ref 223),en P "__weakref__" 466 (.ref 224),en P "__doc__" 467 .none]) 4),Array.mk []⟩
noncomputable def o222(P:Params):Obj:=⟨(.type "type"),none,(.cls ⟨"Machine",[(.type "object")],[(.ref 222),(.type "object")],221,"Machine",true,[],[],false,none,false⟩),Array.mk [none,none,(some (.str "Machine" 404)),(some (.str "Machine" 412)),(some (.builtin "object.__new__")),(some (.bool true))]⟩
noncomputable def o223(P:Params):Obj:=⟨(.type "getset_descriptor"),none,(.fields (Array.mk [(.str "__dict__" 463),(.ref 222),(.builtin "function.__dict__"),(.builtin "function.__dict__#set")])),Array.mk []⟩
noncomputable def o224(P:Params):Obj:=⟨(.type "getset_descriptor"),none,(.fields (Array.mk [(.str "__weakref__" 465),(.ref 222),(.builtin "ExceptionGroup.__weakref__"),.none])),Array.mk []⟩
noncomputable def o230(P:Params):Obj:=⟨(.type "code"),none,(.fields (Array.mk [(.str "check_watches" 470),(.str "check_watches" 471),(.str "/claim/cut.py" 472),(.int 89 0),(.int 1 0),(.int 0 0),(.int 0 0),(.int 3 0),(.ref 227),(.bool true),(.int 181 0),(.ref 228),.none,.none,.none,(.ref 229),(.int 473 0),(.int 89 0),(.str "/claim/cut.py" 474)])),Array.mk []⟩
noncomputable def o231(_:Params):=fO "check_watches" "check_watches" (top 26) .none "zonewalk.machines" 304 230 .none
noncomputable def o237(_:Params):=cO "are_unlike" 476 "are_unlike" 477 "/claim/cut.py" 478 94 1 3 232 181 233 234 235 236 480 94 481
noncomputable def o238(_:Params):=fO "are_unlike" "are_unlike" (top 27) .none "zonewalk.machines" 304 237 .none
noncomputable def o242(P:Params):Obj:=⟨(.type "code"),none,(.fields (Array.mk [(.str "check_rooms" 483),(.str "check_rooms" 484),(.str "/claim/cut.py" 485),(.int 96 0),(.int 2 0),(.int 0 0),(.int 0 0),(.int 3 0),(.ref 239),(.bool true),(.int 181 0),(.ref 240),.none,.none,.none,(.ref 241),(.int 486 0),(.int 96 0),(.str "/claim/cut.py" 487)])),Array.mk []⟩
noncomputable def o243(_:Params):=fO "check_rooms" "check_rooms" (top 28) .none "zonewalk.machines" 304 242 .none
noncomputable def o249(_:Params):=cO "check_doors" 489 "check_doors" 490 "/claim/cut.py" 491 106 3 3 244 181 245 246 247 248 496 106 497
noncomputable def o250(_:Params):=fO "check_doors" "check_doors" (top 29) .none "zonewalk.machines" 304 249 .none
noncomputable def o254(P:Params):Obj:=⟨(.type "code"),none,(.fields (Array.mk [(.str "are_noughts" 499),(.str "are_noughts" 500),(.str "/claim/cut.py" 501),(.int 118 0),(.int 2 0),(.int 0 0),(.int 0 0),(.int 3 0),(.ref 251),(.bool true),(.int 181 0),(.ref 252),.none,.none,.none,(.ref 253),(.int 502 0),(.int 118 0),(.str "/claim/cut.py" 503)])),Array.mk []⟩
noncomputable def o255(_:Params):=fO "are_noughts" "are_noughts" (top 30) .none "zonewalk.machines" 304 254 .none
noncomputable def o256(P:Params):Obj:=⟨(.type "tuple"),none,(.seq (Array.mk [(.str "<" 511),(.str ">" 512),(.str "=" 513)]) 0),Array.mk []⟩
noncomputable def o262(_:Params):=cO "check_text" 517 "check_text" 518 "/claim/cut.py" 519 127 1 3 257 181 258 259 260 261 521 127 522
noncomputable def o263(_:Params):=fO "check_text" "check_text" (top 36) .none "zonewalk.texts" 505 262 .none
noncomputable def o267(P:Params):Obj:=⟨(.type "code"),none,(.fields (Array.mk [(.str "is_number_text" 524),(.str "is_number_text" 525),(.str "/claim/cut.py" 526),(.int 130 0),(.int 1 0),(.int 0 0),(.int 0 0),(.int 3 0),(.ref 264),(.bool true),(.int 181 0),(.ref 265),.none,.none,.none,(.ref 266),(.int 527 0),(.int 130 0),(.str "/claim/cut.py" 528)])),Array.mk []⟩
noncomputable def o268(_:Params):=fO "is_number_text" "is_number_text" (top 37) .none "zonewalk.texts" 505 267 .none
noncomputable def o274(_:Params):=cO "read_number" 530 "read_number" 531 "/claim/cut.py" 532 134 1 3 269 181 270 271 272 273 534 134 535
noncomputable def o275(_:Params):=fO "read_number" "read_number" (top 38) .none "zonewalk.texts" 505 274 .none
noncomputable def o281(_:Params):=cO "show_number" 537 "show_number" 538 "/claim/cut.py" 539 138 1 3 276 181 277 278 279 280 544 138 545
noncomputable def o282(_:Params):=fO "show_number" "show_number" (top 39) .none "zonewalk.texts" 505 281 .none
noncomputable def o286(P:Params):Obj:=⟨(.type "code"),none,(.fields (Array.mk [(.str "show_looks" 547),(.str "show_looks" 548),(.str "/claim/cut.py" 549),(.int 147 0),(.int 1 0),(.int 0 0),(.int 0 0),(.int 3 0),(.ref 283),(.bool true),(.int 181 0),(.ref 284),.none,.none,.none,(.ref 285),(.int 550 0),(.int 147 0),(.str "/claim/cut.py" 551)])),Array.mk []⟩
noncomputable def o287(_:Params):=fO "show_looks" "show_looks" (top 40) .none "zonewalk.texts" 505 286 .none
noncomputable def o291(P:Params):Obj:=⟨(.type "code"),none,(.fields (Array.mk [(.str "read_look" 553),(.str "read_look" 554),(.str "/claim/cut.py" 555),(.int 149 0),(.int 1 0),(.int 0 0),(.int 0 0),(.int 3 0),(.ref 288),(.bool true),(.int 181 0),(.ref 289),.none,.none,.none,(.ref 290),(.int 556 0),(.int 149 0),(.str "/claim/cut.py" 557)])),Array.mk []⟩
noncomputable def o292(_:Params):=fO "read_look" "read_look" (top 41) .none "zonewalk.texts" 505 291 .none
noncomputable def o296(P:Params):Obj:=⟨(.type "code"),none,(.fields (Array.mk [(.str "read_looks" 559),(.str "read_looks" 560),(.str "/claim/cut.py" 561),(.int 158 0),(.int 1 0),(.int 0 0),(.int 0 0),(.int 3 0),(.ref 293),(.bool true),(.int 181 0),(.ref 294),.none,.none,.none,(.ref 295),(.int 562 0),(.int 158 0),(.str "/claim/cut.py" 563)])),Array.mk []⟩
noncomputable def o297(_:Params):=fO "read_looks" "read_looks" (top 42) .none "zonewalk.texts" 505 296 .none
noncomputable def o301(P:Params):Obj:=⟨(.type "code"),none,(.fields (Array.mk [(.str "show_machine" 565),(.str "show_machine" 566),(.str "/claim/cut.py" 567),(.int 160 0),(.int 1 0),(.int 0 0),(.int 0 0),(.int 3 0),(.ref 298),(.bool true),(.int 181 0),(.ref 299),.none,.none,.none,(.ref 300),(.int 568 0),(.int 160 0),(.str "/claim/cut.py" 569)])),Array.mk []⟩
noncomputable def o302(_:Params):=fO "show_machine" "show_machine" (top 43) .none "zonewalk.texts" 505 301 .none
noncomputable def o306(P:Params):Obj:=⟨(.type "code"),none,(.fields (Array.mk [(.str "door_words" 571),(.str "door_words" 572),(.str "/claim/cut.py" 573),(.int 165 0),(.int 1 0),(.int 0 0),(.int 0 0),(.int 3 0),(.ref 303),(.bool true),(.int 181 0),(.ref 304),.none,.none,.none,(.ref 305),(.int 574 0),(.int 165 0),(.str "/claim/cut.py" 575)])),Array.mk []⟩
noncomputable def o307(_:Params):=fO "door_words" "door_words" (top 44) .none "zonewalk.texts" 505 306 .none
noncomputable def o311(P:Params):Obj:=⟨(.type "code"),none,(.fields (Array.mk [(.str "read_machine" 577),(.str "read_machine" 578),(.str "/claim/cut.py" 579),(.int 169 0),(.int 1 0),(.int 0 0),(.int 0 0),(.int 3 0),(.ref 308),(.bool true),(.int 181 0),(.ref 309),.none,.none,.none,(.ref 310),(.int 580 0),(.int 169 0),(.str "/claim/cut.py" 581)])),Array.mk []⟩
noncomputable def o312(_:Params):=fO "read_machine" "read_machine" (top 45) .none "zonewalk.texts" 505 311 .none
noncomputable def o318(_:Params):=cO "read_door" 583 "read_door" 584 "/claim/cut.py" 585 184 1 3 313 181 314 315 316 317 591 184 592
noncomputable def o319(_:Params):=fO "read_door" "read_door" (top 46) .none "zonewalk.texts" 505 318 .none
noncomputable def o325(_:Params):=cO "_law_cell_at" 596 "_law_cell_at" 597 "/claim/cut.py" 598 201 2 3 320 181 321 322 323 324 601 201 602
noncomputable def o326(_:Params):=fO "_law_cell_at" "_law_cell_at" (top 48) .none "law_zonewalk_k82_machines_as_text" 594 325 .none
noncomputable def o332(_:Params):=cO "_law_stream" 604 "_law_stream" 605 "/claim/cut.py" 606 205 2 3 327 181 328 329 330 331 613 205 614
noncomputable def o333(_:Params):=fO "_law_stream" "_law_stream" (top 49) .none "law_zonewalk_k82_machines_as_text" 594 332 .none
noncomputable def o339(_:Params):=cO "_law_names" 616 "_law_names" 617 "/claim/cut.py" 618 218 2 3 334 181 335 336 337 338 629 218 630
noncomputable def o340(_:Params):=fO "_law_names" "_law_names" (top 50) .none "law_zonewalk_k82_machines_as_text" 594 339 .none
noncomputable def o346(_:Params):=cO "_law_size" 632 "_law_size" 633 "/claim/cut.py" 634 230 2 3 341 181 342 343 344 345 637 230 638
noncomputable def o347(_:Params):=fO "_law_size" "_law_size" (top 51) .none "law_zonewalk_k82_machines_as_text" 594 346 .none
noncomputable def o353(_:Params):=cO "_law_looks" 640 "_law_looks" 641 "/claim/cut.py" 642 236 4 3 348 181 349 350 351 352 650 236 651
noncomputable def o354(_:Params):=fO "_law_looks" "_law_looks" (top 52) .none "law_zonewalk_k82_machines_as_text" 594 353 .none
noncomputable def o358(P:Params):Obj:=⟨(.type "code"),none,(.fields (Array.mk [(.str "_law_doors" 653),(.str "_law_doors" 654),(.str "/claim/cut.py" 655),(.int 243 0),(.int 4 0),(.int 0 0),(.int 0 0),(.int 3 0),(.ref 355),(.bool true),(.int 181 0),(.ref 356),.none,.none,.none,(.ref 357),(.int 656 0),(.int 243 0),(.str "/claim/cut.py" 657)])),Array.mk []⟩
noncomputable def o359(_:Params):=fO "_law_doors" "_law_doors" (top 53) .none "law_zonewalk_k82_machines_as_text" 594 358 .none
noncomputable def o363(P:Params):Obj:=⟨(.type "code"),none,(.fields (Array.mk [(.str "_law_looks_text" 659),(.str "_law_looks_text" 660),(.str "/claim/cut.py" 661),(.int 254 0),(.int 1 0),(.int 0 0),(.int 0 0),(.int 3 0),(.ref 360),(.bool true),(.int 181 0),(.ref 361),.none,.none,.none,(.ref 362),(.int 662 0),(.int 254 0),(.str "/claim/cut.py" 663)])),Array.mk []⟩
noncomputable def o364(_:Params):=fO "_law_looks_text" "_law_looks_text" (top 54) .none "law_zonewalk_k82_machines_as_text" 594 363 .none
noncomputable def o368(P:Params):Obj:=⟨(.type "code"),none,(.fields (Array.mk [(.str "_law_text" 665),(.str "_law_text" 666),(.str "/claim/cut.py" 667),(.int 256 0),(.int 3 0),(.int 0 0),(.int 0 0),(.int 3 0),(.ref 365),(.bool true),(.int 181 0),(.ref 366),.none,.none,.none,(.ref 367),(.int 668 0),(.int 256 0),(.str "/claim/cut.py" 669)])),Array.mk []⟩
noncomputable def o369(_:Params):=fO "_law_text" "_law_text" (top 55) .none "law_zonewalk_k82_machines_as_text" 594 368 .none
noncomputable def o373(P:Params):Obj:=⟨(.type "code"),none,(.fields (Array.mk [(.str "_law_right" 671),(.str "_law_right" 672),(.str "/claim/cut.py" 673),(.int 267 0),(.int 4 0),(.int 0 0),(.int 0 0),(.int 3 0),(.ref 370),(.bool true),(.int 181 0),(.ref 371),.none,.none,.none,(.ref 372),(.int 674 0),(.int 267 0),(.str "/claim/cut.py" 675)])),Array.mk []⟩
noncomputable def o374(_:Params):=fO "_law_right" "_law_right" (top 56) .none "law_zonewalk_k82_machines_as_text" 594 373 .none
noncomputable def o378(P:Params):Obj:=⟨(.type "code"),none,(.fields (Array.mk [(.str "law" 677),(.str "law" 678),(.str "/claim/cut.py" 679),(.int 276 0),(.int 1 0),(.int 0 0),(.int 0 0),(.int 3 0),(.ref 375),(.bool true),(.int 181 0),(.ref 376),.none,.none,.none,(.ref 377),(.int 680 0),(.int 276 0),(.str "/claim/cut.py" 681)])),Array.mk []⟩
noncomputable def o379(_:Params):=fO "law" "law" (top 57) .none "law_zonewalk_k82_machines_as_text" 594 378 .none
noncomputable def frag(P:Params):Frag:=[(2,o2 P),(3,o3 P),(22,o22 P),(29,o29 P),(30,o30 P),(31,o31 P),(32,o32 P),(35,o35 P),(42,o42 P),(43,o43 P),(44,o44 P),(47,o47 P),(54,o54 P),(55,o55 P),(56,o56 P),(59,o59 P),(66,o66 P),(67,o67 P),(68,o68 P),(76,o76 P),(77,o77 P),(78,o78 P),(79,o79 P),(85,o85 P),(86,o86 P),(92,o92 P),(93,o93 P),(97,o97 P),(98,o98 P),(104,o104 P),(105,o105 P),(109,o109 P),(110,o110 P),(116,o116 P),(117,o117 P),(121,o121 P),(122,o122 P),(128,o128 P),(129,o129 P),(135,o135 P),(136,o136 P),(144,o144 P),(150,o150 P),(151,o151 P),(157,o157 P),(158,o158 P),(164,o164 P),(165,o165 P),(166,o166 P),(167,o167 P),(168,o168 P),(169,o169 P),(170,o170 P),(183,o183 P),(184,o184 P),(190,o190 P),(191,o191 P),(197,o197 P),(198,o198 P),(204,o204 P),(205,o205 P),(211,o211 P),(212,o212 P),(220,o220 P),(221,o221 P),(222,o222 P),(223,o223 P),(224,o224 P),(230,o230 P),(231,o231 P),(237,o237 P),(238,o238 P),(242,o242 P),(243,o243 P),(249,o249 P),(250,o250 P),(254,o254 P),(255,o255 P),(256,o256 P),(262,o262 P),(263,o263 P),(267,o267 P),(268,o268 P),(274,o274 P),(275,o275 P),(281,o281 P),(282,o282 P),(286,o286 P),(287,o287 P),(291,o291 P),(292,o292 P),(296,o296 P),(297,o297 P),(301,o301 P),(302,o302 P),(306,o306 P),(307,o307 P),(311,o311 P),(312,o312 P),(318,o318 P),(319,o319 P),(325,o325 P),(326,o326 P),(332,o332 P),(333,o333 P),(339,o339 P),(340,o340 P),(346,o346 P),(347,o347 P),(353,o353 P),(354,o354 P),(358,o358 P),(359,o359 P),(363,o363 P),(364,o364 P),(368,o368 P),(369,o369 P),(373,o373 P),(374,o374 P),(378,o378 P),(379,o379 P)]
def fas:List Addr:=[2,3,22,29,30,31,32,35,42,43,44,47,54,55,56,59,66,67,68,76,77,78,79,85,86,92,93,97,98,104,105,109,110,116,117,121,122,128,129,135,136,144,150,151,157,158,164,165,166,167,168,169,170,183,184,190,191,197,198,204,205,211,212,220,221,222,223,224,230,231,237,238,242,243,249,250,254,255,256,262,263,267,268,274,275,281,282,286,287,291,292,296,297,301,302,306,307,311,312,318,319,325,326,332,333,339,340,346,347,353,354,358,359,363,364,368,369,373,374,378,379]
def vq:Program:={ pw with main:={ (pw).main with body:=[top 57] } }
def loo:List Str:=[Str.ofString "_wall",Str.ofString "WalkError",Str.ofString "BadMachine",Str.ofString "TooMany",Str.ofString "NoText",Str.ofString "is_whole",Str.ofString "WORDS",Str.ofString "STAY_WORDS",Str.ofString "is_look",Str.ofString "is_number",Str.ofString "is_guard",Str.ofString "MOST_WATCHES",Str.ofString "MOST_ROOMS",Str.ofString "MOST_DOORS",Str.ofString "is_small_letter",Str.ofString "is_name",Str.ofString "is_watch_name",Str.ofString "is_room_name",Str.ofString "is_sign",Str.ofString "own_copy",Str.ofString "Door",Str.ofString "Machine",Str.ofString "check_watches",Str.ofString "are_unlike",Str.ofString "check_rooms",Str.ofString "check_doors",Str.ofString "are_noughts",Str.ofString "FIGURES",Str.ofString "MOST_FIGURES",Str.ofString "LOOK_SIGNS",Str.ofString "NOUGHT_END",Str.ofString "check_text",Str.ofString "is_number_text",Str.ofString "read_number",Str.ofString "show_number",Str.ofString "show_looks",Str.ofString "read_look",Str.ofString "read_looks",Str.ofString "show_machine",Str.ofString "door_words",Str.ofString "read_machine",Str.ofString "read_door",Str.ofString "_law_cell_at",Str.ofString "_law_stream",Str.ofString "_law_names",Str.ofString "_law_size",Str.ofString "_law_looks",Str.ofString "_law_doors",Str.ofString "_law_looks_text",Str.ofString "_law_text",Str.ofString "_law_right"]
noncomputable abbrev hk:Hook:=kHook frag fas (fun _=>by kernel_rfl)
theorem run_ok(w:World)(os:OsState):(go pw 2770 w os).map (fun s=>seenAll pw vq loo (xt rw_.row.toRowW vq) hk.obs (boot_heap w.params) s.abs)=some (true,openGood vq loo,hk.val w):=by kernel_rfl
theorem left:LeftO pw vq loo (xt rw_.row.toRowW vq) hk.obs hk.val 6120 true:=left_go 6120 2770 (by kernel_rfl) (by decide) (fun s=>by kernel_rfl) (by decide) run_ok
theorem said:rw_.wellSaid=true:=said_of (by kernel_rfl)
noncomputable abbrev fr(w:World):Frag:=frag w.params
theorem all_mk{w:World}{h:Heap}{mg:Str->Option Value}{fa:Addr}(X:(frag w.params).In h)(G:h.Ns mainGlobals mg)(hfa:mg "law"=some (.ref fa))
  : ∃fd:FuncData,(∀(s:Shared) (v:Value),BindsTo s fd ⟨[v],[]⟩ [("_law_script",v)])/\∀base:Heap,(frag w.params).In base->base.Ns mainGlobals mg->FnOk pw w (frag w.params) mg base CX0 9 fa fd ["_law_script"] (spLaw (frag w.params)):=by
 have e:=hfa.symm.trans (mg_of X G (show nsIn (fr w) mainGlobals "law"=some (some (.ref 379)) by kernel_rfl))
 cases e;have mK:∀(x:Str) (a:Addr),nsIn (fr w) mainGlobals x=some (some (.ref a))->mg x=some (.ref a):=fun _ _ e=>mg_of X G e
 have mN:∀x:Str,nsIn (fr w) mainGlobals x=some none->mg x=none:=fun _ e=>mg_none_of X G e
 have cl_Door:Cls (fr w) zai:=⟨by kernel_rfl,by kernel_rfl,by kernel_rfl,by kernel_rfl⟩
 have na_Door:∀f∈zap,zbj (fr w) zai f:=(all_cons (by unfold zbj;kernel_rfl) (all_cons (by unfold zbj;kernel_rfl) (all_cons (by unfold zbj;kernel_rfl) (all_cons (by unfold zbj;kernel_rfl) (all_cons (by unfold zbj;kernel_rfl) za6)))))
 have cl_Machine:Cls (fr w) za7:=⟨by kernel_rfl,by kernel_rfl,by kernel_rfl,by kernel_rfl⟩
 have na_Machine:∀f∈za9,zbj (fr w) za7 f:=(all_cons (by unfold zbj;kernel_rfl) (all_cons (by unfold zbj;kernel_rfl) (all_cons (by unfold zbj;kernel_rfl) za6)))
 let ca:Str->Value:=fun c=>if c="NoText" then .ref 68 else if c="BadMachine" then .ref 44 else if c="TooMany" then .ref 56 else if c="WalkError" then .ref 31 else .none
 have b_len:=mN "len" (by kernel_rfl)
 have b_range:=mN "range" (by kernel_rfl)
 have b_int:=mN "int" (by kernel_rfl)
 have b_isinstance:=mN "isinstance" (by kernel_rfl)
 have b_str:=mN "str" (by kernel_rfl)
 have b_all:=mN "all" (by kernel_rfl)
 have b_reversed:=mN "reversed" (by kernel_rfl)
 have b_enumerate:=mN "enumerate" (by kernel_rfl)
 have b_bool:=mN "bool" (by kernel_rfl)
 have b_tuple:=mN "tuple" (by kernel_rfl)
 have b_list:=mN "list" (by kernel_rfl)
 have b_set:=mN "set" (by kernel_rfl)
 have yg:specialIn (fr w) (.builtin "object.__class__") "__get__"=some (some (.builtin "getset_descriptor.__get__")):=by kernel_rfl
 have yt:takesIn (fr w) (.builtin "object.__class__")=some true:=by kernel_rfl
 let CL_NoText:ECls (fr w) mg "NoText":=⟨68,mK "NoText" 68 (by kernel_rfl),⟨by kernel_rfl,by kernel_rfl,⟨(clsIn (fr w) 68).getD default,by kernel_rfl⟩,by kernel_rfl,by kernel_rfl,by kernel_rfl,by kernel_rfl,by kernel_rfl,by kernel_rfl,yg,yt⟩⟩
 have E_NoText:∃T:ECls (fr w) mg "NoText",ca "NoText"=.ref T.C:=⟨CL_NoText,by rfl⟩
 let CL_BadMachine:ECls (fr w) mg "BadMachine":=⟨44,mK "BadMachine" 44 (by kernel_rfl),⟨by kernel_rfl,by kernel_rfl,⟨(clsIn (fr w) 44).getD default,by kernel_rfl⟩,by kernel_rfl,by kernel_rfl,by kernel_rfl,by kernel_rfl,by kernel_rfl,by kernel_rfl,yg,yt⟩⟩
 have E_BadMachine:∃T:ECls (fr w) mg "BadMachine",ca "BadMachine"=.ref T.C:=⟨CL_BadMachine,by rfl⟩
 let CL_TooMany:ECls (fr w) mg "TooMany":=⟨56,mK "TooMany" 56 (by kernel_rfl),⟨by kernel_rfl,by kernel_rfl,⟨(clsIn (fr w) 56).getD default,by kernel_rfl⟩,by kernel_rfl,by kernel_rfl,by kernel_rfl,by kernel_rfl,by kernel_rfl,by kernel_rfl,yg,yt⟩⟩
 have E_TooMany:∃T:ECls (fr w) mg "TooMany",ca "TooMany"=.ref T.C:=⟨CL_TooMany,by rfl⟩
 let CL_WalkError:ECls (fr w) mg "WalkError":=⟨31,mK "WalkError" 31 (by kernel_rfl),⟨by kernel_rfl,by kernel_rfl,⟨(clsIn (fr w) 31).getD default,by kernel_rfl⟩,by kernel_rfl,by kernel_rfl,by kernel_rfl,by kernel_rfl,by kernel_rfl,by kernel_rfl,yg,yt⟩⟩
 have E_WalkError:∃T:ECls (fr w) mg "WalkError",ca "WalkError"=.ref T.C:=⟨CL_WalkError,by rfl⟩
 have F27:=zel (st:=zf8) (show(fr w).lookup 151=some (o151 w.params) by kernel_rfl) (show codeIn (fr w) (.ref 150) "Door.__init__"=true by kernel_rfl) (by kernel_rfl)
 have F28:=zel (st:=zcu) (show(fr w).lookup 184=some (o184 w.params) by kernel_rfl) (show codeIn (fr w) (.ref 183) "Machine.__init__"=true by kernel_rfl) (by kernel_rfl)
 have F29:=zel (st:=zbr) (show(fr w).lookup 191=some (o191 w.params) by kernel_rfl) (show codeIn (fr w) (.ref 190) "Machine.watches"=true by kernel_rfl) (by kernel_rfl)
 have F30:=zel (st:=zc9) (show(fr w).lookup 198=some (o198 w.params) by kernel_rfl) (show codeIn (fr w) (.ref 197) "Machine.rooms"=true by kernel_rfl) (by kernel_rfl)
 have F31:=zel (st:=zca) (show(fr w).lookup 205=some (o205 w.params) by kernel_rfl) (show codeIn (fr w) (.ref 204) "Machine.doors"=true by kernel_rfl) (by kernel_rfl)
 have F32:=zel (st:=zct) (show(fr w).lookup 212=some (o212 w.params) by kernel_rfl) (show codeIn (fr w) (.ref 211) "Machine.stay"=true by kernel_rfl) (by kernel_rfl)
 have F33:=zel (st:=zf9) (show(fr w).lookup 158=some (o158 w.params) by kernel_rfl) (show codeIn (fr w) (.ref 157) "Door.asks"=true by kernel_rfl) (by kernel_rfl)
 have F34:=zel (st:=zf7) (show(fr w).lookup 165=some (o165 w.params) by kernel_rfl) (show codeIn (fr w) (.ref 164) "Door.sets"=true by kernel_rfl) (by kernel_rfl)
 have F44:=zel (st:=s_law) (show(fr w).lookup 379=some (o379 w.params) by kernel_rfl) (show codeIn (fr w) (.ref 378) "law"=true by kernel_rfl) (by kernel_rfl)
 let T44:Tx (fr w) mg "law" s_law ["_law_script"]:=⟨_,_,F44,mK "law" 379 (by kernel_rfl),.all (us1 fun _=>rfl)⟩
 refine⟨T44.fd,fun s v=>.of_eq rfl,fun base _ _=>?_⟩
 let D1:=dfX (P:=pw) (w:=w) (mg:=mg) (base:=base) (ca:=ca) (f:=zi0) (show(fr w).lookup 326=some (o326 w.params) by kernel_rfl) (by kernel_rfl) (by kernel_rfl) (mK "_law_cell_at" 326 (by kernel_rfl)) (.all (us2 fun _ _=>rfl)) sc_Lcell_at ck_Lcell_at (all_cons b_len za6) zad gxC
 let D2:=dfX (P:=pw) (w:=w) (mg:=mg) (base:=base) (ca:=ca) (f:=zji) (show(fr w).lookup 333=some (o333 w.params) by kernel_rfl) (by kernel_rfl) (by kernel_rfl) (mK "_law_stream" 333 (by kernel_rfl)) (.all (us2 fun _ _=>rfl)) sc_Lstream ck_Lstream (all_cons b_range za6) zad gxC
 let D3:=dfX (P:=pw) (w:=w) (mg:=mg) (base:=base) (ca:=ca) (f:=fn_Lnames) (show(fr w).lookup 340=some (o340 w.params) by kernel_rfl) (by kernel_rfl) (by kernel_rfl) (mK "_law_names" 340 (by kernel_rfl)) (.all (us2 fun _ _=>rfl)) sc_Lnames ck_Lnames (all_cons b_range (all_cons b_int za6)) zad gxC
 let D4:=dfX (P:=pw) (w:=w) (mg:=mg) (base:=base) (ca:=ca) (f:=fn_Lsize) (show(fr w).lookup 347=some (o347 w.params) by kernel_rfl) (by kernel_rfl) (by kernel_rfl) (mK "_law_size" 347 (by kernel_rfl)) (.all (us2 fun _ _=>rfl)) sc_Lsize ck_Lsize za6 zad gxC
 let D5:=dfX (P:=pw) (w:=w) (mg:=mg) (base:=base) (ca:=ca) (f:=zim) (show(fr w).lookup 263=some (o263 w.params) by kernel_rfl) (by kernel_rfl) (by kernel_rfl) (mK "check_text" 263 (by kernel_rfl)) (.all (us1 fun _=>rfl)) sc_check_text ck_check_text (all_cons b_isinstance (all_cons b_str za6)) zad gxC (hex:=(all_cons E_NoText za6))
 let D6:=dfX (P:=pw) (w:=w) (mg:=mg) (base:=base) (ca:=ca) (f:=zeu) (show(fr w).lookup 268=some (o268 w.params) by kernel_rfl) (by kernel_rfl) (by kernel_rfl) (mK "is_number_text" 268 (by kernel_rfl)) (.all (us1 fun _=>rfl)) zj0 zjk (all_cons b_len (all_cons b_all za6)) zad (gxC (co:=(zba ⟨(.int (60) 509),(.int 60),mg_of X G (show nsIn (fr w) mainGlobals "MOST_FIGURES"=some (some (.int (60) 509)) by kernel_rfl),⟨_,rfl⟩,fun F=>.int _⟩ (zba ⟨(.str (Str.ofString "0123456789") 507),(.str "0123456789"),mg_of X G (show nsIn (fr w) mainGlobals "FIGURES"=some (some (.str (Str.ofString "0123456789") 507)) by kernel_rfl),⟨_,rfl⟩,fun F=>.str _⟩ zbu))))
 let D7:=dfX (P:=pw) (w:=w) (mg:=mg) (base:=base) (ca:=ca) (f:=zhg) (show(fr w).lookup 275=some (o275 w.params) by kernel_rfl) (by kernel_rfl) (by kernel_rfl) (mK "read_number" 275 (by kernel_rfl)) (.all (us1 fun _=>rfl)) zmg zn0 (all_cons b_int za6) (zab (by decide) D6 zad) gxC (hex:=(all_cons E_NoText za6))
 let D8:=dfX (P:=pw) (w:=w) (mg:=mg) (base:=base) (ca:=ca) (f:=zhf) (show(fr w).lookup 282=some (o282 w.params) by kernel_rfl) (by kernel_rfl) (by kernel_rfl) (mK "show_number" 282 (by kernel_rfl)) (.all (us1 fun _=>rfl)) zmf zmz (all_cons b_str (all_cons b_reversed za6)) zad gxC
 let D9:=dfX (P:=pw) (w:=w) (mg:=mg) (base:=base) (ca:=ca) (f:=zfl) (show(fr w).lookup 287=some (o287 w.params) by kernel_rfl) (by kernel_rfl) (by kernel_rfl) (mK "show_looks" 287 (by kernel_rfl)) (.all (us1 fun _=>rfl)) sc_show_looks ck_show_looks za6 (zab (by decide) D8 zad) gxC
 let D10:=dfX (P:=pw) (w:=w) (mg:=mg) (base:=base) (ca:=ca) (f:=zgo) (show(fr w).lookup 292=some (o292 w.params) by kernel_rfl) (by kernel_rfl) (by kernel_rfl) (mK "read_look" 292 (by kernel_rfl)) (.all (us1 fun _=>rfl)) sc_read_look ck_read_look (all_cons b_enumerate (all_cons b_len za6)) (zab (by decide) D7 zad) (gxC (co:=(zba ⟨_,.ref 256,mK "LOOK_SIGNS" 256 (by kernel_rfl),rfl,fun F=>Rps.of_node (k:=.rt) (xs:=[.str "<",.str ">",.str "="]) (.inr ⟨o256 w.params,_,_,by kernel_rfl,rfl,rfl,by decide,(.cons ⟨_,rfl⟩ (.cons ⟨_,rfl⟩ (.cons ⟨_,rfl⟩ .nil)))⟩) (rp_strs ["<",">","="])⟩ zbu))) (hex:=(all_cons E_NoText za6))
 let D11:=dfX (P:=pw) (w:=w) (mg:=mg) (base:=base) (ca:=ca) (f:=zik) (show(fr w).lookup 297=some (o297 w.params) by kernel_rfl) (by kernel_rfl) (by kernel_rfl) (mK "read_looks" 297 (by kernel_rfl)) (.all (us1 fun _=>rfl)) sc_read_looks ck_read_looks za6 (zab (by decide) D10 zad) gxC
 let D12:=dfX (P:=pw) (w:=w) (mg:=mg) (base:=base) (ca:=ca) (f:=zcf) (show(fr w).lookup 105=some (o105 w.params) by kernel_rfl) (by kernel_rfl) (by kernel_rfl) (mK "is_small_letter" 105 (by kernel_rfl)) (.all (us1 fun _=>rfl)) zi9 zio za6 zad gxC
 let D13:=dfX (P:=pw) (w:=w) (mg:=mg) (base:=base) (ca:=ca) (f:=zjh) (show(fr w).lookup 110=some (o110 w.params) by kernel_rfl) (by kernel_rfl) (by kernel_rfl) (mK "is_name" 110 (by kernel_rfl)) (.all (us1 fun _=>rfl)) sc_is_name ck_is_name (all_cons b_len (all_cons b_all za6)) (zab (by decide) D12 zad) gxC
 let D14:=dfX (P:=pw) (w:=w) (mg:=mg) (base:=base) (ca:=ca) (f:=zdc) (show(fr w).lookup 117=some (o117 w.params) by kernel_rfl) (by kernel_rfl) (by kernel_rfl) (mK "is_watch_name" 117 (by kernel_rfl)) (.all (us1 fun _=>rfl)) zjx zka (all_cons b_isinstance (all_cons b_str za6)) (zab (by decide) D13 zad) gxC
 let D15:=dfX (P:=pw) (w:=w) (mg:=mg) (base:=base) (ca:=ca) (f:=zgp) (show(fr w).lookup 122=some (o122 w.params) by kernel_rfl) (by kernel_rfl) (by kernel_rfl) (mK "is_room_name" 122 (by kernel_rfl)) (.all (us1 fun _=>rfl)) zky zm6 (all_cons b_isinstance (all_cons b_str (all_cons b_len (all_cons b_all za6)))) (zab (by decide) D12 zad) gxC
 let D16:=dfX (P:=pw) (w:=w) (mg:=mg) (base:=base) (ca:=ca) (f:=zlx) (show(fr w).lookup 77=some (o77 w.params) by kernel_rfl) (by kernel_rfl) (by kernel_rfl) (mK "is_whole" 77 (by kernel_rfl)) (.all (us1 fun _=>rfl)) sc_is_whole ck_is_whole (all_cons b_isinstance (all_cons b_int (all_cons b_bool za6))) zad gxC
 let D17:=dfX (P:=pw) (w:=w) (mg:=mg) (base:=base) (ca:=ca) (f:=zjt) (show(fr w).lookup 93=some (o93 w.params) by kernel_rfl) (by kernel_rfl) (by kernel_rfl) (mK "is_number" 93 (by kernel_rfl)) (.all (us1 fun _=>rfl)) sc_is_number ck_is_number za6 (zab (by decide) D16 zad) gxC
 let D18:=dfX (P:=pw) (w:=w) (mg:=mg) (base:=base) (ca:=ca) (f:=znl) (show(fr w).lookup 86=some (o86 w.params) by kernel_rfl) (by kernel_rfl) (by kernel_rfl) (mK "is_look" 86 (by kernel_rfl)) (.all (us3 fun _ _ _=>rfl)) sc_is_look ck_is_look (all_cons b_isinstance (all_cons b_tuple (all_cons b_len za6))) (zab (by decide) D17 zad) gxC
 let D19:=dfX (P:=pw) (w:=w) (mg:=mg) (base:=base) (ca:=ca) (f:=zhz) (show(fr w).lookup 98=some (o98 w.params) by kernel_rfl) (by kernel_rfl) (by kernel_rfl) (mK "is_guard" 98 (by kernel_rfl)) (.all (us3 fun _ _ _=>rfl)) sc_is_guard ck_is_guard (all_cons b_isinstance (all_cons b_list (all_cons b_all za6))) (zab (by decide) D18 zad) gxC (hce:=(all_cons (by rfl) (all_cons (by rfl) za6)))
 let D20:=dfX (P:=pw) (w:=w) (mg:=mg) (base:=base) (ca:=ca) (f:=zdf) (show(fr w).lookup 238=some (o238 w.params) by kernel_rfl) (by kernel_rfl) (by kernel_rfl) (mK "are_unlike" 238 (by kernel_rfl)) (.all (us1 fun _=>rfl)) sc_are_unlike ck_are_unlike (all_cons b_len (all_cons b_set za6)) zad gxC
 let D21:=dfX (P:=pw) (w:=w) (mg:=mg) (base:=base) (ca:=ca) (f:=zfv) (show(fr w).lookup 231=some (o231 w.params) by kernel_rfl) (by kernel_rfl) (by kernel_rfl) (mK "check_watches" 231 (by kernel_rfl)) (.all (us1 fun _=>rfl)) zjy zkb (all_cons b_isinstance (all_cons b_list (all_cons b_len (all_cons b_all za6)))) (zab (by decide) D14 (zab (by decide) D20 zad)) (gxC (co:=(zba ⟨(.int (7) 306),(.int 7),mg_of X G (show nsIn (fr w) mainGlobals "MOST_WATCHES"=some (some (.int (7) 306)) by kernel_rfl),⟨_,rfl⟩,fun F=>.int _⟩ zbu))) (hex:=(all_cons E_BadMachine za6))
 let D22:=dfX (P:=pw) (w:=w) (mg:=mg) (base:=base) (ca:=ca) (f:=zhh) (show(fr w).lookup 243=some (o243 w.params) by kernel_rfl) (by kernel_rfl) (by kernel_rfl) (mK "check_rooms" 243 (by kernel_rfl)) (.all (us2 fun _ _=>rfl)) zmh zn1 (all_cons b_isinstance (all_cons b_list (all_cons b_len (all_cons b_tuple za6)))) (zab (by decide) D15 (zab (by decide) D19 (zab (by decide) D20 zad))) (gxC (co:=(zba ⟨_,.ref 79,mK "STAY_WORDS" 79 (by kernel_rfl),rfl,fun F=>Rps.of_node (k:=.rt) (xs:=[.str "<",.str "<="]) (.inr ⟨o79 w.params,_,_,by kernel_rfl,rfl,rfl,by decide,(.cons ⟨_,rfl⟩ (.cons ⟨_,rfl⟩ .nil))⟩) (rp_strs ["<","<="])⟩ zbu))) (hex:=(all_cons E_BadMachine za6))
 let D23:=dfX (P:=pw) (w:=w) (mg:=mg) (base:=base) (ca:=ca) (f:=zhj) (show(fr w).lookup 255=some (o255 w.params) by kernel_rfl) (by kernel_rfl) (by kernel_rfl) (mK "are_noughts" 255 (by kernel_rfl)) (.all (us2 fun _ _=>rfl)) zmj zn3 (all_cons b_isinstance (all_cons b_list (all_cons b_all za6))) (zab (by decide) D14 (zab (by decide) D20 zad)) gxC (hce:=(all_cons (by rfl) za6))
 let D24:=dfX (P:=pw) (w:=w) (mg:=mg) (base:=base) (ca:=ca) (f:=znk) (show(fr w).lookup 129=some (o129 w.params) by kernel_rfl) (by kernel_rfl) (by kernel_rfl) (mK "is_sign" 129 (by kernel_rfl)) (.all (us1 fun _=>rfl)) sc_is_sign ck_is_sign (all_cons b_isinstance (all_cons b_str za6)) (zab (by decide) D13 zad) gxC
 let D25:=dfX (P:=pw) (w:=w) (mg:=mg) (base:=base) (ca:=ca) (f:=zlw) (show(fr w).lookup 136=some (o136 w.params) by kernel_rfl) (by kernel_rfl) (by kernel_rfl) (mK "own_copy" 136 (by kernel_rfl)) (.all (us1 fun _=>rfl)) sc_own_copy ck_own_copy (all_cons b_isinstance (all_cons b_list za6)) zad gxC
 let D26:=dfX (P:=pw) (w:=w) (mg:=mg) (base:=base) (ca:=ca) (f:=zhi) (show(fr w).lookup 250=some (o250 w.params) by kernel_rfl) (by kernel_rfl) (by kernel_rfl) (mK "check_doors" 250 (by kernel_rfl)) (.all (us3 fun _ _ _=>rfl)) zmi zn2 (all_cons b_isinstance (all_cons b_list za6)) (zab (by decide) D19 (zab (by decide) D23 (zab (by decide) D24 zad))) (gxC (co:=(zba ⟨_,.ref 78,mK "WORDS" 78 (by kernel_rfl),rfl,fun F=>Rps.of_node (k:=.rt) (xs:=[.str "<",.str "<=",.str ">",.str ">=",.str "="]) (.inr ⟨o78 w.params,_,_,by kernel_rfl,rfl,rfl,by decide,(.cons ⟨_,rfl⟩ (.cons ⟨_,rfl⟩ (.cons ⟨_,rfl⟩ (.cons ⟨_,rfl⟩ (.cons ⟨_,rfl⟩ .nil)))))⟩) (rp_strs ["<","<=",">",">=","="])⟩ zbu)) (cl:=(all_cons ⟨cl_Door,na_Door⟩ za6)) (ci:=(zba ⟨168,mK "Door" 168 (by kernel_rfl),(zba ⟨⟨cl_Door,by kernel_rfl,by kernel_rfl,by kernel_rfl,by kernel_rfl⟩,by kernel_rfl⟩ (zba ⟨⟨cl_Machine,by kernel_rfl,by kernel_rfl,by kernel_rfl,by kernel_rfl⟩,by kernel_rfl⟩ zbu))⟩ zbu))) (hex:=(all_cons E_BadMachine za6))
 have K27:FnOk pw w (fr w) mg base (CX1 pw w) 2 _ _ ["self","start","end","guard","noughts","sign"] (spN (fr w) ca zai zbo):=fn_okI (C:=zai) (fs:=zap) (n:=200) (Γ:=zjp) F27 sc_Door_init rfl rfl za6 rfl za6 (zab (by decide) D25 zad) za6 zed rfl (gxC (sf:=(fun C fs h=>by cases h;exact⟨cl_Door,na_Door⟩))) ck_Door_init
 let D27:NewX pw w (fr w) mg base "Door" zai 2 ["self","start","end","guard","noughts","sign"] (spN (fr w) ca zai zbo):=⟨_,_,mK "Door" 168 (by kernel_rfl),⟨by kernel_rfl,by kernel_rfl,by kernel_rfl,by kernel_rfl⟩,K27⟩
 have E27:zgy (fr w) D27.fd ["self","start","end","guard","noughts","sign"] []:=fun s us X hl=>match us,hl with|[_,_,_,_,_,_],_=>binds_K X rfl (show(fr w).lookup 144=some (o144 w.params) by kernel_rfl) rfl rfl rfl
 have K28:FnOk pw w (fr w) mg base (CX1 pw w) 6 _ _ ["self","watches","rooms","doors"] (spN (fr w) ca za7 zaz):=fn_okI (C:=za7) (fs:=za9) (n:=200) (Γ:=zgk) F28 zl0 rfl rfl za6 rfl (all_cons b_len (all_cons b_list za6)) (zab (by decide) D21 (zab (by decide) D22 (zab (by decide) D26 zad))) (all_cons E_TooMany za6) zed rfl (gxC (co:=(zba ⟨(.int (64) 308),(.int 64),mg_of X G (show nsIn (fr w) mainGlobals "MOST_ROOMS"=some (some (.int (64) 308)) by kernel_rfl),⟨_,rfl⟩,fun F=>.int _⟩ (zba ⟨(.int (200) 310),(.int 200),mg_of X G (show nsIn (fr w) mainGlobals "MOST_DOORS"=some (some (.int (200) 310)) by kernel_rfl),⟨_,rfl⟩,fun F=>.int _⟩ zbu))) (sf:=(fun C fs h=>by cases h;exact⟨cl_Machine,na_Machine⟩))) zm8
 let D28:NewX pw w (fr w) mg base "Machine" za7 6 ["self","watches","rooms","doors"] (spN (fr w) ca za7 zaz):=⟨_,_,mK "Machine" 222 (by kernel_rfl),⟨by kernel_rfl,by kernel_rfl,by kernel_rfl,by kernel_rfl⟩,K28⟩
 have E28:zgy (fr w) D28.fd ["self","watches","rooms","doors"] []:=.all (us4 fun _ _ _ _=>rfl)
 have K29:FnOk pw w (fr w) mg base (CX1 pw w) 1 _ _ ["self"] (spP (fr w) ca zal):=fn_ok (n:=200) (Γ:=ze4) F29 zia rfl rfl za6 rfl (all_cons b_list za6) zad za6 zed rfl (gxC (cl:=(all_cons ⟨cl_Machine,na_Machine⟩ za6))) ziq;let D29:MetX pw w (fr w) mg base za7 "watches" 1 ["self"] (spP (fr w) ca zal):=⟨_,_,cl_Machine,⟨by kernel_rfl,by kernel_rfl,by kernel_rfl⟩,K29,.all (us1 fun _=>rfl)⟩
 have K30:FnOk pw w (fr w) mg base (CX1 pw w) 1 _ _ ["self"] (spP (fr w) ca zaq):=fn_ok (n:=200) (Γ:=zft) F30 zjz rfl rfl za6 rfl (all_cons b_list za6) zad za6 zed rfl (gxC (cl:=(all_cons ⟨cl_Machine,na_Machine⟩ za6))) zkc;let D30:MetX pw w (fr w) mg base za7 "rooms" 1 ["self"] (spP (fr w) ca zaq):=⟨_,_,cl_Machine,⟨by kernel_rfl,by kernel_rfl,by kernel_rfl⟩,K30,.all (us1 fun _=>rfl)⟩
 have K31:FnOk pw w (fr w) mg base (CX1 pw w) 1 _ _ ["self"] (spP (fr w) ca zar):=fn_ok (n:=200) (Γ:=zfu) F31 zk0 rfl rfl za6 rfl (all_cons b_list za6) zad za6 zed rfl (gxC (cl:=(all_cons ⟨cl_Machine,na_Machine⟩ za6))) zkd;let D31:MetX pw w (fr w) mg base za7 "doors" 1 ["self"] (spP (fr w) ca zar):=⟨_,_,cl_Machine,⟨by kernel_rfl,by kernel_rfl,by kernel_rfl⟩,K31,.all (us1 fun _=>rfl)⟩
 have K32:FnOk pw w (fr w) mg base (CX1 pw w) 1 _ _ ["self","room"] (spP (fr w) ca zay):=fn_ok (n:=200) (Γ:=zgj) F32 zkz rfl rfl za6 rfl (all_cons b_list za6) zad za6 zed rfl (gxC (cl:=(all_cons ⟨cl_Machine,na_Machine⟩ za6))) zm7;let D32:MetX pw w (fr w) mg base za7 "stay" 1 ["self","room"] (spP (fr w) ca zay):=⟨_,_,cl_Machine,⟨by kernel_rfl,by kernel_rfl,by kernel_rfl⟩,K32,.all (us2 fun _ _=>rfl)⟩
 have K33:FnOk pw w (fr w) mg base (CX1 pw w) 1 _ _ ["self"] (spP (fr w) ca zc5):=fn_ok (n:=200) (Γ:=zjq) F33 sc_Door_asks rfl rfl za6 rfl (all_cons b_list za6) zad za6 zed rfl (gxC (cl:=(all_cons ⟨cl_Door,na_Door⟩ za6))) ck_Door_asks;let D33:MetX pw w (fr w) mg base zai "asks" 1 ["self"] (spP (fr w) ca zc5):=⟨_,_,cl_Door,⟨by kernel_rfl,by kernel_rfl,by kernel_rfl⟩,K33,.all (us1 fun _=>rfl)⟩
 have K34:FnOk pw w (fr w) mg base (CX1 pw w) 1 _ _ ["self"] (spP (fr w) ca zc4):=fn_ok (n:=200) (Γ:=zjo) F34 sc_Door_sets rfl rfl za6 rfl (all_cons b_list za6) zad za6 zed rfl (gxC (cl:=(all_cons ⟨cl_Door,na_Door⟩ za6))) ck_Door_sets;let D34:MetX pw w (fr w) mg base zai "sets" 1 ["self"] (spP (fr w) ca zc4):=⟨_,_,cl_Door,⟨by kernel_rfl,by kernel_rfl,by kernel_rfl⟩,K34,.all (us1 fun _=>rfl)⟩
 let D35:=dfX (P:=pw) (w:=w) (mg:=mg) (base:=base) (ca:=ca) (f:=zly) (show(fr w).lookup 354=some (o354 w.params) by kernel_rfl) (by kernel_rfl) (by kernel_rfl) (mK "_law_looks" 354 (by kernel_rfl)) (.all (us4 fun _ _ _ _=>rfl)) sc_Llooks ck_Llooks (all_cons b_range (all_cons b_len za6)) (zab (by decide) D4 zad) gxC
 let D36:=dfX (P:=pw) (w:=w) (mg:=mg) (base:=base) (ca:=ca) (f:=fn_Ldoors) (show(fr w).lookup 359=some (o359 w.params) by kernel_rfl) (by kernel_rfl) (by kernel_rfl) (mK "_law_doors" 359 (by kernel_rfl)) (.all (us4 fun _ _ _ _=>rfl)) sc_Ldoors ck_Ldoors (all_cons b_range (all_cons b_len za6)) (zab (by decide) D1 (zab (by decide) D2 (zab (by decide) D35 zad))) gxC (hce:=(all_cons (by rfl) (all_cons (by rfl) za6)))
 let D37:=dfX (P:=pw) (w:=w) (mg:=mg) (base:=base) (ca:=ca) (f:=zhk) (show(fr w).lookup 364=some (o364 w.params) by kernel_rfl) (by kernel_rfl) (by kernel_rfl) (mK "_law_looks_text" 364 (by kernel_rfl)) (.all (us1 fun _=>rfl)) zmk zn4 (all_cons b_str za6) zad gxC
 let D38:=dfX (P:=pw) (w:=w) (mg:=mg) (base:=base) (ca:=ca) (f:=fn_Ltext) (show(fr w).lookup 369=some (o369 w.params) by kernel_rfl) (by kernel_rfl) (by kernel_rfl) (mK "_law_text" 369 (by kernel_rfl)) (.all (us3 fun _ _ _=>rfl)) sc_Ltext ck_Ltext za6 (zab (by decide) D37 zad) gxC
 let D39:=dfX (P:=pw) (w:=w) (mg:=mg) (base:=base) (ca:=ca) (f:=zil) (show(fr w).lookup 307=some (o307 w.params) by kernel_rfl) (by kernel_rfl) (by kernel_rfl) (mK "door_words" 307 (by kernel_rfl)) (.all (us1 fun _=>rfl)) sc_door_words ck_door_words za6 (zab (by decide) D9 zad) (gxC (co:=(zba ⟨(.str (Str.ofString ":0") 515),(.str ":0"),mg_of X G (show nsIn (fr w) mainGlobals "NOUGHT_END"=some (some (.str (Str.ofString ":0") 515)) by kernel_rfl),⟨_,rfl⟩,fun F=>.str _⟩ zbu)) (cl:=(all_cons ⟨cl_Door,na_Door⟩ za6)) (mt:=(all_cons ⟨by decide,⟨D34⟩⟩ (all_cons ⟨by decide,⟨D33⟩⟩ za6))))
 let D40:=dfX (P:=pw) (w:=w) (mg:=mg) (base:=base) (ca:=ca) (f:=zgm) (show(fr w).lookup 302=some (o302 w.params) by kernel_rfl) (by kernel_rfl) (by kernel_rfl) (mK "show_machine" 302 (by kernel_rfl)) (.all (us1 fun _=>rfl)) zkw zm4 za6 (zab (by decide) D9 (zab (by decide) D39 zad)) (gxC (mt:=(all_cons ⟨by decide,⟨D29⟩⟩ (all_cons ⟨by decide,⟨D30⟩⟩ (all_cons ⟨by decide,⟨D32⟩⟩ (all_cons ⟨by decide,⟨D31⟩⟩ za6)))))) (hce:=(all_cons (by rfl) za6))
 let D41:=dfX (P:=pw) (w:=w) (mg:=mg) (base:=base) (ca:=ca) (f:=zjs) (show(fr w).lookup 319=some (o319 w.params) by kernel_rfl) (by kernel_rfl) (by kernel_rfl) (mK "read_door" 319 (by kernel_rfl)) (.all (us1 fun _=>rfl)) sc_read_door ck_read_door (all_cons b_len za6) (zab (by decide) D10 zad) (gxC (co:=(zba ⟨(.str (Str.ofString ":0") 515),(.str ":0"),mg_of X G (show nsIn (fr w) mainGlobals "NOUGHT_END"=some (some (.str (Str.ofString ":0") 515)) by kernel_rfl),⟨_,rfl⟩,fun F=>.str _⟩ zbu)) (nw:=(nw_cons ⟨by decide,zai,D27,(zba ⟨[],[],E27,.nil,fun _=>.nil⟩ zbu)⟩ nw_nil))) (hex:=(all_cons E_NoText za6))
 let D42:=dfX (P:=pw) (w:=w) (mg:=mg) (base:=base) (ca:=ca) (f:=zgn) (show(fr w).lookup 312=some (o312 w.params) by kernel_rfl) (by kernel_rfl) (by kernel_rfl) (mK "read_machine" 312 (by kernel_rfl)) (.all (us1 fun _=>rfl)) zkx zm5 (all_cons b_len za6) (zab (by decide) D5 (zab (by decide) D11 (zab (by decide) D41 zad))) (gxC (nw:=(nw_cons ⟨by decide,za7,D28,(zba ⟨[],[],E28,.nil,fun _=>.nil⟩ zbu)⟩ nw_nil))) (hex:=(all_cons E_NoText za6))
 let D43:=dfX (P:=pw) (w:=w) (mg:=mg) (base:=base) (ca:=ca) (f:=fn_Lright) (show(fr w).lookup 374=some (o374 w.params) by kernel_rfl) (by kernel_rfl) (by kernel_rfl) (mK "_law_right" 374 (by kernel_rfl)) (.all (us4 fun _ _ _ _=>rfl)) sc_Lright ck_Lright (all_cons b_isinstance za6) zad (gxC (cl:=(all_cons ⟨cl_Door,na_Door⟩ za6)) (mt:=(all_cons ⟨by decide,⟨D29⟩⟩ (all_cons ⟨by decide,⟨D30⟩⟩ (all_cons ⟨by decide,⟨D32⟩⟩ (all_cons ⟨by decide,⟨D31⟩⟩ (all_cons ⟨by decide,⟨D33⟩⟩ (all_cons ⟨by decide,⟨D34⟩⟩ za6))))))) (ci:=(zba ⟨222,mK "Machine" 222 (by kernel_rfl),(zba ⟨⟨cl_Door,by kernel_rfl,by kernel_rfl,by kernel_rfl,by kernel_rfl⟩,by kernel_rfl⟩ (zba ⟨⟨cl_Machine,by kernel_rfl,by kernel_rfl,by kernel_rfl,by kernel_rfl⟩,by kernel_rfl⟩ zbu))⟩ zbu))) (hce:=(all_cons (by rfl) za6))
 have K44:FnOk pw w (fr w) mg base (CX1 pw w) 9 T44.f T44.fd ["_law_script"] (spP (fr w) ca R_law):=fn_ok (n:=200) (Γ:=gm_law) T44.F sc_law rfl rfl za6 rfl (all_cons b_range (all_cons b_list (all_cons b_isinstance (all_cons b_str za6)))) (zab (by decide) D3 (zab (by decide) D1 (zab (by decide) D2 (zab (by decide) D35 (zab (by decide) D36 (zab (by decide) D38 (zab (by decide) D40 (zab (by decide) D42 (zab (by decide) D43 zad))))))))) za6 zed rfl (gxC (nw:=(nw_cons ⟨by decide,zai,D27,(zba ⟨[],[],E27,.nil,fun _=>.nil⟩ zbu)⟩ (nw_cons ⟨by decide,za7,D28,(zba ⟨[],[],E28,.nil,fun _=>.nil⟩ zbu)⟩ nw_nil)))) ck_law
 exact law_fn K44 fun ns h=>law_true ns h
theorem walk{l:PySem.W.OpenLaw}{q:Program}{loose:List Str}{XP:(Str->Option Value)->Heap->Prop}{YP:World->Heap->Prop}{d:DefRec}{K:Params->PySem.W.Frag}(hn:l.most=some 63)(hdf:d.params.defaults=[])
  (hY:∀(w:World) (h:Heap),YP w h->(K w.params).In h)
  (F : ∀ (w : World) (mg : Str -> Option Value) (fa : Addr) (h : Heap), (K w.params).In h -> h.Ns mainGlobals mg -> mg d.name = some (.ref fa) ->
   ∃fd:FuncData,(∀(s:Shared) (u:Value),BindsTo s fd ⟨[u],[]⟩ [("_law_script",u)])/\∀base:Heap,(K w.params).In base->base.Ns mainGlobals mg->FnOk l.prog w (K w.params) mg base CX0 9 fa fd ["_law_script"] (spLaw (K w.params))) :
  PySem.W.WalkO q loose XP YP l.row.toRowW d [] (fun f vs=>PySem.call f vs) :=
 L2.walk_of (n:=63) (k:=9) (x:="_law_script") (CX:=fun _=>CX0) (sp:=fun w=>spLaw (K w.params)) hn (by decide) hdf ⟨rfl,by decide,by decide⟩ hY F (fun _ _ a ns hl _ hS=>⟨a,ns,rfl,hS,hl,fun _=>rfl⟩) fun _ _ _ _ _ z=>z
end Zl
open PySem PySem.W PyProof.Rows
set_option maxRecDepth 100000 in
set_option maxHeartbeats 0 in
theorem PySem.Challenge.cw_zonewalk_k82_machines_as_text_holds : PySem.Challenge.rw_zonewalk_k82_machines_as_text.Holds := by
 refine holds_law Zl.said fun s=>?_
 refine holds_open (q:=Zl.vq) (loose:=Zl.loo) (Xt:=Hd.xt PySem.Challenge.rw_zonewalk_k82_machines_as_text.row.toRowW Zl.vq) (XP:=XL Zl.vq []) (Yf:=Zl.hk.obs) (Ya:=Zl.hk.val) (YP:=Zl.hk.says) Zl.left Zl.hk.of Zl.hk.keeps (fun s e=>xl_of s (Bool.and_eq_true_iff.mp e).1) XL.keeps (by rfl) (by rfl) (by rfl) (fun s e=>recFacts_of (Bool.and_eq_true_iff.mp e).2) (by rfl) s (by decide +kernel) ⟨rfl,rfl,rfl,rfl,rfl,by decide +kernel⟩ ?hw ?hc
 case hw=>w_witness2
 case hc=>exact Zl.walk (l:=PySem.Challenge.rw_zonewalk_k82_machines_as_text) rfl rfl (fun w h Y=>kIn_of Y) fun w mg fa h X G e=>Zl.all_mk X G e
