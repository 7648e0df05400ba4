import PyProof.Rows.All
import Wide.All
import OpenK.AllK
import Wide.FinOn
import Lean
import PyProof.EqAt
import PyProof.EqKinds
import PyProof.TupleCall
import PySem.Challenge.RW_zonewalk_k61_papers_looked_at
set_option compiler.extract_closed false
set_option bootstrap.genMatcherCode false
set_option linter.all false
def ya0:=@List.getElem?_eq_getElem
def ya1:=@List.length_map
def ya2:=@List.getElem?_eq_some_iff
def ya3:=@Bool.and_eq_true
def ya4:=@PySem.Heap.get?_push_of_some
def ya5:=@PySem.Heap.lt_size
def ya6:=@List.mem_cons_of_mem
def ya7:=@List.getElem?_map
def ya8:=@Nat.le_refl
def ya9:=@List.mem_cons_self
def yaa:=@List.mem_singleton
def yab:=@List.all_eq_true
def yac:=@List.mem_map
def yad:=@Option.map_eq_some_iff
def yae:=@Nat.lt_of_lt_of_le
def yaf:=@List.mem_cons
def yag:=@List.getD_eq_getElem?_getD
def yah:=@Nat.ne_of_lt
def yai:=@List.mem_append_right
def yaj:=@Nat.le_trans
def yak:=@List.getElem?_set_ne
def yal:=@Option.some.inj
def yam:=@List.getElem?_set_self
def yan:=@PySem.Heap.get?_push_size
def yao:=@Ne.symm
def yap:=@List.map_cons
def yaq:=@List.contains_iff_mem
def yar:=@List.mem_append
def yas:=@List.map_append
def yat:=@List.getElem_mem
def yau:=@Int.mul_assoc
def yav:=@List.getElem?_append_left
def yaw:=@List.length_append
def yax:=@List.findIdx?_eq_some_iff_getElem
def yay:=@Nat.lt_irrefl
def yaz:=@List.not_mem_nil
def yb0:=@List.take_succ_eq_append_getElem
def yb1:=@PySem.W.kia_one
def yb2:=@PySem.Heap.get?_update_other
def yb3:=@List.size_toArray
def yb4:=@PyProof.Rows.callWith_type1
def yb5:=@List.getElem_inj
def yb6:=@List.length_take
def yb7:=@List.length_cons
def yb8:=@Int.fmod_nonneg_of_pos
def yb9:=@List.lookup_cons
def yba:=@Bool.or_eq_false_iff
def ybb:=@PySem.mem_of_lookup
def ybc:=@List.map_congr_left
def ybd:=@List.map_map
def ybe:=@List.getElem?_append_right
def ybf:=@Array.getElem?_eq_some_iff
def ybg:=@Bool.true_and
def ybh:=@List.drop_eq_getElem_cons
def ybi:=@Array.getElem?_eq_getElem
def ybj:=@PySem.W.hideAll_get
def ybk:=@Nat.zero_le
def ybl:=@Bool.false_ne_true
def ybm:=@List.mem_filterMap
def ybn:=@Int.mul_comm
def ybo:=@List.all_cons
def ybp:=@List.mem_append_left
def ybq:=@List.mem_of_getElem?
def ybr:=@List.mem_take_iff_getElem
def ybs:=@PySem.Heap.size_push
def ybt:=@Nat.lt_succ_self
def ybu:=@PySem.F.slot_str_getitem
def ybv:=@List.getElem_map
def ybw:=@List.take_length
def ybx:=@List.getElem?_cons_succ
def yby:=@PySem.W.of_hideAll
def ybz:=@List.append_nil
def yc0:=@List.length_set
def yc1:=@Int.fmod_lt_of_pos
def yc2:=@Bool.or_eq_true
def yc3:=@List.length_nil
def yc4:=@Bool.false_eq_true
def yc5:=@PyProof.Rows.boot_list
def yc6:=@Nat.lt_succ_of_lt
def yc7:=@List.mem_range
def yc8:=@PySem.Heap.get?_update_self
def yc9:=@List.length_singleton
def yca:=@List.getElem?_eq_none
def ycb:=@List.length_filter_le
def ycc:=@Option.getD_some
def ycd:=@Nat.le_succ
def yce:=@List.getD_cons_succ
def ycf:=@List.getD_cons_zero
def ycg:=@List.nodup_cons
def ych:=@Option.map_some
def yci:=@Int.natCast_add
def ycj:=@Nat.succ_pos
def yck:=@Nat.lt_trans
def ycl:=@Int.le_of_lt
def ycm:=@PySem.W.callWith_K
def ycn:=@Option.isSome_iff_exists
def yco:=@List.getElem?_take_of_lt
def ycp:=@PySem.Obj.data_mapFields
def ycq:=@List.getElem?_drop
def ycr:=@List.zip_cons_cons
def ycs:=@PySem.F.called_set
def yct:=@List.getElem?_replicate
def ycu:=@PySem.F.plainAttrs_list
def ycv:=@PyProof.Rows.F.plain_set_update_loop
def ycw:=@Option.some.injEq
def ycx:=@Int.toNat_natCast
def ycy:=@List.length_range
def ycz:=@PyProof.V.reads_dictOf
def yd0:=@PySem.SeqAt.notIn_list_reads
def yd1:=@List.length_replicate
def yd2:=@PySem.Obj.isFreed_of_fields
def yd3:=@List.mem_filter
def yd4:=@PySem.W.hideAll_none
def yd5:=@Nat.le_of_lt
def yd6:=@Bool.eq_iff_iff
def yd7:=@Int.mul_le_mul_of_nonneg_right
def yd8:=@Int.natCast_pos
def yd9:=@PySem.W.plainGet_of
def yda:=@PySem.SeqAt.in_list_reads
def ydb:=@Int.mul_one
def ydc:=@List.findIdx?_cons
def ydd:=@PySem.Paired.length
def yde:=@List.any_cons
def ydf:=@Bool.and_true
def ydg:=@PySem.W.kitx_dict
def ydh:=@Nat.succ_le_succ
def ydi:=@List.filter_cons
def ydj:=@List.cons_append
def ydk:=@PySem.Txt.slice_le
def ydl:=@decide_eq_false
def ydm:=@PySem.wpAny_mono
def ydn:=@PySem.wpAny_truthy_bool
def ydo:=@PySem.wpAny_execs_nil
def ydp:=@PySem.wpAny_bind
def ydq:=@PySem.wpAny_holding
def ydr:=@PySem.wpAny_standAt
def yds:=@PySem.wpAny_passesOwn
def ydt:=@PySem.wpAny_pure
def ydu:=@PySem.wpAny_pyIter_list
def ydv:=@PySem.sizeLine_eq
def ydw:=@PySem.wpAny_call
def ydx:=@PySem.codeAny_mono
def ydy:=@PySem.wpAny_Call_Name_kw
def ydz:=@PySem.typeIs_str
def ye0:=@if_true
def ye1:=@decide_eq_true
def ye2:=@PySem.wpAny_setField
def ye3:=@PySem.wpAny_field
def ye4:=@decide_eq_true_eq
def ye5:=@or_false
def ye6:=@PySem.pushCells_keeps
def ye7:=@of_decide_eq_true
def ye8:=@if_false
def ye9:=@beq_self_eq_true
def yea:=@PySem.wpAny_ite_false
def yeb:=@PySem.wpAny_of_eq
def yec:=@PySem.wpAny_isInstance
def yed:=@PySem.wpAny_getItem_str_slice
def yee:=@PySem.post_val_or_str
def yef:=@beq_eq_false_iff_ne
def yeg:=@not_false_eq_true
noncomputable section
local macro_rules|`(tactic|ext)=>`(tactic|kernel_rfl)
abbrev k6:=PySem.W.Frag
set_option Elab.async false
set_option linter.all false
set_option maxRecDepth 100000
set_option genSizeOf false
set_option genInjectivity false
local macro_rules
  |`(tactic| omega)=>`(tactic| first
    |assumption
    |exact yaj (by assumption) (by decide +kernel)
    |exact yae (by assumption) (by decide +kernel)
    |exact Nat.lt_of_le_of_lt (by assumption) (by decide +kernel)
    |exact ycj _
    |exact yae (by assumption) (ydh (yaj (by assumption) (by decide +kernel)))
    |exact ydh (yaj (by assumption) (by decide +kernel))
    |exact yck (by assumption) (by assumption)
    |exact yae (by assumption) (by assumption)
    |exact Int.lt_trans (b:=0) (by decide +kernel) (by assumption)
    |exact Int.lt_of_lt_of_le (b:=0) (by decide +kernel) (by assumption)
    |exact Int.lt_of_le_of_lt (by assumption) (by decide +kernel)
    |exact Int.le_trans (by assumption) (by decide +kernel)
    |exact ycl (by assumption)
    |exact Int.ne_of_gt (by assumption)
    |lia
    |fail)
namespace L2
open PySem PySem.Spec PyProof.Rows
abbrev Key:=Sum Int Str
noncomputable def G4:Key->Value->Bool
 |.inl k,v=>Value.isInt k v
 |.inr x,v=>Value.isStrOf x v
def keyH(w:World):Key->Int
 |.inl k=>hashInt k
 |.inr x=>hashStr w x
theorem FC:∀{k} {v},G4 k v=true->(∃i t,k=Sum.inl i/\v=Value.int i t)\/(∃x t,k=Sum.inr x/\v=Value.str x t)
 |.inl i,v,h=>by
  obtain⟨t,e⟩:=Value.isInt_shape h
  grind
 |.inr x,v,h=>by
  obtain⟨t,e⟩:=Value.isStrOf_shape h
  grind
theorem zfq(i)(t):G4 (.inl i) (.int i t)=true:=by simp[G4,Value.isInt]
theorem zfp(x)(t):G4 (.inr x) (.str x t)=true:=by simp[G4,Value.isStrOf]
theorem zo9(a b:Int):decide ((Sum.inl a:Key)=Sum.inl b)=(a == b):=by
 grind
theorem zo6(a b:Str):decide ((Sum.inr a:Key)=Sum.inr b)=decide (a=b):=by
 simp
theorem zo8(a:Int)(b:Str):decide (Sum.inl a=Sum.inr b)=false:=ydl (λq=>nomatch q)
theorem zo7(a:Str)(b:Int):decide (Sum.inr a=Sum.inl b)=false:=ydl (λq=>nomatch q)
def DM(prog:Program)(w:World):PySem.KeyKind prog w Key where
 is:=G4
 hash:=keyH w
 inj:=λv a b ha hb=>by
  rcases FC ha with ⟨i,t,rfl,rfl⟩|⟨x,t,rfl,rfl⟩
  .rcases FC hb with ⟨j,u,rfl,e⟩|⟨y,u,rfl,e⟩
   .injection e with e1 _;rw[e1]
   .exact nomatch e
  .rcases FC hb with ⟨j,u,rfl,e⟩|⟨y,u,rfl,e⟩
   .exact nomatch e
   .injection e with e1 _;rw[e1]
 byValue:=λk v h=>by
  rcases FC h with ⟨i,t,rfl,rfl⟩|⟨x,t,rfl,rfl⟩<;>rfl
 pyHash:=λhv h=>by
  rcases FC hv with ⟨i,t,rfl,rfl⟩|⟨x,t,rfl,rfl⟩
  .exact wpAny_pyHash_int h
  .exact wpAny_pyHash_str h
 eqBool:=λhu hv h=>by
  rcases FC hu with ⟨i,t,rfl,rfl⟩|⟨x,t,rfl,rfl⟩
  .rcases FC hv with ⟨j,u,rfl,rfl⟩|⟨y,u,rfl,rfl⟩
   .rw[zo9]at h;exact wpAny_eqBool_int h
   .rw[zo8]at h;exact SeqAt.EqAt.int_str i t y u _ _ _ _ h
  .rcases FC hv with ⟨j,u,rfl,rfl⟩|⟨y,u,rfl,rfl⟩
   .rw[zo7]at h;exact SeqAt.EqAt.str_int x t j u _ _ _ _ h
   .rw[zo6]at h;exact wpAny_eqBool_str h
 «strs»:=λk x t v h=>by
  rcases FC h with ⟨i,u,rfl,e⟩|⟨y,u,rfl,e⟩
  .exact nomatch e
  .injection e with e1 _
   subst e1;cases v<;>rfl
theorem zdf(prog)(w)(i)(t):(DM prog w).is (.inl i) (.int i t)=true:=zfq i t
theorem zde(prog)(w)(x)(t):(DM prog w).is (.inr x) (.str x t)=true:=zfp x t
set_option genInjectivity true in
inductive V where
 |non|bl (b:Bool)|int (i:Int)|str (x:Str)|byt (b:Array UInt8)|flt (b:UInt64)|ref (a:Addr)|ty (n:String)
 deriving DecidableEq
def Af:V->Value->Prop
 |.non,u=>u=Value.none
 |.bl b,u=>u=Value.bool b
 |.int i,u=>∃t,u=Value.int i t
 |.str x,u=>∃t,u=Value.str x t
 |.byt b,u=>∃t,u=Value.bytes b t
 |.flt b,u=>∃t,u=Value.float b t
 |.ref a,u=>u=Value.ref a
 |.ty n,u=>u=Value.type n
abbrev Ad:List V->List Value->Prop:=Paired Af
theorem Ad.length(r:Ad xs us):xs.length=us.length:=ydd r
theorem Ad.get:∀{xs} {us} {i:Nat} {x},Ad xs us->xs[i]?=some x->∃u,us[i]?=some u/\Af x u
 |_,_,_,_,.nil,e=>by simp at e
 |_,_,0,_,.cons r _,e=>by grind
 |_,_,i+1,x,.cons _ t,e=>by
  obtain⟨u,h1,h2⟩:=Ad.get t (by simpa using e)
  grind
theorem Ad.set(r:Af x u):∀{xs} {us} (i),Ad xs us->Ad (xs.set i x) (us.set i u)
 |_,_,_,.nil=>.nil
 |_,_,0,.cons _ t=>.cons r t
 |_,_,i+1,.cons q t=>.cons q (Ad.set r i t)
theorem Ad.append:∀{xs ys} {us ws},Ad xs us->Ad ys ws->Ad (xs++ys) (us++ws)
 |_,_,_,_,.nil,s=>s
 |_,_,_,_,.cons r t,s=>.cons r (Ad.append t s)
theorem Ad.take:∀{xs} {us} (n),Ad xs us->Ad (xs.take n) (us.take n)
 |_,_,0,_=>.nil
 |_,_,_+1,.nil=>.nil
 |_,_,n+1,.cons r t=>.cons r (Ad.take n t)
theorem Ad.drop:∀{xs} {us} (n),Ad xs us->Ad (xs.drop n) (us.drop n)
 |_,_,0,r=>r
 |_,_,_+1,.nil=>.nil
 |_,_,n+1,.cons _ t=>Ad.drop n t
theorem Ad.none_of:∀{i:Nat},Ad xs us->xs[i]?=none->us[i]?=none:=λr e=>by
 have h1:=r.length
 grind
def DU:Option V->Option Value->Prop
 |some v,some u=>Af v u
 |none,none=>True
 |_,_=>False
def KV{κ:Type}:List (κ×V)->List (κ×Value)->Prop:=Paired λ(p:κ×V) (q:κ×Value)=>p.1=q.1/\Af p.2 q.2
def kV:Key->V
 |.inl i=>.int i
 |.inr x=>.str x
set_option genInjectivity true in
inductive HO where
 |lst (xs:List V)
 |tup (xs:List V)
 |dK (kvs:List (Key×V))|dT (kvs:List (List Key×V))
 |set (S:Int->Bool) (n:Nat)
 |ins (C dx:Addr) (fs:List (Str×V))
 |own (x:Addr)
 |xd (fs:List (Str×V))
 |met (f x:Addr)
 |rng (lo hi:Int)
 |frz (o:Obj) (u:HO)
 |tbl (ps:Array Value)
 |ext (φ:Heap->Prop)
abbrev Hp:=Addr->Option HO
noncomputable def upd(H:Hp)(a:Addr)(o:HO):Hp:=λb=>if b=a then some o else H b
theorem Cf{H:Hp}{a:Addr}{o:HO}:upd H a o a=some o:=by unfold upd;simp
theorem BG(h:b≠a):upd H a o b=H b:=by unfold upd;rw[if_neg h]
theorem ne_of{H:Hp}   (h:H a=some o)(h':H b=some u)(d:o≠u):a≠b:=by
 grind
theorem Cm{H:Hp}(h:H a=some o)(h':H b=none):a≠b:=by
 grind
section
variable (P:Program)(w:World)
def Ct(H:Hp)(h:Heap)(a:Addr):HO->Prop
 |.lst xs=>xs.length<=sizeLine/\∃(its:List Value) (n:Nat),Ad xs its/\h.get? a=some { cls:=.type "list",data:=.seq its.toArray n }
 |.tup xs=>xs.length<=sizeLine/\∃its:List Value,Ad xs its/\IsTup h a its.toArray
 |.dK kvs=>kvs.length<=sizeLine/\(a == sysModules)=false/\∃vs,KV kvs vs/\h.DictOf (DM P w) a vs
 |.dT kvs=>kvs.length<=sizeLine/\(a == sysModules)=false/\∃xs:List (List Key×Addr×Value),
   Paired (λ(p:List Key×V) (q:List Key×Addr×Value)=>p.1=q.1/\H q.2.1=some (.tup (p.1.map kV))/\Af p.2 q.2.2) kvs xs /\
   ∃o es ep,h.get? a=some o/\o.ExactDict/\o.data=.dict es ep/\es.toList=xs.map (entryOfKey (tupleKind (DM P w)))/\(xs.map (·.1)).Nodup
 |.set S n=>h.SetOf (intKind P w) a S n
 |.ins C dx fs=>H dx=some (.own a)/\fs.length<=1000/\dx≠a/\h.get? a=some (PySem.W.instObj C dx) /\
   ∃mA,h.Ns1 dx mA/\(∀f,DU (fs.lookup f) (mA f))/\PySem.Within mA (fs.map (·.1))
 |.own _=>∃o,h.get? a=some o
 |.xd fs=>∃mA,h.Ns1 a mA/\∀f,DU (fs.lookup f) (mA f)
 |.rng lo hi=>∃t u v,h.get? a=some { cls:=.type "range",data:=.fields #[.int lo t,.int hi u,.int 1 v] }
 |.frz o u=>h.get? a=some o/\Ct H h a u
 |.tbl ps=>h.get? a=some { cls:=.none,data:=.fields ps }
 |.met f x=>h.get? a=some (PySem.W.methodObj (.ref f) (.ref x))
 |.ext φ=>φ h/\(∃o,h.get? a=some o)/\∀h1 h2:Heap,φ h1->(∀o,h1.get? a=some o->h2.get? a=some o)->φ h2
def HOk(H:Hp)(h:Heap):Prop:=∀a o,H a=some o->Ct P w H h a o
end
section
variable {P:Program}{w:World}{H H':Hp}{h h':Heap}{a:Addr}{o:HO}
theorem Ct.lt(x:Ct P w H h a o):a<h.objs.size:=by
 cases o with
 |lst xs=>obtain⟨_,_,_,_,e⟩:=x;exact ya5 e
 |tup xs=>obtain⟨_,_,_,p⟩:=x;exact p.lt
 |dK kvs=>obtain⟨_,_,_,_,o,_,_,e,_⟩:=x;exact ya5 e
 |dT kvs=>obtain⟨_,_,_,_,o,_,_,e,_⟩:=x;exact ya5 e
 |set S n=>obtain⟨o,_,_,_,e,_⟩:=x;exact ya5 e
 |ins C dx fs=>obtain⟨_,_,_,e,_⟩:=x;exact ya5 e
 |own y=>obtain⟨_,e⟩:=x;exact ya5 e
 |xd fs=>obtain⟨_,⟨_,_,_,e,_⟩,_⟩:=x;exact ya5 e
 |rng lo hi=>obtain⟨_,_,_,e⟩:=x;exact ya5 e
 |frz ob u=>obtain⟨e,_⟩:=x;exact ya5 e
 |tbl ps=>exact ya5 (x)
 |met f y=>exact ya5 (x)
 |ext φ=>obtain⟨_,⟨_,e⟩,_⟩:=x;exact ya5 e
theorem Paired.mapP:∀{l₁:List α} {l₂:List β},Paired F l₁ l₂->(∀a b,F a b->G a b)->Paired G l₁ l₂
 |_,_,.nil,_=>.nil
 |_,_,.cons r t,f=>.cons (f _ _ r) (Paired.mapP t f)
theorem Ct.stay(x:Ct P w H h a o)(k:∀b u,(b=a\/H b=some (.own a))->h.get? b=some u->h'.get? b=some u)
  (ho:∀b,H b=some (.own a)->H' b=some (.own a)) (ht:∀b xs,H b=some (.tup xs)->H' b=some (.tup xs)):Ct P w H' h' a o:=by
 induction o with
 |lst xs=>obtain⟨z,its,n,r,e⟩:=x;exact⟨z,its,n,r,k _ _ (.inl rfl) e⟩
 |tup xs=>obtain⟨z,its,r,ob,e,c⟩:=x;exact⟨z,its,r,ob,k _ _ (.inl rfl) e,c⟩
 |dK kvs=>obtain⟨z,y,vs,r,ob,es,ep,e,c⟩:=x;exact⟨z,y,vs,r,ob,es,ep,k _ _ (.inl rfl) e,c⟩
 |dT kvs =>
  obtain⟨z,y,xs,r,ob,es,ep,e,c⟩:=x;exact⟨z,y,xs,Paired.mapP r λp q z=>⟨z.1,ht _ _ z.2.1,z.2.2⟩,ob,es,ep,k _ _ (.inl rfl) e,c⟩
 |set S n=>obtain⟨ob,es,ep,t,e,c⟩:=x;exact⟨ob,es,ep,t,k _ _ (.inl rfl) e,c⟩
 |ins C dx fs =>
  obtain⟨d,z,ne,e,mA,⟨od,es,ep,e2,c⟩,r⟩:=x;exact⟨ho _ d,z,ne,k _ _ (.inl rfl) e,mA,⟨od,es,ep,k _ _ (.inr d) e2,c⟩,r⟩
 |own y=>obtain⟨ob,e⟩:=x;exact⟨ob,k _ _ (.inl rfl) e⟩
 |xd fs=>obtain⟨mA,⟨od,es,ep,e,c⟩,r⟩:=x;exact⟨mA,⟨od,es,ep,k _ _ (.inl rfl) e,c⟩,r⟩
 |rng lo hi=>obtain⟨t,u,v,e⟩:=x;exact⟨t,u,v,k _ _ (.inl rfl) e⟩
 |frz ob u ih=>obtain⟨e,q⟩:=x;exact⟨k _ _ (.inl rfl) e,ih q⟩
 |tbl ps =>
  have e :=x;exact k a _ (.inl rfl) e
 |met f y =>
  have e :=x;exact k a _ (.inl rfl) e
 |ext φ=>obtain⟨p,⟨o,e⟩,st⟩:=x;exact⟨st _ _ p λo q=>k _ _ (.inl rfl) q,⟨o,k _ _ (.inl rfl) e⟩,st⟩
theorem HOk.lt(x:HOk P w H h)(e:H a=some o):a<h.objs.size:=(x a o e).lt
theorem HOk.fresh(x:HOk P w H h)(e:h.objs.size<=a):H a=none:=by
 cases q:H a with
 |none=>rfl
 |some u=>exact absurd (yae (x.lt q) e) (yay _)
theorem HOk.kept(x:HOk P w H h)(k:∀b u,h.get? b=some u->h'.get? b=some u):HOk P w H h':=λa o e =>
 (x a o e).stay (λb u _ q=>k b u q) (λ_ q=>q) λ_ _ q=>q
theorem HOk.laid(x:HOk P w H h)(k:∀b u,h.get? b=some u->h'.get? b=some u)(hp:h.objs.size<=a)(new:Ct P w (upd H a o) h' a o):HOk P w (upd H a o) h':=λb u e=>by
 have hn:=x.fresh hp
 by_cases hb:b=a
 .subst hb;rw[Cf]at e;grind
 .rw[BG hb]at e;exact(x b u e).stay (λc v _ q=>k c v q) (λc q=>by rw[BG (Cm q hn)];exact q) λc xs q=>by rw[BG (Cm q hn)];exact q
end
def Rd(H:Hp)(a:Addr)(u:HO):Prop:=H a=some u\/∃o,H a=some (.frz o u)
theorem Rd.of{H:Hp}{a:Addr}{u:HO}(h:H a=some u):Rd H a u:=.inl h
theorem Rd.ok(r:Rd H a u)(x:HOk P w H h):Ct P w H h a u:=by
 rcases r with r|⟨o,r⟩
 .exact x a u r
 .obtain⟨_,q⟩:=x a _ r;exact q
def K3:Option HO->Prop
 |some (.lst _)=>True
 |some (.dK _)=>True
 |some (.dT _)=>True
 |some (.set _ _)=>True
 |some (.ins _ _ _)=>True
 |some (.ext _)=>True
 |_=>False
section
variable {P:Program}{w:World}{H:Hp}{h h':Heap}{x e:Addr}{o':HO}
theorem HOk.write(ok:HOk P w H h)(mu:K3 (H x))(he:e=x\/H e=some (.own x))(k:∀b u,b≠e->h.get? b=some u->h'.get? b=some u)(heo:∃u,h'.get? e=some u)
  (new:Ct P w (upd H x o') h' x o'):HOk P w (upd H x o') h':=λb u q=>by
 have nown:∀c y,H c=some (.own y)->c≠x:=λc y r z=>by subst z;rw[r]at mu;exact mu
 have ntup:∀c xs,H c=some (.tup xs)->c≠x:=λc xs r z=>by subst z;rw[r]at mu;exact mu
 by_cases hb:b=x
 .subst hb;rw[Cf]at q;cases q;exact new
 .rw[BG hb]at q
  by_cases hbe:b=e
  .have q':H b=some (.own x):=by
    grind
   rw[q]at q';cases q';obtain⟨v,hv⟩:=heo;exact⟨v,by rw[hbe];exact hv⟩
  .refine(ok b u q).stay (λc v hc r=>k c v ?_ r) (λc r=>by rw[BG (nown c b r)];exact r) λc xs r=>by rw[BG (ntup c xs r)];exact r
   grind
end
structure Un(fs ex:List Addr)(H H':Hp)(h h':Heap):Prop where
 keep:∀b o,h.get? b=some o->H b=none->b∉fs->b∉ex->h'.get? b=some o
 slot:∀b o,h.get? b=some o->H b=none->b∈fs->b∉ex->∃sl,h'.get? b=some { o with slots:=sl }
 free:∀b o,h.get? b=some o->H b=none->b∉ex->H' b=none
 there:∀b o,h.get? b=some o->b∉ex->∃o',h'.get? b=some o'
 tups:∀b xs,H b=some (.tup xs)->H' b=some (.tup xs)
 frzs:∀b o u,H b=some (.frz o u)->H' b=some (.frz o u)
 tbls:∀b ps,H b=some (.tbl ps)->∃more,H' b=some (.tbl (ps++more))
section
variable {fs fs' ex ex':List Addr}{H H1 H2:Hp}{h h1 h2 h':Heap}{a x e:Addr}{o:HO}
theorem Un.any(u:Un fs ex H H1 h h1)(q:h.get? b=some ob)(n:H b=none)(hx:b∉ex):∃sl,h1.get? b=some { ob with slots:=sl}:=by
 by_cases hb:b∈fs
 .exact u.slot b ob q n hb hx
 .exact⟨ob.slots,u.keep b ob q n hb hx⟩
theorem Un.trans(a:Un fs ex H H1 h h1)(b:Un fs ex H1 H2 h1 h2):Un fs ex H H2 h h2 where
 keep:=λc ob q n hc hx=>b.keep c ob (a.keep c ob q n hc hx) (a.free c ob q n hx) hc hx
 slot:=λc ob q n hc hx=>by
  obtain⟨sl,e1⟩:=a.slot c ob q n hc hx;obtain⟨sl',e2⟩:=b.slot c _ e1 (a.free c ob q n hx) hc hx
  grind
 free:=λc ob q n hx=>by
  obtain⟨o',e1⟩:=a.there c ob q hx;exact b.free c o' e1 (a.free c ob q n hx) hx
 there:=λc ob q hx=>by
  obtain⟨o',e1⟩:=a.there c ob q hx;exact b.there c o' e1 hx
 tups:=λc xs q=>b.tups c xs (a.tups c xs q)
 frzs:=λc ob xs q=>b.frzs c ob xs (a.frzs c ob xs q)
 tbls:=λc ps q=>by
  obtain⟨m1,e1⟩:=a.tbls c ps q;obtain⟨m2,e2⟩:=b.tbls c _ e1
  grind
theorem Un.kept(k:∀b u,h.get? b=some u->h'.get? b=some u):Un fs ex H H h h' :=
 ⟨λb ob q _ _ _=>k b ob q,λb ob q _ _ _=>⟨ob.slots,k b ob q⟩,λ_ _ _ n _=>n,λb ob q _=>⟨ob,k b ob q⟩,λ_ _ q=>q,λ_ _ _ q=>q,λ_ ps q=>⟨#[],by rw[q];simp⟩⟩
theorem Un.refl:Un fs ex H H h h:=Un.kept λ_ _ q=>q
theorem Un.laid(k:∀b u,h.get? b=some u->h'.get? b=some u)(hp:h.objs.size<=a)(hn:H a=none):Un fs ex H (upd H a o) h h' where
 keep:=λb u q _ _ _=>k b u q
 slot:=λb u q _ _ _=>⟨u.slots,k b u q⟩
 free:=λb u q n _=>by rw[BG (yah (yae (ya5 q) hp))];exact n
 there:=λb u q _=>⟨u,k b u q⟩
 tups:=λb xs q=>by rw[BG (Cm q hn)];exact q
 frzs:=λb u xs q=>by rw[BG (Cm q hn)];exact q
 tbls:=λb ps q=>⟨#[],by rw[BG (Cm q hn),q];simp⟩
theorem Un.write(mu:K3 (H x))(he:e=x\/H e=some (.own x))(k:∀b u,b≠e->h.get? b=some u->h'.get? b=some u)(heo:∃u,h'.get? e=some u):Un fs ex H (upd H x o) h h':=by
 have hx:∀b,H b=none->b≠x:=λb n z=>by subst z;rw[n]at mu;exact mu
 have hb:∀b,H b=none->b≠e:=λb n z=>by
  grind
 have hm:∀b u,H b=some u->¬ K3 (some u)->b≠x:=λb u q nm z=>by grind
 refine⟨λb u q n _ _=>k b u (hb b n) q,λb u q n _ _=>⟨u.slots,k b u (hb b n) q⟩,λb u q n _=>by rw[BG (hx b n)];exact n,λb u q _=>?_,
  λb xs q=>by rw[BG (hm b _ q λz=>z)];exact q,λb u xs q=>by rw[BG (hm b _ q λz=>z)];exact q,λb ps q=>⟨#[],by rw[BG (hm b _ q λz=>z),q];simp⟩⟩
 grind
theorem Un.mono(u:Un fs ex H H1 h h1)(hs:∀b∈fs,b∈fs')(hx:∀b∈ex,b∈ex'):Un fs' ex' H H1 h h1 :=
 ⟨λb ob q n hb he=>u.keep b ob q n (λz=>hb (hs b z)) λz=>he (hx b z),λ_ _ q n _ he=>u.any q n λz=>he (hx _ z),λb ob q n he=>u.free b ob q n λz=>he (hx b z),λb ob q he=>u.there b ob q λz=>he (hx b z),u.tups,u.frzs,u.tbls⟩
end
def Ks(h:Heap)(H:Hp):List Addr:=(List.range h.objs.size).filter λa=>(H a).isSome
def G8(h:Heap)(H:Hp):Heap:=PySem.W.hideAll h (Ks h H)
theorem zft(h)(H):(G8 h H).objs.size=h.objs.size:=PySem.W.hideAll_size _ _
theorem zi0(e:h.get? b=some o)(n:H b=none):(G8 h H).get? b=some o :=
 ybj _ e λhm=>by
  have q :=(yd3.mp hm).2
  grind
theorem zke(e:(G8 h H).get? b=some o):h.get? b=some o/\H b=none:=by
 have e' :=yby (Ks h H) e;refine⟨e',?_⟩;cases q:H b with
 |none=>rfl
 |some x =>
  have hm:b∈Ks h H:=yd3.mpr ⟨yc7.mpr (ya5 e'),by simp[q]⟩
  have z:(G8 h H).get? b=none:=yd4 (Ks h H) hm
  grind
def zlk(g h:Heap)(L:Addr):List (Addr×Obj):=(List.range h.objs.size).filterMap λa=>if a=L\/(g.get? a).isSome=true then none else (h.get? a).map λo=>(a,o)
def BJ(g h:Heap)(L d:Addr):List (Addr×Obj):=(zlk g h L).filter λp=>decide (p.1≠d)
structure Mod(K:k6)(mg:Str->Option Value)(base:Heap):Prop where
 kin:K.In base
 glob:base.Ns mainGlobals mg
 blt:∃mb,base.Ns builtinsNs mb/\∀x:Str,x≠"__name__"->mb x=bootBuiltins x
 nolimit:base.NoLimit
structure Cx where
 prog:Program
 w:World
 K:k6
 mg:Str->Option Value
 base:Heap
 A:Around
 N:List Str
 s₀:Shared
 H₀:Hp
 env:Env
 outer:List Env
 stack:List Env
 ex:List Addr
 fn:Str->Bool
 calm:Bool
 pn:List (Addr×Obj)
 xe:Value->Shared->Prop
def Bk(l:List Env):List Addr:=l.filterMap (·.frame)
abbrev Cx.fs(X:Cx):List Addr:=Bk X.outer
def DR(sc:Scope)(x:Str):Prop:=sc.names.lookup x=some .local\/sc.names.lookup x=some .cell\/sc.names.lookup x=some .free
def Gi(sc:Scope)(x:Str):Prop:=sc.names.lookup x=some .local\/sc.names.lookup x=some .cell
def Look(env:Env)(h:Heap)(m:Str->Option Value)(x:Str)(u:Value):Prop :=
 (env.kindOf x=some .local/\m x=some u)\/((env.kindOf x=some .cell\/env.kindOf x=some .free)/\∃c,env.cells.lookup x=some c/\h.IsCell c (some u))
structure Cx.Ok(X:Cx):Prop where
 mod:Mod X.K X.mg X.base
 kind:X.env.scope.kind=.function
 glob:X.env.globals=mainGlobals
 blt:X.env.builtins=builtinsNs
 above:X.s₀.heap.objs.size<=X.env.locals
 inj:∀x y c,X.env.cells.lookup x=some c->X.env.cells.lookup y=some c->x=y
 has:∀x,(X.env.kindOf x=some .cell\/X.env.kindOf x=some .free)->∃c,X.env.cells.lookup x=some c
 cab:∀x c,X.fn x=true->X.env.cells.lookup x=some c->X.s₀.heap.objs.size<=c
 hd:X.calm=true->X.A.handled=none
 frames:X.A.frames=some X.stack
 stk:X.stack=X.outer\/(X.stack=X.env::X.outer/\X.env.frame=some X.env.locals)
 exf:∀b∈X.ex,b≠X.env.locals/\∀x c,X.env.cells.lookup x=some c->c≠b
 bs:∀b o,X.base.get? b=some o->X.s₀.heap.get? b=some o/\X.H₀ b=none
 bsz:X.base.objs.size<=X.s₀.heap.objs.size
 noex:∀b o,X.base.get? b=some o->b∉X.ex
 exfs:∀b∈X.ex,b∉X.fs
 funs:X.s₀.heap.FunFrames X.base X.outer
 frf:∀b∈X.fs,X.H₀ b=none
structure Inv(X:Cx)(pins:List (Addr×Obj))(σ:List (Option V))(H:Hp)(s:Shared):Prop where
 ok:X.Ok
 os:s.os=X.s₀.os
 bare:AllBare s.gens
 base:Un X.fs X.ex X.H₀ H X.s₀.heap s.heap
 loc:∃m,s.heap.Ns X.env.locals m/\∀(i:Nat) (x:Str) (v:V),X.N[i]?=some x->σ[i]?=some (some v)->DR X.env.scope x->∃u,Af v u/\Look X.env s.heap m x u
 cell:∀x c,X.env.cells.lookup x=some c->∃v,s.heap.IsCell c v
 free:H X.env.locals=none
 freeC:∀x c,X.env.cells.lookup x=some c->H c=none
 pin:∀p∈X.pn++pins,s.heap.get? p.1=some p.2/\H p.1=none/\p.1≠X.env.locals/\p.1∉X.fs/\∀v,p.2.data≠.cell v
 hok:HOk X.prog X.w H s.heap
 len:σ.length=X.N.length
section
variable {X:Cx}{pins:List (Addr×Obj)}{σ:List (Option V)}{H H':Hp}{s:Shared}{h':Heap}
theorem Cx.Ok.nofr(ok:X.Ok)(e:X.base.get? b=some o):b∉X.fs:=λhb=>by
 have:=(ok.funs.mem hb).1
 grind
theorem Inv.bs(I:Inv X pins σ H s):∀b o,X.base.get? b=some o->s.heap.get? b=some o/\H b=none:=λb o e =>
 ⟨I.base.keep b o (I.ok.bs b o e).1 (I.ok.bs b o e).2 (I.ok.nofr e) (I.ok.noex b o e),I.base.free b o (I.ok.bs b o e).1 (I.ok.bs b o e).2 (I.ok.noex b o e)⟩
theorem Inv.bk(I:Inv X pins σ H s):∀b o,X.base.get? b=some o->s.heap.get? b=some o:=λb o e=>(I.bs b o e).1
theorem Inv.mod(I:Inv X pins σ H s):Mod X.K X.mg X.base:=I.ok.mod
theorem Inv.kIn(I:Inv X pins σ H s):X.K.In s.heap:=I.ok.mod.kin.keeps I.bk
theorem Inv.nolimit(I:Inv X pins σ H s):s.heap.NoLimit:=I.ok.mod.nolimit.keeps I.bk
theorem Inv.fr(I:Inv X pins σ H s):∃m,Fr X.base X.env.locals s.heap m :=
 let ⟨m,hn,_⟩:=I.loc
 ⟨m,hn,I.bk,yaj I.ok.bsz I.ok.above⟩
theorem Inv.lt(I:Inv X pins σ H s):X.env.locals<s.heap.objs.size:=let ⟨_,hn,_⟩:=I.loc;hn.lt
theorem Inv.sz(I:Inv X pins σ H s):X.s₀.heap.objs.size<=s.heap.objs.size:=yaj I.ok.above (yd5 I.lt)
theorem Inv.nofs(I:Inv X pins σ H s){a:Addr}(h:s.heap.objs.size<=a):a∉X.fs:=λhb=>by
 obtain⟨_,o,ho,_⟩:=I.ok.funs.mem hb;exact absurd (yae (ya5 ho) (yaj I.sz h)) (yay _)
theorem Inv.cne(I:Inv X pins σ H s):∀x c,X.env.cells.lookup x=some c->c≠X.env.locals:=λx c e z=>by
 obtain⟨v,o,ho,hd⟩:=I.cell x c e;obtain⟨m,⟨o',es,ep,ho',hd',_⟩,_⟩:=I.loc
 grind
theorem Inv.funs(I:Inv X pins σ H s):s.heap.FunFrames X.base X.outer:=by
 have all:∀(l ),(∀b∈Bk l,b∈X.fs)->X.s₀.heap.FunFrames X.base l->s.heap.FunFrames X.base l:=by
  intro l
  induction l with
  |nil=>intro _ _;trivial
  |cons env r ih =>
   intro hs hl;obtain⟨hk,⟨L,o,hf,hn,ho,hd⟩,hr⟩:=hl;have hL :=hs L (by unfold Bk;grind)
   obtain⟨sl,e⟩:=I.base.slot L o ho (I.ok.frf L hL) hL λz=>I.ok.exfs L z hL
   exact⟨hk,⟨L,_,hf,hn,e,hd⟩,ih (λb hb=>hs b (by unfold Bk;rw[List.filterMap_cons,hf];exact ya6 _ hb)) hr⟩
 exact all X.outer (λ_ hb=>hb) I.ok.funs
theorem Inv.stack(I:Inv X pins σ H s):s.heap.FunFrames X.base X.stack:=by
 rcases I.ok.stk with e|⟨e,hf⟩
 .rw[e];exact I.funs
 .rw[e];obtain⟨m,hn,_⟩:=I.loc;refine .cons (by rw[I.ok.kind];decide) hf hn ?_ I.funs
  exact Heap.get?_none_of_le (yaj I.ok.bsz I.ok.above)
theorem Inv.stkSub(I:Inv X pins σ H s):∀b∈Bk X.stack,b∈X.env.locals::X.fs:=λb hb=>by
 rcases I.ok.stk with e|⟨e,hf⟩
 .grind
 .rw[e]at hb;unfold Bk at hb;rw[List.filterMap_cons,hf]at hb;exact hb
theorem Inv.stkFree(I:Inv X pins σ H s):∀b∈Bk X.stack,H b=none:=λb hb=>by
 rcases yaf.mp (I.stkSub b hb) with e|hb
 .rw[e];exact I.free
 .obtain⟨_,o,ho,_⟩:=I.ok.funs.mem hb;exact I.base.free b o ho (I.ok.frf b hb) λz=>I.ok.exfs b z hb
theorem Inv.step  {t':Nat}{d':Drawn}{ch:List Addr}(I:Inv X pins σ H s)
  (hch:∀b∈ch,(b∈X.ex\/X.s₀.heap.objs.size<=b)/\b≠X.env.locals/\(∀x c,X.env.cells.lookup x=some c->c≠b)/\∀p∈X.pn++pins,p.1≠b)
  (keep:∀b o,b≠X.env.locals->b∉X.fs->b∉ch->s.heap.get? b=some o->H b=none->h'.get? b=some o)
  (slot:∀b o,b≠X.env.locals->b∈X.fs->b∉ch->s.heap.get? b=some o->H b=none->∃sl,h'.get? b=some { o with slots:=sl }) (free:∀b o,b∉ch->s.heap.get? b=some o->H b=none->H' b=none)
  (there:∀b o,b∉ch->s.heap.get? b=some o->∃o',h'.get? b=some o')
  (tups:∀b xs,H b=some (.tup xs)->H' b=some (.tup xs)) (frzs:∀b o u,H b=some (.frz o u)->H' b=some (.frz o u)) (tbls:∀b ps,H b=some (.tbl ps)->∃more,H' b=some (.tbl (ps++more)))
  (ns:∀m,s.heap.Ns X.env.locals m->h'.Ns X.env.locals m) (hok:HOk X.prog X.w H' h') (hg:AllBare g') :
  Inv X pins σ H' { s with heap:=h',gens:=g',drawn:=d',toks:=t' }:=by
 have neL:∀b o,X.s₀.heap.get? b=some o->b≠X.env.locals:=λb o e=>yah (yae (ya5 e) I.ok.above)
 have neC:∀b o,X.s₀.heap.get? b=some o->b∉X.ex->b∉ch:=λb o e hx hb=>by
  rcases(hch b hb).1 with z|z
  .exact hx z
  .exact absurd (yae (ya5 e) z) (yay _)
 have cellK:∀x c,X.env.cells.lookup x=some c->∀v,s.heap.IsCell c v->h'.IsCell c v:=λx c e v ⟨o,ho,hd⟩=>by
  have nch :=λz=>(hch c z).2.2.1 x c e rfl
  by_cases hc:c∈X.fs
  .obtain⟨sl,q⟩:=slot c o (I.cne x c e) hc nch ho (I.freeC x c e);exact⟨_,q,hd⟩
  .exact⟨o,keep c o (I.cne x c e) hc nch ho (I.freeC x c e),hd⟩
 refine⟨I.ok,I.os,hg,⟨λb o e n hb hx=>?_,λb o e n hb hx=>?_,λb o e n hx=>?_,λb o e hx=>?_,λb xs e=>tups b xs (I.base.tups b xs e),λb o xs e=>frzs b o xs (I.base.frzs b o xs e),λb ps e=>?_⟩,?_,λx c e=>?_,?_,λx c e=>?_,λp hp=>?_,hok,I.len⟩
 .exact keep b o (neL b o e) hb (neC b o e hx) (I.base.keep b o e n hb hx) (I.base.free b o e n hx)
 .obtain⟨sl,e1⟩:=I.base.slot b o e n hb hx;obtain⟨sl',e2⟩:=slot b _ (neL b o e) hb (neC b o e hx) e1 (I.base.free b o e n hx);exact⟨sl',e2⟩
 .obtain⟨o',e1⟩:=I.base.there b o e hx;exact free b o' (neC b o e hx) e1 (I.base.free b o e n hx)
 .obtain⟨o',e1⟩:=I.base.there b o e hx;exact there b o' (neC b o e hx) e1
 .obtain⟨m1,e1⟩:=I.base.tbls b ps e;obtain⟨m2,e2⟩:=tbls b _ e1;exact⟨m1++m2,by rw[e2,Array.append_assoc]⟩
 .obtain⟨m,hn,hl⟩:=I.loc;refine⟨m,ns m hn,λi x v e1 e2 e3=>?_⟩
  obtain⟨u,r,l⟩:=hl i x v e1 e2 e3;refine⟨u,r,?_⟩
  rcases l with l|⟨k,c,e,z⟩
  .exact .inl l
  .exact .inr ⟨k,c,e,cellK x c e _ z⟩
 .obtain⟨v,z⟩:=I.cell x c e;exact⟨v,cellK x c e v z⟩
 .obtain⟨m,⟨o,_,_,ho,_⟩,_⟩:=I.loc;exact free _ o (λz=>(hch _ z).2.1 rfl) ho I.free
 .obtain⟨v,o,ho,hd⟩:=I.cell x c e;exact free c o (λz=>(hch c z).2.2.1 x c e rfl) ho (I.freeC x c e)
 .obtain⟨e,n,ne,nf,d⟩:=I.pin p hp;have nch :=λz=>(hch p.1 z).2.2.2 p hp rfl
  exact⟨keep p.1 p.2 ne nf nch e n,free p.1 p.2 nch e n,ne,nf,d⟩
theorem Inv.un  (I:Inv X pins σ H s)(u:Un X.fs [] H H' s.heap h')(hok:HOk X.prog X.w H' h'):Inv X pins σ H' { s with heap:=h',toks:=t' }:=by
 obtain⟨m,⟨o,es,ep,ho,r⟩,_⟩:=id I.loc;obtain⟨sl,hL⟩:=u.any ho I.free (by simp)
 exact I.step (ch:=[]) (λ_ z=>nomatch z) (λb o _ hb _ e n=>u.keep b o e n hb (by simp)) (λb o _ hb _ e n=>u.slot b o e n hb (by simp)) (λb o _ e n=>u.free b o e n (by simp)) (λb o _ e=>u.there b o e (by simp)) u.tups u.frzs u.tbls (λm' hm=>by
  obtain⟨o',es',ep',ho',r'⟩:=hm;rw[ho]at ho';cases ho';exact⟨_,es',ep',hL,r'⟩) hok I.bare
theorem Inv.call     (I:Inv X pins σ H s)(u:Un (Bk X.stack) ch H H' s.heap h')(hok:HOk X.prog X.w H' h')(hg:AllBare g')
  (hch:∀b∈ch,(b∈X.ex\/X.s₀.heap.objs.size<=b)/\b≠X.env.locals/\(∀x c,X.env.cells.lookup x=some c->c≠b)/\∀p∈X.pn++pins,p.1≠b) :
  Inv X pins σ H' { s with heap:=h',gens:=g',drawn:=d',toks:=t' }:=by
 obtain⟨m,⟨o,es,ep,ho,r⟩,_⟩:=id I.loc;obtain⟨sl,hL⟩:=u.any ho I.free λz=>(hch _ z).2.1 rfl
 exact I.step hch (λb o hL hb hc e n=>u.keep b o e n (λz=>(yaf.mp (I.stkSub b z)).elim hL hb) hc) (λb o _ _ hc e n=>u.any e n hc) (λb o hc e n=>u.free b o e n hc) (λb o hc e=>u.there b o e hc) u.tups u.frzs u.tbls (λm' hm=>by
  obtain⟨o',es',ep',ho',r'⟩:=hm;rw[ho]at ho';cases ho';exact⟨_,es',ep',hL,r'⟩) hok hg
theorem Inv.turned   (I:Inv X pins σ H s)(k:∀b o,b≠it->s.heap.get? b=some o->h'.get? b=some o)(hn:H it=none)(hL:it≠X.env.locals)
  (h1:it∈X.ex\/X.s₀.heap.objs.size<=it) (h2:∀x c,X.env.cells.lookup x=some c->c≠it) (h3:∀p∈X.pn++pins,p.1≠it):Inv X pins σ H { s with heap:=h',toks:=t' }:=by
 refine I.step (ch:=[it]) (λb hb=>?_) (λb o _ _ hc e _=>k b o (λz=>hc (by simp[z])) e) (λb o _ _ hc e _=>⟨o.slots,k b o (λz=>hc (by simp[z])) e⟩) (λ_ _ _ _ n=>n)
  (λb o hc e=>⟨o,k b o (λz=>hc (by simp[z])) e⟩) (λ_ _ e=>e) (λ_ _ _ e=>e) (λb ps e=>⟨#[],by rw[e];simp⟩) (λm hm=>?_) (λb u e=>?_) I.bare
 .grind
 .obtain⟨o,es,ep,ho,r⟩:=hm;exact⟨o,es,ep,k _ o (yao hL) ho,r⟩
 .refine(I.hok b u e).stay (λc v hc q=>k c v ?_ q) (λ_ q=>q) λ_ _ q=>q
  grind
theorem Inv.tok(I:Inv X pins σ H s)(t):Inv X pins σ H { s with toks:=t}:=I.un Un.refl I.hok
theorem Inv.kept  (I:Inv X pins σ H s)(k:∀b u,s.heap.get? b=some u->h'.get? b=some u):Inv X pins σ H { s with heap:=h',toks:=t' }:=I.un (Un.kept k) (I.hok.kept k)
theorem Inv.laid{a:Addr}   (I:Inv X pins σ H s)(k:∀b u,s.heap.get? b=some u->h'.get? b=some u)(hp:s.heap.objs.size<=a)(new:Ct X.prog X.w (upd H a o) h' a o) :
  Inv X pins σ (upd H a o) { s with heap:=h',toks:=t' }:=I.un (Un.laid k hp (I.hok.fresh hp)) (I.hok.laid k hp new)
theorem Inv.write    (I:Inv X pins σ H s)(mu:K3 (H x))(he:e=x\/H e=some (.own x))(k:∀b u,b≠e->s.heap.get? b=some u->h'.get? b=some u)(heo:∃u,h'.get? e=some u)
  (new:Ct X.prog X.w (upd H x o) h' x o):Inv X pins σ (upd H x o) { s with heap:=h',toks:=t' }:=I.un (Un.write mu he k heo) (I.hok.write mu he k heo new)
theorem Inv.weak  (I:Inv X pins σ H s)(hl:σ'.length=σ.length)(w:∀(i:Nat) v,σ'[i]?=some (some v)->σ[i]?=some (some v)):Inv X pins σ' H s :=
 ⟨I.ok,I.os,I.bare,I.base,let ⟨m,hn,hl'⟩:=I.loc;⟨m,hn,λi x v e1 e2 e3=>hl' i x v e1 (w i v e2) e3⟩,I.cell,I.free,I.freeC,I.pin,I.hok,hl.trans I.len⟩
theorem Inv.pins_of(I:Inv X pins σ H s)(h:∀p∈pins',s.heap.get? p.1=some p.2/\H p.1=none/\p.1≠X.env.locals/\p.1∉X.fs/\∀v,p.2.data≠.cell v):Inv X pins' σ H s :=
 ⟨I.ok,I.os,I.bare,I.base,I.loc,I.cell,I.free,I.freeC,λp hp=>(yar.mp hp).elim (λz=>I.pin p (ybp _ z)) (h p),I.hok,I.len⟩
theorem Xo{N:List Str}(hN:N.Nodup){i j:Nat}(a:N[i]?=some x)(b:N[j]?=some x):i=j:=by
 obtain⟨h1,e1⟩:=ya2.mp a;obtain⟨h2,e2⟩:=ya2.mp b;exact(yb5 hN).mp (e1.trans e2.symm)
theorem Tn         (I:Inv X pins σ H s)(hN:X.N.Nodup)(hi:X.N[i]?=some x)(hx:Gi X.env.scope x)(r:Af v u)
  (h:∀s',Inv X pins (σ.set i (some v)) H s'->(∃a,Heap.SameBut a s.heap s'.heap/\(a=X.env.locals\/X.env.cells.lookup x=some a))->Q () s') (hf:X.fn x=true\/X.env.scope.names.lookup x=some .local:=by first|exact .inl rfl|exact .inr rfl|assumption):wpAny M A (storeName X.env x u) Q E s:=by
 obtain⟨m,hn,hl⟩:=id I.loc;have hcls:(X.env.scope.kind == .class || (X.env.scope.kind == .module && X.env.locals != X.env.globals))=false:=by rw[I.ok.kind];rfl
 have hiσ:i<σ.length:=by rw[I.len];exact(ya2.mp hi).1
 have cne:=I.cne
 have tracked:∀{a } {h' },(∃o,s.heap.get? a=some o/\H a=none)->Heap.SameBut a s.heap h'->HOk X.prog X.w H h':=fun  ha hs b ob e=>by
  obtain⟨_,_,hfree⟩:=ha;refine(I.hok b ob e).stay (λc w' hc q=>(hs.2 c ?_).trans q) (λ_ q=>q) λ_ _ q=>q
  rintro rfl
  rcases hc with rfl|hc
  .rw[hfree]at e;cases e
  .rw[hfree]at hc;cases hc
 rcases hx with hk|hk
 .refine wpAny_storeName_local hk hn (λh' hn' hs=>?_) hcls
  obtain⟨oL,_,_,hoL,_⟩:=id hn;refine h _ ⟨I.ok,I.os,I.bare,⟨λb o e n hb hx=>?_,λb o e n hb hx=>?_,I.base.free,λb o e hx=>?_,I.base.tups,I.base.frzs,I.base.tbls⟩,⟨_,hn',λj y v' e1 e2 e3=>?_⟩,λy c e=>?_,I.free,I.freeC,λp hp=>?_,tracked ⟨oL,hoL,I.free⟩ hs,by simpa using I.len⟩ ⟨_,hs,.inl rfl⟩
  .exact(hs.2 b (yah (yae (ya5 e) I.ok.above))).trans (I.base.keep b o e n hb hx)
  .obtain⟨sl,e1⟩:=I.base.slot b o e n hb hx;exact⟨sl,(hs.2 b (yah (yae (ya5 e) I.ok.above))).trans e1⟩
  .obtain⟨o',e1⟩:=I.base.there b o e hx;exact⟨o',(hs.2 b (yah (yae (ya5 e) I.ok.above))).trans e1⟩
  .by_cases hj:j=i
   .subst hj;rw[hi]at e1;cases e1;rw[yam hiσ]at e2;cases e2;exact⟨u,r,.inl ⟨hk,by simp⟩⟩
   .rw[yak (yao hj)]at e2;obtain⟨u',r',q⟩:=hl j y v' e1 e2 e3;refine⟨u',r',?_⟩
    rcases q with ⟨k,e⟩|⟨k,c,e,z⟩
    .refine .inl ⟨k,?_⟩;have:y≠x:=λe=>hj (Xo hN e1 (e▸hi))
     simp[this,e]
    .exact .inr ⟨k,c,e,z.sameBut hs (cne y c e)⟩
  .obtain⟨w',z⟩:=I.cell y c e;exact⟨w',z.sameBut hs (cne y c e)⟩
  .obtain⟨e,n,ne,nf,d⟩:=I.pin p hp;exact⟨(hs.2 p.1 ne).trans e,n,ne,nf,d⟩
 .have hfn:X.fn x=true:=by
   rcases hf with z|z
   .exact z
   .rw[z]at hk;cases hk
  obtain⟨c,hc⟩:=I.ok.has x (.inl hk);obtain⟨w',z⟩:=I.cell x c hc;refine wpAny_storeName_cell I.ok.kind hk hc z (λh' hc' hs=>?_)
  obtain⟨oc,hoc,hocd⟩:=id z;refine h { s with heap:=h' } ⟨I.ok,I.os,I.bare,⟨λb o e n hb hx=>?_,λb o e n hb hx=>?_,I.base.free,λb o e hx=>?_,I.base.tups,I.base.frzs,I.base.tbls⟩,⟨m,hn.sameBut hs (yao (cne x c hc)),λj y v' e1 e2 e3=>?_⟩,λy c' e=>?_,I.free,I.freeC,λp hp=>?_,tracked ⟨oc,hoc,I.freeC x c hc⟩ hs,by simpa using I.len⟩ ⟨c,hs,.inr hc⟩
  .exact(hs.2 b (yah (yae (ya5 e) (I.ok.cab x c hfn hc)))).trans (I.base.keep b o e n hb hx)
  .obtain⟨sl,e1⟩:=I.base.slot b o e n hb hx;exact⟨sl,(hs.2 b (yah (yae (ya5 e) (I.ok.cab x c hfn hc)))).trans e1⟩
  .obtain⟨o',e1⟩:=I.base.there b o e hx;exact⟨o',(hs.2 b (yah (yae (ya5 e) (I.ok.cab x c hfn hc)))).trans e1⟩
  .by_cases hj:j=i
   .subst hj;rw[hi]at e1;cases e1;rw[yam hiσ]at e2;cases e2;exact⟨u,r,.inr ⟨.inl hk,c,hc,hc'⟩⟩
   .rw[yak (yao hj)]at e2;obtain⟨u',r',q⟩:=hl j y v' e1 e2 e3;refine⟨u',r',?_⟩
    rcases q with q|⟨k,c',e,z'⟩
    .exact .inl q
    .refine .inr ⟨k,c',e,z'.sameBut hs ?_⟩;rintro rfl;exact hj (Xo hN e1 (I.ok.inj _ _ _ e hc▸hi))
  .by_cases hcc:c'=c
   .subst hcc;exact⟨_,hc'⟩
   .obtain⟨w2,z2⟩:=I.cell y c' e;exact⟨w2,z2.sameBut hs hcc⟩
  .obtain⟨e,n,ne,nf,d⟩:=I.pin p hp;refine⟨(hs.2 p.1 ?_).trans e,n,ne,nf,d⟩;intro q;rw[q,hoc]at e;have q' :=yal e;exact d w' (by rw[<- q'];exact hocd)
theorem To(I:Inv X pins σ H s)(hN:X.N.Nodup)(hi:X.N[i]?=some x)(hx:Gi X.env.scope x)(r:Af v u)
  (h:∀s',Inv X pins (σ.set i (some v)) H s'->Q () s') (hf:X.fn x=true\/X.env.scope.names.lookup x=some .local:=by rfl):wpAny M A (storeName X.env x u) Q E s :=
 Tn I hN hi hx r (λs' I' _=>h s' I') hf
theorem Inv.call'   (I:Inv X pins σ H s)(ho:s'.os=s.os)(u:Un (Bk X.stack) ch H H' s.heap s'.heap)(hok:HOk X.prog X.w H' s'.heap)(hg:AllBare s'.gens)
  (hch:∀b∈ch,(b∈X.ex\/X.s₀.heap.objs.size<=b)/\b≠X.env.locals/\(∀x c,X.env.cells.lookup x=some c->c≠b)/\∀p∈X.pn++pins,p.1≠b):Inv X pins σ H' s':=by
 obtain⟨h',g',d',t',o'⟩:=s';have e :=ho;subst e;exact I.call u hok hg hch
end
abbrev XK:=Value->Option Addr->Hp->Prop
abbrev St:=List (Option V)
abbrev VK:=V->Hp->Prop
abbrev TE:=St->Hp->VK->Prop
abbrev TT:=St->Hp->(Bool->Hp->Prop)->Prop
abbrev TA:=St->Hp->(List V->Hp->Prop)->Prop
structure Ends where
 nx:St->Hp->Prop
 rt:VK
 bk:St->Hp->Prop:=λ_ _=>False
 ct:St->Hp->Prop:=λ_ _=>False
abbrev TS:=Ends->St->Hp->Prop
def EP(X:Cx)(pins:List (Addr×Obj))(σ:St)(Q:VK)(u:Value)(s':Shared):Prop:=∃v H',Inv X pins σ H' s'/\Af v u/\Q v H'
def TP(X:Cx)(pins:List (Addr×Obj))(σ:St)(Q:Bool->Hp->Prop)(b:Bool)(s':Shared):Prop:=∃H',Inv X pins σ H' s'/\Q b H'
def AP(X:Cx)(pins:List (Addr×Obj))(σ:St)(Q:List V->Hp->Prop)(us:List Value)(s':Shared):Prop:=∃vs H',Inv X pins σ H' s'/\Ad vs us/\Q vs H'
def SP(X:Cx)(pins:List (Addr×Obj))(D:Ends)(f:Flow)(s':Shared):Prop :=
 match f with
 |.next=>∃σ' H',Inv X pins σ' H' s'/\D.nx σ' H'
 |.brk=>∃σ' H',Inv X pins σ' H' s'/\D.bk σ' H'
 |.cont=>∃σ' H',Inv X pins σ' H' s'/\D.ct σ' H'
 |.ret u=>∃v σ' H',Inv X pins σ' H' s'/\Af v u/\D.rt v H'
def PE(X:Cx)(e:Expr)(t:TE):Prop :=
 ∀(pins:List (Addr×Obj)) (s:Shared) (σ:St) (H:Hp) (Q:VK),Inv X pins σ H s->t σ H Q->wpAny (model X.prog X.w) X.A (eval e X.env) (EP X pins σ Q) X.xe s
def PT(X:Cx)(e:Expr)(t:TT):Prop :=
 ∀(pins:List (Addr×Obj)) (s:Shared) (σ:St) (H:Hp) (Q:Bool->Hp->Prop),Inv X pins σ H s->t σ H Q->wpAny (model X.prog X.w) X.A (isTrue e X.env (eval e X.env)) (TP X pins σ Q) X.xe s
def PW(X:Cx)(e:Expr)(t:TT):Prop :=
 ∀(whole:Sem Value) (pins:List (Addr×Obj)) (s:Shared) (σ:St) (H:Hp) (Q:Bool->Hp->Prop),Inv X pins σ H s->t σ H Q->wpAny (model X.prog X.w) X.A (isTrue e X.env whole) (TP X pins σ Q) X.xe s
theorem PW.pt{X:Cx}{e:Expr}{t:TT}(h:PW X e t):PT X e t:=h _
def PA(X:Cx)(es:List Expr)(t:TA):Prop :=
 ∀(pos:Pos) (pins:List (Addr×Obj)) (s:Shared) (σ:St) (H:Hp) (Q:List V->Hp->Prop),Inv X pins σ H s->t σ H Q->wpAny (model X.prog X.w) X.A (spliced (backTo pos (starEach es X.env))) (AP X pins σ Q) X.xe s
def PS(X:Cx)(st:Stmt)(t:TS):Prop :=
 ∀(pins:List (Addr×Obj)) (s:Shared) (σ:St) (H:Hp) (D:Ends),Inv X pins σ H s->t D σ H->wpAny (model X.prog X.w) X.A (exec st X.env) (SP X pins D) X.xe s
def Be(X:Cx)(st:List Stmt)(t:TS):Prop :=
 ∀(pins:List (Addr×Obj)) (s:Shared) (σ:St) (H:Hp) (D:Ends),Inv X pins σ H s->t D σ H->wpAny (model X.prog X.w) X.A (execs st X.env) (SP X pins D) X.xe s
theorem A6  {t:Sem α}      (h:wpAny M A t Q E s)(hQ:∀a s,Q a s->Q' a s):wpAny M A t Q' E s:=ydm h hQ λ_ _ x=>x
section
variable {X:Cx}
def Na(i:Nat):TE:=λσ H Q=>∃v,σ[i]?=some (some v)/\Q v H
def tC(v:V):TE:=λ_ H Q=>Q v H
theorem GW{pos}(hN:X.N[i]?=some x)(hv:DR X.env.scope x)(hd:(x == "__debug__")=false:=by decide)(hcd:(x == "__classdict__")=false:=by decide):PE X (.Name x pos) (Na i):=by
 intro pins s σ H Q I h;obtain⟨v,e,h⟩:=h;obtain⟨m,hn,hl⟩:=I.loc;obtain⟨u,r,l⟩:=hl i x v hN e hv;have BN:EP X pins σ Q u s:=⟨v,H,I,r,h⟩
 rcases l with ⟨hk,hm⟩|⟨hk,c,hc,hcell⟩
 .exact wpAny_Name (wpAny_loadName_local I.ok.kind hk hn hm BN) hd
 .rcases hk with hk|hk
  .exact wpAny_Name (wpAny_loadName_cell I.ok.kind hk hc hcell BN) hd
  .exact wpAny_Name (wpAny_loadName_free I.ok.kind hk hc hcell BN hcd) hd
theorem znb:PE X (.Constant (.int i) j pos) (tC (.int i)):=λ_ _ _ H _ I h=>wpAny_Constant_int ⟨.int i,H,I.tok _,⟨_,rfl⟩,h⟩
theorem pe_bl:PE X (.Constant (.bool b) j pos) (tC (.bl b)):=λ_ _ _ H _ I h=>Constant_bool ⟨.bl b,H,I,rfl,h⟩
theorem zn8:PE X (.Constant .none j pos) (tC .non):=λ_ _ _ H _ I h=>Constant_none ⟨.non,H,I,rfl,h⟩
theorem zn5:PE X (.Constant (.str x) j pos) (tC (.str x)):=λ_ _ _ H _ I h=>Calls.Constant_str ⟨.str x,H,I.tok _,⟨_,rfl⟩,h⟩
def Gl(X:Cx)(x:Str):Prop:=X.env.kindOf x=some .globalImplicit
theorem Jf{σ:St}(I:Inv X pins σ H s)(hg:Gl X x)(hm:X.mg x=some u)(h:Q u s)
  (hd:(x == "__debug__")=false:=by decide):wpAny (model X.prog X.w) X.A (eval (.Name x pos) X.env) Q E s :=
 Calls.Name_function_global I.ok.kind hg (Calls.loadGlobal_global (by rw[I.ok.glob];exact I.mod.glob.keeps I.bk) hm h) hd
theorem G3{E}{σ:St}{pos}(I:Inv X pins σ H s)(hg:Gl X x)(hm:X.mg x=none)(hv:bootBuiltins x=some u)(h:Q u s)
  (hn:x≠"__name__":=by decide) (hd:(x == "__debug__")=false:=by decide):wpAny (model X.prog X.w) X.A (eval (.Name x pos) X.env) Q E s:=by
 obtain⟨mb,h1,h2⟩:=I.mod.blt;exact Calls.Name_function_global I.ok.kind hg (Calls.loadGlobal_builtin (by rw[I.ok.glob];exact I.mod.glob.keeps I.bk) hm (by rw[I.ok.blt];exact h1.keeps I.bk) ((h2 x hn).trans hv) h) hd
theorem Vr     (hg:Gl X x)(hm:X.mg x=some u)(r:Af v u)(hd:(x == "__debug__")=false:=by decide):PE X (.Name x pos) (tC v) :=
 λ_ _ _ H _ I h=>Jf I hg hm ⟨v,H,I,r,h⟩ hd
theorem zk1{x:Str}{v:V}{u:Value}{pos:Pos}(hg:Gl X x)(hm:X.mg x=none)(hv:bootBuiltins x=some u)(r:Af v u)(hn:x≠"__name__":=by decide)(hd:(x == ("__debug__":Str))=false:=by decide):PE X (.Name x pos) (tC v) :=
 λ_ _ _ H _ I h=>G3 I hg hm hv ⟨v,H,I,r,h⟩ hn hd
variable {a b:Expr}{ta tb:TE}{pos:Pos}
def tB(t:TE):TT:=λσ H Q=>t σ H λx H1=>∃c,x=.bl c/\Q c H1
theorem zms   (h:PE X e t)(he:∀whole,isTrue e X.env whole=(do let v <- whole;standAt e.pos;holding [v] (truthy v)):=by rfl):PT X e (tB t):=by
 intro pins s σ H Q I hw;refine isTrue_plain (A6 (h pins s σ H _ I hw) λv s1 ⟨x,H1,I1,r1,q1⟩=>?_) (he _)
 obtain⟨d,rfl,q⟩:=q1;cases r1;exact ydn ⟨H1,I1,q⟩
variable {tA tB':TT}{BJ:List Expr}
def tAnd(t u:TT):TT:=λσ H Q=>t σ H λc H1=>if c=true then u σ H1 Q else Q false H1
def tOr(t u:TT):TT:=λσ H Q=>t σ H λc H1=>if c=true then Q true H1 else u σ H1 Q
def T5(t:TT):TT:=λσ H Q=>t σ H λc H1=>Q (!c) H1
theorem zjj(ha:PT X a tA):PW X (.BoolOp .And [a] pos) tA:=by
 intro wh pins s σ H Q I h;refine isTrue_and (A6 (ha pins s σ H Q I h) λc s1 e=>?_)
 cases c with
 |true=>exact isTrue_and_nil e
 |false=>exact e
theorem zmq(ha:PT X a tA):PW X (.BoolOp .Or [a] pos) tA:=by
 intro wh pins s σ H Q I h;refine isTrue_or (A6 (ha pins s σ H Q I h) λc s1 e=>?_)
 cases c with
 |false=>exact isTrue_or_nil e
 |true=>exact e
theorem zmr(ha:PT X a tA)(hb:PW X (.BoolOp .And (b::BJ) pos) tB'):PW X (.BoolOp .And (a::b::BJ) pos) (tAnd tA tB'):=by
 intro wh pins s σ H Q I h;refine isTrue_and (A6 (ha pins s σ H _ I h) λc s1 ⟨H1,I1,q1⟩=>?_)
 cases c with
 |true=>exact hb wh pins s1 σ H1 Q I1 q1
 |false=>exact⟨H1,I1,q1⟩
theorem pw_or(ha:PT X a tA)(hb:PW X (.BoolOp .Or (b::BJ) pos) tB'):PW X (.BoolOp .Or (a::b::BJ) pos) (tOr tA tB'):=by
 intro wh pins s σ H Q I h;refine isTrue_or (A6 (ha pins s σ H _ I h) λc s1 ⟨H1,I1,q1⟩=>?_)
 cases c with
 |true=>exact⟨H1,I1,q1⟩
 |false=>exact hb wh pins s1 σ H1 Q I1 q1
theorem zmt(ha:PT X a tA):PT X (.UnaryOp .Not a pos) (T5 tA):=by
 intro pins s σ H Q I h;exact isTrue_not (ha pins s σ H (λc H1=>Q (!c) H1) I h)
def tAndV(ta tb:TE):TE:=λσ H Q=>ta σ H λx H1=>∃c,x=.bl c/\if c=true then tb σ H1 Q else Q (.bl false) H1
def tOrV(ta tb:TE):TE:=λσ H Q=>ta σ H λx H1=>∃c,x=.bl c/\if c=true then Q (.bl true) H1 else tb σ H1 Q
def T4(ta:TE):TE:=λσ H Q=>ta σ H λx H1=>∃c,x=.bl c/\Q (.bl (!c)) H1
theorem zn6(h:PE X a t):PE X (.BoolOp op [a] pos) t:=λpins s σ H Q I hw=>BoolOp_one (h pins s σ H Q I hw)
theorem znc(ha:PE X a ta)(hb:PE X (.BoolOp .And (b::BJ) pos) tb):PE X (.BoolOp .And (a::b::BJ) pos) (tAndV ta tb):=by
 intro pins s σ H Q I h;refine BoolOp_and (A6 (ha pins s σ H _ I h) λv s1 ⟨x,H1,I1,r1,q1⟩=>?_)
 obtain⟨c,rfl,q1⟩:=q1;cases r1;refine ydn ?_;cases c with
 |true=>exact hb pins s1 σ H1 Q I1 q1
 |false=>exact⟨.bl false,H1,I1,rfl,q1⟩
theorem pe_or(ha:PE X a ta)(hb:PE X (.BoolOp .Or (b::BJ) pos) tb):PE X (.BoolOp .Or (a::b::BJ) pos) (tOrV ta tb):=by
 intro pins s σ H Q I h;refine BoolOp_or (A6 (ha pins s σ H _ I h) λv s1 ⟨x,H1,I1,r1,q1⟩=>?_)
 obtain⟨c,rfl,q1⟩:=q1;cases r1;refine ydn ?_;cases c with
 |false=>exact hb pins s1 σ H1 Q I1 q1
 |true=>exact⟨.bl true,H1,I1,rfl,q1⟩
theorem zn7(ha:PE X a ta):PE X (.UnaryOp .Not a pos) (T4 ta):=by
 intro pins s σ H Q I h;refine UnaryOp_ (A6 (ha pins s σ H _ I h) λv s1 ⟨x,H1,I1,r1,q1⟩=>?_)
 obtain⟨c,rfl,q1⟩:=q1;cases r1;exact not_of (ydn ⟨.bl (!c),H1,I1,rfl,q1⟩)
def tIf(t:TT)(ta tb:TE):TE:=λσ H Q=>t σ H λc H1=>if c=true then ta σ H1 Q else tb σ H1 Q
theorem zhg(hc:PT X c tA)(ha:PE X a ta)(hb:PE X b tb):PE X (.IfExp c a b pos) (tIf tA ta tb):=by
 intro pins s σ H Q I h;refine wpAny_IfExp (A6 (hc pins s σ H _ I h) λd s1 ⟨H1,I1,q1⟩=>?_)
 cases d with
 |true=>exact ha pins s1 σ H1 Q I1 q1
 |false=>exact hb pins s1 σ H1 Q I1 q1
end
def Al(K:k6)(H:Hp)(a:Addr)(xs:List V):Prop :=
 Rd H a (.lst xs) \/
  ∃(o:Obj) (its:Array Value) (n:Nat),K.lookup a=some o/\o.cls=.type "list"/\o.dict=none/\o.data=.seq its n/\its.size<=sizeLine/\Ad xs its.toList
def CJ(K:k6)(H:Hp)(a:Addr)(xs:List V):Prop :=
 Rd H a (.tup xs) \/
  ∃(o:Obj) (its:Array Value) (n:Nat),K.lookup a=some o/\o.cls=.type "tuple"/\o.data=.seq its n/\its.size<=sizeLine/\Ad xs its.toList
noncomputable def absV:Value->Option V
 |.none=>some .non
 |.bool b=>some (.bl b)
 |.int i _=>some (.int i)
 |.str x _=>some (.str x)
 |.bytes b _=>some (.byt b)
 |.float b _=>some (.flt b)
 |.ref a=>some (.ref a)
 |.type n=>some (.ty n)
 |_=>none
theorem Af.abs(r:Af x u):absV u=some x:=by
 cases x with
 |non=>cases r;rfl
 |bl _=>cases r;rfl
 |int _=>obtain⟨t,rfl⟩:=r;rfl
 |str _=>obtain⟨t,rfl⟩:=r;rfl
 |byt _=>obtain⟨t,rfl⟩:=r;rfl
 |flt _=>obtain⟨t,rfl⟩:=r;rfl
 |ref _=>cases r;rfl
 |ty _=>cases r;rfl
theorem Af.inj(r:Af x u)(q:Af y u):x=y:=yal (r.abs.symm.trans q.abs)
theorem Ad.inj:∀{xs ys} {us},Ad xs us->Ad ys us->xs=ys
 |_,_,_,.nil,.nil=>rfl
 |_,_,_,.cons r t,.cons r' t'=>by rw[r.inj r',Ad.inj t t']
section
variable {X:Cx}{pins:List (Addr×Obj)}{σ:St}{H:Hp}{s:Shared}{a:Addr}{xs ys:List V}
theorem Al.of{K:k6}(h:H a=some (.lst xs)):Al K H a xs:=.inl (.inl h)
theorem CJ.of{K:k6}(h:H a=some (.tup xs)):CJ K H a xs:=.inl (.inl h)
theorem Inv.list(I:Inv X pins σ H s)(h:Al X.K H a xs):∃its ,Ad xs its/\PlainL s.heap a its.toArray/\xs.length<=sizeLine:=by
 rcases h with h|⟨o,its,n,hk,hc,hd,hs,hz,r⟩
 .obtain⟨z,its,n,r,e⟩:=h.ok I.hok;exact⟨its,r,⟨_,n,e,rfl,rfl,rfl⟩,z⟩
 .refine⟨its.toList,r,⟨o,n,I.kIn a o hk,hc,hd,by omega⟩,?_⟩
  have e:=r.length
  grind
theorem Inv.tuple(I:Inv X pins σ H s)(h:CJ X.K H a xs):∃its ,Ad xs its/\IsTup s.heap a its.toArray/\xs.length<=sizeLine:=by
 rcases h with h|⟨o,its,n,hk,hc,hs,hz,r⟩
 .obtain⟨z,its,r,p⟩:=h.ok I.hok
  grind
 .refine⟨its.toList,r,⟨o,I.kIn a o hk,hc,n,by omega⟩,?_⟩
  have e:=r.length
  grind
theorem Inv.list_inj(I:Inv X pins σ H s)(h:Al X.K H a xs)(h':Al X.K H a ys):xs=ys:=by
 obtain⟨its,r,⟨o,n,e,_,_,d⟩,_⟩:=I.list h;obtain⟨its',r',⟨o',n',e',_,_,d'⟩,_⟩:=I.list h';have:its=its':=by grind
 subst this;exact r.inj r'
theorem Inv.tuple_inj(I:Inv X pins σ H s)(h:CJ X.K H a xs)(h':CJ X.K H a ys):xs=ys:=by
 obtain⟨its,r,⟨o,e,_,n,d⟩,_⟩:=I.tuple h;obtain⟨its',r',⟨o',e',_,n',d'⟩,_⟩:=I.tuple h';have:its=its':=by grind
 subst this;exact r.inj r'
end
noncomputable abbrev Cx.wish(X:Cx)(E:Value->Shared->Prop):Cx:={ X with xe:=E }
abbrev Cx.nox(X:Cx):Cx:=X.wish λ_ _=>False
theorem Cx.Ok.wish{X:Cx}(ok:X.Ok)(E):(X.wish E).Ok :=
 ⟨ok.mod,ok.kind,ok.glob,ok.blt,ok.above,ok.inj,ok.has,ok.cab,ok.hd,ok.frames,ok.stk,ok.exf,ok.bs,ok.bsz,ok.noex,ok.exfs,ok.funs,ok.frf⟩
theorem Cx.Ok.unwish{X:Cx}(ok:(X.wish E).Ok):X.Ok :=
 ⟨ok.mod,ok.kind,ok.glob,ok.blt,ok.above,ok.inj,ok.has,ok.cab,ok.hd,ok.frames,ok.stk,ok.exf,ok.bs,ok.bsz,ok.noex,ok.exfs,ok.funs,ok.frf⟩
section
variable {X:Cx}{pins:List (Addr×Obj)}{σ:St}{H:Hp}{s:Shared}{E:Value->Shared->Prop}
theorem Inv.wish(I:Inv X pins σ H s)(E):Inv (X.wish E) pins σ H s:=⟨I.ok.wish E,I.os,I.bare,I.base,I.loc,I.cell,I.free,I.freeC,I.pin,I.hok,I.len⟩
theorem Inv.unwish(I:Inv (X.wish E) pins σ H s):Inv X pins σ H s:=⟨I.ok.unwish,I.os,I.bare,I.base,I.loc,I.cell,I.free,I.freeC,I.pin,I.hok,I.len⟩
theorem SP.unwish(h:SP (X.wish E) pins D f s'):SP X pins D f s':=by
 cases f with
 |next=>obtain⟨σ',H',I,q⟩:=h;exact⟨σ',H',I.unwish,q⟩
 |brk=>obtain⟨σ',H',I,q⟩:=h;exact⟨σ',H',I.unwish,q⟩
 |cont=>obtain⟨σ',H',I,q⟩:=h;exact⟨σ',H',I.unwish,q⟩
 |ret u=>obtain⟨v,σ',H',I,r,q⟩:=h;exact⟨v,σ',H',I.unwish,r,q⟩
theorem PE.nox(h:PE X.nox e t):PE X e t:=λpins s σ H Q I hw =>
 ydm (h pins s σ H Q (I.wish _) hw) (λ_ _ ⟨v,H',I',r,q⟩=>⟨v,H',I'.unwish,r,q⟩) λ_ _ z=>False.elim z
theorem PT.nox(h:PT X.nox e t):PT X e t:=λpins s σ H Q I hw =>
 ydm (h pins s σ H Q (I.wish _) hw) (λ_ _ ⟨H',I',q⟩=>⟨H',I'.unwish,q⟩) λ_ _ z=>False.elim z
theorem Be.nox{st}(h:Be X.nox st t):Be X st t:=λpins s σ H D I hw =>
 ydm (h pins s σ H D (I.wish _) hw) (λ_ _ q=>q.unwish) λ_ _ z=>False.elim z
end
section
variable {X:Cx}{st:Stmt}{BJ:List Stmt}{t u:TS}{e:Expr}{te:TE}{pos:Pos}
def T7:TS:=λD σ H=>D.nx σ H
def TZ(t u:TS):TS:=λD σ H=>t { D with nx:=u D } σ H
theorem zjo:Be X [] T7:=λ_ _ σ H _ I h=>ydo ⟨σ,H,I,h⟩
theorem zhc(h1:PS X st t)(h2:Be X BJ u):Be X (st::BJ) (TZ t u):=by
 intro pins s σ H D I h;refine wpAny_execs_cons (A6 (h1 pins s σ H { D with nx:=u D } I h) λf s1 q=>?_)
 cases f with
 |next =>
  obtain⟨σ',H',I',q⟩:=q;exact h2 pins s1 σ' H' D I' q
 |ret v=>exact q
 |brk=>exact q
 |cont=>exact q
theorem zjn(h1:PS X st t):Be X [st] t:=by
 intro pins s σ H D I h;refine wpAny_execs_cons (A6 (h1 pins s σ H D I h) λf s1 q=>?_)
 cases f with
 |next=>exact ydo q
 |ret v=>exact q
 |brk=>exact q
 |cont=>exact q
theorem zjq:PS X (.Pass pos) T7:=λ_ _ σ H _ I h=>wpAny_Pass ⟨σ,H,I,h⟩
theorem Inv.quiet  {σ:St}   (I:Inv X pins σ H s):interactive X.env=false:=by simp[interactive,I.ok.kind]
def tDrop(te:TE):TS:=λD σ H=>te σ H λ_ H1=>D.nx σ H1
theorem OF(he:PE X e te)(hs:swapsWith e none pos.line X.env=pure false:=by rfl):PS X (.Expr e pos) (tDrop te):=by
 intro pins s σ H D I h;exact wpAny_Expr_any (A6 (he pins s σ H _ I h) λv s1 ⟨x,H1,I1,r1,q1⟩=>⟨σ,H1,I1,q1⟩) I.quiet hs
def tRet(te:TE):TS:=λD σ H=>te σ H D.rt
theorem zmv(he:PE X e te):PS X (.Return (some e) pos) (tRet te):=by
 intro pins s σ H D I h;exact wpAny_Return_some (A6 (he pins s σ H _ I h) λv s1 ⟨x,H1,I1,r1,q1⟩=>⟨x,σ,H1,I1,r1,q1⟩)
def tRetN:TS:=λD _ H=>D.rt .non H
theorem zjp:PS X (.Return none pos) tRetN:=λ_ _ σ H _ I h=>wpAny_Return_none ⟨.non,σ,H,I,rfl,h⟩
def tIfS(c:TT)(t u:TS):TS:=λD σ H=>c σ H λb H1=>if b=true then t D σ H1 else u D σ H1
theorem ps_if(hc:PT X c tc)(ha:Be X a t)(hb:Be X b u):PS X (.If c a b pos) (tIfS tc t u):=by
 intro pins s σ H D I h;refine wpAny_If (A6 (hc pins s σ H _ I h) λd s1 ⟨H1,I1,q1⟩=>?_)
 cases d with
 |true=>exact ha pins s1 σ H1 D I1 q1
 |false=>exact hb pins s1 σ H1 D I1 q1
end
abbrev TG:=V->St->Hp->(St->Hp->Prop)->Prop
abbrev Io:=List V->St->Hp->(St->Hp->Prop)->Prop
def PG(X:Cx)(target:Expr)(t:TG):Prop :=
 ∀(pins:List (Addr×Obj)) (s:Shared) (σ:St) (H:Hp) (v:V) (u:Value) (Q:St->Hp->Prop),Inv X pins σ H s->Af v u->t v σ H Q ->
  wpAny (model X.prog X.w) X.A (assign target X.env u) (λ_ s'=>∃σ' H',Inv X pins σ' H' s'/\Q σ' H') X.xe s
def Dx(X:Cx)(ts:List Expr)(t:Io):Prop :=
 ∀(pins:List (Addr×Obj)) (s:Shared) (σ:St) (H:Hp) (vs:List V) (us:List Value) (Q:St->Hp->Prop),Inv X pins σ H s->Ad vs us->t vs σ H Q ->
  wpAny (model X.prog X.w) X.A (assignInOrder ((assignEach ts X.env).map (·.2)) us) (λ_ s'=>∃σ' H',Inv X pins σ' H' s'/\Q σ' H') X.xe s
abbrev SI:=V->V->V->Hp->(Hp->Prop)->Prop
def SW(X:Cx)(t:SI):Prop :=
 ∀(pins:List (Addr×Obj)) (s:Shared) (σ:St) (H:Hp) (o i v:V) (ov iv u:Value) (Q:Hp->Prop),Inv X pins σ H s->Af o ov->Af i iv->Af v u->t o i v H Q ->
  wpAny (model X.prog X.w) X.A (setItem ov iv u) (λ_ s'=>∃H',Inv X pins σ H' s'/\Q H') X.xe s
section
variable {X:Cx}{pos:Pos}
def Jq(i:Nat):TG:=λv σ H Q=>Q (σ.set i (some v)) H
theorem zjx{i:Nat}{x:Str}(hN:X.N.Nodup)(hi:X.N[i]?=some x)(hx:Gi X.env.scope x)(hf:X.fn x=true\/X.env.scope.names.lookup x=some .local:=by rfl):PG X (.Name x pos) (Jq i):=by
 intro pins s σ H v u Q I r h;exact wpAny_assign_Name (To I hN hi hx r (λs' I'=>⟨_,H,I',h⟩) hf)
def gNil:Io:=λvs σ H Q=>vs=[]/\Q σ H
def gCons(t:TG)(u:Io):Io:=λvs σ H Q=>∃v r,vs=v::r/\t v σ H λσ' H'=>u r σ' H' Q
theorem zjw:Dx X [] gNil:=by
 intro pins s σ H vs us Q I r h;obtain⟨e,h⟩:=h;exact assignInOrder_nil ⟨σ,H,I,h⟩
theorem zhf(h1:PG X e t)(h2:Dx X es u)
  (hs:(assignEach (e::es) X.env).map (·.2)=assign e X.env::(assignEach es X.env).map (·.2):=by rfl):Dx X (e::es) (gCons t u):=by
 intro pins s σ H vs us Q I r h;obtain⟨v,vr,e1,h⟩:=h;subst e1;cases r with
 |cons r rr =>
  rw[hs];refine assignInOrder_cons (A6 (h1 pins s σ H _ _ _ I r h) λ_ s1 ⟨σ1,H1,I1,q1⟩=>?_)
  exact h2 pins s1 σ1 H1 _ _ Q I1 rr q1
def QV(K:k6)(n:Nat)(t:Io):TG:=λv σ H Q=>∃a xs,v=.ref a/\CJ K H a xs/\xs.length=n/\t xs σ H Q
theorem zn2{k}(hc:X.calm=true)(h:Dx X es t)
  (hn:(assignEach es X.env).length=n:=by rfl) (hst:(assignEach es X.env).findIdx? (·.1)=none:=by rfl):PG X (.Tuple es k pos) (QV X.K n t):=by
 intro pins s σ H v u Q I r hw;obtain⟨a,xs,e1,hq,hl,hw⟩:=hw;subst e1;cases r;obtain⟨its,rv,ht,hz⟩:=I.tuple hq;refine assign_Tuple_tuple (I.ok.hd hc) ht (by simp[hn,<- hl,rv.length]) hst λh' hx=>?_
 have I1 :=I.kept (t':=s.toks) λb o e=>hx b o (yah (ya5 e)) e
 exact h pins _ σ H xs _ Q I1 (by omega) hw
def gSub(to ti:TE)(t:SI):TG:=λv σ H Q=>to σ H λo H1=>ti σ H1 λi H2=>t o i v H2 λH3=>Q σ H3
theorem OJ(ho:PE X o to)(hi:PE X i ti)(hs:SW X t)
  (ha : ∀ v, assign (.Subscript o i pos) X.env v = (do
   let ov <- holding [v] (eval o X.env);let iv <- holding [v,ov] (eval i X.env)
   standAt pos
   holding [v,ov,iv] (setItem ov iv v)
   release [v,ov,iv] []):=by rfl):PG X (.Subscript o i pos) (gSub to ti t):=by
 intro pins s σ H v u Q I r h;refine ydp (ydq (A6 (ho pins s σ H _ I h) λov s1 ⟨x,H1,I1,r1,q1⟩=>?_))
 refine ydp (ydq (A6 (hi pins s1 σ H1 _ I1 q1) λiv s2 ⟨y,H2,I2,r2,q2⟩=>?_))
 refine ydp (ydr (ydp (ydq (A6 (hs pins s2 σ H2 x y v ov iv u _ I2 r1 r2 r q2) λ_ s3 ⟨H3,I3,q3⟩=>?_))))
 exact wpAny_release ⟨σ,H3,I3,q3⟩
def Kw(te:TE)(g:TG):TS:=λD σ H=>te σ H λx H1=>g x σ H1 D.nx
theorem LP{tg e:Expr}{te:TE}{g:TG}(he:PE X e te)(hg:PG X tg g)(hs:swapsWithSole [tg] e pos.line X.env=pure false:=by rfl)(hw:swappedStores [tg] e X.env=pure none:=by rfl)
  (h1:(assignEach [tg] X.env).map (·.2)=[assign tg X.env]:=by rfl):PS X (.Assign [tg] e pos) (Kw te g):=by
 intro pins s σ H D I h;refine wpAny_Assign_stores (A6 (he pins s σ H _ I h) λv s1 ⟨x,H1,I1,r1,q1⟩=>?_) hs hw
 rw[h1];exact A6 (hg pins s1 σ H1 x v _ I1 r1 q1) λ_ s2 q=>q
theorem Vm      (hN:X.N.Nodup)(hi:X.N[i]?=some x)(hx:Gi X.env.scope x)(he:PE X e te)(hs:swapsWith e (some (.Name x pos')) pos.line X.env=pure false:=by rfl)(hf:X.fn x=true\/X.env.scope.names.lookup x=some .local:=by rfl) :
  PS X (.Assign [.Name x pos'] e pos) (Kw te (Jq i)):=by
 intro pins s σ H D I h;refine wpAny_Assign_Name (A6 (he pins s σ H _ I h) λv s1 ⟨y,H1,I1,r1,q1⟩=>?_) hs
 exact To I1 hN hi hx r1 (λs2 I2=>⟨_,H1,I2,q1⟩) hf
end
section
variable {X:Cx}{pos:Pos}
def zlr(c:TT)(tb:TS):TS:=λD σ H=>∃W:Nat->St->Hp->Prop,(∃m,W m σ H)/\∀m σ H,W m σ H ->
 c σ H λb H1=>if b=true then ∃N:St->Hp->Prop,(∀σ' H',N σ' H'->∃m',m'<m/\W m' σ' H')/\tb { D with nx:=N,ct:=N,bk:=D.nx } σ H1 else D.nx σ H1
theorem zhd(hp:PassesOwn (model X.prog X.w) X.A X.env X.xe)(hc:PT X c tc)(hb:Be X body tb):PS X (.While c body [] pos) (zlr tc tb):=by
 intro pins s σ H D I h;obtain⟨W,⟨m0,w0⟩,turn⟩:=h;refine wpAny_While (codeAny_whileLoop (λn s'=>∃σ' H',Inv X pins σ' H' s'/\W n σ' H') ?_ m0 ⟨σ,H,I,w0⟩)
 rintro n s1 ⟨σ1,H1,I1,w1⟩;refine yds hp (A6 (hc pins s1 σ1 H1 _ I1 (turn n σ1 H1 w1)) λb s2 ⟨H2,I2,q2⟩=>?_)
 cases b with
 |true =>
  obtain⟨N,hN,q2⟩:=q2;rw[if_pos rfl];refine yds hp (A6 (hb pins s2 σ1 H2 _ I2 q2) λf s3 q3=>?_)
  cases f with
  |next =>
   obtain⟨σ3,H3,I3,n3⟩:=q3
   grind
  |cont =>
   obtain⟨σ3,H3,I3,n3⟩:=q3
   grind
  |brk=>exact q3
  |ret v=>exact q3
 |false =>
  rw[if_neg ybl];exact ydo ⟨σ1,H2,I2,q2⟩
end
structure It where
 go:Nat->Hp->Prop
 yld:Nat->Hp->V->Hp->Prop
 stop:Nat->Hp->Prop
def Ce(X:Cx)(pins:List (Addr×Obj))(H:Hp)(b:Addr):Prop :=
 H b=none/\b≠X.env.locals/\b∉X.fs/\(b∈X.ex\/X.s₀.heap.objs.size<=b)/\(∀x c,X.env.cells.lookup x=some c->c≠b)/\∀p∈X.pn++pins,p.1≠b
theorem Inv.fpOk{X:Cx}{σ:St}{b:Addr}(I:Inv X pins σ H s)(hb:s.heap.objs.size<=b)(hn:H' b=none):Ce X pins H' b:=by
 refine⟨hn,Nat.ne_of_gt (yae I.lt hb),I.nofs hb,.inr (yaj I.sz hb),λx c e z=>?_,λp hp z=>?_⟩
 .obtain⟨v,q⟩:=I.cell x c e;exact absurd (yae q.lt (by grind)) (yay _)
 .exact absurd (yae (ya5 (I.pin p hp).1) (by grind)) (yay _)
structure Turn(P:Program)(w:World)(K:k6)(tg:Expr)(J:It)(fp:List Addr)(it:Addr)(tn:Nat->Heap->Prop):Prop where
 mem:it∈fp
 obj:∀i h,tn i h->∀b∈fp,∃o,h.get? b=some o/\∀v,o.data≠.cell v
 keep:∀i h h',tn i h->(∀b∈fp,∀o,h.get? b=some o->h'.get? b=some o)->tn i h'
 item:∀(X:Cx),X.prog=P->X.w=w->X.K=K->X.calm=true->∀(i:Nat) (pins:List (Addr×Obj)) (s:Shared) (σ:St) (H:Hp) (E:Value->Shared->Prop),Inv X pins σ H s->(∀b∈fp,Ce X pins H b)->tn i s.heap->J.go i H ->
  wpAny (model P w) X.A (pyNext (.ref it)) (λr s1=>∃u,r=some u /\
   wpAny (model P w) X.A (letOwnedTupleGo tg (.ref it) u) (λ_ s2=>∃x H',Inv X pins σ H' s2/\Af x u/\J.yld i H x H'/\tn (i+1) s2.heap/\∀b∈fp,H' b=none) E s1) E s
 done:∀(X:Cx),X.prog=P->X.w=w->X.K=K->X.calm=true->∀(i:Nat) (pins:List (Addr×Obj)) (s:Shared) (σ:St) (H:Hp) (E:Value->Shared->Prop),Inv X pins σ H s->(∀b∈fp,Ce X pins H b)->tn i s.heap->J.stop i H ->
  wpAny (model P w) X.A (pyNext (.ref it)) (λr s1=>r=none/\Inv X pins σ H s1) E s
 self:∀(A:Around) (i:Nat) (s:Shared) (Q:Value->Shared->Prop) (E:Value->Shared->Prop),tn i s.heap->Q (.ref it) s->wpAny (model P w) A (pyIter (.ref it)) Q E s
abbrev TI:=St->Hp->(It->Hp->Prop)->Prop
def bN(X:Cx)(pins:List (Addr×Obj))(σ:St)(tg:Expr)(R:It->Hp->Prop)(itv:Value)(s2:Shared):Prop :=
 ∃(it:Addr) (fp:List Addr) (tn:Nat->Heap->Prop) (J:It) (H':Hp),itv=.ref it/\Inv X pins σ H' s2/\Turn X.prog X.w X.K tg J fp it tn/\tn 0 s2.heap/\(∀b∈fp,Ce X pins H' b)/\R J H'
def PI(X:Cx)(tg iter:Expr)(wi:TI):Prop :=
 ∀(pins:List (Addr×Obj)) (s:Shared) (σ:St) (H:Hp) (R:It->Hp->Prop),Inv X pins σ H s->wi σ H R ->
  wpAny (model X.prog X.w) X.A (eval iter X.env) (λv s1=>wpAny (model X.prog X.w) X.A (pyIter v) (bN X pins σ tg R) X.xe s1) X.xe s
theorem MB            (ho:s.heap.get? it=some o)(hc:o.cls=.type n)(hd:o.data=.fields vs)
    (hn:["enumerate","zip","dict_itemiterator","dict_reverseitemiterator","odict_iterator","itertools.zip_longest","itertools.pairwise"].contains n=false) (hQ:Q () s):wpAny M A (letOwnedTupleGo tg (.ref it) u) Q E s:=by
  unfold letOwnedTupleGo
  cases tg<;>first
    |exact ydt hQ
    |(cases u<;>first
        |exact ydt hQ
        | (refine ydp (wpAny_load ho ?_)
           rw[hc,hd];show wpAny M A (if (["enumerate","zip","dict_itemiterator","dict_reverseitemiterator","odict_iterator","itertools.zip_longest","itertools.pairwise"].contains n && vs[0]? == some (rawInt _))=true then _ else _) Q E s
           rw[if_neg (by intro h;rw[hn,Bool.false_and]at h;cases h)]
           exact ydt hQ))
def S7(K:k6)(a:Addr):It :=
 ⟨λi H=>∃xs x,Al K H a xs/\xs[i]?=some x,λi H x H'=>H'=H/\∀xs,Al K H a xs->xs[i]?=some x,λi H=>∃xs,Al K H a xs/\xs.length<=i⟩
def S6(K:k6)(a:Addr):It :=
 ⟨λi H=>∃xs x,CJ K H a xs/\xs[i]?=some x,λi H x H'=>H'=H/\∀xs,CJ K H a xs->xs[i]?=some x,λi H=>∃xs,CJ K H a xs/\xs.length<=i⟩
def K6(lo:Int)(n:Nat):It:=⟨λi _=>i<n,λi H x H'=>H'=H/\x=.int (lo+i),λi _=>n<=i⟩
theorem zf7{K}(a it):Turn P w K tg (S7 K a) [it] it (λi h=>h.IsListIter it a i) where
 mem:=by simp
 obj:=λi h st b hb=>by
  have e :=by simpa using hb
  subst e;obtain⟨o,e,c,d⟩:=st;exact⟨o,e,λv z=>by rw[d]at z;cases z⟩
 keep:=λi h h' st k=>st.at λo e=>k it (by simp) o e
 item:=by
  intro X hP hw hK hc i pins s σ H E I hf st hg;subst hP hw hK;obtain⟨xs,x,hq,hx⟩:=hg;obtain⟨its,rv,p,hz⟩:=I.list hq;obtain⟨u,hu,ru⟩:=rv.get hx;obtain⟨f0,f1,f2,f3,f4,f5⟩:=hf it (by simp)
  refine wpAny_pyNext_list_item st p.isList (by simpa using hu) λh' st' sb=>?_
  have I1 :=I.turned (t':=s.toks) (λb o hb e=>(sb.2 b hb).trans e) f0 f1 f3 f4 f5
  obtain⟨o,e,c,d⟩:=id st';exact⟨u,rfl,MB e c d (by decide) ⟨x,H,I1,ru,⟨rfl,λys hy=>by rw[I.list_inj hy hq];exact hx⟩,st',λb hb=>(hf b hb).1⟩⟩
 done:=by
  intro X hP hw hK hc i pins s σ H E I hf st hg;subst hP hw hK;obtain⟨xs,hq,hx⟩:=hg;obtain⟨its,rv,p,hz⟩:=I.list hq;obtain⟨f0,f1,f2,f3,f4,f5⟩:=hf it (by simp)
  have hl:=rv.length;exact wpAny_pyNext_list_end (I.ok.hd hc) st p.isList (by simp;omega) λh' eb=>⟨rfl,I.turned (λb o hb e=>eb b o hb e) f0 f1 f3 f4 f5⟩
 self:=λ_ _ _ _ _ st h=>wpAny_pyIter_listiter st h
theorem ze7{K}(a it):Turn P w K tg (S6 K a) [it] it (λi h=>h.IsTupleIter it a i) where
 mem:=by simp
 obj:=λi h st b hb=>by
  have e :=by simpa using hb
  subst e;obtain⟨o,e,c,d⟩:=st;exact⟨o,e,λv z=>by rw[d]at z;cases z⟩
 keep:=λi h h' st k=>st.at λo e=>k it (by simp) o e
 item:=by
  intro X hP hw hK hc i pins s σ H E I hf st hg;subst hP hw hK;obtain⟨xs,x,hq,hx⟩:=hg;obtain⟨its,rv,p,hz⟩:=I.tuple hq;obtain⟨u,hu,ru⟩:=rv.get hx;obtain⟨f0,f1,f2,f3,f4,f5⟩:=hf it (by simp)
  refine wpAny_pyNext_tuple_item st (p) (by simpa using hu) λh' st' sb=>?_
  have I1 :=I.turned (t':=s.toks) (λb o hb e=>(sb.2 b hb).trans e) f0 f1 f3 f4 f5
  obtain⟨o,e,c,d⟩:=id st';exact⟨u,rfl,MB e c d (by decide) ⟨x,H,I1,ru,⟨rfl,λys hy=>by rw[I.tuple_inj hy hq];exact hx⟩,st',λb hb=>(hf b hb).1⟩⟩
 done:=by
  intro X hP hw hK hc i pins s σ H E I hf st hg;subst hP hw hK;obtain⟨xs,hq,hx⟩:=hg;obtain⟨its,rv,p,hz⟩:=I.tuple hq;obtain⟨f0,f1,f2,f3,f4,f5⟩:=hf it (by simp)
  have hl:=rv.length;exact wpAny_pyNext_tuple_end (I.ok.hd hc) st (p) (by simp;omega) λh' eb=>⟨rfl,I.turned (λb o hb e=>eb b o hb e) f0 f1 f3 f4 f5⟩
 self:=λ_ _ _ _ _ st h=>wpAny_pyIter_tupleiter st h
theorem ze8{K}(it)(lo)(n):Turn P w K tg (K6 lo n) [it] it (λi h=>IsRangeIter h it (lo+i * 1) (n - i) 1) where
 mem:=by simp
 obj:=λi h st b hb=>by
  have e :=by simpa using hb
  subst e
  exact⟨_,st,λv z=>by
   have z' :=z;cases z'⟩
 keep:=λi h h' st k=>k it (by simp) _ st
 item:=by
  intro X hP hw hK hc i pins s σ H E I hf st hg;subst hP hw hK;obtain⟨f0,f1,f2,f3,f4,f5⟩:=hf it (by simp)
  have W:=Walks.range (prog:=X.prog) (w:=X.w) (I.ok.hd hc) it lo 1 n;refine W.item i s _ _ hg st λv h' tk hv st' kk=>?_
  obtain⟨t,rfl⟩:=hv;have I1:Inv X pins σ H { s with heap:=h',toks:=tk }:=I.turned (λb o hb e=>kk b o (by simpa using hb) e) f0 f1 f3 f4 f5
  refine⟨_,rfl,MB st' rfl rfl (by decide) ⟨.int (lo+i),H,I1,⟨t,?_⟩,⟨rfl,rfl⟩,st',λb hb=>(hf b hb).1⟩⟩
  rw[ydb]
 done:=by
  intro X hP hw hK hc i pins s σ H E I hf st hg;subst hP hw hK;obtain⟨f0,f1,f2,f3,f4,f5⟩:=hf it (by simp)
  exact wpAny_pyNext_range_end (I.ok.hd hc) st (by have:n<=i:=hg;omega) λh' eb=>⟨rfl,I.turned (λb o hb e=>eb b o hb e) f0 f1 f3 f4 f5⟩
 self:=λ_ _ _ _ _ st h=>wpAny_pyIter_rangeiter st h
section
variable {X:Cx}{tg:Expr}
def iList(K:k6)(tl:TE):TI:=λσ H R=>tl σ H λx H1=>∃a,x=.ref a/\(∃xs,Al K H1 a xs)/\R (S7 K a) H1
def iTup(K:k6)(tl:TE):TI:=λσ H R=>tl σ H λx H1=>∃a,x=.ref a/\(∃xs,CJ K H1 a xs)/\R (S6 K a) H1
theorem zju(hl:PE X l tl):PI X tg l (iList X.K tl):=by
 intro pins s σ H R I h;refine A6 (hl pins s σ H _ I h) λv s1 ⟨x,H1,I1,r1,q1⟩=>?_
 obtain⟨a,e,⟨xs,hq⟩,q⟩:=q1;subst e;cases r1;obtain⟨its,rv,p,hz⟩:=I1.list hq;refine ydu p.isList ?_;refine⟨s1.heap.objs.size,[s1.heap.objs.size],_,_,H1,rfl,I1.kept λb o e=>ya4 _ e,zf7 a _,⟨_,yan _ rfl,rfl,rfl⟩,λb hb=>?_,q⟩
 have e:b=s1.heap.objs.size:=by grind
 subst e;exact I1.fpOk (ya8 _) (I1.hok.fresh (ya8 _))
theorem zn0(hl:PE X l tl):PI X tg l (iTup X.K tl):=by
 intro pins s σ H R I h;refine A6 (hl pins s σ H _ I h) λv s1 ⟨x,H1,I1,r1,q1⟩=>?_
 obtain⟨a,e,⟨xs,hq⟩,q⟩:=q1;subst e;cases r1;obtain⟨its,rv,p,hz⟩:=I1.tuple hq;refine wpAny_pyIter_tuple (p) ?_;refine⟨s1.heap.objs.size,[s1.heap.objs.size],_,_,H1,rfl,I1.kept λb o e=>ya4 _ e,ze7 a _,⟨_,yan _ rfl,rfl,rfl⟩,λb hb=>?_,q⟩
 have e:b=s1.heap.objs.size:=by grind
 subst e;exact I1.fpOk (ya8 _) (I1.hok.fresh (ya8 _))
theorem V5  {σ:St}{H:Hp}    {lo hi:Int}   (I:Inv X pins σ H s)(h1:-(2 ^ 62)<=lo)(h2:lo<2 ^ 62)(h3:-(2 ^ 62)<=hi)(h4:hi<2 ^ 62)
  (q:R (K6 lo (hi - lo).toNat) H):wpAny (model X.prog X.w) X.A (pyIter (.ref s.heap.objs.size)) (bN X pins σ tg R) E { s with heap:=s.heap.push { cls:=.type "range",data:=.fields #[.int lo t,.int hi u,.int 1 v] },toks:=tk }:=by
 refine wpAny_pyIter_range (IsRange.new ..) (small_one h1 h2 h3 h4) ?_;have I1:Inv X pins σ H { s with heap:=s.heap.push { cls:=.type "range",data:=.fields #[.int lo t,.int hi u,.int 1 v] },toks:=tk }:=I.kept λb o e=>ya4 _ e
 refine⟨(s.heap.push { cls:=.type "range",data:=.fields #[.int lo t,.int hi u,.int 1 v] }).objs.size,[(s.heap.push { cls:=.type "range",data:=.fields #[.int lo t,.int hi u,.int 1 v] }).objs.size],_,_,H,rfl,
  I1.kept λb o e=>ya4 _ e,ze8 _ lo (hi - lo).toNat,?_,λb hb=>?_,q⟩
 .have e1:lo+(0:Nat) * 1=lo:=by simp
  have e2:(hi - lo).toNat - (0:Nat)=Builtin.Range.rangeSize lo hi 1:=by rw[rangeSize_one];grind
  rw[e1,e2];exact yan _ rfl
 .have e:b=(s.heap.push { cls:=.type "range",data:=.fields #[.int lo t,.int hi u,.int 1 v] }).objs.size:=by grind
  subst e;exact I1.fpOk (ya8 _) (I1.hok.fresh (ya8 _))
def iRng1(ta:TA):TI:=λσ H R=>ta σ H λvs H1=>∃j:Int,vs=[.int j]/\-(2 ^ 62)<=j/\j<2 ^ 62/\R (K6 0 j.toNat) H1
def iRng2(ta:TA):TI:=λσ H R=>ta σ H λvs H1=>∃i j:Int,vs=[.int i,.int j]/\(-(2 ^ 62)<=i/\i<2 ^ 62/\-(2 ^ 62)<=j/\j<2 ^ 62)/\R (K6 i (j - i).toNat) H1
theorem zff(hg:Gl X "range")(hm:X.mg "range"=none)(ha:PA X [a] ta)(hs:starEach [a] X.env=[(false,eval a X.env)]:=by rfl):PI X tg (.Call (.Name "range" p) [a] [] pos) (iRng1 ta):=by
 intro pins s σ H R I h;refine Call_ (G3 I hg hm boot_range (yb4 (A6 (ha pos pins s σ H _ I h) λus s1 ⟨vs,H1,I1,r1,q1⟩=>?_) hs rfl))
 obtain⟨j,e,q1,q2,q⟩:=q1;subst e;cases r1 with
 |cons r rr =>
  cases rr;obtain⟨t,rfl⟩:=r;exact call_range_1 (V5 I1 (by omega) (by omega) q1 q2 (by simpa using q))
theorem zfe{p pos}(hg:Gl X "range")(hm:X.mg "range"=none)(ha:PA X [a,b] ta)(hs:starEach [a,b] X.env=[(false,eval a X.env),(false,eval b X.env)]:=by rfl)(hs2:starEach [b] X.env=[(false,eval b X.env)]:=by rfl) :
  PI X tg (.Call (.Name "range" p) [a,b] [] pos) (iRng2 ta):=by
 intro pins s σ H R I h;refine Call_ (G3 I hg hm boot_range (yb4 (A6 (ha pos pins s σ H _ I h) λus s1 ⟨vs,H1,I1,r1,q1⟩=>?_) (by rw[hs,hs2]) (by rw[hs2];rfl)))
 obtain⟨i,j,e,⟨q1,q2,q3,q4⟩,q⟩:=q1;subst e;cases r1 with
 |cons r rr =>
  cases rr with
  |cons r' rr =>
   cases rr;obtain⟨t,rfl⟩:=r;obtain⟨t',rfl⟩:=r';exact call_range_2 (V5 I1 q1 q2 q3 q4 q)
def tFor(wi:TI)(g:TG)(tb:TS):TS:=λD σ H=>wi σ H λJ H1=>∃W:Nat->Nat->St->Hp->Prop,(∃m,W 0 m σ H1)/\∀i m σ H,W i m σ H ->
 (J.stop i H/\D.nx σ H)\/(J.go i H/\∃N:St->Hp->Prop,(∀σ' H',N σ' H'->∃m',m'<m/\W (i+1) m' σ' H')/\∀x H',J.yld i H x H'->g x σ H' λσ2 H2=>tb { D with nx:=N,ct:=N,bk:=D.nx } σ2 H2)
def HE(fp:List Addr)(h:Heap):List (Addr×Obj):=fp.filterMap λb=>(h.get? b).map λo=>(b,o)
theorem HM(hb:b∈fp)(e:h.get? b=some o):(b,o)∈HE fp h:=ybm.mpr ⟨b,hb,by rw[e];rfl⟩
theorem WJ(hp:p∈HE fp h):p.1∈fp/\h.get? p.1=some p.2:=by
 obtain⟨b,hb,e⟩:=ybm.mp hp;cases q:h.get? b with
 |none=>grind
 |some o =>
  grind
theorem Inv.pinned{σ:St}(I:Inv X pins σ H s)(hf:∀b∈fp,Ce X pins H b)(ho:∀b∈fp,∃o,s.heap.get? b=some o/\∀v,o.data≠.cell v):Inv X (pins++HE fp s.heap) σ H s :=
 I.pins_of λp hp=>(yar.mp hp).elim (λz=>I.pin p (yai _ z)) λz=>by
  obtain⟨hb,e⟩:=WJ z;obtain⟨f0,f1,f2,_⟩:=hf p.1 hb
  grind
theorem Inv.unpinned{σ:St}(I:Inv X (pins++pl) σ H s):Inv X pins σ H s:=I.pins_of λp hp=>I.pin p (yai _ (ybp _ hp))
theorem zmw(hp:PassesOwn (model X.prog X.w) X.A X.env X.xe)(hc:X.calm=true)(hi:PI X tg iter wi)(hg:PG X tg g)(hb:Be X body tb)
  (hs:∀x,foldedSetIterable iter X.env x=pure x:=by intro _;rfl):PS X (.For tg iter body [] pos) (tFor wi g tb):=by
 intro pins s σ H D I h;refine wpAny_For (A6 (hi pins s σ H _ I h) λv s1 h1=>A6 h1 λitv s2 h2=>?_) hs
 obtain⟨it,fp,tn,J,H2,e,I2,T,st2,f2,W,⟨m0,w0⟩,turn⟩:=h2;subst e;have stat:∀{H' },(∀b∈fp,H' b=none)->∀b∈fp,Ce X pins H' b:=λhn b hb=>⟨hn b hb,(f2 b hb).2⟩
 refine codeAny_forLoop_any (λn s'=>∃i σ' H',Inv X pins σ' H' s'/\tn i s'.heap/\(∀b∈fp,H' b=none)/\W i n σ' H') ?_ m0 ⟨0,σ,H2,I2,st2,λb hb=>(f2 b hb).1,w0⟩
 rintro n s3 ⟨i,σ3,H3,I3,st3,fr3,w3⟩
 rcases turn i n σ3 H3 w3 with ⟨stop,qn⟩|⟨go,N,hN,step⟩
 .refine yds hp (A6 (T.done X rfl rfl rfl hc i pins s3 σ3 H3 X.xe I3 (stat fr3) st3 stop) λr s4 ⟨hr,I4⟩=>?_)
  subst hr;exact ydo ⟨σ3,H3,I4,qn⟩
 .refine yds hp (A6 (T.item X rfl rfl rfl hc i pins s3 σ3 H3 X.xe I3 (stat fr3) st3 go) λr s4 ⟨u,hr,h4⟩=>?_)
  subst hr;refine yds hp (A6 h4 λ_ s5 ⟨x,H5,I5,r5,y5,st5,fr5⟩=>?_)
  have I5':=I5.pinned (stat fr5) (T.obj _ _ st5);refine yds hp (A6 (hg _ s5 σ3 H5 x u _ I5' r5 (step x H5 y5)) λ_ s6 ⟨σ6,H6,I6,q6⟩=>?_)
  refine yds hp (A6 (hb _ s6 σ6 H6 _ I6 q6) λf s7 q7=>?_)
  have again:∀{σ7 } {H7 },Inv X (pins++HE fp s5.heap) σ7 H7 s7->N σ7 H7->∃m,m<n/\∃i σ' H',Inv X pins σ' H' s7/\tn i s7.heap/\(∀b∈fp,H' b=none)/\W i m σ' H':=λ{σ7 H7} I7 n7=>by
   obtain⟨m',hm,w7⟩:=hN σ7 H7 n7;refine⟨m',hm,i+1,σ7,H7,I7.unpinned,T.keep _ _ _ st5 λb hb o e=>(I7.pin (b,o) (yai _ (yai _ (HM hb e)))).1,λb hb=>?_,w7⟩
   obtain⟨o,e,d⟩:=T.obj _ _ st5 b hb;exact(I7.pin (b,o) (yai _ (yai _ (HM hb e)))).2.1
  cases f with
  |next=>obtain⟨σ7,H7,I7,n7⟩:=q7;exact again I7 n7
  |cont=>obtain⟨σ7,H7,I7,n7⟩:=q7;exact again I7 n7
  |brk=>obtain⟨σ7,H7,I7,q7⟩:=q7;exact⟨σ7,H7,I7.unpinned,q7⟩
  |ret v=>obtain⟨x7,σ7,H7,I7,r7,q7⟩:=q7;exact⟨x7,σ7,H7,I7.unpinned,r7,q7⟩
end
abbrev R2:=V->V->Hp->VK->Prop
def Ak(X:Cx)(f:Value->Value->Sem Value)(r:R2):Prop :=
 ∀(pins:List (Addr×Obj)) (s:Shared) (σ:St) (H:Hp) (x y:V) (v u:Value) (Q:VK),Inv X pins σ H s->Af x v->Af y u->r x y H Q ->
  wpAny (model X.prog X.w) X.A (f v u) (EP X pins σ Q) X.xe s
def KG(X:Cx)(f:Value->Sem Value)(r:V->Hp->VK->Prop):Prop :=
 ∀(pins:List (Addr×Obj)) (s:Shared) (σ:St) (H:Hp) (x:V) (v:Value) (Q:VK),Inv X pins σ H s->Af x v->r x H Q ->
  wpAny (model X.prog X.w) X.A (f v) (EP X pins σ Q) X.xe s
def Bs(X:Cx)(f:Value)(r:List V->Hp->VK->Prop):Prop :=
 ∀(pins:List (Addr×Obj)) (s:Shared) (σ:St) (H:Hp) (xs:List V) (us:List Value) (Q:VK),Inv X pins σ H s->Ad xs us->r xs H Q ->
  wpAny (model X.prog X.w) X.A (call f us) (EP X pins σ Q) X.xe s
def IA(r:R2)(ta tb:TE):TE:=λσ H Q=>ta σ H λx H1=>tb σ H1 λy H2=>r x y H2 Q
def TX(r:V->Hp->VK->Prop)(ta:TE):TE:=λσ H Q=>ta σ H λx H1=>r x H1 Q
def rI(C:Int->Int->Prop)(g:Int->Int->V):R2:=λx y H Q=>∃i j,x=.int i/\y=.int j/\C i j/\Q (g i j) H
def Ea(g:Int->Int->V):R2:=λx y H Q=>∃i j,x=.int i/\y=.int j/\Q (g i j) H
def rU(g:Int->V):V->Hp->VK->Prop:=λx H Q=>∃i,x=.int i/\Q (g i) H
section
variable {X:Cx}{a b c:Expr}{ta tb tc:TE}{pos:Pos}
theorem Ry(ha:PE X a ta)(hb:PE X b tb){σ:St}{R:V->V->Hp->Prop}(I:Inv X pins σ H s)
  (h:ta σ H λx H1=>tb σ H1 λy H2=>R x y H2)  {f:Value->Value->Sem Value}
  (hf:∀v u s2 x y H2,Inv X pins σ H2 s2->Af x v->Af y u->R x y H2->wpAny (model X.prog X.w) X.A (f v u) Q X.xe s2) :
  wpAny (model X.prog X.w) X.A (eval a X.env) (λv s₁=>wpAny (model X.prog X.w) X.A (eval b X.env) (λu s₂=>wpAny (model X.prog X.w) X.A (f v u) Q X.xe s₂) X.xe s₁) X.xe s:=by
 refine A6 (ha pins s σ H _ I h) λv s1 ⟨x,H1,I1,r1,q1⟩=>?_
 refine A6 (hb pins s1 σ H1 _ I1 q1) λu s2 ⟨y,H2,I2,r2,q2⟩=>?_
 grind
theorem pe_op(ho:Ak X (binaryOp op) r)(ha:PE X a ta)(hb:PE X b tb):PE X (.BinOp a op b pos) (IA r ta tb):=by
 intro pins s σ H Q I h;exact wpAny_BinOp (Ry ha hb I h λv u s2 x y H2 I2 rx ry q=>ho pins s2 σ H2 x y v u Q I2 rx ry q)
theorem pe_un(ho:KG X (unaryOp op) r)(ha:PE X a ta):PE X (.UnaryOp op a pos) (TX r ta):=by
 intro pins s σ H Q I h;exact UnaryOp_ (A6 (ha pins s σ H _ I h) λv s1 ⟨x,H1,I1,r1,q1⟩=>ho pins s1 σ H1 x v Q I1 r1 q1)
theorem J4{g:Int->Int->Int}
  (rule:∀(i j ) (t u ) (s ) (Q ) (E ),C i j->Q (.int (g i j) s.toks) { s with toks:=s.toks+1 }->wpAny (model X.prog X.w) X.A (f (.int i t) (.int j u)) Q E s) :
  Ak X f (rI C λi j=>.int (g i j)):=by
 intro pins s σ H x y v u Q I rx ry h;obtain⟨i,j,rfl,rfl,hc,q⟩:=h;obtain⟨t,rfl⟩:=rx;obtain⟨t',rfl⟩:=ry;exact rule i j t t' s _ _ hc ⟨.int (g i j),H,I.tok _,⟨_,rfl⟩,q⟩
theorem LY{g:Int->Int->Int}
  (rule:∀(i j ) (t u ) (s ) (Q ) (E ),Q (.int (g i j) s.toks) { s with toks:=s.toks+1 }->wpAny (model X.prog X.w) X.A (f (.int i t) (.int j u)) Q E s) :
  Ak X f (Ea λi j=>.int (g i j)):=by
 intro pins s σ H x y v u Q I rx ry h;obtain⟨i,j,rfl,rfl,q⟩:=h;obtain⟨t,rfl⟩:=rx;obtain⟨t',rfl⟩:=ry;exact rule i j t t' s _ _ ⟨.int (g i j),H,I.tok _,⟨_,rfl⟩,q⟩
theorem LZ{g:Int->Int->Bool}
  (rule:∀(i j ) (t u ) (s ) (Q ) (E ),Q (.bool (g i j)) s->wpAny (model X.prog X.w) X.A (f (.int i t) (.int j u)) Q E s) :
  Ak X f (Ea λi j=>.bl (g i j)):=by
 intro pins s σ H x y v u Q I rx ry h;obtain⟨i,j,rfl,rfl,q⟩:=h;obtain⟨t,rfl⟩:=rx;obtain⟨t',rfl⟩:=ry;exact rule i j t t' s _ _ ⟨.bl (g i j),H,I,rfl,q⟩
def CPow(i j:Int):Prop:=0<=j/\j<=1000000/\i.natAbs<2 ^ 64
def Sj(i j:Int):Prop:=(-(2 ^ 64)<i/\i<2 ^ 64)\/(-(2 ^ 64)<j/\j<2 ^ 64)
theorem Sj.ok(h:Sj i j):IntMulOk i j:=by
 rcases h with ⟨h1,h2⟩|⟨h1,h2⟩
 .exact .of_left (intBits_le_64 h1 h2)
 .exact .of_right (intBits_le_64 h1 h2)
theorem znk:Ak X (binaryOp .Add) (Ea λi j=>.int (i+j)):=LY λ_ _ _ _ _ _ _ q=>add_int q
theorem znd:Ak X (binaryOp .Sub) (Ea λi j=>.int (i - j)):=LY λ_ _ _ _ _ _ _ q=>sub_int q
theorem WC:Ak X (binaryOp .Mult) (rI Sj λi j=>.int (i * j)):=J4 λ_ _ _ _ _ _ _ hc q=>mul_int q hc.ok
theorem zk6:Ak X (binaryOp .Mod) (rI (λ_ j=>j≠0) λi j=>.int (i.fmod j)):=J4 λ_ _ _ _ _ _ _ hc q=>mod_int' hc q
theorem znf:Ak X (binaryOp .Pow) (rI CPow λi j=>.int (i ^ j.toNat)):=J4 λ_ _ _ _ _ _ _ hc q=>pow_int_small hc.1 hc.2.1 hc.2.2 q
theorem znj:Ak X (binaryOp .BitAnd) (Ea λi j=>.int (Builtin.bitAnd i j)):=LY λ_ _ _ _ _ _ _ q=>and_int q
theorem op_or:Ak X (binaryOp .BitOr) (Ea λi j=>.int (Builtin.bitOr i j)):=LY λ_ _ _ _ _ _ _ q=>or_int q
theorem unI{g:Int->Int}
  (rule:∀(i ) (t ) (s ) (Q ) (E ),Q (.int (g i) s.toks) { s with toks:=s.toks+1 }->wpAny (model X.prog X.w) X.A (f (.int i t)) Q E s) :
  KG X f (rU λi=>.int (g i)):=by
 intro pins s σ H x v Q I rx h;obtain⟨i,rfl,q⟩:=h;obtain⟨t,rfl⟩:=rx;exact rule i t s _ _ ⟨.int (g i),H,I.tok _,⟨_,rfl⟩,q⟩
theorem zlp:KG X (unaryOp .USub) (rU λi=>.int (-i)):=unI λ_ _ _ _ _ q=>neg_int q
end
section
variable {X:Cx}{a b c:Expr}{ta tb tc:TE}{pos:Pos}
theorem Js{σ:St}(I:Inv X pins σ H s)(q:Q (.bl k) H)(e:k=k'):EP X pins σ Q (.bool k') s:=by
 subst e;exact⟨.bl k,H,I,rfl,q⟩
theorem op_lt:Ak X (compareOp .Lt) (Ea λi j=>.bl (decide (i<j))):=LZ λ_ _ _ _ _ _ _ q=>lt_int q
theorem WE:Ak X (compareOp .LtE) (Ea λi j=>.bl (decide (i<=j))):=LZ λ_ _ _ _ _ _ _ q=>le_int q
theorem op_gt:Ak X (compareOp .Gt) (Ea λi j=>.bl (decide (j<i))):=LZ λ_ _ _ _ _ _ _ q=>gt_int q
theorem op_ge:Ak X (compareOp .GtE) (Ea λi j=>.bl (decide (j<=i))):=LZ λ_ _ _ _ _ _ _ q=>ge_int q
theorem zfg:Ak X (compareOp .In) (λx y H Q=>∃i j,x=.str i/\y=.str j/\Q (.bl (!(Builtin.Str.occurrences j i 0 j.length 1).isEmpty)) H):=by
 intro pins s σ H x y v u Q I rx ry h;obtain⟨i,j,rfl,rfl,q⟩:=h;obtain⟨t,rfl⟩:=rx;obtain⟨t',rfl⟩:=ry;exact in_str (Js I q rfl)
theorem zng:Ak X (compareOp .Is) (λx y H Q=>y=.non/\Q (.bl (decide (x=.non))) H):=by
 intro pins s σ H x y v u Q I rx ry h;obtain⟨rfl,q⟩:=h;cases ry;refine is_none_gen (Js I q ?_)
 cases x<;>first
  |rfl
  |(obtain⟨t,rfl⟩:=rx;rfl)
theorem zk3:Ak X (compareOp .IsNot) (λx y H Q=>y=.non/\Q (.bl (!decide (x=.non))) H):=by
 intro pins s σ H x y v u Q I rx ry h;obtain⟨rfl,q⟩:=h;cases ry;refine isnot_none_gen (Js I q ?_)
 cases x<;>first
  |rfl
  |(obtain⟨t,rfl⟩:=rx;rfl)
theorem Ak.or   (h:Ak X f r)(h':Ak X f r'):Ak X f (λx y H Q=>r x y H Q\/r' x y H Q):=by
 intro pins s σ H x y v u Q I rx ry q
 rcases q with q|q
 .exact h pins s σ H x y v u Q I rx ry q
 .exact h' pins s σ H x y v u Q I rx ry q
theorem zjz   (ho:Ak X (compareOp op) r)(ha:PE X a ta)(hb:PE X b tb)(hm:behindInMarks op b=false):PE X (.Compare a [op] [b] pos) (IA r ta tb):=by
 intro pins s σ H Q I h;exact wpAny_Compare1 (Ry ha hb I h λv u s2 x y H2 I2 rx ry q=>ho pins s2 σ H2 x y v u Q I2 rx ry q) hm
def TY(t:TE):TT:=λσ H Q=>t σ H λx H'=>∃k,x=.bl k/\Q k H'
theorem zjm(ho:Ak X (compareOp op) r)(ha:PE X a ta)(hb:PE X b tb)(hm:behindInMarks op b=false):PT X (.Compare a [op] [b] pos) (TY (IA r ta tb)):=by
 intro pins s σ H Q I h
 refine wpAny_isTrue_Compare1 (A6 (ha pins s σ H _ I h) λv s1 ⟨x,H1,I1,r1,q1⟩=>A6 (hb pins s1 σ H1 _ I1 q1) λu s2 ⟨y,H2,I2,r2,q2⟩ =>
  A6 (ho pins s2 σ H2 x y v u _ I2 r1 r2 q2) λc s3 ⟨z,H3,I3,r3,k,e,q3⟩=>?_) hm
 subst e;cases r3;exact ydn ⟨H3,I3,q3⟩
def Ng(r r':R2)(ta tb tc:TE):TE:=λσ H Q=>ta σ H λx H1=>tb σ H1 λy H2=>r x y H2 λz H3=>∃k,z=.bl k /\
 (if k=true then tc σ H3 λw' H4=>r' y w' H4 Q else Q (.bl false) H3)
theorem zhh(ho:Ak X (compareOp op) r)(ho':Ak X (compareOp op') r')(ha:PE X a ta)(hb:PE X b tb)(hc:PE X c tc)
  (hm:lastMarks [op,op'] [b,c]=false:=by rfl):PE X (.Compare a [op,op'] [b,c] pos) (Ng r r' ta tb tc):=by
 intro pins s σ H Q I h
 refine Compare_chain (A6 (ha pins s σ H _ I h) λv s1 ⟨x,H1,I1,r1,q1⟩=>chain_link (A6 (hb pins s1 σ H1 _ I1 q1) λu s2 ⟨y,H2,I2,r2,q2⟩ =>
  A6 (ho pins s2 σ H2 x y v u _ I2 r1 r2 q2) λd s3 ⟨z,H3,I3,r3,k,e,q3⟩=>?_)) hm
 subst e;cases r3;refine ydn ?_;cases k with
 |false=>exact ite_ff ⟨.bl false,H3,I3,rfl,q3⟩
 |true=>exact ite_tt (chain_last (A6 (hc pins s3 σ H3 _ I3 q3) λw' s4 ⟨z',H4,I4,r4,q4⟩=>ho' pins s4 σ H4 y z' u w' Q I4 r2 r4 q4))
theorem zhb(ho:Ak X (compareOp op) r)(ho':Ak X (compareOp op') r')(ha:PE X a ta)(hb:PE X b tb)(hc:PE X c tc)
  (hm:lastMarks [op,op'] [b,c]=false:=by rfl):PT X (.Compare a [op,op'] [b,c] pos) (TY (Ng r r' ta tb tc)):=by
 intro pins s σ H Q I h
 refine isTrue_chain (A6 (ha pins s σ H _ I h) λv s1 ⟨x,H1,I1,r1,q1⟩=>test_link (A6 (hb pins s1 σ H1 _ I1 q1) λu s2 ⟨y,H2,I2,r2,q2⟩ =>
  A6 (ho pins s2 σ H2 x y v u _ I2 r1 r2 q2) λd s3 ⟨z,H3,I3,r3,k,e,q3⟩=>?_)) hm
 subst e;cases r3;refine ydn ?_;cases k with
 |false =>
  obtain⟨k',e',q'⟩:=q3;cases e';exact ite_ff ⟨H3,I3,q'⟩
 |true =>
  refine ite_tt (test_last (A6 (hc pins s3 σ H3 _ I3 q3) λw' s4 ⟨z',H4,I4,r4,q4⟩=>A6 (ho' pins s4 σ H4 y z' u w' _ I4 r2 r4 q4) λd' s5 ⟨z2,H5,I5,r5,k2,e2,q5⟩=>?_))
  subst e2;cases r5;exact ydn ⟨H5,I5,q5⟩
theorem Je:(sizeLine:Nat)<2 ^ 63:=by rw[ydv];decide
theorem zeb:Ak X (binaryOp .Add) (λx y H Q=>∃i j,x=.str i/\y=.str j/\i.length+j.length<=sizeLine/\Q (.str (i++j)) H):=by
 intro pins s σ H x y v u Q I rx ry h;obtain⟨i,j,rfl,rfl,hz,q⟩:=h;obtain⟨t,rfl⟩:=rx;obtain⟨t',rfl⟩:=ry;exact add_str (λt' tk=>⟨.str (i++j),H,I.tok _,⟨_,rfl⟩,q⟩) hz
theorem FO(r:Ad [x] us):∃u,us=[u]/\Af x u:=by
 cases r with
 |cons r1 r2=>cases r2;grind
theorem Hw(r:Ad [x,y] us):∃u w',us=[u,w']/\Af x u/\Af y w':=by
 cases r with
 |cons r1 r2 =>
  cases r2 with
  |cons r3 r4=>cases r4;grind
theorem zim:Bs X (.builtin "abs") (λxs H Q=>∃i,xs=[.int i]/\Q (.int (if i<0 then -i else i)) H):=by
 intro pins s σ H xs us Q I r h;obtain⟨i,rfl,q⟩:=h;obtain⟨u,rfl,t,rfl⟩:=FO r;exact call_abs_int λu tk=>⟨.int (if i<0 then -i else i),H,I.tok _,⟨_,rfl⟩,q⟩
theorem zgj(hc:X.calm=true):Bs X (.builtin "min") (λxs H Q=>∃i j,xs=[.int i,.int j]/\Q (.int (if j<i then j else i)) H):=by
 intro pins s σ H xs us Q I r h;obtain⟨i,j,rfl,q⟩:=h;obtain⟨u,w',rfl,⟨t,rfl⟩,⟨t',rfl⟩⟩:=Hw r;refine min_two_ints (I.ok.hd hc) λh' tk k=>⟨_,H,I.kept k,?_,q⟩
 by_cases hj:j<i
 .rw[if_pos hj,if_pos hj];exact⟨_,rfl⟩
 .rw[if_neg hj,if_neg hj];exact⟨_,rfl⟩
theorem aR:Bs X (.type "int") (λxs H Q=>(∃i,xs=[.int i]/\Q (.int i) H)\/∃k,xs=[.bl k]/\Q (.int (if k then 1 else 0)) H):=by
 intro pins s σ H xs us Q I r h
 rcases h with ⟨i,rfl,q⟩|⟨k,rfl,q⟩
 .obtain⟨u,rfl,t,rfl⟩:=FO r;exact call_int_int ⟨.int i,H,I,⟨_,rfl⟩,q⟩
 .obtain⟨u,rfl,r1⟩:=FO r;cases r1;exact call_int_bool ⟨.int (if k then 1 else 0),H,I.tok _,⟨_,rfl⟩,q⟩
def LenV(K:k6)(x:V)(H:Hp)(n:Nat):Prop :=
 match x with
 |.str y=>y.length<=sizeLine/\n=y.length
 |.byt y=>y.size<=sizeLine/\n=y.size
 |.ref p=>(∃xs,Al K H p xs/\n=xs.length)\/∃xs,CJ K H p xs/\n=xs.length
 |_=>False
theorem aQ:Bs X (.builtin "len") (λxs H Q=>∃x n,xs=[x]/\LenV X.K x H n/\Q (.int n) H):=by
 intro pins s σ H xs us Q I r h;obtain⟨x,n,rfl,e,q⟩:=h;obtain⟨u,rfl,rx⟩:=FO r;have hl:=Je;have hs :=ydv;cases x with
 |str y =>
  obtain⟨t,rfl⟩:=rx;obtain⟨hy,e'⟩:y.length<=sizeLine/\n=y.length:=e;subst e';exact len_str (by omega) ⟨.int _,H,I.tok _,⟨_,rfl⟩,q⟩
 |byt y =>
  obtain⟨t,rfl⟩:=rx;obtain⟨hy,e'⟩:y.size<=sizeLine/\n=y.size:=e;subst e';exact PySem.W.len_bytes (by omega) ⟨.int _,H,I.tok _,⟨_,rfl⟩,q⟩
 |ref p =>
  cases rx;have e' :=e
  rcases e' with ⟨xs,hx,e'⟩|⟨xs,hx,e'⟩
  .subst e';obtain⟨its,r',pl,hz⟩:=I.list hx;have hlen:=r'.length;exact Calls.call_len_list pl.isList (by simp only[yb3];omega) ⟨.int xs.length,H,I.tok _,⟨_,by simp only[yb3];rw[hlen]⟩,q⟩
  .subst e';obtain⟨its,r',pl,hz⟩:=I.tuple hx;have hlen:=r'.length;exact len_tuple pl (by grind) ⟨.int xs.length,H,I.tok _,⟨_,by simp only[yb3];rw[hlen]⟩,q⟩
 |_=>exact(e).elim
end
structure ObjM(h:Heap)(x dx C:Addr)(mA:Str->Option Value):Prop where
 obj:h.get? x=some (PySem.W.instObj C dx)
 ns:h.Ns1 dx mA
 ne:dx≠x
theorem zfn{h:Heap}(n:h.Ns1 dx mA):∃od,h.get? dx=some od/\∀name,PySem.W.lookIn name od=some (mA name):=by
 obtain⟨o,es,ep,ho,hd,hk,_,hm⟩:=n;refine⟨o,ho,λname=>?_⟩
 have e:=hm name;unfold nsFind findBy at e;rw[<- Array.find?_toList]at e;unfold PySem.W.lookIn;rw[hd];dsimp only;split
 .grind
 .have a:es.toList.any (·.refKey)=false:=by
   rw[List.any_eq_false];intro y hy;obtain⟨z,t,hkey⟩:=hk y (Array.mem_toList_iff.mp hy);simp[DictEntry.refKey,hkey]
  grind
theorem ObjM.look(I:ObjM h x dx C mA):∃od,PySem.W.InstAt h x (PySem.W.instObj C dx) C (some od)/\∀name,PySem.W.lookIn name od=some (mA name) :=
 let ⟨od,ho,hl⟩:=zfn I.ns
 ⟨od,⟨I.obj,rfl,rfl,ho⟩,hl⟩
section
variable {prog:Program}{w:World}{A:Around}{E:Value->Shared->Prop}{s:Shared}{K:k6}{x dx C f:Addr}{mA:Str->Option Value}{name:Str}{v:Value}
theorem zl0(X:K.In s.heap)(I:ObjM s.heap x dx C mA)(hg:PySem.W.plainGet K C name=true)(hh:PySem.W.hasDictIn K C=true)
  (ha:PySem.W.findIn K (.ref C) name=some none) (hv:mA name=some v) (hv':PySem.W.handedIn v=true) (h:Q v { s with toks:=s.toks+1 }) :
  wpAny (model prog w) A (getAttr (.ref x) name expr) Q E s:=by
 obtain⟨od,J,hl⟩:=I.look;exact PySem.W.get_value X J (yd9 hg).1 (PySem.W.findObj_own hh ha rfl (by rw[hl,hv])) hv' h
theorem zi6(X:K.In s.heap)(I:ObjM s.heap x dx C mA)(hg:PySem.W.plainGet K C name=true)
  (hf:PySem.W.findIn K (.ref C) name=some (some (.ref f))) (ht:PySem.W.isFn K (.ref f)=true) (hv:mA name=none) (h:Q (.ref f,[.ref x]) s) :
  wpAny (model prog w) A (getMethod (.ref x) name pl) Q E s:=by
 obtain⟨od,J,hl⟩:=I.look;exact PySem.W.method_fn X J (yd9 hg).1 (yd9 hg).2 hf (beq_iff_eq.mp ht) (by show(PySem.W.lookIn name od).map (·.isSome)=some false;grind) h
theorem zj9(X:K.In s.heap)(I:ObjM s.heap x dx C mA)
  (hs:PySem.W.findIn K (.ref C) "__setattr__"=some (some (.builtin "object.__setattr__"))) (hp:PySem.W.plainOver K C=true) (ht:PySem.W.takerIn K C name=some none) (hh:PySem.W.hasDictIn K C=true)
  (hw:PySem.Within mA ns) (hsz:ns.length<=sizeLine)
  (h:∀h',ObjM h' x dx C (λy=>if y=name then some v else mA y)->Heap.SameBut dx s.heap h'->Q () { s with heap:=h',toks:=s.toks+2 }) :
  wpAny (model prog w) A (setAttr (.ref x) name v) Q E s:=by
 obtain⟨od,J,hl⟩:=I.look;refine PySem.W.set_plain X J hs (PySem.W.osa_open X J hp ht λb=>?_)
 obtain⟨cd,hc,hd'⟩:=PySem.W.any_some hh;have hx :=I.obj;refine ydp (ydt (ydp (ydp (wpAny_loadPart hx (ydp (PySem.W.Looks.here (PySem.W.looks_clsIn X hc) ?_))))));rw[hd'];refine ydt (ydp (ydt (ydp ?_)));refine wpAny_nsSet1 I.ns λh' hn2 hs2=>?_
 obtain⟨oD,esD,epD,hoD,hdD,hcD⟩:=hn2.count (PySem.Within.cons name v hw);refine ydp (wpAny_lookBehind hoD (by rw[hdD];exact pastItsLine_dict (yaj hcD (by grind))) ?_)
 exact ydt (h _ ⟨(hs2.2 _ (yao I.ne)).trans I.obj,hn2,I.ne⟩ hs2)
theorem zht    (X:K.In s.heap)(hm:PySem.W.makesIn K C=true)
  (hi:PySem.W.findIn K (.ref C) "__init__"=some (some (.ref f))) (hf:PySem.W.typeIn K (.ref f)=some (.type "function"))
  (h : codeAny (model prog w) (A.under (.builtin "type.__call__" ⟨.ref C :: vs, kw⟩)) (.call (.ref f) ⟨.ref (s.heap.objs.size + 1) :: vs, kw⟩) (PySem.W.InitBack (s.heap.objs.size + 1) R)
   { s with heap:=(s.heap.push PySem.W.emptyDict).push (PySem.W.instObj C s.heap.objs.size) }) :
  codeAny (model prog w) A (.call (.ref C) ⟨vs,kw⟩) R s:=by
 exact PySem.W.make_core (PySem.W.makes_of X hm) (PySem.W.looks_findIn X hi) (λself=>PySem.W.bind_fn X self hf) (.inl rfl) h
end
def DJ(f:Str)(v:V):List (Str×V)->List (Str×V)
 |[]=>[(f,v)]
 |(g,x)::r=>if g=f then (g,v)::r else (g,x)::DJ f v r
theorem YL(f g)(v):∀fs ,(DJ f v fs).lookup g=if g=f then some v else fs.lookup g
 |[]=>by
  show List.lookup g [(f,v)]=_
  grind
 |(k,x)::r=>by
  have ih:=YL f g v r;rw[show DJ f v ((k,x)::r)=(if k=f then (k,v)::r else (k,x)::DJ f v r) from rfl]
  grind
theorem QD(f)(v):∀fs ,f∈(DJ f v fs).map (·.1)/\∀g,g∈fs.map (·.1)->g∈(DJ f v fs).map (·.1)
 |[]=>⟨by simp[DJ],λg h=>by simp at h⟩
 |(k,x)::r=>by
  obtain⟨i1,i2⟩:=QD f v r;rw[show DJ f v ((k,x)::r)=(if k=f then (k,v)::r else (k,x)::DJ f v r) from rfl]
  grind
theorem YR(f)(v):∀fs ,(DJ f v fs).length<=fs.length+1
 |[]=>by simp[DJ]
 |(k,x)::r=>by
  have ih:=YR f v r;rw[show DJ f v ((k,x)::r)=(if k=f then (k,v)::r else (k,x)::DJ f v r) from rfl]
  grind
theorem DU.some_of(r:DU (some v) o):∃u,o=some u/\Af v u:=by
 cases o with
 |none=>exact(r).elim
 |some u=>exact⟨u,rfl,r⟩
theorem DU.none_of(r:DU none o):o=none:=by
 cases o with
 |none=>rfl
 |some u=>exact(r).elim
theorem zfu(r:Af v u):PySem.W.handedIn u=true:=by
 cases v with
 |non=>cases (r);rfl
 |bl b=>cases (r);rfl
 |int i=>obtain⟨t,e⟩:=(r);cases e;rfl
 |str x=>obtain⟨t,e⟩:=(r);cases e;rfl
 |byt b=>obtain⟨t,e⟩:=(r);cases e;rfl
 |flt b=>obtain⟨t,e⟩:=(r);cases e;rfl
 |ref a=>cases (r);rfl
 |ty n=>cases (r);rfl
section
variable {P:Program}{w:World}{H H':Hp}{h h':Heap}{a C dx:Addr}{fs fs':List (Str×V)}
theorem Ly(hok:HOk P w H h)(e:H a=some (.ins C dx fs)):∃mA,ObjM h a dx C mA/\(∀f,DU (fs.lookup f) (mA f))/\PySem.Within mA (fs.map (·.1))/\fs.length<=1000/\H dx=some (.own a):=by
 obtain⟨d,z,ne,ob,mA,n,r,q⟩:=(hok a _ e);exact⟨mA,⟨ob,n,ne⟩,r,q,z,d⟩
end
structure Cls(K:k6)(C:Addr):Prop where
 pg:PySem.W.plainGet K C Str.empty=true
 hd:PySem.W.hasDictIn K C=true
 po:PySem.W.plainOver K C=true
 sa:PySem.W.findIn K (.ref C) "__setattr__"=some (some (.builtin "object.__setattr__"))
theorem Cls.get{K}(c:Cls K C)(f):PySem.W.plainGet K C f=true:=c.pg
def Bv(K:k6)(C:Addr)(f:Str):Prop:=PySem.W.findIn K (.ref C) f=some none
theorem Bv.taker{K}(n:Bv K C f):PySem.W.takerIn K C f=some none:=by
 unfold PySem.W.takerIn;rw[n]
 rfl
structure Meth(K:k6)(C:Addr)(m:Str)(f:Addr):Prop where
 at_:PySem.W.findIn K (.ref C) m=some (some (.ref f))
 fn:PySem.W.isFn K (.ref f)=true
 kp:PySem.W.keepIn K (.ref f)=true
section
variable {X:Cx}{pins:List (Addr×Obj)}{σ:St}{H:Hp}{s:Shared}{a C dx:Addr}{fs:List (Str×V)}{f:Str}{v:V}{A:Around}{E:Value->Shared->Prop}
theorem zeq(I:Inv X pins σ H s)(e:H a=some (.ins C dx fs))(c:Cls X.K C)(n:Bv X.K C f)(l:fs.lookup f=some v)
  (h:∀u s',Inv X pins σ H s'->Af v u->Q u s'):wpAny (model X.prog X.w) A (getAttr (.ref a) f b) Q E s:=by
 obtain⟨mA,O,r,_,_,_⟩:=Ly I.hok e;obtain⟨u,hu,ru⟩:=DU.some_of (v:=v) (o:=mA f) (by grind)
 exact zl0 I.kIn O (c.get f) c.hd n hu (zfu ru) (h u _ (I.tok _) ru)
theorem Ym(I:Inv X pins σ H s)(e:H a=some (.ins C dx fs))(c:Cls X.K C)(k:Meth X.K C m g)(l:fs.lookup m=none)
  (h:Q (.ref g,[.ref a]) s):wpAny (model X.prog X.w) A (getMethod (.ref a) m pl) Q E s:=by
 obtain⟨mA,O,r,_,_,_⟩:=Ly I.hok e;have hn:mA m=none:=DU.none_of (by grind)
 exact zi6 I.kIn O (c.get m) k.at_ k.fn hn h
theorem ze9(I:Inv X pins σ H s)(e:H a=some (.ins C dx fs))(c:Cls X.K C)(n:Bv X.K C f)(hl:fs.length<1000)(ry:Af y u)
  (h:∀s',Inv X pins σ (upd H a (.ins C dx (DJ f y fs))) s'->Q () s'):wpAny (model X.prog X.w) A (setAttr (.ref a) f u) Q E s:=by
 obtain⟨mA,O,r,wi,_,ho⟩:=Ly I.hok e;have hz:(fs.map (·.1)).length<=sizeLine:=by rw[ya1,ydv];omega
 refine zj9 I.kIn O c.sa c.po n.taker c.hd wi hz λh' O' sb=>h _ ?_
 have hd:∃o,h'.get? dx=some o:=let ⟨o,_,_,e',_⟩:=O'.ns;⟨o,e'⟩;refine I.write (by rw[e];exact True.intro) (.inr ho) (λb q hb z=>(sb.2 b hb).trans z) hd ?_
 refine⟨by rw[BG O.ne];exact ho,?_,O.ne,O'.obj,_,O'.ns,λg=>?_,λg hg=>?_⟩
 .have:=YR f y fs;omega
 .rw[YL]
  by_cases q:g=f
  .rw[if_pos q,if_pos q];exact ry
  .rw[if_neg q,if_neg q];exact r g
 .by_cases q:g=f
  .rw[q];exact(QD f y fs).1
  .refine(QD f y fs).2 g (wi g λz=>hg ?_)
   grind
theorem Inv.made(I:Inv X pins σ H s):Inv X pins σ (upd (upd H s.heap.objs.size (.own (s.heap.objs.size+1))) (s.heap.objs.size+1) (.ins C s.heap.objs.size []))
  { s with heap:=(s.heap.push PySem.W.emptyDict).push (PySem.W.instObj C s.heap.objs.size) }:=by
 have e1:(s.heap.push PySem.W.emptyDict).get? s.heap.objs.size=some PySem.W.emptyDict:=yan s.heap rfl
 have e2:((s.heap.push PySem.W.emptyDict).push (PySem.W.instObj C s.heap.objs.size)).get? (s.heap.objs.size+1)=some (PySem.W.instObj C s.heap.objs.size):=by
  have:=yan (s.heap.push PySem.W.emptyDict) (o:=PySem.W.instObj C s.heap.objs.size) rfl
  simp_all
 have e3:(s.heap.push PySem.W.emptyDict).Ns s.heap.objs.size (λ_=>none):=⟨PySem.W.emptyDict,#[],_,e1,rfl,(λe he=>absurd he (by simp)),λ_=>rfl⟩
 have I1:=I.laid (o:=.own (s.heap.objs.size+1)) (t':=s.toks) (λb u q=>ya4 _ q) (ya8 _) ⟨_,e1⟩
 refine I1.laid (λb u q=>ya4 _ q) (Nat.le_of_eq (ybs _ _)) ?_
 have ne:s.heap.objs.size≠s.heap.objs.size+1:=yah (ybt _);refine⟨by rw[BG ne,Cf],ybk _,ne,e2,λ_=>none,(Heap.Ns1.of_empty e3).at λo q=>ya4 _ q,λ_=>True.intro,λy hy=>absurd rfl hy⟩
theorem zli         (hb:attributeBase e f env (eval e env)=eval e env)
  (h:wpAny (model prog w) A (eval e env) (λo s₁=>wpAny (model prog w) A (getAttr o f true) Q E s₁) E s):wpAny (model prog w) A (eval (.Attribute e f pos) env) Q E s :=
 Attribute_any_ h (by rw[arm_eval_Attribute,hb])
end
def tFld(K:k6)(ta:TE)(f:Str):TE:=λσ H Q=>ta σ H λx H1=>∃a C dx fs v,x=.ref a/\H1 a=some (.ins C dx fs)/\Cls K C/\Bv K C f/\fs.lookup f=some v/\Q v H1
def sFld(K:k6)(ta tv:TE)(f:Str):TS:=λD σ H=>tv σ H λy H1=>ta σ H1 λx H2=>∃a C dx fs,x=.ref a/\H2 a=some (.ins C dx fs)/\Cls K C/\Bv K C f/\fs.length<1000 /\
 D.nx σ (upd H2 a (.ins C dx (DJ f y fs)))
section
variable {X:Cx}{o e value:Expr}{f:Str}{pos pos' tpos:Pos}{ta tv:TE}
theorem Vs(he:PE X e ta)(hb:attributeBase e f X.env (eval e X.env)=eval e X.env):PE X (.Attribute e f pos) (tFld X.K ta f):=by
 intro pins s σ H Q I h;refine zli hb (A6 (he pins s σ H _ I h) λu s1 ⟨x,H1,I1,rx,a,C,dx,fs,v,ex,ea,c,n,l,q⟩=>?_)
 subst ex;obtain rfl:u=Value.ref a:=rx;exact zeq I1 ea c n l λu' s2 I2 ru=>⟨v,H1,I2,ru,q⟩
theorem zmx(ha:PE X o ta)(hv:PE X value tv)(hs:swapsWith value (some (.Attribute o f pos')) pos.line X.env=pure false):PS X (.Assign [.Attribute o f pos'] value pos) (sFld X.K ta tv f):=by
 intro pins s σ H D I h;refine plainObj_wpAny_Assign_Attribute (A6 (hv pins s σ H _ I h) λu s1 ⟨y,H1,I1,ry,q⟩=>A6 (ha pins s1 σ H1 _ I1 q) λov s2 ⟨x,H2,I2,rx,a,C,dx,fs,ex,ea,c,n,l,q2⟩=>?_) hs
 subst ex;obtain rfl:ov=Value.ref a:=rx;exact ze9 I2 ea c n l ry λs3 I3=>⟨σ,_,I3,q2⟩
end
section
variable {X:Cx}{pins:List (Addr×Obj)}{σ:St}{H:Hp}{s:Shared}{A:Around}{E:Value->Shared->Prop}{Q:Value->Shared->Prop}{c:Value}{b:Bool}
inductive TyOf(K:k6)(H:Hp):V->Value->Prop where
 |non:TyOf K H .non (.type "NoneType")
 |bl (x:Bool):TyOf K H (.bl x) (.type "bool")
 |int (i:Int):TyOf K H (.int i) (.type "int")
 |str (x:Str):TyOf K H (.str x) (.type "str")
 |flt (x:UInt64):TyOf K H (.flt x) (.type "float")
 |lst {a:Addr} {xs:List V} (e:H a=some (.lst xs)):TyOf K H (.ref a) (.type "list")
 |frz {a:Addr} {o:Obj} {xs:List V} (e:H a=some (.frz o (.lst xs))):TyOf K H (.ref a) (.type "list")
 |tup {a:Addr} {xs:List V} (e:H a=some (.tup xs)):TyOf K H (.ref a) (.type "tuple")
 |dK {a:Addr} {kvs:List (Key×V)} (e:H a=some (.dK kvs)):TyOf K H (.ref a) (.type "dict")
 |dT {a:Addr} {kvs:List (List Key×V)} (e:H a=some (.dT kvs)):TyOf K H (.ref a) (.type "dict")
 |ins {a C dx:Addr} {fs:List (Str×V)} (e:H a=some (.ins C dx fs)) (cl:Cls K C) (ha:PySem.W.findIn K (.ref C) "__class__"=some (some (.builtin "object.__class__")))
   (hn:PySem.W.specialIn K (.builtin "object.__class__") "__get__"=some (some (.builtin "getset_descriptor.__get__"))) (htk:PySem.W.takesIn K (.builtin "object.__class__")=some true)
   (hm:PySem.W.mroIn K C (.type "object")=some true):TyOf K H (.ref a) (.ref C)
theorem QJ{x:V}  (I:Inv X pins σ H s)(rx:Af x u)(ty:TyOf X.K H x t)(e:PySem.W.kitOne X.K t c=some b)(h:∀tk,Q (.bool b) { s with toks:=tk }) :
  wpAny (model X.prog X.w) A (call (.builtin "isinstance") [u,c]) Q E s:=by
 cases ty with
 |non=>cases (rx);exact yb1 PySem.W.kitx_none I.kIn True.intro e (λz=>nomatch z) h
 |bl y=>cases (rx);exact yb1 PySem.W.kitx_bool I.kIn True.intro e (λz=>nomatch z) h
 |int i=>obtain⟨t,q⟩:=(rx);cases q;exact yb1 PySem.W.kitx_int I.kIn True.intro e (λz=>nomatch z) h
 |str y=>obtain⟨t,q⟩:=(rx);cases q;exact yb1 PySem.W.kitx_str I.kIn True.intro e (λz=>nomatch z) h
 |flt y=>obtain⟨t,q⟩:=(rx);cases q;exact yb1 PySem.W.kitx_float I.kIn True.intro e (λz=>nomatch z) h
 |@lst a xs ea =>
  cases (rx);obtain⟨_,_,n,_,h1⟩:=(I.hok a _ ea);exact yb1 PySem.W.kitx_list I.kIn ⟨_,h1,rfl⟩ e (λz=>nomatch z) h
 |@frz a ob xs ea =>
  cases (rx);obtain⟨_,_,_,n,_,h1⟩:=(I.hok a _ ea);exact yb1 PySem.W.kitx_list I.kIn ⟨_,h1,rfl⟩ e (λz=>nomatch z) h
 |@tup a xs ea =>
  cases (rx);obtain⟨_,_,_,p⟩:=(I.hok a _ ea);obtain⟨o,h1,h2,_⟩:=p;exact yb1 PySem.W.kitx_tuple I.kIn ⟨o,h1,h2⟩ e (λz=>nomatch z) h
 |@dK a kvs ea =>
  cases (rx);obtain⟨_,_,vs,_,p⟩:=(I.hok a _ ea);obtain⟨o,es,ep,h1,h2,_⟩:=p;exact yb1 ydg I.kIn ⟨o,h1,h2.1⟩ e (λz=>nomatch z) h
 |@dT a kvs ea =>
  cases (rx);obtain⟨_,_,xs,_,o,es,ep,h1,h2,_⟩:=(I.hok a _ ea);exact yb1 ydg I.kIn ⟨o,h1,h2.1⟩ e (λz=>nomatch z) h
 |@ins a C dx fs ea cl ha hn htk hm =>
  cases (rx);obtain⟨mA,O,_⟩:=Ly I.hok ea;obtain⟨od,J,_⟩:=O.look;exact yb1 (PySem.W.kitx_own (cl.get _) cl.hd ha hn htk hm) I.kIn J e (λz=>nomatch z) h
end
structure Room(k:Nat)(A:Around):Prop where
 hd:A.handled=none
 dp:A.depth+3 * k+5<recursionLimit
 un:A.units+16 * k+200<cLine
theorem Room.mono(r:Room k A)(h:j<=k):Room j A:=⟨r.hd,by have:=r.dp;omega,by have:=r.un;omega⟩
theorem Room.deeper(r:Room (k+1) A)(env):Room k (A.deeper env) :=
 ⟨r.hd,by have:=r.dp;show A.depth+1+3 * k+5<_;omega,by have:=r.un;show A.units+3+16 * k+200<_;omega⟩
theorem Room.in1(r:Room (k+1) A):Room k A.in1 :=
 ⟨r.hd,by have:=r.dp;grind,by have:=r.un;grind⟩
theorem zee{A:Around}:(A.under (.builtin "type.__call__" ⟨.ref C::us,kw⟩)).depth=A.depth+1:=by
 rfl
theorem zed{A:Around}:(A.under (.builtin "type.__call__" ⟨.ref C::us,kw⟩)).units=A.units+1:=by
 rfl
theorem Room.make(r:Room (k+1) A)(C)(us)(kw):Room k (A.under (.builtin "type.__call__" ⟨.ref C::us,kw⟩)) :=
 ⟨r.hd,by have:=r.dp;rw[zee];omega,by have:=r.un;rw[zed];omega⟩
theorem Room.depth(r:Room k A):A.depth<recursionLimit:=by have:=r.dp;omega
theorem Room.units(r:Room k A):A.units+64<cLine:=by have:=r.un;omega
def T6:TA:=λ_ H Q=>Q [] H
def tCons(ta:TE)(tr:TA):TA:=λσ H Q=>ta σ H λx H1=>tr σ H1 λxs H2=>Q (x::xs) H2
section
variable {X:Cx}{e:Expr}{es:List Expr}{te:TE}{t:TA}{pos:Pos}
theorem Fl:PA X [] T6:=λ_ _ _ _ H Q I h=>Calls.spliced_nil ⟨[],H,I,.nil,h⟩
theorem Eu(ha:PE X e te)(hr:PA X es t)(hs:starEach (e::es) X.env=(false,eval e X.env)::starEach es X.env:=by rfl):PA X (e::es) (tCons te t):=by
 intro pos pins s σ H Q I h;rw[hs];refine Calls.spliced_cons (A6 (ha pins s σ H _ I h) λu s1 ⟨x,H1,I1,r1,q1⟩=>?_)
 exact A6 (hr pos pins s1 σ H1 _ I1 q1) λus s2 ⟨xs,H2,I2,r2,q2⟩=>⟨x::xs,H2,I2,.cons r1 r2,q2⟩
def tTup(t:TA):TE:=λσ H Q=>t σ H λxs H1=>xs.length<=sizeLine/\∀p,H1 p=none->Q (.ref p) (upd H1 p (.tup xs))
def tLst(t:TA):TE:=λσ H Q=>t σ H λxs H1=>xs.length<=sizeLine/\∀p,H1 p=none->Q (.ref p) (upd H1 p (.lst xs))
theorem zn4(h:PA X es t):PE X (.Tuple es x1 pos) (tTup t):=by
 intro pins s σ H Q I hq;refine wpAny_Tuple_spliced (A6 (h pos pins s σ H _ I hq) λus s1 ⟨xs,H1,I1,r,z,q⟩=>⟨by rw[<- r.length];exact z,?_⟩)
 have hf :=I1.hok.fresh (ya8 _);refine⟨.ref s1.heap.objs.size,upd H1 s1.heap.objs.size (.tup xs),I1.laid (λb u e=>ya4 _ e) (ya8 _) ?_,rfl,q _ hf⟩
 exact⟨z,us,r,⟨_,yan _ rfl,rfl,_,rfl⟩⟩
theorem zn9(h:PA X es t):PE X (.List es pos) (tLst t):=by
 intro pins s σ H Q I hq;refine wpAny_List_spliced (A6 (h pos pins s σ H _ I hq) λus s1 ⟨xs,H1,I1,r,z,q⟩=>⟨by rw[<- r.length];exact z,?_⟩)
 have hf :=I1.hok.fresh (ya8 _);refine⟨.ref s1.heap.objs.size,upd H1 s1.heap.objs.size (.lst xs),I1.laid (λb u e=>ya4 _ e) (ya8 _) ?_,rfl,q _ hf⟩
 exact⟨z,us,0,r,yan _ rfl⟩
end
abbrev Sp:=List V->Hp->VK->XK->Prop
abbrev FK:=List Env->Hp->Shared->XK->Value->Shared->Prop
structure Env0(P:Program)(w:World)(K:k6)(mg:Str->Option Value)(base:Heap)(A:Around)(outer:List Env)(s:Shared)(H:Hp):Prop where
 frames:A.frames=some outer
 mod:Mod K mg base
 bs:∀b o,base.get? b=some o->s.heap.get? b=some o/\H b=none
 bsz:base.objs.size<=s.heap.objs.size
 funs:s.heap.FunFrames base outer
 frf:∀b∈Bk outer,H b=none
 hok:HOk P w H s.heap
 bare:AllBare s.gens
def CE(outer:List Env)(P:Program)(w:World)(H:Hp)(s:Shared)(Q:VK)(u:Value)(s':Shared):Prop :=
 ∃v H',s'.os=s.os/\AllBare s'.gens/\Un (Bk outer) [] H H' s.heap s'.heap/\HOk P w H' s'.heap/\Af v u/\Q v H'
def CR(CX:FK)(outer:List Env)(P:Program)(w:World)(H:Hp)(s:Shared)(Q:VK)(E:XK)(r:Result)(s':Shared):Prop :=
 match r with
 |.ok (.ret u)=>CE outer P w H s Q u s'
 |.ok _=>False
 |.error e=>CX outer H s E e s'
structure FnOk(P:Program)(w:World)(K:k6)(mg:Str->Option Value)(base:Heap)(CX:FK)(k:Nat)(f:Addr)(fd:FuncData)(ps:List Str)(sp:Sp):Prop where
 len:∀vs H Q E,sp vs H Q E->vs.length=ps.length
 run:∀(A:Around) (outer:List Env) (s:Shared) (H:Hp) (args:Args) (us:List Value) (vs:List V) (Q:VK) (E:XK),Room k A->Env0 P w K mg base A outer s H->BindsTo s fd args (ps.zip us)->Ad vs us->sp vs H Q E ->
  codeAny (model P w) A (.call (.ref f) args) (CR CX outer P w H s Q E) s
theorem FnOk.mono{K}(F:FnOk P w K mg base CX j f fd ps sp)(h:j<=k) :
  FnOk P w K mg base CX k f fd ps sp:=⟨F.len,λA outer s H args us vs Q E hr=>F.run A outer s H args us vs Q E (hr.mono h)⟩
theorem Env0.make{w:World}{K}{s:Shared}{H:Hp}(e:Env0 P w K mg base A outer s H)(C:Addr)(us)(kw) :
  Env0 P w K mg base (A.under (.builtin "type.__call__" ⟨.ref C::us,kw⟩)) outer s H:=⟨by first|exact e.frames|rfl,e.mod,e.bs,e.bsz,e.funs,e.frf,e.hok,e.bare⟩
theorem Env0.in1{w:World}{K}{H:Hp}(e:Env0 P w K mg base A outer s H) :
  Env0 P w K mg base A.in1 outer s H:=⟨e.frames,e.mod,e.bs,e.bsz,e.funs,e.frf,e.hok,e.bare⟩
section
variable {X:Cx}{pins:List (Addr×Obj)}{σ:St}{H:Hp}{s s':Shared}
theorem Inv.env0(I:Inv X pins σ H s):Env0 X.prog X.w X.K X.mg X.base X.A X.stack s H :=
 ⟨I.ok.frames,I.ok.mod,I.bs,yaj I.ok.bsz I.sz,I.stack,I.stkFree,I.hok,I.bare⟩
theorem Inv.after   (I:Inv X pins σ H s)(h:CE X.stack X.prog X.w H s Q u s'):EP X pins σ Q u s':=by
 obtain⟨v,H',os,bare,un,hok,r,q⟩:=h;obtain⟨hh,g,d,t,os'⟩:=s';obtain rfl:os'=s.os:=os;exact⟨v,H',I.call un hok bare (λb z=>absurd z (by simp)),r,q⟩
end
def Th(sp:Sp)(dvs:List V)(E:XK)(t:TA):TE:=λσ H Q=>t σ H λvs H1=>sp (vs++dvs) H1 Q E
def CO(K:k6)(fd:FuncData)(ps:List Str)(ds:List Value):Prop :=
 ∀(s:Shared) (us:List Value),K.In s.heap->(us++ds).length=ps.length->BindsTo s fd ⟨us,[]⟩ (ps.zip (us++ds))
theorem CO.all{K }   (h:∀us ,us.length=ps.length->bindArgs fd ⟨us,[]⟩=pure (ps.zip us)):CO K fd ps []:=λs us _ hl=>by
 rw[ybz]at hl ⊢;exact .of_eq (h us hl)
def SV(CX:FK)(X:Cx)(E:XK):Prop:=∀(pins:List (Addr×Obj)) (σ:St) (H:Hp) (s:Shared) (e:Value) (s':Shared),Inv X pins σ H s->CX X.stack H s E e s'->X.xe e s'
section
variable {X:Cx}{CX:FK}{k:Nat}{f C:Addr}{fd:FuncData}{ps:List Str}{sp:Sp}{dvs:List V}{ds:List Value}{E:XK}{x m:Str}{p pos apos:Pos}{e o:Expr}{es:List Expr}{ta:TE}{t:TA}
theorem zme  {σ:St}   {Q:VK}   (F:FnOk X.prog X.w X.K X.mg X.base CX k f fd ps sp)(hr:Room k X.A)(hb:CO X.K fd ps ds)(hd:Ad dvs ds)(hx:SV CX X E)
  (I:Inv X pins σ H s) (r:Ad vs us) (h:sp (vs++dvs) H Q E):wpAny (model X.prog X.w) X.A (call (.ref f) us) (EP X pins σ Q) X.xe s:=by
 have r2 :=r.append hd;have hl:(us++ds).length=ps.length:=by rw[<- r2.length];exact F.len _ _ _ _ h
 refine ydw (ydx (F.run X.A X.stack s H ⟨us,[]⟩ (us++ds) (vs++dvs) Q E hr I.env0 (hb s us I.kIn hl) r2 h) λr s' hq=>?_)
 cases r with
 |error e=>exact hx pins σ H s e s' I hq
 |ok fl =>
  cases fl with
  |ret u=>exact I.after hq
  |next=>exact False.elim hq
  |brk=>exact False.elim hq
  |cont=>exact False.elim hq
theorem zk0(F:FnOk X.prog X.w X.K X.mg X.base CX k f fd ps sp)(hr:Room k X.A)(hg:Gl X x)(hm:X.mg x=some (.ref f))(hk:PySem.W.keepIn X.K (.ref f)=true)(hb:CO X.K fd ps ds)(hd:Ad dvs ds)(hx:SV CX X E)
  (ha:PA X (e::es) t) (hdb:(x == "__debug__")=false:=by decide) (he:starEach (e::es) X.env=(false,eval e X.env)::starEach es X.env:=by rfl) (hpl:(backTo pos (starEach es X.env)).any (·.1)=false:=by rfl) :
  PE X (.Call (.Name x p) (e::es) [] pos) (Th sp dvs E t):=by
 intro pins s σ H Q I h;refine ydy (Jf I hg hm ?_ hdb);refine ycm I.ok.mod.kin hk (A6 (ha pos pins s σ H _ I h) λus s1 ⟨vs,H1,I1,r,q⟩=>⟨I1.kIn,?_⟩) he hpl
 exact zme F hr hb hd hx I1 r q
structure Mk(K:k6)(C f:Addr):Prop where
 makes:PySem.W.makesIn K C=true
 init:PySem.W.findIn K (.ref C) "__init__"=some (some (.ref f))
 fn:PySem.W.isFn K (.ref f)=true
 kp:PySem.W.keepIn K (.ref C)=true
end
section
variable {X:Cx}{CX:FK}{k:Nat}{f C:Addr}{fd:FuncData}{ps ks:List Str}{sp:Sp}{E:XK}{x m:Str}{p pos apos kpos:Pos}{e o:Expr}{es:List Expr}{kws:List Keyword}{te ta:TE}{t tk:TA}{nm:Option Str}
variable {g:List Value->List Value->List Value}{gV:List V->List V->List V}
end
structure FnScope(N P:List Str)(sc:Scope):Prop where
 kind:sc.kind=.function
 co:sc.isCoroutine=false
 gen:sc.isGenerator=false
 nd:N.Nodup
 pre:N.take P.length=P
 par:∀x∈P,sc.names.lookup x=some .local\/sc.names.lookup x=some .cell
 nofree:∀y∈sc.names,y.2≠.free
theorem bA{kindOf}:∀{binds} {m},(∀v,(x,v)∉binds)->bindL kindOf binds m x=m x
 |[],_,_=>rfl
 |(n,v)::r,m,h=>by
  unfold bindL;rw[bA λw hw=>h w (ya6 _ hw)]
  split
  .grind
  .rfl
theorem bD{kindOf}:∀{binds} {m},(∀v,(x,v)∉binds)->bindC kindOf binds m x=m x
 |[],_,_=>rfl
 |(n,v)::r,m,h=>by
  unfold bindC;rw[bD λw hw=>h w (ya6 _ hw)]
  split
  .rfl
  grind
theorem bB{kindOf}{x:Str}{v}:∀{P:List Str} {vs} {i:Nat} {m},P.Nodup->P[i]?=some x->vs[i]?=some v->kindOf x=some .local ->
  bindL kindOf (P.zip vs) m x=some v
 |[],_,_,_,_,h,_,_=>by simp at h
 |_::_,[],_,_,_,_,h,_=>by simp at h
 |p::P,w::vs,0,m,nd,h1,h2,hk=>by
  simp at h1 h2;subst h1;subst h2;show bindL kindOf ((p,w)::P.zip vs) m p=_;unfold bindL;rw[bA λv hv=>(ycg.mp nd).1 (List.of_mem_zip hv).1,if_pos hk]
  simp
 |p::P,w::vs,i+1,m,nd,h1,h2,hk=>by
  unfold bindL;exact bB (i:=i) (ycg.mp nd).2 (by grind) (by grind) hk
theorem bE{kindOf}{x:Str}{v}:∀{P:List Str} {vs} {i:Nat} {m},P.Nodup->P[i]?=some x->vs[i]?=some v->kindOf x≠some .local ->
  bindC kindOf (P.zip vs) m x=some v
 |[],_,_,_,_,h,_,_=>by simp at h
 |_::_,[],_,_,_,_,h,_=>by simp at h
 |p::P,w::vs,0,m,nd,h1,h2,hk=>by
  simp at h1 h2;subst h1;subst h2;show bindC kindOf ((p,w)::P.zip vs) m p=_;unfold bindC;rw[bD λv hv=>(ycg.mp nd).1 (List.of_mem_zip hv).1,if_neg hk]
  simp
 |p::P,w::vs,i+1,m,nd,h1,h2,hk=>by
  unfold bindC;exact bE (i:=i) (ycg.mp nd).2 (by grind) (by grind) hk
def start(N:List Str)(vs:List V):St:=vs.map some++List.replicate (N.length - vs.length) none
noncomputable def Ei(CX:FK)(P:Program)(w:World)(K:k6)(mg:Str->Option Value)(base:Heap)(N:List Str)(qual:Str)(scope:Scope)(f:Addr)(cd:Value)(A:Around)(outer:List Env)(s:Shared)(H:Hp)(E:XK):Cx where
 prog:=P
 w:=w
 K:=K
 mg:=mg
 base:=base
 A:=A.deeper (envOfC qual scope s.heap.objs.size f cd)
 N:=N
 s₀:=s
 H₀:=H
 env:=envOfC qual scope s.heap.objs.size f cd
 outer:=outer
 stack:=envOfC qual scope s.heap.objs.size f cd::outer
 ex:=[]
 calm:=true
 fn:=λ_=>true
 pn:=[]
 xe:=λe s'=>wpAny (model P w) (A.deeper (envOfC qual scope s.heap.objs.size f cd)) (leaving (envOfC qual scope s.heap.objs.size f cd) e) (λ_ s''=>CX outer H s E e s'') (λe' s''=>CX outer H s E e' s'') s'
theorem aO{sc:Scope}(h:sc.names.lookup x=some .cell):∃c,(cellsFrom n sc.names []).lookup x=some c:=by
 have q:=PySem.W.cellsFrom_some sc.names n [] (.inl h);exact ycn.mp q
theorem zfr{CX:FK}{P:Program}{w:World}{K:k6}{base:Heap}{N ps:List Str}{qual:Str}{scope:Scope}{f:Addr}{cd:Value}{A:Around}{s s1:Shared}{H:Hp}{E:XK}{vs:List V}
  (S:FnScope N ps scope) (hd:A.handled=none) (e0:Env0 P w K mg base A outer s H) (hl:vs.length=ps.length) (r:Ad vs us)
  (x:InCallC s s.heap.objs.size (bindL (envOfC qual scope s.heap.objs.size f cd).kindOf (ps.zip us) λ_=>none) (cellsFrom (s.heap.objs.size+1) scope.names []) (bindC (envOfC qual scope s.heap.objs.size f cd).kindOf (ps.zip us) λ_=>none) s1) :
  Inv (Ei CX P w K mg base N qual scope f cd A outer s H E) [] (start N vs) H s1:=by
 have hpl :=by have:=congrArg List.length S.pre;rw[yb6]at this;omega
 obtain⟨h1,tk,rfl,hk⟩:=x.done;have noA:∀b ,b∉(Ei CX P w K mg base N qual scope f cd A outer s H E).ex:=λb z=>absurd (show b∈[] from z) (by simp)
 refine⟨⟨e0.mod,S.kind,rfl,rfl,ya8 _,λy z c h1 h2=>?_,λy hy=>?_,λy c _ h=>?_,λ_=>hd,Around.frames_deeper e0.frames,.inr ⟨rfl,rfl⟩,λb z=>absurd z (noA b),e0.bs,e0.bsz,λb _ _=>noA b,λb z=>absurd z (noA b),e0.funs,e0.frf⟩,
  rfl,e0.bare,Un.kept hk,⟨_,x.toInCall.ns,λi y v h1 h2 h3=>?_⟩,λy c h=>⟨_,x.cell y c h⟩,e0.hok.fresh (ya8 _),λy c h=>?_,λp hp=>absurd (show p∈[] from hp) (by simp),e0.hok.kept hk,?_⟩
 .exact name_of_addr x.apart (ybb h1) (ybb h2)
 .have hy :=hy
  rcases hy with hy|hy
  .exact aO hy
  .exact absurd rfl (S.nofree _ (ybb hy))
 .exact yd5 (x.above y c (ybb h))
 .have hi:i<vs.length:=by
   unfold start at h2
   by_cases hi:i<vs.length
   .exact hi
   .rw[ybe (by simpa using hi)]at h2
    rw[yct]at h2;split at h2<;>cases h2
  have ha:vs[i]?=some v:=by
   unfold start at h2;rw[yav (by simpa using hi),ya7]at h2
   cases e:vs[i]? with
   |none=>rw[e]at h2;cases h2
   |some a=>rw[e]at h2;cases h2;rfl
  obtain⟨u,hu,rv⟩:=r.get ha
  have hp:ps[i]?=some y:=by
   rw[<- S.pre,yco (by omega)];exact h1
  have ndP:ps.Nodup:=by rw[<- S.pre];exact S.nd.sublist (List.take_sublist _ _)
  refine⟨u,rv,?_⟩
  rcases S.par y (ybq hp) with k|k
  .exact .inl ⟨k,bB ndP hp hu k⟩
  .obtain⟨c,e⟩:=aO k;refine .inr ⟨.inl k,c,e,?_⟩;have q:=x.cell y c e;rw[bE ndP hp hu (by show scope.names.lookup y≠_;rw[k];decide)]at q
   exact q
 .exact e0.hok.fresh (yd5 (x.above y c (ybb h)))
 .unfold start;show _=N.length;rw[yaw,ya1,yd1]
  omega
theorem Q3{CX:FK}   {K }   {k:Nat}{f:Addr}     {dV kV doc pm cdv ct oc:Value}
   {sp:Sp} (lk:K.lookup f=some ⟨oc,od,.func (PySem.W.fnOf name qual params body scope dV kV doc pm an cdv ct),osl⟩) (hcd:PySem.W.codeIn K cdv qual=true) (S:FnScope N ps scope)
  (len:∀vs H Q E,sp vs H Q E->vs.length=ps.length)
  (hbody : ∀ (A : Around) (outer ) (s : Shared) (H : Hp) (vs : List V) (Q : VK) (E : XK), Room k (A.deeper (envOfC qual scope s.heap.objs.size f cdv)) -> sp vs H Q E ->
   ∃t,Be (Ei CX P w K mg base N qual scope f cdv A outer s H E) body t/\t { nx:=λ_ H'=>Q .non H',rt:=Q } (start N vs) H) :
  FnOk P w K mg base CX (k+1) f (PySem.W.fnOf name qual params body scope dV kV doc pm an cdv ct) ps sp:=by
 refine⟨len,λA outer s H args us vs Q E hr e0 hb r hsp=>?_⟩
 have hl:=len _ _ _ _ hsp;have KX :=e0.mod.kin.keeps λb o e=>(e0.bs b o e).1
 have Bp :=e0.mod.nolimit.keeps λb o e=>(e0.bs b o e).1
 have hkind:∀y∈ps.zip us,scope.names.lookup y.1=some .local\/(scope.names.lookup y.1=some .cell/\((cellsFrom (s.heap.objs.size+1) scope.names []).lookup y.1).isSome=true):=λ⟨n,v⟩ hy=>by
  rcases S.par n (List.of_mem_zip hy).1 with q|q
  .exact .inl q
  .exact .inr ⟨q,PySem.W.cellsFrom_some _ _ _ (.inl q)⟩
 refine codeAny_call_function hr.depth (KX _ _ lk) rfl S.co S.gen rfl (PySem.W.codeRec_of KX hcd) (hb _ _ _ _ ?_);refine wpAny_newFunctionEnv_cells S.kind hkind λenv he s1 x=>?_
 subst he;refine⟨Bp.keeps x.toInCall.keep,codeAny_func ?_⟩;obtain⟨t,ht,hq⟩:=hbody A outer s H vs Q E (hr.deeper _) hsp;have I:Inv (Ei CX P w K mg base N qual scope f cdv A outer s H E) [] (start N vs) H s1:=zfr S hr.hd e0 hl r x;refine ydm (ht [] s1 (start N vs) H _ I hq) (λfl s' hs=>?_) λe s' hs=>hs
 have BN:∀{σ' } {H' } {v } {u },Inv (Ei CX P w K mg base N qual scope f cdv A outer s H E) [] σ' H' s'->Af v u->Q v H'->CE outer P w H s Q u s' :=
  λ{σ' H' v u} J rv q=>⟨v,H',J.os,J.bare,J.base,J.hok,rv,q⟩
 cases fl with
 |ret u =>
  obtain⟨v,σ',H',J,rv,q⟩:=hs;exact BN J rv q
 |next =>
  obtain⟨σ',H',J,q⟩:=hs;exact BN (v:=V.non) J rfl q
 |brk =>
  obtain⟨_,_,_,q⟩:=hs;exact False.elim q
 |cont =>
  obtain⟨_,_,_,q⟩:=hs;exact False.elim q
section
variable {X:Cx}{x:Str}{p pos:Pos}{e:Expr}{es:List Expr}{t:TA}{id T:String}{r:List V->Hp->VK->Prop}
def Ti(r:List V->Hp->VK->Prop)(t:TA):TE:=λσ H Q=>t σ H λvs H1=>r vs H1 Q
theorem LU(hc:Bs X (.builtin id) r)(hg:Gl X x)(hm:X.mg x=none)(hv:bootBuiltins x=some (.builtin id))(ha:PA X (e::es) t)(hn:x≠"__name__":=by decide)(hdb:(x == "__debug__")=false:=by decide)
  (he:starEach (e::es) X.env=(false,eval e X.env)::starEach es X.env:=by rfl) (hpl:(backTo pos (starEach es X.env)).any (·.1)=false:=by rfl):PE X (.Call (.Name x p) (e::es) [] pos) (Ti r t):=by
 intro pins s σ H Q I h;refine ydy (G3 I hg hm hv ?_ hn hdb);exact PyProof.Rows.callWith_builtin1 (A6 (ha pos pins s σ H _ I h) λus s1 ⟨vs,H1,I1,r1,q1⟩=>hc pins s1 σ H1 vs us Q I1 r1 q1) he hpl
theorem Vt(hc:Bs X (.type T) r)(hg:Gl X x)(hm:X.mg x=none)(hv:bootBuiltins x=some (.type T))(ha:PA X (e::es) t)(hn:x≠"__name__":=by decide)(hdb:(x == "__debug__")=false:=by decide)
  (he:starEach (e::es) X.env=(false,eval e X.env)::starEach es X.env:=by rfl) (hpl:(backTo pos (starEach es X.env)).any (·.1)=false:=by rfl):PE X (.Call (.Name x p) (e::es) [] pos) (Ti r t):=by
 intro pins s σ H Q I h;refine ydy (G3 I hg hm hv ?_ hn hdb);exact yb4 (A6 (ha pos pins s σ H _ I h) λus s1 ⟨vs,H1,I1,r1,q1⟩=>hc pins s1 σ H1 vs us Q I1 r1 q1) he hpl
end
end L2
namespace HT
open PySem PyProof.Rows
section
open PySem.SeqAt
open PySem.AutoSeq1 (wpAny_loadPart')
open PySem.MeetsSeq PySem.MeetsSeq2 PySem.MeetsSeq3
end
section
variable {prog:Program}{w:World}{A:Around}{E:Value->Shared->Prop}{s:Shared}
noncomputable def sIx(n d:Nat):Option Int->Nat
 |none=>d
 |some v=>if v<0 then (v+(n:Int)).toNat else min v.toNat n
end
end HT
namespace L2
open PySem PySem.Spec PyProof.Rows
abbrev TO:=St->Hp->(Option Int->Hp->Prop)->Prop
def PO(X:Cx)(e:Option Expr)(t:TO):Prop :=
 ∀(pins:List (Addr×Obj)) (s:Shared) (σ:St) (H:Hp) (Q:Option Int->Hp->Prop),Inv X pins σ H s->t σ H Q ->
  wpAny (model X.prog X.w) X.A (evalPart e X.env) (λu s'=>∃o H',Inv X pins σ H' s'/\IsPart u o/\Q o H') X.xe s
def ziy:TO:=λ_ H Q=>Q none H
def tPart(t:TE):TO:=λσ H Q=>t σ H λx H1=>∃i,x=.int i/\Q (some i) H1
section
variable {X:Cx}{e:Expr}{te:TE}{lo hi:Option Expr}{tl th:TO}{pos p2:Pos}
theorem zjs:PO X none ziy:=by
 intro pins s σ H Q I h;exact ydt ⟨none,H,I,.none,h⟩
theorem zjr(h:PE X e te):PO X (some e) (tPart te):=by
 intro pins s σ H Q I hw;refine A6 (h pins s σ H _ I hw) λu s1 ⟨x,H1,I1,r1,q1⟩=>?_
 obtain⟨i,rfl,q⟩:=q1;obtain⟨t,rfl⟩:=r1;exact⟨some i,H1,I1,.int i t,q⟩
def Hh(X:Cx)(r:V->Option Int->Option Int->Hp->VK->Prop):Prop :=
 ∀(pins:List (Addr×Obj)) (s:Shared) (σ:St) (H:Hp) (x:V) (v vl vu:Value) (lo hi:Option Int) (sl:Addr) (Q:VK),Inv X pins σ H s->Af x v->s.heap.IsSliceOf sl vl vu .none->IsPart vl lo->IsPart vu hi->r x lo hi H Q ->
  ∃T id,typeLookup (.type T) "__getitem__"=pure (some (.builtin id))/\s.TypeIs v T/\wpAny (model X.prog X.w) X.A (getItem v (.ref sl)) (EP X pins σ Q) X.xe s
theorem Hh.or(h:Hh X r)(h':Hh X r'):Hh X (λx lo hi H Q=>r x lo hi H Q\/r' x lo hi H Q):=by
 intro pins s σ H x v vl vu lo hi sl Q I rx hs pl pu q
 rcases q with q|q
 .exact h pins s σ H x v vl vu lo hi sl Q I rx hs pl pu q
 .exact h' pins s σ H x v vl vu lo hi sl Q I rx hs pl pu q
def tSl(r:V->Option Int->Option Int->Hp->VK->Prop)(te:TE)(tl th:TO):TE:=λσ H Q=>te σ H λx H1=>tl σ H1 λl H2=>th σ H2 λu H3=>r x l u H3 Q
theorem Vq  (hr:Hh X r)(he:PE X e te)(hl:PO X lo tl)(hu:PO X hi th):PE X (.Subscript e (.Slice lo hi none p2) pos) (tSl r te tl th):=by
 intro pins s σ H Q I h;refine Subscript_ (A6 (he pins s σ H _ I h) λv s1 ⟨x,H1,I1,r1,q1⟩=>?_)
 refine wpAny_Slice (A6 (hl pins s1 σ H1 _ I1 q1) λvl s2 ⟨l,H2,I2,pl,q2⟩=>A6 (hu pins s2 σ H2 _ I2 q2) λvu s3 ⟨u,H3,I3,pu,q3⟩=>?_)
 refine ydt ?_;have I4:Inv X pins σ H3 { s3 with heap:=s3.heap.push { cls:=.type "slice",data:=.fields #[vl,vu,.none] } }:=I3.kept λb ob q=>ya4 _ q
 obtain⟨T,id,hT,ht,hg⟩:=hr pins { s3 with heap:=s3.heap.push { cls:=.type "slice",data:=.fields #[vl,vu,.none] } } σ H3 x v vl vu l u s3.heap.objs.size Q I4 r1 (Heap.IsSliceOf.new ..) pl pu q3
 exact tail_any ht hT hg (by rfl)
def Jx(xs:List V)(lo hi:Option Int):List V:=(xs.drop (HT.sIx xs.length 0 lo)).take (HT.sIx xs.length xs.length hi - HT.sIx xs.length 0 lo)
theorem zdt(xs)(lo hi):(Jx xs lo hi).length<=xs.length:=by
 unfold Jx
 grind
end
noncomputable def Cq(n:Nat)(i:Int):Option Nat:=if 0<=i then (if i<n then some i.toNat else none) else if -(n:Int)<=i then some (i+n).toNat else none
def Ag{α:Type}(xs:List α)(i:Int):Option α:=(Cq xs.length i).bind λj=>xs[j]?
theorem Lv(h:Cq n i=some j):seqIndex? i n=some j/\j<n/\-n<=i/\i<n:=by
 unfold Cq at h
 by_cases h0:0<=i
 .rw[if_pos h0]at h
  by_cases h1:i<n
  .rw[if_pos h1]at h;have e :=yal h;exact⟨by rw[seqIndex_of h0 h1,e],by omega,by omega,h1⟩
  grind
 .rw[if_neg h0]at h
  by_cases h1:-n<=i
  .rw[if_pos h1]at h;have e :=yal h;exact⟨by rw[seqIndex_neg (by omega) h1,e],by omega,h1,by omega⟩
  grind
theorem SG(h:Ag xs i=some v):∃j,seqIndex? i xs.length=some j/\xs[j]?=some v/\j<xs.length/\-xs.length<=i/\i<xs.length:=by
 unfold Ag at h;cases e:Cq xs.length i with
 |none=>grind
 |some j =>
  obtain⟨h1,h2,h3,h4⟩:=Lv e
  grind
theorem Hb{j:Nat}{v}(h:xs[j]?=some v):Ag xs j=some v:=by
 have hj :=(ya2.mp h).1
 have e:Cq xs.length j=some j:=by
  unfold Cq
  grind
 unfold Ag;grind
def JG(b:Expr):Prop:=∀o i,subscripted b false o i=operate [o,i] (getItem o i)
def Fb(X:Cx)(r:R2):Prop :=
 ∀(value slice:Expr) (pins:List (Addr×Obj)) (s:Shared) (σ:St) (H:Hp) (x y:V) (v u:Value) (Q:VK),Inv X pins σ H s->Af x v->Af y u->r x y H Q ->
  subscripted slice false v u=operate [v,u] (getItem v u)->wpAny (model X.prog X.w) X.A (subscriptTail value slice v u) (EP X pins σ Q) X.xe s
def K4(X:Cx)(id:String)(r:V->List V->Hp->VK->Prop):Prop :=
 ∀(pins:List (Addr×Obj)) (s:Shared) (σ:St) (H:Hp) (x:V) (xs:List V) (v:Value) (us:List Value) (Q:VK),Inv X pins σ H s->Af x v->Ad xs us->r x xs H Q ->
  wpAny (model X.prog X.w) X.A (call (.builtin id) (v::us)) (EP X pins σ Q) X.xe s
section
variable {X:Cx}{a b:Expr}{ta tb:TE}{pos:Pos}
theorem Fb.or(h:Fb X r)(h':Fb X r'):Fb X (λx y H Q=>r x y H Q\/r' x y H Q):=by
 intro value slice pins s σ H x y v u Q I rx ry q hs
 rcases q with q|q
 .exact h value slice pins s σ H x y v u Q I rx ry q hs
 .exact h' value slice pins s σ H x y v u Q I rx ry q hs
theorem K4.or{id}(h:K4 X id r)(h':K4 X id r'):K4 X id (λx xs H Q=>r x xs H Q\/r' x xs H Q):=by
 intro pins s σ H x xs v us Q I rx rs q
 rcases q with q|q
 .exact h pins s σ H x xs v us Q I rx rs q
 .exact h' pins s σ H x xs v us Q I rx rs q
theorem LS  (hr:Fb X r)(ha:PE X a ta)(hb:PE X b tb)(hs:JG b):PE X (.Subscript a b pos) (IA r ta tb):=by
 intro pins s σ H Q I h;exact Subscript_ (Ry ha hb I h λv u s2 x y H2 I2 rx ry q=>hr a b pins s2 σ H2 x y v u Q I2 rx ry q (hs _ _))
def Vi(K:k6):R2:=λx y H Q=>∃p xs i v,x=.ref p/\y=.int i/\Al K H p xs/\Ag xs i=some v/\Q v H
def Vg(K:k6):R2:=λx y H Q=>∃p xs i v,x=.ref p/\y=.int i/\CJ K H p xs/\Ag xs i=some v/\Q v H
def Vh:R2:=λx y H Q=>∃z i c,x=.str z/\y=.int i/\z.length<=sizeLine/\Ag z.cps.toList i=some c/\Q (.str ⟨#[c]⟩) H
theorem Y5:Fb X (Vi X.K):=by
 intro value slice pins s σ H x y v u Q I rx ry h hs;obtain⟨p,xs,i,z,rfl,rfl,hq,he,q⟩:=h;cases rx;obtain⟨t,rfl⟩:=ry;obtain⟨its,r,pl,hz⟩:=I.list hq;obtain⟨j,h1,h2,h3,h4,h5⟩:=SG he;obtain⟨w,ew,rw'⟩:=r.get h2;have hl:=r.length;have hn:=Je;have BN:EP X pins σ Q w s:=⟨z,H,I,rw',q⟩
 by_cases h0:0<=i
 .have hj :=by
   rw[seqIndex_of h0 h5]at h1;exact yal h1
  exact item_listR pl.isList h0 (by omega) (by rw[hj];simpa using ew) BN hs
 .have hj:(i+its.toArray.size).toNat=j:=by
   rw[seqIndex_neg (by omega) h4]at h1
   grind
  exact subscriptTail_builtinR pl.isList.typeIs slot_list_getitem.lookup
   (wpAny_getItem_list_neg pl.isList (by omega) (by rw[yb3]<;>omega) (by omega) (by rw[hj];simpa using ew) ⟨rfl,BN⟩) hs
theorem zob:Fb X (Vg X.K):=by
 intro value slice pins s σ H x y v u Q I rx ry h hs;obtain⟨p,xs,i,z,rfl,rfl,hq,he,q⟩:=h;cases rx;obtain⟨t,rfl⟩:=ry;obtain⟨its,r,pl,hz⟩:=I.tuple hq;obtain⟨j,h1,h2,h3,h4,h5⟩:=SG he;obtain⟨w,ew,rw'⟩:=r.get h2;have hl:=r.length;have hn:=Je;have BN:EP X pins σ Q w s:=⟨z,H,I,rw',q⟩
 exact subscriptTail_builtinR pl.typeIs slot_tuple_getitem.lookup
  (getItem_tuple (j:=j) pl (by omega) (by omega) (by grind) (by grind) ⟨rfl,BN⟩) hs
theorem zoc:Fb X Vh:=by
 intro value slice pins s σ H x y v u Q I rx ry h hs;obtain⟨z,i,c,rfl,rfl,hz,he,q⟩:=h;obtain⟨t,rfl⟩:=rx;obtain⟨t',rfl⟩:=ry;obtain⟨j,h1,h2,h3,h4,h5⟩:=SG he;have hl:z.cps.toList.length=z.length:=by simp[Str.length]
 rw[hl]at h1 h4 h5;have hn:=Je
 exact tail_any (ydz s z t) slot_str_getitem.lookup (getItem_str (by
  grind) (by grind) ⟨.str ⟨#[c]⟩,H,I.tok _,⟨_,rfl⟩,q⟩) hs
def Vj(K:k6):R2:=λx y H Q=>Vi K x y H Q\/Vg K x y H Q\/Vh x y H Q
theorem zod:Fb X (Vj X.K):=Y5.or (zob.or zoc)
theorem zec(its:List Value)(n j )(u ):Obj.mapSeq (·.setIfInBounds j u) { cls:=.type "list",data:=.seq its.toArray n }={ cls:=.type "list",data:=.seq (its.set j u).toArray n }:=by
 simp[Obj.mapSeq]
theorem Inv.lst{pins:List (Addr×Obj)}{σ:St}{H:Hp}{s:Shared}{p:Addr}{xs:List V}(I:Inv X pins σ H s)(h:H p=some (.lst xs)) :
  ∃(its:List Value) (n:Nat),Ad xs its/\s.heap.get? p=some { cls:=.type "list",data:=.seq its.toArray n }/\xs.length<=sizeLine:=by
 obtain⟨z,its,n,r,e⟩:=I.hok p _ h
 grind
theorem Inv.lstUpd  {σ:St}     {its its':List Value}   (I:Inv X pins σ H s)(h:H p=some (.lst xs))
  (ho:s.heap.get? p=some { cls:=.type "list",data:=.seq its.toArray n }) (hf:f { cls:=.type "list",data:=.seq its.toArray n }={ cls:=.type "list",data:=.seq its'.toArray n' }) (r:Ad ys its') (hz:ys.length<=sizeLine) (t:Nat) :
  Inv X pins σ (upd H p (.lst ys)) { s with heap:=s.heap.update p f,toks:=t }:=by
 have e:(s.heap.update p f).get? p=some { cls:=.type "list",data:=.seq its'.toArray n' }:=by
  rw[yc8 f ho (by rw[hf]<;>rfl),hf]
 refine I.write (by rw[h];trivial) (.inl rfl) (λb u hb q=>(yb2 _ _ (yao hb)).trans q) ⟨_,e⟩ ?_
 exact⟨hz,its',n',r,e⟩
def rSetL:V->V->V->Hp->(Hp->Prop)->Prop:=λo i v H Q=>∃p xs k j,o=.ref p/\i=.int k/\H p=some (.lst xs)/\Cq xs.length k=some j/\Q (upd H p (.lst (xs.set j v)))
theorem zh4:SW X rSetL:=by
 intro pins s σ H o i v ov iv u Q I ro ri rv h;obtain⟨p,xs,k,j,rfl,rfl,hp,hj,q⟩:=h;cases ro;obtain⟨t,rfl⟩:=ri;obtain⟨its,n,r,ho,hz⟩:=I.lst hp;obtain⟨h1,h2,h3,h4⟩:=Lv hj;have hl:=r.length;have hn:=Je
 have I'  :=
  I.lstUpd hp ho (zec its n j u) (r.set rv j) (by rw[yc0];exact hz) s.toks
 by_cases h0:0<=k
 .have hk :=by
   rw[seqIndex_of h0 h4]at h1;exact yal h1
  exact PySem.W.ki_setAt ho h0 (by omega) (by grind) (by rw[hk];exact⟨_,I',q⟩)
 .have hk:(k+its.toArray.size).toNat=j:=by
   rw[seqIndex_neg (by omega) h3]at h1
   grind
  exact PySem.W.ki_setBack ho (by omega) (by grind) (by omega) (by rw[hk];exact⟨_,I',q⟩)
theorem zcl(lo hi)(n):(sliceBounds lo hi none n).1=HT.sIx n 0 lo/\(sliceBounds lo hi none n).2.1=HT.sIx n n hi/\(sliceBounds lo hi none n).2.2=1:=by
 refine⟨?_,?_,rfl⟩
 .cases lo with
  |none=>simp[sliceBounds,HT.sIx]
  |some i =>
   simp only[sliceBounds,HT.sIx,Option.getD_none,ye0]
   grind
 .cases hi with
  |none=>simp[sliceBounds,HT.sIx]
  |some i =>
   simp only[sliceBounds,HT.sIx,Option.getD_none,ye0]
   grind
theorem zc3(its:List Value)(lo hi):slicePick its.toArray lo hi none=((its.drop (HT.sIx its.length 0 lo)).take (HT.sIx its.length its.length hi - HT.sIx its.length 0 lo)).toArray:=by
 obtain⟨h1,h2,h3⟩:=zcl lo hi its.toArray.size;unfold slicePick;rw[h1,h2,h3];simp only[sliceRange_one,pick_run]<;>rfl
def Vf(K:k6):V->Option Int->Option Int->Hp->VK->Prop:=λx lo hi H Q=>∃a xs,x=.ref a/\Al K H a xs/\∀p,H p=none->Q (.ref p) (upd H p (.lst (Jx xs lo hi)))
theorem zj3:Hh X (Vf X.K):=by
 intro pins s σ H x v vl vu lo hi sl Q I rx hs pl pu h;obtain⟨a,xs,rfl,hx,q⟩:=h;cases rx;obtain⟨its,r,ht,hz⟩:=I.list hx;have hlen:=r.length;refine⟨"list",_,slot_list_getitem.lookup,ht.isList.typeIs,?_⟩;refine wpAny_getItem_list_slice ht.isList hs pl pu .none (by simp) ?_ (by grind)
 rw[zc3,<- hlen];refine⟨.ref s.heap.objs.size,_,I.laid (λb ob q=>ya4 _ q) (ya8 _) ?_,rfl,q _ (I.hok.fresh (ya8 _))⟩
 exact⟨yaj (zdt xs lo hi) hz,_,0,(r.drop (HT.sIx xs.length 0 lo)).take (HT.sIx xs.length xs.length hi - HT.sIx xs.length 0 lo),yan _ rfl⟩
theorem Bs.or(h:Bs X f r)(h':Bs X f r'):Bs X f (λxs H Q=>r xs H Q\/r' xs H Q):=by
 intro pins s σ H xs us Q I rs q
 rcases q with q|q
 .exact h pins s σ H xs us Q I rs q
 .exact h' pins s σ H xs us Q I rs q
theorem zdc:Bs X (.type "list") (λxs H Q=>∃p ys,xs=[.ref p]/\(Al X.K H p ys\/CJ X.K H p ys)/\∀l,H l=none->Q (.ref l) (upd H l (.lst ys))):=by
 intro pins s σ H xs us Q I r h;obtain⟨p,ys,rfl,hq,q⟩:=h;obtain⟨u,rfl,rx⟩:=FO r;cases rx
 have BN:∀(its ),Ad ys its->ys.length<=sizeLine->∀(h' ) (c' ),(∀b o',s.heap.get? b=some o'->h'.get? b=some o') ->
   h'.get? s.heap.objs.size=some { cls:=.type "list",dict:=none,data:=.seq its.toArray c',slots:=#[] }->EP X pins σ Q (.ref s.heap.objs.size) { s with heap:=h' }:=λits r' hz h' c' kp e =>
  ⟨.ref s.heap.objs.size,_,I.laid kp (ya8 _) (show Ct X.prog X.w _ h' _ (.lst ys) from⟨hz,its,c',r',e⟩),rfl,q _ (I.hok.fresh (ya8 _))⟩
 rcases hq with hq|hq
 .obtain⟨its,r',pl,hz⟩:=I.list hq;have hlen:=r'.length;obtain⟨o,ho,hc,n,hd⟩:=pl.isList;exact call_list_seq p (.inl rfl) ho hc hd (λh' c' kp e=>BN its r' hz h' c' kp e) (by grind)
 .obtain⟨its,r',pl,hz⟩:=I.tuple hq;have hlen:=r'.length;obtain⟨o,ho,hc,n,hd⟩:=pl;exact call_list_seq p (.inr rfl) ho hc hd (λh' c' kp e=>BN its r' hz h' c' kp e) (by grind)
def TQ(K:k6)(T:String)(x:V)(H:Hp):Prop:=match x with
 |.str _=>T="str"
 |.int _=>T="int"
 |.ref p=>(T="list"/\∃xs,Al K H p xs)\/(T="tuple"/\∃o,K.lookup p=some o/\o.cls=.type "tuple"/\o.dict=none) \/
   (T="dict"/\((∃kvs,H p=some (.dK kvs))\/∃kvs,H p=some (.dT kvs)))\/(T="set"/\∃S n,H p=some (.set S n))
 |_=>False
theorem zlq{σ:St}{x:V}(I:Inv X pins σ H s)(r:Af x v)(ty:TQ X.K T x H) :
  s.TypeIs v T/\∀a,v=.ref a->∃ob,s.heap.get? a=some ob/\ob.dict=none:=by
 cases x with
 |str z =>
  obtain⟨t,rfl⟩:=r;cases (ty);exact⟨ydz s z t,λ_ e=>nomatch e⟩
 |int i =>
  obtain⟨t,rfl⟩:=r;cases (ty);exact⟨typeIs_int s i t,λ_ e=>nomatch e⟩
 |ref p =>
  cases r
  rcases ty with ⟨rfl,xs,hq⟩|⟨rfl,o,hk,hc,hd⟩|⟨rfl,hk⟩|⟨rfl,S,n,hk⟩
  .obtain⟨its,_,pl,_⟩:=I.list hq;refine⟨pl.isList.typeIs,λa e=>?_⟩
   cases e;obtain⟨o,n,e,c,hd,_⟩:=pl;exact⟨o,e,hd⟩
  .refine⟨⟨o,I.kIn p o hk,hc⟩,λa e=>?_⟩
   cases e;exact⟨o,I.kIn _ o hk,hd⟩
  .have z:∃o,s.heap.get? p=some o/\o.ExactDict:=by
    rcases hk with ⟨kvs,hk⟩|⟨kvs,hk⟩
    .obtain⟨_,_,_,_,o,_,_,e,ex,_⟩:=I.hok p _ hk;exact⟨o,e,ex⟩
    .obtain⟨_,_,_,_,o,_,_,e,ex,_⟩:=I.hok p _ hk;exact⟨o,e,ex⟩
   obtain⟨o,e,ex⟩:=z;refine⟨⟨o,e,ex.1⟩,λa e2=>?_⟩
   cases e2;exact⟨o,e,ex.2.1⟩
  .obtain⟨o,_,_,_,e,ex,_⟩:=I.hok p _ hk;refine⟨⟨o,e,ex.1⟩,λa e2=>?_⟩
   cases e2;exact⟨o,e,ex.2.1⟩
 |_=>exact False.elim ty
def tBM(K:k6)(T:String)(r:V->List V->Hp->VK->Prop)(to:TE)(t:TA):TE:=λσ H Q=>to σ H λx H1=>TQ K T x H1/\t σ H1 λxs H2=>r x xs H2 Q
variable {o e:Expr}{es:List Expr}{to:TE}{t:TA}{name:Str}{apos cpos:Pos}{T id:String}{r:V->List V->Hp->VK->Prop}
theorem OK(pa:PlainAttrs T)(slot:Slot T name id)(hty:typeOf (.builtin id)=pure (.type "method_descriptor"))(hm:K4 X id r)(ho:PE X o to)(ha:PA X (e::es) t)
  (hbase:attributeBase o name X.env (eval o X.env)=eval o X.env:=by rfl)
  (hfew : ((backTo cpos (starEach (e :: es) X.env)).all (fun x => !x.1) && (backToKw cpos (keywordEach [] X.env)).all (fun x => x.1.isSome)
   && decide ((e::es).length+([]:List Keyword).length+(if ([]:List Keyword).isEmpty then 0 else 1)<30))=true:=by rfl)
  (hline:(apos.endLine == cpos.line)=true:=by rfl) (hs:starEach (e::es) X.env=(false,eval e X.env)::starEach es X.env:=by rfl) (hplain:(backTo cpos (starEach es X.env)).any (·.1)=false:=by rfl) :
  PE X (.Call (.Attribute o name apos) (e::es) [] cpos) (tBM X.K T r to t):=by
 intro pins s σ H Q I h;refine wpAny_Call_method_late hbase hfew hline rfl (A6 (ho pins s σ H _ I h) λv s1 ⟨x,H1,I1,r1,ty,q1⟩=>?_)
 obtain⟨h1,h2⟩:=zlq I1 r1 ty;refine⟨T,id,pa,slot,hty,h1,h2,?_⟩;have hA:=ha cpos pins s1 σ H1 _ I1 q1;rw[hs]at hA ⊢;refine Calls.callWith_builtin (by grind) (Calls.evalArgs_plain ?_)
 exact A6 hA λus s2 ⟨vs,H2,I2,r2,q2⟩=>hm pins s2 σ H2 x vs v us Q I2 r1 r2 q2
end
def bO(X:Cx)(id:String)(r:V->List V->Hp->VK->Prop):Prop :=
 ∀(pins:List (Addr×Obj)) (s:Shared) (σ:St) (H:Hp) (x:V) (xs:List V) (v:Value) (us:List Value) (Q:VK),Inv X pins σ H s->Af x v->Ad xs us->r x xs H Q ->
  wpAny (model X.prog X.w) X.A (call (.builtin id) (v::us)) (EP X pins σ Q) X.xe s
theorem Ad.one:∀{x} {us},Ad [x] us->∃u,us=[u]/\Af x u
 |_,_,.cons r .nil=>⟨_,rfl,r⟩
theorem Ad.two:∀{x y} {us},Ad [x,y] us->∃u v,us=[u,v]/\Af x u/\Af y v
 |_,_,_,.cons r (.cons q .nil)=>⟨_,_,rfl,r,q⟩
theorem Ad.zero:∀{us:List Value},Ad [] us->us=[]
 |_,.nil=>rfl
theorem Ad.rep(h:Ad xs us):∀k ,Ad (List.replicate k xs).flatten (List.replicate k us).flatten
 |0=>.nil
 |k+1=>by
  exact Ad.append h (Ad.rep h k)
theorem Ys(its):∀(k) (acc:List Value),
  List.foldl (λx1 x2=>x1++x2) acc.toArray (List.replicate k its.toArray)=(acc++(List.replicate k its).flatten).toArray
 |0,acc=>by simp
 |k+1,acc=>by
  have e:acc.toArray++its.toArray=(acc++its).toArray:=by simp
  have e2:(acc++its)++(List.replicate k its).flatten=acc++(List.replicate (k+1) its).flatten:=by
   grind
  rw[<- e2,<- Ys its k (acc++its),<- e,List.replicate_succ,List.foldl_cons]
section
variable {X:Cx}{pins:List (Addr×Obj)}{σ:St}{H:Hp}{s:Shared}{l b:Addr}{xs ys zs:List V}
theorem Inv.lset{its its':List Value}(I:Inv X pins σ H s)(hH:H l=some (.lst xs))
  (e:s.heap.get? l=some { cls:=.type "list",data:=.seq its.toArray n }) (hf:f its.toArray=its'.toArray) (hv:Ad ys its') (hz:ys.length<=sizeLine) :
  Inv X pins σ (upd H l (.lst ys)) { s with heap:=s.heap.update l (Obj.mapSeq f),toks:=t' }:=by
 have q:=PySem.IsL.update e f;rw[hf]at q;refine I.write (by rw[hH];exact trivial) (.inl rfl) (λb' u hb hu=>(yb2 s.heap (Obj.mapSeq f) (yao hb)).trans hu) ⟨_,q⟩ ?_
 exact⟨hz,its',_,hv,q⟩
theorem Inv.lnew(I:Inv X pins σ H s)(hv:Ad ys its)(hz:ys.length<=sizeLine) :
  Inv X pins σ (upd H s.heap.objs.size (.lst ys)) { s with heap:=s.heap.push { cls:=.type "list",data:=.seq its.toArray },toks:=t' } :=
 I.laid (λ_ _ q=>ya4 _ q) (ya8 _) ⟨hz,its,0,hv,yan _ rfl⟩
theorem Inv.fresh(I:Inv X pins σ H s):H s.heap.objs.size=none:=I.hok.fresh (ya8 _)
theorem Inv.lstM(I:Inv X pins σ H s)(hH:H l=some (.lst xs)):xs.length<=sizeLine/\∃(its:List Value) (n:Nat),Ad xs its/\xs.length=its.length/\s.heap.get? l=some { cls:=.type "list",data:=.seq its.toArray n }:=by
 obtain⟨z,its,n,r,e⟩:=I.hok l _ hH;exact⟨z,its,n,r,r.length,e⟩
theorem zho(h:n<=sizeLine):Builtin.List.listTooLong n=false:=by
 exact ydl (by omega)
end
section
variable {X:Cx}
def zji:V->List V->Hp->VK->Prop:=λx vs H Q=>∃l xs y,x=.ref l/\vs=[y]/\H l=some (.lst xs)/\xs.length<sizeLine/\Q .non (upd H l (.lst (xs++[y])))
theorem Xu:bO X "list.append" zji:=by
 intro pins s σ H x vs v us Q I rx rv h;obtain⟨l,xs,y,rfl,rfl,hH,hz,q⟩:=h;cases rx;obtain⟨u,rfl,ru⟩:=rv.one;obtain⟨z,its,n,r,hl,e⟩:=I.lstM hH;refine call_meets F.slot_list_append ⟨_,e,rfl⟩ F.entry_list_append (F.args_list_append_2 _ _) (PySem.list_append l its.toArray n u (by grind)) ⟨e,?_⟩
 refine⟨.non,_,I.lset hH e (by simp) (r.append (.cons ru .nil)) ?_,rfl,q⟩
 grind
def rCat:R2:=λx y H Q=>∃l b xs zs,x=.ref l/\y=.ref b/\H l=some (.lst xs)/\H b=some (.lst zs)/\xs.length+zs.length<=sizeLine/\∀p,H p=none->Q (.ref p) (upd H p (.lst (xs++zs)))
theorem zni:Ak X (binaryOp .Add) rCat:=by
 intro pins s σ H x y v u Q I rx ry h;obtain⟨l,b,xs,zs,rfl,rfl,hH,hB,hz,q⟩:=h;cases rx;cases ry;obtain⟨z,its,n,r,hl,e⟩:=I.lstM hH;obtain⟨z2,its2,n2,r2,hl2,e2⟩:=I.lstM hB;refine PySem.P.add_list e e2 ?_ (by grind)
 have ea:its.toArray++its2.toArray=(its++its2).toArray:=by simp
 rw[ea];exact⟨.ref _,_,I.lnew (r.append r2) (by grind),rfl,q _ I.fresh⟩
def rRep:R2:=λx y H Q=>∃l k xs,x=.ref l/\y=.int k/\H l=some (.lst xs)/\-(2 ^ 63)<=k/\k<2 ^ 63/\xs.length * k.toNat<=sizeLine /\
 ∀p,H p=none->Q (.ref p) (upd H p (.lst (List.replicate k.toNat xs).flatten))
theorem zkp{α:Type}(xs:List α)(k):(List.replicate k xs).flatten.length=k * xs.length:=by
 simp
theorem zne:Ak X (binaryOp .Mult) rRep:=by
 intro pins s σ H x y v u Q I rx ry h;obtain⟨l,k,xs,rfl,rfl,hH,h1,h2,hz,q⟩:=h;cases rx;obtain⟨t,rfl⟩:=ry;obtain⟨z,its,n,r,hl,e⟩:=I.lstM hH;have hlen:its.toArray.size * k.toNat<=sizeLine:=by rw[yb3,<- hl];exact hz
 have hcap:¬ its.toArray.size * k.toNat > (2 ^ 63 - 1) / 8:=by
  have:sizeLine<=(2 ^ 63 - 1) / 8:=by decide
  omega
 have hfit:¬ (!Builtin.List.listFitsIndex k)=true:=by
  rw[fitsIndex_both h1 h2];exact ybl
 have hlong:¬ Builtin.List.listTooLong (its.toArray.size * k.toNat)=true:=by
  rw[zho hlen];exact ybl
 have hnew:List.foldl (λx1 x2=>x1++x2) #[] (List.replicate (if its.toArray.isEmpty=true then 0 else k.toNat) its.toArray)=(List.replicate k.toNat its).flatten.toArray:=by
  have f0 :=λm=>by
   have:=Ys its m [];rw[List.nil_append]at this;exact this
  rw[f0];cases its with
  |nil=>simp
  |cons a r'=>rw[if_neg (by simp)]
 refine wpAny_binaryOp_repeat_ref (by decide) ⟨_,e,rfl⟩ (λs'=>typeIs_int s' k t) noFill_list_mul F.fills_int_mul F.slot_int_rmul repeat_list F.slot_int_index.lookup
  (call_meets F.slot_int_rmul (typeIs_int s k t) F.entry_int_rmul (F.args_int_rmul_2 _ _) (int___rmul___int_list k t l its.toArray n)
   ⟨e,rfl,⟨_,e,rfl⟩,call_meets F.slot_list_mul ⟨_,e,rfl⟩ F.entry_list_mul (F.args_list_mul_2 _ _) (AutoListH.list___mul___list_int_3 l its.toArray n k t hfit hcap hlong) ⟨e,?_⟩⟩)
 rw[hnew];exact⟨.ref _,_,I.lnew (r.rep k.toNat) (by rw[zkp,Nat.mul_comm];exact hz),rfl,q _ I.fresh⟩
end
section
variable {prog:Program}{w:World}{A:Around}{E:Value->Shared->Prop}{s:Shared}
end
section
variable {X:Cx}
end
end L2
namespace Att
open PySem PySem.W PySem.Calls PyProof.Rows
theorem zb9:∀(ns) (vs),WellAll P h vs (ns.map WData.int)->IntsAre vs ns:=by
 intro ns
 induction ns with
 |nil =>
  intro vs w;cases w;exact .nil
 |cons n ns ih =>
  intro vs w;cases w with
  |cons a b =>
   cases a;exact .cons _ _ (ih _ b)
theorem zfc{l:OpenLaw}(hn:l.most=some n)
  (hpre:l.row.toRowW.claim.pre args=true) (hwl:WellAll P h vals args) :
  ∃a vs ns,vals=[Value.ref a]/\args=[WData.list (ns.map WData.int)]/\h.get? a=some { cls:=.type "list",data:=.seq vs.toArray }/\IntsAre vs ns/\ns.length<=n:=by
 have hsh :=(pre_splitW hpre).1;have hc:l.pre.holds [] { args:=args }=true:=(pre_splitW hpre).2;obtain⟨d,r,rfl,h1,h2⟩:=hasAllW_cons hsh;obtain rfl:=hasAllW_nil h2;obtain⟨xs,rfl,h3⟩:=hasW_list h1;obtain⟨ns,rfl⟩:=items_int h3
 have hlen:ns.length<=n:=by
  have h4:(WTm.not (.lt (.lit (.int n)) (.len (.arg 0)))).holds [] { args:=[.list (ns.map .int)] }=true:=by
   have h4:=(holds_andW hc).1
   grind
  have h5:=condW_of h4 (w_not (w_lt w_lit (w_len_list (w_arg rfl))))
  grind
 cases hwl with
 |cons w1 w2 =>
  cases w2;cases w1 with
  |list ho hall=>exact⟨_,_,ns,rfl,rfl,ho,zb9 ns _ hall,hlen⟩
theorem zfd(l:OpenLaw)(args):l.row.toRowW.claim.post args (.bool true) args=true :=
 postW_of
  (by rfl)
  (w_eq_bool (w_res rfl) w_lit) rfl
theorem attach_call{l:OpenLaw}
  (hn:l.most=some n) (hdf:d.params.defaults=[])
  (call : ∀ (w ) (s₀ s₁ ) (mg mb ) (fa ) (o ) (pm cd doc ) (a ) (vs ) (ns ),
   Ground q loose [] XP w s₀ mg mb s₁.heap->YP w s₁.heap ->
   s₁.heap.get? fa=some o->o.data=.func (docDef d.name d.params d.body d.scope pm cd doc)->s₁.heap.CodeRec cd d.name->mg d.name=some (.ref fa) ->
   s₁.heap.get? a=some { cls:=.type "list",data:=.seq vs.toArray }->IntsAre vs ns->ns.length<=n->s₁.gens=#[] ->
   codeAny (model l.prog w) callerA (.call (.ref fa) ⟨[.ref a],[]⟩) (λr s'=>r=.ok (.ret (.bool true))/\OldK s₁.heap s'.heap/\s'.os=s₁.os/\AllBare s'.gens) s₁) :
  WalkO q loose XP YP l.row.toRowW d [] (λf vs=>PySem.call f vs):=by
 intro w s₀ s₁ mg mb G Y fa o pm cd doc dV kV ho hd hcd hD hmg hg args vals as hpre hlay hrd hwl hlo;obtain rfl:dV=.none:=Dflts.none hD hdf;obtain rfl:kV=.none:=Dflts.noKw hD;obtain⟨a,vs,ns,rfl,rfl,hobj,hints,hlen⟩:=zfc hn hpre hwl;refine enter_call (ydx (call w s₀ s₁ mg mb fa o pm cd doc a vs ns G Y ho (fd_plain hd) hcd hmg hobj hints hlen hg) λr s' hq=>?_)
 obtain⟨rfl,h2,h3,h4⟩:=hq;exact⟨.inl ⟨.bool true,.bool true,[],rfl,λ_=>rfl,.bool true,zfd l _,λ_=>⟨List.Pairwise.nil,λ_ hm=>(nomatch hm)⟩⟩,h2,h3,h4⟩
section
variable {prog:Program}{w:World}{A:Around}{E:Value->Shared->Prop}{s:Shared}{K:Frag}
end
end Att
namespace L2
open PySem PySem.Spec PyProof.Rows
theorem TC:∀{vs} {ns},IntsAre vs ns->Ad (ns.map V.int) vs
 |_,_,.nil=>.nil
 |_,_,.cons n t h=>.cons ⟨t,rfl⟩ (TC h)
def ND(H:Hp):Prop:=∀b,H b=none\/∃o xs,H b=some (.frz o (.lst xs))
theorem zhv   {K }   {k:Nat}   {x:Str}{sp:Sp}
  (KX:K.In s₁.heap) (hns:s₁.heap.Ns mainGlobals mg) (hb:s₁.heap.Ns builtinsNs mb) (hbb:∀x:Str,x≠"__name__"->mb x=bootBuiltins x) (hlim:s₁.heap.NoLimit) (hg:s₁.gens=#[])
  (ha:s₁.heap.get? a=some { cls:=.type "list",data:=.seq vs.toArray }) (hi:IntsAre vs ns) (hl:ns.length<=sizeLine) (hr:Room k callerA)
  (F:∀base:Heap,K.In base->base.Ns mainGlobals mg->FnOk P w K mg base CX k fa fd [x] sp) (hbind:∀(s:Shared) (u:Value),BindsTo s fd ⟨[u],[]⟩ [(x,u)])
  (hsp:∀H:Hp,ND H->Al K H a (ns.map V.int)->sp [.ref a] H (λv _=>v=.bl true) λ_ _ _=>False)
  (hCX:∀H e s',CX [] H s₁ (λ_ _ _=>False) e s'->False) :
  codeAny (model P w) callerA (.call (.ref fa) ⟨[.ref a],[]⟩) (λr s'=>r=.ok (.ret (.bool true))/\OldK s₁.heap s'.heap/\s'.os=s₁.os/\AllBare s'.gens) s₁:=by
 have rv:=TC hi;have lenV:=hi.length
 have core:∀H ,ND H->Al K H a (ns.map V.int)->HOk P w H s₁.heap->(∀b,H b≠none->b=a)->(H a≠none->K.lookup a=none) ->
   codeAny (model P w) callerA (.call (.ref fa) ⟨[.ref a],[]⟩) (λr s'=>r=.ok (.ret (.bool true))/\OldK s₁.heap s'.heap/\s'.os=s₁.os/\AllBare s'.gens) s₁:=by
  intro H hO hS hok hA hK;have base_of:∀{b } {o },s₁.heap.get? b=some o->H b=none->(G8 s₁.heap H).get? b=some o:=λe n=>zi0 e n
  have noA:∀{b } {o } {es } {ep },s₁.heap.get? b=some o->o.data=.dict es ep->H b=none:=λ{b o es ep} e d=>by
   cases q:H b with
   |none=>rfl
   |some u =>
    have e' :=hA b (by rw[q];simp)
    subst e';rw[ha]at e;cases e;have d' :=d;cases d'
  have nsK:∀{b } {m },s₁.heap.Ns b m->(G8 s₁.heap H).Ns b m:=λ{b m} ⟨o,es,ep,e,d,r⟩=>⟨o,es,ep,base_of e (noA e d),d,r⟩
  have hKb :=λb o e=>base_of (KX b o e) (by
   cases q:H b with
   |none=>rfl
   |some u =>
    have e' :=hA b (by rw[q];simp)
    subst e';rw[hK (by rw[q];simp)]at e;cases e)
  have hM:Mod K mg (G8 s₁.heap H):=⟨hKb,nsK hns,⟨mb,nsK hb,hbb⟩,let ⟨mc,h1,h2⟩:=hlim;⟨mc,nsK h1,h2⟩⟩;have e0:Env0 P w K mg (G8 s₁.heap H) callerA [] s₁ H:=⟨rfl,hM,λb o e=>zke e,Nat.le_of_eq (zft _ _),trivial,λb hb=>absurd (show b∈[] from hb) (by simp),hok,.of_eq hg⟩
  refine ydx ((F _ hKb (nsK hns)).run callerA [] s₁ H ⟨[.ref a],[]⟩ [.ref a] [.ref a] _ _ hr e0 (hbind s₁ (.ref a)) (.cons rfl .nil) (hsp H hO hS)) λr s' h=>?_
  cases r with
  |error e=>exact(hCX H e s' h).elim
  |ok fl =>
   cases fl with
   |next=>exact False.elim h
   |brk=>exact False.elim h
   |cont=>exact False.elim h
   |ret u =>
    obtain⟨v,H',os,bare,un,hok',r',q⟩:=h;have q' :=q;subst q';obtain rfl:u=Value.bool true:=r';refine⟨rfl,OldK.of_keep λb o e=>?_,os,bare⟩
    cases q:H b with
    |none=>exact un.keep b o e q (by intro z;exact absurd (show b∈[] from z) (by simp)) (by simp)
    |some u =>
     rcases hO b with z|⟨ob,xs,z⟩
     .rw[q]at z;cases z
     .have z2:=un.frzs b ob _ z;obtain⟨e1,_⟩:=hok b _ z;obtain⟨e2,_⟩:=hok' b _ z2;rw[e]at e1;cases e1;exact e2
 cases hk:K.lookup a with
 |some o =>
  have e:=KX a o hk;rw[ha]at e;cases e;refine core (λ_=>none) (λ_=>.inl rfl) (.inr ⟨_,vs.toArray,_,hk,rfl,rfl,rfl,by rw[yb3,lenV];exact hl,by simpa using rv⟩) (λb u z=>by have z' :=z;cases z') (λb z=>absurd rfl z) λz=>absurd rfl z
 |none =>
  refine core (λb=>if b=a then some (.frz { cls:=.type "list",data:=.seq vs.toArray } (.lst (ns.map V.int))) else none) (λb=>?_) (.inl (.inr ⟨{ cls:=.type "list",data:=.seq vs.toArray },if_pos rfl⟩)) (λb u z=>?_) (λb z=>?_) λ_=>hk
  .by_cases hb:b=a
   .exact .inr ⟨_,_,if_pos hb⟩
   .exact .inl (if_neg hb)
  .by_cases hb:b=a
   .have z':=(if_pos hb).symm.trans z;cases z';subst hb;exact⟨ha,by rw[ya1];exact hl,vs,_,rv,ha⟩
   .have z':=(if_neg hb).symm.trans z;cases z'
  .by_cases hb:b=a
   .exact hb
   .exact absurd (if_neg hb) z
theorem walk_of{l:PySem.W.OpenLaw}{n k:Nat}     {d:DefRec}{K:Params->k6}{CX:World->FK}{sp:World->Sp}{x:Str}
  (hn:l.most=some n) (hn2:n<=sizeLine) (hdf:d.params.defaults=[]) (hr:Room k callerA)
  (hY:∀(w:World) (h:Heap),YP w h->(K w.params).In h)
  (F : ∀ (w : World) (mg ) (fa : Addr) (h : Heap), (K w.params).In h -> h.Ns mainGlobals mg -> mg d.name = some (.ref fa) ->
   ∃fd:FuncData,(∀(s:Shared) (u:Value),BindsTo s fd ⟨[u],[]⟩ [(x,u)]) /\
    ∀base:Heap,(K w.params).In base->base.Ns mainGlobals mg->FnOk l.prog w (K w.params) mg base (CX w) k fa fd [x] (sp w))
  (hsp:∀(w:World) (H:Hp) (a:Addr) (ns:List Int),ns.length<=n->ND H->Al (K w.params) H a (ns.map V.int)->sp w [.ref a] H (λv _=>v=.bl true) λ_ _ _=>False)
  (hCX:∀(w:World) (H:Hp) (s:Shared) (e:Value) (s':Shared),CX w [] H s (λ_ _ _=>False) e s'->False) :
  PySem.W.WalkO q loose XP YP l.row.toRowW d [] (λf vs=>PySem.call f vs):=by
 refine Att.attach_call hn hdf λw s₀ s₁ mg mb fa o pm cd doc a vs ns G Y ho hd hcd hmg hobj hints hlen hg=>?_
 have KX:=hY w _ Y;obtain⟨fd,hb,hF⟩:=F w mg fa _ KX G.T.g hmg;exact zhv KX G.T.g G.T.b G.T.builtins G.T.nolimit hg hobj hints (yaj hlen hn2) hr hF hb (λH hO hS=>hsp w H a ns hlen hO hS) λH e s'=>hCX w H s₁ e s'
def Ig(s:Stmt):Arguments:=match s with
 |.FunctionDef _ a _ _ _ _ _ _ _ _=>a
 |_=>{ posonlyargs:=[],args:=[],vararg:=none,kwonlyargs:=[],kw_defaults:=[],kwarg:=none,defaults:=[] }
def Eh(s:Stmt):List Stmt:=match s with
 |.FunctionDef _ _ b _ _ _ _ _ _ _=>b
 |_=>[]
noncomputable def CD(s:Stmt):Scope:=match s with
 |.FunctionDef _ _ _ _ _ _ sc _ _ _=>sc
 |_=>{ kind:=.function,names:=[],isGenerator:=false,isCoroutine:=false }
abbrev FL:FK:=λ_ _ _ _ _ _=>False
abbrev E0:XK:=λ_ _ _=>False
theorem pass0{X:Cx}:SV FL X E0:=λ_ _ _ _ _ _ _ h=>h.elim
structure Fun(K:k6)(x qual:Str)(st:Stmt)(f:Addr)(fd:FuncData):Prop where
 ex:∃(oc:Value) (od:Option Addr) (kV doc pm:Value) (an:Option Addr) (cdv ct:Value) (osl:Array (Option Value)),
  fd=PySem.W.fnOf x qual (Ig st) (Eh st) (CD st) .none kV doc pm an cdv ct/\K.lookup f=some ⟨oc,od,.func fd,osl⟩/\PySem.W.codeIn K cdv qual=true
 kp:PySem.W.keepIn K (.ref f)=true
section
variable {P:Program}{w:World}{K:k6}{mg:Str->Option Value}{base:Heap}
theorem Fun.ok  {st }      (F:Fun K x qual st f fd)(S:FnScope N ps (CD st))(len:∀vs H Q E,sp vs H Q E->vs.length=ps.length)
  (hbody : ∀ (cdv ) (A ) (outer ) (s ) (H ) (vs ) (Q ) (E ), Room k (A.deeper (envOfC qual (CD st) s.heap.objs.size f cdv)) -> sp vs H Q E ->
   ∃t,Be (Ei FL P w K mg base N qual (CD st) f cdv A outer s H E).nox (Eh st) t/\t { nx:=λ_ H'=>Q .non H',rt:=Q } (start N vs) H):FnOk P w K mg base FL (k+1) f fd ps sp:=by
 obtain⟨oc,od,kV,doc,pm,an,cdv,ct,osl,rfl,lk,hcd⟩:=F.ex;refine Q3 lk hcd S len λA outer s H vs Q E hr hsp=>?_
 obtain⟨t,h,q⟩:=hbody cdv A outer s H vs Q E hr hsp;exact⟨t,h.nox,q⟩
theorem Fun.binds  {st }    (F:Fun K x qual st f fd)
  (h:∀(kV doc pm ) (an ) (cdv ct ) (us ),us.length=ps.length->bindArgs (PySem.W.fnOf x qual (Ig st) (Eh st) (CD st) .none kV doc pm an cdv ct) ⟨us,[]⟩=pure (ps.zip us)):CO K fd ps []:=by
 obtain⟨oc,od,kV,doc,pm,an,cdv,ct,osl,rfl,lk,hcd⟩:=F.ex;exact .all (h kV doc pm an cdv ct)
end
theorem zfb{n:Nat}(h:n<=1000):n<sizeLine:=Nat.lt_of_le_of_lt h (by decide)
section
variable {X:Cx}
theorem pv(i:Nat){x:Str}{pos:Pos}(hN:X.N[i]?=some x:=by rfl)(hv:DR X.env.scope x:=by rfl)(hd:(x == ("__debug__":Str))=false:=by decide)
  (hcd:(x == ("__classdict__":Str))=false:=by decide):PE X (.Name x pos) (Na i):=GW hN hv hd hcd
end
theorem Jk{A B:Prop}(h:B):if false=true then A else B:=by
 grind
theorem Jj{A B:Prop}(h:A):if true=true then A else B:=by
 rw[if_pos rfl];exact h
def Aa(H H':Hp):Prop:=∀b o,H b=some o->H' b=some o
theorem Aa.refl(H:Hp):Aa H H:=λ_ _ h=>h
theorem Aa.trans(a:Aa H H1)(b:Aa H1 H2):Aa H H2:=λc o h=>b c o (a c o h)
theorem Aa.free(e:Aa H H')(h:H' l=Option.none):H l=Option.none:=by
 cases q:H l with
 |none=>rfl
 |some o =>
  rw[e l o q]at h;cases h
theorem Aa.seq{K}(e:Aa H H')(h:Al K H a xs):Al K H' a xs:=by
 rcases h with (h|⟨o,h⟩)|h
 .exact .inl (.inl (e _ _ h))
 .exact .inl (.inr ⟨o,e _ _ h⟩)
 .exact .inr h
section
variable {κ:Type} [DecidableEq κ]
noncomputable def Dl(kvs:List (κ×V))(k:κ):Option V:=(kvs.find? λkv=>decide (kv.1=k)).map (·.2)
noncomputable def Dp(kvs:List (κ×V))(k:κ)(v:V):List (κ×V) :=
 if (kvs.any λkv=>decide (kv.1=k))=true then kvs.map (λkv=>if kv.1=k then (kv.1,v) else kv) else kvs++[(k,v)]
def aB(kvs:List (κ×V))(k:κ):List (κ×V):=kvs.filter λkv=>decide (kv.1≠k)
theorem Kn{k:κ}(e:p.1=k):Dl (p::r) k=some p.2:=by simp[Dl,e]
theorem Ko{k:κ}(e:¬ p.1=k):Dl (p::r) k=Dl r k:=by simp[Dl,e]
theorem TF(k:κ):∀kvs ,(kvs.any λkv=>decide (kv.1=k))=(Dl kvs k).isSome
 |[]=>rfl
 |p::r=>by
  rw[yde]
  by_cases e:p.1=k
  .simp only[Kn e,ye1 e,Bool.true_or,Option.isSome_some]
  .rw[Ko e,ydl e];exact TF k r
theorem YQ(kvs)(k:κ)(v):(Dp kvs k v).length<=kvs.length+1:=by
 unfold Dp
 grind
theorem DU.isSome_eq(r:DU o u):o.isSome=u.isSome:=by
 cases o with
 |none=>cases u with
  |none=>rfl
  |some _=>exact(r).elim
 |some _=>cases u with
  |none=>exact(r).elim
  |some _=>rfl
theorem DU.getD(r:DU o u)(rd:Af d d'):Af (o.getD d) (u.getD d'):=by
 cases o with
 |none=>cases u with
  |none=>exact rd
  |some _=>exact(r).elim
 |some _=>cases u with
  |none=>exact(r).elim
  |some _=>exact r
theorem KV.val   (r:KV kvs vs)(k:κ):DU (Dl kvs k) (valueAt vs k):=by
 induction r with
 |nil=>exact True.intro
 |@cons p q ps qs h t ih =>
  obtain⟨h1,h2⟩:=h
  by_cases e:p.1=k
  .have e' :=h1.symm.trans e;have b:valueAt (q::qs) k=some q.2:=by simp[valueAt,e']
   rw[Kn e,b];exact h2
  .have e':¬ q.1=k:=λz=>e (h1.trans z)
   have b:valueAt (q::qs) k=valueAt qs k:=by simp[valueAt,e']
   rw[Ko e,b];exact ih
theorem KV.any(r:KV kvs vs)(k:κ):(kvs.any λkv=>decide (kv.1=k))=vs.any λkv=>decide (kv.1=k):=by
 induction r with
 |nil=>rfl
 |cons h t ih=>grind
theorem KV.repl(r:KV kvs vs)(k:κ)(ry:Af y u) :
  KV (kvs.map λkv=>if kv.1=k then (kv.1,y) else kv) (vs.map λkv=>if kv.1=k then (kv.1,u) else kv):=by
 induction r with
 |nil=>exact .nil
 |@cons p q ps qs h t ih =>
  refine .cons ?_ ih
  grind
theorem KV.put(r:KV kvs vs)(k:κ)(ry:Af y u):KV (Dp kvs k y) (stored vs k u):=by
 unfold Dp stored;rw[r.any k]
 by_cases e:(vs.any λkv=>decide (kv.1=k))=true
 .rw[if_pos e,if_pos e];exact r.repl k ry
 .rw[if_neg e,if_neg e];exact Paired.snoc r ⟨rfl,ry⟩
theorem KV.drop(r:KV kvs vs)(k:κ):KV (aB kvs k) (without vs k):=by
 unfold aB without
 induction r with
 |nil=>exact .nil
 |@cons p q ps qs h t ih =>
  obtain⟨h1,h2⟩:=h;rw[ydi,ydi]
  by_cases e:p.1=k
  .grind
  .have e':¬ q.1=k:=λz=>e (h1.trans z)
   have a:decide (p.1≠k)=true:=by simp[e]
   have b:decide (q.1≠k)=true:=by simp[e']
   rw[if_pos a,if_pos b];exact .cons ⟨h1,h2⟩ ih
theorem KV.length{kvs:List (κ×V)}(r:KV kvs vs):kvs.length=vs.length:=ydd r
end
theorem QG(r:Af (kV k) u):(DM P w).is k u=true:=by
 cases k with
 |inl i=>obtain⟨t,e⟩:=(r);subst e;exact zdf P w i t
 |inr x=>obtain⟨t,e⟩:=(r);subst e;exact zde P w x t
theorem Y9:∀{ks} {us},Ad (ks.map kV) us->ItemsAre (DM P w) ks us
 |[],_,r=>by cases r;exact .nil
 |k::ks,_,r=>by
  cases r with
  |cons h t=>exact .cons (QG h) (Y9 t)
abbrev KT(H:Hp):List (List Key×V)->List (List Key×Addr×Value)->Prop:=Paired λp q=>p.1=q.1/\H q.2.1=some (.tup (p.1.map kV))/\Af p.2 q.2.2
theorem KT.val(r:KT H kvs xs)(k):DU (Dl kvs k) ((atKey xs k).map (·.2)):=by
 induction r with
 |nil=>exact True.intro
 |@cons p q ps qs h t ih =>
  obtain⟨h1,_,h2⟩:=h
  by_cases e:p.1=k
  .have e' :=h1.symm.trans e;have b:atKey (q::qs) k=some q.2:=by simp[atKey,e']
   rw[Kn e,b];exact h2
  .have e':¬ q.1=k:=λz=>e (h1.trans z)
   have b:atKey (q::qs) k=atKey qs k:=by simp[atKey,e']
   rw[Ko e,b];exact ih
theorem KT.repl(r:KT H kvs xs)(k)(ry:Af y u) :
  KT H (kvs.map λkv=>if kv.1=k then (kv.1,y) else kv) (xs.map (putAt k u)):=by
 induction r with
 |nil=>exact .nil
 |@cons p q ps qs h t ih =>
  refine .cons ?_ ih;unfold putAt
  grind
theorem KT.put{H:Hp}(r:KT H kvs xs)(k:List Key){y:V}(hb:H b=some (.tup (k.map kV)))(ry:Af y u) :
  KT H (Dp kvs k y) (storedH xs k b u):=by
 have e:(kvs.any λkv=>decide (kv.1=k))=(atKey xs k).isSome:=by
  rw[TF,(r.val k).isSome_eq,Option.isSome_map]
 unfold Dp storedH;rw[e]
 by_cases q:(atKey xs k).isSome=true
 .rw[if_pos q,if_pos q];exact r.repl k ry
 .rw[if_neg q,if_neg q];exact Paired.snoc r ⟨rfl,hb,ry⟩
theorem KT.keeps(r:KT H kvs xs)(ht:∀b ys,H b=some (.tup ys)->H' b=some (.tup ys)):KT H' kvs xs :=
 Paired.mapP r λ_ _ z=>⟨z.1,ht _ _ z.2.1,z.2.2⟩
section
variable {P:Program}{w:World}{H:Hp}{h:Heap}{a:Addr}
theorem V3{u:HO}(ok:HOk P w H h)(e:Rd H a u):Ct P w H h a u:=e.ok ok
theorem aC(ok:HOk P w H h)(e:Rd H a (.dK kvs)):kvs.length<=sizeLine/\(a == sysModules)=false/\∃vs,KV kvs vs/\h.DictOf (DM P w) a vs :=
 V3 ok e
theorem aD(ok:HOk P w H h)(e:H a=some (.dK kvs)):kvs.length<=sizeLine/\(a == sysModules)=false/\∃vs,KV kvs vs/\h.DictOf (DM P w) a vs:=aC ok (.inl e)
theorem QF  (ok:HOk P w H h)(e:H a=some (.tup (ks.map kV))):(tupleKind (DM P w)).is h ks a:=by
 obtain⟨_,its,r,o,h1,h2,n,h3⟩:=(ok a _ e);exact⟨o,its.toArray,n,h1,h2,h3,by simpa using Y9 r⟩
theorem aA(ok:HOk P w H h)(e:Rd H a (.dT kvs)):kvs.length<=sizeLine/\(a == sysModules)=false /\
  ∃xs,KT H kvs xs/\h.DictOfH (tupleKind (DM P w)) a xs:=by
 obtain⟨z,y,xs,r,o,es,ep,h1,h2,h3,h4,h5⟩:=(V3 ok e);refine⟨z,y,xs,r,o,es,ep,h1,h2,h3,h4,λx hx=>?_,h5⟩
 have all:∀{l } {m },KT H l m->∀x∈m,(tupleKind (DM P w)).is h x.1 x.2.1:=by
  intro l m q
  induction q with
  |nil=>simp
  |@cons p q ps qs hq t ih =>
   intro x hx
   rcases(yaf.mp hx) with e|hx
   .exact QF ok (by grind)
   grind
 grind
theorem dt_of(ok:HOk P w H h)(e:H a=some (.dT kvs)):kvs.length<=sizeLine/\(a == sysModules)=false /\
  ∃xs,KT H kvs xs/\h.DictOfH (tupleKind (DM P w)) a xs:=aA ok (.inl e)
end
def JK(H:Hp)(a:Addr)(y:V)(r:Option V):Prop :=
 (∃kvs k,Rd H a (.dK kvs)/\y=kV k/\r=Dl kvs k)\/∃kvs k b,Rd H a (.dT kvs)/\y=.ref b/\H b=some (.tup (k.map kV))/\r=Dl kvs k
def JJ(H:Hp)(a:Addr)(y v:V)(H':Hp):Prop :=
 (∃kvs k,H a=some (.dK kvs)/\y=kV k/\kvs.length<sizeLine/\H'=upd H a (.dK (Dp kvs k v))) \/
 ∃kvs k b,H a=some (.dT kvs)/\y=.ref b/\H b=some (.tup (k.map kV))/\kvs.length<sizeLine/\H'=upd H a (.dT (Dp kvs k v))
theorem JK.k{k}(e:H a=some (.dK kvs)):JK H a (kV k) (Dl kvs k):=.inl ⟨kvs,k,.inl e,rfl,rfl⟩
theorem JK.t{k}(e:H a=some (.dT kvs))(eb:H b=some (.tup (k.map kV))):JK H a (.ref b) (Dl kvs k):=.inr ⟨kvs,k,b,.inl e,rfl,eb,rfl⟩
theorem JJ.k{k}(e:H a=some (.dK kvs))(hl:kvs.length<sizeLine):JJ H a (kV k) v (upd H a (.dK (Dp kvs k v))):=.inl ⟨kvs,k,e,rfl,hl,rfl⟩
theorem JJ.t{k}(e:H a=some (.dT kvs))(eb:H b=some (.tup (k.map kV)))(hl:kvs.length<sizeLine) :
  JJ H a (.ref b) v (upd H a (.dT (Dp kvs k v))):=.inr ⟨kvs,k,b,e,rfl,eb,hl,rfl⟩
section
variable {X:Cx}{pins:List (Addr×Obj)}{σ:St}{H:Hp}{s:Shared}{a:Addr}{y v:V}{u r:Value}{o:Option V}{A:Around}{E:Value->Shared->Prop}
theorem Inv.big(I:Inv X pins σ H s):sysModules<s.heap.objs.size:=by
 have h :=(I.mod.glob.keeps I.bk).lt;exact yck (by decide) h
theorem zg8  (hu:A.units+1<cLine)(I:Inv X pins σ H s)(g:JK H a y (some v))(ry:Af y u)(h:∀w' s',Inv X pins σ H s'->Af v w'->Q w' s') :
  wpAny (model X.prog X.w) A (getItem (.ref a) u) Q E s:=by
 rcases g with ⟨kvs,k,e,ey,l⟩|⟨kvs,k,b,e,ey,eb,l⟩
 .subst ey;obtain⟨z,hd,vs,rel,dd⟩:=aC I.hok e;obtain⟨w',hw,rw'⟩:=DU.some_of (by rw[l];exact rel.val k)
  exact wpAny_getItem_of (QG ry) dd.mapOf hw (h w' _ (I.tok _) rw')
 .subst ey;cases (ry);obtain⟨z,hd,xs,rel,dd⟩:=aA I.hok e;obtain⟨w',hw,rw'⟩:=DU.some_of (by rw[l];exact rel.val k)
  obtain⟨p,hp,hp2⟩:=yad.mp hw;refine wpAny_getItem_heap (tupleKind_room_in1 hu) (QF I.hok eb) dd hp ?_;rw[hp2];exact h w' _ (I.tok _) rw'
theorem aH    (I:Inv X pins σ H s)(mu:K3 (H a))(hs:Heap.SameBut a s.heap h')(he:∃q,h'.get? a=some q)(new:Ct X.prog X.w (upd H a ob) h' a ob) :
  Inv X pins σ (upd H a ob) { s with heap:=h',toks:=t' } :=
 I.write mu (.inl rfl) (λb q hb z=>(hs.2 b hb).trans z) he new
theorem zot(z:kvs.length<=sizeLine)(hd:(a == sysModules)=false)(rel:KV kvs vs)(dd:h'.DictOf (DM P w) a vs) :
  Ct P w H' h' a (.dK kvs):=⟨z,hd,vs,rel,dd⟩
theorem zg7   (hu:A.units+1<cLine)(I:Inv X pins σ H s)(g:JJ H a y v H')(ry:Af y u)(rv:Af v r)(h:∀s',Inv X pins σ H' s'->Q () s') :
  wpAny (model X.prog X.w) A (setItem (.ref a) u r) Q E s:=by
 rcases g with ⟨kvs,k,e,ey,l,eH⟩|⟨kvs,k,b,e,ey,eb,l,eH⟩
 .subst ey eH;obtain⟨z,hd,vs,rel,dd⟩:=aD I.hok e;have hz:vs.length<=sizeLine:=by rw[<- rel.length];exact z
  have hl:(Dp kvs k v).length<=sizeLine:=by have:=YQ kvs k v;omega
  refine wpAny_setItem_pairs (QG ry) dd λh' dd' hs=>h _ ?_
  have he:∃q,h'.get? a=some q:=let ⟨q,_,_,hq,_⟩:=dd';⟨q,hq⟩;exact aH I (by rw[e];exact True.intro) hs he (zot hl hd (rel.put k rv) dd')
 .subst ey eH;cases (ry);obtain⟨z,hd,xs,rel,dd⟩:=dt_of I.hok e;have hz:xs.length<=sizeLine:=by rw[<- ydd rel];exact z
  have hl:(Dp kvs k v).length<=sizeLine:=by have:=YQ kvs k v;omega
  refine wpAny_setItem_heap (tupleKind_room_in1 hu) (QF I.hok eb) dd λh' dd' hs=>h _ ?_
  obtain⟨q,es,ep,hq,h2,h3,h4,_,h5⟩:=dd';refine aH I (by rw[e];exact True.intro) hs ⟨q,hq⟩ ⟨hl,hd,_,(rel.put k eb rv).keeps λc ys ec=>?_,q,es,ep,hq,h2,h3,h4,h5⟩
  rw[BG (ne_of ec e (λz=>nomatch z))]
  exact ec
end
section
variable {X:Cx}{pins:List (Addr×Obj)}{σ:St}{H:Hp}{s:Shared}{a:Addr}{kvs:List (Key×V)}{k:Key}{u:Value}{A:Around}{E:Value->Shared->Prop}
end
section
variable {X:Cx}{o i e value:Expr}{pos pos' tpos:Pos}{td ty tv:TE}
end
theorem zid(h:Heap)(hb:sysModules<h.objs.size):Ct P w H (h.push { cls:=.type "dict",data:=.dict #[]}) h.objs.size (.dK []) :=
 ⟨ybk _,beq_eq_false_iff_ne.mpr (yao (yah hb)),[],.nil,Heap.DictOf.new h⟩
section
variable {X:Cx}{pos:Pos}
end
section
variable {X:Cx}{pins:List (Addr×Obj)}{σ:St}{H:Hp}{s:Shared}{a:Addr}{y d:V}{u r:Value}{o:Option V}{A:Around}{E:Value->Shared->Prop}
end
section
variable {X:Cx}{o e f:Expr}{apos cpos:Pos}{td ty tx:TE}
end
section
variable {X:Cx}{pins:List (Addr×Obj)}{σ:St}{H:Hp}{s:Shared}{a:Addr}{kvs:List (Key×V)}{A:Around}{E:Value->Shared->Prop}
end
section
variable {X:Cx}{pins:List (Addr×Obj)}{σ:St}{H:Hp}{s:Shared}{a:Addr}{y:V}{u:Value}{A:Around}{E:Value->Shared->Prop}
end
end L2
namespace Zm
theorem zi7(a b):Int.gcd b (a.fmod b)=Int.gcd a b:=by
 rw[Int.fmod_def,Int.gcd_comm a b];simp
theorem fmod_less(a:Int)(h:b≠0):(a.fmod b).natAbs<b.natAbs:=by
 rcases Int.lt_or_gt_of_ne h with hb|hb
 .have e:a.fmod b=-((-a).fmod (-b)):=by simp
  have h1:=yb8 (-a) (show 0 < -b by omega)
  have h2:=yc1 (-a) (show 0 < -b by omega)
  omega
 .have h1:=yb8 a hb;have h2:=yc1 a hb
  omega
noncomputable def gd(a b:Int):Int:=(Int.gcd a b:Nat)
theorem gd_turn(hg:gd a b=gd a0 b0):gd b (a.fmod b)=gd a0 b0:=by
 rw[<- hg];unfold gd;rw[zi7]
theorem gd_abs(a b):gd (if a<0 then -a else a) (if b<0 then -b else b)=gd a b:=by
 unfold gd
 have e1:Int.gcd (if a<0 then -a else a) (if b<0 then -b else b)=Int.gcd a b:=by
  split<;>split<;>simp[Int.gcd_neg]
 rw[e1]
theorem gd_pos{a b:Int}(h:b≠0):0<gd a b:=by
 unfold gd
 simp_all
theorem gd_le(h:0<b):gd a b<=b:=by
 exact Int.le_of_dvd h (Int.gcd_dvd_right a b)
def lt(t b:Int):Int:=t.fdiv (gd t b)
def lb(t b:Int):Int:=b.fdiv (gd t b)
theorem Zn{x g:Int}(hg:g≠0)(h:g ∣ x):x.fdiv g * g=x:=by
 rw[ybn];exact Int.mul_fdiv_cancel' h
theorem lt_mul(h:b≠0):lt t b * gd t b=t:=by
 exact Zn (by have:=gd_pos (a:=t) h;omega) (Int.gcd_dvd_left t b)
theorem lb_mul(h:b≠0):lb t b * gd t b=b:=by
 exact Zn (by have:=gd_pos (a:=t) h;omega) (Int.gcd_dvd_right t b)
theorem lb_pos(h:0<b):0<lb t b:=by
 have h1:=lb_mul (t:=t) (show b≠0 by omega)
 have h2:=gd_pos (a:=t) (show b≠0 by omega)
 rcases Int.lt_or_le 0 (lb t b) with q|q
 .exact q
 .have:=Int.mul_nonpos_of_nonpos_of_nonneg q (ycl h2)
  omega
theorem zf3{x g:Int}(h:0<g):x.natAbs<=(x * g).natAbs:=by
 rw[Int.natAbs_mul];exact Nat.le_mul_of_pos_right _ (by omega)
theorem lb_le(h:0<b):lb t b<=b:=by
 have h1:=lb_mul (t:=t) (show b≠0 by omega)
 have h2:=zf3 (x:=lb t b) (gd_pos (a:=t) (show b≠0 by omega))
 grind
def sg(t b:Int):Int:=if b<0 then -(gd t b) else gd t b
end Zm
namespace Zw
open PySem PySem.Spec PyProof.Rows L2
def Sm(i:Int):Prop:=-(10 ^ 70)<i/\i<10 ^ 70
theorem Sm.nat{i:Int}(h:Sm i):i.natAbs<10 ^ 70:=by
 unfold Sm at h
 omega
theorem zmy:10 ^ 70<=2 ^ 300:=by decide +kernel
theorem Sm.log(h:Sm i):i.natAbs.log2<300:=by
 by_cases z:i.natAbs=0
 .simp_all
 .exact(Nat.log2_lt z).mpr (yae h.nat zmy)
theorem Sm.bits(h:Sm i):Builtin.Int.intBits i<=2 ^ 20:=by
 have q:=h.log;unfold Builtin.Int.intBits
 grind
theorem Sm.of{i:Int}(h1:-(10 ^ 70)<i)(h2:i<10 ^ 70):Sm i:=⟨h1,h2⟩
theorem Sm.abs(h:i.natAbs<=m)(hm:m<10 ^ 70):Sm i:=by
 constructor<;>omega
section
variable {X:Cx}
theorem zk5:Ak X (binaryOp .Mult) (rI (λi j=>Sm i/\Sm j) λi j=>.int (i * j)):=J4 λ_ _ _ _ _ _ _ hc q=>mul_int q (.of_bits hc.1.bits hc.2.bits)
theorem zhl:Ak X (binaryOp .FloorDiv) (rI (λ_ j=>j≠0/\Sm j) λi j=>.int (i.fdiv j)) :=
 J4 λ_ _ _ _ _ _ _ hc q=>floordiv_int hc.1 q (.inl (PyProof.noPylong_of_log2 (yck hc.2.log (by decide))))
theorem Yc(r:Af x v):PySem.plainIs v (.bool b)=true/\(v == Value.bool b)=decide (x=V.bl b):=by
 cases x with
 |non=>cases r;exact⟨rfl,by simp⟩
 |bl c=>cases r;exact⟨rfl,by grind⟩
 |int i=>obtain⟨t,rfl⟩:=r;exact⟨rfl,by simp⟩
 |str i=>obtain⟨t,rfl⟩:=r;exact⟨rfl,by simp⟩
 |byt i=>obtain⟨t,rfl⟩:=r;exact⟨rfl,by simp⟩
 |flt i=>obtain⟨t,rfl⟩:=r;exact⟨rfl,by simp⟩
 |ref i=>cases r;exact⟨rfl,by simp⟩
 |ty i=>cases r;exact⟨rfl,by simp⟩
theorem znh:Ak X (compareOp .Is) (λx y H Q=>∃b,y=.bl b/\Q (.bl (decide (x=.bl b))) H):=by
 intro pins s σ H x y v u Q I rx ry h;obtain⟨b,rfl,q⟩:=h;cases ry;obtain⟨e1,e2⟩:=Yc rx;exact wpAny_is_plain e1 (Js I q e2.symm)
theorem zk4:Ak X (compareOp .IsNot) (λx y H Q=>∃b,y=.bl b/\Q (.bl (!decide (x=.bl b))) H):=by
 intro pins s σ H x y v u Q I rx ry h;obtain⟨b,rfl,q⟩:=h;cases ry;obtain⟨e1,e2⟩:=Yc rx;exact wpAny_isNot_plain e1 (Js I q (by rw[e2]))
theorem zik :Bs X (.builtin "isinstance") (λxs H Q=>∃x t b,xs=[x,.ty c]/\TyOf X.K H x t/\PySem.W.kitOne X.K t (.type c)=some b/\Q (.bl b) H):=by
 intro pins s σ H xs us Q I r h;obtain⟨x,t,b,rfl,ty,e,q⟩:=h;obtain⟨u,w',rfl,rx,ry⟩:=Hw r;cases ry;exact QJ I rx ty e λtk=>⟨.bl b,H,I.tok _,rfl,q⟩
end
section
variable {X:Cx}
end
section
variable {X:Cx}{pos:Pos}
end
section
variable {X:Cx}
end
theorem zdh:PySem.W.kitMeta "int"=true:=by decide +kernel
theorem zco:PySem.W.kitMeta "bool"=true:=by decide +kernel
theorem zc4:PySem.W.kitMeta "tuple"=true:=by decide +kernel
theorem zhw(K)(c):PySem.W.kitOne K (.type c) (.type c)=some true:=by
 unfold PySem.W.kitOne;simp
theorem zo5(K){l:List Value}(h:t≠c)(hm:PySem.W.kitMeta c=true)(hl:(fastBuiltinMro t).map (·.contains (Value.type c))=some b):PySem.W.kitOne K (.type t) (.type c)=some b:=by
 unfold PySem.W.kitOne;rw[if_neg (by simpa using h)]
 show(if PySem.W.kitMeta c=true then PySem.W.subIn K (.type t) (.type c) else none)=some b
 rw[if_pos hm];exact hl
inductive Known(H:Hp):V->Prop where
 |non:Known H .non
 |bl (b:Bool):Known H (.bl b)
 |int (i:Int):Known H (.int i)
 |str (x:Str):Known H (.str x)
 |lst {p:Addr} {xs:List V} (e:H p=some (.lst xs)):Known H (.ref p)
 |tup {p:Addr} {xs:List V} (e:H p=some (.tup xs)):Known H (.ref p)
 |dic {p:Addr} {kvs:List (Key×V)} (e:H p=some (.dK kvs)):Known H (.ref p)
theorem Known.same(h:Known H x)(s:Aa H H'):Known H' x:=by
 cases h with
 |non=>exact .non
 |bl b=>exact .bl b
 |int i=>exact .int i
 |str y=>exact .str y
 |lst e=>exact .lst (s _ _ e)
 |tup e=>exact .tup (s _ _ e)
 |dic e=>exact .dic (s _ _ e)
structure FunD(K:k6)(x qual:Str)(st:Stmt)(f:Addr)(fd:FuncData):Prop where
 ex:∃(oc:Value) (od:Option Addr) (dV kV doc pm:Value) (an:Option Addr) (cdv ct:Value) (osl:Array (Option Value)),
  fd=PySem.W.fnOf x qual (Ig st) (Eh st) (CD st) dV kV doc pm an cdv ct/\K.lookup f=some ⟨oc,od,.func fd,osl⟩/\PySem.W.codeIn K cdv qual=true
 kp:PySem.W.keepIn K (.ref f)=true
theorem FunD.ok{K}{st}(F:FunD K x qual st f fd)(S:FnScope N ps (CD st))(len:∀vs H Q E,sp vs H Q E->vs.length=ps.length)
  (hbody : ∀ (cdv ) (A ) (outer ) (s ) (H ) (vs ) (Q ) (E ), Room k (A.deeper (envOfC qual (CD st) s.heap.objs.size f cdv)) -> sp vs H Q E ->
   ∃t,Be (Ei FL P w K mg base N qual (CD st) f cdv A outer s H E).nox (Eh st) t/\t { nx:=λ_ H'=>Q .non H',rt:=Q } (start N vs) H):FnOk P w K mg base FL (k+1) f fd ps sp:=by
 obtain⟨oc,od,dV,kV,doc,pm,an,cdv,ct,osl,rfl,lk,hcd⟩:=F.ex;refine Q3 lk hcd S len λA outer s H vs Q E hr hsp=>?_
 obtain⟨t,h,q⟩:=hbody cdv A outer s H vs Q E hr hsp;exact⟨t,h.nox,q⟩
theorem zl1{K}{st}{dV kV doc pm cdv ct}(l:K.lookup f=some ⟨oc,od,.func (PySem.W.fnOf x qual (Ig st) (Eh st) (CD st) dV kV doc pm an cdv ct),osl⟩)
  (c:PySem.W.codeIn K cdv qual=true) (k:PySem.W.keepIn K (.ref f)=true):FunD K x qual st f (PySem.W.fnOf x qual (Ig st) (Eh st) (CD st) dV kV doc pm an cdv ct):=⟨⟨oc,od,dV,kV,doc,pm,an,cdv,ct,osl,rfl,l,c⟩,k⟩
structure Tx(K:k6)(mg:Str->Option Value)(x:Str)(st:Stmt)(ps:List Str) where
 f:Addr
 fd:FuncData
 F:FunD K x x st f fd
 m:mg x=some (.ref f)
 b:CO K fd ps []
structure Def(P:Program)(w:World)(K:k6)(mg:Str->Option Value)(base:Heap)(k:Nat)(x:Str)(ps:List Str)(sp:Sp) where
 f:Addr
 fd:FuncData
 ok:FnOk P w K mg base FL k f fd ps sp
 m:mg x=some (.ref f)
 kp:PySem.W.keepIn K (.ref f)=true
 b:CO K fd ps []
section
variable {X:Cx}{k j:Nat}{x:Str}{ps:List Str}{sp:Sp}{p pos:Pos}{e:Expr}{es:List Expr}{t:TA}
theorem pd(D:Def X.prog X.w X.K X.mg X.base k x ps sp)(hr:Room j X.A)(ha:PA X (e::es) t)(hk:k<=j:=by decide)(hg:Gl X x:=by rfl)(hdb:(x == "__debug__")=false:=by decide)
  (he:starEach (e::es) X.env=(false,eval e X.env)::starEach es X.env:=by rfl) (hpl:(backTo pos (starEach es X.env)).any (·.1)=false:=by rfl) :
  PE X (.Call (.Name x p) (e::es) [] pos) (Th sp [] E0 t):=zk0 D.ok (hr.mono hk) hg D.m D.kp D.b .nil pass0 ha hdb he hpl
end
theorem LG(h:H p=none)(o):Aa H (upd H p o):=λb u q=>by
 rw[BG (Cm q h)];exact q
def K8(H:Hp)(p:Addr)(a b:Int):Prop:=H p=some (.tup [.int a,.int b])
theorem K8.same(h:K8 H p a b)(s:Aa H H'):K8 H' p a b:=s _ _ h
theorem K8.new:K8 (upd H p (.tup [.int a,.int b])) p a b:=Cf
theorem sz{n:Nat}(h:n<=1000:=by exact Nat.le_of_ble_eq_true rfl):n<=sizeLine:=yd5 (zfb h)
noncomputable def zou(X:Cx)(scope:Scope)(cl:List (Str×Addr))(N':List Str)(C:Addr)(s₀:Shared)(H₀:Hp)(ex:List Addr):Cx :=
 { X with N:=N',s₀:=s₀,H₀:=H₀,env:=compEnvC scope cl C X.env,outer:=X.stack,ex:=ex,fn:=λ_=>false,xe:=λ_ _=>False }
theorem HOk.adopt(x:HOk P w H h)(hn:H a=none)(new:Ct P w (upd H a o) h a o):HOk P w (upd H a o) h:=λb u e=>by
 by_cases hb:b=a
 .subst hb;rw[Cf]at e
  grind
 .rw[BG hb]at e;exact(x b u e).stay (λc v _ q=>q) (λc q=>by rw[BG (Cm q hn)];exact q) λc xs q=>by rw[BG (Cm q hn)];exact q
section
variable {X:Cx}{elt iter tg:Expr}{scope:Scope}{pos:Pos}{cl:List (Str×Addr)}{N':List Str}{wi:TI}{g:TG}{te:TE}
end
end Zw
namespace Zx
open PySem PySem.Spec PyProof.Rows L2 Zw
def M6(h B:Heap)(a:Addr)(cls:Value×Option Addr)(fl:Value):Prop :=
 ∃oe vs T oT ts,h.get? a=some oe/\((oe.cls,oe.dict)=cls/\vs[2]?=some .none)/\oe.data=.fields vs/\vs[1]?=some (.ref T)/\B.get? T=none/\T≠a/\h.get? T=some oT/\oT.data=.fields ts/\ts[3]?=some fl
def GH(B:Heap)(l:List Env)(a:Addr)(cls:Value×Option Addr)(h:Heap):Prop:=B.StaysIn h/\B.get? a=none/\h.FunFrames B l/\M6 h B a cls .none
def S9(B:Heap)(l:List Env)(a:Addr)(cls:Value×Option Addr)(L:Addr)(h:Heap):Prop:=B.StaysIn h/\B.get? a=none/\h.FunFrames B l/\M6 h B a cls (rawInt L)
theorem GH.first(x:GH B l a cls h):∃oe vs,h.get? a=some oe/\(oe.cls,oe.dict)=cls/\oe.data=.fields vs/\vs[2]?=some .none :=
 let ⟨_,_,_,oe,vs,_,_,_,he,hc,hd,_⟩:=x;⟨oe,vs,he,hc.1,hd,hc.2⟩
theorem GH.there(x:GH B l a cls h):∃ob,h.get? a=some ob/\ob.cls=cls.1 :=
 let ⟨oe,_,he,hc,_⟩:=x.first;⟨oe,he,congrArg Prod.fst hc⟩
theorem zfm(f)(o):((Obj.mapFields f o).cls,(Obj.mapFields f o).dict)=(o.cls,o.dict):=by
 unfold Obj.mapFields;split<;>rfl
section
variable {M:Model}{A:Around}{E:Value->Shared->Prop}{s:Shared}{B:Heap}{env v:Env}{l:List Env}{L a:Addr}{cls:Value×Option Addr}{Q:Unit->Shared->Prop}
theorem Zu     (hfr:A.frames=some (v::l))(hl:s.heap.FunFrames B (v::l))(hL:v.frame=some L)(he:s.heap.get? a=some oe)(hk:B.StaysIn s.heap)(ha:B.get? a=none)
  (hd:oe.data=.fields vs) (hsz:1<vs.size) (h2:vs[2]?=some .none) (h:∀h',S9 B (v::l) a (oe.cls,oe.dict) L h'->s.heap.UpToSlots h'->Q () { s with heap:=h' }) :
  wpAny M A (do let f <- frameOf v;let pl <- entryPlaceOf L hn;let b <- EntryCells.newEntry head f .none (rawInt L) .none pl;setField (.ref a) 1 b) Q E s:=by
 have nof:a∉(v::l).filterMap (·.frame):=λz=>by
  obtain⟨_,o,ho,n⟩:=hl.mem z;rw[he]at ho;cases ho;exact n vs hd
 refine ydp (wpAny_frameOf_fun hfr hl hL λh1 k1=>?_)
 refine ydp (wpAny_entryPlaceOf λpl hpl=>?_)
 unfold EntryCells.newEntry newFields;refine ydp (wpAny_newObj_type ?_ (hpl.sizeOk5 _ _ _ _ _));have e1 :=(k1.2.1 a nof).trans he;have b1:B.StaysIn h1:=λb o q=>(k1.2.1 b λz=>by rw[(hl.mem z).1]at q;cases q).trans (hk b o q)
 have ne :=Nat.ne_of_gt (ya5 e1);refine ye2 (ya4 _ e1) hd hsz ?_;have hd3:=ycp hd (·.setIfInBounds 1 (Value.ref h1.objs.size));have kp:∀nw b o,b≠a->h1.get? b=some o->((h1.push nw).update a (Obj.mapFields (·.setIfInBounds 1 (Value.ref h1.objs.size)))).get? b=some o:=λnw b o n q=>(yb2 _ _ (yao n)).trans (ya4 _ q)
 have nr:∀b o,s.heap.get? b=some o->(∀ws,o.data≠.fields ws)->b≠a:=λb o q n z=>by
  rw[z,he]at q;cases q;exact n vs hd
 have sm:∀nw,s.heap.UpToSlots ((h1.push nw).update a (Obj.mapFields (·.setIfInBounds 1 (Value.ref h1.objs.size)))):=λnw b o q n=>by
  obtain⟨sl,q1⟩:=k1.2.2 b o q;exact⟨sl,kp nw b _ (nr b o q n) q1⟩
 refine h _ ⟨λb o q=>kp _ b o (λz=>by rw[z,ha]at q;cases q) (b1 b o q),ha,hl.of_keeps λb o q n=>?_,_,_,h1.objs.size,_,_,yc8 _ (ya4 _ e1) (yd2 hd3),⟨by rw[zfm],?_⟩,hd3,by simp[hsz],b1.fresh,ne,
  (yb2 _ _ (yao ne)).trans (yan h1 rfl),rfl,?_⟩ (sm _)
 .obtain⟨sl,q1⟩:=sm _ b o q n;exact⟨_,q1,rfl⟩
 .rw[Array.getElem?_setIfInBounds_ne (by decide)]
  exact h2
 .first|(simp;done)|(rcases hpl with rfl|⟨_,_,_,_,_,_,_,rfl⟩<;>simp)
theorem zl2  (hk:B.StaysIn s.heap)(ha:B.get? a=none)(hl:s.heap.FunFrames B l)(ht:M6 s.heap B a cls fl)(h:∀h',GH B l a cls h'->s.heap.UpToSlots h'->Q () { s with heap:=h' }):wpAny M A (setFlight (.ref a) none) Q E s:=by
 obtain⟨oe,vs,T,oT,ts,he,hc,hd,g1,nT,Tne,hT,dT,g3⟩:=ht;have s3:3<ts.size:=(ybf.mp g3).1;have oth:∀b,b≠T->(s.heap.update T (Obj.mapFields (·.setIfInBounds 3 ((none:Option Addr).elim Value.none λf=>rawInt f)))).get? b=s.heap.get? b:=λb hb=>yb2 _ _ (yao hb)
 have nr:∀b o,s.heap.get? b=some o->(∀ws,o.data≠.fields ws)->b≠T:=λb o q n z=>by
  rw[z,hT]at q;cases q;exact n ts dT
 unfold setFlight;refine ydp (ye3 he hd g1 ?_);rw[if_pos (by simp)]
 exact ye2 hT dT s3 (h _ ⟨λb o q=>(oth b λz=>by rw[z,nT]at q;cases q).trans (hk b o q),ha,hl.of_keeps λb o q n=>⟨o,(oth b (nr b o q n)).trans q,rfl⟩,
  oe,vs,T,_,_,(oth a (yao Tne)).trans he,hc,hd,g1,nT,Tne,yc8 _ hT (yd2 (ycp dT _)),ycp dT _,by simp[s3]⟩ λb o q n=>⟨o.slots,(oth b (nr b o q n)).trans q⟩)
theorem YW(hh:S9 B l a cls L s.heap)(hQ:∀h',GH B l a cls h'->s.heap.UpToSlots h'->Q () { s with heap:=h' }):wpAny M A (setFlight (.ref a) none) Q E s :=
 zl2 hh.1 hh.2.1 hh.2.2.1 hh.2.2.2 hQ
structure MadeO(h h':Heap)(a:Addr)(cls:Value×Option Addr):Prop where
 keeps:∀b o,h.get? b=some o->h'.get? b=some o
 new:h.get? a=none
 there:∃oe t,h'.get? a=some oe/\(oe.cls,oe.dict)=cls/\oe.data=.fields #[.ref t,.none,.none,.none,.bool false,.none]
theorem madeO(hx:Heap.MadeExcOf h h' a c args):MadeO h h' a (c,none) :=
 ⟨hx.keeps,hx.new,let ⟨t,he,_,_⟩:=hx.there;⟨_,t,he,rfl,rfl⟩⟩
theorem madeX  (hfr:A.frames=some (v::l))(hL:v.frame=some L)(hk:B.StaysIn h)(hl:h.FunFrames B (v::l))(hx:MadeO h s.heap a cls)
  (hQ:∀h',GH B l a cls h'->s.heap.UpToSlots h'->Q () { s with heap:=h' }):wpAny M A (leaving v (.ref a)) Q E s:=by
 obtain⟨oe,t,he,rfl,hd⟩:=hx.there
 have fr:B.get? a=none:=by
  cases q:B.get? a with
  |none=>rfl
  |some o =>
   have:=hk a o q;rw[hx.new]at this;cases this
 unfold leaving noteFrame;simp only[hL];refine ydp (ydp (ye3 he hd rfl ?_));refine Zu hfr (hl.of_keeps λb o q _=>⟨o,hx.keeps b o q,rfl⟩) hL he (λb o q=>hx.keeps b o (hk b o q)) fr hd (by simp) rfl λh1 k1 sm=>YW k1 λh2 k2 sm2=>?_
 obtain⟨k1,k2,⟨_,_,k3⟩,k4⟩:=k2;exact hQ h2 ⟨k1,k2,k3,k4⟩ (sm.trans sm2)
end
def NG(B:Heap)(l:List Env)(a:Addr)(cls:Value×Option Addr)(h:Heap):Prop:=∃fl,B.StaysIn h/\B.get? a=none/\h.FunFrames B l/\M6 h B a cls fl
theorem Zf(x:GH B l a cls h):NG B l a cls h:=⟨.none,x⟩
section
variable {M:Model}{A:Around}{E:Value->Shared->Prop}{s:Shared}{B:Heap}{env v:Env}{l:List Env}{L a:Addr}{cls:Value×Option Addr}{Q:Unit->Shared->Prop}
theorem Xm(hfr:A.frames=some (v::l))(hv:env.frame=v.frame)(hL:v.frame=some L)(hx:NG B (v::l) a cls s.heap)(hQ:∀h',S9 B (v::l) a cls L h'->s.heap.UpToSlots h'->Q () { s with heap:=h' }):wpAny M A (noteFrame (.ref a) env) Q E s:=by
 have en:noteFrame (.ref a) env=noteFrame (.ref a) v:=by
  unfold noteFrame PySem.frameOf;rw[hv]
 rw[en];obtain⟨fl,f1,f2,f3,f4⟩:=hx
 by_cases hfl:fl=rawInt L
 .subst hfl;obtain⟨oe,ws,Tb,oT,ts,ha,_,hd,g1,_,_,hT,dT,g3⟩:=id f4;unfold noteFrame;simp only[hL];refine ydp (ye3 ha hd g1 ?_);rw[if_pos (by simp)]
  refine ydp (ye3 hT dT g3 ?_);rw[if_pos (by simp)]
  exact ydt (hQ _ ⟨f1,f2,f3,f4⟩ (.refl _))
 .obtain⟨oe,ws,Tb,oT,ts,ha,⟨rfl,g0⟩,hd,g1,nT,Tne,hT,dT,g3⟩:=f4;have g3s:=(ybf.mp g3).1;have oth:∀b,b≠Tb->(s.heap.update Tb (Obj.mapFields (·.setIfInBounds 3 Value.none))).get? b=s.heap.get? b:=λb hb=>yb2 _ _ (yao hb)
  have nr:∀b o,s.heap.get? b=some o->(∀us,o.data≠.fields us)->b≠Tb:=λb o hb hn z=>by
   rw[z,hT]at hb;cases hb;exact hn ts dT
  unfold noteFrame;simp only[hL];refine ydp (ye3 ha hd g1 ?_);rw[if_pos (by simp)]
  refine ydp (ye3 hT dT g3 ?_);rw[if_neg (λz=>hfl (beq_iff_eq.mp z))]
  refine ydp (ye2 hT dT g3s ?_);refine Zu hfr (f3.of_keeps λb o hb hn=>⟨o,(oth b (nr b o hb hn)).trans hb,rfl⟩) hL ((oth a (yao Tne)).trans ha) (λb o hb=>(oth b λz=>by rw[z,nT]at hb;cases hb).trans (f1 b o hb)) f2 hd (ybf.mp g1).1 g0 λh' k k4=>?_
  exact hQ h' k λb o hb hn=>k4 b o ((oth b (nr b o hb hn)).trans hb) hn
theorem leavX(hfr:A.frames=some (v::l))(hL:v.frame=some L)(hx:NG B (v::l) a cls s.heap)(hQ:∀h',GH B l a cls h'->s.heap.UpToSlots h'->Q () { s with heap:=h' }):wpAny M A (leaving v (.ref a)) Q E s:=by
 refine ydp (Xm hfr rfl hL hx λh1 hh sm1=>YW hh λh2 hf sm2=>?_)
 obtain⟨k1,k2,⟨_,_,k3⟩,k4⟩:=hf;exact hQ h2 ⟨k1,k2,k3,k4⟩ (sm1.trans sm2)
end
def DH(P:Program)(w:World):FK:=λouter H s E e s'=>∃(a:Addr) (cls:Value×Option Addr) (H':Hp) (B:Heap),
 e=.ref a/\s'.os=s.os/\AllBare s'.gens/\Un (Bk outer) [] H H' s.heap s'.heap/\HOk P w H' B/\(∀b o,s.heap.get? b=some o->H b=none->b∉Bk outer->B.get? b=some o) /\
 (∀b o,s.heap.get? b=some o->b∉Bk outer->∃o',B.get? b=some o')/\NG B outer a cls s'.heap/\E cls.1 cls.2 H'
theorem zh1       (x:Ct P w H h a o):∃ob,h.get? a=some ob:=by
 cases o with
 |lst xs=>obtain⟨_,_,_,_,e⟩:=x;grind
 |tup xs=>obtain⟨_,_,_,o',e,_⟩:=x;grind
 |dK kvs=>obtain⟨_,_,_,_,o',_,_,e,_⟩:=x;grind
 |dT kvs=>obtain⟨_,_,_,_,o',_,_,e,_⟩:=x;grind
 |set S n=>obtain⟨o',_,_,_,e,_⟩:=x;grind
 |ins C dx fs=>obtain⟨_,_,_,e,_⟩:=x;grind
 |own y=>exact x
 |xd fs=>obtain⟨_,⟨o',_,_,e,_⟩,_⟩:=x;grind
 |rng lo hi=>obtain⟨_,_,_,e⟩:=x;grind
 |frz ob u=>obtain⟨e,_⟩:=x;exact⟨_,e⟩
 |tbl ps=>exact⟨_,(x)⟩
 |met f y=>exact⟨_,(x)⟩
 |ext φ=>obtain⟨_,e,_⟩:=x;exact e
theorem none_of(x:HOk P w H h)(e:h.get? a=none):H a=none:=by
 cases q:H a with
 |none=>rfl
 |some u =>
  obtain⟨ob,z⟩:=zh1 (x a u q)
  grind
def Bg(X:Cx)(E:L2.St->XK):Prop:=∀(pins:List (Addr×Obj)) (σ:L2.St) (H:Hp) (s:Shared) (e:Value) (s':Shared),Inv X pins σ H s->DH X.prog X.w X.stack H s (E σ) e s'->X.xe e s'
def SX(X:Cx)(E:L2.St->XK):Prop:=∀(pins:List (Addr×Obj)) (σ:L2.St) (H:Hp) (s:Shared) (a:Addr) (cls:Value) (vs:List Value) (h':Heap),Inv X pins σ H s->Heap.MadeExcOf s.heap h' a cls vs->E σ cls none H->X.xe (.ref a) { s with heap:=h' }
section
variable {X:Cx}{pins:List (Addr×Obj)}{σ:L2.St}{H:Hp}{s:Shared}
theorem L3(I:Inv X pins σ H s)(e:X.s₀.heap.get? b=some o)(hb:b∉Bk X.outer):b∉Bk X.stack:=λz=>by
 rcases yaf.mp (I.stkSub b z) with q|q
 .exact absurd (yae (ya5 e) I.ok.above) (by rw[q];exact yay _)
 .exact hb q
theorem zfa(hst:X.stack=X.env::X.outer)(hb:b∈Bk X.outer):b∈Bk X.stack:=by
 rw[hst];obtain⟨v,h1,h2⟩:=ybm.mp hb;exact ybm.mpr ⟨v,ya6 _ h1,h2⟩
theorem zoi(I:Inv X pins σ H s):HOk X.prog X.w H (PySem.W.hideAll s.heap (Bk X.stack)):=λb u e=>(I.hok b u e).stay (λc v hc q=>ybj _ q λz=>by
  have f:=I.stkFree c z
  grind) (λ_ q=>q) λ_ _ q=>q
theorem zkl(hst:X.stack=X.env::X.outer)(hf:X.env.frame=some X.env.locals)(hex:X.ex=[])       (I:Inv X pins σ H s)(hx:Heap.MadeExcOf s.heap h' a cls vs)(he:E cls none H) :
  wpAny (model X.prog X.w) X.A (leaving X.env (.ref a)) (λ_ s2=>DH X.prog X.w X.outer X.H₀ X.s₀ E (.ref a) s2) Ex { s with heap:=h' }:=by
 have nex:∀b ,b∉X.ex:=λb z=>by grind
 have hfr :=hst▸I.ok.frames
 have FF:s.heap.FunFrames (PySem.W.hideAll s.heap (Bk X.stack)) (X.env::X.outer):=by
  rw[<- hst];exact PySem.W.funFrames_hide I.stack λv hv b hb=>ybm.mpr ⟨v,hv,hb⟩
 refine madeX hfr hf (λb o q=>yby _ q) FF (madeO hx) λh2 fl sm=>?_
 have kB :=λb o e n hb=>ybj _ (I.base.keep b o e n hb (nex b)) (L3 I e hb)
 have tB:∀b o,X.s₀.heap.get? b=some o->b∉Bk X.outer->∃o',(PySem.W.hideAll s.heap (Bk X.stack)).get? b=some o':=λb o e hb=>by
  obtain⟨o',e'⟩:=I.base.there b o e (nex b);exact⟨o',ybj _ e' (L3 I e hb)⟩
 have sl:∀b o,X.s₀.heap.get? b=some o->X.H₀ b=none->b∈Bk X.outer->∃z,h2.get? b=some { o with slots:=z }:=λb o e n hb=>by
  obtain⟨z,e1⟩:=I.base.slot b o e n hb (nex b);obtain⟨_,o2,ho2,hd⟩:=I.funs.mem hb;rw[e1]at ho2;cases ho2;obtain⟨z3,e3⟩:=sm b { o with slots:=z } (hx.keeps b _ e1) hd
  exact⟨z3,e3⟩
 refine⟨a,(cls,none),H,_,rfl,I.os,I.bare,⟨λb o e n hb _=>fl.1 b o (kB b o e n hb),λb o e n hb _=>sl b o e n hb,λb o e n _=>I.base.free b o e n (nex b),λb o e _=>?_,I.base.tups,I.base.frzs,I.base.tbls⟩,zoi I,kB,tB,Zf fl,he⟩
 by_cases hb:b∈Bk X.outer
 .obtain⟨z,q⟩:=sl b o e (I.ok.frf b hb) hb;exact⟨_,q⟩
 .obtain⟨o',q⟩:=tB b o e hb;exact⟨o',fl.1 b o' q⟩
theorem zk2(hst:X.stack=X.env::X.outer)(hf:X.env.frame=some X.env.locals)(hex:X.ex=[])     (I:Inv X pins σ H s)(h:DH X.prog X.w X.stack H s E e s') :
  wpAny (model X.prog X.w) X.A (leaving X.env e) (λ_ s2=>DH X.prog X.w X.outer X.H₀ X.s₀ E e s2) Ex s':=by
 obtain⟨a,cls,H',B,rfl,os,bare,un,hok,kB0,tB0,fl0,he⟩:=h;have nex:∀b ,b∉X.ex:=λb z=>by rw[hex]at z;cases z
 have hfr :=hst▸I.ok.frames;have fl1 :=hst▸fl0;refine leavX hfr hf fl1 λh2 fl sm=>?_
 have kB :=λb o e n hb=>kB0 b o (I.base.keep b o e n hb (nex b)) (I.base.free b o e n (nex b)) (L3 I e hb)
 have tB:∀b o,X.s₀.heap.get? b=some o->b∉Bk X.outer->∃o',B.get? b=some o':=λb o e hb=>by
  obtain⟨o',e'⟩:=I.base.there b o e (nex b);exact tB0 b o' e' (L3 I e hb)
 have sl:∀b o,X.s₀.heap.get? b=some o->X.H₀ b=none->b∈Bk X.outer->∃z,h2.get? b=some { o with slots:=z }:=λb o e n hb=>by
  obtain⟨z,e1⟩:=I.base.slot b o e n hb (nex b);obtain⟨_,o2,ho2,hd⟩:=I.funs.mem hb;rw[e1]at ho2;cases ho2;obtain⟨z2,e2⟩:=un.slot b { o with slots:=z } e1 (I.base.free b o e n (nex b)) (zfa hst hb) (by simp)
  obtain⟨z3,e3⟩:=sm b { o with slots:=z2 } e2 hd
  exact⟨z3,e3⟩
 refine⟨a,cls,H',B,rfl,os.trans I.os,bare,⟨λb o e n hb _=>fl.1 b o (kB b o e n hb),λb o e n hb _=>sl b o e n hb,λb o e n _=>?_,λb o e _=>?_,λb xs e=>un.tups b xs (I.base.tups b xs e),λb o u e=>un.frzs b o u (I.base.frzs b o u e),λb ps e=>?_⟩,hok,kB,tB,Zf fl,he⟩
 .obtain⟨o',e'⟩:=I.base.there b o e (nex b);exact un.free b o' e' (I.base.free b o e n (nex b)) (by simp)
 .by_cases hb:b∈Bk X.outer
  .obtain⟨z,q⟩:=sl b o e (I.ok.frf b hb) hb;exact⟨_,q⟩
  .obtain⟨o',q⟩:=tB b o e hb;exact⟨o',fl.1 b o' q⟩
 .obtain⟨m1,e1⟩:=I.base.tbls b ps e;obtain⟨m2,e2⟩:=un.tbls b _ e1;exact⟨m1++m2,e2.trans (by rw[Array.append_assoc])⟩
end
section
variable {P:Program}{w:World}{K:k6}{mg:Str->Option Value}{base:Heap}
theorem Vw:Bg (Ei (DH P w) P w K mg base N qual sc f cd A outer s H E) (λ_=>E) :=
 λ_ _ _ _ _ _ I h=>zk2 rfl rfl rfl I h
theorem YC:SX (Ei (DH P w) P w K mg base N qual sc f cd A outer s H E) (λ_=>E) :=
 λ_ _ _ _ _ _ _ _ I hx he=>zkl rfl rfl rfl I hx he
theorem WH  {st }      (F:FunD K x qual st f fd)(S:FnScope N ps (CD st))(len:∀vs H Q E,sp vs H Q E->vs.length=ps.length)
  (hbody : ∀ (cdv ) (A ) (outer ) (s ) (H ) (vs ) (Q ) (E ), Room k (A.deeper (envOfC qual (CD st) s.heap.objs.size f cdv)) -> sp vs H Q E ->
   ∃t,Be (Ei (DH P w) P w K mg base N qual (CD st) f cdv A outer s H E) (Eh st) t/\t { nx:=λ_ H'=>Q .non H',rt:=Q } (start N vs) H):FnOk P w K mg base (DH P w) (k+1) f fd ps sp:=by
 obtain⟨oc,od,dV,kV,doc,pm,an,cdv,ct,osl,rfl,lk,hcd⟩:=F.ex;exact Q3 lk hcd S len λA outer s H vs Q E hr hsp=>hbody cdv A outer s H vs Q E hr hsp
end
structure DefX(P:Program)(w:World)(K:k6)(mg:Str->Option Value)(base:Heap)(k:Nat)(x:Str)(ps:List Str)(sp:Sp) where
 f:Addr
 fd:FuncData
 ok:FnOk P w K mg base (DH P w) k f fd ps sp
 m:mg x=some (.ref f)
 kp:PySem.W.keepIn K (.ref f)=true
 b:CO K fd ps []
structure DefsX(K:k6)(fd:FuncData)(ps:List Str)(dvs:List V):Prop where
 ex:∃ds,CO K fd ps ds/\Ad dvs ds
section
variable {X:Cx}{k j:Nat}{f:Addr}{fd:FuncData}{x:Str}{ps:List Str}{sp:Sp}{p pos:Pos}{e:Expr}{es:List Expr}{t:TA}{E:L2.St->XK}{dvs:List V}
theorem Nz  {σ:L2.St}      (F:FnOk X.prog X.w X.K X.mg X.base (DH X.prog X.w) k f fd ps sp)(hr:Room k X.A)(hb:CO X.K fd ps ds)(hd:Ad dvs ds)(hx:Bg X E)
  (I:Inv X pins σ H s) (r:Ad vs us) (h:sp (vs++dvs) H Q (E σ)):wpAny (model X.prog X.w) X.A (call (.ref f) us) (EP X pins σ Q) X.xe s:=by
 have r2 :=r.append hd;have hl :=r2.length.symm.trans (F.len _ _ _ _ h);refine ydw (ydx (F.run X.A X.stack s H ⟨us,[]⟩ (us++ds) (vs++dvs) Q (E σ) hr I.env0 (hb s us I.kIn hl) r2 h) λr s' hq=>?_)
 cases r with
 |error v=>exact hx pins σ H s v s' I hq
 |ok fl =>
  cases fl with
  |ret u=>exact I.after hq
  |_=>exact False.elim hq
def Tg(sp:Sp)(dvs:List V)(E:L2.St->XK)(t:TA):TE:=λσ H Q=>t σ H λvs H1=>sp (vs++dvs) H1 Q (E σ)
theorem px(D:DefX X.prog X.w X.K X.mg X.base k x ps sp)(hr:Room j X.A)(hx:Bg X E)(ha:PA X (e::es) t)(hk:k<=j:=by decide)(hg:Gl X x:=by rfl)(hdb:(x == "__debug__")=false:=by decide)
  (he:starEach (e::es) X.env=(false,eval e X.env)::starEach es X.env:=by rfl) (hpl:(backTo pos (starEach es X.env)).any (·.1)=false:=by rfl):PE X (.Call (.Name x p) (e::es) [] pos) (Tg sp [] E t):=by
 intro pins s σ H Q I h;refine ydy (Jf I hg D.m ?_ hdb);refine ycm I.ok.mod.kin D.kp (A6 (ha pos pins s σ H _ I h) λus s1 ⟨vs,H1,I1,r,q⟩=>⟨I1.kIn,?_⟩) he hpl
 exact Nz D.ok (hr.mono hk) D.b .nil hx I1 r q
end
noncomputable abbrev Sz:List Value:=[.type "ValueError",.type "Exception",.type "BaseException",.type "object"]
def MO(K:k6)(C:Addr):Bool:=match K.lookup C with
 |some ⟨.type "type",_,.cls k,l⟩=>(match k.mro,l.toList with|.ref D::r,[_,_,_,_,some (.builtin n),_]=>D == C && n == "ValueError.__new__" && !k.hasDel && PySem.W.tailIn K Sz r && PySem.W.nsOkIn K k.ns|_,_=>false)
 |_=>false
def D0(K:k6)(C:Addr):Option (Option Value):=(PySem.W.clsIn K C).bind λk=>PySem.W.nsIn K k.ns "__init__"
structure ExcK(K:k6)(C:Addr):Prop where
 q:MO K C=true
 self:PySem.W.subIn K (.ref C) (.ref C)=some true
 cd:∃cd,PySem.W.clsIn K C=some cd
 ty:PySem.W.typeIn K (.ref C)=some (.type "type")
 ga:PySem.W.findIn K (.ref C) "__getattribute__"=some (some (.builtin "BaseException.__getattribute__"))
 gt:PySem.W.findIn K (.ref C) "__getattr__"=some none
 ca:PySem.W.findIn K (.ref C) "__class__"=some (some (.builtin "object.__class__"))
 ob:PySem.W.mroIn K C (.type "object")=some true
 be:PySem.W.mroIn K C (.type "BaseException")=some true
 gs:PySem.W.specialIn K (.builtin "object.__class__") "__get__"=some (some (.builtin "getset_descriptor.__get__"))
 tk:PySem.W.takesIn K (.builtin "object.__class__")=some true
structure ECls(K:k6)(mg:Str->Option Value)(x:Str) where
 C:Addr
 m:mg x=some (.ref C)
 k:ExcK K C
theorem zop{K}(X:K.In h)(q:MO K C=true):∃bm N nm qn bs hd sn sub ab col dd k0 k1 k2 k3 k5 mN,
  h.get? C=some (excClassObj nm qn C N bs bm hd sn sub ab col dd k0 k1 k2 k3 k5 "ValueError.__new__")/\h.Ns N mN/\(∃cd,PySem.W.clsIn K C=some cd/\cd.ns=N/\cd.mro=.ref C::bm/\cd.hasDict=hd)/\OwnTail h Sz bm:=by
 unfold MO at q;split at q
 .rename_i dd cd sl ho;have hcl:PySem.W.clsIn K C=some cd:=by unfold PySem.W.clsIn;rw[ho]
  split at q
  .rename_i C2 bm k0 k1 k2 k3 nid k5 hm hs;simp only[Bool.not_eq_true',ya3,beq_iff_eq]at q;obtain⟨⟨⟨⟨z1,z2⟩,hdel⟩,ht⟩,hok⟩:=q;subst z1;subst z2;obtain⟨nm,bs,mro,nsp,qn,hd,sn,sub,ab,col,dl⟩:=cd;dsimp only at hm hok hdel;subst hm;subst hdel
   have hsl:sl=#[k0,k1,k2,k3,some (.builtin "ValueError.__new__"),k5]:=by
    obtain⟨l⟩:=sl;have hs':l=[k0,k1,k2,k3,some (.builtin "ValueError.__new__"),k5]:=hs;rw[hs']
   subst hsl;exact⟨bm,nsp,nm,qn,bs,hd,sn,sub,ab,col,dd,k0,k1,k2,k3,k5,_,X _ _ ho,.of_isNs (PySem.W.isNs_of_in X hok),⟨_,hcl,rfl,rfl,rfl⟩,PySem.W.tail_of_in X ht⟩
  .exact absurd q ybl
 .exact absurd q ybl
theorem zhy{K}(X:K.In h)(G:h.Ns N mN)(hc:PySem.W.clsIn K C=some cd)(hn:cd.ns=N)(q:D0 K C=some none):mN "__init__"=none:=by
 unfold D0 at q;rw[hc]at q;subst hn;exact PySem.W.ns_none_of X G q
section
variable {X:Cx}{x:Str}{p cpos pos:Pos}{e:Expr}{es:List Expr}{t:TA}{E:L2.St->XK}
def zlu(C:Addr)(E:L2.St->XK)(t:TA):TS:=λ_ σ H=>t σ H λvs H1=>vs.length<=sizeLine/\E σ (.ref C) none H1
theorem zhe(T:ECls X.K X.mg x)(hini:D0 X.K T.C=some none)(hc:X.calm=true)(hx:SX X E)(ha:PA X (e::es) t)(hg:Gl X x:=by rfl)(hdb:(x == ("__debug__":Str))=false:=by decide)
  (he:starEach (e::es) X.env=(false,eval e X.env)::starEach es X.env:=by rfl) (hpl:(backTo cpos (starEach (e::es) X.env)).any (·.1)=false:=by rfl) :
  PS X (.Raise (some (.Call (.Name x p) (e::es) [] cpos)) none pos) (zlu T.C E t):=by
 intro pins s σ H D I h;obtain⟨bm,N,nm,qn,bs,hd,sn,sub,ab,col,dd,k0,k1,k2,k3,k5,mN,hC,hN,⟨cd,hcd,hcn,_⟩,TL⟩:=zop I.mod.kin T.k.q;have hni:=zhy I.mod.kin hN hcd hcn hini
 refine wpAny_Raise_call_subT (nm:=nm) (q:=qn) (N:=N) (bs:=bs) (hdct:=hd) (sn:=sn) (sub:=sub) (ab:=ab) (col:=col) (dd:=dd) (k0:=k0) (k1:=k1) (k2:=k2) (k3:=k3) (k5:=k5)
  PySem.F.excBase_ValueError (TL.hasType PySem.F.excBase_ValueError.hasBase) (I.ok.hd hc) hpl hni (Jf I hg T.m ⟨rfl,?_⟩ hdb)
 have h2:=ha cpos pins s σ H _ I h;rw[he]at h2 ⊢;exact Calls.evalArgs_plain (A6 h2 λus s1 ⟨vs,H1,I1,r,z,q1⟩=>⟨rfl,r.length▸z,I1.bk _ _ hC,hN.keeps I1.bk,TL.keeps I1.bk,λh' a hm=>hx pins σ H1 s1 a _ us h' I1 hm q1⟩)
end
def K7(H:Hp)(a C:Addr):Prop:=∃ob,H a=some (.frz ob (.own 0))/\ob.cls=.ref C/\∃vs,ob.data=.fields vs/\vs[2]?=some .none
def JI(H:Hp)(a C:Addr)(dx:Option Addr):Prop:=∃ob,H a=some (.frz ob (.own 0))/\(ob.cls,ob.dict)=(.ref C,dx)/\∃vs,ob.data=.fields vs/\vs[2]?=some .none
theorem JI.x(h:JI H a C dx):K7 H a C:=let ⟨ob,e,k,r⟩:=h;⟨ob,e,congrArg Prod.fst k,r⟩
theorem JI.of(x:JI H a C dx)(e:∀u,H a=some u->F a=some u):JI F a C dx :=
 let ⟨ob,y,r⟩:=x;⟨ob,e _ y,r⟩
theorem K7.of(x:K7 H a C)(e:∀u,H a=some u->F a=some u):K7 F a C :=
 let ⟨ob,y,r⟩:=x;⟨ob,e _ y,r⟩
section
variable {K:k6}{a C:Addr}
end
section
variable {X:Cx}
end
section
variable {X:Cx}{pins:List (Addr×Obj)}{σ:L2.St}{H:Hp}{s:Shared}{xe:Value->Shared->Prop}
end
section
variable {A:Around}{E:Value->Shared->Prop}{M:Model}
end
section
variable {X:Cx}{i:Nat}{x n:Str}{np pos hpos:Pos}{body suite:List Stmt}{b₀:Stmt}{tb th:TS}{E:L2.St->XK}
end
end Zx
namespace Pu
open PySem PySem.Spec PyProof.Rows L2 Zw Zx
abbrev Rg:=Addr->Prop
def R0:Rg:=λ_=>False
set_option genInjectivity true in
inductive Kd where
 |lst|rl|tup|rt|pin (p:Addr)
set_option genInjectivity true in
inductive Ob where
 |ins (C:Addr) (fs:List Str)|exn (C:Addr)|sdc (ks:List Str)|lab (p:Addr)
set_option genInjectivity true in
inductive T where
 |non|bl (b:Bool)|int (i:Int)|str (x:Str)|nd (o:Bool) (k:Kd) (l:List T)|dic (ks:List Int) (l:List T)|pdc (ks:List Int) (l:List T)|odc (ks:List Int) (l:List T)
 |obj (k:Ob) (l:List T)|oob (p C:Addr) (fs:List Str) (l:List T)|osd (ks:List Str) (l:List T)
noncomputable abbrev T.lst(l:List T):T:=.nd false .lst l
noncomputable abbrev T.own(l:List T):T:=.nd true .lst l
noncomputable abbrev T.tup(l:List T):T:=.nd false .tup l
mutual
def T.share:T->T
 |.nd _ k l=>.nd false k (BS l)
 |.dic ks l=>.dic ks (BS l)
 |.pdc ks l=>.pdc ks (BS l)
 |.odc ks l=>.pdc ks (BS l)
 |.obj k l=>.obj k (BS l)
 |.oob _ C fs l=>.obj (.ins C fs) (BS l)
 |.osd ks l=>.obj (.sdc ks) (BS l)
 |.non=>.non
 |.bl b=>.bl b
 |.int i=>.int i
 |.str x=>.str x
def BS:List T->List T
 |[]=>[]
 |t::r=>t.share::BS r
end
mutual
def T.sh:T->Bool
 |.nd o _ l=>!o && A3 l
 |.dic _ l=>A3 l
 |.pdc _ l=>A3 l
 |.odc _ _=>false
 |.obj _ l=>A3 l
 |.oob _ _ _ _=>false
 |.osd _ _=>false
 |.non=>true
 |.bl _=>true
 |.int _=>true
 |.str _=>true
def A3:List T->Bool
 |[]=>true
 |t::r=>t.sh && A3 r
end
noncomputable def T.flat:T->Bool
 |.nd _ _ _=>false
 |.dic _ _=>false
 |.pdc _ _=>false
 |.odc _ _=>false
 |.obj _ _=>false
 |.oob _ _ _ _=>false
 |.osd _ _=>false
 |.non=>true
 |.bl _=>true
 |.int _=>true
 |.str _=>true
theorem EA:∀l ,BS l=l.map T.share
 |[]=>rfl
 |t::r=>by rw[BS,EA r];rfl
theorem EB:∀l ,A3 l=l.all T.sh
 |[]=>rfl
 |t::r=>by rw[A3,EB r];rfl
mutual
theorem AN:∀t:T,t.sh=true->t.share=t
 |.nd o k l,h=>by
  rw[T.sh,ya3]at h;have ho:o=false:=by simpa using h.1
  subst ho;rw[T.share,AG l h.2]
 |.dic ks l,h=>by
  rw[T.sh]at h;rw[T.share,AG l h]
 |.pdc ks l,h=>by
  rw[T.sh]at h;rw[T.share,AG l h]
 |.odc ks l,h=>by
  rw[T.sh]at h;cases h
 |.obj k l,h=>by
  rw[T.sh]at h;rw[T.share,AG l h]
 |.oob p C fs l,h=>by
  rw[T.sh]at h;cases h
 |.osd ks l,h=>by
  rw[T.sh]at h;cases h
 |.non,_=>rfl
 |.bl _,_=>rfl
 |.int _,_=>rfl
 |.str _,_=>rfl
theorem AG:∀l:List T,A3 l=true->BS l=l
 |[],_=>rfl
 |t::r,h=>by
  rw[A3,ya3]at h;rw[BS,AN t h.1,AG r h.2]
end
theorem zj7(h:A3 l=true){i:Nat}(e:l[i]?=some t):t.sh=true:=by
 rw[EB]at h;exact yab.mp h _ (ybq e)
def Hg(K:k6)(F:Hp)(p:Addr)(xs:List V):Prop:=(∃o,F p=some (.frz o (.lst xs)))\/∃(o:Obj) (its:Array Value) (n:Nat),K.lookup p=some o/\o.cls=.type "list"/\o.dict=none/\o.data=.seq its n/\its.size<=sizeLine/\Ad xs its.toList
theorem Hg.l{K}(h:Hg K F p xs):Al K F p xs:=h.elim (λz=>.inl (.inr z)) .inr
def F9(K:k6)(F:Hp)(k:Kd)(p:Addr)(xs:List V):Prop:=match k with
 |.lst=>F p=some (.lst xs)
 |.rl=>Hg K F p xs
 |.tup=>F p=some (.tup xs)
 |.rt=>CJ K F p xs
 |.pin _=>F p=some (.lst xs)
theorem GO{K}(s:Aa F F')(h:CJ K F p xs):CJ K F' p xs:=by
 rcases h with (h|⟨o,h⟩)|h
 .exact .inl (.inl (s _ _ h))
 .exact .inl (.inr ⟨o,s _ _ h⟩)
 .exact .inr h
theorem F9.same{K}(h:F9 K F k p xs)(s:Aa F F'):F9 K F' k p xs:=by
 cases k with
 |lst=>exact s _ _ h
 |rl=>exact h.elim (λ⟨o,z⟩=>.inl ⟨o,s _ _ z⟩) .inr
 |tup=>exact s _ _ h
 |rt=>exact GO s h
 |pin q=>exact s _ _ h
def JH(k:Kd)(p:Addr):Prop:=match k with
 |.lst=>True
 |.pin q=>q=p
 |_=>False
theorem JH.node{K}(hk:JH k p)(h:F p=some (.lst xs)):F9 K F k p xs:=by
 cases k with
 |lst=>exact h
 |pin q=>exact h
 |_=>exact hk.elim
def Lp(ks:List Int)(xs:List V):List (Key×V):=List.zipWith (λk x=>(Sum.inl k,x)) ks xs
def Ca(ks:List Str)(xs:List V):List (Key×V):=List.zipWith (λk x=>(Sum.inr k,x)) ks xs
def KH(F:Hp)(dx:Option Addr)(v:V):Prop:=∃d od u,dx=some d/\F d=some (.frz od (.own 0))/\Af v u/\PySem.W.lookIn "step" od=some (some u)
theorem KH.of(h:KH F dx v)(s:∀a u,F a=some u->F' a=some u):KH F' dx v :=
 let ⟨d,od,u,e,h1,r⟩:=h;⟨d,od,u,e,s _ _ h1,r⟩
def K2(F:Hp)(k:Ob)(p:Addr)(xs:List V):Prop:=match k with
 |.ins C fs=>∃dx,F p=some (.ins C dx (fs.zip xs))
 |.exn C=>∃dx,JI F p C dx/\∀v∈xs,KH F dx v
 |.sdc ks=>ks.length=xs.length/\F p=some (.dK (Ca ks xs))
 |.lab q=>q=p/\xs=[.ref p]
theorem K2.same(h:K2 F k p xs)(s:Aa F F'):K2 F' k p xs:=by
 cases k with
 |ins C fs=>exact h.elim λdx e=>⟨dx,s _ _ e⟩
 |exn C=>exact h.elim λdx e=>⟨dx,e.1.of λu=>s p u,λv hv=>(e.2 v hv).of s⟩
 |sdc ks=>exact⟨h.1,s _ _ h.2⟩
 |lab q=>exact h
inductive Rp(K:k6)(F H:Hp):T->V->Rg->Prop where
 |non:Rp K F H .non .non R0
 |bl (b:Bool):Rp K F H (.bl b) (.bl b) R0
 |int (i:Int):Rp K F H (.int i) (.int i) R0
 |str (x:Str):Rp K F H (.str x) (.str x) R0
 |shr {k:Kd} {p:Addr} {xs:List V} {l:List T} (h:F9 K F k p xs) (e:l.length=xs.length) (c:∀(i:Nat) (t:T) (x:V),l[i]?=some t->xs[i]?=some x->Rp K F H t x R0):Rp K F H (.nd false k l) (.ref p) R0
 |dic {p:Addr} {ob:Obj} {ks:List Int} {xs:List V} {l:List T} (h:F p=some (.frz ob (.dK (Lp ks xs)))) (e:l.length=xs.length) (ek:ks.length=xs.length) (c:∀(i:Nat) (t:T) (x:V),l[i]?=some t->xs[i]?=some x->Rp K F H t x R0):Rp K F H (.dic ks l) (.ref p) R0
 |pdc {p:Addr} {ks:List Int} {xs:List V} {l:List T} (h:F p=some (.dK (Lp ks xs))) (e:l.length=xs.length) (ek:ks.length=xs.length) (c:∀(i:Nat) (t:T) (x:V),l[i]?=some t->xs[i]?=some x->Rp K F H t x R0):Rp K F H (.pdc ks l) (.ref p) R0
 |odc {p:Addr} {ks:List Int} {xs:List V} {l:List T} (f:F p=none) (h:H p=some (.dK (Lp ks xs))) (e:l.length=xs.length) (ek:ks.length=xs.length) (c:∀(i:Nat) (t:T) (x:V),l[i]?=some t->xs[i]?=some x->Rp K F H t x R0):Rp K F H (.odc ks l) (.ref p) (λa=>a=p)
 |obj {k:Ob} {p:Addr} {xs:List V} {l:List T} (h:K2 F k p xs) (e:l.length=xs.length) (c:∀(i:Nat) (t:T) (x:V),l[i]?=some t->xs[i]?=some x->Rp K F H t x R0):Rp K F H (.obj k l) (.ref p) R0
 |oob {C p dx:Addr} {fs:List Str} {xs:List V} {l:List T} (R:Nat->Rg) (f:F p=none) (h:H p=some (.ins C dx (fs.zip xs))) (e:l.length=xs.length) (c:∀(i:Nat) (t:T) (x:V),l[i]?=some t->xs[i]?=some x->Rp K F H t x (R i))
   (d:∀i j a,i≠j->R i a->¬ R j a) (dp:∀i,¬ R i p) (o:∀i a,R i a->i<l.length):Rp K F H (.oob p C fs l) (.ref p) (λa=>a=p\/∃i,R i a)
 |osd {p:Addr} {ks:List Str} {xs:List V} {l:List T} (R:Nat->Rg) (f:F p=none) (h:H p=some (.dK (Ca ks xs))) (e:l.length=xs.length) (ek:ks.length=xs.length) (c:∀(i:Nat) (t:T) (x:V),l[i]?=some t->xs[i]?=some x->Rp K F H t x (R i))
   (d:∀i j a,i≠j->R i a->¬ R j a) (dp:∀i,¬ R i p) (o:∀i a,R i a->i<l.length):Rp K F H (.osd ks l) (.ref p) (λa=>a=p\/∃i,R i a)
 |own {k:Kd} {p:Addr} {xs:List V} {l:List T} (hk:JH k p) (R:Nat->Rg) (f:F p=none) (h:H p=some (.lst xs)) (e:l.length=xs.length) (c:∀(i:Nat) (t:T) (x:V),l[i]?=some t->xs[i]?=some x->Rp K F H t x (R i))
   (d:∀i j a,i≠j->R i a->¬ R j a) (dp:∀i,¬ R i p) (o:∀i a,R i a->i<l.length):Rp K F H (.nd true k l) (.ref p) (λa=>a=p\/∃i,R i a)
theorem reg0{p:Addr}:(λa=>a=p\/∃_:Nat,R0 a)=λa=>a=p:=funext λ_=>propext ⟨λz=>z.elim id λ⟨_,w⟩=>w.elim,.inl⟩
theorem Rp.osd0{K}{F H:Hp}{p:Addr}{ks:List Str}{xs:List V}{l:List T}(f:F p=none)(h:H p=some (.dK (Ca ks xs)))(e:l.length=xs.length)(ek:ks.length=xs.length)(c:∀(i:Nat) (t:T) (x:V),l[i]?=some t->xs[i]?=some x->Rp K F H t x R0):Rp K F H (.osd ks l) (.ref p) (λa=>a=p):=by
 have r:Rp K F H (.osd ks l) (.ref p) (λa=>a=p\/∃_:Nat,R0 a):=.osd (λ_=>R0) f h e ek c (λ_ _ _ _ z=>z.elim) (λ_ z=>z) (λ_ _ z=>z.elim)
 rwa[reg0]at r
section
variable {K:k6}{F F' H H':Hp}{t:T}{x:V}{A:Rg}
theorem Rp.frame(h:Rp K F H t x A)(s:Aa F F')(k:∀a,A a->H' a=H a/\F' a=none):Rp K F' H' t x A:=by
 induction h with
 |non=>exact .non
 |bl b=>exact .bl b
 |int i=>exact .int i
 |str y=>exact .str y
 |shr h e c ih=>exact .shr (h.same s) e λi t x h1 h2=>ih i t x h1 h2 λa z=>z.elim
 |dic h e ek c ih=>exact .dic (s _ _ h) e ek λi t x h1 h2=>ih i t x h1 h2 λa z=>z.elim
 |pdc h e ek c ih=>exact .pdc (s _ _ h) e ek λi t x h1 h2=>ih i t x h1 h2 λa z=>z.elim
 |odc f h e ek c ih =>
  have q:=k _ rfl;exact .odc q.2 (q.1.trans h) e ek λi t x h1 h2=>ih i t x h1 h2 λa z=>z.elim
 |obj h e c ih=>exact .obj (h.same s) e λi t x h1 h2=>ih i t x h1 h2 λa z=>z.elim
 |oob R f h e c d dp o ih =>
  have q:=k _ (.inl rfl);exact .oob R q.2 (q.1.trans h) e (λi t x h1 h2=>ih i t x h1 h2 λa z=>k a (.inr ⟨i,z⟩)) d dp o
 |osd R f h e ek c d dp o ih =>
  have q:=k _ (.inl rfl);exact .osd R q.2 (q.1.trans h) e ek (λi t x h1 h2=>ih i t x h1 h2 λa z=>k a (.inr ⟨i,z⟩)) d dp o
 |own hk R f h e c d dp o ih =>
  have q:=k _ (.inl rfl);exact .own hk R q.2 (q.1.trans h) e (λi t x h1 h2=>ih i t x h1 h2 λa z=>k a (.inr ⟨i,z⟩)) d dp o
theorem Rp.dom(h:Rp K F H t x A)(ha:A a):F a=none/\∃u,H a=some u:=by
 induction h with
 |non=>exact ha.elim
 |bl b=>exact ha.elim
 |int i=>exact ha.elim
 |str y=>exact ha.elim
 |shr h e c ih=>exact ha.elim
 |dic h e ek c ih=>exact ha.elim
 |pdc h e ek c ih=>exact ha.elim
 |odc f h e ek c ih =>
  grind
 |obj h e c ih=>exact ha.elim
 |@osd p ks xs l R f h e ek c d dp o ih =>
  rcases ha with rfl|⟨i,z⟩
  .grind
  .have hi:=o i a z;have hx:i<xs.length:=by omega
   exact ih i _ _ (ya0 hi) (ya0 hx) z
 |@oob C p dx fs xs l R f h e c d dp o ih =>
  rcases ha with rfl|⟨i,z⟩
  .grind
  .have hi:=o i a z;have hx:i<xs.length:=by omega
   exact ih i _ _ (ya0 hi) (ya0 hx) z
 |@own k0 p xs l hk R f h e c d dp o ih =>
  rcases ha with rfl|⟨i,z⟩
  .grind
  .have hi:=o i a z;have hx:i<xs.length:=by omega
   exact ih i _ _ (ya0 hi) (ya0 hx) z
theorem Rp.share(h:Rp K F H t x A)(s:Aa F F')(k:∀a u,A a->H a=some u->F' a=some u):Rp K F' H' t.share x R0:=by
 induction h with
 |non=>exact .non
 |bl b=>exact .bl b
 |int i=>exact .int i
 |str y=>exact .str y
 |@shr k0 p xs l h e c ih =>
  rw[T.share,EA];refine .shr (h.same s) (by rw[ya1];exact e) λi t x h1 h2=>?_
  rw[ya7]at h1;obtain⟨t0,e0,rfl⟩:=yad.mp h1;exact ih i t0 x e0 h2 λa u z=>z.elim
 |@dic p ob ks xs l h e ek c ih =>
  rw[T.share,EA];refine .dic (s _ _ h) (by rw[ya1];exact e) ek λi t x h1 h2=>?_
  rw[ya7]at h1;obtain⟨t0,e0,rfl⟩:=yad.mp h1;exact ih i t0 x e0 h2 λa u z=>z.elim
 |@pdc p ks xs l h e ek c ih =>
  rw[T.share,EA];refine .pdc (s _ _ h) (by rw[ya1];exact e) ek λi t x h1 h2=>?_
  rw[ya7]at h1;obtain⟨t0,e0,rfl⟩:=yad.mp h1;exact ih i t0 x e0 h2 λa u z=>z.elim
 |@odc p ks xs l f h e ek c ih =>
  rw[T.share,EA];refine .pdc (k _ _ rfl h) (by rw[ya1];exact e) ek λi t x h1 h2=>?_
  rw[ya7]at h1;obtain⟨t0,e0,rfl⟩:=yad.mp h1;exact ih i t0 x e0 h2 λa u z=>z.elim
 |@obj k0 p xs l h e c ih =>
  rw[T.share,EA];refine .obj (h.same s) (by rw[ya1];exact e) λi t x h1 h2=>?_
  rw[ya7]at h1;obtain⟨t0,e0,rfl⟩:=yad.mp h1;exact ih i t0 x e0 h2 λa u z=>z.elim
 |@oob C p dx fs xs l R f h e c d dp o ih =>
  rw[T.share,EA];refine .obj ⟨dx,k _ _ (.inl rfl) h⟩ (by rw[ya1];exact e) λi t x h1 h2=>?_
  grind
 |@osd p ks xs l R f h e ek c d dp o ih =>
  rw[T.share,EA];refine .obj ⟨ek,k _ _ (.inl rfl) h⟩ (by rw[ya1];exact e) λi t x h1 h2=>?_
  grind
 |@own k0 p xs l hk R f h e c d dp o ih =>
  rw[T.share,EA];refine .shr (hk.node (k _ _ (.inl rfl) h)) (by rw[ya1];exact e) λi t x h1 h2=>?_
  grind
theorem Rp.r0(h:Rp K F H t x A)(s:t.sh=true):A=R0:=by
 cases h with
 |own hk R f h e c d dp o =>
  cases s
 |odc f h e ek c =>
  cases s
 |oob R f h e c d dp o =>
  cases s
 |osd R f h e ek c d dp o =>
  cases s
 |_=>rfl
theorem Rp.move(h:Rp K F H t x A)(s:t.sh=true)(q:Aa F F'):Rp K F' H' t x R0:=by
 have e:=h.r0 s;subst e;exact h.frame q λa z=>z.elim
theorem Rp.flat_any(h:Rp K F H t x A)(s:t.flat=true):Rp K F' H' t x R0:=by
 cases h with
 |non=>exact .non
 |bl b=>exact .bl b
 |int i=>exact .int i
 |str y=>exact .str y
 |shr h e c=>cases s
 |dic h e ek c=>cases s
 |pdc h e ek c=>cases s
 |odc f h e ek c=>cases s
 |obj h e c=>cases s
 |oob R f h e c d dp o=>cases s
 |osd R f h e ek c d dp o=>cases s
 |own hk R f h e c d dp o=>cases s
theorem Rp.int_inv{i:Int}(h:Rp K F H (.int i) x A):x=.int i:=by cases h;rfl
theorem Rp.bl_inv{b:Bool}(h:Rp K F H (.bl b) x A):x=.bl b:=by cases h;rfl
theorem Rp.non_inv(h:Rp K F H .non x A):x=.non:=by cases h;rfl
theorem Rp.str_inv{y:Str}(h:Rp K F H (.str y) x A):x=.str y:=by cases h;rfl
end
def Aw(K:k6)(F:Hp)(ts:List T)(xs:List V):Prop:=ts.length=xs.length/\∀(i:Nat) (t:T) (x:V),ts[i]?=some t->xs[i]?=some x->Rp K F F t x R0
theorem Aw.nil{K}:Aw K F [] []:=⟨rfl,λi t x h=>by simp at h⟩
theorem Rp.any{K}(h:Rp K F H t x R0):Rp K F H' t x R0:=h.frame (Aa.refl F) λa z=>z.elim
theorem Aw.cons{K:k6}{F H:Hp}{t:T}{x:V}{ts:List T}{xs:List V}(h:Rp K F H t x R0)(r:Aw K F ts xs):Aw K F (t::ts) (x::xs):=by
 refine⟨by simp[r.1],λi t' x' h1 h2=>?_⟩
 cases i with
 |zero =>
  simp at h1 h2;subst h1;subst h2;exact h.any
 |succ j=>exact r.2 j t' x' (by simpa using h1) (by simpa using h2)
theorem Aw.inv{K}(r:Aw K F (t::ts) xs):∃x xs',xs=x::xs'/\Rp K F F t x R0/\Aw K F ts xs':=by
 obtain⟨e,h⟩:=r;cases xs with
 |nil=>simp at e
 |cons x xs'=>exact⟨x,xs',rfl,h 0 t x rfl rfl,by simpa using e,λi t' x' h1 h2=>h (i+1) t' x' (by simpa using h1) (by simpa using h2)⟩
theorem Aw.inv0{K}(r:Aw K F [] xs):xs=[]:=by
 obtain⟨e,h⟩:=r
 grind
theorem Aw.same{K}(r:Aw K F ts xs)(s:Aa F F'):Aw K F' ts xs:=⟨r.1,λi t x h1 h2=>((r.2 i t x h1 h2).frame s λa z=>z.elim)⟩
theorem Aw.node{K}(h:Rp K F H (.nd false k l) (.ref p) A):∃xs,F9 K F k p xs/\Aw K F l xs:=by
 cases h with
 |shr h e c=>exact⟨_,h,e,λi t x h1 h2=>(c i t x h1 h2).any⟩
theorem Rp.ref_inv{K}(h:Rp K F H (.nd o k l) x A):∃p,x=.ref p:=by
 cases h with
 |shr h e c=>simp
 |own hk R f h e c d dp o=>simp
theorem Aw.of_node{K}(h:F9 K F k p xs)(r:Aw K F l xs):Rp K F H (.nd false k l) (.ref p) R0:=.shr h r.1 λi t x h1 h2=>(r.2 i t x h1 h2).any
structure Ext(F H F' H':Hp)(B:Rg):Prop where
 hh:Aa H H'
 ff:Aa F F'
 fh:Aa F' H'
 nb:∀b,B b->H b=none
 nf:∀b u,F' b=some u->F b=some u\/H b=none
theorem HG(s:Aa H H')(h:H' b=none):H b=none:=by
 cases e:H b with
 |none=>rfl
 |some u=>rw[s b u e]at h;cases h
section
variable {F H F1 H1 F2 H2:Hp}{B C:Rg}
theorem Ext.refl(s:Aa F H):Ext F H F H R0:=⟨.refl _,.refl _,s,λ_ z=>z.elim,λ_ _ e=>.inl e⟩
theorem Ext.trans(a:Ext F H F1 H1 B)(b:Ext F1 H1 F2 H2 C):Ext F H F2 H2 (λx=>B x\/C x) where
 hh:=a.hh.trans b.hh
 ff:=a.ff.trans b.ff
 fh:=b.fh
 nb:=λx z=>z.elim (a.nb x) λz=>HG a.hh (b.nb x z)
 nf:=λx u e=>(b.nf x u e).elim (a.nf x u) λz=>.inr (HG a.hh z)
theorem Ext.mono(a:Ext F H F1 H1 B)(h:∀x,C x->B x):Ext F H F1 H1 C:=⟨a.hh,a.ff,a.fh,λx z=>a.nb x (h x z),a.nf⟩
theorem Ext.trans0(a:Ext F H F1 H1 R0)(b:Ext F1 H1 F2 H2 C):Ext F H F2 H2 C:=(a.trans b).mono λx z=>.inr z
open Classical in
def frz(F H:Hp)(A:Rg):Hp:=λb=>if A b then H b else F b
theorem G9{A:Rg}{b:Addr}(h:A b):frz F H A b=H b:=by unfold frz;rw[if_pos h]
theorem GC{A:Rg}{b:Addr}(h:¬ A b):frz F H A b=F b:=by unfold frz;rw[if_neg h]
theorem FE(n:∀a,A a->F a=none):Aa F (frz F H A):=λb u e=>by
 by_cases h:A b
 .grind
 .rw[GC h];exact e
theorem Ia(s:Aa F H):Aa (frz F H A) H:=λb u e=>by
 by_cases h:A b
 .rw[G9 h]at e;exact e
 .rw[GC h]at e;exact s b u e
theorem Ext.frz(a:Ext F H F1 H1 B)(n:∀b,B b->F1 b=none):Ext F H (frz F1 H1 B) H1 R0 where
 hh:=a.hh
 ff:=a.ff.trans (FE n)
 fh:=Ia a.fh
 nb:=λ_ z=>z.elim
 nf:=λb u e=>by
  by_cases h:B b
  .exact .inr (a.nb b h)
  .rw[GC h]at e;exact a.nf b u e
theorem Rp.ext{K }    (h:Rp K F H t x A)(a:Ext F H F1 H1 B):Rp K F1 H1 t x A:=h.frame a.ff λb z=>by
 obtain⟨f,u,e⟩:=h.dom z;refine⟨(a.hh b u e).trans e.symm,?_⟩;cases q:F1 b with
 |none=>rfl
 |some u' =>
  rcases a.nf b u' q with z|z
  .grind
  grind
theorem Rp.apart{K}(h:Rp K F H t x A)(a:Ext F H F1 H1 B)(hb:B b):¬ A b:=λz=>by
 obtain⟨f,u,e⟩:=h.dom z;rw[a.nb b hb]at e;cases e
theorem Ext.new   (s:Aa F H)(h:H p=none):Ext F H (upd F p o) (upd H p o) R0 where
 hh:=LG h o
 ff:=LG (HG s h) o
 fh:=λb u e=>by
  by_cases hb:b=p
  .subst hb;rw[Cf]at e ⊢;exact e
  .rw[BG hb]at e ⊢;exact s b u e
 nb:=λ_ z=>z.elim
 nf:=λb u e=>by
  by_cases hb:b=p
  .grind
  .rw[BG hb]at e;exact .inl e
theorem Ext.newO   (s:Aa F H)(h:H p=none):Ext F H F (upd H p o) (λa=>a=p) where
 hh:=LG h o
 ff:=.refl _
 fh:=λb u e=>LG h o b u (s b u e)
 nb:=λb z=>by grind
 nf:=λb u e=>.inl e
end
abbrev AV:=List (Option T)
structure StR(K:k6)(F H:Hp)(σ:L2.St)(τ:AV)(R:Nat->Rg):Prop where
 fh:Aa F H
 len:σ.length=τ.length
 rep:∀i t,τ[i]?=some (some t)->∃x,σ[i]?=some (some x)/\Rp K F H t x (R i)
 out:∀i a,R i a->∃t,τ[i]?=some (some t)
 dis:∀i j a,i≠j->R i a->¬ R j a
section
variable {K:k6}{F H F1 H1:Hp}{σ:L2.St}{τ:AV}{R:Nat->Rg}{B:Rg}
theorem StR.dom(h:StR K F H σ τ R)(ha:R i a):F a=none/\∃u,H a=some u:=by
 obtain⟨t,e⟩:=h.out i a ha;obtain⟨x,_,r⟩:=h.rep i t e;exact r.dom ha
theorem StR.ext(h:StR K F H σ τ R)(a:Ext F H F1 H1 B):StR K F1 H1 σ τ R where
 fh:=a.fh
 len:=h.len
 rep:=λi t e=>by
  obtain⟨x,e1,r⟩:=h.rep i t e;exact⟨x,e1,r.ext a⟩
 out:=h.out
 dis:=h.dis
theorem StR.apart(h:StR K F H σ τ R)(a:Ext F H F1 H1 B)(hb:B b)(i):¬ R i b:=λz=>by
 obtain⟨f,u,e⟩:=h.dom z;rw[a.nb b hb]at e;cases e
end
def Y1:Key->PyData
 |.inl i=>.int i
 |.inr x=>.str x
mutual
def T.data:T->PyData
 |.non=>.none
 |.bl b=>.bool b
 |.int i=>.int i
 |.str x=>.str x
 |.nd _ .lst l=>.list (Bb l)
 |.nd _ .rl l=>.list (Bb l)
 |.nd _ .tup l=>.tuple (Bb l)
 |.nd _ .rt l=>.tuple (Bb l)
 |.nd _ (.pin _) l=>.list (Bb l)
 |.dic ks l=>.dict ((ks.map PyData.int).zip (Bb l))
 |.pdc ks l=>.dict ((ks.map PyData.int).zip (Bb l))
 |.odc ks l=>.dict ((ks.map PyData.int).zip (Bb l))
 |.obj _ _=>.none
 |.oob _ _ _ _=>.none
 |.osd _ _=>.none
def Bb:List T->List PyData
 |[]=>[]
 |t::r=>t.data::Bb r
end
mutual
def T.pln:T->Bool
 |.nd _ _ l=>EO l
 |.dic _ l=>EO l
 |.pdc _ l=>EO l
 |.odc _ l=>EO l
 |.obj _ _=>false
 |.oob _ _ _ _=>false
 |.osd _ _=>false
 |.non=>true
 |.bl _=>true
 |.int _=>true
 |.str _=>true
def EO:List T->Bool
 |[]=>true
 |t::r=>t.pln && EO r
end
theorem Es:∀{l},EO l=true->∀{i:Nat} {t},l[i]?=some t->t.pln=true
 |[],_,i,t,e=>by simp at e
 |a::r,h,i,t,e=>by
  rw[EO,ya3]at h;cases i with
  |zero =>
   simp at e;subst e;exact h.1
  |succ i=>exact Es h.2 (by simpa using e)
theorem V2:∀{l} {us},l.length=us.length->(∀(i:Nat) (t) (u),l[i]?=some t->us[i]?=some u->∃as,Reads h u t.data as)->∃as,ReadsAll h us (Bb l) as
 |[],[],_,_=>⟨_,.nil⟩
 |[],_::_,e,_=>by simp at e
 |_::_,[],e,_=>by simp at e
 |t::l,u::us,e,f=>by
  obtain⟨a1,r1⟩:=f 0 t u rfl rfl;obtain⟨a2,r2⟩:=V2 (l:=l) (us:=us) (by simpa using e) λi t' u' h1 h2=>f (i+1) t' u' (by simpa using h1) (by simpa using h2)
  exact⟨_,.cons r1 r2⟩
theorem QE(e:(DM P w).is k v=true):Reads h v (Y1 k) []:=by
 rcases FC (e) with ⟨i,t,rfl,rfl⟩|⟨x,t,rfl,rfl⟩
 .exact .int i t
 .exact .str x t
theorem LV:∀(ks) (xs) (l) (vs),KV (Lp ks xs) vs->l.length=xs.length->ks.length=xs.length->(∀(i:Nat) (t) (x),l[i]?=some t->xs[i]?=some x->∀{u},Af x u->∃as,Reads h u t.data as) ->
  ∃bs,PyProof.V.PairsRead h Y1 vs ((ks.map PyData.int).zip (Bb l)) bs
 |[],xs,l,vs,r,_,_,_=>by
  have r' :=(r);cases r';exact⟨_,.nil⟩
 |k::ks,[],l,vs,r,_,ek,_=>by simp at ek
 |k::ks,x::xs,[],vs,r,e,_,_=>by simp at e
 |k::ks,x::xs,t::l,vs,r,e,ek,f=>by
  have r' :=r;cases r' with
  |@cons _ q _ qs hd tl =>
   obtain⟨a1,r1⟩:=f 0 t x rfl rfl hd.2;obtain⟨a2,r2⟩:=LV ks xs l qs tl (by simpa using e) (by grind) λi t' x' h1 h2=>f (i+1) t' x' (by grind) (by grind)
   obtain⟨q1,q2⟩:=q;cases (hd.1);exact⟨_,.cons r1 r2⟩
section
variable {X:Cx}{pins:List (Addr×Obj)}{σ:L2.St}{F H:Hp}{s:Shared}
theorem GP(I:Inv X pins σ H s)(fh:Aa F H)(h:Rp X.K F H t x A)(hpl:t.pln=true):∀{u},Af x u->∃as,Reads s.heap u t.data as:=by
 have kids:∀{l } {xs } {its },Ad xs its->l.length=xs.length->(∀(i:Nat) (t ) (x ),l[i]?=some t->xs[i]?=some x->∀{u },Af x u->∃as,Reads s.heap u t.data as)->∃as,ReadsAll s.heap its (Bb l) as:=by
  intro l xs its r e ih;refine V2 (e.trans r.length) λi t u h1 h2=>?_
  have hi:i<xs.length:=by
   have:=(ya2.mp h1).1
   omega
  obtain⟨u',e1,r1⟩:=r.get (ya0 hi);rw[h2]at e1;cases e1;exact ih i t _ h1 (ya0 hi) r1
 have lsts:∀{p } {l } {xs },Al X.K H p xs->l.length=xs.length->(∀(i:Nat) (t ) (x ),l[i]?=some t->xs[i]?=some x->∀{u },Af x u->∃as,Reads s.heap u t.data as)->∃as,Reads s.heap (.ref p) (.list (Bb l)) as:=by
  intro p l xs hq e ih;obtain⟨its,r,⟨o,n,e1,e2,e3,e4⟩,_⟩:=I.list hq;obtain⟨as,ra⟩:=kids r e ih;exact⟨_,.list e1 e2 e4 (by simpa using ra)⟩
 have tups:∀{p } {l } {xs },CJ X.K H p xs->l.length=xs.length->(∀(i:Nat) (t ) (x ),l[i]?=some t->xs[i]?=some x->∀{u },Af x u->∃as,Reads s.heap u t.data as)->∃as,Reads s.heap (.ref p) (.tuple (Bb l)) as:=by
  intro p l xs hq e ih;obtain⟨its,r,⟨o,e1,e2,n,e4⟩,_⟩:=I.tuple hq;obtain⟨as,ra⟩:=kids r e ih;exact⟨_,.tuple e1 e2 e4 (by simpa using ra)⟩
 induction h with
 |non=>intro u r;cases r;exact⟨_,.none⟩
 |bl b=>intro u r;cases r;exact⟨_,.bool b⟩
 |int i=>intro u r;obtain⟨t,rfl⟩:=r;exact⟨_,.int i t⟩
 |str y=>intro u r;obtain⟨t,rfl⟩:=r;exact⟨_,.str y t⟩
 |@shr k p xs l h e c ih =>
  intro u r;cases r;cases k with
  |lst=>exact lsts (Al.of (fh _ _ h)) e λi t x h1 h2=>ih i t x h1 h2 (Es hpl h1)
  |rl=>exact lsts (fh.seq h.l) e λi t x h1 h2=>ih i t x h1 h2 (Es hpl h1)
  |tup=>exact tups (CJ.of (fh _ _ h)) e λi t x h1 h2=>ih i t x h1 h2 (Es hpl h1)
  |rt=>exact tups (GO fh h) e λi t x h1 h2=>ih i t x h1 h2 (Es hpl h1)
  |pin q=>exact lsts (Al.of (fh _ _ h)) e λi t x h1 h2=>ih i t x h1 h2 (Es hpl h1)
 |@dic p ob ks xs l h e ek c ih =>
  intro u r;cases r;obtain⟨ho,z,hd,vs,rel,dd⟩:=(I.hok p _ (fh _ _ h));obtain⟨bs,pr⟩:=LV ks xs l vs rel e ek λi t x h1 h2=>ih i t x h1 h2 (Es hpl h1)
  exact⟨_,ycz (λk v q=>QE q) dd pr⟩
 |@pdc p ks xs l h e ek c ih =>
  intro u r;cases r;obtain⟨z,hd,vs,rel,dd⟩:=(I.hok p _ (fh _ _ h));obtain⟨bs,pr⟩:=LV ks xs l vs rel e ek λi t x h1 h2=>ih i t x h1 h2 (Es hpl h1)
  exact⟨_,ycz (λk v q=>QE q) dd pr⟩
 |@odc p ks xs l f h e ek c ih =>
  intro u r;cases r;obtain⟨z,hd,vs,rel,dd⟩:=(I.hok p _ h);obtain⟨bs,pr⟩:=LV ks xs l vs rel e ek λi t x h1 h2=>ih i t x h1 h2 (Es hpl h1)
  exact⟨_,ycz (λk v q=>QE q) dd pr⟩
 |obj h e c ih=>cases hpl
 |oob R f h e c d dp o ih=>cases hpl
 |osd R f h e ek c d dp o ih=>cases hpl
 |@own k0 p xs l hk R f h e c d dp o ih =>
  intro u r;cases r;cases k0 with
  |lst=>exact lsts (Al.of h) e λi t x h1 h2=>ih i t x h1 h2 (Es hpl h1)
  |pin q=>exact lsts (Al.of h) e λi t x h1 h2=>ih i t x h1 h2 (Es hpl h1)
  |_=>exact hk.elim
end
noncomputable def EH(t:T):Bool:=t.pln && t.data.canLay0
def Ju(t u:T):Bool:=PyData.eqv t.data u.data
def HZ(t u:T):Bool:=EH t && EH u && decide (min t.data.depth u.data.depth<=60)
def BF(t u:T):Option T:=if HZ t u then some (.bl (Ju t u)) else none
def Cz(t u:T):Option T:=if HZ t u then some (.bl (!Ju t u)) else none
def G6(t:T)(l:List T):Bool:=EH t && (EO l && PyData.canLayAll0 (Bb l)) && decide (min (PyData.depthAll (Bb l)) t.data.depth<=60)
def IW(t:T)(l:List T):Bool:=(Bb l).any λy=>PyData.eqv y t.data
def Yg(t:T)(y:Str):Option T:=match t with
 |.str x=>some (.bl (!(Builtin.Str.occurrences y x 0 y.length 1).isEmpty))
 |_=>none
def Dd(t c:T):Option T:=match c with
 |.nd _ _ l=>if G6 t l then some (.bl (IW t l)) else none
 |.str y=>Yg t y
 |_=>none
def FT(t c:T):Option T:=match c with
 |.nd _ _ l=>if G6 t l then some (.bl (!IW t l)) else none
 |_=>none
def Cd(K:k6)(F H:Hp)(v:T)(Q:VK):Prop:=∀F' H' z C,Ext F H F' H' C->Rp K F' H' v z C->Q z H'
def Br(K:k6)(g:T->T->Option T):R2:=λx y H Q=>∃F t u v,Aa F H/\Rp K F F t x R0/\Rp K F F u y R0/\g t u=some v/\Cd K F H v Q
def LO(K:k6)(g:T->Option T):V->Hp->VK->Prop:=λx H Q=>∃F t v,Aa F H/\Rp K F F t x R0/\g t=some v/\Cd K F H v Q
def DX(K:k6)(g:List T->Option T):List V->Hp->VK->Prop:=λxs H Q=>∃F ts v,Aa F H/\Aw K F ts xs/\g ts=some v/\Cd K F H v Q
section
variable {K:k6}{F H:Hp}{Q:VK}
theorem Cd.int(q:Cd K F H (.int i) Q)(s:Aa F H):Q (.int i) H:=q F H _ _ (Ext.refl s) (.int i)
theorem Cd.bl(q:Cd K F H (.bl b) Q)(s:Aa F H):Q (.bl b) H:=q F H _ _ (Ext.refl s) (.bl b)
theorem Cd.str(q:Cd K F H (.str x) Q)(s:Aa F H):Q (.str x) H:=q F H _ _ (Ext.refl s) (.str x)
theorem Cd.non(q:Cd K F H .non Q)(s:Aa F H):Q .non H:=q F H _ _ (Ext.refl s) .non
theorem Cd.list   (q:Cd K F H (.own l) Q)(s:Aa F H)(r:Aw K F l xs)  (hp:H p=none):Q (.ref p) (upd H p (.lst xs)):=by
 refine q F (upd H p (.lst xs)) (.ref p) _ ((Ext.newO s hp).mono ?_) (.own (k:=.lst) trivial (λ_=>R0) (HG s hp) Cf r.1 (λi t x h1 h2=>?_) (λ_ _ _ _ z=>z.elim) (λ_ z=>z) (λ_ _ z=>z.elim))
 .rintro a (z|⟨i,z⟩)
  .exact z
  .exact z.elim
 .exact(r.2 i t x h1 h2).any
theorem Cd.tuple(q:Cd K F H (.tup l) Q)(s:Aa F H)(r:Aw K F l xs)(hp:H p=none):Q (.ref p) (upd H p (.tup xs)):=by
 have e:=Ext.new (o:=.tup xs) s hp;exact q _ _ _ _ e (Aw.of_node Cf (r.same e.ff))
theorem Cd.same(q:Cd K F H t Q)(s:Aa F H)(r:Rp K F F t x R0):Q x H:=q F H x _ (Ext.refl s) r.any
end
def Eo(i:Int):Bool:=@decide (-(2 ^ 64)<i/\i<2 ^ 64) (Classical.propDecidable _)
def Cv(i:Int):Bool:=@decide (-(10 ^ 70)<i/\i<10 ^ 70) (Classical.propDecidable _)
def Y4(k:Int):Bool:=@decide (k<2 ^ 63/\-(2 ^ 63)<=k) (Classical.propDecidable _)
def Bi(i j:Int):Bool:=Eo i || Eo j || (Cv i && Cv j)
noncomputable def Bp:Nat:=16777216
def BI:T->T->Option T
 |.int i,.int j=>some (.int (i+j))
 |.str x,.str y=>if x.length+y.length<=Bp then some (.str (x++y)) else none
 |.nd _ .lst l,.nd _ .lst m=>if l.length+m.length<=Bp then some (.own (l++m)) else none
 |_,_=>none
def Fd:T->T->Option T
 |.int i,.int j=>some (.int (i - j))
 |_,_=>none
def CH:T->T->Option T
 |.int i,.int j=>if Bi i j then some (.int (i * j)) else none
 |.nd _ .lst l,.int k=>if Y4 k=true/\l.length * k.toNat<=Bp then some (.own (List.replicate k.toNat l).flatten) else none
 |.str x,.int k=>if 0<=k/\k<=1000000/\x.length<=16 then some (.str (Txt.mul x k)) else none
 |_,_=>none
def BA:T->T->Option T
 |.int i,.int j=>if j≠0 then some (.int (i.fmod j)) else none
 |_,_=>none
def CW:T->T->Option T
 |.int i,.int j=>if j≠0/\Cv j then some (.int (i.fdiv j)) else none
 |_,_=>none
def Er:T->T->Option T
 |.int i,.int j=>if 0<=j/\j<=1000000/\Eo i then some (.int (i ^ j.toNat)) else none
 |_,_=>none
def KA:T->T->Option T
 |.int i,.int j=>some (.int (Builtin.bitOr i j))
 |_,_=>none
def KD:T->T->Option T
 |.int i,.int j=>some (.int (Builtin.bitAnd i j))
 |_,_=>none
def C1(f:Int->Int->Bool):T->T->Option T
 |.int i,.int j=>some (.bl (f i j))
 |_,_=>none
def FU:T->Option T
 |.int i=>some (.int (-i))
 |_=>none
theorem Nx(h:Eo i=true):-(2 ^ 64)<i/\i<2 ^ 64:=@of_decide_eq_true _ (Classical.propDecidable _) h
theorem Nw(h:Cv i=true):Sm i:=@of_decide_eq_true _ (Classical.propDecidable _) h
theorem Y3(h:Y4 k=true):k<2 ^ 63/\-(2 ^ 63)<=k:=@of_decide_eq_true _ (Classical.propDecidable _) h
theorem Fx:Bp=sizeLine:=by rw[ydv];rfl
theorem LI{K}{F}:∀{l m} {xs ys},Aw K F l xs->Aw K F m ys->Aw K F (l++m) (xs++ys)
 |[],m,xs,ys,r,q=>by rw[r.inv0];exact q
 |t::l,m,xs,ys,r,q=>by
  obtain⟨x,xs',rfl,r1,r2⟩:=r.inv;exact .cons r1 (LI r2 q)
theorem VW{K}(r:Aw K F l xs):∀n ,Aw K F (List.replicate n l).flatten (List.replicate n xs).flatten
 |0=>.nil
 |n+1=>by
  exact LI r (VW r n)
section
variable {X:Cx}
theorem Ew{K}(h:Rp K F H (.nd o k l) x R0):∃p xs,x=.ref p/\o=false/\F9 K F k p xs/\Aw K F l xs:=by
 generalize hA:R0=A at h;cases h with
 |shr h e c=>exact⟨_,_,rfl,rfl,h,e,λi t x h1 h2=>(hA▸c i t x h1 h2).any⟩
 |@own k0 p xs l hk R f h e c d dp o =>
  exfalso
  have:R0 p:=by grind
  exact this
theorem zkd:Ak X (binaryOp .Add) (Br X.K BI):=by
 intro pins s σ H x y v u Q I rx ry h;obtain⟨F,t1,t2,r,fh,r1,r2,e,q⟩:=h;unfold BI at e;split at e
 .cases e;rw[r1.int_inv]at rx;rw[r2.int_inv]at ry;exact znk pins s σ H _ _ v u Q I rx ry ⟨_,_,rfl,rfl,q.int fh⟩
 .split at e
  .cases e;rename_i hz;rw[r1.str_inv]at rx;rw[r2.str_inv]at ry;exact zeb pins s σ H _ _ v u Q I rx ry ⟨_,_,rfl,rfl,by rw[<- Fx];exact hz,q.str fh⟩
  .cases e
 .split at e
  .cases e;rename_i hz;obtain⟨p,xs,rfl,rfl,n1,k1⟩:=Ew r1;obtain⟨p2,ys,rfl,rfl,n2,k2⟩:=Ew r2;refine zni pins s σ H _ _ v u Q I rx ry ⟨p,p2,xs,ys,rfl,rfl,fh _ _ n1,fh _ _ n2,?_,λa ha=>q.list fh (LI k1 k2) ha⟩
   rw[<- k1.1,<- k2.1,<- Fx];exact hz
  .cases e
 .cases e
theorem HF(ho:Ak X f (rI C g))(hg:∀t u v,gT t u=some v->∃i j,t=.int i/\u=.int j/\C i j/\((∃k,v=.int k/\g i j=.int k)\/∃k,v=.bl k/\g i j=.bl k)):Ak X f (Br X.K gT):=by
 intro pins s σ H x y v u Q I rx ry h;obtain⟨F,t1,t2,r,fh,r1,r2,e,q⟩:=h;obtain⟨i,j,rfl,rfl,hc,hv⟩:=hg _ _ _ e;rw[r1.int_inv]at rx;rw[r2.int_inv]at ry;refine ho pins s σ H _ _ v u Q I rx ry ⟨i,j,rfl,rfl,hc,?_⟩
 rcases hv with ⟨k,rfl,ek⟩|⟨k,rfl,ek⟩
 .rw[ek];exact q.int fh
 .rw[ek];exact q.bl fh
theorem Ak.weak(h:Ak X f r)(w:∀x y H Q,r' x y H Q->r x y H Q):Ak X f r':=λpins s σ H x y v u Q I rx ry q=>h pins s σ H x y v u Q I rx ry (w x y H Q q)
theorem LJ(h:Ak X f (Ea g)):Ak X f (rI (λ_ _=>True) g):=Ak.weak h λx y H Q ⟨i,j,a,b,_,q⟩=>⟨i,j,a,b,q⟩
theorem zk7:Ak X (binaryOp .Sub) (Br X.K Fd):=HF (LJ znd) λt u v h=>by
 unfold Fd at h
 grind
theorem zkc:Ak X (binaryOp .BitOr) (Br X.K KA):=HF (LJ op_or) λt u v h=>by
 unfold KA at h
 grind
theorem zhn:Ak X (binaryOp .BitAnd) (Br X.K KD):=HF (LJ znj) λt u v h=>by
 unfold KD at h
 grind
theorem zka:Ak X (binaryOp .Mod) (Br X.K BA):=HF zk6 λt u v h=>by
 unfold BA at h
 grind
theorem zhm:Ak X (binaryOp .FloorDiv) (Br X.K CW):=HF zhl λt u v h=>by
 unfold CW at h;split at h
 .split at h
  .cases h;rename_i hc;exact⟨_,_,rfl,rfl,⟨hc.1,Nw hc.2⟩,.inl ⟨_,rfl,rfl⟩⟩
  .cases h
 .cases h
theorem zk8:Ak X (binaryOp .Pow) (Br X.K Er):=HF znf λt u v h=>by
 unfold Er at h;split at h
 .split at h
  .cases h;rename_i hc;have q:=Nx hc.2.2;exact⟨_,_,rfl,rfl,⟨hc.1,hc.2.1,by omega⟩,.inl ⟨_,rfl,rfl⟩⟩
  .cases h
 .cases h
theorem LX(ho:Ak X (compareOp op) (Ea λi j=>.bl (g i j))):Ak X (compareOp op) (Br X.K (C1 g)):=HF (LJ ho) λt u v h=>by
 unfold C1 at h
 grind
theorem zk9:Ak X (binaryOp .Mult) (Br X.K CH):=by
 intro pins s σ H x y v u Q I rx ry h;obtain⟨F,t1,t2,r,fh,r1,r2,e,q⟩:=h;unfold CH at e;split at e
 .rename_i i j;split at e
  .cases e;rename_i hc;rw[r1.int_inv]at rx;rw[r2.int_inv]at ry;unfold Bi at hc;rw[yc2,yc2,ya3]at hc
   rcases hc with (hc|hc)|hc
   .exact WC pins s σ H _ _ v u Q I rx ry ⟨i,j,rfl,rfl,.inl (Nx hc),q.int fh⟩
   .exact WC pins s σ H _ _ v u Q I rx ry ⟨i,j,rfl,rfl,.inr (Nx hc),q.int fh⟩
   .exact zk5 pins s σ H _ _ v u Q I rx ry ⟨i,j,rfl,rfl,⟨Nw hc.1,Nw hc.2⟩,q.int fh⟩
  .cases e
 .split at e
  .cases e;rename_i hc;obtain⟨p,xs,rfl,rfl,n1,k1⟩:=Ew r1;rw[r2.int_inv]at ry;refine zne pins s σ H _ _ v u Q I rx ry ⟨p,_,xs,rfl,rfl,fh _ _ n1,(Y3 hc.1).2,(Y3 hc.1).1,?_,λa ha=>q.list fh (VW k1 _) ha⟩
   rw[<- k1.1,<- Fx];exact hc.2
  .cases e
 .split at e
  .cases e;rename_i hc;rw[r1.str_inv]at rx;rw[r2.int_inv]at ry;obtain⟨t1,rfl⟩:=rx;obtain⟨t2,rfl⟩:=ry;exact SB.mul (mulOk_of 16 1048576 hc.2.2 (by omega) (by omega) (by decide) (by decide)) λt' k=>⟨.str _,H,I.tok _,⟨_,rfl⟩,q.str fh⟩
  .cases e
 .cases e
theorem ziv:KG X (unaryOp .USub) (LO X.K FU):=by
 intro pins s σ H x v Q I rx h;obtain⟨F,t,r,fh,r1,e,q⟩:=h;unfold FU at e;split at e
 .cases e;rw[r1.int_inv]at rx;exact zlp pins s σ H _ v Q I rx ⟨_,rfl,q.int fh⟩
 .cases e
theorem aE{A:Around}(hu:A.units+64<cLine)(h:n<=60):A.units+n<cLine:=by omega
theorem zno(hu:X.A.units+64<cLine):Ak X (compareOp .Eq) (Br X.K BF):=by
 intro pins s σ H x y v u Q I rx ry h;obtain⟨F,t1,t2,r,fh,r1,r2,e,q⟩:=h;unfold BF at e;split at e
 .cases e;rename_i hc;unfold HZ EH at hc;rw[ya3,ya3,ya3,ya3,ye4]at hc;obtain⟨a1,q1⟩:=GP I fh (r1.any) hc.1.1.1 rx;obtain⟨a2,q2⟩:=GP I fh (r2.any) hc.1.2.1 ry;exact SeqAt.compareEq_reads q1 q2 hc.1.1.2 hc.1.2.2 (aE hu hc.2) ⟨.bl _,H,I,rfl,q.bl fh⟩
 .cases e
theorem znn(hu:X.A.units+64<cLine):Ak X (compareOp .In) (Br X.K Dd):=by
 intro pins s σ H x y v u Q I rx ry h;obtain⟨F,t1,t2,r,fh,r1,r2,e,q⟩:=h;unfold Dd at e;split at e
 .rename_i o k l;split at e
  .cases e;rename_i hc;unfold G6 EH at hc;rw[ya3,ya3,ya3,ya3,ye4]at hc;obtain⟨a1,q1⟩:=GP I fh (r1.any) hc.1.1.1 rx;obtain⟨a2,q2⟩:=GP I fh (r2.any) (hc.1.2.1) ry;have hd:X.A.units+1+min (PyData.depthAll (Bb l)) t1.data.depth<cLine:=by omega
   cases k with
   |lst=>exact yda q2 q1 hc.1.2.2 hc.1.1.2 hd ⟨.bl _,H,I,rfl,q.bl fh⟩
   |rl=>exact yda q2 q1 hc.1.2.2 hc.1.1.2 hd ⟨.bl _,H,I,rfl,q.bl fh⟩
   |tup=>exact SeqAt.in_tuple_reads q2 q1 hc.1.2.2 hc.1.1.2 hd ⟨.bl _,H,I,rfl,q.bl fh⟩
   |rt=>exact SeqAt.in_tuple_reads q2 q1 hc.1.2.2 hc.1.1.2 hd ⟨.bl _,H,I,rfl,q.bl fh⟩
   |pin _=>exact yda q2 q1 hc.1.2.2 hc.1.1.2 hd ⟨.bl _,H,I,rfl,q.bl fh⟩
  .cases e
 .unfold Yg at e;split at e
  .cases e;rw[r1.str_inv]at rx;rw[r2.str_inv]at ry;exact zfg pins s σ H _ _ v u Q I rx ry ⟨_,_,rfl,rfl,q.bl fh⟩
  .cases e
 .cases e
theorem zfh(hu:X.A.units+64<cLine):Ak X (compareOp .NotIn) (Br X.K FT):=by
 intro pins s σ H x y v u Q I rx ry h;obtain⟨F,t1,t2,r,fh,r1,r2,e,q⟩:=h;unfold FT at e;split at e
 .rename_i o k l;split at e
  .cases e;rename_i hc;unfold G6 EH at hc;rw[ya3,ya3,ya3,ya3,ye4]at hc;obtain⟨a1,q1⟩:=GP I fh (r1.any) hc.1.1.1 rx;obtain⟨a2,q2⟩:=GP I fh (r2.any) (hc.1.2.1) ry;have hd:X.A.units+1+min (PyData.depthAll (Bb l)) t1.data.depth<cLine:=by omega
   cases k with
   |lst=>exact yd0 q2 q1 hc.1.2.2 hc.1.1.2 hd ⟨.bl _,H,I,rfl,q.bl fh⟩
   |rl=>exact yd0 q2 q1 hc.1.2.2 hc.1.1.2 hd ⟨.bl _,H,I,rfl,q.bl fh⟩
   |tup=>exact SeqAt.notIn_tuple_reads q2 q1 hc.1.2.2 hc.1.1.2 hd ⟨.bl _,H,I,rfl,q.bl fh⟩
   |rt=>exact SeqAt.notIn_tuple_reads q2 q1 hc.1.2.2 hc.1.1.2 hd ⟨.bl _,H,I,rfl,q.bl fh⟩
   |pin _=>exact yd0 q2 q1 hc.1.2.2 hc.1.1.2 hd ⟨.bl _,H,I,rfl,q.bl fh⟩
  .cases e
 .cases e
end
set_option genInjectivity true in
inductive Rs where
 |v (t:T) (b:Bool)|x (c:Str)
abbrev AL:=AV->Option Rs
set_option genInjectivity true in
inductive RsL where
 |v (ts:List T) (b:Bool)|x (c:Str)
abbrev BM:=AV->Option RsL
def tot(R:Nat->Rg):Rg:=λa=>∃i,R i a
def EJ(K:k6)(F H:Hp)(R:Nat->Rg)(v:T)(b:Bool)(x:V)(B:Rg):Prop:=match b with
 |true=>B=R0/\∃A,(∀a,A a->tot R a)/\Rp K F H v x A
 |false=>Rp K F H v x B
def Gz(b:Bool)(F H:Hp)(R:Nat->Rg):Hp:=match b with
 |true=>frz F H (tot R)
 |false=>F
section
variable {K:k6}{F H F1 H1:Hp}{σ:L2.St}{τ:AV}{R:Nat->Rg}{B:Rg}{b c:Bool}{v:T}{x:V}
theorem StR.tot(S:StR K F H σ τ R)(h:tot R a):F a=none/\∃u,H a=some u:=by
 obtain⟨i,z⟩:=h;exact S.dom z
theorem Lz(S:StR K F H σ τ R):Aa F (Gz b F H R):=by
 cases b with
 |true=>exact FE λa z=>(S.tot z).1
 |false=>exact .refl _
theorem QT(S:StR K F H σ τ R):Aa (Gz b F H R) H:=by
 cases b with
 |true=>exact Ia S.fh
 |false=>exact S.fh
theorem zkv(S:StR K F H σ τ R)(e:Ext F H F1 H1 B)(h:b=true->c=true):Aa (Gz b F H R) (Gz c F1 H1 R):=by
 have S1:=S.ext e;cases b with
 |false=>exact e.ff.trans (Lz S1)
 |true =>
  rw[h rfl];intro a u q;show frz F1 H1 (Pu.tot R) a=some u
  by_cases z:Pu.tot R a
  .rw[G9 z];have q':frz F H (Pu.tot R) a=some u:=q;rw[G9 z]at q';exact e.hh _ _ q'
  .rw[GC z];have q':frz F H (Pu.tot R) a=some u:=q;rw[GC z]at q';exact e.ff _ _ q'
theorem EJ.frz(S:StR K F H σ τ R)(e:Ext F H F1 H1 B)(g:EJ K F1 H1 R v b x B):∃F2,Ext F H F2 H1 R0/\Aa F1 F2/\Rp K (Gz b F2 H1 R) (Gz b F2 H1 R) v.share x R0:=by
 have S1:=S.ext e;cases b with
 |true =>
  obtain⟨rfl,A,hA,r⟩:=g
  exact⟨F1,e,.refl _,r.share (Lz S1) λa u z q=>by
   show Pu.frz F1 H1 (Pu.tot R) a=some u;rw[G9 (hA a z)];exact q⟩
 |false =>
  have g' :=g;have n:∀a,B a->F1 a=none:=λa z=>(g'.dom z).1
  exact⟨_,e.frz n,FE n,g'.share (FE n) λa u z q=>by
   show Pu.frz F1 H1 B a=some u;rw[G9 z];exact q⟩
theorem Ext.grow(e:Ext F H F1 H1 R0)(s:Aa H1 H2):Ext F H F1 H2 R0:=⟨e.hh.trans s,e.ff,e.fh.trans s,λ_ z=>z.elim,e.nf⟩
end
noncomputable def Fk(c:Str):Option Nat:=match c.cps.toList with
 |[78,111,82,117,110,n]=>some n
 |_=>none
def Vv(c:Str):Str:=match Fk c with
 |some _=>"NoRun"
 |none=>c
def OM(c:Str):List V:=match Fk c with
 |some n=>[.int n]
 |none=>[]
def SU(F:Hp)(c:Str)(dx:Option Addr):Prop:=∀v∈OM c,KH F dx v
def XE(E:XK)(ca:Str->Value)(c:Str)(F H:Hp):Prop:=∀dx,SU F c dx->E (ca (Vv c)) dx H
theorem XE.plain(h:XE E ca c F H)(hc:Fk c=none):E (ca c) none H:=by
 have:=h none (by unfold SU OM;grind)
 unfold Vv at this
 grind
theorem XE.any(h:XE E ca c F H)(hc:Fk c=none):XE E ca c F' H:=λdx _=>h dx (by unfold SU OM;grind)
def pM(K:k6)(E:L2.St->XK)(ca:Str->Value)(σ:L2.St)(Q:VK)(F H:Hp)(R:Nat->Rg):Option Rs->Prop
 |some (.v v b)=>∀F' H' x B,Ext F H F' H' B->EJ K F' H' R v b x B->Q x H'
 |some (.x c)=>∀F' H',Ext F H F' H' R0->XE (E σ) ca c F' H'
 |none=>False
def tM(K:k6)(E:L2.St->XK)(ca:Str->Value)(m:AL):TE:=λσ H Q=>∃F τ R,StR K F H σ τ R/\pM K E ca σ Q F H R (m τ)
def pMs(K:k6)(E:L2.St->XK)(ca:Str->Value)(σ:L2.St)(Q:List V->Hp->Prop)(F H:Hp)(R:Nat->Rg):Option RsL->Prop
 |some (.v ts b)=>∀F' H' xs,Ext F H F' H' R0->Aw K (Gz b F' H' R) ts xs->Q xs H'
 |some (.x c)=>∀F' H',Ext F H F' H' R0->XE (E σ) ca c F' H'
 |none=>False
def CF(K:k6)(E:L2.St->XK)(ca:Str->Value)(m:BM):TA:=λσ H Q=>∃F τ R,StR K F H σ τ R/\pMs K E ca σ Q F H R (m τ)
def pMB(K:k6)(E:L2.St->XK)(ca:Str->Value)(σ:L2.St)(Q:Bool->Hp->Prop)(F H:Hp):Option Rs->Prop
 |some (.v (.bl c) _)=>∀F' H',Ext F H F' H' R0->Q c H'
 |some (.v _ _)=>False
 |some (.x c)=>∀F' H',Ext F H F' H' R0->XE (E σ) ca c F' H'
 |none=>False
def B3(K:k6)(E:L2.St->XK)(ca:Str->Value)(m:AL):TT:=λσ H Q=>∃F τ R,StR K F H σ τ R/\pMB K E ca σ Q F H (m τ)
noncomputable def AA(i:Nat):AL:=λτ=>match τ[i]? with
 |some (some t)=>some (.v t (!t.sh))
 |_=>none
noncomputable def mC(t:T):AL:=λ_=>some (.v t false)
def AE:BM:=λ_=>some (.v [] false)
noncomputable def AB(m:AL)(ms:BM):BM:=λτ=>match m τ with
 |some (.v t b)=>(match ms τ with
  |some (.v ts b')=>some (.v (t.share::ts) (b || b'))
  |r=>r)
 |some (.x c)=>some (.x c)
 |none=>none
def BN(b:Bool)(v:T):Option Rs:=if b && !v.flat then none else some (.v v false)
def Bn(g:List T->Option T)(ms:BM):AL:=λτ=>match ms τ with
 |some (.v ts b)=>(match g ts with
  |some v=>BN b v
  |none=>none)
 |some (.x c)=>some (.x c)
 |none=>none
def g2(g:T->T->Option T):List T->Option T
 |[t,u]=>g t u
 |_=>none
def g1(g:T->Option T):List T->Option T
 |[t]=>g t
 |_=>none
abbrev m1(g:T->Option T)(a:AL):AL:=Bn (g1 g) (AB a AE)
abbrev m2(g:T->T->Option T)(a b:AL):AL:=Bn (g2 g) (AB a (AB b AE))
def Dt(c:AL)(a b:AL):AL:=λτ=>match c τ with
 |some (.v (.bl true) _)=>a τ
 |some (.v (.bl false) _)=>b τ
 |some (.x c)=>some (.x c)
 |_=>none
def BE(c:AL):AL:=λτ=>match c τ with
 |some (.v (.bl b) _)=>some (.v (.bl (!b)) false)
 |some (.x c)=>some (.x c)
 |_=>none
def CU(a b:AL):AL:=Dt a b (mC (.bl false))
def Bo(a b:AL):AL:=Dt a (mC (.bl true)) b
section
variable {X:Cx}{E:L2.St->XK}{ca:Str->Value}{σ:L2.St}{H:Hp}{m ma mb mc:AL}{ms:BM}{K:k6}{a b c e:Expr}{es:List Expr}{pos:Pos}
theorem PE.weak(h:PE X e t)(w:∀σ H Q,t' σ H Q->t σ H Q):PE X e t':=λpins s σ H Q I q=>h pins s σ H Q I (w σ H Q q)
theorem PT.weak(h:PT X e t)(w:∀σ H Q,t' σ H Q->t σ H Q):PT X e t':=λpins s σ H Q I q=>h pins s σ H Q I (w σ H Q q)
theorem PA.weak(h:PA X es t)(w:∀σ H Q,t' σ H Q->t σ H Q):PA X es t':=λpos pins s σ H Q I q=>h pos pins s σ H Q I (w σ H Q q)
theorem tM.mono(h:tM K E ca m σ H Q)(w:∀x H',Q x H'->Q' x H'):tM K E ca m σ H Q':=by
 obtain⟨F,τ,R,S,q⟩:=h;refine⟨F,τ,R,S,?_⟩;cases hm:m τ with
 |none=>rw[hm]at q;exact q
 |some r =>
  rw[hm]at q;cases r with
  |v v b=>exact λF' H' x B e g=>w _ _ (q F' H' x B e g)
  |x c=>exact q
theorem CF.mono(h:CF K E ca ms σ H Q)(w:∀x H',Q x H'->Q' x H'):CF K E ca ms σ H Q':=by
 obtain⟨F,τ,R,S,q⟩:=h;refine⟨F,τ,R,S,?_⟩;cases hm:ms τ with
 |none=>rw[hm]at q;exact q
 |some r =>
  rw[hm]at q;cases r with
  |v v b=>exact λF' H' x e g=>w _ _ (q F' H' x e g)
  |x c=>exact q
theorem Gs(h:CF K E ca AE σ H Q):Q [] H:=by
 obtain⟨F,τ,R,S,q⟩:=h;exact q F H [] (Ext.refl S.fh) .nil
theorem Gu(h:CF K E ca (AB m ms) σ H Q):tM K E ca m σ H λx H1=>CF K E ca ms σ H1 λxs H2=>Q (x::xs) H2:=by
 obtain⟨F,τ,R,S,q⟩:=h;refine⟨F,τ,R,S,?_⟩;unfold AB at q;cases hm:m τ with
 |none=>rw[hm]at q;exact q
 |some r =>
  rw[hm]at q;cases r with
  |x c=>exact q
  |v t b =>
   intro F' H' x B e g;obtain⟨F2,e2,_,r2⟩:=EJ.frz S e g;have S2:=S.ext e2;refine⟨F2,τ,R,S2,?_⟩;cases hs:ms τ with
   |none=>rw[hs]at q;exact q.elim
   |some r =>
    simp only[hs]at q;cases r with
    |x c=>exact λF3 H3 e3=>q F3 H3 (e2.trans0 e3)
    |v ts b' =>
     intro F3 H3 xs e3 rs;refine q F3 H3 (x::xs) (e2.trans0 e3) ?_;refine .cons (H:=H3) ((r2.frame (zkv S2 e3 (by grind)) λa z=>z.elim)) ?_
     cases b' with
     |true=>grind
     |false =>
      cases b with
      |false=>exact rs
      |true=>exact rs.same (Lz (S2.ext e3))
theorem Gv(h:tM K E ca (Bn g ms) σ H Q):CF K E ca ms σ H λxs H1=>DX K g xs H1 Q:=by
 obtain⟨F,τ,R,S,q⟩:=h;refine⟨F,τ,R,S,?_⟩;unfold Bn at q;cases hs:ms τ with
 |none=>rw[hs]at q;exact q.elim
 |some r =>
  simp only[hs]at q;cases r with
  |x c=>exact q
  |v ts b =>
   intro F1 H1 xs e1 rs;have S1:=S.ext e1;cases hg:g ts with
   |none=>simp only[hg]at q;exact q.elim
   |some v =>
    simp only[hg]at q;refine⟨Gz b F1 H1 R,ts,v,QT S1,rs,hg,λF2 H2 z C e2 r2=>?_⟩
    unfold BN at q;cases b with
    |false=>exact q F2 H2 z C (e1.trans0 e2) r2
    |true =>
     cases hf:v.flat with
     |false =>
      rw[hf]at q;exact False.elim q
     |true =>
      rw[hf]at q;exact q F1 H2 z R0 (e1.grow e2.hh) (r2.flat_any hf)
theorem rTn2(h:DX K (g2 g) [x,y] H Q):Br K g x y H Q:=by
 obtain⟨F,ts,v,fh,rs,e,q⟩:=h;unfold g2 at e;split at e
 .obtain⟨x1,xs1,e1,r1,rs1⟩:=rs.inv;obtain⟨x2,xs2,e2,r2,rs2⟩:=rs1.inv;cases e1;cases e2;exact⟨F,_,_,v,fh,r1,r2,e,q⟩
 .cases e
theorem rTn1(h:DX K (g1 g) [x] H Q):LO K g x H Q:=by
 obtain⟨F,ts,v,fh,rs,e,q⟩:=h;unfold g1 at e;split at e
 .obtain⟨x1,xs1,e1,r1,rs1⟩:=rs.inv;cases e1;exact⟨F,_,v,fh,r1,e,q⟩
 .cases e
theorem Nd(h:tM K E ca (Bn (g2 g) (AB ma (AB mb AE))) σ H Q):IA (Br K g) (tM K E ca ma) (tM K E ca mb) σ H Q :=
 (Gu (Gv h)).mono λx H1 h1=>(Gu h1).mono λy H2 h2=>rTn2 (Gs h2)
theorem zlw(h:tM K E ca (Bn (g1 g) (AB ma AE)) σ H Q):TX (LO K g) (tM K E ca ma) σ H Q :=
 (Gu (Gv h)).mono λx H1 h1=>rTn1 (Gs h1)
theorem zln(h:tM K E ca (AA i) σ H Q):Na i σ H Q:=by
 obtain⟨F,τ,R,S,q⟩:=h;unfold AA at q;split at q
 .rename_i t ht;obtain⟨x,e,r⟩:=S.rep i t ht;refine⟨x,e,q F H x R0 (Ext.refl S.fh) ?_⟩;cases hs:t.sh with
  |true=>exact r.move hs (.refl _)
  |false=>exact⟨rfl,R i,λa z=>⟨i,z⟩,r⟩
 .exact False.elim q
theorem r_var(hN:X.N[i]?=some x)(hv:DR X.env.scope x)(hd:(x == "__debug__")=false)(hcd:(x == "__classdict__")=false):PE X (.Name x pos) (tM X.K E ca (AA i)):=PE.weak (GW hN hv hd hcd) λ_ _ _ h=>zln h
theorem LM(h:PE X e (tC v))(r:∀F H,Rp X.K F H t v R0):PE X e (tM X.K E ca (mC t)):=PE.weak h λσ H Q h=>by
 obtain⟨F,τ,R,S,q⟩:=h;exact q F H v R0 (Ext.refl S.fh) (r _ _)
theorem V9:PA X [] (CF X.K E ca AE):=PA.weak Fl λσ H Q h=>Gs h
theorem Vd(ha:PE X e (tM X.K E ca m))(hr:PA X es (CF X.K E ca ms))(hs:starEach (e::es) X.env=(false,eval e X.env)::starEach es X.env):PA X (e::es) (CF X.K E ca (AB m ms)) :=
 PA.weak (Eu ha hr hs) λσ H Q h=>Gu h
theorem r_bin(ho:Ak X (binaryOp op) (Br X.K g))(ha:PE X a (tM X.K E ca ma))(hb:PE X b (tM X.K E ca mb)):PE X (.BinOp a op b pos) (tM X.K E ca (Bn (g2 g) (AB ma (AB mb AE)))) :=
 PE.weak (pe_op ho ha hb) λσ H Q h=>Nd h
theorem r_un(ho:KG X (unaryOp op) (LO X.K g))(ha:PE X a (tM X.K E ca ma)):PE X (.UnaryOp op a pos) (tM X.K E ca (Bn (g1 g) (AB ma AE))) :=
 PE.weak (pe_un ho ha) λσ H Q h=>zlw h
theorem r_cmp(ho:Ak X (compareOp op) (Br X.K g))(ha:PE X a (tM X.K E ca ma))(hb:PE X b (tM X.K E ca mb))(hm:behindInMarks op b=false):PE X (.Compare a [op] [b] pos) (tM X.K E ca (Bn (g2 g) (AB ma (AB mb AE)))) :=
 PE.weak (zjz ho ha hb hm) λσ H Q h=>Nd h
theorem Kt  (h:B3 K E ca m σ H Q):tM K E ca m σ H λx H1=>∃k,x=.bl k/\Q k H1:=by
 obtain⟨F,τ,R,S,q⟩:=h;refine⟨F,τ,R,S,?_⟩;cases hm:m τ with
 |none=>rw[hm]at q;exact q
 |some r =>
  rw[hm]at q;cases r with
  |x c=>exact q
  |v v b =>
   cases v with
   |bl k =>
    intro F' H' x B e g
    have hx:x=.bl k:=by
     cases b with
     |true=>obtain⟨_,A,_,r⟩:=g;exact r.bl_inv
     |false=>exact(g).bl_inv
    exact⟨k,hx,q F' H' (e.mono λ_ z=>z.elim)⟩
   |_=>exact q.elim
theorem zmh(ho:Ak X (compareOp op) (Br X.K g))(ha:PE X a (tM X.K E ca ma))(hb:PE X b (tM X.K E ca mb))(hm:behindInMarks op b=false):PT X (.Compare a [op] [b] pos) (B3 X.K E ca (Bn (g2 g) (AB ma (AB mb AE)))) :=
 PT.weak (zjm ho ha hb hm) λσ H Q h=>Nd (Kt h)
theorem V7(h:PE X e (tM X.K E ca m))(he:∀whole,isTrue e X.env whole=(do let v <- whole;standAt e.pos;holding [v] (truthy v))):PT X e (B3 X.K E ca m):=PT.weak (zms h he) λσ H Q h=>Kt h
theorem Tf  (h:B3 K E ca (Dt mc ma mb) σ H Q):B3 K E ca mc σ H λk H1=>if k=true then B3 K E ca ma σ H1 Q else B3 K E ca mb σ H1 Q:=by
 obtain⟨F,τ,R,S,q⟩:=h;refine⟨F,τ,R,S,?_⟩;unfold Dt at q;cases hm:mc τ with
 |none=>rw[hm]at q;exact q.elim
 |some r =>
  simp only[hm]at q;cases r with
  |x c=>exact q
  |v v b =>
   cases v with
   |bl k =>
    intro F1 H1 e1;have S1:=S.ext e1
    have key:∀{mm },(match mm τ with
      |some (.v (.bl c) _)=>∀F' H',Ext F H F' H' R0->Q c H'
      |some (.v _ _)=>False
      |some (.x c)=>∀F' H',Ext F H F' H' R0->XE (E σ) ca c F' H'
      |none=>False)->B3 K E ca mm σ H1 Q:=λ{mm} q=>by
     refine⟨F1,τ,R,S1,?_⟩;cases hr:mm τ with
     |none=>grind
     |some r =>
      simp only[hr]at q;cases r with
      |x c=>exact λF' H' e=>q F' H' (e1.trans0 e)
      |v v b =>
       cases v with
       |bl k=>exact λF' H' e=>q F' H' (e1.trans0 e)
       |_=>exact q.elim
    cases k with
    |true=>exact Jj (key q)
    |false=>exact Jk (key q)
   |_=>exact q.elim
theorem Tc(h:tM K E ca (Dt mc ma mb) σ H Q):B3 K E ca mc σ H λk H1=>if k=true then tM K E ca ma σ H1 Q else tM K E ca mb σ H1 Q:=by
 obtain⟨F,τ,R,S,q⟩:=h;refine⟨F,τ,R,S,?_⟩;unfold Dt at q;cases hm:mc τ with
 |none=>rw[hm]at q;exact q.elim
 |some r =>
  simp only[hm]at q;cases r with
  |x c=>exact q
  |v v b =>
   cases v with
   |bl k =>
    intro F1 H1 e1;have S1:=S.ext e1
    have key:∀{mm },(match mm τ with
      |some (.v v b)=>∀F' H' x B,Ext F H F' H' B->EJ K F' H' R v b x B->Q x H'
      |some (.x c)=>∀F' H',Ext F H F' H' R0->XE (E σ) ca c F' H'
      |none=>False)->tM K E ca mm σ H1 Q:=λ{mm} q=>by
     refine⟨F1,τ,R,S1,?_⟩;cases hr:mm τ with
     |none=>grind
     |some r =>
      simp only[hr]at q;cases r with
      |x c=>exact λF' H' e=>q F' H' (e1.trans0 e)
      |v v b=>exact λF' H' x B e g=>q F' H' x B (e1.trans0 e) g
    cases k with
    |true=>exact Jj (key q)
    |false=>exact Jk (key q)
   |_=>exact q.elim
theorem r_ife(hc:PT X c (B3 X.K E ca mc))(ha:PE X a (tM X.K E ca ma))(hb:PE X b (tM X.K E ca mb)):PE X (.IfExp c a b pos) (tM X.K E ca (Dt mc ma mb)):=PE.weak (zhg hc ha hb) λσ H Q h=>Tc h
theorem ziz(h:B3 K E ca (BE mc) σ H Q):T5 (B3 K E ca mc) σ H Q:=by
 obtain⟨F,τ,R,S,q⟩:=h;refine⟨F,τ,R,S,?_⟩;unfold BE at q;cases hm:mc τ with
 |none=>rw[hm]at q;exact q.elim
 |some r =>
  simp only[hm]at q;cases r with
  |x c=>exact q
  |v v b =>
   cases v with
   |bl k=>exact q
   |_=>exact q.elim
theorem zmg(hc:PT X c (B3 X.K E ca mc)):PT X (.UnaryOp .Not c pos) (B3 X.K E ca (BE mc)):=PT.weak (zmt hc) λσ H Q h=>ziz h
theorem zlx(h:tM K E ca (BE mc) σ H Q):T4 (tM K E ca mc) σ H Q:=by
 obtain⟨F,τ,R,S,q⟩:=h;refine⟨F,τ,R,S,?_⟩;unfold BE at q;cases hm:mc τ with
 |none=>rw[hm]at q;exact q.elim
 |some r =>
  simp only[hm]at q;cases r with
  |x c=>exact q
  |v v b =>
   cases v with
   |bl k =>
    intro F' H' x B e g
    have hx:x=.bl k:=by
     cases b with
     |true=>obtain⟨_,A,_,r⟩:=g;exact r.bl_inv
     |false=>exact(g).bl_inv
    exact⟨k,hx,q F' H' _ R0 (e.mono λ_ z=>z.elim) (.bl _)⟩
   |_=>exact q.elim
theorem r_not(ha:PE X a (tM X.K E ca ma)):PE X (.UnaryOp .Not a pos) (tM X.K E ca (BE ma)):=PE.weak (zn7 ha) λσ H Q h=>zlx h
theorem Ta(h:tM K E ca (Dt mc ma mb) σ H Q):tM K E ca mc σ H λx H1=>∃k,x=.bl k/\if k=true then tM K E ca ma σ H1 Q else tM K E ca mb σ H1 Q:=Kt (Tc h)
theorem Te(r:∀F H,Rp K F H t v R0)(h:tM K E ca (mC t) σ H Q):Q v H:=by
 obtain⟨F,τ,R,S,q⟩:=h;exact q F H v R0 (Ext.refl S.fh) (r _ _)
theorem r_and{BJ}(ha:PE X a (tM X.K E ca ma))(hb:PE X (.BoolOp .And (b::BJ) pos) (tM X.K E ca mb)):PE X (.BoolOp .And (a::b::BJ) pos) (tM X.K E ca (CU ma mb)) :=
 PE.weak (znc ha hb) λσ H Q h=>(Ta h).mono λx H1 ⟨k,e,q⟩=>⟨k,e,by
  cases k with
  |true=>exact q
  |false=>exact Te (λ_ _=>.bl _) q⟩
theorem r_or{BJ}(ha:PE X a (tM X.K E ca ma))(hb:PE X (.BoolOp .Or (b::BJ) pos) (tM X.K E ca mb)):PE X (.BoolOp .Or (a::b::BJ) pos) (tM X.K E ca (Bo ma mb)) :=
 PE.weak (pe_or ha hb) λσ H Q h=>(Ta h).mono λx H1 ⟨k,e,q⟩=>⟨k,e,by
  cases k with
  |true=>exact Te (λ_ _=>.bl _) q
  |false=>exact q⟩
theorem r_one(ha:PE X a (tM X.K E ca ma)):PE X (.BoolOp op [a] pos) (tM X.K E ca ma):=zn6 ha
theorem B3.mono(h:B3 K E ca m σ H Q)(w:∀x H',Q x H'->Q' x H'):B3 K E ca m σ H Q':=by
 obtain⟨F,τ,R,S,q⟩:=h;refine⟨F,τ,R,S,?_⟩;cases hm:m τ with
 |none=>rw[hm]at q;exact q
 |some r =>
  rw[hm]at q;cases r with
  |v v b =>
   cases v with
   |bl k=>exact λF' H' e=>w _ _ (q F' H' e)
   |_=>exact q.elim
  |x c=>exact q
theorem Nf(h:B3 K E ca (mC (.bl k)) σ H Q):Q k H:=by
 obtain⟨F,τ,R,S,q⟩:=h;exact q F H (Ext.refl S.fh)
theorem PW.weak(h:PW X e t)(w:∀σ H Q,t' σ H Q->t σ H Q):PW X e t':=λwh pins s σ H Q I q=>h wh pins s σ H Q I (w σ H Q q)
theorem zmf{BJ}(ha:PT X a (B3 X.K E ca ma))(hb:PW X (.BoolOp .And (b::BJ) pos) (B3 X.K E ca mb)):PW X (.BoolOp .And (a::b::BJ) pos) (B3 X.K E ca (CU ma mb)) :=
 PW.weak (zmr ha hb) λσ H Q h=>(Tf h).mono λk H1 q=>by
  cases k with
  |true=>exact q
  |false=>exact Nf q
theorem r_wor{BJ}(ha:PT X a (B3 X.K E ca ma))(hb:PW X (.BoolOp .Or (b::BJ) pos) (B3 X.K E ca mb)):PW X (.BoolOp .Or (a::b::BJ) pos) (B3 X.K E ca (Bo ma mb)) :=
 PW.weak (pw_or ha hb) λσ H Q h=>(Tf h).mono λk H1 q=>by
  cases k with
  |true=>exact Nf q
  |false=>exact q
theorem zjf(ha:PT X a (B3 X.K E ca ma)):PW X (.BoolOp .And [a] pos) (B3 X.K E ca ma):=zjj ha
theorem zje(ha:PT X a (B3 X.K E ca ma)):PW X (.BoolOp .Or [a] pos) (B3 X.K E ca ma):=zmq ha
end
section
variable {X:Cx}{pins:List (Addr×Obj)}{σ:L2.St}{H:Hp}{s:Shared}{h':Heap}
theorem Gq{ch:List Addr}(I:Inv X pins σ H s)(k:∀b o,b∉ch->s.heap.get? b=some o->h'.get? b=some o)(f:∀b∈ch,Ce X pins H b):Inv X pins σ H { s with heap:=h',toks:=t'}:=by
 have nit:∀b u,H b=some u->b∉ch:=λb u e z=>by rw[(f b z).1]at e;cases e
 refine I.step (λb hb=>?_) (λb o _ _ hc e _=>k b o hc e) (λb o _ _ hc e _=>⟨o.slots,k b o hc e⟩) (λ_ _ _ _ n=>n)
  (λb o hc e=>⟨o,k b o hc e⟩) (λ_ _ e=>e) (λ_ _ _ e=>e) (λb ps e=>⟨#[],by rw[e];simp⟩) (λm hm=>?_) (λb u e=>?_) I.bare
 .obtain⟨_,f1,f2,f3,f4,f5⟩:=f b hb
  grind
 .obtain⟨o,es,ep,ho,r⟩:=hm;exact⟨o,es,ep,k _ o (λz=>(f _ z).2.1 rfl) ho,r⟩
 .refine(I.hok b u e).stay (λc v hc q=>k c v ?_ q) (λ_ q=>q) λ_ _ q=>q
  grind
theorem TV{ch:List Addr}{p:Addr}(I:Inv X pins σ H s)(k:∀b o,b∉ch->s.heap.get? b=some o->h'.get? b=some o)(f:∀b∈ch,Ce X pins H b)(hp:s.heap.objs.size<=p)(new:Ct X.prog X.w (upd H p o) h' p o) :
  Inv X pins σ (upd H p o) { s with heap:=h',toks:=t' }:=by
 have hn :=I.hok.fresh hp;have nit:∀b u,H b=some u->b∉ch:=λb u e z=>by rw[(f b z).1]at e;cases e
 have old:∀b ob,s.heap.get? b=some ob->b≠p:=λb ob e z=>by
  subst z;exact absurd (ya5 e) (Nat.not_lt.mpr hp)
 refine I.step (λb hb=>?_) (λb o _ _ hc e _=>k b o hc e) (λb o _ _ hc e _=>⟨o.slots,k b o hc e⟩) (λb ob hc e n=>by rw[BG (old b ob e)];exact n)
  (λb o hc e=>⟨o,k b o hc e⟩) (λb xs e=>by rw[BG (Cm e hn)];exact e) (λb o u e=>by rw[BG (Cm e hn)];exact e) (λb ps e=>⟨#[],by rw[BG (Cm e hn),e];simp⟩) (λm hm=>?_) (λb u e=>?_) I.bare
 .obtain⟨_,f1,f2,f3,f4,f5⟩:=f b hb;exact⟨f3,f1,f4,f5⟩
 .obtain⟨o,es,ep,ho,r⟩:=hm;exact⟨o,es,ep,k _ o (λz=>(f _ z).2.1 rfl) ho,r⟩
 .by_cases hb:b=p
  .subst hb;rw[Cf]at e;cases e;exact new
  .rw[BG hb]at e;refine(I.hok b u e).stay (λc v hc q=>k c v ?_ q) (λc q=>by rw[BG (Cm q hn)];exact q) λc xs q=>by rw[BG (Cm q hn)];exact q
   grind
theorem Yr(f:Ce X pins H b)(h:b≠p):Ce X pins (upd H p o) b:=⟨by rw[BG h];exact f.1,f.2⟩
end
def S8(K:k6)(k:Nat)(l:Addr):It :=
 ⟨λi H=>∃xs x,Al K H l xs/\xs[i]?=some x,λi H x H'=>∃p y,x=.ref p/\H p=none/\H'=upd H p (.tup [.int ((k+i:Nat):Int),y])/\∀xs,Al K H l xs->xs[i]?=some y,λi H=>∃xs,Al K H l xs/\xs.length<=i⟩
theorem drw  {w:World}    {n:Nat}  {St }(D:Draws P w A it fp n Q St)(k:Nat):Draws P w A it fp (k+n) (λj x=>∃i,j=k+i/\Q i x) (λj h=>∃i,j=k+i/\St i h) where
 live:=λ_ h ⟨i,_,st⟩=>D.live i h st
 frame:=λ_ h h' ⟨i,e,st⟩ c=>⟨i,e,D.frame i h h' st c⟩
 item:=λj s R E hj ⟨i,e,st⟩ hQ=>D.item i s R E (by omega) st λx h' tk q st' sb=>hQ x h' tk ⟨i,e,q⟩ ⟨i+1,by omega,st'⟩ sb
 done:=λs R E ⟨i,e,st⟩ hE=>D.done s R E (by grind) hE
theorem zl4(he:IsEnum h e it i old)(hi:h.IsListIter it l j)(hl:h.IsList l its):l≠it/\l≠e:=by
 obtain⟨o,h1,c1,_⟩:=hl;obtain⟨o2,h2,c2,_⟩:=hi
 grind
theorem drw0       (hh:A.handled=none)(hi:its[i]?=none):Draws P w A it [it,l] i (λ_ _=>True) (λj h=>j=i/\h.IsListIter it l i/\h.IsList l its) where
 live:=λ_ _ ⟨_,⟨o,ho,_⟩,_⟩=>⟨o,ho⟩
 frame:=λ_ _ _ ⟨e,a,b⟩ c=>⟨e,a.at λo q=>c it (by simp) o q,b.at λo q=>c l (by simp) o q⟩
 item:=λj _ _ _ hj ⟨e,_⟩=>absurd hj (by omega)
 done:=λ_ _ _ ⟨_,a,b⟩ hE=>wpAny_nextOf_list_end hh a b hi hE
theorem zf8{K}(k:Nat)(l e it:Addr)(hei:e≠it) :
  Turn P w K (.Tuple elts kk tpos) (S8 K k l) [e,it] e (λi h=>(∃old,IsEnum h e it (k+i:Nat) old)/\h.IsListIter it l i) where
 mem:=by simp
 obj:=λi h st b hb=>by
  obtain⟨⟨old,he⟩,o,hi,hc,hd⟩:=st;obtain rfl|hb:=yaf.mp hb
  .exact⟨_,he,λv z=>by
    have z' :=z;cases z'⟩
  .have q :=by simpa using hb
   subst q;exact⟨o,hi,λv z=>by rw[hd]at z;cases z⟩
 keep:=λi h h' st k=>by
  obtain⟨⟨old,he⟩,hi⟩:=st;exact⟨⟨old,k e (by simp) _ he⟩,hi.at λo q=>k it (by simp) o q⟩
 item:=by
  intro X hP hw hK hc i pins s σ H E I hf st hg;subst hP hw hK;obtain⟨⟨old,he⟩,hit⟩:=st;obtain⟨xs,x,hq,hx⟩:=hg;obtain⟨its,rv,p,hz⟩:=I.list hq;obtain⟨u,hu,ru⟩:=rv.get hx;have elt :=ya5 he;have ilt:it<s.heap.objs.size:=by obtain⟨o,q,_⟩:=hit;exact ya5 q
  have hn :=I.hok.fresh (ya8 _);obtain⟨n1,n2⟩:=zl4 he hit p.isList;have hlt:i<its.toArray.size:=by simpa using (ya2.mp hu).1
  refine wpAny_pyNext_enum_itemD (drw (Draws.list (A:=X.A.in1) (I.ok.hd hc) it l n1 _) k) he ⟨i,rfl,hit,p.isList⟩ (by omega) hei (by simp[hei,yao n2]) λx' h' tk hx' ho hit' hT hsz hk=>?_
  obtain⟨i',e1,hx'⟩:=hx';have e1:i'=i:=by omega
  subst e1
  have e2 :=by
   rw[List.getElem?_toArray,hu]at hx';exact(yal hx').symm
  subst e2;obtain⟨i2,e2,hit',_⟩:=hit';have e2:i2=i'+1:=by omega
  subst e2
  have I1:Inv X pins σ (upd H s.heap.objs.size (.tup [.int (k+i'),x])) { s with heap:=h',toks:=tk+1 }:=by
   refine TV I (λb o hb q=>hk b o (λz=>hb (by simp[z])) (λz=>hb (by simp[z])) q) hf (ya8 _) ?_
   exact⟨by simp only[yb7,yc3];rw[ydv];decide,[.int (k+i') tk,x'],.cons ⟨_,rfl⟩ (.cons ru .nil),_,hT,rfl,0,rfl⟩
  have f1:∀b∈[e,it],Ce X pins (upd H s.heap.objs.size (.tup [.int (k+i':Nat),x])) b:=λb hb=>Yr (hf b hb) (by
   obtain rfl|hb:=yaf.mp hb
   .exact yah elt
   .have q :=by simpa using hb
    subst q;exact yah ilt)
  refine⟨.ref s.heap.objs.size,rfl,wpAny_letOwnedTupleGo_enum ho λh2 he2 hs2=>?_⟩
  refine⟨.ref s.heap.objs.size,_,Gq (ch:=[e]) I1 (λb o hb q=>hs2.extBut b o (λz=>hb (by simp[z])) q) (λb hb=>f1 b (by simp at hb;simp[hb])),rfl,⟨_,x,rfl,hn,rfl,λys hy=>by rw[I.list_inj hy hq];exact hx⟩,⟨⟨_,by simpa[Int.add_assoc] using he2⟩,hit'.extBut hs2.extBut hei.symm⟩,λb hb=>(f1 b hb).1⟩
 done:=by
  intro X hP hw hK hc i pins s σ H E I hf st hg;subst hP hw hK;obtain⟨⟨old,he⟩,hit⟩:=st;obtain⟨xs,hq,hx⟩:=hg;obtain⟨its,rv,p,hz⟩:=I.list hq;have hl:=rv.length;exact wpAny_pyNext_enum_endD (drw0 (I.ok.hd hc) (by simp;omega)) he ⟨rfl,hit,p.isList⟩ λh' eb=>⟨rfl,Gq (ch:=[it]) I (λb o hb q=>eb b o (λz=>hb (by simp[z])) q) (λb hb=>hf b (by simp at hb;simp[hb]))⟩
 self:=λ_ _ _ _ _ st h=>wpAny_pyIter_enum st.1.choose_spec h
def SY(K:k6)(l1 l2:Addr):It :=
  ⟨λi H=>∃xs x ys y,Al K H l1 xs/\xs[i]?=some x/\Al K H l2 ys/\ys[i]?=some y,
   λi H x H'=>∃p y z,x=.ref p/\H p=none/\H'=upd H p (.tup [y,z])/\(∀xs,Al K H l1 xs->xs[i]?=some y)/\∀xs,Al K H l2 xs->xs[i]?=some z,
   λi H=>∃xs ys,Al K H l1 xs/\Al K H l2 ys/\(xs.length<=i\/ys.length<=i)⟩
theorem zgz{K}(z TI TO i1 i2 l1 l2)(D:ZipApart z TI TO i1 i2 l1 l2) :
  Turn P w K (.Tuple elts kk tpos) (SY K l1 l2) [z,TI,TO,i1,i2] z (λi h=>IsZip h z TI TO .none/\IsPair h TI (.ref i1) (.ref i2)/\(∃a b,IsPair h TO a b)/\h.IsListIter i1 l1 i/\h.IsListIter i2 l2 i) where
 mem:=by simp
 obj:=λi h st b hb=>by
  obtain⟨hz,hTI,⟨a,c,hTO⟩,⟨o1,e1,_,d1⟩,⟨o2,e2,_,d2⟩⟩:=st;simp only[yaf,yaz,ye5]at hb;rcases hb with rfl|rfl|rfl|rfl|rfl
  .exact⟨_,hz,λv z=>by
    have z' :=z;cases z'⟩
  .exact⟨_,hTI,λv z=>by
    have z' :=z;cases z'⟩
  .exact⟨_,hTO,λv z=>by
    have z' :=z;cases z'⟩
  .exact⟨o1,e1,λv z=>by rw[d1]at z;cases z⟩
  .exact⟨o2,e2,λv z=>by rw[d2]at z;cases z⟩
 keep:=λi h h' st k=>by
  obtain⟨hz,hTI,⟨a,c,hTO⟩,h1,h2⟩:=st;exact⟨k z (by simp) _ hz,k TI (by simp) _ hTI,⟨a,c,k TO (by simp) _ hTO⟩,h1.at λo q=>k i1 (by simp) o q,h2.at λo q=>k i2 (by simp) o q⟩
 item:=by
  intro X hP hw hK hc i pins s σ H E I hf st hg;subst hP hw hK;obtain⟨hz,hTI,⟨a,c,hTO⟩,h1,h2⟩:=st;obtain⟨xs,x,ys,y,hq,hx,hq2,hy⟩:=hg;obtain⟨its,rv,p,hzz⟩:=I.list hq;obtain⟨its2,rv2,p2,hzz2⟩:=I.list hq2;obtain⟨u,hu,ru⟩:=rv.get hx;obtain⟨u2,hu2,ru2⟩:=rv2.get hy;have hn :=I.hok.fresh (ya8 _)
  have lt:∀b∈[z,TI,TO,i1,i2],b≠s.heap.objs.size:=λb hb=>by
   simp only[yaf,yaz,ye5]at hb;rcases hb with rfl|rfl|rfl|rfl|rfl
   .exact yah (ya5 hz)
   .exact yah (ya5 hTI)
   .exact yah (ya5 hTO)
   .obtain⟨o,q,_⟩:=h1;exact yah (ya5 q)
   .obtain⟨o,q,_⟩:=h2;exact yah (ya5 q)
  refine wpAny_pyNext_zip_item D hz hTI hTO h1 h2 p.isList p2.isList (by simpa using hu) (by simpa using hu2) λh' a1 a2 a3 a4 a5 a6 hk=>?_
  have I1:Inv X pins σ (upd H s.heap.objs.size (.tup [x,y])) { s with heap:=h',toks:=s.toks }:=by
   refine TV I (λb o hb q=>hk b o (λz=>hb (by simp[z])) (λz=>hb (by simp[z])) (λz=>hb (by simp[z])) (λz=>hb (by simp[z])) q) hf (ya8 _) ?_
   exact⟨by simp only[yb7,yc3];rw[ydv];decide,[u,u2],.cons ru (.cons ru2 .nil),_,a5,rfl,0,rfl⟩
  have f1:∀b∈[z,TI,TO,i1,i2],Ce X pins (upd H s.heap.objs.size (.tup [x,y])) b:=λb hb=>Yr (hf b hb) (lt b hb)
  refine⟨.ref s.heap.objs.size,rfl,wpAny_letOwnedTupleGo_zip a1 λh3 hz3 hs3=>?_⟩
  refine⟨.ref s.heap.objs.size,_,Gq (ch:=[z]) I1 (λb o hb q=>hs3.extBut b o (λz=>hb (by simp[z])) q) (λb hb=>f1 b (by simp at hb;simp[hb])),rfl,⟨_,x,y,rfl,hn,rfl,(λzs hy'=>by rw[I.list_inj hy' hq];exact hx),λzs hy'=>by rw[I.list_inj hy' hq2];exact hy⟩,?_,λb hb=>(f1 b hb).1⟩
  exact⟨hz3,hs3.extBut _ _ D.TIz (hk _ _ D.TIz D.TITO D.TIi1 D.TIi2 hTI),⟨_,_,hs3.extBut _ _ D.TOz a2⟩,a3.extBut hs3.extBut D.i1z,a4.extBut hs3.extBut D.i2z⟩
 done:=by
  intro X hP hw hK hc i pins s σ H E I hf st hg;subst hP hw hK;obtain⟨hz,hTI,⟨a,c,hTO⟩,h1,h2⟩:=st;obtain⟨xs,ys,hq,hq2,hx⟩:=hg;obtain⟨its,rv,p,hzz⟩:=I.list hq;obtain⟨its2,rv2,p2,hzz2⟩:=I.list hq2;have hl:=rv.length;have hl2:=rv2.length;refine wpAny_pyNext_zip_end (I.ok.hd hc) D hz hTI hTO h1 h2 p.isList p2.isList ?_ λh' hk=>⟨rfl,Gq I (λb o hb q=>hk b o (λz=>hb (by simp[z])) (λz=>hb (by simp[z])) (λz=>hb (by simp[z])) (λz=>hb (by simp[z])) q) hf⟩
  rcases hx with hx|hx
  .exact .inl (by simp;omega)
  .exact .inr (by simp;omega)
 self:=λ_ _ _ _ _ st h=>wpAny_pyIter_zip st.1 h
section
variable {X:Cx}{elts:List Expr}{kk:Nat}{tpos:Pos}
def iEnum(K:k6)(ta:TA):TI:=λσ H R=>ta σ H λvs H1=>∃a,vs=[.ref a]/\(∃xs,Al K H1 a xs)/\R (S8 K 0 a) H1
theorem zjv(hg:Gl X "enumerate")(hm:X.mg "enumerate"=none)(ha:PA X [a] ta)(hs:starEach [a] X.env=[(false,eval a X.env)]):PI X (.Tuple elts kk tpos) (.Call (.Name "enumerate" p) [a] [] pos) (iEnum X.K ta):=by
 intro pins s σ H R I h;refine Call_ (G3 I hg hm boot_enumerate (yb4 (A6 (ha pos pins s σ H _ I h) λus s1 ⟨vs,H1,I1,r1,q1⟩=>?_) hs rfl))
 obtain⟨l,e,⟨xs,hq⟩,q⟩:=q1;subst e;obtain⟨u,rfl,ru⟩:=FO r1;cases ru;obtain⟨its,rv,pl,hz⟩:=I1.list hq;refine call_enumerate_list pl.isList λh' he hit hsz hk=>?_
 have I2:Inv X pins σ H1 { s1 with heap:=h',toks:=s1.toks }:=I1.kept hk
 refine wpAny_pyIter_enum he ⟨s1.heap.objs.size+1,[s1.heap.objs.size+1,s1.heap.objs.size],_,_,H1,rfl,I2,zf8 0 l _ _ (by simp),⟨⟨_,by simpa using he⟩,hit⟩,λb hb=>?_,q⟩
 have hb':s1.heap.objs.size<=b:=by
  grind
 exact I1.fpOk hb' (I1.hok.fresh hb')
def iZip(K:k6)(ta:TA):TI:=λσ H R=>ta σ H λvs H1=>∃a b,vs=[.ref a,.ref b]/\(∃xs,Al K H1 a xs)/\(∃xs,Al K H1 b xs)/\R (SY K a b) H1
theorem zmz(hg:Gl X "zip")(hm:X.mg "zip"=none)(ha:PA X [a,b] ta)(hs:starEach [a,b] X.env=[(false,eval a X.env),(false,eval b X.env)])(hs2:starEach [b] X.env=[(false,eval b X.env)]):PI X (.Tuple elts kk tpos) (.Call (.Name "zip" p) [a,b] [] pos) (iZip X.K ta):=by
 intro pins s σ H R I h;refine Call_ (G3 I hg hm boot_zip (yb4 (A6 (ha pos pins s σ H _ I h) λus s1 ⟨vs,H1,I1,r1,q1⟩=>?_) (by rw[hs,hs2]) (by rw[hs2];rfl)))
 obtain⟨l1,l2,e,⟨xs,hq⟩,⟨ys,hq2⟩,q⟩:=q1;subst e;obtain⟨u,u2,rfl,ru,ru2⟩:=Hw r1;cases ru;cases ru2;obtain⟨its,rv,pl,hz⟩:=I1.list hq;obtain⟨its2,rv2,pl2,hz2⟩:=I1.list hq2;have llt:l1<s1.heap.objs.size:=by obtain⟨o,n,e,_⟩:=pl;exact ya5 e
 have llt2:l2<s1.heap.objs.size:=by obtain⟨o,n,e,_⟩:=pl2;exact ya5 e
 refine call_zip_2 pl.isList pl2.isList λh' a1 a2 a3 a4 a5 a6 hk=>?_
 have I2:Inv X pins σ H1 { s1 with heap:=h',toks:=s1.toks }:=I1.kept hk
 have D:ZipApart (s1.heap.objs.size+4) (s1.heap.objs.size+2) (s1.heap.objs.size+3) s1.heap.objs.size (s1.heap.objs.size+1) l1 l2:=by
  have n1:∀k ,l1≠s1.heap.objs.size+k:=λk z=>yay _ (yae llt (z▸Nat.le_add_right _ _))
  have n2:∀k ,l2≠s1.heap.objs.size+k:=λk z=>yay _ (yae llt2 (z▸Nat.le_add_right _ _))
  refine⟨?_,?_,?_,?_,?_,?_,?_,?_,?_,?_,n1 4,n1 3,n1 0,n1 1,n2 4,n2 3,n2 0,n2 1⟩<;>intro z<;>simp at z
 refine wpAny_pyIter_zip a1 ⟨_,[s1.heap.objs.size+4,s1.heap.objs.size+2,s1.heap.objs.size+3,s1.heap.objs.size,s1.heap.objs.size+1],_,_,H1,rfl,I2,zgz _ _ _ _ _ l1 l2 D,⟨a1,a2,⟨_,_,a3⟩,a4,a5⟩,λb hb=>?_,q⟩
 have hb':s1.heap.objs.size<=b:=by
  grind
 exact I1.fpOk hb' (I1.hok.fresh hb')
end
section
variable {X:Cx}{pins:List (Addr×Obj)}{σ:L2.St}{H:Hp}{s:Shared}{a:Addr}{o:Obj}{kvs:List (Key×V)}
theorem zo4(r:KV kvs vs):kvs.length=vs.length:=ydd (r)
end
section
variable {X:Cx}{o:Expr}{to:TE}{ap cp:Pos}{elts:List Expr}{kk:Nat}{tpos:Pos}
end
def JT(ifs:List Expr)(env:Env):Sem Bool:=forIn ifs true λc r=>if r=true then do let ok <- isTrue c env (eval c env);pure (ForInStep.yield ok) else pure (ForInStep.yield r)
def Gh(X:Cx)(ifs:List Expr)(t:TT):Prop :=
 ∀(pins:List (Addr×Obj)) (s:Shared) (σ:L2.St) (H:Hp) (Q:Bool->Hp->Prop),Inv X pins σ H s->t σ H Q->wpAny (model X.prog X.w) X.A (JT ifs X.env) (TP X pins σ Q) X.xe s
theorem zjl:Gh X [] (λ_ H Q=>Q true H):=λpins s σ H Q I h=>ydt ⟨H,I,h⟩
theorem zjk(h:PT X c t):Gh X [c] t:=λpins s σ H Q I q=>by
 have e:JT [c] X.env=(isTrue c X.env (eval c X.env) >>= λok=>pure ok):=by
  unfold JT;simp
 rw[e];exact ydp (ydm (h pins s σ H Q I q) (λb s1 h1=>ydt h1) λ_ _ z=>z)
theorem zer:compTurn (.ListComp elt [⟨target,iter,ifs,0⟩] scope pos) 0 it acc env=(standAt iter.pos >>= λ_=>pyNext it >>= λr=>match r with
  |none=>pure (.done .next)
  |some u=>letOwnedTupleGo target it u >>= λ_=>assign target env u >>= λ_=>JT ifs env >>= λok =>
   if ok=true then ((eval elt env >>= λx=>call (.builtin "list.append") [acc,x] >>= λ_=>pure ()) >>= λ_=>again (.compLoop (.ListComp elt [⟨target,iter,ifs,0⟩] scope pos) 0 it acc env))
   else again (.compLoop (.ListComp elt [⟨target,iter,ifs,0⟩] scope pos) 0 it acc env)):=by rfl
theorem zes(hN:NE=notedBy (model prog w) A env λe s'=>R (.error e) s')(I:Nat->Shared->Prop)
  (hturn : ∀ n s, I n s -> wpAny (model prog w) A (pyNext it) (fun r s₁ => match r with
   |none=>R (.ok .next) s₁
   |some v=>wpAny (model prog w) A (letOwnedTupleGo target it v) (λ_ s₁'=>wpAny (model prog w) A (assign target env v) (λ_ s₂=>wpAny (model prog w) A (JT ifs env) (λok s₂'=>if ok=true then wpAny (model prog w) A (eval elt env) (λx s₃ =>
     wpAny (model prog w) A (call (.builtin "list.append") [acc,x]) (λ_ s₄=>∃m,m<n/\I m s₄) NE s₃)
     NE s₂' else ∃m,m<n/\I m s₂') NE s₂) NE s₁') NE s₁) NE s)
  (k ) (hk:I k s):codeAny (model prog w) A (.compLoop (.ListComp elt [⟨target,iter,ifs,0⟩] scope pos) 0 it acc env) R s:=by
 subst hN;refine codeAny_loop rfl I (λn s hI=>?_) k hk
 refine wpAny_noted ?_;rw[zer];refine ydp (ydr (ydp (ydm (hturn n s hI) (λr s₁ h₁=>?_) λ_ _ z=>z)))
 cases r with
 |none=>exact ydt h₁
 |some v =>
  refine ydp (ydm h₁ (λ_ s₁' h₁'=>?_) λ_ _ z=>z)
  refine ydp (ydm h₁' (λ_ s₂ h₂=>ydp (ydm h₂ (λok s₂' h₂'=>?_) λ_ _ z=>z)) λ_ _ z=>z)
  cases ok with
  |false =>
   rw[if_neg (by decide)]at h₂' ⊢
   exact ydt ⟨rfl,h₂'⟩
  |true =>
   rw[if_pos rfl]at h₂' ⊢;exact ydp (ydp (ydm h₂' (λx s₃ h₃=>ydp (ydm h₃ (λ_ s₄ h₄=>ydt (ydt ⟨rfl,h₄⟩)) λ_ _ z=>z)) λ_ _ z=>z))
theorem RA(env ):∀(names:List (Str×NameKind)),(∀y∈names,y.2=.free->∃c,env.cells.lookup y.1=some c)->∀acc ,∃cl ,
  (forIn names acc λ(x:Str×NameKind) r=>if (x.2 == NameKind.free)=true then do let a <- cellOf env x.1;pure (ForInStep.yield ((x.1,a)::r)) else pure (ForInStep.yield r))=pure cl /\
  (∀y c,cl.lookup y=some c->acc.lookup y=some c\/env.cells.lookup y=some c)/\(∀y∈names,y.2=.free->∃c,cl.lookup y.1=some c)/\∀y c,acc.lookup y=some c->∃c',cl.lookup y=some c'
 |[],_,acc=>⟨acc,rfl,λ_ _ e=>.inl e,(λ_ z=>by cases z),λ_ c e=>⟨c,e⟩⟩
 |(n,k)::r,h,acc=>by
  rw[List.forIn_cons]
  by_cases hk:k=.free
  .subst hk;obtain⟨c,hc⟩:=h (n,.free) (ya9 ..) rfl;have e1:cellOf env n=pure c:=by unfold cellOf;rw[hc]
   obtain⟨cl,e,h1,h2,h3⟩:=RA env r (λy hy=>h y (ya6 _ hy)) ((n,c)::acc)
   grind
  .have hk' :=beq_eq_false_iff_ne.mpr hk;obtain⟨cl,e,h1,h2,h3⟩:=RA env r (λy hy=>h y (ya6 _ hy)) acc
   grind
theorem zdu(scope)(env)(h:∀y∈scope.names,y.2=.free->∃c,env.cells.lookup y.1=some c):∃cl,closureFor scope env=pure cl/\(∀y c,cl.lookup y=some c->env.cells.lookup y=some c)/\∀y∈scope.names,y.2=.free->∃c,cl.lookup y.1=some c:=by
 obtain⟨cl,e,h1,h2,_⟩:=RA env scope.names h [];refine⟨cl,?_,λy c q=>?_,h2⟩
 .have e2:closureFor scope env=(forIn scope.names [] λx r=>if (x.2 == NameKind.free)=true then do let a <- cellOf env x.1;pure (ForInStep.yield ((x.1,a)::r)) else pure (ForInStep.yield r)) >>= pure:=rfl
  grind
 grind
theorem RC:∀(names ) (h:Heap) (acc ) (y ) (c ),(cellsFrom h.objs.size names acc).lookup y=some c->acc.lookup y=some c\/(h.objs.size<=c/\(pushCells h names).IsCell c none/\(y,NameKind.cell)∈names)
 |[],h,acc,y,c,e=>.inl e
 |(n,k)::r,h,acc,y,c,e=>by
  unfold cellsFrom at e;unfold pushCells;split at e
  .rename_i hk;rw[if_pos hk];have ez:(h.push { cls:=.type "cell",data:=.cell none }).objs.size=h.objs.size+1:=ybs ..;rw[<- ez]at e
   rcases RC r _ _ y c e with q|⟨q1,q2,q3⟩
   .rw[yb9]at q;cases hy:y == n with
    |true =>
     rw[hy]at q;cases q;have e1:y=n:=eq_of_beq hy;subst e1;exact .inr ⟨ya8 _,⟨_,ye6 _ _ _ _ (yan _ rfl),rfl⟩,by rw[eq_of_beq hk];exact ya9 ..⟩
    |false=>rw[hy]at q;exact .inl q
   .exact .inr ⟨by rw[ez]at q1;exact yaj (ycd _) q1,q2,ya6 _ q3⟩
  .rename_i hk;rw[if_neg hk]
   rcases RC r h acc y c e with q|⟨q1,q2,q3⟩
   .exact .inl q
   .exact .inr ⟨q1,q2,ya6 _ q3⟩
theorem RD:∀(names) (h:Heap) (acc:List (Str×Addr)),(∀y z c,acc.lookup y=some c->acc.lookup z=some c->y=z)->(∀y c,acc.lookup y=some c->c<h.objs.size) ->
  ∀y z c,(cellsFrom h.objs.size names acc).lookup y=some c->(cellsFrom h.objs.size names acc).lookup z=some c->y=z
 |[],h,acc,hi,_=>hi
 |(n,k)::r,h,acc,hi,hl=>by
  unfold cellsFrom;split
  .have ez:(h.push { cls:=.type "cell",data:=.cell none }).objs.size=h.objs.size+1:=ybs ..;rw[<- ez];refine RD r _ _ (λy z c h1 h2=>?_) (λy c h1=>?_)
   .grind
   grind
  .exact RD r h acc hi hl
theorem RB:∀(names) (n lo:Nat) (acc:List (Str×Addr)) (y) (c),lo<=n->((y,NameKind.cell)∈names\/∃c0,acc.lookup y=some c0/\lo<=c0)->(cellsFrom n names acc).lookup y=some c->lo<=c
 |[],n,lo,acc,y,c,hn,h,e=>by
  rcases h with h|⟨c0,h1,h2⟩
  .cases h
  .have e':acc.lookup y=some c:=e
   grind
 |(m,k)::r,n,lo,acc,y,c,hn,h,e=>by
  unfold cellsFrom at e;split at e
  .refine RB r (n+1) lo _ y c (Nat.le_succ_of_le hn) ?_ e
   grind
  .rename_i hk;refine RB r n lo acc y c hn ?_ e
   grind
theorem zcm{code}
  (hQ:Q (newEnv scope s.heap.objs.size globals (cellsFrom (s.heap.objs.size+1) scope.names cl) qual func code (some outer) builtins) { s with heap:=pushCells (s.heap.push { cls:=.type "dict",data:=.dict #[] }) scope.names }) :
  wpAny M A (newFunctionEnv scope globals cl [] qual func code (some outer) builtins) Q E s:=by
 simp only[newFunctionEnv,Option.isSome_some,ye0];refine ydp (wpAny_alloc ?_);refine ydp (wpAny_layCells _ (λname kind cells=>by rfl) _ _ _ _ ?_);rw[ybs ..]
 exact ydp (ydt (ydt hQ))
abbrev BH(X:Cx)(scope:Scope)(cl:List (Str×Addr))(N':List Str)(C:Addr)(s₀:Shared)(H₀:Hp)(ex:List Addr)(xb:Value->Shared->Prop):Cx:={ zou X scope cl N' C s₀ H₀ ex with fn:=λx=>decide (scope.names.lookup x=some .cell),xe:=xb }
theorem Zk{h h' B B':Heap}(k:∀b o,B.get? b=none->h.get? b=some o->(∀us,o.data≠.fields us)->B'.get? b=none/\∃o',h'.get? b=some o'/\∀us,o'.data≠.fields us):∀{l},h.FunFrames B l->h'.FunFrames B' l
 |[],_=>trivial
 |_::_,⟨x,⟨L,o,y1,y2,y3,y4⟩,r⟩=>by
  obtain⟨z1,o',z2,z3⟩:=k L o y2 y3 y4;exact⟨x,⟨L,o',y1,z1,z2,z3⟩,Zk k r⟩
def Ho(X:Cx):Prop:=∃v l,X.stack=v::l/\X.env.frame=v.frame
theorem zg9{X:Cx}   {σ:L2.St}{H:Hp}        (hx:Bg X E)(hst:Ho X)(I:Inv X pins σ H s)(fC:Ce X pins H C)(hC:∃m,s.heap.Ns C m)(nC:C∉Bk X.stack)
  (hb:benv.frame=X.env.frame) (h:DH X.prog X.w X.stack H s (E σ) e s'):wpAny (model X.prog X.w) X.A (noteFrame e benv) (λ_ s2=>compPost (model X.prog X.w) X.A X.xe use QQ acc C (.error e) s2) EE s':=by
 obtain⟨v,l,st,hv⟩:=hst;obtain⟨a,cls,H',B,rfl,os,bare,un,hok,kB,tB,fl0,he⟩:=h;have fl1 :=st▸fl0
 obtain⟨L,hL⟩:∃L,v.frame=some L:=by
  obtain⟨_,_,_,⟨_,⟨L,_,y,_⟩,_⟩,_⟩:=fl1;exact⟨L,y⟩
 refine Xm (st▸I.ok.frames) (hb.trans hv) hL fl1 λh4 held sm=>?_
 obtain⟨m,oC,es,ep,hCo,dC,rC⟩:=hC;have bC :=kB C oC hCo fC.1 nC;obtain⟨f1,f2,f3,oe,ws,Tb,oT,ts,ha,hcl,hd,g1,nT,Tne,hT,dT,g3⟩:=held
 have hne:∀{b },B.get? b=none->b≠C:=λz w=>by
  rw[w,bC]at z;cases z
 have key:∃m,h4.Ns C m/\∀h',Heap.SameBut C h4 h'->∀cenv ,cenv.locals=C->wpAny (model X.prog X.w) X.A (PySem.passOn "comprehension.variables-let-go" (.ref a) cenv:Sem Value) (λ_ _=>False) X.xe { s' with heap:=h' }:=by
  refine⟨m,⟨oC,es,ep,f1 C oC bC,dC,rC⟩,λh5 sb cenv _=>?_⟩
  have ha5 :=(sb.2 a (hne f2)).trans ha;have hT5 :=(sb.2 Tb (hne nT)).trans hT;unfold PySem.passOn;refine ydp (ye3 ha5 hd g1 ?_);rw[if_neg (by simp)]
  refine ydp ?_;unfold setFlight;refine ydp (ye3 ha5 hd g1 ?_);rw[if_pos (by simp)]
  refine ye2 hT5 dT (ybf.mp g3).1 (wpAny_throw ?_);generalize hfl:(cenv.frame.elim Value.none λf=>rawInt f)=fl
  have dT6:=ycp dT (·.setIfInBounds 3 fl);have hT6:=yc8 (Obj.mapFields (·.setIfInBounds 3 fl)) hT5 (yd2 dT6);generalize hh6:h5.update Tb (Obj.mapFields (·.setIfInBounds 3 fl))=h6 at hT6 ⊢
  have to6:∀b o,b≠C->b≠Tb->h4.get? b=some o->h6.get? b=some o:=λb o n1 n2 e=>by
   rw[<- hh6,yb2 _ _ (yao n2)];exact(sb.2 b n1).trans e
  have B6 :=λb o n e=>to6 b o n (λz=>by rw[z,nT]at e;cases e) (f1 b o e)
  have hid:∀{b } {o },(PySem.W.hideAll s.heap [C]).get? b=some o->s.heap.get? b=some o/\b≠C:=λ{b o} e=>⟨yby _ e,λz=>by
   rw[z,yd4 [C] (yaa.mpr rfl)]at e;cases e⟩
  have hidB:∀{b } {o },b≠C->B.get? b=some o->(PySem.W.hideAll B [C]).get? b=some o:=λ{b o} n e=>ybj _ e (λz=>n (yaa.mp z))
  have hidN:∀{b },B.get? b=none->(PySem.W.hideAll B [C]).get? b=none:=λ{b} e=>by
   cases q:(PySem.W.hideAll B [C]).get? b with
   |none=>rfl
   |some o =>
    rw[yby _ q]at e;cases e
  have IX :=Gq (t':=s.toks) I (λb o n e=>ybj _ e n) λb z=>by
   rw[yaa.mp z];exact fC
  have slot:∀b o,s.heap.get? b=some o->H b=none->b∈Bk X.stack->∃z,h6.get? b=some { o with slots:=z }:=λb o e n z=>by
   obtain⟨_,o2,ho2,d2⟩:=I.stack.mem z;rw[e]at ho2;cases ho2;obtain⟨z2,e2⟩:=un.slot b o e n z (by simp)
   obtain⟨z3,e3⟩:=sm b _ e2 d2;refine⟨z3,to6 b _ (λw=>nC (w▸z)) (λw=>?_) e3⟩
   rw[w,hT]at e3;cases e3;exact d2 _ dT
  have HC :=un.free C oC hCo fC.1 (by simp)
  refine hx pins σ H _ _ _ IX ⟨a,cls,H',PySem.W.hideAll B [C],rfl,os,bare,⟨λb o e n z _=>?_,λb o e n z _=>slot b o (hid e).1 n z,λb o e n z=>un.free b o (hid e).1 n z,λb o e _=>?_,un.tups,un.frzs,un.tbls⟩,?_,λb o e n z=>hidB (hid e).2 (kB b o (hid e).1 n z),λb o e z=>?_,⟨fl,λb o e=>?_,hidN f2,?_,?_⟩,he⟩
  .exact B6 b o (hid e).2 (kB b o (hid e).1 n z)
  .by_cases z:b∈Bk X.stack
   .obtain⟨w,q⟩:=slot b o (hid e).1 (I.stkFree b z) z;exact⟨_,q⟩
   .obtain⟨o',q⟩:=tB b o (hid e).1 z;exact⟨o',B6 b o' (hid e).2 q⟩
  .intro b u e;refine(hok b u e).stay (λc x hc q=>hidB (λw=>?_) q) (λ_ q=>q) λ_ _ q=>q
   rcases hc with y|y
   .rw[<- y,w,HC]at e;cases e
   .rw[w,HC]at y;cases y
  .obtain⟨o',q⟩:=tB b o (hid e).1 z;exact⟨o',hidB (hid e).2 q⟩
  .have e':=yby _ e;refine B6 b o (λw=>?_) e'
   rw[w,yd4 [C] (yaa.mpr rfl)]at e;cases e
  .rw[st];refine Zk (λb o n e d=>⟨hidN n,o,to6 b o (hne n) (λw=>?_) e,d⟩) f3
   rw[w,hT]at e;cases e;exact d _ dT
  .refine⟨oe,ws,Tb,_,_,?_,hcl,hd,g1,hidN nT,Tne,hT6,dT6,?_⟩
   .rw[<- hh6,yb2 _ _ Tne];exact ha5
   .simp[Array.getElem?_setIfInBounds,(ybf.mp g3).1]
 cases use<;>exact key
structure TurnG(cq:Cx->Prop)(P:Program)(w:World)(K:k6)(tg:Expr)(J:It)(fp:List Addr)(it:Addr)(tn:Nat->Heap->Prop):Prop where
 obj:∀i h,tn i h->∀b∈fp,∃o,h.get? b=some o/\∀v,o.data≠.cell v
 keep:∀i h h',tn i h->(∀b∈fp,∀o,h.get? b=some o->h'.get? b=some o)->tn i h'
 item:∀(X:Cx),X.prog=P->X.w=w->X.K=K->cq X->∀(i:Nat) (pins:List (Addr×Obj)) (s:Shared) (σ:L2.St) (H:Hp) (E:Value->Shared->Prop),Inv X pins σ H s->(∀b∈fp,Ce X pins H b)->tn i s.heap->J.go i H ->
  wpAny (model P w) X.A (pyNext (.ref it)) (λr s1=>∃u,r=some u/\wpAny (model P w) X.A (letOwnedTupleGo tg (.ref it) u) (λ_ s2=>∃x H',Inv X pins σ H' s2/\Af x u/\J.yld i H x H'/\tn (i+1) s2.heap/\∀b∈fp,H' b=none) E s1) E s
 done:∀(X:Cx),X.prog=P->X.w=w->X.K=K->cq X->∀(i:Nat) (pins:List (Addr×Obj)) (s:Shared) (σ:L2.St) (H:Hp) (E:Value->Shared->Prop),Inv X pins σ H s->(∀b∈fp,Ce X pins H b)->tn i s.heap->J.stop i H ->
  wpAny (model P w) X.A (pyNext (.ref it)) (λr s1=>r=none/\Inv X pins σ H s1) E s
 self:∀(A:Around) (i:Nat) (s:Shared) (Q:Value->Shared->Prop) (E:Value->Shared->Prop),tn i s.heap->Q (.ref it) s->wpAny (model P w) A (pyIter (.ref it)) Q E s
def PJ(cq:Cx->Prop)(X:Cx)(tg iter:Expr)(wi:TI):Prop :=
 ∀(pins:List (Addr×Obj)) (s:Shared) (σ:L2.St) (H:Hp) (R:It->Hp->Prop),Inv X pins σ H s->wi σ H R ->
  wpAny (model X.prog X.w) X.A (eval iter X.env) (λv s1=>wpAny (model X.prog X.w) X.A (pyIter v) (λitv s2=>∃(it:Addr) (fp:List Addr) (tn:Nat->Heap->Prop) (J:It) (H':Hp),itv=.ref it/\Inv X pins σ H' s2/\TurnG cq X.prog X.w X.K tg J fp it tn/\tn 0 s2.heap/\(∀b∈fp,Ce X pins H' b)/\R J H') X.xe s1) X.xe s
theorem Vp(h:PI X tg iter wi):PJ (λX=>X.calm=true) X tg iter wi:=λpins s σ H R I q =>
 A6 (h pins s σ H R I q) λ_ _ h1=>A6 h1 λ_ _ ⟨it,fp,tn,J,H',e,I2,T,r⟩=>⟨it,fp,tn,J,H',e,I2,⟨T.obj,T.keep,T.item,T.done,T.self⟩,r⟩
section
variable {X:Cx}{elt iter tg:Expr}{ifs:List Expr}{scope:Scope}{pos pos2:Pos}{cl:List (Str×Addr)}{N':List Str}{wi:TI}{g:TG}{tt:TT}{te:TE}
def Ku(σ':L2.St->L2.St)(wi:TI)(g:TG)(tt:TT)(te:TE):TE:=λσ H Q=>wi σ H λJ H1=>∃(W:Nat->List V->L2.St->Hp->Prop) (n:Nat),n<=sizeLine/\W 0 [] (σ' σ) H1/\∀i ys τ H,W i ys τ H->ys.length<=i/\i<=n /\
 ((J.stop i H/\∀p,H p=none->Q (.ref p) (upd H p (.lst ys)))\/(i<n/\J.go i H/\∀x H',J.yld i H x H'->g x τ H' λτ2 H2=>tt τ2 H2 λk H3=>if k=true then te τ2 H3 λy H4=>W (i+1) (ys++[y]) τ2 H4 else W (i+1) ys τ2 H3))
theorem YU(σ':L2.St->L2.St)(hclos:closureFor scope X.env=pure cl)(hkind:scope.kind=.function)(hnames:∀y∈scope.names,y.2=.local->scope.names.lookup y.1=some .local)
  (hcl:∀y c,cl.lookup y=some c->X.env.cells.lookup y=some c) (hhas:∀y,(relabel scope X.env).names.lookup y=some .cell\/(relabel scope X.env).names.lookup y=some .free->(y,NameKind.cell)∈scope.names\/∃c,cl.lookup y=some c) (hcap:∀(σ:L2.St) (i:Nat) (y:Str) (v:V),N'[i]?=some y->(σ' σ)[i]?=some (some v)->(y,NameKind.cell)∉scope.names)
  (hσ:∀σ:L2.St,σ.length=X.N.length->(σ' σ).length=N'.length)
  (hvis:∀(σ:L2.St) (i:Nat) (y:Str) (v:V),N'[i]?=some y->(σ' σ)[i]?=some (some v)->((relabel scope X.env).names.lookup y=some .cell\/(relabel scope X.env).names.lookup y=some .free)/\∃j:Nat,X.N[j]?=some y/\σ[j]?=some (some v)/\DR X.env.scope y/\X.env.kindOf y≠some .local)
  {cq:Cx->Prop} (hc:∀pins σ H s cl C ex xb,Inv X pins σ H s->cq (BH X scope cl N' C s H ex xb)) (hi:PJ cq X tg iter wi) {E:L2.St->XK} (hps:Bg X E) (hst:Ho X) {σ:L2.St} (hg:∀cl C s₀ H₀ ex xb,Bg (BH X scope cl N' C s₀ H₀ ex xb) (λ_=>E σ)->PG (BH X scope cl N' C s₀ H₀ ex xb) tg g) (ht:∀cl C s₀ H₀ ex xb,Bg (BH X scope cl N' C s₀ H₀ ex xb) (λ_=>E σ)->Gh (BH X scope cl N' C s₀ H₀ ex xb) ifs tt) (he:∀cl C s₀ H₀ ex xb,Bg (BH X scope cl N' C s₀ H₀ ex xb) (λ_=>E σ)->PE (BH X scope cl N' C s₀ H₀ ex xb) elt te)
  (hs:∀x,foldedSetIterable iter X.env x=pure x) {use:Option (Value->Sem Unit)} {pins:List (Addr×Obj)} {s:Shared} {H:Hp} {Q:VK} {QQ:Value->Shared->Prop} (I:Inv X pins σ H s) (h:Ku σ' wi g tt te σ H Q)
  (hend:∀(D C:Addr) (s5:Shared) (H5:Hp),Inv X pins σ H5 s5->Q (.ref D) H5->(∃m,s5.heap.Ns C m)->Ce X pins H5 C->compPost (model X.prog X.w) X.A X.xe use QQ (.ref D) C (.ok .next) s5) :
  wpAny (model X.prog X.w) X.A (comprehension (.ListComp elt [⟨tg,iter,ifs,0⟩] scope pos) scope X.env pos2 (newList []) false (eval iter X.env) use) QQ X.xe s:=by
 refine wpAny_comprehension_free (use:=use) rfl hs hclos hkind hnames (A6 (hi pins s σ H _ I h) λv s1 h1=>A6 h1 λitv s2 h2=>?_)
 obtain⟨it,fp,tn,J,H2,e,I2,T,st2,f2,W,n,hn,w0,turn⟩:=h2;subst e;refine wpAny_newObj_type (zcm ?_);dsimp only;generalize hHp:s2.heap.push { cls:=.type "list",dict:=none,data:=.seq ([]:List Value).toArray }=P2;generalize hcl':cellsFrom (P2.objs.size+1) scope.names cl=cl';generalize hh1:pushCells (P2.push { cls:=.type "dict",data:=.dict #[] }) scope.names=h₁;have hC:P2.objs.size=s2.heap.objs.size+1:=by rw[<- hHp,ybs]
 have hP3:(P2.push { cls:=.type "dict",data:=.dict #[] }).objs.size=P2.objs.size+1:=ybs ..;have hDC:s2.heap.objs.size≠P2.objs.size:=by rw[hC];exact yah (ybt _)
 have below:∀b,b<s2.heap.objs.size->b≠P2.objs.size/\b≠s2.heap.objs.size:=λb hb=>⟨by rw[hC];exact yah (yc6 hb),yah hb⟩
 have old:∀b o,s2.heap.get? b=some o->h₁.get? b=some o:=λb o e=>by
  rw[<- hh1];exact ye6 _ _ _ _ (ya4 _ (hHp▸ya4 _ e))
 have hacc:h₁.PlainList s2.heap.objs.size #[]:=⟨_,by
  rw[<- hh1];exact ye6 _ _ _ _ (ya4 _ (hHp▸yan _ rfl))⟩
 have hns₁:h₁.Ns P2.objs.size (λ_=>none):=by
  rw[<- hh1];exact(Heap.Ns.new P2 (.type "dict")).keeps (ye6 _ _)
 have cells:∀y c,cl'.lookup y=some c->X.env.cells.lookup y=some c\/(P2.objs.size<c/\h₁.IsCell c none/\(y,NameKind.cell)∈scope.names):=λy c e=>by
  rw[<- hcl',<- hP3]at e
  rcases RC _ _ _ y c e with q|⟨q1,q2,q3⟩
  .exact .inl (hcl y c q)
  .rw[hP3]at q1;rw[hh1]at q2;exact .inr ⟨q1,q2,q3⟩
 have has':∀y,(y,NameKind.cell)∈scope.names\/(∃c,cl.lookup y=some c)->∃c,cl'.lookup y=some c:=λy hy=>by
  rw[<- hcl']
  have go:∀(names:List (Str×NameKind)) (n:Nat) (acc:List (Str×Addr)),((y,NameKind.cell)∈names\/∃c,acc.lookup y=some c)->∃c,(cellsFrom n names acc).lookup y=some c:=by
   intro names
   induction names with
   |nil =>
    intro n acc h
    rcases h with h|h
    .cases h
    .exact h
   |cons x r ih =>
    obtain⟨m,k⟩:=x;intro n acc h;unfold cellsFrom;split
    .refine ih _ _ ?_
     by_cases hm:y=m
     .subst hm;exact .inr ⟨n,by simp⟩
     .rcases h with h|⟨c,h⟩
      .rcases yaf.mp h with z|z
       .cases z;exact absurd rfl hm
       .exact .inl z
      .exact .inr ⟨c,by rw[yb9,beq_eq_false_iff_ne.mpr hm];exact h⟩
    .rename_i hk;refine ih _ _ ?_
     rcases h with h|h
     .rcases yaf.mp h with z|z
      .cases z;exact absurd rfl hk
      .exact .inl z
     .exact .inr h
  exact go _ _ _ hy
 have fsub:∀b∈Bk X.stack,b∈X.env.locals::X.fs:=I2.stkSub
 have fpfs:∀b∈fp,b∉Bk X.stack:=λb hb z=>by
  obtain⟨_,h2,h3,_⟩:=f2 b hb
  rcases yaf.mp (fsub b z) with q|q
  .exact h2 q
  .exact h3 q
 have fpold:∀b∈fp,b<s2.heap.objs.size:=λb hb=>by
  obtain⟨o,e,_⟩:=T.obj 0 _ st2 b hb;exact ya5 e
 have cold:∀y c,cl'.lookup y=some c->c<s2.heap.objs.size\/P2.objs.size<c:=λy c e=>by
  rcases cells y c e with q|q
  .obtain⟨v,z⟩:=I2.cell y c q;exact .inl z.lt
  .exact .inr q.1
 have cneD:∀y c,cl'.lookup y=some c->c≠s2.heap.objs.size:=λy c e z=>by
  rcases cold y c e with q|q
  .rw[z]at q;exact yay _ q
  .rw[z,hC]at q;exact absurd q (Nat.not_lt.mpr (ycd _))
 have cneF:∀b,b<s2.heap.objs.size->(∀y c,X.env.cells.lookup y=some c->c≠b)->∀y c,cl'.lookup y=some c->c≠b:=λb hb hx y c e z=>by
  rcases cells y c e with q|q
  .exact hx y c q z
  .have:=q.1;rw[z,hC]at this;exact absurd (yck hb (Nat.lt_of_succ_lt this)) (yay _)
 have fresh2:∀b,s2.heap.objs.size<=b->H2 b=none:=λb hb=>I2.hok.fresh hb
 have CS:s2.heap.objs.size<=P2.objs.size:=by rw[hC];exact ycd _
 obtain⟨xb,hxb⟩:∃xb,xb=notedBy (model X.prog X.w) X.A (compEnvC scope cl' P2.objs.size X.env) λe s'=>compPost (model X.prog X.w) X.A X.xe use QQ (.ref s2.heap.objs.size) P2.objs.size (.error e) s':=⟨_,rfl⟩
 have hpb:Bg (BH X scope cl' N' P2.objs.size s2 H2 fp xb) (λ_=>E σ):=by
  subst hxb;intro pins4 σ4 H4 s4 e s' I4 hcx
  have IX:Inv X pins σ H4 s4:=I2.call' (s':=s4) (ch:=fp) I4.os I4.base I4.hok I4.bare λb hb=>by
   obtain⟨g1,g2,g3,g4,g5,g6⟩:=f2 b hb;exact⟨g4,g2,g5,g6⟩
  obtain⟨m4,hm4,_⟩:=I4.loc
  exact zg9 hps hst IX ⟨I4.free,(I2.fpOk (H':=H2) CS (fresh2 _ CS)).2⟩ ⟨m4,hm4⟩ (λz=>by
   obtain⟨o,ho,_⟩:=(I2.stack.mem z).2;exact absurd (ya5 ho) (Nat.not_lt.mpr CS)) rfl hcx
 have ok':(BH X scope cl' N' P2.objs.size s2 H2 fp xb).Ok:=by
  refine⟨I2.ok.mod,hkind,I2.ok.glob,I2.ok.blt,CS,?inj,λy hy=>has' y (hhas y hy),?cab,I2.ok.hd,I2.ok.frames,.inl rfl,λb hb=>⟨(below b (fpold b hb)).1,cneF b (fpold b hb) λy c e=>(f2 b hb).2.2.2.2.1 y c e⟩,
   λb o e=>I2.bs b o e,yaj I2.ok.bsz I2.sz,λb o e hb=>?_,λb hb=>fpfs b hb,I2.stack,I2.stkFree⟩
  case inj =>
   intro y z c h1 h2;have h1':(cellsFrom (P2.push { cls:=.type "dict",data:=.dict #[] }).objs.size scope.names cl).lookup y=some c:=by rw[hP3,hcl'];exact h1
   have h2':(cellsFrom (P2.push { cls:=.type "dict",data:=.dict #[] }).objs.size scope.names cl).lookup z=some c:=by rw[hP3,hcl'];exact h2
   refine RD scope.names _ cl (λy z c g1 g2=>I2.ok.inj y z c (hcl y c g1) (hcl z c g2)) (λy c g=>?_) y z c h1' h2'
   obtain⟨v,q⟩:=I2.cell y c (hcl y c g);rw[hP3,hC];exact yc6 (yc6 q.lt)
  case cab =>
   intro y c hy e;have hy':scope.names.lookup y=some .cell:=ye7 hy;have e':(cellsFrom (P2.objs.size+1) scope.names cl).lookup y=some c:=by rw[hcl'];exact e
   exact yaj CS (yaj (ycd _) (RB scope.names _ (P2.objs.size+1) cl y c (ya8 _) (.inl (ybb hy')) e'))
  .obtain⟨_,_,_,q,_⟩:=f2 b hb
   rcases q with q|q
   .exact I2.ok.noex b o e q
   .exact absurd (yae (ya5 e) (yaj I2.ok.bsz q)) (yay _)
 have I':Inv (BH X scope cl' N' P2.objs.size s2 H2 fp xb) pins (σ' σ) H2 { s2 with heap:=h₁ }:=by
  refine⟨ok',rfl,I2.bare,Un.kept old,⟨_,hns₁,λi y v h1 h2 h3=>?_⟩,λy c e=>?_,fresh2 _ CS,?fc,λp hp=>?_,I2.hok.kept old,hσ σ I2.len⟩
  case fc =>
   intro y c e
   rcases cells y c e with q|q
   .exact I2.freeC y c q
   .exact fresh2 c (yaj CS (yd5 q.1))
  .obtain⟨hk,j,h4,h5,h6,h7⟩:=hvis σ i y v h1 h2;have hno:=hcap σ i y v h1 h2;obtain⟨m,hn',hl⟩:=I2.loc;obtain⟨u,r,l⟩:=hl j y v h4 h5 h6;obtain⟨c,hcc⟩:=has' y (hhas y hk);refine⟨u,r,.inr ⟨hk,c,hcc,?_⟩⟩
   rcases l with ⟨k1,_⟩|⟨_,c',e',z⟩
   .exact absurd k1 h7
   .rcases cells y c hcc with w|w
    .rw[w]at e';cases e';obtain⟨o,ho,hd⟩:=z;exact⟨o,old _ _ ho,hd⟩
    .exact absurd w.2.2 hno
  .rcases cells y c e with w|w
   .obtain⟨v,o,ho,hd⟩:=I2.cell y c w;exact⟨v,o,old _ _ ho,hd⟩
   .exact⟨none,w.2.1⟩
  .obtain⟨e1,e2,e3,e4,e5⟩:=I2.pin p hp;refine⟨old _ _ e1,e2,(below _ (ya5 e1)).1,λz=>?_,e5⟩
   rcases yaf.mp (fsub _ z) with q|q
   .exact e3 q
   .exact e4 q
 have stat:∀{H':Hp},(∀b∈fp,H' b=none)->∀b∈fp,Ce (BH X scope cl' N' P2.objs.size s2 H2 fp xb) pins H' b:=λhn' b hb =>
  ⟨hn' b hb,(below b (fpold b hb)).1,fpfs b hb,.inl hb,cneF b (fpold b hb) λy c e=>(f2 b hb).2.2.2.2.1 y c e,(f2 b hb).2.2.2.2.2⟩
 have Dok:∀{H':Hp},H' s2.heap.objs.size=none->Ce (BH X scope cl' N' P2.objs.size s2 H2 fp xb) pins H' s2.heap.objs.size:=λhn' =>
  ⟨hn',hDC,(λz=>by
   obtain⟨o,ho,_⟩:=(I2.stack.mem z).2;exact absurd (ya5 ho) (yay _)),.inr (ya8 _),cneD,λp hp z=>absurd (ya5 (I2.pin p hp).1) (by rw[z];exact yay _)⟩
 have loop:∀s3:Shared,s3={ s2 with heap:=h₁ } ->
   codeAny (model X.prog X.w) X.A (.compLoop (.ListComp elt [⟨tg,iter,ifs,0⟩] scope pos) 0 (.ref it) (.ref s2.heap.objs.size) (compEnvC scope cl' P2.objs.size X.env))
    (compPost (model X.prog X.w) X.A X.xe use QQ (.ref s2.heap.objs.size) P2.objs.size) s3:=by
  rintro s3 rfl
  refine zes hxb (λm s'=>∃i ys τ H',m=n - i/\Inv (BH X scope cl' N' P2.objs.size s2 H2 fp xb) pins τ H' s'/\tn i s'.heap/\(∀b∈fp,H' b=none)/\H' s2.heap.objs.size=none/\(∃its:List Value,Ad ys its/\s'.heap.PlainList s2.heap.objs.size its.toArray)/\W i ys τ H')
   ?_ n ⟨0,[],σ' σ,H2,rfl,I',T.keep _ _ _ st2 λb _ o e=>old b o e,λb hb=>(f2 b hb).1,fresh2 _ (ya8 _),⟨[],.nil,hacc⟩,w0⟩
  rintro m s4 ⟨i,ys,τ,H4,rfl,I4,st4,fr4,hD4,⟨its,rv,hpl⟩,w4⟩;obtain⟨hly,hin,c⟩:=turn i ys τ H4 w4
  have statp:∀{H':Hp},(∀b∈fp,H' b=none)->∀b∈fp,Ce (BH X scope cl' N' P2.objs.size s2 H2 fp xb) (pins++HE [s2.heap.objs.size] s4.heap) H' b:=λ{H'} fr' b hb=>by
    obtain⟨g1,g2,g3,g4,g5,g6⟩:=stat fr' b hb;refine⟨g1,g2,g3,g4,g5,λp hp z=>?_⟩
    rcases yar.mp hp with y|y
    .exact g6 p (ybp _ y) z
    .rcases yar.mp y with y|y
     .exact g6 p (yai _ y) z
     .obtain⟨hb',_⟩:=WJ y;rw[z,yaa]at hb';exact absurd (fpold b hb) (by rw[hb'];exact yay _)
  rcases c with ⟨stop,q⟩|⟨hlt,go,step⟩
  .obtain⟨k,hDo⟩:=hpl;have I4p:=I4.pinned (fp:=[s2.heap.objs.size]) (λb hb=>by rw[yaa.mp hb];exact Dok hD4) (λb hb=>by rw[yaa.mp hb];exact⟨_,hDo,λv z=>(by cases z)⟩)
   refine A6 (T.done (BH X scope cl' N' P2.objs.size s2 H2 fp xb) rfl rfl rfl (hc _ _ _ _ _ _ _ _ I2) i _ s4 τ H4 _ I4p (statp fr4) st4 stop) λr s5 ⟨hr,I5⟩=>?_
   subst hr;have hD5 :=(I5.pin (s2.heap.objs.size,_) (yai _ (yai _ (HM (yaa.mpr rfl) hDo)))).1;obtain⟨m5,hn5,_⟩:=I5.loc;have fC:H4 P2.objs.size=none:=I5.free
   have U5:Un (Bk X.stack) fp H2 (upd H4 s2.heap.objs.size (.lst ys)) s2.heap s5.heap:=by
    have B:=I5.base;refine⟨λb o e1 e2 e3 e4=>B.keep b o e1 e2 e3 e4,λb o e1 e2 e3 e4=>B.slot b o e1 e2 e3 e4,λb o e1 e2 e4=>?_,λb o e1 e4=>B.there b o e1 e4,λb xs e1=>?_,λb o u e1=>?_,λb ps e1=>?_⟩
    .rw[BG (below b (ya5 e1)).2];exact B.free b o e1 e2 e4
    .have q':=B.tups b xs e1;rw[BG (Cm q' hD4)];exact q'
    .have q':=B.frzs b o u e1;rw[BG (Cm q' hD4)];exact q'
    .obtain⟨more,q'⟩:=B.tbls b ps e1;exact⟨more,by rw[BG (Cm q' hD4)];exact q'⟩
   have hzy:ys.length<=sizeLine:=yaj hly (yaj hin hn);have HK:HOk X.prog X.w (upd H4 s2.heap.objs.size (.lst ys)) s5.heap:=Zw.HOk.adopt I5.hok hD4 ⟨hzy,its,k,rv,hD5⟩;have os5:s5.os=s2.os:=I5.os
   have IX:Inv X pins σ (upd H4 s2.heap.objs.size (.lst ys)) s5:=I2.call' (s':=s5) (ch:=fp) os5 U5 HK I5.bare (λb hb=>by
    obtain⟨g1,g2,g3,g4,g5,g6⟩:=f2 b hb;exact⟨g4,g2,g5,g6⟩)
   refine hend s2.heap.objs.size P2.objs.size s5 _ IX (q _ hD4) ⟨m5,hn5⟩ ?_;have CL:s2.heap.objs.size<=P2.objs.size:=CS;have fp0:Ce X pins H2 P2.objs.size:=I2.fpOk CS (fresh2 _ CS);exact⟨by rw[BG (yao hDC)];exact fC,fp0.2⟩
  .obtain⟨k,hDo⟩:=hpl;have I4p:=I4.pinned (fp:=[s2.heap.objs.size]) (λb hb=>by rw[yaa.mp hb];exact Dok hD4) (λb hb=>by rw[yaa.mp hb];exact⟨_,hDo,λv z=>(by cases z)⟩)
   refine A6 (T.item (BH X scope cl' N' P2.objs.size s2 H2 fp xb) rfl rfl rfl (hc _ _ _ _ _ _ _ _ I2) i _ s4 τ H4 _ I4p (statp fr4) st4 go) λr s5 ⟨u,hr,h5⟩=>?_
   subst hr;refine A6 h5 λ_ s6 ⟨x,H6,I6,r6,y6,st6,fr6⟩=>?_
   have I6':=I6.pinned (statp fr6) (T.obj _ _ st6);refine A6 (hg _ _ _ _ _ _ hpb _ s6 τ H6 x u _ I6' r6 (step x H6 y6)) λ_ s7 ⟨τ7,H7,I7,q7⟩=>?_
   refine A6 (ht _ _ _ _ _ _ hpb _ s7 τ7 H7 _ I7 q7) λok s7b ⟨H7b,I7b,q7b⟩=>?_
   have BN:∀{H8:Hp} {s8:Shared} {τ8:L2.St},Inv (BH X scope cl' N' P2.objs.size s2 H2 fp xb) (pins++HE [s2.heap.objs.size] s4.heap++HE fp s6.heap) τ8 H8 s8->∀h9:Heap,(∀b o,b≠s2.heap.objs.size->s8.heap.get? b=some o->h9.get? b=some o)->tn (i+1) h9/\∀b∈fp,H8 b=none:=λ{H8 s8 τ8} I8 h9 sb=>by
    refine⟨T.keep _ _ _ st6 λb hb o e=>?_,λb hb=>?_⟩
    .exact sb b o (below b (fpold b hb)).2 (I8.pin (b,o) (yai _ (yai _ (HM hb e)))).1
    .obtain⟨o,e,d⟩:=T.obj _ _ st6 b hb;exact(I8.pin (b,o) (yai _ (yai _ (HM hb e)))).2.1
   cases ok with
   |false =>
    rw[if_neg (by decide)]at q7b ⊢
    have hD8:=I7b.pin (s2.heap.objs.size,_) (yai _ (ybp _ (yai _ (HM (yaa.mpr rfl) hDo))));obtain⟨t9,f9⟩:=BN I7b s7b.heap λb o _ e=>e
    exact⟨n - (i+1),by omega,i+1,ys,τ7,H7b,rfl,I7b.unpinned.unpinned,t9,f9,hD8.2.1,⟨its,rv,k,hD8.1⟩,q7b⟩
   |true =>
    rw[if_pos rfl]at q7b ⊢;refine A6 (he _ _ _ _ _ _ hpb _ s7b τ7 H7b _ I7b q7b) λuy s8 ⟨y,H8,I8,ry,w8⟩=>?_
    have hD8:=I8.pin (s2.heap.objs.size,_) (yai _ (ybp _ (yai _ (HM (yaa.mpr rfl) hDo))));have P8:s8.heap.PlainList s2.heap.objs.size its.toArray:=⟨k,hD8.1⟩;have hlen:=rv.length;refine wpAny_list_append_plain P8 (λh' pl' sb=>?_) (by rw[yb3,<- hlen];omega)
    have I8u :=I8.unpinned.unpinned;obtain⟨d1,d2,d3,d4,d5,d6⟩:=Dok hD8.2.1;have I9 :=I8u.turned (t':=s8.toks) (λb o hb e=>(sb.2 b hb).trans e) d1 d2 d4 d5 d6
    obtain⟨t9,f9⟩:=BN I8 h' λb o hb e=>(sb.2 b hb).trans e
    exact⟨n - (i+1),by omega,i+1,ys++[y],τ7,H8,rfl,I9,t9,f9,hD8.2.1,⟨its++[uy],rv.append (.cons ry .nil),by simpa using pl'⟩,w8⟩
 refine codeAny_compStart_list (loop _ rfl) (T.self _ 0 _ _ _ (T.keep _ _ _ st2 λb _ o e=>old b o e) (loop _ rfl))
theorem znz(σ' )(hclos:closureFor scope X.env=pure cl)(hkind:scope.kind=.function)(hnames:∀y∈scope.names,y.2=.local->scope.names.lookup y.1=some .local)
    (hcl:∀y c,cl.lookup y=some c->X.env.cells.lookup y=some c) (hhas:∀y,(relabel scope X.env).names.lookup y=some .cell\/(relabel scope X.env).names.lookup y=some .free->(y,NameKind.cell)∈scope.names\/∃c,cl.lookup y=some c) (hcap:∀(σ:L2.St) (i:Nat) (y:Str) (v:V),N'[i]?=some y->(σ' σ)[i]?=some (some v)->(y,NameKind.cell)∉scope.names)
    (hσ:∀σ:L2.St,σ.length=X.N.length->(σ' σ).length=N'.length)
    (hvis:∀(σ:L2.St) (i:Nat) (y:Str) (v:V),N'[i]?=some y->(σ' σ)[i]?=some (some v)->((relabel scope X.env).names.lookup y=some .cell\/(relabel scope X.env).names.lookup y=some .free)/\∃j:Nat,X.N[j]?=some y/\σ[j]?=some (some v)/\DR X.env.scope y/\X.env.kindOf y≠some .local)
     (hc:∀pins σ H s cl C ex xb,Inv X pins σ H s->cq (BH X scope cl N' C s H ex xb)) (hi:PJ cq X tg iter wi)  (hps:Bg X E) (hst:Ho X) {σ:L2.St} (hg:∀cl C s₀ H₀ ex xb,Bg (BH X scope cl N' C s₀ H₀ ex xb) (λ_=>E σ)->PG (BH X scope cl N' C s₀ H₀ ex xb) tg g) (ht:∀cl C s₀ H₀ ex xb,Bg (BH X scope cl N' C s₀ H₀ ex xb) (λ_=>E σ)->Gh (BH X scope cl N' C s₀ H₀ ex xb) ifs tt) (he:∀cl C s₀ H₀ ex xb,Bg (BH X scope cl N' C s₀ H₀ ex xb) (λ_=>E σ)->PE (BH X scope cl N' C s₀ H₀ ex xb) elt te)
    (hs:∀x,foldedSetIterable iter X.env x=pure x)   {H:Hp} {Q:VK} (I:Inv X pins σ H s) (h:Ku σ' wi g tt te σ H Q) :
    wpAny (model X.prog X.w) X.A (eval (.ListComp elt [⟨tg,iter,ifs,0⟩] scope pos) X.env) (EP X pins σ Q) X.xe s:=by
  refine YU σ' hclos hkind hnames hcl hhas hcap hσ hvis hc hi hps hst hg ht he hs I h λD C s5 H5 I5 q5 ⟨m,hm⟩ f=>⟨m,hm,λh' sb=>?_⟩
  exact⟨.ref D,H5,Gq (ch:=[C]) I5 (λb o hb e=>(sb.2 b (λz=>hb (by simp[z]))).trans e) (λb hb=>by grind),rfl,q5⟩
theorem zo0(σ' )(hclos:closureFor scope X.env=pure cl)(hkind:scope.kind=.function)(hnames:∀y∈scope.names,y.2=.local->scope.names.lookup y.1=some .local)
  (hcl:∀y c,cl.lookup y=some c->X.env.cells.lookup y=some c) (hhas:∀y,(relabel scope X.env).names.lookup y=some .cell\/(relabel scope X.env).names.lookup y=some .free->(y,NameKind.cell)∈scope.names\/∃c,cl.lookup y=some c) (hcap:∀(σ:L2.St) (i:Nat) (y:Str) (v:V),N'[i]?=some y->(σ' σ)[i]?=some (some v)->(y,NameKind.cell)∉scope.names)
  (hσ:∀σ:L2.St,σ.length=X.N.length->(σ' σ).length=N'.length)
  (hvis:∀(σ:L2.St) (i:Nat) (y:Str) (v:V),N'[i]?=some y->(σ' σ)[i]?=some (some v)->((relabel scope X.env).names.lookup y=some .cell\/(relabel scope X.env).names.lookup y=some .free)/\∃j:Nat,X.N[j]?=some y/\σ[j]?=some (some v)/\DR X.env.scope y/\X.env.kindOf y≠some .local)
  (hc:X.calm=true) (hi:PI X tg iter wi)  (hps:Bg X E) (hst:Ho X)  (hg:∀cl C s₀ H₀ ex xb,Bg (BH X scope cl N' C s₀ H₀ ex xb) (λ_=>E σ)->PG (BH X scope cl N' C s₀ H₀ ex xb) tg g) (ht:∀cl C s₀ H₀ ex xb,Bg (BH X scope cl N' C s₀ H₀ ex xb) (λ_=>E σ)->Gh (BH X scope cl N' C s₀ H₀ ex xb) ifs tt) (he:∀cl C s₀ H₀ ex xb,Bg (BH X scope cl N' C s₀ H₀ ex xb) (λ_=>E σ)->PE (BH X scope cl N' C s₀ H₀ ex xb) elt te)
  (hs:∀x,foldedSetIterable iter X.env x=pure x)   {H:Hp} {D:Ends} {i:Nat} {x:Str}  (hN:X.N.Nodup) (hix:X.N[i]?=some x) (hx:X.env.scope.names.lookup x=some .local)
  (hsw:swapsWith (.ListComp elt [⟨tg,iter,ifs,0⟩] scope pos) (some (.Name x pos')) pos2.line X.env=pure true)
  (I:Inv X pins σ H s) (h:Ku σ' wi g tt te σ H λv H1=>D.nx (σ.set i (some v)) H1) :
  wpAny (model X.prog X.w) X.A (exec (.Assign [.Name x pos'] (.ListComp elt [⟨tg,iter,ifs,0⟩] scope pos) pos2) X.env) (SP X pins D) X.xe s:=by
 rw[exec_Assign_Name_used _ _ _ _ hsw];refine ydp (ydr (ydp ?_));refine ydp (ydm (YU σ' hclos hkind hnames hcl hhas hcap hσ hvis (λ_ _ _ _ _ _ _ _ _=>hc) (Vp hi) hps hst hg ht he hs I h λA C s5 H5 I5 q5 ⟨m,hm⟩ f=>?_) (λ_ s' hq=>ydt (ydt hq)) λ_ _ e=>e)
 show wpAny _ X.A (assign (.Name x pos') X.env (.ref A)) _ _ _;refine wpAny_assign_Name (Tn I5 hN hix (.inl hx) (v:=.ref A) rfl (λs6 I6 ⟨a,sb,ha⟩=>?_) (.inr hx))
 have hCa:C≠a:=by
  rcases ha with rfl|ha
  .exact f.2.1
  .exact λz=>f.2.2.2.2.1 x a ha z.symm
 refine⟨m,hm.sameBut sb hCa,λh' sb2=>⟨_,H5,Gq (ch:=[C]) I6 (λb o hb e=>(sb2.2 b (λz=>hb (by simp[z]))).trans e) (λb hb=>by rw[yaa.mp hb];exact f),q5⟩⟩
end
structure RpO(K:k6)(F H:Hp)(l:List T)(xs:List V)(R:Nat->Rg):Prop where
 len:l.length=xs.length
 rep:∀(i:Nat) (t:T) (x:V),l[i]?=some t->xs[i]?=some x->Rp K F H t x (R i)
 dis:∀i j a,i≠j->R i a->¬ R j a
 out:∀i a,R i a->i<l.length
section
variable {K:k6}{F H F1 H1:Hp}{l:List T}{xs:List V}{R:Nat->Rg}{B:Rg}
theorem RpO.nil:RpO K F H [] [] (λ_=>R0):=⟨rfl,λi t x h=>by simp at h,λ_ _ _ _ z=>z.elim,λ_ _ z=>z.elim⟩
theorem RpO.dom(h:RpO K F H l xs R)(z:R i a):F a=none/\∃u,H a=some u:=by
 have hi:=h.out i a z;have hx:i<xs.length:=by have:=h.len;omega
 exact(h.rep i _ _ (ya0 hi) (ya0 hx)).dom z
theorem RpO.ext(h:RpO K F H l xs R)(e:Ext F H F1 H1 B):RpO K F1 H1 l xs R:=⟨h.len,λi t x h1 h2=>(h.rep i t x h1 h2).ext e,h.dis,h.out⟩
theorem RpO.apart(h:RpO K F H l xs R)(e:Ext F H F1 H1 B)(hb:B b)(i):¬ R i b:=λz=>by
 obtain⟨f,u,q⟩:=h.dom z;rw[e.nb b hb]at q;cases q
theorem RpO.snoc(h:RpO K F H l xs R)   (r:Rp K F H t x B)(d:∀i a,R i a->¬ B a):RpO K F H (l++[t]) (xs++[x]) (λj=>if j=l.length then B else R j):=by
 have hl:=h.len;refine⟨by simp[hl],λi t' x' h1 h2=>?_,λi j a hij z1 z2=>?_,λi a z=>?_⟩
 .by_cases hi:i=l.length
  .subst hi;rw[if_pos rfl];have e1:t=t':=by simpa using h1
   have e2:x=x':=by rw[hl]at h2;simpa using h2
   subst e1;subst e2;exact r
  .rw[if_neg hi]
   have hlt:i<l.length:=by
    have:=(ya2.mp h1).1;simp at this
    omega
   rw[yav hlt]at h1;rw[yav (by omega)]at h2
   exact h.rep i t' x' h1 h2
 .by_cases hi:i=l.length
  .simp only[hi,ye0]at z1;have hj:¬ j=l.length:=λz=>hij (hi.trans z.symm)
   simp only[hj,ye8]at z2;exact d j a z2 z1
  .simp only[hi,ye8]at z1
   by_cases hj:j=l.length
   .simp only[hj,ye0]at z2;exact d i a z1 z2
   .simp only[hj,ye8]at z2;exact h.dis i j a hij z1 z2
 .by_cases hi:i=l.length
  .simp[hi]
  .simp only[hi,ye8]at z;have:=h.out i a z;simp
   omega
theorem RpO.cons(h:RpO K F H l xs R)   (r:Rp K F H t x B)(d:∀i a,R i a->¬ B a):RpO K F H (t::l) (x::xs) (λj=>match j with|0=>B|j+1=>R j):=by
 refine⟨by simp[h.len],λi t' x' h1 h2=>?_,λi j a hij z1 z2=>?_,λi a z=>?_⟩
 .cases i with
  |zero =>
   simp at h1 h2;subst h1;subst h2;exact r
  |succ i=>exact h.rep i t' x' (by simpa using h1) (by simpa using h2)
 .cases i with
  |zero =>
   cases j with
   |zero=>exact hij rfl
   |succ j=>exact d j a z2 z1
  |succ i =>
   cases j with
   |zero=>exact d i a z1 z2
   |succ j=>exact h.dis i j a (λz=>hij (by rw[z])) z1 z2
 .cases i with
  |zero=>simp
  |succ i=>have:=h.out i a z;simp;omega
theorem RpO.r0(h:RpO K F H l xs R)(s:A3 l=true):Aw K F l xs:=⟨h.len,λi t x h1 h2=>(h.rep i t x h1 h2).move (zj7 s h1) (.refl _)⟩
theorem RpO.list(h:RpO K F H l xs R)(s:Aa F H)  (hp:H p=none):Rp K F (upd H p (.lst xs)) (.own l) (.ref p) (λa=>a=p\/∃i,R i a)/\Ext F H F (upd H p (.lst xs)) (λa=>a=p):=by
 have e:=Ext.newO (o:=.lst xs) s hp;have h':=h.ext e;exact⟨.own (k:=.lst) trivial R (HG s hp) Cf h.len h'.rep h.dis (λi z=>h.apart e rfl i z) h.out,e⟩
end
def AO(ma mk:AL):AL:=λτ=>match ma τ with
 |some (.v t b)=>(match mk τ with
  |some (.v (.int i) _)=>(match t with
   |.nd _ _ l=>(match Ag l i with
    |some c=>some (.v c (b && !c.sh))
    |none=>none)
   |.str z=>if z.length<=Bp then (match Ag z.cps.toList i with
    |some c=>some (.v (.str ⟨#[c]⟩) false)
    |none=>none) else none
   |_=>none)
  |some (.v _ _)=>none
  |r=>r)
 |r=>r
theorem zlj{c:α}(e:l.length=m.length)(h:Ag l i=some c):∃(j:Nat) (d:β),l[j]?=some c/\m[j]?=some d/\Ag m i=some d:=by
 unfold Ag at h ⊢;rw[<- e];cases q:Cq l.length i with
 |none=>grind
 |some j =>
  rw[q]at h;have h' :=h
  have hj:j<m.length:=by
   grind
  exact⟨j,m[j],h',ya0 hj,ya0 hj⟩
section
variable {K:k6}{F H:Hp}
theorem Rp.seq      (s:Aa F H)(h:Rp K F H (.nd o k l) x A):∃p xs,x=.ref p/\(Al K H p xs\/CJ K H p xs)/\l.length=xs.length/\∀(i:Nat) (t ) (x ),l[i]?=some t->xs[i]?=some x->∃B,(∀a,B a->A a)/\Rp K F H t x B:=by
 cases h with
 |@shr k p xs l h e c =>
  refine⟨p,xs,rfl,?_,e,λi t x h1 h2=>⟨R0,λ_ z=>z.elim,c i t x h1 h2⟩⟩
  cases k with
  |lst=>exact .inl (Al.of (s _ _ h))
  |rl=>exact .inl (s.seq h.l)
  |tup=>exact .inr (CJ.of (s _ _ h))
  |rt=>exact .inr (GO s h)
  |pin q=>exact .inl (Al.of (s _ _ h))
 |@own k0 p xs l hk R f h e c d dp o=>exact⟨p,xs,rfl,.inl (Al.of h),e,λi t x h1 h2=>⟨R i,λa z=>.inr ⟨i,z⟩,c i t x h1 h2⟩⟩
end
section
variable {X:Cx}{E:L2.St->XK}{ca:Str->Value}{σ:L2.St}{H:Hp}{m ma mb mc:AL}{ms:BM}{K:k6}{a b c e:Expr}{es:List Expr}{pos:Pos}
theorem tM_ix(h:tM K E ca (AO ma mb) σ H Q):IA (Vj K) (tM K E ca ma) (tM K E ca mb) σ H Q:=by
 obtain⟨F,τ,R,S,q⟩:=h;refine⟨F,τ,R,S,?_⟩;unfold AO at q;cases hm:ma τ with
 |none=>simp only[hm]at q<;>exact q.elim
 |some r =>
  simp only[hm]at q;cases r with
  |x c=>exact q
  |v t bb =>
   intro F1 H1 x B e1 g1;have S1:=S.ext e1;refine⟨F1,τ,R,S1,?_⟩;cases hk:mb τ with
   |none=>simp only[hk]at q<;>exact q.elim
   |some r =>
    simp only[hk]at q;cases r with
    |x c=>exact λF' H' e=>q F' H' ((e1.trans e).mono λ_ z=>z.elim)
    |v tk bk =>
     cases tk with
     |int i =>
      intro F2 H2 y C e2 g2
      have hy:y=.int i:=by
       cases bk with
       |true=>obtain⟨_,A,_,r⟩:=g2;exact r.int_inv
       |false=>exact(g2).int_inv
      subst hy;have e02 :=(e1.trans e2).mono λ_ z=>.inl z
      have S2:=S1.ext e2;cases t with
      |nd o k l =>
       simp only at q;cases hc:Ag l i with
       |none=>simp only[hc]at q<;>exact q.elim
       |some cc =>
        simp only[hc]at q
        have node:∃A0,(bb=true->∀a,A0 a->tot R a)/\(bb=false->∀a,A0 a->B a)/\Rp K F2 H2 (.nd o k l) x A0:=by
         cases bb with
         |true =>
          obtain⟨_,A,hA,r⟩:=g1;exact⟨A,λ_=>hA,(λz=>by cases z),r.ext e2⟩
         |false=>exact⟨B,(λz=>by cases z),λ_ _ z=>z,(g1).ext e2⟩
        obtain⟨A0,hA1,hA2,rn⟩:=node;obtain⟨p,xs,rfl,hq,hl,kids⟩:=Rp.seq S2.fh rn;obtain⟨j,d,h1,h2,h3⟩:=zlj hl hc;obtain⟨A1,hA,rk⟩:=kids j cc d h1 h2
        have qq :=by
         cases bb with
         |false=>exact q F2 H2 d A1 (e02.mono λa z=>hA2 rfl a (hA a z)) rk
         |true =>
          cases hs:cc.sh with
          |true =>
           rw[hs]at q;exact q F2 H2 d R0 (e02.mono λ_ z=>z.elim) (rk.move hs (.refl _))
          |false =>
           rw[hs]at q;exact q F2 H2 d R0 (e02.mono λ_ z=>z.elim) ⟨rfl,A1,λa z=>hA1 rfl a (hA a z),rk⟩
        rcases hq with hq|hq
        .exact .inl ⟨p,xs,i,d,rfl,rfl,hq,h3,qq⟩
        .exact .inr (.inl ⟨p,xs,i,d,rfl,rfl,hq,h3,qq⟩)
      |str z =>
       by_cases hz:z.length<=Bp
       .simp only[hz,ye0]at q;cases hc:Ag z.cps.toList i with
        |none=>simp only[hc]at q<;>exact q.elim
        |some cc =>
         simp only[hc]at q
         have hx:x=.str z:=by
          cases bb with
          |true=>obtain⟨_,A,_,r⟩:=g1;exact r.str_inv
          |false=>exact(g1).str_inv
         subst hx;exact .inr (.inr ⟨z,i,cc,rfl,rfl,by rw[<- Fx];exact hz,hc,q F2 H2 _ R0 (e02.mono λ_ z=>z.elim) (.str _)⟩)
       .simp only[hz,ye8]at q<;>exact q.elim
      |_=>exact q.elim
     |_=>exact q.elim
theorem r_ix(ha:PE X a (tM X.K E ca ma))(hb:PE X b (tM X.K E ca mb))(hs:JG b):PE X (.Subscript a b pos) (tM X.K E ca (AO ma mb)):=PE.weak (LS zod ha hb hs) λσ H Q h=>tM_ix h
def Bc{α:Type}(l:List α)(lo hi:Option Int):List α:=(l.drop (HT.sIx l.length 0 lo)).take (HT.sIx l.length l.length hi - HT.sIx l.length 0 lo)
noncomputable def Ez(m:Option (AL)):AV->Option (Option Int):=λτ=>match m with
 |none=>some none
 |some m=>match m τ with
  |some (.v (.int i) _)=>some (some i)
  |_=>none
def C9(ma:AL)(ml mh:Option (AL)):AL:=λτ=>match ma τ with
 |some (.v t false)=>(match Ez ml τ with
  |some lo=>(match Ez mh τ with
   |some hi=>(match t with
    |.nd _ .lst l=>some (.v (.own (Bc (BS l) lo hi)) false)
    |.nd _ .rl l=>some (.v (.own (Bc (BS l) lo hi)) false)
    |_=>none)
   |none=>none)
  |none=>none)
 |some (.v _ true)=>none
 |r=>r
def Gr(K:k6)(m:Option (AL)):TO:=λσ H Q=>∃F τ R o,StR K F H σ τ R/\Ez m τ=some o/\∀F' H',Ext F H F' H' R0->Q o H'
theorem r_po0:PO X none (Gr X.K none):=λpins s σ H Q I h=>by
 obtain⟨F,τ,R,o,S,e,q⟩:=h;cases e;exact zjs pins s σ H Q I (q F H (Ext.refl S.fh))
theorem r_po1(ha:PE X e (tM X.K E ca m)):PO X (some e) (Gr X.K (some m)):=λpins s σ H Q I h=>by
 obtain⟨F,τ,R,o,S,e',q⟩:=h;refine zjr ha pins s σ H Q I ⟨F,τ,R,S,?_⟩;unfold Ez at e';simp only at e';cases hm:m τ with
 |none=>grind
 |some r =>
  rw[hm]at e';cases r with
  |x c=>cases e'
  |v v b =>
   cases v with
   |int i =>
    cases e';intro F' H' x B e g
    have hx:x=.int i:=by
     cases b with
     |true=>obtain⟨_,A,_,r⟩:=g;exact r.int_inv
     |false=>exact(g).int_inv
    exact⟨i,hx,q F' H' (e.mono λ_ z=>z.elim)⟩
   |_=>cases e'
theorem zie(r:Aw K F l xs)(lo hi):Aw K F (Bc l lo hi) (Jx xs lo hi):=by
 have hl:=r.1;unfold Bc Jx;rw[hl];refine⟨by simp[hl],λi t x h1 h2=>?_⟩
 rw[List.getElem?_take]at h1 h2;split at h1
 .rename_i hi';rw[if_pos hi',ycq]at h2;rw[ycq]at h1;exact r.2 _ t x h1 h2
 .cases h1
theorem V8{lo hi}(ha:PE X a (tM X.K E ca ma))(hl:PO X lo (Gr X.K ml))(hh:PO X hi (Gr X.K mh)):PE X (.Subscript a (.Slice lo hi none p2) pos) (tM X.K E ca (C9 ma ml mh)):=by
 refine PE.weak (Vq zj3 ha hl hh) λσ H Q h=>?_
 obtain⟨F,τ,R,S,q⟩:=h;refine⟨F,τ,R,S,?_⟩;unfold C9 at q;cases hm:ma τ with
 |none=>simp only[hm]at q<;>exact q.elim
 |some r =>
  simp only[hm]at q;cases r with
  |x c=>exact q
  |v t bb =>
   cases bb with
   |true=>exact q.elim
   |false =>
    intro F1 H1 x B e1 g1;obtain⟨F1',e1',_,r1⟩:=EJ.frz S e1 g1;have S1:=S.ext e1';simp only at q;cases h1:Ez ml τ with
    |none=>simp only[h1]at q<;>exact q.elim
    |some lo' =>
     simp only[h1]at q;refine⟨F1',τ,R,lo',S1,h1,λF2 H2 e2=>?_⟩
     have S2:=S1.ext e2;cases h2:Ez mh τ with
     |none=>simp only[h2]at q<;>exact q.elim
     |some hi' =>
      simp only[h2]at q;refine⟨F2,τ,R,hi',S2,h2,λF3 H3 e3=>?_⟩
      have S3:=S2.ext e3;have e03:=e1'.trans0 (e2.trans0 e3);have r3:Rp X.K F3 F3 t.share x R0:=(r1).frame (e2.ff.trans e3.ff) λ_ z=>z.elim
      have key:∀{o } {k } {l },t=.nd o k l->(k=.lst\/k=.rl)->(∀F' H' x B,Ext F H F' H' B->Rp X.K F' H' (.own (Bc (BS l) lo' hi')) x B->Q x H')->Vf X.K x lo' hi' H3 Q:=by
       intro o k l et hk qq;subst et;rw[T.share]at r3;obtain⟨p,xs,rfl,_,n3,k3⟩:=Ew r3
       have sq:Al X.K H3 p xs:=by
        rcases hk with rfl|rfl
        .exact Al.of (S3.fh _ _ n3)
        .exact S3.fh.seq n3.l
       refine⟨p,xs,rfl,sq,λp' hp'=>?_⟩
       have gg:Cd X.K F3 H3 (.own (Bc (BS l) lo' hi')) Q:=λF' H' z C e g=>qq F' H' z C (e03.trans0 e) g
       exact gg.list S3.fh (zie k3 lo' hi') hp'
      cases t with
      |nd o k l =>
       cases k with
       |lst=>exact key rfl (.inl rfl) q
       |rl=>exact key rfl (.inr rfl) q
       |tup=>exact q.elim
       |rt=>exact q.elim
       |pin _=>exact q.elim
      |_=>exact q.elim
def pMo(K:k6)(E:L2.St->XK)(ca:Str->Value)(σ:L2.St)(Q:List V->Hp->Prop)(F H:Hp):Option RsL->Prop
 |some (.v ts _)=>∀F' H' xs (Rr:Nat->Rg),Ext F H F' H' (tot Rr)->RpO K F' H' ts xs Rr->Q xs H'
 |some (.x c)=>∀F' H',Ext F H F' H' R0->XE (E σ) ca c F' H'
 |none=>False
def JU(K:k6)(E:L2.St->XK)(ca:Str->Value)(m:BM):TA:=λσ H Q=>∃F τ R,StR K F H σ τ R/\pMo K E ca σ Q F H (m τ)
noncomputable def Ay(m:AL)(ms:BM):BM:=λτ=>match m τ with
 |some (.v t false)=>(match ms τ with
  |some (.v ts _)=>some (.v (t::ts) false)
  |r=>r)
 |some (.v _ true)=>none
 |some (.x c)=>some (.x c)
 |none=>none
theorem zmj:PA X [] (JU X.K E ca AE):=PA.weak Fl λσ H Q h=>by
 obtain⟨F,τ,R,S,q⟩:=h;exact q F H [] (λ_=>R0) ((Ext.refl S.fh).mono λa ⟨i,z⟩=>z.elim) .nil
theorem zjh(ha:PE X e (tM X.K E ca m))(hr:PA X es (JU X.K E ca ms))(hs:starEach (e::es) X.env=(false,eval e X.env)::starEach es X.env):PA X (e::es) (JU X.K E ca (Ay m ms)):=by
 refine PA.weak (Eu ha hr hs) λσ H Q h=>?_
 obtain⟨F,τ,R,S,q⟩:=h;refine⟨F,τ,R,S,?_⟩;unfold Ay at q;cases hm:m τ with
 |none=>simp only[hm]at q<;>exact q.elim
 |some r =>
  simp only[hm]at q;cases r with
  |x c=>exact q
  |v t bb =>
   cases bb with
   |true=>exact q.elim
   |false =>
    intro F1 H1 x B e1 g1;have S1:=S.ext e1;refine⟨F1,τ,R,S1,?_⟩;cases hs:ms τ with
    |none=>simp only[hs]at q<;>exact q.elim
    |some r =>
     simp only[hs]at q;cases r with
     |x c=>exact λF' H' e=>q F' H' ((e1.trans e).mono λ_ z=>z.elim)
     |v ts b' =>
      intro F2 H2 xs Rr e2 ro;have g1' :=g1;refine q F2 H2 (x::xs) _ ((e1.trans e2).mono ?_) (ro.cons (g1'.ext e2) λi a z=>?_)
      .rintro a ⟨j,z⟩;cases j with
       |zero=>exact .inl z
       |succ j=>exact .inr ⟨j,z⟩
      .exact g1'.apart e2 ⟨i,z⟩
def BV(ms:BM):AL:=λτ=>match ms τ with
 |some (.v ts _)=>if ts.length<=Bp then some (.v (.own ts) false) else none
 |some (.x c)=>some (.x c)
 |none=>none
theorem r_lst(h:PA X es (JU X.K E ca ms)):PE X (.List es pos) (tM X.K E ca (BV ms)):=by
 refine PE.weak (zn9 h) λσ H Q h=>?_
 obtain⟨F,τ,R,S,q⟩:=h;refine⟨F,τ,R,S,?_⟩;unfold BV at q;cases hm:ms τ with
 |none=>simp only[hm]at q<;>exact q.elim
 |some r =>
  simp only[hm]at q;cases r with
  |x c=>exact q
  |v ts b =>
   intro F1 H1 xs Rr e1 ro
   by_cases hz:ts.length<=Bp
   .simp only[hz]at q;refine⟨by rw[<- ro.len];exact hz,λp hp=>?_⟩
    obtain⟨r,e2⟩:=ro.list e1.fh hp;refine q F1 _ _ _ ((e1.trans e2).mono ?_) r;rintro a (z|⟨i,z⟩)
    .exact .inr z
    .exact .inl ⟨i,z⟩
   .simp only[hz]at q<;>exact q.elim
def Bj(ms:BM):AL:=λτ=>match ms τ with
 |some (.v ts false)=>if ts.length<=Bp then some (.v (.tup ts) false) else none
 |some (.v _ true)=>none
 |some (.x c)=>some (.x c)
 |none=>none
theorem r_tup(h:PA X es (CF X.K E ca ms)):PE X (.Tuple es k pos) (tM X.K E ca (Bj ms)):=by
 refine PE.weak (zn4 h) λσ H Q h=>?_
 obtain⟨F,τ,R,S,q⟩:=h;refine⟨F,τ,R,S,?_⟩;unfold Bj at q;cases hm:ms τ with
 |none=>simp only[hm]at q<;>exact q.elim
 |some r =>
  simp only[hm]at q;cases r with
  |x c=>exact q
  |v ts b =>
   cases b with
   |true=>exact q.elim
   |false =>
    intro F1 H1 xs e1 rs
    by_cases hz:ts.length<=Bp
    .simp only[hz]at q;refine⟨by rw[<- rs.1];exact hz,λp hp=>?_⟩
     have gg:Cd X.K F1 H1 (.tup ts) Q:=λF' H' z C e g=>q F' H' z C (e1.trans0 e) g
     exact gg.tuple e1.fh rs hp
    .simp only[hz]at q<;>exact q.elim
theorem zmn{id}(hc:Bs X (.builtin id) (DX X.K g))(hg:Gl X x)(hm:X.mg x=none)(hv:bootBuiltins x=some (.builtin id))(ha:PA X (e::es) (CF X.K E ca ms))(hn:x≠"__name__")(hdb:(x == "__debug__")=false)
  (he:starEach (e::es) X.env=(false,eval e X.env)::starEach es X.env) (hpl:(backTo pos (starEach es X.env)).any (·.1)=false):PE X (.Call (.Name x p) (e::es) [] pos) (tM X.K E ca (Bn g ms)) :=
 PE.weak (LU hc hg hm hv ha hn hdb he hpl) λσ H Q h=>Gv h
theorem Ve(hc:Bs X (.type T') (DX X.K g))(hg:Gl X x)(hm:X.mg x=none)(hv:bootBuiltins x=some (.type T'))(ha:PA X (e::es) (CF X.K E ca ms))(hn:x≠"__name__")(hdb:(x == "__debug__")=false)
  (he:starEach (e::es) X.env=(false,eval e X.env)::starEach es X.env) (hpl:(backTo pos (starEach es X.env)).any (·.1)=false):PE X (.Call (.Name x p) (e::es) [] pos) (tM X.K E ca (Bn g ms)) :=
 PE.weak (Vt hc hg hm hv ha hn hdb he hpl) λσ H Q h=>Gv h
end
def Ba:T->Option T
 |.nd _ _ l=>some (.int l.length)
 |.str z=>if z.length<=Bp then some (.int z.length) else none
 |_=>none
def CZ:T->Option T
 |.nd _ _ l=>some (.own l)
 |_=>none
def Im:T->Option T
 |.int i=>some (.int (if i<0 then -i else i))
 |_=>none
def Ja:T->T->Option T
 |.int i,.int j=>some (.int (if j<i then j else i))
 |_,_=>none
def maxT:T->T->Option T
 |.int i,.int j=>some (.int (if j > i then j else i))
 |_,_=>none
noncomputable def Jm:T->Option T
 |.int i=>some (.int i)
 |.bl k=>some (.int (if k then 1 else 0))
 |.str x=>if x.length<=640 then (intText? x).map T.int else none
 |_=>none
noncomputable def FG:List T->Option (List Bool)
 |[]=>some []
 |.bl b::r=>(match FG r with
  |some l=>some (b::l)
  |none=>none)
 |_::_=>none
def Di:T->Option T
 |.nd _ .lst l=>(match FG l with
  |some bs=>some (.bl (bs.all id))
  |none=>none)
 |_=>none
def Hc:T->Option T
 |.nd _ .lst l=>(match FG l with
  |some bs=>some (.bl (bs.any id))
  |none=>none)
 |_=>none
def TU:Kd->Option String
 |.lst=>some "list"
 |.tup=>some "tuple"
 |.rl=>none
 |.rt=>none
 |.pin _=>none
noncomputable def Kr:T->Option String
 |.non=>some "NoneType"
 |.bl _=>some "bool"
 |.int _=>some "int"
 |.str _=>some "str"
 |.nd _ k _=>TU k
 |.dic _ _=>some "dict"
 |.pdc _ _=>some "dict"
 |.odc _ _=>none
 |.obj _ _=>none
 |.oob _ _ _ _=>none
 |.osd _ _=>none
def Hy:List String:=["int","bool","str","list","tuple"]
def Ky(a c:String):Bool:=a == c || (a == "bool" && c == "int")
def Cb(c:String)(t:T):Option T:=match Kr t with
 |some a=>if c∈Hy then some (.bl (Ky a c)) else none
 |none=>none
theorem zdg:PySem.W.kitMeta "str"=true:=by decide +kernel
theorem zcn:PySem.W.kitMeta "list"=true:=by decide +kernel
theorem Y0(K)(ha:a∈["NoneType","bool","int","str","list","tuple","dict"])(hc:c∈Hy):PySem.W.kitOne K (.type a) (.type c)=some (Ky a c):=by
 have km:PySem.W.kitMeta c=true:=by
  simp only[Hy,yaf,yaz,ye5]at hc
  rcases hc with rfl|rfl|rfl|rfl|rfl
  .exact zdh
  .exact zco
  .exact zdg
  .exact zcn
  .exact zc4
 by_cases h:a=c
 .subst h;rw[zhw];simp[Ky]
 .refine zo5 K (l:=[]) h km ?_;simp only[Hy,yaf,yaz,ye5]at hc ha
  rcases ha with rfl|rfl|rfl|rfl|rfl|rfl|rfl<;>rcases hc with rfl|rfl|rfl|rfl|rfl<;>first|exact absurd rfl h|decide +kernel
section
variable {X:Cx}
theorem zgn:Bs X (.builtin "len") (DX X.K (g1 Ba)):=by
 intro pins s σ H xs us Q I r h;obtain⟨F,ts,v,fh,rs,e,q⟩:=h;unfold g1 at e;split at e
 .obtain⟨x1,xs1,rfl,r1,rs1⟩:=rs.inv;cases rs1.inv0;unfold Ba at e;split at e
  .cases e;obtain⟨p,ys,rfl,hq,hl,_⟩:=Rp.seq fh (r1.any);refine aQ pins s σ H _ us Q I r ⟨_,ys.length,rfl,?_,by rw[<- hl];exact q.int fh⟩
   rcases hq with hq|hq
   .exact .inl ⟨ys,hq,rfl⟩
   .exact .inr ⟨ys,hq,rfl⟩
  .split at e
   .cases e;rename_i hz;rw[r1.str_inv]at r;exact aQ pins s σ H _ us Q I r ⟨_,_,rfl,⟨by exact hz,rfl⟩,q.int fh⟩
   .cases e
  .cases e
 .cases e
theorem zfk{K}(s:Aa F H)(h:F9 K F k p xs):Al K H p xs\/CJ K H p xs:=by
 cases k with
 |lst=>exact .inl (Al.of (s _ _ h))
 |rl=>exact .inl (s.seq h.l)
 |tup=>exact .inr (CJ.of (s _ _ h))
 |rt=>exact .inr (GO s h)
 |pin q=>exact .inl (Al.of (s _ _ h))
theorem aS:Bs X (.type "list") (DX X.K (g1 CZ)):=by
 intro pins s σ H xs us Q I r h;obtain⟨F,ts,v,fh,rs,e,q⟩:=h;unfold g1 at e;split at e
 .obtain⟨x1,xs1,rfl,r1,rs1⟩:=rs.inv;cases rs1.inv0;unfold CZ at e;split at e
  .cases e;obtain⟨p,ys,rfl,rfl,n1,k1⟩:=Ew r1;have hq :=zfk fh n1;exact zdc pins s σ H _ us Q I r ⟨p,ys,rfl,hq,λl hl=>q.list fh k1 hl⟩
  .cases e
 .cases e
theorem zgs:Bs X (.builtin "abs") (DX X.K (g1 Im)):=by
 intro pins s σ H xs us Q I r h;obtain⟨F,ts,v,fh,rs,e,q⟩:=h;unfold g1 at e;split at e
 .obtain⟨x1,xs1,rfl,r1,rs1⟩:=rs.inv;cases rs1.inv0;unfold Im at e;split at e
  .cases e;rw[r1.int_inv]at r;exact zim pins s σ H _ us Q I r ⟨_,rfl,q.int fh⟩
  .cases e
 .cases e
theorem zgp:Bs X (.type "int") (DX X.K (g1 Jm)):=by
 intro pins s σ H xs us Q I r h;obtain⟨F,ts,v,fh,rs,e,q⟩:=h;unfold g1 at e;split at e
 .obtain⟨x1,xs1,rfl,r1,rs1⟩:=rs.inv;cases rs1.inv0;unfold Jm at e;split at e
  .cases e;rw[r1.int_inv]at r;exact aR pins s σ H _ us Q I r (.inl ⟨_,rfl,q.int fh⟩)
  .cases e;rw[r1.bl_inv]at r;exact aR pins s σ H _ us Q I r (.inr ⟨_,rfl,q.int fh⟩)
  .split at e
   .obtain⟨n,hn,rfl⟩:=yad.mp e;rw[r1.str_inv]at r;obtain⟨u,rfl,ru⟩:=r.one;obtain⟨t,rfl⟩:=ru;exact PySem.W.KIN.call_text hn ‹_› ⟨.int n,H,I.tok _,⟨_,rfl⟩,q.int fh⟩
   .cases e
  .cases e
 .cases e
theorem zgl{gi:Int->Int->Int}(hc:Bs X (.builtin f) (λxs H Q=>∃i j,xs=[.int i,.int j]/\Q (.int (gi i j)) H))(hg:∀t u v,g t u=some v->∃i j,t=.int i/\u=.int j/\v=.int (gi i j)):Bs X (.builtin f) (DX X.K (g2 g)):=by
 intro pins s σ H xs us Q I r h;obtain⟨F,ts,v,fh,rs,e,q⟩:=h;unfold g2 at e;split at e
 .obtain⟨x1,xs1,rfl,r1,rs1⟩:=rs.inv;obtain⟨x2,xs2,rfl,r2,rs2⟩:=rs1.inv;cases rs2.inv0;obtain⟨i,j,rfl,rfl,rfl⟩:=hg _ _ _ e;rw[r1.int_inv,r2.int_inv]at r;exact hc pins s σ H _ us Q I r ⟨_,_,rfl,q.int fh⟩
 .cases e
theorem zgm(hc:X.calm=true):Bs X (.builtin "min") (DX X.K (g2 Ja)):=zgl (zgj hc) λt u v h=>by
 unfold Ja at h
 grind
theorem aX:∀{l} {bs},FG l=some bs->l.length=bs.length/\∀(i:Nat) (t),l[i]?=some t->∃b,bs[i]?=some b/\t=.bl b
 |[],bs,h=>by cases h;exact⟨rfl,λi t e=>by simp at e⟩
 |t::r,bs,h=>by
  unfold FG at h;cases t with
  |bl b =>
   simp only at h;cases hr:FG r with
   |none=>simp only[hr]at h;cases h
   |some l =>
    simp only[hr]at h;cases h;obtain⟨h1,h2⟩:=aX hr;refine⟨by simp[h1],λi t e=>?_⟩
    cases i with
    |zero=>simp at e;exact⟨b,rfl,e.symm⟩
    |succ i=>exact h2 i t (by simpa using e)
  |_=>cases h
theorem V6{bs:List Bool}(h:∀(i:Nat) (b:Bool),bs[i]?=some b->tr i=b):(List.range bs.length).all tr=bs.all id/\(List.range bs.length).any tr=bs.any id:=by
 have e:(List.range bs.length).map tr=bs:=by
  apply List.ext_getElem?
  grind
 constructor
 .have:(List.range bs.length).all tr=((List.range bs.length).map tr).all id:=by simp
  rw[this,e]
 .have:(List.range bs.length).any tr=((List.range bs.length).map tr).any id:=by simp
  rw[this,e]
theorem Sx(hc:X.calm=true)   {σ:L2.St}{H:Hp}{F:Hp}       (I:Inv X pins σ H s)(fh:Aa F H)(r1:Rp X.K F F (.nd o .lst l) (.ref p) R0)(hb:FG l=some bs)
  (hP : ∀ (I0 : Addr) (wr fp ) (St ) (PP ) (tr ) (s2 : Shared), Walks X.prog X.w X.A.in1 I0 fp wr bs.length PP St -> St 0 s2.heap -> TruthOf X.prog X.w X.A.in1 PP tr -> (∀ (i : Nat) (b : Bool), bs[i]? = some b -> tr i = b) ->
   (∀h' tk,(∀b o,b∉wr->s2.heap.get? b=some o->h'.get? b=some o)->Inv X pins σ H { s2 with heap:=h',toks:=tk })->P (.ref I0) s2):wpAny (model X.prog X.w) X.A.in1 (pyIter (.ref p)) P E' s:=by
 obtain⟨p',ys,e',rfl,n1,k1⟩:=Ew r1;cases e';obtain⟨hlen,hget⟩:=aX hb;obtain⟨its,rv,pl,hz⟩:=I.list (Al.of (fh _ _ n1));have hl:=rv.length
 have hne :=yah (by
  obtain⟨o,n,e,_⟩:=pl;exact ya5 e)
 have hh:X.A.in1.handled=none:=I.ok.hd hc
 have val:∀(i:Nat) (v ),its[i]?=some v->∃b,bs[i]?=some b/\v=.bool b:=λi v hv=>by
  have hi:i<ys.length:=by
   have:=(ya2.mp hv).1
   omega
  have hi2:i<l.length:=by rw[k1.1];exact hi
  obtain⟨b,h1,h2⟩:=hget i _ (ya0 hi2);have rr:=k1.2 i _ _ (ya0 hi2) (ya0 hi);rw[h2]at rr;obtain⟨u,e1,ru⟩:=rv.get (ya0 hi);rw[hv]at e1;cases e1;rw[rr.bl_inv]at ru;exact⟨b,h1,ru⟩
 have hbl:its.toArray.size=bs.length:=by rw[yb3,<- hl,<- k1.1,hlen]
 refine ydu pl.isList ?_;have W:=Walks.list (prog:=X.prog) (w:=X.w) hh s.heap.objs.size p hne its.toArray;rw[hbl]at W;refine hP s.heap.objs.size _ _ _ _ (λi=>bs.getD i false) _ W ⟨⟨_,yan _ rfl,rfl,rfl⟩,?_⟩ ?_ ?_ ?_
 .obtain⟨o,ho,hr⟩:=pl.isList;exact⟨o,ya4 _ ho,hr⟩
 .intro i v s' Q' E'' hv hq';obtain⟨b,h1,h2⟩:=val i v (by simpa using hv)
  subst h2;refine ydn ?_;have e:bs.getD i false=b:=by rw[yag,h1];rfl
  rw[<- e];exact hq'
 .intro i b hb';show bs.getD i false=b;rw[yag,hb']
  rfl
 .intro h' tk k
  exact I.kept λb o e=>k b o (λz=>by
   rw[yaa]at z;exact absurd (ya5 e) (by rw[z];exact yay _)) (ya4 _ e)
theorem zgr(hc:X.calm=true):Bs X (.builtin "all") (DX X.K (g1 Di)):=by
 intro pins s σ H xs us Q I r h;obtain⟨F,ts,v,fh,rs,e,q⟩:=h;unfold g1 at e;split at e
 .obtain⟨x1,xs1,rfl,r1,rs1⟩:=rs.inv;cases rs1.inv0;unfold Di at e;split at e
  .split at e
   .cases e;rename_i bs hbs;obtain⟨p,rfl⟩:=r1.ref_inv;obtain⟨u,rfl,ru⟩:=FO r;cases ru;refine call_all_walk (Sx hc I fh r1 hbs λI0 wr fp St PP tr s2 W st0 tro htr BN=>⟨I0,fp,wr,bs.length,PP,St,tr,rfl,W,st0,tro,λh' tk k=>?_⟩)
    rw[(V6 htr).1];exact⟨.bl _,H,BN h' tk k,rfl,q.bl fh⟩
   .cases e
  .cases e
 .cases e
theorem zgq(hc:X.calm=true):Bs X (.builtin "any") (DX X.K (g1 Hc)):=by
 intro pins s σ H xs us Q I r h;obtain⟨F,ts,v,fh,rs,e,q⟩:=h;unfold g1 at e;split at e
 .obtain⟨x1,xs1,rfl,r1,rs1⟩:=rs.inv;cases rs1.inv0;unfold Hc at e;split at e
  .split at e
   .cases e;rename_i bs hbs;obtain⟨p,rfl⟩:=r1.ref_inv;obtain⟨u,rfl,ru⟩:=FO r;cases ru;refine call_any_walk (Sx hc I fh r1 hbs λI0 wr fp St PP tr s2 W st0 tro htr BN=>⟨I0,fp,wr,bs.length,PP,St,tr,rfl,W,st0,tro,λh' tk k=>?_⟩)
    rw[(V6 htr).2];exact⟨.bl _,H,BN h' tk k,rfl,q.bl fh⟩
   .cases e
  .cases e
 .cases e
theorem Yb  {σ:L2.St}           (I:Inv X pins σ H s)(ea:H p=some (.frz ob (.dK kvs)))(e:PySem.W.kitOne X.K (.type "dict") c=some b)(h:∀tk,Q (.bool b) { s with toks:=tk }) :
  wpAny (model X.prog X.w) A (call (.builtin "isinstance") [.ref p,c]) Q E s:=by
 obtain⟨_,_,_,vs,_,q⟩:=(I.hok p _ ea);obtain⟨o,es,ep,h1,h2,_⟩:=q;exact yb1 ydg I.kIn ⟨o,h1,h2.1⟩ e (λz=>nomatch z) h
theorem TR(fh:Aa F H)(r:Rp X.K F F t x R0)(h:Kr t=some a):(TyOf X.K H x (.type a)\/a="dict"/\∃p ob kvs,x=.ref p/\H p=some (.frz ob (.dK kvs)))/\a∈["NoneType","bool","int","str","list","tuple","dict"]:=by
 cases t with
 |non=>cases h;rw[r.non_inv];exact⟨.inl .non,by simp⟩
 |bl b=>cases h;rw[r.bl_inv];exact⟨.inl (.bl b),by simp⟩
 |int i=>cases h;rw[r.int_inv];exact⟨.inl (.int i),by simp⟩
 |str y=>cases h;rw[r.str_inv];exact⟨.inl (.str y),by simp⟩
 |nd o k l =>
  obtain⟨p,xs,rfl,_,n,_⟩:=Ew r;cases k with
  |lst=>cases h;exact⟨.inl (.lst (fh _ _ n)),by simp⟩
  |tup=>cases h;exact⟨.inl (.tup (fh _ _ n)),by simp⟩
  |rl=>cases h
  |rt=>cases h
  |pin _=>cases h
 |dic ks l =>
  cases h;cases r with
  |dic h e ek c=>exact⟨.inr ⟨rfl,_,_,_,rfl,fh _ _ h⟩,by simp⟩
 |pdc ks l =>
  cases h;cases r with
  |pdc h e ek c=>exact⟨.inl (.dK (fh _ _ h)),by simp⟩
 |odc ks l=>cases h
 |obj k l=>cases h
 |oob p C fs l=>cases h
 |osd ks l=>cases h
theorem zgo:Bs X (.builtin "isinstance") (λxs H Q=>∃x,xs=[x,.ty c]/\DX X.K (g1 (Cb c)) [x] H Q):=by
 intro pins s σ H xs us Q I r h;obtain⟨x,rfl,F,ts,v,fh,rs,e,q⟩:=h;unfold g1 at e;split at e
 .obtain⟨x1,xs1,e1,r1,rs1⟩:=rs.inv;cases e1;unfold Cb at e;split at e
  .rename_i a ha;split at e
   .cases e;rename_i hc;obtain⟨ty,hm⟩:=TR fh r1 ha
    rcases ty with ty|⟨rfl,p,ob,kvs,rfl,hp⟩
    .exact zik pins s σ H _ us Q I r ⟨x,_,_,rfl,ty,Y0 X.K hm hc,q.bl fh⟩
    .obtain⟨u,w',rfl,rx,ry⟩:=Hw r;cases ry;cases rx;exact Yb I hp (Y0 X.K hm hc) λtk=>⟨.bl _,H,I.tok _,rfl,q.bl fh⟩
   .cases e
  .cases e
 .cases e
def T.isN:T->Bool
 |.non=>true
 |_=>false
noncomputable def T.isB(b:Bool):T->Bool
 |.bl c=>c == b
 |_=>false
def Az(neg:Bool)(t u:T):Option T:=match u with
 |.non=>some (.bl (neg ^^ t.isN))
 |.bl b=>some (.bl (neg ^^ t.isB b))
 |_=>none
theorem aF{K}(r:Rp K F H t x A):decide (x=V.non)=t.isN:=by
 cases r<;>simp[T.isN]
theorem aG{K}(r:Rp K F H t x A):decide (x=V.bl b)=t.isB b:=by
 cases r<;>simp[T.isB]
 rfl
theorem znm:Ak X (compareOp .Is) (Br X.K (Az false)):=by
 intro pins s σ H x y v u Q I rx ry h;obtain⟨F,t1,t2,r,fh,r1,r2,e,q⟩:=h;unfold Az at e;split at e
 .cases e;rw[r2.non_inv]at ry;refine zng pins s σ H _ _ v u Q I rx ry ⟨rfl,?_⟩;rw[aF r1];have:=q.bl fh
  simp_all
 .cases e;rw[r2.bl_inv]at ry;refine znh pins s σ H _ _ v u Q I rx ry ⟨_,rfl,?_⟩;rw[aG r1];have:=q.bl fh
  simp_all
 .cases e
theorem zfi:Ak X (compareOp .IsNot) (Br X.K (Az true)):=by
 intro pins s σ H x y v u Q I rx ry h;obtain⟨F,t1,t2,r,fh,r1,r2,e,q⟩:=h;unfold Az at e;split at e
 .cases e;rw[r2.non_inv]at ry;refine zk3 pins s σ H _ _ v u Q I rx ry ⟨rfl,?_⟩;rw[aF r1];have:=q.bl fh
  simp_all
 .cases e;rw[r2.bl_inv]at ry;refine zk4 pins s σ H _ _ v u Q I rx ry ⟨_,rfl,?_⟩;rw[aG r1];have:=q.bl fh
  simp_all
 .cases e
end
section
variable {X:Cx}{E:L2.St->XK}{ca:Str->Value}{σ:L2.St}{H:Hp}{m ma mb mc:AL}{ms:BM}{K:k6}{a b c e:Expr}{es:List Expr}{pos p p2:Pos}
theorem r_isT{c}(hv:bootBuiltins cn=some (.type c))(hg:Gl X "isinstance")(hm:X.mg "isinstance"=none)(hgc:Gl X cn)(hmc:X.mg cn=none)(hn:cn≠"__name__")(hd:(cn == "__debug__")=false)(ha:PE X e (tM X.K E ca m))(he:starEach [e,.Name cn p2] X.env=(false,eval e X.env)::starEach [.Name cn p2] X.env) :
  PE X (.Call (.Name "isinstance" p) [e,.Name cn p2] [] pos) (tM X.K E ca (Bn (g1 (Cb c)) (AB m AE))):=by
 refine PE.weak (LU (zgo (c:=c)) hg hm PyProof.Rows.boot_isinstance (Eu ha (Eu (zk1 (v:=.ty c) hgc hmc hv rfl hn hd) Fl) he) (by decide) (by decide) he rfl) λσ H Q h=>?_
 exact(Gu (Gv h)).mono λx H1 h1=>⟨x,rfl,Gs h1⟩
set_option genInjectivity true in
inductive Ru where
 |ok (t:T)|exc (c:Str)
def Bq(K:k6)(ca:Str->Value)(g:List T->Option Ru):Sp:=λvs H Q E=>∃F ts,Aa F H/\Aw K F ts vs/\match g ts with
 |some (.ok v)=>Cd K F H v Q
 |some (.exc c)=>∀F' H',Ext F H F' H' R0->XE E ca c F' H'
 |none=>False
def Jt:Bool->Str->Option Rs
 |false,c=>some (.x c)
 |true,c=>(match Fk c with
  |none=>some (.x c)
  |some _=>none)
def AK(g:List T->Option Ru)(ms:BM):AL:=λτ=>match ms τ with
 |some (.v ts b)=>(match g ts with
  |some (.ok v)=>BN b v
  |some (.exc c)=>Jt b c
  |none=>none)
 |some (.x c)=>some (.x c)
 |none=>none
theorem zle(h:tM K E ca (AK g ms) σ H Q):Tg (Bq K ca g) [] E (CF K E ca ms) σ H Q:=by
 obtain⟨F,τ,R,S,q⟩:=h;refine⟨F,τ,R,S,?_⟩;unfold AK at q;cases hs:ms τ with
 |none=>simp only[hs]at q<;>exact q.elim
 |some r =>
  simp only[hs]at q;cases r with
  |x c=>exact q
  |v ts b =>
   intro F1 H1 xs e1 rs;have S1:=S.ext e1;rw[ybz];refine⟨Gz b F1 H1 R,ts,QT S1,rs,?_⟩;cases hg:g ts with
   |none=>simp only[hg]at q<;>exact q.elim
   |some r =>
    simp only[hg]at q;cases r with
    |exc c =>
     cases b with
     |false=>exact λF' H' e2=>q F' H' (e1.trans0 e2)
     |true =>
      simp only[Jt]at q;cases hp:Fk c with
      |none=>rw[hp]at q;exact λF' H' e2=>(q F1 H' (e1.grow e2.hh)).any hp
      |some n=>rw[hp]at q;exact q.elim
    |ok v =>
     intro F2 H2 z C e2 r2;simp only at q;unfold BN at q;cases b with
     |false=>exact q F2 H2 z C (e1.trans0 e2) r2
     |true =>
      cases hf:v.flat with
      |false=>rw[hf]at q;cases q
      |true=>rw[hf]at q;exact q F1 H2 z R0 (e1.grow e2.hh) (r2.flat_any hf)
theorem zmm(D:DefX X.prog X.w X.K X.mg X.base k x ps (Bq X.K ca g))(hr:Room j X.A)(hx:Bg X E)(ha:PA X (e::es) (CF X.K E ca ms))(hk:k<=j)(hg:Gl X x)(hdb:(x == "__debug__")=false)
  (he:starEach (e::es) X.env=(false,eval e X.env)::starEach es X.env) (hpl:(backTo pos (starEach es X.env)).any (·.1)=false):PE X (.Call (.Name x p) (e::es) [] pos) (tM X.K E ca (AK g ms)):=PE.weak (px D hr hx ha hk hg hdb he hpl) λ_ _ _ h=>zle h
end
section
variable {X:Cx}{E:L2.St->XK}{ca:Str->Value}{ms:BM}{e:Expr}{es:List Expr}{p pos:Pos}
end
def GF(K:k6)(J:It)(F:Hp)(ts:List T):Prop:=∀(i:Nat) (F' H':Hp),Aa F F'->Aa F' H' ->
 (∀t,ts[i]?=some t->J.go i H'/\∀x H'',J.yld i H' x H''->∃F'',Ext F' H' F'' H'' R0/\Rp K F'' H'' t x R0)/\(i=ts.length->J.stop i H')
def pI(K:k6)(E:L2.St->XK)(ca:Str->Value)(σ:L2.St)(P:It->Hp->Prop)(F H:Hp):Option RsL->Prop
 |some (.v ts _)=>∀F' H' J,Ext F H F' H' R0->GF K J F' ts->P J H'
 |some (.x c)=>∀F' H',Ext F H F' H' R0->XE (E σ) ca c F' H'
 |none=>False
def tI(K:k6)(E:L2.St->XK)(ca:Str->Value)(m:BM):TI:=λσ H P=>∃F τ R,StR K F H σ τ R/\pI K E ca σ P F H (m τ)
noncomputable def IT:T->Bool
 |.nd _ .lst _=>true
 |.nd _ .rl _=>true
 |.nd _ (.pin _) _=>true
 |_=>false
noncomputable def IV(m:AL):BM:=λτ=>match m τ with
 |some (.v (.nd _ k l) false)=>some (.v (BS l) false)
 |some (.x c)=>some (.x c)
 |_=>none
def E8(lo:Int)(n:Nat):List T:=(List.range n).map λ(i:Nat)=>.int (lo+(i:Int))
def C8(j:Int):Bool:=@decide (-(2 ^ 62)<=j/\j<2 ^ 62) (Classical.propDecidable _)
def M5:List T->Option Int
 |[.int j]=>some j
 |_=>none
noncomputable def M4:List T->Option (Int×Int)
 |[.int i,.int j]=>some (i,j)
 |_=>none
def Cc(ms:BM):BM:=λτ=>match ms τ with
 |some (.v ts _)=>(match M5 ts with
  |some j=>if C8 j then some (.v (E8 0 j.toNat) false) else none
  |none=>none)
 |r=>r
def HU(ms:BM):BM:=λτ=>match ms τ with
 |some (.v ts _)=>(match M4 ts with
  |some (i,j)=>if C8 i && C8 j then some (.v (E8 i (j - i).toNat) false) else none
  |none=>none)
 |r=>r
def EI:Nat->List T->List T
 |_,[]=>[]
 |i,t::r=>.tup [.int (i:Int),t]::EI (i+1) r
def M3:List T->Option (List T)
 |[.nd o k l]=>if IT (.nd o k l) then some l else none
 |_=>none
def M1:List T->Option (List T×List T)
 |[.nd o k l,.nd o' k' m]=>if IT (.nd o k l) && IT (.nd o' k' m) then some (l,m) else none
 |_=>none
def CV(ms:BM):BM:=λτ=>match ms τ with
 |some (.v ts false)=>(match M3 ts with
  |some l=>some (.v (EI 0 l) false)
  |none=>none)
 |some (.v _ true)=>none
 |r=>r
def Gj(l m:List T):List T:=List.zipWith (λa b=>T.tup [a,b]) l m
def Fz(ms:BM):BM:=λτ=>match ms τ with
 |some (.v ts false)=>(match M1 ts with
  |some (l,m)=>some (.v (Gj l m) false)
  |none=>none)
 |some (.v _ true)=>none
 |r=>r
theorem Zt:∀(l) (n i),(EI n l)[i]?=(l[i]?).map λt=>T.tup [.int (n+i:Nat),t]
 |[],n,i=>by rfl
 |t::r,n,i=>by
  cases i with
  |zero=>rfl
  |succ i =>
   simp only[EI,ybx];rw[Zt r (n+1) i]
   grind
theorem zd2(l):∀n,(EI n l).length=l.length:=by
 induction l with
 |nil=>intro n;rfl
 |cons t r ih=>simp[EI,ih]
section
variable {X:Cx}{E:L2.St->XK}{ca:Str->Value}{σ:L2.St}{H:Hp}{m ma mb mc:AL}{ms:BM}{K:k6}{a b c e tg:Expr}{es elts:List Expr}{pos p tpos:Pos}{kk:Nat}
theorem QI{p}(n:∀F' H' ,Aa F F'->Aa F' H'->Al K H' p xs)(r:Aw K F l xs):GF K (S7 K p) F l:=by
 intro i F' H' s1 s2;have sq:=n F' H' s1 s2;refine⟨λt ht=>?_,λe=>⟨xs,sq,by rw[e,r.1];simp⟩⟩
 have hi:i<xs.length:=by
  have:=(ya2.mp ht).1;have:=r.1
  omega
 refine⟨⟨xs,xs[i],sq,ya0 hi⟩,λx H'' y=>?_⟩
 obtain⟨rfl,y⟩:=y;have hx:=y xs sq;exact⟨F',Ext.refl s2,((r.same s1).2 i t x ht hx).any⟩
theorem Y7{p}(n:∀F' H' ,Aa F F'->Aa F' H'->CJ K H' p xs)(r:Aw K F l xs):GF K (S6 K p) F l:=by
 intro i F' H' s1 s2;have sq:=n F' H' s1 s2;refine⟨λt ht=>?_,λe=>⟨xs,sq,by rw[e,r.1];simp⟩⟩
 have hi:i<xs.length:=by
  have:=(ya2.mp ht).1;have:=r.1
  omega
 refine⟨⟨xs,xs[i],sq,ya0 hi⟩,λx H'' y=>?_⟩
 obtain⟨rfl,y⟩:=y;have hx:=y xs sq;exact⟨F',Ext.refl s2,((r.same s1).2 i t x ht hx).any⟩
theorem Y8{lo}:GF K (K6 lo n) F (E8 lo n):=by
 intro i F' H' s1 s2;refine⟨λt ht=>?_,λe=>?_⟩
 .unfold E8 at ht;rw[ya7]at ht;obtain⟨j,e1,e2⟩:=yad.mp ht
  have hi:i<n:=by
   have:=(ya2.mp e1).1
   simpa using this
  have hj:i=j:=by rw[List.getElem?_range hi]at e1;exact yal e1
  subst hj;subst e2;refine⟨hi,λx H'' y=>?_⟩
  obtain⟨rfl,rfl⟩:=y;exact⟨F',Ext.refl s2,.int _⟩
 .have:n<=i:=by rw[e];simp[E8]
  exact this
theorem zhx{p}(n:∀F' H' ,Aa F F'->Aa F' H'->Al K H' p xs)(r:Aw K F l xs):GF K (S8 K k p) F (EI k l):=by
 intro i F' H' s1 s2;have sq:=n F' H' s1 s2;refine⟨λt ht=>?_,λe=>⟨xs,sq,by rw[e,zd2,r.1];simp⟩⟩
 rw[Zt]at ht;obtain⟨t0,h0,rfl⟩:=yad.mp ht
 have hi:i<xs.length:=by
  have:=(ya2.mp h0).1;have:=r.1
  omega
 refine⟨⟨xs,xs[i],sq,ya0 hi⟩,λx H'' y=>?_⟩
 obtain⟨q,y0,rfl,hq,rfl,y⟩:=y;have hx:=y xs sq;have e:=Ext.new (o:=.tup [.int (k+i),y0]) s2 hq;refine⟨_,e,Aw.of_node Cf ?_⟩;exact .cons (H:=H') (.int _) (.cons (H:=H') (((r.same (s1.trans e.ff)).2 i t0 y0 h0 hx).any) .nil)
theorem zkt{p p2}(n:∀F' H' ,Aa F F'->Aa F' H'->Al K H' p xs)(n2:∀F' H' ,Aa F F'->Aa F' H'->Al K H' p2 ys)(r:Aw K F l xs)(r2:Aw K F l2 ys):GF K (SY K p p2) F (Gj l l2):=by
 intro i F' H' s1 s2;have sq:=n F' H' s1 s2;have sq2:=n2 F' H' s1 s2;have l1:=r.1;have l2':=r2.1;refine⟨λt ht=>?_,λe=>⟨xs,ys,sq,sq2,?_⟩⟩
 .unfold Gj at ht;rw[List.getElem?_zipWith]at ht;cases h1:l[i]? with
  |none=>rw[h1]at ht;cases ht
  |some t1 =>
   cases h2:l2[i]? with
   |none=>rw[h1,h2]at ht;cases ht
   |some t2 =>
    rw[h1,h2]at ht;cases ht;have hi:i<xs.length:=by have:=(ya2.mp h1).1;omega
    have hi2:i<ys.length:=by grind
    refine⟨⟨xs,xs[i],ys,ys[i],sq,ya0 hi,sq2,ya0 hi2⟩,λx H'' y=>?_⟩
    obtain⟨q,y0,z0,rfl,hq,rfl,y,z⟩:=y;have hx:=y xs sq;have hy:=z ys sq2;have e:=Ext.new (o:=.tup [y0,z0]) s2 hq;refine⟨_,e,Aw.of_node Cf ?_⟩;exact .cons (H:=H') (((r.same (s1.trans e.ff)).2 i t1 y0 h1 hx).any) (.cons (H:=H') (((r2.same (s1.trans e.ff)).2 i t2 z0 h2 hy).any) .nil)
 .have:i=min l.length l2.length:=by rw[e];simp[Gj]
  omega
theorem PI.weak(h:PI X tg e t)(w:∀σ H P,t' σ H P->t σ H P):PI X tg e t':=λpins s σ H P I q=>h pins s σ H P I (w σ H P q)
theorem PI.or(h:PI X tg e t)(h':PI X tg e t'):PI X tg e (λσ H P=>t σ H P\/t' σ H P):=λpins s σ H P I q=>q.elim (h pins s σ H P I) (h' pins s σ H P I)
theorem Va(ha:PE X e (tM X.K E ca m)):PI X tg e (tI X.K E ca (IV m)):=by
 refine PI.weak (PI.or (zju ha) (zn0 ha)) λσ H P h=>?_
 obtain⟨F,τ,R,S,q⟩:=h;unfold IV at q
 have key:∀{o } {k } {l },m τ=some (.v (.nd o k l) false)->(∀F' H' J,Ext F H F' H' R0->GF X.K J F' (BS l)->P J H')->∀F1 H1 x B,Ext F H F1 H1 B->EJ X.K F1 H1 R (.nd o k l) false x B->∃(F2:Hp) (p:Addr) (xs:List V),x=.ref p/\Ext F H F2 H1 R0/\F9 X.K F2 k p xs/\Aw X.K F2 (BS l) xs:=by
  intro o k l hm q F1 H1 x B e1 g1;obtain⟨F2,e2,_,r2⟩:=EJ.frz S e1 g1;have r2' :=r2;rw[T.share]at r2';obtain⟨p,xs,rfl,_,n,kd⟩:=Ew r2';exact⟨F2,p,xs,rfl,e2,n,kd⟩
 cases hm:m τ with
 |none=>simp only[hm]at q<;>exact q.elim
 |some r =>
  simp only[hm]at q;cases r with
  |x c=>exact .inl ⟨F,τ,R,S,by rw[hm];exact q⟩
  |v t bb =>
   cases t with
   |nd o k l =>
    cases bb with
    |true=>exact q.elim
    |false =>
     simp only at q;cases k with
     |lst =>
      refine .inl ⟨F,τ,R,S,?_⟩;rw[hm];intro F1 H1 x B e1 g1;obtain⟨F2,p,xs,rfl,e2,n,kd⟩:=key hm q F1 H1 x B e1 g1;exact⟨p,rfl,⟨xs,Al.of (e2.fh _ _ n)⟩,q F2 H1 _ e2 (QI (λF' H' s1 s2=>Al.of (s2 _ _ (s1 _ _ n))) kd)⟩
     |pin _ =>
      refine .inl ⟨F,τ,R,S,?_⟩;rw[hm];intro F1 H1 x B e1 g1;obtain⟨F2,p,xs,rfl,e2,n,kd⟩:=key hm q F1 H1 x B e1 g1;exact⟨p,rfl,⟨xs,Al.of (e2.fh _ _ n)⟩,q F2 H1 _ e2 (QI (λF' H' s1 s2=>Al.of (s2 _ _ (s1 _ _ n))) kd)⟩
     |rl =>
      refine .inl ⟨F,τ,R,S,?_⟩;rw[hm];intro F1 H1 x B e1 g1;obtain⟨F2,p,xs,rfl,e2,n,kd⟩:=key hm q F1 H1 x B e1 g1;exact⟨p,rfl,⟨xs,e2.fh.seq n.l⟩,q F2 H1 _ e2 (QI (λF' H' s1 s2=>s2.seq (s1.seq n.l)) kd)⟩
     |tup =>
      refine .inr ⟨F,τ,R,S,?_⟩;rw[hm];intro F1 H1 x B e1 g1;obtain⟨F2,p,xs,rfl,e2,n,kd⟩:=key hm q F1 H1 x B e1 g1;exact⟨p,rfl,⟨xs,CJ.of (e2.fh _ _ n)⟩,q F2 H1 _ e2 (Y7 (λF' H' s1 s2=>CJ.of (s2 _ _ (s1 _ _ n))) kd)⟩
     |rt =>
      refine .inr ⟨F,τ,R,S,?_⟩;rw[hm];intro F1 H1 x B e1 g1;obtain⟨F2,p,xs,rfl,e2,n,kd⟩:=key hm q F1 H1 x B e1 g1;exact⟨p,rfl,⟨xs,GO e2.fh n⟩,q F2 H1 _ e2 (Y7 (λF' H' s1 s2=>GO s2 (GO s1 n)) kd)⟩
   |_=>exact q.elim
theorem Kv{f:(BM)->BM}   (hx:∀τ c,ms τ=some (.x c)->f ms τ=some (.x c))(hn:∀τ,ms τ=none->f ms τ=none)
  (hv : ∀ F τ R ts b, StR K F H σ τ R -> ms τ = some (.v ts b) -> (match f ms τ with
   |some (.v us _)=>∀F' H' J,Ext F H F' H' R0->GF K J F' us->P J H'
   |some (.x c)=>∀F' H',Ext F H F' H' R0->XE (E σ) ca c F' H'
   |none=>False)->∀F' H' xs,Ext F H F' H' R0->Aw K (Gz b F' H' R) ts xs->W xs H') (h:tI K E ca (f ms) σ H P):CF K E ca ms σ H W:=by
 obtain⟨F,τ,R,S,q⟩:=h;refine⟨F,τ,R,S,?_⟩;cases hm:ms τ with
 |none=>rw[hn τ hm]at q;exact q.elim
 |some r =>
  cases r with
  |x c=>rw[hx τ c hm]at q;exact q
  |v ts b=>exact λF' H' xs e rs=>hv F τ R ts b S hm q F' H' xs e rs
theorem OO(h:C8 j=true):-(2 ^ 62)<=j/\j<2 ^ 62:=@of_decide_eq_true _ (Classical.propDecidable _) h
theorem zha(hg:Gl X "range")(hm:X.mg "range"=none)(ha:PA X [a] (CF X.K E ca ms))(hs:starEach [a] X.env=[(false,eval a X.env)]):PI X tg (.Call (.Name "range" p) [a] [] pos) (tI X.K E ca (Cc ms)):=by
 refine PI.weak (zff hg hm ha hs) λσ H P h=>?_
 refine Kv (f:=Cc) (λτ c e=>by unfold Cc;rw[e]) (λτ e=>by unfold Cc;rw[e]) (λF τ R ts b S e q F' H' xs e1 rs=>?_) h
 unfold Cc at q;rw[e]at q;simp only at q;cases h1:M5 ts with
 |none=>simp only[h1]at q<;>exact q.elim
 |some j =>
  simp only[h1]at q
  by_cases hj:C8 j=true
  .simp only[hj,ye0]at q;obtain⟨g1,g2⟩:=OO hj;unfold M5 at h1;split at h1
   .cases h1;obtain⟨x1,xs1,rfl,r1,rs1⟩:=rs.inv;cases rs1.inv0;rw[r1.int_inv];exact⟨j,rfl,g1,g2,q F' H' _ e1 Y8⟩
   .cases h1
  .simp only[hj]at q;exact q.elim
theorem zh9(hg:Gl X "range")(hm:X.mg "range"=none)(ha:PA X [a,b] (CF X.K E ca ms))(hs:starEach [a,b] X.env=[(false,eval a X.env),(false,eval b X.env)])(hs2:starEach [b] X.env=[(false,eval b X.env)]):PI X tg (.Call (.Name "range" p) [a,b] [] pos) (tI X.K E ca (HU ms)):=by
 refine PI.weak (zfe hg hm ha hs hs2) λσ H P h=>?_
 refine Kv (λτ c e=>by unfold HU;rw[e]) (λτ e=>by unfold HU;rw[e]) (λF τ R ts b S e q F' H' xs e1 rs=>?_) h
 unfold HU at q;rw[e]at q;simp only at q;cases h1:M4 ts with
 |none=>simp only[h1]at q<;>exact q.elim
 |some ij =>
  obtain⟨i,j⟩:=ij;simp only[h1]at q
  by_cases hj:(C8 i && C8 j)=true
  .simp only[hj,ye0]at q;rw[ya3]at hj;obtain⟨g1,g2⟩:=OO hj.1;obtain⟨g3,g4⟩:=OO hj.2;unfold M4 at h1;split at h1
   .cases h1;obtain⟨x1,xs1,rfl,r1,rs1⟩:=rs.inv;obtain⟨x2,xs2,rfl,r2,rs2⟩:=rs1.inv;cases rs2.inv0;rw[r1.int_inv,r2.int_inv];exact⟨i,j,rfl,⟨g1,g2,g3,g4⟩,q F' H' _ e1 Y8⟩
   .cases h1
  .simp only[hj]at q;exact q.elim
theorem Lx(h:IT (.nd o k l)=true)(r:Rp K F F (.nd o k l) x R0):∃p xs,x=.ref p/\(∀F' H' ,Aa F F'->Aa F' H'->Al K H' p xs)/\Aw K F l xs:=by
 obtain⟨p,xs,rfl,_,n,kd⟩:=Ew r;refine⟨p,xs,rfl,λF' H' s1 s2=>?_,kd⟩
 cases k with
 |lst=>exact Al.of (s2 _ _ (s1 _ _ n))
 |rl=>exact s2.seq (s1.seq n.l)
 |tup=>cases h
 |rt=>cases h
 |pin q=>exact Al.of (s2 _ _ (s1 _ _ n))
theorem Vb(hg:Gl X "enumerate")(hm:X.mg "enumerate"=none)(ha:PA X [a] (CF X.K E ca ms))(hs:starEach [a] X.env=[(false,eval a X.env)]):PI X (.Tuple elts kk tpos) (.Call (.Name "enumerate" p) [a] [] pos) (tI X.K E ca (CV ms)):=by
 refine PI.weak (zjv hg hm ha hs) λσ H P h=>?_
 refine Kv (f:=CV) (λτ c e=>by unfold CV;rw[e]) (λτ e=>by unfold CV;rw[e]) (λF τ R ts b S e q F' H' xs e1 rs=>?_) h
 unfold CV at q;rw[e]at q;cases b with
 |true=>exact q.elim
 |false =>
  simp only at q;cases h1:M3 ts with
  |none=>simp only[h1]at q<;>exact q.elim
  |some l =>
   simp only[h1]at q;unfold M3 at h1;split at h1
   .split at h1
    .cases h1;rename_i hL;obtain⟨x1,xs1,rfl,r1,rs1⟩:=rs.inv;cases rs1.inv0;obtain⟨p',ys,rfl,sq,kd⟩:=Lx hL r1;exact⟨p',rfl,⟨ys,sq F' H' (.refl _) e1.fh⟩,q F' H' _ e1 (zhx sq kd)⟩
    .cases h1
   .cases h1
theorem r_zip(hg:Gl X "zip")(hm:X.mg "zip"=none)(ha:PA X [a,b] (CF X.K E ca ms))(hs:starEach [a,b] X.env=[(false,eval a X.env),(false,eval b X.env)])(hs2:starEach [b] X.env=[(false,eval b X.env)]):PI X (.Tuple elts kk tpos) (.Call (.Name "zip" p) [a,b] [] pos) (tI X.K E ca (Fz ms)):=by
 refine PI.weak (zmz hg hm ha hs hs2) λσ H P h=>?_
 refine Kv (λτ c e=>by unfold Fz;rw[e]) (λτ e=>by unfold Fz;rw[e]) (λF τ R ts b S e q F' H' xs e1 rs=>?_) h
 unfold Fz at q;rw[e]at q;cases b with
 |true=>exact q.elim
 |false =>
  simp only at q;cases h1:M1 ts with
  |none=>simp only[h1]at q<;>exact q.elim
  |some lm =>
   obtain⟨l,m'⟩:=lm;simp only[h1]at q;unfold M1 at h1;split at h1
   .split at h1
    .cases h1;rename_i hL;rw[ya3]at hL;obtain⟨x1,xs1,rfl,r1,rs1⟩:=rs.inv;obtain⟨x2,xs2,rfl,r2,rs2⟩:=rs1.inv;cases rs2.inv0;obtain⟨p',ys,rfl,sq,kd⟩:=Lx hL.1 r1;obtain⟨p2,zs,rfl,sq2,kd2⟩:=Lx hL.2 r2;exact⟨p',p2,rfl,⟨ys,sq F' H' (.refl _) e1.fh⟩,⟨zs,sq2 F' H' (.refl _) e1.fh⟩,q F' H' _ e1 (zkt sq sq2 kd kd2)⟩
    .cases h1
   .cases h1
end
theorem StR.set{K}(S:StR K F H σ τ R)(r:Rp K F H t x A)(d:∀j a,j≠i->R j a->¬ A a)(hi:i<τ.length) :
  StR K F H (σ.set i (some x)) (τ.set i (some t)) (λj=>if j=i then A else R j):=by
 have hl:=S.len;refine⟨S.fh,by simp[hl],λj t' e=>?_,λj a z=>?_,λj k a hjk z1 z2=>?_⟩
 .by_cases hj:j=i
  .subst hj;rw[yam hi]at e;cases e;exact⟨x,yam (by omega),by simpa using r⟩
  .rw[yak (yao hj)]at e ⊢;obtain⟨y,e1,r1⟩:=S.rep j t' e;exact⟨y,e1,by simpa[hj] using r1⟩
 .by_cases hj:j=i
  .subst hj;exact⟨t,yam hi⟩
  .simp only[hj,ye8]at z;obtain⟨t',e⟩:=S.out j a z;exact⟨t',by rw[yak (yao hj)];exact e⟩
 .by_cases hj:j=i
  .simp only[hj,ye0]at z1;have hk:¬ k=i:=λz=>hjk (hj.trans z.symm)
   simp only[hk,ye8]at z2;exact d k a hk z2 z1
  .simp only[hj,ye8]at z1
   by_cases hk:k=i
   .simp only[hk,ye0]at z2;exact d j a hj z1 z2
   .simp only[hk,ye8]at z2;exact S.dis j k a hjk z1 z2
def EL(K:k6)(b:T->AV->Option AV):TG:=λv σ H Q=>∃F τ R t τ',StR K F H σ τ R/\Rp K F H t v R0/\b t τ=some τ'/\∀σ' R',StR K F H σ' τ' R'->(∀i a,R' i a->R i a)->Q σ' H
def Gw(K:k6)(b:List T->AV->Option AV):Io:=λvs σ H Q=>∃F τ R ts τ',StR K F H σ τ R/\Aw K F ts vs/\b ts τ=some τ'/\∀σ' R',StR K F H σ' τ' R'->(∀i a,R' i a->R i a)->Q σ' H
def AD(i:Nat):T->AV->Option AV:=λt τ=>if i<τ.length then some (τ.set i (some t)) else none
def Am:List T->AV->Option AV
 |[],τ=>some τ
 |_::_,_=>none
def AM(b:T->AV->Option AV)(bs:List T->AV->Option AV):List T->AV->Option AV
 |t::ts,τ=>(match b t τ with
  |some τ'=>bs ts τ'
  |none=>none)
 |[],_=>none
def Aj(n:Nat)(bs:List T->AV->Option AV):T->AV->Option AV
 |.nd _ .tup l,τ=>if l.length=n then bs l τ else none
 |.nd _ .rt l,τ=>if l.length=n then bs l τ else none
 |.nd _ .lst l,τ=>if l.length=n then bs l τ else none
 |_,_=>none
theorem zn3       (hc:X.calm=true)(h:Dx X es t)(hn:(assignEach es X.env).length=n)(hst:(assignEach es X.env).findIdx? (·.1)=none):PG X (.Tuple es k pos) (λv σ H Q=>QV X.K n t v σ H Q\/∃a xs,v=.ref a/\Al X.K H a xs/\xs.length=n/\t xs σ H Q):=by
 intro pins s σ H v u Q I r hw
 rcases hw with hw|⟨a,xs,e1,hq,hl,hw⟩
 .exact zn2 hc h hn hst pins s σ H v u Q I r hw
 .subst e1;cases r;obtain⟨its,rv,⟨o,m,ho,hcl,_,hd⟩,hz⟩:=I.list hq;refine ydp (ydr ?_);unfold unpack;rw[hst,hn,show n=its.toArray.size by simp[<- hl,rv.length]]
  refine ydp (ydq (PySem.W.kun_itemsOf (I.ok.hd hc) ⟨o,ho,hcl,m,hd⟩ λh' hx=>?_))
  have I1 :=I.kept (t':=s.toks) λb o e=>hx b o (yah (ya5 e)) e
  exact h pins _ σ H xs _ Q I1 (by grind) hw
section
variable {X:Cx}{e:Expr}{es:List Expr}{pos:Pos}{b:T->AV->Option AV}{bs:List T->AV->Option AV}
theorem PG.weak(h:PG X e t)(w:∀v σ H Q,t' v σ H Q->t v σ H Q):PG X e t':=λpins s σ H v u Q I r q=>h pins s σ H v u Q I r (w v σ H Q q)
theorem Dx.weak(h:Dx X es t)(w:∀v σ H Q,t' v σ H Q->t v σ H Q):Dx X es t':=λpins s σ H v u Q I r q=>h pins s σ H v u Q I r (w v σ H Q q)
theorem g_nm(hN:X.N.Nodup)(hi:X.N[i]?=some x)(hx:Gi X.env.scope x)(hf:X.fn x=true\/X.env.scope.names.lookup x=some .local):PG X (.Name x pos) (EL X.K (AD i)):=by
 refine PG.weak (zjx hN hi hx hf) λv σ H Q h=>?_
 obtain⟨F,τ,R,t,τ',S,r,e,q⟩:=h;unfold AD at e;split at e
 .cases e;rename_i hl;refine q _ _ (S.set r (λ_ _ _ _ z=>z.elim) hl) λj a z=>?_
  by_cases hj:j=i
  .simp only[hj]at z;exact z.elim
  grind
 .cases e
theorem g_nil:Dx X [] (Gw X.K Am):=Dx.weak zjw λv σ H Q h=>by
 obtain⟨F,τ,R,ts,τ',S,r,e,q⟩:=h;cases ts with
 |nil=>cases e;exact⟨r.inv0,q σ R S λ_ _ z=>z⟩
 |cons _ _=>cases e
theorem zom(h1:PG X e (EL X.K b))(h2:Dx X es (Gw X.K bs))(hs:(assignEach (e::es) X.env).map (·.2)=assign e X.env::(assignEach es X.env).map (·.2)):Dx X (e::es) (Gw X.K (AM b bs)):=by
 refine Dx.weak (zhf h1 h2 hs) λv σ H Q h=>?_
 obtain⟨F,τ,R,ts,τ',S,r,e,q⟩:=h;cases ts with
 |nil=>cases e
 |cons t ts =>
  obtain⟨x,xs,rfl,r1,rs⟩:=r.inv;unfold AM at e;simp only at e;cases hb:b t τ with
  |none=>grind
  |some τ1 =>
   rw[hb]at e;exact⟨x,xs,rfl,F,τ,R,t,τ1,S,r1.any,hb,λσ1 R1 S1 w1=>⟨F,τ1,R1,ts,τ',S1,rs,e,λσ2 R2 S2 w2=>q σ2 R2 S2 λi a z=>w1 i a (w2 i a z)⟩⟩
theorem g_tup(hc:X.calm=true)(h:Dx X es (Gw X.K bs))(hn:(assignEach es X.env).length=n)(hst:(assignEach es X.env).findIdx? (·.1)=none):PG X (.Tuple es k pos) (EL X.K (Aj n bs)):=by
 refine PG.weak (zn3 hc h hn hst) λv σ H Q h=>?_
 obtain⟨F,τ,R,t,τ',S,r,e,q⟩:=h
 have key:∀{o:Bool} {kd:Kd} {l:List T},t=.nd o kd l->(kd=.tup\/kd=.rt\/kd=.lst)->(if l.length=n then bs l τ else none)=some τ'->(QV X.K n (Gw X.K bs) v σ H Q\/∃a xs,v=.ref a/\Al X.K H a xs/\xs.length=n/\Gw X.K bs xs σ H Q):=by
  intro o kd l et hk e';subst et;split at e'
  .rename_i hl;obtain⟨p,xs,rfl,_,nn,kid⟩:=Ew (r.any (H':=F));have hx:xs.length=n:=by rw[<- kid.1];exact hl
   rcases hk with rfl|rfl|rfl
   .exact .inl ⟨p,xs,rfl,CJ.of (S.fh _ _ nn),hx,F,τ,R,l,τ',S,kid,e',q⟩
   .exact .inl ⟨p,xs,rfl,GO S.fh nn,hx,F,τ,R,l,τ',S,kid,e',q⟩
   .exact .inr ⟨p,xs,rfl,Al.of (S.fh _ _ nn),hx,F,τ,R,l,τ',S,kid,e',q⟩
  .cases e'
 unfold Aj at e;split at e
 .exact key rfl (.inl rfl) e
 .exact key rfl (.inr (.inl rfl)) e
 .exact key rfl (.inr (.inr rfl)) e
 .cases e
end
section
end
section
variable {X:Cx}{a:Expr}{elts:List Expr}{kk ko:Nat}{tpos p pos kp vp:Pos}{E:L2.St->XK}{ca:Str->Value}{ms:BM}
end
noncomputable def Co(b:T->AV->Option AV)(mt me:AL):List T->AV->Option (List T)
 |[],_=>some []
 |t::ts,τ=>(match b t τ with
  |some τ1=>(match mt τ1 with
   |some (.v (.bl true) _)=>(match me τ1 with
    |some (.v v false)=>(match Co b mt me ts τ1 with
     |some l=>some (v::l)
     |none=>none)
    |_=>none)
   |some (.v (.bl false) _)=>Co b mt me ts τ1
   |_=>none)
  |none=>none)
noncomputable def Fy(b:T->AV->Option AV)(mt me:AL):List T->AV->Option Str
 |[],_=>none
 |t::ts,τ=>(match b t τ with
  |some τ1=>(match mt τ1 with
   |some (.v (.bl true) _)=>(match me τ1 with
    |some (.v _ false)=>Fy b mt me ts τ1
    |some (.x c)=>some c
    |_=>none)
   |some (.v (.bl false) _)=>Fy b mt me ts τ1
   |some (.x c)=>some c
   |_=>none)
  |none=>none)
noncomputable def MT(τ:AV)(j:Nat):Option T:=match τ[j]? with
 |some (some t)=>if t.sh then some t else none
 |_=>none
def blk(n:Nat)(caps:List Nat)(τ:AV):AV:=List.replicate n none++caps.map (MT τ)
noncomputable def RF(σ:L2.St)(j:Nat):Option V:=match σ[j]? with
 |some (some v)=>some v
 |_=>none
def Ej(n:Nat)(caps:List Nat)(σ:L2.St):L2.St:=List.replicate n none++caps.map (RF σ)
def BD(n:Nat)(caps:List Nat)(mi:BM)(b:T->AV->Option AV)(mt me:AL):AL:=λτ=>match mi τ with
 |some (.v ts _)=>if ts.length<=Bp then (match Co b mt me ts (blk n caps τ) with
  |some l=>some (.v (.own l) false)
  |none=>(match Fy b mt me ts (blk n caps τ) with
   |some c=>some (.x c)
   |none=>none)) else none
 |some (.x c)=>some (.x c)
 |none=>none
theorem zp1{K}(S:StR K F H σ τ R)(n:Nat)(caps):StR K F H (Ej n caps σ) (blk n caps τ) (λ_=>R0):=by
 refine⟨S.fh,by simp[Ej,blk],λi t e=>?_,λ_ _ z=>z.elim,λ_ _ _ _ z=>z.elim⟩
 unfold blk at e;unfold Ej
 by_cases hi:i<n
 .rw[yav (by simpa using hi),yct,if_pos hi]at e
  cases e
 .rw[ybe (by simp;omega),ya7]at e ⊢
  simp only[yd1]at e ⊢;cases hc:caps[i - n]? with
  |none=>rw[hc]at e;cases e
  |some j =>
   rw[hc]at e;simp only[ych]at e ⊢;have e':MT τ j=some t:=yal e;unfold MT at e';split at e'
   .rename_i t' ht;split at e'
    .cases e';rename_i hs;obtain⟨x,ex,r⟩:=S.rep j _ ht;refine⟨x,?_,r.move hs (.refl _)⟩;unfold RF;rw[ex]
    .cases e'
   .cases e'
theorem Tp{l:List T}(h:tot (λj=>if j=l.length then B else Rr j) a):tot Rr a\/B a:=by
 obtain⟨j,z⟩:=h
 by_cases hj:j=l.length
 .grind
 .simp only[hj]at z;exact .inl ⟨j,z⟩
section
variable {X:Cx}{E:L2.St->XK}{ca:Str->Value}{σ:L2.St}{H:Hp}{K:k6}{n:Nat}{caps:List Nat}{mi:BM}{b:T->AV->Option AV}{mt me:AL}
theorem zfo(h:Co b mt me (t::us) τ1=some l2):∃τ2,b t τ1=some τ2/\((∃bt,mt τ2=some (.v (.bl false) bt)/\Co b mt me us τ2=some l2)\/∃bt w l3,mt τ2=some (.v (.bl true) bt)/\me τ2=some (.v w false)/\Co b mt me us τ2=some l3/\l2=w::l3):=by
 unfold Co at h
 grind
theorem zhu(h:Fy b mt me (t::us) τ1=some c):∃τ2,b t τ1=some τ2/\((∃bt,mt τ2=some (.v (.bl false) bt)/\Fy b mt me us τ2=some c)\/(∃bt,mt τ2=some (.v (.bl true) bt)/\((∃w,me τ2=some (.v w false)/\Fy b mt me us τ2=some c)\/me τ2=some (.x c)))\/mt τ2=some (.x c)):=by
 unfold Fy at h
 grind
theorem T9  (h:tM K E ca (BD n caps mi b mt me) σ H Q):Ku (Ej n caps) (tI K E ca mi) (EL K b) (B3 K (λ_=>E σ) ca mt) (tM K (λ_=>E σ) ca me) σ H Q:=by
 obtain⟨F,τ,R,S,q⟩:=h;refine⟨F,τ,R,S,?_⟩;unfold BD at q;cases hi:mi τ with
 |none=>simp only[hi]at q<;>exact q.elim
 |some r =>
  simp only[hi]at q;cases r with
  |x c=>exact q
  |v ts bb =>
   intro F1 H1 J e1 its
   by_cases hz':¬ ts.length<=Bp
   .simp only[hz',ye8]at q<;>exact q.elim
   have hz :=Decidable.not_not.mp hz';simp only[hz,ye0]at q
   obtain⟨G,g1,g0,gs⟩:∃G:List T->AV->List T->Prop,(∀t us τ1 l,G (t::us) τ1 l->∃τ2,b t τ1=some τ2/\((∃bt,mt τ2=some (.v (.bl false) bt)/\G us τ2 l)\/(∃bt,mt τ2=some (.v (.bl true) bt)/\((∃w,me τ2=some (.v w false)/\G us τ2 (l++[w]))\/∃c,me τ2=some (.x c)/\∀F' H',Ext F H F' H' R0->XE (E σ) ca c F' H'))\/∃c,mt τ2=some (.x c)/\∀F' H',Ext F H F' H' R0->XE (E σ) ca c F' H')) /\
     (∀τ1 l,G [] τ1 l->∀F' H' x B,Ext F H F' H' B->Rp K F' H' (.own l) x B->Q x H')/\G ts (blk n caps τ) []:=by
    cases hg:Co b mt me ts (blk n caps τ) with
    |some res =>
     simp only[hg]at q;refine⟨λus τ1 l=>∃l2,Co b mt me us τ1=some l2/\l++l2=res,λt us τ1 l z=>?_,λτ1 l z=>?_,res,hg,rfl⟩
     .obtain⟨l2,z,e⟩:=z;obtain⟨τ2,y,w|⟨bt,w,l3,y1,y2,y3,rfl⟩⟩:=zfo z
      .obtain⟨bt,w1,w2⟩:=w;exact⟨τ2,y,.inl ⟨bt,w1,l2,w2,e⟩⟩
      .exact⟨τ2,y,.inr (.inl ⟨bt,y1,.inl ⟨w,y2,l3,y3,by simpa using e⟩⟩)⟩
     .obtain⟨l2,z,e⟩:=z;cases z;rw[ybz]at e;subst e;exact q
    |none =>
     simp only[hg]at q;cases hx:Fy b mt me ts (blk n caps τ) with
     |none=>simp only[hx]at q<;>exact q.elim
     |some c =>
      simp only[hx]at q;refine⟨λus τ1 l=>Fy b mt me us τ1=some c,λt us τ1 l z=>?_,λτ1 l z=>(by cases z),hx⟩
      obtain⟨τ2,y,w|⟨bt,y1,⟨w,y2,y3⟩|y2⟩|w⟩:=zhu z
      .exact⟨τ2,y,.inl w⟩
      .exact⟨τ2,y,.inr (.inl ⟨bt,y1,.inl ⟨w,y2,y3⟩⟩)⟩
      .exact⟨τ2,y,.inr (.inl ⟨bt,y1,.inr ⟨c,y2,q⟩⟩)⟩
      .exact⟨τ2,y,.inr (.inr ⟨c,w,q⟩)⟩
   have S1:=S.ext e1;refine⟨λi ys st H'=>∃(F':Hp) (τ':AV) (l:List T) (Rr:Nat->Rg),Ext F1 H1 F' H' (tot Rr)/\RpO K F' H' l ys Rr/\StR K F' H' st τ' (λ_=>R0)/\i<=ts.length/\G (ts.drop i) τ' l/\l.length<=i,ts.length,by rw[<- Fx];exact hz,?_,?_⟩
   .exact⟨F1,blk n caps τ,[],λ_=>R0,(Ext.refl S1.fh).mono λa ⟨_,z⟩=>z.elim,.nil,zp1 S1 n caps,ybk _,gs,ya8 _⟩
   .rintro i ys st H' ⟨F',τ',l,Rr,e2,ro,S2,hle,hgo,hll⟩;have hly:=ro.len;refine⟨by omega,hle,?_⟩
    obtain⟨i1,i2⟩:=its i F' H' e2.ff e2.fh
    by_cases hlt:i<ts.length
    .refine .inr ⟨hlt,?_⟩;obtain⟨go,yld⟩:=i1 _ (ya0 hlt);refine⟨go,λx H'' y=>?_⟩
     obtain⟨F'',e3,rx⟩:=yld x H'' y;have S3:=S2.ext e3;rw[ybh hlt]at hgo;obtain⟨τ1,hb,hgo⟩:=g1 _ _ _ _ hgo;refine⟨F'',τ',_,ts[i],τ1,S3,rx,hb,λst1 R1 S4 hR1=>?_⟩
     have R1e :=funext λj=>funext λa=>propext ⟨λz=>hR1 j a z,λz=>z.elim⟩
     subst R1e;refine⟨F'',τ1,_,S4,?_⟩;have eX:∀{c },(∀F' H',Ext F H F' H' R0->XE (E σ) ca c F' H')->∀F' H',Ext F'' H'' F' H' R0->XE (E σ) ca c F' H':=λz F' H' e=>z F' H' (((e1.trans0 e2).trans (e3.trans0 e)).mono λ_ z=>z.elim)
     rcases hgo with ⟨bt,ht,hgo⟩|⟨bt,ht,hgo⟩|⟨c,ht,hX⟩
     .rw[ht];intro F4 H4 e4;exact Jk ⟨F4,τ1,l,Rr,(e2.trans ((e3.trans0 e4).mono λ_ z=>z)).mono λa z=>.inl z,(ro.ext e3).ext e4,S4.ext e4,hlt,hgo,by omega⟩
     .rw[ht];intro F4 H4 e4;have S5:=S4.ext e4;have e24:=e2.trans ((e3.trans0 e4).mono λ_ z=>z)
      refine Jj ⟨F4,τ1,_,S5,?_⟩
      rcases hgo with ⟨ve,he,hgo⟩|⟨c,he,hX⟩
      .rw[he];intro F5 H5 y B e5 ry;have ry' :=ry;have ro4:=(ro.ext e3).ext e4;have ro5:=ro4.ext e5;refine⟨F5,τ1,l++[ve],_,(e24.trans e5).mono ?_,ro5.snoc ry' (λj a z1 z2=>ro4.apart e5 z2 j z1),S5.ext e5,hlt,hgo,by simp;omega⟩
       intro a z
       rcases Tp z with z|z
       .exact .inl (.inl z)
       .exact .inr z
      .rw[he];exact λF' H' e=>eX hX F' H' (e4.trans0 e)
     .rw[ht];exact eX hX
    .have hi':i=ts.length:=by omega
     subst hi';refine .inl ⟨i2 rfl,λp hp=>?_⟩
     rw[List.drop_length]at hgo;obtain⟨rl,e3⟩:=ro.list e2.fh hp;refine g0 _ _ hgo F' _ _ _ (((e1.trans0 e2).trans e3).mono ?_) rl;rintro a (z|⟨j,z⟩)
     .exact .inr z
     .exact .inl ⟨j,z⟩
structure BlkOk(X:Cx)(scope:Scope)(N':List Str)(n:Nat)(caps:List Nat):Prop where
 kind:scope.kind=.function
 names:∀y∈scope.names,y.2=.local->scope.names.lookup y.1=some .local
 len:N'.length=n+caps.length
 cap:∀(k j:Nat),caps[k]?=some j->∃y,X.N[j]?=some y/\N'[n+k]?=some y/\scope.names.lookup y=some .free/\(y,NameKind.cell)∉scope.names
 free:∀y∈scope.names,y.2=.free->scope.names.lookup y.1=some .free/\(X.env.scope.names.lookup y.1=some .cell\/X.env.scope.names.lookup y.1=some .free)
theorem Px{env:Env}(y:Str):∀(names:List (Str×NameKind)),(names.map λ(n,k)=>if (k == NameKind.free && env.scope.kind == .function && env.kindOf n == some .cell) then (n,NameKind.cell) else (n,k)).lookup y =
  (names.lookup y).map λk=>if (k == NameKind.free && env.scope.kind == .function && env.kindOf y == some .cell) then .cell else k
 |[]=>rfl
 |(n,k)::r=>by
  rw[yap];cases hy:y == n with
  |true =>
   grind
  |false =>
   by_cases hc:(k == .free && env.scope.kind == .function && env.kindOf n == some .cell)=true
   .simp only[hc,ye0,yb9,hy];exact Px y r
   .simp only[hc,hy];simp only[yc4,ye8,yb9,hy];exact Px y r
theorem OD(scope)(env)(y):(relabel scope env).names.lookup y=(scope.names.lookup y).map λk=>if (k == NameKind.free && env.scope.kind == .function && env.kindOf y == some .cell) then .cell else k:=Px y scope.names
theorem Py:∀{names:List (Str×NameKind)},names.lookup y=some k->(y,k)∈names:=λh=>ybb h
theorem aZ   (B:BlkOk X scope N' n caps)   (I:Inv X pins σ H s) :
  ∃cl,closureFor scope X.env=pure cl/\(∀y c,cl.lookup y=some c->X.env.cells.lookup y=some c)/\(∀y,(relabel scope X.env).names.lookup y=some .cell\/(relabel scope X.env).names.lookup y=some .free->(y,NameKind.cell)∈scope.names\/∃c,cl.lookup y=some c) /\
   (∀(σ:L2.St) (i:Nat) (y:Str) (v:V),N'[i]?=some y->(Ej n caps σ)[i]?=some (some v)->(y,NameKind.cell)∉scope.names) /\
   (∀σ:L2.St,σ.length=X.N.length->(Ej n caps σ).length=N'.length) /\
   (∀(σ ) (i:Nat) (y:Str) (v:V),N'[i]?=some y->(Ej n caps σ)[i]?=some (some v)->((relabel scope X.env).names.lookup y=some .cell\/(relabel scope X.env).names.lookup y=some .free)/\∃j:Nat,X.N[j]?=some y/\σ[j]?=some (some v)/\DR X.env.scope y/\X.env.kindOf y≠some .local):=by
 obtain⟨cl,h1,h2,h3⟩:=zdu scope X.env λy hy hf=>I.ok.has y.1 (B.free y hy hf).2
 have Ik:∀(σ ) (i:Nat) (y ) (v ),N'[i]?=some y->(Ej n caps σ)[i]?=some (some v)->∃j:Nat,X.N[j]?=some y/\σ[j]?=some (some v)/\scope.names.lookup y=some .free/\(y,NameKind.cell)∉scope.names:=by
  intro σ i y v e1 e2;unfold Ej at e2
  by_cases hi:i<n
  .rw[yav (by simpa using hi),yct,if_pos hi]at e2
   cases e2
  .rw[ybe (by simp;omega),ya7]at e2
   simp only[yd1]at e2;cases hc:caps[i - n]? with
   |none=>rw[hc]at e2;cases e2
   |some j =>
    rw[hc]at e2;simp only[ych]at e2;have e' :=yal e2;obtain⟨y',g1,g2,g3,g4⟩:=B.cap (i - n) j hc;have en:n+(i - n)=i:=by omega
    rw[en,e1]at g2;cases g2
    have sv :=by
     unfold RF at e';split at e'
     .rename_i v' hv;cases e';exact hv
     .cases e'
    exact⟨j,g1,sv,g3,g4⟩
 refine⟨cl,h1,h2,λy hy=>?_,λσ i y v e1 e2=>?_,λσ hσ=>by simp[Ej,B.len],λσ i y v e1 e2=>?_⟩
 .cases hk:scope.names.lookup y with
  |none =>
   rw[OD,hk]at hy
   rcases hy with hy|hy<;>cases hy
  |some k =>
   by_cases hf:k=.free
   .subst hf;exact .inr (h3 _ (Py hk) rfl)
   .rw[OD,hk]at hy;simp only[ych]at hy;have hf' :=beq_eq_false_iff_ne.mpr hf;simp only[hf',Bool.false_and,yc4,ye8]at hy
    rcases hy with hy|hy
    .cases hy;exact .inl (Py hk)
    .cases hy;exact absurd rfl hf
 .exact(Ik σ i y v e1 e2).choose_spec.2.2.2
 .obtain⟨j,g1,sv,g3,g4⟩:=Ik σ i y v e1 e2;have fr:=B.free _ (Py g3) rfl;refine⟨?_,j,g1,sv,?_,?_⟩
  .rw[OD,g3];simp only[ych]
   by_cases hc2:(NameKind.free == NameKind.free && X.env.scope.kind == .function && X.env.kindOf y == some .cell)=true
   .exact .inl (by rw[if_pos hc2])
   .exact .inr (by rw[if_neg hc2])
  .rcases fr.2 with z|z
   .exact .inr (.inl z)
   .exact .inr (.inr z)
  .intro z;have z':X.env.scope.names.lookup y=some .local:=z
   rcases fr.2 with w|w
   .rw[z']at w;cases w
   .rw[z']at w;cases w
theorem r_lcV(B:BlkOk X scope N' n caps)(hc:∀pins σ H s cl C ex xb,Inv X pins σ H s->cq (BH X scope cl N' C s H ex xb))(hi:PJ cq X tg iter (tI X.K E ca mi))
  (hps:Bg X E) (hst:Ho X) (hg:∀cl C s₀ H₀ ex xb E',Bg (BH X scope cl N' C s₀ H₀ ex xb) E'->PG (BH X scope cl N' C s₀ H₀ ex xb) tg (EL X.K b)) (ht:∀cl C s₀ H₀ ex xb E',Bg (BH X scope cl N' C s₀ H₀ ex xb) E'->Gh (BH X scope cl N' C s₀ H₀ ex xb) ifs (B3 X.K E' ca mt)) (he:∀cl C s₀ H₀ ex xb E',Bg (BH X scope cl N' C s₀ H₀ ex xb) E'->PE (BH X scope cl N' C s₀ H₀ ex xb) elt (tM X.K E' ca me))
  (hs:∀x,foldedSetIterable iter X.env x=pure x):PE X (.ListComp elt [⟨tg,iter,ifs,0⟩] scope pos) (tM X.K E ca (BD n caps mi b mt me)):=by
 intro pins s σ H Q I h;obtain⟨cl,h1,h2,h3,h4,h5,h6⟩:=aZ B I;exact znz (Ej n caps) h1 B.kind B.names h2 h3 h4 h5 h6 hc hi hps hst (λcl C s₀ H₀ ex xb=>hg cl C s₀ H₀ ex xb _) (λcl C s₀ H₀ ex xb=>ht cl C s₀ H₀ ex xb _) (λcl C s₀ H₀ ex xb=>he cl C s₀ H₀ ex xb _) hs I (T9 h)
theorem r_lcS      (B:BlkOk X scope N' n caps)(hc:X.calm=true)(hi:PI X tg iter (tI X.K E ca mi))
  (hps:Bg X E) (hst:Ho X) (hg:∀cl C s₀ H₀ ex xb E',Bg (BH X scope cl N' C s₀ H₀ ex xb) E'->PG (BH X scope cl N' C s₀ H₀ ex xb) tg (EL X.K b)) (ht:∀cl C s₀ H₀ ex xb E',Bg (BH X scope cl N' C s₀ H₀ ex xb) E'->Gh (BH X scope cl N' C s₀ H₀ ex xb) ifs (B3 X.K E' ca mt)) (he:∀cl C s₀ H₀ ex xb E',Bg (BH X scope cl N' C s₀ H₀ ex xb) E'->PE (BH X scope cl N' C s₀ H₀ ex xb) elt (tM X.K E' ca me))
  (hs:∀x,foldedSetIterable iter X.env x=pure x)  {x:Str} (hN:X.N.Nodup) (hix:X.N[i]?=some x) (hx:X.env.scope.names.lookup x=some .local)
  (hsw:swapsWith (.ListComp elt [⟨tg,iter,ifs,0⟩] scope pos) (some (.Name x pos')) pos2.line X.env=pure true):PS X (.Assign [.Name x pos'] (.ListComp elt [⟨tg,iter,ifs,0⟩] scope pos) pos2) (λD σ H=>tM X.K E ca (BD n caps mi b mt me) σ H λv H1=>D.nx (σ.set i (some v)) H1):=by
 intro pins s σ H D I h;obtain⟨cl,h1,h2,h3,h4,h5,h6⟩:=aZ B I;exact zo0 (Ej n caps) h1 B.kind B.names h2 h3 h4 h5 h6 hc hi hps hst (λcl C s₀ H₀ ex xb=>hg cl C s₀ H₀ ex xb _) (λcl C s₀ H₀ ex xb=>ht cl C s₀ H₀ ex xb _) (λcl C s₀ H₀ ex xb=>he cl C s₀ H₀ ex xb _) hs hN hix hx hsw I (T9 h)
end
section
variable {X:Cx}{E:L2.St->XK}{ca:Str->Value}{m mk mv:AL}{o k v:Expr}{pos p p2 ap cp:Pos}{K:k6}{elts:List Expr}{kk:Nat}{tpos:Pos}
end
set_option genInjectivity true in
inductive Out where
 |nx (τ:AV)|rt (t:T)|bk (τ:AV)|ct (τ:AV)|xc (c:Str) (τ:AV)
abbrev AJ:=AV->Option Out
structure Stp(F H:Hp)(O:Rg)(F' H':Hp)(O':Rg):Prop where
 ff:Aa F F'
 fh:Aa F' H'
 kp:∀b u,¬ O b->H b=some u->H' b=some u
 nw:∀b,O' b->O b\/H b=none
 nf:∀b u,F' b=some u->F b=some u\/O b\/H b=none
section
variable {F H F1 H1 F2 H2:Hp}{O O1 O2 B:Rg}{R:Nat->Rg}
theorem Stp.refl(s:Aa F H):Stp F H O F H O:=⟨.refl _,s,λ_ _ _ e=>e,λ_ z=>.inl z,λ_ _ e=>.inl e⟩
theorem Stp.trans(a:Stp F H O F1 H1 O1)(b:Stp F1 H1 O1 F2 H2 O2):Stp F H O F2 H2 O2 where
 ff:=a.ff.trans b.ff
 fh:=b.fh
 kp:=λx u n e=>b.kp x u (λz=>(a.nw x z).elim n λw=>by grind) (a.kp x u n e)
 nw:=λx z=>(b.nw x z).elim (a.nw x) λw=>by
  by_cases hO:O x
  .exact .inl hO
  .cases e:H x with
   |none=>simp
   |some u=>rw[a.kp x u hO e]at w;cases w
 nf:=λx u e=>(b.nf x u e).elim (a.nf x u) λz=>.inr (z.elim (a.nw x) λw=>by
  by_cases hO:O x
  .exact .inl hO
  .cases e':H x with
   |none=>simp
   |some u'=>rw[a.kp x u' hO e']at w;cases w)
theorem Stp.mono(a:Stp F H O F1 H1 O1)(h:∀x,O2 x->O1 x):Stp F H O F1 H1 O2:=⟨a.ff,a.fh,a.kp,λx z=>a.nw x (h x z),a.nf⟩
theorem Ext.stp(e:Ext F H F1 H1 B):Stp F H O F1 H1 (λx=>O x\/B x):=⟨e.ff,e.fh,λb u _ q=>e.hh b u q,λb z=>z.elim .inl λz=>.inr (e.nb b z),λb u q=>(e.nf b u q).elim .inl λz=>.inr (.inr z)⟩
theorem Ext.stp0(e:Ext F H F1 H1 B):Stp F H O F1 H1 O:=e.stp.mono λ_ z=>.inl z
end
section
def Wr(K:k6)(mu:Bool)(F H:Hp)(t:T)(x:V)(B:Rg):Prop:=match mu with
 |false=>Rp K F H t x B
 |true=>∃v q l,t=.own [v,.nd true (.pin q) l]/\v.flat=true/\Rp K F H v x R0/\Rp K F H (.nd true (.pin q) l) (.ref q) B
def pS(K:k6)(E:L2.St->XK)(ca:Str->Value)(mu:Bool)(D:Ends)(F H:Hp)(R:Nat->Rg):Option Out->Prop
 |some (.nx τ')=>∀F' H' σ' R',Stp F H (tot R) F' H' (tot R')->StR K F' H' σ' τ' R'->D.nx σ' H'
 |some (.bk τ')=>∀F' H' σ' R',Stp F H (tot R) F' H' (tot R')->StR K F' H' σ' τ' R'->D.bk σ' H'
 |some (.ct τ')=>∀F' H' σ' R',Stp F H (tot R) F' H' (tot R')->StR K F' H' σ' τ' R'->D.ct σ' H'
 |some (.rt t)=>∀F' H' x B,Stp F H (tot R) F' H' B->Wr K mu F' H' t x B->D.rt x H'
 |some (.xc c τ')=>∀F' H' σ' R',Stp F H (tot R) F' H' (tot R')->StR K F' H' σ' τ' R'->XE (E σ') ca c F' H'
 |none=>False
def tS(K:k6)(E:L2.St->XK)(ca:Str->Value)(mu:Bool)(m:AJ):TS:=λD σ H=>∃F τ R,StR K F H σ τ R/\pS K E ca mu D F H R (m τ)
end
def AH(m n:AJ):AJ:=λτ=>match m τ with
 |some (.nx τ')=>n τ'
 |r=>r
def A8:AJ:=λτ=>some (.nx τ)
def LH:AJ:=λ_=>none
def HA(m:AL):AJ:=λτ=>match m τ with
 |some (.v _ _)=>some (.nx τ)
 |some (.x c)=>some (.xc c τ)
 |none=>none
def AU(m:AL):AJ:=λτ=>match m τ with
 |some (.v t _)=>some (.rt t)
 |some (.x c)=>some (.xc c τ)
 |none=>none
def Nv:AJ:=λ_=>some (.rt .non)
noncomputable def AZ(m:AL)(b:T->AV->Option AV):AJ:=λτ=>match m τ with
 |some (.v t false)=>(match b t.share τ with
  |some τ'=>some (.nx τ')
  |none=>none)
 |some (.v _ true)=>none
 |some (.x c)=>some (.xc c τ)
 |none=>none
noncomputable def Cg(i:Nat)(m:AL):AJ:=λτ=>match m τ with
 |some (.v t false)=>if i<τ.length then some (.nx (τ.set i (some t))) else none
 |some (.v _ true)=>none
 |some (.x c)=>some (.xc c τ)
 |none=>none
noncomputable def DW(i:Nat):AJ:=λτ=>match τ[i]? with
 |some (some t)=>some (.nx (τ.set i (some t.share)))
 |_=>some (.nx τ)
def A2(c:AL)(a b:AJ):AJ:=λτ=>match c τ with
 |some (.v (.bl true) _)=>a τ
 |some (.v (.bl false) _)=>b τ
 |some (.x c)=>some (.xc c τ)
 |_=>none
noncomputable def BW(b:T->AV->Option AV)(body:AJ):List T->AJ
 |[],τ=>some (.nx τ)
 |t::ts,τ=>(match b t τ with
  |some τ1=>(match body τ1 with
   |some (.nx τ2)=>BW b body ts τ2
   |some (.ct τ2)=>BW b body ts τ2
   |some (.bk τ2)=>some (.nx τ2)
   |r=>r)
  |none=>none)
def BU(mi:BM)(b:T->AV->Option AV)(body:AJ):AJ:=λτ=>match mi τ with
 |some (.v ts _)=>BW b body ts τ
 |some (.x c)=>some (.xc c τ)
 |none=>none
noncomputable def Cw(c:AL)(body:AJ):Nat->AJ
 |0,_=>none
 |n+1,τ=>(match c τ with
  |some (.v (.bl true) _)=>(match body τ with
   |some (.nx τ2)=>Cw c body n τ2
   |some (.ct τ2)=>Cw c body n τ2
   |some (.bk τ2)=>some (.nx τ2)
   |r=>r)
  |some (.v (.bl false) _)=>some (.nx τ)
  |some (.x c)=>some (.xc c τ)
  |_=>none)
open Classical in
def Fh(c:AL)(body:AJ):AJ:=λτ=>if h:∃n,(Cw c body n τ).isSome=true then Cw c body h.choose τ else none
theorem zh5(h:Fh c body τ=some o):∃n,Cw c body n τ=some o:=by
 unfold Fh at h;split at h
 .grind
 .cases h
theorem NL:∀{n} {τ} {o},Cw c body n τ=some o->Cw c body (n+1) τ=some o
 |0,τ,o,h=>by cases h
 |n+1,τ,o,h=>by
  unfold Cw at h ⊢;split at h
  .split at h
   .exact NL h
   .exact NL h
   .exact h
   .exact h
  .exact h
  .exact h
  .cases h
theorem Sv(h:Cw c body n τ=some o)(hm:n<=m):Cw c body m τ=some o:=by
 induction hm with
 |refl=>exact h
 |step _ ih=>exact NL ih
theorem zmb(h:Cw c body n τ=some o):Fh c body τ=some o:=by
 unfold Fh;have hx:∃n,(Cw c body n τ).isSome=true:=⟨n,by rw[h];rfl⟩
 obtain⟨o',e⟩:=ycn.mp hx.choose_spec;have e1:=Sv e (Nat.le_max_left hx.choose n);have e2:=Sv h (Nat.le_max_right hx.choose n)
 grind
section
variable {mu:Bool}{X:Cx}{E:L2.St->XK}{ca:Str->Value}{σ:L2.St}{H:Hp}{K:k6}{m mk mc:AL}{ms mi:BM}{b:T->AV->Option AV}{u w:AJ}{D:Ends}{e c tg iter:Expr}{st:Stmt}{BJ body sa sb:List Stmt}{pos pos':Pos}
theorem PS.weak(h:PS X st t)(w:∀D σ H,t' D σ H->t D σ H):PS X st t':=λpins s σ H D I q=>h pins s σ H D I (w D σ H q)
theorem Be.weak(h:Be X BJ t)(w:∀D σ H,t' D σ H->t D σ H):Be X BJ t':=λpins s σ H D I q=>h pins s σ H D I (w D σ H q)
theorem zls(h:tS K E ca mu (AH u w) D σ H):TZ (tS K E ca mu u) (tS K E ca mu w) D σ H:=by
 obtain⟨F,τ,R,S,q⟩:=h;refine⟨F,τ,R,S,?_⟩;unfold AH at q;cases hm:u τ with
 |none=>simp only[hm]at q<;>exact q.elim
 |some o =>
  simp only[hm]at q;cases o with
  |nx τ' =>
   intro F1 H1 σ1 R1 s1 S1;refine⟨F1,τ',R1,S1,?_⟩;cases hw:w τ' with
   |none=>simp only[hw]at q<;>exact q.elim
   |some o =>
    simp only[hw]at q;cases o with
    |nx _=>exact λF' H' σ' R' s S=>q F' H' σ' R' (s1.trans s) S
    |bk _=>exact λF' H' σ' R' s S=>q F' H' σ' R' (s1.trans s) S
    |ct _=>exact λF' H' σ' R' s S=>q F' H' σ' R' (s1.trans s) S
    |rt _=>exact λF' H' x B s r=>q F' H' x B (s1.trans s) r
    |xc _ _=>exact λF' H' σ' R' s S=>q F' H' σ' R' (s1.trans s) S
  |rt _=>exact q
  |bk _=>exact q
  |ct _=>exact q
  |xc _ _=>exact q
theorem s_nil:Be X [] (tS X.K E ca mu A8):=Be.weak zjo λD σ H h=>by
 obtain⟨F,τ,R,S,q⟩:=h;exact q F H σ R (Stp.refl S.fh) S
theorem Uj(h1:PS X st (tS X.K E ca mu u))(h2:Be X BJ (tS X.K E ca mu w)):Be X (st::BJ) (tS X.K E ca mu (AH u w)):=Be.weak (zhc h1 h2) λD σ H h=>zls h
theorem UI(h1:PS X st (tS X.K E ca mu u)):Be X [st] (tS X.K E ca mu u):=zjn h1
theorem UM:PS X st (tS X.K E ca mu LH):=λpins s σ H D I h=>by
 obtain⟨_,_,_,_,q⟩:=h;exact q.elim
theorem zm8:PS X (.Pass pos) (tS X.K E ca mu A8):=PS.weak zjq λD σ H h=>by
 obtain⟨F,τ,R,S,q⟩:=h;exact q F H σ R (Stp.refl S.fh) S
theorem zlt  (h:tS K E ca mu (AH (DW i) w) D σ H):tS K E ca mu w D σ H:=by
 obtain⟨F,τ,R,S,q⟩:=h;unfold AH DW at q;cases ht:τ[i]? with
 |none =>
  rw[ht]at q;exact⟨F,τ,R,S,q⟩
 |some ot =>
  rw[ht]at q;cases ot with
  |none=>exact⟨F,τ,R,S,q⟩
  |some t =>
   simp only at q;obtain⟨x,ex,r⟩:=S.rep i t ht;have hi :=(ya2.mp ht).1;have n:∀a,R i a->F a=none:=λa z=>(r.dom z).1
   have S0:StR K (frz F H (R i)) H σ (τ.set i (some t.share)) (λj=>if j=i then R0 else R j):=by
    refine⟨Ia S.fh,by simpa using S.len,λj t' e=>?_,λj a z=>?_,λj k a hjk z1 z2=>?_⟩
    .by_cases hj:j=i
     .subst hj;rw[yam hi]at e;cases e;exact⟨x,ex,by simpa using r.share (FE n) λa u z q=>by rw[G9 z];exact q⟩
     .rw[yak (yao hj)]at e;obtain⟨y,e1,r1⟩:=S.rep j t' e;refine⟨y,e1,?_⟩;simp only[hj,ye8]
      exact r1.frame (FE n) λa z=>⟨rfl,by
       rw[GC (λz'=>S.dis j i a hj z z')]
       exact(r1.dom z).1⟩
    .by_cases hj:j=i
     .simp only[hj,ye0]at z;exact z.elim
     .simp only[hj,ye8]at z;obtain⟨t',e⟩:=S.out j a z;exact⟨t',by rw[yak (yao hj)];exact e⟩
    .by_cases hj:j=i
     .simp only[hj,ye0]at z1;exact z1.elim
     .by_cases hk:k=i
      .simp only[hk,ye0]at z2;exact z2.elim
      .simp only[hj,ye8]at z1;simp only[hk,ye8]at z2;exact S.dis j k a hjk z1 z2
   have st0:Stp F H (tot R) (frz F H (R i)) H (tot λj=>if j=i then R0 else R j):=by
    refine⟨FE n,Ia S.fh,λ_ _ _ e=>e,λb ⟨j,z⟩=>?_,λb u e=>?_⟩
    .by_cases hj:j=i
     .simp only[hj,ye0]at z;exact z.elim
     .simp only[hj,ye8]at z;exact .inl ⟨j,z⟩
    .by_cases hb:R i b
     .exact .inr (.inl ⟨i,hb⟩)
     .rw[GC hb]at e;exact .inl e
   refine⟨_,_,_,S0,?_⟩;cases hw:w (τ.set i (some t.share)) with
   |none=>simp only[hw]at q<;>exact q.elim
   |some o =>
    simp only[hw]at q;cases o with
    |nx _=>exact λF' H' σ' R' s S=>q F' H' σ' R' (st0.trans s) S
    |bk _=>exact λF' H' σ' R' s S=>q F' H' σ' R' (st0.trans s) S
    |ct _=>exact λF' H' σ' R' s S=>q F' H' σ' R' (st0.trans s) S
    |rt _=>exact λF' H' x B s r=>q F' H' x B (st0.trans s) r
    |xc _ _=>exact λF' H' σ' R' s S=>q F' H' σ' R' (st0.trans s) S
theorem s_frz(h:Be X BJ (tS X.K E ca mu w)):Be X BJ (tS X.K E ca mu (AH (DW i) w)):=Be.weak h λD σ H h=>zlt h
theorem s_exp(he:PE X e (tM X.K E ca m))(hs:swapsWith e none pos.line X.env=pure false):PS X (.Expr e pos) (tS X.K E ca mu (HA m)):=by
 refine PS.weak (OF he hs) λD σ H h=>?_
 obtain⟨F,τ,R,S,q⟩:=h;refine⟨F,τ,R,S,?_⟩;unfold HA at q;cases hm:m τ with
 |none=>simp only[hm]at q<;>exact q.elim
 |some r =>
  simp only[hm]at q;cases r with
  |x c=>exact λF' H' e=>q F' H' σ R e.stp0 (S.ext e)
  |v t bb=>exact λF' H' x B e g=>q F' H' σ R e.stp0 (S.ext e)
theorem s_ret(he:PE X e (tM X.K E ca m)):PS X (.Return (some e) pos) (tS X.K E ca false (AU m)):=by
 refine PS.weak (zmv he) λD σ H h=>?_
 obtain⟨F,τ,R,S,q⟩:=h;refine⟨F,τ,R,S,?_⟩;unfold AU at q;cases hm:m τ with
 |none=>simp only[hm]at q<;>exact q.elim
 |some r =>
  simp only[hm]at q;cases r with
  |x c=>exact λF' H' e=>q F' H' σ R e.stp0 (S.ext e)
  |v t bb =>
   intro F' H' x B e g;cases bb with
   |false=>exact q F' H' x B (e.stp.mono λ_ z=>.inr z) g
   |true =>
    obtain⟨_,A,hA,r⟩:=g;exact q F' H' x A (e.stp.mono λa z=>.inl (hA a z)) r
theorem zm7:PS X (.Return none pos) (tS X.K E ca false Nv):=PS.weak zjp λD σ H h=>by
 obtain⟨F,τ,R,S,q⟩:=h;exact q F H .non R0 ((Stp.refl S.fh).mono λ_ z=>z.elim) .non
theorem s_if(hc:PT X c (B3 X.K E ca mc))(ha:Be X sa (tS X.K E ca mu u))(hb:Be X sb (tS X.K E ca mu w)):PS X (.If c sa sb pos) (tS X.K E ca mu (A2 mc u w)):=by
 refine PS.weak (ps_if hc ha hb) λD σ H h=>?_
 obtain⟨F,τ,R,S,q⟩:=h;refine⟨F,τ,R,S,?_⟩;unfold A2 at q;cases hm:mc τ with
 |none=>simp only[hm]at q<;>exact q.elim
 |some r =>
  simp only[hm]at q;cases r with
  |x c=>exact λF' H' e=>q F' H' σ R e.stp0 (S.ext e)
  |v t bb =>
   cases t with
   |bl k =>
    intro F1 H1 e1;have S1:=S.ext e1
    have key:∀{mm },(match mm τ with
      |some (.nx τ')=>∀F' H' σ' R',Stp F H (tot R) F' H' (tot R')->StR X.K F' H' σ' τ' R'->D.nx σ' H'
      |some (.bk τ')=>∀F' H' σ' R',Stp F H (tot R) F' H' (tot R')->StR X.K F' H' σ' τ' R'->D.bk σ' H'
      |some (.ct τ')=>∀F' H' σ' R',Stp F H (tot R) F' H' (tot R')->StR X.K F' H' σ' τ' R'->D.ct σ' H'
      |some (.rt t)=>∀F' H' x B,Stp F H (tot R) F' H' B->Wr X.K mu F' H' t x B->D.rt x H'
      |some (.xc c τ')=>∀F' H' σ' R',Stp F H (tot R) F' H' (tot R')->StR X.K F' H' σ' τ' R'->XE (E σ') ca c F' H'
      |none=>False)->tS X.K E ca mu mm D σ H1:=λ{mm} q=>by
     refine⟨F1,τ,R,S1,?_⟩;cases hr:mm τ with
     |none=>simp only[hr]at q<;>exact q.elim
     |some o =>
      simp only[hr]at q;cases o with
      |nx _=>exact λF' H' σ' R' s S=>q F' H' σ' R' (e1.stp0.trans s) S
      |bk _=>exact λF' H' σ' R' s S=>q F' H' σ' R' (e1.stp0.trans s) S
      |ct _=>exact λF' H' σ' R' s S=>q F' H' σ' R' (e1.stp0.trans s) S
      |rt _=>exact λF' H' x B s r=>q F' H' x B (e1.stp0.trans s) r
      |xc _ _=>exact λF' H' σ' R' s S=>q F' H' σ' R' (e1.stp0.trans s) S
    cases k with
    |true=>exact Jj (key q)
    |false=>exact Jk (key q)
   |_=>exact q.elim
theorem Nb  (hg:∀v σ H Q,EL K b v σ H Q->g v σ H Q)(h:tS K E ca mu (AZ m b) D σ H):Kw (tM K E ca m) g D σ H:=by
 obtain⟨F,τ,R,S,q⟩:=h;refine⟨F,τ,R,S,?_⟩;unfold AZ at q;cases hm:m τ with
 |none=>simp only[hm]at q<;>exact q.elim
 |some r =>
  simp only[hm]at q;cases r with
  |x c=>exact λF' H' e=>q F' H' σ R e.stp0 (S.ext e)
  |v t bb =>
   cases bb with
   |true=>exact q.elim
   |false =>
    intro F1 H1 x B e1 g1;obtain⟨F2,e2,_,r2⟩:=EJ.frz S e1 g1;cases hb:b t.share τ with
    |none=>simp only[hb]at q<;>exact q.elim
    |some τ' =>
     simp only[hb]at q;refine hg _ _ _ _ ⟨F2,τ,R,t.share,τ',S.ext e2,(r2).any,hb,λσ' R' S' hR=>?_⟩
     exact q F2 H1 σ' R' (e2.stp0.mono λa ⟨i,z⟩=>⟨i,hR i a z⟩) S'
theorem Yp(h:EL K (AD i) v σ H Q):Jq i v σ H Q:=by
 obtain⟨F,τ,R,t,τ',S,r,e,q⟩:=h;unfold AD at e;split at e
 .cases e;rename_i hl;refine q _ _ (S.set r (λ_ _ _ _ z=>z.elim) hl) λj a z=>?_
  by_cases hj:j=i
  .simp only[hj]at z;exact z.elim
  grind
 .cases e
theorem zm5(hN:X.N.Nodup)(hi:X.N[i]?=some x)(hx:Gi X.env.scope x)(he:PE X e (tM X.K E ca m))(hs:swapsWith e (some (.Name x pos')) pos.line X.env=pure false)(hf:X.fn x=true\/X.env.scope.names.lookup x=some .local) :
  PS X (.Assign [.Name x pos'] e pos) (tS X.K E ca mu (AZ m (AD i))):=PS.weak (Vm hN hi hx he hs hf) λD σ H h=>Nb (λ_ _ _ _ z=>Yp z) h
theorem zm6(he:PE X e (tM X.K E ca m))(hg:PG X tg (EL X.K b))(hs:swapsWithSole [tg] e pos.line X.env=pure false)(hw:swappedStores [tg] e X.env=pure none)(h1:(assignEach [tg] X.env).map (·.2)=[assign tg X.env]) :
  PS X (.Assign [tg] e pos) (tS X.K E ca mu (AZ m b)):=PS.weak (LP he hg hs hw h1) λD σ H h=>Nb (λ_ _ _ _ z=>z) h
theorem T3  (h:tS K E ca mu (Cg i m) D σ H):Kw (tM K E ca m) (Jq i) D σ H:=by
 obtain⟨F,τ,R,S,q⟩:=h;refine⟨F,τ,R,S,?_⟩;unfold Cg at q;cases hm:m τ with
 |none=>simp only[hm]at q<;>exact q.elim
 |some r =>
  simp only[hm]at q;cases r with
  |x c=>exact λF' H' e=>q F' H' σ R e.stp0 (S.ext e)
  |v t bb =>
   cases bb with
   |true=>exact q.elim
   |false =>
    intro F1 H1 x B e1 g1;have g1' :=g1;have S1:=S.ext e1
    by_cases hl:i<τ.length
    .simp only[hl]at q;refine q F1 H1 _ _ (e1.stp.mono ?_) (S1.set g1' (λj a _ z1 z2=>S.apart e1 z2 j z1) hl)
     rintro a ⟨j,z⟩
     by_cases hj:j=i
     .grind
     .simp only[hj]at z;exact .inl ⟨j,z⟩
    .simp only[hl]at q<;>exact q.elim
theorem zm9(hN:X.N.Nodup)(hi:X.N[i]?=some x)(hx:Gi X.env.scope x)(he:PE X e (tM X.K E ca m))(hs:swapsWith e (some (.Name x pos')) pos.line X.env=pure false)(hf:X.fn x=true\/X.env.scope.names.lookup x=some .local) :
  PS X (.Assign [.Name x pos'] e pos) (tS X.K E ca mu (Cg i m)):=PS.weak (Vm hN hi hx he hs hf) λD σ H h=>T3 h
theorem s_for(hp:PassesOwn (model X.prog X.w) X.A X.env X.xe)(hc:X.calm=true)(hi:PI X tg iter (tI X.K E ca mi))(hg:PG X tg (EL X.K b))(hb:Be X body (tS X.K E ca mu u))(hs:∀x,foldedSetIterable iter X.env x=pure x) :
  PS X (.For tg iter body [] pos) (tS X.K E ca mu (BU mi b u)):=by
 refine PS.weak (zmw hp hc hi hg hb hs) λD σ H h=>?_
 obtain⟨F,τ,R,S,q⟩:=h;refine⟨F,τ,R,S,?_⟩;unfold BU at q;cases hm:mi τ with
 |none=>simp only[hm]at q<;>exact q.elim
 |some r =>
  simp only[hm]at q;cases r with
  |x c=>exact λF' H' e=>q F' H' σ R e.stp0 (S.ext e)
  |v ts bb =>
   intro F1 H1 J e1 its;simp only at q;have S1:=S.ext e1;cases hg:BW b u ts τ with
   |none=>simp only[hg]at q<;>exact q.elim
   |some out =>
    simp only[hg]at q;refine⟨λi mm σ' H'=>mm=ts.length - i/\i<=ts.length/\∃F' τ' R',Stp F H (tot R) F' H' (tot R')/\Aa F1 F'/\StR X.K F' H' σ' τ' R'/\BW b u (ts.drop i) τ'=some out,⟨ts.length,by simp,ybk _,F1,τ,R,e1.stp0,.refl _,S1,by simpa using hg⟩,?_⟩
    rintro i mm σ' H' ⟨rfl,hle,F',τ',R',st,sf,S',hgo⟩;obtain⟨i1,i2⟩:=its i F' H' sf S'.fh
    by_cases hlt:i<ts.length
    .refine .inr ⟨(i1 _ (ya0 hlt)).1,λσ2 H2=>i+1<=ts.length/\∃F2 τ2 R2,Stp F H (tot R) F2 H2 (tot R2)/\Aa F1 F2/\StR X.K F2 H2 σ2 τ2 R2/\BW b u (ts.drop (i+1)) τ2=some out,λσ2 H2 n2=>⟨ts.length - (i+1),by omega,rfl,n2⟩,λx H'' y=>?_⟩
     obtain⟨F'',e3,rx⟩:=(i1 _ (ya0 hlt)).2 x H'' y;have S3:=S'.ext e3;rw[ybh hlt]at hgo;unfold BW at hgo;cases hb2:b ts[i] τ' with
     |none=>simp only[hb2]at hgo;cases hgo
     |some τ1 =>
      simp only[hb2]at hgo;refine⟨F'',τ',R',ts[i],τ1,S3,rx,hb2,λσ3 R3 S4 hR3=>?_⟩
      have st3:Stp F H (tot R) F'' H'' (tot R3):=(st.trans e3.stp0).mono λa ⟨j,z⟩=>⟨j,hR3 j a z⟩
      refine⟨F'',τ1,R3,S4,?_⟩;cases hu:u τ1 with
      |none=>simp only[hu]at hgo;cases hgo
      |some o =>
       simp only[hu]at hgo;cases o with
       |nx τ2=>exact λF4 H4 σ4 R4 s4 S5=>⟨hlt,F4,τ2,R4,st3.trans s4,(sf.trans e3.ff).trans s4.ff,S5,hgo⟩
       |ct τ2=>exact λF4 H4 σ4 R4 s4 S5=>⟨hlt,F4,τ2,R4,st3.trans s4,(sf.trans e3.ff).trans s4.ff,S5,hgo⟩
       |bk τ2 =>
        cases hgo;exact λF4 H4 σ4 R4 s4 S5=>q F4 H4 σ4 R4 (st3.trans s4) S5
       |rt v =>
        cases hgo;exact λF4 H4 x B s4 r=>q F4 H4 x B (st3.trans s4) r
       |xc cc τ2 =>
        cases hgo;exact λF4 H4 σ4 R4 s4 S5=>q F4 H4 σ4 R4 (st3.trans s4) S5
    .have hi':i=ts.length:=by omega
     subst hi';refine .inl ⟨i2 rfl,?_⟩;rw[List.drop_length]at hgo;unfold BW at hgo;cases hgo;exact q F' H' σ' R' st S'
theorem s_wh(hp:PassesOwn (model X.prog X.w) X.A X.env X.xe)(hc:PT X c (B3 X.K E ca mc))(hb:Be X body (tS X.K E ca mu u)):PS X (.While c body [] pos) (tS X.K E ca mu (Fh mc u)):=by
 refine PS.weak (zhd hp hc hb) λD σ H h=>?_
 obtain⟨F,τ,R,S,q⟩:=h;cases hw:Fh mc u τ with
 |none=>simp only[hw]at q<;>exact q.elim
 |some out =>
  simp only[hw]at q;obtain⟨n,hn⟩:=zh5 hw;refine⟨λmm σ' H'=>∃F' τ' R',Stp F H (tot R) F' H' (tot R')/\StR X.K F' H' σ' τ' R'/\Cw mc u mm τ'=some out,⟨n,F,τ,R,Stp.refl S.fh,S,hn⟩,?_⟩
  rintro mm σ' H' ⟨F',τ',R',st,S',hgo⟩;cases mm with
  |zero=>cases hgo
  |succ mm =>
   refine⟨F',τ',R',S',?_⟩;unfold Cw at hgo;cases hm:mc τ' with
   |none=>simp only[hm]at hgo;cases hgo
   |some r =>
    simp only[hm]at hgo;cases r with
    |x cc =>
     cases hgo;exact λF2 H2 e2=>q F2 H2 σ' R' (st.trans e2.stp0) (S'.ext e2)
    |v t bb =>
     cases t with
     |bl k =>
      intro F2 H2 e2;have S2:=S'.ext e2;have st2 :=st.trans e2.stp0;cases k with
      |false =>
       cases hgo;exact Jk (q F2 H2 σ' R' st2 S2)
      |true =>
       simp only at hgo;refine Jj ⟨λσ2 H2=>∃F2 τ2 R2,Stp F H (tot R) F2 H2 (tot R2)/\StR X.K F2 H2 σ2 τ2 R2/\Cw mc u mm τ2=some out,λσ3 H3 n3=>⟨mm,ybt _,n3⟩,F2,τ',R',S2,?_⟩
       cases hu:u τ' with
       |none=>simp only[hu]at hgo;cases hgo
       |some o =>
        simp only[hu]at hgo;cases o with
        |nx τ2=>exact λF4 H4 σ4 R4 s4 S5=>⟨F4,τ2,R4,st2.trans s4,S5,hgo⟩
        |ct τ2=>exact λF4 H4 σ4 R4 s4 S5=>⟨F4,τ2,R4,st2.trans s4,S5,hgo⟩
        |bk τ2 =>
         cases hgo;exact λF4 H4 σ4 R4 s4 S5=>q F4 H4 σ4 R4 (st2.trans s4) S5
        |rt v =>
         cases hgo;exact λF4 H4 x B s4 r=>q F4 H4 x B (st2.trans s4) r
        |xc cc τ2 =>
         cases hgo;exact λF4 H4 σ4 R4 s4 S5=>q F4 H4 σ4 R4 (st2.trans s4) S5
     |_=>cases hgo
end
section
variable {K:k6}{F H:Hp}{l:List T}{xs:List V}{Rr:Nat->Rg}{p:Addr}{o:HO}
theorem Rp.own_inv(h:Rp K F H (.nd true k l) x A):∃p xs Rr,x=.ref p/\A=(λa=>a=p\/∃j,Rr j a)/\F p=none/\H p=some (.lst xs)/\RpO K F H l xs Rr/\(∀j,¬ Rr j p)/\JH k p:=by
 cases h with
 |own hk R f h e c d dp o=>exact⟨_,_,R,rfl,rfl,f,h,⟨e,c,d,o⟩,dp,hk⟩
theorem J3(hk:JH k p)(r:RpO K F H l xs Rr)(f:F p=none)(h:H p=some (.lst xs))(dp:∀j,¬ Rr j p):Rp K F H (.nd true k l) (.ref p) (λa=>a=p\/∃j,Rr j a):=.own hk Rr f h r.len r.rep r.dis dp r.out
theorem RpO.upd(r:RpO K F H l xs Rr)(dp:∀j,¬ Rr j p):RpO K F (L2.upd H p o) l xs Rr:=⟨r.len,λi t x h1 h2=>(r.rep i t x h1 h2).frame (.refl _) λa z=>⟨BG (λe=>dp i (e▸z)),(r.dom z).1⟩,r.dis,r.out⟩
theorem Rp.upd(r:Rp K F H t x A)(dp:¬ A p):Rp K F (L2.upd H p o) t x A:=r.frame (.refl _) λa z=>⟨BG (λe=>dp (e▸z)),(r.dom z).1⟩
theorem RpO.set(r:RpO K F H l xs Rr)(hj:j0<l.length)(rt:Rp K F H t y B)(d:∀j a,j≠j0->Rr j a->¬ B a):RpO K F H (l.set j0 t) (xs.set j0 y) (λj=>if j=j0 then B else Rr j):=by
 have hl:=r.len;refine⟨by simp[hl],λi t' x' h1 h2=>?_,λi k a hik z1 z2=>?_,λi a z=>?_⟩
 .by_cases hi:i=j0
  .grind
  .rw[yak (yao hi)]at h1 h2
   simpa[hi] using r.rep i t' x' h1 h2
 .by_cases hi:i=j0
  .grind
  .simp only[hi,ye8]at z1
   by_cases hk:k=j0
   .simp only[hk,ye0]at z2;exact d i a hi z1 z2
   .simp only[hk,ye8]at z2;exact r.dis i k a hik z1 z2
 .by_cases hi:i=j0
  .simp[hi];omega
  .simp only[hi,ye8]at z
   simpa using r.out i a z
variable {σ:L2.St}{τ:AV}{R:Nat->Rg}
theorem StR.upd(S:StR K F H σ τ R){A' B:Rg}(ht:τ[i]?=some (some t))(hx:σ[i]?=some (some x))(hp:R i p)(r':Rp K F (L2.upd H p o) t' x A')(hA:∀a,A' a->R i a\/B a)(hB:∀j a,R j a->¬ B a) :
  StR K F (L2.upd H p o) σ (τ.set i (some t')) (λj=>if j=i then A' else R j)/\Stp F H (λa=>Pu.tot R a\/B a) F (L2.upd H p o) (Pu.tot λj=>if j=i then A' else R j):=by
 have fp :=(S.dom hp).1;have hi :=(ya2.mp ht).1
 have fh':Aa F (L2.upd H p o):=λb u e=>by
  rw[BG (λz=>by rw[z,fp]at e;cases e)]
  exact S.fh b u e
 refine⟨⟨fh',by simpa using S.len,λj t1 e=>?_,λj a z=>?_,λj k a hjk z1 z2=>?_⟩,⟨.refl _,fh',λb u n e=>?_,λb ⟨j,z⟩=>?_,λb u e=>.inl e⟩⟩
 .by_cases hj:j=i
  .subst hj;rw[yam hi]at e;cases e;exact⟨x,hx,by simpa using r'⟩
  .rw[yak (yao hj)]at e;obtain⟨y,e1,r1⟩:=S.rep j t1 e;exact⟨y,e1,by simpa[hj] using r1.upd (λz=>S.dis j i p hj z hp)⟩
 .by_cases hj:j=i
  .subst hj;exact⟨t',yam hi⟩
  .simp only[hj,ye8]at z;obtain⟨t1,e⟩:=S.out j a z;exact⟨t1,by rw[yak (yao hj)];exact e⟩
 .by_cases hj:j=i
  .simp only[hj,ye0]at z1;have hk:¬ k=i:=λz=>hjk (hj.trans z.symm)
   simp only[hk,ye8]at z2
   rcases hA a z1 with w|w
   .exact S.dis i k a (yao hk) w z2
   .exact hB k a z2 w
  .simp only[hj,ye8]at z1
   by_cases hk:k=i
   .simp only[hk,ye0]at z2
    rcases hA a z2 with w|w
    .exact S.dis i j a (yao hj) w z1
    .exact hB j a z1 w
   .simp only[hk,ye8]at z2;exact S.dis j k a hjk z1 z2
 .rw[BG (λz=>n (.inl (by rw[z];exact⟨i,hp⟩)))]
  exact e
 .by_cases hj:j=i
  .simp only[hj,ye0]at z
   rcases hA b z with w|w
   .exact .inl (.inl ⟨i,w⟩)
   .exact .inl (.inr w)
  .simp only[hj,ye8]at z;exact .inl (.inl ⟨j,z⟩)
end
def GY(τ:AV)(i:Nat):Option (Kd×List T):=match τ[i]? with
 |some (some (.nd true k l))=>some (k,l)
 |_=>none
theorem Vx(h:GY τ i=some (k,l)):τ[i]?=some (some (.nd true k l)):=by
 unfold GY at h
 grind
def CP(i:Nat)(m:AL):AJ:=λτ=>match GY τ i with
 |some (kd,l)=>(match m τ with
  |some (.v t false)=>if l.length<Bp then some (.nx (τ.set i (some (.nd true kd (l++[t]))))) else none
  |some (.v _ true)=>none
  |some (.x c)=>some (.xc c τ)
  |none=>none)
 |none=>none
def LW:Option T->Option (List T)
 |some (.nd true .lst l)=>some l
 |_=>none
def IE(i:Nat)(mk mn m:AL):AJ:=λτ=>match m τ with
 |some (.v t false)=>(match GY τ i with
  |some (kd,l)=>(match mk τ with
   |some (.v (.int k) _)=>(match Cq l.length k with
    |some j=>(match LW l[j]? with
     |some r=>(match mn τ with
      |some (.v (.int n) _)=>(match Cq r.length n with
       |some j2=>some (.nx (τ.set i (some (.nd true kd (l.set j (.own (r.set j2 t)))))))
       |none=>none)
      |some (.v _ _)=>none
      |some (.x c)=>some (.xc c τ)
      |none=>none)
     |none=>none)
    |none=>none)
   |some (.v _ _)=>none
   |some (.x c)=>some (.xc c τ)
   |none=>none)
  |none=>none)
 |some (.v _ true)=>none
 |some (.x c)=>some (.xc c τ)
 |none=>none
section
variable {mu:Bool}{X:Cx}{E:L2.St->XK}{ca:Str->Value}{σ:L2.St}{H:Hp}{K:k6}{m mk mn:AL}{D:Ends}{e k n:Expr}{pos apos cpos p1 pos2 pos3:Pos}{i:Nat}{x:Str}
theorem Yk(g:EJ K F H R (.int j) b y B):y=.int j:=by
 cases b with
 |true=>obtain⟨_,A,_,r⟩:=g;exact r.int_inv
 |false=>exact(g).int_inv
theorem Nm{l:List T}{Rr:Nat->Rg}(h:∃j,(λj=>if j=l.length then B else Rr j) j a):(∃j,Rr j a)\/B a:=Tp h
theorem Nr{Rr:Nat->Rg}(h:∃j,(λj=>if j=j0 then B else Rr j) j a):(∃j,Rr j a)\/B a:=by
 grind
theorem s_app(hN:X.N[i]?=some x)(hv:DR X.env.scope x)(hd:(x == "__debug__")=false)(hcd:(x == "__classdict__")=false)(he:PE X e (tM X.K E ca m))(hs:starEach [e] X.env=[(false,eval e X.env)])(hline:(apos.endLine == cpos.line)=true) :
  PS X (.Expr (.Call (.Attribute (.Name x p1) "append" apos) [e] [] cpos) pos) (tS X.K E ca mu (CP i m)):=by
 refine PS.weak (OF (OK ycu PySem.F.slot_list_append PySem.F.type_list_append Xu (GW hN hv hd hcd) (Eu he Fl hs) rfl (by rw[hs];rfl) hline hs rfl) rfl) λD σ H h=>?_
 obtain⟨F,τ,R,S,q⟩:=h;unfold CP at q;cases ho:GY τ i with
 |none=>simp only[ho]at q<;>exact q.elim
 |some kl =>
  obtain⟨kd,l⟩:=kl;simp only[ho]at q;have ht:=Vx ho;obtain⟨y,ey,ry⟩:=S.rep i _ ht;obtain⟨p,xs,Rr,rfl,hA,fp,hp,ro,dp,hOw⟩:=ry.own_inv;refine⟨_,ey,.inl ⟨rfl,xs,Al.of hp⟩,F,τ,R,S,?_⟩;cases hm:m τ with
  |none=>simp only[hm]at q<;>exact q.elim
  |some r =>
   simp only[hm]at q;cases r with
   |x c=>exact λF' H' e=>q F' H' σ R e.stp0 (S.ext e)
   |v t bb =>
    cases bb with
    |true=>exact q.elim
    |false =>
     intro F1 H1 y B e1 g1;have g1' :=g1
     by_cases hz:l.length<Bp
     .simp only[hz,ye0]at q;have S1:=S.ext e1;have ro1:=ro.ext e1;have hp1:=e1.hh _ _ hp;have pB:¬ B p:=λz=>by rw[e1.nb p z]at hp;cases hp
      have fp1 :=(ry.ext e1 |>.dom (by rw[hA];exact .inl rfl)).1
      refine⟨p,xs,y,rfl,rfl,hp1,by rw[<- ro.len,<- Fx];exact hz,?_⟩
      have ro2:RpO X.K F1 (upd H1 p (.lst (xs++[y]))) (l++[t]) (xs++[y]) _:=(ro1.upd dp).snoc (g1'.upd pB) λj a z1 z2=>ro.apart e1 z2 j z1
      have dp2:∀j,¬ (if j=l.length then B else Rr j) p:=λj z=>by
       by_cases hj:j=l.length
       .simp only[hj,ye0]at z;exact pB z
       .simp only[hj,ye8]at z;exact dp j z
      have r2:=J3 hOw ro2 fp1 Cf dp2
      obtain⟨S3,st3⟩:=S1.upd ht ey (by rw[hA];exact .inl rfl) r2 (λa z=>by
       rw[hA]
       rcases z with z|z
       .exact .inl (.inl z)
       .rcases Nm z with w|w
        .exact .inl (.inr w)
        .exact .inr w) (λj a z1 z2=>S.apart e1 z2 j z1)
      exact q F1 _ σ _ (e1.stp.trans st3) S3
     .simp only[hz,ye8]at q<;>exact q.elim
theorem zm4(hN:X.N[i]?=some x)(hv:DR X.env.scope x)(hd:(x == ("__debug__":Str))=false)(hcd:(x == ("__classdict__":Str))=false)(he:PE X e (tM X.K E ca m))(hk:PE X k (tM X.K E ca mk))(hn:PE X n (tM X.K E ca mn))(hpl:JG k)(hs:swapsWithSole [.Subscript (.Subscript (.Name x p1) k pos2) n pos3] e pos.line X.env=pure false)(hw:swappedStores [.Subscript (.Subscript (.Name x p1) k pos2) n pos3] e X.env=pure none)
  (ha : ∀ v, assign (.Subscript (.Subscript (.Name x p1) k pos2) n pos3) X.env v = (do
   let ov <- holding [v] (eval (.Subscript (.Name x p1) k pos2) X.env);let iv <- holding [v,ov] (eval n X.env)
   standAt pos3
   holding [v,ov,iv] (setItem ov iv v)
   release [v,ov,iv] [])) :
  PS X (.Assign [.Subscript (.Subscript (.Name x p1) k pos2) n pos3] e pos) (tS X.K E ca mu (IE i mk mn m)):=by
 refine PS.weak (LP he (OJ (LS Y5 (GW hN hv hd hcd) hk hpl) hn zh4 ha) hs hw rfl) λD σ H h=>?_
 obtain⟨F,τ,R,S,q⟩:=h;refine⟨F,τ,R,S,?_⟩;unfold IE at q;cases hm:m τ with
 |none=>simp only[hm]at q<;>exact q.elim
 |some r =>
  simp only[hm]at q;cases r with
  |x c=>exact λF' H' e=>q F' H' σ R e.stp0 (S.ext e)
  |v t bb =>
   cases bb with
   |true=>exact q.elim
   |false =>
    intro F1 H1 y B e1 g1;have g1' :=g1;simp only at q;cases ho:GY τ i with
    |none=>simp only[ho]at q<;>exact q.elim
    |some kl =>
     obtain⟨kd,l⟩:=kl;simp only[ho]at q;have S1:=S.ext e1;have ht:=Vx ho;obtain⟨y2,ey,ry⟩:=S1.rep i _ ht;refine⟨y2,ey,F1,τ,R,S1,?_⟩;cases hkk:mk τ with
     |none=>simp only[hkk]at q<;>exact q.elim
     |some r =>
      simp only[hkk]at q;cases r with
      |x c=>exact λF' H' e=>q F' H' σ R ((e1.stp0).trans e.stp0) (S1.ext e)
      |v tk bk =>
       cases tk with
       |int kk =>
        simp only at q;cases hj:Cq l.length kk with
        |none=>simp only[hj]at q<;>exact q.elim
        |some j =>
         simp only[hj]at q;cases hr:LW l[j]? with
         |none=>simp only[hr]at q<;>exact q.elim
         |some r =>
          simp only[hr]at q;intro F2 H2 z C e2 g2;have hz:=Yk g2;subst hz;have S2:=S1.ext e2;have ry2:=ry.ext e2;obtain⟨p,xs,Rr,rfl,hA,fp,hp,ro,dp,hOw⟩:=ry2.own_inv;have hjl:=(Lv hj).2.1;have hjx:j<xs.length:=by have:=ro.len;omega
          have hlj :=by
           unfold LW at hr;split at hr
           .rename_i e;cases hr;exact e
           .cases hr
          have rk:=ro.rep j _ _ hlj (ya0 hjx)
          have Ik:Ag xs kk=some xs[j]:=by
           unfold Ag;rw[<- ro.len,hj];exact ya0 hjx
          refine⟨p,xs,kk,xs[j],rfl,rfl,Al.of hp,Ik,F2,τ,R,S2,?_⟩;cases hnn:mn τ with
          |none=>simp only[hnn]at q<;>exact q.elim
          |some r' =>
           simp only[hnn]at q;cases r' with
           |x c=>exact λF' H' e=>q F' H' σ R ((e1.stp0.trans e2.stp0).trans e.stp0) (S2.ext e)
           |v tn bn =>
            cases tn with
            |int nn =>
             simp only at q;cases hj2:Cq r.length nn with
             |none=>simp only[hj2]at q<;>exact q.elim
             |some j2 =>
              simp only[hj2]at q;intro F3 H3 z C e3 g3;have hz:=Yk g3;subst hz;have S3:=S2.ext e3;have ro3:=ro.ext e3;have hp3:=e3.hh _ _ hp;have fp3 :=(ry2.ext e3 |>.dom (by rw[hA];exact .inl rfl)).1
              have rk3:=rk.ext e3;obtain⟨p2,ys,Rq,ep,hA2,fp2,hp2,rq,dq,_⟩:=rk3.own_inv;have g3':=(g1'.ext e2).ext e3;have inR:∀a,Rr j a->R i a:=λa z=>by rw[hA];exact .inr ⟨j,z⟩
              have p2j:Rr j p2:=by rw[hA2];exact .inl rfl
              have p2B :=λz=>S.apart e1 z i (inR _ p2j)
              have pp2:p≠p2:=λz=>dp j (z▸p2j)
              have hj2l:=(Lv hj2).2.1;rw[ep];refine⟨p2,ys,nn,j2,rfl,rfl,hp2,by rw[<- rq.len];exact hj2,?_⟩
              have rq2:RpO X.K F3 (upd H3 p2 (.lst (ys.set j2 y))) (r.set j2 t) (ys.set j2 y) _:=(rq.upd dq).set hj2l (g3'.upd p2B) λj' a _ z1 z2=>S.apart e1 z2 i (inR _ (by rw[hA2];exact .inr ⟨j',z1⟩))
              have dq2:∀j',¬ (if j'=j2 then B else Rq j') p2:=λj' z=>by
               by_cases hj':j'=j2
               .simp only[hj',ye0]at z;exact p2B z
               .simp only[hj',ye8]at z;exact dq j' z
              have rrow:=J3 (k:=.lst) trivial rq2 fp2 Cf dq2;have others :=λj' hne z=>ro.dis j' j p2 hne z p2j
              have xsj:xs.set j (.ref p2)=xs:=by
               have :=ep;rw[<- this];exact List.set_getElem_self hjx
              have ro4:RpO X.K F3 (upd H3 p2 (.lst (ys.set j2 y))) (l.set j (.own (r.set j2 t))) xs (λj'=>if j'=j then (λa=>a=p2\/∃j',(if j'=j2 then B else Rq j') a) else Rr j'):=by
               refine⟨by simpa using ro3.len,λi' t' x' h1 h2=>?_,λi' k' a hik z1 z2=>?_,λi' a z=>?_⟩
               .by_cases hi:i'=j
                .subst hi;rw[yam hjl]at h1;cases h1;rw[ya0 hjx]at h2;cases h2;rw[ep]
                 simpa using rrow
                .rw[yak (yao hi)]at h1;have:=(ro3.rep i' t' x' h1 h2).upd (o:=.lst (ys.set j2 y)) (others i' hi)
                 simpa[hi] using this
               .have sub:∀a,(a=p2\/∃j',(if j'=j2 then B else Rq j') a)->Rr j a\/B a:=λa z=>by
                 rcases z with z|z
                 .exact .inl (by rw[z];exact p2j)
                 .rcases Nr z with w|w
                  .exact .inl (by rw[hA2];exact .inr w)
                  .exact .inr w
                by_cases hi:i'=j
                .simp only[hi,ye0]at z1;have hk':¬ k'=j:=λz=>hik (hi.trans z.symm)
                 simp only[hk',ye8]at z2
                 rcases sub a z1 with w|w
                 .exact ro3.dis j k' a (yao hk') w z2
                 .exact S.apart e1 w i (by rw[hA];exact .inr ⟨k',z2⟩)
                .simp only[hi,ye8]at z1
                 by_cases hk':k'=j
                 .simp only[hk',ye0]at z2
                  rcases sub a z2 with w|w
                  .exact ro3.dis i' j a hi z1 w
                  .exact S.apart e1 w i (by rw[hA];exact .inr ⟨i',z1⟩)
                 .simp only[hk',ye8]at z2;exact ro3.dis i' k' a hik z1 z2
               .by_cases hi:i'=j
                .simpa[hi] using hjl
                .simp only[hi,ye8]at z
                 simpa using ro3.out i' a z
              have dp3:∀j',¬ (if j'=j then (λa=>a=p2\/∃j',(if j'=j2 then B else Rq j') a) else Rr j') p:=λj' z=>by
               by_cases hj':j'=j
               .simp only[hj',ye0]at z
                rcases z with z|z
                .exact pp2 z
                .rcases Nr z with w|w
                 .exact dp j (by rw[hA2];exact .inr w)
                 .exact S.apart e1 w i (by rw[hA];exact .inl rfl)
               .simp only[hj',ye8]at z;exact dp j' z
              have rall:=J3 hOw ro4 fp3 (by rw[BG pp2];exact hp3) dp3
              obtain⟨S4,st4⟩:=S3.upd ht ey (inR _ p2j) rall (λa z=>by
               rw[hA]
               rcases z with z|⟨j',z⟩
               .exact .inl (.inl z)
               .by_cases hj':j'=j
                .simp only[hj',ye0]at z
                 rcases z with z|z
                 .exact .inl (.inr ⟨j,by rw[z];exact p2j⟩)
                 .rcases Nr z with w|w
                  .exact .inl (.inr ⟨j,by rw[hA2];exact .inr w⟩)
                  .exact .inr w
                .simp only[hj',ye8]at z;exact .inl (.inr ⟨j',z⟩)) (λj a z1 z2=>S.apart e1 z2 j z1)
              exact q F3 _ σ _ (((e1.stp.trans e2.stp0).trans e3.stp0).trans st4) S4
            |_=>exact q.elim
       |_=>exact q.elim
end
section
variable {X:Cx}{E:L2.St->XK}{ca:Str->Value}{σ:L2.St}{H F:Hp}{K:k6}{m mk:AL}{ms:BM}{D:Ends}{e:Expr}{es:List Expr}{pos apos cpos p1 p2:Pos}{i j:Nat}{x y:Str}{τ:AV}{R:Nat->Rg}{mu:Bool}
theorem Rp.kind(h:Rp K F H (.nd true k l) (.ref p) A)(o:JH k' p):Rp K F H (.nd true k' l) (.ref p) A:=by
 obtain⟨p',xs,Rr,e,rfl,fp,hp,ro,dp,_⟩:=h.own_inv;cases e;exact J3 o ro fp hp dp
def V0(t:T)(τ:AV):Option Out:=match τ[(0:Nat)]? with
 |some (some (.nd true (.pin q) l))=>some (.rt (.own [t,.nd true (.pin q) l]))
 |_=>none
set_option genInjectivity true in
inductive Mo where
 |ok (v:T) (τ:AV)|exc (c:Str) (τ:AV)
def gAll(g:List T->Option Ru)(l ts:List T)(r:T×List T):Prop:=∀p,g (.nd true (.pin p) l::ts)=some (.ok (.own [r.1,.nd true (.pin p) r.2]))
open Classical in
def gMu(g:List T->Option Ru)(l ts:List T):Option (T×List T):=if h:∃r,gAll g l ts r then some h.choose else none
def mMut(i:Nat)(g:List T->Option Ru)(ms:BM):AV->Option Mo:=λτ=>match GY τ i with
 |some (kd,l)=>(match ms τ with
  |some (.v ts false)=>(match gMu g l ts with
   |some (v,l')=>if v.flat then some (.ok v (τ.set i (some (.nd true kd l')))) else none
   |none=>none)
  |some (.v _ true)=>none
  |some (.x c)=>some (.exc c τ)
  |none=>none)
 |none=>none
def Fe(K:k6)(ca:Str->Value)(g:List T->Option Ru):Sp:=λvs H Q E=>∃F p l ts A vs',Aa F H/\vs=.ref p::vs'/\Rp K F H (.nd true (.pin p) l) (.ref p) A/\Aw K F ts vs'/\match g (.nd true (.pin p) l::ts) with
 |some (.ok t)=>∀F' H' x B,Stp F H A F' H' B->Wr K true F' H' t x B->Q x H'
 |some (.exc c)=>∀F' H',Stp F H A F' H' R0->XE E ca c F' H'
 |none=>False
variable {mm:AV->Option Mo}
end
abbrev WI(A:Around):Around:={ A with handled:=none }
structure FnS(P:Program)(w:World)(K:k6)(mg:Str->Option Value)(base:Heap)(k:Nat)(f:Addr)(fd:FuncData)(p:Str)(sp:Sp):Prop where
 run:∀(A:Around) (outer:List Env) (s:Shared) (H:Hp) (args:Args) (a:Addr) (Q:VK),A.handled=some (.ref a)->(∃C,K7 H a C)->Room k (WI A)->Env0 P w K mg base A outer s H->BindsTo s fd args [(p,.ref a)]->sp [.ref a] H Q E0 ->
  codeAny (model P w) A (.call (.ref f) args) (CR FL outer P w H s Q E0) s
structure DefS(P:Program)(w:World)(K:k6)(mg:Str->Option Value)(base:Heap)(k:Nat)(x p:Str)(sp:Sp) where
 f:Addr
 fd:FuncData
 ok:FnS P w K mg base k f fd p sp
 m:mg x=some (.ref f)
 kp:PySem.W.keepIn K (.ref f)=true
 b:CO K fd [p] []
section
variable {X:Cx}{pins:List (Addr×Obj)}{σ:L2.St}{H:Hp}{s:Shared}{a:Addr}{kvs:List (Key×V)}
end
section
variable {X:Cx}
def tDicO:TE:=λ_ H Q=>∀p,H p=none->Q (.ref p) (upd H p (.dK []))
theorem zjy:PE X (.Dict [] [] pos) tDicO:=λpins s σ H Q I h=>by
 refine wpAny_Dict_empty ⟨.ref s.heap.objs.size,_,I.laid (λ_ _ q=>ya4 _ q) (ya8 _) (zid s.heap I.big),rfl,h _ (I.hok.fresh (ya8 _))⟩
end
section
variable {X:Cx}{E:L2.St->XK}{ca:Str->Value}{m mk mv:AL}{e k:Expr}{pos p1 pos2:Pos}{mu:Bool}
end
section
variable {X:Cx}{E:L2.St->XK}{ca:Str->Value}{m mk:AL}{e k:Expr}{pos p1 pos2:Pos}{mu:Bool}{i:Nat}{x:Str}
end
theorem znl(hu:X.A.units+64<cLine):Ak X (compareOp .NotEq) (Br X.K Cz):=by
 intro pins s σ H x y v u Q I rx ry h;obtain⟨F,t1,t2,r,fh,r1,r2,e,q⟩:=h;unfold Cz at e;split at e
 .cases e;rename_i hc;unfold HZ EH at hc;rw[ya3,ya3,ya3,ya3,ye4]at hc;obtain⟨a1,q1⟩:=GP I fh (r1.any) hc.1.1.1 rx;obtain⟨a2,q2⟩:=GP I fh (r2.any) hc.1.2.1 ry;exact SeqAt.compareNe_reads q1 q2 hc.1.1.2 hc.1.2.2 (aE hu hc.2) ⟨.bl _,H,I,rfl,q.bl fh⟩
 .cases e
theorem StR.frz{K }       (S:StR K F H σ τ R)(ht:τ[i]?=some (some t)):StR K (Pu.frz F H (R i)) H σ (τ.set i (some t.share)) (λj=>if j=i then R0 else R j):=by
 obtain⟨x,ex,r⟩:=S.rep i t ht;have hi:i<τ.length:=(ya2.mp ht).1;have n:∀a,R i a->F a=none:=λa z=>(r.dom z).1
 refine⟨Ia S.fh,by simpa using S.len,λj t' e=>?_,λj a z=>?_,λj k a hjk z1 z2=>?_⟩
 .by_cases hj:j=i
  .subst hj;rw[yam hi]at e;cases e;exact⟨x,ex,by simpa using r.share (FE n) λa u z q=>by rw[G9 z];exact q⟩
  .rw[yak (yao hj)]at e;obtain⟨y,e1,r1⟩:=S.rep j t' e;refine⟨y,e1,?_⟩;simp only[hj,ye8]
   exact r1.frame (FE n) λa z=>⟨rfl,by
    rw[GC (λz'=>S.dis j i a hj z z')]
    exact(r1.dom z).1⟩
 .by_cases hj:j=i
  .simp only[hj,ye0]at z;exact z.elim
  .simp only[hj,ye8]at z;obtain⟨t',e⟩:=S.out j a z;exact⟨t',by rw[yak (yao hj)];exact e⟩
 .by_cases hj:j=i
  .simp only[hj,ye0]at z1;exact z1.elim
  .by_cases hk:k=i
   .simp only[hk,ye0]at z2;exact z2.elim
   .simp only[hj,ye8]at z1;simp only[hk,ye8]at z2;exact S.dis j k a hjk z1 z2
section
variable {X:Cx}{E:L2.St->XK}{ca:Str->Value}{σ:L2.St}{H:Hp}{K:k6}{u w:AJ}{D:Ends}
end
theorem YK{fs:List Str}{xs}{f}:∀{j} {x:V},fs.findIdx? (· == f)=some j->xs[j]?=some x->(fs.zip xs).lookup f=some x:=by
 induction fs generalizing xs with
 |nil=>intro j x h;simp at h
 |cons g r ih =>
  intro j x h hx;rw[ydc]at h;cases xs with
  |nil=>simp at hx
  |cons y ys =>
   rw[ycr,yb9]
   by_cases hg:g=f
   .subst hg;simp only[ye9,ye0,ycw]at h;subst h;simp at hx;rw[ye9,hx]
   .have h1:(g == f)=false:=beq_eq_false_iff_ne.mpr hg;have h2:(f == g)=false:=beq_eq_false_iff_ne.mpr (yao hg);rw[h1]at h;simp only[yc4,ye8,yad]at h;obtain⟨j',h3,rfl⟩:=h;rw[h2];exact ih h3 (by simpa using hx)
theorem zb8{fs:List Str}{xs:List V}(h:fs.contains f=false):(fs.zip xs).lookup f=none:=by
 induction fs generalizing xs with
 |nil=>rfl
 |cons g r ih =>
  cases xs with
  |nil=>rfl
  |cons y ys =>
   rw[List.contains_cons,yba]at h;rw[ycr,yb9,h.1];exact ih h.2
theorem Rp.obj_inv{K}(h:Rp K F H (.obj k l) x A):∃p xs,x=.ref p/\A=R0/\K2 F k p xs/\l.length=xs.length/\∀(i:Nat) (t) (x),l[i]?=some t->xs[i]?=some x->Rp K F H t x R0:=by
 cases h with
 |obj h e c=>exact⟨_,_,rfl,rfl,h,e,c⟩
noncomputable def BQ(C:Addr)(fs:List Str):T->Option (List T)
 |.obj (.ins C' fs') l=>if C'=C/\fs'=fs then some l else none
 |_=>none
theorem Ye(h:BQ C fs t=some l):t=.obj (.ins C fs) l:=by
 unfold BQ at h
 grind
def Ax(C:Addr)(fs:List Str)(j:Nat)(m:AL):AL:=λτ=>match m τ with
 |some (.v t b)=>(match BQ C fs t with
  |some l=>(match l[j]? with
   |some u=>some (.v u (b && !u.sh))
   |none=>none)
  |none=>none)
 |some (.x c)=>some (.x c)
 |none=>none
def Bz(C:Addr)(fs:List Str)(g:List T->Option Ru)(m:AL)(ms:BM):AL:=λτ=>match m τ with
 |some (.v t _)=>(match BQ C fs t with
  |some _=>(match ms τ with
   |some (.v ts b)=>(match g (t.share::ts) with
    |some (.ok v)=>BN b v
    |some (.exc c)=>Jt true c
    |none=>none)
   |some (.x c)=>some (.x c)
   |none=>none)
  |none=>none)
 |some (.x c)=>some (.x c)
 |none=>none
def B5(m n:AL):AL:=λτ=>match m τ with
 |some r=>some r
 |none=>n τ
section
variable {X:Cx}{E:L2.St->XK}{ca:Str->Value}{m n:AL}{ms:BM}{e o:Expr}{es:List Expr}{pos p apos:Pos}{C:Addr}{fs:List Str}{f:Str}{j:Nat}
theorem OE(h1:PE X e (tM X.K E ca m))(h2:PE X e (tM X.K E ca n)):PE X e (tM X.K E ca (B5 m n)):=λpins s σ H Q I h=>by
 obtain⟨F,τ,R,S,q⟩:=h;unfold B5 at q;cases hm:m τ with
 |none =>
  rw[hm]at q;exact h2 pins s σ H Q I ⟨F,τ,R,S,q⟩
 |some r =>
  rw[hm]at q;exact h1 pins s σ H Q I ⟨F,τ,R,S,by rw[hm];exact q⟩
theorem MA{K}(g:EJ K F H R (.obj k l) b x B):Rp K F H (.obj k l) x R0/\B=R0:=by
 cases b with
 |true =>
  obtain⟨hB,A,_,r⟩:=g;obtain⟨p,xs,rfl,hA,_⟩:=r.obj_inv;exact⟨hA▸r,hB⟩
 |false =>
  have r:Rp K F H (.obj k l) x B:=g;obtain⟨p,xs,rfl,hA,_⟩:=r.obj_inv;exact⟨hA▸r,hA⟩
theorem r_fld(c:Cls X.K C)(hn:Bv X.K C f)(hj:fs.findIdx? (· == f)=some j)(ho:PE X o (tM X.K E ca m))(hb:attributeBase o f X.env (eval o X.env)=eval o X.env):PE X (.Attribute o f pos) (tM X.K E ca (Ax C fs j m)):=by
 refine PE.weak (Vs ho hb) λσ H Q h=>?_
 obtain⟨F,τ,R,S,q⟩:=h;refine⟨F,τ,R,S,?_⟩;unfold Ax at q;cases hm:m τ with
 |none=>simp only[hm]at q<;>exact q.elim
 |some r =>
  simp only[hm]at q;cases r with
  |x c=>exact q
  |v t b =>
   intro F1 H1 x B e1 g1;cases hi:BQ C fs t with
   |none=>simp only[hi]at q<;>exact q.elim
   |some l =>
    simp only[hi]at q;have ht:=Ye hi;subst ht;cases hu:l[j]? with
    |none=>simp only[hu]at q<;>exact q.elim
    |some u =>
     simp only[hu]at q;obtain⟨r1,hB⟩:=MA g1;subst hB;obtain⟨a,xs,rfl,_,⟨dx,hF⟩,el,cc⟩:=r1.obj_inv;have hjl:=(ya2.mp hu).1;have hx:xs[j]?=some xs[j]:=ya0 (by omega)
     have hc:=cc j u _ hu hx;refine⟨a,_,dx,_,xs[j],rfl,e1.fh _ _ hF,c,hn,YK hj hx,?_⟩;refine q F1 H1 _ R0 e1 ?_;cases b with
     |false=>exact hc
     |true =>
      cases hs:u.sh with
      |true=>exact hc
      |false=>exact⟨rfl,R0,λ_ z=>z.elim,hc⟩
structure MetX(P:Program)(w:World)(K:k6)(mg:Str->Option Value)(base:Heap)(C:Addr)(m:Str)(k:Nat)(ps:List Str)(sp:Sp) where
 f:Addr
 fd:FuncData
 c:Cls K C
 me:Meth K C m f
 ok:FnOk P w K mg base (DH P w) k f fd ps sp
 b:CO K fd ps []
def Nc(C:Addr)(m:Str)(sp:Sp)(E:L2.St->XK)(ta:TE)(t:TA):TE:=λσ H Q=>ta σ H λx H1=>∃a dx fs,x=.ref a/\H1 a=some (.ins C dx fs)/\fs.lookup m=none /\
 t σ H1 λvs H2=>sp (x::vs) H2 Q (E σ)
theorem pmx(D:MetX X.prog X.w X.K X.mg X.base C f k ps sp)(hr:Room j X.A)(hx:Bg X E)(he:PE X o ta)(ha:PA X (e::es) t)(hk:k<=j)
  (hst:starEach (e::es) X.env=(false,eval e X.env)::starEach es X.env) (hpl:(backTo pos (starEach es X.env)).any (·.1)=false)
  (ht : eval (.Call (.Attribute o f apos) (e :: es) [] pos) X.env = (do
   let ov <- eval o X.env
   standAt apos.atName
   let (f,first) <- holding [ov] (getMethod ov f pl)
   callWith pos f first (backTo pos (starEach (e::es) X.env)) (backToKw pos (keywordEach [] X.env)))):PE X (.Call (.Attribute o f apos) (e::es) [] pos) (Nc C f sp E ta t):=by
 intro pins s σ H Q I h;refine PySem.W.methodCall_KW (A6 (he pins s σ H _ I h) λu s1 ⟨x,H1,I1,rx,a,dx,fs,ex,ea,l,q⟩=>?_) ht
 subst ex;obtain rfl:u=Value.ref a:=rx;refine Ym I1 ea D.c D.me l ?_;refine ycm I.ok.mod.kin D.me.kp (A6 (ha pos pins s1 σ H1 _ I1 q) λus s2 ⟨vs,H2,I2,r,q2⟩=>⟨I2.kIn,?_⟩) hst hpl
 exact Nz (vs:=.ref a::vs) D.ok (hr.mono hk) D.b .nil hx I2 (.cons rfl r) (by grind)
theorem pmx0(D:MetX X.prog X.w X.K X.mg X.base C f k ps sp)(hr:Room j X.A)(hx:Bg X E)(he:PE X o ta)(hk:k<=j)
  (ht : eval (.Call (.Attribute o f apos) [] [] pos) X.env = (do
   let ov <- eval o X.env
   standAt apos.atName
   let (f,first) <- holding [ov] (getMethod ov f pl)
   callWith pos f first (backTo pos (starEach [] X.env)) (backToKw pos (keywordEach [] X.env)))):PE X (.Call (.Attribute o f apos) [] [] pos) (Nc C f sp E ta T6):=by
 intro pins s σ H Q I h;refine PySem.W.methodCall_KW (A6 (he pins s σ H _ I h) λu s1 ⟨x,H1,I1,rx,a,dx,fs,ex,ea,l,q⟩=>?_) ht
 subst ex;obtain rfl:u=Value.ref a:=rx;refine Ym I1 ea D.c D.me l ?_;exact PySem.W.callWith_K0 I1.kIn D.me.kp (Nz (vs:=[.ref a]) D.ok (hr.mono hk) D.b .nil hx I1 (.cons rfl .nil) q)
theorem T8(hf:fs.contains f=false)(h:tM X.K E ca (Bz C fs g m ms) σ H Q):Nc C f (Bq X.K ca g) E (tM X.K E ca m) (CF X.K E ca ms) σ H Q:=by
 obtain⟨F,τ,R,S,q⟩:=h;refine⟨F,τ,R,S,?_⟩;unfold Bz at q;cases hm:m τ with
 |none=>simp only[hm]at q<;>exact q.elim
 |some r =>
  simp only[hm]at q;cases r with
  |x c=>exact q
  |v t b =>
   intro F1 H1 x B e1 g1;cases hi:BQ C fs t with
   |none=>simp only[hi]at q<;>exact q.elim
   |some l =>
    simp only[hi]at q;have ht:=Ye hi;subst ht;obtain⟨r1,hB⟩:=MA g1;subst hB;have S1:=S.ext e1;obtain⟨a,xs,rfl,_,⟨dx,hF⟩,el,cc⟩:=r1.obj_inv;refine⟨a,dx,_,rfl,e1.fh _ _ hF,zb8 hf,F1,τ,R,S1,?_⟩;cases hs:ms τ with
    |none=>simp only[hs]at q<;>exact q.elim
    |some r =>
     simp only[hs]at q;cases r with
     |x c=>exact λF' H' e=>q F' H' (e1.trans0 e)
     |v ts b' =>
      intro F2 H2 vs e2 rs;have S2:=S1.ext e2;simp only at q;have r2:Rp X.K (Gz b' F2 H2 R) H2 (T.obj (.ins C fs) l).share (.ref a) R0:=(r1.ext e2).share (Lz S2) λ_ _ z=>z.elim
      refine⟨Gz b' F2 H2 R,_,QT S2,.cons r2 rs,?_⟩;have e12:=e1.trans0 e2;cases hg:g ((T.obj (.ins C fs) l).share::ts) with
      |none=>simp only[hg]at q<;>exact q.elim
      |some r =>
       simp only[hg]at q;cases r with
       |exc c =>
        simp only[Jt]at q;cases hp:Fk c with
        |none=>rw[hp]at q;exact λF' H' e3=>(q F2 H' (e12.grow e3.hh)).any hp
        |some n=>rw[hp]at q;exact q.elim
       |ok v =>
        intro F3 H3 z C3 e3 r3;simp only at q;unfold BN at q;cases b' with
        |false=>exact q F3 H3 z C3 (e12.trans0 e3) r3
        |true =>
         cases hf:v.flat with
         |false=>rw[hf]at q;cases q
         |true=>rw[hf]at q;exact q F2 H3 z R0 (e12.grow e3.hh) (r3.flat_any hf)
theorem zmk(D:MetX X.prog X.w X.K X.mg X.base C f k ps (Bq X.K ca g))(hf:fs.contains f=false)(hr:Room j X.A)(hx:Bg X E)(he:PE X o (tM X.K E ca m))(ha:PA X (e::es) (CF X.K E ca ms))(hk:k<=j)
  (hst:starEach (e::es) X.env=(false,eval e X.env)::starEach es X.env) (hpl:(backTo pos (starEach es X.env)).any (·.1)=false)
  (ht : eval (.Call (.Attribute o f apos) (e :: es) [] pos) X.env = (do
   let ov <- eval o X.env
   standAt apos.atName
   let (f,first) <- holding [ov] (getMethod ov f pl)
   callWith pos f first (backTo pos (starEach (e::es) X.env)) (backToKw pos (keywordEach [] X.env)))):PE X (.Call (.Attribute o f apos) (e::es) [] pos) (tM X.K E ca (Bz C fs g m ms)) :=
 PE.weak (pmx D hr hx he ha hk hst hpl ht) λσ H Q h=>T8 hf h
structure NewX(P:Program)(w:World)(K:k6)(mg:Str->Option Value)(base:Heap)(x:Str)(C:Addr)(k:Nat)(ps:List Str)(sp:Sp) where
 f:Addr
 fd:FuncData
 m:mg x=some (.ref C)
 ma:Mk K C f
 ok:FnOk P w K mg base (DH P w) k f fd ps sp
def zlv(C:Addr)(sp:Sp)(dvs:List V)(E:L2.St->XK)(t:TA):TE:=λσ H Q=>t σ H λvs H1=>∀x dx,H1 x=none->H1 dx=none->dx≠x ->
 sp (.ref x::(vs++dvs)) (upd (upd H1 dx (.own x)) x (.ins C dx [])) (λv H2=>v=.non/\Q (.ref x) H2) (E σ)
theorem pnx{x:Str}{t:TA}(D:NewX X.prog X.w X.K X.mg X.base x C k ps sp)(hb:CO X.K D.fd ps ds)(hd:Ad dvs ds)(hr:Room j X.A)(hx:Bg X E)(ha:PA X (e::es) t)(hk:k+1<=j)(hg:Gl X x)(hdb:(x == ("__debug__":Str))=false)
  (he:starEach (e::es) X.env=(false,eval e X.env)::starEach es X.env) (hpl:(backTo pos (starEach es X.env)).any (·.1)=false):PE X (.Call (.Name x p) (e::es) [] pos) (zlv C sp dvs E t):=by
 intro pins s σ H Q I h;refine ydy (Jf I hg D.m ?_ hdb);refine ycm I.ok.mod.kin D.ma.kp (A6 (ha pos pins s σ H _ I h) λus s1 ⟨vs,H1,I1,r,q⟩=>⟨I1.kIn,?_⟩) he hpl
 have hq:=q (s1.heap.objs.size+1) s1.heap.objs.size (I1.hok.fresh (ycd _)) (I1.hok.fresh (ya8 _)) (yah (ybt _));have I2:=Inv.made (C:=C) I1;have r2:Ad (V.ref (s1.heap.objs.size+1)::(vs++dvs)) (Value.ref (s1.heap.objs.size+1)::(us++ds)):=.cons rfl (r.append hd)
 have hl :=by
  have e:=r2.length;rw[D.ok.len _ _ _ _ hq]at e;exact e.symm
 refine ydw (zht I1.kIn D.ma.makes D.ma.init (beq_iff_eq.mp D.ma.fn) (ydx (D.ok.run _ X.stack _ _ ⟨Value.ref (s1.heap.objs.size+1)::us,[]⟩ (Value.ref (s1.heap.objs.size+1)::(us++ds)) _ _ (E σ) ((hr.mono hk).make C us [])
  (I2.env0.make C us []) (hb _ (Value.ref (s1.heap.objs.size+1)::us) I2.kIn hl) r2 hq) λr s' hq'=>?_))
 cases r with
 |error v=>exact hx pins σ _ _ v s' I2 hq'
 |ok fl =>
  cases fl with
  |ret u =>
   obtain⟨v,H',I3,rv,ev,q3⟩:=I2.after hq';subst ev;exact⟨rv,⟨V.ref (s1.heap.objs.size+1),H',I3,rfl,q3⟩⟩
  |next=>exact False.elim hq'
  |brk=>exact False.elim hq'
  |cont=>exact False.elim hq'
def JY(K:k6)(ca:Str->Value)(C:Addr)(g:List T->Option Ru):Sp:=λvs H Q E=>∃F p dx ts vs',Aa F H/\vs=.ref p::vs'/\F p=none/\H p=some (.ins C dx [])/\Aw K F ts vs'/\match g ts with
 |some (.ok t)=>∀F' H',Stp F H (λa=>a=p) F' H' R0->Rp K F' H' t (.ref p) R0->Q .non H'
 |some (.exc c)=>∀F' H',Stp F H (λa=>a=p) F' H' R0->XE E ca c F' H'
 |none=>False
noncomputable def HN(g:List T->Option Ru)(ds:List T)(ms:BM):AL:=λτ=>match ms τ with
 |some (.v ts false)=>(match g (ts++ds) with
  |some (.ok t)=>some (.v t false)
  |some (.exc c)=>some (.x c)
  |none=>none)
 |some (.v _ true)=>none
 |some (.x c)=>some (.x c)
 |none=>none
theorem r_new{k j:Nat}{x:Str}(D:NewX X.prog X.w X.K X.mg X.base x C k ps (JY X.K ca C g))(hb:CO X.K D.fd ps ds)(hd:Ad dvs ds)(hdt:∀F:Hp,Aw X.K F dts dvs)(hr:Room j X.A)(hx:Bg X E)(ha:PA X (e::es) (CF X.K E ca ms))(hk:k+1<=j)(hg:Gl X x)(hdb:(x == ("__debug__":Str))=false)
  (he:starEach (e::es) X.env=(false,eval e X.env)::starEach es X.env) (hpl:(backTo pos (starEach es X.env)).any (·.1)=false):PE X (.Call (.Name x p) (e::es) [] pos) (tM X.K E ca (HN g dts ms)):=by
 refine PE.weak (pnx D hb hd hr hx ha hk hg hdb he hpl) λσ H Q h=>?_
 obtain⟨F,τ,R,S,q⟩:=h;refine⟨F,τ,R,S,?_⟩;unfold HN at q;cases hs:ms τ with
 |none=>simp only[hs]at q<;>exact q.elim
 |some r =>
  simp only[hs]at q;cases r with
  |x c=>exact q
  |v ts b =>
   cases b with
   |true=>exact λF1 H1 xs e1 rs=>q.elim
   |false =>
    intro F1 H1 xs e1 rs a dx ha hdx hne;simp only at q;have rs' :=rs
    have key:∀F' H',Stp F1 (upd (upd H1 dx (.own a)) a (.ins C dx [])) (λb=>b=a) F' H' R0->Ext F H F' H' R0:=λF' H' st=>by
     refine e1.trans0 ⟨λb u z=>?_,st.ff,st.fh,λ_ z=>z.elim,λb u z=>?_⟩
     .have h1 :=Cm z ha;have h2 :=Cm z hdx;exact st.kp b u h1 (by rw[BG h1,BG h2];exact z)
     .rcases st.nf b u z with w|w|w
      .exact .inl w
      .rw[w];exact .inr ha
      .by_cases h1:b=a
       .rw[h1];exact .inr ha
       .by_cases h2:b=dx
        .rw[h2];exact .inr hdx
        .rw[BG h1,BG h2]at w;exact .inr w
    have fh2:Aa F1 (upd (upd H1 dx (.own a)) a (.ins C dx [])):=λb u z=>by
     have z':=e1.fh b u z;rw[BG (Cm z' ha),BG (Cm z' hdx)];exact z'
    refine⟨F1,a,dx,ts++dts,xs++dvs,fh2,rfl,HG e1.fh ha,Cf,LI rs' (hdt F1),?_⟩;cases hg:g (ts++dts) with
    |none=>simp only[hg]at q<;>exact q.elim
    |some r =>
     simp only[hg]at q;cases r with
     |exc c=>exact λF' H' st=>q F' H' (key F' H' st)
     |ok t=>exact λF' H' st r=>⟨rfl,q F' H' _ R0 (key F' H' st) r⟩
end
noncomputable def Fm(τ:AV)(i:Nat)(C:Addr)(fs:List Str):Option (Addr×List T):=match τ[i]? with
 |some (some (.oob p C' fs' l))=>if C'=C/\fs'=fs then some (p,l) else none
 |_=>none
theorem ON(h:Fm τ i C fs=some (p,l)):τ[i]?=some (some (.oob p C fs l)):=by
 unfold Fm at h
 grind
def Cu(C:Addr)(fs:List Str)(j i:Nat)(m:AL):AJ:=λτ=>match m τ with
 |some (.v t false)=>(match Fm τ i C fs with
  |some (p,l)=>if l.length=j then some (.nx (τ.set i (some (.oob p C fs (l++[t]))))) else none
  |none=>none)
 |some (.v _ true)=>none
 |some (.x c)=>some (.xc c τ)
 |none=>none
def FR:Option T->Option (List Str×List T)
 |some (.osd ks l)=>some (ks,l)
 |_=>none
theorem WB(h:FR o=some (ks,l)):o=some (.osd ks l):=by
 unfold FR at h
 grind
open Classical in
def IG(C:Addr)(fs:List Str)(j i:Nat)(mk m:AL):AJ:=λτ=>match m τ with
 |some (.v t false)=>(match Fm τ i C fs with
  |some (p,l)=>(match FR l[j]? with
   |some (ks,lv)=>(match mk τ with
    |some (.v (.str k) _)=>if k∉ks/\ks.length<100000 then some (.nx (τ.set i (some (.oob p C fs (l.set j (.osd (ks++[k]) (lv++[t.share]))))))) else none
    |some (.v _ _)=>none
    |some (.x c)=>some (.xc c τ)
    |none=>none)
   |none=>none)
  |none=>none)
 |some (.v _ true)=>none
 |some (.x c)=>some (.xc c τ)
 |none=>none
def Fv:AL:=λ_=>some (.v (.osd [] []) false)
theorem Vl{y:V}:∀{fs:List Str} {xs:List V},fs[xs.length]?=some f->(fs.take xs.length).contains f=false->DJ f y (fs.zip xs)=fs.zip (xs++[y])
 |[],xs,h,_=>by simp at h
 |g::r,[],h,_=>by
  simp at h;subst h;simp[DJ]
 |g::r,x::xs,h,hn=>by
  rw[yb7,List.take_succ_cons,List.contains_cons,yba]at hn
  have hg:¬ g=f:=λz=>by
   grind
  have ih:=Vl (y:=y) (by simpa using h) hn.2
  rw[ycr,ydj,ycr];show(if g=f then _ else _)=_
  grind
section
variable {K:k6}{F H:Hp}{C:Addr}{fs:List Str}{l:List T}
theorem Rp.oob_inv(h:Rp K F H (.oob p C fs l) x A):∃dx xs Rr,x=.ref p/\A=(λa=>a=p\/∃j,Rr j a)/\F p=none/\H p=some (.ins C dx (fs.zip xs))/\RpO K F H l xs Rr/\∀j,¬ Rr j p:=by
 cases h with
 |oob R f h e c d dp o=>exact⟨_,_,R,rfl,rfl,f,h,⟨e,c,d,o⟩,dp⟩
theorem WG(r:RpO K F H l xs Rr)(f:F p=none)(h:H p=some (.ins C dx (fs.zip xs)))(dp:∀j,¬ Rr j p):Rp K F H (.oob p C fs l) (.ref p) (λa=>a=p\/∃j,Rr j a):=.oob Rr f h r.len r.rep r.dis dp r.out
theorem Rp.osd_inv(h:Rp K F H (.osd ks l) x A):∃p xs Rs,x=.ref p/\A=(λa=>a=p\/∃j,Rs j a)/\F p=none/\H p=some (.dK (Ca ks xs))/\RpO K F H l xs Rs/\ks.length=xs.length/\∀j,¬ Rs j p:=by
 cases h with
 |osd R f h e ek c d dp o=>exact⟨_,_,R,rfl,rfl,f,h,⟨e,c,d,o⟩,ek,dp⟩
theorem Vz(r:RpO K F H l xs Rr)(ek:ks.length=xs.length)(f:F p=none)(h:H p=some (.dK (Ca ks xs)))(dp:∀j,¬ Rr j p):Rp K F H (.osd ks l) (.ref p) (λa=>a=p\/∃j,Rr j a):=.osd Rr f h r.len ek r.rep r.dis dp r.out
theorem Vy(r:RpO K F H l xs Rr)(ek:ks.length=xs.length)(f:F p=none)(dp:∀j,¬ Rr j p)(rt:Rp K F H t y B)(dB:∀j a,Rr j a->¬ B a)(pB:¬ B p):Rp K F (upd H p (.dK (Ca (ks++[k]) (xs++[y])))) (.osd (ks++[k]) (l++[t])) (.ref p) (λa=>a=p\/∃j,(if j=l.length then B else Rr j) a) :=
 Vz ((r.upd dp).snoc (rt.upd pB) dB) (by simp[ek]) f Cf λj z=>by
  by_cases hj:j=l.length
  .simp only[hj,ye0]at z;exact pB z
  .simp only[hj,ye8]at z;exact dp j z
end
theorem YY(h:ks.length=xs.length):(Ca ks xs).length=xs.length:=by
 unfold Ca
 grind
theorem zks(h:kv∈Ca ks xs):∃k∈ks,kv.1=Sum.inr k:=by
 induction ks generalizing xs with
 |nil=>cases xs<;>cases h
 |cons a r ih =>
  cases xs with
  |nil=>cases h
  |cons b s =>
   rcases yaf.mp h with e|e
   .grind
   .obtain⟨k,hk,e⟩:=ih e
    grind
theorem Vk(h:ks.length=xs.length)(hk:k∉ks):Dp (Ca ks xs) (Sum.inr k) y=Ca (ks++[k]) (xs++[y]):=by
 unfold Dp;rw[if_neg]
 .unfold Ca;rw[List.zipWith_append h]
  rfl
 .intro c;obtain⟨kv,h1,h2⟩:=List.any_eq_true.mp c;obtain⟨k',h3,h4⟩:=zks h1
  grind
section
variable {X:Cx}{E:L2.St->XK}{ca:Str->Value}{m mk:AL}{e k:Expr}{pos p1 pos2 pos3:Pos}{mu:Bool}{i j:Nat}{x f:Str}{C:Addr}{fs:List Str}
theorem Vc:PE X (.Dict [] [] pos) (tM X.K E ca Fv):=PE.weak zjy λσ H Q h p hp=>by
 obtain⟨F,τ,R,S,q⟩:=h;exact q F (upd H p (.dK [])) (.ref p) _ (Ext.newO S.fh hp) (Rp.osd0 (xs:=[]) (HG S.fh hp) Cf rfl rfl λi t x h=>by simp at h)
theorem zma(c:Cls X.K C)(hn:Bv X.K C f)(hj:fs[j]?=some f)(hnf:(fs.take j).contains f=false)(hjl:j<900)(hN:X.N[i]?=some x)(hv:DR X.env.scope x)(hd:(x == "__debug__")=false)(hcd:(x == "__classdict__")=false)(he:PE X e (tM X.K E ca m))
  (hs:swapsWith e (some (.Attribute (.Name x p1) f pos2)) pos.line X.env=pure false):PS X (.Assign [.Attribute (.Name x p1) f pos2] e pos) (tS X.K E ca mu (Cu C fs j i m)):=by
 refine PS.weak (zmx (GW hN hv hd hcd) he hs) λD σ H h=>?_
 obtain⟨F,τ,R,S,q⟩:=h;refine⟨F,τ,R,S,?_⟩;unfold Cu at q;cases hm:m τ with
 |none=>simp only[hm]at q<;>exact q.elim
 |some r =>
  simp only[hm]at q;cases r with
  |x c=>exact λF' H' e=>q F' H' σ R e.stp0 (S.ext e)
  |v t bb =>
   cases bb with
   |true=>exact λF1 H1 y B e1 g1=>q.elim
   |false =>
    intro F1 H1 y B e1 g1;have g1' :=g1;simp only at q;cases ho:Fm τ i C fs with
    |none=>simp only[ho]at q<;>exact q.elim
    |some pl =>
     obtain⟨p,l⟩:=pl;simp only[ho]at q
     by_cases hl:l.length=j
     .rw[if_pos hl]at q;have S1:=S.ext e1;have ht:=ON ho;obtain⟨y2,ey,ry⟩:=S.rep i _ ht;obtain⟨dx,xs,Rr,rfl,hA,fp,hp,ro,dp⟩:=ry.oob_inv;have hxs:xs.length=j:=by rw[<- ro.len];exact hl
      have hp1:=e1.hh _ _ hp;have pB:¬ B p:=λz=>by rw[e1.nb p z]at hp;cases hp
      have fp1 :=(ry.ext e1 |>.dom (by rw[hA];exact .inl rfl)).1
      refine⟨_,ey,p,C,dx,fs.zip xs,rfl,hp1,c,hn,?_,?_⟩
      .rw[List.length_zip]
       omega
      .rw[Vl (by rw[hxs];exact hj) (by rw[hxs];exact hnf)]
       have ro1:=ro.ext e1;have ro2:RpO X.K F1 (upd H1 p (.ins C dx (fs.zip (xs++[y])))) (l++[t]) (xs++[y]) _:=(ro1.upd dp).snoc (g1'.upd pB) λj a z1 z2=>ro.apart e1 z2 j z1
       have dp2:∀j,¬ (if j=l.length then B else Rr j) p:=λj z=>by
        by_cases hj:j=l.length
        .simp only[hj,ye0]at z;exact pB z
        .simp only[hj,ye8]at z;exact dp j z
       have r2:=WG ro2 fp1 Cf dp2
       obtain⟨S3,st3⟩:=S1.upd ht ey (by rw[hA];exact .inl rfl) r2 (λa z=>by
        rw[hA]
        rcases z with z|z
        .exact .inl (.inl z)
        .rcases Nm z with w|w
         .exact .inl (.inr w)
         .exact .inr w) (λj a z1 z2=>S.apart e1 z2 j z1)
       exact q F1 _ σ _ (e1.stp.trans st3) S3
     .rw[if_neg hl]at q;exact q.elim
def rSetS:SI:=λo i v H Q=>∃p kvs k,o=.ref p/\i=.str k/\H p=some (.dK kvs)/\kvs.length<sizeLine/\Q (upd H p (.dK (Dp kvs (Sum.inr k) v)))
theorem Tt(hu:X.A.units+1<cLine):SW X rSetS:=by
 intro pins s σ H o i v ov iv u Q I ro ri rv h;obtain⟨p,kvs,k,rfl,rfl,hp,hl,q⟩:=h;cases ro;exact zg7 hu I (JJ.k (k:=Sum.inr k) hp hl) (ri) rv λs' I'=>⟨_,I',q⟩
theorem HV{K}(g:EJ K F H R (.str z) b y B):y=.str z:=by
 cases b with
 |true=>obtain⟨_,A,_,r⟩:=g;exact r.str_inv
 |false=>exact(g).str_inv
theorem s_dpf(hu:X.A.units+1<cLine)(c:Cls X.K C)(hn:Bv X.K C f)(hj:fs.findIdx? (· == f)=some j)(hN:X.N[i]?=some x)(hv:DR X.env.scope x)(hd:(x == ("__debug__":Str))=false)(hcd:(x == "__classdict__")=false)(he:PE X e (tM X.K E ca m))(hk:PE X k (tM X.K E ca mk))
  (hs:swapsWithSole [.Subscript (.Attribute (.Name x p1) f pos3) k pos2] e pos.line X.env=pure false) (hw:swappedStores [.Subscript (.Attribute (.Name x p1) f pos3) k pos2] e X.env=pure none)
  (ha : ∀ v, assign (.Subscript (.Attribute (.Name x p1) f pos3) k pos2) X.env v = (do
   let ov <- holding [v] (eval (.Attribute (.Name x p1) f pos3) X.env);let iv <- holding [v,ov] (eval k X.env)
   standAt pos2
   holding [v,ov,iv] (setItem ov iv v)
   release [v,ov,iv] [])) :
  PS X (.Assign [.Subscript (.Attribute (.Name x p1) f pos3) k pos2] e pos) (tS X.K E ca mu (IG C fs j i mk m)):=by
 refine PS.weak (LP he (OJ (Vs (GW hN hv hd hcd) rfl) hk (Tt hu) ha) hs hw rfl) λD σ H h=>?_
 obtain⟨F,τ,R,S,q⟩:=h;refine⟨F,τ,R,S,?_⟩;unfold IG at q;cases hm:m τ with
 |none=>simp only[hm]at q<;>exact q.elim
 |some r =>
  simp only[hm]at q;cases r with
  |x c=>exact λF' H' e=>q F' H' σ R e.stp0 (S.ext e)
  |v t bb =>
   cases bb with
   |true=>exact λF1 H1 y B e1 g1=>q.elim
   |false =>
    intro F0 H1 y B e0 g0;simp only at q;obtain⟨F1,e1,_,g1⟩:=EJ.frz S e0 g0;have g1':Rp X.K F1 H1 t.share y R0:=(g1).any;cases ho:Fm τ i C fs with
    |none=>simp only[ho]at q<;>exact q.elim
    |some pl =>
     obtain⟨p,l⟩:=pl;simp only[ho]at q;cases hos:FR l[j]? with
     |none=>simp only[hos]at q<;>exact q.elim
     |some kl =>
      obtain⟨ks,lv⟩:=kl;simp only[hos]at q;have hlj:=WB hos;have S1:=S.ext e1;have ht:=ON ho;obtain⟨y2,ey,ry⟩:=S1.rep i _ ht;obtain⟨dx,xs,Rr,rfl,hA,fp,hp,ro,dp⟩:=ry.oob_inv;have hjl:=(ya2.mp hlj).1;have hjx:j<xs.length:=by rw[<- ro.len];exact hjl
      have hx :=ya0 hjx;refine⟨_,ey,p,C,dx,_,xs[j],rfl,hp,c,hn,YK hj hx,F1,τ,R,S1,?_⟩;cases hkk:mk τ with
      |none=>simp only[hkk]at q<;>exact q.elim
      |some r =>
       simp only[hkk]at q;cases r with
       |x c=>exact λF' H' e=>q F' H' σ R ((e1.stp0).trans e.stp0) (S1.ext e)
       |v tk bk =>
        cases tk with
        |str kk =>
         simp only at q
         by_cases hc:kk∉ks/\ks.length<100000
         .rw[if_pos hc]at q;intro F2 H2 z CC e2 g2;have hz:=HV g2;subst hz;have e2':Ext F1 H1 F2 H2 R0:=e2.mono λ_ z=>z.elim
          have S2:=S1.ext e2;have ry2:=ry.ext e2;have ro2:=ro.ext e2;have fp2 :=(ry2.dom (by rw[hA];exact .inl rfl)).1
          have hp2:=e2.hh _ _ hp;have rk:=ro2.rep j _ _ hlj hx;obtain⟨pd,ys,Rs,exj,hAd,fpd,hpd,rs,ek,ds⟩:=rk.osd_inv;have g2' :=g1'.ext e2;have pdj:Rr j pd:=by rw[hAd];exact .inl rfl
          have pne:pd≠p:=λz=>dp j (z▸pdj)
          refine⟨pd,Ca ks ys,kk,exj,rfl,hpd,?_,?_⟩
          .rw[YY ek,<- ek,ydv];exact yck hc.2 (by decide)
          .rw[Vk ek hc.1];have r3:=Vy (k:=kk) rs ek fpd ds (g2'.any (H':=H2)) (λ_ _ _ z=>z.elim) (λz=>z.elim)
           have hE:(λa=>a=pd\/∃j,(if j=lv.length then R0 else Rs j) a)=Rr j:=by
            rw[hAd]
            funext a
            apply propext;constructor
            .rintro(z|⟨j,z⟩)
             .exact .inl z
             .split at z
              .exact z.elim
              .exact .inr ⟨j,z⟩
            .rintro(z|⟨j,z⟩)
             .exact .inl z
             .exact .inr ⟨j,by rw[if_neg (yah (rs.out j a z))];exact z⟩
           rw[hE]at r3;have oth :=λk hk z=>ro2.dis k j pd hk z pdj
           have ro3:RpO X.K F2 (upd H2 pd (.dK (Ca (ks++[kk]) (ys++[y])))) (l.set j (.osd (ks++[kk]) (lv++[t.share]))) xs Rr:=by
            refine⟨by rw[yc0];exact ro2.len,λk t' x' h1 h2=>?_,ro2.dis,λk a z=>by rw[yc0];exact ro2.out k a z⟩
            by_cases hk:k=j
            .subst hk;rw[yam hjl]at h1;rw[hx]at h2;cases h1;cases h2;rw[exj];exact r3
            .rw[yak (yao hk)]at h1;exact(ro2.rep k t' x' h1 h2).upd (oth k hk)
           have r4:=WG ro3 fp2 (by rw[BG (yao pne)];exact hp2) dp
           obtain⟨S3,st3⟩:=S2.upd ht ey (by rw[hA];exact .inr ⟨j,pdj⟩) r4 (λa z=>.inl (by rw[hA];exact z)) (λj a z1 z2=>z2)
           exact q F2 _ σ _ ((e1.stp.trans e2.stp0).trans st3) S3
         .rw[if_neg hc]at q;exact q.elim
        |_=>exact λF' H' z CC e2 g2=>q.elim
end
section
variable {X:Cx}{E:L2.St->XK}{ca:Str->Value}{ma mb mc:AL}{a b c:Expr}{pos:Pos}{x:Str}{t:T}
theorem r_con(hg:Gl X x)(hm:X.mg x=some u)(rv:Af v u)(hd:(x == "__debug__")=false)(r:∀F ,Rp X.K F F t v R0):PE X (.Name x pos) (tM X.K E ca (mC t)) :=
 PE.weak (Vr hg hm rv hd) λσ H Q h=>by
  obtain⟨F,τ,R,S,q⟩:=h;exact q F H v R0 (Ext.refl S.fh) (r F).any
def Fw(g g':T->T->Option T)(ma mb mc:AL):AL:=λτ=>match ma τ,mb τ with
 |some (.v t _),some (.v u _)=>if t.flat && u.flat then (match g t u with
  |some (.bl true)=>(match mc τ with
   |some (.v w _)=>if w.flat then (match g' u w with
    |some (.bl k)=>some (.v (.bl k) false)
    |_=>none) else none
   |_=>none)
  |some (.bl false)=>some (.v (.bl false) false)
  |_=>none) else none
 |_,_=>none
theorem IY{K}{b}{x}(g:EJ K F H R v b x B)(h:v.flat=true):Rp K F' H' v x R0:=by
 cases b with
 |true=>obtain⟨_,A,_,r⟩:=g;exact r.flat_any h
 |false=>exact(g).flat_any h
theorem Td(h:tM X.K E ca (Fw g g' ma mb mc) σ H Q):Ng (Br X.K g) (Br X.K g') (tM X.K E ca ma) (tM X.K E ca mb) (tM X.K E ca mc) σ H Q:=by
 obtain⟨F,τ,R,S,q⟩:=h;refine⟨F,τ,R,S,?_⟩;unfold Fw at q;cases h1:ma τ with
 |none=>simp only[h1]at q<;>exact q.elim
 |some r1 =>
  cases r1 with
  |x c=>simp only[h1]at q<;>exact q.elim
  |v t b1 =>
   cases h2:mb τ with
   |none=>simp only[h1,h2]at q<;>exact q.elim
   |some r2 =>
    cases r2 with
    |x c=>simp only[h1,h2]at q<;>exact q.elim
    |v u b2 =>
     simp only[h1,h2]at q
     by_cases hf:(t.flat && u.flat)=true
     .rw[if_pos hf]at q;rw[ya3]at hf;intro F1 H1 x B1 e1 g1;have S1:=S.ext e1;refine⟨F1,τ,R,S1,?_⟩;rw[h2];intro F2 H2 y B2 e2 g2;have S2:=S1.ext e2;have e12:Ext F H F2 H2 R0:=(e1.trans e2).mono λ_ z=>z.elim
      cases hg:g t u with
      |none=>simp only[hg]at q<;>exact q.elim
      |some k =>
       cases k with
       |bl k =>
        cases k with
        |false =>
         simp only[hg]at q;refine⟨F2,t,u,_,S2.fh,IY g1 hf.1,IY g2 hf.2,hg,λF3 H3 z C3 e3 r3=>⟨false,r3.bl_inv,?_⟩⟩
         rw[if_neg ybl];exact q F3 H3 _ R0 (e12.trans0 (e3.mono λ_ z=>z.elim)) (.bl false)
        |true =>
         simp only[hg]at q;refine⟨F2,t,u,_,S2.fh,IY g1 hf.1,IY g2 hf.2,hg,λF3 H3 z C3 e3 r3=>⟨true,r3.bl_inv,?_⟩⟩
         rw[if_pos rfl];have S3:=S2.ext e3;refine⟨F3,τ,R,S3,?_⟩;cases h3:mc τ with
         |none=>simp only[h3]at q<;>exact q.elim
         |some r3 =>
          cases r3 with
          |x c=>simp only[h3]at q<;>exact q.elim
          |v w b3 =>
           simp only[h3]at q
           by_cases hw:w.flat=true
           .rw[if_pos hw]at q;intro F4 H4 z4 B4 e4 g4;have S4:=S3.ext e4;cases hg':g' u w with
            |none=>simp only[hg']at q<;>exact q.elim
            |some k =>
             cases k with
             |bl k =>
              simp only[hg']at q;refine⟨F4,u,w,_,S4.fh,IY g2 hf.2,IY g4 hw,hg',λF5 H5 z5 C5 e5 r5=>?_⟩
              rw[r5.bl_inv];exact q F5 H5 _ R0 (e12.trans0 (((e3.trans e4).trans e5).mono λ_ z=>z.elim)) (.bl k)
             |_=>simp only[hg']at q<;>exact q.elim
           .rw[if_neg hw]at q;exact q.elim
       |_=>simp only[hg]at q<;>exact q.elim
     .rw[if_neg hf]at q;exact q.elim
theorem r_chn(ho:Ak X (compareOp op) (Br X.K g))(ho':Ak X (compareOp op') (Br X.K g'))(ha:PE X a (tM X.K E ca ma))(hb:PE X b (tM X.K E ca mb))(hc:PE X c (tM X.K E ca mc))(hm:lastMarks [op,op'] [b,c]=false) :
  PE X (.Compare a [op,op'] [b,c] pos) (tM X.K E ca (Fw g g' ma mb mc)):=PE.weak (zhh ho ho' ha hb hc hm) λσ H Q h=>Td h
theorem zmi(ho:Ak X (compareOp op) (Br X.K g))(ho':Ak X (compareOp op') (Br X.K g'))(ha:PE X a (tM X.K E ca ma))(hb:PE X b (tM X.K E ca mb))(hc:PE X c (tM X.K E ca mc))(hm:lastMarks [op,op'] [b,c]=false) :
  PT X (.Compare a [op,op'] [b,c] pos) (B3 X.K E ca (Fw g g' ma mb mc)):=PT.weak (zhb ho ho' ha hb hc hm) λσ H Q h=>Td (Kt h)
end
def NF(x:Str):It:=⟨λi _=>i<x.cps.size,λi H y H'=>H'=H/\∃c,x.cps[i]?=some c/\y=.str ⟨#[c]⟩,λi _=>x.cps.size<=i⟩
theorem zh0{K}(x)(t)(it):Turn P w K tg (NF x) [it] it (λi h=>h.IsStrIter it (strIterType x) x t i) where
 mem:=by simp
 obj:=λi h st b hb=>by
  have e :=by simpa using hb
  subst e;obtain⟨o,e,c,d⟩:=st;exact⟨o,e,λv z=>by rw[d]at z;cases z⟩
 keep:=λi h h' st k=>by
  obtain⟨o,e,c,d⟩:=st;exact⟨o,k it (by simp) o e,c,d⟩
 item:=by
  intro X hP hw hK hc i pins s σ H E I hf st hg;subst hP hw hK;have hi :=hg;obtain⟨f0,f1,f2,f3,f4,f5⟩:=hf it (by simp)
  have BN:∀(h' ),h'.IsStrIter it (strIterType x) x t (i+1)->Heap.SameBut it s.heap h'->∃u,some (Value.str ⟨#[x.cps[i]]⟩ s.toks)=some u /\
   wpAny (model X.prog X.w) X.A (letOwnedTupleGo tg (.ref it) u) (λ_ s2=>∃y H',Inv X pins σ H' s2/\Af y u/\(NF x).yld i H y H'/\s2.heap.IsStrIter it (strIterType x) x t (i+1)/\∀b∈[it],H' b=none) E { s with heap:=h',toks:=s.toks+1 }:=λh' st' sb=>by
   have I1 :=I.turned (t':=s.toks+1) (λb o hb e=>(sb.2 b hb).trans e) f0 f1 f3 f4 f5
   obtain⟨o,e,c,d⟩:=id st';refine⟨_,rfl,MB e c d ?_ ⟨.str ⟨#[x.cps[i]]⟩,H,I1,⟨_,rfl⟩,⟨rfl,_,ybi hi,rfl⟩,st',λb hb=>(hf b hb).1⟩⟩
   unfold strIterType;split<;>decide
  cases ha:(x.cps.all λx=>decide (x<128)) with
  |true =>
   have e:strIterType x="str_ascii_iterator":=by unfold strIterType;rw[ha];rfl
   rw[e]at st BN ⊢;exact wpAny_pyNext_ascii_item st (ybi hi) BN
  |false =>
   have e:strIterType x="str_iterator":=by unfold strIterType;rw[ha];rfl
   rw[e]at st BN ⊢;exact wpAny_pyNext_wide_item st (ybi hi) BN
 done:=by
  intro X hP hw hK hc i pins s σ H E I hf st hg;subst hP hw hK;have hi :=hg;obtain⟨f0,f1,f2,f3,f4,f5⟩:=hf it (by simp)
  have n :=Array.getElem?_eq_none hi;cases ha:(x.cps.all λx=>decide (x<128)) with
  |true =>
   have e:strIterType x="str_ascii_iterator":=by unfold strIterType;rw[ha];rfl
   rw[e]at st;exact wpAny_pyNext_ascii_end (I.ok.hd hc) st n λh' eb=>⟨rfl,I.turned (λb o hb e=>eb b o hb e) f0 f1 f3 f4 f5⟩
  |false =>
   have e:strIterType x="str_iterator":=by unfold strIterType;rw[ha];rfl
   rw[e]at st;exact wpAny_pyNext_wide_end (I.ok.hd hc) st n λh' eb=>⟨rfl,I.turned (λb o hb e=>eb b o hb e) f0 f1 f3 f4 f5⟩
 self:=λ_ i s Q E st h=>by
  cases ha:(x.cps.all λx=>decide (x<128)) with
  |true =>
   have e:strIterType x="str_ascii_iterator":=by unfold strIterType;rw[ha];rfl
   rw[e]at st;exact wpAny_pyIter_striter_ascii st h
  |false =>
   have e:strIterType x="str_iterator":=by unfold strIterType;rw[ha];rfl
   rw[e]at st;exact wpAny_pyIter_striter_wide st h
def iStrT(tl:TE):TI:=λσ H P=>tl σ H λx H1=>∃y,x=.str y/\P (NF y) H1
section
variable {X:Cx}{tg l e:Expr}{tl:TE}{E:L2.St->XK}{ca:Str->Value}{m:AL}
theorem zn1(hl:PE X l tl):PI X tg l (iStrT tl):=by
 intro pins s σ H R I h;refine A6 (hl pins s σ H _ I h) λv s1 ⟨x,H1,I1,r1,q1⟩=>?_
 obtain⟨y,rfl,q⟩:=q1;obtain⟨t,rfl⟩:=(r1);refine wpAny_pyIter_strU ?_;refine⟨s1.heap.objs.size,[s1.heap.objs.size],_,_,H1,rfl,I1.kept λb o e=>ya4 _ e,zh0 y t _,⟨_,yan _ rfl,rfl,rfl⟩,λb hb=>?_,q⟩
 have e :=by simpa using hb
 subst e;exact I1.fpOk (ya8 _) (I1.hok.fresh (ya8 _))
def GN(x:Str):List T:=x.cps.toList.map λc=>.str ⟨#[c]⟩
theorem zku{K}:GF K (NF x) F (GN x):=by
 intro i F' H' s1 s2;refine⟨λt ht=>?_,λe=>?_⟩
 .unfold GN at ht;rw[ya7]at ht;obtain⟨c,e1,rfl⟩:=yad.mp ht;have hi:i<x.cps.size:=by simpa using (ya2.mp e1).1
  refine⟨hi,λy H'' z=>?_⟩
  obtain⟨rfl,c',hc,rfl⟩:=z;rw[Array.getElem?_toList,hc]at e1;cases e1;exact⟨F',Ext.refl s2,.str _⟩
 .show x.cps.size<=i;rw[e];simp[GN]
def Ap(m:AL):BM:=λτ=>match m τ with
 |some (.v (.str x) _)=>some (.v (GN x) false)
 |_=>IV m τ
theorem zml(ha:PE X e (tM X.K E ca m)):PI X tg e (tI X.K E ca (Ap m)):=by
 refine PI.weak (PI.or (Va ha) (zn1 ha)) λσ H P h=>?_
 obtain⟨F,τ,R,S,q⟩:=h
 by_cases hs:∃x b,m τ=some (.v (.str x) b)
 .obtain⟨x,b,hm⟩:=hs;have e:Ap m τ=some (.v (GN x) false):=by unfold Ap;rw[hm]
  rw[e]at q;refine .inr ⟨F,τ,R,S,?_⟩;rw[hm];intro F1 H1 y B e1 g1;exact⟨x,HV g1,q F1 H1 _ (e1.mono λ_ z=>z.elim) zku⟩
 .have e:Ap m τ=IV m τ:=by
   unfold Ap
   grind
  rw[e]at q;exact .inl ⟨F,τ,R,S,q⟩
end
open Classical in
def met(val:Nat->Key):Nat->List Key
 |0=>[]
 |i+1=>if val i∈met val i then met val i else met val i++[val i]
open Classical in
theorem YB(val:Nat->Key):∀i,(met val i).length<=i
 |0=>ya8 0
 |i+1=>by
  have:=YB val i;unfold met;split
  .omega
  .rw[yaw,yc9]
   omega
section
variable {prog:Program}{w:World}{A:Around}{E:Value->Shared->Prop}
open Classical in
theorem YJ{knd:PySem.KeyKind prog w Key}{R:Result->Shared->Prop}{I:Addr}{fp wr:List Addr}{G:Array GenState->Array GenState->Prop}{n:Nat}{P:Nat->Value->Prop}{St:Nat->Shared->Prop}(W:WalksS prog w A.in1 I fp wr G n P St)(S:Addr)(hS:S∉fp)(val:Nat->Key)
  (hP:∀i v,P i v->knd.is (val i) v=true/\v.scannable=true) (hn:n+1<scanBound):∀(k i:Nat) (s:Shared),n - i=k->i<=n->St i s->Heap.SetOf knd s.heap S (λk'=>decide (k'∈met val i)) (met val i).length ->
   (∀s':Shared,Moved (S::wr) G s s'->Heap.SetOf knd s'.heap S (λk'=>decide (k'∈met val n)) (met val n).length->R (Except.ok (Flow.ret Value.none)) s') ->
   codeAny (model prog w) A (Code.builtin "set.update.loop" { pos:=[Value.ref S,Value.ref I] }) R s
 |0,i,s,hk,hi,st,hset,h=>by
  have e:i=n:=by omega
  subst e;refine codeAny_builtin F.entry_set_update_loop ?_;rw[Around.under_plainId ycv];unfold Builtin.«set.update.loop»;refine ydp (W.done s _ _ st λs' mv=>?_)
  refine ydt ?_;refine h s' (mv.mono λb hb=>ya6 _ hb) ?_
  obtain⟨o,es,ep,t,h1,h2⟩:=hset;exact⟨o,es,ep,t,mv.heap S o (λz=>hS (W.sub S z)) h1,h2⟩
 |k+1,i,s,hk,hi,st,hset,h=>by
  have hi':i<n:=by omega
  refine codeAny_builtin F.entry_set_update_loop ?_;rw[Around.under_plainId ycv];unfold Builtin.«set.update.loop»;refine ydp (W.item i s _ _ hi' st λv s' pv st' mv=>?_)
  obtain⟨hk1,hk2⟩:=hP i v pv
  have hset':Heap.SetOf knd s'.heap S (λk'=>decide (k'∈met val i)) (met val i).length:=by
   obtain⟨o,es,ep,t,h1,h2⟩:=hset;exact⟨o,es,ep,t,mv.heap S o (λz=>hS (W.sub S z)) h1,h2⟩
  refine ydp (ydq ?_);unfold setAdd;refine ydq (ydp (knd.pyHash hk1 ?_));have hl:=YB val i;refine wpAny_setAddHashed_of (s:={ s' with toks:=s'.toks+1 }) hk1 hk2 hset' (by omega) λh' sb hset2=>?_
  refine ydt ⟨plainId_quiet ycv _,?_⟩;have st2:=W.frame (i+1) s' h' (s'.toks+1) st' (ycd _) λb hb o e=>(sb.2 b (λz=>hS (z▸hb))).trans e
  have mv2:Moved (S::wr) G s { s' with heap:=h',toks:=s'.toks+1 }:=(mv.mono λb hb=>ya6 _ hb).then_heap (ycd _) λb o hb e=>(sb.2 b (λz=>hb (by rw[z];exact ya9 ..))).trans e
  refine YJ W S hS val hP hn k (i+1) _ (by omega) (by omega) st2 ?_ λs'' mv3 hs3=>h s'' (mv2.trans W.gtrans mv3) hs3
  have hS:(λk'=>(decide (k'∈met val i) || decide (k'=val i)))=λk'=>decide (k'∈met val (i+1)):=funext λk'=>by
   conv=>rhs;unfold met
   by_cases hm:val i∈met val i
   .rw[if_pos hm]
    by_cases e:k'=val i
    .rw[e,ye1 hm];rfl
    .rw[ydl e,Bool.or_false]
   .rw[if_neg hm,yd6];simp only[yc2,ye4,yar,yaa]
  have hN:(if decide (val i∈met val i)=true then (met val i).length else (met val i).length+1)=(met val (i+1)).length:=by
   conv=>rhs;unfold met
   by_cases hm:val i∈met val i
   .rw[if_pos hm,if_pos (ye1 hm)]
   .rw[if_neg hm,if_neg (λz=>hm (ye7 z)),yaw,yc9]
  obtain⟨o,es,ep,t,h1,h2,h3,h4,h5,h6,h7,h8⟩:=hset2;refine⟨o,es,ep,t,h1,h2,h3,h4,λk'=>?_,h6,h7,h8.trans hN⟩
  rw[<- h5 k'];have e:=congrFun hS k';show decide (k'∈met val (i+1))=true ↔ _;rw[<- e]
end
open Classical in
theorem zcj{prog:Program}{w:World}{A:Around}{E:Value->Shared->Prop}{s:Shared}{l:Addr}{items:Array Value}{knd:PySem.KeyKind prog w Key}{val:Nat->Key}{Q:Value->Shared->Prop}(hh:A.handled=none)(hl:s.heap.IsList l items)
  (hP:∀(i:Nat) (v:Value),items[i]?=some v->knd.is (val i) v=true/\v.scannable=true) (hb:items.size+1<scanBound)
  (h:∀(h':Heap) (tk:Nat),Heap.SetOf knd h' s.heap.objs.size (λk'=>decide (k'∈met val items.size)) (met val items.size).length->(∀(b:Nat) (o:Obj),b<s.heap.objs.size->s.heap.get? b=some o->h'.get? b=some o)->Q (.ref s.heap.objs.size) { s with heap:=h',toks:=tk }) :
  wpAny (model prog w) A (call (Value.type "set") [Value.ref l]) Q E s:=by
 obtain⟨c,tl,hmro⟩:=ycs.mro;have hmade:=ycs.made;have hsub:=ycs.sub;refine ydw (codeAny_of_tree ?_);refine ydt ⟨Code.quiet_builtin _ (by decide +kernel),codeAny_builtin F.entry_type_call ?_⟩
 have hu:=Around.under_plain (A:=A) (weight_type_call_type "set" [Value.ref l] []) rfl;have h1:=ycs.notType;have h2:=ycs.canCreate;have hct:=F.typeCall_set_1 (Value.ref l);show wpAny (model prog w) (A.under (Code.builtin "type.__call__" { pos:=[Value.type "set",Value.ref l] })) _ _ _ s;rw[hu];unfold Builtin.«type.__call__»;refine yea (by rw[h1];rfl) (yea (by rw[h2];rfl) ?_)
 refine ydp (yeb hct (ydp (yeb hmro (yea rfl (ydp (yeb hmade (ydp (ydt (ydp (ydq (ydw (ydx (code_set_new_1 (E:=λ_ _=>False) (Value.ref l) (Q₁:=λv s'=>∃led:Bool,v=.ref s.heap.objs.size/\s'={ s with heap:=s.heap.push { cls:=.type "set",data:=.set #[] 0 (SetTable.fresh 0 0 led) } }) λled=>⟨led,rfl,rfl⟩) λr s₁ hr=>?_))))))))))))
 cases r with
 |error e=>exact False.elim hr
 |ok fl =>
  cases fl with
  |next=>exact False.elim hr
  |brk=>exact False.elim hr
  |cont=>exact False.elim hr
  |ret v =>
   obtain⟨led,rfl,rfl⟩:=(show ∃led:Bool,v=.ref s.heap.objs.size/\s₁={ s with heap:=s.heap.push { cls:=.type "set",data:=.set #[] 0 (SetTable.fresh 0 0 led) } } from hr)
   have ho:(s.heap.push { cls:=.type "set",data:=.set #[] 0 (SetTable.fresh 0 0 led) }).get? s.heap.objs.size=some { cls:=.type "set",data:=.set #[] 0 (SetTable.fresh 0 0 led) }:=yan _ rfl;have hT:Shared.TypeIs { s with heap:=s.heap.push { cls:=.type "set",data:=.set #[] 0 (SetTable.fresh 0 0 led) } } (.ref s.heap.objs.size) "set":=⟨_,ho,rfl⟩
   have hin:=ycs.init;refine ydp (yec hT hsub (yea rfl (ydp (ydq ?_))));unfold callSpecial?;refine ydp (wpAny_specialOf hT hin.lookup (ydq (ydp (yeb (hin.bind _) (ydp (ydw (ydx (R:=wants (λv s'=>v=.none/\∃tk h',s'={ s with heap:=h',toks:=tk }/\Heap.SetOf knd h' s.heap.objs.size (λk'=>decide (k'∈met val items.size)) (met val items.size).length/\∀(b:Nat) (o:Obj),b<s.heap.objs.size->s.heap.get? b=some o->h'.get? b=some o) λ_ _=>False) (codeAny_call_builtin hin.plain F.entry_set_init (check_set_init_1 hT ?_)) λr s₂ hr₂=>?_)))))))
   .unfold Builtin.«set.__init__» noKeywords;refine ydp (wpAny_ite_true rfl (ydt ?_));unfold typeNameOfCut shownTypeOf;refine ydp (ydp (ydp (wpAny_typeOf hT (yea (by decide +kernel) (ydt ?_)))))
    refine yeb (rfl:typeNameCut 200 (Value.type "set")=pure _) ?_;refine ydp (yeb (rfl:checkCount _ 0 1 1=pure ()) ?_);refine ydp (ydt ?_);unfold setUsed setState;refine ydp (ydp (ydp (wpAny_load ho (yea rfl (ydt (ydt (yea rfl ?_)))))));obtain⟨ol,hol,hcl,nl,hdl⟩:=id hl;have hol2:(s.heap.push { cls:=.type "set",data:=.set #[] 0 (SetTable.fresh 0 0 led) }).get? l=some ol:=ya4 _ hol;have hTl:Shared.TypeIs { s with heap:=s.heap.push { cls:=.type "set",data:=.set #[] 0 (SetTable.fresh 0 0 led) } } (.ref l) "list":=⟨_,hol2,hcl⟩
    unfold Builtin.Frozenset.updateFrom Builtin.Frozenset.isAnySet;refine ydp (ydp (ydp (yec hTl F.sub_list_set ?_)));have hl2:(s.heap.push { cls:=.type "set",data:=.set #[] 0 (SetTable.fresh 0 0 led) }).IsList l items:=⟨ol,hol2,hcl,nl,hdl⟩;refine yec hTl F.sub_list_frozenset (yea rfl (ydp (wpAny_typeOf hTl (yea (by decide +kernel) (ydp (ydu hl2 ?_))))))
    have lt:l<s.heap.objs.size:=ya5 hol;have hsz:(s.heap.push { cls:=.type "set",data:=.set #[] 0 (SetTable.fresh 0 0 led) }).objs.size=s.heap.objs.size+1:=ybs _ _;generalize hhp:s.heap.push { cls:=.type "set",data:=.set #[] 0 (SetTable.fresh 0 0 led) }=hp at *
    have hS:s.heap.objs.size∉[hp.objs.size,l]:=by
     rw[hsz];intro z
     rcases yaf.mp z with e|e
     .exact absurd e (yah (ybt _))
     .exact absurd (yaa.mp e) (Nat.ne_of_gt lt)
    refine ydp (wpAny_runValue ?_);refine YJ (knd:=knd) (A:=A.in1.in1) (Walks.list (A:=A.in1.in1.in1) hh hp.objs.size l (by rw[hsz];exact yah (yc6 lt)) items).toS s.heap.objs.size hS val (λi v e=>hP i v e) hb items.size 0 _ (by omega) (ybk _) ⟨?_,?_⟩ ?_ λs' mv hs'=>?_
    .exact⟨_,yan _ rfl,rfl,rfl⟩
    .exact⟨ol,ya4 _ hol2,hcl,nl,hdl⟩
    .letI:BEq Key:=⟨λa b=>decide (a=b)⟩
     haveI:LawfulBEq Key:={ eq_of_beq:=λh=>ye7 h,rfl:=ye1 rfl }
     have e0:=(setObjOf_fresh (prog:=prog) (w:=w) (knd:=knd) led).setOf (h:=hp.push { cls:=.type "list_iterator",data:=.fields #[.ref l,.int 0 0] }) (a:=s.heap.objs.size) (ya4 _ ho) (by decide)
     obtain⟨o,es,ep,t,g1,g2,g3,g4,g5,g6,g7,g8⟩:=e0;refine⟨o,es,ep,t,g1,g2,g3,g4,λk'=>?_,g6,g7,g8⟩
     rw[<- g5 k'];simp[met]
    .refine ydt (ydt ?_)
     have b2:∀(b:Nat) (o:Obj),b<s.heap.objs.size->s.heap.get? b=some o->s'.heap.get? b=some o:=λb o hb e=>by
      refine mv.heap b o (λz=>?_) (ya4 _ (by rw[<- hhp];exact ya4 _ e))
      rcases yaf.mp z with e|e
      .exact absurd e (yah hb)
      .have e:=yaa.mp e;rw[hsz]at e;exact absurd e (yah (yc6 hb))
     have m1:=mv.gens;have m2:=mv.drawn;have m3:=mv.os;obtain⟨hh',g',d',t',os'⟩:=s';refine⟨rfl,t',hh',?_,hs',b2⟩;simp only at m1 m2 m3;rw[m1,m2,m3]
   .cases r with
    |error e=>exact False.elim hr₂
    |ok fl =>
     cases fl with
     |next=>exact False.elim hr₂
     |brk=>exact False.elim hr₂
     |cont=>exact False.elim hr₂
     |ret v =>
      obtain⟨rfl,tk,h',rfl,hs,hk⟩:=(show v=.none/\∃tk h',s₂={ s with heap:=h',toks:=tk }/\Heap.SetOf knd h' s.heap.objs.size (λk'=>decide (k'∈met val items.size)) (met val items.size).length/\∀(b:Nat) (o:Obj),b<s.heap.objs.size->s.heap.get? b=some o->h'.get? b=some o from hr₂)
      refine ydt (yea rfl (ydt ?_));exact h h' tk hs hk
def SJ(P:Program)(w:World)(a:Addr)(ks:List Key):HO:=.ext λh=>Heap.SetOf (DM P w) h a (λk=>@decide (k∈ks) (Classical.propDecidable _)) ks.length
section
variable {X:Cx}
theorem zgi(hc:X.calm=true):Bs X (.type "set") (λxs H Q=>∃(p:Addr) (ys:List Str),xs=[.ref p]/\Al X.K H p (ys.map V.str)/\ys.length<1000/\∀a,H a=none->Q (.ref a) (upd H a (SJ X.prog X.w a (met (λi=>Sum.inr (ys.getD i Str.empty)) ys.length)))):=by
 intro pins s σ H xs us Q I r h;obtain⟨p,ys,rfl,hq,hz,q⟩:=h;obtain⟨u,rfl,rx⟩:=FO r;cases rx;obtain⟨its,r',pl,_⟩:=I.list hq;have hlen:=r'.length;rw[ya1]at hlen;have hsz:its.toArray.size=ys.length:=by rw[yb3];exact hlen.symm
 refine zcj (knd:=DM X.prog X.w) (val:=λi=>Sum.inr (ys.getD i Str.empty)) (I.ok.hd hc) pl.isList (λi v e=>?_) (by rw[hsz];exact yae (Nat.succ_lt_succ hz) (by decide)) λh' tk hs kp=>?_
 .have e' :=by simpa using e
  have hi:i<ys.length:=by rw[hlen];exact(ya2.mp e').1
  have hx:(ys.map V.str)[i]?=some (.str ys[i]):=by rw[ya7,ya0 hi];rfl
  obtain⟨u,e2,ru⟩:=r'.get hx;rw[e']at e2;cases e2;obtain⟨t,rfl⟩:=(ru);refine⟨?_,rfl⟩;show G4 (Sum.inr (ys.getD i Str.empty)) (Value.str ys[i] t)=true;rw[yag,ya0 hi];show(ys[i] == ys[i])=true;exact ye9 _
 .rw[hsz]at hs;refine⟨.ref s.heap.objs.size,_,I.laid (o:=SJ X.prog X.w s.heap.objs.size (met (λi=>Sum.inr (ys.getD i Str.empty)) ys.length)) (λb o e=>kp b o (ya5 e) e) (ya8 _) ⟨?_,?_,?_⟩,rfl,q _ (I.hok.fresh (ya8 _))⟩
  .exact hs
  .obtain⟨o,es,ep,t,g1,_⟩:=hs;exact⟨o,g1⟩
  .intro h1 h2 p1 k;obtain⟨o,es,ep,t,g1,g2⟩:=p1;exact⟨o,es,ep,t,k o g1,g2⟩
theorem zgk:Bs X (.builtin "len") (λxs H Q=>∃a ks,xs=[.ref a]/\H a=some (SJ X.prog X.w a ks)/\Q (.int ks.length) H):=by
 intro pins s σ H xs us Q I r h;obtain⟨a,ks,rfl,ha,q⟩:=h;obtain⟨u,rfl,rx⟩:=FO r;cases rx;obtain⟨⟨o,es,ep,t,g1,g2,g3,g4,g5,g6,g7,g8⟩,_⟩:=(I.hok a _ ha)
 have hb:(es.size:Int)<2 ^ 63:=by
  have:scanBound<=2 ^ 40:=by decide
  omega
 refine call_len_set g1 g2 g3 g7 hb ⟨.int es.size,H,I.tok _,⟨_,rfl⟩,?_⟩
 grind
end
def GJ:List T->Option (List Str)
 |[]=>some []
 |.str x::r=>(match GJ r with
  |some l=>some (x::l)
  |none=>none)
 |_::_=>none
theorem Nj{K}{F}:∀{l} {ys} {xs},GJ l=some ys->Aw K F l xs->xs=ys.map V.str
 |[],ys,xs,h,r=>by
  cases h;exact r.inv0
 |t::l,ys,xs,h,r=>by
  obtain⟨x,xs',rfl,r1,r2⟩:=r.inv;unfold GJ at h;split at h
  .grind
  .rename_i y r e;cases e;split at h
   .rename_i l' hl;cases h;rw[r1.str_inv,Nj hl r2]
    rfl
   .cases h
  .cases h
def TM(ys:List Str):Nat:=(met (λi=>Sum.inr (ys.getD i Str.empty)) ys.length).length
def JS:T->Option T
 |.nd _ .lst l=>(match GJ l with
  |some ys=>if ys.length<1000 then some (.int (TM ys)) else none
  |none=>none)
 |_=>none
section
variable {X:Cx}{E:L2.St->XK}{ca:Str->Value}{m:AL}{e:Expr}{pos p p2 p3:Pos}
theorem r_unq(hc:X.calm=true)(hg:Gl X "len")(hm:X.mg "len"=none)(hg2:Gl X "set")(hm2:X.mg "set"=none)(ha:PE X e (tM X.K E ca m))(he:starEach [e] X.env=[(false,eval e X.env)]) :
  PE X (.Call (.Name "len" p) [.Call (.Name "set" p2) [e] [] p3] [] pos) (tM X.K E ca (Bn (g1 JS) (AB m AE))):=by
 have hset:=Vt (pos:=p3) (p:=p2) (zgi hc) hg2 hm2 (rfl) (Eu ha Fl he) (by decide) (by decide) he rfl
 refine PE.weak (LU (zgk) hg hm PySem.boot_len (Eu hset Fl rfl) (by decide) (by decide) rfl rfl) λσ H Q h=>?_
 refine(Gu (Gv h)).mono λx H1 h1=>?_
 obtain⟨F,ts,v,fh,rs,e,q⟩:=Gs h1;unfold g1 at e;split at e
 .obtain⟨x1,xs1,e1,r1,rs1⟩:=rs.inv;cases e1;unfold JS at e;split at e
  .split at e
   .rename_i o l ys hy;split at e
    .rename_i hz;cases e;obtain⟨pp,zs,rfl,_,n,kd⟩:=Ew r1;have hF :=n;refine⟨pp,ys,rfl,Al.of (by rw[<- Nj hy kd];exact fh _ _ hF),hz,λa ha=>⟨a,_,rfl,Cf,?_⟩⟩
     exact q F _ _ R0 ((Ext.newO fh ha).mono λ_ z=>z.elim) (Rp.int _)
    .cases e
   .cases e
  .cases e
 .cases e
end
def FW:T->T->Option T
 |.int i,.int j=>some (.bl (decide (i<=j)))
 |.str x,.str y=>some (.bl (!(@decide (y.cps.toList<x.cps.toList) (Classical.propDecidable _))))
 |_,_=>none
section
variable {X:Cx}{E:L2.St->XK}{ca:Str->Value}{m mk:AL}{o k:Expr}{pos apos cpos:Pos}
theorem zkb:Ak X (compareOp .LtE) (Br X.K FW):=by
 intro pins s σ H x y v u Q I rx ry h;obtain⟨F,t1,t2,r,fh,r1,r2,e,q⟩:=h;unfold FW at e;split at e
 .cases e;rw[r1.int_inv]at rx;rw[r2.int_inv]at ry;exact WE pins s σ H _ _ v u Q I rx ry ⟨_,_,rfl,rfl,q.bl fh⟩
 .rename_i a b;cases e;rw[r1.str_inv]at rx;rw[r2.str_inv]at ry;obtain⟨t,rfl⟩:=(rx);obtain⟨t',rfl⟩:=(ry);refine PySem.P.le_str ⟨.bl _,H,I,rfl,?_⟩;have q1:=q.bl fh
  grind
 .cases e
end
def CB(ys:List Str)(y:Str):Option Nat:=ys.findIdx? λx=>@decide (x=y) (Classical.propDecidable _)
theorem zfs{ys:List Str}{y:Str}{j:Nat}(h:CB ys y=some j):∃hj:j<ys.length,ys[j]=y/\∀(m:Nat) (hm:m<ys.length),m<j->ys[m]≠y:=by
 obtain⟨h1,h2,h3⟩:=yax.mp h
 grind
theorem aJ{x y:Str}:(x.cps.toList == y.cps.toList)=true ↔ x=y:=by
 constructor
 .cases x
  simp_all
 grind
def zmp(K:k6):V->List V->Hp->VK->Prop:=λx vs H Q=>∃(l:Addr) (ys:List Str) (y:Str) (j:Nat),x=.ref l/\vs=[.str y]/\Al K H l (ys.map V.str)/\CB ys y=some j/\ys.length<1000000/\Q (.int j) H
section
variable {X:Cx}{E:L2.St->XK}{ca:Str->Value}{m mk:AL}{o k:Expr}{pos apos cpos:Pos}
theorem zhr:bO X "list.index" (zmp X.K):=by
 intro pins s σ H x vs v us Q I rx rv h;obtain⟨l,ys,y,j,rfl,rfl,hH,hj,hz,q⟩:=h;cases rx;obtain⟨u,rfl,ru⟩:=rv.one;obtain⟨its,r,⟨ob,n,e,c1,c2,c3⟩,hz0⟩:=I.list hH;have hl:=r.length;obtain⟨cc,dd,da,sl⟩:=ob;simp only at c1 c2 c3;subst c1 c2 c3;obtain⟨t,rfl⟩:=(ru);obtain⟨hj1,hj2,hj3⟩:=zfs hj;rw[ya1]at hl
 have at_:∀(i ) (hi ),∃(t':Tok) (hi':i<ys.length),its.toArray[i]=Value.str ys[i] t':=λi hi=>by
  have hi0 :=by simpa using hi
  have hi':i<ys.length:=by omega
  have hx:(ys.map V.str)[i]?=some (.str ys[i]):=by rw[ya7,ya0 hi'];rfl
  obtain⟨u,e2,ru⟩:=r.get hx;obtain⟨t',rfl⟩:=(ru);rw[ya0 hi0]at e2;refine⟨t',hi',?_⟩
  simpa using e2
 let ev:Value->Bool:=λv=>match v with
  |.str x _=>x.cps.toList == y.cps.toList
  |_=>false
 have evs:∀(x ) (t' ),ev (.str x t')=(x.cps.toList == y.cps.toList):=λ_ _=>rfl
 have hjs:j<its.toArray.size:=by rw[yb3];omega
 refine call_meets F.slot_list_index ⟨_,e,rfl⟩ F.entry_list_index (F.args_list_index_2 _ _) (SeqAt.list_indexAt l its.toArray n none sl (.str y t) ev j hjs (by omega) ?_ λm hm hmj=>?_) ⟨e,λy' hy'=>?_,.int j,H,I.tok _,⟨_,rfl⟩,q⟩
 rotate_left 2
 .obtain⟨i,hi,rfl⟩:=Array.mem_iff_getElem.mp hy';obtain⟨t',hi',e1⟩:=at_ i hi;rw[e1,evs _ t'];exact(SeqRoads2.EqGives.str _ _ _ _).at _ _
 .obtain⟨t',hi',e1⟩:=at_ j hjs;rw[e1,evs _ t'];exact aJ.mpr hj2
 .obtain⟨t',hi',e1⟩:=at_ m hm;rw[e1,evs _ t',Bool.eq_false_iff];exact λz=>hj3 m hi' hmj (aJ.mp z)
def Jd:T->Option (List T)
 |.nd false .lst l=>some l
 |.nd false .rl l=>some l
 |_=>none
theorem zkm{t:T}{l:List T}(h:Jd t=some l):∃k,t=.nd false k l/\IT t=true:=by
 unfold Jd at h;split at h
 .cases h;exact⟨_,rfl,rfl⟩
 .cases h;exact⟨_,rfl,rfl⟩
 .cases h
def HP(m mk:AL):AL:=λτ=>match m τ with
  |some (.v t false)=>(match Jd t with
   |some l=>(match GJ l with
    |some ys=>(match mk τ with
      |some (.v (.str y) _)=>(match CB ys y with
        |some j=>if ys.length<1000000 then some (.v (.int j) false) else none
        |none=>none)
      |_=>none)
    |none=>none)
   |none=>none)
  |_=>none
theorem zjg(ho:PE X o (tM X.K E ca m))(hk:PE X k (tM X.K E ca mk))(hbase:attributeBase o "index" X.env (eval o X.env)=eval o X.env)(hs:starEach [k] X.env=[(false,eval k X.env)])(hline:(apos.endLine == cpos.line)=true) :
    PE X (.Call (.Attribute o "index" apos) [k] [] cpos) (tM X.K E ca (HP m mk)):=by
  refine PE.weak (OK ycu PySem.F.slot_list_index PySem.F.type_list_index zhr ho (Eu hk Fl hs) hbase (by rw[hs];rfl) hline hs rfl) λσ H Q h=>?_
  obtain⟨F,τ,R,S,q⟩:=h;refine⟨F,τ,R,S,?_⟩;unfold HP at q;cases hm:m τ with
  |none=>simp only[hm]at q<;>exact q.elim
  |some r =>
    cases r with
    |x c=>simp only[hm]at q<;>exact q.elim
    |v t b =>
      cases b with
      |true=>simp only[hm]at q<;>exact q.elim
      |false =>
       simp only[hm]at q;cases hls:Jd t with
       |none=>simp only[hls]at q<;>exact q.elim
       |some l =>
        simp only[hls]at q;obtain⟨kk,rfl,hL⟩:=zkm hls;intro F1 H1 x B e1 g1;have g0:Rp X.K F1 H1 (.nd false kk l) x B:=g1;obtain⟨p,rfl⟩:=g0.ref_inv;obtain⟨xs0,hN,hr0⟩:=Aw.node g0;obtain⟨p1,xs,e0,sqq,hr⟩:=Lx hL (Aw.of_node (H:=F1) hN hr0);injection e0 with e0
        subst e0;cases hy:GJ l with
        |none=>simp only[hy]at q<;>exact q.elim
        |some ys =>
          simp only[hy]at q;have hxs:=Nj hy hr;refine⟨.inl ⟨rfl,xs,sqq F1 H1 (Aa.refl _) e1.fh⟩,F1,τ,R,S.ext e1,?_⟩;cases hk2:mk τ with
          |none=>simp only[hk2]at q<;>exact q.elim
          |some r =>
            cases r with
            |x c=>simp only[hk2]at q<;>exact q.elim
            |v t2 b2 =>
              cases t2 with
              |str y =>
                simp only[hk2]at q;intro F2 H2 z B2 e2 g2;have hz:=HV g2;subst hz;cases hj:CB ys y with
                |none=>simp only[hj]at q<;>exact q.elim
                |some j =>
                  simp only[hj]at q
                  by_cases hl:ys.length<1000000
                  . rw[if_pos hl]at q
                    refine⟨p,ys,y,j,rfl,rfl,by rw[<- hxs];exact sqq F2 H2 e2.ff e2.fh,hj,hl,?_⟩
                    exact q F2 H2 _ R0 ((e1.trans e2).mono λ_ z=>z.elim) (.int _)
                  . rw[if_neg hl]at q
                    exact q.elim
              |_=>simp only[hk2]at q<;>exact q.elim
end
section
variable {X:Cx}{E:L2.St->XK}{ca:Str->Value}{mu:Bool}{i:Nat}{x n:Str}{np pos hpos:Pos}{body suite:List Stmt}{b₀:Stmt}{u h:AJ}{cs:List (Str×Addr)}
theorem StR.put{K}{t:T}(S:StR K F H σ τ R)(hi:i<τ.length)(r:Rp K F H t v R0):StR K F H (σ.set i (some v)) (τ.set i (some t)) (λj=>if j=i then R0 else R j):=by
 refine⟨S.fh,by simpa using S.len,λj t' e=>?_,λj a z=>?_,λj k a hjk z1 z2=>?_⟩
 .by_cases hj:j=i
  .subst hj;rw[yam hi]at e;cases e;exact⟨v,yam (by rw[S.len];exact hi),by simpa using r⟩
  .rw[yak (yao hj)]at e;obtain⟨y,e1,r1⟩:=S.rep j t' e;exact⟨y,by rw[yak (yao hj)];exact e1,by simpa[hj] using r1⟩
 .by_cases hj:j=i
  .simp only[hj,ye0]at z;exact z.elim
  .simp only[hj,ye8]at z;obtain⟨t',e⟩:=S.out j a z;exact⟨t',by rw[yak (yao hj)];exact e⟩
 .by_cases hj:j=i
  .simp only[hj,ye0]at z1;exact z1.elim
  .by_cases hk:k=i
   .simp only[hk,ye0]at z2;exact z2.elim
   .simp only[hj,ye8]at z1;simp only[hk,ye8]at z2;exact S.dis j k a hjk z1 z2
end
def isXT(tb:List (Addr×Bool)):T->Option T
 |.obj (.exn C) _=>(match tb.lookup C with
  |some b=>some (.bl b)
  |none=>none)
 |_=>none
section
variable {X:Cx}{E:L2.St->XK}{ca:Str->Value}{m:AL}{e:Expr}{pos p p2:Pos}{c:Str}{v:V}{tb:List (Addr×Bool)}
end
def Kd.isLst:Kd->Bool
 |.lst=>true
 |_=>false
section
variable {X:Cx}{E:L2.St->XK}{ca:Str->Value}{mu:Bool}{i j:Nat}{tg it c:Expr}{ret:List Stmt}{mc:AL}{k:T}{ip pos:Pos}
end
section
variable {X:Cx}{E:L2.St->XK}{ca:Str->Value}{mu:Bool}{i j:Nat}{tg it e:Expr}{m:AL}{t:T}{p1 apos cpos pos bpos:Pos}{x:Str}
end
section
variable {X:Cx}{E:L2.St->XK}{ca:Str->Value}{m mk ma:AL}{o k e a:Expr}{pos apos cpos p p2:Pos}
def rSlS:V->Option Int->Option Int->Hp->VK->Prop:=λx lo hi H Q=>∃z:Str,x=.str z/\z.length<=Bp/\Q (.str (Txt.slice z lo hi)) H
theorem zm0:Hh X rSlS:=by
 intro pins s σ H x v vl vu lo hi sl Q I rx hs pl pu q;obtain⟨z,rfl,hz,q⟩:=q;obtain⟨t,rfl⟩:=(rx);obtain⟨ob,ho,hc,hd⟩:=hs;rw[Fx]at hz;cases pl with
 |none =>
  cases pu with
  |none=>exact⟨"str",_,ybu.lookup,ydz _ _ _,yed (l:=none) (u:=none) (st:=none) ⟨ob,ho,hc,hd⟩ rfl (yee ⟨yaj (ydk z _ _) hz,λt' k=>⟨.str _,H,I.tok _,⟨_,rfl⟩,q⟩⟩)⟩
  |int j uj=>exact⟨"str",_,ybu.lookup,ydz _ _ _,yed (l:=none) (u:=some (j,uj)) (st:=none) ⟨ob,ho,hc,hd⟩ rfl (yee ⟨yaj (ydk z _ _) hz,λt' k=>⟨.str _,H,I.tok _,⟨_,rfl⟩,q⟩⟩)⟩
 |int i ui =>
  cases pu with
  |none=>exact⟨"str",_,ybu.lookup,ydz _ _ _,yed (l:=some (i,ui)) (u:=none) (st:=none) ⟨ob,ho,hc,hd⟩ rfl (yee ⟨yaj (ydk z _ _) hz,λt' k=>⟨.str _,H,I.tok _,⟨_,rfl⟩,q⟩⟩)⟩
  |int j uj=>exact⟨"str",_,ybu.lookup,ydz _ _ _,yed (l:=some (i,ui)) (u:=some (j,uj)) (st:=none) ⟨ob,ho,hc,hd⟩ rfl (yee ⟨yaj (ydk z _ _) hz,λt' k=>⟨.str _,H,I.tok _,⟨_,rfl⟩,q⟩⟩)⟩
def Cn(ma:AL)(ml mh:Option (AL)):AL:=λτ=>match ma τ with
 |some (.v (.str z) _)=>(match Ez ml τ,Ez mh τ with
  |some lo,some hi=>if z.length<=Bp then some (.v (.str (Txt.slice z lo hi)) false) else none
  |_,_=>none)
 |_=>none
theorem zh8{lo hi}(ha:PE X a (tM X.K E ca ma))(hl:PO X lo (Gr X.K ml))(hh:PO X hi (Gr X.K mh)):PE X (.Subscript a (.Slice lo hi none p2) pos) (tM X.K E ca (Cn ma ml mh)):=by
 refine PE.weak (Vq zm0 ha hl hh) λσ H Q h=>?_
 obtain⟨F,τ,R,S,q⟩:=h;refine⟨F,τ,R,S,?_⟩;unfold Cn at q;cases hm:ma τ with
 |none=>rw[hm]at q;exact q.elim
 |some r =>
  rw[hm]at q;cases r with
  |x c=>exact q.elim
  |v t bb =>
   cases t with
   |str z =>
    intro F1 H1 x B e1 g1;have hx:=HV g1;subst hx;have e1':Ext F H F1 H1 R0:=e1.mono λ_ z=>z.elim
    have S1:=S.ext e1';cases h1:Ez ml τ with
    |none=>simp only[h1]at q<;>exact q.elim
    |some lo' =>
     refine⟨F1,τ,R,lo',S1,h1,λF2 H2 e2=>?_⟩
     have S2:=S1.ext e2;cases h2:Ez mh τ with
     |none=>simp only[h1,h2]at q<;>exact q.elim
     |some hi' =>
      simp only[h1,h2]at q;refine⟨F2,τ,R,hi',S2,h2,λF3 H3 e3=>?_⟩
      by_cases hz:z.length<=Bp
      .rw[if_pos hz]at q;exact⟨z,rfl,hz,q F3 H3 _ R0 (e1'.trans0 (e2.trans0 e3)) (.str _)⟩
      .rw[if_neg hz]at q;exact q.elim
   |_=>exact q.elim
def rIxD:R2:=λx y H Q=>∃a kvs k v,x=.ref a/\y=.str k/\H a=some (.dK kvs)/\Dl kvs (Sum.inr k)=some v/\Q v H
theorem Y6(hu:X.A.units+1<cLine):Fb X rIxD:=by
 intro value slice pins s σ H x y v u Q I rx ry h hs;obtain⟨a,kvs,k,w,rfl,rfl,hH,hv,q⟩:=h;cases rx;have g :=hv▸JK.k hH
 have hT:s.TypeIs (.ref a) "dict":=by
  obtain⟨_,_,vs,_,dd⟩:=aD I.hok hH;exact dd.typeIs
 refine ydp ?_;refine ydp (wpAny_specialOf hT PySem.F.slot_dict_getitem.lookup ?_)
 have BN:wpAny (model X.prog X.w) X.A (subscripted slice false (.ref a) u) (λr s₃=>wpAny (model X.prog X.w) X.A (letTemporaryGo value (.ref a) r >>= λ_=>pure r) (EP X pins σ Q) X.xe s₃) X.xe s:=by
  rw[hs];exact wpAny_operating (ydm (zg8 hu I g (ry) λw' s3 I3 rw'=>⟨w,H,I3,rw',q⟩) (λr s₃ h₃=>ydp (wpAny_letTemporaryGo (ydt h₃))) λ_ _ x=>x)
 first|exact ydt (ydp BN)|rfl|rfl
def CA(m mk:AL):AL:=λτ=>match m τ with
 |some (.v (.obj (.sdc ks) l) _)=>(match mk τ with
  |some (.v (.str y) _)=>(match CB ks y with
   |some j=>(match l[j]? with
    |some u=>if u.sh then some (.v u false) else none
    |none=>none)
   |none=>none)
  |_=>none)
 |_=>none
theorem N2:∀{ks} {xs} {y} {j} {v},CB ks y=some j->xs[j]?=some v->Dl (Ca ks xs) (Sum.inr y)=some v
 |[],xs,y,j,v,h,_=>by simp[CB]at h
 |k::ks,[],y,j,v,_,h=>by simp at h
 |k::ks,x::xs,y,j,v,h,hx=>by
  show Dl ((Sum.inr k,x)::Ca ks xs) (Sum.inr y)=some v;unfold CB at h;rw[ydc]at h
  by_cases e:k=y
  .rw[@decide_eq_true _ (Classical.propDecidable _) e]at h;simp only[ye0,ycw]at h;subst h;rw[Kn (p:=(Sum.inr k,x)) (by rw[e])]
   simpa using hx
  .rw[@decide_eq_false _ (Classical.propDecidable _) e]at h;simp only[yc4,ye8,yad]at h;obtain⟨j',h1,rfl⟩:=h;rw[Ko (p:=(Sum.inr k,x)) (λz=>e (Sum.inr.inj z))]
   exact N2 (show CB ks y=some j' from h1) (by simpa using hx)
theorem r_gt(hu:X.A.units+1<cLine)(ho:PE X o (tM X.K E ca m))(hk:PE X k (tM X.K E ca mk))(hs:JG k):PE X (.Subscript o k pos) (tM X.K E ca (CA m mk)):=by
 refine PE.weak (LS (Y6 hu) ho hk hs) λσ H Q h=>?_
 obtain⟨F,τ,R,S,q⟩:=h;refine⟨F,τ,R,S,?_⟩;unfold CA at q;cases hm:m τ with
 |none=>rw[hm]at q;exact q.elim
 |some r =>
  rw[hm]at q;cases r with
  |x c=>exact q.elim
  |v t b =>
   cases t with
   |obj kd l =>
    cases kd with
    |sdc ks =>
     simp only at q;intro F1 H1 x B e1 g1;obtain⟨r1,hB⟩:=MA g1;subst hB;obtain⟨a,xs,rfl,_,⟨hl1,hF⟩,el,cc⟩:=r1.obj_inv;refine⟨F1,τ,R,S.ext e1,?_⟩;cases hk2:mk τ with
     |none=>rw[hk2]at q;exact q.elim
     |some r2 =>
      rw[hk2]at q;cases r2 with
      |x c=>exact q.elim
      |v t2 b2 =>
       cases t2 with
       |str y =>
        simp only at q;intro F2 H2 z B2 e2 g2;have hz:=HV g2;subst hz;have e2':Ext F1 H1 F2 H2 R0:=e2.mono λ_ z=>z.elim
        cases hj:CB ks y with
        |none=>simp only[hj]at q<;>exact q.elim
        |some j =>
         simp only[hj]at q;cases hu2:l[j]? with
         |none=>simp only[hu2]at q<;>exact q.elim
         |some u =>
          simp only[hu2]at q
          by_cases hsh:u.sh=true
          .rw[if_pos hsh]at q;have hjl:=(ya2.mp hu2).1;have hx:xs[j]?=some xs[j]:=ya0 (by omega)
           have hc:=(cc j u _ hu2 hx).move (H':=H2) hsh e2'.ff;exact⟨a,_,y,_,rfl,rfl,e2'.hh _ _ (e1.fh _ _ hF),N2 hj hx,q F2 H2 _ R0 (e1.trans0 e2') hc⟩
          .rw[if_neg hsh]at q;exact q.elim
       |_=>exact q.elim
    |_=>exact q.elim
   |_=>exact q.elim
def tKys(to:TE):TE:=λσ H Q=>to σ H λx H1=>∃a ks xs,x=.ref a/\ks.length=xs.length/\H1 a=some (.dK (Ca ks xs))/\∀p,H1 p=none->Q (.ref p) (upd H1 p (.lst (ks.map V.str)))
theorem YX:∀{ks} {xs},ks.length=xs.length->(Ca ks xs).length=ks.length
 |[],[],_=>rfl
 |[],_::_,h=>by simp at h
 |_::_,[],h=>by simp at h
 |k::ks,x::xs,h=>by
  show(Ca ks xs).length+1=ks.length+1;rw[YX (by simpa using h)]
theorem YZ:∀{ks} {xs} {vs},ks.length=xs.length->KV (Ca ks xs) vs->vs.map (·.1)=ks.map Sum.inr
 |[],[],vs,_,r=>by
  have r' :=(r);cases r'
  rfl
 |[],_::_,_,h,_=>by simp at h
 |_::_,[],_,h,_=>by simp at h
 |k::ks,x::xs,vs,h,r=>by
  have r' :=r;cases r' with
  |@cons _ q _ qs hd tl =>
   rw[yap,yap,<- hd.1,YZ (by simpa using h) tl]
theorem zna(hc:X.calm=true)(hg:Gl X "list")(hm:X.mg "list"=none)(ho:PE X o to)(hs:starEach [o] X.env=[(false,eval o X.env)]) :
  PE X (.Call (.Name "list" p) [o] [] p2) (tKys to):=by
 intro pins s σ H Q I h;refine ydy (G3 I hg hm yc5 ?_ (by decide) (by decide))
 refine yb4 ?_ (by rw[hs];rfl) rfl
 rw[hs];show wpAny _ _ (spliced ((false,eval o X.env)::backTo p2 (starEach [] X.env))) _ _ s;refine Calls.spliced_cons (A6 (ho pins s σ H _ I h) λv s1 ⟨x,H1,I1,r1,q1⟩=>?_)
 obtain⟨a,ks,xs,rfl,el,hd,q⟩:=q1;cases r1;obtain⟨z,hsm,vs,rel,o',es,ep,ho',r⟩:=(I1.hok a _ hd);have hat:s1.heap.DictAt (DM X.prog X.w) a vs ep:=⟨o',es,ho',r⟩;refine Calls.spliced_nil ?_;refine PySem.W.kdl_call (PySem.W.kdl_dict hsm) (I1.ok.hd hc) hat (by rw[<- zo4 rel];exact z) λh' tk acc' c' hk hD hacc=>?_
 have hkeys:=YZ el rel;refine⟨.ref _,_,I1.laid hk (ya8 _) ?_,rfl,q _ (I1.hok.fresh (ya8 _))⟩;refine⟨by rw[ya1,<- YX el];exact z,acc'.toList,c',?_,by rw[hD]⟩
 have hlen:acc'.toList.length=ks.length:=by
  rw[Array.length_toList,hacc.1,<- ya1,hkeys,ya1]
 have key:∀(n ) (k ) (v ),ks[n]?=some k->acc'.toList[n]?=some v->∃t,v=Value.str k t:=λn k v h1 h2=>by
  obtain⟨k',x',e1,e2⟩:=hacc.2 n v (by rw[<- Array.getElem?_toList];exact h2)
  have e3:(vs.map (·.1))[n]?=some k':=by rw[ya7,e1];rfl
  rw[hkeys,ya7,h1]at e3;have e4 :=(yal e3).symm;subst e4
  rcases FC (show G4 (Sum.inr k) v=true from e2) with ⟨i,t,e5,_⟩|⟨x,t,e5,e6⟩
  .cases e5
  .cases e5;exact⟨t,e6⟩
 clear hD hk hacc
 generalize acc'.toList=as at hlen key
 clear hd q hkeys
 have go:∀(ks:List Str) (as ),as.length=ks.length->(∀(n:Nat) (k ) (v ),ks[n]?=some k->as[n]?=some v->∃t,v=Value.str k t)->Ad (ks.map V.str) as:=by
  intro ks
  induction ks with
  |nil =>
   intro as hl _;cases as with
   |nil=>exact .nil
   |cons _ _=>simp at hl
  |cons k ks ih =>
   intro as hl key;cases as with
   |nil=>simp at hl
   |cons v as=>exact .cons (key 0 k v rfl rfl) (ih as (by simpa using hl) λn k v h1 h2=>key (n+1) k v (by simpa using h1) (by simpa using h2))
 exact go ks as hlen key
def G0(m:AL):AL:=λτ=>match m τ with
 |some (.v (.obj (.sdc ks) _) _)=>some (.v (.own (ks.map T.str)) false)
 |_=>none
theorem zh6{K}(ks:List Str):Aw K F (ks.map T.str) (ks.map V.str):=⟨by simp,λi t x h1 h2=>by
 rw[ya7]at h1 h2;cases h:ks[i]? with
 |none=>grind
 |some k =>
  rw[h]at h1 h2;cases h1;cases h2;exact .str k⟩
theorem r_kys(hc:X.calm=true)(hg:Gl X "list")(hm:X.mg "list"=none)(ho:PE X o (tM X.K E ca m))(hs:starEach [o] X.env=[(false,eval o X.env)]):PE X (.Call (.Name "list" p) [o] [] p2) (tM X.K E ca (G0 m)):=by
 refine PE.weak (zna hc hg hm ho hs) λσ H Q h=>?_
 obtain⟨F,τ,R,S,q⟩:=h;refine⟨F,τ,R,S,?_⟩;unfold G0 at q;cases hm2:m τ with
 |none=>rw[hm2]at q;exact q.elim
 |some r =>
  rw[hm2]at q;cases r with
  |x c=>exact q.elim
  |v t b =>
   cases t with
   |obj kd l =>
    cases kd with
    |sdc ks =>
     intro F1 H1 x B e1 g1;obtain⟨r1,hB⟩:=MA g1;subst hB;obtain⟨a,xs,rfl,_,⟨hl1,hF⟩,el,cc⟩:=r1.obj_inv;refine⟨a,ks,xs,rfl,hl1,e1.fh _ _ hF,λp hp=>?_⟩
     have gg:Cd X.K F1 H1 (.own (ks.map T.str)) Q:=λF' H' z C e g=>q F' H' z C (e1.trans0 e) g
     exact gg.list e1.fh (zh6 ks) hp
    |_=>exact q.elim
   |_=>exact q.elim
structure ICls(K:k6)(C:Addr):Prop where
 c:Cls K C
 a:PySem.W.findIn K (.ref C) "__class__"=some (some (.builtin "object.__class__"))
 n:PySem.W.specialIn K (.builtin "object.__class__") "__get__"=some (some (.builtin "getset_descriptor.__get__"))
 k:PySem.W.takesIn K (.builtin "object.__class__")=some true
 m:PySem.W.mroIn K C (.type "object")=some true
def QK(tb:List (Addr×Bool)):Ob->Option T
 |.ins C _=>(tb.lookup C).map .bl
 |_=>none
def Kq:List String:=["NoneType","bool","int","str","list","tuple","dict"]
def Jl(tb:List (Addr×Bool)):T->Option T
 |.obj o _=>QK tb o
 |t=>(Kr t).map λ_=>.bl false
theorem zil(hC:ICls X.K C)(hk:PySem.W.kitOne X.K (.ref C) (.ref D)=some b):Bs X (.builtin "isinstance") (λxs H Q=>∃a dx fs,xs=[.ref a,.ref D]/\H a=some (.ins C dx fs)/\Q (.bl b) H):=by
 intro pins s σ H xs us Q I r h;obtain⟨a,dx,fs,rfl,e,q⟩:=h;obtain⟨u,w',rfl,rx,ry⟩:=Hw r;cases ry;exact QJ I rx (.ins e hC.c hC.a hC.n hC.k hC.m) hk λtk=>⟨.bl b,H,I.tok _,rfl,q⟩
theorem r_isC(hC:(∀C b,tb.lookup C=some b->ICls X.K C/\PySem.W.kitOne X.K (.ref C) (.ref D)=some b)/\(Kq.all λa=>PySem.W.kitOne X.K (.type a) (.ref D) == some false)=true)(hg:Gl X "isinstance")(hm:X.mg "isinstance"=none)(hgc:Gl X c)(hmc:X.mg c=some (.ref D))(hd:(c == "__debug__")=false)(ha:PE X e (tM X.K E ca m))(he:starEach [e,.Name c p2] X.env=(false,eval e X.env)::starEach [.Name c p2] X.env) :
  PE X (.Call (.Name "isinstance" p) [e,.Name c p2] [] pos) (tM X.K E ca (Bn (g1 (Jl tb)) (AB m AE))):=by
 have hR:Bs X (.builtin "isinstance") (λxs H Q=>(∃C b a dx fs,tb.lookup C=some b/\xs=[.ref a,.ref D]/\H a=some (.ins C dx fs)/\Q (.bl b) H)\/∃x a,xs=[x,.ref D]/\a∈Kq/\(TyOf X.K H x (.type a)\/a="dict"/\∃p ob kvs,x=.ref p/\H p=some (.frz ob (.dK kvs)))/\Q (.bl false) H):=λpins s σ H xs us Q I r h=>by
  rcases h with ⟨C,b,a,dx,fs,hl,h⟩|⟨x,a,rfl,hm,ty,q⟩
  .exact zil (hC.1 C b hl).1 (hC.1 C b hl).2 pins s σ H xs us Q I r ⟨a,dx,fs,h⟩
  .have hk :=eq_of_beq (yab.mp hC.2 a hm);obtain⟨u,w',rfl,rx,ry⟩:=Hw r;cases ry
   rcases ty with ty|⟨rfl,p,ob,kvs,rfl,hp⟩
   .exact QJ I rx ty hk λtk=>⟨.bl false,H,I.tok _,rfl,q⟩
   .cases rx;exact Yb I hp hk λtk=>⟨.bl false,H,I.tok _,rfl,q⟩
 refine PE.weak (LU hR hg hm PyProof.Rows.boot_isinstance (Eu ha (Eu (Vr (v:=.ref D) hgc hmc rfl hd) Fl) he) (by decide) (by decide) he rfl) λσ H Q h=>?_
 refine(Gu (Gv h)).mono λx H1 h1=>?_
 obtain⟨F,ts,w,fh,rs,e,q⟩:=Gs h1;unfold g1 at e;split at e
 .obtain⟨x1,xs1,e1,r1,rs1⟩:=rs.inv;cases e1;unfold Jl at e;split at e
  .unfold QK at e;split at e
   .obtain⟨b,hb,rfl⟩:=yad.mp e;obtain⟨a,xs,rfl,_,⟨dx,hF⟩,_,_⟩:=r1.obj_inv;exact .inl ⟨_,b,a,dx,_,hb,rfl,fh _ _ hF,q.bl fh⟩
   .cases e
  .obtain⟨a,ha,rfl⟩:=yad.mp e;obtain⟨ty,hm⟩:=TR fh r1 ha;exact .inr ⟨_,a,rfl,hm,ty,q.bl fh⟩
 .cases e
end
open Classical in
def HB(i:Nat)(mk m:AL):AJ:=λτ=>match m τ with
 |some (.v t false)=>(match FR (τ.getD i none) with
  |some (ks,l)=>(match mk τ with
   |some (.v (.str k) _)=>if k∉ks/\ks.length<100000 then some (.nx (τ.set i (some (.osd (ks++[k]) (l++[t]))))) else none
   |some (.v _ _)=>none
   |some (.x c)=>some (.xc c τ)
   |none=>none)
  |none=>none)
 |some (.v _ true)=>none
 |some (.x c)=>some (.xc c τ)
 |none=>none
theorem WA{τ:AV}(h:FR (τ.getD i none)=some (ks,l)):τ[i]?=some (some (.osd ks l)):=by
 have:=WB h;rw[yag]at this;cases e:τ[i]? with
 |none=>rw[e]at this;cases this
 |some o=>rw[e]at this;rw[<- this];rfl
section
variable {X:Cx}{E:L2.St->XK}{ca:Str->Value}{m mk:AL}{e k:Expr}{pos p1 pos2 pos3:Pos}{mu:Bool}{i j:Nat}{x f:Str}
theorem s_dps(hu:X.A.units+1<cLine)(hN:X.N[i]?=some x)(hv:DR X.env.scope x)(hd:(x == "__debug__")=false)(hcd:(x == "__classdict__")=false)(he:PE X e (tM X.K E ca m))(hk:PE X k (tM X.K E ca mk))(hs:swapsWithSole [.Subscript (.Name x p1) k pos2] e pos.line X.env=pure false)(hw:swappedStores [.Subscript (.Name x p1) k pos2] e X.env=pure none)
  (ha : ∀ v, assign (.Subscript (.Name x p1) k pos2) X.env v = (do
   let ov <- holding [v] (eval (.Name x p1) X.env);let iv <- holding [v,ov] (eval k X.env)
   standAt pos2
   holding [v,ov,iv] (setItem ov iv v)
   release [v,ov,iv] [])) :
  PS X (.Assign [.Subscript (.Name x p1) k pos2] e pos) (tS X.K E ca mu (HB i mk m)):=by
 refine PS.weak (LP he (OJ (GW hN hv hd hcd) hk (Tt hu) ha) hs hw rfl) λD σ H h=>?_
 obtain⟨F,τ,R,S,q⟩:=h;refine⟨F,τ,R,S,?_⟩;unfold HB at q;cases hm:m τ with
 |none=>simp only[hm]at q<;>exact q.elim
 |some r =>
  simp only[hm]at q;cases r with
  |x c=>exact λF' H' e=>q F' H' σ R e.stp0 (S.ext e)
  |v t bb =>
   cases bb with
   |true=>exact q.elim
   |false =>
    intro F1 H1 y B e1 g1;have g1' :=g1;simp only at q;cases ho:FR (τ.getD i none) with
    |none=>simp only[ho]at q<;>exact q.elim
    |some kl =>
     obtain⟨ks,l⟩:=kl;simp only[ho]at q;have S1:=S.ext e1;have ht:=WA ho;obtain⟨y2,ey,ry⟩:=S1.rep i _ ht;refine⟨y2,ey,F1,τ,R,S1,?_⟩;cases hkk:mk τ with
     |none=>simp only[hkk]at q<;>exact q.elim
     |some r =>
      simp only[hkk]at q;cases r with
      |x c=>exact λF' H' e=>q F' H' σ R ((e1.stp0).trans e.stp0) (S1.ext e)
      |v tk bk =>
       cases tk with
       |str kk =>
        simp only at q
        by_cases hc:kk∉ks/\ks.length<100000
        .rw[if_pos hc]at q;intro F2 H2 z C e2 g2;have hz:=HV g2;subst hz;have S2:=S1.ext e2;have ry2:=ry.ext e2;obtain⟨p,xs,Rs,rfl,hA,fp,hp,rs,ek,ds⟩:=ry2.osd_inv;have g2' :=g1'.ext e2;have hB:∀j a,R j a->¬ B a:=λj a z1 z2=>S.apart e1 z2 j z1
         have pB:¬ B p:=hB i p (by rw[hA];exact .inl rfl)
         refine⟨p,Ca ks xs,kk,rfl,rfl,hp,?_,?_⟩
         .rw[YY ek,<- ek,ydv];exact yck hc.2 (by decide)
         .rw[Vk ek hc.1];have r3:=Vy (k:=kk) rs ek fp ds g2' (λj a z1 z2=>hB i a (by rw[hA];exact .inr ⟨j,z1⟩) z2) pB
          obtain⟨S3,st3⟩:=S2.upd ht ey (by rw[hA];exact .inl rfl) r3 (λa z=>by
           rw[hA]
           rcases z with z|z
           .exact .inl (.inl z)
           .rcases Nm z with w|w
            .exact .inl (.inr w)
            .exact .inr w) hB
          exact q F2 _ σ _ ((e1.stp.trans e2.stp0).trans st3) S3
        .rw[if_neg hc]at q;exact q.elim
       |_=>exact λF' H' z CC e2 g2=>q.elim
def GX(l:List T)(j:Nat):Option (List T):=match l[j]? with
 |some (.nd true .lst v)=>some v
 |_=>none
theorem zea(h:GX l j=some v):l[j]?=some (.own v):=by
 unfold GX at h
 grind
def J0(i:Nat)(mk m:AL):AJ:=λτ=>match FR (τ.getD i none) with
 |some (ks,l)=>(match mk τ with
  |some (.v (.str y) false)=>(match CB ks y with
   |some j=>(match GX l j with
    |some v=>(match m τ with
     |some (.v t false)=>if v.length<Bp/\t.sh=true then some (.nx (τ.set i (some (.osd ks (l.set j (.own (v++[t]))))))) else none
     |_=>none)
    |none=>none)
   |none=>none)
  |_=>none)
 |none=>none
theorem s_dap(hu:X.A.units+1<cLine)(hN:X.N[i]?=some x)(hv:DR X.env.scope x)(hd:(x == "__debug__")=false)(hcd:(x == "__classdict__")=false)(hk:PE X k (tM X.K E ca mk))(hsl:JG k)(he:PE X e (tM X.K E ca m))(hs:starEach [e] X.env=[(false,eval e X.env)])(hline:(apos.endLine == cpos.line)=true) :
  PS X (.Expr (.Call (.Attribute (.Subscript (.Name x p1) k pos2) "append" apos) [e] [] cpos) pos) (tS X.K E ca mu (J0 i mk m)):=by
 refine PS.weak (OF (OK ycu PySem.F.slot_list_append PySem.F.type_list_append Xu (LS (Y6 hu) (GW hN hv hd hcd) hk hsl) (Eu he Fl hs) rfl (by rw[hs];rfl) hline hs rfl) rfl) λD σ H h=>?_
 obtain⟨F,τ,R,S,q⟩:=h;unfold J0 at q;cases ho:FR (τ.getD i none) with
 |none=>simp only[ho]at q<;>exact q.elim
 |some kl =>
  obtain⟨ks,l⟩:=kl;simp only[ho]at q;have ht:=WA ho;obtain⟨y2,ey,ry⟩:=S.rep i _ ht;refine⟨y2,ey,F,τ,R,S,?_⟩;cases hkk:mk τ with
  |none=>simp only[hkk]at q<;>exact q.elim
  |some r =>
   simp only[hkk]at q;cases r with
   |x c=>exact q.elim
   |v tk bk =>
    cases bk with
    |true=>cases tk<;>exact q.elim
    |false =>
    cases tk with
    |str kk =>
     simp only at q;intro F1 H1 z C e1 g1;have hz:=HV g1;subst hz;cases hj:CB ks kk with
     |none=>simp only[hj]at q<;>exact q.elim
     |some j =>
      simp only[hj]at q;cases hv2:GX l j with
      |none=>simp only[hv2]at q<;>exact q.elim
      |some v =>
       simp only[hv2]at q;have hlj:=zea hv2;have S1:=S.ext e1;have ry1:=ry.ext e1;obtain⟨p,xs,Rs,rfl,hA,fp,hp,rs,ek,ds⟩:=ry1.osd_inv;have hjl:=(ya2.mp hlj).1;have hjx:j<xs.length:=by rw[<- rs.len];exact hjl
       have hx :=ya0 hjx;have rk:=rs.rep j _ _ hlj hx;obtain⟨pd,ys,Rr,exj,hAd,fpd,hpd,ro,dr,_⟩:=rk.own_inv;refine⟨p,_,kk,xs[j],rfl,rfl,hp,N2 hj hx,?_⟩;rw[exj];refine⟨.inl ⟨rfl,ys,Al.of hpd⟩,F1,τ,R,S1,?_⟩;cases hm:m τ with
       |none=>simp only[hm]at q<;>exact q.elim
       |some r =>
        simp only[hm]at q;cases r with
        |x c=>exact q.elim
        |v t bb =>
         cases bb with
         |true=>exact q.elim
         |false =>
          intro F2 H2 y B e2 g2;have g2':=g2;simp only at q
          by_cases hz:v.length<Bp/\t.sh=true
          .rw[if_pos hz]at q;have hB:=Rp.r0 g2' hz.2;subst hB;have S2:=S1.ext e2;have rs2:=rs.ext e2;have ry2:=ry1.ext e2;have ro2:=ro.ext e2;have hpd2:=e2.hh _ _ hpd;have fp2:=(ry2.dom (by rw[hA];exact .inl rfl)).1
           have hp2:=e2.hh _ _ hp;have pdj:Rs j pd:=by rw[hAd];exact .inl rfl
           have pne:pd≠p:=λz=>ds j (z▸pdj)
           have fpd2:=(rs2.dom pdj).1;refine⟨pd,ys,y,rfl,rfl,hpd2,by rw[<- ro.len,<- Fx];exact hz.1,?_⟩
           have ro3:RpO X.K F2 (upd H2 pd (.lst (ys++[y]))) (v++[t]) (ys++[y]) _:=(ro2.upd dr).snoc (B:=R0) (g2'.upd (λz=>z.elim)) λ_ _ _ z=>z.elim
           have r3:=J3 (k:=.lst) trivial ro3 fpd2 Cf λj z=>by
            by_cases hj:j=v.length
            .simp only[hj,ye0]at z;exact z.elim
            .simp only[hj,ye8]at z;exact dr j z
           have hE:(λa=>a=pd\/∃j,(if j=v.length then R0 else Rr j) a)=Rs j:=by
            rw[hAd]
            funext a
            apply propext;constructor
            .rintro(z|⟨j,z⟩)
             .exact .inl z
             .split at z
              .exact z.elim
              .exact .inr ⟨j,z⟩
            .rintro(z|⟨j,z⟩)
             .exact .inl z
             .exact .inr ⟨j,by rw[if_neg (yah (ro.out j a z))];exact z⟩
           rw[hE]at r3;have oth :=λk hk z=>rs2.dis k j pd hk z pdj
           have rs3:RpO X.K F2 (upd H2 pd (.lst (ys++[y]))) (l.set j (.own (v++[t]))) xs Rs:=by
            refine⟨by rw[yc0];exact rs2.len,λk t' x' h1 h2=>?_,rs2.dis,λk a z=>by rw[yc0];exact rs2.out k a z⟩
            by_cases hk:k=j
            .subst hk;rw[yam hjl]at h1;rw[hx]at h2;cases h1;cases h2;rw[exj];exact r3
            .rw[yak (yao hk)]at h1;exact(rs2.rep k t' x' h1 h2).upd (oth k hk)
           have r4:=Vz rs3 ek fp2 (by rw[BG (yao pne)];exact hp2) ds
           obtain⟨S3,st3⟩:=S2.upd (B:=R0) ht ey (by rw[hA];exact .inr ⟨j,pdj⟩) r4 (λa z=>.inl (by rw[hA];exact z)) (λj a z1 z2=>z2)
           exact q F2 _ σ _ ((e1.stp0.trans e2.stp).trans st3) S3
          .rw[if_neg hz]at q;exact q.elim
    |_=>exact q.elim
end
end Pu
namespace Zx
open PySem PySem.Spec PyProof.Rows L2 Zw
section
variable {A:Around}{E:Value->Shared->Prop}{M:Model}
end
section
variable {X:Cx}{i1 i2:Nat}{x1 x2 n1 n2:Str}{np1 np2 pos hpos1 hpos2:Pos}{body suite1 suite2:List Stmt}{b1 b2:Stmt}{tb th1 th2:TS}{E:L2.St->XK}
end
end Zx
namespace Pu
open PySem PySem.Spec PyProof.Rows L2 Zw Zx
section
variable {X:Cx}{E:L2.St->XK}{ca:Str->Value}{mu:Bool}{i1 i2:Nat}{x1 x2 n1 n2:Str}{np1 np2 pos hpos1 hpos2:Pos}{body suite1 suite2:List Stmt}{b1 b2:Stmt}{u h1 h2:AJ}{cs1 cs2:List (Str×Addr)}
end
section
variable {X:Cx}{E:L2.St->XK}{ca:Str->Value}{m:AL}{e:Expr}{pos p p2 p3 p4:Pos}{c1 c2:Str}{t1 t2:List (Addr×Bool)}{kt:Nat}
end
section
variable {X:Cx}{E:L2.St->XK}{ca:Str->Value}{m mk ma:AL}{o k e a:Expr}{pos apos cpos p p2:Pos}
end
section
variable {X:Cx}{E:L2.St->XK}{ca:Str->Value}{m mk:AL}{o k e:Expr}{pos pos' apos cpos:Pos}
end
abbrev Yh(ms:BM):BM:=CV ms
theorem r_enX{X:Cx}{E:L2.St->XK}{ca:Str->Value}{ms:BM}{a:Expr}{elts:List Expr}{kk:Nat}{p pos tpos:Pos}(hg:Gl X "enumerate")(hm:X.mg "enumerate"=none)(ha:PA X [a] (CF X.K E ca ms))(hs:starEach [a] X.env=[(false,eval a X.env)]):PI X (.Tuple elts kk tpos) (.Call (.Name "enumerate" p) [a] [] pos) (tI X.K E ca (Yh ms)):=Vb hg hm ha hs
def clsO(C N:Addr)(o:Obj):Prop:=∃nm q bs hdct sn sub ab col dd k0 k1 k2 k3 k5 newId,o=excClassObj nm q C N bs [.type "object"] hdct sn sub ab col dd k0 k1 k2 k3 k5 newId
noncomputable def keyO(e:DictEntry):Bool:=match e.key with
 |.str n _=>!(n == ("__eq__":Str)) && !(n == ("__ne__":Str))
 |_=>false
def nsO(o:Obj):Bool:=match o.data with
 |.dict es _=>es.toList.all keyO
 |_=>false
structure TiOk(K:k6)(C:Addr):Prop where
 i:ICls K C
 k:(Hy.all λc=>PySem.W.kitOne K (.ref C) (.type c) == some false)=true
 o:∃(oC oN:Obj) (N:Addr),K.lookup C=some oC/\clsO C N oC/\K.lookup N=some oN/\nsO oN=true
end Pu
namespace Zx
open PySem PySem.Spec PyProof.Rows L2 Zw
section
variable {M:Model}{prog:Program}{w:World}{A:Around}{E:Value->Shared->Prop}{env:Env}{nm q:Str}{C N:Addr}{bs bm:List Value}{hdct:Bool}{sn:List Str}{sub:List Value}{ab:Bool}{col:Option Bool}{dd:Option Addr}{k0 k1 k2 k3 k5:Option Value}{newId:String}
end
section
variable {K:k6}{prog:Program}{w:World}{A:Around}{E:Value->Shared->Prop}{s:Shared}{e C:Addr}{vs:Array Value}{sl:Array (Option Value)}{name:Str}{v:Value}
end
section
variable {K:k6}{prog:Program}{w:World}{A:Around}{E:Value->Shared->Prop}{s:Shared}{a C:Addr}{name:Str}{u:Value}
end
section
variable {X:Cx}{pins:List (Addr×Obj)}{σ:L2.St}{H:Hp}{s:Shared}{A:Around}{E:Value->Shared->Prop}{a C t:Addr}
end
section
variable {X:Cx}{E:L2.St->XK}{C:Addr}{x:Str}{p pos:Pos}{e:Expr}{t:TA}{k j:Nat}
end
section
variable {X:Cx}{pins:List (Addr×Obj)}{σ:L2.St}{H:Hp}{s:Shared}{a C t:Addr}{dx:Option Addr}
end
section
variable {X:Cx}{E:L2.St->XK}{e:Expr}{pos:Pos}{te:TE}
end
end Zx
noncomputable section
namespace Pu
open PySem PySem.Spec PyProof.Rows L2 Zw Zx
structure Fn where
 lv:Nat
 ps:List Str
 g:List T->Option Ru
structure Gx where
 co:List (Str×T)
 cl:List (Str×Addr×List Str)
 mt:List (Str×Addr×List Str×Fn)
 nw:List (Str×Fn×List (Nat×List T))
 nr:Bool
 tx:Bool
 df:Bool
 sf:Option (Addr×List Str)
 xs:List (Str×List (Str×Addr))
 sb:List (Str×List (Addr×Bool))
 sv:List (Str×List (Addr×Bool))
 no:Bool
 fo:List Str
 ci:List (Str×List (Addr×Bool))
 x2:List (Str×Str×List (Str×Addr))
 gt:List Str
 wd:List (Str×Fn)
 pn:List Str
 ti:List Addr
 dn:List (Str×Fn×List T)
 rn:Option (Addr×Nat)
noncomputable abbrev Bw:Gx:=⟨[],[],[],[],false,true,true,none,[],[],[],true,[],[],[],[],[],[],[],[],none⟩
structure Gm where
 N:List Str
 nm:List (Str×NameKind)
 ce:List Str
 lv:Nat
 fns:List (Str×Fn)
 bl:List Str
 ex:List Str
 ow:List Str
 pk:List Str
 mu:Bool
 mus:List (Str×Fn)
 mv:List Str
 dc:List Str
 ox:Gx
noncomputable def DK(x:Str):Bool:=!(x == ("__debug__":Str)) && !(x == ("__classdict__":Str)) && !(x == ("__name__":Str))
def N1(nm:List (Str×NameKind))(x:Str):Bool:=nm.lookup x == some .local || nm.lookup x == some .cell || nm.lookup x == some .free
def C0(nm:List (Str×NameKind))(x:Str):Bool:=nm.lookup x == some .globalImplicit
noncomputable def FD(N:List Str)(x:Str):Option Nat:=N.findIdx? (· == x)
def Gm.var(Γ:Gm)(x:Str):Option Nat:=if DK x && N1 Γ.nm x then FD Γ.N x else none
def Gm.loc(Γ:Gm)(x:Str):Bool:=DK x && (Γ.nm.lookup x == some .local || Γ.ce.contains x)
def EU:Expr->Bool
 |.Starred ..=>false
 |_=>true
def Fo:Expr->Bool
 |.IfExp ..=>false
 |.NamedExpr ..=>false
 |_=>true
noncomputable def nmOf:Expr->Option (Str×Pos)
 |.Name x p=>some (x,p)
 |_=>none
def N9:List Expr->List Str
 |[]=>[]
 |e::es=>(match nmOf e with
  |some (x,_)=>x::N9 es
  |none=>N9 es)
def DV:Expr->List Str
 |.Name x _=>[x]
 |.Tuple es _ _=>N9 es
 |_=>[]
def zoe:Expr->Bool
 |.Tuple ..=>true
 |_=>false
def G5:Expr->Bool
 |.Slice ..=>true
 |_=>false
def De(nm:List (Str×NameKind)):List Str:=nm.filterMap λ(y,k)=>if k == .free then some y else none
def RE(nm:List (Str×NameKind)):List Str:=nm.filterMap λ(y,k)=>if k == .cell then some y else none
noncomputable def J1(inner outer:List (Str×NameKind)):List (Str×NameKind):=inner.map λ(n,k)=>if (k == .free && outer.lookup n == some .cell) then (n,.cell) else (n,k)
def Jz(N:List Str):List Str->Option (List Nat)
 |[]=>some []
 |y::r=>(match FD N y with
  |some i=>(match Jz N r with
   |some l=>some (i::l)
   |none=>none)
  |none=>none)
def KC(Γ:Gm)(scope:Scope)(N':List Str):Bool :=
 (scope.kind == .function) && scope.names.all (λx=>!(x.2 == .local) || scope.names.lookup x.1 == some .local) &&
 scope.names.all (λx=>!(x.2 == .free) || (scope.names.lookup x.1 == some .free && (Γ.nm.lookup x.1 == some .cell || Γ.nm.lookup x.1 == some .free) && !(scope.names.contains (x.1,NameKind.cell)))) &&
 decide N'.Nodup && (RE scope.names).all (λy=>(J1 scope.names Γ.nm).lookup y == some .cell)
def Gm.blk(Γ:Gm)(scope:Scope)(N':List Str):Gm:={ Γ with N:=N',nm:=J1 scope.names Γ.nm,ce:=(RE scope.names).filter λy=>scope.names.lookup y == some .cell,ow:=[],ox:={ Γ.ox with df:=false,nr:=true } }
def OV:Expr->Bool
 |.Set ..=>false
 |_=>true
def HR:Expr->Bool
 |.ListComp ..=>true
 |.SetComp ..=>true
 |.DictComp ..=>true
 |_=>false
noncomputable def Yd:Expr->Bool
 |.Attribute ..=>true
 |_=>false
def gtN(Γ:Gm):Expr->Bool
 |.Name x _=>Γ.ox.gt.contains x
 |_=>false
def GV:Expr->Bool
 |.Call _ es _ _=>!es.isEmpty
 |_=>true
theorem Rz(h:GV o=true):attributeBase o f env (eval o env)=eval o env:=by
 cases o with
 |Call g es ks c =>
  cases es with
  |nil=>cases h
  |cons e es=>cases g<;>rfl
 |_=>rfl
theorem zfl(h:GV o=true)(hf:((backTo pos (starEach es env)).all λx=>!x.1)=true)(hn:es.length<30)(hl:(ap.endLine == pos.line)=true):∃pl ,eval (.Call (.Attribute o f ap) es [] pos) env=(do
   let ov <- eval o env
   standAt ap.atName
   let (f,first) <- holding [ov] (getMethod ov f pl)
   callWith pos f first (backTo pos (starEach es env)) (backToKw pos (keywordEach [] env))):=by
 refine⟨do let b <- importBound o env;pure (b.getD true),?_⟩
 have e:methodCallForm (es.length+([]:List Keyword).length) (backTo pos (starEach es env)) (backToKw pos (keywordEach [] env))=true:=by
  unfold methodCallForm;rw[hf];show(true && true && decide (es.length+0+0<30))=true
  grind
 rw[arm_eval_Call,Rz h];unfold methodCall calleeOf methodCallPos;grind
structure GxOk(G:Gx)(lv:Nat)(P:Program)(w:World)(K:k6)(mg:Str->Option Value)(base:Heap)(ca:Str->Value):Prop where
 co:∀x t,G.co.lookup x=some t->∃u v,mg x=some u/\Af v u/\∀F:Hp,Rp K F F t v R0
 cl:∀c∈G.cl,Cls K c.2.1/\∀f∈c.2.2,Bv K c.2.1 f
 mt:∀c∈G.mt,c.2.2.2.lv<=lv/\Nonempty (MetX P w K mg base c.2.1 c.1 c.2.2.2.lv c.2.2.2.ps (Bq K ca c.2.2.2.g))
 nw:∀x F ds,G.nw.lookup x=some (F,ds)->F.lv+1<=lv/\∃(C:Addr) (D:NewX P w K mg base x C F.lv F.ps (JY K ca C F.g)),∀k dts,ds.lookup k=some dts->∃dvs us,CO K D.fd F.ps us/\Ad dvs us/\∀H:Hp,Aw K H dts dvs
 sf:∀C fs,G.sf=some (C,fs)->Cls K C/\∀f∈fs,Bv K C f
 xs:∀W cs,G.xs.lookup W=some cs->∃T:ECls K mg W,∀c C,cs.lookup c=some C->ca c=.ref C/\PySem.W.subIn K (.ref C) (.ref T.C)=some true
 sb:∀D tb,G.sb.lookup D=some tb->∃A:Addr,mg D=some (.ref A)/\∀C b,tb.lookup C=some b->ExcK K C/\PySem.W.kitOne K (.ref C) (.ref A)=some b
 sv:∀D tb,G.sv.lookup D=some tb->mg D=none/\∃t,bootBuiltins D=some (.type t)/\∀C b,tb.lookup C=some b->ExcK K C/\PySem.W.kitOne K (.ref C) (.type t)=some b
 ci:∀x tb,G.ci.lookup x=some tb->∃D:Addr,mg x=some (.ref D)/\(∀C b,tb.lookup C=some b->ICls K C/\PySem.W.kitOne K (.ref C) (.ref D)=some b)/\(Kq.all λa=>PySem.W.kitOne K (.type a) (.ref D) == some false)=true
 x2:∀W1 W2 cs,(W1,W2,cs)∈G.x2->∃(T1:ECls K mg W1) (T2:ECls K mg W2),∀c C,cs.lookup c=some C->ca c=.ref C/\PySem.W.subIn K (.ref C) (.ref T1.C)=some false/\PySem.W.subIn K (.ref C) (.ref T2.C)=some true
 wd:∀x F,G.wd.lookup x=some F->F.lv<=lv/\∃p,F.ps=[p]/\Nonempty (DefS P w K mg base F.lv x p (Bq K ca F.g))
 ti:∀C∈G.ti,TiOk K C
 dn:∀x y,G.dn.lookup x=some y->y.1.lv<=lv/\∃(D:DefX P w K mg base y.1.lv x y.1.ps (Bq K ca y.1.g)) (dvs:List V),DefsX K D.fd y.1.ps dvs/\∀H:Hp,Aw K H y.2 dvs
 rn:True
structure CxOk(Γ:Gm)(X:Cx)(E:L2.St->XK)(ca:Str->Value):Prop where
 N:X.N=Γ.N
 nd:Γ.N.Nodup
 nm:X.env.scope.names=Γ.nm
 kd:X.env.scope.kind=.function
 calm:X.calm=true
 room:Room Γ.lv X.A
 ce:∀x∈Γ.ce,X.fn x=true/\Γ.nm.lookup x=some .cell
 bl:∀b∈Γ.bl,X.mg b=none
 ps:Bg X E
 po:Γ.ox.nr=false->PassesOwn (model X.prog X.w) X.A X.env X.xe
 md:Γ.ox.nr=false->SX X E
 mn:True
 fs:∀f F,Γ.fns.lookup f=some F->F.lv<=Γ.lv/\Nonempty (DefX X.prog X.w X.K X.mg X.base F.lv f F.ps (Bq X.K ca F.g))
 ex:∀c∈Γ.ex,∃T:ECls X.K X.mg c,ca c=.ref T.C/\D0 X.K T.C=some none
 ms:∀f F,Γ.mus.lookup f=some F->F.lv<=Γ.lv/\Nonempty (DefX X.prog X.w X.K X.mg X.base F.lv f F.ps (Fe X.K ca F.g))
 gx:GxOk Γ.ox Γ.lv X.prog X.w X.K X.mg X.base ca
 tr:Γ.ox.df=true->X.stack=X.env::X.outer/\X.env.frame=some X.env.locals
 fr:Ho X
theorem Ji(h:FD N x=some i):N[i]?=some x:=by
 obtain⟨h1,h2,_⟩:=yax.mp h
 grind
theorem Dq(h:DK x=true):(x == "__debug__")=false/\(x == "__classdict__")=false/\x≠"__name__":=by
 unfold DK at h
 grind
theorem TB(h:N1 sc.names x=true):DR sc x:=by
 unfold N1 at h;simp only[yc2,beq_iff_eq]at h
 rcases h with (h|h)|h
 .exact .inl h
 .exact .inr (.inl h)
 .exact .inr (.inr h)
theorem Cy(h:EU e=true):starEach (e::es) env=(false,eval e env)::starEach es env:=by
 cases e<;>first|rfl|cases h
theorem GK:∀{es} {env} {pos},(∀e∈es,EU e=true)->(backTo pos (starEach es env)).any (·.1)=false
 |[],env,pos,_=>rfl
 |e::es,env,pos,h=>by
  rw[Cy (h e (ya9 ..))];have ih:=GK (env:=env) (pos:=pos) λx hx=>h x (ya6 _ hx)
  show(false || (backTo pos (starEach es env)).any (·.1))=false
  grind
section
variable {Γ:Gm}{X:Cx}{E:L2.St->XK}{ca:Str->Value}
theorem CxOk.var(C:CxOk Γ X E ca){pos:Pos}(h:Γ.var x=some i):X.N[i]?=some x/\DR X.env.scope x/\(x == "__debug__")=false/\(x == "__classdict__")=false:=by
 unfold Gm.var at h;split at h
 .rename_i hp;rw[ya3]at hp;obtain⟨p1,p2,p3⟩:=Dq hp.1;exact⟨by rw[C.N];exact Ji h,TB (by rw[C.nm];exact hp.2),p1,p2⟩
 .cases h
theorem CxOk.gl(C:CxOk Γ X E ca)(h:C0 Γ.nm x=true):Gl X x:=by
 show X.env.scope.names.lookup x=some .globalImplicit;rw[C.nm];exact eq_of_beq h
theorem CxOk.loc(C:CxOk Γ X E ca)(h:Γ.loc x=true)(hi:FD Γ.N x=some i):X.N[i]?=some x/\Gi X.env.scope x/\(X.fn x=true\/X.env.scope.names.lookup x=some .local):=by
 unfold Gm.loc at h;simp only[ya3,yc2,beq_iff_eq]at h;refine⟨by rw[C.N];exact Ji hi,?_⟩
 rcases h.2 with h|h
 .exact⟨.inl (by rw[C.nm];exact h),.inr (by rw[C.nm];exact h)⟩
 .obtain⟨c1,c2⟩:=C.ce x (yaq.mp h);exact⟨.inr (by rw[C.nm];exact c2),.inl c1⟩
theorem CxOk.nodup(C:CxOk Γ X E ca):X.N.Nodup:=by rw[C.N];exact C.nd
theorem YM(C:CxOk Γ X E ca)(h1:Γ.loc x=true)(h2:FD Γ.N x=some i):PG X (.Name x pos) (EL X.K (AD i)):=by
 obtain⟨g1,g2,g3⟩:=C.loc h1 h2;exact g_nm C.nodup g1 g2 g3
theorem aP:∀{ys} {caps},Jz N ys=some caps->ys.length=caps.length/\∀(k j:Nat),caps[k]?=some j->∃y,ys[k]?=some y/\N[j]?=some y
 |[],caps,h=>by cases h;simp
 |y::r,caps,h=>by
  unfold Jz at h;split at h
  .rename_i i hi;split at h
   .rename_i l hl;cases h;obtain⟨h1,h2⟩:=aP hl;refine⟨by simp[h1],λk j e=>?_⟩
    cases k with
    |zero=>simp at e;subst e;exact⟨y,rfl,Ji hi⟩
    |succ k=>grind
   .cases h
  .cases h
theorem zg4(h:y∈De nm):(y,NameKind.free)∈nm:=by
 unfold De at h
 grind
theorem aY(C:CxOk Γ X E ca)(h:KC Γ scope (DV tg++De scope.names)=true)(hc:Jz Γ.N (De scope.names)=some caps):BlkOk X scope (DV tg++De scope.names) (DV tg).length caps:=by
 unfold KC at h;simp only[ya3]at h;obtain⟨⟨⟨⟨h1,h2⟩,h3⟩,h4⟩,h5⟩:=h;obtain⟨l1,l2⟩:=aP hc
 have free:∀y∈scope.names,y.2=.free->scope.names.lookup y.1=some .free/\(Γ.nm.lookup y.1=some .cell\/Γ.nm.lookup y.1=some .free)/\(y.1,NameKind.cell)∉scope.names:=λy hy hf=>by
  grind
 refine⟨eq_of_beq h1,λy hy hl=>?_,by simp[l1],λk j e=>?_,λy hy hf=>?_⟩
 .grind
 .obtain⟨y,e1,e2⟩:=l2 k j e;have fm:=zg4 (ybq e1);obtain⟨f1,_,f3⟩:=free _ fm rfl;refine⟨y,by rw[C.N];exact e2,?_,f1,f3⟩
  rw[ybe (by omega)]
  simpa using e1
 .obtain⟨f1,f2,_⟩:=free y hy hf;refine⟨f1,?_⟩;rw[C.nm];exact f2
theorem zh7(hk:env.scope.kind=.function):(relabel scope env).names=J1 scope.names env.scope.names:=by
 unfold relabel J1;have e:(env.scope.kind == ScopeKind.function)=true:=by rw[hk];rfl
 simp only[e,ydf]
 rfl
theorem mn0:True:=trivial
theorem a7(C:CxOk Γ X E ca){scope:Scope}{N':List Str}(h:KC Γ scope N'=true)(cl)(A:Addr)(s₀:Shared)(H₀:Hp)(ex:List Addr)(xb)(hp:Bg (BH X scope cl N' A s₀ H₀ ex xb) E'):CxOk (Γ.blk scope N') (BH X scope cl N' A s₀ H₀ ex xb) E' ca:=by
 unfold KC at h;simp only[ya3]at h;obtain⟨⟨⟨⟨h1,h2⟩,h3⟩,h4⟩,h5⟩:=h;refine⟨rfl,ye7 h4,?_,?_,C.calm,C.room,λx hx=>?_,C.bl,hp,λz=>(by cases z),λz=>(by cases z),mn0,C.fs,C.ex,C.ms,⟨C.gx.co,C.gx.cl,C.gx.mt,C.gx.nw,C.gx.sf,C.gx.xs,C.gx.sb,C.gx.sv,C.gx.ci,C.gx.x2,C.gx.wd,C.gx.ti,C.gx.dn,C.gx.rn⟩,λz=>(by cases z),C.fr⟩
 .show(relabel scope X.env).names=J1 scope.names Γ.nm;rw[zh7 C.kd,C.nm]
 .exact eq_of_beq h1
 .have hx':x∈(RE scope.names).filter λy=>scope.names.lookup y == some .cell:=hx
  rw[yd3]at hx';refine⟨ye1 (eq_of_beq hx'.2),?_⟩;exact eq_of_beq (yab.mp h5 x hx'.1)
end
theorem QY(h:OV e=true)(x):foldedSetIterable e env x=pure x:=by
 cases e<;>first|rfl|cases h
theorem LQ(h:G5 k=false):JG k:=λo i=>by
 cases k<;>first|rfl|cases h
theorem DL{b:Bool}(h:(!b)=true):b=false:=by cases b<;>first|rfl|cases h
noncomputable def gd{α:Type}:(b:Bool)->(b=true->Option α)->Option α
 |true,k=>k rfl
 |false,_=>none
noncomputable def oe{α β:Type}:(o:Option α)->((a:α)->o=some a->β)->β->β
 |some a,k,_=>k a rfl
 |none,_,d=>d
abbrev ob{α β:Type}(o:Option α)(k:(a:α)->o=some a->Option β):Option β:=oe o k none
structure ER(Γ:Gm)(e:Expr) where
 m:AL
 ok:∀{X:Cx} {E:L2.St->XK} {ca:Str->Value},CxOk Γ X E ca->PE X e (tM X.K E ca m)/\(Fo e=true->PT X e (B3 X.K E ca m))
structure AR(Γ:Gm)(es:List Expr) where
 m:BM
 ok:∀{X:Cx} {E:L2.St->XK} {ca:Str->Value},CxOk Γ X E ca->PA X es (CF X.K E ca m)
 st:∀e∈es,EU e=true
 nl:es=[]->m=AE
structure OR(Γ:Gm)(es:List Expr) where
 m:BM
 ok:∀{X:Cx} {E:L2.St->XK} {ca:Str->Value},CxOk Γ X E ca->PA X es (JU X.K E ca m)
structure BR(Γ:Gm)(op:BoolOp)(es:List Expr) where
 m:AL
 ok:∀{X:Cx} {E:L2.St->XK} {ca:Str->Value} {pos:Pos},CxOk Γ X E ca->PE X (.BoolOp op es pos) (tM X.K E ca m)/\PW X (.BoolOp op es pos) (B3 X.K E ca m)
structure PR(Γ:Gm)(o:Option Expr) where
 m:Option (AL)
 ok:∀{X:Cx} {E:L2.St->XK} {ca:Str->Value},CxOk Γ X E ca->PO X o (Gr X.K m)
structure LR(Γ:Gm)(elt tg iter:Expr)(ifs:List Expr)(scope:Scope) where
 m:AL
 ok:∀{X:Cx} {E:L2.St->XK} {ca:Str->Value},CxOk Γ X E ca->∃caps mi b mt me,m=BD (DV tg).length caps mi b mt me/\BlkOk X scope (DV tg++De scope.names) (DV tg).length caps/\PI X tg iter (tI X.K E ca mi) /\
   (∀ cl A s₀ H₀ ex xb E', Bg (BH X scope cl (DV tg ++ De scope.names) A s₀ H₀ ex xb) E' -> PG (BH X scope cl (DV tg ++ De scope.names) A s₀ H₀ ex xb) tg (EL X.K b) /\ Gh (BH X scope cl (DV tg ++ De scope.names) A s₀ H₀ ex xb) ifs (B3 X.K E' ca mt) /\
    PE (BH X scope cl (DV tg++De scope.names) A s₀ H₀ ex xb) elt (tM X.K E' ca me))/\∀x,foldedSetIterable iter X.env x=pure x
structure IR(Γ:Gm)(tg e:Expr) where
 m:BM
 ok:∀{X:Cx} {E:L2.St->XK} {ca:Str->Value},CxOk Γ X E ca->PI X tg e (tI X.K E ca m)
 ns:OV e=true
structure GR(Γ:Gm)(tg:Expr) where
 m:T->AV->Option AV
 ok:∀{X:Cx} {E:L2.St->XK} {ca:Str->Value},CxOk Γ X E ca->PG X tg (EL X.K m)
structure GsR(Γ:Gm)(es:List Expr) where
 m:List T->AV->Option AV
 ok:∀{X:Cx} {E:L2.St->XK} {ca:Str->Value},CxOk Γ X E ca->Dx X es (Gw X.K m)/\(assignEach es X.env).length=es.length/\(assignEach es X.env).findIdx? (·.1)=none
structure SR(Γ:Gm)(s:Stmt) where
 m:AJ
 ok:∀{X:Cx} {E:L2.St->XK} {ca:Str->Value},CxOk Γ X E ca->PS X s (tS X.K E ca Γ.mu m)
structure QR(Γ:Gm)(ss:List Stmt) where
 m:AJ
 ok:∀{X:Cx} {E:L2.St->XK} {ca:Str->Value},CxOk Γ X E ca->Be X ss (tS X.K E ca Γ.mu m)
structure Dc where
 e:(Γ:Gm)->(e:Expr)->Option (ER Γ e)
 a:(Γ:Gm)->(es:List Expr)->Option (AR Γ es)
 o:(Γ:Gm)->(es:List Expr)->Option (OR Γ es)
 b:(Γ:Gm)->(op:BoolOp)->(es:List Expr)->Option (BR Γ op es)
 s:(Γ:Gm)->(s:Stmt)->Option (SR Γ s)
 q:(Γ:Gm)->(ss:List Stmt)->Option (QR Γ ss)
theorem ER.t(r:ER Γ e)(h:Fo e=true)(C:CxOk Γ X E ca):PT X e (B3 X.K E ca r.m):=(r.ok C).2 h
def N8:Expr->Prop
 |.UnaryOp ..=>False
 |.BoolOp ..=>False
 |.IfExp ..=>False
 |.Compare ..=>False
 |_=>True
theorem ziw(h:N8 e)(whole):isTrue e env whole=(do let v <- whole;standAt e.pos;holding [v] (truthy v)):=by
 cases e<;>first|rfl|exact False.elim h
noncomputable def vl{Γ:Gm}{e:Expr}(m:AL)(h:∀{X:Cx} {E:L2.St->XK} {ca:Str->Value},CxOk Γ X E ca->PE X e (tM X.K E ca m))(t:N8 e:=by trivial):Option (ER Γ e):=some ⟨m,λC=>⟨h C,λ_=>V7 (h C) (ziw t)⟩⟩
structure OG(op:Operator) where
 g:T->T->Option T
 ok:∀{X:Cx},Ak X (binaryOp op) (Br X.K g)
def opF:(op:Operator)->Option (OG op)
 |.Add=>some ⟨BI,zkd⟩
 |.Sub=>some ⟨Fd,zk7⟩
 |.Mult=>some ⟨CH,zk9⟩
 |.Mod=>some ⟨BA,zka⟩
 |.FloorDiv=>some ⟨CW,zhm⟩
 |.Pow=>some ⟨Er,zk8⟩
 |.BitOr=>some ⟨KA,zkc⟩
 |.BitAnd=>some ⟨KD,zhn⟩
 |_=>none
structure CG(op:CmpOp) where
 g:T->T->Option T
 ok:∀{Γ:Gm} {X:Cx} {E:L2.St->XK} {ca:Str->Value},CxOk Γ X E ca->Ak X (compareOp op) (Br X.K g)
def aM:(op:CmpOp)->Option (CG op)
 |.Eq=>some ⟨BF,λC=>zno C.room.units⟩
 |.NotEq=>some ⟨Cz,λC=>znl C.room.units⟩
 |.Lt=>some ⟨C1 λi j=>decide (i<j),λ_=>LX op_lt⟩
 |.LtE=>some ⟨C1 λi j=>decide (i<=j),λ_=>LX WE⟩
 |.Gt=>some ⟨C1 λi j=>decide (j<i),λ_=>LX op_gt⟩
 |.GtE=>some ⟨C1 λi j=>decide (j<=i),λ_=>LX op_ge⟩
 |.Is=>some ⟨Az false,λ_=>znm⟩
 |.IsNot=>some ⟨Az true,λ_=>zfi⟩
 |.In=>some ⟨Dd,λC=>znn C.room.units⟩
 |.NotIn=>some ⟨FT,λC=>zfh C.room.units⟩
def aN:(op:CmpOp)->Option (CG op)
 |.LtE=>some ⟨FW,λ_=>zkb⟩
 |op=>aM op
def eCst(Γ:Gm)(c:Const)(k:Nat)(pos:Pos):Option (ER Γ (.Constant c k pos)):=match c with
 |.int i=>vl (mC (.int i)) λ_=>LM znb λ_ _=>.int i
 |.bool b=>vl (mC (.bl b)) λ_=>LM pe_bl λ_ _=>.bl b
 |.none=>vl (mC .non) λ_=>LM zn8 λ_ _=>.non
 |.str x=>vl (mC (.str x)) λ_=>LM zn5 λ_ _=>.str x
 |_=>none
theorem CxOk.v(C:CxOk Γ X E ca)(h:Γ.var x=some i):PE X (.Name x pos) (tM X.K E ca (AA i)) :=
 let ⟨h1,h2,h3,h4⟩:=C.var (pos:=pos) h
 r_var h1 h2 h3 h4
def eNam(Γ:Gm)(x:Str)(pos:Pos):Option (ER Γ (.Name x pos)):=oe (Γ.var x) (λi hi=>vl (AA i) λC=>C.v hi) (gd (DK x && C0 Γ.nm x) λhp=>ob (Γ.ox.co.lookup x) λt ht=>vl (mC t) λC=>by
 rw[ya3]at hp;obtain⟨u,v,k1,k2,k3⟩:=C.gx.co x t ht;exact r_con (C.gl hp.2) k1 k2 (Dq hp.1).1 k3)
def Zz{Γ:Gm}{e:Expr}(t:N8 e)(a:Option (ER Γ e))(b:Option (ER Γ e)):Option (ER Γ e):=a.bind λa=>match b with
 |some b=>vl (B5 a.m b.m) (λC=>OE (a.ok C).1 (b.ok C).1) t
 |none=>some a
def Qs{Γ:Gm}{o:Expr}{f:Str}{pos:Pos}(r:ER Γ o)(hp:GV o=true):(L:List (Str×Addr×List Str))->(∀c∈L,c∈Γ.ox.cl)->Option (ER Γ (.Attribute o f pos))
 |[],_=>none
 |c::L,hL=>oe (c.2.2.findIdx? (· == f)) (λj hj=>Zz trivial (vl (Ax c.2.1 c.2.2 j r.m) λC=>by
   obtain⟨h1,h2⟩:=C.gx.cl _ (hL _ (ya9 ..))
   have hf:f∈c.2.2:=by
    obtain⟨q1,q2,_⟩:=yax.mp hj;rw[<- eq_of_beq q2];exact yat q1
   exact r_fld h1 (h2 f hf) hj (r.ok C).1 (Rz hp)) (Qs r hp L λc h=>hL c (ya6 _ h))) (Qs r hp L λc h=>hL c (ya6 _ h))
theorem zkj       (r:ER Γ o)(a:AR Γ es)(hpo:GV o=true)(hln:(ap.endLine == pos.line)=true)(hlen:es.length<30)(hm:(f,g)∈Γ.ox.mt)(hnf:g.2.1.contains f=false){X:Cx}   (C:CxOk Γ X E ca) :
  PE X (.Call (.Attribute o f ap) es [] pos) (tM X.K E ca (Bz g.1 g.2.1 g.2.2.g r.m a.m)):=by
 obtain⟨hlv,⟨D⟩⟩:=C.gx.mt _ hm;have ho:=(r.ok C).1;have ha:=a.ok C;have hst:=a.st;have hnil:=a.nl;generalize a.m=ms at ha hnil
 clear a
 obtain⟨pl,ht⟩:=zfl (env:=X.env) hpo (by
  have:=GK (env:=X.env) (pos:=pos) hst
  grind) hlen hln
 cases es with
 |cons e es=>exact zmk D hnf C.room C.ps ho ha hlv (Cy (hst e (ya9 ..))) (GK λx hx=>hst x (ya6 e hx)) ht
 |nil =>
  refine PE.weak (pmx0 D C.room C.ps ho hlv ht) λσ H Q h=>?_
  obtain⟨F,τ,R,S,q⟩:=T8 hnf h;refine⟨F,τ,R,S,?_⟩;cases hm:r.m τ with
  |none=>rw[hm]at q;exact q
  |some r =>
   rw[hm]at q;cases r with
   |x c=>exact q
   |v t b =>
    intro F1 H1 x B e1 g1;obtain⟨a,dx,fs',h1,h2,h3,h4⟩:=q F1 H1 x B e1 g1;refine⟨a,dx,fs',h1,h2,h3,?_⟩;rw[hnil rfl]at h4;exact Gs h4
def Qq{Γ:Gm}{o:Expr}{f:Str}{ap pos:Pos}{es:List Expr}(r:ER Γ o)(a:AR Γ es)(hpo:GV o=true)(hln:(ap.endLine == pos.line)=true)(hlen:es.length<30):(L:List (Str×Addr×List Str×Fn))->(∀c∈L,c∈Γ.ox.mt)->Option (ER Γ (.Call (.Attribute o f ap) es [] pos))
 |[],_=>none
 |c::L,hL=>if h:c.1=f/\c.2.2.1.contains f=false then Zz trivial (vl (Bz c.2.1 c.2.2.1 c.2.2.2.g r.m a.m) λC=>zkj r a hpo hln hlen (g:=c.2) (h.1▸hL c (ya9 ..)) h.2 C) (Qq r a hpo hln hlen L λc h=>hL c (ya6 _ h)) else Qq r a hpo hln hlen L λc h=>hL c (ya6 _ h)
def eAtt(D:Dc)(Γ:Gm)(o:Expr)(f:Str)(ap:Pos)(es:List Expr)(ks:List Keyword)(c:Pos):Option (ER Γ (.Call (.Attribute o f ap) es ks c)):=match ks with
 |[]=>gd (GV o && (ap.endLine == c.line) && decide (es.length<30)) λhc=>(D.e Γ o).bind λr=>(D.a Γ es).bind λa =>
  have hc:(GV o=true/\(ap.endLine == c.line)=true)/\es.length<30:=by
   rw[ya3,ya3,ye4]at hc;exact hc
  if hf:f="index" then (match es,a with
   |[k],a=>(D.e Γ k).bind λmk=>vl (HP r.m mk.m) λC=>by
    subst hf;exact zjg (r.ok C).1 (mk.ok C).1 (Rz hc.1.1) (Cy (es:=[]) (a.st k (ya9 ..))) hc.1.2
   |_,_=>none) else
  Qq r a hc.1.1 hc.1.2 hc.2 Γ.ox.mt λ_ h=>h
 |_=>none
def cmpB(op:CmpOp)(b:Expr):Option (CG op) :=
 aM op
def eCmp(D:Dc)(Γ:Gm)(a:Expr)(ops:List CmpOp)(bs:List Expr)(pos:Pos):Option (ER Γ (.Compare a ops bs pos)):=match ops,bs with
 |[op],[b]=>gd (!(behindInMarks op b)) λhm=>(cmpB op b).bind λg=>(D.e Γ a).bind λra=>(D.e Γ b).bind λrb=>some ⟨Bn (g2 g.g) (AB ra.m (AB rb.m AE)),λC =>
  have hm:=DL hm
  ⟨r_cmp (g.ok C) (ra.ok C).1 (rb.ok C).1 hm,λ_=>zmh (g.ok C) (ra.ok C).1 (rb.ok C).1 hm⟩⟩
 |[op,op'],[b,c]=>gd (!(lastMarks [op,op'] [b,c])) λhm=>(aN op).bind λg=>(aN op').bind λg'=>(D.e Γ a).bind λra=>(D.e Γ b).bind λrb=>(D.e Γ c).bind λrc=>some ⟨Fw g.g g'.g ra.m rb.m rc.m,λC =>
  have hm:=DL hm
  ⟨r_chn (g.ok C) (g'.ok C) (ra.ok C).1 (rb.ok C).1 (rc.ok C).1 hm,λ_=>zmi (g.ok C) (g'.ok C) (ra.ok C).1 (rb.ok C).1 (rc.ok C).1 hm⟩⟩
 |_,_=>none
def eUn(D:Dc)(Γ:Gm)(op:UnaryOp)(a:Expr)(pos:Pos):Option (ER Γ (.UnaryOp op a pos)):=match op with
 |.USub=>(D.e Γ a).bind λr=>some ⟨Bn (g1 FU) (AB r.m AE),λC =>
  have hp:=r_un (pos:=pos) ziv (r.ok C).1
  ⟨hp,λ_=>V7 hp λ_=>rfl⟩⟩
 |.Not=>gd (Fo a) λh=>(D.e Γ a).bind λr=>some ⟨BE r.m,λC=>⟨r_not (r.ok C).1,λ_=>zmg (r.t h C)⟩⟩
 |_=>none
def dP(D:Dc)(Γ:Gm):(o:Option Expr)->Option (PR Γ o)
 |none=>some ⟨none,λ_=>r_po0⟩
 |some e=>(D.e Γ e).bind λr=>some ⟨some r.m,λC=>r_po1 (r.ok C).1⟩
def eIx(D:Dc)(Γ:Gm)(a k:Expr)(pos:Pos):Option (ER Γ (.Subscript a k pos)):=gd (!(G5 k)) λhs=>(D.e Γ a).bind λr=>(D.e Γ k).bind λrk =>
 if Yd a || gtN Γ a then vl (CA r.m rk.m) λC=>r_gt (by have:=C.room.units;omega) (r.ok C).1 (rk.ok C).1 (LQ (DL hs)) else
 vl (AO r.m rk.m) λC=>r_ix (r.ok C).1 (rk.ok C).1 (LQ (DL hs))
def eSub(D:Dc)(Γ:Gm)(a k:Expr)(pos:Pos):Option (ER Γ (.Subscript a k pos)):=match k with
 |.Slice lo hi st p=>(match st with
  |none=>(D.e Γ a).bind λr=>(dP D Γ lo).bind λrl=>(dP D Γ hi).bind λrh=>if Γ.ox.tx then vl (B5 (C9 r.m rl.m rh.m) (Cn r.m rl.m rh.m)) λC=>OE (V8 (r.ok C).1 (rl.ok C) (rh.ok C)) (zh8 (r.ok C).1 (rl.ok C) (rh.ok C)) else vl (C9 r.m rl.m rh.m) λC=>V8 (r.ok C).1 (rl.ok C) (rh.ok C)
  |_=>none)
 |k=>eIx D Γ a k pos
theorem IF(h:EU e=true):starEach [e] env=[(false,eval e env)]:=Cy h
section
variable {Γ:Gm}{f:Str}{p:Pos}{e:Expr}{es:List Expr}{pos:Pos}{X:Cx}{E:L2.St->XK}{ca:Str->Value}
theorem bF(a:AR Γ (e::es))(hp:DK f=true)(hg:C0 Γ.nm f=true)(hb:Γ.bl.contains f=true)(C:CxOk Γ X E ca){id}(hc:Bs X (.builtin id) (DX X.K g))(hv:bootBuiltins f=some (.builtin id)):PE X (.Call (.Name f p) (e::es) [] pos) (tM X.K E ca (Bn g a.m)) :=
 zmn hc (C.gl hg) (C.bl f (yaq.mp hb)) hv (a.ok C) (Dq hp).2.2 (Dq hp).1 (Cy (a.st e (ya9 ..))) (GK λx hx=>a.st x (ya6 e hx))
theorem bH(a:AR Γ (e::es))(hp:DK f=true)(hg:C0 Γ.nm f=true)(hb:Γ.bl.contains f=true)(C:CxOk Γ X E ca){id}(hc:Bs X (.type id) (DX X.K g))(hv:bootBuiltins f=some (.type id)):PE X (.Call (.Name f p) (e::es) [] pos) (tM X.K E ca (Bn g a.m)) :=
 Ve hc (C.gl hg) (C.bl f (yaq.mp hb)) hv (a.ok C) (Dq hp).2.2 (Dq hp).1 (Cy (a.st e (ya9 ..))) (GK λx hx=>a.st x (ya6 e hx))
def MQ(a:AR Γ (e::es))(hp:DK f=true)(hg:C0 Γ.nm f=true)(hb:Γ.bl.contains f=true):Option (ER Γ (.Call (.Name f p) (e::es) [] pos)) :=
 if hf:f="len" then vl (Bn (g1 Ba) a.m) λC=>by subst hf;exact bF a hp hg hb C zgn PySem.boot_len else
 if hf:f="list" then vl (Bn (g1 CZ) a.m) λC=>by subst hf;exact bH a hp hg hb C aS yc5 else
 if hf:f="abs" then vl (Bn (g1 Im) a.m) λC=>by subst hf;exact bF a hp hg hb C zgs PyProof.Rows.boot_abs else
 if hf:f="int" then vl (Bn (g1 Jm) a.m) λC=>by subst hf;exact bH a hp hg hb C zgp PyProof.Rows.boot_int else
 if hf:f="min" then vl (Bn (g2 Ja) a.m) λC=>by subst hf;exact bF a hp hg hb C (zgm C.calm) PyProof.Rows.boot_min else
 if hf:f="all" then vl (Bn (g1 Di) a.m) λC=>by subst hf;exact bF a hp hg hb C (zgr C.calm) PyProof.Rows.boot_all else
 if hf:f="any" then vl (Bn (g1 Hc) a.m) λC=>by subst hf;exact bF a hp hg hb C (zgq C.calm) PyProof.Rows.boot_any else
 none
end
structure TyR(c:Str) where
 t:String
 ok:bootBuiltins c=some (.type t)
noncomputable def tyF(c:Str):Option (TyR c) :=
 if h:c="int" then some ⟨"int",by subst h;exact PyProof.Rows.boot_int⟩ else if h:c="bool" then some ⟨"bool",by subst h;exact PyProof.Rows.boot_bool⟩ else if h:c="str" then some ⟨"str",by subst h;exact PyProof.Rows.boot_str⟩ else
 if h:c="list" then some ⟨"list",by subst h;exact yc5⟩ else if h:c="tuple" then some ⟨"tuple",by subst h;exact PyProof.Rows.boot_tuple⟩ else none
def eIs(D:Dc)(Γ:Gm)(p:Pos)(e:Expr)(es:List Expr)(pos:Pos)(hg:C0 Γ.nm "isinstance"=true)(hb:Γ.bl.contains "isinstance"=true):Option (ER Γ (.Call (.Name "isinstance" p) (e::es) [] pos)):=match es with
 |[.Name c p2]=>gd (C0 Γ.nm c && DK c && EU e) λhc=>(D.e Γ e).bind λr =>
  have hc:(C0 Γ.nm c=true/\DK c=true)/\EU e=true:=by
   rw[ya3,ya3]at hc;exact hc
  if hm:Γ.bl.contains c=true then (tyF c).bind λt=>vl (Bn (g1 (Cb t.t)) (AB r.m AE)) λC =>
   r_isT t.ok (C.gl hg) (C.bl _ (yaq.mp hb)) (C.gl hc.1.1) (C.bl _ (yaq.mp hm)) (Dq hc.1.2).2.2 (Dq hc.1.2).1 (r.ok C).1 (Cy hc.2)
  else ob (Γ.ox.ci.lookup c) λtb ht=>vl (Bn (g1 (Jl tb)) (AB r.m AE)) λC=>by
   obtain⟨_,k1,k2⟩:=C.gx.ci c tb ht;exact r_isC k2 (C.gl hg) (C.bl _ (yaq.mp hb)) (C.gl hc.1.1) k1 (Dq hc.1.2).1 (r.ok C).1 (Cy hc.2)
 |_=>none
def eSet(D:Dc)(Γ:Gm)(p:Pos)(e:Expr)(pos:Pos)(hg:C0 Γ.nm "len"=true)(hb:Γ.bl.contains "len"=true):Option (ER Γ (.Call (.Name "len" p) [e] [] pos)):=match e with
 |.Call (.Name x p2) [a] [] p3=>if h:x="set" then gd (C0 Γ.nm "set" && Γ.bl.contains "set" && EU a) λhc=>(D.e Γ a).bind λr=>vl (Bn (g1 JS) (AB r.m AE)) λC=>by
   rw[ya3,ya3]at hc;subst h;exact r_unq C.calm (C.gl hg) (C.bl _ (yaq.mp hb)) (C.gl hc.1.1) (C.bl _ (yaq.mp hc.1.2)) (r.ok C).1 (IF hc.2)
  else none
 |_=>none
def eKys(D:Dc)(Γ:Gm)(p:Pos)(e:Expr)(pos:Pos)(hp:DK "list"=true)(hg:C0 Γ.nm "list"=true)(hb:Γ.bl.contains "list"=true):Option (ER Γ (.Call (.Name "list" p) [e] [] pos)):=if h:Yd e=true then (D.e Γ e).bind λr=>vl (B5 (Bn (g1 CZ) (AB r.m AE)) (G0 r.m)) λC=>by
  have hns:EU e=true:=by cases e<;>first|rfl|cases h
  have hst:=λenv=>IF (env:=env) hns
  have b:=yaq.mp hb;exact OE (Ve aS (C.gl hg) (C.bl _ b) yc5 (Vd (r.ok C).1 V9 (hst _)) (Dq hp).2.2 (Dq hp).1 (hst _) rfl) (r_kys C.calm (C.gl hg) (C.bl _ b) (r.ok C).1 (hst _))
 else none
def eFn1(Γ:Gm)(f:Str)(p:Pos)(e:Expr)(es:List Expr)(pos:Pos)(a:AR Γ (e::es))(hp:DK f=true)(hg:C0 Γ.nm f=true):Option (ER Γ (.Call (.Name f p) (e::es) [] pos)) :=
 ob (Γ.fns.lookup f) λF hF=>vl (AK F.g a.m) λC=>by
  obtain⟨hl,⟨D⟩⟩:=C.fs f F hF;exact zmm D C.room C.ps (a.ok C) hl (C.gl hg) (Dq hp).1 (Cy (a.st e (ya9 ..))) (GK λx hx=>a.st x (ya6 e hx))
def eFn(Γ:Gm)(f:Str)(p:Pos)(e:Expr)(es:List Expr)(pos:Pos)(a:AR Γ (e::es))(hp:DK f=true)(hg:C0 Γ.nm f=true):Option (ER Γ (.Call (.Name f p) (e::es) [] pos)) :=
 oe (Γ.ox.nw.lookup f) (λF hF=>ob (F.2.lookup (e::es).length) λdts hd=>vl (HN F.1.g dts a.m) λC=>by
   obtain⟨hl,CC,D,hD⟩:=C.gx.nw f F.1 F.2 hF;obtain⟨dvs,us,k1,k2,k3⟩:=hD _ _ hd;exact r_new D k1 k2 k3 C.room C.ps (a.ok C) hl (C.gl hg) (Dq hp).1 (Cy (a.st e (ya9 ..))) (GK λx hx=>a.st x (ya6 e hx))) <|
 eFn1 Γ f p e es pos a hp hg
def eCal(D:Dc)(Γ:Gm)(f:Str)(p:Pos)(es:List Expr)(ks:List Keyword)(pos:Pos):Option (ER Γ (.Call (.Name f p) es ks pos)):=match es,ks with
 |e::es,[]=>gd (DK f && C0 Γ.nm f) λhc =>
  have hc:DK f=true/\C0 Γ.nm f=true:=by
   rw[ya3]at hc;exact hc
  if hb:Γ.bl.contains f=true then
   (if hf : f = "isinstance" then (match f, hf, hc, hb with
    |_,rfl,hc,hb=>eIs D Γ p e es pos hc.2 hb) else
   match es with
   |[] =>
    (if hf : f = "len" then (match f, hf, hc, hb with
     |_,rfl,hc,hb=>(eSet D Γ p e pos hc.2 hb).orElse λ_=>(D.a Γ [e]).bind λa=>MQ a hc.1 hc.2 hb) else
    if hf:f="list" then (match f,hf,hc,hb with
     |_,rfl,hc,hb=>(eKys D Γ p e pos hc.1 hc.2 hb).orElse λ_=>(D.a Γ [e]).bind λa=>MQ a hc.1 hc.2 hb) else
    (D.a Γ [e]).bind λa=>MQ a hc.1 hc.2 hb)
   |_=>(D.a Γ _).bind λa=>MQ a hc.1 hc.2 hb)
  else (D.a Γ (e::es)).bind λa=>eFn Γ f p e es pos a hc.1 hc.2
 |_,_=>none
def aI(Γ:Gm):(es:List Expr)->Option (GsR Γ es)
 |[]=>some ⟨Am,λ_=>⟨g_nil,rfl,rfl⟩⟩
 |e::es=>(match e with
  |.Name x p=>gd (Γ.loc x) λhl=>ob (FD Γ.N x) λi hi=>(aI Γ es).bind λr=>some ⟨AM (AD i) r.m,λ{X} {E} {ca} C=>by
   obtain⟨q1,q2,q3⟩:=r.ok C;refine⟨zom (YM C hl hi) q1 rfl,?_,?_⟩
   .show(assignEach es X.env).length+1=es.length+1;rw[q2]
   .show List.findIdx? (·.1) ((false,assign (.Name x p) X.env)::assignEach es X.env)=none
    rw[ydc,q3]
    rfl⟩
  |_=>none)
def dG(Γ:Gm):(tg:Expr)->Option (GR Γ tg)
 |.Name x _=>gd (Γ.loc x) λhl=>ob (FD Γ.N x) λi hi=>some ⟨AD i,λC=>YM C hl hi⟩
 |.Tuple es _ _=>(aI Γ es).bind λr=>some ⟨Aj es.length r.m,λC=>g_tup C.calm (r.ok C).1 (r.ok C).2.1 (r.ok C).2.2⟩
 |_=>none
def iV(D:Dc)(Γ:Gm)(tg e:Expr):Option (IR Γ tg e):=gd (OV e) λh=>(D.e Γ e).bind λr=>if Γ.ox.tx then some ⟨Ap r.m,λC=>zml (r.ok C).1,h⟩ else some ⟨IV r.m,λC=>Va (r.ok C).1,h⟩
theorem FZ(C:CxOk Γ X E ca)(h:(C0 Γ.nm f && Γ.bl.contains f)=true):Gl X f/\X.mg f=none:=by
 rw[ya3]at h;exact⟨C.gl h.1,C.bl f (yaq.mp h.2)⟩
def iRg(D:Dc)(Γ:Gm)(tg a:Expr)(p c:Pos):Option (IR Γ tg (.Call (.Name "range" p) [a] [] c)):=gd (C0 Γ.nm "range" && Γ.bl.contains "range") λh=>(D.a Γ [a]).bind λr=>some ⟨Cc r.m,λC=>zha (FZ C h).1 (FZ C h).2 (r.ok C) (Cy (r.st a (ya9 ..))),rfl⟩
def iEn(D:Dc)(Γ:Gm)(tg a:Expr)(p c:Pos):Option (IR Γ tg (.Call (.Name "enumerate" p) [a] [] c)):=match tg with
 |.Tuple ..=>gd (C0 Γ.nm "enumerate" && Γ.bl.contains "enumerate") λh=>(D.a Γ [a]).bind λr=>if Γ.ox.tx then some ⟨Yh r.m,λC=>r_enX (FZ C h).1 (FZ C h).2 (r.ok C) (Cy (r.st a (ya9 ..))),rfl⟩ else
  some ⟨CV r.m,λC=>Vb (FZ C h).1 (FZ C h).2 (r.ok C) (Cy (r.st a (ya9 ..))),rfl⟩
 |_=>none
def iR2(D:Dc)(Γ:Gm)(tg a b:Expr)(p c:Pos):Option (IR Γ tg (.Call (.Name "range" p) [a,b] [] c)):=gd (C0 Γ.nm "range" && Γ.bl.contains "range") λh=>(D.a Γ [a,b]).bind λr=>some ⟨HU r.m,λC =>
 have s2:=λenv=>IF (env:=env) (r.st b (ya6 _ (ya9 ..)))
 zh9 (FZ C h).1 (FZ C h).2 (r.ok C) (by rw[Cy (r.st a (ya9 ..)),s2]) (s2 _),rfl⟩
def iZp(D:Dc)(Γ:Gm)(tg a b:Expr)(p c:Pos):Option (IR Γ tg (.Call (.Name "zip" p) [a,b] [] c)):=match tg with
 |.Tuple ..=>gd (C0 Γ.nm "zip" && Γ.bl.contains "zip") λh=>(D.a Γ [a,b]).bind λr=>some ⟨Fz r.m,λC =>
   have s2:=λenv=>IF (env:=env) (r.st b (ya6 _ (ya9 ..)))
   r_zip (FZ C h).1 (FZ C h).2 (r.ok C) (by rw[Cy (r.st a (ya9 ..)),s2]) (s2 _),rfl⟩
 |_=>none
def dI(D:Dc)(Γ:Gm)(tg e:Expr):Option (IR Γ tg e):=match e with
 |.Call (.Name f p) es ks c=>(match es,ks with
  |[a],[]=>if h:f="range" then (match f,h with|_,rfl=>iRg D Γ tg a p c) else
   if h:f="enumerate" then (match f,h with|_,rfl=>iEn D Γ tg a p c) else
   iV D Γ tg _
  |[a,b],[] =>
   if h:f="range" then (match f,h with|_,rfl=>iR2 D Γ tg a b p c) else
   if h:f="zip" then (match f,h with|_,rfl=>iZp D Γ tg a b p c) else
   iV D Γ tg _
  |_,_=>iV D Γ tg _)
 |e=>iV D Γ tg e
def dC(D:Dc)(Γ:Gm)(elt tg iter:Expr)(ifs:List Expr)(scope:Scope):Option (LR Γ elt tg iter ifs scope) :=
 gd (KC Γ scope (DV tg++De scope.names)) λhb=>ob (Jz Γ.N (De scope.names)) λcaps hc=>(dI D Γ tg iter).bind λri=>(dG (Γ.blk scope (DV tg++De scope.names)) tg).bind λrg=>(D.e (Γ.blk scope (DV tg++De scope.names)) elt).bind λre=>match ifs with
  |[]=>some ⟨BD (DV tg).length caps ri.m rg.m (mC (.bl true)) re.m,λ{X} {E} {ca} C=>⟨caps,ri.m,rg.m,_,re.m,rfl,aY C hb hc,ri.ok C,λcl A s₀ H₀ ex xb E' hp =>
    have C':=a7 C hb cl A s₀ H₀ ex xb (E':=E') hp
    ⟨rg.ok C',λpins s σ H Q I q=>zjl pins s σ H Q I (Nf (K:=X.K) (E:=E') (ca:=ca) q),(re.ok C').1⟩,QY ri.ns⟩⟩
  |[c]=>gd (Fo c) λhk=>(D.e (Γ.blk scope (DV tg++De scope.names)) c).bind λrt=>some ⟨BD (DV tg).length caps ri.m rg.m rt.m re.m,λ{X} {E} {ca} C=>⟨caps,ri.m,rg.m,rt.m,re.m,rfl,aY C hb hc,ri.ok C,λcl A s₀ H₀ ex xb E' hp =>
    have C':=a7 C hb cl A s₀ H₀ ex xb (E':=E') hp
    ⟨rg.ok C',zjk (rt.t hk C'),(re.ok C').1⟩,QY ri.ns⟩⟩
  |_=>none
def eLC(D:Dc)(Γ:Gm)(elt:Expr)(gens:List Comprehension)(scope:Scope)(pos:Pos):Option (ER Γ (.ListComp elt gens scope pos)):=match gens with
 |[⟨tg,iter,ifs,0⟩]=>(dC D Γ elt tg iter ifs scope).bind λr=>vl r.m λC=>by
  obtain⟨caps,mi,b,mt,me,h,B,hi,hg,hs⟩:=r.ok C;rw[h];exact r_lcV B (cq:=λX=>X.calm=true) (λ_ _ _ _ _ _ _ _ _=>C.calm) (Vp hi) C.ps C.fr (λcl A s H ex xb E' hp=>(hg cl A s H ex xb E' hp).1) (λcl A s H ex xb E' hp=>(hg cl A s H ex xb E' hp).2.1) (λcl A s H ex xb E' hp=>(hg cl A s H ex xb E' hp).2.2) hs
 |_=>none
def eIf(D:Dc)(Γ:Gm)(c a b:Expr)(pos:Pos):Option (ER Γ (.IfExp c a b pos)):=gd (Fo c) λh=>(D.e Γ c).bind λrc=>(D.e Γ a).bind λra=>(D.e Γ b).bind λrb=>some ⟨Dt rc.m ra.m rb.m,λC=>⟨r_ife (rc.t h C) (ra.ok C).1 (rb.ok C).1,λz=>by cases z⟩⟩
def dEs(D:Dc)(Γ:Gm):(e:Expr)->Option (ER Γ e)
 |.Constant c k pos=>eCst Γ c k pos
 |.Name x pos=>eNam Γ x pos
 |.Attribute o f pos=>gd (GV o) λh=>(D.e Γ o).bind λr=>Qs r h Γ.ox.cl λ_ h=>h
 |.Call f es ks c=>(match f with
  |.Attribute o f ap=>eAtt D Γ o f ap es ks c
  |.Name f p=>eCal D Γ f p es ks c
  |_=>none)
 |.Compare a ops bs pos=>eCmp D Γ a ops bs pos
 |.BinOp a op b pos=>(opF op).bind λg=>(D.e Γ a).bind λra=>(D.e Γ b).bind λrb=>vl (Bn (g2 g.g) (AB ra.m (AB rb.m AE))) λC=>r_bin g.ok (ra.ok C).1 (rb.ok C).1
 |.UnaryOp op a pos=>eUn D Γ op a pos
 |.BoolOp op vs pos=>(D.b Γ op vs).bind λr=>some ⟨r.m,λC=>⟨(r.ok C).1,λ_=>(r.ok C).2.pt⟩⟩
 |.IfExp c a b pos=>eIf D Γ c a b pos
 |.List es pos=>(D.o Γ es).bind λr=>vl (BV r.m) λC=>r_lst (r.ok C)
 |.Tuple es k pos=>(D.a Γ es).bind λr=>vl (Bj r.m) λC=>r_tup (r.ok C)
 |.Subscript a k pos=>eSub D Γ a k pos
 |.ListComp elt gens scope pos=>eLC D Γ elt gens scope pos
 |.Dict [] [] pos=>vl Fv λ_=>Vc
 |_=>none
def dAs(D:Dc)(Γ:Gm):(es:List Expr)->Option (AR Γ es)
 |[]=>some ⟨AE,λ_=>V9,λ_ h=>(by cases h),λ_=>rfl⟩
 |e::es=>gd (EU e) λh=>(D.e Γ e).bind λr=>(D.a Γ es).bind λa=>some ⟨AB r.m a.m,λC=>Vd (r.ok C).1 (a.ok C) (Cy h),λx hx=>(yaf.mp hx).elim (λz=>z▸h) (a.st x),λz=>by cases z⟩
def dOs(D:Dc)(Γ:Gm):(es:List Expr)->Option (OR Γ es)
 |[]=>some ⟨AE,λ_=>zmj⟩
 |e::es=>gd (EU e) λh=>(D.e Γ e).bind λr=>(D.o Γ es).bind λa=>some ⟨Ay r.m a.m,λC=>zjh (r.ok C).1 (a.ok C) (Cy h)⟩
def dBs(D:Dc)(Γ:Gm)(op:BoolOp):(es:List Expr)->Option (BR Γ op es)
 |[]=>none
 |[a]=>gd (Fo a) λh=>(D.e Γ a).bind λr=>some ⟨r.m,λC=>⟨r_one (r.ok C).1,by
   cases op with
   |And=>exact zjf (r.t h C)
   |Or=>exact zje (r.t h C)⟩⟩
 |a::b::es=>gd (Fo a) λh=>(D.e Γ a).bind λr=>(D.b Γ op (b::es)).bind λrb=>match op,rb with
  |.And,rb=>some ⟨CU r.m rb.m,λC=>⟨r_and (r.ok C).1 (rb.ok C).1,zmf (r.t h C) (rb.ok C).2⟩⟩
  |.Or,rb=>some ⟨Bo r.m rb.m,λC=>⟨r_or (r.ok C).1 (rb.ok C).1,r_wor (r.t h C) (rb.ok C).2⟩⟩
noncomputable def pkB:List Str:=["len","isinstance","all","any","abs","min","max","int"]
def isLC:Expr->Bool
 |.ListComp ..=>true
 |_=>false
def Bu:Nat->List Str->Expr->List Str
 |0,_,_=>[]
 |n+1,pk,e =>
  let peek:=λ(x:Expr)=>match x with
   |.Name _ _=>[]
   |x=>Bu n pk x
  match e with
  |.Name x _=>[x]
  |.BinOp a _ b _=>Bu n pk a++Bu n pk b
  |.UnaryOp _ a _=>Bu n pk a
  |.BoolOp _ vs _=>vs.flatMap (Bu n pk)
  |.Compare a _ bs _=>peek a++bs.flatMap peek
  |.IfExp c a b _=>Bu n pk c++Bu n pk a++Bu n pk b
  |.Call (.Name f _) args [] _=>if pkB.contains f || pk.contains f then args.flatMap peek else args.flatMap (Bu n pk)
  |.Call (.Attribute _ _ _) args [] _=>args.flatMap λa=>if isLC a then Bu n pk a else []
  |.Subscript a k _=>(match k with
   |.Slice lo hi _ _=>Bu n pk a++(match lo with|some e=>Bu n pk e|none=>[])++(match hi with|some e=>Bu n pk e|none=>[])
   |_=>peek a++Bu n pk k)
  |.List es _=>es.flatMap (Bu n pk)
  |.Tuple es _ _=>es.flatMap (Bu n pk)
  |.ListComp _ [⟨_,iter,_,_⟩] scope _=>Bu n pk iter++De scope.names
  |_=>[]
def TH(pk:List Str):Stmt->List Str
 |.Expr (.Call (.Attribute (.Name _ _) _ _) [e] [] _) _=>Bu 40 pk e
 |.Expr e _=>Bu 40 pk e
 |.Return (some (.Name _ _)) _=>[]
 |.Return (some e) _=>Bu 40 pk e
 |.Assign [.Subscript (.Subscript _ k _) j _] e _=>Bu 40 pk k++Bu 40 pk j++Bu 40 pk e
 |.Assign [.Subscript _ k _] e _=>Bu 40 pk k++Bu 40 pk e
 |.Assign [_] e _=>Bu 40 pk e
 |.If c _ _ _=>Bu 40 pk c
 |.For _ it _ _ _=>Bu 40 pk it
 |.While c _ _ _=>Bu 40 pk c
 |_=>[]
def isIf:Stmt->Bool
 |.If ..=>true
 |_=>false
def frzs(Γ:Gm)(s:Stmt):List Nat:=((if isIf s then Γ.ox.gt++TH Γ.pk s else TH Γ.pk s).filter (Γ.ow.contains ·)).eraseDups.filterMap (FD Γ.N)
def QX(l:List Nat)(m:AJ):AJ:=l.foldr (λi m=>AH (DW i) m) m
def Kx(Γ:Gm)(x:Str)(px:Pos):Expr->Bool
 |.ListComp _ _ scope p=>Γ.nm.lookup x == some .local && px.line == p.line && !(scope.names.any λ(n,k)=>n == x && (k == .local || k == .cell))
 |_=>false
def Tj(Γ:Gm)(x:Str):Bool:=Γ.nm.lookup x == some .cell
def IH(Γ:Gm)(x:Str)(i:Nat)(m:AL):AJ:=if Γ.ow.contains x then Cg i m else AZ m (AD i)
def CY(c:Str)(ms:BM):AJ:=λτ=>match ms τ with
 |some (.v ts _)=>if ts.length<=Bp then some (.xc c τ) else none
 |some (.x c)=>some (.xc c τ)
 |none=>none
section
variable {X:Cx}{E:L2.St->XK}{ca:Str->Value}{Γ:Gm}{mu:Bool}
theorem Nu{BJ}(h:Be X BJ (tS X.K E ca mu w)):∀l ,Be X BJ (tS X.K E ca mu (QX l w))
 |[]=>h
 |i::r=>s_frz (Nu h r)
theorem Nh(h:HR e=false):swapsWith e t l env=pure false:=by
 cases e<;>first|rfl|cases h
theorem zdd{env:Env}(h:env.scope.kind=.function):env.blockKind=.function:=by
 unfold Env.blockKind;rw[h]
 rfl
theorem zh2(C:CxOk Γ X E ca){p px:Pos}{x:Str}{l:Nat}(h:Kx Γ x px (.ListComp elt gens scope p)=true):swapsWith (.ListComp elt gens scope p) (some (.Name x px)) l X.env=pure true:=by
 have e:swapsWith (.ListComp elt gens scope p) (some (.Name x px)) l X.env=pure (X.env.blockKind == .function && X.env.kindOf x == some .local && px.line == p.line && !(scope.names.any λ(n,k)=>n == x && (k == .local || k == .cell))):=rfl
 rw[e];unfold Kx at h
 simp only[ya3]at h;have k:X.env.kindOf x=some .local:=by
  show X.env.scope.names.lookup x=some .local;rw[C.nm]
  grind
 rw[zdd C.kd,k,h.1.2,h.2]
 rfl
theorem zj0(C:CxOk Γ X E ca){px}(h:Tj Γ x=true):swapsWith e (some (.Name x px)) l X.env=pure false:=by
 have k:X.env.kindOf x=some .cell:=by
  show X.env.scope.names.lookup x=some .cell;rw[C.nm];exact eq_of_beq h
 have c:(some NameKind.cell == some NameKind.local)=false:=rfl;cases e<;>first|rfl|(unfold swapsWith;grind)
theorem Nl(h:HR e=false):swapsWithSole [t] e l env=pure false:=Nh h
theorem Ni(h:G5 k=false)(v):assign (.Subscript o k pos) env v=(do
   let ov <- holding [v] (eval o env);let iv <- holding [v,ov] (eval k env)
   standAt pos
   holding [v,ov,iv] (setItem ov iv v)
   release [v,ov,iv] []):=by
 cases k<;>first|rfl|cases h
theorem s_rse(C:CxOk Γ X E ca)(hnr:Γ.ox.nr=false)(hpn:Fk c=none)(hc:c∈Γ.ex)(hg:C0 Γ.nm c=true)(hp:DK c=true)(ha:PA X (e::es) (CF X.K E ca ms))(hs:∀x∈e::es,EU x=true) :
  PS X (.Raise (some (.Call (.Name c p) (e::es) [] cpos)) none pos) (tS X.K E ca mu (CY c ms)):=by
 obtain⟨T,hT,hni⟩:=C.ex c hc;obtain⟨p1,p2,p3⟩:=Dq hp;refine PS.weak (zhe T hni C.calm (C.md hnr) ha (C.gl hg) p1 (Cy (hs e (ya9 ..))) (GK hs)) λD σ H h=>?_
 obtain⟨F,τ,R,S,q⟩:=h;refine⟨F,τ,R,S,?_⟩;unfold CY at q;cases hm:ms τ with
 |none=>simp only[hm]at q<;>exact q.elim
 |some r =>
  simp only[hm]at q;cases r with
  |x c=>exact λF' H' e=>q F' H' σ R e.stp0 (S.ext e)
  |v ts b =>
   intro F' H' xs e1 rs
   by_cases hz:ts.length<=Bp
   .simp only[hz,ye0]at q;refine⟨by rw[<- rs.1,<- Fx];exact hz,?_⟩
    have:=(q F' H' σ R e1.stp0 (S.ext e1)).plain hpn;rw[hT]at this;exact this
   .simp only[hz,ye8]at q<;>exact q.elim
end
theorem bJ{px pos}(hl:Γ.loc x=true)(hi:FD Γ.N x=some i)(C:CxOk Γ X E ca)(he:PE X e (tM X.K E ca m))(sw:∀l,swapsWith e (some (.Name x px)) l X.env=pure false) :
  PS X (.Assign [.Name x px] e pos) (tS X.K E ca mu (IH Γ x i m)):=by
 obtain⟨g1,g2,g3⟩:=C.loc hl hi;unfold IH;split
 .exact zm9 C.nodup g1 g2 he (sw _) g3
 .exact zm5 C.nodup g1 g2 he (sw _) g3
def aLC(D:Dc)(Γ:Gm)(x:Str)(i:Nat)(px pos:Pos)(hi:FD Γ.N x=some i):(e:Expr)->Option (SR Γ (.Assign [.Name x px] e pos))
 |.ListComp elt gens scope p=>gd (Kx Γ x px (.ListComp elt gens scope p)) λhw=>(match gens,hw with
  |[⟨tg,iter,ifs,0⟩],hw=>(dC D Γ elt tg iter ifs scope).bind λr=>some ⟨IH Γ x i r.m,λ{X} {E} {ca} C=>by
   have lx:X.env.scope.names.lookup x=some .local:=by
    unfold Kx at hw;simp only[ya3]at hw;rw[C.nm];exact eq_of_beq hw.1.1
   have hN:X.N[i]?=some x:=by rw[C.N];exact Ji hi
   obtain⟨caps,mi,b,mt,me,h,B,hi',hg,hs⟩:=r.ok C;rw[h];have main:=r_lcS (pos2:=pos) B C.calm hi' C.ps C.fr (λcl A s H ex xb E' hp=>(hg cl A s H ex xb E' hp).1) (λcl A s H ex xb E' hp=>(hg cl A s H ex xb E' hp).2.1) (λcl A s H ex xb E' hp=>(hg cl A s H ex xb E' hp).2.2) hs C.nodup hN lx (zh2 C hw)
   unfold IH;split
   .exact PS.weak main λD σ H h=>T3 h
   .exact PS.weak main λD σ H h=>Nb (g:=Jq i) (λ_ _ _ _ z=>Yp z) h⟩
  |_,_=>none)
 |_=>none
def aNm(D:Dc)(Γ:Gm)(x:Str)(px:Pos)(e:Expr)(pos:Pos):Option (SR Γ (.Assign [.Name x px] e pos)):=gd (Γ.loc x) λhl=>ob (FD Γ.N x) λi hi =>
 if hc:HR e=false then (D.e Γ e).bind λr=>some ⟨IH Γ x i r.m,λC=>bJ hl hi C (r.ok C).1 λ_=>Nh hc⟩
 else if hn:Tj Γ x=true then (D.e Γ e).bind λr=>some ⟨IH Γ x i r.m,λC=>bJ hl hi C (r.ok C).1 λ_=>zj0 C hn⟩
 else aLC D Γ x i px pos hi e
def aTup(D:Dc)(Γ:Gm)(ts:List Expr)(kt:Nat)(pt:Pos)(e:Expr)(pos:Pos):Option (SR Γ (.Assign [.Tuple ts kt pt] e pos)):=gd (!(zoe e || HR e)) λhc=>(dG Γ (.Tuple ts kt pt)).bind λrg=>(D.e Γ e).bind λr=>some ⟨AZ r.m rg.m,λC=>by
 have hc':=DL hc;rw[yba]at hc';refine zm6 (r.ok C).1 (rg.ok C) (Nl hc'.2) ?_ rfl;have ht:=hc'.1;cases e<;>first|rfl|cases ht⟩
def aTp(D:Dc)(Γ:Gm)(ts:List Expr)(kt:Nat)(pt:Pos)(e:Expr)(pos:Pos):Option (SR Γ (.Assign [.Tuple ts kt pt] e pos)) :=
 aTup D Γ ts kt pt e pos
theorem soleX:swapsWithSole [.Subscript a k p] e l env=pure false:=by
 cases e<;>rfl
def aDps(D:Dc)(Γ:Gm)(x:Str)(p1:Pos)(j:Expr)(p3:Pos)(e:Expr)(pos:Pos):Option (SR Γ (.Assign [.Subscript (.Name x p1) j p3] e pos)):=gd (!(G5 j)) λhc=>ob (Γ.var x) λi hi=>(D.e Γ j).bind λrk=>(D.e Γ e).bind λr=>some ⟨HB i rk.m r.m,λC=>by
 obtain⟨v1,v2,v3,v4⟩:=C.var (pos:=p1) hi;refine s_dps (by have:=C.room.units;omega) v1 v2 v3 v4 (r.ok C).1 (rk.ok C).1 soleX ?_ (Ni (DL hc))
 cases e<;>rfl⟩
def aSt2(D:Dc)(Γ:Gm)(x:Str)(p1:Pos)(j0:Expr)(p2:Pos)(j:Expr)(p3:Pos)(e:Expr)(pos:Pos):Option (SR Γ (.Assign [.Subscript (.Subscript (.Name x p1) j0 p2) j p3] e pos)):=gd (!(G5 j0 || G5 j || HR e)) λhc=>ob (Γ.var x) λi hi=>(D.e Γ j0).bind λr0=>(D.e Γ j).bind λrk=>(D.e Γ e).bind λr=>some ⟨IE i r0.m rk.m r.m,λC=>by
 have hc':=DL hc;rw[yba,yba]at hc';obtain⟨v1,v2,v3,v4⟩:=C.var (pos:=p1) hi;refine zm4 v1 v2 v3 v4 (r.ok C).1 (r0.ok C).1 (rk.ok C).1 (LQ hc'.1.1) (Nl hc'.2) ?_ (Ni hc'.1.2);cases e<;>rfl⟩
theorem QH{fs:List Str}(h:fs.findIdx? (· == f)=some j):f∈fs/\fs[j]?=some f:=by
 obtain⟨q1,q2,_⟩:=yax.mp h
 grind
def aDpf(D:Dc)(Γ:Gm)(x f:Str)(p1 p2:Pos)(j:Expr)(p3:Pos)(e:Expr)(pos:Pos):Option (SR Γ (.Assign [.Subscript (.Attribute (.Name x p1) f p2) j p3] e pos)):=gd (!(G5 j || HR e)) λhc=>ob Γ.ox.sf λc hs=>ob (Γ.var x) λi hi=>ob (c.2.findIdx? (· == f)) λjj hj=>(D.e Γ j).bind λrk=>(D.e Γ e).bind λr=>some ⟨IG c.1 c.2 jj i rk.m r.m,λC=>by
 have hc':=DL hc;rw[yba]at hc';obtain⟨v1,v2,v3,v4⟩:=C.var (pos:=p1) hi;obtain⟨k1,k2⟩:=C.gx.sf c.1 c.2 hs;refine s_dpf (by have:=C.room.units;omega) k1 (k2 f (QH hj).1) hj v1 v2 v3 v4 (r.ok C).1 (rk.ok C).1 (Nl hc'.2) ?_ (Ni hc'.1)
 cases e<;>rfl⟩
theorem Zg(hs:Γ.ox.sf=some c)(hi:Γ.var x=some i)(hj:c.2.findIdx? (· == f)=some jj)(hc:(!((c.2.take jj).contains f || !(decide (jj<900))))=true)(C:CxOk Γ X E ca)(he:PE X e (tM X.K E ca m)) :
  PS X (.Assign [.Attribute (.Name x p1) f p2] e pos) (tS X.K E ca Γ.mu (Cu c.1 c.2 jj i m)):=by
 have hc':=DL hc;rw[yba,Bool.not_eq_false',ye4]at hc';obtain⟨c1,c2⟩:=hc';obtain⟨v1,v2,v3,v4⟩:=C.var (pos:=p1) hi;obtain⟨k1,k2⟩:=C.gx.sf c.1 c.2 hs;exact zma k1 (k2 f (QH hj).1) (QH hj).2 c1 c2 v1 v2 v3 v4 he (by cases e<;>rfl)
def aFl(D:Dc)(Γ:Gm)(x f:Str)(p1 p2:Pos)(e:Expr)(pos:Pos):Option (SR Γ (.Assign [.Attribute (.Name x p1) f p2] e pos)):=ob Γ.ox.sf λc hs=>ob (Γ.var x) λi hi=>ob (c.2.findIdx? (· == f)) λjj hj=>gd (!((c.2.take jj).contains f || !(decide (jj<900)))) λhc=>match e,hc with
 |.Dict [] [] p,hc=>some ⟨Cu c.1 c.2 jj i Fv,λC=>Zg hs hi hj hc C Vc⟩
 |e,hc=>(D.e Γ e).bind λr=>some ⟨Cu c.1 c.2 jj i r.m,λC=>Zg hs hi hj hc C (r.ok C).1⟩
def aSub(D:Dc)(Γ:Gm)(a j:Expr)(p3:Pos)(e:Expr)(pos:Pos):Option (SR Γ (.Assign [.Subscript a j p3] e pos)):=match a with
 |.Name x p1 =>
  if Γ.dc.contains x then aDps D Γ x p1 j p3 e pos else
  none
 |.Subscript (.Name x p1) j0 p2=>aSt2 D Γ x p1 j0 p2 j p3 e pos
 |.Attribute (.Name x p1) f p2=>aDpf D Γ x f p1 p2 j p3 e pos
 |_=>none
def dAsg(D:Dc)(Γ:Gm)(ts:List Expr)(e:Expr)(pos:Pos):Option (SR Γ (.Assign ts e pos)):=match ts with
 |[t]=>(match t with
  |.Name x px=>aNm D Γ x px e pos
  |.Tuple ts kt pt=>aTp D Γ ts kt pt e pos
  |.Subscript a j p3=>aSub D Γ a j p3 e pos
  |.Attribute o f p2=>(match o with
   |.Name x p1=>aFl D Γ x f p1 p2 e pos
   |_=>none)
  |_=>none)
 |_=>none
def xApp(D:Dc)(Γ:Gm)(x:Str)(p:Pos)(f:Str)(apos:Pos)(a:Expr)(cpos pos:Pos):Option (SR Γ (.Expr (.Call (.Attribute (.Name x p) f apos) [a] [] cpos) pos)):=gd (EU a) λh1=>gd (apos.endLine == cpos.line) λh2=>ob (Γ.var x) λi hi=>(D.e Γ a).bind λr =>
 if hf:f="append" then some ⟨CP i r.m,λC=>by
  subst hf;obtain⟨v1,v2,v3,v4⟩:=C.var (pos:=p) hi;exact s_app v1 v2 v3 v4 (r.ok C).1 (IF h1) h2⟩ else
 none
def xExp(D:Dc)(Γ:Gm)(e:Expr)(pos:Pos):Option (SR Γ (.Expr e pos)):=gd (!(HR e)) λhc=>(D.e Γ e).bind λr=>some ⟨HA r.m,λC=>s_exp (r.ok C).1 (Nh (DL hc))⟩
def xDap(D:Dc)(Γ:Gm)(x:Str)(p:Pos)(k:Expr)(p2:Pos)(f:Str)(apos:Pos)(a:Expr)(cpos pos:Pos):Option (SR Γ (.Expr (.Call (.Attribute (.Subscript (.Name x p) k p2) f apos) [a] [] cpos) pos)):=gd (EU a) λh1=>gd (apos.endLine == cpos.line) λh2=>gd (!(G5 k)) λh3=>ob (Γ.var x) λi hi=>(D.e Γ k).bind λrk=>(D.e Γ a).bind λr =>
 if hf:f="append" then some ⟨J0 i rk.m r.m,λC=>by
  subst hf;obtain⟨v1,v2,v3,v4⟩:=C.var (pos:=p) hi;exact s_dap (by have:=C.room.units;omega) v1 v2 v3 v4 (rk.ok C).1 (LQ (DL h3)) (r.ok C).1 (IF h1) h2⟩ else none
def dX(D:Dc)(Γ:Gm)(e:Expr)(pos:Pos):Option (SR Γ (.Expr e pos)):=match e with
 |.Call (.Attribute (.Name x p) f apos) [a] [] cpos=>xApp D Γ x p f apos a cpos pos
 |.Call (.Attribute (.Subscript (.Name x p) k p2) f apos) [a] [] cpos=>xDap D Γ x p k p2 f apos a cpos pos
 |e=>xExp D Γ e pos
def xRet(D:Dc)(Γ:Gm)(o:Option Expr)(pos:Pos):Option (SR Γ (.Return o pos)) :=
 gd (!Γ.mu) λhmu=>match o with
 |none=>some ⟨Nv,λC=>by rw[DL hmu];exact zm7⟩
 |some e=>(D.e Γ e).bind λr=>some ⟨AU r.m,λC=>by rw[DL hmu];exact s_ret (r.ok C).1⟩
def xRse(D:Dc)(Γ:Gm)(a b:Option Expr)(pos:Pos):Option (SR Γ (.Raise a b pos)):=match a,b with
 |some (.Call (.Name c p) (e::es) [] cp),none =>
  gd (!(Γ.ox.nr)) λh1=>gd ((Fk c).isNone) λh0=>gd (Γ.ex.contains c) λh2=>gd (C0 Γ.nm c) λh3=>gd (DK c) λh4=>(D.a Γ (e::es)).bind λr=>some ⟨CY c r.m,λC=>s_rse C (DL h1) (Option.isNone_iff_eq_none.mp h0) (yaq.mp h2) h3 h4 (r.ok C) r.st⟩
 |_,_=>none
def xFor(D:Dc)(Γ:Gm)(tg it:Expr)(body els:List Stmt)(pos:Pos):Option (SR Γ (.For tg it body els pos)):=match els with
 |[]=>gd (!(Γ.ox.nr)) λh=>(dI D Γ tg it).bind λri=>(dG Γ tg).bind λrg=>(D.q Γ body).bind λr=>some ⟨BU ri.m rg.m r.m,λC=>s_for (C.po (DL h)) C.calm (ri.ok C) (rg.ok C) (r.ok C) (QY ri.ns)⟩
 |_=>none
def xWh(D:Dc)(Γ:Gm)(c:Expr)(body els:List Stmt)(pos:Pos):Option (SR Γ (.While c body els pos)):=match els with
 |[]=>gd (!(Γ.ox.nr)) λh=>gd (Fo c) λhk=>(D.e Γ c).bind λrc=>(D.q Γ body).bind λr=>some ⟨Fh rc.m r.m,λC=>s_wh (C.po (DL h)) (rc.t hk C) (r.ok C)⟩
 |_=>none
def xIf(D:Dc)(Γ:Gm)(c:Expr)(a b:List Stmt)(pos:Pos):Option (SR Γ (.If c a b pos)) :=
 gd (Fo c) λh=>(D.e Γ c).bind λrc=>(D.q Γ a).bind λra=>(D.q Γ b).bind λrb=>some ⟨A2 rc.m ra.m rb.m,λC=>s_if (rc.t h C) (ra.ok C) (rb.ok C)⟩
structure CxS(Γ:Gm)(X:Cx)(ca:Str->Value):Prop where
 N:X.N=Γ.N
 nd:Γ.N.Nodup
 nm:X.env.scope.names=Γ.nm
 rm:Room Γ.lv (WI X.A)
 bl:∀b∈Γ.bl,X.mg b=none
 gx:GxOk Γ.ox Γ.lv X.prog X.w X.K X.mg X.base ca
theorem CxS.var(C:CxS Γ X ca)(h:Γ.var x=some i):X.N[i]?=some x/\DR X.env.scope x/\(x == "__debug__")=false/\(x == "__classdict__")=false:=by
 unfold Gm.var at h;split at h
 .rename_i hp;rw[ya3]at hp;obtain⟨p1,p2,p3⟩:=Dq hp.1;exact⟨by rw[C.N];exact Ji h,TB (by rw[C.nm];exact hp.2),p1,p2⟩
 .cases h
theorem CxS.gl(C:CxS Γ X ca)(h:C0 Γ.nm x=true):Gl X x:=by
 show X.env.scope.names.lookup x=some .globalImplicit;rw[C.nm];exact eq_of_beq h
def xTry(D:Dc)(Γ:Gm)(body:List Stmt)(hs:List ExceptHandler)(els BN:List Stmt)(pos:Pos):Option (SR Γ (.Try body hs els BN pos)):=match hs,els,BN with
 |_,_,_=>none
def dSt(D:Dc)(Γ:Gm):(s:Stmt)->Option (SR Γ s)
 |.Pass _=>some ⟨A8,λ_=>zm8⟩
 |.Return o pos=>xRet D Γ o pos
 |.Expr e pos=>dX D Γ e pos
 |.Assign ts e pos=>dAsg D Γ ts e pos
 |.If c a b pos=>xIf D Γ c a b pos
 |.For tg it body els pos=>xFor D Γ tg it body els pos
 |.While c body els pos=>xWh D Γ c body els pos
 |.Raise a b pos=>xRse D Γ a b pos
 |.Try body hs els BN pos=>xTry D Γ body hs els BN pos
 |_=>none
def dSq(D:Dc)(Γ:Gm):(ss:List Stmt)->Option (QR Γ ss)
 |[]=>some ⟨A8,λ_=>s_nil⟩
 |[s]=>(match D.s Γ s with
  |some r=>some ⟨QX (frzs Γ s) r.m,λC=>Nu (UI (r.ok C)) _⟩
  |none=>if Γ.ox.no then some ⟨LH,λ_=>UI UM⟩ else none)
 |s::s2::r=>(D.q Γ (s2::r)).bind λrs=>match D.s Γ s with
  |some q=>some ⟨QX (frzs Γ s) (AH q.m rs.m),λC=>Nu (Uj (q.ok C) (rs.ok C)) _⟩
  |none=>if Γ.ox.no then some ⟨AH LH rs.m,λC=>Uj UM (rs.ok C)⟩ else none
def H9:Nat->Dc
 |0=>⟨λ_ _=>none,λ_ _=>none,λ_ _=>none,λ_ _ _=>none,λ_ _=>none,λ_ _=>none⟩
 |n+1=>⟨dEs (H9 n),dAs (H9 n),dOs (H9 n),dBs (H9 n),dSt (H9 n),dSq (H9 n)⟩
def MR(n:Nat)(Γ:Gm)(ss:List Stmt):Option (AJ):=((H9 n).q Γ ss).map QR.m
structure GoodS(ca:Str->Value)(n:Nat):Prop where
 ss:∀{Γ:Gm} {X:Cx} {E:L2.St->XK} {st:List Stmt} {m:AJ},CxOk Γ X E ca->MR n Γ st=some m->Be X st (tS X.K E ca Γ.mu m)
theorem Yl(ca)(n):GoodS ca n:=⟨λC h=>by
 obtain⟨r,_,rfl⟩:=yad.mp h;exact r.ok C⟩
end Pu
end
namespace Pu
open PySem PySem.Spec PyProof.Rows L2 Zw Zx
theorem Xw:True:=trivial
noncomputable def OB(n:Nat)(u:AJ)(ts:List T):Option Ru:=match u (ts.map some++List.replicate (n - ts.length) none) with
 |some (.rt t)=>some (.ok t)
 |some (.nx _)=>some (.ok .non)
 |some (.xc c _)=>some (.exc c)
 |_=>none
def A4(k n:Nat)(u:AJ)(ts:List T):Option Ru:=if ts.length=k then OB n u ts else none
theorem Nk(hR:∀i a,¬ R i a)(s:Stp F H (tot R) F' H' O'):Ext F H F' H' O' where
 hh:=λb u e=>s.kp b u (λ⟨i,z⟩=>hR i b z) e
 ff:=s.ff
 fh:=s.fh
 nb:=λb z=>(s.nw b z).elim (λ⟨i,w⟩=>absurd w (hR i b)) id
 nf:=λb u e=>(s.nf b u e).elim .inl λz=>z.elim (λ⟨i,w⟩=>absurd w (hR i b)) .inr
theorem zh3{K}(fh:Aa F H)(r:Aw K F ts vs):StR K F H (start N vs) (ts.map some++List.replicate (N.length - ts.length) none) (λ_=>R0):=by
 have hl:=r.1;refine⟨fh,by simp[L2.start,hl],λi t e=>?_,λ_ _ z=>z.elim,λ_ _ _ _ z=>z.elim⟩
 unfold L2.start
 by_cases hi:i<ts.length
 .rw[yav (by simpa using hi),ya7]at e
  obtain⟨t',e1,e2⟩:=yad.mp e;cases e2;have hv:i<vs.length:=by omega
  refine⟨vs[i],?_,(r.2 i t vs[i] e1 (ya0 hv)).any⟩
  grind
 grind
theorem zmd{K}{N ps:List Str}(h:Bq K ca (A4 ps.length N.length u) vs H Q E):tS K (λ_=>E) ca false u { nx:=λ_ H'=>Q .non H',rt:=Q} (start N vs) H:=by
 obtain⟨F',ts,fh,r,q⟩:=h;refine⟨F',_,_,zh3 fh r,?_⟩;unfold A4 at q
 by_cases hl:ts.length=ps.length
 .simp only[hl]at q;unfold OB at q;cases ho:u (ts.map some++List.replicate (N.length - ts.length) none) with
  |none=>grind
  |some o =>
   simp only[ho]at q;cases o with
   |nx τ=>exact λF1 H1 σ1 R1 s1 S1=>q F1 H1 .non R0 ((Nk (λ_ _ z=>z) s1).mono λ_ z=>z.elim) .non
   |rt t=>exact λF1 H1 x B s1 r1=>q F1 H1 x B (Nk (λ_ _ z=>z) s1) r1
   |bk τ=>exact q.elim
   |ct τ=>exact q.elim
   |xc c τ=>exact λF1 H1 σ1 R1 s1 S1=>q F1 H1 ((Nk (λ_ _ z=>z) s1).mono λ_ z=>z.elim)
 grind
theorem Yy{K}{st:Stmt}{f:Addr}{Γ:Gm}(F:FunD K x qual st f fd)(S:FnScope N ps (CD st))
  (hΓ:Γ.N=N) (hnm:Γ.nm=(CD st).names) (hce:∀x∈Γ.ce,Γ.nm.lookup x=some .cell) (hlv:Γ.lv=k) (hbl:∀b∈Γ.bl,mg b=none)
  (hfs:∀f F,Γ.fns.lookup f=some F->F.lv<=k/\Nonempty (DefX P w K mg base F.lv f F.ps (Bq K ca F.g))) (hex:∀c∈Γ.ex,∃T:ECls K mg c,ca c=.ref T.C/\D0 K T.C=some none)
  (hms:∀f F,Γ.mus.lookup f=some F->F.lv<=k/\Nonempty (DefX P w K mg base F.lv f F.ps (Fe K ca F.g))) (hmu:Γ.mu=false) (hgx:GxOk Γ.ox k P w K mg base ca) (hu:MR n Γ (Eh st)=some u):FnOk P w K mg base (DH P w) (k+1) f fd ps (Bq K ca (A4 ps.length N.length u)):=by
 refine WH F S (λvs H Q E h=>?_) λcdv A outer s H vs Q E hr h=>?_
 .obtain⟨F',ts,_,r,q⟩:=h;unfold A4 at q
  by_cases hl:ts.length=ps.length
  .rw[<- r.1,hl]
  grind
 .have C:CxOk Γ (Ei (DH P w) P w K mg base N qual (CD st) f cdv A outer s H E) (λ_=>E) ca:=by
   refine⟨hΓ.symm,by rw[hΓ];exact S.nd,hnm.symm,S.kind,rfl,by rw[hlv];exact hr,λy hy=>⟨rfl,hce y hy⟩,hbl,Vw,λ_=>PassesOwn.leaving,λ_=>YC,Xw,λf F e=>by rw[hlv];exact hfs f F e,hex,λf F e=>by rw[hlv];exact hms f F e,by rw[hlv];exact hgx,λ_=>⟨rfl,rfl⟩,⟨_,_,rfl,rfl⟩⟩
  have G:=(Yl ca n).ss C hu;rw[hmu]at G;refine⟨_,G,?_⟩;exact zmd h
def runM(k n:Nat)(u:AJ)(ts:List T):Option Ru:=if ts.length=k then (match u (ts.map some++List.replicate (n - ts.length) none) with
 |some (.rt t)=>some (.ok t)
 |some (.nx τ)=>(match V0 .non τ with
  |some (.rt t)=>some (.ok t)
  |_=>none)
 |some (.xc c _)=>some (.exc c)
 |_=>none) else none
theorem zf9{K}(fh:Aa F H)(r0:Rp K F H t0 x0 A)(r:Aw K F ts vs):StR K F H (start N (x0::vs)) ((t0::ts).map some++List.replicate (N.length - (t0::ts).length) none) (λi=>if i=0 then A else R0):=by
 have hl:=r.1;refine⟨fh,by simp[L2.start,hl],λi t e=>?_,λi a z=>?_,λi j a hij z1 z2=>?_⟩
 .unfold L2.start
  by_cases hi:i<(t0::ts).length
  .rw[yav (by simpa using hi),ya7]at e
   obtain⟨t',e1,e2⟩:=yad.mp e;cases e2;cases i with
   |zero =>
    cases e1;exact⟨x0,by simp,r0⟩
   |succ i =>
    have hi' :=by simpa using hi
    have hv:i<vs.length:=by omega
    refine⟨vs[i],?_,(r.2 i t vs[i] (by simpa using e1) (ya0 hv)).any⟩
    rw[yav (by simpa using hv),ya7,ybx,ya0 hv]
    rfl
  grind
 .by_cases hi:i=0
  .subst hi;exact⟨t0,rfl⟩
  .simp only[hi,ye8]at z;exact z.elim
 .by_cases hi:i=0
  .have hj:¬ j=0:=λz=>hij (hi.trans z.symm)
   simp only[hj,ye8]at z2;exact z2
  .simp only[hi,ye8]at z1;exact z1
theorem zix:tot (λi=>if i=0 then A else R0)=A:=funext λa=>propext ⟨λ⟨i,z⟩=>by
 by_cases hi:i=0
 .grind
 .simp only[hi]at z;exact z.elim,λz=>⟨0,by simpa using z⟩⟩
theorem BO{α:Type}{P:α->Prop}:∀x∈([]:List α),P x:=λ_ h=>by cases h
theorem Au{α:Type}{P:α->Prop}{a:α}{l:List α}(h:P a)(r:∀x∈l,P x):∀x∈a::l,P x:=λx hx=>by
 obtain rfl|hx:=yaf.mp hx
 .exact h
 .exact r x hx
theorem Hx{P:List Value->Prop}(h:P []):∀us:List Value,us.length=0->P us:=λus e=>by
 cases us with
 |nil=>exact h
 |cons a r=>cases e
theorem C6{P:List Value->Prop}{k:Nat}(h:∀a us,us.length=k->P (a::us)):∀us:List Value,us.length=k+1->P us:=λus e=>by
 cases us with
 |nil=>cases e
 |cons a r=>exact h a r (Nat.succ.inj e)
theorem TK{P:List Value->Prop}(h:∀a,P [a]):∀us:List Value,us.length=1->P us:=C6 λa=>Hx (h a)
theorem N6{P:List Value->Prop}(h:∀a b,P [a,b]):∀us:List Value,us.length=2->P us:=C6 λa=>C6 λb=>Hx (h a b)
theorem N5{P:List Value->Prop}(h:∀a b c,P [a,b,c]):∀us:List Value,us.length=3->P us:=C6 λa=>C6 λb=>C6 λc=>Hx (h a b c)
theorem N4{P:List Value->Prop}(h:∀a b c d,P [a,b,c,d]):∀us:List Value,us.length=4->P us:=C6 λa=>C6 λb=>C6 λc=>C6 λd=>Hx (h a b c d)
theorem TJ{P:List Value->Prop}(h:∀a b c d e,P [a,b,c,d,e]):∀us:List Value,us.length=5->P us:=C6 λa=>C6 λb=>C6 λc=>C6 λd=>C6 λe=>Hx (h a b c d e)
theorem N3{P:List Value->Prop}(h:∀a b c d e f,P [a,b,c,d,e,f]):∀us:List Value,us.length=6->P us:=C6 λa=>C6 λb=>C6 λc=>C6 λd=>C6 λe=>C6 λf=>Hx (h a b c d e f)
section
variable {P:Program}{w:World}{K:k6}{mg:Str->Option Value}{base:Heap}{ca:Str->Value}{k:Nat}
theorem Ac:∀f F,([]:List (Str×Fn)).lookup f=some F->F.lv<=k/\Nonempty (DefX P w K mg base F.lv f F.ps (Bq K ca F.g)):=λ_ _ h=>by cases h
theorem zi8{x:Str}{F0:Fn}{l:List (Str×Fn)}(hk:F0.lv<=k)(D:DefX P w K mg base F0.lv x F0.ps (Bq K ca F0.g))(r:∀f F,l.lookup f=some F->F.lv<=k/\Nonempty (DefX P w K mg base F.lv f F.ps (Bq K ca F.g))) :
  ∀f F,((x,F0)::l).lookup f=some F->F.lv<=k/\Nonempty (DefX P w K mg base F.lv f F.ps (Bq K ca F.g)):=λf F h=>by
 rw[yb9]at h;cases hf:f == x with
 |true =>
  rw[hf]at h;cases h;rw[eq_of_beq hf];exact⟨hk,⟨D⟩⟩
 |false=>rw[hf]at h;exact r f F h
theorem O7:∀f F,([]:List (Str×Fn)).lookup f=some F->F.lv<=k/\Nonempty (DefX P w K mg base F.lv f F.ps (Fe K ca F.g)):=λ_ _ h=>by cases h
def LB(K:k6):Sp:=λvs H Q _=>∃(a:Addr) (ns:List Int),vs=[.ref a]/\Hg K H a (ns.map V.int)/\ns.length<=63/\∀H',Q (.bl true) H'
theorem Hg.of{K:k6}{H:Hp}{a:Addr}{xs:List V}(hO:ND H)(h:Al K H a xs):Hg K H a xs:=by
 rcases h with (h|h)|h
 .rcases hO a with z|⟨o,ys,z⟩<;>rw[h]at z<;>cases z
 .exact .inl h
 .exact .inr h
def B8(ns:List Int):T:=.nd false .rl (ns.map T.int)
theorem VX{F:Hp}:∀ns:List Int,Aw K F (ns.map T.int) (ns.map V.int)
 |[]=>.nil
 |n::r=>.cons (H:=F) (.int n) (VX r)
theorem zo3{R:List T->Option Ru}{f:Addr}{fd:FuncData}(F:FnOk P w K mg base (DH P w) k f fd ["_law_script"] (Bq K ca R))(h:∀ns:List Int,ns.length<=63->R [B8 ns]=some (.ok (.bl true))):FnOk P w K mg base FL k f fd ["_law_script"] (LB K):=by
 refine⟨λvs H Q E hs=>?_,λA outer s H args us vs Q E hr e0 hb hv hs=>?_⟩
 .obtain⟨a,ns,rfl,_⟩:=hs
  rfl
 .obtain⟨a,ns,rfl,hq,h63,q⟩:=hs;refine ydx (F.run A outer s H args us _ Q E0 hr e0 hb hv ⟨H,[B8 ns],.refl _,.cons (H:=H) (Aw.of_node (k:=.rl) hq (VX ns)) .nil,?_⟩) λr s' hx=>?_
  .rw[h ns h63];intro F' H' z C e r;rw[r.bl_inv];exact q H'
  .cases r with
   |error v =>
    obtain⟨_,_,_,_,_,_,_,_,_,_,_,_,z⟩:=hx;exact z.elim
   |ok fl=>cases fl<;>exact hx
end
def Fi(C:Addr)(fs:List Str)(k n:Nat)(u:AJ)(p:Addr)(ts:List T):Option Ru:=if ts.length+1=k then (match u ((T.oob p C fs []::ts).map some++List.replicate (n - (ts.length+1)) none) with
 |some (.nx τ)=>(match Fm τ 0 C fs with
  |some (q,l)=>if q=p then some (.ok (.obj (.ins C fs) (BS l))) else none
  |none=>none)
 |some (.xc c _)=>some (.exc c)
 |_=>none) else none
open Classical in
def EM(C:Addr)(fs:List Str)(k n:Nat)(u:AJ)(ts:List T):Option Ru:=if h:∃r,∀p,Fi C fs k n u p ts=some r then some h.choose else none
theorem OA{C:Addr}{fs:List Str}{k n:Nat}{u:AJ}{ts:List T}{r:Ru}(h:∀p,Fi C fs k n u p ts=some r):EM C fs k n u ts=some r:=by
 have hx:∃r,∀p,Fi C fs k n u p ts=some r:=⟨r,h⟩;unfold EM;rw[dif_pos hx];have e:=(hx.choose_spec 0).symm.trans (h 0);exact e
theorem VV{C:Addr}{fs:List Str}{k n:Nat}{u:AJ}{ts:List T}{r:Ru}(h:EM C fs k n u ts=some r)(p:Addr):Fi C fs k n u p ts=some r:=by
 unfold EM at h;split at h
 .rename_i hx;cases h;exact hx.choose_spec p
 .cases h
theorem zon{P:Program}{w:World}{K:k6}{mg:Str->Option Value}{base:Heap}{ca:Str->Value}{x qual:Str}{st:Stmt}{f:Addr}{fd:FuncData}{N ps:List Str}{k n:Nat}{Γ:Gm}{u:AJ}{C:Addr}{fs:List Str}(F:FunD K x qual st f fd)(S:FnScope N ps (CD st))
  (hΓ:Γ.N=N) (hnm:Γ.nm=(CD st).names) (hce:∀x∈Γ.ce,Γ.nm.lookup x=some .cell) (hlv:Γ.lv=k) (hbl:∀b∈Γ.bl,mg b=none)
  (hfs:∀f F,Γ.fns.lookup f=some F->F.lv<=k/\Nonempty (DefX P w K mg base F.lv f F.ps (Bq K ca F.g))) (hex:∀c∈Γ.ex,∃T:ECls K mg c,ca c=.ref T.C/\D0 K T.C=some none)
  (hms:∀f F,Γ.mus.lookup f=some F->F.lv<=k/\Nonempty (DefX P w K mg base F.lv f F.ps (Fe K ca F.g))) (hmu:Γ.mu=false) (hgx:GxOk Γ.ox k P w K mg base ca) (hu:MR n Γ (Eh st)=some u):FnOk P w K mg base (DH P w) (k+1) f fd ps (JY K ca C (EM C fs ps.length N.length u)):=by
 refine WH F S (λvs H Q E h=>?_) λcdv A outer s H vs Q E hr h=>?_
 .obtain⟨F',p,dx,ts,vs',_,rfl,_,_,r,q⟩:=h;cases hg:EM C fs ps.length N.length u ts with
  |none=>rw[hg]at q;exact q.elim
  |some rr =>
   have h0:=VV hg 0;unfold Fi at h0
   by_cases hl:ts.length+1=ps.length
   .rw[yb7,<- r.1,hl]
   .rw[if_neg hl]at h0;cases h0
 .have CC:CxOk Γ (Ei (DH P w) P w K mg base N qual (CD st) f cdv A outer s H E) (λ_=>E) ca:=by
   refine⟨hΓ.symm,by rw[hΓ];exact S.nd,hnm.symm,S.kind,rfl,by rw[hlv];exact hr,λy hy=>⟨rfl,hce y hy⟩,hbl,Vw,λ_=>PassesOwn.leaving,λ_=>YC,Xw,λf F e=>by rw[hlv];exact hfs f F e,hex,λf F e=>by rw[hlv];exact hms f F e,by rw[hlv];exact hgx,λ_=>⟨rfl,rfl⟩,⟨_,_,rfl,rfl⟩⟩
  have G:=(Yl ca n).ss CC hu;rw[hmu]at G;refine⟨_,G,?_⟩;obtain⟨F',p,dx,ts,vs',fh,rfl,fp,hp,r,q⟩:=h;have r0:Rp K F' H (.oob p C fs []) (.ref p) (λa=>a=p\/∃j:Nat,R0 a):=.oob (xs:=[]) (λ_=>R0) fp (by rw[List.zip_nil_right];exact hp) rfl (λi t x h=>by simp at h) (λ_ _ _ _ z=>z.elim) (λ_ z=>z) (λ_ _ z=>z.elim)
  have hA:(λa=>a=p\/∃j:Nat,R0 a)=λa=>a=p:=funext λa=>propext ⟨λz=>z.elim id λ⟨_,w⟩=>w.elim,λz=>.inl z⟩
  refine⟨F',_,_,zf9 fh r0 r,?_⟩;unfold pS;rw[zix,hA];cases hg:EM C fs ps.length N.length u ts with
  |none=>rw[hg]at q;exact q.elim
  |some rr =>
   rw[hg]at q;have h0:=VV hg p;unfold Fi at h0
   by_cases hl:ts.length+1=ps.length
   .rw[if_pos hl]at h0;have el:(T.oob p C fs []::ts).length=ts.length+1:=rfl;rw[el];cases ho:u ((T.oob p C fs []::ts).map some++List.replicate (N.length - (ts.length+1)) none) with
    |none=>rw[ho]at h0;cases h0
    |some o =>
     rw[ho]at h0;cases o with
     |nx τ =>
      simp only at h0;intro F1 H1 σ1 R1 s1 S1;cases hoo:Fm τ 0 C fs with
      |none=>rw[hoo]at h0;cases h0
      |some ql =>
       obtain⟨q0,l⟩:=ql;rw[hoo]at h0;simp only at h0
       by_cases hq:q0=p
       .rw[if_pos hq]at h0;subst hq;cases h0;have h00:=ON hoo;have S2:=S1.frz h00;obtain⟨y,ey,ry⟩:=S1.rep 0 _ h00;obtain⟨dx2,xs2,Rr,rfl,hA2,fp2,hp2,ro,dp⟩:=ry.oob_inv;have n1:∀a,R1 0 a->F1 a=none:=λa z=>(S1.dom z).1
        have r2:=ry.share (H':=H1) (FE (H:=H1) n1) λa u z q=>by rw[G9 z];exact q
        simp only at q;refine q (frz F1 H1 (R1 0)) H1 ⟨s1.ff.trans (FE n1),Ia S1.fh,s1.kp,λb z=>z.elim,λb u e=>?_⟩ r2
        by_cases hb:R1 0 b
        .exact(s1.nw b ⟨0,hb⟩).elim (λz=>.inr (.inl z)) λz=>.inr (.inr z)
        .rw[GC hb]at e;exact s1.nf b u e
       .rw[if_neg hq]at h0;cases h0
     |rt t=>cases h0
     |bk τ=>cases h0
     |ct τ=>cases h0
     |xc c τ =>
      cases h0;simp only at q;exact λF1 H1 σ1 R1 s1 S1=>q F1 H1 (s1.mono λ_ z=>z.elim)
   .rw[if_neg hl]at h0;cases h0
theorem DP{κ α:Type} [BEq κ]{P:κ->α->Prop}:∀y b,([]:List (κ×α)).lookup y=some b->P y b:=λ_ _ h=>by cases h
theorem EY{κ α:Type} [BEq κ] [LawfulBEq κ]{P:κ->α->Prop}{x:κ}{a:α}{l:List (κ×α)}(h:P x a)(r:∀y b,l.lookup y=some b->P y b):∀y b,((x,a)::l).lookup y=some b->P y b:=λy b e=>by
 rw[yb9]at e;cases hf:y == x with
 |true =>
  rw[hf]at e;cases e;rw[eq_of_beq hf];exact h
 |false=>rw[hf]at e;exact r y b e
theorem OC{K:k6}{F:Hp}:∀ys:List Str,Aw K F (ys.map T.str) (ys.map V.str)
 |[]=>.nil
 |y::r=>.cons (H:=F) (.str y) (OC r)
theorem OS{P:Str->Fn->List (Nat×List T)->Prop}:∀x F ds,([]:List (Str×Fn×List (Nat×List T))).lookup x=some (F,ds)->P x F ds:=λ_ _ _ h=>by cases h
theorem OT{P:Str->Fn->List (Nat×List T)->Prop}{l:List (Str×Fn×List (Nat×List T))}{x0:Str}{F0:Fn}{d0:List (Nat×List T)}(h:P x0 F0 d0)(r:∀x F ds,l.lookup x=some (F,ds)->P x F ds):∀x F ds,((x0,F0,d0)::l).lookup x=some (F,ds)->P x F ds:=λx F ds e=>by
 rw[yb9]at e;cases hf:x == x0 with
 |true =>
  rw[hf]at e;cases e;rw[eq_of_beq hf];exact h
 |false =>
  rw[hf]at e;exact r x F ds e
def Zy(K:k6)(C:Addr):=(MO K C,PySem.W.subIn K (.ref C) (.ref C),(PySem.W.clsIn K C).isSome,PySem.W.typeIn K (.ref C),PySem.W.findIn K (.ref C) "__getattribute__",PySem.W.findIn K (.ref C) "__getattr__",PySem.W.findIn K (.ref C) "__class__",PySem.W.mroIn K C (.type "object"),PySem.W.mroIn K C (.type "BaseException"))
def Jv{K:k6}{mg:Str->Option Value}{x:Str}(g:PySem.W.specialIn K (.builtin "object.__class__") "__get__"=some (some (.builtin "getset_descriptor.__get__"))/\PySem.W.takesIn K (.builtin "object.__class__")=some true)(C:Addr)(m:mg x=some (.ref C))(h:Zy K C=(true,some true,true,some (.type "type"),some (some (.builtin "BaseException.__getattribute__")),some none,some (some (.builtin "object.__class__")),some true,some true)):ECls K mg x:=⟨C,m,by
 unfold Zy at h;simp only[Prod.mk.injEq,ycn]at h;obtain⟨h1,h2,h3,h4,h5,h6,h7,h8,h9⟩:=h;exact⟨h1,h2,h3,h4,h5,h6,h7,h8,h9,g.1,g.2⟩⟩
theorem Ab{G:Gx}{lv:Nat}{P:Program}{w:World}{K:k6}{mg:Str->Option Value}{base:Heap}{ca:Str->Value}
  (co:∀x t,G.co.lookup x=some t->∃u v,mg x=some u/\Af v u/\∀F:Hp,Rp K F F t v R0:=by exact DP)
  (cl:∀c∈G.cl,Cls K c.2.1/\∀f∈c.2.2,Bv K c.2.1 f:=by exact BO)
  (mt:∀c∈G.mt,c.2.2.2.lv<=lv/\Nonempty (MetX P w K mg base c.2.1 c.1 c.2.2.2.lv c.2.2.2.ps (Bq K ca c.2.2.2.g)):=by exact BO)
  (nw:∀x F ds,G.nw.lookup x=some (F,ds)->F.lv+1<=lv/\∃(C:Addr) (D:NewX P w K mg base x C F.lv F.ps (JY K ca C F.g)),∀k dts,ds.lookup k=some dts->∃dvs us,CO K D.fd F.ps us/\Ad dvs us/\∀H:Hp,Aw K H dts dvs:=by exact OS)
  (sf:∀C fs,G.sf=some (C,fs)->Cls K C/\∀f∈fs,Bv K C f:=by exact(λ_ _ h=>by cases h))
  (xs:∀W cs,G.xs.lookup W=some cs->∃T:ECls K mg W,∀c C,cs.lookup c=some C->ca c=.ref C/\PySem.W.subIn K (.ref C) (.ref T.C)=some true:=by exact DP)
  (sb:∀D tb,G.sb.lookup D=some tb->∃A:Addr,mg D=some (.ref A)/\∀C b,tb.lookup C=some b->ExcK K C/\PySem.W.kitOne K (.ref C) (.ref A)=some b:=by exact DP)
  (sv:∀D tb,G.sv.lookup D=some tb->mg D=none/\∃t,bootBuiltins D=some (.type t)/\∀C b,tb.lookup C=some b->ExcK K C/\PySem.W.kitOne K (.ref C) (.type t)=some b:=by exact DP)
  (ci:∀x tb,G.ci.lookup x=some tb->∃D:Addr,mg x=some (.ref D)/\(∀C b,tb.lookup C=some b->ICls K C/\PySem.W.kitOne K (.ref C) (.ref D)=some b)/\(Kq.all λa=>PySem.W.kitOne K (.type a) (.ref D) == some false)=true:=by exact DP)
  (x2:∀W1 W2 cs,(W1,W2,cs)∈G.x2->∃(T1:ECls K mg W1) (T2:ECls K mg W2),∀c C,cs.lookup c=some C->ca c=.ref C/\PySem.W.subIn K (.ref C) (.ref T1.C)=some false/\PySem.W.subIn K (.ref C) (.ref T2.C)=some true:=by exact(λ_ _ _ h=>by cases h))
  (wd:∀x F,G.wd.lookup x=some F->F.lv<=lv/\∃p,F.ps=[p]/\Nonempty (DefS P w K mg base F.lv x p (Bq K ca F.g)):=by exact DP)
  (ti:∀C∈G.ti,TiOk K C:=by exact BO)
  (dn:∀x y,G.dn.lookup x=some y->y.1.lv<=lv/\∃(D:DefX P w K mg base y.1.lv x y.1.ps (Bq K ca y.1.g)) (dvs:List V),DefsX K D.fd y.1.ps dvs/\∀H:Hp,Aw K H y.2 dvs:=by exact DP)
  (rn:True:=trivial)
  : GxOk G lv P w K mg base ca:=⟨co,cl,mt,nw,sf,xs,sb,sv,ci,x2,wd,ti,dn,rn⟩
theorem scM{N ps:List Str}{sc:Scope}(h:(sc.kind=.function/\sc.isCoroutine=false/\sc.isGenerator=false)/\N.Nodup/\N.take ps.length=ps/\(∀x∈ps,sc.names.lookup x=some .local\/sc.names.lookup x=some .cell)/\∀y∈sc.names,y.2≠.free):FnScope N ps sc:=⟨h.1.1,h.1.2.1,h.1.2.2,h.2.1,h.2.2.1,h.2.2.2.1,h.2.2.2.2⟩
class Qx (P:outParam Program) (w:outParam World) (K:outParam k6) (mg:outParam (Str->Option Value)) (base:outParam Heap) (ca:outParam (Str->Value)):Prop where
  c:∀(x:Str) (u:Value),PySem.W.nsIn K mainGlobals x=some (some u)->mg x=some u
  n:∀x:Str,PySem.W.nsIn K mainGlobals x=some none->mg x=none
structure Ck(Γ:Gm)(f:Fn)(st:Stmt)(u:AJ):Prop where
 s:FnScope Γ.N f.ps (CD st):=by exact scM (by decide +kernel)
 k:MR 200 Γ (Eh st)=some u:=by ext
 n:Γ.nm=(CD st).names:=by rfl
theorem AW{P:Program}{w:World}{K:k6}{mg:Str->Option Value}{base:Heap}{ca:Str->Value}{k:Nat}{x:Str}{F0:Fn}{l:List (Str×Fn)}(D:DefX P w K mg base F0.lv x F0.ps (Bq K ca F0.g))(r:∀f F,l.lookup f=some F->F.lv<=k/\Nonempty (DefX P w K mg base F.lv f F.ps (Bq K ca F.g)))(hk:F0.lv<=k:=by decide) :
  ∀f F,((x,F0)::l).lookup f=some F->F.lv<=k/\Nonempty (DefX P w K mg base F.lv f F.ps (Bq K ca F.g)):=zi8 hk D r
abbrev gF(x qual:Str)(s:Stmt)(d:Value)(m:Str)(t c:Nat)(y:Value):FuncData:=PySem.W.fnOf x qual (Ig s) (Eh s) (CD s) d .none .none (.str m t) none (.ref c) y
def fO(a b:Str)(s:Stmt)(d:Value)(m:Str)(t c:Nat)(y:Value):Obj:=⟨(.type "function"),none,(.func (gF a b s d m t c y)),Array.mk []⟩
def gO(a:Str)(s:Stmt)(m:Str)(t c:Nat):Obj:=fO a a s .none m t c .none
noncomputable def Xn(K:k6)(b:Str):Bool:=match PySem.W.nsIn K mainGlobals b with
 |some none=>true
 |_=>false
def GU(K:k6)(x:Str)(a:Addr):Bool:=match PySem.W.nsIn K mainGlobals x with
 |some (some (.ref b))=>b == a
 |_=>false
def Ih(K:k6)(qual:Str)(a c:Nat)(Γ:Gm)(f:Fn):Bool:=PySem.W.codeIn K (.ref c) qual && PySem.W.keepIn K (.ref a) && Γ.bl.all (Xn K) && Γ.ce.all (λx=>Γ.nm.lookup x == some .cell) && !Γ.mu && (Γ.lv+1 == f.lv)
structure Chk(K:k6)(mg:Str->Option Value)(qual:Str)(a c:Nat)(Γ:Gm)(f:Fn):Prop where
 c:PySem.W.codeIn K (.ref c) qual=true
 k:PySem.W.keepIn K (.ref a)=true
 b:∀b∈Γ.bl,mg b=none
 e:∀x∈Γ.ce,Γ.nm.lookup x=some .cell
 m:Γ.mu=false
 l:Γ.lv+1=f.lv
theorem zoy{P:Program}{w:World}{K:k6}{mg:Str->Option Value}{base:Heap}{ca:Str->Value} [q:Qx P w K mg base ca]{qual:Str}{a c:Nat}{Γ:Gm}{f:Fn}(h:Ih K qual a c Γ f=true):Chk K mg qual a c Γ f:=by
 unfold Ih at h;simp only[ya3,yab]at h;obtain⟨⟨⟨⟨⟨h1,h2⟩,h3⟩,h4⟩,h5⟩,h6⟩:=h;refine⟨h1,h2,λb hb=>q.n b ?_,λx hx=>eq_of_beq (h4 x hx),DL h5,eq_of_beq h6⟩
 have:=h3 b hb;unfold Xn at this;split at this
 .assumption
 .cases this
theorem V1{P:Program}{w:World}{K:k6}{mg:Str->Option Value}{base:Heap}{ca:Str->Value} [q:Qx P w K mg base ca]{x:Str}{a:Addr}(h:GU K x a=true):mg x=some (.ref a):=by
 unfold GU at h;split at h
 .rename_i b e;rw[<- eq_of_beq h];exact q.c _ _ e
 .cases h
structure AY(P:Program)(w:World)(K:k6)(mg:Str->Option Value)(base:Heap)(ca:Str->Value)(x qual:Str)(st:Stmt)(d:Value)(mo:Str)(t c:Nat)(y:Value)(Γ:Gm)(f:Fn)(V:Params->Obj)(a:Addr):Prop where
 fs:∀g F,Γ.fns.lookup g=some F->F.lv<=Γ.lv/\Nonempty (DefX P w K mg base F.lv g F.ps (Bq K ca F.g))
 gx:GxOk Γ.ox Γ.lv P w K mg base ca
 ex:∀c∈Γ.ex,∃T:ECls K mg c,ca c=.ref T.C/\D0 K T.C=some none
 ms:∀g F,Γ.mus.lookup g=some F->F.lv<=Γ.lv/\Nonempty (DefX P w K mg base F.lv g F.ps (Fe K ca F.g))
 h:Chk K mg qual a c Γ f
 F:FunD K x qual st a (gF x qual st d mo t c y)
section
variable {P:Program}{w:World}{K:k6}{mg:Str->Option Value}{base:Heap}{ca:Str->Value} [q:Qx P w K mg base ca]{x mo qual:Str}{st:Stmt}{t c:Nat}{d y:Value}{Γ:Gm}{f:Fn}{u:AJ}{V:Params->Obj}{a C:Addr}{fs:List Str}
theorem SF(hfs:∀g F,Γ.fns.lookup g=some F->F.lv<=Γ.lv/\Nonempty (DefX P w K mg base F.lv g F.ps (Bq K ca F.g)))(hgx:GxOk Γ.ox Γ.lv P w K mg base ca)(hex:∀c∈Γ.ex,∃T:ECls K mg c,ca c=.ref T.C/\D0 K T.C=some none)(hms:∀g F,Γ.mus.lookup g=some F->F.lv<=Γ.lv/\Nonempty (DefX P w K mg base F.lv g F.ps (Fe K ca F.g)))
  (ho:V w.params=fO x qual st d mo t c y) (l:K.lookup a=some (V w.params)) (h:Ih K qual a c Γ f=true):AY P w K mg base ca x qual st d mo t c y Γ f V a :=
 have h:=zoy h
 ⟨hfs,hgx,hex,hms,h,zl1 (l.trans (congrArg some ho)) h.c h.k⟩
theorem As(hfs:∀g F,Γ.fns.lookup g=some F->F.lv<=Γ.lv/\Nonempty (DefX P w K mg base F.lv g F.ps (Bq K ca F.g)))(hgx:GxOk Γ.ox Γ.lv P w K mg base ca)(hex:∀c∈Γ.ex,∃T:ECls K mg c,ca c=.ref T.C/\D0 K T.C=some none:=by exact BO)(hms:∀g F,Γ.mus.lookup g=some F->F.lv<=Γ.lv/\Nonempty (DefX P w K mg base F.lv g F.ps (Fe K ca F.g)):=by exact O7)
  (ho:V w.params=fO x x st d mo t c y:=by exact rfl) (l:K.lookup a=some (V w.params):=by ext) (h:Ih K x a c Γ f=true:=by ext) (m:GU K x a=true:=by ext) (hg:f.g=A4 f.ps.length Γ.N.length u:=by rfl)
  (b:CO K (gF x x st d mo t c y) f.ps []:=by first|exact .all (TK λ_=>rfl)|exact .all (N6 λ_ _=>rfl)|exact .all (N5 λ_ _ _=>rfl)|exact .all (N4 λ_ _ _ _=>rfl)|exact .all (TJ λ_ _ _ _ _=>rfl)|exact .all (N3 λ_ _ _ _ _ _=>rfl)):AY P w K mg base ca x x st d mo t c y Γ f V a/\GU K x a=true/\f.g=A4 f.ps.length Γ.N.length u/\CO K (gF x x st d mo t c y) f.ps []:=⟨SF hfs hgx hex hms ho l h,m,hg,b⟩
theorem E4(hfs:∀g F,Γ.fns.lookup g=some F->F.lv<=Γ.lv/\Nonempty (DefX P w K mg base F.lv g F.ps (Bq K ca F.g)))(hgx:GxOk Γ.ox Γ.lv P w K mg base ca)(hex:∀c∈Γ.ex,∃T:ECls K mg c,ca c=.ref T.C/\D0 K T.C=some none:=by exact BO)(hms:∀g F,Γ.mus.lookup g=some F->F.lv<=Γ.lv/\Nonempty (DefX P w K mg base F.lv g F.ps (Fe K ca F.g)):=by exact O7)
  (ho:V w.params=fO x qual st d mo t c y:=by exact rfl) (l:K.lookup a=some (V w.params):=by ext) (h:Ih K qual a c Γ f=true:=by ext) (me:Meth K C x a:=by exact⟨by ext,by ext,by ext⟩) (hg:f.g=A4 f.ps.length Γ.N.length u:=by rfl)
  (b:CO K (gF x qual st d mo t c y) f.ps []:=by first|exact .all (TK λ_=>rfl)|exact .all (N6 λ_ _=>rfl)|exact .all (N5 λ_ _ _=>rfl)|exact .all (N4 λ_ _ _ _=>rfl)|exact .all (TJ λ_ _ _ _ _=>rfl)|exact .all (N3 λ_ _ _ _ _ _=>rfl)):AY P w K mg base ca x qual st d mo t c y Γ f V a/\Meth K C x a/\f.g=A4 f.ps.length Γ.N.length u/\CO K (gF x qual st d mo t c y) f.ps []:=⟨SF hfs hgx hex hms ho l h,me,hg,b⟩
theorem SE{z:Str}(hfs:∀g F,Γ.fns.lookup g=some F->F.lv<=Γ.lv/\Nonempty (DefX P w K mg base F.lv g F.ps (Bq K ca F.g)))(hgx:GxOk Γ.ox Γ.lv P w K mg base ca)(hex:∀c∈Γ.ex,∃T:ECls K mg c,ca c=.ref T.C/\D0 K T.C=some none:=by exact BO)(hms:∀g F,Γ.mus.lookup g=some F->F.lv<=Γ.lv/\Nonempty (DefX P w K mg base F.lv g F.ps (Fe K ca F.g)):=by exact O7)
  (ho:V w.params=fO x qual st d mo t c y:=by exact rfl) (l:K.lookup a=some (V w.params):=by ext) (h:Ih K qual a c Γ f=true:=by ext) (m:GU K z C=true:=by ext) (ma:Mk K C a:=by exact⟨by ext,by ext,by ext,by ext⟩) (hg:f.g=EM C fs f.ps.length Γ.N.length u:=by rfl):AY P w K mg base ca x qual st d mo t c y Γ f V a/\GU K z C=true/\Mk K C a/\f.g=EM C fs f.ps.length Γ.N.length u:=⟨SF hfs hgx hex hms ho l h,m,ma,hg⟩
def Ar(V:Params->Obj)(a:Addr)(S:Ck Γ f st u)(A:AY P w K mg base ca x x st d mo t c y Γ f V a/\GU K x a=true/\f.g=A4 f.ps.length Γ.N.length u/\CO K (gF x x st d mo t c y) f.ps []):DefX P w K mg base f.lv x f.ps (Bq K ca f.g) :=
 ⟨a,_,by rw[A.2.2.1,<- A.1.h.l];exact Yy A.1.F S.s rfl S.n A.1.h.e rfl A.1.h.b A.1.fs A.1.ex A.1.ms A.1.h.m A.1.gx S.k,V1 A.2.1,A.1.h.k,A.2.2.2⟩
def E2(V:Params->Obj)(a:Addr)(S:Ck Γ f st u)(cl:Cls K C)(A:AY P w K mg base ca x qual st d mo t c y Γ f V a/\Meth K C x a/\f.g=A4 f.ps.length Γ.N.length u/\CO K (gF x qual st d mo t c y) f.ps []):MetX P w K mg base C x f.lv f.ps (Bq K ca f.g) :=
 ⟨a,_,cl,A.2.1,by rw[A.2.2.1,<- A.1.h.l];exact Yy A.1.F S.s rfl S.n A.1.h.e rfl A.1.h.b A.1.fs A.1.ex A.1.ms A.1.h.m A.1.gx S.k,A.2.2.2⟩
def Qu(z:Str)(C:Addr)(fs:List Str)(V:Params->Obj)(a:Addr)(S:Ck Γ f st u)(A:AY P w K mg base ca x qual st d mo t c y Γ f V a/\GU K z C=true/\Mk K C a/\f.g=EM C fs f.ps.length Γ.N.length u):NewX P w K mg base z C f.lv f.ps (JY K ca C f.g) :=
 ⟨a,gF x qual st d mo t c y,V1 A.2.1,A.2.2.1,by rw[A.2.2.2,<- A.1.h.l];exact zon A.1.F S.s rfl S.n A.1.h.e rfl A.1.h.b A.1.fs A.1.ex A.1.ms A.1.h.m A.1.gx S.k⟩
end
theorem at0:Ag (x::l) 0=some x:=by
 have:Ag (x::l) 0=some x:=Hb rfl;exact this
theorem Ik:Ag (x::y::l) 1=some y:=by
 have:Ag (x::y::l) 1=some y:=Hb rfl;exact this
theorem at2:Ag (x::y::z::l) 2=some z:=by
 have:Ag (x::y::z::l) 2=some z:=Hb rfl;exact this
abbrev fr(a b:Int):T:=.tup [.int a,.int b]
section
variable {b:T->AV->Option AV}{body:AJ}{mc:AL}
theorem Dg   (I:Nat->AV->Prop)(h0:I 0 τ)(hs:∀i t τ,ts[i]?=some t->I i τ->∃τ1,b t τ=some τ1/\∃τ2,body τ1=some (.nx τ2)/\I (i+1) τ2):∃τ',BW b body ts τ=some (.nx τ')/\I ts.length τ':=by
 have key:∀(l ) (k ) (τ ),ts.drop k=l->k<=ts.length->I k τ->∃τ',BW b body l τ=some (.nx τ')/\I ts.length τ':=by
  intro l
  induction l with
  |nil =>
   intro k τ hd hk hI
   have:k=ts.length:=by
    have:=congrArg List.length hd;simp at this
    omega
   subst this;exact⟨τ,rfl,hI⟩
  |cons t l ih =>
   intro k τ hd hk hI
   have hlt:k<ts.length:=by
    grind
   rw[ybh hlt]at hd;injection hd with h1 h2
   obtain⟨τ1,e1,τ2,e2,hI2⟩:=hs k t τ (by rw[ya0 hlt,h1]) hI
   obtain⟨τ',e3,h3⟩:=ih (k+1) τ2 h2 hlt hI2;exact⟨τ',by unfold BW;simp only[e1,e2];exact e3,h3⟩
 grind
theorem zg5   (I:Nat->AV->Prop)(Qr:T->Prop)(h0:I 0 τ)(hs:∀i t τ,ts[i]?=some t->I i τ->∃τ1,b t τ=some τ1/\((∃τ2,(body τ1=some (.nx τ2)\/body τ1=some (.ct τ2))/\I (i+1) τ2)\/∃v,body τ1=some (.rt v)/\Qr v)) :
  (∃τ',BW b body ts τ=some (.nx τ')/\I ts.length τ')\/∃v,BW b body ts τ=some (.rt v)/\Qr v:=by
 have key:∀(l ) (k ) (τ ),ts.drop k=l->k<=ts.length->I k τ->(∃τ',BW b body l τ=some (.nx τ')/\I ts.length τ')\/∃v,BW b body l τ=some (.rt v)/\Qr v:=by
  intro l
  induction l with
  |nil =>
   intro k τ hd hk hI
   have:k=ts.length:=by
    have:=congrArg List.length hd;simp at this
    omega
   subst this;exact .inl ⟨τ,rfl,hI⟩
  |cons t l ih =>
   intro k τ hd hk hI
   have hlt:k<ts.length:=by
    grind
   rw[ybh hlt]at hd;injection hd with h1 h2
   obtain⟨τ1,e1,hb⟩:=hs k t τ (by rw[ya0 hlt,h1]) hI
   rcases hb with ⟨τ2,e2,hI2⟩|⟨v,e2,hv⟩
   .rcases ih (k+1) τ2 h2 hlt hI2 with ⟨τ',e3,h3⟩|⟨v,e3,h3⟩
    .refine .inl ⟨τ',?_,h3⟩;unfold BW
     grind
    .refine .inr ⟨v,?_,h3⟩;unfold BW
     rcases e2 with e2|e2<;>simp only[e1,e2]<;>exact e3
   .exact .inr ⟨v,by unfold BW;simp only[e1,e2],hv⟩
 exact key ts 0 τ rfl (ybk _) h0
theorem zjc  (I:AV->Prop)(μ:AV->Nat)(h0:I τ)(hs:∀τ,I τ->(∃bb,mc τ=some (.v (.bl true) bb)/\∃τ2,body τ=some (.nx τ2)/\I τ2/\μ τ2<μ τ)\/∃bb,mc τ=some (.v (.bl false) bb)) :
  ∃τ',Fh mc body τ=some (.nx τ')/\I τ'/\∃bb,mc τ'=some (.v (.bl false) bb):=by
 have key:∀(n ) (τ ),μ τ<n->I τ->∃τ',Cw mc body n τ=some (.nx τ')/\I τ'/\∃bb,mc τ'=some (.v (.bl false) bb):=by
  intro n
  induction n with
  |zero=>simp
  |succ n ih =>
   intro τ hn hI
   rcases hs τ hI with ⟨bb,e1,τ2,e2,hI2,hm⟩|⟨bb,e1⟩
   .obtain⟨τ',e3,h3⟩:=ih τ2 (by omega) hI2
    exact⟨τ',by unfold Cw;grind,h3⟩
   .exact⟨τ,by unfold Cw;simp only[e1],hI,bb,e1⟩
 obtain⟨τ',e,h⟩:=key (μ τ+1) τ (ybt _) h0;exact⟨τ',zmb e,h⟩
theorem Lo    (I:Nat->AV->Prop)(f )(h0:I 0 τ)(hs:∀i t τ,ts[i]?=some t->I i τ->∃τ1,b t τ=some τ1/\me τ1=some (.v (f i) false)/\I (i+1) τ1) :
  Co b (mC (.bl true)) me ts τ=some ((List.range ts.length).map f):=by
 have key:∀(l ) (k ) (τ ),ts.drop k=l->k<=ts.length->I k τ->Co b (mC (.bl true)) me l τ=some ((List.range' k l.length).map f):=by
  intro l
  induction l with
  |nil=>intro k τ _ _ _;rfl
  |cons t l ih =>
   intro k τ hd hk hI
   have hlt:k<ts.length:=by
    grind
   rw[ybh hlt]at hd;injection hd with h1 h2
   obtain⟨τ1,e1,e2,hI2⟩:=hs k t τ (by grind) hI
   have e3:=ih (k+1) τ1 h2 hlt hI2;unfold Co;simp only[e1,mC,e2,e3]
   rfl
 have:=key ts 0 τ rfl (ybk _) h0;rw[this,<- List.range_eq_range']
end
theorem IK{i j:Int}(h:Eo j=true):Bi i j=true:=by unfold Bi;grind
theorem FV{i j:Int}(h:Eo i=true):Bi i j=true:=by unfold Bi;grind
theorem zkg(h1:Cv i=true)(h2:Cv j=true):Bi i j=true:=by unfold Bi;grind
theorem Ci(h1:-(2 ^ 64)<i)(h2:i<2 ^ 64):Eo i=true:=@decide_eq_true _ (Classical.propDecidable _) ⟨h1,h2⟩
theorem Dn(h1:-(10 ^ 70)<i)(h2:i<10 ^ 70):Cv i=true:=@decide_eq_true _ (Classical.propDecidable _) ⟨h1,h2⟩
theorem fm{i j:Int}(h:0<j):i.fmod j=i % j:=Int.fmod_eq_emod_of_nonneg i (by omega)
theorem fd{i j:Int}(h:0<j):i.fdiv j=i / j:=Int.fdiv_eq_ediv_of_nonneg i (by omega)
theorem Cr{i j:Int}:BF (.int i) (.int j)=some (.bl (i == j)):=by
 rfl
theorem IJ{i j:Int}:Cz (.int i) (.int j)=some (.bl (!(i == j))):=by
 rfl
mutual
def DY:PyData->Bool
 |.bool _=>false
 |.dict _=>false
 |.list xs=>GZ xs
 |.tuple xs=>GZ xs
 |_=>true
def GZ:List PyData->Bool
 |[]=>true
 |x::xs=>DY x && GZ xs
end
mutual
theorem Zr:∀d d':PyData,DY d=true->DY d'=true->(PyData.eqv d d'=true ↔ d=d')
 |.none,d',_,h'=>by cases d'<;>simp[PyData.eqv,DY]at h' ⊢
 |.int i,d',_,h'=>by cases d'<;>simp[PyData.eqv,DY]at h' ⊢
 |.str x,d',_,h'=>by cases d'<;>simp[PyData.eqv,DY]at h' ⊢
 |.bool _,_,h,_=>by simp[DY]at h
 |.dict _,_,h,_=>by simp[DY]at h
 |.list xs,d',h,h'=>by
  cases d' with
  |list ys =>
   have:=Qo xs ys (by simpa[DY] using h) (by simpa[DY] using h')
   simp only[PyData.eqv];rw[this];simp
  |_=>simp[PyData.eqv,DY]at h' ⊢
 |.tuple xs,d',h,h'=>by
  cases d' with
  |tuple ys =>
   have:=Qo xs ys (by simpa[DY] using h) (by simpa[DY] using h')
   simp only[PyData.eqv];rw[this];simp
  |_=>simp[PyData.eqv,DY]at h' ⊢
theorem Qo:∀xs ys:List PyData,GZ xs=true->GZ ys=true->(PyData.eqvAll xs ys=true ↔ xs=ys)
 |[],[],_,_=>by simp[PyData.eqvAll]
 |[],_::_,_,_=>by simp[PyData.eqvAll]
 |_::_,[],_,_=>by simp[PyData.eqvAll]
 |x::xs,y::ys,hx,hy=>by
  simp only[GZ,ya3]at hx hy;have h1:=Zr x y hx.1 hy.1;have h2:=Qo xs ys hx.2 hy.2;simp only[PyData.eqvAll,ya3,h1,h2,List.cons.injEq]
end
structure Fit(t:T)(n:Nat):Prop where
 fit:EH t=true
 nb:DY t.data=true
 dep:t.data.depth<=n
theorem Fit.int(i)(n):Fit (.int i) n:=⟨rfl,rfl,by simp[T.data,PyData.depth]⟩
theorem Fit.non(n:Nat):Fit .non n:=⟨rfl,rfl,by simp[T.data,PyData.depth]⟩
theorem Zi:∀{l} {n},(∀t∈l,Fit t n)->(EO l=true/\PyData.canLayAll0 (Bb l)=true)/\GZ (Bb l)=true/\PyData.depthAll (Bb l)<=n
 |[],n,_=>⟨⟨rfl,rfl⟩,rfl,ybk _⟩
 |t::r,n,h=>by
  obtain⟨h1,h2,h3⟩:=h t (ya9 ..);obtain⟨⟨g0,g1⟩,g2,g3⟩:=Zi λx hx=>h x (ya6 _ hx)
  unfold EH at h1;rw[ya3]at h1;refine⟨⟨by rw[EO,h1.1,g0];rfl,by rw[Bb,PyData.canLayAll0,h1.2,g1];rfl⟩,by rw[Bb,GZ,h2,g2];rfl,?_⟩
  rw[Bb,PyData.depthAll]
  omega
theorem Fit.nd(h:∀t∈l,Fit t n):Fit (.nd o k l) (n+1):=by
 obtain⟨g1,g2,g3⟩:=Zi h;cases k<;>exact⟨by simpa[EH,T.data,T.pln,PyData.canLay0] using g1,by simpa[T.data,DY] using g2,by simpa[T.data,PyData.depth] using g3⟩
theorem Fit.tup{l:List T}{n:Nat}(h:∀t∈l,Fit t n):Fit (.tup l) (n+1):=Fit.nd h
theorem Fit.mono(h:Fit t n)(hm:n<=m):Fit t m:=⟨h.fit,h.nb,yaj h.dep hm⟩
theorem Fit.fr(a b):Fit (Pu.fr a b) 1:=Fit.tup λt ht=>by
 simp only[yaf,yaz,ye5]at ht
 rcases ht with rfl|rfl<;>exact Fit.int _ _
open Classical in
theorem Zs{t u:T}{n m:Nat}(h:Fit t n)(h':Fit u m)(hn:n<=60):BF t u=some (.bl (decide (t.data=u.data)))/\Cz t u=some (.bl (!decide (t.data=u.data))):=by
 have ok:HZ t u=true:=by
  unfold HZ;rw[h.fit,h'.fit,ye1 (by have:=h.dep;omega)]
  rfl
 have e:Ju t u=decide (t.data=u.data):=by
  unfold Ju;rw[yd6,Zr _ _ h.nb h'.nb];simp
 unfold BF Cz;rw[if_pos ok,if_pos ok,e];exact⟨rfl,rfl⟩
theorem zl3(h:Fit t n)(hn:n<=60)(e:t.data=u.data)(h':Fit u n):BF t u=some (.bl true)/\Cz t u=some (.bl false):=by
 have:=Zs h h' hn
 grind
theorem GL:∀ns:List Int,BS (ns.map T.int)=ns.map T.int
 |[]=>rfl
 |n::r=>by rw[yap,BS,GL r];rfl
theorem IC:∀ns:List Int,A3 (ns.map T.int)=true
 |[]=>rfl
 |n::r=>by rw[yap,A3,IC r];rfl
theorem Np(ns):(B8 ns).share=B8 ns:=by unfold B8;rw[T.share,GL]
theorem Nq(ns):(B8 ns).sh=true:=by unfold B8;rw[T.sh,IC];rfl
theorem Cs{x:α}(h0:0<=k)(h:l[k.toNat]?=some x):Ag l k=some x:=by
 have :=Hb h
 grind
theorem Qw(f:α->β)(l)(lo hi):Bc (l.map f) lo hi=(Bc l lo hi).map f:=by
 unfold Bc;simp
theorem Qy(l:List α)(lo hi):(Bc l lo hi).length<=l.length:=by
 unfold Bc
 grind
theorem zl8{lo hi}{x}(h:x∈Bc l lo hi):x∈l:=by
 unfold Bc at h
 grind
end Pu
namespace Zm
end Zm
namespace Db
open PySem
theorem O4(a b):((a &&& b) % 2=1) ↔ (a % 2=1/\b % 2=1):=Nat.and_mod_two_eq_one
theorem J6(a:Nat):(a:Int) % 2=1 ↔ a % 2=1:=by omega
theorem J5(a:Nat):(Int.negSucc a) % 2=1 ↔ ¬ a % 2=1:=by omega
theorem WK(a c:Nat):((a:Int) - c) % 2=1 ↔ ¬ (a % 2=1 ↔ c % 2=1):=by omega
theorem ziq(x y):Builtin.bitAnd x y % 2=1 ↔ (x % 2=1/\y % 2=1):=by
 have ng:∀a ,Builtin.bitNot (Int.negSucc a)=a:=λa=>by
  unfold Builtin.bitNot
  omega
 cases x with
 |ofNat a =>
  cases y with
  |ofNat b =>
   show(a &&& b:Int) % 2=1 ↔ ((a:Int) % 2=1/\(b:Int) % 2=1);rw[J6,J6,J6,O4]
  |negSucc b =>
   show(a - (a &&& (Builtin.bitNot (Int.negSucc b)).toNat:Int)) % 2=1 ↔ ((a:Int) % 2=1/\(Int.negSucc b) % 2=1);rw[ng,WK,J6,J5,O4];simp
 |negSucc a =>
  cases y with
  |ofNat b =>
   show(b - (b &&& (Builtin.bitNot (Int.negSucc a)).toNat:Int)) % 2=1 ↔ ((Int.negSucc a) % 2=1/\(b:Int) % 2=1);rw[ng,ycx,WK,J6,J5,O4]
   omega
  |negSucc b =>
   show(Builtin.bitNot ((Builtin.bitNot (Int.negSucc a)).toNat ||| (Builtin.bitNot (Int.negSucc b)).toNat)) % 2=1 ↔ _
   have nb:∀c:Nat,Builtin.bitNot c=Int.negSucc c:=λc=>by
    unfold Builtin.bitNot
    omega
   rw[ng,ng,ycx,nb,J5,J5,J5,Nat.or_mod_two_eq_one];exact not_or
theorem zio(x):Builtin.bitAnd x 1=x % 2:=by
 unfold Builtin.bitAnd Builtin.bitNot
 grind
theorem bor_one(x y):Builtin.bitAnd (Builtin.bitOr x y) 1=max (x % 2) (y % 2):=by
 rw[zio];have h:=ziq (Builtin.bitNot x) (Builtin.bitNot y);unfold Builtin.bitOr;generalize Builtin.bitAnd (Builtin.bitNot x) (Builtin.bitNot y)=c at *
 have nb:∀z:Int,Builtin.bitNot z % 2=1 - z % 2:=λz=>by
  unfold Builtin.bitNot
  omega
 rw[nb,nb]at h;rw[nb]
 rcases Int.emod_two_eq x with e|e<;>rcases Int.emod_two_eq y with f|f<;>rw[e,f]at h ⊢<;>rcases Int.emod_two_eq c with g|g<;>rw[g]at h ⊢<;>revert h<;>decide
noncomputable def bs(a b:Int):Int:=2 * (a / 2+b / 2)+min (a % 2) (b % 2)
theorem bs_eq(a b:Int):a+b - max (a % 2) (b % 2)=bs a b:=by unfold bs;omega
theorem zoz(a:Int):bs a 1=a:=by unfold bs;omega
theorem znp(a:Int):bs 1 a=a:=by unfold bs;omega
theorem zlg(a b:Int):bs a b=bs b a:=by unfold bs;omega
theorem Xx(a b:Int):min (a % 2) (b % 2)=0\/min (a % 2) (b % 2)=1:=by
 grind
theorem aW(a b:Int):bs a b / 2=a / 2+b / 2:=by
 have h:=Xx a b;unfold bs;generalize a / 2+b / 2=k at *;generalize min (a % 2) (b % 2)=m at *
 omega
theorem aV(a b:Int):bs a b % 2=min (a % 2) (b % 2):=by
 have h:=Xx a b;unfold bs;generalize a / 2+b / 2=k at *;generalize min (a % 2) (b % 2)=m at *
 omega
theorem zin(a b c):bs (bs a b) c=bs a (bs b c):=by
 show 2 * (bs a b / 2+c / 2)+min (bs a b % 2) (c % 2)=2 * (a / 2+bs b c / 2)+min (a % 2) (bs b c % 2);rw[aW,aW,aV,aV,Int.add_assoc,Int.min_assoc]
theorem zlf(h:a<=a')(h':b<=b'):bs a b<=bs a' b':=by unfold bs;omega
abbrev B:=Option Int
def le:B->B->Prop
 |_,none=>True
 |none,some _=>False
 |some a,some b=>a<=b
def add:B->B->B
 |some a,some b=>some (bs a b)
 |_,_=>none
def mn:B->B->B
 |none,b=>b
 |some a,none=>some a
 |some a,some b=>some (min a b)
theorem le_refl(a:B):le a a:=by cases a<;>simp[le]
theorem le_trans(h:le a b)(h':le b c):le a c:=by
 cases a<;>cases b<;>cases c<;>simp_all [le]
 omega
theorem QB(h:le a b)(h':le b a):a=b:=by
 cases a<;>cases b<;>simp_all [le]
 omega
theorem add_mono(h:le a b)(h':le c d):le (add a c) (add b d):=by
 cases a<;>cases b<;>cases c<;>cases d<;>simp_all [le,add]
 exact zlf h h'
theorem add_comm(a b:B):add a b=add b a:=by
 cases a<;>cases b<;>simp[add,zlg]
theorem add_assoc(a b c):add (add a b) c=add a (add b c):=by
 cases a<;>cases b<;>cases c<;>simp[add,zin]
theorem add_one(a:B):add a (some 1)=a:=by cases a<;>simp[add,zoz]
theorem one_add(a:B):add (some 1) a=a:=by cases a<;>simp[add,znp]
theorem HL(a b:B):le (mn a b) a:=by
 cases a<;>cases b<;>simp[le,mn]
 omega
theorem IL(a b:B):le (mn a b) b:=by
 cases a<;>cases b<;>simp[le,mn]
 omega
theorem QA(h:le a b)(h':le a c):le a (mn b c):=by
 cases a<;>cases b<;>cases c<;>simp_all [le,mn]
 omega
theorem mn_of_le{a b:B}(h:le a b):mn a b=a:=QB (HL a b) (QA (le_refl a) h)
theorem L6(a b):mn a b=a\/mn a b=b:=by
 cases a<;>cases b<;>simp[mn]
 omega
abbrev Z:=Nat->Nat->B
def free(i j:Nat):B:=if i=0\/i=j then some 1 else none
def z0(f:Z):Z:=λi j=>mn (f i j) (free i j)
def stp(f:Z)(k:Nat):Z:=λi j=>mn (f i j) (add (f i k) (f k j))
def fw(f:Z):Nat->Z
 |0=>z0 f
 |k+1=>stp (fw f k) k
def Brk(n:Nat)(f:Z):Prop:=∃i,i<n/\¬ le (some 1) (f i i)
def Sound(n:Nat)(f:Z):Prop:=∀k,k<n->¬ Brk n (fw f k)
theorem diag_le(f)(i):∀k,le (fw f k i i) (some 1)
 |0=>by
  have h:=IL (f i i) (free i i);have e:free i i=some 1:=if_pos (.inr rfl);rw[e]at h;show le (mn (f i i) (free i i)) _
  grind
 |k+1=>le_trans (HL _ _) (diag_le f i k)
theorem Yq(f)(i j):∀k,le (fw f k i j) (z0 f i j)
 |0=>le_refl _
 |k+1=>le_trans (HL _ _) (Yq f i j k)
theorem Qt(h:¬ Brk n (fw f k))(hi:i<n):fw f k i i=some 1:=by
 refine QB (diag_le f i k) ?_;cases Classical.em (le (some 1) (fw f k i i)) with
 |inl h1=>exact h1
 |inr h1=>exact(h ⟨i,hi,h1⟩).elim
theorem tri   (h:Sound n f):∀k,k<=n->∀i j l,l<k->i<n->j<n->le (fw f k i j) (add (fw f k i l) (fw f k l j))
 |0,_,_,_,l,hl,_,_=>by omega
 |k+1,hk,i,j,l,hl,hi,hj=>by
  have kk:=Qt (h k (by omega)) (show k<n by omega)
  have inv:=tri h k (by omega)
  show le (stp (fw f k) k i j) (add (stp (fw f k) k i l) (stp (fw f k) k l j));generalize hg:fw f k=g at *
  by_cases e:l=k
  .subst e;have e1:stp g l i l=g i l:=by unfold stp;rw[kk,add_one];exact mn_of_le (le_refl _)
   have e2:stp g l l j=g l j:=by unfold stp;rw[kk,one_add];exact mn_of_le (le_refl _)
   rw[e1,e2];exact IL _ _
  .have lk:l<k:=by omega
   have a1:le (stp g k i j) (g i j):=HL _ _;have a2:le (stp g k i j) (add (g i k) (g k j)):=IL _ _
   rcases L6 (g i l) (add (g i k) (g k l)) with e1|e1<;>rcases L6 (g l j) (add (g l k) (g k j)) with e2|e2
   .have:stp g k i l=g i l:=e1;have e2':stp g k l j=g l j:=e2;rw[this,e2'];exact le_trans a1 (inv i j l lk hi hj)
   .have e1':stp g k i l=g i l:=e1;have e2':stp g k l j=add (g l k) (g k j):=e2;rw[e1',e2',<- add_assoc];exact le_trans a2 (add_mono (inv i k l lk hi (by omega)) (le_refl _))
   .have e1':stp g k i l=add (g i k) (g k l):=e1;have e2':stp g k l j=g l j:=e2;rw[e1',e2',add_assoc];exact le_trans a2 (add_mono (le_refl _) (inv k j l lk (by omega) hj))
   .have e1':stp g k i l=add (g i k) (g k l):=e1;have e2':stp g k l j=add (g l k) (g k j):=e2;rw[e1',e2',add_assoc,<- add_assoc (g k l)];refine le_trans a2 (add_mono (le_refl _) ?_);have:=add_mono (inv k k l lk (by omega) (by omega)) (le_refl (g k j))
    rw[kk,one_add]at this;exact this
structure Nar(n:Nat)(f:Z):Prop where
 diag:∀i,i<n->f i i=some 1
 row:∀j,j<n->le (f 0 j) (some 1)
 tri:∀i j l,i<n->j<n->l<n->le (f i j) (add (f i l) (f l j))
theorem nar(h:Sound n f):Nar n (fw f n):=by
 have t:=tri h n (ya8 n);refine⟨λi hi=>?_,λj hj=>?_,λi j l hi hj hl=>t i j l hl hi hj⟩
 .refine QB (diag_le f i n) ?_;cases n with
  |zero=>omega
  |succ m =>
   have kk:=Qt (h m (by omega)) (show m<m+1 by omega)
   have ii:=Qt (h m (by omega)) hi
   refine QA (by rw[ii];exact le_refl _) ?_
   by_cases e:i=m
   .subst e;rw[kk];exact le_refl _
   .have:=Db.tri h m (by omega) m m i (by omega) (by omega) (by omega)
    rw[kk,add_comm]at this;exact this
 .refine le_trans (Yq f 0 j n) ?_;have:=IL (f 0 j) (free 0 j);exact this
def sat(D:Int):B->Int->Prop
 |none,_=>True
 |some c,d=>d<=c / 2 * D - 1+c % 2
def Lie(n:Nat)(D:Int)(X:Nat->Int)(f:Z):Prop:=∀i j,i<n->j<n->sat D (f i j) (X i - X j)
theorem sat_scale(hb:0<b)(hD:0<D)(h:X * b=t * D)(c):sat b c t ↔ sat D c X:=by
 cases c with
 |none=>exact Iff.rfl
 |some c =>
  simp only[sat];have e0:c % 2=0\/c % 2=1:=by omega
  have k1:∀m ,t<=m * b ↔ X<=m * D:=by
   intro m;constructor
   .intro q;have:=yd7 q (ycl hD);rw[<- h,yau,ybn b D,<- yau]at this;exact Int.le_of_mul_le_mul_right this hb
   .intro q;have:=yd7 q (ycl hb);rw[h,yau,ybn D b,<- yau]at this;exact Int.le_of_mul_le_mul_right this hD
  have k2:∀m ,t<m * b ↔ X<m * D:=by
   intro m;constructor
   .intro q;have:=Int.mul_lt_mul_of_pos_right q hD;rw[<- h,yau,ybn b D,<- yau]at this;exact Int.lt_of_mul_lt_mul_right this (ycl hb)
   .intro q;have:=Int.mul_lt_mul_of_pos_right q hb;rw[h,yau,ybn D b,<- yau]at this;exact Int.lt_of_mul_lt_mul_right this (ycl hD)
  rcases e0 with e|e
  .have:=k2 (c / 2)
   omega
  .have:=k1 (c / 2)
   omega
def satB(D:Int)(c:B)(d:Int):Bool:=match c with
 |none=>true
 |some c=>decide (d<=c / 2 * D - 1+c % 2)
theorem satB_iff:satB D c d=true ↔ sat D c d:=by
 cases c<;>simp[satB,sat]
end Db
namespace Db
end Db
namespace Dv
open Db
def ins(f:Z)(a b:Nat)(e:B):Z:=λi j=>mn (f i j) (add (f i a) (add e (f b j)))
theorem ins_nar{n:Nat}{f:Z}(h:Nar n f){a b:Nat}{e:B}(ha:a<n)(hb:b<n)(he:le (some 1) (add (f b a) e)):Nar n (ins f a b e):=by
 have one:∀x y z:B,le (some 1) z->le (add x y) (add (add x z) y):=λx y z hz=>by
  have:=add_mono (add_mono (le_refl x) hz) (le_refl y)
  rwa[add_one]at this
 refine⟨λi hi=>?_,λj hj=>le_trans (HL _ _) (h.row j hj),λi j l hi hj hl=>?_⟩
 .show mn (f i i) _=_;rw[h.diag i hi];refine mn_of_le ?_;have t:=h.tri b a i hb ha hi;refine le_trans he ?_;have t2:=add_mono t (le_refl e);refine le_trans t2 ?_;rw[add_comm e,<- add_assoc,add_comm (f b i)];exact le_refl _
 .have m1:le (ins f a b e i j) (f i j):=HL _ _;have m2:le (ins f a b e i j) (add (f i a) (add e (f b j))):=IL _ _;have il:ins f a b e i l=f i l\/ins f a b e i l=add (f i a) (add e (f b l)):=L6 _ _;have lj:ins f a b e l j=f l j\/ins f a b e l j=add (f l a) (add e (f b j)):=L6 _ _
  rcases il with e1|e1<;>rcases lj with e2|e2<;>rw[e1,e2]
  .exact le_trans m1 (h.tri i j l hi hj hl)
  .refine le_trans m2 ?_;rw[<- add_assoc (f i l)];exact add_mono (h.tri i a l hi ha hl) (le_refl _)
  .refine le_trans m2 ?_;rw[add_assoc,add_assoc];exact add_mono (le_refl _) (add_mono (le_refl _) (h.tri b j l hb hj hl))
  .refine le_trans m2 ?_;rw[add_assoc,add_assoc];refine add_mono (le_refl _) ?_;have t:=h.tri b a l hb ha hl;have t1:le (some 1) (add (add (f b l) (f l a)) e):=le_trans he (add_mono t (le_refl e));have t2:=add_mono (le_refl e) (add_mono t1 (le_refl (f b j)));rw[one_add]at t2;refine le_trans t2 ?_;rw[add_assoc,add_assoc];exact le_refl _
def nm(c:Int):Int:=c / 2
def cl(f:Z):Z:=λi j=>(f i j).map λc=>2 * (c / 2)+1
abbrev Lim:=Nat×Nat×Int
def Ok(L:List Lim)(w:Nat->Int):Prop:=∀x∈L,w x.1 - w x.2.1<=x.2.2
def pt(v:Nat->Int)(j:Nat)(a:Int):Nat->Int:=λk=>if k=j then a else v k
def rz:List Lim->(Nat->Int)->Bool->(Nat->Int)×Bool
 |[],v,b=>(v,b)
 |(i,j,m)::L,v,b=>if v j<v i - m then rz L (pt v j (v i - m)) true else rz L v b
def tn(L:List Lim):Nat->(Nat->Int)->Option (Nat->Int)
 |0,_=>none
 |t+1,v=>if (rz L v false).2 then tn L t (rz L v false).1 else some (rz L v false).1
def sm(n:Nat)(w:Nat->Int):Int:=((List.range n).map w).sum
def In(n:Nat)(L:List Lim):Prop:=∀x∈L,x.1<n/\x.2.1<n
section
variable {n:Nat}{L:List Lim}{w:Nat->Int}(hi:In n L)(ho:Ok L w)(hn:∀k,0<=w k)(hm:∀w',Ok L w'->(∀k,0<=w' k)->sm n w<=sm n w')
include hi ho hn hm
end
end Dv
namespace Dm
open Db
def wtd(f:Z):Z:=λi j=>if 0<i/\j=0 then none else f i j
def pbk(f:Z)(s:Nat->Nat):Z:=λi j=>f (s i) (s j)
theorem YT(a:B):le a none:=by cases a<;>trivial
theorem wtd_le(f:Z)(i j:Nat):le (f i j) (wtd f i j):=by
 unfold wtd;split
 .exact YT _
 .exact le_refl _
theorem zir(a:B):add a none=none:=by cases a<;>rfl
theorem zhp(a:B):add none a=none:=rfl
theorem wtd_nar{n:Nat}{f:Z}(h:Nar n f):Nar n (wtd f):=by
 refine⟨λi hi=>?_,λj hj=>?_,λi j l hi hj hl=>?_⟩
 .rw[wtd,if_neg (by omega)]
  exact h.diag i hi
 .rw[wtd,if_neg (by omega)]
  exact h.row j hj
 .by_cases e:0<i/\j=0
  .have:add (wtd f i l) (wtd f l j)=none:=by
    by_cases l0:l=0
    .rw[show wtd f i l=none by rw[wtd,if_pos ⟨e.1,l0⟩],zhp]
    .rw[show wtd f l j=none by rw[wtd,if_pos ⟨by omega,e.2⟩],zir]
   rw[this];exact YT _
  .rw[show wtd f i j=f i j by rw[wtd,if_neg e]]
   exact le_trans (h.tri i j l hi hj hl) (add_mono (wtd_le f i l) (wtd_le f l j))
theorem pbk_nar{n:Nat}{f:Z}(h:Nar n f){s:Nat->Nat}(hs:∀i,i<n->s i<n)(h0:s 0=0):Nar n (pbk f s) :=
 ⟨λi hi=>h.diag _ (hs i hi),λj hj=>by rw[pbk,h0];exact h.row _ (hs j hj),λi j l hi hj hl=>h.tri _ _ _ (hs i hi) (hs j hj) (hs l hl)⟩
def ev(c:Int):Bool:=decide (c % 2=0)
end Dm
namespace Df
open Db Dv
structure St(n:Nat)(f:Z)(u l:Nat->B):Prop where
 nar:Nar n f
 c1:∀i,0<i->i<n->le (some 1) (add (f 0 i) (u i))
 c2:∀i,0<i->i<n->le (some 1) (add (l i) (f i 0))
 c3:∀i j,0<i->0<j->i<n->j<n->le (some 1) (add (l i) (add (f i j) (u j)))
def Sm(D:Int)(m:B)(x:Int):Prop:=match m with
 |none=>True
 |some m=>x<=m * D
def smB(D:Int)(m:B)(x:Int):Bool:=match m with
 |none=>true
 |some m=>decide (x<=m * D)
def ll(D:Int)(M:Nat->B)(X:Nat->Int)(i:Nat):B:=if smB D (M i) (X i) then some (1 - 2 * X i) else (M i).map λm=>0 - 2 * m * D
end Df
namespace Dk
open Db Dv
def put(f:Z)(a b:Nat)(c:Int):Z:=λi j=>if i=a/\j=b then mn (f a b) (some c) else f i j
def leB(a b:B):Bool:=match a,b with
 |_,none=>true
 |none,some _=>false
 |some a,some b=>decide (a<=b)
theorem leB_iff{a b:B}:leB a b=true ↔ le a b:=by
 cases a<;>cases b<;>simp[leB,le]
def met:List Lim->Z->Option Z
 |[],f=>some f
 |x::L,f=>if leB (some 1) (add (f x.2.1 x.1) (some x.2.2)) then met L (ins f x.1 x.2.1 (some x.2.2)) else none
theorem met_app:∀(L K:List Lim) (f:Z),met (L++K) f=(met L f).bind (met K)
 |[],_,_=>rfl
 |x::L,K,f=>by
  show(if _ then met (L++K) _ else none)=(if _ then met L _ else none).bind (met K)
  split
  .exact met_app L K _
  .rfl
def Hf(n:Nat)(z f:Z):Prop:=∀i j,i<n->j<n->le (z i j) (f i j)
def K5(z:Z)(L:List Lim):Prop:=∀x∈L,le (z x.1 x.2.1) (some x.2.2)
theorem TN{n:Nat}{z f:Z}(hz:Nar n z)(h:Hf n z f){a b:Nat}{c:Int}(ha:a<n)(hb:b<n)(hc:le (z a b) (some c)):Hf n z (ins f a b (some c)):=λi j hi hj=>by
 refine QA (h i j hi hj) ?_;refine le_trans (hz.tri i j a hi hj ha) (add_mono (h i a hi ha) ?_);exact le_trans (hz.tri a j b ha hj hb) (add_mono hc (h b j hb hj))
theorem met_ok{n:Nat}:∀(L:List Lim) (f:Z),Nar n f->In n L->(∀h,met L f=some h->Nar n h/\Hf n h f/\K5 h L/\∀z,Nar n z->Hf n z f->K5 z L->Hf n z h)/\(met L f=none->∀z,Nar n z->Hf n z f->K5 z L->False)
 |[],f,hf,_=>⟨λh e=>by
   cases e;exact⟨hf,λ_ _ _ _=>le_refl _,λx hx=>(by cases hx),λz _ h _=>h⟩,λe=>by cases e⟩
 |x::L,f,hf,hI=>by
  have hx:=hI x (ya9 ..);unfold met;cases q:leB (some 1) (add (f x.2.1 x.1) (some x.2.2)) with
  |false =>
   refine⟨λh e=>(by cases e),λ_ z hz h1 h2=>?_⟩
   have h3:=hz.tri x.2.1 x.2.1 x.1 hx.2 hx.2 hx.1;rw[hz.diag _ hx.2]at h3;have h4:=le_trans h3 (add_mono (h1 x.2.1 x.1 hx.2 hx.1) (h2 x (ya9 ..)));rw[<- leB_iff,q]at h4;cases h4
  |true =>
   simp only[ye0];have N:=ins_nar hf hx.1 hx.2 (leB_iff.mp q);have U:Hf n (ins f x.1 x.2.1 (some x.2.2)) f:=λi j _ _=>HL _ _
   have C:le (ins f x.1 x.2.1 (some x.2.2) x.1 x.2.1) (some x.2.2):=by
    refine le_trans (IL _ _) ?_;rw[hf.diag _ hx.1,hf.diag _ hx.2,one_add,add_one];exact le_refl _
   obtain⟨h1,h2⟩:=met_ok L _ N λy hy=>hI y (ya6 _ hy)
   have K:∀z,K5 z (x::L)->le (z x.1 x.2.1) (some x.2.2)/\K5 z L:=λz k=>⟨k x (ya9 ..),λy hy=>k y (ya6 _ hy)⟩
   refine⟨λh e=>?_,λe z hz a b=>h2 e z hz (TN hz a hx.1 hx.2 (K z b).1) (K z b).2⟩
   obtain⟨n1,n2,n3,n4⟩:=h1 h e;refine⟨n1,λi j hi hj=>le_trans (n2 i j hi hj) (U i j hi hj),λy hy=>?_,λz hz a b=>n4 z hz (TN hz a hx.1 hx.2 (K z b).1) (K z b).2⟩
   rcases yaf.mp hy with rfl|yL
   .exact le_trans (n2 _ _ hx.1 hx.2) C
   .exact n3 y yL
end Dk
namespace Pu
open PySem PySem.Spec PyProof.Rows L2 Zw Zx
def mT(n:Nat)(g:Nat->T):List T:=(List.range n).map g
theorem nl0:((0:Nat):Int)=0:=rfl
theorem O0:((1:Nat):Int)=1:=rfl
theorem nl2:((2:Nat):Int)=2:=rfl
theorem nl3:((3:Nat):Int)=3:=rfl
theorem nl4:((4:Nat):Int)=4:=rfl
theorem nl5:((5:Nat):Int)=5:=rfl
theorem nl6:((6:Nat):Int)=6:=rfl
theorem nl7:((7:Nat):Int)=7:=rfl
theorem nl8:((8:Nat):Int)=8:=rfl
theorem nl9:((9:Nat):Int)=9:=rfl
theorem zny{k:Nat}(h:k<=100000):(k<=Bp)=True:=eq_true (by unfold Bp;omega)
theorem znx{k:Nat}(h:k<100000):(k<Bp)=True:=eq_true (by unfold Bp;omega)
section
variable {n:Nat}{g h:Nat->T}
theorem CT:(mT n g).length=n:=by simp[mT]
theorem EX{i:Nat}(hi:i<n):(mT n g)[i]?=some (g i):=by simp[mT,hi]
theorem Fu(e:(mT n g)[i]?=some t):i<n/\t=g i:=by
 have hi:i<n:=by
  rcases Nat.lt_or_ge i n with q|q
  .exact q
  .rw[yca (by rw[CT];exact q)]at e
   cases e
 rw[EX hi]at e
 grind
theorem Ey(hl:l.length=n)(h:∀i,i<n->l[i]?=some (g i)):l=mT n g:=by
 refine List.ext_getElem? λi=>?_
 rcases Nat.lt_or_ge i n with q|q
 .rw[h i q,EX q]
 .rw[yca (by omega),yca (by rw[CT];exact q)]
theorem Ds(e:∀i,i<n->g i=h i):mT n g=mT n h:=Ey CT λi hi=>by rw[EX hi,e i hi]
theorem CI{k:Nat}(h1:k<n):Ag (mT n g) (k:Int)=some (g k):=Hb (EX h1)
theorem Pw(ht:t∈mT n g):∃i,i<n/\t=g i:=by
 obtain⟨i,hi,e⟩:=yac.mp ht
 grind
theorem FP:BS (mT n g)=mT n λi=>(g i).share:=by
 rw[EA];unfold mT;rw[ybd]
 rfl
theorem Gy(e:∀i,(g i).sh=true):A3 (mT n g)=true:=by
 rw[EB,yab];intro t ht;obtain⟨i,-,rfl⟩:=Pw ht;exact e i
theorem zj5(xs:Nat->Int):A3 (mT n λi=>.int (xs i))=true:=Gy λ_=>rfl
theorem zj6(u w:Nat->Int):A3 (mT n λi=>.nd false .tup [.int (u i),.int (w i)])=true:=Gy λ_=>rfl
theorem Jc:mT n g++[g n]=mT (n+1) g:=by
 unfold mT;rw[List.range_succ,yas]
 rfl
theorem YH{α:Type}(t:α->T)(xs:Nat->α)(r):mT n (λj=>t (xs j))++[t r]=mT (n+1) λj=>t (if j=n then r else xs j):=by
 rw[<- Jc,if_pos rfl,Ds (g:=λj=>t (if j=n then r else xs j)) (h:=λj=>t (xs j)) λj hj=>by grind]
theorem Qp:∀(l) (k i:Nat) (t),l[i]?=some t->(EI k l)[i]?=some (.tup [.int (k+i:Nat),t])
 |[],_,_,_,e=>by simp at e
 |x::r,k,0,t,e=>by
  simp at e;subst e
  rfl
 |x::r,k,i+1,t,e=>by
  rw[EI];have:=Qp r (k+1) i t (by simpa using e)
  grind
theorem MP:∀(l) (k),(EI k l).length=l.length
 |[],_=>rfl
 |x::r,k=>by rw[EI,yb7,yb7,MP r]
theorem Ga:EI 0 (mT n g)=mT n λi=>.tup [.int i,g i]:=by
 refine Ey (by rw[MP,CT]) λi hi=>?_
 rw[Qp _ _ _ _ (EX hi),Nat.zero_add]
theorem JO:Gj (mT n g) (mT n h)=mT n λi=>.tup [g i,h i]:=by
 refine Ey (by simp[Gj,CT]) λi hi=>?_
 unfold Gj;rw[List.getElem?_zipWith,EX hi,EX hi]
theorem V4(lo:Int):E8 lo n=mT n λi=>.int (lo+(i:Int)):=rfl
theorem E9:E8 0 n=mT n λi=>.int (i:Int):=by
 rw[V4];simp
def consT(x:T)(g:Nat->T):Nat->T
 |0=>x
 |i+1=>g i
theorem zla(x):x::mT n g=mT (n+1) (consT x g):=by
 refine Ey (by rw[yb7,CT]) λi hi=>?_
 cases i with
 |zero=>rfl
 |succ i=>rw[ybx,EX (by omega)];rfl
theorem mT_of(l)(d):l=mT l.length λi=>l.getD i d:=Ey rfl λi hi=>by
 grind
theorem YG:(mT n g).set i v=mT n λj=>if j=i then v else g j:=Ey (by simp[CT]) λj hj=>by
 rw[List.getElem?_set,CT]
 by_cases e:i=j
 .grind
 .simp only[e,ye8];rw[EX hj,if_neg (λq=>e q.symm)]
theorem YI(o)(k)(e:∀i,i<n->Fit (g i) d):Fit (.nd o k (mT n g)) (d+1):=Fit.nd λt ht=>by
 obtain⟨i,hi,rfl⟩:=Pw ht;exact e i hi
variable {b:T->AV->Option AV}{body:AJ}{me:AL}{τ:AV}
theorem MD(I:Nat->AV->Prop)(h0:I 0 τ)(hs:∀i τ,i<n->I i τ->∃τ1,b (g i) τ=some τ1/\∃τ2,body τ1=some (.nx τ2)/\I (i+1) τ2):∃τ',BW b body (mT n g) τ=some (.nx τ')/\I n τ':=by
 have:=Dg I h0 λi t τ e hI=>by
  obtain⟨hi,rfl⟩:=Fu e;exact hs i τ hi hI
 rwa[CT]at this
theorem Ic(p:Nat->Prop)(v )(I:Nat->AV->Prop)(h0:I 0 τ)
  (hs:∀i τ,i<n->(∀j,j<i->p j)->I i τ->∃τ1,b (g i) τ=some τ1/\((p i/\∃τ2,(body τ1=some (.nx τ2)\/body τ1=some (.ct τ2))/\I (i+1) τ2)\/(¬ p i/\body τ1=some (.rt v)))) :
  ((∀i,i<n->p i)/\∃τ',BW b body (mT n g) τ=some (.nx τ')/\I n τ')\/((∃i,i<n/\¬ p i)/\BW b body (mT n g) τ=some (.rt v)):=by
 have:=zg5 (body:=body) (λi τ=>(∀j,j<i->p j)/\I i τ) (λw=>w=v/\∃i,i<n/\¬ p i) ⟨λj hj=>by omega,h0⟩ λi t τ e hI=>by
  obtain⟨hi,rfl⟩:=Fu e;obtain⟨τ1,e1,q⟩:=hs i τ hi hI.1 hI.2;refine⟨τ1,e1,?_⟩
  rcases q with ⟨pi,τ2,e2,I2⟩|⟨pi,e2⟩
  .grind
  .exact .inr ⟨v,e2,rfl,i,hi,pi⟩
 rw[CT]at this
 grind
theorem DC   {cs:AV}(hs:∀i,i<n->me (some (g i)::cs)=some (.v (f i) false)):Co (AD 0) (mC (.bl true)) me (mT n g) (x::cs)=some (mT n f):=by
 have:=Lo (b:=AD 0) (ts:=mT n g) (λ_ τ=>∃y,τ=y::cs) f ⟨x,rfl⟩ λi t τ e hI=>by
  obtain⟨hi,rfl⟩:=Fu e;obtain⟨y,rfl⟩:=hI;exact⟨some (g i)::cs,by simp[AD],hs i hi,_,rfl⟩
 rw[this,CT]
 rfl
theorem EF{u w f:Nat->T}  {cs:AV}(hs:∀i,i<n->me (some (u i)::some (w i)::cs)=some (.v (f i) false)):Co (Aj 2 (AM (AD 0) (AM (AD 1) Am))) (mC (.bl true)) me (mT n λi=>.tup [u i,w i]) (x::y::cs)=some (mT n f):=by
 have:=Lo (b:=Aj 2 (AM (AD 0) (AM (AD 1) Am))) (ts:=mT n λi=>.tup [u i,w i]) (λ_ τ=>∃x y,τ=x::y::cs) f ⟨x,y,rfl⟩ λi t τ e hI=>by
  obtain⟨hi,rfl⟩:=Fu e;obtain⟨x,y,rfl⟩:=hI;exact⟨some (u i)::some (w i)::cs,by rfl,hs i hi,_,_,rfl⟩
 rw[this,CT]
 rfl
end
def bT:Db.B->T
 |none=>.non
 |some i=>.int i
theorem SA:bT none=.non:=rfl
theorem M0(i:Int):bT (some i)=.int i:=rfl
abbrev rT(n:Nat)(f:Nat->Db.B):T:=.lst (mT n λj=>bT (f j))
abbrev zT(n:Nat)(f:Db.Z):T:=.lst (mT n λi=>rT n (f i))
theorem bI(b:Db.B):(bT b).sh=true:=by cases b<;>rfl
theorem Ij(b:Db.B):(bT b).share=bT b:=by cases b<;>rfl
theorem zp2(b):Fit (bT b) 0:=by cases b<;>first|exact Fit.non 0|exact Fit.int _ 0
theorem zmo(n:Nat)(f:Nat->Db.B):Fit (rT n f) 1:=YI _ _ λi _=>zp2 _
theorem zlm(n:Nat)(f:Db.Z):Fit (zT n f) 2:=YI _ _ λi _=>zmo n _
theorem zgx(h:∀i j,i<n->j<n->f i j=g i j):zT n f=zT n g:=by
 unfold zT;rw[Ds λi hi=>?_]
 unfold rT;rw[Ds λj hj=>?_]
 grind
abbrev vT(n:Nat)(v:Nat->Int×Int):T:=.lst (mT n λi=>fr (v i).1 (v i).2)
def Gk(v:Nat->Int×Int):Nat->Int×Int
 |0=>(0,1)
 |i+1=>v i
theorem ziu(n)(v):(fr 0 1)::mT n (λi=>fr (v i).1 (v i).2)=mT (n+1) λi=>fr (Gk v i).1 (Gk v i).2:=by
 rw[zla];refine Ds λi _=>?_
 cases i<;>rfl
theorem Ii(p):FG (mT n λi=>.bl (p i))=some ((List.range n).map p):=by
 unfold mT;generalize List.range n=l
 induction l with
 |nil=>rfl
 |cons x r ih=>simp only[yap,FG,ih]
theorem LN(n)(f):(rT n f).share=rT n f:=by
 unfold T.share;rw[FP];simp only[Ij]
theorem J2(n)(f):(rT n f).sh=true:=by
 unfold T.sh;rw[Gy λi=>bI _]
 rfl
theorem zgw(n)(f):(zT n f).share=zT n f:=by
 unfold T.share;rw[FP];simp only[LN]
theorem BX(n)(f):(zT n f).sh=true:=by
 unfold T.sh;rw[Gy λi=>J2 n _]
 rfl
theorem ES{n:Nat}(h:n<=100000):C8 n=true:=@decide_eq_true _ (Classical.propDecidable _) ⟨by omega,by omega⟩
theorem HJ{n:Nat}(h:0<n)(y:Int):∃i:Nat,y.fmod n=i/\i<n :=
 ⟨(y % n).toNat,(fm (yd8.mpr h)).trans (Int.toNat_of_nonneg (Int.emod_nonneg y (Int.ne_of_gt (yd8.mpr h)))).symm,(Int.toNat_lt (Int.emod_nonneg y (Int.ne_of_gt (yd8.mpr h)))).mpr (Int.emod_lt_of_pos y (yd8.mpr h))⟩
theorem JW:∀ys ,GJ (ys.map T.str)=some ys
 |[]=>rfl
 |y::r=>by
  show(match GJ (r.map T.str) with|some l=>some (y::l)|none=>none)=_
  rw[JW r]
theorem BB:∀ys:List Str,BS (ys.map T.str)=ys.map T.str
 |[]=>rfl
 |y::r=>by
  show T.str y::BS (r.map T.str)=_;rw[BB r]
  rfl
theorem Ae:∀ys:List Str,A3 (ys.map T.str)=true
 |[]=>rfl
 |y::r=>by
  show(true && A3 (r.map T.str))=true;rw[Ae r]
  rfl
def Bd(ys:List Str):Prop:=∀y∈ys,PyData.strOk y=true
theorem Vo:∀ys:List Str,EO (ys.map T.str)=true
 |[]=>rfl
 |y::r=>by
  show(true && EO (r.map T.str))=true;rw[Vo r]
  rfl
theorem YV:∀{ys},Bd ys->PyData.canLayAll0 (Bb (ys.map T.str))=true/\PyData.depthAll (Bb (ys.map T.str))=0
 |[],_=>⟨rfl,rfl⟩
 |y::r,h=>by
  obtain⟨h1,h2⟩:=YV λx hx=>h x (ya6 _ hx)
  have h3:=h y (ya9 ..);rw[yap,Bb,PyData.canLayAll0,PyData.depthAll,h1,h2,T.data,PyData.canLay0,h3,PyData.depth];simp
theorem Ef(hx:PyData.strOk x=true)(hy:PyData.strOk y=true):BF (.str x) (.str y)=some (.bl (decide (x=y))):=by
 have e:(x == y)=decide (x=y):=by rfl
 unfold BF HZ EH Ju;simp only[T.data,T.pln,PyData.canLay0,PyData.depth,PyData.eqv,hx,hy,e];simp
theorem Fit.str(h:PyData.strOk x=true)(n):Fit (.str x) n:=⟨by unfold EH;rw[T.data,PyData.canLay0,h];rfl,rfl,by simp[T.data,PyData.depth]⟩
theorem bK(x):∀ys:List Str,((Bb (ys.map T.str)).any λy=>PyData.eqv y (.str x))=decide (x∈ys)
 |[]=>by rfl
 |y::r=>by
  have e:(y == x)=decide (x=y):=by grind
  rw[yap,Bb,yde,bK x r,T.data,PyData.eqv,e,yd6,yc2,ye4,ye4,ye4,yaf]
theorem IU     (h:Bd ys)(hx:PyData.strOk x=true):Dd (.str x) (.nd o k (ys.map T.str))=some (.bl (decide (x∈ys))):=by
 have ok:G6 (.str x) (ys.map T.str)=true:=by
  obtain⟨h1,h2⟩:=YV h;unfold G6 EH;rw[Vo,h1,h2,T.data,PyData.canLay0,hx]
  rfl
 unfold Dd;simp only;rw[if_pos ok];unfold IW;rw[T.data,bK]
end Pu
namespace Tx
open PySem PySem.NumText
abbrev cs(x:Str):List Nat:=x.cps.toList
theorem cs_ext{x y:Str}(h:cs x=cs y):x=y:=by
 cases x
 simp_all
theorem cs_len(x:Str):x.length=(cs x).length:=rfl
section
variable {x y:Str}{c:Nat}(hA:∀k,(cs x)[k]?=some c->StrLaws.At x y x.length k)
include hA
end
theorem sl_to(h:a<=(cs x).length):cs (Txt.slice x none (some a))=(cs x).take a:=by
 have e:Txt.slice x none (some a)=StrLaws.sliceText x none (some a):=rfl;rw[e,StrLaws.sliceText_to ⟨Int.natCast_nonneg a,Int.ofNat_le.mpr h⟩,List.drop_zero,Int.sub_zero,ycx]
end Tx
namespace Hd
open PySem PySem.W PySem.Calls PyProof.Rows
def Jo(st:SharedT->Thread->Option (SharedT×Thread))(ok:Thread->Bool):Nat->SharedT->Thread->Option SharedT
 |0=>λ_ _=>none
 |n+1=>λs t=>bif through t then some s else bif ok t then (st s t).elim none λx=>Jo st ok n x.1 x.2 else none
theorem zkx(n):∀(s) (t) (r),
  Jo (stepT (denote tb) p w) (stepOk m ann) n s t=some r->topRun tb p w m ann n s.abs t=some r.abs:=by
 induction n with
 |zero=>intro s t r h;exact nomatch h
 |succ n ih =>
  intro s t r h;rw[Jo]at h;dsimp only at h;rw[topRun];cases a:through t with
  |true=>grind
  |false =>
   rw[a]at h;cases b:stepOk m ann t with
   |false=>grind
   |true =>
    rw[b]at h;cases c:stepT (denote tb) p w s t with
    |none=>grind
    |some x=>rw[c]at h;rw[stepT_spec c];grind
noncomputable def LF(p q:Program)(loose:List Str)(Xt:Shared->Bool){α:Type}(Yf:Shared->α)(h:Heap)(s:Shared) :=
 ((staticsOk (importedModules p.main.body) h s.heap && namesBound p s.heap && gensDone s && laidKept h s.heap),openSeen q loose (importedModules p.main.body) Xt true s,Yf s)
theorem zkq{Ya:World->α}{N M m:Nat}{bt:Params->BT}{lf:Params->Life}{st:World->SharedT->Thread->Option (SharedT×Thread)}(hst:∀w,stepT (denote treeTable) p w=st w)(hok:stepOk m ann=ok)
  (e:opening p=plainProg p.main.scope.names) (hN:Nat.ble 600 N=true) (f:∀s,fenceModules? p s=some s) (hM:Nat.ble M N=true)
  (hb:∀P,absHeap (bt P) m (lf P)=boot_heap P) (hs:∀P,(boot_heap P).isNs mainGlobals=true) (hz:∀P,(boot_heap P).objs.size=m) (ha:∀P,(boot_heap P).nsMap mainGlobals "__annotations__"=ann)
  (h:∀(w ) (os ),(Jo (st w) ok M ⟨bt w.params,m,lf w.params,Array.mk [],boot_drawn,boot_toks,os⟩ (topStub p)).map (λs=>LF p q loose Xt Yf (boot_heap w.params) s.abs)=some (true,openGood q loose,Ya w)) :
  LeftO p q loose Xt Yf Ya N true:=λw=>by
 obtain⟨⟨h0,g0,d0,k0,os⟩,hs0,hv⟩:=yad.mp (boot_open e hN f w);simp only[Prod.mk.injEq]at hv;obtain⟨rfl,rfl,rfl,rfl⟩:=hv;obtain⟨T,hT,hx⟩:=yad.mp (h w os);rw[<- hst,<- hok]at hT;have r:=topRun_mono (N - M) _ _ _ _ (zkx _ _ _ _ hT);rw[Nat.add_sub_cancel' (Nat.le_of_ble_eq_true hM)]at r;have hx1:=congrArg Prod.fst hx;have hx2:=congrArg Prod.snd hx;simp only[LF]at hx1 hx2;simp only[SharedT.abs,hb]at r hx1 hx2
 have k:topFrom treeTable p w N ⟨boot_heap w.params,Array.mk [],boot_drawn,boot_toks,os⟩=some T.abs:=by
  simp only[topFrom,hs,hz,ha,r];simp only[Option.bind_some];rw[hx1]
  rfl
 show((fencedOpening treeTable p w N).bind (topFrom treeTable p w N)).map _=_;rw[hs0];show(topFrom treeTable p w N _).map _=_;rw[k];exact congrArg some hx2
def en(P:Params)(x:String)(k:Nat)(v:Value):DictEntry:=⟨PyData.keyHash P (Str.ofString x),.str (Str.ofString x) k,v⟩
def bt(P:Params):BT:=((boot_heap P).objs.toList.foldl (λ(x:BT×Nat) o=>(x.1.ins x.2 o,x.2+1)) (BT.nil,0)).1
theorem bt_ok(P:Params):absHeap (bt P) 11 (boot_heap P).life=boot_heap P:=by ext
theorem zp4(P):(boot_heap P).nsMap mainGlobals "__annotations__"=some (.ref 6):=by ext
theorem ns_ok(P:Params):(boot_heap P).isNs mainGlobals=true:=by ext
theorem sz_ok(P:Params):(boot_heap P).objs.size=11:=by ext
abbrev go(p:Program)(M:Nat)(w:World)(os:OsState):Option SharedT :=
 Jo (Fast.tw10156331382660048174 (Fast.tw11892475500146522536 Fast.tw14364793385576792824) p w) (Fast.tw6613529449190102663 11 (some (.ref 6))) M ⟨bt w.params,11,(boot_heap w.params).life,Array.mk [],boot_drawn,boot_toks,os⟩ (topStub p)
abbrev xt(r:RowW)(q:Program)(s:Shared):Bool:=xlAt q [] s && recOk r.records s
theorem zkr{Ya:World->α}(N M:Nat)
  (e:opening p=plainProg p.main.scope.names) (hN:Nat.ble 600 N=true) (f:∀s,fenceModules? p s=some s) (hM:Nat.ble M N=true)
  (h:∀(w ) (os ),(go p M w os).map (λs=>LF p q loose (xt r q) Yf (boot_heap w.params) s.abs)=some (true,openGood q loose,Ya w)):LeftO p q loose (xt r q) Yf Ya N true :=
 zkq
  (λw=>by rw[Fast.te10156331382660048174,Fast.te11892475500146522536,Fast.te14364793385576792824]) (by rw[Fast.te6613529449190102663]) e hN f hM bt_ok ns_ok sz_ok zp4 h
theorem zjb(h:Fast.tw9446332074065402090 l=true):l.wellSaid=true:=(congrFun Fast.te9446332074065402090 l).trans h
end Hd
set_option maxHeartbeats 4200000
namespace Zl
open PySem L2 Zw Zx Pu
noncomputable section
local macro_rules
  |`(tactic| simp![$as,*])=>do let y<-"A4 OB Jt AH AZ Cg DW A2 AU Nv V0 runM mMut HA A8 BU CP IE CY GY LW AA mC AE AB Ay Bn m1 m2 AK Dt BE CU Bo AO C9 Ez BV Bj BD BN g1 g2 AD Am AM Aj blk MT IV Cc HU CV Fz M5 M4 M3 M1 IT BI Fd CH BA CW Er KA KD C1 FU Az T.isN T.isB Ba CZ Im Ja maxT ych Jm Di Hc Cb Kr TU Hy Ky T.share BS T.sh A3 T.flat at0 Ik at2 yap List.map_nil yb7 yc3 List.replicate ybz List.nil_append ydj List.getElem?_cons_zero ybx List.getElem?_nil List.set_cons_zero List.set_cons_succ yc0 nl0 O0 nl2 nl3 nl4 nl5 nl6 nl7 nl8 nl9 Int.reduceBEq Nat.reduceBEq Nat.reduceAdd Nat.reduceSub Nat.reduceLT Nat.reduceLeDiff if_true if_false ite_true ite_false reduceIte Bool.not_true Bool.not_false ydf ybg Bool.and_false Bool.false_and Bool.or_true Bool.true_or Bool.or_false Bool.false_or Bool.false_xor Bool.true_xor yc4 ycw decide_true decide_false yaf yaz or_false or_true true_or and_true true_and and_self String.reduceEq String.reduceBEq beq_self_eq_true ne_eq not_false_eq_true not_true_eq_false zny znx bI Ij CT FP Int.reduceLT Int.reduceAdd ycx zj5 zj6 Gy implies_true forall_const SA M0 Int.reduceEq Int.reduceNe QK BQ Ax Bz B5 HN Cu Fm IG FR Fv Fw FW Ap HP Jd isXT LH Kd.isLst HB J0 GX".splitOn.mapM (λx=>do`(Lean.Parser.Tactic.simpLemma|$(Lean.mkCIdent (<-Lean.Macro.resolveGlobalName x.toName).head!.1):ident));`(tactic| simp only[$(⟨(Lean.Syntax.SepArray.ofElems (sep:=",") (y.toArray.map (·.raw)++as.elemsAndSeps.getSepElems)).elemsAndSeps⟩),*])
noncomputable def AQ(i:Nat):Stmt:=PySem.Challenge.pw_zonewalk_k61_papers_looked_at.main.body.getD i (.Pass ⟨0,0,0,0⟩)
def zov(s:Stmt)(j:Nat):Stmt:=match s with
 |.ClassDef _ _ _ body _ _ _ _ _ _ _=>body.getD j (.Pass ⟨0,0,0,0⟩)
 |_=>.Pass ⟨0,0,0,0⟩
def Bm(i j:Nat):Stmt:=zov (AQ i) j
abbrev B7:Addr:=277
noncomputable def Bf:List Str:=["start","end","guard","noughts","sign"]
abbrev Ao:Addr:=331
noncomputable def Aq:List Str:=["watch_names","stays","door_list"]
abbrev Ah:Addr:=540
def Ai:List Str:=["first_room","first_values","stays","ways","zones"]
def IS:T:=(.nd false .rt [(.str "<"),(.str "<="),(.str ">"),(.str ">="),(.str "=")])
def Lq:T:=(.nd false .rt [(.str "<"),(.str "<=")])
noncomputable def Lr:T:=(.int 7)
def Ls:T:=(.int 64)
def Lu:T:=(.int 200)
def Qv:List (Addr×Bool):=[(277,true),(331,false),(540,false)]
abbrev VP:Stmt:=AQ 76
def Po:AJ :=
 (AH (A2 (m2 (C1 λi j=>decide (i<j)) (AA 1) (m1 Ba (AA 0))) (AU (AO (AA 0) (AA 1))) A8)
 (AU (mC (.int 0))))
def C4:List T->Option Ru:=A4 2 2 Po
abbrev ML:Fn:=⟨1,["_law_script","_law_k"],C4⟩
abbrev gA(N:List Str)(s:Stmt)(k:Nat)(fs:List (Str×Fn))(bl:List Str)(ow:List Str:=[])(ce:List Str:=[])(ex:List Str:=[])(ox:Gx:=Bw):Gm:=⟨N,(CD s).names,ce,k,fs,bl,ex,ow,[],false,[],[],[],ox⟩
abbrev zds:Gm:=gA ["_law_script","_law_k"] VP 0 [] ["len"]
theorem ze5:Ck zds ML VP Po:={}
theorem Jy(ns:List Int){k:Int}(h0:0<=k):C4 [B8 ns,.int k]=some (.ok (.int (ns.getD k.toNat 0))):=by
 unfold C4 Po
 by_cases h:k<ns.length
 .have e:ns[k.toNat]?=some (ns.getD k.toNat 0):=by
   simp_all
  have ea:Ag (ns.map T.int) k=some (.int (ns.getD k.toNat 0)):=Cs h0 (by simp_all)
  have el:decide (k<(ns.map T.int).length)=true:=by simpa using h
  simp![B8,GL,IC,el,ea]
 .have el:decide (k<(ns.map T.int).length)=false:=by simpa using h
  have e:ns.getD k.toNat 0=0:=by
   simp_all
  simp![B8,GL,IC,el,e]
theorem zp3{x:Str}(h:∀c∈Tx.cs x,c<128):PyData.strOk x=true:=by
 unfold PyData.strOk;rw[<- Array.all_toList,yab];intro c hc;have:=h c hc;exact ye1 (by omega)
abbrev U1:Stmt:=AQ 33
def Oz:AJ :=
 (AU (Fw FW FW (mC (.str "a")) (AA 0) (mC (.str "z"))))
def KR:List T->Option Ru:=A4 1 1 Oz
abbrev Q9:Fn:=⟨1,["sign"],KR⟩
abbrev zal:Gm:=gA ["sign"] U1 0 [] []
theorem zaq:Ck zal Q9 U1 Oz:={}
theorem Tq{c:Nat}(h1:97<=c)(h2:c<=122):KR [.str ⟨#[c]⟩]=some (.ok (.bl true)):=by
 have a1:((Str.ofString "a").cps.toList)=[97]:=by rfl
 have a2:((Str.ofString "z").cps.toList)=[122]:=by rfl
 have b1:@decide (#[c].toList<(Str.ofString "a").cps.toList) (Classical.propDecidable _)=false:=@decide_eq_false _ (Classical.propDecidable _) (by
  rw[a1];rw[List.cons_lt_cons_iff]
  simp_all)
 have b2:@decide ((Str.ofString "z").cps.toList < #[c].toList) (Classical.propDecidable _)=false:=@decide_eq_false _ (Classical.propDecidable _) (by
  rw[a2];rw[List.cons_lt_cons_iff]
  simp_all)
 unfold KR Oz
 simp![b1,b2]
abbrev U7:Stmt:=AQ 34
def RZ:AL :=
 (AK KR (AB (AA 0) AE))
def PF:AJ :=
 (AU (CU (Fw FW FW (mC (.int 1)) (m1 Ba (AA 0)) (mC (.int 8))) (m1 Di (BD 1 [] (Ap (AA 0)) (AD 0) (mC (.bl true)) RZ))))
def KS:List T->Option Ru:=A4 1 1 PF
abbrev Qb:Fn:=⟨2,["text"],KS⟩
abbrev zek:Gm:=gA ["text"] U7 1 [("is_small_letter",Q9)] ["len","all"]
theorem zex:Ck zek Qb U7 PF:={}
def Ip(x:Str):Prop:=∀i,i<x.cps.size->97<=x.cps.getD i 0/\x.cps.getD i 0<=122
theorem Ts(x:Str):GN x=mT x.cps.size λi=>.str ⟨#[x.cps.getD i 0]⟩:=by
 refine Ey (by simp[GN]) λi hi=>?_
 unfold GN
 simp_all
theorem Xp{x:Str}(h:Ip x)(h1:1<=x.cps.size)(h8:x.cps.size<=8):KS [.str x]=some (.ok (.bl true)):=by
 have l1:x.cps.size<=100000:=by omega
 have lc:=DC (n:=x.cps.size) (me:=RZ) (x:=none) (cs:=[]) (g:=λi=>.str ⟨#[x.cps.getD i 0]⟩) (f:=λ_=>.bl true) λi hi=>by
  unfold RZ
  simp![Tq (h i hi).1 (h i hi).2]
 have e1:decide (1<=(x.length:Int))=true:=ye1 (by show 1<=(x.cps.size:Int);omega)
 have e2:decide ((x.length:Int)<=8)=true:=ye1 (by show(x.cps.size:Int)<=8;omega)
 have ll:x.length<=Bp:=by
  omega
 have ba:((List.range x.cps.size).map λ_=>true).all id=true:=by simp
 unfold KS PF
 simp![Ts,lc,l1,e1,e2,ll,Ii,ba]
abbrev U0:Stmt:=AQ 35
def Oy:AJ :=
 (AU (CU (m1 (Cb "str") (AA 0)) (Bo (m2 BF (AA 0) (mC (.str "/"))) (AK KS (AB (AA 0) AE)))))
def KQ:List T->Option Ru:=A4 1 1 Oy
abbrev Q8:Fn:=⟨3,["thing"],KQ⟩
abbrev zaz:Gm:=gA ["thing"] U0 2 [("is_name",Qb)] ["isinstance","str"]
theorem zb4:Ck zaz Q8 U0 Oy:={}
theorem zly{x:Str}(h:Ip x):PyData.strOk x=true:=by
 unfold PyData.strOk;rw[Array.all_eq_true];intro i hi;have:=(h i hi).2;rw[Array.getD_eq_getD_getElem?,ybi hi]at this;rw[ye4]
 omega
def He(x:Str):Prop:=x=Str.ofString "/"\/(Ip x/\1<=x.cps.size/\x.cps.size<=8)
theorem Nn:PyData.strOk (Str.ofString "/")=true:=by decide +kernel
theorem JP{x:Str}(h:He x):PyData.strOk x=true:=by
 rcases h with rfl|h
 .exact Nn
 .exact zly h.1
theorem Sr{x:Str}(h:He x):KQ [.str x]=some (.ok (.bl true)):=by
 have e:=Ef (JP h) Nn;unfold KQ Oy
 by_cases q:x=Str.ofString "/"
 .rw[ye1 q]at e
  simp![e]
 .rw[ydl q]at e;have en:=Xp (h.resolve_left q).1 (h.resolve_left q).2.1 (h.resolve_left q).2.2
  simp![e,en]
abbrev U3:Stmt:=AQ 36
def MX:AL :=
 (Bo (m2 BF (AA 0) (mC (.str "/"))) (AK KR (AB (AA 0) AE)))
def PC:AJ :=
 (AH (A2 (Bo (BE (m1 (Cb "str") (AA 0))) (BE (Fw FW FW (mC (.int 1)) (m1 Ba (AA 0)) (mC (.int 60))))) (AU (mC (.bl false))) A8)
 (AU (m1 Di (BD 1 [] (Ap (AA 0)) (AD 0) (mC (.bl true)) MX))))
def Mg:List T->Option Ru:=A4 1 1 PC
abbrev ZK:Fn:=⟨2,["thing"],Mg⟩
abbrev zbe:Gm:=gA ["thing"] U3 1 [("is_small_letter",Q9)] ["isinstance","str","len","all"]
theorem zbj:Ck zbe ZK U3 PC:={}
def SK(x:Str):Prop:=∀i,i<x.cps.size->x.cps.getD i 0=47\/(97<=x.cps.getD i 0/\x.cps.getD i 0<=122)
theorem GQ{x:Str}(h:SK x):PyData.strOk x=true:=by
 unfold PyData.strOk;rw[Array.all_eq_true];intro i hi;have:=h i hi;rw[Array.getD_eq_getD_getElem?,ybi hi]at this;simp only[ycc]at this
 omega
theorem rn_ok{x:Str}(h:SK x)(h1:1<=x.cps.size)(h8:x.cps.size<=60):Mg [.str x]=some (.ok (.bl true)):=by
 have l1:x.cps.size<=100000:=by omega
 have lc:=DC (me:=MX) (x:=none) (cs:=[]) (g:=λi=>.str ⟨#[x.cps.getD i 0]⟩) (f:=λ_=>.bl true) λi hi=>by
  have o1:PyData.strOk (Str.mk #[x.cps.getD i 0])=true:=GQ λj hj=>by
   have hj':j<1:=hj;have e:j=0:=by omega
   subst e;exact h i hi
  have e:=Ef o1 Nn
  by_cases q:x.cps.getD i 0=47
  .have n:Str.mk #[x.cps.getD i 0]=Str.ofString "/":=by
    rw[q];exact Tx.cs_ext (by decide +kernel)
   rw[ye1 n]at e;unfold MX
   simp![e]
  .have n:¬ (Str.mk #[x.cps.getD i 0]=Str.ofString "/"):=λq1=>by
    have e1:(Str.ofString "/").cps=#[47]:=by decide +kernel
    omega
   rw[ydl n]at e;have hh:=(h i hi).resolve_left q;unfold MX
   simp![e,Tq hh.1 hh.2]
 have e1:decide ((1:Int)<=x.length)=true:=ye1 (by show 1<=(x.cps.size:Int);omega)
 have e2:decide ((x.length:Int)<=60)=true:=ye1 (by show(x.cps.size:Int)<=60;omega)
 have ll:x.length<=100000:=l1;have ba:((List.range x.cps.size).map λ_=>true).all id=true:=by simp
 unfold Mg PC
 simp![Ts,lc,l1,e1,e2,ll,Ii,ba]
abbrev UZ:Stmt:=AQ 8
def YD:AJ :=
 (AU (CU (m1 (Cb "int") (AA 0)) (BE (m1 (Cb "bool") (AA 0)))))
def KP:List T->Option Ru:=A4 1 1 YD
abbrev Q7:Fn:=⟨1,["thing"],KP⟩
abbrev zdo:Gm:=gA ["thing"] UZ 0 [] ["isinstance","int","bool"]
theorem ze1:Ck zdo Q7 UZ YD:={}
theorem zf6(i:Int):KP [.int i]=some (.ok (.bl true)):=by rfl
abbrev U6:Stmt:=AQ 25
def YE:AJ :=
 (AU (CU (AK KP (AB (AA 0) AE)) (m2 (C1 λi j=>decide (j<=i)) (AA 0) (mC (.int 0)))))
def SN:List T->Option Ru:=A4 1 1 YE
abbrev ZL:Fn:=⟨2,["thing"],SN⟩
abbrev zcw:Gm:=gA ["thing"] U6 1 [("is_whole",Q7)] []
theorem zd6:Ck zcw ZL U6 YE:={}
theorem zkf(i:Int):SN [.int i]=some (.ok (.bl (decide (0<=i)))):=by
 rfl
abbrev U8:Stmt:=AQ 24
def PH:AJ :=
 (AH (A2 (Bo (BE (m1 (Cb "tuple") (AA 0))) (m2 Cz (m1 Ba (AA 0)) (mC (.int 3)))) (AU (mC (.bl false))) A8)
 (AU (CU (m2 Dd (AO (AA 0) (mC (.int 0))) (AA 1)) (CU (m2 Dd (AO (AA 0) (mC (.int 1))) (AA 2)) (AK SN (AB (AO (AA 0) (mC (.int 2))) AE))))))
def Mh:List T->Option Ru:=A4 3 3 PH
abbrev ZM:Fn:=⟨3,["thing","watches","words"],Mh⟩
abbrev zel:Gm:=gA ["thing","watches","words"] U8 2 [("is_number",ZL)] ["isinstance","tuple","len"]
theorem zey:Ck zel ZM U8 PH:={}
def Bt:List Str:=["<","<=",">",">=","="]
theorem Kb:Bd Bt:=by unfold Bd;decide +kernel
abbrev U9:Stmt:=AQ 26
def R5:AL :=
 (AK Mh (AB (AA 0) (AB (AA 1) (AB (AA 2) AE))))
def PK:AJ :=
 (AU (CU (m1 (Cb "list") (AA 0)) (m1 Di (BD 1 [1,2] (Ap (AA 0)) (AD 0) (mC (.bl true)) R5))))
def Iy:List T->Option Ru:=A4 3 3 PK
abbrev MI:Fn:=⟨4,["thing","watches","words"],Iy⟩
abbrev zdp:Gm:=gA ["thing","watches","words"] U9 3 [("is_look",ZM)] ["isinstance","list","all"] [] ["watches","words"]
theorem ze2:Ck zdp MI U9 PK:={}
abbrev Uq:Stmt:=AQ 42
def P7:AJ :=
 (AU (m2 BF (m1 JS (AA 0)) (m1 Ba (AA 0))))
def JA:List T->Option Ru:=A4 1 1 P7
abbrev MJ:Fn:=⟨1,["texts"],JA⟩
abbrev zc8:Gm:=gA ["texts"] Uq 0 [] ["len","set"]
theorem zcg:Ck zc8 MJ Uq P7:={}
theorem Xy{val:Nat->L2.Key}{n:Nat}(h:∀i j,i<n->j<n->val i=val j->i=j):∀k,k<=n->(met val k).length=k/\∀x∈met val k,∃i,i<k/\x=val i
 |0,_=>⟨rfl,λx hx=>by cases hx⟩
 |k+1,hk=>by
  obtain⟨h1,h2⟩:=Xy h k (by omega)
  have hn:val k∉met val k:=λz=>by
   obtain⟨i,hi,e⟩:=h2 _ z;have:=h k i (by omega) (by omega) e
   omega
  have e:met val (k+1)=met val k++[val k]:=by
   conv=>lhs;unfold met
   omega
  rw[e];refine⟨by simp_all,λx hx=>?_⟩
  rcases yar.mp hx with q|q
  .obtain⟨i,hi,e⟩:=h2 x q;exact⟨i,by omega,e⟩
  .exact⟨k,by omega,yaa.mp q⟩
theorem zlo{ys:List Str}(h:ys.Nodup):TM ys=ys.length:=by
 refine(Xy (λi j hi hj e=>?_) ys.length (ya8 _)).1
 have e':=Sum.inr.inj e;rw[yag,yag,ya0 hi,ya0 hj]at e';exact(yb5 h).mp e'
theorem N7{ys:List Str}(h:ys.Nodup)(hl:ys.length<1000):JA [.lst (ys.map T.str)]=some (.ok (.bl true)):=by
 have e:(ys.length == ys.length)=true:=ye9 _;unfold JA P7
 simp![JS,BB,JW,hl,zlo h,Cr,e,ya1]
abbrev Uk:Stmt:=AQ 41
def Ra:AL :=
 (AK KQ (AB (AA 0) AE))
def PZ:AJ :=
 (AH (A2 (Bo (BE (m1 (Cb "list") (AA 0))) (m2 (C1 λi j=>decide (j<i)) (m1 Ba (AA 0)) (mC Lr))) (CY "BadMachine" (AB (mC (.str "a machine's watches are a list of at most seven")) AE)) A8)
 (A2 (Bo (BE (m1 Di (BD 1 [] (Ap (AA 0)) (AD 0) (mC (.bl true)) Ra))) (BE (AK JA (AB (AA 0) AE)))) (CY "BadMachine" (AB (mC (.str "a machine's watches are unlike names")) AE)) A8))
def Mp:List T->Option Ru:=A4 1 1 PZ
abbrev ZU:Fn:=⟨4,["watches"],Mp⟩
abbrev zav:Gx:={ Bw with co:=[("MOST_WATCHES",Lr)] }
abbrev zb0:Gm:=gA ["watches"] Uk 3 [("is_watch_name",Q8),("are_unlike",MJ)] ["isinstance","list","len","all"] (ex:=["BadMachine"]) (ox:=zav)
theorem zb5:Ck zb0 ZU Uk PZ:={}
theorem JV(ws:List Str):ws.map T.str=mT ws.length λi=>.str (ws.getD i Str.empty):=Ey (by simp_all) λi hi=>by
 simp_all
theorem cw_ok{ws:List Str}(h:∀x∈ws,He x)(hd:ws.Nodup)(hl:ws.length<=7):Mp [.lst (ws.map T.str)]=some (.ok .non):=by
 have lc:=DC (n:=ws.length) (me:=Ra) (x:=none) (cs:=[]) (g:=λi=>.str (ws.getD i Str.empty)) (f:=λ_=>.bl true) λi hi=>by
  have hm:ws.getD i Str.empty∈ws:=by
   simp_all
  unfold Ra
  simp![Sr (h _ hm)]
 rw[<- JV]at lc;have l1:ws.length<=100000:=by omega
 have e1:decide (7<(ws.length:Int))=false:=ydl (by omega)
 have ba:((List.range ws.length).map λ_=>true).all id=true:=by simp
 have un:=N7 hd (by omega)
 unfold Mp PZ Lr
 simp![BB,Ae,ya1,lc,l1,e1,Ii,ba,un]
abbrev Ul:Stmt:=AQ 43
def NU:AJ :=
 (AH (A2 (Bo (BE (m1 (Cb "tuple") (AA 2))) (m2 Cz (m1 Ba (AA 2)) (mC (.int 2)))) (CY "BadMachine" (AB (mC (.str "a room is a tuple of a name and a stay")) AE)) A8)
 (A2 (Bo (BE (AK Mg (AB (AO (AA 2) (mC (.int 0))) AE))) (BE (AK Iy (AB (AO (AA 2) (mC (.int 1))) (AB (AA 1) (AB (mC Lq) AE)))))) (CY "BadMachine" (AB (mC (.str "a room has a name, and a stay of the machine's watches")) AE)) A8))
def Rb:AL :=
 (AO (AA 0) (mC (.int 0)))
def P1:AJ :=
 (AH (A2 (Bo (BE (m1 (Cb "list") (AA 0))) (m2 BF (m1 Ba (AA 0)) (mC (.int 0)))) (CY "BadMachine" (AB (mC (.str "a machine's rooms are a list of one or more")) AE)) A8)
 (AH (BU (Ap (AA 0)) (AD 2) NU)
 (A2 (BE (AK JA (AB (BD 1 [] (Ap (AA 0)) (AD 0) (mC (.bl true)) Rb) AE))) (CY "BadMachine" (AB (mC (.str "no two rooms have one name")) AE)) A8)))
def Mq:List T->Option Ru:=A4 2 3 P1
abbrev ZV:Fn:=⟨5,["rooms","watches"],Mq⟩
abbrev zbn:Gx:={ Bw with co:=[("STAY_WORDS",Lq)] }
abbrev zbs:Gm:=gA ["rooms","watches","room"] Ul 4 [("is_room_name",ZK),("is_guard",MI),("are_unlike",MJ)] ["isinstance","list","len","tuple"] (ex:=["BadMachine"]) (ox:=zbn)
theorem zbz:Ck zbs ZV Ul P1:={}
def CN(ws wd:List Str)(l:List T):Prop:=∀t∈l,∃x y n,t=.tup [.str x,.str y,.int n]/\x∈ws/\y∈wd/\0<=n
theorem CN.sh{ws wd:List Str}{l:List T}(h:CN ws wd l):A3 l=true:=by
 rw[EB,yab];intro t ht;obtain⟨x,y,n,rfl,_⟩:=h t ht
 rfl
theorem CN.more{ws vs wd:List Str}{l:List T}(h:CN ws wd l)(hs:∀x∈ws,x∈vs):CN vs wd l:=λt ht=>by
 obtain⟨x,y,n,e,h1,h2,h3⟩:=h t ht;exact⟨x,y,n,e,hs x h1,h2,h3⟩
abbrev Jh(wd:List Str):T:=.nd false .rt (wd.map T.str)
theorem zkn{ws wd:List Str}(h:Bd ws)(hd:Bd wd){t:T}(ht:∃x y n,t=.tup [.str x,.str y,.int n]/\x∈ws/\y∈wd/\0<=n):Mh [t,.lst (ws.map T.str),Jh wd]=some (.ok (.bl true)):=by
 obtain⟨x,y,n,rfl,h1,h2,h3⟩:=ht;have e1:=IU (o:=false) (k:=.lst) h (h x h1);have e2:=IU (o:=false) (k:=.rt) hd (hd y h2);have e3:=zkf n;rw[ye1 h1]at e1;rw[ye1 h2]at e2;rw[ye1 h3]at e3;unfold Mh PH
 simp![IJ,BB,Ae,e1,e2,e3]
theorem QU{ws wd:List Str}(h:Bd ws)(hd:Bd wd){l:List T}(hl:l.length<=1000)(hk:CN ws wd l):Iy [.lst l,.lst (ws.map T.str),Jh wd]=some (.ok (.bl true)):=by
 have hs:=hk.sh;have es:=AG l hs;have em:=mT_of l .non
 have sg:∀i,(l.getD i .non).sh=true:=λi=>by
  by_cases hi:i<l.length
  .rw[yag,ya0 hi];rw[EB,yab]at hs;exact hs _ (yat hi)
  .rw[yag,yca (by omega)]
   rfl
 have lc:=DC (me:=R5) (x:=none) (cs:=[some (.lst (ws.map T.str)),some (Jh wd)]) (g:=λi=>l.getD i .non) (f:=λ_=>.bl true) λi hi=>by
  have hm:l.getD i .non∈l:=by
   rw[yag,ya0 hi];exact yat hi
  have e:=zkn h hd (hk _ hm);unfold R5
  simp![BB,Ae,e,AN _ (sg i),sg i]
 rw[<- em]at lc;have l1:l.length<=100000:=by omega
 have ba:((List.range l.length).map λ_=>true).all id=true:=by simp
 unfold Iy PK
 simp![BB,Ae,hs,es,l1,lc,Ii,ba]
def Em:List Str:=["<","<="]
theorem zoa:Lq=Jh Em:=rfl
theorem Y2:IS=Jh Bt:=rfl
theorem st_tx:Bd Em:=by unfold Bd;decide +kernel
structure RsOk(ws:List Str)(rs:List (Str×List T)):Prop where
 l1:1<=rs.length
 l64:rs.length<=64
 nm:∀r∈rs,SK r.1/\1<=r.1.cps.size/\r.1.cps.size<=60
 nd:(rs.map (·.1)).Nodup
 lk:∀r∈rs,CN ws Em r.2/\r.2.length<=1000
abbrev AF(r:Str×List T):T:=.tup [.str r.1,.lst r.2]
abbrev FQ(rs:List (Str×List T)):T:=.lst (rs.map AF)
theorem Ep{ws:List Str}{rs:List (Str×List T)}(h:RsOk ws rs):A3 (rs.map AF)=true:=by
 rw[EB,yab];intro t ht;obtain⟨r,hr,rfl⟩:=yac.mp ht;have:=(h.lk r hr).1.sh;show((!false) && (true && (((!false) && A3 r.2) && true)))=true
 omega
theorem zl9{ws:List Str}(hw:Bd ws){rs:List (Str×List T)}(h:RsOk ws rs):Mq [FQ rs,.lst (ws.map T.str)]=some (.ok .non):=by
 have sr:=Ep h;have er:=AG _ sr;have hl1:=h.l1;have hl2:=h.l64;have en:(((rs.map AF).length:Int) == 0)=false:=by rw[yef,ya1];omega
 obtain⟨τ,e,y,rfl⟩:=Dg (b:=AD 2) (body:=NU) (ts:=rs.map AF) (τ:=[some (FQ rs),some (.lst (ws.map T.str)),none]) (λi τ=>∃y,τ=[some (FQ rs),some (.lst (ws.map T.str)),y]) ⟨_,rfl⟩ λi t τ h1 h2=>by
  obtain⟨y,rfl⟩:=h2;obtain⟨r,hr,rfl⟩:=yac.mp (ybq h1);obtain⟨n1,n2,n3⟩:=h.nm r hr;obtain⟨k1,k2⟩:=h.lk r hr;have e1:=rn_ok n1 n2 n3;have e2:=QU hw st_tx k2 k1;have e3:=k1.sh;refine⟨[some (FQ rs),some (.lst (ws.map T.str)),some (AF r)],by simp![],[some (FQ rs),some (.lst (ws.map T.str)),some (AF r)],?_,_,rfl⟩
  unfold NU
  simp![zoa,IJ,BB,Ae,e1,e2,e3,AG _ e3]
 have lc:=Lo (b:=AD 0) (me:=Rb) (ts:=rs.map AF) (λ_ τ=>∃y,τ=[y]) (λi=>.str ((rs.map (·.1)).getD i Str.empty)) ⟨none,rfl⟩ λi t τ h1 h2=>by
  obtain⟨y,rfl⟩:=h2;have hi :=by simpa using (ya2.mp h1).1
  rw[ya7,ya0 hi]at h1;have et :=(yal h1).symm;subst et;have k1:=(h.lk rs[i] (yat hi)).1.sh;have eg:(rs.map (·.1)).getD i Str.empty=rs[i].1:=by simp[hi]
  refine⟨[some (AF rs[i])],by simp![],?_,_,rfl⟩
  rw[eg];unfold Rb
  simp![k1]
 have em:(List.range (rs.map AF).length).map (λi=>T.str ((rs.map (·.1)).getD i Str.empty))=(rs.map (·.1)).map T.str:=by
  rw[JV (rs.map (·.1)),ya1,ya1]
  rfl
 rw[em]at lc;have un:=N7 h.nd (by rw[ya1];omega)
 have ll:(rs.map AF).length<=100000:=by rw[ya1];omega
 unfold Mq P1
 simp![Cr,BB,Ae,sr,er,en,e,lc,un,ll]
abbrev Ur:Stmt:=AQ 45
def Rf:AL :=
 (AK KQ (AB (AA 0) AE))
def Rc:AL :=
 (m2 Dd (AA 0) (AA 1))
def P9:AJ :=
 (AH (A2 (Bo (BE (m1 (Cb "list") (AA 0))) (BE (m1 Di (BD 1 [] (Ap (AA 0)) (AD 0) (mC (.bl true)) Rf)))) (AU (mC (.bl false))) A8)
 (AU (CU (AK JA (AB (AA 0) AE)) (m1 Di (BD 1 [1] (Ap (AA 0)) (AD 0) (mC (.bl true)) Rc)))))
def Ms:List T->Option Ru:=A4 2 2 P9
abbrev ZX:Fn:=⟨4,["thing","watches"],Ms⟩
abbrev zbu:Gm:=gA ["thing","watches"] Ur 3 [("is_watch_name",Q8),("are_unlike",MJ)] ["isinstance","list","all"] [] ["watches"]
theorem zc1:Ck zbu ZX Ur P9:={}
theorem znt{ws ns:List Str}(hw:∀x∈ws,He x)(hn:∀x∈ns,x∈ws)(hd:ns.Nodup)(hl:ns.length<=100):Ms [.lst (ns.map T.str),.lst (ws.map T.str)]=some (.ok (.bl true)):=by
 have tw :=λx hx=>JP (hw x hx)
 have mem:∀i,i<ns.length->ns.getD i Str.empty∈ns:=λi hi=>by
  simp_all
 have lc:=DC (n:=ns.length) (me:=Rf) (x:=none) (cs:=[]) (g:=λi=>.str (ns.getD i Str.empty)) (f:=λ_=>.bl true) λi hi=>by
  unfold Rf
  simp![Sr (hw _ (hn _ (mem i hi)))]
 have EF:=DC (me:=Rc) (x:=none) (cs:=[some (.lst (ws.map T.str))]) (g:=λi=>.str (ns.getD i Str.empty)) (f:=λ_=>.bl true) λi hi=>by
  have e:=IU (o:=false) (k:=.lst) tw (tw _ (hn _ (mem i hi)));rw[ye1 (hn _ (mem i hi))]at e;unfold Rc
  simp![BB,Ae,e]
 rw[<- JV]at lc EF;have l1:ns.length<=100000:=by omega
 have ba:((List.range ns.length).map λ_=>true).all id=true:=by simp
 have un:=N7 hd (by omega)
 unfold Ms P9
 simp![BB,Ae,ya1,lc,EF,l1,Ii,ba,un]
abbrev U2:Stmt:=AQ 37
def Lc:AJ :=
 (AH (A2 (BE (m1 (Cb "str") (AA 0))) (AU (mC (.bl false))) A8)
 (AU (Bo (m2 BF (AA 0) (mC (.str ""))) (CU (m2 Dd (AO (AA 0) (m1 FU (mC (.int 1)))) (Bj (AB (mC (.str "!")) (AB (mC (.str "?")) AE)))) (AK KS (AB (B5 (C9 (AA 0) none (some (m1 FU (mC (.int 1))))) (Cn (AA 0) none (some (m1 FU (mC (.int 1)))))) AE))))))
def Iv:List T->Option Ru:=A4 1 1 Lc
abbrev ZJ:Fn:=⟨3,["thing"],Iv⟩
abbrev zei:Gm:=gA ["thing"] U2 2 [("is_name",Qb)] ["isinstance","str"]
theorem zev:Ck zei ZJ U2 Lc:={}
def KI(z:Str):Prop:=z=Str.ofString ""\/∃(y:Str) (c:Nat),Ip y/\1<=y.cps.size/\y.cps.size<=8/\(c=33\/c=63)/\Tx.cs z=Tx.cs y++[c]
theorem zlz{y:Str}(h:Ip y):∀c∈Tx.cs y,97<=c/\c<=122:=λc hc=>by
 obtain⟨i,hi⟩:=List.getElem?_of_mem hc;have hl :=by simpa using (ya2.mp hi).1
 have:=h i hl
 simp_all
theorem zj8{z:Str}(h:KI z):∀c∈Tx.cs z,c<128/\c≠32/\c≠10/\c≠58:=λc hc=>by
 rcases h with rfl|⟨y,d,h1,_,_,hd,e⟩
 .cases hc
 .rw[e]at hc
  rcases yar.mp hc with hc|hc
  .have:=zlz h1 c hc
   omega
  .rw[yaa.mp hc]
   omega
theorem LD{z:Str}(h:KI z):PyData.strOk z=true:=zp3 λc hc=>(zj8 h c hc).1
theorem zm3{z:Str}(h:KI z):Iv [.str z]=some (.ok (.bl true)):=by
 have o0:PyData.strOk (Str.ofString "")=true:=by decide +kernel
 have tl:∀c,(c=33\/c=63)->Dd (.str (Str.mk #[c])) (.tup [.str (Str.ofString "!"),.str (Str.ofString "?")])=some (.bl true):=λc hc=>by
  rcases hc with rfl|rfl<;>ext
 have key:∀z y:Str,PyData.strOk z=true->z≠Str.ofString ""->z.length<=100000->∀c,(c=33\/c=63)->Ag z.cps.toList (-1)=some c->Txt.slice z none (some (-1))=y->Ip y->1<=y.cps.size->y.cps.size<=8->Iv [.str z]=some (.ok (.bl true)):=by
  intro z y hz hne hl c hc ha hs h1 h2 h3;have e:=Ef hz o0;rw[ydl hne]at e;have en:=Xp h1 h2 h3;unfold Iv Lc
  simp![e,hl,ha,tl c hc,Cn,hs,en,show(-(1:Int))=-1 from rfl]
 rcases id h with rfl|⟨y,c,h1,h2,h3,hc,e⟩
 .have e:=Ef o0 o0;rw[ye1 rfl]at e;unfold Iv Lc
  simp![e]
 .have hl:(Tx.cs z).length=(Tx.cs y).length+1:=by rw[e,yaw];rfl
  have h3':(Tx.cs y).length<=8:=h3;refine key z y (LD h) (λq=>?_) (by rw[Tx.cs_len];omega) c hc ?_ ?_ h1 h2 h3
  .rw[q,show Tx.cs (Str.ofString "")=[] by decide +kernel]at hl
   exact absurd hl (by rw[yc3];omega)
  .show Ag (Tx.cs z) (-1)=some c;rw[e];unfold Ag Cq;rw[yaw,yc9,if_neg (by decide),if_pos (by omega)]
   show(Tx.cs y++[c])[((-1:Int)+((Tx.cs y).length+1:Nat)).toNat]?=some c;rw[show((-1:Int)+((Tx.cs y).length+1:Nat)).toNat=(Tx.cs y).length by omega,ybe (ya8 _),Nat.sub_self]
   rfl
  .have e2:Txt.slice z none (some (-1))=StrLaws.sliceText z none (some (-1)):=rfl;rw[e2,StrLaws.sliceText_neg_hi z none (by decide) (by rw[Tx.cs_len,hl];omega)]
   have e3:(-1+z.length)=((Tx.cs y).length:Int):=by rw[Tx.cs_len,hl];omega
   rw[e3];refine Tx.cs_ext ?_;show Tx.cs (Txt.slice z none (some (((Tx.cs y).length:Nat):Int)))=Tx.cs y;rw[Tx.sl_to (by omega),e,List.take_left' rfl]
abbrev UH:Stmt:=AQ 38
def Oi:AJ :=
 (AU (Dt (m1 (Cb "list") (AA 0)) (m1 CZ (AA 0)) (AA 0)))
def KL:List T->Option Ru:=A4 1 1 Oi
abbrev Yx:Fn:=⟨1,["thing"],KL⟩
abbrev zdk:Gm:=gA ["thing"] UH 0 [] ["isinstance","list"]
theorem zdx:Ck zdk Yx UH Oi:={}
theorem WM(l:List T)(h:A3 l=true):KL [.lst l]=some (.ok (.own l)):=by
 unfold KL Oi
 simp![h,AG _ h]
abbrev Um:Stmt:=AQ 44
def NV:AJ :=
 (AH (A2 (BE (m1 (Jl Qv) (AA 3))) (CY "BadMachine" (AB (mC (.str "a machine's doors are doors")) AE)) A8)
 (AH (A2 (Bo (m2 FT (Ax B7 Bf 0 (AA 3)) (AA 1)) (m2 FT (Ax B7 Bf 1 (AA 3)) (AA 1))) (CY "BadMachine" (AB (mC (.str "a door leads from one room of the machine to another")) AE)) A8)
 (AH (A2 (BE (AK Iy (AB (Ax B7 Bf 2 (AA 3)) (AB (AA 2) (AB (mC IS) AE))))) (CY "BadMachine" (AB (mC (.str "a door's guard is one of the machine's watches")) AE)) A8)
 (A2 (Bo (BE (AK Ms (AB (Ax B7 Bf 3 (AA 3)) (AB (AA 2) AE)))) (BE (AK Iv (AB (Ax B7 Bf 4 (AA 3)) AE)))) (CY "BadMachine" (AB (mC (.str "a door sets watches of the machine, each once, and has at most one sign")) AE)) A8))))
def P4:AJ :=
 (AH (A2 (BE (m1 (Cb "list") (AA 0))) (CY "BadMachine" (AB (mC (.str "a machine's doors are a list")) AE)) A8)
 (BU (Ap (AA 0)) (AD 3) NV))
def Mr:List T->Option Ru:=A4 3 4 P4
abbrev ZW:Fn:=⟨5,["doors","names","watches"],Mr⟩
abbrev zbo:Gx:={ Bw with co:=[("WORDS",IS)],cl:=[("Door",B7,Bf)],ci:=[("Door",Qv)] }
abbrev zbt:Gm:=gA ["doors","names","watches","door"] Um 4 [("is_guard",MI),("are_noughts",ZX),("is_sign",ZJ)] ["isinstance","list"] (ex:=["BadMachine"]) (ox:=zbo)
theorem zc0:Ck zbt ZW Um P4:={}
structure Dr where
 s:Str
 e:Str
 g:List T
 n:List Str
 z:Str
abbrev BK(d:Dr):T:=.obj (.ins B7 Bf) [.str d.s,.str d.e,.lst d.g,.lst (d.n.map T.str),.str d.z]
structure DrOk(ws ns:List Str)(d:Dr):Prop where
 s:d.s∈ns
 e:d.e∈ns
 g:CN ws Bt d.g
 gl:d.g.length<=1000
 n:∀x∈d.n,x∈ws
 nd:d.n.Nodup
 nl:d.n.length<=100
 z:KI d.z
theorem DrOk.more{ws vs ns:List Str}{d:Dr}(h:DrOk ws ns d)(hs:∀x∈ws,x∈vs):DrOk vs ns d:=⟨h.s,h.e,h.g.more hs,h.gl,λx hx=>hs x (h.n x hx),h.nd,h.nl,h.z⟩
theorem Jw{ws ns:List Str}{d:Dr}(h:DrOk ws ns d):(BK d).sh=true:=by
 have:=h.g.sh
 simp![this,Ae]
theorem Xl{ys:List Str}{x:Str}{o:Bool}{k:Kd}(h:Bd ys)(hx:PyData.strOk x=true):FT (.str x) (.nd o k (ys.map T.str))=some (.bl (!decide (x∈ys))):=by
 have e:=IU (o:=o) (k:=k) h hx;unfold Dd at e;unfold FT
 omega
theorem zld{ws ns:List Str}(hw:∀x∈ws,He x)(hn:Bd ns){ds:List Dr}(h:∀d∈ds,DrOk ws ns d):Mr [.lst (ds.map BK),.lst (ns.map T.str),.lst (ws.map T.str)]=some (.ok .non):=by
 have tw :=λx hx=>JP (hw x hx)
 have sd:A3 (ds.map BK)=true:=by
  rw[EB,yab];intro t ht;obtain⟨d,hd,rfl⟩:=yac.mp ht;exact Jw (h d hd)
 have ed:=AG _ sd
 obtain⟨τ,e,y,rfl⟩:=Dg (b:=AD 3) (body:=NV) (ts:=ds.map BK) (τ:=[some (.lst (ds.map BK)),some (.lst (ns.map T.str)),some (.lst (ws.map T.str)),none]) (λi τ=>∃y,τ=[some (.lst (ds.map BK)),some (.lst (ns.map T.str)),some (.lst (ws.map T.str)),y]) ⟨_,rfl⟩ λi t τ h1 h2=>by
  obtain⟨y,rfl⟩:=h2;obtain⟨d,hd,rfl⟩:=yac.mp (ybq h1);have k:=h d hd;have e1:=Xl (o:=false) (k:=.lst) hn (hn _ k.s);have e2:=Xl (o:=false) (k:=.lst) hn (hn _ k.e);rw[ye1 k.s]at e1;rw[ye1 k.e]at e2;have e3:=QU tw Kb k.gl k.g;have e4:=znt hw k.n k.nd k.nl;have e5:=zm3 k.z;have e6:=k.g.sh;have ci:List.lookup B7 Qv=some true:=rfl;refine⟨[some (.lst (ds.map BK)),some (.lst (ns.map T.str)),some (.lst (ws.map T.str)),some (BK d)],by simp![],[some (.lst (ds.map BK)),some (.lst (ns.map T.str)),some (.lst (ws.map T.str)),some (BK d)],?_,_,rfl⟩
  unfold NV
  simp![Y2,Jl,ci,BB,Ae,e1,e2,e3,e4,e5,e6,AG _ e6]
 unfold Mr P4
 simp![BB,Ae,sd,ed,e]
abbrev VT:Stmt:=Bm 39 0
def Pr:AJ :=
 (AH (Cu B7 Bf 0 0 (AA 1))
 (AH (Cu B7 Bf 1 0 (AA 2))
 (AH (Cu B7 Bf 2 0 (AK KL (AB (AA 3) AE)))
 (AH (Cu B7 Bf 3 0 (AK KL (AB (AA 4) AE)))
 (Cu B7 Bf 4 0 (AA 5))))))
def SQ:List T->Option Ru:=EM B7 Bf 6 6 Pr
abbrev Qn:Fn:=⟨2,["self","start","end","guard","noughts","sign"],SQ⟩
abbrev zcr:Gx:={ Bw with sf:=some (B7,Bf) }
abbrev zd0:Gm:=gA ["self","start","end","guard","noughts","sign"] VT 1 [("own_copy",Yx)] [] (ox:=zcr)
theorem zda:Ck zd0 Qn VT Pr:={}
theorem di_ok{ws ns:List Str}{d:Dr}(h:DrOk ws ns d):SQ [.str d.s,.str d.e,.lst d.g,.lst (d.n.map T.str),.str d.z]=some (.ok (BK d)):=by
 have hg:=h.g.sh;have e1:=WM d.g hg;have e2:=WM (d.n.map T.str) (Ae _);refine OA λp=>?_
 unfold Fi Pr
 simp![e1,e2,hg,AG _ hg,BB,Ae]
abbrev VE:Stmt:=Bm 40 0
def Rl:AL :=
 (AA 0)
def NX:AJ :=
 (IG Ao Aq 1 0 (AA 4) (m1 CZ (AA 5)))
def Pj:AJ :=
 (AH (HA (AK Mp (AB (AA 1) AE)))
 (AH (HA (AK Mq (AB (AA 2) (AB (AA 1) AE))))
 (AH (HA (AK Mr (AB (AA 3) (AB (BD 2 [] (Ap (AA 2)) (Aj 2 (AM (AD 0) (AM (AD 1) Am))) (mC (.bl true)) Rl) (AB (AA 1) AE)))))
 (AH (A2 (Bo (m2 (C1 λi j=>decide (j<i)) (m1 Ba (AA 2)) (mC Ls)) (m2 (C1 λi j=>decide (j<i)) (m1 Ba (AA 3)) (mC Lu))) (CY "TooMany" (AB (mC (.str "a machine has at most 64 rooms and at most 200 doors")) AE)) A8)
 (AH (Cu Ao Aq 0 0 (m1 CZ (AA 1)))
 (AH (Cu Ao Aq 1 0 Fv)
 (AH (BU (Ap (AA 2)) (Aj 2 (AM (AD 4) (AM (AD 5) Am))) NX)
 (Cu Ao Aq 2 0 (m1 CZ (AA 3))))))))))
def Mx:List T->Option Ru:=EM Ao Aq 4 6 Pj
abbrev Qk:Fn:=⟨6,["self","watches","rooms","doors"],Mx⟩
abbrev zbc:Gx:={ Bw with co:=[("MOST_ROOMS",Ls),("MOST_DOORS",Lu)],sf:=some (Ao,Aq) }
abbrev zbg:Gm:=gA ["self","watches","rooms","doors","name","stay"] VE 5 [("check_watches",ZU),("check_rooms",ZV),("check_doors",ZW)] ["len","list"] (ex:=["TooMany"]) (ox:=zbc)
theorem zbl:Ck zbg Qk VE Pj:={}
structure Mc where
 ws:List Str
 rs:List (Str×List T)
 ds:List Dr
abbrev DA(M:Mc):T:=.obj (.ins Ao Aq) [.lst (M.ws.map T.str),.obj (.sdc (M.rs.map (·.1))) (M.rs.map λr=>.lst r.2),.lst (M.ds.map BK)]
structure McOk(M:Mc):Prop where
 w:∀x∈M.ws,He x
 wd:M.ws.Nodup
 wl:M.ws.length<=7
 r:RsOk M.ws M.rs
 d:∀d∈M.ds,DrOk M.ws (M.rs.map (·.1)) d
 dl:M.ds.length<=200
theorem McOk.tw{M:Mc}(h:McOk M):Bd M.ws:=λx hx=>JP (h.w x hx)
theorem McOk.tn{M:Mc}(h:McOk M):Bd (M.rs.map (·.1)):=λx hx=>by
 obtain⟨r,hr,rfl⟩:=yac.mp hx;exact GQ (h.r.nm r hr).1
theorem McOk.sd{M:Mc}(h:McOk M):A3 (M.ds.map BK)=true:=by
 rw[EB,yab];intro t ht;obtain⟨d,hd,rfl⟩:=yac.mp ht;exact Jw (h.d d hd)
theorem McOk.ss{M:Mc}(h:McOk M):A3 (M.rs.map λr=>T.lst r.2)=true:=by
 rw[EB,yab];intro t ht;obtain⟨r,hr,rfl⟩:=yac.mp ht;show((!false) && A3 r.2)=true;rw[(h.r.lk r hr).1.sh]
 rfl
theorem McOk.sh{M:Mc}(h:McOk M):(DA M).sh=true:=by
 simp![Ae,h.ss,h.sd]
theorem zki{M:Mc}(h:McOk M):Mx [.lst (M.ws.map T.str),FQ M.rs,.lst (M.ds.map BK)]=some (.ok (DA M)):=by
 have cw:=cw_ok h.w h.wd h.wl;have cr:=zl9 h.tw h.r;have cd:=zld h.w h.tn h.d;have sr:=Ep h.r;have er:=AG _ sr;have sd:=h.sd;have ed:=AG _ sd;have h1:=h.r.l1;have h64:=h.r.l64;have h200:=h.dl
 have lc:=Lo (b:=Aj 2 (AM (AD 0) (AM (AD 1) Am))) (me:=Rl) (ts:=M.rs.map AF) (λ_ τ=>∃x y,τ=[x,y]) (λi=>.str ((M.rs.map (·.1)).getD i Str.empty)) ⟨none,none,rfl⟩ λi t τ h1 h2=>by
  obtain⟨x,y,rfl⟩:=h2;have hi:i<M.rs.length:=by simpa using (ya2.mp h1).1
  rw[ya7,ya0 hi]at h1;have et :=(yal h1).symm;subst et;have eg:(M.rs.map (·.1)).getD i Str.empty=M.rs[i].1:=by simp[hi]
  refine⟨[some (.str M.rs[i].1),some (.lst M.rs[i].2)],by simp![],?_,_,_,rfl⟩
  rw[eg];unfold Rl
  simp![]
 have em:(List.range (M.rs.map AF).length).map (λi=>T.str ((M.rs.map (·.1)).getD i Str.empty))=(M.rs.map (·.1)).map T.str:=by
  rw[JV (M.rs.map (·.1)),ya1,ya1]
  rfl
 rw[em]at lc;have ll:(M.rs.map AF).length<=100000:=by rw[ya1];omega
 have g1:decide ((64:Int)<((M.rs.map AF).length:Int))=false:=ydl (by rw[ya1];omega)
 have g2:decide ((200:Int)<((M.ds.map BK).length:Int))=false:=ydl (by rw[ya1];omega)
 refine OA λp=>?_
 obtain⟨τ,e,x,y,rfl⟩:=Dg (b:=Aj 2 (AM (AD 4) (AM (AD 5) Am))) (body:=NX) (ts:=M.rs.map AF) (τ:=[some (.oob p Ao Aq [.own (M.ws.map T.str),.osd [] []]),some (.lst (M.ws.map T.str)),some (FQ M.rs),some (.lst (M.ds.map BK)),none,none])
  (λi τ=>∃x y,τ=[some (.oob p Ao Aq [.own (M.ws.map T.str),.osd ((M.rs.take i).map (·.1)) ((M.rs.take i).map λr=>.lst r.2)]),some (.lst (M.ws.map T.str)),some (FQ M.rs),some (.lst (M.ds.map BK)),x,y]) ⟨none,none,by rw[List.take_zero];rfl⟩ λi t τ h1 h2=>by
  obtain⟨x,y,rfl⟩:=h2;have hi:i<M.rs.length:=by simpa using (ya2.mp h1).1
  rw[ya7,ya0 hi]at h1;have et :=(yal h1).symm;subst et;have k1:=(h.r.lk _ (yat hi)).1.sh
  have hno:M.rs[i].1∉(M.rs.take i).map (·.1):=λhm=>by
   rw[List.map_take]at hm;obtain⟨j,hj,ej⟩:=List.mem_iff_getElem.mp hm;rw[yb6,ya1]at hj;have hnd:=h.r.nd;rw[List.getElem_take]at ej;have e2:(M.rs.map (·.1))[j]'(by rw[ya1];omega)=(M.rs.map (·.1))[i]'(by rw[ya1];exact hi):=by rw[ej,ybv]
   have:=(yb5 hnd).mp e2
   omega
  have hlen:((M.rs.take i).map (·.1)).length<100000:=by
   rw[ya1,yb6]
   omega
  have et2:M.rs.take (i+1)=M.rs.take i++[M.rs[i]]:=by rw[List.take_append_getElem]
  refine⟨[some (.oob p Ao Aq [.own (M.ws.map T.str),.osd ((M.rs.take i).map (·.1)) ((M.rs.take i).map λr=>.lst r.2)]),some (.lst (M.ws.map T.str)),some (FQ M.rs),some (.lst (M.ds.map BK)),some (.str M.rs[i].1),some (.lst M.rs[i].2)],by simp![],[some (.oob p Ao Aq [.own (M.ws.map T.str),.osd ((M.rs.take (i+1)).map (·.1)) ((M.rs.take (i+1)).map λr=>.lst r.2)]),some (.lst (M.ws.map T.str)),some (FQ M.rs),some (.lst (M.ds.map BK)),some (.str M.rs[i].1),some (.lst M.rs[i].2)],?_,_,_,rfl⟩
  rw[et2,yas,yas];unfold NX
  simp![k1,AG _ k1,hno,hlen]
 rw[ya1,ybw]at e;have es:=AG _ h.ss;unfold Fi Pj Ls Lu
 simp![BB,Ae,cw,cr,cd,sr,er,sd,ed,lc,ll,g1,g2,e,es]
theorem By{α:Type}{f:α->T}{L:List α}(h:∀x∈L,(f x).sh=true):A3 (L.map f)=true:=by
 rw[EB,yab];intro t ht;obtain⟨x,hx,rfl⟩:=yac.mp ht;exact h x hx
theorem sq{f g:AJ}{τ τ':AV}{r:Option Out}(h:f τ=some (.nx τ'))(h2:g τ'=r):AH f g τ=r:=by
 unfold AH;rw[h];exact h2
theorem IQ{α:Type}{b:T->AV->Option AV}{mt me:AL}(f g:α->T)(p:α->Bool)(I:AV->Prop):∀(L:List α) (τ:AV),I τ->(∀x∈L,∀τ,I τ->∃τ1 bb,b (f x) τ=some τ1/\mt τ1=some (.v (.bl (p x)) bb)/\(p x=true->me τ1=some (.v (g x) false))/\I τ1)->Co b mt me (L.map f) τ=some ((L.filter p).map g)
 |[],_,_,_=>rfl
 |x::L,τ,h,hs=>by
  obtain⟨τ1,bb,e1,e2,e3,h1⟩:=hs x (ya9 ..) τ h;have k:=IQ f g p I L τ1 h1 λu hu=>hs u (ya6 _ hu)
  rw[yap,ydi];unfold Co;cases hp:p x with
  |true=>simp_all
  |false=>omega
def Mc.nm(M:Mc):List Str:=M.rs.map (·.1)
theorem HI{α:Type}(l:List α)(hl:l≠[])(i:Int):∃x∈l,Ag l (i.fmod (l.length:Int))=some x:=by
 have hp:0<l.length:=List.length_pos_iff.mpr hl;have h0:=yb8 i (show(0:Int)<(l.length:Int) by omega)
 have h1:=yc1 i (show(0:Int)<(l.length:Int) by omega)
 have h2:(i.fmod (l.length:Int)).toNat<l.length:=by omega
 exact⟨l[(i.fmod (l.length:Int)).toNat],yat h2,Cs h0 (ya0 h2)⟩
theorem Ha{α:Type}(f:α->T){l:List α}{i:Int}{x:α}(h:Ag l i=some x):Ag (l.map f) i=some (f x):=by
 unfold Ag at h ⊢;rw[ya1];cases hi:Cq l.length i with
 |none=>rw[hi]at h;cases h
 |some j =>
  rw[hi]at h;have h':l[j]?=some x:=h;show(l.map f)[j]?=some (f x);rw[ya7,h']
  rfl
theorem IP{α:Type}{l:List α}(h:l≠[]):((l.length:Nat):Int)≠0:=λz=>h (List.length_eq_zero_iff.mp (Int.ofNat.inj z))
theorem Zv:PyData.strOk (Str.ofString "")=true:=by decide +kernel
def BC(M:Mc):T:=DA M
theorem IM{M:Mc}(h:McOk M):(BC M).sh=true:=h.sh
theorem DI{f g:AJ}{τ:AV}{r:Option Out}(h:f τ=some (.nx τ))(h2:g τ=r):AH f g τ=r:=sq h h2
theorem sr{f g:AJ}{τ:AV}{t:T}(h:f τ=some (.rt t)):AH f g τ=some (.rt t):=by
 unfold AH;rw[h]
theorem Ft(M:Mc):BQ Ao Aq (BC M)=some [.lst (M.ws.map T.str),.obj (.sdc (M.rs.map (·.1))) (M.rs.map λr=>.lst r.2),.lst (M.ds.map BK)]:=(show BQ Ao Aq (DA M)=(if Ao=Ao/\Aq=Aq then some [.lst (M.ws.map T.str),.obj (.sdc (M.rs.map (·.1))) (M.rs.map λr=>.lst r.2),.lst (M.ds.map BK)] else none) from rfl).trans (if_pos ⟨rfl,rfl⟩)
abbrev VA:Stmt:=Bm 40 1
def Pf:AJ :=
 (AU (B5 (m1 CZ (Ax Ao Aq 0 (AA 0))) (G0 (Ax Ao Aq 0 (AA 0)))))
def JC:List T->Option Ru:=A4 1 1 Pf
abbrev Qi:Fn:=⟨1,["self"],JC⟩
abbrev zaj:Gx:={ Bw with cl:=[("Machine",Ao,Aq)] }
abbrev zao:Gm:=gA ["self"] VA 0 [] ["list"] (ox:=zaj)
theorem zat:Ck zao Qi VA Pf:={}
theorem Xr{M:Mc}(h:McOk M):JC [DA M]=some (.ok (.own (M.ws.map T.str))):=by
 unfold JC Pf
 simp![BB,Ae,h.ss,h.sd,AG _ h.ss,AG _ h.sd]
abbrev VD:Stmt:=Bm 40 2
def YF:AJ :=
 (AU (B5 (m1 CZ (B5 (Ax Ao Aq 1 (AA 0)) (Ax Ah Ai 2 (AA 0)))) (G0 (B5 (Ax Ao Aq 1 (AA 0)) (Ax Ah Ai 2 (AA 0))))))
def Ek:List T->Option Ru:=A4 1 1 YF
abbrev Ie:Fn:=⟨1,["self"],Ek⟩
abbrev zaw:Gx:={ Bw with cl:=[("Machine",Ao,Aq),("Sheet",Ah,Ai)] }
abbrev zb1:Gm:=gA ["self"] VD 0 [] ["list"] (ox:=zaw)
theorem zb6:Ck zb1 Ie VD YF:={}
theorem J9{M:Mc}(h:McOk M):Ek [DA M]=some (.ok (.own ((M.rs.map (·.1)).map T.str))):=by
 rfl
abbrev VF:Stmt:=Bm 40 3
def Pk:AJ :=
 (AU (B5 (m1 CZ (Ax Ao Aq 2 (AA 0))) (G0 (Ax Ao Aq 2 (AA 0)))))
def K0:List T->Option Ru:=A4 1 1 Pk
abbrev Z6:Fn:=⟨1,["self"],K0⟩
abbrev zax:Gx:={ Bw with cl:=[("Machine",Ao,Aq)] }
abbrev zb2:Gm:=gA ["self"] VF 0 [] ["list"] (ox:=zax)
theorem zb7:Ck zb2 Z6 VF Pk:={}
theorem zkk{M:Mc}(h:McOk M):K0 [DA M]=some (.ok (.own (M.ds.map BK))):=by
 unfold K0 Pk
 simp![BB,Ae,h.ss,h.sd,AG _ h.ss,AG _ h.sd]
abbrev VC:Stmt:=Bm 40 4
def Ph:AJ :=
 (AU (m1 CZ (CA (B5 (Ax Ao Aq 1 (AA 0)) (Ax Ah Ai 2 (AA 0))) (AA 1))))
def KZ:List T->Option Ru:=A4 2 2 Ph
abbrev Z5:Fn:=⟨1,["self","room"],KZ⟩
abbrev zbb:Gx:={ Bw with cl:=[("Machine",Ao,Aq),("Sheet",Ah,Ai)] }
abbrev zbf:Gm:=gA ["self","room"] VC 0 [] ["list"] (ox:=zbb)
theorem zbk:Ck zbf Z5 VC Ph:={}
theorem zhz{ws:List Str}(hd:ws.Nodup){i:Nat}(hi:i<ws.length):CB ws ws[i]=some i:=by
 unfold CB;rw[yax];refine⟨hi,@decide_eq_true _ (Classical.propDecidable _) rfl,λj hj q=>?_⟩
 have:=@of_decide_eq_true _ (Classical.propDecidable _) q;have:=(yb5 hd).mp this
 omega
theorem zkh{M:Mc}(h:McOk M){i:Nat}(hi:i<M.rs.length):KZ [DA M,.str M.rs[i].1]=some (.ok (.own M.rs[i].2)):=by
 have e:=zhz h.r.nd (i:=i) (by simp_all)
 rw[ybv]at e;have e2:(M.rs.map λr=>T.lst r.2)[i]?=some (.lst M.rs[i].2):=by simp_all
 have k:=(h.r.lk _ (yat hi)).1.sh;unfold KZ Ph
 simp![CA,BB,Ae,h.ss,h.sd,AG _ h.ss,AG _ h.sd,e,e2,k,AG _ k]
abbrev VU:Stmt:=Bm 39 1
def Pt:AJ :=
 (AU (B5 (m1 CZ (Ax B7 Bf 2 (AA 0))) (G0 (Ax B7 Bf 2 (AA 0)))))
def K1:List T->Option Ru:=A4 1 1 Pt
abbrev Ze:Fn:=⟨1,["self"],K1⟩
abbrev zcs:Gx:={ Bw with cl:=[("Door",B7,Bf)] }
abbrev zd1:Gm:=gA ["self"] VU 0 [] ["list"] (ox:=zcs)
theorem zdb:Ck zd1 Ze VU Pt:={}
theorem zl7{d:Dr}(h:A3 d.g=true):K1 [BK d]=some (.ok (.own d.g)):=by
 unfold K1 Pt
 simp![BB,Ae,h,AG _ h]
abbrev VS:Stmt:=Bm 39 2
def Pq:AJ :=
 (AU (B5 (m1 CZ (Ax B7 Bf 3 (AA 0))) (G0 (Ax B7 Bf 3 (AA 0)))))
def NC:List T->Option Ru:=A4 1 1 Pq
abbrev Zd:Fn:=⟨1,["self"],NC⟩
abbrev zcq:Gx:={ Bw with cl:=[("Door",B7,Bf)] }
abbrev zcz:Gm:=gA ["self"] VS 0 [] ["list"] (ox:=zcq)
theorem zd9:Ck zcz Zd VS Pq:={}
theorem zl5{d:Dr}(h:A3 d.g=true):NC [BK d]=some (.ok (.own (d.n.map T.str))):=by
 unfold NC Pq
 simp![BB,Ae,h,AG _ h]
abbrev VB:Stmt:=Bm 40 5
def Pg:AJ :=
 (AU (m2 BI (HP (Ax Ao Aq 0 (AA 0)) (AA 1)) (mC (.int 1))))
def JD:List T->Option Ru:=A4 2 2 Pg
abbrev Qj:Fn:=⟨1,["self","name"],JD⟩
abbrev za0:Gx:={ Bw with cl:=[("Machine",Ao,Aq)] }
abbrev za1:Gm:=gA ["self","name"] VB 0 [] [] (ox:=za0)
theorem za2:Ck za1 Qj VB Pg:={}
theorem Xv{M:Mc}(h:McOk M){x:Str}{j:Nat}(e:CB M.ws x=some j):JD [DA M,.str x]=some (.ok (.int ((j:Int)+1))):=by
 have l1:M.ws.length<1000000:=by have:=h.wl;omega
 unfold JD Pg
 simp![BB,Ae,JW,h.ss,h.sd,AG _ h.ss,AG _ h.sd,e,l1]
abbrev UG:Stmt:=AQ 46
def RJ:AL :=
 (Bj (AB (Bz Ao Aq JD (AA 3) (AB (AA 0) AE)) (AB (AA 1) (AB (AA 2) AE))))
def Oh:AJ :=
 (AH (AZ (Bz Ao Aq JC (AA 0) AE) (AD 2))
 (AH (A2 (BE (AK Iy (AB (AA 1) (AB (AA 2) (AB (mC IS) AE))))) (CY "NoMark" (AB (mC (.str "a guard is a list of looks at the machine's watches")) AE)) A8)
 (AU (BD 3 [0] (Ap (AA 1)) (Aj 3 (AM (AD 0) (AM (AD 1) (AM (AD 2) Am)))) (mC (.bl true)) RJ))))
def Ge:List T->Option Ru:=A4 2 3 Oh
abbrev MF:Fn:=⟨5,["machine","guard"],Ge⟩
abbrev zfv:Gx:={ Bw with co:=[("WORDS",IS)],mt:=[("watches",Ao,Aq,Qi),("watch_number",Ao,Aq,Qj)] }
abbrev zfy:Gm:=gA ["machine","guard","watches"] UG 4 [("is_guard",MI)] [] [] ["machine"] (ex:=["NoMark"]) (ox:=zfv)
theorem zgc:Ck zfy MF UG Oh:={}
def FA:T->Str
 |.nd _ _ (.str x::_)=>x
 |_=>Str.empty
def EZ:T->Str
 |.nd _ _ (_::.str y::_)=>y
 |_=>Str.empty
def E1:T->Int
 |.nd _ _ (_::_::.int n::_)=>n
 |_=>0
theorem Lm{ws wd:List Str}{t:T}(h:∃x y n,t=.tup [.str x,.str y,.int n]/\x∈ws/\y∈wd/\0<=n):t=.tup [.str (FA t),.str (EZ t),.int (E1 t)]/\FA t∈ws/\EZ t∈wd/\0<=E1 t:=by
 obtain⟨x,y,n,rfl,h1,h2,h3⟩:=h;exact⟨rfl,h1,h2,h3⟩
def Et(ws:List Str)(t:T):T:=.tup [.int (((CB ws (FA t)).getD 0:Int)+1),.str (EZ t),.int (E1 t)]
theorem HS{ws:List Str}{x:Str}(h:x∈ws):∃j,CB ws x=some j/\∃hj:j<ws.length,ws[j]=x:=by
 unfold CB;cases e:List.findIdx? (λy=>@decide (y=x) (Classical.propDecidable _)) ws with
 |none =>
  have:=List.findIdx?_eq_none_iff.mp e x h;simp at this
 |some j =>
  obtain⟨h1,h2,_⟩:=yax.mp e;exact⟨j,rfl,h1,@of_decide_eq_true _ (Classical.propDecidable _) h2⟩
theorem DB{α:Type}{b:T->AV->Option AV}{me:AL}(f g:α->T)(I:AV->Prop):∀(L:List α) (τ:AV),I τ->(∀x∈L,∀τ,I τ->∃τ1,b (f x) τ=some τ1/\me τ1=some (.v (g x) false)/\I τ1)->Co b (mC (.bl true)) me (L.map f) τ=some (L.map g)
 |[],_,_,_=>rfl
 |x::L,τ,h,hs=>by
  obtain⟨τ1,e1,e2,h1⟩:=hs x (ya9 ..) τ h;have k:=DB f g I L τ1 h1 λu hu=>hs u (ya6 _ hu)
  have f1:mC (.bl true) τ1=some (.v (.bl true) false):=rfl;rw[yap,yap];unfold Co
  omega
theorem OI{M:Mc}(h:McOk M){l:List T}{wd:List Str}(hl:CN M.ws wd l)(hw:∀y∈wd,y∈Bt)(hn:l.length<=1000):Ge [DA M,.lst l]=some (.ok (.own (l.map (Et M.ws)))):=by
 have hl':CN M.ws Bt l:=λt ht=>by
  obtain⟨x,y,n,e,h1,h2,h3⟩:=hl t ht;exact⟨x,y,n,e,h1,hw y h2,h3⟩
 have hg:=QU h.tw Kb hn hl';have hs:=hl.sh;have es:=AG _ hs
 have lc:=DB (b:=Aj 3 (AM (AD 0) (AM (AD 1) (AM (AD 2) Am)))) (me:=RJ) (λt:T=>t) (Et M.ws) (λτ=>∃x y z,τ=[x,y,z,some (DA M)]) l [none,none,none,some (DA M)] ⟨none,none,none,rfl⟩ λt ht τ hI=>by
  obtain⟨x,y,z,rfl⟩:=hI;obtain⟨k1,k2,k3,k4⟩:=Lm (hl' t ht);obtain⟨j,ej,_⟩:=HS k2;have en:=Xv h ej;refine⟨[some (.str (FA t)),some (.str (EZ t)),some (.int (E1 t)),some (DA M)],by rw[k1];simp![FA,EZ,E1],?_,_,_,_,rfl⟩
  unfold RJ Et;rw[ej]
  simp![BB,Ae,h.ss,h.sd,AG _ h.ss,AG _ h.sd,en,ycc]
 rw[List.map_id']at lc;have mw:=Xr h;have l1:l.length<=100000:=by omega
 unfold Ge Oh
 simp![Y2,BB,Ae,h.ss,h.sd,AG _ h.ss,AG _ h.sd,mw,hs,es,hg,l1,lc]
abbrev UD:Stmt:=AQ 66
def Of:AJ :=
 (AH (A2 (Bo (BE (m1 (Cb "tuple") (AA 2))) (m2 Cz (m1 Ba (AA 2)) (mC (.int 2)))) (CY "NoMark" (AB (mC (.str "a mark is a tuple of a room and a guard")) AE)) A8)
 (AH (A2 (m2 FT (AO (AA 2) (mC (.int 0))) (AA 1)) (CY "NoMark" (AB (mC (.str "a mark is in a room of the machine")) AE)) A8)
 (AU (Bj (AB (AO (AA 2) (mC (.int 0))) (AB (AK Ge (AB (AA 0) (AB (AO (AA 2) (mC (.int 1))) AE))) AE))))))
def M9:List T->Option Ru:=A4 3 3 Of
abbrev Yv:Fn:=⟨6,["machine","rooms","mark"],M9⟩
abbrev zbp:Gm:=gA ["machine","rooms","mark"] UD 5 [("placed",MF)] ["isinstance","tuple","len"] (ex:=["NoMark"])
theorem zbw:Ck zbp Yv UD Of:={}
def Hn(ws rn:List Str)(gl:List (Str×List T)):Prop:=∀g∈gl,g.1∈rn/\CN ws Bt g.2/\g.2.length<=2
theorem Hn.sh{ws rn:List Str}{gl:List (Str×List T)}(h:Hn ws rn gl):A3 (gl.map AF)=true:=by
 rw[EB,yab];intro t ht;obtain⟨g,hg,rfl⟩:=yac.mp ht;have:=(h g hg).2.1.sh
 simp![this]
theorem zhq{ys:List Str}{x:Str}{o:Bool}{k:Kd}(h:Bd ys)(hx:PyData.strOk x=true):FT (.str x) (.nd o k (ys.map T.str))=some (.bl (!decide (x∈ys))):=by
 have e:=IU (o:=o) (k:=k) h hx;unfold Dd at e;unfold FT;simp only at e ⊢;split at e
 .rename_i hk;rw[if_pos hk];simp only[ycw,T.bl.injEq]at e ⊢;rw[e]
 .cases e
theorem pm_ok{M:Mc}(h:McOk M){g:Str×List T}(hg:g.1∈M.rs.map (·.1)/\CN M.ws Bt g.2/\g.2.length<=2):M9 [DA M,.lst ((M.rs.map (·.1)).map T.str),AF g]=some (.ok (.tup [.str g.1,.lst (g.2.map (Et M.ws))])):=by
 obtain⟨g1,g2,g3⟩:=hg;have e1:=zhq (o:=false) (k:=.lst) h.tn (h.tn _ g1);rw[ye1 g1]at e1;have e2:=OI h g2 (λy hy=>hy) (by omega)
 have hs:=g2.sh
 have ps:A3 (g.2.map (Et M.ws))=true:=by
  rw[EB,yab];intro t ht;obtain⟨u,_,rfl⟩:=yac.mp ht
  rfl
 unfold M9 Of
 simp![IJ,BB,Ae,h.ss,h.sd,AG _ h.ss,AG _ h.sd,e1,e2,hs,AG _ hs,ps,AG _ ps]
abbrev UE:Stmt:=AQ 65
def RI:AL :=
 (AK M9 (AB (AA 1) (AB (AA 2) (AB (AA 0) AE))))
def Og:AJ :=
 (AH (A2 (BE (m1 (Cb "list") (AA 1))) (CY "NoMark" (AB (mC (.str "a goal is a list of marks")) AE)) A8)
 (AH (AZ (Bz Ao Aq Ek (AA 0) AE) (AD 2))
 (AU (BD 1 [0,2] (Ap (AA 1)) (AD 0) (mC (.bl true)) RI))))
def Iq:List T->Option Ru:=A4 2 3 Og
abbrev Yw:Fn:=⟨7,["machine","goal"],Iq⟩
abbrev zbm:Gx:={ Bw with mt:=[("rooms",Ao,Aq,Ie)] }
abbrev zbq:Gm:=gA ["machine","goal","rooms"] UE 6 [("placed_mark",Yv)] ["isinstance","list"] [] ["machine","rooms"] (ex:=["NoMark"]) (ox:=zbm)
theorem zbx:Ck zbq Yw UE Og:={}
theorem pg_ok{M:Mc}(h:McOk M){gl:List (Str×List T)}(hg:Hn M.ws (M.rs.map (·.1)) gl)(hn:gl.length<=1000):Iq [DA M,.lst (gl.map AF)]=some (.ok (.own (gl.map λg=>.tup [.str g.1,.lst (g.2.map (Et M.ws))]))):=by
 have gs:=hg.sh
 have lc:=DB (b:=AD 0) (me:=RI) AF (λg=>.tup [.str g.1,.lst (g.2.map (Et M.ws))]) (λτ=>∃x,τ=[x,some (DA M),some (.lst ((M.rs.map (·.1)).map T.str))]) gl [none,some (DA M),some (.lst ((M.rs.map (·.1)).map T.str))] ⟨none,rfl⟩ λg hm τ hI=>by
  obtain⟨x,rfl⟩:=hI;have k:=hg g hm;have e:=pm_ok h k;have ks:=k.2.1.sh;refine⟨[some (AF g),some (DA M),some (.lst ((M.rs.map (·.1)).map T.str))],by simp![],?_,_,rfl⟩
  unfold RI
  simp![BB,Ae,h.ss,h.sd,AG _ h.ss,AG _ h.sd,e,ks,AG _ ks]
 have mr:=J9 h;have l1:gl.length<=100000:=by omega
 unfold Iq Og
 simp![BB,Ae,h.ss,h.sd,AG _ h.ss,AG _ h.sd,mr,gs,AG _ gs,ya1,l1,lc]
abbrev Up:Stmt:=AQ 14
def P6:AJ :=
 (AU (m2 BI (m2 CH (mC (.int 2)) (AA 0)) (mC (.int 1))))
def FI:List T->Option Ru:=A4 1 1 P6
abbrev HY:Fn:=⟨1,["number"],FI⟩
abbrev zem:Gm:=gA ["number"] Up 0 [] []
theorem zez:Ck zem HY Up P6:={}
theorem SH(i:Int):FI [.int i]=some (.ok (.int (2 * i+1))):=by
 have m:Bi 2 i=true:=FV (Ci (by decide) (by decide))
 unfold FI P6
 simp![m]
theorem Il:FI [.int 0]=some (.ok (.int 1)):=SH 0
abbrev Uo:Stmt:=AQ 15
def P5:AJ :=
 (AU (m2 CH (mC (.int 2)) (AA 0)))
def Iz:List T->Option Ru:=A4 1 1 P5
abbrev Qf:Fn:=⟨1,["number"],Iz⟩
abbrev zi4:Gm:=gA ["number"] Uo 0 [] []
theorem zii:Ck zi4 Qf Uo P5:={}
theorem a9(i:Int):Iz [.int i]=some (.ok (.int (2 * i))):=by
 have m:Bi 2 i=true:=FV (Ci (by decide) (by decide))
 unfold Iz P5
 simp![m]
abbrev UJ:Stmt:=AQ 16
def Oj:AJ :=
 (AU (m2 CW (AA 0) (mC (.int 2))))
def Ir:List T->Option Ru:=A4 1 1 Oj
abbrev Q4:Fn:=⟨1,["bound"],Ir⟩
abbrev zcu:Gm:=gA ["bound"] UJ 0 [] []
theorem zd4:Ck zcu Q4 UJ Oj:={}
theorem OX(i:Int):Ir [.int i]=some (.ok (.int (i / 2))):=by
 have m:Cv 2=true:=Dn (by decide) (by decide)
 have f:i.fdiv 2=i / 2:=fd (by decide)
 unfold Ir Oj
 simp![m,f]
abbrev U4:Stmt:=AQ 17
def PD:AJ :=
 (AU (m2 BF (m2 BA (AA 0) (mC (.int 2))) (mC (.int 0))))
def Iw:List T->Option Ru:=A4 1 1 PD
abbrev Qa:Fn:=⟨1,["bound"],Iw⟩
abbrev zej:Gm:=gA ["bound"] U4 0 [] []
theorem zew:Ck zej Qa U4 PD:={}
theorem QL(i:Int):Iw [.int i]=some (.ok (.bl (i % 2 == 0))):=by
 have f:i.fmod 2=i % 2:=fm (by decide)
 unfold Iw PD
 simp![f,Cr]
abbrev Us:Stmt:=AQ 18
def Pa:AJ :=
 (AH (A2 (Bo (m2 (Az false) (AA 0) (mC .non)) (m2 (Az false) (AA 1) (mC .non))) (AU (mC .non)) A8)
 (AH (AZ (m2 BI (AK Ir (AB (AA 0) AE)) (AK Ir (AB (AA 1) AE))) (AD 2))
 (AH (A2 (Bo (AK Iw (AB (AA 0) AE)) (AK Iw (AB (AA 1) AE))) (AU (AK Iz (AB (AA 2) AE))) A8)
 (AU (AK FI (AB (AA 2) AE))))))
def JB:List T->Option Ru:=A4 2 3 Pa
abbrev ZY:Fn:=⟨2,["one","other"],JB⟩
abbrev zi5:Gm:=gA ["one","other","number"] Us 1 [("number_of",Q4),("is_open",Qa),("below",Qf),("at_most",HY)] []
theorem zij:Ck zi5 ZY Us Pa:={}
theorem bM(a b:Db.B):JB [bT a,bT b]=some (.ok (bT (Db.add a b))):=by
 unfold JB Pa;cases a with
 |none=>simp![Db.add]
 |some a =>
  cases b with
  |none=>simp![Db.add]
  |some b =>
   have e1:a % 2=0\/a % 2=1:=by omega
   have e2:b % 2=0\/b % 2=1:=by omega
   have d:((1:Int) == 0)=false:=rfl;have m1:min (0:Int) 0=0:=rfl;have m2:min (0:Int) 1=0:=rfl;have m3:min (1:Int) 0=0:=rfl;have m4:min (1:Int) 1=1:=rfl
   rcases e1 with e1|e1<;>rcases e2 with e2|e2<;>simp![OX,QL,e1,e2,d,a9,SH,Db.add,Db.bs,m1,m2,m3,m4,Int.add_zero]
abbrev UO:Stmt:=AQ 19
def Oq:AJ :=
 (AH (A2 (m2 (Az false) (AA 0) (mC .non)) (AU (AA 1)) A8)
 (AH (A2 (m2 (Az false) (AA 1) (mC .non)) (AU (AA 0)) A8)
 (AU (m2 Ja (AA 0) (AA 1)))))
def Mb:List T->Option Ru:=A4 2 2 Oq
abbrev ZA:Fn:=⟨1,["one","other"],Mb⟩
abbrev zdl:Gm:=gA ["one","other"] UO 0 [] ["min"]
theorem zdy:Ck zdl ZA UO Oq:={}
theorem nr_ok(a b:Db.B):Mb [bT a,bT b]=some (.ok (bT (Db.mn a b))):=by
 unfold Mb Oq;cases a with
 |none=>simp![Db.mn]
 |some a =>
  cases b with
  |none=>simp![Db.mn]
  |some b =>
   simp![Db.mn]
   by_cases h:b<a
   .simp[h,BN];omega
   .simp[h,BN];omega
abbrev Ud:Stmt:=AQ 50
def PQ:AJ :=
 (AH (A2 (Bo (m2 BF (AA 0) (mC (.int 0))) (m2 BF (AA 0) (AA 1))) (AU (AK FI (AB (mC (.int 0)) AE))) A8)
 (AU (mC .non)))
def KU:List T->Option Ru:=A4 2 2 PQ
abbrev Qc:Fn:=⟨2,["i","j"],KU⟩
abbrev zc6:Gm:=gA ["i","j"] Ud 1 [("at_most",HY)] []
theorem zce:Ck zc6 Qc Ud PQ:={}
theorem Zo(i j:Nat):KU [.int i,.int j]=some (.ok (bT (Db.free i j))):=by
 unfold KU PQ
 by_cases h0:i=0
 .subst h0
  simp![Cr,Il,Db.free]
 .by_cases h:i=j
  .subst h;have e1:((i:Int) == 0)=false:=by simp;omega
   simp![Cr,e1,Il,Db.free]
  .have e1:((i:Int) == 0)=false:=by simp;omega
   have e2:((i:Int) == (j:Int))=false:=by simp;omega
   simp![Cr,e1,e2,Db.free,h0,h]
abbrev UA:Stmt:=AQ 54
def NO:AJ :=
 (A2 (m2 (Az false) (AA 5) (mC .non)) (CP 3 (AA 4)) (AH (AZ (m2 Fd (m2 BI (AA 1) (AA 5)) (m2 KD (m2 KA (AA 1) (AA 5)) (mC (.int 1)))) (AD 6))
 (CP 3 (Dt (Bo (m2 (Az false) (AA 4) (mC .non)) (m2 (C1 λi j=>decide (i<j)) (AA 6) (AA 4))) (AA 6) (AA 4)))))
def Oc:AJ :=
 (AH (Cg 3 (BV AE))
 (AH (BU (Fz (AB (AA 0) (AB (AA 2) AE))) (Aj 2 (AM (AD 4) (AM (AD 5) Am))) NO)
 (AU (AA 3))))
def KJ:List T->Option Ru:=A4 3 7 Oc
abbrev Q1:Fn:=⟨1,["row","first","rest"],KJ⟩
abbrev zdi:Gm:=gA ["row","first","rest","told","old","more","bound"] UA 0 [] ["zip"] ["told"]
theorem zdv:Ck zdi Q1 UA Oc:={}
theorem VY{n:Nat}(hn:n<=100000)(r s:Nat->Db.B)(c:Int):KJ [rT n r,.int c,rT n s]=some (.ok (.own (mT n λj=>bT (Db.mn (r j) (Db.add (some c) (s j)))))):=by
 have loop:=MD (b:=Aj 2 (AM (AD 4) (AM (AD 5) Am))) (body:=NO) (n:=n) (g:=λi=>.tup [bT (r i),bT (s i)]) (τ:=[some (rT n r),some (.int c),some (rT n s),some (.own []),none,none,none])
  (λi τ=>∃x y z,τ=[some (rT n r),some (.int c),some (rT n s),some (.own (mT i λj=>bT (Db.mn (r j) (Db.add (some c) (s j))))),x,y,z])
  ⟨none,none,none,rfl⟩ (by
   rintro i τ hi ⟨x,y,z,rfl⟩;have l1:i<100000:=by omega
   refine⟨_,by simp![];rfl,?_⟩
   unfold NO;cases hs:s i with
   |none =>
    refine⟨_,by simp![l1];rfl,some (bT (r i)),some .non,z,?_⟩
    rw[<- Jc,hs];cases r i<;>rfl
   |some m =>
    have e1:c+m - Builtin.bitAnd (Builtin.bitOr c m) 1=Db.bs c m:=by rw[Db.bor_one,Db.bs_eq]
    cases hr:r i with
    |none =>
     refine⟨_,by simp![e1,l1];rfl,some .non,some (.int m),some (.int (Db.bs c m)),?_⟩
     rw[<- Jc,hs,hr]
     rfl
    |some o =>
     by_cases h:Db.bs c m<o
     .refine⟨_,by simp![e1,h,l1];rfl,some (.int o),some (.int m),some (.int (Db.bs c m)),?_⟩
      rw[<- Jc,hs,hr];rw[show Db.mn (some o) (Db.add (some c) (some m))=some (Db.bs c m) by show some (min _ _)=_;rw[show min o (Db.bs c m)=Db.bs c m by omega]]
      rfl
     .refine⟨_,by simp![e1,h,l1];rfl,some (.int o),some (.int m),some (.int (Db.bs c m)),?_⟩
      rw[<- Jc,hs,hr];rw[show Db.mn (some o) (Db.add (some c) (some m))=some o by show some (min _ _)=_;rw[show min o (Db.bs c m)=o by omega]]
      rfl)
 obtain⟨τ',e1,x,y,z,rfl⟩:=loop;unfold KJ Oc
 simp![JO,e1]
abbrev Ua:Stmt:=AQ 53
def R6:AL :=
 (m2 (C1 λi j=>decide (i<j)) (AO (AA 1) (AA 0)) (AK FI (AB (mC (.int 0)) AE)))
def PL:AJ :=
 (AU (m1 Hc (BD 2 [] (CV (AB (AA 0) AE)) (Aj 2 (AM (AD 0) (AM (AD 1) Am))) (mC (.bl true)) R6)))
def Mi:List T->Option Ru:=A4 1 1 PL
abbrev ZN:Fn:=⟨2,["rows"],Mi⟩
abbrev zcx:Gm:=gA ["rows"] Ua 1 [("at_most",HY)] ["any","enumerate"]
theorem zd7:Ck zcx ZN Ua PL:={}
theorem zp0{n:Nat}{f:Db.Z}(hn:n<=100000){d:Nat->Int}(hd:∀i,i<n->f i i=some (d i)):Mi [zT n f]=some (.ok (.bl ((List.range n).any λi=>decide (d i<1)))):=by
 have lc:=EF (n:=n) (me:=R6) (x:=none) (y:=none) (cs:=[]) (u:=λi=>.int (i:Int)) (w:=λi=>rT n (f i)) (f:=λi=>.bl (decide (d i<1))) λi hi=>by
  unfold R6
  simp![J2,LN,CI hi,hd i hi,Il]
 unfold Mi PL;have c:n<=100000:=by omega
 simp![zgw,BX,LN,J2,CV,Ga,lc,c,Ii,List.any_map,Function.comp_def,id_eq]
abbrev UN:Stmt:=AQ 52
def RO:AL :=
 (AK Mb (AB (AA 1) (AB (AK KU (AB (AA 2) (AB (AA 0) AE))) AE)))
def MV:AL :=
 (BD 2 [0] (CV (AB (AA 1) AE)) (Aj 2 (AM (AD 0) (AM (AD 1) Am))) (mC (.bl true)) RO)
def RN:AL :=
 (Dt (m2 (Az false) (AO (AA 0) (AA 1)) (mC .non)) (AA 0) (AK KJ (AB (AA 0) (AB (AO (AA 0) (AA 1)) (AB (AA 2) AE)))))
def JQ:AJ :=
 (AH (A2 (AK Mi (AB (AA 1) AE)) (AU (mC .non)) A8)
 (AH (AZ (AO (AA 1) (AA 2)) (AD 3))
 (AZ (BD 1 [2,3] (Ap (AA 1)) (AD 0) (mC (.bl true)) RN) (AD 1))))
def Oo:AJ :=
 (AH (AZ (BD 2 [] (CV (AB (AA 0) AE)) (Aj 2 (AM (AD 0) (AM (AD 1) Am))) (mC (.bl true)) MV) (AD 1))
 (AH (BU (Cc (AB (m1 Ba (AA 1)) AE)) (AD 2) JQ)
 (AU (AA 1))))
def F8:List T->Option Ru:=A4 1 4 Oo
abbrev MH:Fn:=⟨3,["zone"],F8⟩
abbrev zcv:Gm:=gA ["zone","rows","k","over"] UN 2 [("narrower",ZA),("free_bound",Qc),("is_broken",ZN),("row_over",Q1)] ["enumerate","range","len"] [] ["k","over"]
theorem zd5:Ck zcv MH UN Oo:={}
theorem VZ{n:Nat}{f:Db.Z}{d:Nat->Int}(hd:∀i,i<n->f i i=some (d i)):((List.range n).any λi=>decide (d i<1))=true ↔ Db.Brk n f:=by
 rw[List.any_eq_true];constructor
 .rintro⟨i,hi,h⟩;have hi:=yc7.mp hi;refine⟨i,hi,?_⟩;rw[hd i hi];have:=ye7 h;simp only[Db.le]
  omega
 .rintro⟨i,hi,h⟩;refine⟨i,yc7.mpr hi,ye1 ?_⟩;rw[hd i hi]at h;simp only[Db.le]at h
  omega
theorem zg6(f:Db.Z)(k i:Nat):∃d,Db.fw f k i i=some d:=by
 have:=Db.diag_le f i k;cases h:Db.fw f k i i with
 |none=>rw[h]at this;exact this.elim
 |some d=>exact⟨d,rfl⟩
theorem znq{n:Nat}(hn:n<=100000)(f:Db.Z):(Db.Sound n f->F8 [zT n f]=some (.ok (zT n (Db.fw f n))))/\(¬ Db.Sound n f->F8 [zT n f]=some (.ok .non)):=by
 have l1:n<=100000:=by omega
 have in1:∀i,i<n->MV [some (.int (i:Int)),some (rT n (f i))]=some (.v (.own (mT n λj=>bT (Db.z0 f i j))) false):=λi hi=>by
  have lc:=EF (n:=n) (me:=RO) (x:=none) (y:=none) (cs:=[some (.int (i:Int))]) (u:=λj=>.int (j:Int)) (w:=λj=>bT (f i j)) (f:=λj=>bT (Db.z0 f i j)) λj hj=>by
   unfold RO
   simp![Zo,nr_ok]
   rfl
  unfold MV
  simp![CV,Ga,lc,l1]
 have lc0:=EF (n:=n) (me:=MV) (x:=none) (y:=none) (cs:=[]) (u:=λi=>.int (i:Int)) (w:=λi=>rT n (f i)) (f:=λi=>.own (mT n λj=>bT (Db.z0 f i j))) in1
 have loop:=Ic (b:=AD 2) (body:=JQ) (n:=n) (g:=λi=>.int (i:Int)) (τ:=[some (zT n f),some (zT n (Db.fw f 0)),none,none]) (λk=>¬ Db.Brk n (Db.fw f k)) .non
  (λk τ=>∃x y,τ=[some (zT n f),some (zT n (Db.fw f k)),x,y]) ⟨none,none,rfl⟩ (by
   rintro k τ hk - ⟨x,y,rfl⟩;refine⟨_,by simp![];rfl,?_⟩
   have hd:∀i,i<n->Db.fw f k i i=some ((Db.fw f k i i).getD 0):=λi _=>by
    obtain⟨d,e⟩:=zg6 f k i;rw[e]
    rfl
   have b1:=zp0 hn hd
   by_cases hb:Db.Brk n (Db.fw f k)
   .right;refine⟨λq=>q hb,?_⟩
    rw[(VZ hd).mpr hb]at b1;unfold JQ
    simp![b1]
   .left;refine⟨hb,?_⟩
    have b2:((List.range n).any λi=>decide ((Db.fw f k i i).getD 0<1))=false:=by
     cases q:((List.range n).any λi=>decide ((Db.fw f k i i).getD 0<1)) with
     |false=>rfl
     |true=>exact absurd ((VZ hd).mp q) hb
    rw[b2]at b1;generalize hg:Db.fw f k=g at *
    have lc:=DC (n:=n) (me:=RN) (x:=none) (cs:=[some (.int (k:Int)),some (rT n (g k))]) (g:=λi=>rT n (g i)) (f:=λi=>match g i k with|none=>rT n (g i)|some c=>.own (mT n λj=>bT (Db.mn (g i j) (Db.add (some c) (g k j))))) λi hi=>by
     unfold RN;cases e:g i k with
     |none=>simp![CI hk,e]
     |some c=>simp![CI hk,e,VY hn]
    have e2:(mT n λi=>(match g i k with|none=>rT n (g i)|some c=>T.own (mT n λj=>bT (Db.mn (g i j) (Db.add (some c) (g k j))))).share)=mT n λi=>rT n (Db.stp g k i):=Ds λi hi=>by
     cases e:g i k with
     |none =>
      simp only[LN];unfold rT;rw[Ds λj hj=>?_]
      unfold Db.stp;rw[e];cases g i j<;>rfl
     |some c =>
      simp![]
      rw[Ds λj hj=>?_]
      unfold Db.stp;rw[e]
    refine⟨[some (zT n f),some (zT n (Db.stp g k)),some (.int (k:Int)),some (rT n (g k))],.inl ?_,some (.int (k:Int)),some (rT n (g k)),?_⟩
    .unfold JQ
     simp![b1,CI hk,lc,l1]
     rw[e2]
    .rw[show Db.fw f (k+1)=Db.stp g k by rw[<- hg];rfl])
 have hr:C8 (n:Int)=true:=ES hn
 have st:∀r,BW (AD 2) JQ (mT n λi=>.int (i:Int)) [some (zT n f),some (zT n (Db.fw f 0)),none,none]=r->F8 [zT n f]=(match (match r with|some (.nx τ')=>AU (AA 1) τ'|r=>r) with
   |some (.rt t)=>some (Ru.ok t)
   |some (.nx _)=>some (.ok .non)
   |some (.xc c _)=>some (.exc c)
   |_=>none):=by
  rintro _ rfl;unfold F8 Oo
  simp![CV,Ga,lc0,l1,hr,E9]
  rfl
 rcases loop with ⟨h1,τ',e,x,y,rfl⟩|⟨⟨i,hi,hb⟩,e⟩
 .refine⟨λ_=>?_,λh=>absurd (λk hk=>h1 k hk) h⟩
  rw[st _ e]
  simp![]
 .refine⟨λh=>absurd (h i hi) hb,λ_=>?_⟩
  rw[st _ e]
abbrev Ug:Stmt:=AQ 49
def R8:AL :=
 (AK KU (AB (AA 1) (AB (AA 0) AE)))
def MY:AL :=
 (BD 1 [0] (Cc (AB (m2 BI (AA 1) (mC (.int 1))) AE)) (AD 0) (mC (.bl true)) R8)
def PV:AJ :=
 (AU (BD 1 [0] (Cc (AB (m2 BI (AA 0) (mC (.int 1))) AE)) (AD 0) (mC (.bl true)) MY))
def Hm:List T->Option Ru:=A4 1 1 PV
abbrev Qd:Fn:=⟨3,["many"],Hm⟩
abbrev zc7:Gm:=gA ["many"] Ug 2 [("free_bound",Qc)] ["range"] [] ["many"]
theorem zcf:Ck zc7 Qd Ug PV:={}
theorem Zq{m:Nat}(hm:m<=1000):Hm [.int m]=some (.ok (.own (mT (m+1) λi=>.own (mT (m+1) λj=>bT (Db.free i j))))):=by
 have l2:m+1<=100000:=by omega
 have o1:C8 ((m:Int)+1)=true:=ES (n:=m+1) (by omega)
 have o2:((m:Int)+1).toNat=m+1:=by omega
 have in1:∀i,i<m+1->MY [some (.int (i:Int)),some (.int (m:Int))]=some (.v (.own (mT (m+1) λj=>bT (Db.free i j))) false):=λi hi=>by
  have lc:=DC (n:=m+1) (me:=R8) (x:=none) (cs:=[some (.int (i:Int))]) (g:=λj=>.int (j:Int)) (f:=λj=>bT (Db.free i j)) λj hj=>by
   unfold R8
   simp![Zo]
  unfold MY
  simp![o1,o2,E9,lc,l2]
 have lc0:=DC (n:=m+1) (me:=MY) (x:=none) (cs:=[some (.int (m:Int))]) (g:=λj=>.int (j:Int)) (f:=λi=>.own (mT (m+1) λj=>bT (Db.free i j))) in1
 unfold Hm PV
 simp![o1,o2,E9,lc0,l2]
abbrev UY:Stmt:=AQ 56
def Ox:AJ :=
 (AH (A2 (m2 (Az false) (AA 1) (mC .non)) (AU (mC (.bl false))) A8)
 (AU (Bo (m2 (Az false) (AA 0) (mC .non)) (m2 (C1 λi j=>decide (j<i)) (AA 0) (AA 1)))))
def Iu:List T->Option Ru:=A4 2 2 Ox
abbrev Q6:Fn:=⟨1,["bound","other"],Iu⟩
abbrev zdn:Gm:=gA ["bound","other"] UY 0 [] []
theorem ze0:Ck zdn Q6 UY Ox:={}
theorem Su(a b:Db.B):(Db.le a b->Iu [bT a,bT b]=some (.ok (.bl false)))/\(¬ Db.le a b->Iu [bT a,bT b]=some (.ok (.bl true))):=by
 unfold Iu Ox;cases b with
 |none=>exact⟨λ_=>by simp![],λh=>absurd trivial h⟩
 |some b =>
  cases a with
  |none=>exact⟨λh=>h.elim,λ_=>by simp![]⟩
  |some a =>
   constructor
   .intro h;have h':decide (b<a)=false:=ydl (by simp only[Db.le]at h;omega)
    simp![h']
   .intro h;have h':decide (b<a)=true:=ye1 (by simp only[Db.le]at h;omega)
    simp![h']
abbrev Tu:Stmt:=AQ 55
def NM:AJ :=
 (A2 (AK Iu (AB (AA 4) (AB (AA 5) AE))) (AU (mC (.bl false))) A8)
def Ke:AJ :=
 (BU (Fz (AB (AA 2) (AB (AA 3) AE))) (Aj 2 (AM (AD 4) (AM (AD 5) Am))) NM)
def L7:AJ :=
 (AH (BU (Fz (AB (AA 0) (AB (AA 1) AE))) (Aj 2 (AM (AD 2) (AM (AD 3) Am))) Ke)
 (AU (mC (.bl true))))
def Gd:List T->Option Ru:=A4 2 6 L7
abbrev QZ:Fn:=⟨2,["one","other"],Gd⟩
abbrev zfw:Gm:=gA ["one","other","row","other_row","bound","other_bound"] Tu 1 [("is_wider",Q6)] ["zip"]
theorem zga:Ck zfw QZ Tu L7:={}
theorem wi_ok{n:Nat}(f g:Db.Z):((∀i j,i<n->j<n->Db.le (f i j) (g i j))->Gd [zT n f,zT n g]=some (.ok (.bl true)))/\((¬ ∀i j,i<n->j<n->Db.le (f i j) (g i j))->Gd [zT n f,zT n g]=some (.ok (.bl false))):=by
 have loop:=Ic (b:=Aj 2 (AM (AD 2) (AM (AD 3) Am))) (body:=Ke) (n:=n) (g:=λi=>.tup [rT n (f i),rT n (g i)]) (τ:=[some (zT n f),some (zT n g),none,none,none,none]) (λi=>∀j,j<n->Db.le (f i j) (g i j)) (.bl false)
  (λi τ=>∃x y z w,τ=[some (zT n f),some (zT n g),x,y,z,w]) ⟨none,none,none,none,rfl⟩ (by
   rintro i τ hi - ⟨x,y,z,w,rfl⟩;refine⟨_,by simp![];rfl,?_⟩
   have loop2:=Ic (b:=Aj 2 (AM (AD 4) (AM (AD 5) Am))) (body:=NM) (n:=n) (g:=λj=>.tup [bT (f i j),bT (g i j)]) (τ:=[some (zT n f),some (zT n g),some (rT n (f i)),some (rT n (g i)),z,w]) (λj=>Db.le (f i j) (g i j)) (.bl false)
    (λj τ=>∃z w,τ=[some (zT n f),some (zT n g),some (rT n (f i)),some (rT n (g i)),z,w]) ⟨z,w,rfl⟩ (by
     rintro j τ hj - ⟨z,w,rfl⟩;refine⟨_,by simp![];rfl,?_⟩
     have q:=Su (f i j) (g i j);unfold NM
     by_cases h:Db.le (f i j) (g i j)
     .left;have q:=q.1 h;exact⟨h,_,.inl (by simp![q];rfl),_,_,rfl⟩
     .right;have q:=q.2 h;exact⟨h,by simp![q]⟩)
   rcases loop2 with ⟨h,τ',e,z,w,rfl⟩|⟨⟨j,hj,h⟩,e⟩
   .left;refine⟨h,_,.inl ?_,some (rT n (f i)),some (rT n (g i)),z,w,rfl⟩;unfold Ke
    simp![JO,e]
   .right;refine⟨λq=>h (q j hj),?_⟩
    unfold Ke
    simp![JO,e])
 rcases loop with ⟨h,τ',e,x,y,z,w,rfl⟩|⟨⟨i,hi,h⟩,e⟩
 .refine⟨λ_=>?_,λq=>absurd (λi j hi hj=>h i hi j hj) q⟩
  unfold Gd L7
  simp![JO,e]
 .refine⟨λq=>absurd (λj hj=>q i j hi hj) h,λ_=>?_⟩
  unfold Gd L7
  simp![JO,e]
abbrev UT:Stmt:=AQ 28
def Ov:AJ :=
 (AH (Cg 4 (BV AE))
 (AH (A2 (m2 BF (AA 2) (mC (.str "<"))) (CP 4 (Bj (AB (AA 0) (AB (AA 1) (AB (AK Iz (AB (AA 3) AE)) AE))))) A8)
 (AH (A2 (Bo (m2 BF (AA 2) (mC (.str "<="))) (m2 BF (AA 2) (mC (.str "=")))) (CP 4 (Bj (AB (AA 0) (AB (AA 1) (AB (AK FI (AB (AA 3) AE)) AE))))) A8)
 (AH (A2 (m2 BF (AA 2) (mC (.str ">"))) (CP 4 (Bj (AB (AA 1) (AB (AA 0) (AB (AK Iz (AB (m1 FU (AA 3)) AE)) AE))))) A8)
 (AH (A2 (Bo (m2 BF (AA 2) (mC (.str ">="))) (m2 BF (AA 2) (mC (.str "=")))) (CP 4 (Bj (AB (AA 1) (AB (AA 0) (AB (AK FI (AB (m1 FU (AA 3)) AE)) AE))))) A8)
 (AU (AA 4)))))))
def Me:List T->Option Ru:=A4 4 5 Ov
abbrev ZF:Fn:=⟨2,["i","j","word","number"],Me⟩
abbrev zbr:Gm:=gA ["i","j","word","number","bounds"] UT 1 [("below",Qf),("at_most",HY)] [] ["bounds"]
theorem zby:Ck zbr ZF UT Ov:={}
def Dz:Nat->Str
 |0=>"<"
 |1=>"<="
 |2=>">"
 |3=>">="
 |_=>"="
theorem Sw{w:Nat}(h:w<5):BF (.str (Dz w)) (.str "<")=some (.bl (w == 0))/\BF (.str (Dz w)) (.str "<=")=some (.bl (w == 1))/\BF (.str (Dz w)) (.str ">")=some (.bl (w == 2))/\BF (.str (Dz w)) (.str ">=")=some (.bl (w == 3))/\BF (.str (Dz w)) (.str "=")=some (.bl (w == 4)):=by
 have:w=0\/w=1\/w=2\/w=3\/w=4:=by omega
 rcases this with rfl|rfl|rfl|rfl|rfl<;>refine⟨?_,?_,?_,?_,?_⟩<;>ext
abbrev An(l:Nat×Nat×Int):T:=.tup [.int (l.1:Nat),.str (Dz l.2.1),.int l.2.2]
def Look(m:Nat)(l:Nat×Nat×Int):Prop:=0<l.1/\l.1<m+1/\l.2.1<5
abbrev Jg(x:Dv.Lim):T:=.tup [.int (x.1:Nat),.int (x.2.1:Nat),.int x.2.2]
def Cp:Nat×Nat×Int->List Dv.Lim
 |(p,0,n)=>[(p,0,2 * n)]
 |(p,1,n)=>[(p,0,2 * n+1)]
 |(p,2,n)=>[(0,p,2 * -n)]
 |(p,3,n)=>[(0,p,2 * -n+1)]
 |(p,_,n)=>[(p,0,2 * n+1),(0,p,2 * -n+1)]
theorem lb_ok{l:Nat×Nat×Int}(hw:l.2.1<5):Me [.int (l.1:Nat),.int 0,.str (Dz l.2.1),.int l.2.2]=some (.ok (.own ((Cp l).map Jg))):=by
 obtain⟨p,w,n⟩:=l;obtain⟨s0,s1,s2,s3,s4⟩:=Sw hw
 have:w=0\/w=1\/w=2\/w=3\/w=4:=by
  have:w<5:=hw
  omega
 have z:((0:Nat):Int)=(0:Int):=rfl;unfold Me Ov
 rcases this with rfl|rfl|rfl|rfl|rfl<;>(simp![s0,s1,s2,s3,s4,a9,SH,Cp,z];rfl)
theorem QC{m:Nat}{l:Nat×Nat×Int}(h:Look m l):Dv.In (m+1) (Cp l):=λx hx=>by
 obtain⟨p,w,n⟩:=l;obtain⟨h1,h2,h3⟩:=h
 have:w=0\/w=1\/w=2\/w=3\/w=4:=by
  have:w<5:=h3
  omega
 have h2':p<m+1:=h2
 rcases this with rfl|rfl|rfl|rfl|rfl<;>simp only[Cp,yaf,yaz,ye5]at hx
 all_goals first|(rcases hx with rfl|rfl<;>exact⟨by first|exact h2'|exact ycj m,by first|exact h2'|exact ycj m⟩)|(subst hx;exact⟨by first|exact h2'|exact ycj m,by first|exact h2'|exact ycj m⟩)
abbrev UB:Stmt:=AQ 63
def RH:AL :=
 (Dt (m2 Dd (AA 0) (AA 1)) (mC (.int 0)) (AA 0))
def RG:AL :=
 (AO (AO (AA 2) (AA 1)) (AA 0))
def MU:AL :=
 (BD 1 [0,2] (Ap (AA 1)) (AD 0) (mC (.bl true)) RG)
def Od:AJ :=
 (AH (AZ (BD 1 [1] (Cc (AB (m1 Ba (AA 0)) AE)) (AD 0) (mC (.bl true)) RH) (AD 2))
 (AU (BD 1 [2,0] (Ap (AA 2)) (AD 0) (mC (.bl true)) MU)))
def Hj:List T->Option Ru:=A4 2 3 Od
abbrev Q2:Fn:=⟨1,["zone","places"],Hj⟩
abbrev zdj:Gm:=gA ["zone","places","sources"] UB 0 [] ["range","len"] [] ["zone","places","sources"]
theorem zdw:Ck zdj Q2 UB Od:={}
abbrev oZ(n:Nat)(f:Db.Z):List T:=mT n λi=>.own (mT n λj=>bT (f i j))
theorem OP{n:Nat}{f:Db.Z}{a b:Nat}{c:Db.B}:(oZ n f).set a (.own ((mT n λj=>bT (f a j)).set b (bT c)))=oZ n λi j=>if i=a/\j=b then c else f i j:=by
 unfold oZ;rw[YG,YG];refine Ds λi hi=>?_
 by_cases e:i=a
 .subst e;rw[if_pos rfl,Ds λj hj=>?_]
  by_cases e2:j=b
  .simp[e2]
  .simp[e2]
 .rw[if_neg e,Ds λj hj=>?_]
  simp[e]
theorem ET{n:Nat}{g:Db.Z}:BS (oZ n g)=mT n λi=>rT n (g i):=by
 unfold oZ;rw[FP];refine Ds λi hi=>?_
 rw[T.share,FP];simp only[Ij]
theorem OQ{n:Nat}{f g:Db.Z}(h:∀i j,i<n->j<n->f i j=g i j):oZ n f=oZ n g:=by
 unfold oZ;rw[Ds λi hi=>?_]
 rw[Ds λj hj=>?_]
 rw[h i j hi hj]
def BY(ps:List Nat)(i:Nat):Nat:=if i∈ps then 0 else i
abbrev nT(ps:List Nat):T:=.lst (ps.map λ(p:Nat)=>T.int (p:Int))
theorem in_ok(i:Nat):∀ps:List Nat,G6 (.int (i:Int)) (ps.map λ(p:Nat)=>T.int (p:Int))=true:=λps=>by
 unfold G6 EH
 have h1:PyData.canLayAll0 (Bb (ps.map λ(p:Nat)=>T.int p))=true:=by
  induction ps with
  |nil=>rfl
  |cons a r ih=>omega
 have h2:EO (ps.map λ(p:Nat)=>T.int p)=true:=by
  induction ps with
  |nil=>rfl
  |cons a r ih=>exact ih (by omega)
 rw[h1];simp[T.data,PyData.canLay0,PyData.depth,h2]
 rfl
theorem Yj(i:Nat):∀ps:List Nat,IW (.int (i:Int)) (ps.map λ(p:Nat)=>T.int (p:Int))=decide (i∈ps)
 |[]=>by simp[IW,Bb]
 |a::r=>by
  have ih:=Yj i r;unfold IW at ih ⊢;simp only[yap,Bb,yde,ih];simp only[T.data,PyData.eqv]
  by_cases e:i=a
  .simp[e]
  .simp[e,show ¬ (a:Int)=(i:Int) by omega]
theorem in_nT(ps:List Nat)(i:Nat):Dd (.int (i:Int)) (nT ps)=some (.bl (decide (i∈ps))):=by
 unfold Dd nT;simp only[in_ok i ps,Yj i ps,ye0]
theorem O5(ps:List Nat):BS (ps.map λ(p:Nat)=>T.int (p:Int))=ps.map λ(p:Nat)=>T.int (p:Int):=by
 rw[EA,ybd]
 rfl
theorem O6(ps:List Nat):A3 (ps.map λ(p:Nat)=>T.int (p:Int))=true:=by
 rw[EB,yab];intro t ht;obtain⟨p,-,rfl⟩:=yac.mp ht
 rfl
theorem Vu{n:Nat}(h0:0<n)(hn:n<=1000)(f:Db.Z)(ps:List Nat):Hj [zT n f,nT ps]=some (.ok (.own (oZ n (Dm.pbk f (BY ps))))):=by
 have l1:n<=100000:=by omega
 have o1:C8 (n:Int)=true:=ES (by omega)
 have sl:∀i,i<n->BY ps i<n:=λi hi=>by
  unfold BY;split<;>omega
 have lcs:=DC (n:=n) (me:=RH) (x:=none) (cs:=[some (nT ps)]) (g:=λi=>.int (i:Int)) (f:=λi=>.int (BY ps i:Int)) λi hi=>by
  have q:=in_nT ps i;unfold RH
  by_cases e:i∈ps
  .rw[ye1 e]at q;rw[show BY ps i=0 from if_pos e]
   simp![q,O5,O6]
  .rw[ydl e]at q;rw[show BY ps i=i from if_neg e]
   simp![q,O5,O6]
 have in1:∀i,i<n->MU [some (.int (BY ps i:Int)),some (.lst (mT n λi=>.int (BY ps i:Int))),some (zT n f)]=some (.v (.own (mT n λj=>bT (Dm.pbk f (BY ps) i j))) false):=λi hi=>by
  have lc:=DC (n:=n) (me:=RG) (x:=none) (cs:=[some (.int (BY ps i:Int)),some (zT n f)]) (g:=λj=>.int (BY ps j:Int)) (f:=λj=>bT (Dm.pbk f (BY ps) i j)) λj hj=>by
   unfold RG
   simp![CI (sl i hi),CI (sl j hj)]
   rfl
  unfold MU
  simp![lc,l1]
 have lc0:=DC (n:=n) (me:=MU) (x:=none) (cs:=[some (.lst (mT n λi=>.int (BY ps i:Int))),some (zT n f)]) (g:=λi=>.int (BY ps i:Int)) (f:=λi=>.own (mT n λj=>bT (Dm.pbk f (BY ps) i j))) in1
 unfold Hj Od
 simp![o1,E9,lcs,l1,lc0,O5,O6]
abbrev Ui:Stmt:=AQ 61
def R9:AL :=
 (m1 CZ (AA 0))
def PY:AJ :=
 (AU (BD 1 [] (Ap (AA 0)) (AD 0) (mC (.bl true)) R9))
def KW:List T->Option Ru:=A4 1 1 PY
abbrev Qe:Fn:=⟨1,["zone"],KW⟩
abbrev zg0:Gm:=gA ["zone"] Ui 0 [] ["list"]
theorem zge:Ck zg0 Qe Ui PY:={}
theorem aK{n:Nat}(hn:n<=1000)(f:Db.Z):KW [zT n f]=some (.ok (.own (oZ n f))):=by
 have lc:=DC (n:=n) (me:=R9) (x:=none) (cs:=[]) (g:=λi=>.nd false .lst (mT n λj=>bT (f i j))) (f:=λi=>.own (mT n λj=>bT (f i j))) λi hi=>by
  unfold R9
  simp![]
 have l1:n<=100000:=by omega
 unfold KW PY
 simp![lc,l1]
abbrev Tv:Stmt:=AQ 62
def NN:AJ :=
 (IE 1 (AA 2) (mC (.int 0)) (mC .non))
def O8:AJ :=
 (AH (Cg 1 (AK KW (AB (AA 0) AE)))
 (AH (BU (HU (AB (mC (.int 1)) (AB (m1 Ba (AA 1)) AE))) (AD 2) NN)
 (AU (AA 1))))
def FH:List T->Option Ru:=A4 1 3 O8
abbrev ME:Fn:=⟨2,["zone"],FH⟩
abbrev zfx:Gm:=gA ["zone","rows","place"] Tv 1 [("copied",Qe)] ["range","len"] ["rows"]
theorem zgb:Ck zfx ME Tv O8:={}
theorem Lw{n i:Nat}(h:i<n):Cq n (i:Int)=some i:=by unfold Cq;simp;omega
theorem Kc{m:Nat}(hm:m<=500)(f:Db.Z):FH [zT (m+1) f]=some (.ok (.own (oZ (m+1) (Dm.wtd f)))):=by
 have co:=aK (n:=m+1) (by omega) f
 have loop:=MD (b:=AD 2) (body:=NN) (n:=m) (g:=λi=>.int (1+(i:Int))) (τ:=[some (zT (m+1) f),some (.own (oZ (m+1) f)),none])
  (λk τ=>∃x,τ=[some (zT (m+1) f),some (.own (oZ (m+1) λi j=>if 0<i/\i<k+1/\j=0 then none else f i j)),x])
  ⟨none,by rw[show oZ (m+1) f=oZ (m+1) (λi j=>if 0<i/\i<0+1/\j=0 then none else f i j) from OQ λi j _ _=>by rw[if_neg (by omega)]]⟩ (by
   rintro k τ hk ⟨x,rfl⟩;refine⟨_,by simp![];rfl,?_⟩
   have e1:(1:Int)+(k:Int)=((k+1:Nat):Int):=by omega
   have i1:Cq (m+1) ((k+1:Nat):Int)=some (k+1):=Lw (by omega)
   have i0:Cq (m+1) (0:Int)=some 0:=Lw (i:=0) (by omega)
   generalize hg:(λi j=>if 0<i/\i<k+1/\j=0 then none else f i j:Db.Z)=g
   have hg':∀i j,g i j=if 0<i/\i<k+1/\j=0 then none else f i j:=λi j=>by rw[<- hg]
   have g1:(oZ (m+1) g)[k+1]?=some (.own (mT (m+1) λj=>bT (g (k+1) j))):=EX (by omega)
   have st:=OP (n:=m+1) (f:=g) (a:=k+1) (b:=0) (c:=none);rw[SA]at st;rw[e1];refine⟨[some (zT (m+1) f),some (.own (oZ (m+1) λi j=>if i=k+1/\j=0 then none else g i j)),some (.int ((k+1:Nat):Int))],?_,some (.int ((k+1:Nat):Int)),?_⟩
   .unfold NN
    simp![i1,i0,g1,st]
   .rw[OQ λi j _ _=>?_]
    rw[hg' i j]
    by_cases h1:i=k+1/\j=0
    .rw[if_pos h1,if_pos (by omega)]
    .rw[if_neg h1]
     by_cases h2:0<i/\i<k+1/\j=0
     .rw[if_pos h2,if_pos (by omega)]
     .rw[if_neg h2,if_neg (by omega)])
 obtain⟨τ',e,x,rfl⟩:=loop;have o1:C8 ((m+1:Nat):Int)=true:=ES (by omega)
 have o2:C8 1=true:=ES (n:=1) (by decide)
 have e2:(((m+1:Nat):Int) - 1).toNat=m:=by omega
 have e3:(oZ (m+1) λi j=>if 0<i/\i<m+1/\j=0 then none else f i j)=oZ (m+1) (Dm.wtd f):=OQ λi j hi hj=>by
  unfold Dm.wtd
  by_cases h:0<i/\j=0
  .rw[if_pos h,if_pos (by omega)]
  .rw[if_neg h];rw[if_neg (by omega)]
 rw[e3]at e;unfold FH O8
 simp![co,o1,o2,e2,V4,e]
abbrev UP:Stmt:=AQ 60
def RP:AL :=
 (Dt (m2 (Az false) (AO (AA 0) (AA 2)) (mC .non)) (AA 0) (AK KJ (AB (AA 0) (AB (AK JB (AB (AO (AA 0) (AA 2)) (AB (AA 1) AE))) (AB (AO (AA 4) (AA 3)) AE)))))
def Jb:AJ :=
 (AH (A2 (BE (AK Iu (AB (AO (AO (AA 0) (AA 1)) (AA 2)) (AB (AA 3) AE)))) (AU (AA 0)) A8)
 (AH (AZ (AK JB (AB (AA 3) (AB (AO (AO (AA 0) (AA 2)) (AA 1)) AE))) (AD 4))
 (AH (A2 (CU (m2 (Az true) (AA 4) (mC .non)) (m2 (C1 λi j=>decide (i<j)) (AA 4) (AK FI (AB (mC (.int 0)) AE)))) (AU (mC .non)) A8)
 (AU (BD 1 [3,1,2,0] (Ap (AA 0)) (AD 0) (mC (.bl true)) RP)))))
def Hk:List T->Option Ru:=A4 4 5 Jb
abbrev ZC:Fn:=⟨3,["zone","i","j","bound"],Hk⟩
abbrev zdm:Gm:=gA ["zone","i","j","bound","ring"] UP 2 [("is_wider",Q6),("added",ZY),("at_most",HY),("row_over",Q1)] [] [] ["zone","i","j","bound"]
theorem zdz:Ck zdm ZC UP Jb:={}
def II(n:Nat)(f:Db.Z)(a b:Nat)(c:Int)(i:Nat):T:=match f i a with
 |none=>rT n (f i)
 |some _=>.own (mT n λj=>bT (Dv.ins f a b (some c) i j))
theorem zfj{n:Nat}{f:Db.Z}{a b:Nat}{c:Int}(i:Nat):(II n f a b c i).share=rT n (Dv.ins f a b (some c) i):=by
 unfold II;cases e:f i a with
 |none =>
  simp only[T.share,FP,Ij];rw[Ds λj hj=>?_]
  unfold Dv.ins;rw[e];cases f i j<;>rfl
 |some d=>simp only[T.share,FP,Ij]
theorem znr{n:Nat}(hn:n<=1000){f:Db.Z}(hf:Db.Nar n f){a b:Nat}(ha:a<n)(hb:b<n){c:Int} :
  (Dk.leB (some 1) (Db.add (f b a) (some c))=true->∃t,Hk [zT n f,.int (a:Int),.int (b:Int),.int c]=some (.ok t)/\t.share=zT n (Dv.ins f a b (some c))/\t.isN=false) /\
  (Dk.leB (some 1) (Db.add (f b a) (some c))=false->Hk [zT n f,.int (a:Int),.int (b:Int),.int c]=some (.ok .non)):=by
 have wk:=Su (f a b) (some c);have a1:=CI (g:=λi=>rT n (f i)) ha
 have a2:=CI (g:=λi=>rT n (f i)) hb
 have b1:=CI (g:=λj=>bT (f a j)) hb
 have b2:=CI (g:=λj=>bT (f b j)) ha
 have ad:=bM (some c) (f b a);rw[Db.add_comm]at ad
 by_cases hle:Db.le (f a b) (some c)
 .have w1:=wk.1 hle
  have one:Dk.leB (some 1) (Db.add (f b a) (some c))=true:=by
   rw[Dk.leB_iff,<- hf.diag b hb];exact Db.le_trans (hf.tri b b a hb hb ha) (Db.add_mono (Db.le_refl _) hle)
  refine⟨λ_=>⟨zT n f,?_,?_,rfl⟩,λh=>by rw[one]at h;cases h⟩
  .unfold Hk Jb;rw[M0]at w1
   simp![a1,b1,w1]
  .have:zT n (Dv.ins f a b (some c))=zT n f:=zgx λi j hi hj=>Db.mn_of_le (by
    refine Db.le_trans (hf.tri i j a hi hj ha) (Db.add_mono (Db.le_refl _) ?_);exact Db.le_trans (hf.tri a j b ha hj hb) (Db.add_mono hle (Db.le_refl _)))
   rw[this];simp only[T.share,FP,Ij]
 .have w1:=wk.2 hle;rw[M0]at w1 ad;have l1:n<=100000:=by omega
  have lc:=DC (n:=n) (me:=RP) (x:=none) (cs:=[some (.int c),some (.int (a:Int)),some (.int (b:Int)),some (zT n f)]) (g:=λi=>rT n (f i)) (f:=λi=>II n f a b c i) λi hi=>by
   have c1:=CI (g:=λj=>bT (f i j)) ha
   unfold RP II;cases e:f i a with
   |none =>
    rw[e]at c1
    simp![c1]
   |some d =>
    rw[e]at c1;have ad2:=bM (some d) (some c);have ro:=VY (n:=n) l1 (f i) (f b) (Db.bs d c)
    have r2:(λj=>bT (Db.mn (f i j) (Db.add (some (Db.bs d c)) (f b j))))=λj=>bT (Dv.ins f a b (some c) i j):=funext λj=>by
     unfold Dv.ins;rw[e,<- Db.add_assoc]
     rfl
    rw[r2]at ro;have ad3:JB [.int d,.int c]=some (.ok (.int (Db.bs d c))):=ad2
    simp![c1,ad3,a2,ro]
  have sh:BS (mT n λi=>II n f a b c i)=mT n λi=>rT n (Dv.ins f a b (some c) i):=by
   rw[FP];exact Ds λi _=>zfj i
  constructor
  .intro h;refine⟨.own (mT n λi=>II n f a b c i),?_,by simp only[T.share,sh],rfl⟩
   unfold Hk Jb;cases e:Db.add (f b a) (some c) with
   |none =>
    rw[e]at ad
    simp![a1,b1,w1,a2,b2,ad,lc,l1]
   |some r =>
    rw[e]at ad h
    have h':¬ r<1:=by
     have:=Dk.leB_iff.mp h;simp only[Db.le]at this
     omega
    simp![a1,b1,w1,a2,b2,ad,Il,h',lc,l1]
  .intro h;unfold Hk Jb;cases e:Db.add (f b a) (some c) with
   |none=>rw[e]at h;cases h
   |some r =>
    rw[e]at ad h
    have h':r<1:=by
     rcases Int.lt_or_le r 1 with q|q
     .exact q
     .have:Dk.leB (some 1) (some r)=true:=Dk.leB_iff.mpr q;rw[this]at h;cases h
    simp![a1,b1,w1,a2,b2,ad,Il,h']
abbrev US:Stmt:=AQ 59
def Hq:AJ :=
 (AH (AZ (AK Hk (AB (AA 2) (AB (AA 6) (AB (AA 7) (AB (AA 8) AE))))) (AD 2))
 (A2 (m2 (Az false) (AA 2) (mC .non)) (AU (mC .non)) A8))
def Kf:AJ :=
 (BU (Ap (AK Me (AB (AA 3) (AB (mC (.int 0)) (AB (AA 4) (AB (AA 5) AE)))))) (Aj 3 (AM (AD 6) (AM (AD 7) (AM (AD 8) Am)))) Hq)
def L8:AJ :=
 (AH (AZ (AK KW (AB (AA 0) AE)) (AD 2))
 (AH (BU (Ap (AA 1)) (Aj 3 (AM (AD 3) (AM (AD 4) (AM (AD 5) Am)))) Kf)
 (AU (AA 2))))
def Dw:List T->Option Ru:=A4 2 9 L8
abbrev HX:Fn:=⟨4,["zone","looks"],Dw⟩
abbrev zok:Gm:=gA ["zone","looks","rows","place","word","number","i","j","bound"] US 3 [("copied",Qe),("look_bounds",ZF),("narrowed",ZC)] []
theorem zow:Ck zok HX US L8:={}
theorem Xs{n:Nat}(hn:n<=1000){a0 a1 a3 a4 a5:Option T}:∀(B:List Dv.Lim),Dv.In n B->∀(f:Db.Z),Db.Nar n f->∀x y z:Option T,
  (∀h,Dk.met B f=some h->∃x' y' z',BW (Aj 3 (AM (AD 6) (AM (AD 7) (AM (AD 8) Am)))) Hq (B.map Jg) [a0,a1,some (zT n f),a3,a4,a5,x,y,z]=some (.nx [a0,a1,some (zT n h),a3,a4,a5,x',y',z'])) /\
  (Dk.met B f=none->BW (Aj 3 (AM (AD 6) (AM (AD 7) (AM (AD 8) Am)))) Hq (B.map Jg) [a0,a1,some (zT n f),a3,a4,a5,x,y,z]=some (.rt .non))
 |[],_,f,_,x,y,z=>⟨λh e=>by
   cases e;exact⟨x,y,z,rfl⟩,λe=>by cases e⟩
 |b::B,hI,f,hf,x,y,z=>by
  have hb:=hI b (ya9 ..);obtain⟨n1,n2⟩:=znr hn hf hb.1 hb.2 (c:=b.2.2);unfold Dk.met;rw[yap];unfold BW;cases q:Dk.leB (some 1) (Db.add (f b.2.1 b.1) (some b.2.2)) with
  |false =>
   refine⟨λh e=>(by cases e),λ_=>?_⟩
   have n2:=n2 q;unfold Hq
   simp![n2]
  |true =>
   obtain⟨t,e1,e2,e3⟩:=n1 q;simp only[ye0];obtain⟨k1,k2⟩:=Xs hn (a0:=a0) (a1:=a1) (a3:=a3) (a4:=a4) (a5:=a5) B (λy hy=>hI y (ya6 _ hy)) _ (Dv.ins_nar hf hb.1 hb.2 (Dk.leB_iff.mp q)) (some (.int (b.1:Nat))) (some (.int (b.2.1:Nat))) (some (.int b.2.2))
   have st:Hq [a0,a1,some (zT n f),a3,a4,a5,some (.int (b.1:Nat)),some (.int (b.2.1:Nat)),some (.int b.2.2)]=some (.nx [a0,a1,some (zT n (Dv.ins f b.1 b.2.1 (some b.2.2))),a3,a4,a5,some (.int (b.1:Nat)),some (.int (b.2.1:Nat)),some (.int b.2.2)]):=by
    unfold Hq
    simp![e1,e2]
   refine⟨λh e=>?_,λe=>?_⟩
   .obtain⟨x',y',z',k⟩:=k1 h e;exact⟨x',y',z',by simp![st];exact k⟩
   .have k:=k2 e
    simp![st]
    exact k
def E3(l:Nat->Nat×Nat×Int):Nat->List Dv.Lim
 |0=>[]
 |k+1=>E3 l k++Cp (l k)
theorem aT{m:Nat}{l:Nat->Nat×Nat×Int}:∀{K:Nat},(∀k,k<K->Look m (l k))->Dv.In (m+1) (E3 l K)
 |0,_=>λx hx=>by cases hx
 |K+1,h=>λx hx=>by
  rcases yar.mp hx with hy|hy
  .exact aT (λk hk=>h k (by omega)) x hy
  .exact QC (h K (by omega)) x hy
theorem Xz{l:Nat->Nat×Nat×Int}{f:Db.Z}{i:Nat}(h:Dk.met (E3 l i) f=none):∀K,i<=K->Dk.met (E3 l K) f=none
 |0,e=>by
  have:i=0:=by omega
  subst this;exact h
 |K+1,e=>by
  by_cases q:i=K+1
  .subst q;exact h
  .show Dk.met (E3 l K++Cp (l K)) f=none;rw[Dk.met_app,Xz h K (by omega)]
   rfl
theorem mt_ok{m K:Nat}(hm:m<=500){f:Db.Z}(hf:Db.Nar (m+1) f){l:Nat->Nat×Nat×Int}(hl:∀k,k<K->Look m (l k)) :
  (∀h,Dk.met (E3 l K) f=some h->Dw [zT (m+1) f,.lst (mT K λk=>An (l k))]=some (.ok (zT (m+1) h)))/\(Dk.met (E3 l K) f=none->Dw [zT (m+1) f,.lst (mT K λk=>An (l k))]=some (.ok .non)):=by
 have co:=aK (n:=m+1) (by omega) f
 have loop:=Ic (b:=Aj 3 (AM (AD 3) (AM (AD 4) (AM (AD 5) Am)))) (body:=Kf) (n:=K) (g:=λk=>An (l k)) (τ:=[some (zT (m+1) f),some (.lst (mT K λk=>An (l k))),some (zT (m+1) f),none,none,none,none,none,none])
  (λk=>Dk.met (E3 l (k+1)) f≠none) .non
  (λk τ=>∃h x3 x4 x5 x6 x7 x8,Dk.met (E3 l k) f=some h/\τ=[some (zT (m+1) f),some (.lst (mT K λk=>An (l k))),some (zT (m+1) h),x3,x4,x5,x6,x7,x8])
  ⟨f,none,none,none,none,none,none,rfl,rfl⟩ (by
   rintro k τ hk - ⟨h,x3,x4,x5,x6,x7,x8,eh,rfl⟩;refine⟨_,by simp![];rfl,?_⟩
   have hk':=hl k hk;have nh:=((Dk.met_ok (n:=m+1) _ f hf (aT λi hi=>hl i (by omega))).1 h eh).1
   have lb:=lb_ok (l:=l k) hk'.2.2;obtain⟨k1,k2⟩:=Xs (n:=m+1) (by omega) (a0:=some (zT (m+1) f)) (a1:=some (.lst (mT K λk=>An (l k)))) (a3:=some (.int ((l k).1:Nat))) (a4:=some (.str (Dz (l k).2.1))) (a5:=some (.int (l k).2.2)) (Cp (l k)) (QC hk') h nh x6 x7 x8
   have e2:Dk.met (E3 l (k+1)) f=Dk.met (Cp (l k)) h:=by
    show Dk.met (E3 l k++Cp (l k)) f=_;rw[Dk.met_app,eh]
    rfl
   have sh:BS ((Cp (l k)).map Jg)=(Cp (l k)).map Jg:=by
    rw[EA,ybd];exact ybc λx _=>rfl
   rw[e2];cases q:Dk.met (Cp (l k)) h with
   |none =>
    refine .inr ⟨λc=>c rfl,?_⟩
    unfold Kf
    simp![lb,sh]
    exact k2 q
   |some h' =>
    obtain⟨x',y',z',k3⟩:=k1 h' q;refine .inl ⟨(by intro c;cases c),_,.inl ?_,h',some (.int ((l k).1:Nat)),some (.str (Dz (l k).2.1)),some (.int (l k).2.2),x',y',z',rfl,rfl⟩
    unfold Kf
    simp![lb,sh]
    exact k3)
 have shl:BS (mT K λk=>An (l k))=mT K λk=>An (l k):=by
  rw[FP]
  rfl
 have shr:A3 (mT K λk=>An (l k))=true:=by
  rw[EB,yab];intro t ht;obtain⟨i,-,rfl⟩:=Pw ht
  rfl
 rcases loop with ⟨-,τ',e,h,x3,x4,x5,x6,x7,x8,eh,rfl⟩|⟨⟨i,hi,ni⟩,e⟩
 .refine⟨λh' e'=>?_,λe'=>by rw[eh]at e';cases e'⟩
  rw[eh]at e';cases e';unfold Dw L8
  simp![co,shl,shr,e]
 .have no:=Xz (Classical.not_not.mp ni) K (by omega)
  refine⟨λh' e'=>(by rw[no]at e';cases e'),λ_=>?_⟩
  unfold Dw L8
  simp![co,shl,shr,e]
abbrev UK:Stmt:=AQ 69
def RK:AL :=
 (Bz Ao Aq JD (AA 1) (AB (AA 0) AE))
def Ol:AJ :=
 (AU (BD 1 [0] (Ap (Bz B7 Bf NC (AA 1) AE)) (AD 0) (mC (.bl true)) RK))
def Ma:List T->Option Ru:=A4 2 2 Ol
abbrev Yz:Fn:=⟨2,["machine","door"],Ma⟩
abbrev zau:Gx:={ Bw with mt:=[("sets",B7,Bf,Zd),("watch_number",Ao,Aq,Qj)] }
abbrev zay:Gm:=gA ["machine","door"] UK 1 [] [] [] ["machine"] (ox:=zau)
theorem zb3:Ck zay Yz UK Ol:={}
def BP(ws ns:List Str):List Nat:=ns.map λx=>(CB ws x).getD 0+1
abbrev ED(l:List Nat):List T:=l.map λp:Nat=>T.int (p:Int)
theorem L5(l:List Nat):A3 (ED l)=true:=By λ_ _=>rfl
theorem np_ok{M:Mc}(h:McOk M){d:Dr}(hd:d∈M.ds):Ma [BC M,BK d]=some (.ok (.own (ED (BP M.ws d.n)))):=by
 have D:=h.d d hd;have sg:=D.g.sh;have sm:=IM h;have sets:=zl5 sg
 have lc:=DB (b:=AD 0) (me:=RK) T.str (λx=>.int ((CB M.ws x).getD 0+1:Nat)) (λτ=>∃x,τ=[x,some (BC M)]) d.n [none,some (BC M)] ⟨none,rfl⟩ λx hx τ hI=>by
  obtain⟨y,rfl⟩:=hI;obtain⟨j,ej,_⟩:=HS (D.n x hx);have en:JD [BC M,.str x]=some (.ok (.int (j+1))):=Xv h ej;refine⟨[some (.str x),some (BC M)],by simp![],?_,_,rfl⟩
  unfold RK;rw[ej]
  simp![-BQ,Ft,sm,AN _ sm,en,ycc,yci]
 have e1:ED (BP M.ws d.n)=d.n.map λx=>.int ((CB M.ws x).getD 0+1:Nat):=by
  unfold ED BP
  simp_all
 have nl:d.n.length<=100000:=by have:=D.nl;omega
 rw[e1];unfold Ma Ol
 simp![sm,AN _ sm,sets,sg,AG _ sg,Ae,BB,ya1,nl,lc]
def oT(n:Nat):Option Db.Z->T
 |none=>.non
 |some f=>zT n f
theorem CQ(n:Nat)(o:Option Db.Z):(oT n o).sh=true:=by
 cases o with
 |none=>rfl
 |some f=>exact BX n f
theorem EC(n:Nat)(o:Option Db.Z)(b:Bool):Az b (oT n o) .non=some (.bl (b != o.isNone)):=by
 cases o<;>cases b<;>rfl
def A5(L:List (Nat×Nat×Int))(f:Db.Z):Option Db.Z:=Dk.met (L.flatMap Cp) f
theorem aU{d:Nat×Nat×Int}{L:List (Nat×Nat×Int)}:∀K,K<=L.length->E3 (λk=>L.getD k d) K=(L.take K).flatMap Cp
 |0,_=>by rw[List.take_zero];rfl
 |K+1,h=>by
  have hK:K<L.length:=h;show E3 _ K++Cp (L.getD K d)=_;rw[aU K (by omega),yb0 hK,List.flatMap_append,yag,ya0 hK]
  simp
abbrev E5(m:Nat)(L:List (Nat×Nat×Int)):Prop:=∀l∈L,Look m l
theorem YO{m:Nat}{L:List (Nat×Nat×Int)}(hL:E5 m L):Dv.In (m+1) (L.flatMap Cp):=λx hx=>by
 obtain⟨l,hl,hx⟩:=List.mem_flatMap.mp hx;exact QC (hL l hl) x hx
theorem HH{m:Nat}(hm:m<=500){f:Db.Z}(hf:Db.Nar (m+1) f){L:List (Nat×Nat×Int)}(hL:E5 m L):Dw [zT (m+1) f,.lst (L.map An)]=some (.ok (oT (m+1) (A5 L f))):=by
 have h:=mt_ok (K:=L.length) hm hf (l:=λk=>L.getD k (0,0,0)) λk hk=>by
  rw[yag,ya0 hk];exact hL _ (yat hk)
 rw[aU _ (ya8 _),ybw]at h
 have e:(mT L.length λk=>An (L.getD k (0,0,0)))=L.map An:=Eq.symm (Ey (ya1 _) λi hi=>by
  rw[ya7,ya0 hi,yag,ya0 hi]
  rfl)
 rw[e]at h;unfold A5;cases q:Dk.met (L.flatMap Cp) f with
 |none=>exact h.2 q
 |some g=>exact h.1 g q
theorem J8{m:Nat}{f:Db.Z}(hf:Db.Nar (m+1) f){L:List (Nat×Nat×Int)}(hL:E5 m L){g:Db.Z}(e:A5 L f=some g):Db.Nar (m+1) g:=((Dk.met_ok _ f hf (YO hL)).1 g e).1
open Classical in
def Bl(n:Nat)(f:Db.Z):Option Db.Z:=if Db.Sound n f then some (Db.fw f n) else none
theorem OU{n:Nat}(hn:n<=100000)(f:Db.Z):F8 [zT n f]=some (.ok (oT n (Bl n f))):=by
 obtain⟨h1,h2⟩:=znq hn f;unfold Bl;split
 .exact h1 ‹_›
 .exact h2 ‹_›
theorem Xk{n:Nat}{f g:Db.Z}(e:Bl n f=some g):Db.Nar n g:=by
 unfold Bl at e;split at e
 .cases e;exact Db.nar ‹_›
 .cases e
open Classical in
def EK(n:Nat)(f g:Db.Z):Bool:=decide (∀i j,i<n->j<n->Db.le (f i j) (g i j))
open Classical in
theorem Ss{n:Nat}(f g:Db.Z):Gd [zT n f,zT n g]=some (.ok (.bl (EK n f g))):=by
 obtain⟨h1,h2⟩:=wi_ok (n:=n) f g;unfold EK
 by_cases h:∀i j,i<n->j<n->Db.le (f i j) (g i j)
 .rw[ye1 h];exact h1 h
 .rw[ydl h];exact h2 h
theorem DZ(L:List (Nat×Nat×Int)):A3 (L.map An)=true:=By λ_ _=>rfl
def Gn(y:Str):Nat:=if y=Str.ofString "<" then 0 else if y=Str.ofString "<=" then 1 else if y=Str.ofString ">" then 2 else if y=Str.ofString ">=" then 3 else 4
theorem NK:∀y∈Bt,Dz (Gn y)=y/\Gn y<5:=by decide +kernel
def B9(ws:List Str)(t:T):Nat×Nat×Int:=((CB ws (FA t)).getD 0+1,Gn (EZ t),E1 t)
theorem OH{ws:List Str}{l:List T}(h:CN ws Bt l):l.map (Et ws)=(l.map (B9 ws)).map An:=by
 rw[ybd];refine ybc λt ht=>?_
 obtain⟨k1,k2,k3,k4⟩:=Lm (h t ht);show Et ws t=An (B9 ws t);unfold Et B9;rw[show An ((CB ws (FA t)).getD 0+1,Gn (EZ t),E1 t)=.tup [.int (((CB ws (FA t)).getD 0+1:Nat):Int),.str (Dz (Gn (EZ t))),.int (E1 t)] from rfl,(NK _ k3).1,yci]
 rfl
theorem Fj{ws:List Str}{l:List T}(h:CN ws Bt l):E5 ws.length (l.map (B9 ws)):=λx hx=>by
 obtain⟨t,ht,rfl⟩:=yac.mp hx;obtain⟨k1,k2,k3,k4⟩:=Lm (h t ht);obtain⟨j,ej,hj,_⟩:=HS k2;refine⟨ycj _,?_,(NK _ k3).2⟩;show(CB ws (FA t)).getD 0+1<_;rw[ej,ycc]
 omega
theorem CN.wd{ws:List Str}{l:List T}(h:CN ws Em l):CN ws Bt l:=λt ht=>by
 obtain⟨x,y,n,e,h1,h2,h3⟩:=h t ht;refine⟨x,y,n,e,h1,?_,h3⟩
 revert y
 have:∀y∈Em,y∈Bt:=by decide +kernel
 exact λy _ h=>this y h
theorem Zj{α:Type}{x:Str}{v:α}:∀{rs:List (Str×α)},(rs.map (·.1)).Nodup->(x,v)∈rs->rs.find? (λq=>decide (q.1=x))=some (x,v)
 |[],_,h=>by cases h
 |a::l,nd,h=>by
  rw[yap,ycg]at nd
  rcases yaf.mp h with rfl|h
  .rw[List.find?_cons_of_pos (by simp)]
  .rw[List.find?_cons_of_neg λz=>nd.1 ?_]
   .exact Zj nd.2 h
   .rw[ye7 z];exact yac.mpr ⟨_,h,rfl⟩
def A7(ws:List Str)(rs:List (Str×List T))(x:Str):List (Nat×Nat×Int):=(((rs.find? λq=>decide (q.1=x)).map (·.2)).getD []).map (B9 ws)
theorem JX{ws:List Str}{rs:List (Str×List T)}(nd:(rs.map (·.1)).Nodup){r:Str×List T}(h:r∈rs):A7 ws rs r.1=r.2.map (B9 ws):=by
 unfold A7;rw[Zj (v:=r.2) nd h]
 rfl
theorem LA{M:Mc}(h:McOk M)(x:Str):E5 M.ws.length (A7 M.ws M.rs x):=by
 unfold A7;cases e:M.rs.find? λq=>decide (q.1=x) with
 |none=>exact λl hl=>by cases hl
 |some r=>exact Fj (h.r.lk r (List.mem_of_find?_eq_some e)).1.wd
abbrev UC:Stmt:=AQ 68
def NP:AJ :=
 (HB 1 (AA 2) (AK Ge (AB (AA 0) (AB (Bz Ao Aq KZ (AA 0) (AB (AA 2) AE)) AE))))
def Oe:AJ :=
 (AH (Cg 1 Fv)
 (AH (BU (Ap (Bz Ao Aq Ek (AA 0) AE)) (AD 2) NP)
 (AU (AA 1))))
def M8:List T->Option Ru:=A4 1 3 Oe
abbrev Yu:Fn:=⟨6,["machine"],M8⟩
abbrev zba:Gx:={ Bw with mt:=[("rooms",Ao,Aq,Ie),("stay",Ao,Aq,Z5)] }
abbrev zbd:Gm:=⟨["machine","stays","room"],(CD UC).names,[],5,[("placed",MF)],[],[],["stays"],[],false,[],[],["stays"],zba⟩
theorem zbi:Ck zbd Yu UC Oe:={}
theorem zmu{M:Mc}(h:McOk M):M8 [BC M]=some (.ok (.osd M.nm (M.nm.map λx=>.own ((A7 M.ws M.rs x).map An)))):=by
 have sm:=IM h;have nd:M.nm.Nodup:=h.r.nd;have l64:=h.r.l64;have ln:M.nm.length=M.rs.length:=ya1 _;have mr:Ek [BC M]=some (.ok (.own (M.nm.map T.str))):=J9 h
 obtain⟨τ,e,y,rfl⟩:=Dg (b:=AD 2) (body:=NP) (ts:=M.nm.map T.str) (τ:=[some (BC M),some (.osd [] []),none]) (λi τ=>∃y,τ=[some (BC M),some (.osd (M.nm.take i) ((M.nm.take i).map λx=>.own ((A7 M.ws M.rs x).map An))),y]) ⟨none,rfl⟩ λi t τ h1 h2=>by
  obtain⟨y,rfl⟩:=h2;have hi:i<M.nm.length:=by simpa using (ya2.mp h1).1
  have hr:i<M.rs.length:=by omega
  rw[ya7,ya0 hi]at h1;have et:=(yal h1).symm;subst et;have en:M.nm[i]=M.rs[i].1:=ybv _;have lk:=h.r.lk _ (yat hr)
  have ms:KZ [BC M,.str M.nm[i]]=some (.ok (.own M.rs[i].2)):=by
   rw[en];exact zkh h hr
  have pl:Ge [BC M,.lst M.rs[i].2]=some (.ok (.own ((A7 M.ws M.rs M.nm[i]).map An))):=by
   rw[en,JX nd (yat hr),<- OH lk.1.wd];exact OI h lk.1.wd (λ_ h=>h) lk.2
  have nk:M.nm[i]∉M.nm.take i:=λz=>by
   obtain⟨j,hj,e⟩:=ybr.mp z;have:=(yb5 nd).mp e
   omega
  have lk2:(M.nm.take i).length<100000:=by rw[yb6];omega
  have sr:=lk.1.sh;refine⟨[some (BC M),some (.osd (M.nm.take i) ((M.nm.take i).map λx=>.own ((A7 M.ws M.rs x).map An))),some (.str M.nm[i])],by simp![],[some (BC M),some (.osd (M.nm.take i++[M.nm[i]]) ((M.nm.take i).map (λx=>.own ((A7 M.ws M.rs x).map An))++[.own ((A7 M.ws M.rs M.nm[i]).map An)])),some (.str M.nm[i])],?_,some (.str M.nm[i]),?_⟩
  .unfold NP;have sl:=DZ (A7 M.ws M.rs M.nm[i]);generalize (A7 M.ws M.rs M.nm[i]).map An=LK at *;generalize M.rs[i].2=RS at *;generalize ((M.nm.take i).map λx=>T.own ((A7 M.ws M.rs x).map An))=V at *
   generalize M.nm[i]=x at *;generalize M.nm.take i=l at *
   simp![-BQ,Ft,sm,AN _ sm,ms,sr,AG _ sr,pl,sl,AG _ sl,yce,ycf,nk,lk2,yeg]
  .rw[yb0 hi,yas]
   rfl
 rw[ya1,ybw]at e;have l1:M.nm.length<=100000:=by omega
 generalize (M.nm.map λx=>T.own ((A7 M.ws M.rs x).map An))=V at *
 unfold M8 Oe
 simp![-BQ,Ft,sm,AN _ sm,mr,BB,Ae,ya1,l1,e]
abbrev Uh:Stmt:=AQ 70
def NT:AJ :=
 (HB 1 (AA 2) (BV AE))
def Kh:AJ :=
 (A2 (m2 BF (Ax B7 Bf 4 (AA 4)) (mC (.str ""))) (AH (AZ (Bj (AB (AA 3) (AB (Ax B7 Bf 1 (AA 4)) (AB (AK Ge (AB (AA 0) (AB (Bz B7 Bf K1 (AA 4) AE) AE))) (AB (AK Ma (AB (AA 0) (AB (AA 4) AE))) AE))))) (AD 5))
 (J0 1 (Ax B7 Bf 0 (AA 4)) (AA 5))) A8)
def PX:AJ :=
 (AH (Cg 1 Fv)
 (AH (BU (Ap (Bz Ao Aq Ek (AA 0) AE)) (AD 2) NT)
 (AH (BU (CV (AB (Bz Ao Aq K0 (AA 0) AE) AE)) (Aj 2 (AM (AD 3) (AM (AD 4) Am))) Kh)
 (AU (AA 1)))))
def Mn:List T->Option Ru:=A4 1 6 PX
abbrev ZR:Fn:=⟨6,["machine"],Mn⟩
abbrev zcp:Gx:={ Bw with cl:=[("Door",B7,Bf)],mt:=[("rooms",Ao,Aq,Ie),("doors",Ao,Aq,Z6),("asks",B7,Bf,Ze)] }
abbrev zcy:Gm:=⟨["machine","told","room","number","door","way"],(CD Uh).names,[],5,[("placed",MF),("nought_places",Yz)],["enumerate"],[],["told"],[],false,[],[],["told"],zcp⟩
theorem zd8:Ck zcy ZR Uh PX:={}
abbrev gK(ws:List Str)(d:Dr):List (Nat×Nat×Int):=d.g.map (B9 ws)
def CK(ws:List Str)(p:Nat×Dr):T:=.tup [.int (p.1:Nat),.str p.2.e,.lst ((gK ws p.2).map An),.lst (ED (BP ws p.2.n))]
def B0(x:Str):Nat->List Dr->List (Nat×Dr)
 |_,[]=>[]
 |k,d::l=>(if d.z=Str.ofString ""/\d.s=x then [(k,d)] else [])++B0 x (k+1) l
theorem Sn(x:Str)(b:List Dr):∀(a:List Dr) (k:Nat),B0 x k (a++b)=B0 x k a++B0 x (k+a.length) b
 |[],k=>rfl
 |d::a,k=>by
  rw[ydj];unfold B0;rw[Sn x b a (k+1),List.append_assoc,show k+1+a.length=k+(d::a).length by rw[yb7];omega]
  cases b<;>rfl
theorem Sl{x:Str}{p:Nat×Dr}:∀{l:List Dr} {k:Nat},p∈B0 x k l->p.2∈l
 |[],_,h=>by cases h
 |d::l,k,h=>by
  unfold B0 at h
  rcases yar.mp h with h|h
  .split at h
   .rw[yaa.mp h];exact .head _
   .cases h
  .exact .tail _ (Sl h)
theorem NJ(x:Str):∀(l:List Dr) (k:Nat),(B0 x k l).length<=l.length
 |[],_=>ya8 _
 |d::l,k=>by
  unfold B0;rw[yaw,yb7];have:=NJ x l (k+1);split<;>simp<;>omega
theorem Ka(ws:List Str)(p:Nat×Dr):(CK ws p).sh=true:=by
 have h1:=L5 (BP ws p.2.n);have h2:=DZ (gK ws p.2);unfold CK;generalize ED (BP ws p.2.n)=A at *;generalize (gK ws p.2).map An=B at *
 simp![h1,h2]
theorem zja{s:Str}{A:Str->List T}{w:T}{l:List Str}{j:Nat}{hj:j<l.length}(e1:l[j]=s)(nd:l.Nodup):(l.map λx=>T.own (A x)).set j (.own (A s++[w]))=l.map λx=>.own (A x++if s=x then [w] else []):=by
 refine List.ext_getElem (by simp) λi h1 h2=>?_
 rw[ybv]
 by_cases q:i=j
 .subst q;rw[List.getElem_set_self,if_pos e1.symm,e1]
 .rw[List.getElem_set_ne (yao q),ybv,if_neg λz=>q ((yb5 nd).mp (z.symm.trans e1.symm)),ybz]
theorem zl6(d:Dr):BQ B7 Bf (BK d)=some [.str d.s,.str d.e,.lst d.g,.lst (d.n.map T.str),.str d.z]:=(show BQ B7 Bf (BK d)=(if B7=B7/\Bf=Bf then some [.str d.s,.str d.e,.lst d.g,.lst (d.n.map T.str),.str d.z] else none) from rfl).trans (if_pos ⟨rfl,rfl⟩)
def Bx(M:Mc)(i:Nat):List T:=M.nm.map λx=>.own ((B0 x 0 (M.ds.take i)).map (CK M.ws))
theorem zgy{M:Mc}{i:Nat}(hi:i<M.ds.length):Bx M (i+1)=M.nm.map λx=>.own ((B0 x 0 (M.ds.take i)).map (CK M.ws)++if M.ds[i].z=Str.ofString ""/\M.ds[i].s=x then [CK M.ws (i,M.ds[i])] else []):=by
 unfold Bx;refine ybc λx _=>?_
 rw[yb0 hi,Sn,yas,yb6,Nat.min_eq_left (by omega)]
 congr 2
 unfold B0;split
 .unfold B0;rw[Nat.zero_add]
  rfl
 .rfl
theorem do_ok{M:Mc}(h:McOk M):Mn [BC M]=some (.ok (.osd M.nm (Bx M M.ds.length))):=by
 have sm:=IM h;have nd:M.nm.Nodup:=h.r.nd;have l64:=h.r.l64;have dl:=h.dl;have ln:M.nm.length=M.rs.length:=ya1 _;have mr:Ek [BC M]=some (.ok (.own (M.nm.map T.str))):=J9 h;have md:K0 [BC M]=some (.ok (.own (M.ds.map BK))):=zkk h;have sd:=h.sd
 obtain⟨τ,e,y,rfl⟩:=Dg (b:=AD 2) (body:=NT) (ts:=M.nm.map T.str) (τ:=[some (BC M),some (.osd [] []),none,none,none,none]) (λi τ=>∃y,τ=[some (BC M),some (.osd (M.nm.take i) ((M.nm.take i).map λ_=>.own [])),y,none,none,none]) ⟨none,rfl⟩ λi t τ h1 h2=>by
  obtain⟨y,rfl⟩:=h2;have hi:i<M.nm.length:=by simpa using (ya2.mp h1).1
  rw[ya7,ya0 hi]at h1;have et:=(yal h1).symm;subst et
  have nk:M.nm[i]∉M.nm.take i:=λz=>by
   obtain⟨j,hj,e⟩:=ybr.mp z;have:=(yb5 nd).mp e
   omega
  have lk:(M.nm.take i).length<100000:=by rw[yb6];omega
  refine⟨[some (BC M),some (.osd (M.nm.take i) ((M.nm.take i).map λ_=>.own [])),some (.str M.nm[i]),none,none,none],by simp![],[some (BC M),some (.osd (M.nm.take i++[M.nm[i]]) ((M.nm.take i).map (λ_=>.own [])++[.own []])),some (.str M.nm[i]),none,none,none],?_,some (.str M.nm[i]),?_⟩
  .unfold NT;generalize M.nm[i]=x at *;generalize M.nm.take i=l at *
   simp![yce,ycf,nk,lk,yeg]
  .rw[yb0 hi,yas]
   rfl
 rw[ya1,ybw,show(M.nm.map λ_=>T.own [])=Bx M 0 by unfold Bx;rw[List.take_zero];rfl]at e
 have l1:M.nm.length<=100000:=by omega
 have l2:M.ds.length<=100000:=by omega
 obtain⟨τ,e2,y3,y4,y5,rfl⟩:=Dg (b:=Aj 2 (AM (AD 3) (AM (AD 4) Am))) (body:=Kh) (ts:=EI 0 (M.ds.map BK)) (τ:=[some (BC M),some (.osd M.nm (Bx M 0)),y,none,none,none]) (λi τ=>∃y3 y4 y5,τ=[some (BC M),some (.osd M.nm (Bx M i)),y,y3,y4,y5]) ⟨_,_,_,rfl⟩ λi t τ h1 h2=>by
  obtain⟨y3,y4,y5,rfl⟩:=h2
  have hi:i<M.ds.length:=by
   have:=(ya2.mp h1).1;rw[MP,ya1]at this;exact this
  have hd:=yat hi;rw[Qp _ 0 i (BK M.ds[i]) (by rw[ya7,ya0 hi];rfl),Nat.zero_add]at h1
  have et:=(yal h1).symm;subst et;have ws:=zgy hi;have D:=h.d _ hd;have sdd:(BK M.ds[i]).sh=true:=Jw D;have sg:A3 M.ds[i].g=true:=D.g.sh
  have pl:Ge [BC M,.lst M.ds[i].g]=some (.ok (.own ((gK M.ws M.ds[i]).map An))):=by
   unfold gK;rw[<- OH D.g];exact OI h D.g (λ_ h=>h) D.gl
  have np:=np_ok h hd;have da:K1 [BK M.ds[i]]=some (.ok (.own M.ds[i].g)):=zl7 sg;obtain⟨j,ej,hj,e1⟩:=HS (ws:=M.nm) (x:=M.ds[i].s) D.s;have zq:BF (.str M.ds[i].z) (.str "")=some (.bl (decide (M.ds[i].z=Str.ofString ""))):=Ef (LD D.z) Zv;have di:=zl6 M.ds[i]
  have b2:Aj 2 (AM (AD 3) (AM (AD 4) Am)) (.tup [.int (i:Nat),BK M.ds[i]]) [some (BC M),some (.osd M.nm (Bx M i)),y,y3,y4,y5]=some [some (BC M),some (.osd M.nm (Bx M i)),y,some (.int (i:Nat)),some (BK M.ds[i]),y5]:=by
   generalize BK M.ds[i]=DD at *
   simp![sdd,AN _ sdd]
  refine⟨_,b2,?_⟩
  by_cases z:M.ds[i].z=Str.ofString ""
  .rw[ye1 z]at zq
   have ow:GX (Bx M i) j=some ((B0 M.ds[i].s 0 (M.ds.take i)).map (CK M.ws)):=by
    unfold GX Bx;rw[ya7,ya0 hj,e1]
    rfl
   have ll:((B0 M.ds[i].s 0 (M.ds.take i)).map (CK M.ws)).length<100000:=by
    have:=NJ M.ds[i].s (M.ds.take i) 0;rw[yb6]at this;rw[ya1]
    omega
   have so:=zja (A:=λx=>(B0 x 0 (M.ds.take i)).map (CK M.ws)) (w:=CK M.ws (i,M.ds[i])) (hj:=hj) e1 nd
   have ws:Bx M (i+1)=(Bx M i).set j (.own ((B0 M.ds[i].s 0 (M.ds.take i)).map (CK M.ws)++[CK M.ws (i,M.ds[i])])):=by
    rw[ws];unfold Bx;refine(ybc λx _=>?_).trans so.symm
    simp only[eq_true z,true_and]
   have sn:=L5 (BP M.ws M.ds[i].n);have sk:=DZ (gK M.ws M.ds[i]);refine⟨[some (BC M),some (.osd M.nm (Bx M (i+1))),y,some (.int (i:Nat)),some (BK M.ds[i]),some (CK M.ws (i,M.ds[i]))],?_,_,_,_,rfl⟩;rw[ws];generalize (B0 M.ds[i].s 0 (M.ds.take i)).map (CK M.ws)=WL at *;unfold CK;unfold Kh;simp only at *;generalize ED (BP M.ws M.ds[i].n)=N at *;generalize (gK M.ws M.ds[i]).map An=G at *;generalize BK M.ds[i]=DD at *;generalize M.ds[i].g=DG at *;generalize Bx M i=L at *
   simp![-BQ,-GX,Ft,di,sm,AN _ sm,sdd,AN _ sdd,zq,da,sg,AG _ sg,pl,np,sn,AG _ sn,sk,AG _ sk,ej,ow,ll,yce,ycf]
  .rw[ydl z]at zq
   have ws:Bx M (i+1)=Bx M i:=by
    rw[ws];unfold Bx;refine ybc λx _=>?_
    rw[if_neg (λq=>z q.1),ybz]
   refine⟨[some (BC M),some (.osd M.nm (Bx M i)),y,some (.int (i:Nat)),some (BK M.ds[i]),y5],?_,_,_,_,by rw[ws]⟩
   unfold Kh;generalize BK M.ds[i]=DD at *;generalize Bx M i=L at *
   simp![-BQ,di,sdd,AN _ sdd,zq]
 rw[MP,ya1]at e2;generalize Bx M M.ds.length=L2 at *;generalize Bx M 0=L0 at *;unfold Mn PX;generalize M.ds.map BK=DS at *
 simp![-BQ,Ft,sm,AN _ sm,mr,md,BB,Ae,sd,AG _ sd,ya1,l1,e,CV,e2]
abbrev Tw:Stmt:=AQ 12
def O9:AJ :=
 (AU (m2 (C1 λi j=>decide (i<j)) (m2 CH (AO (AA 0) (mC (.int 0))) (AO (AA 1) (mC (.int 1)))) (m2 CH (AO (AA 1) (mC (.int 0))) (AO (AA 0) (mC (.int 1))))))
def Hi:List T->Option Ru:=A4 2 2 O9
abbrev Q0:Fn:=⟨1,["one","other"],Hi⟩
abbrev zi1:Gm:=gA ["one","other"] Tw 0 [] []
theorem zif:Ck zi1 Q0 Tw O9:={}
theorem Kp{a b c d:Int}(h1:Bi a d=true)(h2:Bi c b=true):Hi [fr a b,fr c d]=some (.ok (.bl (decide (a * d<c * b)))):=by
 unfold Hi O9
 simp![h1,h2]
abbrev Uc:Stmt:=AQ 9
def Hz:AL :=
 (m2 Cz (AA 3) (mC (.int 0)))
def NS:AJ :=
 (AH (AZ (m2 BA (AA 2) (AA 3)) (AD 4))
 (AH (AZ (AA 3) (AD 2))
 (AZ (AA 4) (AD 3))))
def PN:AJ :=
 (AH (AZ (m1 Im (AA 0)) (AD 2))
 (AH (AZ (m1 Im (AA 1)) (AD 3))
 (AH (Fh Hz NS)
 (AU (AA 2)))))
def Ml:List T->Option Ru:=A4 2 5 PN
abbrev ZP:Fn:=⟨1,["one","other"],Ml⟩
abbrev zab:Gm:=gA ["one","other","greater","lesser","rest"] Uc 0 [] ["abs"]
theorem zae:Ck zab ZP Uc PN:={}
theorem gd_ok(a b:Int):Ml [.int a,.int b]=some (.ok (.int (Zm.gd a b))):=by
 have loop:=zjc (mc:=Hz) (body:=NS)
  (λτ=>∃(g l:Int) (r:Option T),τ=[some (.int a),some (.int b),some (.int g),some (.int l),r]/\0<=g/\0<=l/\Zm.gd g l=Zm.gd a b)
  (λτ=>match τ with|[_,_,_,some (.int l),_]=>l.natAbs|_=>0)
  ⟨_,_,none,rfl,by split<;>omega,by split<;>omega,Zm.gd_abs a b⟩ (by
   rintro τ ⟨g,l,r,rfl,hg,hl,e⟩
   by_cases h0:l=0
   .right;exact⟨false,by unfold Hz;simp![IJ,h0]⟩
   .left;refine⟨false,by unfold Hz;simp![IJ];simp[h0],[some (.int a),some (.int b),some (.int l),some (.int (g.fmod l)),some (.int (g.fmod l))],by unfold NS;simp![h0],⟨_,_,_,rfl,hl,?_,?_⟩,?_⟩
    .exact yb8 g (by omega)
    .exact Zm.gd_turn e
    .exact Zm.fmod_less g h0)
 obtain⟨τ',e1,⟨g,l,r,rfl,hg,hl,e⟩,bb,e2⟩:=loop
 have hl0 :=by
  have e3:Hz [some (.int a),some (.int b),some (.int g),some (.int l),r]=some (.v (.bl (!(l == 0))) false):=by unfold Hz;simp![IJ]
  rw[e3]at e2;exact(by simpa using e2:l=0/\bb=false).1
 have hgd:g=Zm.gd a b:=by
  rw[<- e,hl0];unfold Zm.gd;rw[Int.gcd_zero_right]
  omega
 unfold Ml PN
 simp![e1]
 rw[hgd]
abbrev Ue:Stmt:=AQ 10
def PU:AJ :=
 (AH (A2 (Bo (BE (AK KP (AB (AA 0) AE))) (BE (AK KP (AB (AA 1) AE)))) (CY "NoNumber" (AB (mC (.str "a fraction is made of two whole numbers")) AE)) A8)
 (AH (A2 (m2 BF (AA 1) (mC (.int 0))) (CY "NoNumber" (AB (mC (.str "the bottom of a fraction is not 0")) AE)) A8)
 (AH (AZ (AK Ml (AB (AA 0) (AB (AA 1) AE))) (AD 2))
 (AH (A2 (m2 (C1 λi j=>decide (i<j)) (AA 1) (mC (.int 0))) (AZ (m1 FU (AA 2)) (AD 2)) A8)
 (AU (Bj (AB (m2 CW (AA 0) (AA 2)) (AB (m2 CW (AA 1) (AA 2)) AE))))))))
def Mm:List T->Option Ru:=A4 2 3 PU
abbrev ZQ:Fn:=⟨2,["top","bottom"],Mm⟩
abbrev zdq:Gm:=gA ["top","bottom","divisor"] Ue 1 [("is_whole",Q7),("greatest_divisor",ZP)] [] (ex:=["NoNumber"])
theorem ze3:Ck zdq ZQ Ue PU:={}
theorem fr_ok{t b:Int}(hb:0<b)(hs:b<10 ^ 70):Mm [.int t,.int b]=some (.ok (fr (Zm.lt t b) (Zm.lb t b))):=by
 have g0:0<Zm.gd t b:=Zm.gd_pos (by omega)
 have g1:Zm.gd t b<=b:=Zm.gd_le hb;have gs :=Dn (by omega) (by omega (config:={}))
 have n0:(b == 0)=false:=by omega
 have n1:decide (b<0)=false:=by omega
 have n2:(Zm.gd t b≠0)=True:=by omega
 unfold Mm PU
 simp![zf6,gd_ok,Cr,n0,n1,gs,n2]
 rfl
abbrev UR:Stmt:=AQ 11
def Ou:AJ :=
 (AU (AK Mm (AB (m2 Fd (m2 CH (AO (AA 0) (mC (.int 0))) (AO (AA 1) (mC (.int 1)))) (m2 CH (AO (AA 1) (mC (.int 0))) (AO (AA 0) (mC (.int 1))))) (AB (m2 CH (AO (AA 0) (mC (.int 1))) (AO (AA 1) (mC (.int 1)))) AE))))
def KN:List T->Option Ru:=A4 2 2 Ou
abbrev ZE:Fn:=⟨3,["one","other"],KN⟩
abbrev zi2:Gm:=gA ["one","other"] UR 2 [("fraction",ZQ)] []
theorem zig:Ck zi2 ZE UR Ou:={}
theorem zhs{a b c d:Int}(hb:0<b)(hd:0<d)(h1:Bi a d=true)(h2:Bi c b=true)(h3:Bi b d=true)(hs:b * d<10 ^ 70):KN [fr a b,fr c d]=some (.ok (fr (Zm.lt (a * d - c * b) (b * d)) (Zm.lb (a * d - c * b) (b * d)))):=by
 unfold KN Ou
 simp![h1,h2,h3,fr_ok (t:=a * d - c * b) (Int.mul_pos hb hd) hs]
abbrev UX:Stmt:=AQ 20
def Ow:AJ :=
 (AH (A2 (m2 (Az false) (AA 0) (mC .non)) (AU (mC (.bl true))) A8)
 (AH (AZ (Bj (AB (AK Ir (AB (AA 0) AE)) (AB (mC (.int 1)) AE))) (AD 2))
 (AH (A2 (AK Iw (AB (AA 0) AE)) (AU (AK Hi (AB (AA 1) (AB (AA 2) AE)))) A8)
 (AU (BE (AK Hi (AB (AA 2) (AB (AA 1) AE))))))))
def KO:List T->Option Ru:=A4 2 3 Ow
abbrev ZI:Fn:=⟨2,["bound","value"],KO⟩
abbrev zky:Gm:=gA ["bound","value","edge"] UX 1 [("number_of",Q4),("is_open",Qa),("under",Q0)] []
theorem zlb:Ck zky ZI UX Ow:={}
theorem zko{c:Db.B}{t b:Int}(hm:∀x,c=some x->Bi (x / 2) b=true):KO [bT c,fr t b]=some (.ok (.bl (Db.satB b c t))):=by
 unfold KO Ow;cases c with
 |none=>simp![Db.satB]
 |some c =>
  have m1:Bi t 1=true:=IK (Ci (by decide) (by decide))
  have m2:=hm c rfl;have m3:Bi (c / 2) b=true:=m2;have e0:c % 2=0\/c % 2=1:=by omega
  have u1:=Kp (a:=t) (b:=b) (c:=c / 2) (d:=1) m1 m2;have u2:=Kp (a:=c / 2) (b:=1) (c:=t) (d:=b) m2 m1
  rcases e0 with e|e
  .simp![OX,QL,e,u1]
   show _=Ru.ok (.bl (decide (t<=c / 2 * b - 1+c % 2)));rw[e,ydb]
   congr 2
   rw[decide_eq_decide]
   omega
  .simp![OX,QL,e,show((1:Int) == 0)=false from rfl,u2]
   show _=Ru.ok (.bl (decide (t<=c / 2 * b - 1+c % 2)));rw[e,ydb]
   congr 2
   rw[<- decide_not,decide_eq_decide]
   omega
abbrev UU:Stmt:=AQ 51
def NQ:AJ :=
 (A2 (BE (AK KO (AB (AA 6) (AB (AK KN (AB (AO (AA 2) (AA 3)) (AB (AO (AA 2) (AA 5)) AE))) AE)))) (AU (mC (.bl false))) A8)
def Kg:AJ :=
 (BU (CV (AB (AA 4) AE)) (Aj 2 (AM (AD 5) (AM (AD 6) Am))) NQ)
def L9:AJ :=
 (AH (AZ (m2 BI (BV (Ay (Bj (AB (mC (.int 0)) (AB (mC (.int 1)) AE))) AE)) (AA 1)) (AD 2))
 (AH (BU (CV (AB (AA 0) AE)) (Aj 2 (AM (AD 3) (AM (AD 4) Am))) Kg)
 (AU (mC (.bl true)))))
def Hl:List T->Option Ru:=A4 2 7 L9
abbrev ZG:Fn:=⟨4,["zone","values"],Hl⟩
abbrev zeg:Gm:=gA ["zone","values","told","i","row","j","bound"] UU 3 [("lets",ZI),("minus",ZE)] ["enumerate"]
theorem zet:Ck zeg ZG UU L9:={}
structure Szv(n:Nat)(p:Nat->Int×Int)(f:Db.Z):Prop where
 pos:∀i,i<n->0<(p i).2
 mul:∀i j,i<n->j<n->Bi (p i).1 (p j).2=true/\Bi (p i).2 (p j).2=true/\(p i).2 * (p j).2<10 ^ 70
 num:∀i j c,i<n->j<n->f i j=some c->∀b,0<b->b<=(p i).2 * (p j).2->Bi (c / 2) b=true
theorem li_ok{m:Nat}(hm:m<=1000){f:Db.Z}{v:Nat->Int×Int}(hz:Szv (m+1) (Gk v) f){D:Int}{X:Nat->Int}(hD:0<D)(hX:∀i,i<m+1->X i * (Gk v i).2=(Gk v i).1 * D) :
  (Db.Lie (m+1) D X f->Hl [zT (m+1) f,vT m v]=some (.ok (.bl true)))/\(¬ Db.Lie (m+1) D X f->Hl [zT (m+1) f,vT m v]=some (.ok (.bl false))):=by
 generalize hp:Gk v=p at *;have hc:(fr 0 1)::mT m (λi=>fr (v i).1 (v i).2)=mT (m+1) λi=>fr (p i).1 (p i).2:=by rw[ziu,hp]
 have key:∀i j,i<m+1->j<m+1->∃t b,KN [fr (p i).1 (p i).2,fr (p j).1 (p j).2]=some (.ok (fr t b))/\KO [bT (f i j),fr t b]=some (.ok (.bl (Db.satB b (f i j) t)))/\(Db.sat b (f i j) t ↔ Db.sat D (f i j) (X i - X j)):=by
  intro i j hi hj;have bi:=hz.pos i hi;have bj:=hz.pos j hj;have q0:=Int.mul_pos bi bj;refine⟨_,_,zhs bi bj (hz.mul i j hi hj).1 (hz.mul j i hj hi).1 (hz.mul i j hi hj).2.1 (hz.mul i j hi hj).2.2,zko λx e=>hz.num i j x hi hj e _ (Zm.lb_pos q0) (Zm.lb_le q0),?_⟩
  refine Db.sat_scale (Zm.lb_pos q0) hD ?_ _;have e1:=Zm.lt_mul (t:=(p i).1 * (p j).2 - (p j).1 * (p i).2) (show(p i).2 * (p j).2≠0 by omega)
  have e2:=Zm.lb_mul (t:=(p i).1 * (p j).2 - (p j).1 * (p i).2) (show(p i).2 * (p j).2≠0 by omega)
  have g0:=Zm.gd_pos (a:=(p i).1 * (p j).2 - (p j).1 * (p i).2) (show(p i).2 * (p j).2≠0 by omega)
  have x1:=hX i hi;have x2:=hX j hj;generalize Zm.lt ((p i).1 * (p j).2 - (p j).1 * (p i).2) ((p i).2 * (p j).2)=T1 at *;generalize Zm.lb ((p i).1 * (p j).2 - (p j).1 * (p i).2) ((p i).2 * (p j).2)=B1 at *;generalize Zm.gd ((p i).1 * (p j).2 - (p j).1 * (p i).2) ((p i).2 * (p j).2)=G at *;refine Int.eq_of_mul_eq_mul_right (show G≠0 by omega) ?_
  rw[yau (X i - X j),e2,yau T1,ybn D G,<- yau T1,e1,Int.sub_mul,Int.sub_mul];have y1:X i * ((p i).2 * (p j).2)=(p i).1 * (p j).2 * D:=by rw[<- yau,x1,yau,ybn D,<- yau]
  have y2:X j * ((p i).2 * (p j).2)=(p j).1 * (p i).2 * D:=by rw[ybn (p i).2,<- yau,x2,yau,ybn D,<- yau]
  rw[y1,y2]
 have l1:1+m<=100000:=by omega
 have loop:=Ic (b:=Aj 2 (AM (AD 3) (AM (AD 4) Am))) (body:=Kg) (n:=m+1) (g:=λi=>.tup [.int (i:Int),rT (m+1) (f i)]) (τ:=[some (zT (m+1) f),some (vT m v),some (vT (m+1) p),none,none,none,none]) (λi=>∀j,j<m+1->Db.sat D (f i j) (X i - X j)) (.bl false)
  (λi τ=>∃x y z w,τ=[some (zT (m+1) f),some (vT m v),some (vT (m+1) p),x,y,z,w]) ⟨none,none,none,none,rfl⟩ (by
   rintro i τ hi - ⟨x,y,z,w,rfl⟩;refine⟨_,by simp![];rfl,?_⟩
   have loop2:=Ic (b:=Aj 2 (AM (AD 5) (AM (AD 6) Am))) (body:=NQ) (n:=m+1) (g:=λj=>.tup [.int (j:Int),bT (f i j)]) (τ:=[some (zT (m+1) f),some (vT m v),some (vT (m+1) p),some (.int (i:Int)),some (rT (m+1) (f i)),z,w]) (λj=>Db.sat D (f i j) (X i - X j)) (.bl false)
    (λj τ=>∃z w,τ=[some (zT (m+1) f),some (vT m v),some (vT (m+1) p),some (.int (i:Int)),some (rT (m+1) (f i)),z,w]) ⟨z,w,rfl⟩ (by
     rintro j τ hj - ⟨z,w,rfl⟩;refine⟨_,by simp![];rfl,?_⟩
     obtain⟨t,b,k1,k2,k3⟩:=key i j hi hj;unfold NQ
     by_cases h:Db.sat D (f i j) (X i - X j)
     .left;rw[Db.satB_iff.mpr (k3.mpr h)]at k2;exact⟨h,_,.inl (by simp![CI hi,CI hj,k1,k2];rfl),_,_,rfl⟩
     .right
      have k4:Db.satB b (f i j) t=false:=by
       cases q:Db.satB b (f i j) t with
       |false=>rfl
       |true=>exact absurd (k3.mp (Db.satB_iff.mp q)) h
      rw[k4]at k2;exact⟨h,by simp![CI hi,CI hj,k1,k2]⟩)
   rcases loop2 with ⟨h,τ',e,z,w,rfl⟩|⟨⟨j,hj,h⟩,e⟩
   .left;refine⟨h,_,.inl ?_,some (.int (i:Int)),some (rT (m+1) (f i)),z,w,rfl⟩;unfold Kg
    simp![CV,Ga,e]
   .right;refine⟨λq=>h (q j hj),?_⟩
    unfold Kg
    simp![CV,Ga,e])
 rcases loop with ⟨h,τ',e,x,y,z,w,rfl⟩|⟨⟨i,hi,h⟩,e⟩
 .refine⟨λ_=>?_,λq=>absurd (λi j hi hj=>h i hi j hj) q⟩
  unfold Hl L9
  simp![CV,Ga,l1,hc,e]
 .refine⟨λq=>absurd (λj hj=>q i j hi hj) h,λ_=>?_⟩
  unfold Hl L9
  simp![CV,Ga,l1,hc,e]
abbrev Tz:Stmt:=AQ 27
def Oa:AJ :=
 (AH (AZ (Bj (AB (AA 2) (AB (mC (.int 1)) AE))) (AD 3))
 (AH (AZ (AK Hi (AB (AA 0) (AB (AA 3) AE))) (AD 4))
 (AH (AZ (AK Hi (AB (AA 3) (AB (AA 0) AE))) (AD 5))
 (AH (A2 (m2 BF (AA 1) (mC (.str "<"))) (AU (AA 4)) A8)
 (AH (A2 (m2 BF (AA 1) (mC (.str "<="))) (AU (BE (AA 5))) A8)
 (AH (A2 (m2 BF (AA 1) (mC (.str ">"))) (AU (AA 5)) A8)
 (AH (A2 (m2 BF (AA 1) (mC (.str ">="))) (AU (BE (AA 4))) A8)
 (AU (CU (BE (AA 4)) (BE (AA 5)))))))))))
def M7:List T->Option Ru:=A4 3 6 Oa
abbrev Yt:Fn:=⟨2,["value","word","number"],M7⟩
abbrev zct:Gm:=gA ["value","word","number","edge","less","more"] Tz 1 [("under",Q0)] []
theorem zd3:Ck zct Yt Tz Oa:={}
abbrev Ub:Stmt:=AQ 58
def R7:AL :=
 (AK M7 (AB (AO (AA 3) (m2 Fd (AA 0) (mC (.int 1)))) (AB (AA 1) (AB (AA 2) AE))))
def PM:AJ :=
 (AU (m1 Di (BD 3 [1] (Ap (AA 0)) (Aj 3 (AM (AD 0) (AM (AD 1) (AM (AD 2) Am)))) (mC (.bl true)) R7)))
def Mj:List T->Option Ru:=A4 2 2 PM
abbrev ZO:Fn:=⟨3,["looks","values"],Mj⟩
abbrev zi3:Gm:=gA ["looks","values"] Ub 2 [("stands_so",Yt)] ["all"] [] ["values"]
theorem zih:Ck zi3 ZO Ub PM:={}
def zB(l:Nat×Nat×Int):Bool:=match l.2.1 with
 |0=>decide (0<l.2.2)
 |1=>decide (0<=l.2.2)
 |2=>decide (l.2.2<0)
 |3=>decide (l.2.2<=0)
 |_=>decide (l.2.2=0)
theorem so0{w:Nat}(hw:w<5)(p:Nat)(n:Int):M7 [fr 0 1,.str (Dz w),.int n]=some (.ok (.bl (zB (p,w,n)))):=by
 obtain⟨s0,s1,s2,s3,s4⟩:=Sw hw;have m1:Bi 0 1=true:=IK (Ci (by decide) (by decide))
 have m2:Bi n 1=true:=IK (Ci (by decide) (by decide))
 have u1:=Kp (a:=0) (b:=1) (c:=n) (d:=1) m1 m2;have u3:=Kp (a:=n) (b:=1) (c:=0) (d:=1) m2 m1;rw[ydb,ydb]at u1 u3;unfold M7 Oa;have:w=0\/w=1\/w=2\/w=3\/w=4:=by omega
 by_cases a:(0:Int)<n
 .have b:¬ n<0:=by omega
  have c:(0:Int)<=n:=by omega
  have d:¬ n<=0:=by omega
  have e:¬ n=0:=by omega
  rcases this with rfl|rfl|rfl|rfl|rfl<;>simp![s0,s1,s2,s3,s4,u1,u3,zB,a,b,c,d,e]
 .by_cases b:n<0
  .have c:¬ (0:Int)<=n:=by omega
   have d:n<=0:=by omega
   have e:¬ n=0:=by omega
   rcases this with rfl|rfl|rfl|rfl|rfl<;>simp![s0,s1,s2,s3,s4,u1,u3,zB,a,b,c,d,e]
  .have e:n=0:=by omega
   subst e
   rcases this with rfl|rfl|rfl|rfl|rfl<;>simp![s0,s1,s2,s3,s4,u1,u3,zB]<;>rfl
theorem GD{α:Type}(f:α->Bool):∀L:List α,FG (L.map λx=>T.bl (f x))=some (L.map f)
 |[]=>rfl
 |x::L=>by
  rw[yap,yap];unfold FG;rw[GD f L]
theorem Gc{α:Type}(f:α->Bool)(L:List α):BS (L.map λx=>T.bl (f x))=L.map λx=>T.bl (f x):=by
 rw[EA,ybd]
 rfl
theorem KE{α:Type}(f:α->Bool)(L:List α):(L.map f).all id=L.all f:=by rw[List.all_map];rfl
theorem bL{α:Type}(f:α->Bool)(L:List α):(L.map f).any id=L.any f:=by rw[List.any_map];rfl
theorem hd0{m:Nat}{L:List (Nat×Nat×Int)}(hL:E5 m L)(hn:L.length<=1000){V:List T}(hV:V=(List.range m).map λ_=>fr 0 1):Mj [.lst (L.map An),.lst V]=some (.ok (.bl (L.all zB))):=by
 have vsh:A3 V=true:=by
  rw[hV];exact By λ_ _=>rfl
 have lc:=DB (b:=Aj 3 (AM (AD 0) (AM (AD 1) (AM (AD 2) Am)))) (me:=R7) An (λl=>.bl (zB l)) (λτ=>∃x y z,τ=[x,y,z,some (.lst V)]) L [none,none,none,some (.lst V)] ⟨none,none,none,rfl⟩ λl hl τ hI=>by
  obtain⟨x,y,z,rfl⟩:=hI;obtain⟨p,w,n⟩:=l;obtain⟨h1,h2,h3⟩:=hL _ hl;have h1:0<p:=h1;have h2:p<m+1:=h2;have so:=so0 h3 p n
  have ax:Ag V ((p:Int) - 1)=some (fr 0 1):=by
   rw[hV,show(p:Int) - 1=((p - 1:Nat):Int) by omega]
   exact Hb (by rw[ya7,List.getElem?_range (by omega)];rfl)
  refine⟨[some (.int (p:Nat)),some (.str (Dz w)),some (.int n),some (.lst V)],by simp![],?_,_,_,_,rfl⟩
  unfold R7
  simp![ax,so,vsh]
 have l1:L.length<=100000:=by omega
 have ps:=DZ L;have ba:=GD zB L;have ea:=KE zB L;have es:=Gc zB L;have ll:(L.map An).length<=100000:=by rw[ya1];omega
 generalize L.map An=LL at *;unfold Mj PM
 simp![ps,AG _ ps,vsh,AG _ vsh,ll,lc,es,ba,ea]
abbrev UQ:Stmt:=AQ 73
def QN:AL :=
 (m2 BF (AA 0) (AA 2))
def RR:AL :=
 (AK F8 (AB (AA 1) AE))
def QM:AL :=
 (m2 (Az true) (AA 0) (mC .non))
def RQ:AL :=
 (AA 0)
def Ot:AJ :=
 (AH (AZ (BD 2 [1] (Ap (AA 0)) (Aj 2 (AM (AD 0) (AM (AD 1) Am))) QN RR) (AD 2))
 (AU (BD 1 [] (Ap (AA 2)) (AD 0) QM RQ)))
def Md:List T->Option Ru:=A4 2 3 Ot
abbrev ZD:Fn:=⟨4,["paper","room"],Md⟩
abbrev zak:Gm:=gA ["paper","room","told"] UQ 3 [("narrowest",MH)] [] [] ["room"]
theorem zap:Ck zak ZD UQ Ot:={}
abbrev AS(n:Nat)(p:Str×Db.Z):T:=.tup [.str p.1,zT n p.2]
def AX(n:Nat)(P:List (Str×Db.Z))(x:Str):List Db.Z:=(P.filter λp=>decide (p.1=x)).filterMap λp=>Bl n p.2
theorem HD(n:Nat)(P:List (Str×Db.Z)):A3 (P.map (AS n))=true:=By λp _=>by
 have:=BX n p.2;generalize zT n p.2=Z at *
 simp![this]
theorem Dy(n:Nat)(L:List Db.Z):A3 (L.map (zT n))=true:=By λf _=>BX n f
theorem L1(n:Nat):∀l:List (Option Db.Z),(l.filter (·.isSome)).map (oT n)=(l.filterMap id).map (zT n)
 |[]=>rfl
 |none::l=>L1 n l
 |some f::l=>congrArg (zT n f::·) (L1 n l)
theorem nz_ok{n:Nat}(hn:n<=1000){P:List (Str×Db.Z)}(ht:∀p∈P,PyData.strOk p.1=true)(hl:P.length<=1000){r:Str}(hr:PyData.strOk r=true):Md [.lst (P.map (AS n)),.str r]=some (.ok (.own ((AX n P r).map (zT n)))):=by
 have sp:=HD n P
 have lc:=IQ (b:=Aj 2 (AM (AD 0) (AM (AD 1) Am))) (mt:=QN) (me:=RR) (AS n) (λp=>oT n (Bl n p.2)) (λp=>decide (p.1=r)) (λτ=>∃x y,τ=[x,y,some (.str r)]) P [none,none,some (.str r)] ⟨_,_,rfl⟩ λp hp τ hI=>by
  obtain⟨a,b,rfl⟩:=hI;have eq:=Ef (ht p hp) hr;have sZ:=BX n p.2;have nr:=OU (n:=n) (by omega) p.2
  have so:=CQ n (Bl n p.2);generalize oT n (Bl n p.2)=O at *;unfold AS;generalize zT n p.2=Z at *;refine⟨[some (.str p.1),some Z,some (.str r)],false,by simp![sZ,AN _ sZ],?_,λ_=>?_,_,_,rfl⟩
  .unfold QN
   simp![eq]
  .unfold RR
   simp![sZ,AN _ sZ,nr,so,AN _ so]
 have EF:=IQ (b:=AD 0) (mt:=QM) (me:=RQ) (oT n) (oT n) (·.isSome) (λτ=>∃x,τ=[x]) ((P.filter λp=>decide (p.1=r)).map λp=>Bl n p.2) [none] ⟨_,rfl⟩ λo ho τ hI=>by
  obtain⟨a,rfl⟩:=hI;have so:=CQ n o;have is:=EC n o true;rw[show(true != o.isNone)=o.isSome by cases o<;>rfl]at is
  generalize oT n o=O at *;refine⟨[some O],false,by simp![so,AN _ so],?_,λ_=>?_,_,rfl⟩
  .unfold QM
   simp![-Az,so,AN _ so,is]
  .unfold RQ
   simp![so,AN _ so]
 have e:((P.filter λp=>decide (p.1=r)).map λp=>Bl n p.2).filterMap id=AX n P r:=by rw[List.filterMap_map];rfl
 rw[L1,e,ybd]at EF;have e3:(List.filter (λp=>decide (p.1=r)) P).map (oT n ∘ λp=>Bl n p.2)=(List.filter (λp=>decide (p.1=r)) P).map λp=>oT n (Bl n p.2):=rfl
 rw[e3]at EF;have s2:A3 ((List.filter (λp=>decide (p.1=r)) P).map λp=>oT n (Bl n p.2))=true:=By λp _=>CQ n _
 have l2:((List.filter (λp=>decide (p.1=r)) P).map λp=>oT n (Bl n p.2)).length<=100000:=by
  rw[ya1];have:=ycb (λp=>decide (p.1=r)) P
  omega
 have l1:(P.map (AS n)).length<=100000:=by rw[ya1];omega
 have sz:=Dy n (AX n P r);generalize (AX n P r).map (zT n)=ZS at *;generalize ((List.filter (λp=>decide (p.1=r)) P).map λp=>oT n (Bl n p.2))=Q at *
 generalize P.map (AS n)=PP at *;unfold Md Ot
 simp![sp,AG _ sp,l1,lc,s2,AG _ s2,l2,EF,sz,AG _ sz]
abbrev Uu:Stmt:=Bm 72 0
def Ri:AL :=
 (Bj (AB (mC (.int 0)) (AB (mC (.int 1)) AE)))
def NW:AJ :=
 (IG Ah Ai 4 0 (AA 3) (AK Md (AB (AA 2) (AB (AA 3) AE))))
def Ld:AJ :=
 (AH (Cu Ah Ai 0 0 (AO (Bz Ao Aq Ek (AA 1) AE) (mC (.int 0))))
 (AH (Cu Ah Ai 1 0 (BD 1 [] (Ap (Bz Ao Aq JC (AA 1) AE)) (AD 0) (mC (.bl true)) Ri))
 (AH (Cu Ah Ai 2 0 (AK M8 (AB (AA 1) AE)))
 (AH (Cu Ah Ai 3 0 (AK Mn (AB (AA 1) AE)))
 (AH (Cu Ah Ai 4 0 Fv)
 (BU (Ap (Bz Ao Aq Ek (AA 1) AE)) (AD 3) NW))))))
def SO:List T->Option Ru:=EM Ah Ai 3 4 Ld
abbrev Qg:Fn:=⟨7,["self","machine","paper"],SO⟩
abbrev zc5:Gx:={ Bw with mt:=[("rooms",Ao,Aq,Ie),("watches",Ao,Aq,Qi)],sf:=some (Ah,Ai) }
abbrev zc9:Gm:=gA ["self","machine","paper","room"] Uu 6 [("placed_stays",Yu),("doors_out",ZR),("narrow_zones_of",ZD)] [] (ox:=zc5)
theorem zch:Ck zc9 Qg Uu Ld:={}
theorem JZ{α:Type}(f g:α->T)(h:∀x,(f x).share=g x)(l:List α):BS (l.map f)=l.map g:=by
 rw[EA,ybd];exact ybc λx _=>h x
def En(M:Mc)(x:Str):T:=.lst ((A7 M.ws M.rs x).map An)
def Fg(M:Mc)(x:Str):T:=.lst ((B0 x 0 M.ds).map (CK M.ws))
def C7(M:Mc)(P:List (Str×Db.Z))(x:Str):T:=.lst ((AX (M.ws.length+1) P x).map (zT (M.ws.length+1)))
def E7(M:Mc)(P:List (Str×Db.Z)):List T:=[.str (M.nm.headD ""),.lst (M.ws.map λ_=>fr 0 1),.obj (.sdc M.nm) (M.nm.map (En M)),.obj (.sdc M.nm) (M.nm.map (Fg M)),.obj (.sdc M.nm) (M.nm.map (C7 M P))]
def Ff(M:Mc)(P:List (Str×Db.Z)):T:=.obj (.ins Ah Ai) (E7 M P)
theorem LC(M:Mc)(x:Str):(En M x).sh=true:=by
 have:=DZ (A7 M.ws M.rs x);unfold En;generalize (A7 M.ws M.rs x).map An=L at *
 simp![this]
theorem Tr(M:Mc)(x:Str):(Fg M x).sh=true:=by
 have:A3 ((B0 x 0 M.ds).map (CK M.ws))=true:=By λp _=>Ka _ p
 unfold Fg;generalize (B0 x 0 M.ds).map (CK M.ws)=L at *
 simp![this]
theorem ID(M:Mc)(P:List (Str×Db.Z))(x:Str):(C7 M P x).sh=true:=by
 have:=Dy (M.ws.length+1) (AX (M.ws.length+1) P x);unfold C7;generalize (AX (M.ws.length+1) P x).map (zT (M.ws.length+1))=L at *
 simp![this]
theorem zm1{M:Mc}(h:McOk M){P:List (Str×Db.Z)}(ht:∀p∈P,PyData.strOk p.1=true)(hl:P.length<=1000):SO [BC M,.lst (P.map (AS (M.ws.length+1)))]=some (.ok (Ff M P)):=by
 have sm:=IM h;have nd:M.nm.Nodup:=h.r.nd;have l1:=h.r.l1;have l64:=h.r.l64;have ln:M.nm.length=M.rs.length:=ya1 _;have wl:=h.wl;have mr:Ek [BC M]=some (.ok (.own (M.nm.map T.str))):=J9 h;have mw:JC [BC M]=some (.ok (.own (M.ws.map T.str))):=Xr h;have ps:=zmu h;have dt:=do_ok h;have sp:=HD (M.ws.length+1) P
 obtain⟨a,ha,hb⟩:∃a,Ag (M.nm.map T.str) 0=some (.str a)/\M.nm.headD ""=a:=by
  cases e:M.nm with
  |nil=>rw[e,yc3]at ln;omega
  |cons a r=>exact⟨a,Hb rfl,rfl⟩
 have lc:=DB (b:=AD 0) (me:=Ri) T.str (λ_=>fr 0 1) (λτ=>∃x,τ=[x]) M.ws [none] ⟨none,rfl⟩ λx _ τ hI=>by
  obtain⟨y,rfl⟩:=hI;exact⟨[some (.str x)],by simp![],by unfold Ri;simp![],_,rfl⟩
 have w1:M.ws.length<=100000:=by omega
 have r1:M.nm.length<=100000:=by omega
 have e1:BS (M.ws.map λ_=>fr 0 1)=M.ws.map λ_=>fr 0 1:=JZ _ _ (λ_=>rfl) _
 have e2:BS (M.nm.map λx=>T.own ((A7 M.ws M.rs x).map An))=M.nm.map (En M):=JZ _ _ (λx=>by rw[T.share,AG _ (DZ _)];rfl) _
 have e3:BS (Bx M M.ds.length)=M.nm.map (Fg M):=JZ _ _ (λx=>by rw[ybw,T.share,AG _ (By λp _=>Ka _ p)];rfl) _
 have e4:BS (M.nm.map (C7 M P))=M.nm.map (C7 M P):=JZ _ _ (λx=>AN _ (ID M P x)) _
 refine OA λp=>?_
 have key:∃y,Ld [some (.oob p Ah Ai []),some (BC M),some (.lst (P.map (AS (M.ws.length+1)))),none]=some (.nx [some (.oob p Ah Ai [.str a,.own (M.ws.map λ_=>fr 0 1),.osd M.nm (M.nm.map λx=>.own ((A7 M.ws M.rs x).map An)),.osd M.nm (Bx M M.ds.length),.osd M.nm (M.nm.map (C7 M P))]),some (BC M),some (.lst (P.map (AS (M.ws.length+1)))),y]):=by
  unfold Ld;generalize hw:(M.ws.map λ_=>fr 0 1)=W at *
  generalize (M.nm.map λx=>T.own ((A7 M.ws M.rs x).map An))=SS at *
  generalize Bx M M.ds.length=Y at *
  obtain⟨τ,e,y,rfl⟩:=Dg (b:=AD 3) (body:=NW) (ts:=M.nm.map T.str) (τ:=[some (.oob p Ah Ai [.str a,.own W,.osd M.nm SS,.osd M.nm Y,.osd [] []]),some (BC M),some (.lst (P.map (AS (M.ws.length+1)))),none]) (λi τ=>∃y,τ=[some (.oob p Ah Ai [.str a,.own W,.osd M.nm SS,.osd M.nm Y,.osd (M.nm.take i) ((M.nm.take i).map (C7 M P))]),some (BC M),some (.lst (P.map (AS (M.ws.length+1)))),y]) ⟨none,rfl⟩ λi t τ h1 h2=>by
   obtain⟨y,rfl⟩:=h2;have hi:i<M.nm.length:=by simpa using (ya2.mp h1).1
   rw[ya7,ya0 hi]at h1;have et:=(yal h1).symm;subst et
   have nk:M.nm[i]∉M.nm.take i:=λz=>by
    obtain⟨j,hj,e⟩:=ybr.mp z;have:=(yb5 nd).mp e
    omega
   have lk:(M.nm.take i).length<100000:=by rw[yb6];omega
   have nz:=nz_ok (n:=M.ws.length+1) (by omega) ht hl (h.tn _ (yat hi))
   refine⟨[some (.oob p Ah Ai [.str a,.own W,.osd M.nm SS,.osd M.nm Y,.osd (M.nm.take i) ((M.nm.take i).map (C7 M P))]),some (BC M),some (.lst (P.map (AS (M.ws.length+1)))),some (.str M.nm[i])],by simp![],[some (.oob p Ah Ai [.str a,.own W,.osd M.nm SS,.osd M.nm Y,.osd (M.nm.take i++[M.nm[i]]) ((M.nm.take i).map (C7 M P)++[C7 M P M.nm[i]])]),some (BC M),some (.lst (P.map (AS (M.ws.length+1)))),some (.str M.nm[i])],?_,some (.str M.nm[i]),?_⟩
   .unfold NW;have sz:=Dy (M.ws.length+1) (AX (M.ws.length+1) P M.nm[i]);have ez:C7 M P M.nm[i]=.lst ((AX (M.ws.length+1) P M.nm[i]).map (zT (M.ws.length+1))):=rfl;rw[ez];generalize (AX (M.ws.length+1) P M.nm[i]).map (zT (M.ws.length+1))=ZS at *;generalize (M.nm.take i).map (C7 M P)=V at *;generalize M.nm[i]=x at *;generalize M.nm.take i=l at *;generalize P.map (AS (M.ws.length+1))=PP at *
    simp![sp,AG _ sp,nz,nk,lk,yeg,sz,AG _ sz]
   .rw[yb0 hi,yas]
    rfl
  rw[ya1,ybw]at e;refine⟨y,?_⟩;generalize P.map (AS (M.ws.length+1))=PP at *;refine sq (τ':=[some (.oob p Ah Ai [.str a]),some (BC M),some (.lst PP),none]) (by simp![-BQ,Ft,sm,AN _ sm,mr,ha,BB,Ae]) ?_
  refine sq (τ':=[some (.oob p Ah Ai [.str a,.own W]),some (BC M),some (.lst PP),none]) (by simp![-BQ,Ft,sm,AN _ sm,mw,BB,Ae,ya1,w1,lc]) ?_
  refine sq (τ':=[some (.oob p Ah Ai [.str a,.own W,.osd M.nm SS]),some (BC M),some (.lst PP),none]) (by simp![sm,AN _ sm,ps]) ?_
  refine sq (τ':=[some (.oob p Ah Ai [.str a,.own W,.osd M.nm SS,.osd M.nm Y]),some (BC M),some (.lst PP),none]) (by simp![sm,AN _ sm,dt]) ?_
  refine sq (τ':=[some (.oob p Ah Ai [.str a,.own W,.osd M.nm SS,.osd M.nm Y,.osd [] []]),some (BC M),some (.lst PP),none]) (by simp![]) ?_
  simp![-BQ,Ft,sm,AN _ sm,mr,BB,Ae,ya1,r1,e]
 obtain⟨y,key⟩:=key;unfold Fi;unfold Ff E7;rw[hb];generalize (M.ws.map λ_=>fr 0 1)=W at *
 generalize (M.nm.map λx=>T.own ((A7 M.ws M.rs x).map An))=SS at *
 generalize Bx M M.ds.length=Y at *;generalize M.nm.map (C7 M P)=ZZ at *
 simp![key,e1,e2,e3,e4]
abbrev Uy:Stmt:=Bm 72 1
def Rj:AL :=
 (AK Hl (AB (AA 0) (AB (Ax Ah Ai 1 (AA 1)) AE)))
def Pd:AJ :=
 (AH (A2 (BE (AK Mj (AB (CA (B5 (Ax Ao Aq 1 (AA 0)) (Ax Ah Ai 2 (AA 0))) (Ax Ah Ai 0 (AA 0))) (AB (Ax Ah Ai 1 (AA 0)) AE)))) (AU (mC (.bl true))) A8)
 (AU (m1 Hc (BD 1 [0] (Ap (CA (Ax Ah Ai 4 (AA 0)) (Ax Ah Ai 0 (AA 0)))) (AD 0) (mC (.bl true)) Rj))))
def Mv:List T->Option Ru:=A4 1 1 Pd
abbrev Z3:Fn:=⟨5,["self"],Mv⟩
abbrev za6:Gx:={ Bw with cl:=[("Machine",Ao,Aq),("Sheet",Ah,Ai)] }
abbrev za7:Gm:=gA ["self"] Uy 4 [("holds",ZO),("lies_in",ZG)] ["any"] [] ["self"] (ox:=za6)
theorem za8:Ck za7 Z3 Uy Pd:={}
theorem zj4(M:Mc)(P:List (Str×Db.Z)):BQ Ah Ai (Ff M P)=some (E7 M P):=(show BQ Ah Ai (Ff M P)=(if Ah=Ah/\Ai=Ai then some (E7 M P) else none) from rfl).trans (if_pos ⟨rfl,rfl⟩)
theorem zm2(M:Mc)(P:List (Str×Db.Z)):BQ Ao Aq (Ff M P)=none:=(show BQ Ao Aq (Ff M P)=(if Ah=Ao/\Ai=Aq then some (E7 M P) else none) from rfl).trans (if_neg λz=>by
 have:=z.1
 revert this
 decide)
structure ShK(M:Mc)(P:List (Str×Db.Z))(S:T):Prop where
 i:BQ Ah Ai S=some (E7 M P)
 n:BQ Ao Aq S=none
 s:S.sh=true
 v:A3 (M.ws.map λ_=>fr 0 1)=true
 t:A3 (M.nm.map (En M))=true
 w:A3 (M.nm.map (Fg M))=true
 z:A3 (M.nm.map (C7 M P))=true
theorem shK(M:Mc)(P:List (Str×Db.Z)):ShK M P (Ff M P):=by
 have e1:A3 (M.ws.map λ_=>fr 0 1)=true:=By λ_ _=>rfl
 have e2:A3 (M.nm.map (En M))=true:=By λx _=>LC M x
 have e3:A3 (M.nm.map (Fg M))=true:=By λx _=>Tr M x
 have e4:A3 (M.nm.map (C7 M P))=true:=By λx _=>ID M P x
 refine⟨zj4 M P,zm2 M P,?_,e1,e2,e3,e4⟩;unfold Ff E7;generalize (M.ws.map λ_=>fr 0 1)=A at *
 generalize M.nm.map (En M)=B at *;generalize M.nm.map (Fg M)=C at *;generalize M.nm.map (C7 M P)=D at *
 simp![e1,e2,e3,e4]
theorem Ec{m mk:AL}{τ:AV}{ks:List Str}{f:Str->T}{r:Str}{b b2:Bool}(h1:m τ=some (.v (.obj (.sdc ks) (ks.map f)) b))(h2:mk τ=some (.v (.str r) b2))(hr:r∈ks)(hf:(f r).sh=true):CA m mk τ=some (.v (f r) false):=by
 obtain⟨j,ej,hj,e⟩:=HS hr;have e2:(ks.map f)[j]?=some (f r):=by rw[ya7,ya0 hj,e];rfl
 unfold CA;simp only[h1,h2,ej,e2,hf,ye0]
theorem Xq{M:Mc}(h:McOk M):M.nm.headD ""∈M.nm:=by
 have l1:=h.r.l1;have ln:M.nm.length=M.rs.length:=ya1 _;cases e:M.nm with
 |nil=>rw[e,yc3]at ln;omega
 |cons a r=>exact .head _
section
variable {M:Mc}{P:List (Str×Db.Z)}{S:T}(k:ShK M P S)
include k
theorem ShK.f0{τ:AV}{m:AL}{b:Bool}(e:m τ=some (.v S b)):Ax Ah Ai 0 m τ=some (.v (.str (M.nm.headD "")) false):=by simp![-BQ,e,k.i,E7]
theorem ShK.f1{τ:AV}{m:AL}{b:Bool}(e:m τ=some (.v S b)):Ax Ah Ai 1 m τ=some (.v (.lst (M.ws.map λ_=>fr 0 1)) false):=by simp![-BQ,e,k.i,E7,k.v]
theorem ShK.f2{τ:AV}{m:AL}{b:Bool}(e:m τ=some (.v S b)):B5 (Ax Ao Aq 1 m) (Ax Ah Ai 2 m) τ=some (.v (.obj (.sdc M.nm) (M.nm.map (En M))) false):=by simp![-BQ,e,k.i,k.n,E7,k.t]
theorem ShK.f3{τ:AV}{m:AL}{b:Bool}(e:m τ=some (.v S b)):Ax Ah Ai 3 m τ=some (.v (.obj (.sdc M.nm) (M.nm.map (Fg M))) false):=by simp![-BQ,e,k.i,E7,k.w]
theorem ShK.f4{τ:AV}{m:AL}{b:Bool}(e:m τ=some (.v S b)):Ax Ah Ai 4 m τ=some (.v (.obj (.sdc M.nm) (M.nm.map (C7 M P))) false):=by simp![-BQ,e,k.i,E7,k.z]
end
open Classical in
def G2(n:Nat)(f:Db.Z):Bool:=decide (∀i j,i<n->j<n->Db.le (some 1) (f i j))
open Classical in
theorem li0{m:Nat}(hm:m<=500)(f:Db.Z):Hl [zT (m+1) f,vT m λ_=>(0,1)]=some (.ok (.bl (G2 (m+1) f))):=by
 have z1:∀i,Gk (λ_=>(0,1)) i=(0,1):=λi=>by cases i<;>rfl
 have m0:∀b,Bi 0 b=true:=λb=>FV (Ci (by decide) (by decide))
 have s1:∀c,Db.sat 1 c (0 - 0) ↔ Db.le (some 1) c:=λc=>by
  cases c with
  |none=>exact Iff.rfl
  |some c =>
   show _<=_ ↔ (1:Int)<=c
   omega
 have h:=li_ok (m:=m) (by omega) (f:=f) (v:=λ_=>(0,1)) ⟨λi _=>(by rw[z1];decide),λi j _ _=>(by
  rw[z1,z1]
  exact⟨m0 _,FV (Ci (by decide) (by decide)),by decide⟩),λi j c _ _ e b b0 bl=>(by
  rw[z1,z1]at bl
  have:b=1:=by
   have:b<=1 * 1:=bl
   omega
  subst this;exact IK (Ci (by decide) (by decide)))⟩ (D:=1) (X:=λ_=>0) (by decide) λi _=>by rw[z1]
 unfold G2
 by_cases q:∀i j,i<m+1->j<m+1->Db.le (some 1) (f i j)
 .rw[ye1 q];exact h.1 λi j hi hj=>(s1 _).mpr (q i j hi hj)
 .rw[ydl q];exact h.2 λz=>q λi j hi hj=>(s1 _).mp (z i j hi hj)
theorem Sy(l:List Str):(l.map λ_=>fr 0 1)=(List.range l.length).map λ_=>fr 0 1:=by
 rw[List.map_const',List.map_const',ycy]
def Jn(M:Mc)(P:List (Str×Db.Z)):Bool:=!(A7 M.ws M.rs (M.nm.headD "")).all zB || (AX (M.ws.length+1) P (M.nm.headD "")).any (G2 (M.ws.length+1))
theorem zj2{M:Mc}(h:McOk M)(x:Str):(A7 M.ws M.rs x).length<=1000:=by
 unfold A7;cases e:M.rs.find? λq=>decide (q.1=x) with
 |none=>exact ybk _
 |some r =>
  rw[ya1];exact(h.r.lk r (List.mem_of_find?_eq_some e)).2
theorem JN(n:Nat)(P:List (Str×Db.Z))(x:Str):(AX n P x).length<=P.length:=yaj (List.length_filterMap_le _ _) (ycb _ _)
theorem hs_ok{M:Mc}(h:McOk M){P:List (Str×Db.Z)}(hP:P.length<=1000){S:T}(k:ShK M P S):Mv [S]=some (.ok (.bl (Jn M P))):=by
 have hm:=h.wl;have sS:=k.s;have v0:AA 0 [some S]=some (.v S false):=by simp![sS]
 have g2:=Ec (k.f2 v0) (k.f0 v0) (Xq h) (LC M _);have g4:=Ec (k.f4 v0) (k.f0 v0) (Xq h) (ID M P _);have hd:=hd0 (LA h (M.nm.headD "")) (zj2 h _) (Sy M.ws)
 have c3:=DB (b:=AD 0) (me:=Rj) (zT (M.ws.length+1)) (λf=>.bl (G2 (M.ws.length+1) f)) (λτ=>∃x,τ=[x,some S]) (AX (M.ws.length+1) P (M.nm.headD "")) [none,some S] ⟨none,rfl⟩ λf _ τ hI=>by
  obtain⟨x,rfl⟩:=hI;have sZ:=BX (M.ws.length+1) f;have li:=li0 (m:=M.ws.length) (by omega) f
  rw[show(vT M.ws.length λ_=>(0,1))=T.lst (M.ws.map λ_=>fr 0 1) by rw[Sy];rfl]at li
  generalize zT (M.ws.length+1) f=Z at *;have v1:AA 1 [some Z,some S]=some (.v S false):=by simp![sS]
  have f1:=k.f1 v1;refine⟨[some Z,some S],by simp![sZ,AN _ sZ],?_,_,rfl⟩
  unfold Rj;have sv:=k.v;generalize (M.ws.map λ_=>fr 0 1)=V at *
  simp![sZ,AN _ sZ,-Ax,f1,sv,AG _ sv,li]
 have f1:=k.f1 v0;have sv:=k.v;have ba:=GD (G2 (M.ws.length+1)) (AX (M.ws.length+1) P (M.nm.headD ""));have ea:=bL (G2 (M.ws.length+1)) (AX (M.ws.length+1) P (M.nm.headD ""));have es:=Gc (G2 (M.ws.length+1)) (AX (M.ws.length+1) P (M.nm.headD ""));have zl:=JN (M.ws.length+1) P (M.nm.headD "");have ll:((AX (M.ws.length+1) P (M.nm.headD "")).map (zT (M.ws.length+1))).length<=100000:=by rw[ya1];omega
 have sz:=Dy (M.ws.length+1) (AX (M.ws.length+1) P (M.nm.headD ""));have sl:=DZ (A7 M.ws M.rs (M.nm.headD ""));unfold Jn;unfold En at g2;unfold C7 at g4;generalize (M.ws.map λ_=>fr 0 1)=V at *
 generalize (A7 M.ws M.rs (M.nm.headD "")).map An=SL at *;generalize (A7 M.ws M.rs (M.nm.headD "")).all zB=b1 at *;generalize (AX (M.ws.length+1) P (M.nm.headD "")).map (zT (M.ws.length+1))=ZS at *;unfold Mv Pd;cases b1 with
 |false=>simp![-Ax,-B5,g2,sl,AG _ sl,f1,sv,AG _ sv,hd]
 |true=>simp![-Ax,-B5,g2,sl,AG _ sl,f1,sv,AG _ sv,hd,g4,sz,AG _ sz,ll,sS,AN _ sS,c3,es,ba,ea]
abbrev Uv:Stmt:=Bm 72 2
def Gp:AJ :=
 (A2 (AK Gd (AB (AA 2) (AB (AA 3) AE))) (AU (mC (.bl true))) A8)
def Le:AJ :=
 (AH (A2 (m2 (Az false) (AA 2) (mC .non)) (AU (mC (.bl true))) A8)
 (AH (BU (Ap (CA (Ax Ah Ai 4 (AA 0)) (AA 1))) (AD 3) Gp)
 (AU (mC (.bl false)))))
def Gf:List T->Option Ru:=A4 3 4 Le
abbrev Qh:Fn:=⟨3,["self","room","zone"],Gf⟩
abbrev za3:Gx:={ Bw with cl:=[("Sheet",Ah,Ai)] }
abbrev za4:Gm:=gA ["self","room","zone","other"] Uv 2 [("within",QZ)] [] (ox:=za3)
theorem za5:Ck za4 Qh Uv Le:={}
def CM(n:Nat)(zs:List Db.Z)(o:Option Db.Z):Bool:=match o with
 |none=>true
 |some f=>zs.any (EK n f)
theorem Yi{M:Mc}{P:List (Str×Db.Z)}{S:T}(k:ShK M P S){r:Str}(hr:r∈M.nm)(o:Option Db.Z):Gf [S,.str r,oT (M.ws.length+1) o]=some (.ok (.bl (CM (M.ws.length+1) (AX (M.ws.length+1) P r) o))):=by
 have sS:=k.s;have so:=CQ (M.ws.length+1) o;have is:=EC (M.ws.length+1) o false;cases o with
 |none =>
  show Gf [S,.str r,.non]=some (.ok (.bl true));unfold Gf Le
  simp![]
 |some f =>
  have sZ:=BX (M.ws.length+1) f;show Gf [S,.str r,zT (M.ws.length+1) f]=_;have is:Az false (zT (M.ws.length+1) f) .non=some (.bl false):=is
  have loop:∀(L:List Db.Z) (y:Option T),(L.any (EK (M.ws.length+1) f)=true->BW (AD 3) Gp (L.map (zT (M.ws.length+1))) [some S,some (.str r),some (zT (M.ws.length+1) f),y]=some (.rt (.bl true)))/\(L.any (EK (M.ws.length+1) f)=false->∃y',BW (AD 3) Gp (L.map (zT (M.ws.length+1))) [some S,some (.str r),some (zT (M.ws.length+1) f),y]=some (.nx [some S,some (.str r),some (zT (M.ws.length+1) f),y'])):=by
   intro L
   induction L with
   |nil=>exact λy=>⟨λh=>(by cases h),λ_=>⟨y,rfl⟩⟩
   |cons g L ih =>
    intro y;have sg:=BX (M.ws.length+1) g;have wi:=Ss (n:=M.ws.length+1) f g;obtain⟨i1,i2⟩:=ih (some (zT (M.ws.length+1) g));rw[yap,yde];unfold BW;generalize zT (M.ws.length+1) f=F at *;generalize zT (M.ws.length+1) g=G at *;cases q:EK (M.ws.length+1) f g with
    |true =>
     rw[q]at wi;refine⟨λ_=>?_,λh=>by cases h⟩
     have w:Gp [some S,some (.str r),some F,some G]=some (.rt (.bl true)):=by
      unfold Gp
      simp![sZ,AN _ sZ,sg,AN _ sg,wi]
     simp![sg,AN _ sg,w]
    |false =>
     rw[q]at wi
     have w:Gp [some S,some (.str r),some F,some G]=some (.nx [some S,some (.str r),some F,some G]):=by
      unfold Gp
      simp![sZ,AN _ sZ,sg,AN _ sg,wi]
     rw[Bool.false_or];refine⟨λh=>?_,λh=>?_⟩
     .have:=i1 h
      simp![sg,AN _ sg,w,this]
     .obtain⟨y',e⟩:=i2 h;exact⟨y',by simp![sg,AN _ sg,w,e]⟩
  obtain⟨l1,l2⟩:=loop (AX (M.ws.length+1) P r) none;have v0:AA 0 [some S,some (.str r),some (zT (M.ws.length+1) f),none]=some (.v S false):=by simp![sS]
  have v1:AA 1 [some S,some (.str r),some (zT (M.ws.length+1) f),none]=some (.v (.str r) false):=by simp![]
  have g4:=Ec (k.f4 v0) v1 hr (ID M P r);have sz:=Dy (M.ws.length+1) (AX (M.ws.length+1) P r);unfold C7 at g4;show _=some (Ru.ok (.bl ((AX (M.ws.length+1) P r).any (EK (M.ws.length+1) f))));generalize zT (M.ws.length+1) f=F at *;generalize (AX (M.ws.length+1) P r).any (EK (M.ws.length+1) f)=b at *;generalize (AX (M.ws.length+1) P r).map (zT (M.ws.length+1))=ZS at *;unfold Gf Le;cases b with
  |true =>
   have l1:=l1 rfl
   simp![-Ax,-Az,sZ,AN _ sZ,is,g4,sz,AG _ sz,l1]
  |false =>
   obtain⟨y',l2⟩:=l2 rfl
   simp![-Ax,-Az,sZ,AN _ sZ,is,g4,sz,AG _ sz,l2]
abbrev Ux:Stmt:=Bm 72 3
def Pc:AJ :=
 (AU (Bz Ah Ai Gf (AA 0) (AB (AA 1) (AB (AK Dw (AB (AK FH (AB (AA 2) AE)) (AB (CA (B5 (Ax Ao Aq 1 (AA 0)) (Ax Ah Ai 2 (AA 0))) (AA 1)) AE))) AE))))
def Mu:List T->Option Ru:=A4 3 3 Pc
abbrev Z2:Fn:=⟨5,["self","room","zone"],Mu⟩
abbrev za9:Gx:={ Bw with cl:=[("Machine",Ao,Aq),("Sheet",Ah,Ai)],mt:=[("holds_within",Ah,Ai,Qh)] }
abbrev zac:Gm:=gA ["self","room","zone"] Ux 4 [("met",HX),("waited",ME)] [] (ox:=za9)
theorem zaf:Ck zac Z2 Ux Pc:={}
def GA(M:Mc)(P:List (Str×Db.Z))(r:Str)(f:Db.Z):Bool:=CM (M.ws.length+1) (AX (M.ws.length+1) P r) (A5 (A7 M.ws M.rs r) (Dm.wtd f))
theorem zoh{M:Mc}(h:McOk M){P:List (Str×Db.Z)}{S:T}(k:ShK M P S){r:Str}(hr:r∈M.nm){f:Db.Z}(hf:Db.Nar (M.ws.length+1) f):Mu [S,.str r,zT (M.ws.length+1) f]=some (.ok (.bl (GA M P r f))):=by
 have hm:=h.wl;have sS:=k.s;have sZ:=BX (M.ws.length+1) f;have nw:=Dm.wtd_nar hf;have wa:=Kc (m:=M.ws.length) (by omega) f
 have e:(T.own (oZ (M.ws.length+1) (Dm.wtd f))).share=zT (M.ws.length+1) (Dm.wtd f):=by rw[T.share,ET]
 have mt:=HH (m:=M.ws.length) (by omega) nw (LA h r)
 have hw:=Yi k hr (A5 (A7 M.ws M.rs r) (Dm.wtd f));have so:=CQ (M.ws.length+1) (A5 (A7 M.ws M.rs r) (Dm.wtd f));have v0:AA 0 [some S,some (.str r),some (zT (M.ws.length+1) f)]=some (.v S false):=by simp![sS]
 have v1:AA 1 [some S,some (.str r),some (zT (M.ws.length+1) f)]=some (.v (.str r) false):=by simp![]
 have g2:=Ec (k.f2 v0) v1 hr (LC M r);have sw:=BX (M.ws.length+1) (Dm.wtd f);have sl:=DZ (A7 M.ws M.rs r);have ii:=k.i;unfold En at g2;unfold GA;generalize CM (M.ws.length+1) (AX (M.ws.length+1) P r) (A5 (A7 M.ws M.rs r) (Dm.wtd f))=b at *;generalize oT (M.ws.length+1) (A5 (A7 M.ws M.rs r) (Dm.wtd f))=A at *;generalize (A7 M.ws M.rs r).map An=SL at *;generalize zT (M.ws.length+1) (Dm.wtd f)=W at *;generalize T.own (oZ (M.ws.length+1) (Dm.wtd f))=O at *;generalize zT (M.ws.length+1) f=Z at *;unfold Mu Pc
 simp![-Ax,-B5,-BQ,ii,sS,AN _ sS,sZ,AN _ sZ,wa,e,g2,sl,AG _ sl,mt,sw,AN _ sw,so,AN _ so,hw]
abbrev Uw:Stmt:=Bm 72 4
def Lf:AJ :=
 (AH (AZ (AO (AA 2) (mC (.int 1))) (AD 3))
 (AH (AZ (AK Dw (AB (AA 1) (AB (AO (AA 2) (mC (.int 2))) AE))) (AD 4))
 (AH (A2 (m2 (Az false) (AA 4) (mC .non)) (AU (mC (.bl true))) A8)
 (AU (Bz Ah Ai Gf (AA 0) (AB (AA 3) (AB (AK Dw (AB (AK Hj (AB (AA 4) (AB (AO (AA 2) (mC (.int 3))) AE))) (AB (CA (B5 (Ax Ao Aq 1 (AA 0)) (Ax Ah Ai 2 (AA 0))) (AA 3)) AE))) AE)))))))
def KY:List T->Option Ru:=A4 3 5 Lf
abbrev Z1:Fn:=⟨5,["self","zone","way"],KY⟩
abbrev zai:Gx:={ Bw with cl:=[("Machine",Ao,Aq),("Sheet",Ah,Ai)],mt:=[("holds_within",Ah,Ai,Qh)] }
abbrev zan:Gm:=gA ["self","zone","way","end","left"] Uw 4 [("met",HX),("put_back",Q2)] [] (ox:=zai)
theorem zas:Ck zan Z1 Uw Lf:={}
def DQ(ws:List Str)(rs:List (Str×List T))(f:Db.Z)(d:Dr):Option Db.Z:=(A5 (gK ws d) f).bind λl=>A5 (A7 ws rs d.e) (Dm.pbk l (BY (BP ws d.n)))
def EG(M:Mc)(P:List (Str×Db.Z))(f:Db.Z)(d:Dr):Bool:=CM (M.ws.length+1) (AX (M.ws.length+1) P d.e) (DQ M.ws M.rs f d)
theorem OL{m:Nat}{f:Db.Z}(hf:Db.Nar (m+1) f)(ps:List Nat):Db.Nar (m+1) (Dm.pbk f (BY ps)):=Dm.pbk_nar hf (λi hi=>by unfold BY;split<;>omega) (by unfold BY;split<;>rfl)
theorem zog{M:Mc}(h:McOk M){P:List (Str×Db.Z)}{S:T}(k:ShK M P S){f:Db.Z}(hf:Db.Nar (M.ws.length+1) f){p:Nat×Dr}(hp:p.2∈M.ds):KY [S,zT (M.ws.length+1) f,CK M.ws p]=some (.ok (.bl (EG M P f p.2))):=by
 have hm:=h.wl;have sS:=k.s;have D:=h.d _ hp;have hr:p.2.e∈M.nm:=D.e;have sZ:=BX (M.ws.length+1) f;have gk:E5 M.ws.length (gK M.ws p.2):=Fj D.g;have m1:=HH (m:=M.ws.length) (by omega) hf gk
 have o1:=CQ (M.ws.length+1) (A5 (gK M.ws p.2) f);have i1:=EC (M.ws.length+1) (A5 (gK M.ws p.2) f) false;have sk:=DZ (gK M.ws p.2);have sn:=L5 (BP M.ws p.2.n);have a1:∀A B G N,Ag [T.int A,T.str B,T.lst G,T.lst N] 1=some (T.str B):=λ_ _ _ _=>Cs (by decide) rfl
 have a2:∀A B G N,Ag [T.int A,T.str B,T.lst G,T.lst N] 2=some (T.lst G):=λ_ _ _ _=>Cs (by decide) rfl
 have a3:∀A B G N,Ag [T.int A,T.str B,T.lst G,T.lst N] 3=some (T.lst N):=λ_ _ _ _=>Cs (by decide) rfl
 unfold EG DQ;cases e1:A5 (gK M.ws p.2) f with
 |none =>
  rw[e1]at m1 i1;have m1:Dw [zT (M.ws.length+1) f,.lst ((gK M.ws p.2).map An)]=some (.ok .non):=m1;show _=some (Ru.ok (.bl true));unfold CK;generalize zT (M.ws.length+1) f=Z at *;generalize (gK M.ws p.2).map An=G at *;generalize ED (BP M.ws p.2.n)=N at *;unfold KY Lf
  simp![a1,a2,sZ,AN _ sZ,sk,AG _ sk,sn,AG _ sn,m1]
 |some g =>
  rw[e1]at m1 i1 o1;have ng:=J8 hf gk e1;have pb:=Vu (n:=M.ws.length+1) (by omega) (by omega) g (BP M.ws p.2.n)
  have np:=OL ng (BP M.ws p.2.n);have e:(T.own (oZ (M.ws.length+1) (Dm.pbk g (BY (BP M.ws p.2.n))))).share=zT (M.ws.length+1) (Dm.pbk g (BY (BP M.ws p.2.n))):=by rw[T.share,ET]
  have mt:=HH (m:=M.ws.length) (by omega) np (LA h p.2.e)
  have hw:=Yi k hr (A5 (A7 M.ws M.rs p.2.e) (Dm.pbk g (BY (BP M.ws p.2.n))));have so:=CQ (M.ws.length+1) (A5 (A7 M.ws M.rs p.2.e) (Dm.pbk g (BY (BP M.ws p.2.n))));have sw:=BX (M.ws.length+1) (Dm.pbk g (BY (BP M.ws p.2.n)));have sl:=DZ (A7 M.ws M.rs p.2.e);have pb:Hj [oT (M.ws.length+1) (some g),.lst (ED (BP M.ws p.2.n))]=some (.ok (.own (oZ (M.ws.length+1) (Dm.pbk g (BY (BP M.ws p.2.n)))))):=pb;have ii:=k.i;show _=some (Ru.ok (.bl (CM (M.ws.length+1) (AX (M.ws.length+1) P p.2.e) (A5 (A7 M.ws M.rs p.2.e) (Dm.pbk g (BY (BP M.ws p.2.n)))))));generalize CM (M.ws.length+1) (AX (M.ws.length+1) P p.2.e) (A5 (A7 M.ws M.rs p.2.e) (Dm.pbk g (BY (BP M.ws p.2.n))))=b at *;generalize oT (M.ws.length+1) (A5 (A7 M.ws M.rs p.2.e) (Dm.pbk g (BY (BP M.ws p.2.n))))=A at *;generalize zT (M.ws.length+1) (Dm.pbk g (BY (BP M.ws p.2.n)))=W at *;generalize T.own (oZ (M.ws.length+1) (Dm.pbk g (BY (BP M.ws p.2.n))))=O at *;generalize oT (M.ws.length+1) (some g)=G1 at *;unfold CK;generalize zT (M.ws.length+1) f=Z at *;generalize (gK M.ws p.2).map An=G at *;generalize ED (BP M.ws p.2.n)=N at *;have v0:AA 0 [some S,some Z,some (.tup [.int (p.1:Nat),.str p.2.e,.lst G,.lst N]),some (.str p.2.e),some G1]=some (.v S false):=by simp![sS]
  have v3:AA 3 [some S,some Z,some (.tup [.int (p.1:Nat),.str p.2.e,.lst G,.lst N]),some (.str p.2.e),some G1]=some (.v (.str p.2.e) false):=by simp![]
  have g2:=Ec (k.f2 v0) v3 hr (LC M p.2.e);unfold En at g2;generalize (A7 M.ws M.rs p.2.e).map An=SL at *;unfold KY Lf
  simp![-Ax,-B5,-BQ,-Az,a1,a2,a3,ii,sS,AN _ sS,sZ,AN _ sZ,sk,AG _ sk,sn,AG _ sn,m1,i1,Option.isNone,bne,o1,AN _ o1,pb,e,g2,sl,AG _ sl,mt,sw,AN _ sw,so,AN _ so,hw]
abbrev Uz:Stmt:=Bm 72 5
def Rk:AL :=
 (Bz Ah Ai KY (AA 1) (AB (AA 2) (AB (AA 0) AE)))
def JR:AJ :=
 (AH (A2 (BE (Bz Ah Ai Mu (AA 0) (AB (AA 1) (AB (AA 2) AE)))) (AU (mC (.bl false))) A8)
 (A2 (BE (m1 Di (BD 1 [0,2] (Ap (CA (Ax Ah Ai 3 (AA 0)) (AA 1))) (AD 0) (mC (.bl true)) Rk))) (AU (mC (.bl false))) A8))
def Pe:AJ :=
 (AH (BU (Ap (CA (Ax Ah Ai 4 (AA 0)) (AA 1))) (AD 2) JR)
 (AU (mC (.bl true))))
def Mw:List T->Option Ru:=A4 2 3 Pe
abbrev Z4:Fn:=⟨6,["self","room"],Mw⟩
abbrev zaa:Gx:={ Bw with cl:=[("Sheet",Ah,Ai)],mt:=[("holds_wait",Ah,Ai,Z2),("holds_way",Ah,Ai,Z1)] }
abbrev zad:Gm:=gA ["self","room","zone"] Uz 5 [] ["all"] [] ["self","zone"] (ox:=zaa)
theorem zag:Ck zad Z4 Uz Pe:={}
theorem NI{n:Nat}{P:List (Str×Db.Z)}{x:Str}{f:Db.Z}(h:f∈AX n P x):Db.Nar n f:=by
 obtain⟨p,_,e⟩:=ybm.mp h;exact Xk e
def FY(M:Mc)(P:List (Str×Db.Z))(r:Str):Bool:=(AX (M.ws.length+1) P r).all λf=>GA M P r f && (B0 r 0 M.ds).all λp=>EG M P f p.2
theorem hr_ok{M:Mc}(h:McOk M){P:List (Str×Db.Z)}{S:T}(k:ShK M P S){r:Str}(hr:r∈M.nm):Mw [S,.str r]=some (.ok (.bl (FY M P r))):=by
 have sS:=k.s;have ii:=k.i;have dl:=h.dl;have sw:A3 ((B0 r 0 M.ds).map (CK M.ws))=true:=By λp _=>Ka _ p
 have wl:((B0 r 0 M.ds).map (CK M.ws)).length<=100000:=by
  have:=NJ r M.ds 0;rw[ya1]
  omega
 have w1:∀f,Db.Nar (M.ws.length+1) f->JR [some S,some (.str r),some (zT (M.ws.length+1) f)]=some (if (GA M P r f && (B0 r 0 M.ds).all λp=>EG M P f p.2)=true then .nx [some S,some (.str r),some (zT (M.ws.length+1) f)] else .rt (.bl false)):=λf hf=>by
  have sZ:=BX (M.ws.length+1) f;have wt:=zoh h k hr hf
  have lc:=DB (b:=AD 0) (me:=Rk) (CK M.ws) (λp=>.bl (EG M P f p.2)) (λτ=>∃x,τ=[x,some S,some (zT (M.ws.length+1) f)]) (B0 r 0 M.ds) [none,some S,some (zT (M.ws.length+1) f)] ⟨none,rfl⟩ λp hp τ hI=>by
   obtain⟨x,rfl⟩:=hI;have wy:=zog h k hf (p:=p) (Sl hp);have s1:=Ka M.ws p;generalize CK M.ws p=W at *;generalize zT (M.ws.length+1) f=Z at *;refine⟨[some W,some S,some Z],by simp![s1,AN _ s1],?_,_,rfl⟩
   unfold Rk
   simp![-BQ,ii,sS,AN _ sS,sZ,AN _ sZ,s1,AN _ s1,wy]
  have ba:=GD (λp=>EG M P f p.2) (B0 r 0 M.ds)
  have ea:=KE (λp=>EG M P f p.2) (B0 r 0 M.ds)
  have es:=Gc (λp=>EG M P f p.2) (B0 r 0 M.ds)
  generalize zT (M.ws.length+1) f=Z at *;have v0:AA 0 [some S,some (.str r),some Z]=some (.v S false):=by simp![sS]
  have v1:AA 1 [some S,some (.str r),some Z]=some (.v (.str r) false):=by simp![]
  have g3:=Ec (k.f3 v0) v1 hr (Tr M r);unfold Fg at g3;generalize (B0 r 0 M.ds).map (CK M.ws)=WY at *;generalize ((B0 r 0 M.ds).map λp=>T.bl (EG M P f p.2))=BL at *
  generalize ((B0 r 0 M.ds).all λp=>EG M P f p.2)=b2 at *
  unfold JR;generalize GA M P r f=b1 at *;cases b1 with
  |false=>simp![-Ax,-BQ,ii,sS,AN _ sS,sZ,AN _ sZ,wt]
  |true =>
   cases b2<;>simp![-Ax,-BQ,ii,sS,AN _ sS,sZ,AN _ sZ,wt,g3,sw,AG _ sw,wl,lc,es,ba,ea]
 have loop:∀(L:List Db.Z) (y:Option T),(∀f∈L,Db.Nar (M.ws.length+1) f)->((L.all λf=>GA M P r f && (B0 r 0 M.ds).all λp=>EG M P f p.2)=true->∃y',BW (AD 2) JR (L.map (zT (M.ws.length+1))) [some S,some (.str r),y]=some (.nx [some S,some (.str r),y']))/\((L.all λf=>GA M P r f && (B0 r 0 M.ds).all λp=>EG M P f p.2)=false->BW (AD 2) JR (L.map (zT (M.ws.length+1))) [some S,some (.str r),y]=some (.rt (.bl false))):=by
  intro L
  induction L with
  |nil=>exact λy _=>⟨λ_=>⟨y,rfl⟩,λh=>(by cases h)⟩
  |cons f L ih =>
   intro y hL;have sZ:=BX (M.ws.length+1) f;have w:=w1 f (hL f (.head _));obtain⟨i1,i2⟩:=ih (some (zT (M.ws.length+1) f)) λg hg=>hL g (.tail _ hg)
   rw[yap,ybo];unfold BW;generalize zT (M.ws.length+1) f=F at *;cases q:(GA M P r f && (B0 r 0 M.ds).all λp=>EG M P f p.2) with
   |false =>
    rw[q]at w;refine⟨λh=>(by cases h),λ_=>?_⟩
    simp![sZ,AN _ sZ,w]
   |true =>
    rw[q]at w;rw[ybg];refine⟨λh=>?_,λh=>?_⟩
    .obtain⟨y',e⟩:=i1 h;exact⟨y',by simp![sZ,AN _ sZ,w,e]⟩
    .have e:=i2 h
     simp![sZ,AN _ sZ,w,e]
 obtain⟨l1,l2⟩:=loop (AX (M.ws.length+1) P r) none λf hf=>NI hf
 have u0:AA 0 [some S,some (.str r),none]=some (.v S false):=by simp![sS]
 have u1:AA 1 [some S,some (.str r),none]=some (.v (.str r) false):=by simp![]
 have g4:=Ec (k.f4 u0) u1 hr (ID M P r);have sz:=Dy (M.ws.length+1) (AX (M.ws.length+1) P r);unfold C7 at g4;unfold FY;generalize ((AX (M.ws.length+1) P r).all λf=>GA M P r f && (B0 r 0 M.ds).all λp=>EG M P f p.2)=b at *
 generalize (AX (M.ws.length+1) P r).map (zT (M.ws.length+1))=ZS at *;unfold Mw Pe;cases b with
 |true =>
  obtain⟨y',e⟩:=l1 rfl
  simp![-Ax,g4,sz,AG _ sz,e]
 |false =>
  have e:=l2 rfl
  simp![-Ax,g4,sz,AG _ sz,e]
abbrev Ut:Stmt:=Bm 72 6
def Rh:AL :=
 (m2 (Az false) (AK Dw (AB (AA 0) (AB (AA 1) AE))) (mC .non))
def Pb:AJ :=
 (AU (m1 Di (BD 1 [2] (Ap (CA (Ax Ah Ai 4 (AA 0)) (AA 1))) (AD 0) (mC (.bl true)) Rh)))
def Mt:List T->Option Ru:=A4 3 3 Pb
abbrev Z0:Fn:=⟨5,["self","room","looks"],Mt⟩
abbrev zah:Gx:={ Bw with cl:=[("Sheet",Ah,Ai)] }
abbrev zam:Gm:=gA ["self","room","looks"] Ut 4 [("met",HX)] ["all"] [] ["looks"] (ox:=zah)
theorem zar:Ck zam Z0 Ut Pb:={}
def FX(M:Mc)(P:List (Str×Db.Z))(r:Str)(L:List (Nat×Nat×Int)):Bool:=(AX (M.ws.length+1) P r).all λf=>(A5 L f).isNone
theorem ko_ok{M:Mc}(h:McOk M){P:List (Str×Db.Z)}(hP:P.length<=1000){S:T}(k:ShK M P S){r:Str}(hr:r∈M.nm){L:List (Nat×Nat×Int)}(hL:E5 M.ws.length L):Mt [S,.str r,.lst (L.map An)]=some (.ok (.bl (FX M P r L))):=by
 have hm:=h.wl;have sS:=k.s;have sL:=DZ L
 have lc:=DB (b:=AD 0) (me:=Rh) (zT (M.ws.length+1)) (λf=>.bl (A5 L f).isNone) (λτ=>∃x,τ=[x,some (.lst (L.map An))]) (AX (M.ws.length+1) P r) [none,some (.lst (L.map An))] ⟨none,rfl⟩ λf hf τ hI=>by
  obtain⟨x,rfl⟩:=hI;have sZ:=BX (M.ws.length+1) f;have mt:=HH (m:=M.ws.length) (by omega) (NI hf) hL
  have so:=CQ (M.ws.length+1) (A5 L f);have is:=EC (M.ws.length+1) (A5 L f) false;rw[show(false != (A5 L f).isNone)=(A5 L f).isNone by cases (A5 L f).isNone<;>rfl]at is
  generalize (A5 L f).isNone=b at *;generalize oT (M.ws.length+1) (A5 L f)=O at *;generalize zT (M.ws.length+1) f=Z at *;generalize L.map An=LL at *;refine⟨[some Z,some (.lst LL)],by simp![sZ,AN _ sZ],?_,_,rfl⟩
  unfold Rh
  simp![-Az,sZ,AN _ sZ,sL,AG _ sL,mt,so,AN _ so,is]
 have ba:=GD (λf=>(A5 L f).isNone) (AX (M.ws.length+1) P r)
 have ea:=KE (λf=>(A5 L f).isNone) (AX (M.ws.length+1) P r)
 have es:=Gc (λf=>(A5 L f).isNone) (AX (M.ws.length+1) P r)
 have zl:=JN (M.ws.length+1) P r;have ll:((AX (M.ws.length+1) P r).map (zT (M.ws.length+1))).length<=100000:=by rw[ya1];omega
 have sz:=Dy (M.ws.length+1) (AX (M.ws.length+1) P r);unfold FX;generalize L.map An=LL at *;have v0:AA 0 [some S,some (.str r),some (.lst LL)]=some (.v S false):=by simp![sS]
 have v1:AA 1 [some S,some (.str r),some (.lst LL)]=some (.v (.str r) false):=by simp![]
 have g4:=Ec (k.f4 v0) v1 hr (ID M P r);unfold C7 at g4;generalize (AX (M.ws.length+1) P r).map (zT (M.ws.length+1))=ZS at *;unfold Mt Pb
 simp![-Ax,g4,sL,AG _ sL,sz,AG _ sz,ll,lc,es,ba,ea]
abbrev UW:Stmt:=AQ 74
def RV:AL :=
 (m2 Dd (AA 0) (AA 2))
def RU:AL :=
 (Bz Ah Ai Mt (AA 2) (AB (AA 0) (AB (AA 1) AE)))
def RT:AL :=
 (Bz Ah Ai Mw (AA 1) (AB (AA 0) AE))
def La:AJ :=
 (AH (AZ (AK Iq (AB (AA 0) (AB (AA 1) AE))) (AD 3))
 (AH (AZ (Bz Ao Aq Ek (AA 0) AE) (AD 4))
 (AH (A2 (BE (m1 Di (BD 2 [4] (Ap (AA 2)) (Aj 2 (AM (AD 0) (AM (AD 1) Am))) (mC (.bl true)) RV))) (CY "NoRoom" (AB (mC (.str "a paper tells of the machine's rooms")) AE)) A8)
 (AH (AZ (HN SO [] (AB (AA 0) (AB (AA 2) AE))) (AD 5))
 (AH (A2 (Bo (BE (Bz Ah Ai Mv (AA 5) AE)) (BE (m1 Di (BD 2 [5] (Ap (AA 3)) (Aj 2 (AM (AD 0) (AM (AD 1) Am))) (mC (.bl true)) RU)))) (AU (mC (.bl false))) A8)
 (AU (m1 Di (BD 1 [5] (Ap (AA 4)) (AD 0) (mC (.bl true)) RT))))))))
def Mf:List T->Option Ru:=A4 3 6 La
abbrev ZH:Fn:=⟨9,["machine","goal","paper"],Mf⟩
abbrev zef:Gx:={ Bw with mt:=[("rooms",Ao,Aq,Ie),("holds_start",Ah,Ai,Z3),("keeps_off",Ah,Ai,Z0),("holds_room",Ah,Ai,Z4)],nw:=[("Sheet",Qg,[(2,[])])] }
abbrev zeh:Gm:=gA ["machine","goal","paper","marks","rooms","sheet"] UW 8 [("placed_goal",Yw)] ["all"] [] ["rooms","sheet"] (ex:=["NoRoom"]) (ox:=zef)
theorem zeu:Ck zeh ZH UW La:={}
abbrev Fs(g:Str×List (Nat×Nat×Int)):T:=.tup [.str g.1,.lst (g.2.map An)]
def HQ(M:Mc)(P:List (Str×Db.Z))(gs:List (Str×List (Nat×Nat×Int))):Bool:=(Jn M P && gs.all λg=>FX M P g.1 g.2) && M.nm.all (FY M P)
theorem mk_sh(gs:List (Str×List (Nat×Nat×Int))):A3 (gs.map Fs)=true:=By λg _=>by
 have:=DZ g.2;unfold Fs;generalize g.2.map An=L at *
 simp![this]
theorem zo1{M:Mc}(h:McOk M){P:List (Str×Db.Z)}(hP:P.length<=1000)(hr:∀p∈P,p.1∈M.nm){G:T}{gs:List (Str×List (Nat×Nat×Int))}(sG:G.sh=true)(hp:Iq [BC M,G]=some (.ok (.own (gs.map Fs))))(hg:∀g∈gs,g.1∈M.nm/\E5 M.ws.length g.2)(hl:gs.length<=1000):Mf [BC M,G,.lst (P.map (AS (M.ws.length+1)))]=some (.ok (.bl (HQ M P gs))):=by
 have sm:=IM h;have l64:=h.r.l64;have ln:M.nm.length=M.rs.length:=ya1 _;have ht:∀p∈P,PyData.strOk p.1=true:=λp hp=>h.tn _ (hr p hp)
 have lc:=DB (b:=Aj 2 (AM (AD 0) (AM (AD 1) Am))) (me:=RV) (AS (M.ws.length+1)) (λ_=>.bl true) (λτ=>∃x y,τ=[x,y,some (.lst (M.nm.map T.str))]) P [none,none,some (.lst (M.nm.map T.str))] ⟨_,_,rfl⟩ λp hp τ hI=>by
  obtain⟨a,b,rfl⟩:=hI;have e:=IU (o:=false) (k:=.lst) (ys:=M.nm) h.tn (ht p hp);rw[ye1 (hr p hp)]at e;have sZ:=BX (M.ws.length+1) p.2;unfold AS;generalize zT (M.ws.length+1) p.2=Z at *;refine⟨[some (.str p.1),some Z,some (.lst (M.nm.map T.str))],by simp![sZ,AN _ sZ],?_,_,_,rfl⟩
  unfold RV
  simp![BB,Ae,e]
 have mr:Ek [BC M]=some (.ok (.own (M.nm.map T.str))):=J9 h;have bo:=GD (λ_=>true) P
 have ea:(P.map λ_=>true).all id=true:=by
  rw[List.all_map,yab];exact λ_ _=>rfl
 have sp:=HD (M.ws.length+1) P;have sb:=Gc (λ_=>true) P
 have l1:M.nm.length<=100000:=by omega
 have st:=zm1 h ht hP;have k:=shK M P;have sS:=k.s;generalize Ff M P=S at *;have h0:=hs_ok h hP k;have ii:=k.i;have sg:=mk_sh gs
 have lk:=DB (b:=Aj 2 (AM (AD 0) (AM (AD 1) Am))) (me:=RU) Fs (λg=>.bl (FX M P g.1 g.2)) (λτ=>∃x y,τ=[x,y,some S]) gs [none,none,some S] ⟨_,_,rfl⟩ λg hgm τ hI=>by
  obtain⟨a,b,rfl⟩:=hI;have s2:=DZ g.2;have ko:=ko_ok h hP k (hg g hgm).1 (hg g hgm).2;unfold Fs;generalize g.2.map An=LL at *;refine⟨[some (.str g.1),some (.lst LL),some S],by simp![s2,AG _ s2],?_,_,_,rfl⟩
  unfold RU
  simp![-BQ,ii,sS,AN _ sS,s2,AG _ s2,ko]
 have lr:=DB (b:=AD 0) (me:=RT) T.str (λr=>.bl (FY M P r)) (λτ=>∃x,τ=[x,some S]) M.nm [none,some S] ⟨_,rfl⟩ λr hr τ hI=>by
  obtain⟨a,rfl⟩:=hI;have kr:=hr_ok h k hr;refine⟨[some (.str r),some S],by simp![],?_,_,rfl⟩
  unfold RT
  simp![-BQ,ii,sS,AN _ sS,kr]
 have b6:=GD (λg:Str×List (Nat×Nat×Int)=>FX M P g.1 g.2) gs
 have b8:=GD (FY M P) M.nm;have s6:=Gc (λg:Str×List (Nat×Nat×Int)=>FX M P g.1 g.2) gs
 have s8:=Gc (FY M P) M.nm;have a6:=KE (λg:Str×List (Nat×Nat×Int)=>FX M P g.1 g.2) gs
 have a8:=KE (FY M P) M.nm;have lp:(P.map (AS (M.ws.length+1))).length<=100000:=by rw[ya1];omega
 have lg:(gs.map Fs).length<=100000:=by rw[ya1];omega
 have e:La [some (BC M),some G,some (.lst (P.map (AS (M.ws.length+1)))),none,none,none]=some (.rt (.bl (HQ M P gs))):=by
  unfold La;unfold HQ;generalize P.map (AS (M.ws.length+1))=PP at *;generalize gs.map Fs=GG at *;generalize (gs.all λg=>FX M P g.1 g.2)=b1 at *
  generalize M.nm.all (FY M P)=b2 at *;generalize Jn M P=b0 at *;refine sq (τ':=[some (BC M),some G,some (.lst PP),some (.lst GG),none,none]) (by simp![sm,AN _ sm,sG,AN _ sG,hp,sg,AG _ sg]) ?_
  refine sq (τ':=[some (BC M),some G,some (.lst PP),some (.lst GG),some (.lst (M.nm.map T.str)),none]) (by simp![-BQ,Ft,sm,AN _ sm,mr,BB,Ae]) ?_
  refine DI (by simp![sp,AG _ sp,BB,Ae,lp,lc,sb,bo,ea]) ?_
  refine sq (τ':=[some (BC M),some G,some (.lst PP),some (.lst GG),some (.lst (M.nm.map T.str)),some S]) (by simp![sm,AN _ sm,sp,AG _ sp,st,sS,AN _ sS]) ?_
  cases b0 with
  |false=>exact sr (by simp![-BQ,ii,sS,AN _ sS,h0])
  |true =>
   cases b1 with
   |false=>exact sr (by simp![-BQ,ii,sS,AN _ sS,h0,sg,AG _ sg,lg,lk,s6,b6,a6])
   |true =>
    refine DI (by simp![-BQ,ii,sS,AN _ sS,h0,sg,AG _ sg,lg,lk,s6,b6,a6]) ?_
    simp![sS,AN _ sS,BB,Ae,ya1,l1,lr,s8,b8,a8]
 unfold Mf
 simp![e]
abbrev UL:Stmt:=AQ 48
def RM:AL :=
 (AK FI (AB (mC (.int 0)) AE))
def RL:AL :=
 (BD 1 [] (Cc (AB (m2 BI (AA 1) (mC (.int 1))) AE)) (AD 0) (mC (.bl true)) RM)
def Om:AJ :=
 (AU (BD 1 [0] (Cc (AB (m2 BI (AA 0) (mC (.int 1))) AE)) (AD 0) (mC (.bl true)) RL))
def F7:List T->Option Ru:=A4 1 1 Om
abbrev Q5:Fn:=⟨2,["many"],F7⟩
abbrev zfz:Gm:=gA ["many"] UL 1 [("at_most",HY)] ["range"] [] ["many"]
theorem zgd:Ck zfz Q5 UL Om:={}
theorem znu{m:Nat}(hm:m<=1000):F7 [.int m]=some (.ok (.own (mT (m+1) λ_=>.own (mT (m+1) λ_=>.int 1)))):=by
 have l2:m+1<=100000:=by omega
 have o1:C8 ((m:Int)+1)=true:=ES (n:=m+1) (by omega)
 have o2:((m:Int)+1).toNat=m+1:=by omega
 have lc:=DC (n:=m+1) (me:=RM) (x:=none) (cs:=[]) (g:=λj=>.int (j:Int)) (f:=λ_=>.int 1) λj hj=>by
  unfold RM
  simp![Il]
 have lc0:=DC (n:=m+1) (me:=RL) (x:=none) (cs:=[some (.int (m:Int))]) (g:=λj=>.int (j:Int)) (f:=λ_=>.own (mT (m+1) λ_=>.int 1)) λi hi=>by
  unfold RL
  simp![o1,o2,E9,lc,l2]
 unfold F7 Om
 simp![o1,o2,E9,lc0,l2]
abbrev VG:Stmt:=AQ 77
def NZ:AJ :=
 (AH (CP 2 (m2 BA (AA 5) (m2 Er (mC (.int 10)) (mC (.int 45)))))
 (AZ (m2 CW (AA 5) (m2 Er (mC (.int 10)) (mC (.int 45)))) (AD 5)))
def NY:AJ :=
 (AH (AZ (m2 BA (m2 BI (m2 BI (m2 CH (AA 3) (AA 3)) (m2 CH (mC (.int 48271)) (AA 3))) (AA 4)) (m2 BI (m2 Er (mC (.int 10)) (mC (.int 18))) (mC (.int 9)))) (AD 3))
 (CP 2 (AA 3)))
def Lg:AJ :=
 (AH (Cg 2 (BV AE))
 (AH (A2 (m2 (C1 λi j=>decide (j<=i)) (AA 0) (m2 Er (mC (.int 10)) (mC (.int 30)))) (AH (AZ (m2 Fd (AA 0) (m2 Er (mC (.int 10)) (mC (.int 30)))) (AD 5))
 (AH (BU (Cc (AB (AA 1) AE)) (AD 4) NZ)
 (AU (AA 2)))) A8)
 (AH (AZ (m2 BI (m2 BA (AA 0) (m2 BI (m2 Er (mC (.int 10)) (mC (.int 18))) (mC (.int 9)))) (mC (.int 48271))) (AD 3))
 (AH (BU (Cc (AB (m2 BI (AA 1) (mC (.int 2))) AE)) (AD 4) NY)
 (AH (DW 2) (AU (B5 (C9 (AA 2) (some (mC (.int 2))) none) (Cn (AA 2) (some (mC (.int 2))) none))))))))
def El:List T->Option Ru:=A4 2 6 Lg
abbrev Ql:Fn:=⟨1,["_law_cell","_law_many"],El⟩
abbrev zen:Gm:=gA ["_law_cell","_law_many","_law_found","_law_number","_law_k","_law_rest"] VG 0 [] ["range"] ["_law_found"]
theorem zf0:Ck zen Ql VG Lg:={}
theorem Kz(c:Int){m:Nat}(hm:m<=1000):∃xs:Nat->Int,El [.int c,.int m]=some (.ok (.own (mT m λi=>.int (xs i)))):=by
 have p30:(0:Int)<=30/\(30:Int)<=1000000/\Eo 10=true:=⟨by decide,by decide,Ci (by decide) (by decide)⟩
 have p45:(0:Int)<=45/\(45:Int)<=1000000/\Eo 10=true:=⟨by decide,by decide,Ci (by decide) (by decide)⟩
 have p18:(0:Int)<=18/\(18:Int)<=1000000/\Eo 10=true:=⟨by decide,by decide,Ci (by decide) (by decide)⟩
 have s45:Cv (10 ^ 45)=true:=Dn (by decide) (by decide)
 have z45:((10:Int) ^ 45≠0)=True:=by simp
 have z18:((10:Int) ^ 18+9≠0)=True:=by simp
 have r45:(45:Int).toNat=45:=rfl;have r30:(30:Int).toNat=30:=rfl;have r18:(18:Int).toNat=18:=rfl
 by_cases h:(10:Int) ^ 30<=c
 .have loop:=MD (b:=AD 4) (body:=NZ) (n:=m) (g:=λi=>.int (i:Int)) (τ:=[some (.int c),some (.int m),some (.own []),none,none,some (.int (c - 10 ^ 30))])
   (λi τ=>∃(xs:Nat->Int) (x:Option T) (r:Int),τ=[some (.int c),some (.int m),some (.own (mT i λi=>.int (xs i))),none,x,some (.int r)])
   ⟨λ_=>0,none,_,rfl⟩ (by
    rintro i τ hi ⟨xs,x,r,rfl⟩;refine⟨_,by simp![];rfl,?_⟩
    have l1:i<100000:=by omega
    refine⟨_,by unfold NZ;simp![p45,s45,z45,r45,l1];rfl,λj=>if j=i then r.fmod (10 ^ 45) else xs j,some (.int (i:Int)),r.fdiv (10 ^ 45),?_⟩
    rw[YH T.int])
  obtain⟨τ',e1,xs,x,r,rfl⟩:=loop;refine⟨xs,?_⟩;have o1:C8 (m:Int)=true:=ES (by omega)
  unfold El Lg
  simp![p30,r30,h,o1,E9,e1]
 .have loop:=MD (b:=AD 4) (body:=NY) (n:=m+2) (g:=λi=>.int (i:Int)) (τ:=[some (.int c),some (.int m),some (.own []),some (.int (c.fmod (10 ^ 18+9)+48271)),none,none])
   (λi τ=>∃(xs:Nat->Int) (x:Option T) (r:Int),0<=r/\r<2 * 10 ^ 18/\τ=[some (.int c),some (.int m),some (.own (mT i λi=>.int (xs i))),some (.int r),x,none])
   ⟨λ_=>0,none,_,by rw[fm (by decide)];omega,by rw[fm (by decide)];omega,rfl⟩ (by
    rintro i τ hi ⟨xs,x,r,r0,r1,rfl⟩;refine⟨_,by simp![];rfl,?_⟩
    have l1:i<100000:=by omega
    have m1:Bi r r=true:=zkg (Dn (by omega) (by omega)) (Dn (by omega) (by omega))
    have m2:Bi 48271 r=true:=FV (Ci (by decide) (by decide))
    refine⟨_,by unfold NY;simp![p18,z18,r18,l1,m1,m2];rfl,λj=>if j=i then (r * r+48271 * r+i).fmod (10 ^ 18+9) else xs j,some (.int (i:Int)),(r * r+48271 * r+i).fmod (10 ^ 18+9),by rw[fm (by decide)];omega,by rw[fm (by decide)];omega,?_⟩
    rw[YH T.int])
  obtain⟨τ',e1,xs,x,r,-,-,rfl⟩:=loop;refine⟨λi=>xs (i+2),?_⟩
  have o1:C8 ((m:Int)+2)=true:=ES (n:=m+2) (by omega)
  have o2:((m:Int)+2).toNat=m+2:=by omega
  have ct:Bc (mT (m+2) λi=>.int (xs i)) (some 2) none=mT m λi=>.int (xs (i+2)):=by
   unfold Bc;have e2:HT.sIx (mT (m+2) λi=>T.int (xs i)).length 0 (some 2)=2:=by rw[CT];simp[HT.sIx]
   have e3:HT.sIx (mT (m+2) λi=>T.int (xs i)).length (mT (m+2) λi=>T.int (xs i)).length none=m+2:=by rw[CT];rfl
   rw[e2,e3];refine Ey (by simp[CT]) λi hi=>?_
   rw[yco (by omega),ycq,EX (by omega),Nat.add_comm]
  unfold El Lg
  simp![p30,r30,h,p18,r18,z18,o1,o2,E9,e1,ct]
abbrev VL:Stmt:=AQ 78
def Kl:AJ :=
 (A2 (m2 Cz (AA 2) (BV AE)) (AH (AZ (m2 BI (m2 CH (AA 3) (m2 BA (AO (AA 0) (m2 CH (mC (.int 3)) (AA 6))) (mC (.int 4)))) (m2 BA (m2 CW (AO (AA 0) (m2 CH (mC (.int 3)) (AA 6))) (mC (.int 4))) (mC (.int 2)))) (AD 7))
 (CP 5 (Bj (AB (AO (AA 2) (m2 BA (AO (AA 0) (m2 BI (m2 CH (mC (.int 3)) (AA 6)) (mC (.int 1)))) (m1 Ba (AA 2)))) (AB (AO (AA 4) (m2 BA (AO (AA 0) (m2 BI (m2 CH (mC (.int 3)) (AA 6)) (mC (.int 2)))) (m1 Ba (AA 4)))) (AB (AA 7) AE)))))) A8)
def Pm:AJ :=
 (AH (Cg 5 (BV AE))
 (AH (BU (Cc (AB (AA 1) AE)) (AD 6) Kl)
 (AU (AA 5))))
def JE:List T->Option Ru:=A4 5 8 Pm
abbrev Z9:Fn:=⟨1,["_law_xs","_law_many","_law_watches","_law_unit","_law_words"],JE⟩
abbrev zg3:Gm:=gA ["_law_xs","_law_many","_law_watches","_law_unit","_law_words","_law_looks_here","_law_k","_law_number"] VL 0 [] ["range","len"] ["_law_looks_here"]
theorem zgh:Ck zg3 Z9 VL Pm:={}
theorem Zh{l:List Str}(h:Bd l):Fit (.lst (l.map T.str)) 1:=Fit.nd λt ht=>by
 obtain⟨x,hx,rfl⟩:=yac.mp ht;exact Fit.str (h x hx) 0
theorem O3{o:Bool}{l:List T}{n:Nat}(hn:n<=60)(h:Fit (.nd o .lst l) n):Cz (.nd o .lst l) (.lst [])=some (.bl (!decide (l.length=0))):=by
 rw[(Zs h (Fit.nd (o:=false) (k:=.lst) (l:=[]) (n:=0) λ_ z=>by cases z) hn).2]
 cases l with
 |nil =>
  rw[@decide_eq_true _ (Classical.propDecidable _) (by rfl)]
  rfl
 |cons a r =>
  have e:¬ ((T.nd o .lst (a::r)).data=(T.lst []).data):=λz=>by
   have z':PyData.list (Bb (a::r))=PyData.list (Bb []):=z;injection z' with z'
   cases z'
  rw[@decide_eq_false _ (Classical.propDecidable _) e,ydl (by simp)]
theorem Pz{ws wd:List Str}(tw:Bd ws)(h0:wd≠[]){K:Nat}(xs:Nat->Int){q:Nat}(hq:3 * q<=K)(hK:K<=1000){u:Int}(hu:0<=u):∃L:List T,CN ws wd L/\L.length<=q/\JE [.lst (mT K λi=>.int (xs i)),.int (q:Nat),.lst (ws.map T.str),.int u,.lst (wd.map T.str)]=some (.ok (.own L)):=by
 have hne:=O3 (by decide) (Zh tw)
 rw[ya1]at hne
 obtain⟨τ,e,L,hL,hok,y6,y7,rfl⟩:=Dg (b:=AD 6) (body:=Kl) (ts:=mT q λi=>.int (i:Int)) (τ:=[some (.lst (mT K λi=>.int (xs i))),some (.int (q:Nat)),some (.lst (ws.map T.str)),some (.int u),some (.lst (wd.map T.str)),some (.own []),none,none])
  (λi τ=>∃L:List T,L.length<=i/\CN ws wd L/\∃y6 y7,τ=[some (.lst (mT K λi=>.int (xs i))),some (.int (q:Nat)),some (.lst (ws.map T.str)),some (.int u),some (.lst (wd.map T.str)),some (.own L),y6,y7]) ⟨[],ya8 0,λ_ z=>(by cases z),none,none,rfl⟩ λi t τ h1 h2=>by
   obtain⟨hi,rfl⟩:=Fu h1;obtain⟨L,hL,hok,y6,y7,rfl⟩:=h2
   by_cases hw:ws.length=0
   .refine⟨[some (.lst (mT K λi=>.int (xs i))),some (.int (q:Nat)),some (.lst (ws.map T.str)),some (.int u),some (.lst (wd.map T.str)),some (.own L),some (.int (i:Int)),y7],(by simp![]),_,?_,L,Nat.le_succ_of_le hL,hok,some (.int (i:Int)),y7,rfl⟩
    rw[ye1 hw]at hne;unfold Kl
    simp![BB,Ae,hne]
   .rw[ydl hw]at hne;have hw':ws≠[]:=λz=>hw (by rw[z];rfl)
    have m3:Bi 3 (i:Int)=true:=FV (Ci (by decide) (by decide))
    have a0:Ag (mT K λi=>T.int (xs i)) (3 * (i:Int))=some (.int (xs (3 * i))):=by
     rw[show 3 * (i:Int)=((3 * i:Nat):Int) by omega]
     exact CI (by omega)
    have a1:Ag (mT K λi=>T.int (xs i)) (3 * (i:Int)+1)=some (.int (xs (3 * i+1))):=by
     rw[show 3 * (i:Int)+1=((3 * i+1:Nat):Int) by omega]
     exact CI (by omega)
    have a2:Ag (mT K λi=>T.int (xs i)) (3 * (i:Int)+2)=some (.int (xs (3 * i+2))):=by
     rw[show 3 * (i:Int)+2=((3 * i+2:Nat):Int) by omega]
     exact CI (by omega)
    have f0:=yb8 (xs (3 * i)) (show(0:Int)<4 by decide)
    have f1:=yc1 (xs (3 * i)) (show(0:Int)<4 by decide)
    have f2:=yb8 ((xs (3 * i)).fdiv 4) (show(0:Int)<2 by decide)
    have mu:Bi u ((xs (3 * i)).fmod 4)=true:=IK (Ci (by omega) (by omega))
    have n0:0<=u * ((xs (3 * i)).fmod 4)+((xs (3 * i)).fdiv 4).fmod 2:=by
     have:=Int.mul_nonneg hu f0
     omega
    have s4:Cv 4=true:=Dn (by decide) (by decide)
    obtain⟨w,hwm,ew⟩:=HI ws hw' (xs (3 * i+1));obtain⟨o,hom,eo⟩:=HI wd h0 (xs (3 * i+2));have ew':=Ha T.str ew;have eo':=Ha T.str eo;have l0:=IP hw';have l1:=IP h0;have ll:L.length<100000:=by omega
    refine⟨[some (.lst (mT K λi=>.int (xs i))),some (.int (q:Nat)),some (.lst (ws.map T.str)),some (.int u),some (.lst (wd.map T.str)),some (.own L),some (.int (i:Int)),y7],(by simp![]),[some (.lst (mT K λi=>.int (xs i))),some (.int (q:Nat)),some (.lst (ws.map T.str)),some (.int u),some (.lst (wd.map T.str)),some (.own (L++[.tup [.str w,.str o,.int (u * ((xs (3 * i)).fmod 4)+((xs (3 * i)).fdiv 4).fmod 2)]])),some (.int (i:Int)),some (.int (u * ((xs (3 * i)).fmod 4)+((xs (3 * i)).fdiv 4).fmod 2))],?_,_,(by rw[yaw,yc9];exact ydh hL),λt ht=>?_,_,_,rfl⟩
    .unfold Kl
     simp![BB,Ae,hne,m3,a0,a1,a2,mu,s4,ya1,l0,l1,ew',eo',ll]
    .rcases yar.mp ht with ht|ht
     .exact hok t ht
     .rw[yaa.mp ht];exact⟨w,o,_,rfl,hwm,hom,n0⟩
 rw[CT]at hL;have ok:C8 (q:Int)=true:=ES (by omega)
 have er:E8 0 q=mT q λi=>.int (i:Int):=E9
 refine⟨L,hok,hL,?_⟩;unfold JE Pm
 simp![ok,er,e,BB,Ae]
abbrev VI:Stmt:=AQ 79
def Kj:AJ :=
 (AH (AZ (AK El (AB (m2 BI (m2 CW (AK C4 (AB (AA 0) (AB (mC (.int 1)) AE))) (mC (.int 3))) (m2 CH (mC (.int 1009)) (AA 5))) (AB (mC (.int 4)) AE))) (AD 9))
 (CP 4 (Bj (AB (m2 CH (AO (mC (.str "abc")) (AA 5)) (m2 BI (mC (.int 1)) (AA 5))) (AB (AK JE (AB (B5 (C9 (AA 9) (some (mC (.int 1))) none) (Cn (AA 9) (some (mC (.int 1))) none)) (AB (m2 BA (AO (AA 9) (mC (.int 0))) (mC (.int 2))) (AB (AA 1) (AB (AA 2) (AB (B5 (C9 (AA 3) none (some (mC (.int 2)))) (Cn (AA 3) none (some (mC (.int 2))))) AE)))))) AE)))))
def QO:AL :=
 (m2 BF (m2 BA (m2 CW (AO (AA 2) (mC (.int 3))) (m2 BI (mC (.int 2)) (AA 0))) (mC (.int 2))) (mC (.int 0)))
def Rm:AL :=
 (AA 1)
def Ki:AJ :=
 (AH (AZ (AK El (AB (AA 7) (AB (mC (.int 12)) AE))) (AD 9))
 (AH (AZ (AO (AO (AA 4) (m2 BA (AO (AA 9) (mC (.int 0))) (m1 Ba (AA 4)))) (mC (.int 0))) (AD 10))
 (AH (AZ (AO (AO (AA 4) (m2 BA (AO (AA 9) (mC (.int 1))) (m1 Ba (AA 4)))) (mC (.int 0))) (AD 11))
 (AH (AZ (AK JE (AB (B5 (C9 (AA 9) (some (mC (.int 4))) none) (Cn (AA 9) (some (mC (.int 4))) none)) (AB (m2 BA (AO (AA 9) (mC (.int 2))) (mC (.int 3))) (AB (AA 1) (AB (AA 2) (AB (AA 3) AE)))))) (AD 12))
 (AH (AZ (BD 2 [9] (CV (AB (AA 1) AE)) (Aj 2 (AM (AD 0) (AM (AD 1) Am))) QO Rm) (AD 13))
 (CP 6 (Bj (AB (AA 10) (AB (AA 11) (AB (AA 12) (AB (AA 13) (AB (AO (BV (Ay (mC (.str "")) (Ay (mC (.str "")) (Ay (mC (.str "")) (Ay (mC (.str "")) (Ay (mC (.str "")) (Ay (mC (.str "go!")) AE))))))) (m2 BA (AO (AA 9) (mC (.int 10))) (mC (.int 6)))) AE))))))))))))
def Kk:AJ :=
 (AH (AZ (AK El (AB (m2 BI (m2 CW (AK C4 (AB (AA 0) (AB (mC (.int 3)) AE))) (mC (.int 3))) (m2 CH (mC (.int 7)) (AA 5))) (AB (mC (.int 6)) AE))) (AD 9))
 (CP 8 (Bj (AB (AO (AO (AA 4) (m2 BA (AO (AA 9) (mC (.int 0))) (m1 Ba (AA 4)))) (mC (.int 0))) (AB (AK JE (AB (B5 (C9 (AA 9) (some (mC (.int 2))) none) (Cn (AA 9) (some (mC (.int 2))) none)) (AB (m2 BA (AO (AA 9) (mC (.int 1))) (mC (.int 2))) (AB (AA 1) (AB (AA 2) (AB (AA 3) AE)))))) AE)))))
def Lh:AJ :=
 (AH (AZ (BV (Ay (mC (.str "<")) (Ay (mC (.str "<=")) (Ay (mC (.str ">")) (Ay (mC (.str ">=")) (Ay (mC (.str "=")) AE)))))) (AD 3))
 (AH (Cg 4 (BV AE))
 (AH (BU (Cc (AB (m2 BI (mC (.int 1)) (m2 BA (AK C4 (AB (AA 0) (AB (mC (.int 1)) AE))) (mC (.int 3)))) AE)) (AD 5) Kj)
 (AH (Cg 6 (BV AE))
 (AH (BU (Ap (B5 (C9 (AA 0) (some (mC (.int 4))) (some (m2 BI (mC (.int 4)) (m2 BA (AK C4 (AB (AA 0) (AB (mC (.int 2)) AE))) (mC (.int 6)))))) (Cn (AA 0) (some (mC (.int 4))) (some (m2 BI (mC (.int 4)) (m2 BA (AK C4 (AB (AA 0) (AB (mC (.int 2)) AE))) (mC (.int 6)))))))) (AD 7) Ki)
 (AH (Cg 8 (BV AE))
 (AH (BU (Cc (AB (m2 BA (AK C4 (AB (AA 0) (AB (mC (.int 3)) AE))) (mC (.int 3))) AE)) (AD 5) Kk)
 (AH (DW 4) (AH (DW 6) (AH (DW 8) (AU (Bj (AB (AA 4) (AB (AA 6) (AB (AA 8) AE)))))))))))))))
def My:List T->Option Ru:=A4 3 14 Lh
abbrev Z7:Fn:=⟨2,["_law_script","_law_watches","_law_unit"],My⟩
abbrev zg1:Gm:=gA ["_law_script","_law_watches","_law_unit","_law_words","_law_rooms","_law_k","_law_doors","_law_cell","_law_goal","_law_xs","_law_begin","_law_end","_law_guard","_law_noughts"] VI 1 [("_law_cell_at",ML),("_law_stream",Ql),("_law_looks",Z9)] ["range","len","enumerate"] ["_law_rooms","_law_doors","_law_goal"] ["_law_xs"]
theorem zgf:Ck zg1 Z7 VI Lh:={}
theorem MS{n a:Nat}{g:Nat->T}:Bc (mT (n+a) g) (some (a:Int)) none=mT n λi=>g (i+a):=by
 unfold Bc
 have e2:HT.sIx (mT (n+a) g).length 0 (some (a:Int))=a:=by
  rw[CT];simp[HT.sIx]
  omega
 have e3:HT.sIx (mT (n+a) g).length (mT (n+a) g).length none=n+a:=by rw[CT];rfl
 rw[e2,e3];refine Ey (by simp[CT]) λi hi=>?_
 rw[yco (by omega),ycq,EX (by omega),Nat.add_comm]
def Eb:Nat->Str
 |0=>"a"
 |1=>"bb"
 |_=>"ccc"
theorem znv:∀k<3,(∀i<(Eb k).cps.size,(Eb k).cps.getD i 0=47\/(97<=(Eb k).cps.getD i 0/\(Eb k).cps.getD i 0<=122))/\1<=(Eb k).cps.size/\(Eb k).cps.size<=60:=by decide +kernel
theorem znw:∀n<4,((List.range n).map Eb).Nodup:=by decide +kernel
theorem zp5{k:Nat}(hk:k<3){σ:AV}(h:σ[5]?=some (some (.int (k:Int)))):m2 CH (AO (mC (.str "abc")) (AA 5)) (m2 BI (mC (.int 1)) (AA 5)) σ=some (.v (.str (Eb k)) false):=by
 have:k=0\/k=1\/k=2:=by omega
 have l3:(("abc":Str).length<=Bp)=True:=by
  have:("abc":Str).length=3:=by decide +kernel
  rw[this];unfold Bp;simp
 rcases this with rfl|rfl|rfl<;>(simp![h,l3];first|ext|rfl)
theorem zjt{ws:List Str}(hd:ws.Nodup)(p:Nat->Bool):∃ns:List Str,((List.range ws.length).filter p).map (λi=>T.str (ws.getD i Str.empty))=ns.map T.str/\(∀x∈ns,x∈ws)/\ns.Nodup/\ns.length<=ws.length:=by
 have hin:∀i∈(List.range ws.length).filter p,i<ws.length:=λi hi=>yc7.mp (yd3.mp hi).1
 refine⟨((List.range ws.length).filter p).map λi=>ws.getD i Str.empty,by rw[ybd];rfl,λx hx=>?_,?_,?_⟩
 .obtain⟨i,hi,rfl⟩:=yac.mp hx;have:=hin i hi;rw[yag,ya0 this];exact yat this
 .rw[List.nodup_iff_pairwise_ne,List.pairwise_map];refine List.Pairwise.imp_of_mem ?_ (List.Pairwise.filter _ (List.nodup_range (n:=ws.length)));intro a b ha hb hab e;have h1:=hin a ha;have h2:=hin b hb;rw[yag,ya0 h1,yag,ya0 h2]at e;exact hab ((yb5 hd).mp e)
 .rw[ya1];have:=ycb p (List.range ws.length)
  rwa[ycy]at this
def NH:List Str:=["","","","","","go!"]
theorem zll:∀z∈NH,KI z:=λz hz=>by
 have:∀z∈NH,z=Str.ofString ""\/z=Str.ofString "go!":=by decide +kernel
 rcases this z hz with rfl|rfl
 .exact .inl rfl
 .have h:∀i<(Str.ofString "go").cps.size,97<=(Str.ofString "go").cps.getD i 0/\(Str.ofString "go").cps.getD i 0<=122:=by decide +kernel
  exact .inr ⟨Str.ofString "go",33,λi hi=>h i hi,by decide +kernel,by decide +kernel,.inl rfl,by decide +kernel⟩
abbrev AI(d:Dr):T:=.tup [.str d.s,.str d.e,.lst d.g,.lst (d.n.map T.str),.str d.z]
theorem F6{ws ns:List Str}{d:Dr}(h:DrOk ws ns d):(AI d).sh=true:=by
 have:=h.g.sh
 simp![this,Ae]
structure Pt61(ws:List Str)(rs:List (Str×List T))(ds:List Dr)(gl:List (Str×List T)):Prop where
 r:RsOk ws rs
 l:rs.length<=3
 d:∀d∈ds,DrOk ws (rs.map (·.1)) d
 dl:ds.length<=63
 g:Hn ws (rs.map (·.1)) gl
 gn:gl.length<=3
abbrev Cj(ns:List Int)(ws:List Str)(u:Int)(R:T)(y5 D y7 G y9 y10 y11 y12 y13:Option T):AV:=[some (B8 ns),some (.lst (ws.map T.str)),some (.int u),some (.lst (Bt.map T.str)),some R,y5,D,y7,G,y9,y10,y11,y12,y13]
theorem zhi(ns:List Int)(hns:ns.length<=63){ws:List Str}(tw:Bd ws)(hd:ws.Nodup)(h7:ws.length<=7){u:Int}(hu:0<=u):∃rs ds gl,Pt61 ws rs ds gl/\My [B8 ns,.lst (ws.map T.str),.int u]=some (.ok (.tup [.lst (rs.map AF),.lst (ds.map AI),.lst (gl.map AF)])):=by
 have F:=Nq ns;have F2:=Np ns;have c1:=Jy ns (k:=1) (by decide)
 have c2:=Jy ns (k:=2) (by decide)
 have c3:=Jy ns (k:=3) (by decide)
 generalize ns.getD (1:Int).toNat 0=f1 at *;generalize ns.getD (2:Int).toNat 0=f2 at *;generalize ns.getD (3:Int).toNat 0=f3 at *;have t3:Cv 3=true:=Dn (by decide) (by decide)
 have cw:Bc (Bt.map T.str) none (some 2)=Em.map T.str:=by ext
 have modn:∀(x:Int) (k:Nat),0<k->∃q:Nat,x.fmod (k:Int)=(q:Int)/\q<k:=λx k hk=>by
  obtain⟨i,e,h⟩:=HJ hk x;exact⟨i,e,h⟩
 obtain⟨p,ep,p3⟩:=modn f1 3 (by decide)
 have ep:f1.fmod 3=(p:Int):=ep
 have w3:∀(k:Nat) (R:List T) (y5 y9:Option T),k<3->R.length<=k->∃L:List T,CN ws Em L/\L.length<=1/\∃y9',Kj (Cj ns ws u (.own R) (some (.int (k:Int))) none none none y9 none none none none)=some (.nx (Cj ns ws u (.own (R++[.tup [.str (Eb k),.lst L]])) (some (.int (k:Int))) none none none y9' none none none none)):=λk R y5 y9 hk hR=>by
  obtain⟨xs,st⟩:=Kz (f1.fdiv 3+1009 * (k:Int)) (m:=4) (by decide)
  have st:El [.int (f1.fdiv 3+1009 * (k:Int)),.int 4]=some (.ok (.own (mT 4 λi=>.int (xs i)))):=st
  obtain⟨q,eq,q2⟩:=modn (xs 0) 2 (by decide)
  have eq:(xs 0).fmod 2=(q:Int):=eq;obtain⟨L,h1,h2,lk⟩:=Pz (wd:=Em) tw (by decide) (K:=3) (λi=>xs (i+1)) (q:=q) (by omega) (by decide) hu
  have m1:Bi 1009 (k:Int)=true:=FV (Ci (by decide) (by decide))
  have cu:Bc (mT 4 λi=>T.int (xs i)) (some 1) none=mT 3 λi=>.int (xs (i+1)):=MS (n:=3) (a:=1) (g:=λi=>T.int (xs i))
  have a0:Ag (mT 4 λi=>T.int (xs i)) 0=some (.int (xs 0)):=CI (k:=0) (by decide)
  have sL:=h1.sh;have lR:R.length<100000:=by omega
  refine⟨L,h1,by omega,some (.lst (mT 4 λi=>.int (xs i))),?_⟩
  unfold Kj;have ab:=zp5 hk (σ:=Cj ns ws u (.own R) (some (.int (k:Int))) none none none (some (.lst (mT 4 λi=>.int (xs i)))) none none none none) rfl
  unfold Cj at ab ⊢;have sw:A3 (Bt.map T.str)=true:=Ae _;have sv:A3 (ws.map T.str)=true:=Ae _;have ss:A3 (Em.map T.str)=true:=Ae _;generalize m2 CH (AO (mC (.str "abc")) (AA 5)) (m2 BI (mC (.int 1)) (AA 5))=MM at ab ⊢;generalize B8 ns=S at *;generalize ws.map T.str=WS at *;generalize Bt.map T.str=WD at *;generalize Em.map T.str=SD at *;refine sq (by simp![F,F2,c1,t3,m1,st];rfl) ?_
  simp![ab,a0,eq,cu,sv,AG _ sv,sw,AG _ sw,ss,AG _ ss,cw,lk,sL,AG _ sL,lR]
 obtain⟨τ1,e1,rs,er,lr,y5,y9,rfl⟩:=Dg (b:=AD 5) (body:=Kj) (ts:=mT (1+p) λi=>.int (i:Int)) (τ:=Cj ns ws u (.own []) none none none none none none none none none)
  (λi τ=>∃rs:List (Str×List T),rs.map (·.1)=(List.range i).map Eb/\(∀r∈rs,CN ws Em r.2/\r.2.length<=1)/\∃y5 y9,τ=Cj ns ws u (.own (rs.map AF)) y5 none none none y9 none none none none) ⟨[],rfl,λ_ z=>(by cases z),none,none,rfl⟩ λi t τ h1 h2=>by
   obtain⟨hi,rfl⟩:=Fu h1;obtain⟨rs,er,lr,y5,y9,rfl⟩:=h2
   have lrs:(rs.map AF).length<=i:=by
    have:=congrArg List.length er;simp only[ya1,ycy]at this;rw[ya1]
    omega
   obtain⟨L,h1,h2,y9',e⟩:=w3 i (rs.map AF) y5 y9 (by omega) lrs
   refine⟨_,by unfold Cj;simp![],_,e,rs++[(Eb i,L)],?_,λr hr=>?_,some (.int (i:Int)),y9',?_⟩
   .rw[yas,er,List.range_succ,yas]
    rfl
   .rcases yar.mp hr with hr|hr
    .exact lr r hr
    .rw[yaa.mp hr];exact⟨h1,h2⟩
   .rw[yas]
    rfl
 rw[CT]at er
 have lrs:rs.length=1+p:=by
  have:=congrArg List.length er
  simpa using this
 have rok:RsOk ws rs:=⟨by omega,by omega,λr hr=>by
  have:r.1∈(List.range (1+p)).map Eb:=by rw[<- er];exact yac.mpr ⟨r,hr,rfl⟩
  obtain⟨k,hk,e⟩:=yac.mp this;rw[<- e];exact znv k (by have:=yc7.mp hk;omega),by rw[er];exact znw _ (by omega),λr hr=>⟨(lr r hr).1,by have:=(lr r hr).2;omega⟩⟩
 have sR:=Ep rok;have rne:rs≠[]:=λz=>by rw[z]at lrs;simp at lrs;omega
 have rat:∀x:Int,∃r∈rs,Ag (rs.map AF) (x.fmod ((rs.map AF).length:Nat))=some (AF r):=λx=>by
  obtain⟨r,h1,h2⟩:=HI rs rne x;rw[ya1];exact⟨r,h1,Ha AF h2⟩
 have l0:(((rs.map AF).length:Nat):Int)≠0:=by rw[ya1];exact IP rne
 have w7:∀(D:List T) (c:Int) (y5 y9 y10 y11 y12 y13:Option T),D.length<=63->∃d:Dr,DrOk ws (rs.map (·.1)) d/\∃z9 z10 z11 z12 z13,Ki (Cj ns ws u (.own (rs.map AF)) y5 (some (.own D)) (some (.int c)) none y9 y10 y11 y12 y13)=some (.nx (Cj ns ws u (.own (rs.map AF)) y5 (some (.own (D++[AI d]))) (some (.int c)) none z9 z10 z11 z12 z13)):=λD c y5 y9 y10 y11 y12 y13 hD=>by
  obtain⟨xs,st⟩:=Kz c (m:=12) (by decide)
  have st:El [.int c,.int 12]=some (.ok (.own (mT 12 λi=>.int (xs i)))):=st
  have xat:∀k:Nat,k<12->Ag (mT 12 λi=>T.int (xs i)) (k:Int)=some (.int (xs k)):=λk hk=>CI hk
  have a0:Ag (mT 12 λi=>T.int (xs i)) 0=some (.int (xs 0)):=xat 0 (by decide)
  have a1:Ag (mT 12 λi=>T.int (xs i)) 1=some (.int (xs 1)):=xat 1 (by decide)
  have a2:Ag (mT 12 λi=>T.int (xs i)) 2=some (.int (xs 2)):=xat 2 (by decide)
  have a3:Ag (mT 12 λi=>T.int (xs i)) 3=some (.int (xs 3)):=xat 3 (by decide)
  have a10:Ag (mT 12 λi=>T.int (xs i)) 10=some (.int (xs 10)):=xat 10 (by decide)
  obtain⟨rb,hb,eb⟩:=rat (xs 0);obtain⟨re,he,ee⟩:=rat (xs 1);obtain⟨q,eq,q2⟩:=modn (xs 2) 3 (by decide)
  have eq:(xs 2).fmod 3=(q:Int):=eq;obtain⟨L,h1,h2,lk⟩:=Pz (wd:=Bt) tw (by decide) (K:=8) (λi=>xs (i+4)) (q:=q) (by omega) (by decide) hu
  have cu:Bc (mT 12 λi=>T.int (xs i)) (some 4) none=mT 8 λi=>.int (xs (i+4)):=MS (n:=8) (a:=4) (g:=λi=>T.int (xs i))
  obtain⟨zz,hz,ez⟩:=HI NH (by decide) (xs 10)
  have ez:Ag [T.str "",.str "",.str "",.str "",.str "",.str "go!"] ((xs 10).fmod 6)=some (.str zz):=Ha T.str ez;obtain⟨ys,ey,y1,y2,y3⟩:=zjt hd λi=>((xs 3).fdiv (2+(i:Int))).fmod 2 == 0
  have lc:=IQ (b:=Aj 2 (AM (AD 0) (AM (AD 1) Am))) (mt:=QO) (me:=Rm) (λi:Nat=>.tup [.int (i:Int),.str (ws.getD i Str.empty)]) (λi=>.str (ws.getD i Str.empty)) (λi=>((xs 3).fdiv (2+(i:Int))).fmod 2 == 0) (λτ=>∃x y,τ=[x,y,some (.lst (mT 12 λi=>.int (xs i)))]) (List.range ws.length) [none,none,some (.lst (mT 12 λi=>.int (xs i)))] ⟨_,_,rfl⟩ λi hi τ hI=>by
   obtain⟨x,y,rfl⟩:=hI;have hi':=yc7.mp hi;have si:Cv (2+(i:Int))=true:=Dn (Int.lt_of_lt_of_le (b:=0) (by decide +kernel) (by omega)) (Int.lt_trans (b:=20) (by omega) (by decide +kernel))
   have ni:(2+(i:Int)=0)=False:=eq_false (by omega)
   refine⟨[some (.int (i:Int)),some (.str (ws.getD i Str.empty)),some (.lst (mT 12 λi=>.int (xs i)))],false,by simp![],?_,λ_=>?_,_,_,rfl⟩
   .unfold QO
    simp![a3,si,ni,Cr]
   .unfold Rm
    simp![]
  rw[ey]at lc
  have en:EI 0 (ws.map T.str)=(List.range ws.length).map λi:Nat=>.tup [.int (i:Int),.str (ws.getD i Str.empty)]:=by
   rw[JV,Ga]
   rfl
  have lw:(List.map (λi:Nat=>T.tup [.int (i:Int),.str (ws.getD i Str.empty)]) (List.range ws.length)).length<=100000:=by
   rw[ya1,ycy]
   omega
  have sL:=h1.sh;have sy:A3 (ys.map T.str)=true:=Ae _;have lD:D.length<100000:=by omega
  refine⟨⟨rb.1,re.1,L,ys,zz⟩,⟨yac.mpr ⟨rb,hb,rfl⟩,yac.mpr ⟨re,he,rfl⟩,h1,by show L.length<=_;omega,y1,y2,by show ys.length<=_;omega,zll zz hz⟩,some (.lst (mT 12 λi=>.int (xs i))),some (.str rb.1),some (.str re.1),some (.lst L),some (.lst (ys.map T.str)),?_⟩
  have sw:A3 (Bt.map T.str)=true:=Ae _;have sv:A3 (ws.map T.str)=true:=Ae _
  have b1:(AF rb).sh=true:=by
   have:=(rok.lk rb hb).1.sh
   simp![this]
  have b2:(AF re).sh=true:=by
   have:=(rok.lk re he).1.sh
   simp![this]
  unfold Ki;unfold Cj AI;generalize (List.map (λi:Nat=>T.tup [.int (i:Int),.str (ws.getD i Str.empty)]) (List.range ws.length))=EN at *
  generalize B8 ns=S at *;generalize ws.map T.str=WS at *;generalize Bt.map T.str=WD at *;generalize ys.map T.str=YS at *;generalize rs.map AF=RS at *;refine sq (by simp![F,F2,st];rfl) ?_
  refine sq (by simp![a0,AG _ sR,l0,eb,b1];rfl) ?_
  refine sq (by simp![a1,AG _ sR,l0,ee,b2];rfl) ?_
  refine sq (by simp![a2,eq,cu,sv,AG _ sv,sw,AG _ sw,lk,sL,AG _ sL];rfl) ?_
  refine sq (by simp![sv,AG _ sv,CV,en,lw,lc,sy,AG _ sy];rfl) ?_
  simp![a10,ez,sL,AG _ sL,sy,AG _ sy,lD]
 obtain⟨q6,eq6,_⟩:=modn f2 6 (by decide)
 have eq6:f2.fmod 6=(q6:Int):=eq6;have cm:Bc (ns.map T.int) (some 4) (some (4+(q6:Int)))=(Bc ns (some 4) (some (4+(q6:Int)))).map T.int:=Qw _ _ _ _;have cl:=Qy ns (some 4) (some (4+(q6:Int)));generalize Bc ns (some 4) (some (4+(q6:Int)))=cs at *
 obtain⟨τ2,e2,ds,hds,ld,y7,z9,y10,y11,y12,y13,rfl⟩:=Dg (b:=AD 7) (body:=Ki) (ts:=cs.map T.int) (τ:=Cj ns ws u (.own (rs.map AF)) y5 (some (.own [])) none none y9 none none none none)
  (λi τ=>∃ds:List Dr,(∀d∈ds,DrOk ws (rs.map (·.1)) d)/\ds.length=i/\∃y7 y9 y10 y11 y12 y13,τ=Cj ns ws u (.own (rs.map AF)) y5 (some (.own (ds.map AI))) y7 none y9 y10 y11 y12 y13) ⟨[],λ_ z=>(by cases z),rfl,none,y9,none,none,none,none,rfl⟩ λi t τ h1 h2=>by
   obtain⟨ds,hds,ld,y7,z9,y10,y11,y12,y13,rfl⟩:=h2;have hi:i<cs.length:=by simpa using (ya2.mp h1).1
   rw[ya7,ya0 hi]at h1;have et:=(yal h1).symm;subst et;obtain⟨d,hd,z9',z10,z11,z12,z13,e⟩:=w7 (ds.map AI) cs[i] y5 z9 y10 y11 y12 y13 (by rw[ya1];omega)
   refine⟨_,by unfold Cj;simp![],_,e,ds++[d],λx hx=>?_,by rw[yaw,ld];rfl,some (.int cs[i]),z9',z10,z11,z12,z13,by rw[yas];rfl⟩
   rcases yar.mp hx with hx|hx
   .exact hds x hx
   .rw[yaa.mp hx];exact hd
 rw[ya1]at ld
 have w15:∀(k:Nat) (G:List T) (D:T) (y7 y9 y10 y11 y12 y13:Option T),k<3->G.length<=k->∃g:Str×List T,(g.1∈rs.map (·.1)/\CN ws Bt g.2/\g.2.length<=2)/\∃y9',Kk (Cj ns ws u (.own (rs.map AF)) (some (.int (k:Int))) (some D) y7 (some (.own G)) y9 y10 y11 y12 y13)=some (.nx (Cj ns ws u (.own (rs.map AF)) (some (.int (k:Int))) (some D) y7 (some (.own (G++[AF g]))) y9' y10 y11 y12 y13)):=λk G D y7 y9 y10 y11 y12 y13 hk hG=>by
  obtain⟨xs,st⟩:=Kz (f3.fdiv 3+7 * (k:Int)) (m:=6) (by decide)
  have st:El [.int (f3.fdiv 3+7 * (k:Int)),.int 6]=some (.ok (.own (mT 6 λi=>.int (xs i)))):=st
  obtain⟨q,eq,q2⟩:=modn (xs 1) 2 (by decide)
  have eq:(xs 1).fmod 2=(q:Int):=eq;obtain⟨L,h1,h2,lk⟩:=Pz (wd:=Bt) tw (by decide) (K:=4) (λi=>xs (i+2)) (q:=q) (by omega) (by decide) hu
  have m1:Bi 7 (k:Int)=true:=FV (Ci (by decide) (by decide))
  have cu:Bc (mT 6 λi=>T.int (xs i)) (some 2) none=mT 4 λi=>.int (xs (i+2)):=MS (n:=4) (a:=2) (g:=λi=>T.int (xs i))
  have a0:Ag (mT 6 λi=>T.int (xs i)) 0=some (.int (xs 0)):=CI (k:=0) (by decide)
  have a1:Ag (mT 6 λi=>T.int (xs i)) 1=some (.int (xs 1)):=CI (k:=1) (by decide)
  obtain⟨rb,hb,eb⟩:=rat (xs 0)
  have b1:(AF rb).sh=true:=by
   have:=(rok.lk rb hb).1.sh
   simp![this]
  have sL:=h1.sh;have lG:G.length<100000:=by omega
  refine⟨(rb.1,L),⟨yac.mpr ⟨rb,hb,rfl⟩,h1,by show L.length<=_;omega⟩,some (.lst (mT 6 λi=>.int (xs i))),?_⟩
  unfold Kk;unfold Cj;have sw:A3 (Bt.map T.str)=true:=Ae _;have sv:A3 (ws.map T.str)=true:=Ae _;generalize B8 ns=S at *;generalize ws.map T.str=WS at *;generalize Bt.map T.str=WD at *;generalize rs.map AF=RS at *;refine sq (by simp![F,F2,c3,t3,m1,st];rfl) ?_
  simp![a0,AG _ sR,l0,eb,b1,a1,eq,cu,sv,AG _ sv,sw,AG _ sw,lk,sL,AG _ sL,lG]
 obtain⟨q3,eq3,q3l⟩:=modn f3 3 (by decide)
 have eq3:f3.fmod 3=(q3:Int):=eq3
 obtain⟨τ3,e3,gl,hgl,lg,y5',z9',rfl⟩:=Dg (b:=AD 5) (body:=Kk) (ts:=mT q3 λi=>.int (i:Int)) (τ:=Cj ns ws u (.own (rs.map AF)) y5 (some (.own (ds.map AI))) y7 (some (.own [])) z9 y10 y11 y12 y13)
  (λi τ=>∃gl:List (Str×List T),Hn ws (rs.map (·.1)) gl/\gl.length=i/\∃y5 y9,τ=Cj ns ws u (.own (rs.map AF)) y5 (some (.own (ds.map AI))) y7 (some (.own (gl.map AF))) y9 y10 y11 y12 y13) ⟨[],λ_ z=>(by cases z),rfl,y5,z9,rfl⟩ λi t τ h1 h2=>by
   obtain⟨hi,rfl⟩:=Fu h1;obtain⟨gl,hgl,lg,y5,y9,rfl⟩:=h2;obtain⟨g,hg,y9',e⟩:=w15 i (gl.map AF) (.own (ds.map AI)) y7 y9 y10 y11 y12 y13 (by omega) (by rw[ya1];omega)
   refine⟨_,by unfold Cj;simp![],_,e,gl++[g],λx hx=>?_,by rw[yaw,lg];rfl,some (.int (i:Int)),y9',by rw[yas];rfl⟩
   rcases yar.mp hx with hx|hx
   .exact hgl x hx
   .rw[yaa.mp hx];exact hg
 rw[CT]at lg;have sD:A3 (ds.map AI)=true:=By λd hd=>F6 (hds d hd)
 have sG:=hgl.sh;refine⟨rs,ds,gl,⟨rok,by omega,hds,by omega,hgl,by omega⟩,?_⟩
 have o1:C8 (1+(p:Int))=true:=ES (n:=1+p) (by omega)
 have o3:C8 (q3:Int)=true:=ES (by omega)
 have t1:(1+(p:Int)).toNat=1+p:=by omega
 have r1:E8 0 (1+p)=mT (1+p) λi=>.int (i:Int):=E9
 have r3:E8 0 q3=mT q3 λi=>.int (i:Int):=E9
 have run:Lh [some (B8 ns),some (.lst (ws.map T.str)),some (.int u),none,none,none,none,none,none,none,none,none,none,none]=some (.rt (.tup [.lst (rs.map AF),.lst (ds.map AI),.lst (gl.map AF)])):=by
  unfold Lh;unfold Cj at e1 e2 e3;have sC:BS (cs.map T.int)=cs.map T.int:=GL _
  have e0:B5 (C9 (AA 0) (some (mC (.int 4))) (some (m2 BI (mC (.int 4)) (m2 BA (AK C4 (AB (AA 0) (AB (mC (.int 2)) AE))) (mC (.int 6)))))) (Cn (AA 0) (some (mC (.int 4))) (some (m2 BI (mC (.int 4)) (m2 BA (AK C4 (AB (AA 0) (AB (mC (.int 2)) AE))) (mC (.int 6)))))) [some (B8 ns),some (.lst (ws.map T.str)),some (.int u),some (.lst (Bt.map T.str)),some (.own (rs.map AF)),y5,some (.own []),none,none,y9,none,none,none,none]=some (.v (.own (cs.map T.int)) false):=by
   unfold B8 at c2 F F2 ⊢
   simp![IC,GL,c2,eq6,cm]
  generalize B5 (C9 (AA 0) (some (mC (.int 4))) (some (m2 BI (mC (.int 4)) (m2 BA (AK C4 (AB (AA 0) (AB (mC (.int 2)) AE))) (mC (.int 6)))))) (Cn (AA 0) (some (mC (.int 4))) (some (m2 BI (mC (.int 4)) (m2 BA (AK C4 (AB (AA 0) (AB (mC (.int 2)) AE))) (mC (.int 6))))))=SL at *;generalize B8 ns=S at *;have ew:(Bt.map T.str)=[.str "<",.str "<=",.str ">",.str ">=",.str "="]:=rfl;generalize ws.map T.str=WS at *;generalize rs.map AF=RS at *;generalize ds.map AI=DS at *;generalize gl.map AF=GS at *;generalize cs.map T.int=CS at *;refine sq (τ':=[some S,some (.lst WS),some (.int u),some (.lst (Bt.map T.str)),none,none,none,none,none,none,none,none,none,none]) (by rw[ew];simp![]) ?_
  generalize Bt.map T.str=WD at *;refine sq (τ':=[some S,some (.lst WS),some (.int u),some (.lst WD),some (.own []),none,none,none,none,none,none,none,none,none]) (by simp![]) ?_
  refine sq (τ':=[some S,some (.lst WS),some (.int u),some (.lst WD),some (.own RS),y5,none,none,none,y9,none,none,none,none]) (by simp![F,F2,c1,ep,o1,t1,r1,e1]) ?_
  refine sq (τ':=[some S,some (.lst WS),some (.int u),some (.lst WD),some (.own RS),y5,some (.own []),none,none,y9,none,none,none,none]) (by simp![]) ?_
  refine sq (τ':=[some S,some (.lst WS),some (.int u),some (.lst WD),some (.own RS),y5,some (.own DS),y7,none,z9,y10,y11,y12,y13]) (by simp![e0,sC,e2]) ?_
  refine sq (τ':=[some S,some (.lst WS),some (.int u),some (.lst WD),some (.own RS),y5,some (.own DS),y7,some (.own []),z9,y10,y11,y12,y13]) (by simp![]) ?_
  refine sq (τ':=[some S,some (.lst WS),some (.int u),some (.lst WD),some (.own RS),y5',some (.own DS),y7,some (.own GS),z9',y10,y11,y12,y13]) (by simp![F,F2,c3,eq3,o3,r3,e3]) ?_
  simp![sR,AG _ sR,sD,AG _ sD,sG,AG _ sG]
 unfold My;have sv:A3 (ws.map T.str)=true:=Ae _;generalize B8 ns=S at *;generalize ws.map T.str=WS at *
 simp![F,F2,sv,AG _ sv,run]
abbrev VQ:Stmt:=AQ 80
def Rv:AL :=
 (Bj (AB (m2 BI (mC (.int 1)) (HP (AA 3) (AA 0))) (AB (AA 1) (AB (AA 2) AE))))
def Pp:AJ :=
 (AU (BD 3 [1] (Ap (AA 0)) (Aj 3 (AM (AD 0) (AM (AD 1) (AM (AD 2) Am)))) (mC (.bl true)) Rv))
def JF:List T->Option Ru:=A4 2 2 Pp
abbrev MN:Fn:=⟨1,["_law_looks_here","_law_watches"],JF⟩
abbrev zca:Gm:=gA ["_law_looks_here","_law_watches"] VQ 0 [] [] [] ["_law_watches"]
theorem zci:Ck zca MN VQ Pp:={}
theorem Rx{ws:List Str}(h7:ws.length<=7){l:List T}(hl:CN ws Bt l)(hn:l.length<=1000):JF [.lst l,.lst (ws.map T.str)]=some (.ok (.own ((l.map (B9 ws)).map An))):=by
 have sl:=hl.sh;have l1:ws.length<1000000:=by omega
 have lc:=DB (b:=Aj 3 (AM (AD 0) (AM (AD 1) (AM (AD 2) Am)))) (me:=Rv) (λt:T=>t) (λt=>An (B9 ws t)) (λτ=>∃x y z,τ=[x,y,z,some (.lst (ws.map T.str))]) l [none,none,none,some (.lst (ws.map T.str))] ⟨none,none,none,rfl⟩ λt ht τ hI=>by
  obtain⟨x,y,z,rfl⟩:=hI;obtain⟨k1,k2,k3,k4⟩:=Lm (hl t ht);obtain⟨j,ej,_⟩:=HS k2;refine⟨[some (.str (FA t)),some (.str (EZ t)),some (.int (E1 t)),some (.lst (ws.map T.str))],by rw[k1];simp![FA,EZ,E1],?_,_,_,_,rfl⟩
  have e:An (B9 ws t)=.tup [.int (1+(j:Int)),.str (EZ t),.int (E1 t)]:=by
   unfold B9;rw[ej,show An ((some j).getD 0+1,Gn (EZ t),E1 t)=.tup [.int ((j+1:Nat):Int),.str (Dz (Gn (EZ t))),.int (E1 t)] from rfl,(NK _ k3).1,yci,Int.add_comm]
   rfl
  rw[e];unfold Rv
  simp![BB,Ae,JW,ej,l1]
 rw[List.map_id']at lc;rw[ybd];have ll:l.length<=100000:=by omega
 have ef:(An ∘ B9 ws)=λt=>An (B9 ws t):=rfl
 rw[ef];unfold JF Pp;generalize (l.map λt=>An (B9 ws t))=LL at *
 simp![sl,AG _ sl,BB,Ae,ll,lc]
abbrev VH:Stmt:=AQ 81
def Hr:AJ :=
 (A2 (m2 BF (AA 4) (AA 1)) (AU (AK Dw (AB (AA 0) (AB (AK JF (AB (AA 5) (AB (AA 3) AE))) AE)))) A8)
def Pl:AJ :=
 (AH (BU (Ap (AA 2)) (Aj 2 (AM (AD 4) (AM (AD 5) Am))) Hr)
 (AU (mC .non)))
def Dj:List T->Option Ru:=A4 4 6 Pl
abbrev MK:Fn:=⟨5,["_law_zone","_law_room","_law_rooms","_law_watches"],Dj⟩
abbrev zeo:Gm:=gA ["_law_zone","_law_room","_law_rooms","_law_watches","_law_name","_law_stay"] VH 4 [("met",HX),("_law_by_places",MN)] []
theorem zf1:Ck zeo MK VH Pl:={}
theorem IB{ws:List Str}(tw:Bd ws)(h7:ws.length<=7){rs:List (Str×List T)}(hr:RsOk ws rs){f:Db.Z}(hf:Db.Nar (ws.length+1) f){x:Str}(hx:x∈rs.map (·.1)):Dj [zT (ws.length+1) f,.str x,.lst (rs.map AF),.lst (ws.map T.str)]=some (.ok (oT (ws.length+1) (A5 (A7 ws rs x) f))):=by
 have sZ:=BX (ws.length+1) f;have sr:=Ep hr;have tn:∀r∈rs,PyData.strOk r.1=true:=λr h=>GQ (hr.nm r h).1
 have tx:PyData.strOk x=true:=by
  obtain⟨r,h,rfl⟩:=yac.mp hx;exact tn r h
 have loop:∀(L:List (Str×List T)) (y4 y5:Option T),(∀r∈L,r∈rs)->x∈L.map (·.1)->BW (Aj 2 (AM (AD 4) (AM (AD 5) Am))) Hr (L.map AF) [some (zT (ws.length+1) f),some (.str x),some (.lst (rs.map AF)),some (.lst (ws.map T.str)),y4,y5]=some (.rt (oT (ws.length+1) (A5 (A7 ws rs x) f))):=by
  intro L
  induction L with
  |nil=>exact λ_ _ _ h=>by cases h
  |cons r L ih =>
   intro y4 y5 hL hx;have lk:=hr.lk r (hL r (.head _));have s2:=lk.1.sh;have eq:=Ef (tn r (hL r (.head _))) tx;have so:=CQ (ws.length+1) (A5 (A7 ws rs x) f);rw[yap];unfold BW
   have bb:Aj 2 (AM (AD 4) (AM (AD 5) Am)) (AF r) [some (zT (ws.length+1) f),some (.str x),some (.lst (rs.map AF)),some (.lst (ws.map T.str)),y4,y5]=some [some (zT (ws.length+1) f),some (.str x),some (.lst (rs.map AF)),some (.lst (ws.map T.str)),some (.str r.1),some (.lst r.2)]:=by
    generalize zT (ws.length+1) f=Z at *
    simp![s2,AG _ s2]
   by_cases q:r.1=x
   .rw[ye1 q]at eq;have bp:=Rx h7 lk.1.wd lk.2;rw[<- JX (ws:=ws) hr.nd (hL r (.head _)),q]at bp
    have mt:=HH (m:=ws.length) (by omega) hf (L:=A7 ws rs x) (by
     rw[<- q,JX hr.nd (hL r (.head _))];exact Fj lk.1.wd)
    have sl:=DZ (A7 ws rs x)
    have w:Hr [some (zT (ws.length+1) f),some (.str x),some (.lst (rs.map AF)),some (.lst (ws.map T.str)),some (.str r.1),some (.lst r.2)]=some (.rt (oT (ws.length+1) (A5 (A7 ws rs x) f))):=by
     unfold Hr;generalize (A7 ws rs x).map An=LL at *;generalize oT (ws.length+1) (A5 (A7 ws rs x) f)=O at *;generalize zT (ws.length+1) f=Z at *
     simp![eq,sZ,AN _ sZ,s2,AG _ s2,BB,Ae,bp,sl,AG _ sl,mt,so,AN _ so]
    simp only[bb,w]
   .rw[ydl q]at eq
    have w:Hr [some (zT (ws.length+1) f),some (.str x),some (.lst (rs.map AF)),some (.lst (ws.map T.str)),some (.str r.1),some (.lst r.2)]=some (.nx [some (zT (ws.length+1) f),some (.str x),some (.lst (rs.map AF)),some (.lst (ws.map T.str)),some (.str r.1),some (.lst r.2)]):=by
     unfold Hr
     simp![eq]
    simp only[bb,w];exact ih _ _ (λr h=>hL r (.tail _ h)) ((yaf.mp hx).resolve_left (yao q))
 have e:=loop rs none none (λ_ h=>h) hx
 have so:=CQ (ws.length+1) (A5 (A7 ws rs x) f);generalize oT (ws.length+1) (A5 (A7 ws rs x) f)=O at *;generalize zT (ws.length+1) f=Z at *;generalize rs.map AF=RS at *;unfold Dj Pl
 simp![sZ,AN _ sZ,sr,AG _ sr,BB,Ae,e,so,AN _ so]
abbrev VN:Stmt:=AQ 83
def MZ:AL :=
 (m1 CZ (AA 0))
def Hv:AJ :=
 (AH (AZ (AO (AA 0) (m2 BI (m2 CH (AA 4) (m2 BI (AA 1) (mC (.int 1)))) (AA 5))) (AD 6))
 (A2 (m2 BF (m2 BA (AA 6) (mC (.int 3))) (mC (.int 0))) (IE 3 (AA 4) (AA 5) (AO (BV (Ay (mC .non) (Ay (m2 Fd (m2 BI (m2 CH (m2 CH (mC (.int 2)) (AA 2)) (m2 BA (m2 CW (AA 6) (mC (.int 3))) (mC (.int 4)))) (m2 BA (m2 CW (AA 6) (mC (.int 12))) (mC (.int 4)))) (mC (.int 1))) AE))) (m1 Jm (m2 (C1 λi j=>decide (j<i)) (m2 BA (m2 CW (AA 6) (mC (.int 48))) (mC (.int 5))) (mC (.int 0)))))) A8))
def N0:AJ :=
 (BU (Cc (AB (m2 BI (AA 1) (mC (.int 1))) AE)) (AD 5) Hv)
def Pn:AJ :=
 (AH (Cg 3 (BD 1 [] (Ap (AK Hm (AB (AA 1) AE))) (AD 0) (mC (.bl true)) MZ))
 (AH (BU (Cc (AB (m2 BI (AA 1) (mC (.int 1))) AE)) (AD 4) N0)
 (AU (AA 3))))
def NB:List T->Option Ru:=A4 3 7 Pn
abbrev Zb:Fn:=⟨4,["_law_xs","_law_many","_law_unit"],NB⟩
abbrev zbv:Gm:=gA ["_law_xs","_law_many","_law_unit","_law_rows","_law_i","_law_j","_law_x"] VN 3 [("everywhere",Qd)] ["list","range","int"] ["_law_rows"]
theorem zc2:Ck zbv Zb VN Pn:={}
theorem dz_ex{m:Nat}(hm:m<=2)(xs:Nat->Int)(u:Int):∃f:Db.Z,NB [.lst (mT 9 λi=>.int (xs i)),.int (m:Nat),.int u]=some (.ok (.own (oZ (m+1) f))):=by
 have ev:Hm [.int (m:Nat)]=some (.ok (.own (oZ (m+1) Db.free))):=Zq (by omega)
 have lc:=DC (n:=m+1) (me:=MZ) (x:=none) (cs:=[]) (g:=λi=>rT (m+1) (Db.free i)) (f:=λi=>.own (mT (m+1) λj=>bT (Db.free i j))) λi hi=>by
  unfold MZ
  simp![]
 have o1:C8 ((m:Int)+1)=true:=ES (n:=m+1) (by omega)
 have o2:((m:Int)+1).toNat=m+1:=by omega
 have r1:E8 0 (m+1)=mT (m+1) λi=>.int (i:Int):=E9
 have l1:m+1<=100000:=by omega
 have e3:∀(i j:Nat) (g:Db.Z) (y:Option T),i<m+1->j<m+1->∃(h:Db.Z) (y':Option T),Hv [some (.lst (mT 9 λi=>.int (xs i))),some (.int (m:Nat)),some (.int u),some (.own (oZ (m+1) g)),some (.int (i:Int)),some (.int (j:Int)),y]=some (.nx [some (.lst (mT 9 λi=>.int (xs i))),some (.int (m:Nat)),some (.int u),some (.own (oZ (m+1) h)),some (.int (i:Int)),some (.int (j:Int)),y']):=λi j g y hi hj=>by
  have lt:i * (m+1)+j<9:=by
   have h1:i * (m+1)<=m * (m+1):=Nat.mul_le_mul_right _ (by omega)
   have h2:m * (m+1)+m<9:=by
    have:m=0\/m=1\/m=2:=by omega
    rcases this with rfl|rfl|rfl<;>decide
   omega
  have m1:Bi (i:Int) ((m:Int)+1)=true:=FV (Ci (by omega) (by omega))
  have a0:Ag (mT 9 λi=>T.int (xs i)) ((i:Int) * ((m:Int)+1)+(j:Int))=some (.int (xs (i * (m+1)+j))):=by
   rw[show(i:Int) * ((m:Int)+1)+(j:Int)=((i * (m+1)+j:Nat):Int) by rw[yci,Int.natCast_mul];rfl]
   exact CI lt
  generalize xs (i * (m+1)+j)=x at *;have t3:Cv 3=true:=Dn (by decide) (by decide)
  have t12:Cv 12=true:=Dn (by decide) (by decide)
  have t48:Cv 48=true:=Dn (by decide) (by decide)
  have f4:=yb8 (x.fdiv 3) (show(0:Int)<4 by decide)
  have f5:=yc1 (x.fdiv 3) (show(0:Int)<4 by decide)
  have m2':Bi 2 u=true:=FV (Ci (by decide) (by decide))
  have m3:Bi (2 * u) ((x.fdiv 3).fmod 4)=true:=IK (Ci (by omega) (by omega))
  have i1:Cq (m+1) (i:Int)=some i:=Lw hi;have i0:Cq (m+1) (j:Int)=some j:=Lw hj;have g1:(oZ (m+1) g)[i]?=some (.own (mT (m+1) λj=>bT (g i j))):=EX hi
  by_cases q:x.fmod 3=0
  .have q':(x.fmod 3 == 0)=true:=by simpa using q
   by_cases p:0<(x.fdiv 48).fmod 5
   .have st:=OP (n:=m+1) (f:=g) (a:=i) (b:=j) (c:=some (2 * u * ((x.fdiv 3).fmod 4)+(x.fdiv 12).fmod 4 - 1));rw[M0]at st;refine⟨λi_1 j_1=>if i_1=i/\j_1=j then some (2 * u * ((x.fdiv 3).fmod 4)+(x.fdiv 12).fmod 4 - 1) else g i_1 j_1,some (.int x),?_⟩
    rw[<- st];unfold Hv;refine sq (by simp![m1,a0];rfl) ?_
    simp![t3,Cr,q,q',t12,t48,m2',m3,p,i1,i0,g1]
   .have st:=OP (n:=m+1) (f:=g) (a:=i) (b:=j) (c:=none);rw[SA]at st;refine⟨λi_1 j_1=>if i_1=i/\j_1=j then none else g i_1 j_1,some (.int x),?_⟩
    rw[<- st];unfold Hv;refine sq (by simp![m1,a0];rfl) ?_
    simp![t3,Cr,q,q',t12,t48,m2',m3,p,i1,i0,g1]
  .have q':(x.fmod 3 == 0)=false:=by simpa using q
   refine⟨g,some (.int x),?_⟩;unfold Hv;refine sq (by simp![m1,a0];rfl) ?_
   simp![Cr,q,q']
 obtain⟨τ,e,f,y4,y5,y6,rfl⟩:=Dg (b:=AD 4) (body:=N0) (ts:=mT (m+1) λi=>.int (i:Int)) (τ:=[some (.lst (mT 9 λi=>.int (xs i))),some (.int (m:Nat)),some (.int u),some (.own (oZ (m+1) Db.free)),none,none,none]) (λ_ τ=>∃f y4 y5 y6,τ=[some (.lst (mT 9 λi=>.int (xs i))),some (.int (m:Nat)),some (.int u),some (.own (oZ (m+1) f)),y4,y5,y6]) ⟨_,_,_,_,rfl⟩ λi t τ h1 h2=>by
  obtain⟨hi,rfl⟩:=Fu h1;obtain⟨f0,y4,y50,y60,rfl⟩:=h2
  obtain⟨τ,e,f,y5,y6,rfl⟩:=Dg (b:=AD 5) (body:=Hv) (ts:=mT (m+1) λi=>.int (i:Int)) (τ:=[some (.lst (mT 9 λi=>.int (xs i))),some (.int (m:Nat)),some (.int u),some (.own (oZ (m+1) f0)),some (.int (i:Int)),y50,y60]) (λ_ τ=>∃f y5 y6,τ=[some (.lst (mT 9 λi=>.int (xs i))),some (.int (m:Nat)),some (.int u),some (.own (oZ (m+1) f)),some (.int (i:Int)),y5,y6]) ⟨_,_,_,rfl⟩ λj t τ h1 h2=>by
   obtain⟨hj,rfl⟩:=Fu h1;obtain⟨f,y5,y6,rfl⟩:=h2;obtain⟨h,y',e⟩:=e3 i j f y6 hi hj;exact⟨_,by simp![],_,e,_,_,_,rfl⟩
  exact⟨[some (.lst (mT 9 λi=>.int (xs i))),some (.int (m:Nat)),some (.int u),some (.own (oZ (m+1) f0)),some (.int (i:Int)),y50,y60],by simp![],[some (.lst (mT 9 λi=>.int (xs i))),some (.int (m:Nat)),some (.int u),some (.own (oZ (m+1) f)),some (.int (i:Int)),y5,y6],by
   unfold N0
   simp![o1,o2,r1,e],_,_,_,_,rfl⟩
 have sh:=ET (n:=m+1) (g:=Db.free);have lo:(mT (m+1) λi=>rT (m+1) (Db.free i)).length<=100000:=by rw[CT];exact l1
 have lc:Co (AD 0) (mC (.bl true)) MZ (mT (m+1) λi=>rT (m+1) (Db.free i)) [none]=some (oZ (m+1) Db.free):=lc
 generalize oZ (m+1) Db.free=EV at *;generalize (mT (m+1) λi=>rT (m+1) (Db.free i))=EW at *
 refine⟨f,?_⟩;unfold NB Pn
 simp![ev,sh,lo,lc,o1,o2,r1,e]
abbrev VR:Stmt:=AQ 82
def Rw:AL :=
 (m2 BI (mC (.int 1)) (HP (AA 1) (AA 0)))
def Ll:AJ :=
 (AH (AZ (AA 1) (Aj 5 (AM (AD 5) (AM (AD 6) (AM (AD 7) (AM (AD 8) (AM (AD 9) Am)))))))
 (AH (AZ (AK Dw (AB (AA 0) (AB (AK JF (AB (AA 7) (AB (AA 3) AE))) AE))) (AD 4))
 (AH (A2 (m2 (Az false) (AA 4) (mC .non)) (AU (mC .non)) A8)
 (AU (AK Dj (AB (AK Hj (AB (AA 4) (AB (BD 1 [3] (Ap (AA 8)) (AD 0) (mC (.bl true)) Rw) AE))) (AB (AA 6) (AB (AA 2) (AB (AA 3) AE)))))))))
def Gg:List T->Option Ru:=A4 4 10 Ll
abbrev Qm:Fn:=⟨6,["_law_zone","_law_door","_law_rooms","_law_watches"],Gg⟩
abbrev zep:Gm:=gA ["_law_zone","_law_door","_law_rooms","_law_watches","_law_found","_law_begin","_law_end","_law_guard","_law_noughts","_law_sign"] VR 5 [("met",HX),("_law_by_places",MN),("_law_stayed",MK),("put_back",Q2)] [] [] ["_law_watches"]
theorem zf2:Ck zep Qm VR Ll:={}
theorem bG{ws:List Str}(tw:Bd ws)(h7:ws.length<=7){rs:List (Str×List T)}(hr:RsOk ws rs){f:Db.Z}(hf:Db.Nar (ws.length+1) f){d:Dr}(D:DrOk ws (rs.map (·.1)) d):Gg [zT (ws.length+1) f,AI d,.lst (rs.map AF),.lst (ws.map T.str)]=some (.ok (oT (ws.length+1) (DQ ws rs f d))):=by
 have sZ:=BX (ws.length+1) f;have sr:=Ep hr;have sg:=D.g.sh;have l1:ws.length<1000000:=by omega
 have nl:=D.nl;have bp:=Rx h7 D.g D.gl;have gk:E5 ws.length (gK ws d):=Fj D.g;have m1:=HH (m:=ws.length) (by omega) hf gk
 have sk:=DZ (gK ws d);have o1:=CQ (ws.length+1) (A5 (gK ws d) f);have i1:=EC (ws.length+1) (A5 (gK ws d) f) false
 have lc:=DB (b:=AD 0) (me:=Rw) T.str (λx=>.int ((CB ws x).getD 0+1:Nat)) (λτ=>∃x,τ=[x,some (.lst (ws.map T.str))]) d.n [none,some (.lst (ws.map T.str))] ⟨none,rfl⟩ λx hx τ hI=>by
  obtain⟨y,rfl⟩:=hI;obtain⟨j,ej,_⟩:=HS (D.n x hx);refine⟨[some (.str x),some (.lst (ws.map T.str))],by simp![],?_,_,rfl⟩
  unfold Rw;rw[ej]
  simp![BB,Ae,JW,ej,l1,ycc,yci,Int.add_comm]
 have e1:(d.n.map λx=>T.int ((CB ws x).getD 0+1:Nat))=ED (BP ws d.n):=by
  unfold ED BP
  simp_all
 rw[e1]at lc;have sn:=L5 (BP ws d.n);have ln:(d.n.map T.str).length<=100000:=by rw[ya1];omega
 have bt:Aj 5 (AM (AD 5) (AM (AD 6) (AM (AD 7) (AM (AD 8) (AM (AD 9) Am))))) (AI d) [some (zT (ws.length+1) f),some (AI d),some (.lst (rs.map AF)),some (.lst (ws.map T.str)),none,none,none,none,none,none]=some [some (zT (ws.length+1) f),some (AI d),some (.lst (rs.map AF)),some (.lst (ws.map T.str)),none,some (.str d.s),some (.str d.e),some (.lst d.g),some (.lst (d.n.map T.str)),some (.str d.z)]:=by
  generalize zT (ws.length+1) f=Z at *;generalize rs.map AF=RS at *;unfold AI
  simp![sg,AG _ sg,BB,Ae]
 have sd:=F6 D;unfold DQ;cases e2:A5 (gK ws d) f with
 |none =>
  rw[e2]at m1 i1;have m1:Dw [zT (ws.length+1) f,.lst ((gK ws d).map An)]=some (.ok .non):=m1;show _=some (Ru.ok .non);generalize zT (ws.length+1) f=Z at *;generalize rs.map AF=RS at *;generalize (gK ws d).map An=G at *;generalize AI d=DT at *;unfold Gg Ll
  simp![-Aj,sZ,AN _ sZ,sd,AN _ sd,sr,AG _ sr,BB,Ae,bt,sg,AG _ sg,bp,sk,AG _ sk,m1]
 |some g =>
  rw[e2]at m1 i1 o1;have ng:=J8 hf gk e2;have pb:Hj [oT (ws.length+1) (some g),.lst (ED (BP ws d.n))]=some (.ok (.own (oZ (ws.length+1) (Dm.pbk g (BY (BP ws d.n)))))):=Vu (n:=ws.length+1) (by omega) (by omega) g (BP ws d.n)
  have np:=OL ng (BP ws d.n);have e:(T.own (oZ (ws.length+1) (Dm.pbk g (BY (BP ws d.n))))).share=zT (ws.length+1) (Dm.pbk g (BY (BP ws d.n))):=by rw[T.share,ET]
  have sd2:=IB tw h7 hr np D.e;have so:=CQ (ws.length+1) (A5 (A7 ws rs d.e) (Dm.pbk g (BY (BP ws d.n))));have sw:=BX (ws.length+1) (Dm.pbk g (BY (BP ws d.n)));show _=some (Ru.ok (oT (ws.length+1) (A5 (A7 ws rs d.e) (Dm.pbk g (BY (BP ws d.n))))));generalize oT (ws.length+1) (A5 (A7 ws rs d.e) (Dm.pbk g (BY (BP ws d.n))))=A at *;generalize zT (ws.length+1) (Dm.pbk g (BY (BP ws d.n)))=W at *;generalize T.own (oZ (ws.length+1) (Dm.pbk g (BY (BP ws d.n))))=O at *;generalize oT (ws.length+1) (some g)=G1 at *;generalize zT (ws.length+1) f=Z at *;generalize rs.map AF=RS at *;generalize (gK ws d).map An=G at *;generalize ED (BP ws d.n)=N at *;generalize AI d=DT at *;have sdn:A3 (d.n.map T.str)=true:=Ae _;generalize d.n.map T.str=DN at *;unfold Gg Ll
  simp![-Aj,-Az,sZ,AN _ sZ,sd,AN _ sd,sr,AG _ sr,BB,Ae,bt,sg,AG _ sg,bp,sk,AG _ sk,m1,i1,Option.isNone,bne,o1,AN _ o1,sdn,AG _ sdn,ln,lc,sn,AG _ sn,pb,e,sw,AN _ sw,sd2,so,AN _ so]
abbrev VJ:Stmt:=AQ 84
def FN:AJ :=
 (AH (AZ (AK El (AB (AA 9) (AB (mC (.int 11)) AE))) (AD 10))
 (AH (AZ (m2 BA (AO (AA 10) (mC (.int 0))) (mC (.int 8))) (AD 11))
 (A2 (m2 BF (AA 11) (mC (.int 0))) (CP 8 (Bj (AB (AO (AO (AA 1) (m2 BA (AO (AA 10) (mC (.int 1))) (m1 Ba (AA 1)))) (mC (.int 0))) (AB (AK Hm (AB (AA 5) AE)) AE)))) (A2 (m2 (C1 λi j=>decide (i<j)) (AA 11) (mC (.int 3))) (CP 8 (Bj (AB (AO (AO (AA 1) (m2 BA (AO (AA 10) (mC (.int 1))) (m1 Ba (AA 1)))) (mC (.int 0))) (AB (AK NB (AB (B5 (C9 (AA 10) (some (mC (.int 2))) none) (Cn (AA 10) (some (mC (.int 2))) none)) (AB (AA 5) (AB (AA 4) AE)))) AE)))) (A2 (m2 BF (AA 11) (mC (.int 3))) (CP 8 (Bj (AB (AO (AO (AA 1) (m2 BA (AO (AA 10) (mC (.int 1))) (m1 Ba (AA 1)))) (mC (.int 0))) (AB (AK F7 (AB (AA 5) AE)) AE)))) (A2 (CU (m2 Cz (AA 8) (BV AE)) (m2 Cz (AA 2) (BV AE))) (AH (AZ (AO (AA 8) (m2 BA (AO (AA 10) (mC (.int 1))) (m1 Ba (AA 8)))) (AD 12))
 (AH (AZ (AO (AA 2) (m2 BA (AO (AA 10) (mC (.int 2))) (m1 Ba (AA 2)))) (AD 13))
 (AH (AZ (AK F8 (AB (AO (AA 12) (mC (.int 1))) AE)) (AD 7))
 (A2 (CU (m2 (Az true) (AA 7) (mC .non)) (m2 BF (AO (AA 12) (mC (.int 0))) (AO (AA 13) (mC (.int 0))))) (AH (AZ (AK Gg (AB (AA 7) (AB (AA 13) (AB (AA 1) (AB (AA 3) AE))))) (AD 7))
 (AH (A2 (CU (m2 (Az true) (AA 7) (mC .non)) (m2 (C1 λi j=>decide (j<i)) (AA 11) (mC (.int 4)))) (AZ (AK Dj (AB (AK FH (AB (AA 7) AE)) (AB (AO (AA 13) (mC (.int 1))) (AB (AA 1) (AB (AA 3) AE))))) (AD 7)) A8)
 (A2 (m2 (Az true) (AA 7) (mC .non)) (CP 8 (Bj (AB (AO (AA 13) (mC (.int 1))) (AB (AA 7) AE)))) A8))) A8)))) A8))))))
def Li:AJ :=
 (AH (AZ (m1 Ba (AA 3)) (AD 5))
 (AH (AZ (AO (AO (AA 1) (mC (.int 0))) (mC (.int 0))) (AD 6))
 (AH (AZ (AK Dj (AB (AK F7 (AB (AA 5) AE)) (AB (AA 6) (AB (AA 1) (AB (AA 3) AE))))) (AD 7))
 (AH (Cg 8 (BV AE))
 (AH (A2 (m2 (Az true) (AA 7) (mC .non)) (AH (AZ (AK Dj (AB (AK FH (AB (AA 7) AE)) (AB (AA 6) (AB (AA 1) (AB (AA 3) AE))))) (AD 7))
 (CP 8 (Bj (AB (AA 6) (AB (AA 7) AE))))) A8)
 (AH (BU (Ap (B5 (C9 (AA 0) (some (mC (.int 10))) (some (m2 BI (mC (.int 10)) (m2 BA (AK C4 (AB (AA 0) (AB (mC (.int 9)) AE))) (mC (.int 8)))))) (Cn (AA 0) (some (mC (.int 10))) (some (m2 BI (mC (.int 10)) (m2 BA (AK C4 (AB (AA 0) (AB (mC (.int 9)) AE))) (mC (.int 8)))))))) (AD 9) FN)
 (AH (DW 8) (AU (B5 (C9 (AA 8) (some (m2 CW (m2 BA (m2 CW (AK C4 (AB (AA 0) (AB (mC (.int 9)) AE))) (mC (.int 8))) (mC (.int 5))) (mC (.int 4)))) none) (Cn (AA 8) (some (m2 CW (m2 BA (m2 CW (AK C4 (AB (AA 0) (AB (mC (.int 9)) AE))) (mC (.int 8))) (mC (.int 5))) (mC (.int 4)))) none))))))))))
def Mz:List T->Option Ru:=A4 5 14 Li
abbrev Z8:Fn:=⟨7,["_law_script","_law_rooms","_law_doors","_law_watches","_law_unit"],Mz⟩
abbrev zg2:Gm:=gA ["_law_script","_law_rooms","_law_doors","_law_watches","_law_unit","_law_many","_law_room","_law_zone","_law_paper_here","_law_cell","_law_xs","_law_way","_law_before","_law_door"] VJ 6 [("_law_stayed",MK),("nought",Q5),("waited",ME),("_law_cell_at",ML),("_law_stream",Ql),("everywhere",Qd),("_law_drawn_zone",Zb),("narrowest",MH),("_law_behind",Qm)] ["len"] ["_law_paper_here"]
theorem zgg:Ck zg2 Z8 VJ Li:={}
theorem YN{ws wd:List Str}(tw:Bd ws)(td:Bd wd){l:List T}(h:CN ws wd l):Fit (.lst l) 2:=Fit.nd λt ht=>by
 obtain⟨x,y,n,rfl,h1,h2,_⟩:=h t ht;refine Fit.tup λs hs=>?_
 simp only[yaf,yaz,ye5]at hs
 rcases hs with rfl|rfl|rfl
 .exact Fit.str (tw _ h1) 0
 .exact Fit.str (td _ h2) 0
 .exact Fit.int _ 0
theorem zjd{ws:List Str}(tw:Bd ws){r:Str×List T}(h1:PyData.strOk r.1=true)(h2:CN ws Bt r.2):Fit (AF r) 3:=Fit.tup λs hs=>by
 simp only[yaf,yaz,ye5]at hs
 rcases hs with rfl|rfl
 .exact Fit.str h1 2
 .exact YN tw Kb h2
theorem zos{ws ns:List Str}(tw:Bd ws)(tn:Bd ns){d:Dr}(D:DrOk ws ns d):Fit (AI d) 3:=Fit.tup λs hs=>by
 simp only[yaf,yaz,ye5]at hs
 rcases hs with rfl|rfl|rfl|rfl|rfl
 .exact Fit.str (tn _ D.s) 2
 .exact Fit.str (tn _ D.e) 2
 .exact YN tw Kb D.g
 .exact(Zh λx hx=>tw x (D.n x hx)).mono (by decide)
 .exact Fit.str (LD D.z) 2
theorem Vn{n:Nat}{p:Str×Db.Z}(h:PyData.strOk p.1=true):Fit (AS n p) 3:=Fit.tup λs hs=>by
 simp only[yaf,yaz,ye5]at hs
 rcases hs with rfl|rfl
 .exact Fit.str h 2
 .exact zlm n p.2
theorem Ln{α:Type}{o:Bool}{f:α->T}{L:List α}{n:Nat}(h:∀x∈L,Fit (f x) n):Fit (.nd o .lst (L.map f)) (n+1):=Fit.nd λt ht=>by
 obtain⟨x,hx,rfl⟩:=yac.mp ht;exact h x hx
def BZ:Db.Z:=λ_ _=>some 1
theorem L4(n:Nat):Db.Nar n BZ:=⟨λ_ _=>rfl,λ_ _=>Db.le_refl _,λi j l _ _ _=>by
 show Db.le (some 1) (Db.add (some 1) (some 1));rw[Db.add_one];exact Db.le_refl _⟩
theorem OY{m:Nat}(hm:m<=500):F7 [.int (m:Nat)]=some (.ok (.own (oZ (m+1) BZ))):=znu (by omega)
theorem G7{c:AL}{a b:AJ}{τ:AV}{r:Option Out}(h:c τ=some (.v (.bl true) false))(h2:a τ=r):A2 c a b τ=r:=by
 unfold A2;rw[h];exact h2
theorem DF{c:AL}{a b:AJ}{τ:AV}{r:Option Out}(h:c τ=some (.v (.bl false) false))(h2:b τ=r):A2 c a b τ=r:=by
 unfold A2;rw[h];exact h2
theorem zlh{ws:List Str}{rs:List (Str×List T)}(hr:RsOk ws rs){f:Db.Z}(hf:Db.Nar (ws.length+1) f){d:Dr}(D:DrOk ws (rs.map (·.1)) d){g:Db.Z}(e:DQ ws rs f d=some g):Db.Nar (ws.length+1) g:=by
 obtain⟨l,h1,h2⟩:=Option.bind_eq_some_iff.mp e;refine J8 (OL (J8 hf (Fj D.g) h1) _) ?_ h2;obtain⟨r,h,e⟩:=yac.mp D.e;rw[<- e,JX hr.nd h];exact Fj (hr.lk r h).1.wd
abbrev Bh(S RS DS WS:T)(u:Int)(m:Nat)(r0:Str)(y7:Option T)(PP:T)(y9 y10 y11 y12 y13:Option T):AV:=[some S,some RS,some DS,some WS,some (.int u),some (.int (m:Nat)),some (.str r0),y7,some PP,y9,y10,y11,y12,y13]
theorem zhk{ws:List Str}(tw:Bd ws)(h2:ws.length<=2){rs:List (Str×List T)}(hr:RsOk ws rs){ds:List Dr}(hds:∀d∈ds,DrOk ws (rs.map (·.1)) d)(S:T)(u:Int)(r0:Str){P:List (Str×Db.Z)}(hP:∀p∈P,p.1∈rs.map (·.1))(hl:P.length<=1000)(c:Int)(y7 y10 y11 y12 y13:Option T):∃P':List (Str×Db.Z),(∀p∈P',p.1∈rs.map (·.1))/\P'.length<=P.length+1/\∃z7 z10 z11 z12 z13,FN (Bh S (.lst (rs.map AF)) (.lst (ds.map AI)) (.lst (ws.map T.str)) u ws.length r0 y7 (.own (P.map (AS (ws.length+1)))) (some (.int c)) y10 y11 y12 y13)=some (.nx (Bh S (.lst (rs.map AF)) (.lst (ds.map AI)) (.lst (ws.map T.str)) u ws.length r0 z7 (.own (P'.map (AS (ws.length+1)))) (some (.int c)) z10 z11 z12 z13)):=by
 have tn:Bd (rs.map (·.1)):=λx hx=>by
  obtain⟨r,h,rfl⟩:=yac.mp hx;exact GQ (hr.nm r h).1
 have sR:=Ep hr;have sD:A3 (ds.map AI)=true:=By λd hd=>F6 (hds d hd)
 have sW:A3 (ws.map T.str)=true:=Ae _;have sP:=HD (ws.length+1) P;have lP:(P.map (AS (ws.length+1))).length<100000:=by rw[ya1];omega
 have l1:=hr.l1;have rne:rs≠[]:=λz=>by rw[z]at l1;simp at l1
 obtain⟨xs,st⟩:=Kz c (m:=11) (by decide)
 have st:El [.int c,.int 11]=some (.ok (.own (mT 11 λi=>.int (xs i)))):=st
 have a0:Ag (mT 11 λi=>T.int (xs i)) 0=some (.int (xs 0)):=CI (k:=0) (by decide)
 have a1:Ag (mT 11 λi=>T.int (xs i)) 1=some (.int (xs 1)):=CI (k:=1) (by decide)
 have a2:Ag (mT 11 λi=>T.int (xs i)) 2=some (.int (xs 2)):=CI (k:=2) (by decide)
 obtain⟨w,ew,w8⟩:∃w:Nat,(xs 0).fmod 8=(w:Int)/\w<8:=HJ (n:=8) (by decide) (xs 0)
 obtain⟨rb,hb,eb⟩:=HI rs rne (xs 1);have eb:=Ha AF eb;have l0:(((rs.map AF).length:Nat):Int)≠0:=by rw[ya1];exact IP rne
 have lr:(rs.map AF).length=rs.length:=ya1 _;rw[<- lr]at eb
 have b1:(AF rb).sh=true:=by
  have:=(hr.lk rb hb).1.sh
  simp![this]
 have hb':rb.1∈rs.map (·.1):=yac.mpr ⟨rb,hb,rfl⟩
 have put:∀(Z:Db.Z),(∀p∈P++[(rb.1,Z)],p.1∈rs.map (·.1))/\(P++[(rb.1,Z)]).length<=P.length+1/\(P++[(rb.1,Z)]).map (AS (ws.length+1))=P.map (AS (ws.length+1))++[.tup [.str rb.1,zT (ws.length+1) Z]]:=λZ=>⟨λp hp=>by
  rcases yar.mp hp with hp|hp
  .exact hP p hp
  .rw[yaa.mp hp];exact hb',by rw[yaw];exact ya8 _,by rw[yas];rfl⟩
 have c0:w=0\/(w=1\/w=2)\/w=3\/4<=w:=by omega
 rcases c0 with rfl|c0|rfl|c0
 .obtain⟨h1,h2',h3⟩:=put Db.free;refine⟨_,h1,h2',y7,some (.lst (mT 11 λi=>.int (xs i))),some (.int 0),y12,y13,?_⟩
  rw[h3];have ev:Hm [.int (ws.length:Nat)]=some (.ok (.own (oZ (ws.length+1) Db.free))):=Zq (by omega)
  have es:(T.own (oZ (ws.length+1) Db.free)).share=zT (ws.length+1) Db.free:=by rw[T.share,ET]
  have sZ:=BX (ws.length+1) Db.free;generalize T.own (oZ (ws.length+1) Db.free)=EV at *;generalize zT (ws.length+1) Db.free=Z at *;generalize P.map (AS (ws.length+1))=PP at *;generalize rs.map AF=RS at *;unfold FN;refine sq (by simp![st];rfl) ?_
  refine sq (by simp![a0,ew];rfl) ?_
  simp![Cr,a1,sR,AG _ sR,l0,eb,b1,ev,es,sZ,lP]
 .obtain⟨f,dz⟩:=dz_ex (m:=ws.length) h2 (λi=>xs (i+2)) u
  obtain⟨h1,h2',h3⟩:=put f;refine⟨_,h1,h2',y7,some (.lst (mT 11 λi=>.int (xs i))),some (.int (w:Nat)),y12,y13,?_⟩
  rw[h3];have es:(T.own (oZ (ws.length+1) f)).share=zT (ws.length+1) f:=by rw[T.share,ET]
  have sZ:=BX (ws.length+1) f;have cu:Bc (mT 11 λi=>T.int (xs i)) (some 2) none=mT 9 λi=>.int (xs (i+2)):=MS (n:=9) (a:=2) (g:=λi=>T.int (xs i))
  have q0:((w:Int) == 0)=false:=by
   rw[yef]
   omega
  have q3:(w:Int)<3:=by omega
  generalize T.own (oZ (ws.length+1) f)=EV at *;generalize zT (ws.length+1) f=Z at *;generalize P.map (AS (ws.length+1))=PP at *;generalize rs.map AF=RS at *;unfold FN;refine sq (by simp![st];rfl) ?_
  refine sq (by simp![a0,ew];rfl) ?_
  simp![Cr,q0,q3,a1,sR,AG _ sR,l0,eb,b1,cu,dz,es,sZ,lP]
 .obtain⟨h1,h2',h3⟩:=put BZ;refine⟨_,h1,h2',y7,some (.lst (mT 11 λi=>.int (xs i))),some (.int 3),y12,y13,?_⟩
  rw[h3];have ev:=OY (m:=ws.length) (by omega)
  have es:(T.own (oZ (ws.length+1) BZ)).share=zT (ws.length+1) BZ:=by rw[T.share,ET]
  have sZ:=BX (ws.length+1) BZ;generalize T.own (oZ (ws.length+1) BZ)=EV at *;generalize zT (ws.length+1) BZ=Z at *;generalize P.map (AS (ws.length+1))=PP at *;generalize rs.map AF=RS at *;unfold FN;refine sq (by simp![st];rfl) ?_
  refine sq (by simp![a0,ew];rfl) ?_
  simp![Cr,a1,sR,AG _ sR,l0,eb,b1,ev,es,sZ,lP]
 .have q0:((w:Int) == 0)=false:=by
   rw[yef]
   omega
  have q3:¬ (w:Int)<3:=by omega
  have q3':((w:Int) == 3)=false:=by
   rw[yef]
   omega
  have nP:=O3 (n:=4) (by decide) (Ln (o:=false) (f:=AS (ws.length+1)) (L:=P) λp hp=>Vn (tn _ (hP p hp)))
  have nD:=O3 (n:=4) (by decide) (Ln (o:=false) (f:=AI) (L:=ds) λd hd=>zos tw tn (hds d hd))
  rw[ya1]at nP nD
  by_cases p0:P.length=0
  .rw[ye1 p0]at nP;refine⟨P,hP,by omega,y7,some (.lst (mT 11 λi=>.int (xs i))),some (.int (w:Nat)),y12,y13,?_⟩
   generalize P.map (AS (ws.length+1))=PP at *;unfold FN;refine sq (by simp![st];rfl) ?_
   refine sq (by simp![a0,ew];rfl) ?_
   refine DF (by simp![Cr,q0]) (DF (by simp![q3]) (DF (by simp![Cr,q3']) (DF (by simp![sP,AG _ sP,nP]) (by simp![]))))
  by_cases d0:ds.length=0
  .rw[ye1 d0]at nD;rw[ydl p0]at nP;refine⟨P,hP,by omega,y7,some (.lst (mT 11 λi=>.int (xs i))),some (.int (w:Nat)),y12,y13,?_⟩
   generalize P.map (AS (ws.length+1))=PP at *;generalize ds.map AI=DS at *;unfold FN;refine sq (by simp![st];rfl) ?_
   refine sq (by simp![a0,ew];rfl) ?_
   refine DF (by simp![Cr,q0]) (DF (by simp![q3]) (DF (by simp![Cr,q3']) (DF (by simp![sP,AG _ sP,nP,sD,AG _ sD,nD]) (by simp![]))))
  rw[ydl p0]at nP;rw[ydl d0]at nD;have pne:P≠[]:=λz=>p0 (by rw[z];rfl)
  have dne:ds≠[]:=λz=>d0 (by rw[z];rfl)
  obtain⟨pb,hpb,epb⟩:=HI P pne (xs 1);obtain⟨d,hd,ed⟩:=HI ds dne (xs 2);have epb:=Ha (AS (ws.length+1)) epb;have ed:=Ha AI ed;have lp:(P.map (AS (ws.length+1))).length=P.length:=ya1 _;have ld:(ds.map AI).length=ds.length:=ya1 _;have lp0:=IP pne;have ld0:=IP dne;rw[<- lp]at epb lp0;rw[<- ld]at ed ld0;have D:=hds d hd;have sd:=F6 D
  have spb:(AS (ws.length+1) pb).sh=true:=by
   have:=BX (ws.length+1) pb.2;unfold AS;generalize zT (ws.length+1) pb.2=Z at *
   simp![this]
  have nr:=OU (n:=ws.length+1) (by omega) pb.2
  have so:=CQ (ws.length+1) (Bl (ws.length+1) pb.2);have is:=EC (ws.length+1) (Bl (ws.length+1) pb.2) true;have eqs:=Ef (tn _ (hP pb hpb)) (tn _ D.s);have pa1:∀A B,Ag [T.str A,B] 1=some B:=λ_ _=>Cs (by decide) rfl
  have sZ:=BX (ws.length+1) pb.2;have dat0:Ag [T.str d.s,.str d.e,.lst d.g,.lst (d.n.map T.str),.str d.z] 0=some (.str d.s):=Cs (by decide) rfl
  have dat1:Ag [T.str d.s,.str d.e,.lst d.g,.lst (d.n.map T.str),.str d.z] 1=some (.str d.e):=Cs (by decide) rfl
  have sg:=D.g.sh
  have pre:∀(r:Option Out) (BJ:AJ),BJ (Bh S (.lst (rs.map AF)) (.lst (ds.map AI)) (.lst (ws.map T.str)) u ws.length r0 (some (oT (ws.length+1) (Bl (ws.length+1) pb.2))) (.own (P.map (AS (ws.length+1)))) (some (.int c)) (some (.lst (mT 11 λi=>.int (xs i)))) (some (.int (w:Nat))) (some (AS (ws.length+1) pb)) (some (AI d)))=r->AH (AZ (AO (AA 8) (m2 BA (AO (AA 10) (mC (.int 1))) (m1 Ba (AA 8)))) (AD 12)) (AH (AZ (AO (AA 2) (m2 BA (AO (AA 10) (mC (.int 2))) (m1 Ba (AA 2)))) (AD 13)) (AH (AZ (AK F8 (AB (AO (AA 12) (mC (.int 1))) AE)) (AD 7)) BJ)) (Bh S (.lst (rs.map AF)) (.lst (ds.map AI)) (.lst (ws.map T.str)) u ws.length r0 y7 (.own (P.map (AS (ws.length+1)))) (some (.int c)) (some (.lst (mT 11 λi=>.int (xs i)))) (some (.int (w:Nat))) y12 y13)=r:=λr BJ hr=>by
   refine sq (τ':=Bh S (.lst (rs.map AF)) (.lst (ds.map AI)) (.lst (ws.map T.str)) u ws.length r0 y7 (.own (P.map (AS (ws.length+1)))) (some (.int c)) (some (.lst (mT 11 λi=>.int (xs i)))) (some (.int (w:Nat))) (some (AS (ws.length+1) pb)) y13) (by
    generalize AS (ws.length+1) pb=PB at *;generalize P.map (AS (ws.length+1))=PP at *
    simp![a1,sP,AG _ sP,lp0,epb,spb,AN _ spb]) ?_
   refine sq (τ':=Bh S (.lst (rs.map AF)) (.lst (ds.map AI)) (.lst (ws.map T.str)) u ws.length r0 y7 (.own (P.map (AS (ws.length+1)))) (some (.int c)) (some (.lst (mT 11 λi=>.int (xs i)))) (some (.int (w:Nat))) (some (AS (ws.length+1) pb)) (some (AI d))) (by
    generalize AI d=DT at *;generalize ds.map AI=DS at *
    simp![a2,sD,AG _ sD,ld0,ed,sd,AN _ sd]) ?_
   refine sq (by
    unfold Bh AS;generalize oT (ws.length+1) (Bl (ws.length+1) pb.2)=O at *;generalize zT (ws.length+1) pb.2=Z at *
    simp![pa1,sZ,AN _ sZ,nr,so,AN _ so]) hr
  have hd2:∀(z7:T),z7.sh=true->∀b:Bool,Az true z7 .non=some (.bl b)->CU (m2 (Az true) (AA 7) (mC .non)) (m2 BF (AO (AA 12) (mC (.int 0))) (AO (AA 13) (mC (.int 0)))) (Bh S (.lst (rs.map AF)) (.lst (ds.map AI)) (.lst (ws.map T.str)) u ws.length r0 (some z7) (.own (P.map (AS (ws.length+1)))) (some (.int c)) (some (.lst (mT 11 λi=>.int (xs i)))) (some (.int (w:Nat))) (some (AS (ws.length+1) pb)) (some (AI d)))=some (.v (.bl (b && decide (pb.1=d.s))) false):=λz7 s7 b i7=>by
   unfold Bh AS AI;generalize zT (ws.length+1) pb.2=Z at *;generalize P.map (AS (ws.length+1))=PP at *;generalize rs.map AF=RS at *;generalize ds.map AI=DS at *;cases b with
   |false=>simp![-Az,s7,AN _ s7,i7]
   |true=>simp![-Az,s7,AN _ s7,i7,sZ,AN _ sZ,dat0,sg,AG _ sg,BB,Ae,eqs]
  have fin3:∀o:Option Db.Z,∃P':List (Str×Db.Z),(∀p∈P',p.1∈rs.map (·.1))/\P'.length<=P.length+1/\A2 (m2 (Az true) (AA 7) (mC .non)) (CP 8 (Bj (AB (AO (AA 13) (mC (.int 1))) (AB (AA 7) AE)))) A8 (Bh S (.lst (rs.map AF)) (.lst (ds.map AI)) (.lst (ws.map T.str)) u ws.length r0 (some (oT (ws.length+1) o)) (.own (P.map (AS (ws.length+1)))) (some (.int c)) (some (.lst (mT 11 λi=>.int (xs i)))) (some (.int (w:Nat))) (some (AS (ws.length+1) pb)) (some (AI d)))=some (.nx (Bh S (.lst (rs.map AF)) (.lst (ds.map AI)) (.lst (ws.map T.str)) u ws.length r0 (some (oT (ws.length+1) o)) (.own (P'.map (AS (ws.length+1)))) (some (.int c)) (some (.lst (mT 11 λi=>.int (xs i)))) (some (.int (w:Nat))) (some (AS (ws.length+1) pb)) (some (AI d)))):=λo=>by
   have so:=CQ (ws.length+1) o;have is:=EC (ws.length+1) o true;cases o with
   |none=>exact⟨P,hP,by omega,DF (by simp![];rfl) (by simp![])⟩
   |some h =>
    refine⟨P++[(d.e,h)],λp hp=>?_,by rw[yaw];exact ya8 _,G7 ?_ ?_⟩
    .rcases yar.mp hp with hp|hp
     .exact hP p hp
     .rw[yaa.mp hp];exact D.e
    .generalize oT (ws.length+1) (some h)=O at *
     simp![-Az,so,AN _ so,is]
     rfl
    .rw[yas,show [(d.e,h)].map (AS (ws.length+1))=[.tup [.str d.e,oT (ws.length+1) (some h)]] from rfl];generalize oT (ws.length+1) (some h)=O at *;generalize P.map (AS (ws.length+1))=PP at *;unfold Bh AI
     simp![so,AN _ so,dat1,sg,AG _ sg,BB,Ae,lP]
  have whole:∀(P':List (Str×Db.Z)) (z7:Option T),A2 (CU (m2 (Az true) (AA 7) (mC .non)) (m2 BF (AO (AA 12) (mC (.int 0))) (AO (AA 13) (mC (.int 0))))) (AH (AZ (AK Gg (AB (AA 7) (AB (AA 13) (AB (AA 1) (AB (AA 3) AE))))) (AD 7))
 (AH (A2 (CU (m2 (Az true) (AA 7) (mC .non)) (m2 (C1 λi j=>decide (j<i)) (AA 11) (mC (.int 4)))) (AZ (AK Dj (AB (AK FH (AB (AA 7) AE)) (AB (AO (AA 13) (mC (.int 1))) (AB (AA 1) (AB (AA 3) AE))))) (AD 7)) A8)
 (A2 (m2 (Az true) (AA 7) (mC .non)) (CP 8 (Bj (AB (AO (AA 13) (mC (.int 1))) (AB (AA 7) AE)))) A8))) A8 (Bh S (.lst (rs.map AF)) (.lst (ds.map AI)) (.lst (ws.map T.str)) u ws.length r0 (some (oT (ws.length+1) (Bl (ws.length+1) pb.2))) (.own (P.map (AS (ws.length+1)))) (some (.int c)) (some (.lst (mT 11 λi=>.int (xs i)))) (some (.int (w:Nat))) (some (AS (ws.length+1) pb)) (some (AI d)))=some (.nx (Bh S (.lst (rs.map AF)) (.lst (ds.map AI)) (.lst (ws.map T.str)) u ws.length r0 z7 (.own (P'.map (AS (ws.length+1)))) (some (.int c)) (some (.lst (mT 11 λi=>.int (xs i)))) (some (.int (w:Nat))) (some (AS (ws.length+1) pb)) (some (AI d))))->FN (Bh S (.lst (rs.map AF)) (.lst (ds.map AI)) (.lst (ws.map T.str)) u ws.length r0 y7 (.own (P.map (AS (ws.length+1)))) (some (.int c)) y10 y11 y12 y13)=some (.nx (Bh S (.lst (rs.map AF)) (.lst (ds.map AI)) (.lst (ws.map T.str)) u ws.length r0 z7 (.own (P'.map (AS (ws.length+1)))) (some (.int c)) (some (.lst (mT 11 λi=>.int (xs i)))) (some (.int (w:Nat))) (some (AS (ws.length+1) pb)) (some (AI d)))):=λP' z7 h=>by
   unfold FN;refine sq (τ':=Bh S (.lst (rs.map AF)) (.lst (ds.map AI)) (.lst (ws.map T.str)) u ws.length r0 y7 (.own (P.map (AS (ws.length+1)))) (some (.int c)) (some (.lst (mT 11 λi=>.int (xs i)))) y11 y12 y13) (by simp![st]) ?_
   refine sq (τ':=Bh S (.lst (rs.map AF)) (.lst (ds.map AI)) (.lst (ws.map T.str)) u ws.length r0 y7 (.own (P.map (AS (ws.length+1)))) (some (.int c)) (some (.lst (mT 11 λi=>.int (xs i)))) (some (.int (w:Nat))) y12 y13) (by simp![a0,ew]) ?_
   refine DF (by simp![Cr,q0]) (DF (by simp![q3]) (DF (by simp![Cr,q3']) (G7 ?_ (pre _ _ h))))
   generalize P.map (AS (ws.length+1))=PP at *;generalize ds.map AI=DS at *
   simp![sP,AG _ sP,nP,sD,AG _ sD,nD]
  cases e1:Bl (ws.length+1) pb.2 with
  |none =>
   rw[e1]at whole;refine⟨P,hP,by omega,some .non,_,_,_,_,whole P (some .non) (DF (hd2 .non rfl false rfl) (by simp![oT]))⟩
  |some g =>
   rw[e1]at whole;have ng:=Xk e1;have sgz:=BX (ws.length+1) g
   by_cases pq:pb.1=d.s
   .have h1:=hd2 (zT (ws.length+1) g) sgz true (EC _ (some g) true);rw[ye1 pq]at h1;have bh:=bG tw (by omega) hr ng D
    have sb:=CQ (ws.length+1) (DQ ws rs g d);have ib:=EC (ws.length+1) (DQ ws rs g d) true
    have row1:AZ (AK Gg (AB (AA 7) (AB (AA 13) (AB (AA 1) (AB (AA 3) AE))))) (AD 7) (Bh S (.lst (rs.map AF)) (.lst (ds.map AI)) (.lst (ws.map T.str)) u ws.length r0 (some (zT (ws.length+1) g)) (.own (P.map (AS (ws.length+1)))) (some (.int c)) (some (.lst (mT 11 λi=>.int (xs i)))) (some (.int (w:Nat))) (some (AS (ws.length+1) pb)) (some (AI d)))=some (.nx (Bh S (.lst (rs.map AF)) (.lst (ds.map AI)) (.lst (ws.map T.str)) u ws.length r0 (some (oT (ws.length+1) (DQ ws rs g d))) (.own (P.map (AS (ws.length+1)))) (some (.int c)) (some (.lst (mT 11 λi=>.int (xs i)))) (some (.int (w:Nat))) (some (AS (ws.length+1) pb)) (some (AI d)))):=by
     generalize oT (ws.length+1) (DQ ws rs g d)=O at *;generalize zT (ws.length+1) g=G at *;generalize AI d=DT at *;generalize rs.map AF=RS at *
     simp![sgz,AN _ sgz,sd,AN _ sd,sR,AG _ sR,sW,AG _ sW,bh,sb,AN _ sb]
    cases e2:DQ ws rs g d with
    |none =>
     rw[e2]at row1;obtain⟨P',k1,k2,k3⟩:=fin3 none;refine⟨P',k1,k2,some .non,_,_,_,_,whole P' (some .non) (G7 h1 (sq row1 (DI (DF (by simp![oT]) (by simp![])) k3)))⟩
    |some h =>
     rw[e2]at row1 sb ib
     by_cases w4:(4:Int)<(w:Int)
     .have nh:=zlh hr ng D e2;have sd2:=IB tw (by omega) hr (Dm.wtd_nar nh) D.e
      have wa:=Kc (m:=ws.length) (by omega) h
      have ew':(T.own (oZ (ws.length+1) (Dm.wtd h))).share=zT (ws.length+1) (Dm.wtd h):=by rw[T.share,ET]
      have sw:=BX (ws.length+1) (Dm.wtd h);have s3:=CQ (ws.length+1) (A5 (A7 ws rs d.e) (Dm.wtd h));obtain⟨P',k1,k2,k3⟩:=fin3 (A5 (A7 ws rs d.e) (Dm.wtd h));refine⟨P',k1,k2,_,_,_,_,_,whole P' _ (G7 h1 (sq row1 (sq (G7 ?_ ?_) k3)))⟩
      .generalize oT (ws.length+1) (some h)=O at *
       simp![-Az,sb,AN _ sb,ib,w4]
       rfl
      .have wa:FH [oT (ws.length+1) (some h)]=some (.ok (.own (oZ (ws.length+1) (Dm.wtd h)))):=wa;generalize oT (ws.length+1) (A5 (A7 ws rs d.e) (Dm.wtd h))=A at *;generalize oT (ws.length+1) (some h)=O at *;generalize T.own (oZ (ws.length+1) (Dm.wtd h))=OW at *;generalize zT (ws.length+1) (Dm.wtd h)=W at *;generalize rs.map AF=RS at *;generalize ds.map AI=DS at *;generalize P.map (AS (ws.length+1))=PP at *;unfold Bh AI
       simp![sb,AN _ sb,wa,ew',sw,AN _ sw,dat1,sg,AG _ sg,BB,Ae,sR,AG _ sR,sW,AG _ sW,sd2,s3,AN _ s3]
     .obtain⟨P',k1,k2,k3⟩:=fin3 (some h);refine⟨P',k1,k2,_,_,_,_,_,whole P' _ (G7 h1 (sq row1 (DI (DF ?_ (by simp![])) k3)))⟩
      generalize oT (ws.length+1) (some h)=O at *
      simp![-Az,sb,AN _ sb,ib,w4]
      rfl
   .have h1:=hd2 (zT (ws.length+1) g) sgz true (EC _ (some g) true);rw[ydl pq]at h1;refine⟨P,hP,by omega,some (zT (ws.length+1) g),_,_,_,_,whole P (some (zT (ws.length+1) g)) (DF h1 (by simp![oT]))⟩
theorem zit{m:Nat}{L:List (Nat×Nat×Int)}(hL:E5 m L){f g:Db.Z}(hf:Db.Nar (m+1) f)(e:A5 L f=some g):∃h,A5 L (Dm.wtd g)=some h:=by
 have hI:=YO hL;obtain⟨n1,n2,n3,_⟩:=(Dk.met_ok _ f hf hI).1 g e;cases q:A5 L (Dm.wtd g) with
 |some h=>exact⟨h,rfl⟩
 |none=>exact((Dk.met_ok _ _ (Dm.wtd_nar n1) hI).2 q g n1 (λi j _ _=>Dm.wtd_le g i j) n3).elim
theorem zj1{ws:List Str}{rs:List (Str×List T)}(hr:RsOk ws rs){x:Str}(hx:x∈rs.map (·.1)):E5 ws.length (A7 ws rs x):=by
 obtain⟨r,h,rfl⟩:=yac.mp hx;rw[JX hr.nd h];exact Fj (hr.lk r h).1.wd
theorem zhj(ns:List Int)(hns:ns.length<=63){ws:List Str}(tw:Bd ws)(h2:ws.length<=2){rs:List (Str×List T)}(hr:RsOk ws rs){ds:List Dr}(hds:∀d∈ds,DrOk ws (rs.map (·.1)) d)(u:Int):∃P:List (Str×Db.Z),(∀p∈P,p.1∈rs.map (·.1))/\P.length<=1000/\Mz [B8 ns,.lst (rs.map AF),.lst (ds.map AI),.lst (ws.map T.str),.int u]=some (.ok (.own (P.map (AS (ws.length+1))))):=by
 have F:=Nq ns;have F2:=Np ns;have c9:=Jy ns (k:=9) (by decide)
 generalize ns.getD (9:Int).toNat 0=f9 at *;have sR:=Ep hr;have sD:A3 (ds.map AI)=true:=By λd hd=>F6 (hds d hd)
 have sW:A3 (ws.map T.str)=true:=Ae _;have l1:=hr.l1
 obtain⟨r,rs',er⟩:∃r rs',rs=r::rs':=by
  cases rs with
  |nil=>simp at l1
  |cons r l=>exact⟨r,l,rfl⟩
 have hr0:r.1∈rs.map (·.1):=by rw[er];exact .head _
 have b1:(AF r).sh=true:=by
  have:=(hr.lk r (by rw[er];exact .head _)).1.sh
  simp![this]
 have a0:Ag (rs.map AF) 0=some (AF r):=by rw[er];exact Cs (by decide) rfl
 have no:=OY (m:=ws.length) (by omega)
 have e0:(T.own (oZ (ws.length+1) BZ)).share=zT (ws.length+1) BZ:=by rw[T.share,ET]
 have s0:=BX (ws.length+1) BZ;have st0:=IB tw (by omega) hr (L4 _) hr0
 have lk0:=zj1 hr hr0
 obtain⟨P0,z7,h0,hl0,e1⟩:∃(P0:List (Str×Db.Z)) (z7:T),(∀p∈P0,p.1∈rs.map (·.1))/\P0.length<=1/\∀(BJ:AJ) (R:Option Out),BJ (Bh (B8 ns) (.lst (rs.map AF)) (.lst (ds.map AI)) (.lst (ws.map T.str)) u ws.length r.1 (some z7) (.own (P0.map (AS (ws.length+1)))) none none none none none)=R->AH (AZ (m1 Ba (AA 3)) (AD 5)) (AH (AZ (AO (AO (AA 1) (mC (.int 0))) (mC (.int 0))) (AD 6)) (AH (AZ (AK Dj (AB (AK F7 (AB (AA 5) AE)) (AB (AA 6) (AB (AA 1) (AB (AA 3) AE))))) (AD 7)) (AH (Cg 8 (BV AE)) (AH (A2 (m2 (Az true) (AA 7) (mC .non)) (AH (AZ (AK Dj (AB (AK FH (AB (AA 7) AE)) (AB (AA 6) (AB (AA 1) (AB (AA 3) AE))))) (AD 7)) (CP 8 (Bj (AB (AA 6) (AB (AA 7) AE))))) A8) BJ)))) [some (B8 ns),some (.lst (rs.map AF)),some (.lst (ds.map AI)),some (.lst (ws.map T.str)),some (.int u),none,none,none,none,none,none,none,none,none]=R:=by
  have pre:∀(BJ:AJ) (R:Option Out),BJ (Bh (B8 ns) (.lst (rs.map AF)) (.lst (ds.map AI)) (.lst (ws.map T.str)) u ws.length r.1 (some (oT (ws.length+1) (A5 (A7 ws rs r.1) BZ))) (.own []) none none none none none)=R->AH (AZ (m1 Ba (AA 3)) (AD 5)) (AH (AZ (AO (AO (AA 1) (mC (.int 0))) (mC (.int 0))) (AD 6)) (AH (AZ (AK Dj (AB (AK F7 (AB (AA 5) AE)) (AB (AA 6) (AB (AA 1) (AB (AA 3) AE))))) (AD 7)) (AH (Cg 8 (BV AE)) BJ))) [some (B8 ns),some (.lst (rs.map AF)),some (.lst (ds.map AI)),some (.lst (ws.map T.str)),some (.int u),none,none,none,none,none,none,none,none,none]=R:=λBJ R h=>by
   have so:=CQ (ws.length+1) (A5 (A7 ws rs r.1) BZ);have lw:(ws.map T.str).length=ws.length:=ya1 _;generalize oT (ws.length+1) (A5 (A7 ws rs r.1) BZ)=O at *;generalize T.own (oZ (ws.length+1) BZ)=EV at *;generalize zT (ws.length+1) BZ=Z at *;generalize B8 ns=S at *;generalize ws.map T.str=WS at *;generalize rs.map AF=RS at *;generalize ds.map AI=DS at *;refine sq (τ':=[some S,some (.lst RS),some (.lst DS),some (.lst WS),some (.int u),some (.int (ws.length:Nat)),none,none,none,none,none,none,none,none]) (by simp![sW,AG _ sW,lw]) ?_
   refine sq (τ':=[some S,some (.lst RS),some (.lst DS),some (.lst WS),some (.int u),some (.int (ws.length:Nat)),some (.str r.1),none,none,none,none,none,none,none]) (by simp![sR,a0,b1]) ?_
   refine sq (τ':=[some S,some (.lst RS),some (.lst DS),some (.lst WS),some (.int u),some (.int (ws.length:Nat)),some (.str r.1),some O,none,none,none,none,none,none]) (by simp![no,e0,s0,sR,AG _ sR,sW,AG _ sW,st0,so,AN _ so]) ?_
   exact sq (by simp![]) h
  cases e2:A5 (A7 ws rs r.1) BZ with
  |none =>
   rw[e2]at pre;exact⟨[],.non,λ_ h=>(by cases h),ybk _,λBJ R h=>pre _ R (DI (DF (by simp![oT]) (by simp![])) h)⟩
  |some f =>
   rw[e2]at pre;have nf:=J8 (L4 _) lk0 e2;obtain⟨g,eg⟩:=zit lk0 (L4 _) e2;have st1:=IB tw (by omega) hr (Dm.wtd_nar nf) hr0
   rw[eg]at st1;have sf:=BX (ws.length+1) f;have sg:=BX (ws.length+1) g;have wa:=Kc (m:=ws.length) (by omega) f
   have ew:(T.own (oZ (ws.length+1) (Dm.wtd f))).share=zT (ws.length+1) (Dm.wtd f):=by rw[T.share,ET]
   have sw:=BX (ws.length+1) (Dm.wtd f);have is:Az true (zT (ws.length+1) f) .non=some (.bl true):=EC _ (some f) true;refine⟨[(r.1,g)],zT (ws.length+1) g,λp hp=>by rw[yaa.mp hp];exact hr0,ya8 _,λBJ R h=>pre _ R (sq (G7 ?_ ?_) h)⟩
   .show m2 (Az true) (AA 7) (mC .non) (Bh _ _ _ _ _ _ _ (some (zT (ws.length+1) f)) _ _ _ _ _ _)=_;generalize zT (ws.length+1) f=Z at *
    simp![-Az,sf,AN _ sf,is]
   .have st1:Dj [zT (ws.length+1) (Dm.wtd f),.str r.1,.lst (rs.map AF),.lst (ws.map T.str)]=some (.ok (zT (ws.length+1) g)):=st1;show AH _ _ (Bh _ _ _ _ _ _ _ (some (zT (ws.length+1) f)) _ _ _ _ _ _)=_;rw[show [(r.1,g)].map (AS (ws.length+1))=[.tup [.str r.1,zT (ws.length+1) g]] from rfl];generalize zT (ws.length+1) f=Z at *;generalize zT (ws.length+1) g=G at *;generalize zT (ws.length+1) (Dm.wtd f)=W at *;generalize T.own (oZ (ws.length+1) (Dm.wtd f))=OW at *;generalize ws.map T.str=WS at *;generalize rs.map AF=RS at *;generalize ds.map AI=DS at *;unfold Bh;refine sq (by simp![sf,AN _ sf,wa,ew,sw,AN _ sw,sR,AG _ sR,sW,AG _ sW,st1,sg,AN _ sg];rfl) ?_
    simp![sg,AN _ sg]
 obtain⟨q8,eq8,_⟩:∃w:Nat,f9.fmod 8=(w:Int)/\w<8:=HJ (n:=8) (by decide) f9
 have cm:Bc (ns.map T.int) (some 10) (some (10+(q8:Int)))=(Bc ns (some 10) (some (10+(q8:Int)))).map T.int:=Qw _ _ _ _;have cl:=Qy ns (some 10) (some (10+(q8:Int)));generalize Bc ns (some 10) (some (10+(q8:Int)))=cs at *
 obtain⟨τ,ef,P,hP,lP,y7,y9,y10,y11,y12,y13,rfl⟩:=Dg (b:=AD 9) (body:=FN) (ts:=cs.map T.int) (τ:=Bh (B8 ns) (.lst (rs.map AF)) (.lst (ds.map AI)) (.lst (ws.map T.str)) u ws.length r.1 (some z7) (.own (P0.map (AS (ws.length+1)))) none none none none none) (λi τ=>∃P:List (Str×Db.Z),(∀p∈P,p.1∈rs.map (·.1))/\P.length<=i+1/\∃y7 y9 y10 y11 y12 y13,τ=Bh (B8 ns) (.lst (rs.map AF)) (.lst (ds.map AI)) (.lst (ws.map T.str)) u ws.length r.1 y7 (.own (P.map (AS (ws.length+1)))) y9 y10 y11 y12 y13) ⟨P0,h0,by omega,_,_,_,_,_,_,rfl⟩ λi t τ h1 h3=>by
  obtain⟨P,hP,lP,y7,y9,y10,y11,y12,y13,rfl⟩:=h3;have hi:i<cs.length:=by simpa using (ya2.mp h1).1
  rw[ya7,ya0 hi]at h1;have et:=(yal h1).symm;subst et;obtain⟨P',k1,k2,z7,z10,z11,z12,z13,e⟩:=zhk tw h2 hr hds (B8 ns) u r.1 hP (by omega) cs[i] y7 y10 y11 y12 y13
  exact⟨_,by simp![],_,e,P',k1,by omega,_,_,_,_,_,_,rfl⟩
 rw[ya1]at lP
 obtain⟨k,ek,k2⟩:∃k:Nat,((f9.fdiv 8).fmod 5).fdiv 4=(k:Int)/\k<=1:=by
  obtain⟨w,e,h⟩:=HJ (n:=5) (by decide) (f9.fdiv 8)
  have e:(f9.fdiv 8).fmod 5=(w:Int):=e;rw[e,fd (by decide)]
  exact⟨w / 4,by omega,by omega⟩
 have t8:Cv 8=true:=Dn (by decide) (by decide)
 have t4:Cv 4=true:=Dn (by decide) (by decide)
 have cp:Bc (P.map (AS (ws.length+1))) (some (k:Int)) none=(Bc P (some (k:Int)) none).map (AS (ws.length+1)):=Qw _ _ _ _;have cpl:=Qy P (some (k:Int)) none;have sP:=HD (ws.length+1) P;refine⟨Bc P (some (k:Int)) none,λp hp=>hP p (zl8 hp),by omega,?_⟩
 have sC:BS (cs.map T.int)=cs.map T.int:=GL _
 have el:B5 (C9 (AA 0) (some (mC (.int 10))) (some (m2 BI (mC (.int 10)) (m2 BA (AK C4 (AB (AA 0) (AB (mC (.int 9)) AE))) (mC (.int 8)))))) (Cn (AA 0) (some (mC (.int 10))) (some (m2 BI (mC (.int 10)) (m2 BA (AK C4 (AB (AA 0) (AB (mC (.int 9)) AE))) (mC (.int 8)))))) (Bh (B8 ns) (.lst (rs.map AF)) (.lst (ds.map AI)) (.lst (ws.map T.str)) u ws.length r.1 (some z7) (.own (P0.map (AS (ws.length+1)))) none none none none none)=some (.v (.own (cs.map T.int)) false):=by
  unfold Bh;unfold B8 at c9 ⊢
  simp![IC,GL,c9,eq8,cm]
 have run:Li [some (B8 ns),some (.lst (rs.map AF)),some (.lst (ds.map AI)),some (.lst (ws.map T.str)),some (.int u),none,none,none,none,none,none,none,none,none]=some (.rt (.own ((Bc P (some (k:Int)) none).map (AS (ws.length+1))))):=by
  unfold Li;refine e1 _ _ ?_;rw[<- cp];generalize B5 (C9 (AA 0) (some (mC (.int 10))) (some (m2 BI (mC (.int 10)) (m2 BA (AK C4 (AB (AA 0) (AB (mC (.int 9)) AE))) (mC (.int 8)))))) (Cn (AA 0) (some (mC (.int 10))) (some (m2 BI (mC (.int 10)) (m2 BA (AK C4 (AB (AA 0) (AB (mC (.int 9)) AE))) (mC (.int 8))))))=SL at *;generalize P.map (AS (ws.length+1))=PP at *;generalize P0.map (AS (ws.length+1))=PP0 at *;generalize B8 ns=S at *;generalize ws.map T.str=WS at *;generalize rs.map AF=RS at *;generalize ds.map AI=DS at *
  refine sq (τ':=Bh S (.lst RS) (.lst DS) (.lst WS) u ws.length r.1 y7 (.own PP) y9 y10 y11 y12 y13) (by
   unfold Bh at el ef ⊢
   simp![el,sC,ef]) ?_
  unfold Bh
  simp![sP,AG _ sP,F,F2,c9,t8,t4,ek]
 unfold Mz;generalize (Bc P (some (k:Int)) none).map (AS (ws.length+1))=Q at *;generalize B8 ns=S at *;generalize ws.map T.str=WS at *;generalize rs.map AF=RS at *;generalize ds.map AI=DS at *
 simp![F,F2,sR,AG _ sR,sD,AG _ sD,sW,AG _ sW,run]
abbrev VO:Stmt:=AQ 85
def Rt:AL :=
 (AK Gd (AB (AA 1) (AB (AA 0) AE)))
def Lk:AJ :=
 (AU (Bo (m2 (Az false) (AA 1) (mC .non)) (m1 Hc (BD 1 [1] (Ap (AA 0)) (AD 0) (mC (.bl true)) Rt))))
def FJ:List T->Option Ru:=A4 2 2 Lk
abbrev Zc:Fn:=⟨3,["_law_zones","_law_zone"],FJ⟩
abbrev zdr:Gm:=gA ["_law_zones","_law_zone"] VO 2 [("within",QZ)] ["any"] [] ["_law_zone"]
theorem ze4:Ck zdr Zc VO Lk:={}
theorem Qz{n:Nat}{zs:List Db.Z}(hz:zs.length<=1000)(o:Option Db.Z):FJ [.lst (zs.map (zT n)),oT n o]=some (.ok (.bl (CM n zs o))):=by
 have sz:=Dy n zs;cases o with
 |none =>
  show FJ [.lst (zs.map (zT n)),.non]=some (.ok (.bl true));generalize zs.map (zT n)=ZS at *;unfold FJ Lk
  simp![sz,AG _ sz]
 |some f =>
  have sZ:=BX n f;have is:Az false (zT n f) .non=some (.bl false):=EC n (some f) false
  have lc:=DB (b:=AD 0) (me:=Rt) (zT n) (λg=>.bl (EK n f g)) (λτ=>∃x,τ=[x,some (zT n f)]) zs [none,some (zT n f)] ⟨none,rfl⟩ λg _ τ hI=>by
   obtain⟨x,rfl⟩:=hI;have sg:=BX n g;have wi:=Ss (n:=n) f g;generalize zT n f=F at *;generalize zT n g=G at *;refine⟨[some G,some F],by simp![sg,AN _ sg],?_,_,rfl⟩
   unfold Rt
   simp![sZ,AN _ sZ,sg,AN _ sg,wi]
  have ba:=GD (EK n f) zs;have ea:=bL (EK n f) zs;have es:=Gc (EK n f) zs;have ll:(zs.map (zT n)).length<=100000:=by rw[ya1];omega
  show FJ [.lst (zs.map (zT n)),zT n f]=some (.ok (.bl (zs.any (EK n f))));generalize zT n f=F at *;generalize zs.map (zT n)=ZS at *;unfold FJ Lk
  simp![-Az,is,sZ,AN _ sZ,sz,AG _ sz,ll,lc,es,ba,ea]
abbrev VM:Stmt:=AQ 86
def QS:AL :=
 (m2 BF (AA 0) (AA 2))
def Ro:AL :=
 (AK F8 (AB (AA 1) AE))
def QP:AL :=
 (m2 (Az true) (AA 0) (mC .non))
def Rn:AL :=
 (AA 0)
def Km:AJ :=
 (AH (AZ (BD 2 [8] (Ap (AA 2)) (Aj 2 (AM (AD 0) (AM (AD 1) Am))) QS Ro) (AD 10))
 (HB 3 (AA 8) (BD 1 [] (Ap (AA 10)) (AD 0) QP Rn)))
def Ht:AJ :=
 (AH (AZ (mC .non) (AD 13))
 (AH (DW 3) (AH (A2 (CU (m2 BF (AO (AA 12) (mC (.int 0))) (AA 8)) (m2 BF (AO (AA 12) (mC (.int 4))) (mC (.str "")))) (AZ (AK Gg (AB (AA 11) (AB (AA 12) (AB (AA 5) (AB (AA 1) AE))))) (AD 13)) A8)
 (AH (DW 3) (A2 (BE (AK FJ (AB (CA (AA 3) (AO (AA 12) (mC (.int 1)))) (AB (AA 13) AE)))) (AU (mC (.bl false))) A8)))))
def Hs:AJ :=
 (AH (DW 3) (A2 (CU (m2 BF (AA 14) (AA 8)) (m2 (Az true) (AK Dw (AB (AA 11) (AB (AK JF (AB (AA 15) (AB (AA 1) AE))) AE))) (mC .non))) (AU (mC (.bl false))) A8))
def Hu:AJ :=
 (AH (DW 3) (AH (A2 (BE (AK FJ (AB (CA (AA 3) (AA 8)) (AB (AK Dj (AB (AK FH (AB (AA 11) AE)) (AB (AA 8) (AB (AA 5) (AB (AA 1) AE))))) AE)))) (AU (mC (.bl false))) A8)
 (AH (BU (Ap (AA 6)) (AD 12) Ht)
 (BU (Ap (AA 7)) (Aj 2 (AM (AD 14) (AM (AD 15) Am))) Hs))))
def GI:AJ :=
 (BU (Ap (CA (AA 3) (AA 8))) (AD 11) Hu)
def Lj:AJ :=
 (AH (AZ (AA 0) (Aj 3 (AM (AD 5) (AM (AD 6) (AM (AD 7) Am)))))
 (AH (Cg 3 Fv)
 (AH (BU (Ap (AA 5)) (Aj 2 (AM (AD 8) (AM (AD 9) Am))) Km)
 (AH (AZ (AO (AO (AA 5) (mC (.int 0))) (mC (.int 0))) (AD 4))
 (AH (DW 3) (AH (A2 (BE (AK FJ (AB (CA (AA 3) (AA 4)) (AB (AK Dj (AB (AK F7 (AB (m1 Ba (AA 1)) AE)) (AB (AA 4) (AB (AA 5) (AB (AA 1) AE))))) AE)))) (AU (mC (.bl false))) A8)
 (AH (BU (Ap (AA 5)) (Aj 2 (AM (AD 8) (AM (AD 9) Am))) GI)
 (AU (mC (.bl true))))))))))
def NA:List T->Option Ru:=A4 3 16 Lj
abbrev Za:Fn:=⟨7,["_law_parts_here","_law_watches","_law_paper_here"],NA⟩
abbrev zkw:Gx:={ Bw with gt:=["_law_zones"] }
abbrev zkz:Gm:=⟨["_law_parts_here","_law_watches","_law_paper_here","_law_zones","_law_first","_law_rooms","_law_doors","_law_goal","_law_name","_law_stay","_law_some","_law_zone","_law_door","_law_behind_here","_law_room","_law_guard"],(CD VM).names,["_law_name"],6,[("narrowest",MH),("_law_covered",Zc),("_law_stayed",MK),("nought",Q5),("waited",ME),("_law_behind",Qm),("met",HX),("_law_by_places",MN)],["len"],[],["_law_zones"],[],false,[],[],["_law_zones"],zkw⟩
theorem zlc:Ck zkz Za VM Lj:={}
theorem Jr{α:Type}{b:T->AV->Option AV}{body:AJ}(f:α->T)(p:α->Bool)(I:AV->Prop):∀(L:List α) (τ:AV),I τ->(∀x∈L,∀τ,I τ->∃τ1,b (f x) τ=some τ1/\(p x=true->∃τ2,body τ1=some (.nx τ2)/\I τ2)/\(p x=false->body τ1=some (.rt (.bl false))))->(L.all p=true->∃τ',BW b body (L.map f) τ=some (.nx τ')/\I τ')/\(L.all p=false->BW b body (L.map f) τ=some (.rt (.bl false)))
 |[],τ,h,_=>⟨λ_=>⟨τ,rfl,h⟩,λh=>by cases h⟩
 |x::L,τ,h,hs=>by
  obtain⟨τ1,e1,k1,k2⟩:=hs x (.head _) τ h;rw[yap,ybo];unfold BW;cases q:p x with
  |false=>exact⟨λh=>(by cases h),λ_=>by simp only[e1,k2 q]⟩
  |true =>
   obtain⟨τ2,e2,h2⟩:=k1 q;obtain⟨i1,i2⟩:=Jr f p I L τ2 h2 λy hy=>hs y (.tail _ hy)
   rw[ybg];simp only[e1,e2];exact⟨i1,i2⟩
abbrev A9(PT WS PP ZT:T)(y4:Option T)(RS DS GS:T)(y8 y9 y10 y11 y12 y13 y14 y15:Option T):AV:=[some PT,some WS,some PP,some ZT,y4,some RS,some DS,some GS,y8,y9,y10,y11,y12,y13,y14,y15]
def Av(n:Nat)(P:List (Str×Db.Z))(x:Str):T:=.lst ((AX n P x).map (zT n))
theorem Fc(n:Nat)(P:List (Str×Db.Z))(x:Str):(Av n P x).sh=true:=by
 have:=Dy n (AX n P x);unfold Av;generalize (AX n P x).map (zT n)=L at *
 simp![this]
def Eg(ws:List Str)(rs:List (Str×List T))(ds:List Dr)(gl:List (Str×List T))(P:List (Str×Db.Z))(x:Str)(f:Db.Z):Bool :=
 CM (ws.length+1) (AX (ws.length+1) P x) (A5 (A7 ws rs x) (Dm.wtd f)) && ((ds.all λd=>CM (ws.length+1) (AX (ws.length+1) P d.e) (if d.s=x/\d.z=Str.ofString "" then DQ ws rs f d else none)) && gl.all λg=>!(decide (g.1=x) && (A5 (g.2.map (B9 ws)) f).isSome))
def H0(ws:List Str)(rs:List (Str×List T))(ds:List Dr)(gl:List (Str×List T))(P:List (Str×Db.Z))(x0:Str):Bool :=
 CM (ws.length+1) (AX (ws.length+1) P x0) (A5 (A7 ws rs x0) BZ) && rs.all λr=>(AX (ws.length+1) P r.1).all (Eg ws rs ds gl P r.1)
section
variable {ws:List Str}(tw:Bd ws)(h7:ws.length<=7){rs:List (Str×List T)}(hr:RsOk ws rs){ds:List Dr}(hds:∀d∈ds,DrOk ws (rs.map (·.1)) d){gl:List (Str×List T)}(hg:Hn ws (rs.map (·.1)) gl){P:List (Str×Db.Z)}(hP:∀p∈P,p.1∈rs.map (·.1))(hl:P.length<=1000)
include tw h7 hr hds hg hP hl
theorem zic{PT PP:T}{y4 y9 y10 y13 y14 y15:Option T}{r:Str}(hr0:r∈rs.map (·.1)){f:Db.Z}(hf:Db.Nar (ws.length+1) f){d:Dr}(hd:d∈ds):∃z13,Ht (A9 PT (.lst (ws.map T.str)) PP (.obj (.sdc (rs.map (·.1))) ((rs.map (·.1)).map (Av (ws.length+1) P))) y4 (.lst (rs.map AF)) (.lst (ds.map AI)) (.lst (gl.map AF)) (some (.str r)) y9 y10 (some (zT (ws.length+1) f)) (some (AI d)) y13 y14 y15)=some (if CM (ws.length+1) (AX (ws.length+1) P d.e) (if d.s=r/\d.z=Str.ofString "" then DQ ws rs f d else none)=true then .nx (A9 PT (.lst (ws.map T.str)) PP (.obj (.sdc (rs.map (·.1))) ((rs.map (·.1)).map (Av (ws.length+1) P))) y4 (.lst (rs.map AF)) (.lst (ds.map AI)) (.lst (gl.map AF)) (some (.str r)) y9 y10 (some (zT (ws.length+1) f)) (some (AI d)) z13 y14 y15) else .rt (.bl false)):=by
 have tn:Bd (rs.map (·.1)):=λx hx=>by
  obtain⟨r,h,rfl⟩:=yac.mp hx;exact GQ (hr.nm r h).1
 have D:=hds d hd;have sd:=F6 D;have sR:=Ep hr;have sW:A3 (ws.map T.str)=true:=Ae _;have sf:=BX (ws.length+1) f;have sZ:A3 ((rs.map (·.1)).map (Av (ws.length+1) P))=true:=By λx _=>Fc _ _ x
 have bh:=bG tw h7 hr hf D;have e1:=Ef (tn _ D.s) (tn _ hr0);have e2:BF (.str d.z) (.str "")=some (.bl (decide (d.z=Str.ofString ""))):=Ef (LD D.z) Zv;have dat0:Ag [T.str d.s,.str d.e,.lst d.g,.lst (d.n.map T.str),.str d.z] 0=some (.str d.s):=Cs (by decide) rfl
 have dat1:Ag [T.str d.s,.str d.e,.lst d.g,.lst (d.n.map T.str),.str d.z] 1=some (.str d.e):=Cs (by decide) rfl
 have dat4:Ag [T.str d.s,.str d.e,.lst d.g,.lst (d.n.map T.str),.str d.z] 4=some (.str d.z):=Cs (by decide) rfl
 have sg:=D.g.sh;obtain⟨o,eo⟩:∃o,(if d.s=r/\d.z=Str.ofString "" then DQ ws rs f d else none)=o:=⟨_,rfl⟩
 rw[eo];have so:=CQ (ws.length+1) o;have cv:=Qz (n:=ws.length+1) (zs:=AX (ws.length+1) P d.e) (yaj (JN _ _ _) hl) o;refine⟨some (oT (ws.length+1) o),?_⟩;generalize hZT:T.obj (.sdc (rs.map (·.1))) ((rs.map (·.1)).map (Av (ws.length+1) P))=ZT
 have sT:ZT.sh=true:=by
  rw[<- hZT];generalize (rs.map (·.1)).map (Av (ws.length+1) P)=L at *
  simp![sZ]
 unfold Ht;refine sq (τ':=A9 PT (.lst (ws.map T.str)) PP ZT y4 (.lst (rs.map AF)) (.lst (ds.map AI)) (.lst (gl.map AF)) (some (.str r)) y9 y10 (some (zT (ws.length+1) f)) (some (AI d)) (some .non) y14 y15) (by simp![]) ?_
 refine DI (by unfold A9;simp![sT,AN _ sT]) ?_
 refine sq (τ':=A9 PT (.lst (ws.map T.str)) PP ZT y4 (.lst (rs.map AF)) (.lst (ds.map AI)) (.lst (gl.map AF)) (some (.str r)) y9 y10 (some (zT (ws.length+1) f)) (some (AI d)) (some (oT (ws.length+1) o)) y14 y15) ?_ ?_
 .have ca:CU (m2 BF (AO (AA 12) (mC (.int 0))) (AA 8)) (m2 BF (AO (AA 12) (mC (.int 4))) (mC (.str ""))) (A9 PT (.lst (ws.map T.str)) PP ZT y4 (.lst (rs.map AF)) (.lst (ds.map AI)) (.lst (gl.map AF)) (some (.str r)) y9 y10 (some (zT (ws.length+1) f)) (some (AI d)) (some .non) y14 y15)=some (.v (.bl (decide (d.s=r/\d.z=Str.ofString ""))) false):=by
   unfold A9 AI
   by_cases q1:d.s=r
   .by_cases q2:d.z=Str.ofString ""
    .rw[ye1 q1]at e1;rw[ye1 q2]at e2;rw[ye1 ⟨q1,q2⟩]
     simp![dat0,dat4,e1,e2,sg,AG _ sg,BB,Ae]
    .rw[ye1 q1]at e1;rw[ydl q2]at e2;rw[ydl λz=>q2 z.2]
     simp![dat0,dat4,e1,e2,sg,AG _ sg,BB,Ae]
   .rw[ydl q1]at e1;rw[ydl λz=>q1 z.1]
    simp![dat0,e1,sg,AG _ sg,BB,Ae]
  by_cases q:d.s=r/\d.z=Str.ofString ""
  .rw[ye1 q]at ca;rw[if_pos q]at eo;rw[eo]at bh;refine G7 ca ?_;generalize oT (ws.length+1) o=O at *;generalize zT (ws.length+1) f=Z at *;generalize AI d=DT at *;generalize rs.map AF=RS at *
   simp![sf,AN _ sf,sd,AN _ sd,sR,AG _ sR,sW,AG _ sW,bh,so,AN _ so]
  .rw[ydl q]at ca;rw[if_neg q]at eo;subst eo;exact DF ca (by simp![oT])
 refine DI (by unfold A9;simp![sT,AN _ sT]) ?_
 have v3:AA 3 (A9 PT (.lst (ws.map T.str)) PP ZT y4 (.lst (rs.map AF)) (.lst (ds.map AI)) (.lst (gl.map AF)) (some (.str r)) y9 y10 (some (zT (ws.length+1) f)) (some (AI d)) (some (oT (ws.length+1) o)) y14 y15)=some (.v (.obj (.sdc (rs.map (·.1))) ((rs.map (·.1)).map (Av (ws.length+1) P))) false):=by
  rw[hZT]
  simp![sT]
 have vk:AO (AA 12) (mC (.int 1)) (A9 PT (.lst (ws.map T.str)) PP ZT y4 (.lst (rs.map AF)) (.lst (ds.map AI)) (.lst (gl.map AF)) (some (.str r)) y9 y10 (some (zT (ws.length+1) f)) (some (AI d)) (some (oT (ws.length+1) o)) y14 y15)=some (.v (.str d.e) false):=by
  unfold A9 AI
  simp![dat1,sg,AG _ sg,BB,Ae]
 have g3:=Ec v3 vk D.e (Fc _ P d.e);unfold Av at g3;have sz:=Dy (ws.length+1) (AX (ws.length+1) P d.e);generalize CM (ws.length+1) (AX (ws.length+1) P d.e) o=b at *;generalize (AX (ws.length+1) P d.e).map (zT (ws.length+1))=ZS at *;generalize CA (AA 3) (AO (AA 12) (mC (.int 1)))=MG at *;generalize oT (ws.length+1) o=O at *;unfold A9 at *;cases b<;>simp![g3,sz,AG _ sz,so,AN _ so,cv]
theorem zib{PT PP:T}{y4 y9 y10 y12 y13:Option T}{r:Str}(hr0:r∈rs.map (·.1)){f:Db.Z}(hf:Db.Nar (ws.length+1) f){g:Str×List T}(hgm:g∈gl):Hs (A9 PT (.lst (ws.map T.str)) PP (.obj (.sdc (rs.map (·.1))) ((rs.map (·.1)).map (Av (ws.length+1) P))) y4 (.lst (rs.map AF)) (.lst (ds.map AI)) (.lst (gl.map AF)) (some (.str r)) y9 y10 (some (zT (ws.length+1) f)) y12 y13 (some (.str g.1)) (some (.lst g.2)))=some (if (!(decide (g.1=r) && (A5 (g.2.map (B9 ws)) f).isSome))=true then .nx (A9 PT (.lst (ws.map T.str)) PP (.obj (.sdc (rs.map (·.1))) ((rs.map (·.1)).map (Av (ws.length+1) P))) y4 (.lst (rs.map AF)) (.lst (ds.map AI)) (.lst (gl.map AF)) (some (.str r)) y9 y10 (some (zT (ws.length+1) f)) y12 y13 (some (.str g.1)) (some (.lst g.2))) else .rt (.bl false)):=by
 have tn:Bd (rs.map (·.1)):=λx hx=>by
  obtain⟨r,h,rfl⟩:=yac.mp hx;exact GQ (hr.nm r h).1
 obtain⟨g1,g2,g3⟩:=hg g hgm;have sW:A3 (ws.map T.str)=true:=Ae _;have sf:=BX (ws.length+1) f;have sg:=g2.sh;have sZ:A3 ((rs.map (·.1)).map (Av (ws.length+1) P))=true:=By λx _=>Fc _ _ x
 have e1:=Ef (tn _ g1) (tn _ hr0);have bp:=Rx h7 g2 (by omega)
 have mt:=HH (m:=ws.length) (by omega) hf (Fj g2)
 have sl:=DZ (g.2.map (B9 ws));have so:=CQ (ws.length+1) (A5 (g.2.map (B9 ws)) f);have is:=EC (ws.length+1) (A5 (g.2.map (B9 ws)) f) true;rw[show(true != (A5 (g.2.map (B9 ws)) f).isNone)=(A5 (g.2.map (B9 ws)) f).isSome by cases A5 (g.2.map (B9 ws)) f<;>rfl]at is
 generalize hZT:T.obj (.sdc (rs.map (·.1))) ((rs.map (·.1)).map (Av (ws.length+1) P))=ZT
 have sT:ZT.sh=true:=by
  rw[<- hZT];generalize (rs.map (·.1)).map (Av (ws.length+1) P)=L at *
  simp![sZ]
 unfold Hs;refine DI (by unfold A9;simp![sT,AN _ sT]) ?_
 generalize (A5 (g.2.map (B9 ws)) f).isSome=b at *;generalize oT (ws.length+1) (A5 (g.2.map (B9 ws)) f)=O at *;generalize (g.2.map (B9 ws)).map An=LL at *;generalize zT (ws.length+1) f=Z at *;unfold A9
 by_cases q:g.1=r
 .rw[ye1 q]at e1 ⊢;cases b<;>simp![-Az,e1,sf,AN _ sf,sg,AG _ sg,sW,AG _ sW,bp,sl,AG _ sl,mt,so,AN _ so,is]
 .rw[ydl q]at e1 ⊢
  simp![e1]
theorem zi9{PT PP:T}{y4 y9 y10 y12 y13 y14 y15:Option T}{r:Str}(hr0:r∈rs.map (·.1)){f:Db.Z}(hf:Db.Nar (ws.length+1) f):(Eg ws rs ds gl P r f=true->∃z12 z13 z14 z15,Hu (A9 PT (.lst (ws.map T.str)) PP (.obj (.sdc (rs.map (·.1))) ((rs.map (·.1)).map (Av (ws.length+1) P))) y4 (.lst (rs.map AF)) (.lst (ds.map AI)) (.lst (gl.map AF)) (some (.str r)) y9 y10 (some (zT (ws.length+1) f)) y12 y13 y14 y15)=some (.nx (A9 PT (.lst (ws.map T.str)) PP (.obj (.sdc (rs.map (·.1))) ((rs.map (·.1)).map (Av (ws.length+1) P))) y4 (.lst (rs.map AF)) (.lst (ds.map AI)) (.lst (gl.map AF)) (some (.str r)) y9 y10 (some (zT (ws.length+1) f)) z12 z13 z14 z15)))/\(Eg ws rs ds gl P r f=false->Hu (A9 PT (.lst (ws.map T.str)) PP (.obj (.sdc (rs.map (·.1))) ((rs.map (·.1)).map (Av (ws.length+1) P))) y4 (.lst (rs.map AF)) (.lst (ds.map AI)) (.lst (gl.map AF)) (some (.str r)) y9 y10 (some (zT (ws.length+1) f)) y12 y13 y14 y15)=some (.rt (.bl false))):=by
 have sR:=Ep hr;have sW:A3 (ws.map T.str)=true:=Ae _;have sf:=BX (ws.length+1) f;have sD:A3 (ds.map AI)=true:=By λd hd=>F6 (hds d hd)
 have sG:=hg.sh;have sZ:A3 ((rs.map (·.1)).map (Av (ws.length+1) P))=true:=By λx _=>Fc _ _ x
 have wa:=Kc (m:=ws.length) (by omega) f
 have ew:(T.own (oZ (ws.length+1) (Dm.wtd f))).share=zT (ws.length+1) (Dm.wtd f):=by rw[T.share,ET]
 have sw:=BX (ws.length+1) (Dm.wtd f);have std:=IB tw h7 hr (Dm.wtd_nar hf) hr0;have so:=CQ (ws.length+1) (A5 (A7 ws rs r) (Dm.wtd f));have cv:=Qz (n:=ws.length+1) (zs:=AX (ws.length+1) P r) (yaj (JN _ _ _) hl) (A5 (A7 ws rs r) (Dm.wtd f))
 have lp1:=Jr (b:=AD 12) (body:=Ht) AI (λd=>CM (ws.length+1) (AX (ws.length+1) P d.e) (if d.s=r/\d.z=Str.ofString "" then DQ ws rs f d else none)) (λτ=>∃z12 z13,τ=(A9 PT (.lst (ws.map T.str)) PP (.obj (.sdc (rs.map (·.1))) ((rs.map (·.1)).map (Av (ws.length+1) P))) y4 (.lst (rs.map AF)) (.lst (ds.map AI)) (.lst (gl.map AF)) (some (.str r)) y9 y10 (some (zT (ws.length+1) f)) z12 z13 y14 y15)) ds (A9 PT (.lst (ws.map T.str)) PP (.obj (.sdc (rs.map (·.1))) ((rs.map (·.1)).map (Av (ws.length+1) P))) y4 (.lst (rs.map AF)) (.lst (ds.map AI)) (.lst (gl.map AF)) (some (.str r)) y9 y10 (some (zT (ws.length+1) f)) y12 y13 y14 y15) ⟨_,_,rfl⟩ λd hd τ hI=>by
  obtain⟨z12,z13,rfl⟩:=hI;obtain⟨z,e⟩:=zic tw h7 hr hds hg hP hl (PT:=PT) (PP:=PP) (y4:=y4) (y9:=y9) (y10:=y10) (y13:=z13) (y14:=y14) (y15:=y15) hr0 hf hd;refine⟨A9 PT (.lst (ws.map T.str)) PP (.obj (.sdc (rs.map (·.1))) ((rs.map (·.1)).map (Av (ws.length+1) P))) y4 (.lst (rs.map AF)) (.lst (ds.map AI)) (.lst (gl.map AF)) (some (.str r)) y9 y10 (some (zT (ws.length+1) f)) (some (AI d)) z13 y14 y15,by simp![],λq=>⟨_,by rw[e,if_pos q],_,_,rfl⟩,λq=>by rw[e,q];rfl⟩
 have lp2:∀z12 z13,_:=λz12 z13=>Jr (b:=Aj 2 (AM (AD 14) (AM (AD 15) Am))) (body:=Hs) AF (λg=>!(decide (g.1=r) && (A5 (g.2.map (B9 ws)) f).isSome)) (λτ=>∃z14 z15,τ=(A9 PT (.lst (ws.map T.str)) PP (.obj (.sdc (rs.map (·.1))) ((rs.map (·.1)).map (Av (ws.length+1) P))) y4 (.lst (rs.map AF)) (.lst (ds.map AI)) (.lst (gl.map AF)) (some (.str r)) y9 y10 (some (zT (ws.length+1) f)) z12 z13 z14 z15)) gl (A9 PT (.lst (ws.map T.str)) PP (.obj (.sdc (rs.map (·.1))) ((rs.map (·.1)).map (Av (ws.length+1) P))) y4 (.lst (rs.map AF)) (.lst (ds.map AI)) (.lst (gl.map AF)) (some (.str r)) y9 y10 (some (zT (ws.length+1) f)) z12 z13 y14 y15) ⟨_,_,rfl⟩ λg hgm τ hI=>by
  obtain⟨z14,z15,rfl⟩:=hI;have e:=zib tw h7 hr hds hg hP hl (PT:=PT) (PP:=PP) (y4:=y4) (y9:=y9) (y10:=y10) (y12:=z12) (y13:=z13) hr0 hf hgm;have sg:=(hg g hgm).2.1.sh
  refine⟨A9 PT (.lst (ws.map T.str)) PP (.obj (.sdc (rs.map (·.1))) ((rs.map (·.1)).map (Av (ws.length+1) P))) y4 (.lst (rs.map AF)) (.lst (ds.map AI)) (.lst (gl.map AF)) (some (.str r)) y9 y10 (some (zT (ws.length+1) f)) z12 z13 (some (.str g.1)) (some (.lst g.2)),by
   generalize zT (ws.length+1) f=Z at *;generalize (rs.map (·.1)).map (Av (ws.length+1) P)=L at *;unfold A9
   simp![sg,AG _ sg],λq=>⟨_,by rw[e,if_pos q],_,_,rfl⟩,λq=>by rw[e,q];rfl⟩
 unfold Eg;generalize (ds.all λd=>CM (ws.length+1) (AX (ws.length+1) P d.e) (if d.s=r/\d.z=Str.ofString "" then DQ ws rs f d else none))=b2 at *
 generalize (gl.all λg=>!(decide (g.1=r) && (A5 (g.2.map (B9 ws)) f).isSome))=b3 at *
 generalize hZT:T.obj (.sdc (rs.map (·.1))) ((rs.map (·.1)).map (Av (ws.length+1) P))=ZT at *
 have sT:ZT.sh=true:=by
  rw[<- hZT];generalize (rs.map (·.1)).map (Av (ws.length+1) P)=L at *
  simp![sZ]
 have v3:AA 3 (A9 PT (.lst (ws.map T.str)) PP ZT y4 (.lst (rs.map AF)) (.lst (ds.map AI)) (.lst (gl.map AF)) (some (.str r)) y9 y10 (some (zT (ws.length+1) f)) y12 y13 y14 y15)=some (.v (.obj (.sdc (rs.map (·.1))) ((rs.map (·.1)).map (Av (ws.length+1) P))) false):=by
  rw[hZT]
  simp![sT]
 have v8:AA 8 (A9 PT (.lst (ws.map T.str)) PP ZT y4 (.lst (rs.map AF)) (.lst (ds.map AI)) (.lst (gl.map AF)) (some (.str r)) y9 y10 (some (zT (ws.length+1) f)) y12 y13 y14 y15)=some (.v (.str r) false):=by simp![]
 have g3:=Ec v3 v8 hr0 (Fc _ P r);unfold Av at g3;have sz:=Dy (ws.length+1) (AX (ws.length+1) P r)
 have row1:A2 (BE (AK FJ (AB (CA (AA 3) (AA 8)) (AB (AK Dj (AB (AK FH (AB (AA 11) AE)) (AB (AA 8) (AB (AA 5) (AB (AA 1) AE))))) AE)))) (AU (mC (.bl false))) A8 (A9 PT (.lst (ws.map T.str)) PP ZT y4 (.lst (rs.map AF)) (.lst (ds.map AI)) (.lst (gl.map AF)) (some (.str r)) y9 y10 (some (zT (ws.length+1) f)) y12 y13 y14 y15)=some (if CM (ws.length+1) (AX (ws.length+1) P r) (A5 (A7 ws rs r) (Dm.wtd f))=true then .nx (A9 PT (.lst (ws.map T.str)) PP ZT y4 (.lst (rs.map AF)) (.lst (ds.map AI)) (.lst (gl.map AF)) (some (.str r)) y9 y10 (some (zT (ws.length+1) f)) y12 y13 y14 y15) else .rt (.bl false)):=by
  generalize CA (AA 3) (AA 8)=MG at *;generalize CM (ws.length+1) (AX (ws.length+1) P r) (A5 (A7 ws rs r) (Dm.wtd f))=b1 at *;generalize oT (ws.length+1) (A5 (A7 ws rs r) (Dm.wtd f))=O at *;generalize (AX (ws.length+1) P r).map (zT (ws.length+1))=ZS at *;generalize zT (ws.length+1) (Dm.wtd f)=W at *;generalize T.own (oZ (ws.length+1) (Dm.wtd f))=OW at *;generalize zT (ws.length+1) f=Z at *;generalize rs.map AF=RS at *;generalize ws.map T.str=WS at *;unfold A9 at *;cases b1<;>simp![g3,sz,AG _ sz,sf,AN _ sf,wa,ew,sw,AN _ sw,sR,AG _ sR,sW,AG _ sW,std,so,AN _ so,cv]
 have frz:DW 3 (A9 PT (.lst (ws.map T.str)) PP ZT y4 (.lst (rs.map AF)) (.lst (ds.map AI)) (.lst (gl.map AF)) (some (.str r)) y9 y10 (some (zT (ws.length+1) f)) y12 y13 y14 y15)=some (.nx (A9 PT (.lst (ws.map T.str)) PP ZT y4 (.lst (rs.map AF)) (.lst (ds.map AI)) (.lst (gl.map AF)) (some (.str r)) y9 y10 (some (zT (ws.length+1) f)) y12 y13 y14 y15)):=by unfold A9;simp![sT,AN _ sT]
 unfold Hu;cases b1:CM (ws.length+1) (AX (ws.length+1) P r) (A5 (A7 ws rs r) (Dm.wtd f)) with
 |false =>
  rw[b1]at row1;exact⟨λh=>(by cases h),λ_=>DI frz (sr row1)⟩
 |true =>
  rw[b1]at row1;rw[ybg]
  have f1:∀R,BW (AD 12) Ht (ds.map AI) (A9 PT (.lst (ws.map T.str)) PP ZT y4 (.lst (rs.map AF)) (.lst (ds.map AI)) (.lst (gl.map AF)) (some (.str r)) y9 y10 (some (zT (ws.length+1) f)) y12 y13 y14 y15)=R->BU (Ap (AA 6)) (AD 12) Ht (A9 PT (.lst (ws.map T.str)) PP ZT y4 (.lst (rs.map AF)) (.lst (ds.map AI)) (.lst (gl.map AF)) (some (.str r)) y9 y10 (some (zT (ws.length+1) f)) y12 y13 y14 y15)=R:=by
   rintro _ rfl;generalize ds.map AI=DS at *;unfold A9
   simp![sD,AG _ sD]
  cases b2 with
  |false =>
   refine⟨λh=>(by cases h),λ_=>DI frz (DI row1 (sr (f1 _ (lp1.2 rfl))))⟩
  |true =>
   obtain⟨τ',e1,z12,z13,rfl⟩:=lp1.1 rfl;have lp2:=lp2 z12 z13
   have f2:∀R,BW (Aj 2 (AM (AD 14) (AM (AD 15) Am))) Hs (gl.map AF) (A9 PT (.lst (ws.map T.str)) PP ZT y4 (.lst (rs.map AF)) (.lst (ds.map AI)) (.lst (gl.map AF)) (some (.str r)) y9 y10 (some (zT (ws.length+1) f)) z12 z13 y14 y15)=R->BU (Ap (AA 7)) (Aj 2 (AM (AD 14) (AM (AD 15) Am))) Hs (A9 PT (.lst (ws.map T.str)) PP ZT y4 (.lst (rs.map AF)) (.lst (ds.map AI)) (.lst (gl.map AF)) (some (.str r)) y9 y10 (some (zT (ws.length+1) f)) z12 z13 y14 y15)=R:=by
    rintro _ rfl;generalize gl.map AF=GS at *;unfold A9
    simp![sG,AG _ sG]
   rw[ybg];refine⟨λh=>?_,λh=>?_⟩
   .obtain⟨τ',e2,z14,z15,rfl⟩:=lp2.1 h;exact⟨z12,z13,z14,z15,DI frz (DI row1 (sq (f1 _ e1) (f2 _ e2)))⟩
   .exact DI frz (DI row1 (sq (f1 _ e1) (f2 _ (lp2.2 h))))
theorem zia{PT PP:T}{y4 y9 y10 y11 y12 y13 y14 y15:Option T}{r:Str}(hr0:r∈rs.map (·.1)):((AX (ws.length+1) P r).all (Eg ws rs ds gl P r)=true->∃z11 z12 z13 z14 z15,GI (A9 PT (.lst (ws.map T.str)) PP (.obj (.sdc (rs.map (·.1))) ((rs.map (·.1)).map (Av (ws.length+1) P))) y4 (.lst (rs.map AF)) (.lst (ds.map AI)) (.lst (gl.map AF)) (some (.str r)) y9 y10 y11 y12 y13 y14 y15)=some (.nx (A9 PT (.lst (ws.map T.str)) PP (.obj (.sdc (rs.map (·.1))) ((rs.map (·.1)).map (Av (ws.length+1) P))) y4 (.lst (rs.map AF)) (.lst (ds.map AI)) (.lst (gl.map AF)) (some (.str r)) y9 y10 z11 z12 z13 z14 z15)))/\((AX (ws.length+1) P r).all (Eg ws rs ds gl P r)=false->GI (A9 PT (.lst (ws.map T.str)) PP (.obj (.sdc (rs.map (·.1))) ((rs.map (·.1)).map (Av (ws.length+1) P))) y4 (.lst (rs.map AF)) (.lst (ds.map AI)) (.lst (gl.map AF)) (some (.str r)) y9 y10 y11 y12 y13 y14 y15)=some (.rt (.bl false))):=by
 have sZ:A3 ((rs.map (·.1)).map (Av (ws.length+1) P))=true:=By λx _=>Fc _ _ x
 have lp:=Jr (b:=AD 11) (body:=Hu) (zT (ws.length+1)) (Eg ws rs ds gl P r) (λτ=>∃z11 z12 z13 z14 z15,τ=(A9 PT (.lst (ws.map T.str)) PP (.obj (.sdc (rs.map (·.1))) ((rs.map (·.1)).map (Av (ws.length+1) P))) y4 (.lst (rs.map AF)) (.lst (ds.map AI)) (.lst (gl.map AF)) (some (.str r)) y9 y10 z11 z12 z13 z14 z15)) (AX (ws.length+1) P r) (A9 PT (.lst (ws.map T.str)) PP (.obj (.sdc (rs.map (·.1))) ((rs.map (·.1)).map (Av (ws.length+1) P))) y4 (.lst (rs.map AF)) (.lst (ds.map AI)) (.lst (gl.map AF)) (some (.str r)) y9 y10 y11 y12 y13 y14 y15) ⟨_,_,_,_,_,rfl⟩ λf hf τ hI=>by
  obtain⟨z11,z12,z13,z14,z15,rfl⟩:=hI;obtain⟨k1,k2⟩:=zi9 tw h7 hr hds hg hP hl (PT:=PT) (PP:=PP) (y4:=y4) (y9:=y9) (y10:=y10) (y12:=z12) (y13:=z13) (y14:=z14) (y15:=z15) hr0 (NI hf);refine⟨A9 PT (.lst (ws.map T.str)) PP (.obj (.sdc (rs.map (·.1))) ((rs.map (·.1)).map (Av (ws.length+1) P))) y4 (.lst (rs.map AF)) (.lst (ds.map AI)) (.lst (gl.map AF)) (some (.str r)) y9 y10 (some (zT (ws.length+1) f)) z12 z13 z14 z15,by simp![],λq=>?_,k2⟩
  obtain⟨x12,x13,x14,x15,e⟩:=k1 q;exact⟨_,e,_,_,_,_,_,rfl⟩
 have v3:AA 3 (A9 PT (.lst (ws.map T.str)) PP (.obj (.sdc (rs.map (·.1))) ((rs.map (·.1)).map (Av (ws.length+1) P))) y4 (.lst (rs.map AF)) (.lst (ds.map AI)) (.lst (gl.map AF)) (some (.str r)) y9 y10 y11 y12 y13 y14 y15)=some (.v (.obj (.sdc (rs.map (·.1))) ((rs.map (·.1)).map (Av (ws.length+1) P))) false):=by
  generalize (rs.map (·.1)).map (Av (ws.length+1) P)=L at *;unfold A9
  simp![sZ]
 have v8:AA 8 (A9 PT (.lst (ws.map T.str)) PP (.obj (.sdc (rs.map (·.1))) ((rs.map (·.1)).map (Av (ws.length+1) P))) y4 (.lst (rs.map AF)) (.lst (ds.map AI)) (.lst (gl.map AF)) (some (.str r)) y9 y10 y11 y12 y13 y14 y15)=some (.v (.str r) false):=by unfold A9;simp![]
 have g3:CA (AA 3) (AA 8) (A9 PT (.lst (ws.map T.str)) PP (.obj (.sdc (rs.map (·.1))) ((rs.map (·.1)).map (Av (ws.length+1) P))) y4 (.lst (rs.map AF)) (.lst (ds.map AI)) (.lst (gl.map AF)) (some (.str r)) y9 y10 y11 y12 y13 y14 y15)=some (.v (.lst ((AX (ws.length+1) P r).map (zT (ws.length+1)))) false):=Ec v3 v8 hr0 (Fc _ P r)
 have sz:=Dy (ws.length+1) (AX (ws.length+1) P r)
 have f1:∀R,BW (AD 11) Hu ((AX (ws.length+1) P r).map (zT (ws.length+1))) (A9 PT (.lst (ws.map T.str)) PP (.obj (.sdc (rs.map (·.1))) ((rs.map (·.1)).map (Av (ws.length+1) P))) y4 (.lst (rs.map AF)) (.lst (ds.map AI)) (.lst (gl.map AF)) (some (.str r)) y9 y10 y11 y12 y13 y14 y15)=R->GI (A9 PT (.lst (ws.map T.str)) PP (.obj (.sdc (rs.map (·.1))) ((rs.map (·.1)).map (Av (ws.length+1) P))) y4 (.lst (rs.map AF)) (.lst (ds.map AI)) (.lst (gl.map AF)) (some (.str r)) y9 y10 y11 y12 y13 y14 y15)=R:=by
  rintro _ rfl;unfold GI;generalize A9 _ _ _ _ _ _ _ _ _ _ _ _ _ _ _ _=τ at *;generalize (AX (ws.length+1) P r).map (zT (ws.length+1))=ZS at *;generalize CA (AA 3) (AA 8)=MG at *
  simp![g3,sz,AG _ sz]
 refine⟨λq=>?_,λq=>f1 _ (lp.2 q)⟩
 obtain⟨τ',e,z11,z12,z13,z14,z15,rfl⟩:=lp.1 q;exact⟨z11,z12,z13,z14,z15,f1 _ e⟩
theorem zoq{x0:Str}(hx0:rs.head?.map (·.1)=some x0)(ld:ds.length<=100)(lg:gl.length<=100):NA [.tup [.lst (rs.map AF),.lst (ds.map AI),.lst (gl.map AF)],.lst (ws.map T.str),.lst (P.map (AS (ws.length+1)))]=some (.ok (.bl (H0 ws rs ds gl P x0))):=by
 have tn:Bd (rs.map (·.1)):=λx hx=>by
  obtain⟨r,h,rfl⟩:=yac.mp hx;exact GQ (hr.nm r h).1
 have tp:∀p∈P,PyData.strOk p.1=true:=λp hp=>tn _ (hP p hp)
 have sR:=Ep hr;have sW:A3 (ws.map T.str)=true:=Ae _;have sD:A3 (ds.map AI)=true:=By λd hd=>F6 (hds d hd)
 have sG:=hg.sh;have sP:=HD (ws.length+1) P;have nd:=hr.nd;have l64:=hr.l64;have lP:(P.map (AS (ws.length+1))).length<=100000:=by rw[ya1];omega
 obtain⟨r0,rs',er,hx⟩:∃r0 rs',rs=r0::rs'/\r0.1=x0:=by
  cases rs with
  |nil=>cases hx0
  |cons a l=>exact⟨a,l,rfl,yal hx0⟩
 have hx1:x0∈rs.map (·.1):=by rw[er,<- hx];exact .head _
 have b1:(AF r0).sh=true:=by
  have:=(hr.lk r0 (by rw[er];exact .head _)).1.sh
  simp![this]
 have a0:Ag (rs.map AF) 0=some (AF r0):=by rw[er];exact Cs (by decide) rfl
 have w3:∀(i:Nat) (r:Str×List T) (y4 y8 y9 y10:Option T),r∈rs->(hi:i<rs.length)->rs[i]=r->∃z10,Km (A9 (.tup [.lst (rs.map AF),.lst (ds.map AI),.lst (gl.map AF)]) (.lst (ws.map T.str)) (.lst (P.map (AS (ws.length+1)))) (.osd ((rs.map (·.1)).take i) (((rs.map (·.1)).take i).map λx=>.own ((AX (ws.length+1) P x).map (zT (ws.length+1))))) y4 (.lst (rs.map AF)) (.lst (ds.map AI)) (.lst (gl.map AF)) (some (.str r.1)) (some (.lst r.2)) y10 none none none none none)=some (.nx (A9 (.tup [.lst (rs.map AF),.lst (ds.map AI),.lst (gl.map AF)]) (.lst (ws.map T.str)) (.lst (P.map (AS (ws.length+1)))) (.osd ((rs.map (·.1)).take (i+1)) (((rs.map (·.1)).take (i+1)).map λx=>.own ((AX (ws.length+1) P x).map (zT (ws.length+1))))) y4 (.lst (rs.map AF)) (.lst (ds.map AI)) (.lst (gl.map AF)) (some (.str r.1)) (some (.lst r.2)) z10 none none none none none)):=λi r y4 y8 y9 y10 hrm hi ei=>by
  have hr1:r.1∈rs.map (·.1):=yac.mpr ⟨r,hrm,rfl⟩
  have lc:=IQ (b:=Aj 2 (AM (AD 0) (AM (AD 1) Am))) (mt:=QS) (me:=Ro) (AS (ws.length+1)) (λp=>oT (ws.length+1) (Bl (ws.length+1) p.2)) (λp=>decide (p.1=r.1)) (λτ=>∃x y,τ=[x,y,some (.str r.1)]) P [none,none,some (.str r.1)] ⟨_,_,rfl⟩ λp hp τ hI=>by
   obtain⟨a,b,rfl⟩:=hI;have eq:=Ef (tp p hp) (tn _ hr1);have sZ:=BX (ws.length+1) p.2;have nr:=OU (n:=ws.length+1) (by omega) p.2
   have so:=CQ (ws.length+1) (Bl (ws.length+1) p.2);generalize oT (ws.length+1) (Bl (ws.length+1) p.2)=O at *;unfold AS;generalize zT (ws.length+1) p.2=Z at *;refine⟨[some (.str p.1),some Z,some (.str r.1)],false,by simp![sZ,AN _ sZ],?_,λ_=>?_,_,_,rfl⟩
   .unfold QS
    simp![eq]
   .unfold Ro
    simp![sZ,AN _ sZ,nr,so,AN _ so]
  have EF:=IQ (b:=AD 0) (mt:=QP) (me:=Rn) (oT (ws.length+1)) (oT (ws.length+1)) (·.isSome) (λτ=>∃x,τ=[x]) ((P.filter λp=>decide (p.1=r.1)).map λp=>Bl (ws.length+1) p.2) [none] ⟨_,rfl⟩ λo ho τ hI=>by
   obtain⟨a,rfl⟩:=hI;have so:=CQ (ws.length+1) o;have is:=EC (ws.length+1) o true;rw[show(true != o.isNone)=o.isSome by cases o<;>rfl]at is
   generalize oT (ws.length+1) o=O at *;refine⟨[some O],false,by simp![so,AN _ so],?_,λ_=>?_,_,rfl⟩
   .unfold QP
    simp![-Az,so,AN _ so,is]
   .unfold Rn
    simp![so,AN _ so]
  have e:((P.filter λp=>decide (p.1=r.1)).map λp=>Bl (ws.length+1) p.2).filterMap id=AX (ws.length+1) P r.1:=by rw[List.filterMap_map];rfl
  rw[L1,e,ybd]at EF;have e3:(List.filter (λp=>decide (p.1=r.1)) P).map (oT (ws.length+1) ∘ λp=>Bl (ws.length+1) p.2)=(List.filter (λp=>decide (p.1=r.1)) P).map λp=>oT (ws.length+1) (Bl (ws.length+1) p.2):=rfl
  rw[e3]at EF;have s2:A3 ((List.filter (λp=>decide (p.1=r.1)) P).map λp=>oT (ws.length+1) (Bl (ws.length+1) p.2))=true:=By λp _=>CQ _ _
  have l2:((List.filter (λp=>decide (p.1=r.1)) P).map λp=>oT (ws.length+1) (Bl (ws.length+1) p.2)).length<=100000:=by
   rw[ya1];have:=ycb (λp=>decide (p.1=r.1)) P
   omega
  have hin:i<(rs.map (·.1)).length:=by rw[ya1];exact hi
  have ein:(rs.map (·.1))[i]=r.1:=by rw[ybv,ei]
  have nk:r.1∉(rs.map (·.1)).take i:=λz=>by
   obtain⟨j,hj,e⟩:=ybr.mp z;have:=(yb5 nd).mp (e.trans ein.symm)
   omega
  have lk:((rs.map (·.1)).take i).length<100000:=by rw[yb6,ya1];omega
  rw[yb0 hin,ein,yas,show [r.1].map (λx=>T.own ((AX (ws.length+1) P x).map (zT (ws.length+1))))=[.own ((AX (ws.length+1) P r.1).map (zT (ws.length+1)))] from rfl]
  refine⟨some (.lst ((List.filter (λp=>decide (p.1=r.1)) P).map λp=>oT (ws.length+1) (Bl (ws.length+1) p.2))),?_⟩
  generalize (AX (ws.length+1) P r.1).map (zT (ws.length+1))=ZS at *;generalize ((List.filter (λp=>decide (p.1=r.1)) P).map λp=>oT (ws.length+1) (Bl (ws.length+1) p.2))=Q at *
  generalize P.map (AS (ws.length+1))=PP at *;generalize (((rs.map (·.1)).take i).map λx=>T.own ((AX (ws.length+1) P x).map (zT (ws.length+1))))=V at *
  generalize (rs.map (·.1)).take i=K at *;unfold Km A9;refine sq (by simp![sP,AG _ sP,lP,lc,s2,AG _ s2];rfl) ?_
  simp![s2,AG _ s2,l2,EF,nk,lk,yeg,yce,ycf]
 obtain⟨τ,e1,y8,y9,y10,rfl⟩:=Dg (b:=Aj 2 (AM (AD 8) (AM (AD 9) Am))) (body:=Km) (ts:=rs.map AF) (τ:=(A9 (.tup [.lst (rs.map AF),.lst (ds.map AI),.lst (gl.map AF)]) (.lst (ws.map T.str)) (.lst (P.map (AS (ws.length+1)))) (.osd [] []) none (.lst (rs.map AF)) (.lst (ds.map AI)) (.lst (gl.map AF)) none none none none none none none none)) (λi τ=>∃y8 y9 y10,τ=(A9 (.tup [.lst (rs.map AF),.lst (ds.map AI),.lst (gl.map AF)]) (.lst (ws.map T.str)) (.lst (P.map (AS (ws.length+1)))) (.osd ((rs.map (·.1)).take i) (((rs.map (·.1)).take i).map λx=>.own ((AX (ws.length+1) P x).map (zT (ws.length+1))))) none (.lst (rs.map AF)) (.lst (ds.map AI)) (.lst (gl.map AF)) y8 y9 y10 none none none none none)) ⟨_,_,_,rfl⟩ λi t τ h1 h2=>by
  obtain⟨y8,y9,y10,rfl⟩:=h2;have hi:i<rs.length:=by simpa using (ya2.mp h1).1
  rw[ya7,ya0 hi]at h1;have et:=(yal h1).symm;subst et;have hm:=yat hi;have s2:=(hr.lk _ hm).1.sh;obtain⟨z10,e⟩:=w3 i rs[i] none y8 y9 y10 hm hi rfl;refine⟨_,?_,_,e,_,_,_,rfl⟩;generalize (((rs.map (·.1)).take i).map λx=>T.own ((AX (ws.length+1) P x).map (zT (ws.length+1))))=V at *
  unfold A9
  simp![s2,AG _ s2]
 rw[ya1,show(rs.map (·.1)).take rs.length=rs.map (·.1) from List.take_of_length_le (by rw[ya1];exact ya8 _)]at e1
 have sZ:A3 ((rs.map (·.1)).map (Av (ws.length+1) P))=true:=By λx _=>Fc _ _ x
 have eZ:BS ((rs.map (·.1)).map λx=>T.own ((AX (ws.length+1) P x).map (zT (ws.length+1))))=(rs.map (·.1)).map (Av (ws.length+1) P):=JZ _ _ (λx=>by rw[T.share,AG _ (Dy _ _)];rfl) _
 have no:=OY (m:=ws.length) (by omega)
 have e0:(T.own (oZ (ws.length+1) BZ)).share=zT (ws.length+1) BZ:=by rw[T.share,ET]
 have s0:=BX (ws.length+1) BZ;have std:=IB tw h7 hr (L4 _) hx1;have so:=CQ (ws.length+1) (A5 (A7 ws rs x0) BZ);have cv:=Qz (n:=ws.length+1) (zs:=AX (ws.length+1) P x0) (yaj (JN _ _ _) hl) (A5 (A7 ws rs x0) BZ)
 have lp:=Jr (b:=Aj 2 (AM (AD 8) (AM (AD 9) Am))) (body:=GI) AF (λr=>(AX (ws.length+1) P r.1).all (Eg ws rs ds gl P r.1)) (λτ=>∃y8 y9 y11 y12 y13 y14 y15,τ=(A9 (.tup [.lst (rs.map AF),.lst (ds.map AI),.lst (gl.map AF)]) (.lst (ws.map T.str)) (.lst (P.map (AS (ws.length+1)))) (.obj (.sdc (rs.map (·.1))) ((rs.map (·.1)).map (Av (ws.length+1) P))) (some (.str x0)) (.lst (rs.map AF)) (.lst (ds.map AI)) (.lst (gl.map AF)) y8 y9 y10 y11 y12 y13 y14 y15)) rs (A9 (.tup [.lst (rs.map AF),.lst (ds.map AI),.lst (gl.map AF)]) (.lst (ws.map T.str)) (.lst (P.map (AS (ws.length+1)))) (.obj (.sdc (rs.map (·.1))) ((rs.map (·.1)).map (Av (ws.length+1) P))) (some (.str x0)) (.lst (rs.map AF)) (.lst (ds.map AI)) (.lst (gl.map AF)) y8 y9 y10 none none none none none) ⟨_,_,_,_,_,_,_,rfl⟩ λr hrm τ hI=>by
  obtain⟨z8,z9,z11,z12,z13,z14,z15,rfl⟩:=hI;obtain⟨k1,k2⟩:=zia tw h7 hr hds hg hP hl (PT:=(.tup [.lst (rs.map AF),.lst (ds.map AI),.lst (gl.map AF)])) (PP:=(.lst (P.map (AS (ws.length+1))))) (y4:=some (.str x0)) (y9:=some (.lst r.2)) (y10:=y10) (y11:=z11) (y12:=z12) (y13:=z13) (y14:=z14) (y15:=z15) (r:=r.1) (yac.mpr ⟨r,hrm,rfl⟩);have s2:=(hr.lk _ hrm).1.sh;refine⟨A9 (.tup [.lst (rs.map AF),.lst (ds.map AI),.lst (gl.map AF)]) (.lst (ws.map T.str)) (.lst (P.map (AS (ws.length+1)))) (.obj (.sdc (rs.map (·.1))) ((rs.map (·.1)).map (Av (ws.length+1) P))) (some (.str x0)) (.lst (rs.map AF)) (.lst (ds.map AI)) (.lst (gl.map AF)) (some (.str r.1)) (some (.lst r.2)) y10 z11 z12 z13 z14 z15,?_,λq=>?_,k2⟩
  .generalize (rs.map (·.1)).map (Av (ws.length+1) P)=L at *
   unfold A9
   simp![s2,AG _ s2]
  .obtain⟨x11,x12,x13,x14,x15,e⟩:=k1 q;exact⟨_,e,_,_,_,_,_,_,_,rfl⟩
 have v3:AA 3 (A9 (.tup [.lst (rs.map AF),.lst (ds.map AI),.lst (gl.map AF)]) (.lst (ws.map T.str)) (.lst (P.map (AS (ws.length+1)))) (.obj (.sdc (rs.map (·.1))) ((rs.map (·.1)).map (Av (ws.length+1) P))) (some (.str x0)) (.lst (rs.map AF)) (.lst (ds.map AI)) (.lst (gl.map AF)) y8 y9 y10 none none none none none)=some (.v (.obj (.sdc (rs.map (·.1))) ((rs.map (·.1)).map (Av (ws.length+1) P))) false):=by
  generalize (rs.map (·.1)).map (Av (ws.length+1) P)=L at *;unfold A9
  simp![sZ]
 have v4:AA 4 (A9 (.tup [.lst (rs.map AF),.lst (ds.map AI),.lst (gl.map AF)]) (.lst (ws.map T.str)) (.lst (P.map (AS (ws.length+1)))) (.obj (.sdc (rs.map (·.1))) ((rs.map (·.1)).map (Av (ws.length+1) P))) (some (.str x0)) (.lst (rs.map AF)) (.lst (ds.map AI)) (.lst (gl.map AF)) y8 y9 y10 none none none none none)=some (.v (.str x0) false):=by unfold A9;simp![]
 have g3:CA (AA 3) (AA 4) (A9 (.tup [.lst (rs.map AF),.lst (ds.map AI),.lst (gl.map AF)]) (.lst (ws.map T.str)) (.lst (P.map (AS (ws.length+1)))) (.obj (.sdc (rs.map (·.1))) ((rs.map (·.1)).map (Av (ws.length+1) P))) (some (.str x0)) (.lst (rs.map AF)) (.lst (ds.map AI)) (.lst (gl.map AF)) y8 y9 y10 none none none none none)=some (.v (.lst ((AX (ws.length+1) P x0).map (zT (ws.length+1)))) false):=Ec v3 v4 hx1 (Fc _ P x0)
 have sz:=Dy (ws.length+1) (AX (ws.length+1) P x0);have lw:(ws.map T.str).length=ws.length:=ya1 _
 have row6:A2 (BE (AK FJ (AB (CA (AA 3) (AA 4)) (AB (AK Dj (AB (AK F7 (AB (m1 Ba (AA 1)) AE)) (AB (AA 4) (AB (AA 5) (AB (AA 1) AE))))) AE)))) (AU (mC (.bl false))) A8 (A9 (.tup [.lst (rs.map AF),.lst (ds.map AI),.lst (gl.map AF)]) (.lst (ws.map T.str)) (.lst (P.map (AS (ws.length+1)))) (.obj (.sdc (rs.map (·.1))) ((rs.map (·.1)).map (Av (ws.length+1) P))) (some (.str x0)) (.lst (rs.map AF)) (.lst (ds.map AI)) (.lst (gl.map AF)) y8 y9 y10 none none none none none)=some (if CM (ws.length+1) (AX (ws.length+1) P x0) (A5 (A7 ws rs x0) BZ)=true then .nx (A9 (.tup [.lst (rs.map AF),.lst (ds.map AI),.lst (gl.map AF)]) (.lst (ws.map T.str)) (.lst (P.map (AS (ws.length+1)))) (.obj (.sdc (rs.map (·.1))) ((rs.map (·.1)).map (Av (ws.length+1) P))) (some (.str x0)) (.lst (rs.map AF)) (.lst (ds.map AI)) (.lst (gl.map AF)) y8 y9 y10 none none none none none) else .rt (.bl false)):=by
  generalize CA (AA 3) (AA 4)=MG at *;generalize CM (ws.length+1) (AX (ws.length+1) P x0) (A5 (A7 ws rs x0) BZ)=b1 at *;generalize oT (ws.length+1) (A5 (A7 ws rs x0) BZ)=O at *;generalize (AX (ws.length+1) P x0).map (zT (ws.length+1))=ZS at *;generalize zT (ws.length+1) BZ=W at *;generalize T.own (oZ (ws.length+1) BZ)=OW at *;generalize rs.map AF=RS at *;generalize ws.map T.str=WS at *;generalize (rs.map (·.1)).map (Av (ws.length+1) P)=L at *;unfold A9 at *;cases b1<;>simp![g3,sz,AG _ sz,sW,AG _ sW,lw,no,e0,s0,AN _ s0,sR,AG _ sR,std,so,AN _ so,cv]
 have f1:∀R,BW (Aj 2 (AM (AD 8) (AM (AD 9) Am))) GI (rs.map AF) (A9 (.tup [.lst (rs.map AF),.lst (ds.map AI),.lst (gl.map AF)]) (.lst (ws.map T.str)) (.lst (P.map (AS (ws.length+1)))) (.obj (.sdc (rs.map (·.1))) ((rs.map (·.1)).map (Av (ws.length+1) P))) (some (.str x0)) (.lst (rs.map AF)) (.lst (ds.map AI)) (.lst (gl.map AF)) y8 y9 y10 none none none none none)=R->BU (Ap (AA 5)) (Aj 2 (AM (AD 8) (AM (AD 9) Am))) GI (A9 (.tup [.lst (rs.map AF),.lst (ds.map AI),.lst (gl.map AF)]) (.lst (ws.map T.str)) (.lst (P.map (AS (ws.length+1)))) (.obj (.sdc (rs.map (·.1))) ((rs.map (·.1)).map (Av (ws.length+1) P))) (some (.str x0)) (.lst (rs.map AF)) (.lst (ds.map AI)) (.lst (gl.map AF)) y8 y9 y10 none none none none none)=R:=by
  rintro _ rfl;generalize (rs.map (·.1)).map (Av (ws.length+1) P)=L at *;generalize rs.map AF=RS at *;unfold A9
  simp![sR,AG _ sR]
 have run:Lj [some (.tup [.lst (rs.map AF),.lst (ds.map AI),.lst (gl.map AF)]),some (.lst (ws.map T.str)),some (.lst (P.map (AS (ws.length+1)))),none,none,none,none,none,none,none,none,none,none,none,none,none]=some (.rt (.bl (H0 ws rs ds gl P x0))):=by
  unfold Lj
  refine sq (τ':=[some (.tup [.lst (rs.map AF),.lst (ds.map AI),.lst (gl.map AF)]),some (.lst (ws.map T.str)),some (.lst (P.map (AS (ws.length+1)))),none,none,some (.lst (rs.map AF)),some (.lst (ds.map AI)),some (.lst (gl.map AF)),none,none,none,none,none,none,none,none]) (by
   generalize P.map (AS (ws.length+1))=PP at *;generalize rs.map AF=RS at *;generalize ds.map AI=DS at *;generalize gl.map AF=GS at *
   simp![sR,AG _ sR,sD,AG _ sD,sG,AG _ sG]) ?_
  refine sq (τ':=(A9 (.tup [.lst (rs.map AF),.lst (ds.map AI),.lst (gl.map AF)]) (.lst (ws.map T.str)) (.lst (P.map (AS (ws.length+1)))) (.osd [] []) none (.lst (rs.map AF)) (.lst (ds.map AI)) (.lst (gl.map AF)) none none none none none none none none)) (by simp![]) ?_
  refine sq (τ':=(A9 (.tup [.lst (rs.map AF),.lst (ds.map AI),.lst (gl.map AF)]) (.lst (ws.map T.str)) (.lst (P.map (AS (ws.length+1)))) (.osd (rs.map (·.1)) ((rs.map (·.1)).map λx=>.own ((AX (ws.length+1) P x).map (zT (ws.length+1))))) none (.lst (rs.map AF)) (.lst (ds.map AI)) (.lst (gl.map AF)) y8 y9 y10 none none none none none)) (by
   generalize ((rs.map (·.1)).map λx=>T.own ((AX (ws.length+1) P x).map (zT (ws.length+1))))=V at *
   generalize rs.map AF=RS at *;unfold A9 at e1 ⊢
   simp![sR,AG _ sR,e1]) ?_
  refine sq (τ':=(A9 (.tup [.lst (rs.map AF),.lst (ds.map AI),.lst (gl.map AF)]) (.lst (ws.map T.str)) (.lst (P.map (AS (ws.length+1)))) (.osd (rs.map (·.1)) ((rs.map (·.1)).map λx=>.own ((AX (ws.length+1) P x).map (zT (ws.length+1))))) (some (.str x0)) (.lst (rs.map AF)) (.lst (ds.map AI)) (.lst (gl.map AF)) y8 y9 y10 none none none none none)) (by
   rw[<- hx];generalize ((rs.map (·.1)).map λx=>T.own ((AX (ws.length+1) P x).map (zT (ws.length+1))))=V at *
   generalize rs.map AF=RS at *;unfold A9
   simp![sR,a0,b1]) ?_
  refine sq (τ':=(A9 (.tup [.lst (rs.map AF),.lst (ds.map AI),.lst (gl.map AF)]) (.lst (ws.map T.str)) (.lst (P.map (AS (ws.length+1)))) (.obj (.sdc (rs.map (·.1))) ((rs.map (·.1)).map (Av (ws.length+1) P))) (some (.str x0)) (.lst (rs.map AF)) (.lst (ds.map AI)) (.lst (gl.map AF)) y8 y9 y10 none none none none none)) (by
   generalize ((rs.map (·.1)).map λx=>T.own ((AX (ws.length+1) P x).map (zT (ws.length+1))))=V at *
   unfold A9
   simp![eZ]) ?_
  unfold H0;cases b1:CM (ws.length+1) (AX (ws.length+1) P x0) (A5 (A7 ws rs x0) BZ) with
  |false =>
   rw[b1]at row6;exact sr row6
  |true =>
   rw[b1]at row6;rw[ybg];cases b2:rs.all λr=>(AX (ws.length+1) P r.1).all (Eg ws rs ds gl P r.1) with
   |false=>exact DI row6 (sr (f1 _ (lp.2 b2)))
   |true =>
    obtain⟨τ',e,z8,z9,z11,z12,z13,z14,z15,rfl⟩:=lp.1 b2;exact DI row6 (sq (f1 _ e) (by simp![]))
 unfold NA;generalize H0 ws rs ds gl P x0=b at *;generalize P.map (AS (ws.length+1))=PP at *;generalize rs.map AF=RS at *;generalize ds.map AI=DS at *;generalize gl.map AF=GS at *
 simp![sR,AG _ sR,sD,AG _ sD,sG,AG _ sG,sW,AG _ sW,sP,AG _ sP,run]
end
abbrev Nt:Stmt:=AQ 87
def RY:AL :=
 (HN SQ [] (AB (AO (AA 0) (mC (.int 0))) (AB (AO (AA 0) (mC (.int 1))) (AB (m1 CZ (AO (AA 0) (mC (.int 2)))) (AB (m1 CZ (AO (AA 0) (mC (.int 3)))) (AB (AO (AA 0) (mC (.int 4))) AE))))))
def RX:AL :=
 (Bj (AB (AA 0) (AB (m1 CZ (AA 1)) AE)))
def MW:AL :=
 (m1 CZ (AA 0))
def RW:AL :=
 (Bj (AB (AA 0) (AB (BD 1 [] (Ap (AA 1)) (AD 0) (mC (.bl true)) MW) AE)))
def NR:AJ :=
 (AH (AZ (AK Mf (AB (AA 6) (AB (AO (AA 8) (mC (.int 0))) (AB (AO (AA 8) (mC (.int 1))) AE)))) (AD 14))
 (A2 (Bo (BE (m1 (Cb "bool") (AA 14))) (Bo (m2 Cz (AA 14) (AA 9)) (m2 Cz (AA 8) (BV (Ay (AA 13) (Ay (AA 7) AE)))))) (AU (mC (.bl false))) A8))
def Lb:AJ :=
 (AH (AZ (AK C4 (AB (AA 0) (AB (mC (.int 0)) AE))) (AD 1))
 (AH (AZ (B5 (C9 (AO (BV (Ay (BV (Ay (mC (.str "x")) (Ay (mC (.str "y")) AE))) (Ay (BV (Ay (mC (.str "in")) (Ay (mC (.str "i")) AE))) (Ay (BV (Ay (mC (.str "y")) (Ay (mC (.str "yy")) AE))) AE)))) (m2 BA (m2 CW (AA 1) (mC (.int 3))) (mC (.int 3)))) none (some (m2 BA (AA 1) (mC (.int 3))))) (Cn (AO (BV (Ay (BV (Ay (mC (.str "x")) (Ay (mC (.str "y")) AE))) (Ay (BV (Ay (mC (.str "in")) (Ay (mC (.str "i")) AE))) (Ay (BV (Ay (mC (.str "y")) (Ay (mC (.str "yy")) AE))) AE)))) (m2 BA (m2 CW (AA 1) (mC (.int 3))) (mC (.int 3)))) none (some (m2 BA (AA 1) (mC (.int 3)))))) (AD 2))
 (AH (AZ (AO (BV (Ay (mC (.int 1)) (Ay (m2 Er (mC (.int 10)) (mC (.int 12))) AE))) (m2 BA (m2 CW (AA 1) (mC (.int 9))) (mC (.int 2)))) (AD 3))
 (AH (AZ (AK My (AB (AA 0) (AB (AA 2) (AB (AA 3) AE)))) (AD 4))
 (AH (AZ (AA 4) (Aj 3 (AM (AD 11) (AM (AD 12) (AM (AD 13) Am)))))
 (AH (AZ (BD 1 [] (Ap (AA 12)) (AD 0) (mC (.bl true)) RY) (AD 5))
 (AH (AZ (HN Mx [] (AB (m1 CZ (AA 2)) (AB (BD 2 [] (Ap (AA 11)) (Aj 2 (AM (AD 0) (AM (AD 1) Am))) (mC (.bl true)) RX) (AB (AA 5) AE)))) (AD 6))
 (AH (AZ (AK Mz (AB (AA 0) (AB (AA 11) (AB (AA 12) (AB (AA 2) (AB (AA 3) AE)))))) (AD 7))
 (AH (AZ (BV (Ay (m1 CZ (AA 13)) (Ay (BD 2 [] (Ap (AA 7)) (Aj 2 (AM (AD 0) (AM (AD 1) Am))) (mC (.bl true)) RW) AE))) (AD 8))
 (AH (AZ (AK NA (AB (AA 4) (AB (AA 2) (AB (AA 7) AE)))) (AD 9))
 (AH (BU (Cc (AB (mC (.int 2)) AE)) (AD 10) NR)
 (AU (mC (.bl true))))))))))))))
def SM:List T->Option Ru:=A4 1 15 Lb
abbrev zoo:Fn:=⟨10,["_law_script"],SM⟩
abbrev zoj:Gx:={ Bw with nw:=[("Door",Qn,[(5,[])]),("Machine",Qk,[(3,[])])] }
abbrev zol:Gm:=gA ["_law_script","_law_first","_law_watches","_law_unit","_law_parts_here","_law_shut","_law_machine","_law_paper_here","_law_handed","_law_due_here","_law_k","_law_rooms","_law_doors","_law_goal","_law_told"] Nt 9 [("_law_cell_at",ML),("_law_parts",Z7),("_law_paper",Z8),("_law_due",Za),("lets_by",ZH)] ["list","range","isinstance","bool"] (ox:=zoj)
theorem zox:Ck zol zoo Nt Lb:={}
theorem leB1(c:Int):Dk.leB (some 1) (Db.add (some 1) (some c))=decide (1<=c):=by
 rw[Db.one_add]
 rfl
theorem zof{a b:Nat}{c:Int}(h:1<=c):Dv.ins BZ a b (some c)=BZ:=by
 funext i j
 show Db.mn (some 1) (Db.add (some 1) (Db.add (some c) (some 1)))=some 1;rw[Db.add_one,Db.one_add];exact Db.mn_of_le h
theorem YA:∀B:List Dv.Lim,Dk.met B BZ=if B.all (λx=>decide (1<=x.2.2))=true then some BZ else none
 |[]=>rfl
 |x::B=>by
  unfold Dk.met;rw[show BZ x.2.1 x.1=some 1 from rfl,leB1,ybo]
  by_cases h:1<=x.2.2
  .rw[ye1 h,if_pos rfl,zof h,YA B,ybg]
  .rw[ydl h]
   rfl
theorem zo2{l:Nat×Nat×Int}(h:l.2.1<5):(Cp l).all (λx=>decide (1<=x.2.2))=zB l:=by
 obtain⟨p,w,n⟩:=l;have h:w<5:=h;have:w=0\/w=1\/w=2\/w=3\/w=4:=by omega
 rcases this with rfl|rfl|rfl|rfl|rfl<;>simp only[Cp,zB,ybo,List.all_nil,ydf]
 all_goals first
  |(apply decide_eq_decide.mpr;omega)
  |(rw[<- Bool.decide_and];apply decide_eq_decide.mpr;omega)
theorem mt_no{m:Nat}{L:List (Nat×Nat×Int)}(hL:E5 m L):A5 L BZ=if L.all zB=true then some BZ else none:=by
 unfold A5;rw[YA,List.all_flatMap]
 have:(L.all λl=>(Cp l).all λx=>decide (1<=x.2.2))=L.all zB:=by
  induction L with
  |nil=>rfl
  |cons l L ih=>rw[ybo,ybo,zo2 (hL l (.head _)).2.2,ih λx hx=>hL x (.tail _ hx)]
 rw[this]
theorem Sk(q:Dr->Option Db.Z)(n:Nat)(Z:Str->List Db.Z)(r:Str):∀(ds:List Dr) (k:Nat),((B0 r k ds).all λp=>CM n (Z p.2.e) (q p.2))=ds.all λd=>CM n (Z d.e) (if d.s=r/\d.z=Str.ofString "" then q d else none)
 |[],_=>rfl
 |d::l,k=>by
  unfold B0;rw[List.all_append,ybo,Sk q n Z r l (k+1)]
  congr 1
  by_cases h:d.s=r/\d.z=Str.ofString ""
  .rw[if_pos ⟨h.2,h.1⟩,if_pos h,ybo,List.all_nil,ydf]
  .rw[if_neg λz=>h ⟨z.2,z.1⟩,if_neg h]
   rfl
theorem zor{ws:List Str}{rs:List (Str×List T)}{ds:List Dr}{gl:List (Str×List T)}(h:McOk ⟨ws,rs,ds⟩)(hg:Hn ws (rs.map (·.1)) gl){P:List (Str×Db.Z)}{x0:Str}(hx0:(rs.map (·.1)).headD (Str.ofString "")=x0):HQ ⟨ws,rs,ds⟩ P (gl.map λg=>(g.1,g.2.map (B9 ws)))=H0 ws rs ds gl P x0:=by
 have hs:Jn ⟨ws,rs,ds⟩ P=CM (ws.length+1) (AX (ws.length+1) P x0) (A5 (A7 ws rs x0) BZ):=by
  have e:=mt_no (LA h x0);have e:A5 (A7 ws rs x0) BZ=if (A7 ws rs x0).all zB=true then some BZ else none:=e
  rw[e];show(!(A7 ws rs ((rs.map (·.1)).headD "")).all zB || (AX (ws.length+1) P ((rs.map (·.1)).headD "")).any (G2 (ws.length+1)))=_
  rw[hx0];cases (A7 ws rs x0).all zB<;>rfl
 have hrb:∀r,FY ⟨ws,rs,ds⟩ P r=(AX (ws.length+1) P r).all λf=>CM (ws.length+1) (AX (ws.length+1) P r) (A5 (A7 ws rs r) (Dm.wtd f)) && ds.all λd=>CM (ws.length+1) (AX (ws.length+1) P d.e) (if d.s=r/\d.z=Str.ofString "" then DQ ws rs f d else none):=λr=>by
  unfold FY
  congr 1
  funext f
  exact congrArg _ (Sk (DQ ws rs f) (ws.length+1) (AX (ws.length+1) P) r ds 0)
 unfold HQ H0;rw[hs,Bool.and_assoc]
 congr 1
 rw[yd6,ya3,yab,yab,yab];constructor
 .rintro⟨h1,h2⟩ r hr;have h2:=h2 r.1 (yac.mpr ⟨r,hr,rfl⟩);rw[hrb,yab]at h2;rw[yab];intro f hf;have h2:=h2 f hf;rw[ya3]at h2;unfold Eg;rw[h2.1,h2.2,ybg,ybg,yab];intro g hgm;have h1:=h1 _ (yac.mpr ⟨g,hgm,rfl⟩);unfold FX at h1;rw[yab]at h1
  by_cases q:g.1=r.1
  .have h1:=h1 f (by rw[<- q]at hf;exact hf)
   have h1:(A5 (g.2.map (B9 ws)) f).isNone=true:=h1;rw[Option.isNone_iff_eq_none]at h1;rw[h1];simp
  .rw[ydl q]
   rfl
 .intro h1;refine⟨λg' hg'=>?_,λx hx=>?_⟩
  .obtain⟨g,hgm,rfl⟩:=yac.mp hg';unfold FX;rw[yab];intro f hf;obtain⟨r,hr,er⟩:=yac.mp (hg g hgm).1;have hf:f∈AX (ws.length+1) P g.1:=hf;rw[<- er]at hf;have h1:=yab.mp (h1 r hr) f hf;unfold Eg at h1;rw[ya3,ya3]at h1;have h1:=yab.mp h1.2.2 g hgm;rw[ye1 er.symm,ybg]at h1;show(A5 (g.2.map (B9 ws)) f).isNone=true;cases q:A5 (g.2.map (B9 ws)) f with
   |none=>rfl
   |some k=>rw[q]at h1;cases h1
  .obtain⟨r,hr,rfl⟩:=yac.mp hx;rw[hrb,yab];intro f hf;have h1:=yab.mp (h1 r hr) f hf;unfold Eg at h1;rw[ya3,ya3]at h1;rw[h1.1,h1.2.1]
   rfl
def E6:Nat->List Str
 |0=>["x","y"]
 |1=>["in","i"]
 |_=>["y","yy"]
theorem So:∀k<3,∀x∈E6 k,(∀i<x.cps.size,97<=x.cps.getD i 0/\x.cps.getD i 0<=122)/\1<=x.cps.size/\x.cps.size<=8:=by decide +kernel
theorem ww_nd:∀k<3,(E6 k).Nodup:=by decide +kernel
theorem Sq:∀k<3,(E6 k).length=2:=by decide +kernel
abbrev DE(S:T)(f:Int)(WS:List T)(u:Int)(PT:T)(y5 y6 y7 y8 y9 y10 y11 y12 y13 y14:Option T):AV:=[some S,some (.int f),some (.lst WS),some (.int u),some PT,y5,y6,y7,y8,y9,y10,y11,y12,y13,y14]
theorem law_true(ns:List Int)(hns:ns.length<=63):SM [B8 ns]=some (.ok (.bl true)):=by
 have F:=Nq ns;have F2:=Np ns;have c0:=Jy ns (k:=0) (by decide)
 generalize ns.getD (0:Int).toNat 0=f at *;obtain⟨k,ek,hk⟩:∃k:Nat,(f.fdiv 3).fmod 3=(k:Int)/\k<3:=HJ (n:=3) (by decide) (f.fdiv 3)
 obtain⟨j,ej,hj⟩:∃k:Nat,f.fmod 3=(k:Int)/\k<3:=HJ (n:=3) (by decide) f
 obtain⟨v,ev,hv⟩:∃k:Nat,(f.fdiv 9).fmod 2=(k:Int)/\k<2:=HJ (n:=2) (by decide) (f.fdiv 9)
 have t3:Cv 3=true:=Dn (by decide) (by decide)
 have t9:Cv 9=true:=Dn (by decide) (by decide)
 have p12:(0:Int)<=12/\(12:Int)<=1000000/\Eo 10=true:=⟨by decide,by decide,Ci (by decide) (by decide)⟩
 have r12:(10:Int) ^ (12:Int).toNat=1000000000000:=rfl;obtain⟨ws,ews⟩:∃ws,ws=(E6 k).take j:=⟨_,rfl⟩;have wsub:∀x∈ws,x∈E6 k:=λx hx=>by rw[ews]at hx;exact List.mem_of_mem_take hx
 have hw:∀x∈ws,He x:=λx hx=>.inr ⟨λi hi=>(So k hk x (wsub x hx)).1 i hi,(So k hk x (wsub x hx)).2⟩
 have tw:Bd ws:=λx hx=>JP (hw x hx)
 have wd:ws.Nodup:=by rw[ews];exact(List.take_sublist _ _).nodup (ww_nd k hk)
 have w2:ws.length<=2:=by
  rw[ews,yb6,Sq k hk]
  omega
 have row2:∀S,AZ (B5 (C9 (AO (BV (Ay (BV (Ay (mC (.str "x")) (Ay (mC (.str "y")) AE))) (Ay (BV (Ay (mC (.str "in")) (Ay (mC (.str "i")) AE))) (Ay (BV (Ay (mC (.str "y")) (Ay (mC (.str "yy")) AE))) AE)))) (m2 BA (m2 CW (AA 1) (mC (.int 3))) (mC (.int 3)))) none (some (m2 BA (AA 1) (mC (.int 3))))) (Cn (AO (BV (Ay (BV (Ay (mC (.str "x")) (Ay (mC (.str "y")) AE))) (Ay (BV (Ay (mC (.str "in")) (Ay (mC (.str "i")) AE))) (Ay (BV (Ay (mC (.str "y")) (Ay (mC (.str "yy")) AE))) AE)))) (m2 BA (m2 CW (AA 1) (mC (.int 3))) (mC (.int 3)))) none (some (m2 BA (AA 1) (mC (.int 3)))))) (AD 2) [some S,some (.int f),none,none,none,none,none,none,none,none,none,none,none,none,none]=some (.nx [some S,some (.int f),some (.lst (ws.map T.str)),none,none,none,none,none,none,none,none,none,none,none,none]):=λS=>by
  have at3:Ag [T.own [.str "x",.str "y"],.own [.str "in",.str "i"],.own [.str "y",.str "yy"]] (k:Int)=some (.own ((E6 k).map T.str)):=by
   have:k=0\/k=1\/k=2:=by omega
   rcases this with rfl|rfl|rfl<;>rfl
  have sw:A3 ((E6 k).map T.str)=true:=Ae _
  have ct:Bc ((E6 k).map T.str) none (some (j:Int))=ws.map T.str:=by
   have lw:=Sq k hk;rw[ews,List.map_take];unfold Bc;have e2:HT.sIx ((E6 k).map T.str).length 0 none=0:=rfl
   have e3:HT.sIx ((E6 k).map T.str).length ((E6 k).map T.str).length (some (j:Int))=j:=by
    rw[ya1,lw];simp[HT.sIx]
    omega
   rw[e2,e3];simp
  have sv:A3 (ws.map T.str)=true:=Ae _;generalize (E6 k).map T.str=W3 at *;generalize ws.map T.str=WS at *
  simp![t3,ek,ej,at3,sw,AG _ sw,ct,sv,AG _ sv]
 obtain⟨u,hu,eu⟩:∃u:Int,0<=u/\Ag [T.int 1,.int 1000000000000] (v:Int)=some (.int u):=by
  have:v=0\/v=1:=by omega
  rcases this with rfl|rfl
  .exact⟨1,by decide,rfl⟩
  .exact⟨1000000000000,by decide,rfl⟩
 obtain⟨rs,ds,gl,hp,ep⟩:=zhi ns hns tw wd (by omega) hu
 obtain⟨P,hP,lP,epp⟩:=zhj ns hns tw w2 hp.r hp.d u;have l1:=hp.r.l1;have dl:=hp.dl;have gn:=hp.gn;obtain⟨M,m1,m2,m3⟩:∃M:Mc,M.ws=ws/\M.rs=rs/\M.ds=ds:=⟨⟨ws,rs,ds⟩,rfl,rfl,rfl⟩;have hM:McOk M:=⟨by rw[m1];exact hw,by rw[m1];exact wd,by rw[m1];omega,by rw[m1,m2];exact hp.r,by rw[m1,m2,m3];exact hp.d,by rw[m3];omega⟩
 have nm:M.nm=rs.map (·.1):=by unfold Mc.nm;rw[m2]
 obtain⟨x0,hx0,hx1⟩:∃x0,rs.head?.map (·.1)=some x0/\(rs.map (·.1)).headD (Str.ofString "")=x0:=by
  cases rs with
  |nil=>simp at l1
  |cons a l=>exact⟨a.1,rfl,rfl⟩
 have du:=zoq tw (by omega) hp.r hp.d hp.g hP lP hx0 (by omega) (by omega)
 have eb:HQ M P (gl.map λg=>(g.1,g.2.map (B9 ws)))=H0 ws rs ds gl P x0:=by
  have hM':=hM;subst m1 m2 m3;exact zor hM' hp.g hx1
 rw[<- eb]at du
 have pg:Iq [BC M,.lst (gl.map AF)]=some (.ok (.own ((gl.map λg=>(g.1,g.2.map (B9 ws))).map Fs))):=by
  have:=pg_ok hM (gl:=gl) (by rw[m1,m2];exact hp.g) (by omega)
  rw[ybd,show(gl.map (Fs ∘ λg=>(g.1,g.2.map (B9 ws))))=gl.map λg=>T.tup [.str g.1,.lst (g.2.map (Et ws))] from ybc λg hg=>by
   show T.tup [.str g.1,.lst ((g.2.map (B9 ws)).map An)]=_;rw[<- OH (hp.g g hg).2.1]]
  rw[m1]at this;exact this
 have sG:=hp.g.sh
 have sGT:(T.lst (gl.map AF)).sh=true:=by
  generalize gl.map AF=L at *
  simp![sG]
 have lb:=zo1 hM lP (by rw[nm];exact hP) sGT pg (λg hg=>by
  obtain⟨g',h,rfl⟩:=yac.mp hg;rw[nm,m1];exact⟨(hp.g g' h).1,Fj (hp.g g' h).2.1⟩) (by rw[ya1];omega)
 rw[m1]at lb;generalize HQ M P (gl.map λg=>(g.1,g.2.map (B9 ws)))=b at *
 have mi:Mx [.lst (ws.map T.str),.lst (rs.map AF),.lst (ds.map BK)]=some (.ok (BC M)):=by
  have:=zki hM;rw[m1,m2,m3]at this;exact this
 have sM:=IM hM;have sR:=Ep hp.r;have sD:A3 (ds.map AI)=true:=By λd hd=>F6 (hp.d d hd)
 have sE:A3 (ds.map BK)=true:=By λd hd=>Jw (hp.d d hd)
 have sW:A3 (ws.map T.str)=true:=Ae _;have sP:=HD (ws.length+1) P;have lw:(ws.map T.str).length<=100000:=by rw[ya1];omega
 have lr:(rs.map AF).length<=100000:=by have:=hp.r.l64;rw[ya1];omega
 have ld:(ds.map AI).length<=100000:=by rw[ya1];omega
 have lg:(gl.map AF).length<=100000:=by rw[ya1];omega
 have lp:(P.map (AS (ws.length+1))).length<=100000:=by rw[ya1];omega
 have c6:=DB (b:=AD 0) (me:=RY) AI BK (λτ=>∃x,τ=[x]) ds [none] ⟨none,rfl⟩ λd hd τ hI=>by
  obtain⟨x,rfl⟩:=hI;have D:=hp.d d hd;have di:=di_ok D;have sd:=F6 D;have so:(BK d).sh=true:=Jw D;have sg:=D.g.sh;have sn:A3 (d.n.map T.str)=true:=Ae _
  refine⟨[some (AI d)],by
   generalize AI d=DT at *
   simp![sd,AN _ sd],?_,_,rfl⟩
  have a0:Ag [T.str d.s,.str d.e,.lst d.g,.lst (d.n.map T.str),.str d.z] 0=some (.str d.s):=Cs (by decide) rfl
  have a1:Ag [T.str d.s,.str d.e,.lst d.g,.lst (d.n.map T.str),.str d.z] 1=some (.str d.e):=Cs (by decide) rfl
  have a2:Ag [T.str d.s,.str d.e,.lst d.g,.lst (d.n.map T.str),.str d.z] 2=some (.lst d.g):=Cs (by decide) rfl
  have a3:Ag [T.str d.s,.str d.e,.lst d.g,.lst (d.n.map T.str),.str d.z] 3=some (.lst (d.n.map T.str)):=Cs (by decide) rfl
  have a4:Ag [T.str d.s,.str d.e,.lst d.g,.lst (d.n.map T.str),.str d.z] 4=some (.str d.z):=Cs (by decide) rfl
  have gl1:d.g.length<=100000:=by have:=D.gl;omega
  have O0:(d.n.map T.str).length<=100000:=by have:=D.nl;rw[ya1];omega
  unfold RY AI;generalize BK d=DO at *;generalize d.n.map T.str=DN at *
  simp![a0,a1,a2,a3,a4,sg,AG _ sg,sn,AG _ sn,gl1,O0,di,so,AN _ so]
 have c7:=DB (b:=Aj 2 (AM (AD 0) (AM (AD 1) Am))) (me:=RX) AF AF (λτ=>∃x y,τ=[x,y]) rs [none,none] ⟨none,none,rfl⟩ λr hr τ hI=>by
  obtain⟨x,y,rfl⟩:=hI;have s2:=(hp.r.lk r hr).1.sh;have l2:r.2.length<=100000:=by have:=(hp.r.lk r hr).2;omega
  refine⟨[some (.str r.1),some (.lst r.2)],by simp![s2,AG _ s2],?_,_,_,rfl⟩
  unfold RX
  simp![s2,AG _ s2,l2]
 have c9:=DB (b:=Aj 2 (AM (AD 0) (AM (AD 1) Am))) (me:=RW) (AS (ws.length+1)) (AS (ws.length+1)) (λτ=>∃x y,τ=[x,y]) P [none,none] ⟨none,none,rfl⟩ λp hpm τ hI=>by
  obtain⟨x,y,rfl⟩:=hI;have sZ:=BX (ws.length+1) p.2
  have lc:=DC (n:=ws.length+1) (me:=MW) (x:=none) (cs:=[]) (g:=λi=>rT (ws.length+1) (p.2 i)) (f:=λi=>.own (mT (ws.length+1) λj=>bT (p.2 i j))) λi hi=>by
   unfold MW
   simp![]
  have lc:Co (AD 0) (mC (.bl true)) MW (mT (ws.length+1) λi=>rT (ws.length+1) (p.2 i)) [none]=some (oZ (ws.length+1) p.2):=lc
  have sz2:BS (mT (ws.length+1) λi=>rT (ws.length+1) (p.2 i))=mT (ws.length+1) λi=>rT (ws.length+1) (p.2 i):=by
   have:A3 (mT (ws.length+1) λi=>rT (ws.length+1) (p.2 i))=true:=Gy λi=>J2 _ _
   exact AG _ this
  have sh2:A3 (mT (ws.length+1) λi=>rT (ws.length+1) (p.2 i))=true:=Gy λi=>J2 _ _
  have lo:(mT (ws.length+1) λi=>rT (ws.length+1) (p.2 i)).length<=100000:=by rw[CT];omega
  have os:=ET (n:=ws.length+1) (g:=p.2);unfold AS zT;generalize oZ (ws.length+1) p.2=OZ at *;generalize (mT (ws.length+1) λi=>rT (ws.length+1) (p.2 i))=Z at *
  refine⟨[some (.str p.1),some (.lst Z)],by simp![sh2,sz2],?_,_,_,rfl⟩
  unfold RW
  simp![sh2,sz2,lo,lc,os]
 have tn:Bd (rs.map (·.1)):=λx hx=>by
  obtain⟨r,h,rfl⟩:=yac.mp hx;exact GQ (hp.r.nm r h).1
 have fG:Fit (.lst (gl.map AF)) 4:=Ln (o:=false) (f:=AF) (L:=gl) λg hg=>zjd tw (tn _ (hp.g g hg).1) (hp.g g hg).2.1
 have fP:Fit (.lst (P.map (AS (ws.length+1)))) 4:=Ln (o:=false) (f:=AS (ws.length+1)) (L:=P) λp h=>Vn (tn _ (hP p h))
 have fH:Fit (.lst [.lst (gl.map AF),.lst (P.map (AS (ws.length+1)))]) 5:=Fit.nd λt ht=>by
  simp only[yaf,yaz,ye5]at ht
  rcases ht with rfl|rfl
  .exact fG
  .exact fP
 have nH:=(zl3 fH (by decide) rfl fH).2
 have nb:Cz (.bl b) (.bl b)=some (.bl false):=by cases b<;>rfl
 have h0:Ag [T.lst (gl.map AF),.lst (P.map (AS (ws.length+1)))] 0=some (.lst (gl.map AF)):=Cs (by decide) rfl
 have h1:Ag [T.lst (gl.map AF),.lst (P.map (AS (ws.length+1)))] 1=some (.lst (P.map (AS (ws.length+1)))):=Cs (by decide) rfl
 have r2:E8 0 (2:Int).toNat=[T.int 0,.int 1]:=rfl;have o2:C8 2=true:=ES (n:=2) (by decide)
 generalize B8 ns=S at *;generalize BC M=MM at *;generalize P.map (AS (ws.length+1))=PP at *;generalize rs.map AF=RS at *;generalize ds.map AI=DS at *;generalize ds.map BK=DO at *;generalize gl.map AF=GS at *
 have row11:∀y10 y14,NR (DE S f (ws.map T.str) u (.tup [.lst RS,.lst DS,.lst GS]) (some (.lst DO)) (some MM) (some (.lst PP)) (some (.lst [.lst GS,.lst PP])) (some (.bl b)) y10 (some (.lst RS)) (some (.lst DS)) (some (.lst GS)) y14)=some (.nx (DE S f (ws.map T.str) u (.tup [.lst RS,.lst DS,.lst GS]) (some (.lst DO)) (some MM) (some (.lst PP)) (some (.lst [.lst GS,.lst PP])) (some (.bl b)) y10 (some (.lst RS)) (some (.lst DS)) (some (.lst GS)) (some (.bl b)))):=λy10 y14=>by
  unfold NR DE;refine sq (by simp![h0,h1,sM,AN _ sM,sG,AG _ sG,sP,AG _ sP,lb];rfl) ?_
  simp![nb,sG,AG _ sG,sP,AG _ sP,nH]
 have run:Lb [some S,none,none,none,none,none,none,none,none,none,none,none,none,none,none]=some (.rt (.bl true)):=by
  unfold Lb;refine sq (τ':=[some S,some (.int f),none,none,none,none,none,none,none,none,none,none,none,none,none]) (by simp![F,F2,c0]) ?_
  refine sq (row2 S) ?_;generalize ws.map T.str=WS at *;refine sq (τ':=[some S,some (.int f),some (.lst WS),some (.int u),none,none,none,none,none,none,none,none,none,none,none]) (by simp![t9,ev,p12,r12,eu]) ?_
  refine sq (τ':=DE S f WS u (.tup [.lst RS,.lst DS,.lst GS]) none none none none none none none none none none) (by simp![F,F2,sW,AG _ sW,ep,sR,AG _ sR,sD,AG _ sD,sG,AG _ sG]) ?_
  refine sq (τ':=DE S f WS u (.tup [.lst RS,.lst DS,.lst GS]) none none none none none none (some (.lst RS)) (some (.lst DS)) (some (.lst GS)) none) (by unfold DE;simp![sR,AG _ sR,sD,AG _ sD,sG,AG _ sG]) ?_
  refine sq (τ':=DE S f WS u (.tup [.lst RS,.lst DS,.lst GS]) (some (.lst DO)) none none none none none (some (.lst RS)) (some (.lst DS)) (some (.lst GS)) none) (by unfold DE;simp![sD,AG _ sD,ld,c6,sE,AG _ sE]) ?_
  refine sq (τ':=DE S f WS u (.tup [.lst RS,.lst DS,.lst GS]) (some (.lst DO)) (some MM) none none none none (some (.lst RS)) (some (.lst DS)) (some (.lst GS)) none) (by unfold DE;simp![sW,AG _ sW,lw,sR,AG _ sR,lr,c7,sE,AG _ sE,mi,sM,AN _ sM]) ?_
  refine sq (τ':=DE S f WS u (.tup [.lst RS,.lst DS,.lst GS]) (some (.lst DO)) (some MM) (some (.lst PP)) none none none (some (.lst RS)) (some (.lst DS)) (some (.lst GS)) none) (by unfold DE;simp![F,F2,sR,AG _ sR,sD,AG _ sD,sW,AG _ sW,epp,sP,AG _ sP]) ?_
  refine sq (τ':=DE S f WS u (.tup [.lst RS,.lst DS,.lst GS]) (some (.lst DO)) (some MM) (some (.lst PP)) (some (.lst [.lst GS,.lst PP])) none none (some (.lst RS)) (some (.lst DS)) (some (.lst GS)) none) (by unfold DE;simp![sG,AG _ sG,lg,sP,AG _ sP,lp,c9]) ?_
  refine sq (τ':=DE S f WS u (.tup [.lst RS,.lst DS,.lst GS]) (some (.lst DO)) (some MM) (some (.lst PP)) (some (.lst [.lst GS,.lst PP])) (some (.bl b)) none (some (.lst RS)) (some (.lst DS)) (some (.lst GS)) none) (by unfold DE;simp![sR,AG _ sR,sD,AG _ sD,sG,AG _ sG,sW,AG _ sW,sP,AG _ sP,du]) ?_
  refine sq (τ':=DE S f WS u (.tup [.lst RS,.lst DS,.lst GS]) (some (.lst DO)) (some MM) (some (.lst PP)) (some (.lst [.lst GS,.lst PP])) (some (.bl b)) (some (.int 1)) (some (.lst RS)) (some (.lst DS)) (some (.lst GS)) (some (.bl b))) (by
   unfold DE at row11 ⊢
   simp![o2,r2,BW,row11]) ?_
  simp![]
 unfold SM
 simp![F,F2,run]
end
end Zl
namespace Zl
open PySem PySem.W L2 Zw Zx Pu Hd
abbrev pw:Program:=PySem.Challenge.pw_zonewalk_k61_papers_looked_at
abbrev Ny:OpenLaw:=PySem.Challenge.rw_zonewalk_k61_papers_looked_at
abbrev md:String:="__module__"
abbrev fl:String:="__firstlineno__"
abbrev sa:String:="__static_attributes__"
abbrev dc:String:="__doc__"
noncomputable abbrev cf:Str:="/claim/cut.py"
noncomputable def tO(l:List Value):Obj:=⟨(.type "tuple"),none,(.seq (Array.mk l) 0),Array.mk []⟩
noncomputable def dO(l:List DictEntry)(n:Nat):Obj:=⟨(.type "dict"),none,(.dict (Array.mk l) n),Array.mk []⟩
def eb:List Value:=[(.type "ValueError"),(.type "Exception"),(.type "BaseException"),(.type "object")]
noncomputable def yO(a:Str)(b c:List Value)(n:Addr)(d:List Value)(r ta tb:Nat)(w:String):Obj:=⟨(.type "type"),none,(.cls ⟨a,b,c,n,a,true,[],d,false,none,false⟩),Array.mk [(some (.ref r)),none,(some (.str a ta)),(some (.str a tb)),(some (.builtin w)),(some (.bool true))]⟩
def cP(a:Str)(ta:Nat)(b:Str)(tb tf:Nat)(r n k:Int)(r1:Nat)(z:Int)(v1 v2 v3 v4 v5:Value)(x y:Int)(tg:Nat):Obj:=⟨(.type "code"),none,(.fields (Array.mk [(.str a ta),(.str b tb),(.str cf tf),(.int r 0),(.int n 0),(.int 0 0),(.int 0 0),(.int k 0),(.ref r1),(.bool true),(.int z 0),v1,v2,v3,v4,v5,(.int x 0),(.int y 0),(.str cf tg)])),Array.mk []⟩
noncomputable def cO(a:Str)(ta tb tf:Nat)(r n k:Int)(r1:Nat)(z:Int)(r2 r3 r4 r5:Nat)(x y:Int)(tg:Nat):Obj:=cP a ta a tb tf r n k r1 z (.ref r2) .none (.ref r3) (.ref r4) (.ref r5) x y tg
def o2(P:Params):Obj:=⟨.none,none,(.dict (Array.mk []) 0),Array.mk []⟩
def o3(P:Params):Obj:=dO [en P "__name__" 165 (.str "law_zonewalk_k61_papers_looked_at" 921),en P "__doc__" 166 .none,en P "__package__" 167 .none,en P "__loader__" 168 (.builtin "__main__.__loader__#opaque"),en P "__spec__" 169 .none,en P "__annotations__" 170 (.ref 6),en P "__builtins__" 171 (.ref 4),en P "__file__" 173 (.str "/claim/cut.py" 172),en P "__cached__" 174 .none,en P "WalkError" 206 (.ref 24),en P "NoNumber" 222 (.ref 37),en P "BadMachine" 238 (.ref 49),en P "TooMany" 254 (.ref 61),en P "NoMark" 270 (.ref 73),en P "NoRoom" 286 (.ref 85),en P "is_whole" 295 (.ref 94),en P "greatest_divisor" 306 (.ref 101),en P "fraction" 316 (.ref 109),en P "minus" 324 (.ref 116),en P "under" 332 (.ref 123),en P "at_most" 341 (.ref 130),en P "below" 348 (.ref 137),en P "number_of" 355 (.ref 144),en P "is_open" 362 (.ref 151),en P "added" 371 (.ref 158),en P "narrower" 379 (.ref 165),en P "lets" 388 (.ref 172),en P "WORDS" 396 (.ref 173),en P "STAY_WORDS" 399 (.ref 174),en P "is_look" 408 (.ref 181),en P "is_number" 415 (.ref 188),en P "is_guard" 421 (.ref 193),en P "stands_so" 433 (.ref 200),en P "look_bounds" 444 (.ref 207),en P "MOST_WATCHES" 448 (.int 7 447),en P "MOST_ROOMS" 450 (.int 64 449),en P "MOST_DOORS" 452 (.int 200 451),en P "is_small_letter" 459 (.ref 214),en P "is_name" 465 (.ref 219),en P "is_watch_name" 472 (.ref 226),en P "is_room_name" 478 (.ref 231),en P "is_sign" 485 (.ref 238),en P "own_copy" 492 (.ref 245),en P "Door" 544 (.ref 277),en P "Machine" 610 (.ref 331),en P "check_watches" 616 (.ref 340),en P "are_unlike" 623 (.ref 347),en P "check_rooms" 629 (.ref 352),en P "check_doors" 639 (.ref 359),en P "are_noughts" 645 (.ref 364),en P "placed" 651 (.ref 369),en P "nought" 659 (.ref 374),en P "everywhere" 665 (.ref 379),en P "free_bound" 673 (.ref 386),en P "lies_in" 686 (.ref 393),en P "narrowest" 692 (.ref 398),en P "is_broken" 698 (.ref 403),en P "row_over" 711 (.ref 410),en P "within" 723 (.ref 417),en P "is_wider" 731 (.ref 424),en P "holds" 739 (.ref 429),en P "met" 754 (.ref 436),en P "narrowed" 760 (.ref 441),en P "copied" 766 (.ref 446),en P "waited" 775 (.ref 453),en P "put_back" 781 (.ref 458),en P "placed_goal" 789 (.ref 463),en P "placed_mark" 798 (.ref 470),en P "placed_stays" 809 (.ref 477),en P "nought_places" 815 (.ref 482),en P "doors_out" 827 (.ref 489),en P "Sheet" 908 (.ref 540),en P "narrow_zones_of" 914 (.ref 549),en P "lets_by" 920 (.ref 554),en P "_law_cell_at" 930 (.ref 561),en P "_law_stream" 942 (.ref 568),en P "_law_looks" 956 (.ref 575),en P "_law_parts" 962 (.ref 580),en P "_law_by_places" 968 (.ref 585),en P "_law_stayed" 980 (.ref 592),en P "_law_behind" 986 (.ref 597),en P "_law_drawn_zone" 992 (.ref 602),en P "_law_paper" 1012 (.ref 609),en P "_law_covered" 1018 (.ref 614),en P "_law_due" 1024 (.ref 619),en P "law" 1030 (.ref 624)] 86
def o15(P:Params):Obj:=tO [(.type "ValueError")]
def o22(P:Params):Obj:=tO []
def o23(P:Params):Obj:=dO [en P md 196 (.str "zonewalk.errors" 187),en P fl 200 (.int 2 199),en P sa 201 (.ref 22),en P "__weakref__" 203 (.ref 25),en P dc 204 .none] 3
def o24(P:Params):Obj:=yO "WalkError" [(.type "ValueError")] ([(.ref 24)]++eb) 23 [(.ref 37),(.ref 49),(.ref 61),(.ref 73),(.ref 85)] 15 189 197 "ValueError.__new__"
def o25(P:Params):Obj:=⟨(.type "getset_descriptor"),none,(.fields (Array.mk [(.str "__weakref__" 202),(.ref 24),(.builtin "ExceptionGroup.__weakref__"),.none])),Array.mk []⟩
def o28(P:Params):Obj:=tO [(.ref 24)]
def o35(P:Params):Obj:=tO []
def o36(P:Params):Obj:=dO [en P md 214 (.str "zonewalk.errors" 187),en P fl 218 (.int 4 217),en P sa 219 (.ref 35),en P dc 220 .none] 2
def o37(P:Params):Obj:=yO "NoNumber" [(.ref 24)] ([(.ref 37),(.ref 24)]++eb) 36 [] 28 207 215 "ValueError.__new__"
def o40(P:Params):Obj:=tO [(.ref 24)]
def o47(P:Params):Obj:=tO []
def o48(P:Params):Obj:=dO [en P md 230 (.str "zonewalk.errors" 187),en P fl 234 (.int 6 233),en P sa 235 (.ref 47),en P dc 236 .none] 2
def o49(P:Params):Obj:=yO "BadMachine" [(.ref 24)] ([(.ref 49),(.ref 24)]++eb) 48 [] 40 223 231 "ValueError.__new__"
def o52(P:Params):Obj:=tO [(.ref 24)]
def o59(P:Params):Obj:=tO []
def o60(P:Params):Obj:=dO [en P md 246 (.str "zonewalk.errors" 187),en P fl 250 (.int 8 249),en P sa 251 (.ref 59),en P dc 252 .none] 2
def o61(P:Params):Obj:=yO "TooMany" [(.ref 24)] ([(.ref 61),(.ref 24)]++eb) 60 [] 52 239 247 "ValueError.__new__"
def o64(P:Params):Obj:=tO [(.ref 24)]
def o71(P:Params):Obj:=tO []
def o72(P:Params):Obj:=dO [en P md 262 (.str "zonewalk.errors" 187),en P fl 266 (.int 10 265),en P sa 267 (.ref 71),en P dc 268 .none] 2
def o73(P:Params):Obj:=yO "NoMark" [(.ref 24)] ([(.ref 73),(.ref 24)]++eb) 72 [] 64 255 263 "ValueError.__new__"
def o76(P:Params):Obj:=tO [(.ref 24)]
def o83(P:Params):Obj:=tO []
def o84(P:Params):Obj:=dO [en P md 278 (.str "zonewalk.errors" 187),en P fl 282 (.int 12 281),en P sa 283 (.ref 83),en P dc 284 .none] 2
def o85(P:Params):Obj:=yO "NoRoom" [(.ref 24)] ([(.ref 85),(.ref 24)]++eb) 84 [] 76 271 279 "ValueError.__new__"
def o93(_:Params):=cO "is_whole" 289 290 291 15 1 3 88 181 89 90 91 92 293 15 294
def MC(a:Str)(s:Stmt)(c:Nat):=gO a s "zonewalk.fractions" 287 c
def WN(_:Params):=MC "is_whole" (AQ 8) 93
def o100(_:Params):=cO "greatest_divisor" 296 297 298 17 2 3 95 181 96 97 98 99 304 17 305
def Xj(_:Params):=MC "greatest_divisor" (AQ 9) 100
def Xi(P:Params):Obj:=tO [(.int 1 307)]
def o108(_:Params):=cO "fraction" 308 309 310 25 2 3 103 181 104 105 106 107 314 25 315
def Xh(_:Params):=fO "fraction" "fraction" (AQ 10) (.ref 102) "zonewalk.fractions" 287 108 .none
def o115(_:Params):=cO "minus" 317 318 319 34 2 3 110 181 111 112 113 114 322 34 323
def Xg(_:Params):=MC "minus" (AQ 11) 115
def o122(_:Params):=cO "under" 325 326 327 36 2 3 117 181 118 119 120 121 330 36 331
def Xf(_:Params):=MC "under" (AQ 12) 122
def o129(_:Params):=cO "at_most" 335 336 337 39 1 3 124 181 125 126 127 128 339 39 340
def HW(a:Str)(s:Stmt)(c:Nat):=gO a s "zonewalk.bounds" 333 c
def Xe(_:Params):=HW "at_most" (AQ 14) 129
def o136(_:Params):=cO "below" 342 343 344 41 1 3 131 181 132 133 134 135 346 41 347
def Xd(_:Params):=HW "below" (AQ 15) 136
def o143(_:Params):=cO "number_of" 349 350 351 43 1 3 138 181 139 140 141 142 353 43 354
def Xc(_:Params):=HW "number_of" (AQ 16) 143
def o150(_:Params):=cO "is_open" 356 357 358 45 1 3 145 181 146 147 148 149 360 45 361
def Xb(_:Params):=HW "is_open" (AQ 17) 150
def o157(_:Params):=cO "added" 363 364 365 47 2 3 152 181 153 154 155 156 369 47 370
def Xa(_:Params):=HW "added" (AQ 18) 157
def o164(_:Params):=cO "narrower" 372 373 374 54 2 3 159 181 160 161 162 163 377 54 378
def X9(_:Params):=HW "narrower" (AQ 19) 164
def o171(_:Params):=cO "lets" 380 381 382 60 2 3 166 181 167 168 169 170 386 60 387
def X8(_:Params):=HW "lets" (AQ 20) 171
def X7(P:Params):Obj:=tO [(.str "<" 391),(.str "<=" 392),(.str ">" 393),(.str ">=" 394),(.str "=" 395)]
def X6(P:Params):Obj:=tO [(.str "<" 397),(.str "<=" 398)]
def o180(_:Params):=cO "is_look" 400 401 402 70 3 3 175 181 176 177 178 179 406 70 407
def Jp(a:Str)(s:Stmt)(c:Nat):=gO a s "zonewalk.looks" 389 c
def X5(_:Params):=Jp "is_look" (AQ 24) 180
def o187(_:Params):=cO "is_number" 409 410 411 74 1 3 182 181 183 184 185 186 413 74 414
def X4(_:Params):=Jp "is_number" (AQ 25) 187
def o192(P:Params):Obj:=cP "is_guard" 416 "is_guard" 417 418 76 3 3 189 181 (.ref 190) .none .none .none (.ref 191) 419 76 420
def X3(_:Params):=Jp "is_guard" (AQ 26) 192
def o199(_:Params):=cO "stands_so" 422 423 424 78 3 3 194 181 195 196 197 198 431 78 432
def X2(_:Params):=Jp "stands_so" (AQ 27) 199
def o206(_:Params):=cO "look_bounds" 434 435 436 91 4 3 201 181 202 203 204 205 442 91 443
def X1(_:Params):=Jp "look_bounds" (AQ 28) 206
def o213(_:Params):=cO "is_small_letter" 453 454 455 106 1 3 208 181 209 210 211 212 457 106 458
def Ed(a:Str)(s:Stmt)(c:Nat):=gO a s "zonewalk.machines" 445 c
def X0(_:Params):=Ed "is_small_letter" (AQ 33) 213
def o218(P:Params):Obj:=cP "is_name" 460 "is_name" 461 462 108 1 3 215 181 (.ref 216) .none .none .none (.ref 217) 463 108 464
def XZ(_:Params):=Ed "is_name" (AQ 34) 218
def o225(_:Params):=cO "is_watch_name" 466 467 468 110 1 3 220 181 221 222 223 224 470 110 471
def XY(_:Params):=Ed "is_watch_name" (AQ 35) 225
def o230(P:Params):Obj:=cP "is_room_name" 473 "is_room_name" 474 475 112 1 3 227 181 (.ref 228) .none .none .none (.ref 229) 476 112 477
def XX(_:Params):=Ed "is_room_name" (AQ 36) 230
def o237(_:Params):=cO "is_sign" 479 480 481 116 1 3 232 181 233 234 235 236 483 116 484
def XW(_:Params):=Ed "is_sign" (AQ 37) 237
def o244(_:Params):=cO "own_copy" 486 487 488 120 1 3 239 181 240 241 242 243 490 120 491
def XU(_:Params):=Ed "own_copy" (AQ 38) 244
def XT(P:Params):Obj:=tO [(.str "" 505)]
def o259(P:Params):Obj:=cP "__init__" 506 "Door.__init__" 507 508 124 6 3 254 181 (.ref 255) .none (.ref 256) (.ref 257) (.ref 258) 515 124 516
def XS(_:Params):=fO "__init__" "Door.__init__" (Bm 39 0) (.ref 253) "zonewalk.machines" 445 259 .none
def o266(P:Params):Obj:=cP "asks" 518 "Door.asks" 519 520 131 1 3 261 181 (.ref 262) .none (.ref 263) (.ref 264) (.ref 265) 522 131 523
def XR(_:Params):=fO "asks" "Door.asks" (Bm 39 1) .none "zonewalk.machines" 445 266 .none
def o273(P:Params):Obj:=cP "sets" 525 "Door.sets" 526 527 134 1 3 268 181 (.ref 269) .none (.ref 270) (.ref 271) (.ref 272) 529 134 530
def XQ(_:Params):=fO "sets" "Door.sets" (Bm 39 2) .none "zonewalk.machines" 445 273 .none
def o275(P:Params):Obj:=tO [(.str "end" 532),(.str "guard" 533),(.str "noughts" 534),(.str "sign" 535),(.str "start" 536)]
def o276(P:Params):Obj:=dO [en P md 500 (.str "zonewalk.machines" 445),en P fl 504 (.int 122 503),en P "__init__" 517 (.ref 260),en P "asks" 524 (.ref 267),en P "sets" 531 (.ref 274),en P sa 537 (.ref 275),en P "__dict__" 539 (.ref 278),en P "__weakref__" 541 (.ref 279),en P dc 542 .none] 4
def o277(P:Params):Obj:=⟨(.type "type"),none,(.cls ⟨"Door",[(.type "object")],[(.ref 277),(.type "object")],276,"Door",true,[],[],false,none,false⟩),Array.mk [none,none,(some (.str "Door" 493)),(some (.str "Door" 501)),(some (.builtin "object.__new__")),(some (.bool true))]⟩
def o278(P:Params):Obj:=⟨(.type "getset_descriptor"),none,(.fields (Array.mk [(.str "__dict__" 538),(.ref 277),(.builtin "function.__dict__"),(.builtin "function.__dict__#set")])),Array.mk []⟩
def o279(P:Params):Obj:=⟨(.type "getset_descriptor"),none,(.fields (Array.mk [(.str "__weakref__" 540),(.ref 277),(.builtin "ExceptionGroup.__weakref__"),.none])),Array.mk []⟩
def o292(P:Params):Obj:=cP "__init__" 557 "Machine.__init__" 558 559 138 4 3 289 181 (.ref 290) .none .none .none (.ref 291) 560 138 561
def XO(_:Params):=fO "__init__" "Machine.__init__" (Bm 40 0) .none "zonewalk.machines" 445 292 .none
def o299(P:Params):Obj:=cP "watches" 563 "Machine.watches" 564 565 150 1 3 294 181 (.ref 295) .none (.ref 296) (.ref 297) (.ref 298) 567 150 568
def XN(_:Params):=fO "watches" "Machine.watches" (Bm 40 1) .none "zonewalk.machines" 445 299 .none
def o306(P:Params):Obj:=cP "rooms" 570 "Machine.rooms" 571 572 153 1 3 301 181 (.ref 302) .none (.ref 303) (.ref 304) (.ref 305) 574 153 575
def XM(_:Params):=fO "rooms" "Machine.rooms" (Bm 40 2) .none "zonewalk.machines" 445 306 .none
def o313(P:Params):Obj:=cP "doors" 577 "Machine.doors" 578 579 156 1 3 308 181 (.ref 309) .none (.ref 310) (.ref 311) (.ref 312) 581 156 582
def XJ(_:Params):=fO "doors" "Machine.doors" (Bm 40 3) .none "zonewalk.machines" 445 313 .none
def o320(P:Params):Obj:=cP "stay" 584 "Machine.stay" 585 586 159 2 3 315 181 (.ref 316) .none (.ref 317) (.ref 318) (.ref 319) 589 159 590
def XI(_:Params):=fO "stay" "Machine.stay" (Bm 40 4) .none "zonewalk.machines" 445 320 .none
def o327(P:Params):Obj:=cP "watch_number" 592 "Machine.watch_number" 593 594 162 2 3 322 181 (.ref 323) .none (.ref 324) (.ref 325) (.ref 326) 597 162 598
def XH(_:Params):=fO "watch_number" "Machine.watch_number" (Bm 40 5) .none "zonewalk.machines" 445 327 .none
def o329(P:Params):Obj:=tO [(.str "door_list" 600),(.str "stays" 601),(.str "watch_names" 602)]
def o330(P:Params):Obj:=dO [en P md 552 (.str "zonewalk.machines" 445),en P fl 556 (.int 136 555),en P "__init__" 562 (.ref 293),en P "watches" 569 (.ref 300),en P "rooms" 576 (.ref 307),en P "doors" 583 (.ref 314),en P "stay" 591 (.ref 321),en P "watch_number" 599 (.ref 328),en P sa 603 (.ref 329),en P "__dict__" 605 (.ref 332),en P "__weakref__" 607 (.ref 333),en P dc 608 .none] 4
def o331(P:Params):Obj:=⟨(.type "type"),none,(.cls ⟨"Machine",[(.type "object")],[(.ref 331),(.type "object")],330,"Machine",true,[],[],false,none,false⟩),Array.mk [none,none,(some (.str "Machine" 545)),(some (.str "Machine" 553)),(some (.builtin "object.__new__")),(some (.bool true))]⟩
def o332(P:Params):Obj:=⟨(.type "getset_descriptor"),none,(.fields (Array.mk [(.str "__dict__" 604),(.ref 331),(.builtin "function.__dict__"),(.builtin "function.__dict__#set")])),Array.mk []⟩
def o333(P:Params):Obj:=⟨(.type "getset_descriptor"),none,(.fields (Array.mk [(.str "__weakref__" 606),(.ref 331),(.builtin "ExceptionGroup.__weakref__"),.none])),Array.mk []⟩
def o339(P:Params):Obj:=cP "check_watches" 611 "check_watches" 612 613 164 1 3 336 181 (.ref 337) .none .none .none (.ref 338) 614 164 615
def XG(_:Params):=Ed "check_watches" (AQ 41) 339
def o346(_:Params):=cO "are_unlike" 617 618 619 169 1 3 341 181 342 343 344 345 621 169 622
def XF(_:Params):=Ed "are_unlike" (AQ 42) 346
noncomputable def o351(P:Params):Obj:=cP "check_rooms" 624 "check_rooms" 625 626 171 2 3 348 181 (.ref 349) .none .none .none (.ref 350) 627 171 628
def XD(_:Params):=Ed "check_rooms" (AQ 43) 351
def o358(_:Params):=cO "check_doors" 630 631 632 181 3 3 353 181 354 355 356 357 637 181 638
def XC(_:Params):=Ed "check_doors" (AQ 44) 358
def o363(P:Params):Obj:=cP "are_noughts" 640 "are_noughts" 641 642 193 2 3 360 181 (.ref 361) .none .none .none (.ref 362) 643 193 644
def XB(_:Params):=Ed "are_noughts" (AQ 45) 363
def o368(P:Params):Obj:=cP "placed" 646 "placed" 647 648 197 2 3 365 181 (.ref 366) .none .none .none (.ref 367) 649 197 650
def XA(_:Params):=Ed "placed" (AQ 46) 368
def o373(P:Params):Obj:=cP "nought" 654 "nought" 655 656 203 1 3 370 181 (.ref 371) .none .none .none (.ref 372) 657 203 658
def GB(a:Str)(s:Stmt)(c:Nat):=gO a s "zonewalk.zones" 652 c
def Wz(_:Params):=GB "nought" (AQ 48) 373
def o378(P:Params):Obj:=cP "everywhere" 660 "everywhere" 661 662 205 1 3 375 181 (.ref 376) .none .none .none (.ref 377) 663 205 664
def Wy(_:Params):=GB "everywhere" (AQ 49) 378
def o385(_:Params):=cO "free_bound" 666 667 668 207 2 3 380 181 381 382 383 384 671 207 672
def Wx(_:Params):=GB "free_bound" (AQ 50) 385
def o392(_:Params):=cO "lies_in" 674 675 676 211 2 3 387 181 388 389 390 391 684 211 685
def Ww(_:Params):=GB "lies_in" (AQ 51) 392
def o397(P:Params):Obj:=cP "narrowest" 687 "narrowest" 688 689 218 1 3 394 181 (.ref 395) .none .none .none (.ref 396) 690 218 691
def Wv(_:Params):=GB "narrowest" (AQ 52) 397
def o402(P:Params):Obj:=cP "is_broken" 693 "is_broken" 694 695 226 1 3 399 181 (.ref 400) .none .none .none (.ref 401) 696 226 697
def Wu(_:Params):=GB "is_broken" (AQ 53) 402
def o409(_:Params):=cO "row_over" 699 700 701 228 3 3 404 181 405 406 407 408 709 228 710
def Wt(_:Params):=GB "row_over" (AQ 54) 409
def o416(_:Params):=cO "within" 712 713 714 237 2 3 411 181 412 413 414 415 721 237 722
def Ws(_:Params):=GB "within" (AQ 55) 416
def o423(_:Params):=cO "is_wider" 724 725 726 243 2 3 418 181 419 420 421 422 729 243 730
def Wq(_:Params):=GB "is_wider" (AQ 56) 423
def o428(P:Params):Obj:=cP "holds" 734 "holds" 735 736 248 2 3 425 181 (.ref 426) .none .none .none (.ref 427) 737 248 738
def IZ(a:Str)(s:Stmt)(c:Nat):=gO a s "zonewalk.moves" 732 c
def Wp(_:Params):=IZ "holds" (AQ 58) 428
def o435(_:Params):=cO "met" 740 741 742 250 2 3 430 181 431 432 433 434 752 250 753
def Wo(_:Params):=IZ "met" (AQ 59) 435
def o440(P:Params):Obj:=cP "narrowed" 755 "narrowed" 756 757 258 4 3 437 181 (.ref 438) .none .none .none (.ref 439) 758 258 759
def Wn(_:Params):=IZ "narrowed" (AQ 60) 440
def o445(P:Params):Obj:=cP "copied" 761 "copied" 762 763 265 1 3 442 181 (.ref 443) .none .none .none (.ref 444) 764 265 765
def Wm(_:Params):=IZ "copied" (AQ 61) 445
def o452(_:Params):=cO "waited" 767 768 769 267 1 3 447 181 448 449 450 451 773 267 774
def Wl(_:Params):=IZ "waited" (AQ 62) 452
def o457(P:Params):Obj:=cP "put_back" 776 "put_back" 777 778 272 2 3 454 181 (.ref 455) .none .none .none (.ref 456) 779 272 780
def Wk(_:Params):=IZ "put_back" (AQ 63) 457
def o462(P:Params):Obj:=cP "placed_goal" 784 "placed_goal" 785 786 276 2 3 459 181 (.ref 460) .none .none .none (.ref 461) 787 276 788
def Yo(a:Str)(s:Stmt)(c:Nat):=gO a s "zonewalk.goals" 782 c
def Wj(_:Params):=Yo "placed_goal" (AQ 65) 462
def o469(_:Params):=cO "placed_mark" 790 791 792 281 3 3 464 181 465 466 467 468 796 281 797
def Wi(_:Params):=Yo "placed_mark" (AQ 66) 469
def o476(_:Params):=cO "placed_stays" 801 802 803 288 1 3 471 181 472 473 474 475 807 288 808
def QW(a:Str)(s:Stmt)(c:Nat):=gO a s "zonewalk.plans" 799 c
def Wh(_:Params):=QW "placed_stays" (AQ 68) 476
def o481(P:Params):Obj:=cP "nought_places" 810 "nought_places" 811 812 293 2 3 478 181 (.ref 479) .none .none .none (.ref 480) 813 293 814
def Wg(_:Params):=QW "nought_places" (AQ 69) 481
def o488(_:Params):=cO "doors_out" 816 817 818 295 1 3 483 181 484 485 486 487 825 295 826
def Wf(_:Params):=QW "doors_out" (AQ 70) 488
def o500(P:Params):Obj:=cP "__init__" 842 "Sheet.__init__" 843 844 307 3 3 497 181 (.ref 498) .none .none .none (.ref 499) 845 307 846
def We(_:Params):=fO "__init__" "Sheet.__init__" (Bm 72 0) .none "zonewalk.papers" 828 500 .none
def o505(P:Params):Obj:=cP "holds_start" 848 "Sheet.holds_start" 849 850 316 1 3 502 181 (.ref 503) .none .none .none (.ref 504) 851 316 852
def Wd(_:Params):=fO "holds_start" "Sheet.holds_start" (Bm 72 1) .none "zonewalk.papers" 828 505 .none
def o512(P:Params):Obj:=cP "holds_within" 854 "Sheet.holds_within" 855 856 321 3 3 507 181 (.ref 508) .none (.ref 509) (.ref 510) (.ref 511) 861 321 862
def Wc(_:Params):=fO "holds_within" "Sheet.holds_within" (Bm 72 2) .none "zonewalk.papers" 828 512 .none
def o519(P:Params):Obj:=cP "holds_wait" 864 "Sheet.holds_wait" 865 866 329 3 3 514 181 (.ref 515) .none (.ref 516) (.ref 517) (.ref 518) 870 329 871
def Wb(_:Params):=fO "holds_wait" "Sheet.holds_wait" (Bm 72 3) .none "zonewalk.papers" 828 519 .none
def o526(P:Params):Obj:=cP "holds_way" 873 "Sheet.holds_way" 874 875 332 3 3 521 181 (.ref 522) .none (.ref 523) (.ref 524) (.ref 525) 881 332 882
def Wa(_:Params):=fO "holds_way" "Sheet.holds_way" (Bm 72 4) .none "zonewalk.papers" 828 526 .none
def o531(P:Params):Obj:=cP "holds_room" 884 "Sheet.holds_room" 885 886 339 2 3 528 181 (.ref 529) .none .none .none (.ref 530) 887 339 888
def W9(_:Params):=fO "holds_room" "Sheet.holds_room" (Bm 72 5) .none "zonewalk.papers" 828 531 .none
def o536(P:Params):Obj:=cP "keeps_off" 890 "Sheet.keeps_off" 891 892 347 3 3 533 181 (.ref 534) .none .none .none (.ref 535) 893 347 894
def W8(_:Params):=fO "keeps_off" "Sheet.keeps_off" (Bm 72 6) .none "zonewalk.papers" 828 536 .none
def o538(P:Params):Obj:=tO [(.str "first_room" 896),(.str "first_values" 897),(.str "stays" 898),(.str "ways" 899),(.str "zones" 900)]
def o539(P:Params):Obj:=dO [en P md 837 (.str "zonewalk.papers" 828),en P fl 841 (.int 305 840),en P "__init__" 847 (.ref 501),en P "holds_start" 853 (.ref 506),en P "holds_within" 863 (.ref 513),en P "holds_wait" 872 (.ref 520),en P "holds_way" 883 (.ref 527),en P "holds_room" 889 (.ref 532),en P "keeps_off" 895 (.ref 537),en P sa 901 (.ref 538),en P "__dict__" 903 (.ref 541),en P "__weakref__" 905 (.ref 542),en P dc 906 .none] 4
def o540(P:Params):Obj:=⟨(.type "type"),none,(.cls ⟨"Sheet",[(.type "object")],[(.ref 540),(.type "object")],539,"Sheet",true,[],[],false,none,false⟩),Array.mk [none,none,(some (.str "Sheet" 830)),(some (.str "Sheet" 838)),(some (.builtin "object.__new__")),(some (.bool true))]⟩
def o541(P:Params):Obj:=⟨(.type "getset_descriptor"),none,(.fields (Array.mk [(.str "__dict__" 902),(.ref 540),(.builtin "function.__dict__"),(.builtin "function.__dict__#set")])),Array.mk []⟩
def o542(P:Params):Obj:=⟨(.type "getset_descriptor"),none,(.fields (Array.mk [(.str "__weakref__" 904),(.ref 540),(.builtin "ExceptionGroup.__weakref__"),.none])),Array.mk []⟩
def o548(P:Params):Obj:=cP "narrow_zones_of" 909 "narrow_zones_of" 910 911 349 2 3 545 181 (.ref 546) .none .none .none (.ref 547) 912 349 913
def Yn(a:Str)(s:Stmt)(c:Nat):=gO a s "zonewalk.papers" 828 c
def W7(_:Params):=Yn "narrow_zones_of" (AQ 73) 548
def o553(P:Params):Obj:=cP "lets_by" 915 "lets_by" 916 917 352 3 3 550 181 (.ref 551) .none .none .none (.ref 552) 918 352 919
def W6(_:Params):=Yn "lets_by" (AQ 74) 553
def o560(_:Params):=cO "_law_cell_at" 923 924 925 362 2 3 555 181 556 557 558 559 928 362 929
def Ee(a:Str)(s:Stmt)(c:Nat):=gO a s "law_zonewalk_k61_papers_looked_at" 921 c
def W5(_:Params):=Ee "_law_cell_at" (AQ 76) 560
def o567(_:Params):=cO "_law_stream" 931 932 933 366 2 3 562 181 563 564 565 566 940 366 941
def W4(_:Params):=Ee "_law_stream" (AQ 77) 567
def o574(_:Params):=cO "_law_looks" 943 944 945 379 5 3 569 181 570 571 572 573 954 379 955
def W0(_:Params):=Ee "_law_looks" (AQ 78) 574
def o579(P:Params):Obj:=cP "_law_parts" 957 "_law_parts" 958 959 386 3 3 576 181 (.ref 577) .none .none .none (.ref 578) 960 386 961
def WZ(_:Params):=Ee "_law_parts" (AQ 79) 579
def o584(P:Params):Obj:=cP "_law_by_places" 963 "_law_by_places" 964 965 405 2 3 581 181 (.ref 582) .none .none .none (.ref 583) 966 405 967
def WX(_:Params):=Ee "_law_by_places" (AQ 80) 584
def o591(_:Params):=cO "_law_stayed" 969 970 971 407 4 3 586 181 587 588 589 590 978 407 979
def WW(_:Params):=Ee "_law_stayed" (AQ 81) 591
def o596(P:Params):Obj:=cP "_law_behind" 981 "_law_behind" 982 983 412 4 3 593 181 (.ref 594) .none .none .none (.ref 595) 984 412 985
def WV(_:Params):=Ee "_law_behind" (AQ 82) 596
def o601(P:Params):Obj:=cP "_law_drawn_zone" 987 "_law_drawn_zone" 988 989 418 3 3 598 181 (.ref 599) .none .none .none (.ref 600) 990 418 991
def WU(_:Params):=Ee "_law_drawn_zone" (AQ 83) 601
def o608(_:Params):=cO "_law_paper" 993 994 995 426 5 3 603 181 604 605 606 607 1010 426 1011
def WT(_:Params):=Ee "_law_paper" (AQ 84) 608
def o613(P:Params):Obj:=cP "_law_covered" 1013 "_law_covered" 1014 1015 454 2 3 610 181 (.ref 611) .none .none .none (.ref 612) 1016 454 1017
def WR(_:Params):=Ee "_law_covered" (AQ 85) 613
def o618(P:Params):Obj:=cP "_law_due" 1019 "_law_due" 1020 1021 456 3 3 615 181 (.ref 616) .none .none .none (.ref 617) 1022 456 1023
def WQ(_:Params):=Ee "_law_due" (AQ 86) 618
def o623(P:Params):Obj:=cP "law" 1025 "law" 1026 1027 479 1 3 620 181 (.ref 621) .none .none .none (.ref 622) 1028 479 1029
def WO(_:Params):=Ee "law" (AQ 87) 623
noncomputable def Zp:List Addr:=[2,3,15,22,23,24,25,28,35,36,37,40,47,48,49,52,59,60,61,64,71,72,73,76,83,84,85,93,94,100,101,102,108,109,115,116,122,123,129,130,136,137,143,144,150,151,157,158,164,165,171,172,173,174,180,181,187,188,192,193,199,200,206,207,213,214,218,219,225,226,230,231,237,238,244,245,253,259,260,266,267,273,274,275,276,277,278,279,292,293,299,300,306,307,313,314,320,321,327,328,329,330,331,332,333,339,340,346,347,351,352,358,359,363,364,368,369,373,374,378,379,385,386,392,393,397,398,402,403,409,410,416,417,423,424,428,429,435,436,440,441,445,446,452,453,457,458,462,463,469,470,476,477,481,482,488,489,500,501,505,506,512,513,519,520,526,527,531,532,536,537,538,539,540,541,542,548,549,553,554,560,561,567,568,574,575,579,580,584,585,591,592,596,597,601,602,608,609,613,614,618,619,623,624]
def Ib(P:Params):Frag:=Zp.zipWith (λa o=>(a,o P)) [o2,o3,o15,o22,o23,o24,o25,o28,o35,o36,o37,o40,o47,o48,o49,o52,o59,o60,o61,o64,o71,o72,o73,o76,o83,o84,o85,o93,WN,o100,Xj,Xi,o108,Xh,o115,Xg,o122,Xf,o129,Xe,o136,Xd,o143,Xc,o150,Xb,o157,Xa,o164,X9,o171,X8,X7,X6,o180,X5,o187,X4,o192,X3,o199,X2,o206,X1,o213,X0,o218,XZ,o225,XY,o230,XX,o237,XW,o244,XU,XT,o259,XS,o266,XR,o273,XQ,o275,o276,o277,o278,o279,o292,XO,o299,XN,o306,XM,o313,XJ,o320,XI,o327,XH,o329,o330,o331,o332,o333,o339,XG,o346,XF,o351,XD,o358,XC,o363,XB,o368,XA,o373,Wz,o378,Wy,o385,Wx,o392,Ww,o397,Wv,o402,Wu,o409,Wt,o416,Ws,o423,Wq,o428,Wp,o435,Wo,o440,Wn,o445,Wm,o452,Wl,o457,Wk,o462,Wj,o469,Wi,o476,Wh,o481,Wg,o488,Wf,o500,We,o505,Wd,o512,Wc,o519,Wb,o526,Wa,o531,W9,o536,W8,o538,o539,o540,o541,o542,o548,W7,o553,W6,o560,W5,o567,W4,o574,W0,o579,WZ,o584,WX,o591,WW,o596,WV,o601,WU,o608,WT,o613,WR,o618,WQ,o623,WO]
def vq:Program:={ pw with main:={ (pw).main with body:=[AQ 87] } }
noncomputable def loo:List Str:=["WalkError","NoNumber","BadMachine","TooMany","NoMark","NoRoom","is_whole","greatest_divisor","fraction","minus","under","at_most","below","number_of","is_open","added","narrower","lets","WORDS","STAY_WORDS","is_look","is_number","is_guard","stands_so","look_bounds","MOST_WATCHES","MOST_ROOMS","MOST_DOORS","is_small_letter","is_name","is_watch_name","is_room_name","is_sign","own_copy","Door","Machine","check_watches","are_unlike","check_rooms","check_doors","are_noughts","placed","nought","everywhere","free_bound","lies_in","narrowest","is_broken","row_over","within","is_wider","holds","met","narrowed","copied","waited","put_back","placed_goal","placed_mark","placed_stays","nought_places","doors_out","Sheet","narrow_zones_of","lets_by","_law_cell_at","_law_stream","_law_looks","_law_parts","_law_by_places","_law_stayed","_law_behind","_law_drawn_zone","_law_paper","_law_covered","_law_due"].map Str.ofString
abbrev hk:Hook:=kHook Ib Zp (λ_=>by ext)
theorem zmc(w:World)(os:OsState):(go pw 4403 w os).map (λs=>LF pw vq loo (xt Ny.row.toRowW vq) hk.obs (boot_heap w.params) s.abs)=some (true,openGood vq loo,hk.val w):=by ext
theorem left:LeftO pw vq loo (xt Ny.row.toRowW vq) hk.obs hk.val 9386 true:=zkr 9386 4403 (by ext) (by decide) (λs=>by ext) (by decide) zmc
theorem said:Ny.wellSaid=true:=zjb (by ext)
abbrev fr(w:World):Frag:=Ib w.params
noncomputable def ca:Str->Value:=λc=>if c="BadMachine" then .ref 49 else if c="TooMany" then .ref 61 else if c="NoMark" then .ref 73 else if c="NoNumber" then .ref 37 else if c="NoRoom" then .ref 85 else if c="WalkError" then .ref 24 else .none
section
variable {w:World}{mg:Str->Option Value}{base:Heap} [q:Qx pw w (fr w) mg base ca]
theorem Gb:Cls (fr w) B7:=⟨by ext,by ext,by ext,by ext⟩
theorem J7:∀f∈Bf,Bv (fr w) B7 f:=(Au (by unfold Bv;ext) (Au (by unfold Bv;ext) (Au (by unfold Bv;ext) (Au (by unfold Bv;ext) (Au (by unfold Bv;ext) BO)))))
theorem Du:Cls (fr w) Ao:=⟨by ext,by ext,by ext,by ext⟩
theorem Fq:∀f∈Aq,Bv (fr w) Ao f:=(Au (by unfold Bv;ext) (Au (by unfold Bv;ext) (Au (by unfold Bv;ext) BO)))
theorem Dh:Cls (fr w) Ah:=⟨by ext,by ext,by ext,by ext⟩
theorem Fp:∀f∈Ai,Bv (fr w) Ah f:=(Au (by unfold Bv;ext) (Au (by unfold Bv;ext) (Au (by unfold Bv;ext) (Au (by unfold Bv;ext) (Au (by unfold Bv;ext) BO)))))
theorem yg:specialIn (fr w) (.builtin "object.__class__") "__get__"=some (some (.builtin "getset_descriptor.__get__"))/\takesIn (fr w) (.builtin "object.__class__")=some true:=⟨by ext,by ext⟩
include q
def zck:ECls (fr w) mg "BadMachine":=Jv yg 49 (q.c _ _ (by ext)) (by ext)
theorem Sb:∃T:ECls (fr w) mg "BadMachine",ca "BadMachine"=.ref T.C/\D0 (fr w) T.C=some none:=⟨zck,by rfl,by ext⟩
def zf5:ECls (fr w) mg "TooMany":=Jv yg 61 (q.c _ _ (by ext)) (by ext)
theorem zgt:∃T:ECls (fr w) mg "TooMany",ca "TooMany"=.ref T.C/\D0 (fr w) T.C=some none:=⟨zf5,by rfl,by ext⟩
def zgv:ECls (fr w) mg "NoMark":=Jv yg 73 (q.c _ _ (by ext)) (by ext)
theorem Sa:∃T:ECls (fr w) mg "NoMark",ca "NoMark"=.ref T.C/\D0 (fr w) T.C=some none:=⟨zgv,by rfl,by ext⟩
def ze6:ECls (fr w) mg "NoNumber":=Jv yg 37 (q.c _ _ (by ext)) (by ext)
theorem zf4:∃T:ECls (fr w) mg "NoNumber",ca "NoNumber"=.ref T.C/\D0 (fr w) T.C=some none:=⟨ze6,by rfl,by ext⟩
def zgu:ECls (fr w) mg "NoRoom":=Jv yg 85 (q.c _ _ (by ext)) (by ext)
theorem zis:∃T:ECls (fr w) mg "NoRoom",ca "NoRoom"=.ref T.C/\D0 (fr w) T.C=some none:=⟨zgu,by rfl,by ext⟩
def D1:=Ar W5 561 ze5 (As Ac Ab)
def D2:=Ar X0 214 zaq (As Ac Ab)
def D3:=Ar XZ 219 zex (As (AW D2 Ac) Ab)
def D4:=Ar XY 226 zb4 (As (AW D3 Ac) Ab)
def D5:=Ar XX 231 zbj (As (AW D2 Ac) Ab)
def D6:=Ar WN 94 ze1 (As Ac Ab)
def D7:=Ar X4 188 zd6 (As (AW D6 Ac) Ab)
def D8:=Ar X5 181 zey (As (AW D7 Ac) Ab)
def D9:=Ar X3 193 ze2 (As (AW D8 Ac) Ab)
def Si:=Ar XF 347 zcg (As Ac Ab)
theorem zbh:∃u v,mg "MOST_WATCHES"=some u/\Af v u/\∀F:Hp,Rp (fr w) F F Lr v R0:=⟨(.int (7) 447),(.int 7),q.c _ _ (by ext),⟨_,rfl⟩,λF=>.int _⟩
def D11:=Ar XG 340 zb5 (As (AW D4 (AW Si Ac)) (Ab (co:=(EY zbh DP))) (hex:=(Au Sb BO)))
theorem zcb:∃u v,mg "STAY_WORDS"=some u/\Af v u/\∀F:Hp,Rp (fr w) F F Lq v R0:=⟨_,.ref 174,q.c _ (.ref 174) (by ext),rfl,λF=>Aw.of_node (k:=.rt) (xs:=[.str "<",.str "<="]) (.inr ⟨X6 w.params,_,_,by ext,rfl,rfl,by decide,(.cons ⟨_,rfl⟩ (.cons ⟨_,rfl⟩ .nil))⟩) (OC ["<","<="])⟩
def D12:=Ar XD 352 zbz (As (AW D5 (AW D9 (AW Si Ac))) (Ab (co:=(EY zcb DP))) (hex:=(Au Sb BO)))
def D13:=Ar XB 364 zc1 (As (AW D4 (AW Si Ac)) Ab)
def D14:=Ar XW 238 zev (As (AW D3 Ac) Ab)
def D15:=Ar XU 245 zdx (As Ac Ab)
theorem aL:∃u v,mg "WORDS"=some u/\Af v u/\∀F:Hp,Rp (fr w) F F IS v R0:=⟨_,.ref 173,q.c _ (.ref 173) (by ext),rfl,λF=>Aw.of_node (k:=.rt) (xs:=[.str "<",.str "<=",.str ">",.str ">=",.str "="]) (.inr ⟨X7 w.params,_,_,by ext,rfl,rfl,by decide,(.cons ⟨_,rfl⟩ (.cons ⟨_,rfl⟩ (.cons ⟨_,rfl⟩ (.cons ⟨_,rfl⟩ (.cons ⟨_,rfl⟩ .nil)))))⟩) (OC ["<","<=",">",">=","="])⟩
def D16:=Ar XC 359 zc0 (As (AW D9 (AW D13 (AW D14 Ac))) (Ab (co:=(EY aL DP)) (cl:=(Au ⟨Gb,J7⟩ BO)) (ci:=(EY ⟨277,q.c _ _ (by ext),(EY ⟨⟨Gb,by ext,by ext,by ext,by ext⟩,by ext⟩ (EY ⟨⟨Du,by ext,by ext,by ext,by ext⟩,by ext⟩ (EY ⟨⟨Dh,by ext,by ext,by ext,by ext⟩,by ext⟩ DP))),by ext⟩ DP))) (hex:=(Au Sb BO)))
def cF:=Qu "Door" B7 Bf XS 260 zda (SE (AW D15 Ac) (Ab (sf:=(λC fs h=>by cases h;exact⟨Gb,J7⟩))))
theorem E17:CO (fr w) (cF (w:=w) (mg:=mg) (base:=base)).fd Qn.ps []:=λs us X hl=>N3 (P:=λus=>BindsTo s _ ⟨us,[]⟩ (List.zip _ (us++_))) (λ_ _ _ _ _ _=>binds_K X rfl (show(fr w).lookup 253=some (XT w.params) by ext) rfl rfl rfl) us (by simpa using hl)
theorem zcc:∃u v,mg "MOST_ROOMS"=some u/\Af v u/\∀F:Hp,Rp (fr w) F F Ls v R0:=⟨(.int (64) 449),(.int 64),q.c _ _ (by ext),⟨_,rfl⟩,λF=>.int _⟩
theorem zcd:∃u v,mg "MOST_DOORS"=some u/\Af v u/\∀F:Hp,Rp (fr w) F F Lu v R0:=⟨(.int (200) 451),(.int 200),q.c _ _ (by ext),⟨_,rfl⟩,λF=>.int _⟩
def cE:=Qu "Machine" Ao Aq XO 293 zbl (SE (AW D11 (AW D12 (AW D16 Ac))) (Ab (co:=(EY zcc (EY zcd DP))) (sf:=(λC fs h=>by cases h;exact⟨Du,Fq⟩))) (hex:=(Au zgt BO)))
theorem E18:CO (fr w) (cE (w:=w) (mg:=mg) (base:=base)).fd Qk.ps []:=.all (N4 λ_ _ _ _=>rfl)
def cD:=E2 XN 300 zat Du (E4 Ac (Ab (cl:=(Au ⟨Du,Fq⟩ BO))))
def K9:=E2 XM 307 zb6 Du (E4 Ac (Ab (cl:=(Au ⟨Du,Fq⟩ (Au ⟨Dh,Fp⟩ BO)))))
def D21:=E2 XJ 314 zb7 Du (E4 Ac (Ab (cl:=(Au ⟨Du,Fq⟩ BO))))
def D22:=E2 XI 321 zbk Du (E4 Ac (Ab (cl:=(Au ⟨Du,Fq⟩ (Au ⟨Dh,Fp⟩ BO)))))
def D23:=E2 XR 267 zdb Gb (E4 Ac (Ab (cl:=(Au ⟨Gb,J7⟩ BO))))
def D24:=E2 XQ 274 zd9 Gb (E4 Ac (Ab (cl:=(Au ⟨Gb,J7⟩ BO))))
def cC:=E2 XH 328 za2 Du (E4 Ac (Ab (cl:=(Au ⟨Du,Fq⟩ BO))))
def Sh:=Ar XA 369 zgc (As (AW D9 Ac) (Ab (co:=(EY aL DP)) (mt:=(Au ⟨by decide,⟨cD⟩⟩ (Au ⟨by decide,⟨cC⟩⟩ BO)))) (hex:=(Au Sa BO)))
def D27:=Ar Wi 470 zbw (As (AW Sh Ac) Ab (hex:=(Au Sa BO)))
def D28:=Ar Wj 463 zbx (As (AW D27 Ac) (Ab (mt:=(Au ⟨by decide,⟨K9⟩⟩ BO))) (hex:=(Au Sa BO)))
def JM:=Ar Xe 130 zez (As Ac Ab)
def cB:=Ar Xd 137 zii (As Ac Ab)
def cA:=Ar Xc 144 zd4 (As Ac Ab)
def b9:=Ar Xb 151 zew (As Ac Ab)
def D33:=Ar Xa 158 zij (As (AW cA (AW b9 (AW cB (AW JM Ac)))) Ab)
def D34:=Ar X9 165 zdy (As Ac Ab)
def b7:=Ar Wx 386 zce (As (AW JM Ac) Ab)
def b5:=Ar Wt 410 zdv (As Ac Ab)
def D37:=Ar Wu 403 zd7 (As (AW JM Ac) Ab)
def Sg:=Ar Wv 398 zd5 (As (AW D34 (AW b7 (AW D37 (AW b5 Ac)))) Ab)
def b4:=Ar Wy 379 zcf (As (AW b7 Ac) Ab)
def bZ:=Ar Wq 424 ze0 (As Ac Ab)
def bY:=Ar Ws 417 zga (As (AW bZ Ac) Ab)
def D42:=Ar X1 207 zby (As (AW cB (AW JM Ac)) Ab)
def bX:=Ar Wk 458 zdw (As Ac Ab)
def bW:=Ar Wm 446 zge (As Ac Ab)
def Sf:=Ar Wl 453 zgb (As (AW bW Ac) Ab)
def D46:=Ar Wn 441 zdz (As (AW bZ (AW D33 (AW JM (AW b5 Ac)))) Ab)
def JL:=Ar Wo 436 zow (As (AW bW (AW D42 (AW D46 Ac))) Ab)
def D48:=Ar Wg 482 zb3 (As Ac (Ab (mt:=(Au ⟨by decide,⟨D24⟩⟩ (Au ⟨by decide,⟨cC⟩⟩ BO)))))
def D49:=Ar Wh 477 zbi (As (AW Sh Ac) (Ab (mt:=(Au ⟨by decide,⟨K9⟩⟩ (Au ⟨by decide,⟨D22⟩⟩ BO)))))
def D50:=Ar Wf 489 zd8 (As (AW Sh (AW D48 Ac)) (Ab (cl:=(Au ⟨Gb,J7⟩ BO)) (mt:=(Au ⟨by decide,⟨K9⟩⟩ (Au ⟨by decide,⟨D21⟩⟩ (Au ⟨by decide,⟨D23⟩⟩ BO))))))
def bV:=Ar Xf 123 zif (As Ac Ab)
def D52:=Ar Xj 101 zae (As Ac Ab)
def D53:=Ar Xh 109 ze3 (As (AW D6 (AW D52 Ac)) Ab (hex:=(Au zf4 BO)) (b:=λs us X hl=>N6 (P:=λus=>BindsTo s _ ⟨us,[]⟩ (List.zip _ (us++_))) (λ_ _=>binds_K X rfl (show(fr w).lookup 102=some (Xi w.params) by ext) rfl rfl rfl) us (by simpa using hl)))
def D54:=Ar Xg 116 zig (As (AW D53 Ac) Ab)
def D55:=Ar X8 172 zlb (As (AW cA (AW b9 (AW bV Ac))) Ab)
def D56:=Ar Ww 393 zet (As (AW D55 (AW D54 Ac)) Ab)
def D57:=Ar X2 200 zd3 (As (AW bV Ac) Ab)
def D58:=Ar Wp 429 zih (As (AW D57 Ac) Ab)
def D59:=Ar W7 549 zap (As (AW Sg Ac) Ab)
def bU:=Qu "Sheet" Ah Ai We 501 zch (SE (AW D49 (AW D50 (AW D59 Ac))) (Ab (mt:=(Au ⟨by decide,⟨K9⟩⟩ (Au ⟨by decide,⟨cD⟩⟩ BO))) (sf:=(λC fs h=>by cases h;exact⟨Dh,Fp⟩))))
theorem E60:CO (fr w) (bU (w:=w) (mg:=mg) (base:=base)).fd Qg.ps []:=.all (N5 λ_ _ _=>rfl)
def D61:=E2 Wd 506 za8 Dh (E4 (AW D58 (AW D56 Ac)) (Ab (cl:=(Au ⟨Du,Fq⟩ (Au ⟨Dh,Fp⟩ BO)))))
def bS:=E2 Wc 513 za5 Dh (E4 (AW bY Ac) (Ab (cl:=(Au ⟨Dh,Fp⟩ BO))))
def D63:=E2 Wb 520 zaf Dh (E4 (AW JL (AW Sf Ac)) (Ab (cl:=(Au ⟨Du,Fq⟩ (Au ⟨Dh,Fp⟩ BO))) (mt:=(Au ⟨by decide,⟨bS⟩⟩ BO))))
def D64:=E2 Wa 527 zas Dh (E4 (AW JL (AW bX Ac)) (Ab (cl:=(Au ⟨Du,Fq⟩ (Au ⟨Dh,Fp⟩ BO))) (mt:=(Au ⟨by decide,⟨bS⟩⟩ BO))))
def D65:=E2 W9 532 zag Dh (E4 Ac (Ab (cl:=(Au ⟨Dh,Fp⟩ BO)) (mt:=(Au ⟨by decide,⟨D63⟩⟩ (Au ⟨by decide,⟨D64⟩⟩ BO)))))
def D66:=E2 W8 537 zar Dh (E4 (AW JL Ac) (Ab (cl:=(Au ⟨Dh,Fp⟩ BO))))
def D67:=Ar W6 554 zeu (As (AW D28 Ac) (Ab (mt:=(Au ⟨by decide,⟨K9⟩⟩ (Au ⟨by decide,⟨D61⟩⟩ (Au ⟨by decide,⟨D66⟩⟩ (Au ⟨by decide,⟨D65⟩⟩ BO))))) (nw:=(OT ⟨by decide,Ah,bU,(EY ⟨[],[],E60,.nil,λ_=>.nil⟩ DP)⟩ OS))) (hex:=(Au zis BO)))
def bR:=Ar Wz 374 zgd (As (AW JM Ac) Ab)
def bQ:=Ar W4 568 zf0 (As Ac Ab)
def D70:=Ar W0 575 zgh (As Ac Ab)
def D71:=Ar WZ 580 zgf (As (AW D1 (AW bQ (AW D70 Ac))) Ab)
def Se:=Ar WX 585 zci (As Ac Ab)
def Sd:=Ar WW 592 zf1 (As (AW JL (AW Se Ac)) Ab)
def D74:=Ar WU 602 zc2 (As (AW b4 Ac) Ab)
def bP:=Ar WV 597 zf2 (As (AW JL (AW Se (AW Sd (AW bX Ac)))) Ab)
def D76:=Ar WT 609 zgg (As (AW Sd (AW bR (AW Sf (AW D1 (AW bQ (AW b4 (AW D74 (AW Sg (AW bP Ac))))))))) Ab)
def D77:=Ar WR 614 ze4 (As (AW bY Ac) Ab)
def D78:=Ar WQ 619 zlc (As (AW Sg (AW D77 (AW Sd (AW bR (AW Sf (AW bP (AW JL (AW Se Ac)))))))) Ab)
def D79:=Ar WO 624 zox (As (AW D1 (AW D71 (AW D76 (AW D78 (AW D67 Ac))))) (Ab (nw:=(OT ⟨by decide,B7,cF,(EY ⟨[],[],E17,.nil,λ_=>.nil⟩ DP)⟩ (OT ⟨by decide,Ao,cE,(EY ⟨[],[],E18,.nil,λ_=>.nil⟩ DP)⟩ OS)))))
end
theorem all_mk{w:World}{h:Heap}{mg:Str->Option Value}{fa:Addr}(X:(Ib w.params).In h)(G:h.Ns mainGlobals mg)(hfa:mg "law"=some (.ref fa))
  : ∃fd:FuncData,(∀(s:Shared) (v:Value),BindsTo s fd ⟨[v],[]⟩ [("_law_script",v)])/\∀base:Heap,(Ib w.params).In base->base.Ns mainGlobals mg->FnOk pw w (Ib w.params) mg base FL 10 fa fd ["_law_script"] (LB (Ib w.params)):=by
 have e:=hfa.symm.trans (mg_of X G (show nsIn (fr w) mainGlobals "law"=some (some (.ref 624)) by ext))
 cases e;refine⟨gF "law" "law" Nt .none "law_zonewalk_k61_papers_looked_at" 921 623 .none,λs v=>.of_eq rfl,λbase _ _=>?_⟩
 have q:Qx pw w (fr w) mg base ca:=⟨λ_ _ e=>mg_of X G e,λ_ e=>mg_none_of X G e⟩
 exact zo3 (D79 (mg:=mg)).ok λns h=>law_true ns h
theorem walk{l:PySem.W.OpenLaw}{q:Program}{loose:List Str}{XP:(Str->Option Value)->Heap->Prop}{YP:World->Heap->Prop}{d:DefRec}{K:Params->k6}(hn:l.most=some 63)(hdf:d.params.defaults=[])
  (hY:∀(w:World) (h:Heap),YP w h->(K w.params).In h)
  (F : ∀ (w : World) (mg : Str -> Option Value) (fa : Addr) (h : Heap), (K w.params).In h -> h.Ns mainGlobals mg -> mg d.name = some (.ref fa) ->
   ∃fd:FuncData,(∀(s:Shared) (u:Value),BindsTo s fd ⟨[u],[]⟩ [("_law_script",u)])/\∀base:Heap,(K w.params).In base->base.Ns mainGlobals mg->FnOk l.prog w (K w.params) mg base FL 10 fa fd ["_law_script"] (LB (K w.params))) :
  PySem.W.WalkO q loose XP YP l.row.toRowW d [] (λf vs=>PySem.call f vs) :=
 L2.walk_of (n:=63) (k:=10) (x:="_law_script") (CX:=λ_=>FL) (sp:=λw=>LB (K w.params)) hn (by decide) hdf ⟨rfl,by decide,by decide⟩ hY F (λ_ _ a ns hl hO hS=>⟨a,ns,rfl,Hg.of hO hS,hl,λ_=>rfl⟩) λ_ _ _ _ _ z=>z
end Zl
open PySem PySem.W PyProof.Rows
set_option maxRecDepth 100000 in
set_option maxHeartbeats 0 in
theorem PySem.Challenge.cw_zonewalk_k61_papers_looked_at_holds : PySem.Challenge.rw_zonewalk_k61_papers_looked_at.Holds := by
 refine holds_law Zl.said λs=>?_
 refine holds_open (q:=Zl.vq) (loose:=Zl.loo) (Xt:=Hd.xt PySem.Challenge.rw_zonewalk_k61_papers_looked_at.row.toRowW Zl.vq) (XP:=XL Zl.vq []) (Yf:=Zl.hk.obs) (Ya:=Zl.hk.val) (YP:=Zl.hk.says) Zl.left Zl.hk.of Zl.hk.keeps (λs e=>xl_of s (Bool.and_eq_true_iff.mp e).1) XL.keeps (by rfl) (by rfl) (by rfl) (λs e=>recFacts_of (Bool.and_eq_true_iff.mp e).2) (by rfl) s (by decide +kernel) ⟨rfl,rfl,rfl,rfl,rfl,by decide +kernel⟩ ?hw ?hc
 case hw=>w_witness2
 case hc=>exact Zl.walk (l:=PySem.Challenge.rw_zonewalk_k61_papers_looked_at) rfl rfl (λw h Y=>kIn_of Y) λw mg fa h X G e=>Zl.all_mk X G e
end
